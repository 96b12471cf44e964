import Derived.Test.YtmejahdlkaifoaaGreatDoorDQ7
set_option linter.unusedSimpArgs false
set_option linter.unusedVariables false
namespace Go.Ev
open Go.RowKit Go.Proofs
set_option maxRecDepth 100000
set_option maxHeartbeats 8000000
set_option linter.unusedSimpArgs false
noncomputable section
theorem awP {s:St}{t:Pl}{m:Mv}(n:Nat) (hv:vEv t.e) (hw:(m.o,m.h)∈[(false,[98]),(false,[97]),(false,[115]),(false,[112]),(false,[107]),(false,[116]),(false,[111]),(true,[102]),(true,[103]),(true,[100]),(true,[110])]) (h4:m.f=1∨m.f=2∨m.f=3)
  (has:Bool) (b:Mv) (bc bk g1 g2 g3:Bool) (q25:Sz25 (s,())=some (true,g1,g2,g3,())) (i1:has=true→fN ((⟨b.f,b.t,b.o,b.h,b.b⟩:Mv),true,[99],())=some bc) (i2:has=true→fN ((⟨b.f,b.t,b.o,b.h,b.b⟩:Mv),true,[99,107],())=some bk) (i3:has=false→bc=false∧bk=false) :
   (cond (decide (t.e=[72])) (vA s t m (n+5) (.k9 has b.f b.t b.o b.h b.b true)) (cond (decide (t.e=[73])) (vA s t m (n+5) (.k9 has b.f b.t b.o b.h b.b true)) (vA s t m (n+5) (.k9 has b.f b.t b.o b.h b.b (decide (t.e=[78])))))) =
   some (wayB t.e t.p (fcdB g1 g2 g3 m.f) bc bk m):=by
 obtain⟨p,ev,lt,l⟩:=t
 obtain⟨f,tt,o,hh,bb⟩:=m
 dsimp only at hw h4 hv ⊢
 have hev:ev=[]∨ev=[75]∨ev=[87]∨ev=[72]∨ev=[73]∨ev=[88]∨ev=[78]∨ev=[89]:=by
  rcases hv with rfl|⟨x,hx,rfl⟩
  · exact .inl rfl
  · simp only [List.mem_cons,List.not_mem_nil,or_false]at hx
    rcases hx with rfl|rfl|rfl|rfl|rfl|rfl|rfl<;>simp
 clear hv
 simp only [List.mem_cons,List.not_mem_nil,or_false,Prod.mk.injEq]at hw
 cases has with
 | false=>
   obtain⟨rfl,rfl⟩:=i3 rfl
   clear i1 i2 i3
   rcases hev with rfl|rfl|rfl|rfl|rfl|rfl|rfl|rfl<;>rcases h4 with rfl|rfl|rfl<;>simp [Ez202J_s,Tz202J,TS,w6,q25,obind_some] <;>
    rcases hw with⟨rfl,rfl⟩ | ⟨rfl,rfl⟩ | ⟨rfl,rfl⟩ | ⟨rfl,rfl⟩ | ⟨rfl,rfl⟩ | ⟨rfl,rfl⟩ | ⟨rfl,rfl⟩ | ⟨rfl,rfl⟩ | ⟨rfl,rfl⟩ | ⟨rfl,rfl⟩ | ⟨rfl,rfl⟩<;>first|(simp [wayB,fcdB];done)|(simp [wayB,fcdB];cases g1<;>cases g2<;>cases g3<;>rfl)
 | true=>
   have i1:=i1 rfl
   have i2:=i2 rfl
   clear i3
   rcases hev with rfl|rfl|rfl|rfl|rfl|rfl|rfl|rfl<;>rcases h4 with rfl|rfl|rfl<;>simp [Ez202J_s,Tz202J,TS,w6,q25,i1,i2,obind_some] <;>
    rcases hw with⟨rfl,rfl⟩ | ⟨rfl,rfl⟩ | ⟨rfl,rfl⟩ | ⟨rfl,rfl⟩ | ⟨rfl,rfl⟩ | ⟨rfl,rfl⟩ | ⟨rfl,rfl⟩ | ⟨rfl,rfl⟩ | ⟨rfl,rfl⟩ | ⟨rfl,rfl⟩ | ⟨rfl,rfl⟩<;>first|(simp [wayB,fcdB];done)|(simp [wayB,fcdB];cases g1<;>cases g2<;>cases g3<;>cases bc<;>cases bk<;>rfl)
theorem s202 {s:St}{t:Pl}{m:Mv}(h:aB t.m=0) (hv:vEv t.e) (hm:mvE m=0) (hf:¬m.f=0) :
  bq5 (s,t,m,())=some (wayB t.e t.p (fcdB (!(s.b1==0)) (!(s.b1==0)&&!(s.b2==0)) (!(s.b1==0)&&(!(s.b2==0)&&!(s.b3==0))) m.f) (batIn t.m [99]) (batIn t.m [99,107]) m):=by
 obtain⟨n,e⟩:=aqw (bK h)
 show Ez202 (t.m.length+64) s t m=_
 rw [e]
 unfold Ez202 Tz202
 simp only [TS,w6]
 rw [ayC h,obind_some]
 have hr:=gI hm
 cases hb:mAt t.m 0 with
 | none=>exact awP n hv (j0 hm hf) (by omega) false mv0 _ _ _ _ _ (s25 s) (fun h=>by cases h) (fun h=>by cases h) (fun _=>by simp [batIn,hb])
 | some b=>
   have hbv:=rB h hb
   have e1:∀b:Bool,(b==true)=b:=by decide
   refine awP n hv (j0 hm hf) (by omega) true b _ _ _ _ _ (s25 s) (fun _=>?_) (fun _=>?_) (fun h=>by cases h)
   · simp only [batIn,hb]
     have:=axU (b:=true) (u:=[99]) (by simp) hbv.2
     rw [e1]at this;exact this
   · simp only [batIn,hb]
     have:=axU (b:=true) (u:=[99,107]) (by simp) hbv.2
     rw [e1]at this;exact this
end
end Go.Ev
