import Derived.Test.YtgnnhpffealmmaaGreatDoorEvC
set_option linter.unusedSimpArgs false
set_option linter.unusedVariables false
namespace Go.Ev
open Go.RowKit
theorem pV (sz:Nat):∀(n:Nat) (l:List EVal),chunk sz n (l.take (n*sz))=chunk sz n l
 | 0,l=>rfl
 | n+1,l=>by
   rw [chunk,chunk,Nat.succ_mul,List.take_take,List.drop_take,Nat.min_eq_left (by omega),show n*sz+sz-sz=n*sz by omega,pV sz n]
def fbR (id sz:Nat) (cells:List EVal) (v v2:EVal):Prop:=v2=v∨(∃off len cap,v=.slice id off len cap∧capOK len cap=true∧off+len*sz≤cells.length∧v2=.lsl (chunk sz len (cells.drop off)))∨∃off,v=.ptr id off∧v2=.lptr cells off
def fbL (id sz:Nat) (cells:List EVal):List EVal→List EVal→Prop
 | [],[]=>True
 | a::l,b::m=>fbR id sz cells a b∧fbL id sz cells l m
 | _,_=>False
theorem pP {id sz:Nat}{cells:List EVal}:∀ {l m:List EVal},fbL id sz cells l m→l.length=m.length
 | [],[],_=>rfl
 | a::l,b::m,h=>by simp only [List.length_cons,pP h.2]
theorem tB {ρ ρ2:Loc}{id sz:Nat}{cells:List EVal}(h1:ρ.le ρ2) (h2:∀v v2 u,fbR id sz cells v v2→VRel ρ v u→VRel ρ2 v2 u):∀ {l m:List EVal}{us:List Value},fbL id sz cells l m→VsRel ρ l us→VsRel ρ2 m us
 | [],[],_,_,h=>by cases h;exact .nil
 | a::l,b::m,_,hf,h=>by
   cases h with
   | cons _ u _ us h hs=>exact .cons _ _ _ _ (h2 _ _ _ hf.1 h) (tB h1 h2 hf.2 hs)
theorem View.fbD {A:Option Nat}{P:Program}{s n m sz:Nat}{ds:List Nat}{r:Option Nat}{fl fl2:List (Nat×EVal)}{l l2:List (Nat×Option bR)}{k k2:List (Nat×Option (Nat×TypeId))}{cells cells':List EVal}{e:TypeId}{lo hi:Nat}{sl:Bool}(id:Nat) (hid:id<16000)
  (hg:lookG l id=some (.row cells e lo hi sl)) (hk:keepL cells=some cells')
  (hf:∀p∈fl2,p.1<1000∧∃v,look fl p.1=some v∧fbR id sz cells' v p.2)
  (hl:∀p∈l2,p.1<16000∧p.1≠id∧∃o2,p.2=some o2∧(lookG l p.1=some o2∨∃cs1 cs2 e lo hi sl,lookG l p.1=some (.row cs1 e lo hi sl)∧o2=.row cs2 e lo hi sl∧fbL id sz cells' cs1 cs2))
  (hk2:∀p∈k2,p.1<250∧∃x,p.2=some x∧lookG k p.1=some x) :
  View A P (mkD s fl ds r) (mkH n l m k) (mkD s fl2 ds r) (mkH n l2 m k2):=by
 intro B0 W0 b t d ρ w F R
 have hg':(mkH n l m k).get id=some (.row cells e lo hi sl):=by rw [mkH_get hid];exact hg
 obtain⟨blk,C,hb,cs,hw,hrel,_⟩:=R.objs _ _ hg'
 obtain⟨h2,_⟩:=aZ hrel hk
 let ρ2:Loc:={ ρ with fro:=fun q=>if q=blk then some cs.toList else ρ.fro q }
 have hlt:=R.lo _ _ _ hb
 have hnf:∀q pre,ρ.fro q=some pre→q≠blk:=fun q pre hq e=>by
  subst e;exact absurd hb (R.free q pre hq _ _ _ hg')
 have hle:ρ.le ρ2:=by
  refine⟨fun _ _ h=>h,fun q pre hq=>?_,fun _ _ _ h=>h⟩
  exact⟨[],by show(if q=blk then some cs.toList else ρ.fro q)=_;rw [if_neg (hnf q pre hq),List.append_nil];exact hq⟩
 have hfz:ρ.fz.le ρ2.fz:=by
  refine⟨fun _ _ h=>(by cases h),fun q pre hq=>?_,fun _ _ _ h=>(by cases h)⟩
  have hq':ρ.fro q=some pre:=hq
  exact⟨[],by show(if q=blk then some cs.toList else ρ.fro q)=_;rw [if_neg (hnf q pre hq'),List.append_nil];exact hq'⟩
 have hlc:cells'.length=cells.length:=h2.length.trans (by rw [List.length_take];have:=hrel.length;simp only [List.length_take]at this;omega)
 have key:∀v v2 u,fbR id sz cells' v v2→VRel ρ v u→VRel ρ2 v2 u:=by
  rintro v v2 u (rfl|⟨off,len,cap,rfl,hcap,hoff,rfl⟩ | ⟨off,rfl,rfl⟩) hv
  · exact hv.mono hle
  · have h3:=(h2.drop off).take (len*sz)
    have h4:((cells'.drop off).take (len*sz)).length=len*sz:=by rw [List.length_take,List.length_drop];omega
    obtain⟨uss,c1,c2,c3,c4⟩:=cO sz len _ _ h3 h4
    have ce:chunk sz len ((cells'.drop off).take (len*sz))=chunk sz len (cells'.drop off):=pV sz len _
    rw [ce]at c1
    have key:∀c',len≤c'→VRel ρ2 (.lsl (chunk sz len (cells'.drop off))) (.slice (some ⟨blk,off,none⟩) len c'):=by
     intro c' hc
     have hcl:(chunk sz len (cells'.drop off)).length=len:=aN _ _ _
     have hrest:cs.toList.drop off=uss.flatten++(cs.toList.drop off).drop (len*sz):=by
      rw [c2]
      have:(List.take (len*sz) (List.drop off (List.take cells.length cs.toList)))=(cs.toList.drop off).take (len*sz):=by
       rw [List.drop_take,List.take_take]
       congr 1;omega
      rw [this,List.take_append_drop]
     have hol:off≤cs.toList.length:=by
      have:=h2.length
      simp only [List.length_take]at this
      omega
     have:=VRel.lsl (ρ:=ρ2) (chunk sz len (cells'.drop off)) uss blk off c' sz cs.toList _ (by show(if blk=blk then _ else _)=_;simp) (c1.mono hfz) hrest hol c3 (by rw [hcl];exact hc)
     rw [hcl]at this
     exact this
    cases hv with
    | slice _ _ _ c b' C' hb'=>rw [hb]at hb';cases hb';exact key _ (by simpa [capOK]using hcap)
    | slack _ _ _ _ c b' C' hb' hc hn=>rw [hb]at hb';cases hb';exact key _ hn
  · cases hv with
    | ptr _ _ b' C' hb'=>
      rw [hb]at hb';cases hb'
      have:=VRel.lptr (ρ:=ρ2) cells' off _ blk 0 cs.toList (cs.toList.drop cells.length) (by show(if blk=blk then _ else _)=_;simp) (h2.mono hfz) (by rw [List.drop_zero,List.take_append_drop]) (Nat.zero_le _)
      rw [Nat.zero_add]at this
      exact this
 have hkget:∀id x,(mkH n l2 m k2).k.get id=some x→(mkH n l m k).k.get id=some x:=by
  intro id x hg
  obtain⟨h1,x',h2,h3⟩:=hk2 _ (T.ofG_mem hg)
  simp only [Oi]at h2
  subst h2
  rw [mkH_k h1];exact h3
 have hget:∀q o2,(mkH n l2 m k2).get q=some o2→q≠id∧∃o,(mkH n l m k).get q=some o∧(o=o2∨∃cs1 cs2 e lo hi sl,o=.row cs1 e lo hi sl∧o2=.row cs2 e lo hi sl∧fbL id sz cells' cs1 cs2):=by
  intro q o2 hg
  obtain⟨h1,h2,o',h3,h4⟩:=hl _ (T.ofG_mem hg)
  simp only [Oi]at h3
  subst h3
  refine⟨h2,?_⟩
  rcases h4 with h4|⟨cs1,cs2,e',lo',hi',sl',h4,rfl,h5⟩
  · exact⟨_,by rw [mkH_get h1];exact h4,.inl rfl⟩
  · exact⟨_,by rw [mkH_get h1];exact h4,.inr ⟨_,_,_,_,_,_,rfl,rfl,h5⟩⟩
 refine⟨ρ2,Loc.leA_of hle,⟨F.size,fun j v hv=>?_,F.defers.mono hle,(FRel.mono hle F).round⟩,?_⟩
 · obtain ⟨h1,v0,h3,h4⟩:=hf _ (eI hv)
   have:=F.tmps j v0 (by show(T.ofL fl).get j=_;rw [T.get_ofL _ _ h1];exact h3)
   exact key _ _ _ h4 this
 · refine ⟨R.below,R.base,R.dom,R.lo,fun i j o1 o2 b' C1 C2 g1 g2 r1 r2=>?_,fun q o hg=>?_,fun b' p hb'=>?_,fun b' p hb' q C' o hg hr=>?_,fun b' hb'=>?_,R.mdom,fun q n' e' hk=>?_,fun q n' e' hk=>R.tnew q n' e' (hkget _ _ hk),fun i1 n1 e1 i2 n2 e2 b1 C1 C2 h1 h2=>R.tinj i1 n1 e1 i2 n2 e2 b1 C1 C2 (hkget _ _ h1) (hkget _ _ h2)⟩
   · obtain ⟨_,p1,e1,_⟩:=hget _ _ g1
     obtain⟨_,p2,e2,_⟩:=hget _ _ g2
     exact R.inj _ _ _ _ _ _ _ e1 e2 r1 r2
   · obtain ⟨_,o0,e1,e2⟩:=hget _ _ hg
     obtain⟨b',C',hb',r⟩:=R.objs _ _ e1
     refine⟨b',C',hb',?_⟩
     rcases e2 with rfl|⟨cs1,cs2,e',lo',hi',sl',rfl,rfl,h5⟩
     · exact r.mono hle
     · obtain ⟨cs',r1,r2,r3,r4⟩:=r
       have hln:=pP h5
       exact⟨cs',r1,by rw [←hln];exact tB hle key h5 r2,by rw [←hln];exact r3,r4⟩
   · have:(if b'=blk then some cs.toList else ρ.fro b')=some p:=hb'
     split at this
     · rename_i e';subst e';cases this;exact⟨cs,e,_,hw,[],by simp⟩
     · exact R.fz b' p this
   · obtain ⟨hne,o0,e1,_⟩:=hget _ _ hg
     have:(if b'=blk then some cs.toList else ρ.fro b')=some p:=hb'
     split at this
     · rename_i e';subst e'
       exact hne (R.inj _ _ _ _ _ _ _ e1 hg' hr hb)
     · exact R.free b' p this q C' o0 e1 hr
   · show (if b'=blk then some cs.toList else ρ.fro b')=_
     rw [if_neg (by omega)];exact R.fz0 b' hb'
   · obtain ⟨x,h1,h2⟩:=R.toks q n' e' (hkget _ _ hk)
     refine⟨x,h1,fun b' C' hx=>?_⟩
     obtain⟨hB,cs',ti',pre',hcs,hti',hcsz,hpre',hpl⟩:=h2 b' C' hx
     exact⟨hB,cs',ti',pre',hcs,hti',hcsz,by show(if b'=blk then some cs.toList else ρ.fro b')=_;rw [if_neg (hnf _ _ hpre')];exact hpre',hpl⟩
end Go.Ev
namespace Go.Ev
open Go.RowKit
noncomputable section
variable {R:Type}{r:R}
mutual
def aV (N:Nat):V→Bool
 | .raw e=>below N e
 | .ptr id _=>Nat.blt id N
 | .sl id _ _ _=>Nat.blt id N
 | .agg l=>b8 N l
 | .tup l=>b8 N l
 | .eptr s _ _ _ _=>aV N s
 | .fn _ l=>b8 N l
 | _=>true
def b8 (N:Nat):List V→Bool
 | []=>true
 | v::l=>bif aV N v then b8 N l else false
end
theorem vR {N k:Nat}{e e':EVal}(h:eShift k e=some e'):below N e'=below N e:=by
 unfold eShift at h
 split at h<;>first|(cases h;done)|(simp only [Oi]at h;subst h;simp only [below])
mutual
theorem dP {N:Nat}:∀ {v:V},aV N v=true→below N v.c=true
 | .raw e,h=>by rw [V.c];rw [aV]at h;exact h
 | .bool _,_=>by rw [V.c];rfl
 | .int _ _,_=>by rw [V.c];rfl
 | .str _,_=>by rw [V.c];rfl
 | .nils,_=>by rw [V.c];rfl
 | .ptr id o,h=>by rw [aV]at h;rw [V.c,below];exact h
 | .sl id o n c,h=>by rw [aV]at h;rw [V.c,below];exact h
 | .agg l,h=>by rw [aV]at h;rw [V.c,below];exact dF h
 | .tup l,h=>by rw [aV]at h;rw [V.c,below];exact dF h
 | .fl w n f,_=>by rw [V.c];rfl
 | .el _,_=>by rw [V.c];rfl
 | .gl _,_=>by rw [V.c];rfl
 | .lptr _ _,_=>by rw [V.c];rfl
 | .fn f l,h=>by rw [aV]at h;rw [V.c,below];exact dF h
 | .eptr s sz n i off,h=>by
   rw [aV]at h
   rw [V.c]
   have ih:=dP h
   cases he:eShift (i.toNat*sz+off) s.c with
   | none=>rfl
   | some e=>rw [Option.getD_some,vR he];exact ih
theorem dF {N:Nat}:∀ {l:List V},b8 N l=true→bI N (V.cs l)=true
 | [],_=>by rw [V.cs,bI]
 | v :: l,h=>by
   rw [b8]at h
   cases hv:aV N v with
   | false=>rw [hv]at h;cases h
   | true=>
     rw [hv]at h
     rw [V.cs,bI,dP hv,dF h];rfl
end
theorem tT {N:Nat}{v:V}(h:aV N v=true) (tk):below N (v.ct tk)=true:=by
 cases v with
 | gl id=>
   simp only [V.ct]
   split<;>simp only [below]
 | _=>exact dP h
structure Rt where
 ok:V→Bool
 to:V→V
 h:∀v,ok v=true→v.c=(to v).c∧(to v).plain=true∧(to v).inr
structure Lab where
 keep:List Nat
 ids:List Nat
 n:Nat
 grow:List (Nat×TypeId)
 toks:List Nat
 fz:List (Nat×Nat)
 tf:List (Nat×Rt)
def oQ (fr:List (Nat×Option V)):List Nat→Option (List (Nat×Option V))
 | []=>some []
 | i :: l=>bif Nat.blt i 1000 then match lookA fr i with
   | some (some v)=>match oQ fr l with
     | some m=>some ((i,some v)::m)
     | none=>none
   | _=>none
   else none
def xJ (N:Nat):List (Nat×Option V)→Bool
 | []=>true
 | (_,some v)::l=>bif aV N v then xJ N l else false
 | (_,none)::_=>false
def D.belowO (N:Nat):DObj→Bool
 | .row r=>b8 N r.cells
 | .iter _ _=>true
 | .loop _ _ _ fr _ _ _=>b8 N (fr.map (·.2))
 | .dfr _=>true
 | .sset _=>true
 | .iset _=>true
 | .mp es _=>es.all fun e=>aV N e.1&&aV N e.2.1
def aqO (d:D) (N:Nat):List Nat→Option (List (Nat×Option DObj))
 | []=>some []
 | i :: l=>bif Nat.blt i N then match d.obj i with
   | some r=>bif D.belowO N r then match aqO d N l with
     | some m=>some ((i,some r)::m)
     | none=>none
     else none
   | none=>none
   else none
def uW (d:D):List Nat→Option (List (Nat×(List (List V)×TypeId)))
 | []=>some []
 | i :: l=>match d.tok i with
   | some x=>match uW d l with
     | some m=>some ((i,x)::m)
     | none=>none
   | none=>none
def noGl (m:Nat):List (Nat×Option V)→Bool
 | []=>true
 | (_,v)::l=>match v with
   | some (.gl j)=>bif Nat.beq j m then false else noGl m l
   | some _=>noGl m l
   | none=>false
def l8:D→List (Nat×TypeId)→Option D
 | d,[]=>some d
 | d, (i,e)::l=>bif Nat.ble 2000 i then
   (bif Nat.blt i 3000 then bif Nat.beq (d.m % 1099511627776) (i-2000)&&Nat.blt (i-2000) 250&&noGl (i-2000) d.fr.l then
    l8 { d with m:=i-2000+1+1099511627776,tk:=(i-2000,([],e))::d.tk } l else none
   else bif Nat.beq (d.m % 1099511627776) (i-3000)then l8 { d with m:=i-3000 } l else none)else match lookA d.fr.l i with
   | some (some .nils)=>bif Nat.blt i 1000&&Nat.blt d.m 250&&noGl d.m d.fr.l then
     l8 { d with fr:=⟨(i,some (.gl d.m))::d.fr.l,d.fr.ds,d.fr.rd,d.fr.sh⟩,m:=d.m+1,tk:=(d.m,([],e))::d.tk } l
     else none
   | some (some (.gl _))=>l8 d l
   | _=>none
def fzV (id sz:Nat) (cells:List V):V→V
 | .ptr i off=>bif Nat.beq i id then .lptr cells off else .ptr i off
 | .sl i off len cap=>bif Nat.beq i id&&capOK len cap&&Nat.ble (off+len*sz) cells.length then .el (eD sz len (cells.drop off))else .sl i off len cap
 | v=>v
def fzO (id sz:Nat) (cells:List V):DObj→DObj
 | .row r=>.row ⟨r.cells.map (fzV id sz cells),r.e,r.sl⟩
 | o=>o
def fzF (g:V→V):List (Nat×Option V)→List (Nat×Option V)
 | []=>[]
 | (i,some v)::l=>(i,some (g v))::fzF g l
 | (i,none)::l=>(i,none)::fzF g l
def fzH (d:D) (id:Nat) (g:DObj→DObj):List Nat→Option (List (Nat×Option DObj))
 | []=>some []
 | i :: l=>bif Nat.beq i id then none else match d.obj i with
   | some o=>match fzH d id g l with
     | some m=>some ((i,some (g o))::m)
     | none=>none
   | none=>none
def sY (tk:List (Nat×(List (List V)×TypeId))):List (Nat×Option V)→Bool
 | []=>true
 | (_,some (.gl j))::l=>bif(lookA tk j).isSome then sY tk l else false
 | (_,_)::l=>sY tk l
def dFz1 (keep ids toks:List Nat) (id sz:Nat) (d:D):Option D:=bif Nat.blt id 16000 then match d.row id with
 | some r => match lY r.cells with
   | some cs=>match oQ d.fr.l keep with
     | some fr=>match fzH d id (fzO id sz cs) ids with
       | some hp=>match uW d toks with
         | some tk=>bif sY tk (fzF (fzV id sz cs) fr)then some ⟨⟨fzF (fzV id sz cs) fr,d.fr.ds,d.fr.rd,d.fr.sh⟩,d.n,hp,d.m,tk⟩else none
         | none=>none
       | none=>none
     | none=>none
   | none=>none
 | none=>none
 else none
def dFzL (keep ids toks:List Nat):List (Nat×Nat)→D→Option D
 | [],d=>some d
 | (i,sz)::l,d=>match dFz1 keep (l.map (·.1)++ids) toks i sz d with
   | some d=>dFzL keep ids toks l d
   | none=>none
def untok (d:D):V→Option V
 | .gl id=>match d.tok id with
   | some x=>some (.el x.1)
   | none=>none
 | .nils=>some (.el [])
 | .el e=>some (.el e)
 | .fl w n f=>some (.fl w n f)
 | .raw .zsl=>some (.el [])
 | _=>none
def retell {R:Type}:List (Nat×Rt)→D→(D→Option R)→Option R
 | [],d,kk=>kk d
 | (i, t)::l,d,kk=>match lookA d.fr.l i with
   | some (some v)=>match untok d v with
     | some u=>bif Nat.blt i 1000 then cond (t.ok u) (retell l { d with fr:=⟨(i,some (t.to u))::d.fr.l,d.fr.ds,d.fr.rd,d.fr.sh⟩ } kk) none else none
     | none=>none
   | _=>none
def axm (N:Nat):Option Nat→Bool
 | none=>true
 | some i=>Nat.blt i N
def canon (c:Lab) (d:D):Option D:=
 match oQ d.fr.l c.keep with
 | some fr1=>match(match l8 { d with fr:=⟨fr1,d.fr.ds,d.fr.rd,d.fr.sh⟩ } c.grow with
   | some d0=>dFzL c.keep c.ids c.toks c.fz d0
   | none=>none)with
   | some d1=>match oQ d1.fr.l c.keep with
     | some fr2=>bif xJ c.n fr2&&d1.fr.ds.all (Nat.blt · c.n)&&axm c.n d1.fr.rd then match aqO d1 c.n c.ids with
       | some hp=>match uW d1 c.toks with
         | some tk=>bif sY tk fr2 then some ⟨⟨fr2,d1.fr.ds,d1.fr.rd,d1.fr.sh⟩,c.n,hp,d1.m,tk⟩else none
         | none=>none
       | none=>none
       else none
     | none=>none
   | none=>none
 | none=>none
def frC (tk:List (Nat×(List (List V)×TypeId))) (fr:List (Nat×Option V)):List (Nat×EVal):=fr.map fun p=>(p.1,(p.2.getD gC).ct tk)
theorem fR (tk):∀(fr:List (Nat×Option V)) (i:Nat),look (frC tk fr) i=(lookA fr i).map fun o=>(o.getD gC).ct tk
 | [],i=>rfl
 | (j, v)::l,i=>by
   simp only [frC,List.map_cons,look,lookA]
   have ih:=fR tk l i
   unfold frC at ih
   rw [ih]
   by_cases h:j=i
   · simp [h]
   · have hb:Nat.beq j i=false:=by
      cases hq:Nat.beq j i
      · rfl
      · exact absurd (Nat.eq_of_beq_eq_true hq) h
     simp [h,hb]
theorem bT {fr:List (Nat×Option V)}:∀ {l:List Nat}{m:List (Nat×Option V)},oQ fr l=some m→∀p∈m,p.1<1000∧∃v,p.2=some v∧lookA fr p.1=some (some v)
 | [],m,h,p,hp=>by simp only [oQ,Oi]at h;subst h;cases hp
 | i :: l,m,h,p,hp=>by
   simp only [oQ]at h
   obtain⟨hc,h⟩:=aA h
   split at h
   · rename_i v hv
     split at h
     · rename_i m' hm
       simp only [Oi]at h;subst h
       rcases List.mem_cons.1 hp with rfl|hp
       · exact⟨by rw [Nat.blt_eq]at hc;exact hc,v,rfl,hv⟩
       · exact bT hm p hp
     · cases h
   · cases h
theorem bS {α:Type}:∀ {l:List (Nat×α)}{i:Nat}{v:α},lookA l i=some v→(i,v)∈l
 | (j, u)::l,i,v,h=>by
   simp only [lookA]at h
   cases hb:Nat.beq j i with
   | true=>
     rw [hb]at h
     simp only [cond_true,Oi]at h;subst h
     obtain rfl:=Nat.eq_of_beq_eq_true hb
     exact List.mem_cons_self
   | false=>rw [hb]at h;exact List.mem_cons_of_mem _ (bS h)
structure Exact (sh:List (List (Nat×V))) (P:Program) (sz:Nat) (d:D) (f:EFr) (h:H):Prop where
 fr:f=mkD sz (frC d.tk d.fr.l) d.fr.ds d.fr.rd
 sh:d.fr.sh=sh
 heap:h=d.H
 all:∀p∈d.fr.l,p.1<1000∧∃v,p.2=some v∧v.inr
 lens:∀id els e s,lookA d.tk id=some (els,e)→aG P e=some s→aL s (V.css els)=true
theorem Exact.fits {sh:List (List (Nat×V))}{P:Program}{sz:Nat}{d:D}{f:EFr}{h:H}(E:Exact sh P sz d f h):Fits sh P sz d f h:=by
 obtain⟨rfl,hsh,rfl,ha,hl⟩:=E
 refine⟨rfl,rfl,rfl,fun i hi=>T.has_ofL _ _ hi,fun i v hi hv=>?_,fun i v hv=>?_,hsh,rfl,hl⟩
 · show (T.ofL _).get i=_
   rw [T.get_ofL _ _ hi,fR,hv];rfl
 · obtain ⟨_,v',h1,h2⟩:=ha _ (bS hv)
   cases h1;exact h2
end
end Go.Ev
namespace Go.Ev
open Go.RowKit
noncomputable section
variable {P:Program}{sz:Nat}{d d1:D}{f:EFr}{h:H}{sh:List (List (Nat×V))}
theorem dN {α:Type}{l:List (Nat×α)}{i j:Nat}{v:α}:lookA ((j,v)::l) i=bif Nat.beq j i then some v else lookA l i:=rfl
theorem View.slotsD {A:Option Nat}{n:Nat}{l:List (Nat×EVal)}{ds:List Nat}{r:Option Nat}(hn:f.sz=n) (hd:f.defers=ds) (hr:f.round=r)
  (hv:∀p∈l,f.tmps.get p.1=some p.2):View A P f h (mkD n l ds r) h:=fun B0 W0 b t d ρ w F R=>by
 refine⟨ρ,Loc.leA_refl,⟨by rw [F.size,hn];rfl,fun i e he=>F.tmps i e (hv _ (eI he)),?_,?_⟩,R⟩
 · have:=F.defers;rw [hd]at this;exact this
 · have:=F.round;rw [hr]at this;exact this
theorem qS {A:Option Nat}(F:Fits sh P sz d f h) {ks:List Nat}{fr1:List (Nat×Option V)}(hk:oQ d.fr.l ks=some fr1) :
  View A P f h (mkD sz (frC d.tk fr1) d.fr.ds d.fr.rd) h∧Exact sh P sz { d with fr:=⟨fr1,d.fr.ds,d.fr.rd,d.fr.sh⟩ } (mkD sz (frC d.tk fr1) d.fr.ds d.fr.rd) h:=by
 refine⟨View.slotsD F.sz F.defers F.round fun p hp=>?_,⟨rfl,F.sh,F.heap,fun p hp=>?_,F.lens⟩⟩
 · simp only [frC,List.mem_map]at hp
   obtain⟨q,hq,rfl⟩:=hp
   obtain⟨h1,v,h2,h3⟩:=bT hk q hq
   simp only [h2,Option.getD_some]
   exact F.tmps _ _ h1 h3
 · obtain ⟨h1,v,h2,h3⟩:=bT hk p hp
   exact⟨h1,v,h2,F.inr _ _ h3⟩
theorem uO {m:Nat}{x:List (List V)×TypeId}{tk}:∀ {fr:List (Nat×Option V)},noGl m fr=true→frC ((m,x)::tk) fr=frC tk fr
 | [],_=>rfl
 | (i, v)::l,h=>by
   simp only [noGl]at h
   have step:noGl m l=true→∀u:V,v=some u→(u.ct ((m,x)::tk)=u.ct tk)→frC ((m,x)::tk) ((i,v)::l)=frC tk ((i,v)::l):=by
    intro h1 u hu h2
    have ih:=uO (x:=x) (tk:=tk) h1
    unfold frC at ih ⊢
    rw [List.map_cons,List.map_cons,ih,hu]
    simp only [Option.getD_some,h2]
   split at h
   · rename_i j
     cases hb:Nat.beq j m with
     | true=>rw [hb]at h;cases h
     | false=>
       rw [hb]at h
       refine step h _ rfl ?_
       have hb2:Nat.beq m j=false:=by
        cases hq:Nat.beq m j
        · rfl
        · rw [Nat.eq_of_beq_eq_true hq,Nat.beq_refl]at hb;cases hb
       simp only [V.ct,dN,hb2,cond_false]
   · rename_i u hn
     refine step h _ rfl ?_
     cases u with
     | gl j=>exact absurd rfl (hn j)
     | _=>rfl
   · cases h
theorem gZ {A:Option Nat}:∀ {l:List (Nat×TypeId)}{d d1:D}{f:EFr}{h:H},Exact sh P sz d f h→l8 d l=some d1→∃f1 h1,View A P f h f1 h1∧Exact sh P sz d1 f1 h1
 | [],d,d1,f,h,E,hk=>by simp only [l8,Oi]at hk;subst hk;exact⟨f,h,View.refl,E⟩
 | (i, e) :: l,d,d1,f,h,E,hk=>by
   simp only [l8]at hk
   cases h20:Nat.ble 2000 i with
   | true =>
     rw [h20]at hk
     simp only [cond_true]at hk
     cases h21:Nat.blt i 3000 with
     | true =>
       rw [h21]at hk
       simp only [cond_true]at hk
       obtain⟨hc,hk⟩:=aA hk
       simp only [Bool.and_eq_true,Nat.blt_eq]at hc
       obtain⟨⟨c1,c2⟩,c3⟩:=hc
       have c1:=Nat.eq_of_beq_eq_true c1
       obtain⟨rfl,hsh,rfl,ha,hl⟩:=E
       generalize i-2000=j at hk c1 c2 c3
       have hv:View A P (mkD sz (frC d.tk d.fr.l) d.fr.ds d.fr.rd) d.H (mkD sz (frC d.tk d.fr.l) d.fr.ds d.fr.rd) (mkH d.n (d.hp.map fun p=>(p.1,p.2.map DObj.o)) (j+1+1099511627776) ((j,some (0,e))::(d.tk.map fun p=>(p.1,some (oO p.2))))):=by
        have:=View.spare (A:=A) (P:=P) (f:=mkD sz (frC d.tk d.fr.l) d.fr.ds d.fr.rd) (n:=d.n) (l:=d.hp.map fun p=>(p.1,p.2.map DObj.o)) (k:=d.tk.map fun p=>(p.1,some (oO p.2))) e (m:=d.m) (by omega)
        rw [c1]at this;exact this
       have E2:Exact sh P sz { d with m:=j+1+1099511627776,tk:=(j,([],e))::d.tk } (mkD sz (frC d.tk d.fr.l) d.fr.ds d.fr.rd) (mkH d.n (d.hp.map fun p=>(p.1,p.2.map DObj.o)) (j+1+1099511627776) ((j,some (0,e))::(d.tk.map fun p=>(p.1,some (oO p.2))))):=by
        refine⟨?_,hsh,rfl,ha,fun id els e2 s h2 hs=>?_⟩
        · rw [show frC ((j,([],e))::d.tk) d.fr.l=frC d.tk d.fr.l from uO c3]
        · simp only [dN]at h2
          cases hb:Nat.beq j id with
          | true=>
            rw [hb]at h2
            simp only [cond_true,Oi,Prod.mk.injEq]at h2
            obtain⟨rfl,rfl⟩:=h2
            rw [V.css];rfl
          | false=>rw [hb]at h2;exact hl _ _ _ _ h2 hs
       obtain⟨f1,h1,v1,E1⟩:=gZ E2 hk
       exact⟨f1,h1,View.trans hv v1,E1⟩
     | false=>
       rw [h21]at hk
       simp only [cond_false]at hk
       obtain⟨c1,hk⟩:=aA hk
       have c1:=Nat.eq_of_beq_eq_true c1
       obtain⟨rfl,hsh,rfl,ha,hl⟩:=E
       generalize i-3000=j at hk c1
       have hv:View A P (mkD sz (frC d.tk d.fr.l) d.fr.ds d.fr.rd) d.H (mkD sz (frC d.tk d.fr.l) d.fr.ds d.fr.rd) (mkH d.n (d.hp.map fun p=>(p.1,p.2.map DObj.o)) j (d.tk.map fun p=>(p.1,some (oO p.2)))):=
        View.mode0 _ (by omega)
       obtain⟨f1,h1,v1,E1⟩:=gZ (d:={ d with m:=j }) ⟨rfl,hsh,rfl,ha,hl⟩ hk
       exact⟨f1,h1,View.trans hv v1,E1⟩
   | false=>
   rw [h20,cond_false]at hk
   split at hk
   · rename_i hi
     obtain⟨hc,hk⟩:=aA hk
     simp only [Bool.and_eq_true,Nat.blt_eq]at hc
     obtain⟨⟨c1,c2⟩,c3⟩:=hc
     obtain⟨rfl,hsh,rfl,ha,hl⟩:=E
     have hv:View A P (mkD sz (frC d.tk d.fr.l) d.fr.ds d.fr.rd) d.H (mkD sz ((i,.gsl d.m [])::frC d.tk d.fr.l) d.fr.ds d.fr.rd) (mkH d.n (d.hp.map fun p=>(p.1,p.2.map DObj.o)) (d.m+1) ((d.m,some (0,e))::(d.tk.map fun p=>(p.1,some (oO p.2))))):=
      View.growD i e c1 c2 (by rw [fR,hi];simp only [Option.map_some,Option.getD_some,V.ct,V.c])
     let d2:D:={ d with fr:=⟨(i,some (.gl d.m))::d.fr.l,d.fr.ds,d.fr.rd,d.fr.sh⟩,m:=d.m+1,tk:=(d.m,([],e))::d.tk }
     have E2:Exact sh P sz d2 (mkD sz ((i,.gsl d.m [])::frC d.tk d.fr.l) d.fr.ds d.fr.rd) (mkH d.n (d.hp.map fun p=>(p.1,p.2.map DObj.o)) (d.m+1) ((d.m,some (0,e))::(d.tk.map fun p=>(p.1,some (oO p.2))))):=by
      refine⟨?_,hsh,rfl,fun p hp=>?_,fun id els e2 s h2 hs=>?_⟩
      · have e1:frC d2.tk d2.fr.l=(i,(V.gl d.m).ct d2.tk)::frC d2.tk d.fr.l:=rfl
        rw [e1,show frC d2.tk d.fr.l=frC d.tk d.fr.l from uO c3]
        have e2:(V.gl d.m).ct d2.tk=.gsl d.m []:=by
         simp only [V.ct,d2,dN,Nat.beq_refl,cond_true,V.css]
        rw [e2]
      · rcases List.mem_cons.1 hp with rfl|hp
        · exact⟨c1,_,rfl,trivial⟩
        · exact ha p hp
      · simp only [d2,dN]at h2
        cases hb:Nat.beq d.m id with
        | true=>
          rw [hb]at h2
          simp only [cond_true,Oi,Prod.mk.injEq]at h2
          obtain⟨rfl,rfl⟩:=h2
          rw [V.css];rfl
        | false=>rw [hb]at h2;exact hl _ _ _ _ h2 hs
     obtain⟨f1,h1,v1,E1⟩:=gZ E2 hk
     exact⟨f1,h1,View.trans hv v1,E1⟩
   · exact gZ E hk
   · cases hk
theorem ajY (F:Fits sh P sz d f h) {v u:V}(hk:untok d v=some u) {ρ:Loc}{x:Value}(hv:VRel ρ (v.ct d.tk) x):VRel ρ u.c x∧u.plain=true∧u.inr:=by
 unfold untok at hk
 split at hk
 · rename_i id
   split at hk
   · rename_i y hy
     simp only [Oi]at hk;subst hk
     have hlk:lookA d.tk id=some y:=by
      unfold D.tok at hy
      cases hb:Nat.blt id 250 with
      | false=>rw [hb]at hy;cases hy
      | true=>rw [hb]at hy;exact hy
     simp only [V.ct,hlk]at hv
     exact⟨by rw [V.c];exact hv.unG,rfl,trivial⟩
   · cases hk
 · simp only [Oi]at hk;subst hk
   simp only [V.ct,V.c]at hv
   cases hv
   exact⟨by rw [V.c,V.css];exact .lsln,rfl,trivial⟩
 · simp only [Oi]at hk;subst hk
   rw [V.ct_plain rfl]at hv;exact⟨hv,rfl,trivial⟩
 · simp only [Oi]at hk;subst hk
   rw [V.ct_plain rfl]at hv;exact⟨hv,rfl,trivial⟩
 · simp only [Oi]at hk;subst hk
   simp only [V.ct,V.c]at hv
   cases hv with
   | zsl p=>exact⟨by rw [V.c,V.css];exact .lsl0 p 0,rfl,trivial⟩
 · cases hk
theorem sL {R:Type}{r:R}{A:Option Nat}:∀ {l:List (Nat×Rt)}{d:D}{f:EFr}{kk:D→Option R},Fits sh P sz d f h→retell l d kk=some r→∃d2 f2,View A P f h f2 h∧Fits sh P sz d2 f2 h∧kk d2=some r
 | [],d,f,kk,F,hk=>⟨d,f,View.refl,F,hk⟩
 | (i, t)::l,d,f,kk,F,hk=>by
   simp only [retell]at hk
   split at hk
   rotate_left
   · cases hk
   rename_i v hv
   split at hk
   rotate_left
   · cases hk
   rename_i u hu
   obtain⟨hi,hk⟩:=aA hk
   obtain⟨hok,hk⟩:=aA hk
   rw [Nat.blt_eq]at hi
   obtain⟨e1,e2,e3⟩:=t.h u hok
   have hget:=F.tmps i v hi hv
   have hv1:View A P f h ⟨f.sz,f.tmps.set i (some (t.to u).c),f.defers,f.round⟩ h:=fun B0 W0 b tt dd ρ w FF R=>by
    refine⟨ρ,Loc.leA_refl,⟨FF.size,fun j e hj=>?_,FF.defers,FF.round⟩,R⟩
    rcases T.get_set _ _ _ _ hj with⟨hji,hq⟩ | ⟨_,hq⟩
    · simp only [Oi]at hq
      subst hji
      rw [←hq,←e1]
      exact(ajY F hu (FF.tmps _ _ hget)).1
    · exact FF.tmps j e hq
   have F2:Fits sh P sz { d with fr:=⟨(i,some (t.to u))::d.fr.l,d.fr.ds,d.fr.rd,d.fr.sh⟩ } ⟨f.sz,f.tmps.set i (some (t.to u).c),f.defers,f.round⟩ h:=by
    refine⟨F.sz,F.defers,F.round,fun j hj=>(T.has_set _ _ _ _).2 (F.has j hj),fun j w hj hw=>?_,fun j w hw=>?_,F.sh,F.heap,F.lens⟩
    · show (f.tmps.set i (some (t.to u).c)).get j=_
      simp only [lookA]at hw
      cases hb:Nat.beq i j with
      | true=>
        rw [hb]at hw
        simp only [cond_true,Oi]at hw
        subst hw
        obtain rfl:=Nat.eq_of_beq_eq_true hb
        rw [T.get_set_same _ _ _ (F.has i hi),V.ct_plain e2]
      | false=>
        rw [hb]at hw
        simp only [cond_false]at hw
        rw [T.get_set_ne _ _ _ _ (fun e=>by rw [e,Nat.beq_refl]at hb;cases hb)]
        exact F.tmps j w hj hw
    · simp only [lookA]at hw
      cases hb:Nat.beq i j with
      | true=>
        rw [hb]at hw
        simp only [cond_true,Oi]at hw
        subst hw;exact e3
      | false=>rw [hb]at hw;exact F.inr j w hw
   obtain⟨d3,f3,v3,F3,k3⟩:=sL F2 hk
   exact⟨d3,f3,View.trans hv1 v3,F3,k3⟩
theorem pX {N:Nat}:∀ {l:List (Nat×Option V)},xJ N l=true→∀p∈l,∃v,p.2=some v∧aV N v=true
 | [],_,p,hp=>by cases hp
 | (i,none)::l,h,p,hp=>by cases h
 | (i, some v)::l,h,p,hp=>by
   simp only [xJ]at h
   cases hv:aV N v with
   | false=>rw [hv]at h;cases h
   | true=>
     rw [hv]at h
     rcases List.mem_cons.1 hp with rfl|hp
     · exact⟨v,rfl,hv⟩
     · exact pX h p hp
theorem sZ {N:Nat}:∀ {l:List Nat}{m:List (Nat×Option DObj)},aqO d N l=some m→∀p∈m,p.1<16000∧p.1<N∧∃r,p.2=some r∧d.obj p.1=some r∧D.belowO N r=true
 | [],m,h,p,hp=>by simp only [aqO,Oi]at h;subst h;cases hp
 | i :: l, m,h,p,hp=>by
   simp only [aqO]at h
   obtain⟨hc,h⟩:=aA h
   rw [Nat.blt_eq]at hc
   split at h
   · rename_i r hr
     obtain⟨hb,h⟩:=aA h
     split at h
     · rename_i m' hm
       simp only [Oi]at h;subst h
       rcases List.mem_cons.1 hp with rfl|hp
       · refine ⟨?_,hc,r,rfl,hr,hb⟩
         unfold D.obj at hr
         cases hq:Nat.blt i 16000 with
         | false=>rw [hq]at hr;cases hr
         | true=>rw [Nat.blt_eq]at hq;exact hq
       · exact sZ hm p hp
     · cases h
   · cases h
theorem dC:∀ {l:List Nat}{m:List (Nat×(List (List V)×TypeId))},uW d l=some m→∀p∈m,p.1<250∧lookA d.tk p.1=some p.2
 | [],m,h,p,hp=>by simp only [uW,Oi]at h;subst h;cases hp
 | i :: l, m,h,p,hp=>by
   simp only [uW]at h
   split at h
   · rename_i x hx
     split at h
     · rename_i m' hm
       simp only [Oi]at h;subst h
       rcases List.mem_cons.1 hp with rfl|hp
       · unfold D.tok at hx
         cases hq:Nat.blt i 250 with
         | false=>rw [hq]at hx;cases hx
         | true=>rw [hq]at hx;rw [Nat.blt_eq]at hq;exact⟨hq,hx⟩
       · exact dC hm p hp
     · cases h
   · cases h
theorem qR {tk tk2:List (Nat×(List (List V)×TypeId))}(hs:∀p∈tk2,lookA tk p.1=some p.2):∀ {fr:List (Nat×Option V)},sY tk2 fr=true→frC tk2 fr=frC tk fr
 | [],_=>rfl
 | (i, v)::l,h=>by
   have step:sY tk2 l=true→((v.getD gC).ct tk2=(v.getD gC).ct tk)→frC tk2 ((i,v)::l)=frC tk ((i,v)::l):=by
    intro h1 h2
    have ih:=qR hs h1
    unfold frC at ih ⊢
    rw [List.map_cons,List.map_cons,ih]
    simp only [h2]
   unfold sY at h
   split at h
   · rename_i heq;cases heq
   · rename_i i' j l' heq
     simp only [List.cons.injEq,Prod.mk.injEq]at heq
     obtain⟨⟨rfl,rfl⟩,rfl⟩:=heq
     cases hl:lookA tk2 j with
     | none=>rw [hl]at h;cases h
     | some x=>
       rw [hl]at h
       refine step h ?_
       have:=hs _ (bS hl)
       simp only [Option.getD_some,V.ct,hl,this]
   · rename_i i' v' l' hn heq
     simp only [List.cons.injEq,Prod.mk.injEq]at heq
     obtain⟨⟨rfl,rfl⟩,rfl⟩:=heq
     refine step h ?_
     cases v with
     | none=>rfl
     | some u=>
       cases u with
       | gl j=>exact absurd rfl (hn j)
       | _=>rfl
theorem aqX {id sz:Nat}{cells:List V}{v:V}{tk}:fbR id sz (V.cs cells) (v.ct tk) ((fzV id sz cells v).ct tk):=by
 unfold fzV
 split
 · rename_i i off
   cases hb:Nat.beq i id with
   | true=>
     obtain rfl:=Nat.eq_of_beq_eq_true hb
     exact .inr (.inr ⟨off,by simp only [V.ct,V.c],by simp only [cond_true,V.ct,V.c]⟩)
   | false=>exact .inl rfl
 · rename_i i off len cap
   cases hb:(Nat.beq i id&&capOK len cap&&Nat.ble (off+len*sz) cells.length)with
   | true=>
     simp only [Bool.and_eq_true]at hb
     obtain⟨⟨h1,h2⟩,h3⟩:=hb
     obtain rfl:=Nat.eq_of_beq_eq_true h1
     refine .inr (.inl ⟨off,len,cap,by simp only [V.ct,V.c],h2,by rw [V.cs_length];exact Nat.le_of_ble_eq_true h3,?_⟩)
     simp only [cond_true,V.ct,V.c,j9,V.cs_map,List.map_drop]
   | false=>exact .inl rfl
 · exact .inl rfl
theorem fzV_c {id sz:Nat}{cells:List V}{v:V}:fbR id sz (V.cs cells) v.c ((fzV id sz cells v).c):=by
 cases v with
 | gl j=>exact .inl rfl
 | ptr i o=>
   have:=aqX (id:=id) (sz:=sz) (cells:=cells) (v:=.ptr i o) (tk:=[])
   rw [V.ct_plain rfl,V.ct_plain]at this
   · exact this
   · unfold fzV
     dsimp only
     cases Nat.beq i id<;>rfl
 | sl i o n c=>
   have:=aqX (id:=id) (sz:=sz) (cells:=cells) (v:=.sl i o n c) (tk:=[])
   rw [V.ct_plain rfl,V.ct_plain]at this
   · exact this
   · unfold fzV
     dsimp only
     cases(Nat.beq i id&&capOK n c&&Nat.ble (o+n*sz) cells.length)<;>rfl
 | _=>exact .inl rfl
theorem axe {id sz:Nat}{cells:List V}:∀ {l:List V},fbL id sz (V.cs cells) (V.cs l) (V.cs (l.map (fzV id sz cells)))
 | []=>by rw [List.map_nil,V.cs];trivial
 | v::l=>by rw [List.map_cons,V.cs,V.cs];exact⟨fzV_c,axe⟩
theorem fzF_mem {g:V→V}:∀ {l:List (Nat×Option V)},∀p∈fzF g l,(p.2=none∧(p.1,none)∈l)∨∃v,(p.1,some v)∈l∧p.2=some (g v)
 | [],p,h=>by cases h
 | (i, some v)::l,p,h=>by
   simp only [fzF]at h
   rcases List.mem_cons.1 h with rfl|h
   · exact .inr ⟨v,List.mem_cons_self,rfl⟩
   · rcases fzF_mem p h with⟨h1,h2⟩ | ⟨v',h1,h2⟩
     · exact .inl ⟨h1,List.mem_cons_of_mem _ h2⟩
     · exact .inr ⟨v',List.mem_cons_of_mem _ h1,h2⟩
 | (i, none)::l,p,h=>by
   simp only [fzF]at h
   rcases List.mem_cons.1 h with rfl|h
   · exact .inl ⟨rfl,List.mem_cons_self⟩
   · rcases fzF_mem p h with⟨h1,h2⟩ | ⟨v',h1,h2⟩
     · exact .inl ⟨h1,List.mem_cons_of_mem _ h2⟩
     · exact .inr ⟨v',List.mem_cons_of_mem _ h1,h2⟩
theorem aqY {id:Nat} {g:DObj→DObj}:∀ {l:List Nat}{m:List (Nat×Option DObj)},fzH d id g l=some m→∀p∈m,p.1<16000∧p.1≠id∧∃o,p.2=some (g o)∧d.obj p.1=some o
 | [],m,h,p,hp=>by simp only [fzH,Oi]at h;subst h;cases hp
 | i :: l, m, h,p,hp=>by
   simp only [fzH]at h
   cases hb:Nat.beq i id with
   | true=>rw [hb]at h;cases h
   | false =>
     rw [hb]at h
     simp only [cond_false]at h
     split at h
     · rename_i o ho
       split at h
       · rename_i m' hm
         simp only [Oi]at h;subst h
         rcases List.mem_cons.1 hp with rfl|hp
         · refine ⟨?_,fun e=>?_,o,rfl,ho⟩
           · unfold D.obj at ho
             cases hq:Nat.blt i 16000 with
             | false=>rw [hq]at ho;cases ho
             | true=>rw [Nat.blt_eq]at hq;exact hq
           · simp only at e
             rw [e,Nat.beq_refl]at hb;cases hb
         · exact aqY hm p hp
       · cases h
     · cases h
theorem fzV_inr {id sz:Nat}{cells:List V}{v:V}(h:v.inr):(fzV id sz cells v).inr:=by
 unfold fzV
 split
 · rename_i i off;cases Nat.beq i id<;>trivial
 · rename_i i off len cap;cases(Nat.beq i id&&capOK len cap&&Nat.ble (off+len*sz) cells.length)<;>trivial
 · exact h
theorem dFz1_ok {A:Option Nat}{keep ids toks:List Nat}{id sz':Nat}(E:Exact sh P sz d f h) (hk:dFz1 keep ids toks id sz' d=some d1):∃f1 h1,View A P f h f1 h1∧Exact sh P sz d1 f1 h1:=by
 unfold dFz1 at hk
 obtain⟨hid,hk⟩:=aA hk
 rw [Nat.blt_eq]at hid
 split at hk
 rotate_left
 · cases hk
 rename_i r hr
 split at hk
 rotate_left
 · cases hk
 rename_i cs hcs
 split at hk
 rotate_left
 · cases hk
 rename_i fr hfr
 split at hk
 rotate_left
 · cases hk
 rename_i hp hhp
 split at hk
 rotate_left
 · cases hk
 rename_i tk htk
 obtain⟨hkk,hk⟩:=aA hk
 simp only [Oi]at hk
 subst hk
 obtain⟨rfl,hsh,rfl,ha,hl⟩:=E
 have hsub:∀p∈tk,lookA d.tk p.1=some p.2:=fun p hp=>(dC htk p hp).2
 have hct:=qR hsub hkk
 refine⟨mkD sz (frC tk (fzF (fzV id sz' cs) fr)) d.fr.ds d.fr.rd,_,?_,⟨rfl,hsh,rfl,fun p hp=>?_,fun id els e s h3 hs=>?_⟩⟩
 · unfold D.H
   rw [hct]
   have hrow:=D.row_get hr
   unfold D.H at hrow
   rw [mkH_get hid]at hrow
   refine View.fbD (sz:=sz') id hid hrow (iC hcs).1 (fun p hp=>?_) (fun p hp=>?_) (fun p hp=>?_)
   · simp only [frC,List.mem_map]at hp
     obtain⟨q,hq,rfl⟩:=hp
     rcases fzF_mem q hq with⟨_,h2⟩ | ⟨v,h1,h2⟩
     · obtain⟨_,v',h3,_⟩:=bT hfr _ h2;cases h3
     · obtain ⟨k1,v',k2,k3⟩:=bT hfr _ h1
       cases k2
       refine⟨k1,v.ct d.tk,?_,?_⟩
       · simp only at k3
         simp only [fR,k3,Option.map_some,Option.getD_some]
       · simp only [h2,Option.getD_some];exact aqX
   · simp only [List.mem_map]at hp
     obtain⟨q,hq,rfl⟩:=hp
     obtain⟨k1,k2,o,k3,k4⟩:=aqY hhp q hq
     have hg:=D.obj_get k4
     unfold D.H at hg
     rw [mkH_get k1]at hg
     refine⟨k1,k2,(fzO id sz' cs o).o,by simp only [k3,Option.map_some],?_⟩
     cases o with
     | row r=>exact .inr ⟨_,_,_,_,_,_,hg,rfl,axe⟩
     | _=>exact .inl hg
   · simp only [List.mem_map]at hp
     obtain⟨q,hq,rfl⟩:=hp
     obtain⟨k1,k2⟩:=dC htk q hq
     refine⟨k1,_,rfl,?_⟩
     rw [gO (g:=oO),k2];rfl
 · rcases fzF_mem p hp with⟨_,h2⟩ | ⟨v,h1,h2⟩
   · obtain⟨_,v',h3,_⟩:=bT hfr _ h2;cases h3
   · obtain ⟨k1,v',k2,k3⟩:=bT hfr _ h1
     cases k2
     obtain⟨_,v',k4,k5⟩:=ha _ (bS k3)
     cases k4
     exact⟨k1,_,h2,fzV_inr k5⟩
 · exact hl _ _ _ _ (hsub _ (bS h3)) hs
theorem aql {A:Option Nat}{keep ids toks:List Nat}:∀ {l:List (Nat×Nat)}{d d1:D}{f:EFr}{h:H},Exact sh P sz d f h→dFzL keep ids toks l d=some d1→∃f1 h1,View A P f h f1 h1∧Exact sh P sz d1 f1 h1
 | [],d,d1,f,h,E,hk=>by simp only [dFzL,Oi]at hk;subst hk;exact⟨f,h,View.refl,E⟩
 | (i, s)::l,d,d1,f,h,E,hk=>by
   simp only [dFzL]at hk
   split at hk
   · rename_i d2 h2
     obtain⟨f1,h1,v1,E1⟩:=dFz1_ok E h2
     obtain⟨f2,h2,v2,E2⟩:=aql E1 hk
     exact⟨f2,h2,View.trans v1 v2,E2⟩
   · cases hk
theorem i9 {N:Nat}:∀ {l:List V},b8 N l=true→∀v∈l,aV N v=true
 | [],_,v,hv=>by cases hv
 | u::l,h,v,hv=>by
   rw [b8]at h
   obtain⟨h1,h2⟩:aV N u=true∧b8 N l=true:=by cases hq:aV N u<;>rw [hq]at h<;>first|cases h|exact⟨rfl,h⟩
   rcases List.mem_cons.1 hv with rfl|hv
   · exact h1
   · exact i9 h2 v hv
theorem pB {N:Nat}(l:List (List Nat)) (c:Nat):∀(i:Nat),(Go.Ev.belowO N (.map (uE i l) c))=true:=by
 induction l with
 | nil=>intro i;rfl
 | cons k l ih=>intro i;have:=ih (i+1);simp only [Go.Ev.belowO,uE,List.all_cons,below,Bool.and_self,Bool.true_and]at this ⊢;exact this
theorem pC {N:Nat}(l:List Int) (c:Nat):∀(i:Nat),(Go.Ev.belowO N (.map (uF i l) c))=true:=by
 induction l with
 | nil=>intro i;rfl
 | cons k l ih=>intro i;have:=ih (i+1);simp only [Go.Ev.belowO,uF,List.all_cons,below,Bool.and_self,Bool.true_and]at this ⊢;exact this
def okA (A:Option Nat) (n:Nat):Bool:=match A with
 | none=>true
 | some q=>Nat.ble q n
theorem axB {A:Option Nat}(F:Fits sh P sz d f h) {c:Lab}(hA:okA A c.n=true) (hc:canon c d=some d1):∃f1 h1,View A P f h f1 h1∧Exact sh P sz d1 f1 h1:=by
 unfold canon at hc
 split at hc
 rotate_left
 · cases hc
 rename_i fr1 hf1
 split at hc
 rotate_left
 · cases hc
 rename_i dg hg
 split at hc
 rotate_left
 · cases hc
 rename_i fr2 hf2
 obtain⟨hb,hc⟩:=aA hc
 simp only [Bool.and_eq_true,List.all_eq_true,Nat.blt_eq]at hb
 obtain⟨⟨hb,hbd⟩,hbr⟩:=hb
 split at hc
 rotate_left
 · cases hc
 rename_i hp hh
 split at hc
 rotate_left
 · cases hc
 rename_i tk ht
 obtain⟨hkk,hc⟩:=aA hc
 simp only [Oi]at hc
 subst hc
 obtain⟨v1,E1⟩:=qS (A:=A) F hf1
 split at hg
 rotate_left
 · cases hg
 rename_i d0 hg0
 obtain⟨f20,h20,v20,E20⟩:=gZ (A:=A) E1 hg0
 obtain⟨f2,h2,v21,E2⟩:=aql (A:=A) E20 hg
 have v2:=View.trans v20 v21
 obtain⟨rfl,hsh,rfl,ha,hl⟩:=E2
 have hsub:∀p∈tk,lookA dg.tk p.1=some p.2:=fun p hp=>(dC ht p hp).2
 have hct:=qR hsub hkk
 refine⟨mkD sz (frC tk fr2) dg.fr.ds dg.fr.rd,_,View.trans v1 (View.trans v2 ?_),⟨rfl,hsh,rfl,fun p hp=>?_,fun id els e s h3 hs=>?_⟩⟩
 · unfold D.H
   rw [hct]
   refine View.dropD (fun q hq=>?_) (fun i hi=>hbd i hi) (fun i hi=>?_) (fun p hp=>?_) (fun p hp=>?_) (fun p hp=>?_)
   · subst hq;exact Nat.le_of_ble_eq_true hA
   · rw [hi]at hbr;simpa [axm]using hbr
   · simp only [frC,List.mem_map]at hp
     obtain⟨q,hq,rfl⟩:=hp
     obtain⟨k1,v,k2,k3⟩:=bT hf2 q hq
     obtain⟨v',k4,k5⟩:=pX hb q hq
     rw [k2]at k4;cases k4
     refine⟨k1,?_,?_⟩
     · simp only [fR,k3,Option.map_some,k2,Option.getD_some]
     · simp only [k2,Option.getD_some];exact tT k5 _
   · simp only [List.mem_map]at hp
     obtain⟨q,hq,rfl⟩:=hp
     obtain⟨k1,k2,r,k3,k4,k5⟩:=sZ hh q hq
     refine⟨k1,k2,r.o,by simp only [k3,Option.map_some],?_,?_⟩
     · have:=D.obj_get k4
       unfold D.H at this
       rw [mkH_get k1]at this;exact this
     · cases r with
       | row r=>refine .inl ?_;simp only [DObj.o,DRow.o,Go.Ev.belowO];exact dF k5
       | iter s q=>exact .inl rfl
       | dfr b=>exact .inl rfl
       | sset ks=>exact .inl (pB _ _ _)
       | iset ks=>exact .inl (pC _ _ _)
       | mp es cl=>
         refine .inl ?_
         have k6:(es.all fun e=>aV c.n e.1&&aV c.n e.2.1)=true:=k5
         simp only [DObj.o,Go.Ev.belowO,List.all_map,List.all_eq_true,Function.comp,Bool.and_eq_true]at k6 ⊢
         exact fun e he=>⟨dP (k6 e he).1,dP (k6 e he).2⟩
       | loop st pend n fr ps x y=>
         refine wJ fun p hp=>?_
         simp only [List.mem_map]at hp
         obtain⟨q,hq,rfl⟩:=hp
         have k6:b8 c.n (fr.map (·.2))=true:=k5
         exact dP (i9 k6 _ (List.mem_map_of_mem hq))
   · simp only [List.mem_map]at hp
     obtain⟨q,hq,rfl⟩:=hp
     obtain⟨k1,k2⟩:=dC ht q hq
     refine⟨k1,_,rfl,?_⟩
     rw [gO (g:=oO),k2];rfl
 · obtain ⟨k1,v,k2,k3⟩:=bT hf2 p hp
   obtain⟨_,v',k4,k5⟩:=ha _ (bS k3)
   cases k4
   exact⟨k1,v,k2,k5⟩
 · exact hl _ _ _ _ (hsub _ (bS h3)) hs
end
end Go.Ev
namespace Go.Ev
open Go.RowKit
section
variable {A:Option Nat}{P:Program}{g:G}{K:aH}
def OpsT (A:Option Nat) (P:Program) (g:G) (K:aH) (all:Array Oper) (Q:EFr→H→Prop) (l:List Oper) (f:EFr) (h:H):Prop:=
 ∀(B0:Nat) (W0:eF),GRel B0 W0.w g→KOK P B0 W0 K→∀(js:List Nat),js.map (all[·]?)=l.map some →
  ∀(b:Frame) (t:Array Value) (d:List Deferred) (k:List Item) (cs:List Frame) (ρ:Loc) (w:World),FRel ρ f b t d→HRel P B0 W0 ρ h w →
  ∃f' h',Q f' h'∧∃t' w' ρ',ρ.leA A ρ'∧FRel ρ' f' b t' d∧HRel P B0 W0 ρ' h' w'∧Steps P (lone (fr b t d (.inRegion all js::k)) cs w) (lone (fr b t' d k) cs w')
theorem OpsT.nil {all:Array Oper}{Q:EFr→H→Prop}{f:EFr}{h:H}(hq:Q f h):OpsT A P g K all Q [] f h:=fun B0 W0 G hK js hjs b t d k cs ρ w F R=>by
 obtain rfl:js=[]:=by simpa using hjs
 exact⟨f,h,hq,t,w,ρ,Loc.leA_refl,F,R,.one cG⟩
theorem OpsT.view {all:Array Oper}{Q:EFr→H→Prop}{l:List Oper}{f f2:EFr}{h h2:H}(v:View A P f h f2 h2) (H1:OpsT A P g K all Q l f2 h2):OpsT A P g K all Q l f h:=fun B0 W0 G hK js hjs b t d k cs ρ w F R=>by
 obtain⟨ρ2,l2,F2,R2⟩:=v B0 W0 b t d ρ w F R
 obtain⟨f',h',hQ,t',w',ρ',l',F',R',A'⟩:=H1 B0 W0 G hK js hjs b t d k cs ρ2 w F2 R2
 exact⟨f',h',hQ,t',w',ρ',Loc.leA_trans l2 l',F',R',A'⟩
theorem OpsT.mono {all:Array Oper}{Q Q':EFr→H→Prop}{l:List Oper}{f:EFr}{h:H}(H1:OpsT A P g K all Q l f h) (hq:∀f h,Q f h→Q' f h):OpsT A P g K all Q' l f h:=fun B0 W0 G hK js hjs b t d k cs ρ w F R=>by
 obtain⟨f',h',hQ,rest⟩:=H1 B0 W0 G hK js hjs b t d k cs ρ w F R
 exact⟨f',h',hq _ _ hQ,rest⟩
theorem OpsT.skip {all:Array Oper}{Q:EFr→H→Prop}{o:Oper}{rest:List Oper}{f:EFr}{h:H}(hw:wantedE all f.tmps o=some false) (H1:OpsT A P g K all Q rest (f.putd o.dst undefE) h) :
  OpsT A P g K all Q (o::rest) f h:=fun B0 W0 G hK js hjs b t d k cs ρ w F R=>by
 cases js with
 | nil=>simp at hjs
 | cons i js=>
   simp only [List.map_cons,List.cons.injEq]at hjs
   obtain⟨ho,hjs⟩:=hjs
   obtain⟨f2,h2,hm,t2,w2,ρ2,l2,F2,R2,S2⟩:=H1 B0 W0 G hK js hjs b _ d k cs ρ w (F.put (bA _)) R
   exact⟨f2,h2,hm,t2,w2,ρ2,l2,F2,R2,(Steps.trans (.one (hJ ho (aJ F.tmps hw))) S2)⟩
theorem OpsT.op (hng:fL P) {all:Array Oper}{Q:EFr→H→Prop}{o:Oper}{rest:List Oper}{f:EFr}{h:H}(hw:wantedE all f.tmps o=some true) (hr:ajX P g K o f h fun v h'=>OpsT A P g K all Q rest (f.putd o.dst v) h') :
  OpsT A P g K all Q (o::rest) f h:=fun B0 W0 G hK js hjs b t d k cs ρ w F R=>by
 cases js with
 | nil=>simp at hjs
 | cons i js=>
   simp only [List.map_cons,List.cons.injEq]at hjs
   obtain⟨ho,hjs⟩:=hjs
   have next:∀ {e:EVal} {h':H} {ρ':Loc} {v:Value} {w':World},OpsT A P g K all Q rest (f.putd o.dst e) h'→ρ.le ρ'→VRel ρ' e v→HRel P B0 W0 ρ' h' w' →
     Steps P (lone (fr b t d (.inRegion all (i::js)::k)) cs w) (lone (fr b (kF t o.dst v) d (.inRegion all js::k)) cs w') →
     ∃f' h',Q f' h'∧∃t' w' ρ',ρ.leA A ρ'∧FRel ρ' f' b t' d∧HRel P B0 W0 ρ' h' w'∧Steps P (lone (fr b t d (.inRegion all (i::js)::k)) cs w) (lone (fr b t' d k) cs w'):=by
    intro e h' ρ' v w' hr hle hv R' hst
    obtain⟨f2,h2,hm,t2,w2,ρ2,l2,F2,R2,S2⟩:=hr B0 W0 G hK js hjs b _ d k cs ρ' w' ((F.mono hle).put hv) R'
    exact⟨f2,h2,hm,t2,w2,ρ2,Loc.leA_trans (Loc.leA_of hle) l2,F2,R2,hst.trans S2⟩
   have hwant:=aJ F.tmps hw
   unfold ajX at hr
   split at hr
   · rename_i it hop
     split at hr
     · rename_i l hl
       cases hx:ev f.tmps it with
       | none=>rw [hx]at hl;cases hl
       | some x=>
         rw [hx]at hl
         obtain⟨e,h',u,w',hm,hrun,hv,R'⟩:=fP R o.type (F.erel _ _ hx) hl
         refine next (hr _ hm) (Loc.le_refl _) hv R' (.one (bX ho hwant (fun c hc=>by rw [hop]at hc;cases hc) ?_))
         unfold execOp
         rw [hop]
         simp only [Sem.run_bind]
         rw [hrun]
         rfl
     · exact hr.elim
   · unfold p9 at hr
     split at hr
     · rename_i v h' hop
       obtain⟨w',ρ',hle,R',hres⟩:=bG hng G R F.erel hop
       rcases hres with⟨u,hrun,hv⟩ | ⟨hrun,rfl⟩
       · exact next hr hle hv R' (.one (bX ho hwant (aD hop) hrun))
       · exact next hr hle (bA _) R' (.one (jL ho hwant (aD hop) hrun))
     · rename_i fn args h' hop
       obtain⟨rfl,vs,hrun,hvs⟩:=bG hng G R F.erel hop
       split at hr
       · rename_i v hk
         obtain⟨e1,w1,fr1,⟨u,ρ',rfl,hle,hv,R'⟩,hcomes,hfn,hleave⟩:=fT hK R hk hvs (fr b t d (.inRegion all (i::js)::k)::cs)
         refine next hr hle hv R' ?_
         refine .head (fN ho hwant (aD hop) hrun) (Steps.trans hcomes (.one ?_))
         rw [←aT ho]
         exact step_leave_returned hleave
       · obtain ⟨e1,w1,fr1,⟨v,h2,u,ρ',hk2,rfl,hle,hv,R'⟩,hcomes,hfn,hleave⟩:=hr B0 W0 G hK _ ρ w hvs R (fr b t d (.inRegion all (i::js)::k)::cs)
         refine next hk2 hle hv R' ?_
         refine .head (fN ho hwant (aD hop) hrun) (Steps.trans hcomes (.one ?_))
         rw [←aT ho]
         exact step_leave_returned hleave
     · rename_i id args h' hop
       obtain⟨rfl,l,C,vs,hid,hrun,hvs⟩:=bG hng G R F.erel hop
       obtain⟨v,h2,u,ρ',w',f0,tm,x,y,hk2,hy,hle,hv,R',hsteps⟩:=hr B0 W0 G hK l C vs ρ w (fr b t d (.inRegion all (i::js)::k)) cs hid hvs R
       refine next hk2 hle hv R' ?_
       refine .head (qB ho hwant (aD hop) (by rw [hrun];exact hy)) ?_
       rw [←aT ho]
       exact hsteps
     · cases hnd:ndOp P f.tmps o with
       | false=>rw [hnd]at hr;exact hr.elim
       | true=>
         rw [hnd]at hr
         unfold ndOp at hnd
         split at hnd
         rotate_left
         · cases hnd
         rename_i ty x y z hop2
         have hx:=F.erel x
         have hy:=F.erel y
         generalize ev f.tmps x=ex at hnd hx
         generalize ev f.tmps y=ey at hnd hy
         unfold ndEq at hnd
         split at hnd
         rotate_left
         · cases hnd
         split at hnd
         rotate_left
         · cases hnd
         rename_i el hk
         obtain⟨q,hq⟩:=wN (hx _ rfl) (hy _ rfl) hk w (x:=x) (y:=y)
         refine next (hr q) (Loc.le_refl _) (.bool q) R (.one (bX ho hwant (fun c hc=>by rw [hop2]at hc;cases hc) ?_))
         unfold execOp
         rw [hop2]
         simp only [Sem.run_bind]at hq ⊢
         rw [hq]
         rfl
theorem Top.ops {id:Nat}{ops:Array Oper}{f:EFr}{h:H}{Q:dG}(hw:OpsT A P g K ops (fun f' h'=>Q .normal f' h') ops.toList f h):Top A P g K (.region id ops false) f h Q:=fun B0 W0 G hK b t d k cs ρ w F R=>by
 obtain ⟨f',h',hq,t',w',ρ',hle,F',R',hst⟩:=hw B0 W0 G hK (List.range ops.size) (by
   apply List.ext_getElem?
   intro i
   simp only [List.getElem?_map]
   by_cases hi:i<ops.size
   · rw [List.getElem?_range hi];simp [hi]
   · rw [List.getElem?_eq_none (by simpa using Nat.le_of_not_lt hi),List.getElem?_eq_none (by simpa using Nat.le_of_not_lt hi)];rfl) b t d k cs ρ w F R
 exact⟨.normal,f',h',hq,t',d,w',ρ',hle,F',R',.head m6 hst⟩
end
end Go.Ev
namespace Go.Ev
open Go.RowKit
end Go.Ev
namespace Go.Ev
open Go.RowKit
theorem View.sameH {A:Option Nat}{P:Program}{f:EFr}{n m:Nat}{l l2:List (Nat×Option bR)}{k:List (Nat×Option (Nat×TypeId))}(hl:∀p∈l2,p.1<16000∧∃o,p.2=some o∧lookG l p.1=some o):View A P f (mkH n l m k) f (mkH n l2 m k):=by
 intro B0 W0 b t d ρ w F R
 have hget:∀id o,(mkH n l2 m k).get id=some o→(mkH n l m k).get id=some o:=by
  intro id o hg
  obtain⟨h1,o',h3,h4⟩:=hl _ (T.ofG_mem hg)
  simp only [Oi]at h3
  subst h3
  rw [mkH_get h1];exact h4
 exact⟨ρ,Loc.leA_refl,F,R.below,R.base,R.dom,R.lo,fun a b o1 o2 b' C C' g1 g2=>R.inj a b o1 o2 b' C C' (hget _ _ g1) (hget _ _ g2),fun id o hg=>R.objs id o (hget _ _ hg),R.fz,fun b' pre hb' id C o hg=>R.free b' pre hb' id C o (hget _ _ hg),R.fz0,R.mdom,R.toks,R.tnew,R.tinj⟩
end Go.Ev
namespace Go.Ev
open Go.RowKit
section
variable {P:Program}{g:G}{K:aH}
end
end Go.Ev
namespace Go.Ev
open Go.RowKit
end Go.Ev
namespace Go.Ev
open Go.RowKit
end Go.Ev
namespace Go.Ev
open Go.RowKit
end Go.Ev
namespace Go.Ev
open Go.RowKit
section
variable {A:Option Nat}{P:Program}
theorem View.retell {s:Nat}{fl fl2:List (Nat×EVal)}{ds:List Nat}{r:Option Nat}{h:H}(hf:∀p∈fl2,p.1<1000∧∃v,look fl p.1=some v∧∀ρ u,VRel ρ v u→VRel ρ p.2 u) :
  View A P (mkD s fl ds r) h (mkD s fl2 ds r) h:=by
 intro B0 W0 b t d ρ w F R
 refine⟨ρ,Loc.leA_refl,⟨F.size,fun j v hv=>?_,F.defers,F.round⟩,R⟩
 obtain⟨h1,v0,h3,h4⟩:=hf _ (eI hv)
 exact h4 _ _ (F.tmps j v0 (by show(T.ofL fl).get j=_;rw [T.get_ofL _ _ h1];exact h3))
theorem View.bump {f:EFr}{n m:Nat}{l:List (Nat×Option bR)}{k:List (Nat×Option (Nat×TypeId))}:View A P f (mkH n l m k) f (mkH (n+1) l m k):=by
 intro B0 W0 b t d ρ w F R
 exact⟨ρ,Loc.leA_refl,F,R.below,R.base,fun id h=>R.dom id (by have h:n+1≤id:=h;show n≤id;omega),R.lo,R.inj,R.objs,R.fz,R.free,R.fz0,R.mdom,R.toks,R.tnew,R.tinj⟩
theorem pQ {ρ:Loc}{u:Value}{v:EVal}(hv:v=.nilslice∨∃id off c,v=.slice id off 0 (.exact c)) (h:VRel ρ v u):VRel ρ (.lsl []) u:=by
 rcases hv with rfl|⟨id,off,c,rfl⟩
 · cases h;exact .lsln
 · cases h with|slice _ _ _ c b C hb=>exact .lsl0 _ _
end
noncomputable section
def axg (d:D):V→Bool
 | .nils=>true
 | .sl id 0 0 (.exact 0)=>match d.row id with
   | some r=>match r.cells with
     | []=>true
     | _=>false
   | none=>false
 | _=>false
def yD (P:Program) (e:TypeId) (inf:TypeInfo):Bool:=match bJ P e with
 | some z=>z.length==inf.size&&Nat.ble 1 inf.bytes&&!Nat.beq inf.size 0
 | none=>false
def ajw (P : Program) (d:D) (o:Oper):Option (V×Nat×Nat):=match o.op with
 | .call c => match c.callee with
   | .builtin .append=>match c.argTypes.toList with
     | t :: t2 :: _=>match P.underlying t with
       | some (.slice e)=>match P.underlying t2 with
         | some (.slice _)=>match P.info? e with
           | some inf=>match axj d c.args.toList with
             | some [s,x]=>bif axg d s&&yD P e inf then match dB inf.size x with
               | some n=>some (x,n,inf.bytes)
               | none=>none
               else none
             | _=>none
           | none=>none
         | _=>none
       | _=>none
     | _=>none
   | _=>none
 | _=>none
variable {P:Program}{g:G}{K:aH}{A:Option Nat}{sh:List (List (Nat×V))}{sz:Nat}{d:D}{f:EFr}{h:H}
theorem aqr (F:Fits sh P sz d f h) {o:Oper}{x:V}{n b:Nat}(hk:ajw P d o=some (x,n,b)) (hb:Nat.ble (b*n) 1000000=true) :
  ∃ rows e,x.c=.lsl rows∧rows.length=n∧(∀r∈rows,r.length≠0∧keepL r=some r)∧(∃q,∀r∈rows,r.length=q)∧x.plain=true∧x.inr ∧
   ((rows=[]∧∃v,(v=.nilslice∨∃id off c,v=.slice id off 0 (.exact c))∧eOp P g d.H f.tmps o=some (.val v d.H)) ∨
    (rows=[]∧∃id r off c,d.row id=some r∧eOp P g d.H f.tmps o=some (.val (.slice id off 0 (.exact c)) (d.H.put id r.o))) ∨
    (rows≠[]∧eOp P g d.H f.tmps o=some (.val (.slice d.n 0 n (.slack 0)) (d.H.new (.row rows.flatten e 0 0 true))))):=by
 unfold ajw at hk
 split at hk<;>try (cases hk;done)
 rename_i c hop
 split at hk<;>try (cases hk;done)
 rename_i hcal
 split at hk<;>try (cases hk;done)
 rename_i t t2 tl hty
 split at hk<;>try (cases hk;done)
 rename_i e hu
 split at hk<;>try (cases hk;done)
 rename_i e2 hu2
 split at hk<;>try (cases hk;done)
 rename_i inf hinf
 split at hk<;>try (cases hk;done)
 rename_i s y hevs
 obtain⟨hc,hk⟩:=aA hk
 rw [Bool.and_eq_true]at hc
 obtain⟨hes,hgz⟩:=hc
 split at hk<;>try (cases hk;done)
 rename_i n' hkl
 simp only [Oi,Prod.mk.injEq]at hk
 obtain⟨rfl,rfl,rfl⟩:=hk
 obtain⟨rows,hx,hlen,hrows,hpl,hin⟩:=iB hkl
 have hev:=oF F hevs
 simp only [V.cts,List.map_cons,List.map_nil,V.ct_plain hpl]at hev
 have hgr:aI P e inf.size inf.bytes n'=true:=by
  unfold yD at hgz
  unfold aI
  split at hgz
  · rename_i z hz
    rw [hz]
    rw [Bool.and_eq_true,Bool.and_eq_true]at hgz
    rw [Bool.and_eq_true,Bool.and_eq_true]
    exact⟨hgz.1,hb⟩
  · cases hgz
 have hs0:inf.size≠0:=by
  unfold yD at hgz
  split at hgz
  · rw [Bool.and_eq_true]at hgz
    intro e0
    rw [e0]at hgz
    exact absurd hgz.2 (by decide)
  · cases hgz
 have hlo:aL inf.size rows=true:=by
  unfold aL
  rw [List.all_eq_true]
  exact fun r hr=>by rw [(hrows r hr).1];simp
 have hsrc:srcCells d.H inf.size y.c=some (rows.flatten,n'):=by rw [hx];simp only [srcCells];rw [if_pos hlo,hlen]
 have hop2:∀v,s.ct d.tk=v→eOp P g d.H f.tmps o=(match eAppend P d.H t v y.c with|some (v,h')=>some (.val v h')|none=>none):=by
  intro v hv
  rw [hv]at hev
  simp only [eOp,hop,hev,hcal,eCall,eCallB,hty,eBuiltin,hu2]
  rfl
 have happ:∀v,eAppend P d.H t v y.c=(match v with
    | .nilslice=>if n'=0 then some (.nilslice,d.H)else eGrow P d.H e inf.size inf.bytes [] rows.flatten n'
    | .zsl=>eN P d.H e inf.size inf.bytes rows.flatten n'
    | .zslt id=>f6 P d.H e inf.size inf.bytes id rows.flatten n'
    | .slice id off len (.exact c)=>eAppendX P d.H e inf.size inf.bytes id off len c rows.flatten n'
    | .slice id 0 len (.slack 0)=>eAppendS P d.H e inf.size inf.bytes id len rows.flatten n'
    | .gsl id els=>eAppendG P d.H e inf.size inf.bytes id els rows.flatten n'
    | _=>none):=by
  intro v
  simp only [eAppend,hu,hinf,hsrc]
  rfl
 refine⟨rows,e,hx,hlen,fun r hr=>⟨by rw [(hrows r hr).1];exact hs0,(hrows r hr).2⟩,⟨_,fun r hr=>(hrows r hr).1⟩,hpl,hin,?_⟩
 have hnr:rows=[]↔n'=0:=by rw [←hlen];exact List.length_eq_zero_iff.symm
 unfold axg at hes
 split at hes<;>try (cases hes;done)
 · have hv:(V.nils).ct d.tk=.nilslice:=by simp only [V.ct,V.c]
   by_cases h0:rows=[]
   · refine .inl ⟨h0,.nilslice,.inl rfl,?_⟩
     rw [hop2 _ hv,happ]
     simp only [hnr.1 h0,if_true]
   · refine .inr (.inr ⟨h0,?_⟩)
     rw [hop2 _ hv,happ]
     simp only [if_neg (fun e0=>h0 (hnr.2 e0)),eGrow,hgr,if_true,List.nil_append]
     rfl
 · rename_i id
   have hv:(V.sl id 0 0 (.exact 0)).ct d.tk=.slice id 0 0 (.exact 0):=by simp only [V.ct,V.c]
   split at hes<;>try (cases hes;done)
   rename_i r hr
   split at hes<;>try (cases hes;done)
   rename_i hcells
   have hg:=D.row_get hr
   simp only [DRow.o,hcells,V.cs]at hg
   by_cases h0:rows=[]
   · refine .inr (.inl ⟨h0,id,r,0,0,hr,?_⟩)
     rw [hop2 _ hv,happ]
     have hn0:=hnr.1 h0
     simp only [eAppendX,hn0,h0,List.flatten_nil,Nat.zero_mul,Nat.add_zero,Nat.le_refl,if_true,eStoreCells,hg,List.length_nil,allOne,and_self,DRow.o,hcells,V.cs,setRange,List.take_nil,List.drop_nil,List.append_nil]
   · refine .inr (.inr ⟨h0,?_⟩)
     rw [hop2 _ hv,happ]
     have hn0:n'≠0:=fun e0=>h0 (hnr.2 e0)
     simp only [eAppendX]
     rw [if_neg (by omega)]
     simp only [srcCells,hg,takeN,Nat.zero_mul,List.drop_nil,List.take_nil,List.length_nil,if_true,eGrow,Nat.zero_add,hgr,List.nil_append]
     rfl
def ajv (P : Program) (d:D) (o:Oper):Option (V×Nat×Nat):=match o.op with
 | .call c => match c.callee with
   | .builtin .append=>match c.argTypes.toList with
     | t :: t2 :: _=>match P.underlying t with
       | some (.slice e)=>match P.underlying t2 with
         | some (.slice _)=>match P.info? e with
           | some inf=>match axj d c.args.toList with
             | some [.raw .zsl,x]=>bif Nat.ble 128 (d.m % 1024)&&yD P e inf then match dB inf.size x with
               | some n=>some (x,n,inf.bytes)
               | none=>none
               else none
             | _=>none
           | none=>none
         | _=>none
       | _=>none
     | _=>none
   | _=>none
 | _=>none
theorem tN (F:Fits sh P sz d f h) {o:Oper}{x:V}{n b:Nat}(hk:ajv P d o=some (x,n,b)) (hb:Nat.ble (b*n) 1000000=true) :
  eOp P g d.H f.tmps o=some (.val x.c d.H)∧x.plain=true∧x.inr∧isPure o=false∧isStill o d.H x.c=true:=by
 unfold ajv at hk
 split at hk<;>try (cases hk;done)
 rename_i c hop
 split at hk<;>try (cases hk;done)
 rename_i hcal
 split at hk<;>try (cases hk;done)
 rename_i t t2 tl hty
 split at hk<;>try (cases hk;done)
 rename_i e hu
 split at hk<;>try (cases hk;done)
 rename_i e2 hu2
 split at hk<;>try (cases hk;done)
 rename_i inf hinf
 split at hk<;>try (cases hk;done)
 rename_i y hevs
 obtain⟨hc,hk⟩:=aA hk
 rw [Bool.and_eq_true]at hc
 obtain⟨hm,hgz⟩:=hc
 split at hk<;>try (cases hk;done)
 rename_i n' hkl
 simp only [Oi,Prod.mk.injEq]at hk
 obtain⟨rfl,rfl,rfl⟩:=hk
 obtain⟨rows,hx,hlen,hrows,hpl,hin⟩:=iB hkl
 have hev:=oF F hevs
 simp only [V.cts,List.map_cons,List.map_nil,V.ct_plain hpl]at hev
 have hz:(V.raw .zsl).ct d.tk=.zsl:=by simp only [V.ct,V.c]
 rw [hz]at hev
 have hgr:aI P e inf.size inf.bytes n'=true:=by
  unfold yD at hgz
  unfold aI
  split at hgz
  · rename_i z hz
    rw [hz]
    rw [Bool.and_eq_true,Bool.and_eq_true]at hgz
    rw [Bool.and_eq_true,Bool.and_eq_true]
    exact⟨hgz.1,hb⟩
  · cases hgz
 have hs0:inf.size≠0:=by
  unfold yD at hgz
  split at hgz
  · rw [Bool.and_eq_true]at hgz
    intro e0
    rw [e0]at hgz
    exact absurd hgz.2 (by decide)
  · cases hgz
 have hlo:aL inf.size rows=true:=by
  unfold aL
  rw [List.all_eq_true]
  exact fun r hr=>by rw [(hrows r hr).1];simp
 have hsrc:srcCells d.H inf.size y.c=some (rows.flatten,n'):=by rw [hx];simp only [srcCells];rw [if_pos hlo,hlen]
 have hfz:d.H.fz=true:=by rw [show d.H.fz=decide (128≤d.m % 1024)from rfl];rw [Nat.ble_eq]at hm;exact decide_eq_true hm
 have hfl:rows.flatten.length=n'*inf.size:=by
  rw [←hlen]
  have:∀ {l:List (List EVal)},(∀r∈l,r.length=inf.size)→l.flatten.length=l.length*inf.size:=by
   intro l
   induction l with
   | nil=>intro _;simp
   | cons a l ih=>intro h;rw [List.flatten_cons,List.length_append,h a List.mem_cons_self,ih fun r hr=>h r (List.mem_cons_of_mem _ hr),List.length_cons,Nat.succ_mul,Nat.add_comm]
  exact this fun r hr=>(hrows r hr).1
 have happ:eAppend P d.H t .zsl y.c=some (y.c,d.H):=by
  simp only [eAppend,hu,hinf,hsrc,eN,hfz,cK fun r hr=>(hrows r hr).2]
  rw [if_pos ⟨hfl,hgr⟩,←hlen,cP fun r hr=>(hrows r hr).1,hx]
 refine⟨?_,hpl,hin,?_,?_⟩
 · simp only [eOp,hop,hev,hcal,eCall,eCallB,hty,eBuiltin,hu2,happ]
 · unfold isPure;rw [hop]
 · unfold isStill;rw [hop];simp only [hcal,hx,EVal.kept]
theorem View.unput {f:EFr}{n m id:Nat}{o:bR}{l:List (Nat×Option bR)}{k:List (Nat×Option (Nat×TypeId))}(hid:id<16000) (hg:lookG l id=some o):View A P f (mkH n ((id,some o)::l) m k) f (mkH n l m k):=by
 intro B0 W0 b t d ρ w F R
 have hget:∀q e,(mkH n l m k).get q=some e→(mkH n ((id,some o)::l) m k).get q=some e:=by
  intro q e he
  by_cases hq:q=id
  · subst hq
    rw [mkH_get hid]at he ⊢
    rw [hg]at he
    rw [lookG.eq_2,if_pos rfl];exact he
  · show ((T.ofG 14 l).set id (some o)).get q=some e
    rw [T.get_set_ne _ _ _ _ hq];exact he
 exact⟨ρ,Loc.leA_refl,F,R.below,R.base,R.dom,R.lo,fun a b o1 o2 b' C C' g1 g2=>R.inj a b o1 o2 b' C C' (hget _ _ g1) (hget _ _ g2),fun id o hg=>R.objs id o (hget _ _ hg),R.fz,fun b' pre hb' id C o hg=>R.free b' pre hb' id C o (hget _ _ hg),R.fz0,R.mdom,R.toks,R.tnew,R.tinj⟩
def memN (x:Nat):List Nat→Bool
 | []=>false
 | y::l=>bif Nat.beq x y then true else memN x l
def ajc:List (Nat×Option V)→List Nat→List Nat
 | [],_=>[]
 | (i,v)::l,seen=>bif memN i seen||Nat.ble 1000 i then ajc l seen else match v with
   | some _=>i::ajc l (i::seen)
   | none=>ajc l (i::seen)
def ajb:List (Nat×Option DObj)→List Nat→List Nat
 | [],_=>[]
 | (i,v)::l,seen=>bif memN i seen then ajb l seen else match v with
   | some _=>i::ajb l (i::seen)
   | none=>ajb l (i::seen)
def keysK:List (Nat×(List (List V)×TypeId))→List Nat→List Nat
 | [],_=>[]
 | (i,_)::l,seen=>bif memN i seen then keysK l seen else i::keysK l (i::seen)
def aqI (d:D):List Nat→Option (List (Nat×Option DObj))
 | []=>some []
 | i :: l=>bif Nat.blt i d.n then match d.obj i with
   | some r=>match aqI d l with
     | some m=>some ((i,some r)::m)
     | none=>none
   | none=>none
   else none
theorem sV:∀ {l:List Nat}{m:List (Nat×Option DObj)},aqI d l=some m→∀p∈m,p.1<16000∧p.1<d.n∧∃r,p.2=some r∧d.obj p.1=some r
 | [],m,h,p,hp=>by simp only [aqI,Oi]at h;subst h;cases hp
 | i :: l, m,h,p,hp=>by
   simp only [aqI]at h
   obtain⟨hc,h⟩:=aA h
   rw [Nat.blt_eq]at hc
   split at h
   · rename_i r hr
     split at h
     · rename_i m' hm
       simp only [Oi]at h;subst h
       rcases List.mem_cons.1 hp with rfl|hp
       · refine ⟨?_,hc,r,rfl,hr⟩
         unfold D.obj at hr
         cases hq:Nat.blt i 16000 with
         | false=>rw [hq]at hr;cases hr
         | true=>rw [Nat.blt_eq]at hq;exact hq
       · exact sV hm p hp
     · cases h
   · cases h
def aqw (d:D):Option D:=match oQ d.fr.l (ajc d.fr.l [])with
 | some fr=>match aqI d (ajb d.hp [])with
   | some hp=>match uW d (keysK d.tk [])with
     | some tk=>bif sY tk fr then some ⟨⟨fr,d.fr.ds,d.fr.rd,d.fr.sh⟩,d.n,hp,d.m,tk⟩else none
     | none=>none
   | none=>none
 | none=>none
structure Cln (sh:List (List (Nat×V))) (P:Program) (sz:Nat) (d:D) (f:EFr) (h:H):Prop extends Exact sh P sz d f h where
 hpU:∀p∈d.hp,p.1<16000∧p.1<d.n∧∃r,p.2=some r∧lookA d.hp p.1=some (some r)
 tkU:∀p∈d.tk,p.1<250∧lookA d.tk p.1=some p.2
 frU:∀p∈d.fr.l,lookA d.fr.l p.1=some p.2
theorem qP {α:Type}{l:List (Nat×α)}{g:Nat→α→Prop}(hg:∀i a b,g i a→g i b→a=b) (hl:∀p∈l,g p.1 p.2):∀p∈l,lookA l p.1=some p.2:=by
 intro p hp
 cases hq:lookA l p.1 with
 | none =>
   exfalso
   clear hl
   induction l with
   | nil=>cases hp
   | cons a l ih=>
     obtain⟨j,w⟩:=a
     simp only [lookA]at hq
     cases hb:Nat.beq j p.1 with
     | true=>rw [hb]at hq;cases hq
     | false=>
       rw [hb]at hq
       rcases List.mem_cons.1 hp with rfl|hp
       · simp only at hb;rw [Nat.beq_refl]at hb;cases hb
       · exact ih hp hq
 | some x=>exact congrArg some (hg _ _ _ (hl _ (bS hq)) (hl p hp))
theorem axA (F:Fits sh P sz d f h) {d1:D}(hc:aqw d=some d1):∃f1 h1,View A P f h f1 h1∧Cln sh P sz d1 f1 h1∧d1.n=d.n:=by
 unfold aqw at hc
 split at hc
 rotate_left
 · cases hc
 rename_i fr hfr
 split at hc
 rotate_left
 · cases hc
 rename_i hp hhp
 split at hc
 rotate_left
 · cases hc
 rename_i tk htk
 obtain⟨hkk,hc⟩:=aA hc
 simp only [Oi]at hc
 subst hc
 have hsub:∀p∈tk,lookA d.tk p.1=some p.2:=fun p hp=>(dC htk p hp).2
 have hct:=qR hsub hkk
 obtain⟨v1,E1⟩:=qS (A:=A) F hfr
 have hh:=F.heap
 subst hh
 have hgo:∀p∈hp,p.1<16000∧p.1<d.n∧∃r,p.2=some r∧d.obj p.1=some r:=fun p hp=>sV hhp p hp
 refine⟨_,mkH d.n (hp.map fun p=>(p.1,p.2.map DObj.o)) d.m (tk.map fun p=>(p.1,some (oO p.2))),View.trans v1 ?_,⟨⟨by rw [hct],F.sh,rfl,E1.all,fun id els e s h3 hs=>F.lens _ _ _ _ (hsub _ (bS h3)) hs⟩,fun p hp'=>?_,fun p hp'=>?_,?_⟩,rfl⟩
 · have v2:View A P (mkD sz (frC d.tk fr) d.fr.ds d.fr.rd) d.H (mkD sz (frC d.tk fr) d.fr.ds d.fr.rd) (mkH d.n (hp.map fun p=>(p.1,p.2.map DObj.o)) d.m (d.tk.map fun p=>(p.1,some (oO p.2)))):=by
    refine View.sameH fun p hp'=>?_
    simp only [List.mem_map]at hp'
    obtain⟨q,hq,rfl⟩:=hp'
    obtain⟨k1,k2,r,k3,k4⟩:=hgo q hq
    refine⟨k1,r.o,by simp only [k3,Option.map_some],?_⟩
    have:=D.obj_get k4
    unfold D.H at this
    rw [mkH_get k1]at this;exact this
   refine View.trans v2 ?_
   intro B0 W0 b t d' ρ w F' R
   have hk:∀q x,(mkH d.n (hp.map fun p=>(p.1,p.2.map DObj.o)) d.m (tk.map fun p=>(p.1,some (oO p.2)))).k.get q=some x→(mkH d.n (hp.map fun p=>(p.1,p.2.map DObj.o)) d.m (d.tk.map fun p=>(p.1,some (oO p.2)))).k.get q=some x:=by
    intro q x hq
    have hm:=T.ofG_mem hq
    simp only [List.mem_map]at hm
    obtain⟨y,hy,e⟩:=hm
    simp only [Prod.mk.injEq,Oi]at e
    obtain⟨rfl,rfl⟩:=e
    obtain⟨k1,k2⟩:=dC htk y hy
    rw [mkH_k k1,gO (g:=oO),k2];rfl
   exact⟨ρ,Loc.leA_refl,F',R.below,R.base,R.dom,R.lo,R.inj,R.objs,R.fz,R.free,R.fz0,R.mdom,fun i n e hg=>R.toks i n e (hk _ _ hg),fun i n e hg=>R.tnew i n e (hk _ _ hg),fun i n e j m q b C C' h1 h2=>R.tinj i n e j m q b C C' (hk _ _ h1) (hk _ _ h2)⟩
 · obtain ⟨k1,k2,r,k3,k4⟩:=hgo p hp'
   refine⟨k1,k2,r,k3,?_⟩
   rw [←k3]
   exact qP (g:=fun i (a:Option DObj)=>∃r,a=some r∧d.obj i=some r) (fun i a b ⟨r1,e1,e2⟩ ⟨r2,e3,e4⟩=>by rw [e2]at e4;cases e4;rw [e1,e3]) (fun q hq=>(hgo q hq).2.2) p hp'
 · exact⟨(dC htk p hp').1,qP (g:=fun i a=>lookA d.tk i=some a) (fun i a b e1 e2=>by rw [e1]at e2;cases e2;rfl) hsub p hp'⟩
 · exact qP (g:=fun i (a:Option V)=>∃v,a=some v∧lookA d.fr.l i=some (some v)) (fun i a b ⟨r1,e1,e2⟩ ⟨r2,e3,e4⟩=>by rw [e2]at e4;cases e4;rw [e1,e3]) (fun q hq=>(bT hfr q hq).2)
theorem Cln.lookf {d:D}{f:EFr}{h:H}(E:Cln sh P sz d f h):∀p∈frC d.tk d.fr.l,p.1<1000∧look (frC d.tk d.fr.l) p.1=some p.2:=by
 intro p hp
 simp only [frC,List.mem_map]at hp
 obtain⟨q,hq,rfl⟩:=hp
 obtain⟨k1,v,k2,_⟩:=E.all q hq
 exact⟨k1,by rw [fR,E.frU q hq];rfl⟩
def axi {R : Type} (C:Cfg R) (sz:Nat) (all:Array Oper):List Oper→D→(D→Option R)→Option R
 | [],d,kk=>kk d
 | o :: rest,d,kk=>tK all d o (fun d=>match ajw C.P d o with
   | some _ => match aqw d with
     | some d=>match tK all d o (fun _=>some true) (fun _=>some false)with
       | some true=>match ajw C.P d o with
         | some (x,n,b)=>match o.dst with
           | some i=>cond (Nat.ble (b*n) 1000000) (bif Nat.blt i sz&&Nat.blt i 1000&&Nat.blt d.n 16000 then axi C sz all rest { d with fr:=⟨(i,some x)::d.fr.l,d.fr.ds,d.fr.rd,d.fr.sh⟩,n:=d.n+1 } kk else none) none
           | none=>none
         | none=>none
       | _=>none
     | none=>none
   | none=>match ajv C.P d o with
     | some (x,n,b)=>cond (Nat.ble (b*n) 1000000) (aqi sz d o.dst x fun d2=>axi C sz all rest d2 kk) none
     | none=>dOp C d o fun v d'=>aqi sz d' o.dst v fun d2=>axi C sz all rest d2 kk) (fun d=>aqi sz d o.dst gC fun d2=>axi C sz all rest d2 kk)
theorem gY {R : Type} {C:Cfg R}{r:R}{sz:Nat}(hng:fL C.P) (CO:CfgOK C K) {all:Array Oper}:∀ {l:List Oper}{d:D}{f:EFr}{h:H}{kk:D→Option R},Fits sh C.P sz d f h→axi C sz all l d kk=some r →
  OpsT A C.P C.g K all (fun f' h'=>∃d',Fits sh C.P sz d' f' h'∧kk d'=some r) l f h
 | [],d,f,h,kk,F,hk=>OpsT.nil ⟨d,F,hk⟩
 | o :: rest, d, f,h,kk,F0,hk=>by
   unfold axi at hk
   obtain⟨d0,F,hk|hk⟩:=oE F0 hk
   · obtain ⟨hw, hk⟩:=hk
     split at hk
     · split at hk
       rotate_left
       · cases hk
       rename_i d1 hcl
       split at hk
       rotate_left
       · cases hk
       rename_i hgd
       split at hk
       rotate_left
       · cases hk
       rename_i x n b hap
       split at hk
       rotate_left
       · cases hk
       rename_i i hi
       obtain⟨hb,hk⟩:=aA hk
       obtain⟨hs,hk⟩:=aA hk
       rw [Bool.and_eq_true,Bool.and_eq_true,Nat.blt_eq,Nat.blt_eq,Nat.blt_eq]at hs
       obtain⟨⟨hs1,hs2⟩,hn16⟩:=hs
       obtain⟨f1,h1,v1,E,hn1⟩:=axA (A:=A) F hcl
       refine OpsT.view v1 ?_
       have F1:=E.fits
       obtain⟨_,_,⟨hw1,_⟩ | ⟨_,hw2⟩⟩:=oE (R:=Bool) F1 hgd
       rotate_left
       · cases hw2
       obtain⟨rows,e,hx,hlen,hrows,⟨q,hq⟩,hpl,hin,hcase⟩:=aqr (g:=C.g) F1 hap hb
       obtain⟨hfr,hh⟩:f1=mkD sz (frC d1.tk d1.fr.l) d1.fr.ds d1.fr.rd∧h1=d1.H:=⟨E.fr,E.heap⟩
       subst hfr
       subst hh
       have hput:∀v:EVal,(mkD sz (frC d1.tk d1.fr.l) d1.fr.ds d1.fr.rd).putd o.dst v=mkD sz ((i,v)::frC d1.tk d1.fr.l) d1.fr.ds d1.fr.rd:=by
        intro v
        rw [hi,mkD_putd hs1]
       let fl:=(frC d1.tk d1.fr.l).filter (fun p=>!Nat.beq p.1 i)
       have hfl:∀(v:EVal),∀p∈fl,p.1<1000∧look ((i,v)::frC d1.tk d1.fr.l) p.1=some p.2:=by
        intro v p hp
        obtain⟨hp1,hp2⟩:=List.mem_filter.1 hp
        have hne:i≠p.1:=fun e0=>by rw [←e0,Nat.beq_refl]at hp2;cases hp2
        obtain⟨k1,k2⟩:=E.lookf p hp1
        exact⟨k1,by simp only [look];rw [if_neg hne];exact k2⟩
       have hlooki:∀v:EVal,look ((i,v)::frC d1.tk d1.fr.l) i=some v:=fun v=>by simp only [look,if_true]
       have fin : Fits sh C.P sz { d1 with fr:=⟨(i,some x)::d1.fr.l,d1.fr.ds,d1.fr.rd,d1.fr.sh⟩,n:=d1.n+1 } (mkD sz ((i,x.c)::fl) d1.fr.ds d1.fr.rd) (mkH (d1.n+1) (d1.hp.map fun p=>(p.1,p.2.map DObj.o)) d1.m (d1.tk.map fun p=>(p.1,some (oO p.2)))):=by
        refine⟨rfl,rfl,rfl,fun j hj=>T.has_ofL _ _ hj,fun j v hj hv=>?_,fun j v hv=>?_,E.sh,rfl,E.lens⟩
        · show (T.ofL _).get j=_
          rw [T.get_ofL _ _ hj]
          simp only [lookA]at hv
          simp only [look]
          cases hb2:Nat.beq i j with
          | true=>
            rw [hb2]at hv
            simp only [cond_true,Oi]at hv
            subst hv
            rw [if_pos (Nat.eq_of_beq_eq_true hb2),V.ct_plain hpl]
          | false =>
            rw [hb2]at hv
            have hne:i≠j:=fun e0=>by rw [e0,Nat.beq_refl]at hb2;cases hb2
            rw [if_neg hne]
            have : ∀l:List (Nat×EVal),look (l.filter (fun p=>!Nat.beq p.1 i)) j=look l j:=by
             intro l
             induction l with
             | nil=>rfl
             | cons p l ih=>
               obtain⟨a,w⟩:=p
               simp only [List.filter]
               cases hq2:Nat.beq a i with
               | true=>
                 have ha:=Nat.eq_of_beq_eq_true hq2
                 simp only [Bool.not_true,look,ih]
                 rw [if_neg (by rw [ha];exact hne)]
               | false=>simp only [Bool.not_false,look,ih]
            rw [this,fR]
            have hv2:lookA d1.fr.l j=some (some v):=hv
            rw [hv2];rfl
        · simp only [lookA]at hv
          cases hb2:Nat.beq i j with
          | true=>
            rw [hb2]at hv
            simp only [cond_true,Oi]at hv
            subst hv;exact hin
          | false=>
            rw [hb2]at hv
            exact F1.inr _ _ hv
       have last:=gY hng CO fin hk
       refine OpsT.op hng hw1 ?_
       rcases hcase with⟨h0,v,hv,he⟩ | ⟨h0,id,r',off,c,hr,he⟩ | ⟨h0,he⟩
       · rw [wpOp_eq,eM he,wpOpB_false,he,wpOut_val,hput]
         refine OpsT.view (View.retell (fl2:=(i,x.c)::fl) fun p hp=>?_) (OpsT.view View.bump last)
         rcases List.mem_cons.1 hp with rfl|hp
         · exact⟨hs2,v,hlooki v,fun ρ u hu=>by rw [hx,h0];exact pQ hv hu⟩
         · exact⟨(hfl v p hp).1,p.2,(hfl v p hp).2,fun _ _ h=>h⟩
       · rw [wpOp_eq,eM he,wpOpB_false,he,wpOut_val,hput]
         refine OpsT.view (View.retell (fl2:=(i,x.c)::fl) fun p hp=>?_) ?_
         · rcases List.mem_cons.1 hp with rfl|hp
           · exact⟨hs2,_,hlooki _,fun ρ u hu=>by rw [hx,h0];exact pQ (.inr ⟨_,_,_,rfl⟩) hu⟩
           · exact⟨(hfl .unk p hp).1,p.2,(hfl _ p hp).2,fun _ _ h=>h⟩
         have hobj:=D.row_obj hr
         have hid:id<16000:=by
          unfold D.obj at hobj
          cases hq:Nat.blt id 16000 with
          | false=>rw [hq]at hobj;cases hobj
          | true=>rw [Nat.blt_eq]at hq;exact hq
         have hg:=D.row_get hr
         unfold D.H at hg
         rw [mkH_get hid]at hg
         exact OpsT.view (View.unput hid hg) (OpsT.view View.bump last)
       · rw [wpOp_eq,eM he,wpOpB_false,he,wpOut_val,hput]
         have hkl:=cK fun r hr=>(hrows r hr).2
         refine OpsT.view ?_ last
         show View A C.P _ (mkH (d1.n+1) ((d1.n,some (.row rows.flatten e 0 0 true))::(d1.hp.map fun p=>(p.1,p.2.map DObj.o))) d1.m (d1.tk.map fun p=>(p.1,some (oO p.2)))) _ _
         have hfl0:rows.flatten.length=n*q:=by
          rw [←hlen]
          clear hlen he hkl hx h0 hrows
          induction rows with
          | nil=>simp
          | cons a l ih=>
            rw [List.flatten_cons,List.length_append,List.length_cons,hq a List.mem_cons_self,ih (fun r hr=>hq r (List.mem_cons_of_mem _ hr)),Nat.add_mul,Nat.one_mul,Nat.add_comm]
         refine View.fbD (sz:=q) d1.n hn16 (cells:=rows.flatten) (cells':=rows.flatten) (e:=e) (lo:=0) (hi:=0) (sl:=true) (by rw [lookG.eq_2,if_pos rfl]) hkl (fun p hp=>?_) (fun p hp=>?_) (fun p hp=>?_)
         · rcases List.mem_cons.1 hp with rfl|hp
           · refine ⟨hs2,_,hlooki _,.inr (.inl ⟨0,n,_,rfl,rfl,by rw [hfl0];omega,?_⟩)⟩
             rw [hx,List.drop_zero,←hlen,cP hq]
           · exact⟨(hfl .unk p hp).1,p.2,(hfl _ p hp).2,.inl rfl⟩
         · simp only [List.mem_map]at hp
           obtain⟨q',hq',rfl⟩:=hp
           obtain⟨k1,k2,r,k3,k4⟩:=E.hpU q' hq'
           refine⟨k1,by simp only;omega,r.o,by simp only [k3,Option.map_some],.inl ?_⟩
           rw [lookG.eq_2,if_neg (by omega),kO,k4];rfl
         · simp only [List.mem_map]at hp
           obtain⟨q',hq',rfl⟩:=hp
           obtain⟨k1,k2⟩:=E.tkU q' hq'
           exact⟨k1,_,rfl,by rw [gO (g:=oO),k2];rfl⟩
     · have hh:=F.heap
       rw [hh]at F ⊢
       refine OpsT.op hng hw ?_
       rw [wpOp_eq]
       split at hk
       · rename_i x n b hz
         obtain⟨hb,hk⟩:=aA hk
         obtain⟨e1,e2,e3,_,_⟩:=tN (g:=C.g) F hz hb
         obtain⟨d2,F2,k2⟩:=eV F e3 hk
         rw [V.ct_plain e2]at F2
         rw [eM e1,wpOpB_false,e1,wpOut_val]
         exact gY hng CO F2 k2
       rcases dOp_ok F CO hk with⟨w,d',h1,h2,h3,h4,_⟩ | ⟨fn,args,w,h1,h2,h3,h4,_⟩ | ⟨fn,vs,h1,h2,h3⟩ | ⟨id,vs,h1,h3⟩
       · rw [eM h1,wpOpB_false,h1,wpOut_val]
         obtain⟨d2,F2,k2⟩:=eV (F.kept h3) h2 h4
         exact gY hng CO F2 k2
       · rw [eM h1,wpOpB_false,h1,wpOut_enter,h2,wpKc_some]
         obtain⟨d2,F2,k2⟩:=eV F (V.safe_ok h3).2 h4
         rw [V.safe_ct h3]at F2
         exact gY hng CO F2 k2
       · rw [eM h1,wpOpB_false,h1,wpOut_enter,h2,wpKc_none]
         refine(CO.mo _ _ _ _ _ h3 F.lens).mono ?_
         rintro v h' ⟨w,d',rfl,k2,rfl,k3,k4⟩
         obtain⟨d2,F2,k5⟩:=eV (F.kept k3) k2 k4
         exact gY hng CO F2 k5
       · rw [eM h1,wpOpB_false,h1,wpOut_yield]
         refine(CO.yo _ _ _ _ _ h3 F.lens).mono ?_
         rintro v h' ⟨w,d',rfl,k2,rfl,k3,k4⟩
         obtain⟨d2,F2,k5⟩:=eV (F.kept k3) k2 k4
         exact gY hng CO F2 k5
   · obtain ⟨hw,hk⟩:=hk
     obtain⟨d2,F2,k2⟩:=eV F (v:=gC) trivial hk
     have e:gC.ct d0.tk=undefE:=by simp only [gC,V.ct,V.c,V.cs,undefE]
     rw [e]at F2
     exact OpsT.skip hw (gY hng CO F2 k2)
end
end Go.Ev
namespace Go.Ev
open Go.RowKit
theorem t8 {n:Int}(h1:-9223372036854775808≤n) (h2:n<9223372036854775808):IntKind.i64.wrap n=n:=by
 rw [IntKind.wrap_i64];omega
end Go.Ev
set_option linter.defProp false
namespace Go.Ev
open Go.RowKit
def SS0:=Ai (Ai (Ai (Ai (Ai (Ai (Ai (@wp_seq) (Ai (@wp_region) (@wp_block))) (Ai (Ai (@wp_scope) (@wp_exit)) (Ai (@wp_skip) (@wp_label)))) (Ai (Ai (@wp_ret) (Ai (@wp_cond) (@loopQ_normal))) (Ai (Ai (@loopQ_exit) (@loopQ_ret)) (Ai (@seqQ_normal) (@seqQ_exit))))) (Ai (Ai (Ai (@seqQ_ret) (Ai (@blockQ_normal) (@blockQ_exit))) (Ai (Ai (@blockQ_ret) (@wpCond_true)) (Ai (@wpCond_false) (@wpOps_cons)))) (Ai (Ai (@wpOps_nil) (Ai (@wpStep_true) (@wpStep_false))) (Ai (Ai (@wpNext_q) (@wpOp_eq)) (Ai (@wpOpB_false) (@wpOut_val)))))) (Ai (Ai (Ai (Ai (@wpOut_enter) (Ai (@wpKc_some) (@wpDraw_cons))) (Ai (Ai (@wpDraw_nil) (@wpDStep_true)) (Ai (@wpDStep_false) (@wpDNext_q)))) (Ai (Ai (@wpDOut_val) (Ai (@wpDOut_enter) (@wpDKc_some))) (Ai (Ai (@wpDSel_pure) (@wpDSel_quiet)) (Ai (@wpDSel_act) (@Go.Ev.isPure.eq_1))))) (Ai (Ai (Ai (@Go.Ev.isQuiet.eq_1) (Ai (@Go.Ev.wantedE.eq_1) (@Go.Ev.yieldedE.eq_1))) (Ai (Ai (@Go.Ev.eOp.eq_1) (@Go.Ev.mk.eq_1)) (Ai (@ev_tmp) (@ev_int)))) (Ai (Ai (@ev_bool) (Ai (@ev_str) (@ev_nils))) (Ai (Ai (@ev_nilp) (@ev_nilm)) (Ai (@ev_nilf) (@ev_func))))))) (Ai (Ai (Ai (Ai (Ai (@ev_glob) (Ai (@ev_agg) (@Go.Ev.evs.eq_1))) (Ai (Ai (@Go.Ev.evs.eq_2) (@Go.Ev.evParts.eq_1)) (Ai (@Go.Ev.evParts.eq_2) (@Go.Ev.evOpt.eq_1)))) (Ai (Ai (@Go.Ev.evOpt.eq_2) (Ai (@Go.Ev.absCells.eq_1) (@Go.Ev.absCells.eq_2))) (Ai (Ai (@mkF_putd) (@mkF_putd_none)) (Ai (@mkF_tmps) (@mkF_defers))))) (Ai (Ai (Ai (@T.get_ofL) (Ai (@Go.Ev.look.eq_1) (@Go.Ev.look.eq_2))) (Ai (Ai (@mkH_new) (@mkH_put)) (Ai (@mkH_kill) (@mkH_tok)))) (Ai (Ai (@mkH_get) (Ai (@mkH_k) (@mkH_n))) (Ai (Ai (@Go.Ev.lookG.eq_1) (@Go.Ev.lookG.eq_2)) (Ai (@Go.Ev.eShl.eq_1) (@Go.Ev.eShr.eq_1)))))) (Ai (Ai (Ai (Ai (@Go.Ev.eUnOp.eq_1) (Ai (@Go.Ev.eUnOp.eq_2) (@Go.Ev.eConvOp.eq_1))) (Ai (Ai (@Go.Ev.eConvOp.eq_2) (@Go.Ev.eCallB.eq_1)) (Ai (@Go.Ev.eLenM.eq_1) (@Go.Ev.eAppend.eq_1)))) (Ai (Ai (@Go.Ev.eAppendX.eq_1) (Ai (@Go.Ev.eAppendS.eq_1) (@Go.Ev.eAppendS'.eq_1))) (Ai (Ai (@Go.Ev.eAppendG.eq_1) (@Go.Ev.eGrow.eq_1)) (Ai (@Go.Ev.takeN.eq_1) (@Go.Ev.keepL.eq_1))))) (Ai (Ai (Ai (@Go.Ev.keepL.eq_2) (Ai (@Go.Ev.chunk.eq_1) (@Go.Ev.chunk.eq_2))) (Ai (Ai (@Go.Ev.eLoadOp.eq_1) (@Go.Ev.eLoadOp.eq_2)) (Ai (@Go.Ev.eLoad.eq_1) (@Go.Ev.eLoad'.eq_1)))) (Ai (Ai (Ai (@Go.Ev.eLoad'.eq_2) (@Go.Ev.eLoad'.eq_3)) (Ai (@Go.Ev.aggT.eq_1) (@Go.Ev.eStore.eq_1))) (Ai (Ai (@Go.Ev.eStoreCells.eq_1) (@Go.Ev.allOne.eq_1)) (Ai (@Go.Ev.allOne.eq_2) (@Go.Ev.eFieldAddrOp.eq_1)))))))) (Ai (Ai (Ai (Ai (Ai (Ai (@Go.Ev.eFieldAddrOp.eq_2) (Ai (@Go.Ev.eFieldAddr.eq_1) (@Go.Ev.eFieldOp.eq_1))) (Ai (Ai (@Go.Ev.eFieldOp.eq_2) (@Go.Ev.ePart.eq_1)) (Ai (@Go.Ev.eIndexAddr'.eq_1) (@Go.Ev.eIndexL.eq_1)))) (Ai (Ai (@Go.Ev.eSliceL.eq_1) (Ai (@Go.Ev.eAlloc.eq_1) (@Go.Ev.eBox.eq_1))) (Ai (Ai (@Go.Ev.eBox.eq_2) (@Go.Ev.eBuildS.eq_1)) (Ai (@Go.Ev.eBuildA.eq_1) (@Go.Ev.eBuildSlice'.eq_1))))) (Ai (Ai (Ai (@Go.Ev.fillE.eq_1) (Ai (@Go.Ev.fillE.eq_2) (@Go.Ev.placeS.eq_1))) (Ai (Ai (@Go.Ev.eMakeSlice'.eq_1) (@Go.Ev.eNextS'.eq_1)) (Ai (@Go.Ev.argsB.eq_1) (@Go.Ev.argsB.eq_2)))) (Ai (Ai (@Go.Ev.capOK.eq_1) (Ai (@Go.Ev.capOK.eq_2) (@Go.Ev.flatL.eq_1))) (Ai (Ai (@Go.Ev.flatL.eq_2) (@known_nil)) (Ai (@known_hit) (@known_cons)))))) (Ai (Ai (Ai (Ai (@Go.Ev.undefE.eq_1) (Ai (@Option.map_some.{0,0}) (@Option.map_none.{0,0}))) (Ai (Ai (@Oi.{0}) (@if_true.{1})) (Ai (@if_false.{1}) (@List.getElem?_toArray.{0})))) (Ai (Ai (@List.getElem?_cons_zero.{0}) (Ai (@List.getElem?_cons_succ.{0}) (@List.length_cons.{0}))) (Ai (Ai (@List.length_nil.{0}) (@List.append_nil.{0})) (Ai (@List.nil_append.{0}) (@List.cons_append.{0}))))) (Ai (Ai (Ai (@List.map_cons.{0,0}) (Ai (@List.map_nil.{0,0}) (@List.any_cons.{0}))) (Ai (Ai (@List.any_nil.{0}) (@List.take_succ_cons.{0})) (Ai (@List.take_zero.{0}) (@List.drop_succ_cons.{0})))) (Ai (Ai (@List.drop_zero.{0}) (Ai (@List.drop_nil.{0}) (@List.take_nil.{0}))) (Ai (Ai (@Nat.zero_add) (@Nat.mul_one)) (Ai (@Nat.zero_le) (@bne_not))))))) (Ai (Ai (Ai (Ai (Ai (@some_beq) (Ai (@none_beq) (@beq_t))) (Ai (Ai (@beq_f) (@Int.natCast_nonneg)) (Ai (@Int.toNat_natCast) (@Int.le_refl)))) (Ai (Ai (@Int.toNat_zero) (Ai (@Int.natCast_zero) (@BEq.rfl.{0}))) (Ai (Ai (@beq_self_eq_true.{0}) (@Option.bind_some.{0,0})) (Ai (@Go.Ev.resultsE.eq_1) (@Go.Ev.resultsE.eq_2))))) (Ai (Ai (Ai (@Go.Ev.resultsE.eq_3) (Ai (@Go.Ev.keepT.eq_1) (@Go.Ev.keepT.eq_2))) (Ai (Ai (@Bool.not_true) (@Bool.not_false)) (Ai (@Bool.or_false) (@Bool.false_or)))) (Ai (Ai (@Bool.or_true) (Ai (@Bool.true_or) (@Bool.and_true))) (Ai (Ai (@Bool.true_and) (@Bool.and_false)) (Ai (@Bool.false_and) (@Bool.cond_true.{1})))))) (Ai (Ai (Ai (Ai (@Bool.cond_false.{1}) (Ai (@decide_true) (@decide_false))) (Ai (Ai (@Bool.false_eq_true) (@ne_eq.{1})) (Ai (@not_true_eq_false) (@not_false_eq_true)))) (Ai (Ai (@gt_iff_lt.{0}) (Ai (@ge_iff_le.{0}) (@or_self))) (Ai (Ai (@or_false) (@false_or)) (Ai (@true_or) (@or_true))))) (Ai (Ai (Ai (@H.start_mk) (Ai (@Nat.lt_irrefl) (@Nat.le_refl))) (Ai (Ai (@List.flatten_cons.{0}) (@List.flatten_nil.{0})) (Ai (@List.replicate.eq_1.{0}) (@List.replicate.eq_2.{0})))) (Ai (Ai (Ai (@true_and) (@and_true)) (Ai (@true_implies) (@false_implies))) (Ai (Ai (@implies_true.{0}) (@implies_true.{1})) (Ai (@exists_eq_left'.{1}) (@and_self))))))))
def SS1:=Ai SS0 (Ai (Ai (Ai (@wpOut_yield) (Ai (@wpOut_none) (@wpNd_true))) (Ai (@wpKc_none) (Ai (@mkH_fz) (@Go.Ev.isStill.eq_1)))) (Ai (Ai (@Go.Ev.ndOp.eq_1) (Ai (@ndEq_yes) (@mkD_putd))) (Ai (@mkD_putd_none) (Ai (@mkD_tmps) (@mkD_defers)))))
def SX:=Ai (Ai (Ai (Ai (Ai (Ai (Ai (@Go.Ev.isNew.eq_1) (@Go.Ev.absCell.eq_1)) (Ai (@Go.Ev.absCell.eq_2) (Ai (@Go.Ev.absCell.eq_3) (@Go.Ev.absCell.eq_4)))) (Ai (Ai (@Go.Ev.absCell.eq_5) (Ai (@Go.Ev.absCell.eq_6) (@Go.Ev.absCell.eq_7))) (Ai (@Go.Ev.absCell.eq_8) (Ai (@Go.Ev.absCell.eq_9) (@Go.Ev.absCell.eq_10))))) (Ai (Ai (Ai (@Go.Ev.absCell.eq_11) (@Go.Ev.eBinOp.eq_1)) (Ai (@Go.Ev.eBinOp.eq_2) (Ai (@Go.Ev.eBin.eq_1) (@Go.Ev.eBin.eq_2)))) (Ai (Ai (@Go.Ev.eBin.eq_3) (Ai (@Go.Ev.eBin.eq_4) (@Go.Ev.eBin.eq_5))) (Ai (@Go.Ev.eInt2.eq_1) (Ai (@Go.Ev.eInt2.eq_2) (@Go.Ev.eInt2.eq_3)))))) (Ai (Ai (Ai (Ai (@Go.Ev.eInt.eq_1) (@Go.Ev.eInt.eq_2)) (Ai (@Go.Ev.eInt.eq_3) (Ai (@Go.Ev.eInt.eq_4) (@Go.Ev.eInt.eq_5)))) (Ai (Ai (@Go.Ev.eInt.eq_6) (Ai (@Go.Ev.eInt.eq_7) (@Go.Ev.eInt.eq_8))) (Ai (@Go.Ev.eInt.eq_9) (Ai (@Go.Ev.eInt.eq_10) (@Go.Ev.eInt.eq_11))))) (Ai (Ai (Ai (@Go.Ev.eInt.eq_12) (@Go.Ev.eInt.eq_13)) (Ai (@Go.Ev.eInt.eq_14) (Ai (@Go.Ev.eInt.eq_15) (@Go.Ev.eInt.eq_16)))) (Ai (Ai (@Go.Ev.eStr.eq_1) (Ai (@Go.Ev.eStr.eq_2) (@Go.Ev.eStr.eq_3))) (Ai (@Go.Ev.eStr.eq_4) (Ai (@Go.Ev.eStr.eq_5) (@Go.Ev.eStr.eq_6))))))) (Ai (Ai (Ai (Ai (Ai (@Go.Ev.eStr.eq_7) (@Go.Ev.eStr.eq_8)) (Ai (@Go.Ev.eUn.eq_1) (Ai (@Go.Ev.eUn.eq_2) (@Go.Ev.eUn.eq_3)))) (Ai (Ai (@Go.Ev.ePick.eq_1) (Ai (@Go.Ev.ePick.eq_2) (@Go.Ev.ePick.eq_3))) (Ai (@Go.Ev.eExtract.eq_1) (Ai (@Go.Ev.eExtract.eq_2) (@Go.Ev.eNil.eq_1))))) (Ai (Ai (Ai (@Go.Ev.eNil.eq_2) (@Go.Ev.eNil.eq_3)) (Ai (@Go.Ev.eNil.eq_4) (Ai (@Go.Ev.eNil.eq_5) (@Go.Ev.eCall.eq_1)))) (Ai (Ai (@Go.Ev.eCall.eq_2) (Ai (@Go.Ev.eCall.eq_3) (@Go.Ev.eCall.eq_4))) (Ai (@Go.Ev.eCallV.eq_1) (Ai (@Go.Ev.eCallV.eq_2) (@Go.Ev.eCallV.eq_3)))))) (Ai (Ai (Ai (Ai (@Go.Ev.eBuiltin.eq_1) (@Go.Ev.eBuiltin.eq_2)) (Ai (@Go.Ev.eBuiltin.eq_3) (Ai (@Go.Ev.eBuiltin.eq_4) (@Go.Ev.eBuiltin.eq_5)))) (Ai (Ai (@Go.Ev.eBuiltin.eq_6) (Ai (@Go.Ev.eBuiltin.eq_7) (@Go.Ev.eBuiltin.eq_8))) (Ai (@Go.Ev.eBuiltin.eq_9) (Ai (@Go.Ev.eBuiltin.eq_10) (@Go.Ev.eBuiltin.eq_11))))) (Ai (Ai (Ai (@Go.Ev.eBuiltin.eq_12) (@Go.Ev.eBuiltin.eq_13)) (Ai (@Go.Ev.eBuiltin.eq_14) (Ai (@Go.Ev.eBuiltin.eq_15) (@Go.Ev.eBuiltin.eq_16)))) (Ai (Ai (@Go.Ev.eBuiltin.eq_17) (Ai (@Go.Ev.eBuiltin.eq_18) (@Go.Ev.eLen.eq_1))) (Ai (@Go.Ev.eLen.eq_2) (Ai (@Go.Ev.eLen.eq_3) (@Go.Ev.eLen.eq_4)))))))) (Ai (Ai (Ai (Ai (Ai (Ai (@Go.Ev.eLen.eq_5) (@Go.Ev.eLen.eq_6)) (Ai (@Go.Ev.eLen.eq_7) (Ai (@Go.Ev.eLen.eq_8) (@Go.Ev.eCap.eq_1)))) (Ai (Ai (@Go.Ev.eCap.eq_2) (Ai (@Go.Ev.eCap.eq_3) (@Go.Ev.srcCells.eq_1))) (Ai (@Go.Ev.srcCells.eq_2) (Ai (@Go.Ev.srcCells.eq_3) (@Go.Ev.srcCells.eq_4))))) (Ai (Ai (Ai (@Go.Ev.srcCells.eq_5) (@Go.Ev.srcCells.eq_6)) (Ai (@Go.Ev.keepV.eq_1) (Ai (@Go.Ev.keepV.eq_2) (@Go.Ev.keepV.eq_3)))) (Ai (Ai (@Go.Ev.keep1.eq_1) (Ai (@Go.Ev.keep1.eq_2) (@Go.Ev.keep1.eq_3))) (Ai (@Go.Ev.keep1.eq_4) (Ai (@Go.Ev.keep1.eq_5) (@Go.Ev.keep1.eq_6)))))) (Ai (Ai (Ai (Ai (@Go.Ev.keep1.eq_7) (@Go.Ev.keep1.eq_8)) (Ai (@Go.Ev.keep1.eq_9) (Ai (@Go.Ev.keep1.eq_10) (@Go.Ev.keep1.eq_11)))) (Ai (Ai (@Go.Ev.keep1.eq_12) (Ai (@Go.Ev.keep1.eq_13) (@Go.Ev.keep1.eq_15))) (Ai (@Go.Ev.row?.eq_1) (Ai (@Go.Ev.row?.eq_2) (@Go.Ev.row?.eq_3))))) (Ai (Ai (Ai (@Go.Ev.row?.eq_4) (@Go.Ev.eStoreOp.eq_1)) (Ai (@Go.Ev.eStoreOp.eq_2) (Ai (@Go.Ev.EVal.cells.eq_1) (@Go.Ev.EVal.cells.eq_2)))) (Ai (Ai (@Go.Ev.EVal.one.eq_1) (Ai (@Go.Ev.EVal.one.eq_2) (@Go.Ev.EVal.one.eq_3))) (Ai (@Go.Ev.eShift.eq_1) (Ai (@Go.Ev.eShift.eq_2) (@Go.Ev.eShift.eq_3))))))) (Ai (Ai (Ai (Ai (Ai (@Go.Ev.eShift.eq_4) (@Go.Ev.eIndexAddrOp.eq_1)) (Ai (@Go.Ev.eIndexAddrOp.eq_2) (Ai (@Go.Ev.eIndexAddr.eq_1) (@Go.Ev.eIndexAddr.eq_2)))) (Ai (Ai (@Go.Ev.eIndexOp.eq_1) (Ai (@Go.Ev.eIndexOp.eq_2) (@Go.Ev.eIndex.eq_1))) (Ai (@Go.Ev.eIndex.eq_2) (Ai (@Go.Ev.eIndex.eq_3) (@Go.Ev.eSliceOp.eq_1))))) (Ai (Ai (Ai (@Go.Ev.eSliceOp.eq_2) (@Go.Ev.bound.eq_1)) (Ai (@Go.Ev.bound.eq_2) (Ai (@Go.Ev.bound.eq_3) (@Go.Ev.eMakeSlice.eq_1)))) (Ai (Ai (@Go.Ev.eMakeSlice.eq_2) (Ai (@Go.Ev.eRange.eq_1) (@Go.Ev.eRange.eq_2))) (Ai (@Go.Ev.eRange.eq_3) (Ai (@Go.Ev.eNextS.eq_1) (@Go.Ev.eNextS.eq_2)))))) (Ai (Ai (Ai (Ai (@Go.Ev.argB.eq_1) (@Go.Ev.argB.eq_2)) (Ai (@Go.Ev.isLent.eq_1) (Ai (@Go.Ev.isLent.eq_2) (@Go.Ev.flat.eq_1)))) (Ai (Ai (@Go.Ev.flat.eq_2) (Ai (@Go.Ev.flat.eq_3) (@Go.Ev.flat.eq_4))) (Ai (@Go.Ev.flat.eq_5) (Ai (@Go.Ev.flat.eq_6) (@Go.Ev.flat.eq_7))))) (Ai (Ai (Ai (@Go.Ev.flat.eq_8) (Ai (@Go.Ev.flat.eq_9) (@Go.Ev.flat.eq_10))) (Ai (@Go.Ev.flat.eq_11) (Ai (@Go.Ev.flat.eq_12) (@Go.Ev.one.eq_1)))) (Ai (Ai (@Go.Ev.one.eq_2) (Ai (@Go.Ev.keepA.eq_1) (@Go.Ev.keepA.eq_2))) (Ai (@extB_q) (Ai (@Option.isNone_none.{0}) (@Option.isNone_some.{0}))))))))
def SS:=Ai SS1 SX
end Go.Ev


namespace Go.Ev
open Go.RowKit
section
variable {P:Program}{B0:Nat}{W0:eF}{g:G}{K:aH}{r:Rec}
structure InvW (A:List Nat) (st:List aC) (f:EFr) (HS:(Nat→Bool)→Loc→World→Prop) (S:Nat→Bool) (tm:Array Value) (ρ:Loc) (w:World):Prop where
 size:tm.size=f.sz
 slots:∀s e,fW S (wS s) 0 st (f.tmps.get s)=some e→VRel ρ e (tm.getD s undef)
 heap:HS S ρ w
 closed:∀i,S i=true→∀a,hasB (nthM A i) a=true→S a=true
def ajO (P:Program) (ops:Array Oper) (A:List Nat) (st:List aC) (HS:(Nat→Bool)→Loc→World→Prop):Prop:=
 ∀ (S:Nat→Bool) (i:Nat) (x:aC),st[i]? = some x→S i=false→(∀a,hasB (nthM A i) a=true→S a=true)→(∀j,S j=true→∀a,hasB (nthM A j) a=true→S a=true) →
  ∀(tm:Array Value) (d:List Deferred) (ρ:Loc) (w:World),TRel ρ (aB ops x.o x.fr) tm→HS S ρ w→∀(b:Frame) (k:List Item) (cs:List Frame) (js:List Nat),
   ∃w' ρ' v,ρ.le ρ'∧VRel ρ' x.v v∧HS (cD S i) ρ' w'∧Steps P (lone (fr b tm d (.inRegion ops (i::js)::k)) cs w) (lone (fr b (kF tm x.o.dst v) d (.inRegion ops js::k)) cs w')
theorem yM {ops:Array Oper}{A:List Nat}{st:List aC}{f f':EFr}{h h':H}
  (T:Trace P g K r ops st f h f' h') (hst:st.map (·.o)=ops.toList) (hs:bN ops A=true)
  {HS:(Nat→Bool)→Loc→World→Prop} (hstep:ajO P ops A st HS)
  {S:Nat→Bool} {i:Nat} {x:aC} (hx:st[i]? = some x) (hSi:S i=false) (hready:∀j∈cY x.o,S j=true)
  {b:Frame} {tm:Array Value} {d:List Deferred} {k:List Item} {cs:List Frame} {ρ:Loc} {w:World} (I:InvW A st f HS S tm ρ w) (js:List Nat) :
  ∃tm' w' ρ',ρ.le ρ'∧InvW A st f HS (cD S i) tm' ρ' w'∧Steps P (lone (fr b tm d (.inRegion ops (i::js)::k)) cs w) (lone (fr b tm' d (.inRegion ops js::k)) cs w'):=by
 have hoi:ops.toList[i]? = some x.o:=by rw [←hst,List.getElem?_map,hx];rfl
 have ho:ops[i]? = some x.o:=by rw [←Array.getElem?_toList];exact hoi
 have hop:∀ {j:Nat} {y:aC},st[j]? = some y→ops.toList[j]? = some y.o:=fun {j y} hy=>by rw [←hst,List.getElem?_map,hy];rfl
 obtain⟨hA,hP⟩:=dL hs
 have hanc:=fJ hA i _ hoi
 rw [Nat.zero_add]at hanc
 have hancS:∀a,hasB (nthM A i) a=true→S a=true:=fun a ha=>by
  rcases hanc.1 a ha with h1|⟨q,hq1,hq2⟩
  · exact hready a h1
  · exact I.closed q (hready q hq1) a hq2
 have hdesc:∀j,S j=true→¬hasB (nthM A j) i=true:=fun j hj hm=>by
  have:=I.closed j hj i hm;rw [hSi]at this;cases this
 have hside:∀j,(j<i→hasB (nthM A i) j=true)→(i<j→hasB (nthM A j) i=true)→(S j=true↔j<i):=fun j h1 h2=>by
  rcases Nat.lt_trichotomy j i with hlt|rfl|hgt
  · simp [hancS _ (h1 hlt),hlt]
  · simp [hSi]
  · have:S j=false:=by
     cases hq:S j with
     | false=>rfl
     | true=>exact absurd (h2 hgt) (hdesc j hq)
    simp [this];omega
 have hwr:∀s,(s∈aX ops x.o∨x.o.dst=some s)→∀j y,st[j]? = some y→y.o.dst=some s→(S j=true↔j<i):=by
  intro s hs j y hy hdst
  refine hside j (fun hlt=>hP j i _ _ (hop hy) hoi hlt ⟨s,.inl ⟨hdst,hs⟩⟩) (fun hgt=>hP i j _ _ hoi (hop hy) hgt ⟨s,?_⟩)
  rcases hs with h1|h1
  · exact .inr ⟨hdst,h1⟩
  · exact .inl ⟨h1,.inr hdst⟩
 obtain⟨hd,he,hh,hg⟩:=T.at hx
 have htrel:∀ {ρ':Loc},ρ.le ρ'→TRel ρ' (aB ops x.o x.fr) tm:=by
  intro ρ' hle s e hs
  obtain⟨h1,h2⟩:=jQ hs
  have h3:=hg s (f.tmps.get s) (fun e h=>h) e h2
  have h4:=d9 (S:=S) (f:=wS s) (l:=st) (k:=0) (i:=i) (b:=f.tmps.get s) (fun j y hy hw=>by
   rw [Nat.zero_add]
   exact hwr s (.inl h1) j y hy (qA hw))
  exact(I.slots s e (by rw [h4];exact h3)).mono hle
 have fin:∀ {v:Value} {w':World} {ρ':Loc},ρ.le ρ'→VRel ρ' x.v v→HS (cD S i) ρ' w' →
   Steps P (lone (fr b tm d (.inRegion ops (i::js)::k)) cs w) (lone (fr b (kF tm x.o.dst v) d (.inRegion ops js::k)) cs w') →
   ∃tm' w' ρ',ρ.le ρ'∧InvW A st f HS (cD S i) tm' ρ' w'∧Steps P (lone (fr b tm d (.inRegion ops (i::js)::k)) cs w) (lone (fr b tm' d (.inRegion ops js::k)) cs w'):=by
  intro v w' ρ' hle hv hR hs
  refine⟨_,w',ρ',hle,⟨?_,fun s e hs=>?_,hR,fun j hj a ha=>?_⟩,hs⟩
  · rw [←I.size];unfold kF;split<;>simp
  · have h0:wS s x=none→fW (cD S i) (wS s) 0 st (f.tmps.get s)=fW S (wS s) 0 st (f.tmps.get s):=fun hq=>by
     have:=fV (S:=S) (f:=wS s) (k:=0) (b:=f.tmps.get s) hx hq
     rwa [Nat.zero_add]at this
    by_cases hds:x.o.dst=some s
    · have hw:wS s x=some (some x.v):=by simp [wS,hds]
      have:=eK (S:=S) (k:=0) (b:=f.tmps.get s) hx hw (fun j y hy hw hs=>by
       rw [Nat.zero_add]at hs
       exact(hwr s (.inr hds) j y hy (qA hw)).1 hs)
      rw [Nat.zero_add]at this
      rw [this]at hs
      cases hs
      have hlt:s<tm.size:=by
       rw [I.size];unfold mG at hd;rw [hds]at hd;simpa using hd
      rw [hds]
      simp [kF,hlt,hv]
    · rw [h0 (by simp [wS,hds])]at hs
      have:=(I.slots s e hs).mono hle
      unfold kF
      split
      · rename_i q hq
        have hne:q≠s:=fun e=>hds (by rw [hq,e])
        simp only [Array.getD_eq_getD_getElem?]at this ⊢
        rw [Array.getElem?_setIfInBounds_ne hne]
        exact this
      · exact this
  · unfold cD at hj ⊢
    by_cases hji:j=i
    · subst hji
      split
      · rfl
      · exact hancS a ha
    · rw [if_neg hji]at hj
      split
      · rfl
      · exact I.closed j hj a ha
 obtain⟨w',ρ',v,hle,hv,hH,hst'⟩:=hstep S i x hx hSi hancS I.closed tm d ρ w (htrel (Loc.le_refl _)) I.heap b k cs js
 exact fin hle hv hH hst'
theorem ajl {ops:Array Oper}{A:List Nat}{st:List aC}{f f':EFr}{h h':H}
  (T:Trace P g K r ops st f h f' h') (hst:st.map (·.o)=ops.toList) (hs:bN ops A=true)
  {HS:(Nat→Bool)→Loc→World→Prop} (hstep:ajO P ops A st HS)
  {b:Frame} {d:List Deferred} {k:List Item} {cs:List Frame}:∀(fuel t:Nat) (listed:Array Bool) (tm:Array Value) (ρ:Loc) (w:World),listed.size=ops.size→aqv listed.toList=fuel→InvW A st f HS (fun i=>listed.getD i false) tm ρ w →
  ∃S tm' w' ρ',ρ.le ρ'∧(∀i,i<ops.size→S i=true)∧InvW A st f HS S tm' ρ' w'∧Steps P (lone (fr b tm d (.inRegion ops (Region.linearise.go .any ops fuel t listed [])::k)) cs w) (lone (fr b tm' d (.inRegion ops []::k)) cs w'):=by
 intro fuel
 induction fuel with
 | zero=>
   intro t listed tm ρ w hl hcnt I
   refine⟨_,tm,w,ρ,Loc.le_refl _,fun i hi=>?_,I,?_⟩
   · have:listed[i]? = some listed[i]:=Array.getElem?_eq_getElem (by omega)
     have h2:=oI hcnt i listed[i] (by rw [Array.getElem?_toList];exact this)
     simp only [Array.getD_eq_getD_getElem?,this,h2,Option.getD_some]
   · simp only [Region.linearise.go,List.reverse_nil];exact .refl _ _
 | succ fuel ih=>
   intro t listed tm ρ w hl hcnt I
   simp only [Region.linearise.go]
   change ∃S tm' w' ρ',ρ.le ρ'∧(∀i,i<ops.size→S i=true)∧InvW A st f HS S tm' ρ' w'∧Steps P (lone (fr b tm d (.inRegion ops (match(Region.ready .any ops listed)[t % (Region.ready .any ops listed).length]? with
    | some i=>Region.linearise.go .any ops fuel (t / (Region.ready .any ops listed).length) (listed.setIfInBounds i true) [i]
    | none=>[].reverse)::k)) cs w) (lone (fr b tm' d (.inRegion ops []::k)) cs w')
   cases hi:(Region.ready .any ops listed)[t % (Region.ready .any ops listed).length]? with
   | none =>
     have hnil:Region.ready .any ops listed=[]:=by
      cases hr:Region.ready .any ops listed with
      | nil=>rfl
      | cons x xs=>
        rw [hr]at hi
        have hlt:t % (x::xs).length<(x::xs).length:=Nat.mod_lt _ (by simp)
        simp at hi
        simp at hlt
        omega
     have hall:∀i,i<ops.size→listed.getD i false=true:=by
      intro i
      induction i using Nat.strongRecOn with
      | ind i ihi=>
        intro hlt
        cases hq2:listed.getD i false with
        | true=>rfl
        | false=>
          exfalso
          have ho:ops[i]? = some ops[i]:=Array.getElem?_eq_getElem hlt
          have hmem:i∈Region.ready .any ops listed:=(hU hl).2 ⟨_,ho,hq2,fun j hj=>by
           have:=(fJ (dL hs).1 i _ (by rw [Array.getElem?_toList];exact ho)).2 j hj
           exact ihi j (by omega) (by omega)⟩
          rw [hnil]at hmem;cases hmem
     exact⟨_,tm,w,ρ,Loc.le_refl _,hall,I,by simp only [List.reverse_nil];exact .refl _ _⟩
   | some i=>
     simp only []
     rw [linearise_go_acc,List.reverse_singleton,List.singleton_append]
     obtain⟨o,ho,h1,h2⟩:=(hU hl).1 (List.mem_of_getElem? hi)
     have hlt:i<ops.size:=(Array.getElem?_eq_some_iff.1 ho).1
     have hxo:(st.map (·.o))[i]? = some o:=by rw [hst,Array.getElem?_toList];exact ho
     rw [List.getElem?_map]at hxo
     cases hx:st[i]? with
     | none=>rw [hx]at hxo;cases hxo
     | some x=>
       rw [hx]at hxo
       simp only [Option.map_some,Oi]at hxo
       subst hxo
       obtain⟨tm1,w1,ρ1,hle,I1,s1⟩:=yM T hst hs hstep hx h1 h2 I (b:=b) (d:=d) (k:=k) (cs:=cs) (Region.linearise.go .any ops fuel (t / (Region.ready .any ops listed).length) (listed.setIfInBounds i true) [])
       have hS:cD (fun i=>listed.getD i false) i=fun j=>(listed.setIfInBounds i true).getD j false:=by
        funext j
        unfold cD
        simp only [Array.getD_eq_getD_getElem?]
        by_cases hj:j=i
        · subst hj;rw [if_pos rfl,Array.getElem?_setIfInBounds_self_of_lt (by omega)];rfl
        · rw [if_neg hj,Array.getElem?_setIfInBounds_ne (Ne.symm hj)]
       rw [hS]at I1
       obtain ⟨S,tm2,w2,ρ2,hle2,hall,I2,s2⟩:=ih (t / (Region.ready .any ops listed).length) (listed.setIfInBounds i true) tm1 ρ1 w1 (by simpa using hl) (by
        rw [Array.toList_setIfInBounds]
        have:listed[i]? = some false:=by
         rw [Array.getD_eq_getD_getElem?,Array.getElem?_eq_getElem (by omega)]at h1
         rw [Array.getElem?_eq_getElem (by omega)]
         simpa using h1
        have:=rL (l:=listed.toList) (i:=i) (by rw [Array.getElem?_toList];exact this)
        omega) I1
       exact⟨S,tm2,w2,ρ2,Loc.le_trans hle hle2,hall,I2,Steps.trans s1 s2⟩
theorem vA (hm:P.follows .mixedOrders=true) (id:Nat) (ops:Array Oper) (f f':EFr) (h h':H) (st:List aC) {ht ht':H}(T:Trace P g K r ops st f ht f' ht') (hst:st.map (·.o)=ops.toList) (hs:bN ops (dQ ops.toList [])=true)
  {HS:(Nat→Bool)→Loc→World→Prop} (hstep:ajO P ops (dQ ops.toList []) st HS) (h0:∀ρ w,HRel P B0 W0 ρ h w→HS (fun i=>(Array.replicate ops.size false).getD i false) ρ w) (h1:∀S ρ w,(∀i,i<ops.size→S i=true)→HS S ρ w→HRel P B0 W0 ρ h' w)
  (b:Frame) (t:Array Value) (d:List Deferred) (k:List Item) (cs:List Frame) (ρ:Loc) (w:World) (F:FRel ρ f b t d) (R:HRel P B0 W0 ρ h w):CodeRes P B0 W0 [.code .normal f' h'] (lone (fr b t d (.code (.region id ops true)::k)) cs w) b k cs ρ:=by
 have hlen:st.length=ops.size:=by have:=congrArg List.length hst;simpa using this
 have hfalse:∀i,(Array.replicate ops.size false).getD i false=false:=fun i=>by
  rw [Array.getD_eq_getD_getElem?,Array.getElem?_replicate];split<;>rfl
 have I:InvW (dQ ops.toList []) st f HS (fun i=>(Array.replicate ops.size false).getD i false) t ρ { w with drawn:=w.drawn+1 }:=by
  refine⟨F.size,fun s e hs=>?_,h0 _ _ R.drew,fun i hi=>by rw [hfalse]at hi;cases hi⟩
  rw [eA (fun j y _ _=>hfalse _)]at hs
  exact F.tmps s e hs
 obtain⟨S,tm,w',ρ',hle,hall,I',s⟩:=ajl T hst hs hstep (b:=b) (d:=d) (k:=k) (cs:=cs) ops.size (w.tape w.drawn (.order b.fn id)) (Array.replicate ops.size false) t ρ { w with drawn:=w.drawn+1 } (by simp) (by rw [Array.toList_replicate,xG]) I
 have hfold:∀ {α:Type} (q:aC→Option α) (a:α),fW S q 0 st a=oP q st a:=fun q a=>by
  have:=d9 (S:=S) (f:=q) (l:=st) (k:=0) (i:=st.length) (b:=a) (fun j y hy _=>by
   have:j<st.length:=(List.getElem?_eq_some_iff.1 hy).1
   rw [Nat.zero_add]
   simp [hall j (by omega),this])
  rwa [List.take_length]at this
 obtain⟨hf1,hf2⟩:=T.fin
 obtain⟨hz,hdf,hrd⟩:=T.rest
 refine CodeRes.sub hle (fun y hy=>hy) (CodeRes.here (t:=tm) (d:=d) (w:=w') (ρ:=ρ') ⟨by rw [I'.size,hz],fun s e hg=>?_,by rw [hdf];exact F.defers.mono hle,by rw [hrd];exact(F.mono hle).round⟩ ?_ ?_)
 · refine I'.slots s e ?_
   rw [hfold]
   exact hf2 s _ (fun e h=>h) e hg
 · exact h1 _ _ _ hall I'.heap
 · refine .head iP ?_
   rw [Region.schedule,hm]
   simp only [Bool.true_or,if_true]
   exact Steps.trans s (.one cG)
end
end Go.Ev
namespace Go.Ev
open Go.RowKit
def Loc.dels (ρ:Loc) (l:List Nat):Loc:={ ρ with own:=fun id=>if id∈l then none else ρ id }
theorem aqa {ρ:Loc}{l:List Nat}{id:Nat}(h:id∈l):(ρ.dels l) id=none:=by
 show(if id∈l then none else ρ id)=none
 rw [if_pos h]
theorem mU {ρ:Loc}{l:List Nat}{id:Nat}(h:id ∉ l):(ρ.dels l) id=ρ id:=by
 show(if id∈l then none else ρ id)=_
 rw [if_neg h]
theorem j5 {ρ:Loc}{l:List Nat}{id:Nat}{x:Nat×Nat}(h:(ρ.dels l) id=some x):ρ id=some x:=by
 have h:(if id∈l then none else ρ id)=some x:=h
 split at h
 · cases h
 · exact h
theorem oH {ρ:Loc}{N:Nat}{l:List Nat}(h:∀id∈l,N≤id):(ρ.cut N).le (ρ.dels l):=by
 refine⟨fun id x hx=>?_,fun b pre hb=>⟨[],by rw [List.append_nil];exact hb⟩,fun _ _ _ h=>h⟩
 have hx:(if id<N then ρ id else none)=some x:=hx
 split at hx
 · rename_i hlt
   rw [mU fun hm=>by have:=h id hm;omega]
   exact hx
 · cases hx
theorem le_dels {ρ ρ':Loc}{l:List Nat}(hle:ρ.le ρ') (h:∀id∈l,ρ id=none):ρ.le (ρ'.dels l):=by
 refine⟨fun id x hx=>?_,hle.fro,hle.tau⟩
 rw [mU fun hm=>by rw [h id hm]at hx;cases hx]
 exact hle.own _ _ hx
def okV (N:Nat) (l:List Nat) (e:EVal):Prop:=below N e=true∨∃id o,e=.ptr id o∧id ∉ l
theorem aj4 {ρ:Loc}{N:Nat}{l:List Nat}{e:EVal}{v:Value}(hl:∀id∈l,N≤id) (ho:okV N l e) (h:VRel ρ e v):VRel (ρ.dels l) e v:=by
 rcases ho with hb|⟨id,o,rfl,hn⟩
 · exact(h.cut hb).mono (oH hl)
 · cases h with
   | ptr _ _ b C hb=>exact .ptr _ _ b C (by rw [mU hn];exact hb)
section
variable {P:Program}{B0:Nat}{W0:eF}{ρ:Loc}{h:H}{w:World}{g:G}{K:aH}{r:Rec}
theorem HRel.dels (R:HRel P B0 W0 ρ h w) {N:Nat}{l:List Nat}(hl:∀id∈l,N≤id) (hg:∀id∈l,∀o,h.get id≠some o) (ho:∀id o,h.get id=some o→okO N o):HRel P B0 W0 (ρ.dels l) h w:=by
 have hne:∀id o,h.get id=some o→id ∉ l:=fun id o h1 h2=>hg id h2 o h1
 refine⟨R.below,R.base,fun id hid=>?_,fun id b C hb=>R.lo _ _ _ (j5 hb),fun id id' o o' b C C' h1 h2 r1 r2=>R.inj _ _ _ _ _ _ _ h1 h2 (j5 r1) (j5 r2),fun id o h1=>?_,R.fz,fun b pre hb id C o h1 hr=>R.free b pre hb id C o h1 (j5 hr),R.fz0,R.mdom,fun id n e hk=>?_,R.tnew,R.tinj⟩
 · cases hq:(ρ.dels l) id with
   | none=>rfl
   | some x=>have:=j5 hq;rw [R.dom id hid]at this;cases this
 · obtain ⟨b,C,hb,r1⟩:=R.objs _ _ h1
   exact⟨b,C,by rw [mU (hne _ _ h1)];exact hb,(r1.cut' (ho _ _ h1)).mono (oH hl)⟩
 · obtain ⟨x,h1,h2⟩:=R.toks id n e hk
   exact⟨x,h1,fun b' C' hx=>(h2 b' C' hx).keep rfl rfl⟩
theorem HRel.up (R:HRel P B0 W0 ρ h w) (k:Nat):HRel P B0 W0 ρ ⟨h.n+k,h.t,h.m,h.k⟩ w:=
 ⟨R.below,R.base,fun id hid=>R.dom id (by have hid:h.n+k≤id:=hid;omega),R.lo,R.inj,R.objs,R.fz,R.free,R.fz0,R.mdom,R.toks,R.tnew,R.tinj⟩
theorem HRel.less (R:HRel P B0 W0 ρ h w) {h2:H}(hn:h2.n=h.n) (hm:h2.m=h.m) (hk:h2.k=h.k) (hget:∀id o,h2.get id=some o→h.get id=some o):HRel P B0 W0 ρ h2 w:=
 ⟨R.below,R.base,fun id hid=>R.dom id (by omega),R.lo,fun a b o1 o2 b' C C' g1 g2=>R.inj a b o1 o2 b' C C' (hget _ _ g1) (hget _ _ g2),fun id o hg=>R.objs id o (hget _ _ hg),R.fz,fun b' pre hb' id C o hg=>R.free b' pre hb' id C o (hget _ _ hg),R.fz0,by rw [hm];exact R.mdom,by rw [hk];exact R.toks,by rw [hk];exact R.tnew,by rw [hk];exact R.tinj⟩
theorem HRel.newAt (R:HRel P B0 W0 ρ h w) {N:Nat}(hN:N<h.n) (hf:ρ N=none) (o:bR) (obj:Obj) (C:Nat) (ho:ORel P (ρ.add N (w.heap.size,C)) o C (some obj)) :
  HRel P B0 W0 (ρ.add N (w.heap.size,C)) (h.put N o) (w.alloc obj):=by
 have hle:=Loc.le_add (x:=(w.heap.size,C)) hf
 have hsz:(w.alloc obj).heap.size=w.heap.size+1:=by show(w.heap.push obj).size=_;simp
 have hold:∀b pre,ρ.fro b=some pre→(w.alloc obj).heap[b]? = w.heap[b]? := fun b pre hb=>Below.heap_alloc _ _ _ (FzOK.lt R.fz hb)
 refine⟨R.below.alloc R.base obj,by rw [hsz];have:=R.base;omega,?_,?_,?_,?_,FzOK.keep R.fz hold,?_,R.fz0,R.mdom,?_,R.tnew,R.tinj⟩
 · intro id hid
   have:h.n≤id:=hid
   rw [Loc.add_own]
   rw [if_neg (by omega)]
   exact R.dom _ this
 · intro id b C' hb
   rw [Loc.add_own]at hb
   rw [hsz]
   split at hb
   · cases hb;exact⟨R.base,by omega⟩
   · have:=R.lo _ _ _ hb;exact⟨this.1,by omega⟩
 · intro id id' o1 o2 b C1 C2 h1 h2 r1 r2
   rw [Loc.add_own]at r1 r2
   rcases H.get_put h1 with⟨a,_⟩ | ⟨a,g1⟩<;>rcases H.get_put h2 with⟨c,_⟩ | ⟨c,g2⟩
   · omega
   · simp only [a,if_true]at r1;simp only [c,if_false]at r2
     cases r1;have:=R.lo _ _ _ r2;omega
   · simp only [a,if_false]at r1;simp only [c,if_true]at r2
     cases r2;have:=R.lo _ _ _ r1;omega
   · simp only [a,if_false]at r1;simp only [c,if_false]at r2
     exact R.inj _ _ _ _ _ _ _ g1 g2 r1 r2
 · intro id o' hg
   rcases H.get_put hg with⟨a,rfl⟩ | ⟨a,g⟩
   · subst a
     refine⟨_,_,Loc.add_self _ _ _,?_⟩
     have:(w.alloc obj).heap[w.heap.size]? = some obj:=by show(w.heap.push obj)[w.heap.size]? = _;simp
     rw [this];exact ho
   · obtain ⟨b,C',hb,r⟩:=R.objs _ _ g
     refine⟨b,C',hle.own _ _ hb,?_⟩
     rw [Below.heap_alloc _ _ _ (R.lo _ _ _ hb).2]
     exact r.mono hle
 · intro b pre hb id C' o' hg hr
   rw [Loc.add_own]at hr
   rcases H.get_put hg with⟨a,rfl⟩ | ⟨a,g⟩
   · simp only [a,if_true]at hr
     cases hr
     exact absurd (FzOK.lt R.fz hb) (Nat.lt_irrefl _)
   · simp only [a,if_false]at hr
     exact R.free b pre hb _ _ _ g hr
 · intro id n e hk
   obtain⟨x,h1,h2⟩:=R.toks id n e hk
   refine⟨x,h1,fun b C' hx=>?_⟩
   have hb:=h2 b C' hx
   obtain⟨pre,hp⟩:=hb.fro
   exact hb.keep rfl (hold b pre hp)
theorem kB (R:HRel P B0 W0 ρ h w) {N:Nat}(hN:N<h.n) (hf:ρ N=none) {t:TypeId}{z:List EVal}(hz:bJ P t=some z) :
  ∃v w',(Instr.alloc t true (.tuple #[])).run P w=.ok v w'∧VRel (ρ.add N (w.heap.size,0)) (.ptr N 0) v∧HRel P B0 W0 (ρ.add N (w.heap.size,0)) (h.put N (.row z t 0 0 false)) w':=by
 obtain⟨u,hu,hr,_⟩:=bL (ρ:=ρ) hz w
 refine⟨.pointer (some ⟨w.heap.size,0,none⟩),w.alloc (.cells u.cells t),by simp [Instr.alloc,hu,newVar,newRow],.ptr _ _ _ _ (Loc.add_self _ _ _),R.newAt hN hf _ _ 0 ⟨u.cells,rfl,?_,fun _=>?_,fun h=>by cases h⟩⟩
 · rw [hr.length,List.take_length];exact hr.mono (Loc.le_add hf)
 · rw [hr.length];simp
end
structure Tw where
 N:Nat
 m:Nat
 l:List (Nat×Option bR)
 k:List (Nat×Option (Nat×TypeId))
 i1:Nat
 i2:Nat
 j1:Nat
 j2:Nat
 t1:TypeId
 t2:TypeId
 z1:List EVal
 z2:List EVal
 c1:List EVal
 c2:List EVal
def twO (a b:Bool) (z c:List EVal) (t:TypeId):Option bR:=if a=true then some (.row (if b=true then c else z) t 0 0 false)else none
namespace Tw
variable {P:Program}{B0:Nat}{W0:eF}{g:G}{X:Tw}
noncomputable def H (X:Tw) (S:Nat→Bool):Go.Ev.H:=mkH (X.N+2) ((X.N+1,twO (S X.i2) (S X.j2) X.z2 X.c2 X.t2)::(X.N,twO (S X.i1) (S X.j1) X.z1 X.c1 X.t1)::X.l) X.m X.k
structure OK (X:Tw):Prop where
 hN:X.N+1<16000
 keys:∀p∈X.l,p.1<X.N
 objs:∀p∈X.l,∀o,p.2=some o→okO X.N o
 z1:bI X.N X.z1=true
 z2:bI X.N X.z2=true
 c1:bI X.N X.c1=true
 c2:bI X.N X.c2=true
def un (X:Tw) (S:Nat→Bool):List Nat:=(if S X.i1=true then []else [X.N])++(if S X.i2=true then []else [X.N+1])
def HS (X:Tw) (P:Program) (B0:Nat) (W0:eF) (S:Nat→Bool) (ρ:Loc) (w:World):Prop:=HRel P B0 W0 ρ (X.H S) w∧∀id∈X.un S,ρ id=none
theorem un_N {S:Nat→Bool}(h:S X.i1=false):X.N∈X.un S:=by unfold un;rw [h];simp
theorem un_N1 {S:Nat→Bool}(h:S X.i2=false):X.N+1∈X.un S:=by unfold un;rw [h];simp
theorem un_of {S:Nat→Bool}{id:Nat}(h:id∈X.un S):(id=X.N∧S X.i1=false)∨(id=X.N+1∧S X.i2=false):=by
 unfold un at h
 rw [List.mem_append]at h
 rcases h with h|h
 · split at h
   · cases h
   · rename_i h1;rw [List.mem_singleton]at h;exact .inl ⟨h,by simpa using h1⟩
 · split at h
   · cases h
   · rename_i h1;rw [List.mem_singleton]at h;exact .inr ⟨h,by simpa using h1⟩
theorem get (hO:X.OK) {S:Nat→Bool}{id:Nat}{o:bR}(hg:(X.H S).get id=some o):(id=X.N+1∧twO (S X.i2) (S X.j2) X.z2 X.c2 X.t2=some o)∨(id=X.N∧twO (S X.i1) (S X.j1) X.z1 X.c1 X.t1=some o)∨(id<X.N∧lookG X.l id=some o):=by
 have hm:=Go.Ev.T.ofG_mem hg
 have hN:=hO.hN
 rcases List.mem_cons.1 hm with h1|hm
 · have h2:=(Prod.mk.inj h1).1;have h3:=(Prod.mk.inj h1).2;exact .inl ⟨h2,h3.symm⟩
 rcases List.mem_cons.1 hm with h1|hm
 · have h2:=(Prod.mk.inj h1).1;have h3:=(Prod.mk.inj h1).2;exact .inr (.inl ⟨h2,h3.symm⟩)
 have hlt:id<X.N:=hO.keys _ hm
 have h2:(X.H S).get id=lookG _ id:=mkH_get (by omega)
 rw [h2,lookG.eq_2,if_neg (by omega),lookG.eq_2,if_neg (by omega)]at hg
 exact .inr (.inr ⟨hlt,hg⟩)
theorem getN {S:Nat→Bool}(hO:X.OK):(X.H S).get X.N=twO (S X.i1) (S X.j1) X.z1 X.c1 X.t1:=by
 have hN:=hO.hN
 have h2:(X.H S).get X.N=lookG _ X.N:=mkH_get (by omega)
 rw [h2,lookG.eq_2,if_neg (by omega),lookG.eq_2,if_pos rfl]
theorem getN1 {S:Nat→Bool}(hO:X.OK):(X.H S).get (X.N+1)=twO (S X.i2) (S X.j2) X.z2 X.c2 X.t2:=by
 have hN:=hO.hN
 have h2:(X.H S).get (X.N+1)=lookG _ (X.N+1):=mkH_get (by omega)
 rw [h2,lookG.eq_2,if_pos rfl]
theorem ax4 {N:Nat}{a b:Bool}{z c:List EVal}{t:TypeId}{o:bR}(hz:bI N z=true) (hc:bI N c=true) (h:twO a b z c t=some o):okO N o:=by
 unfold twO at h
 split at h
 · cases h
   left
   show bI N _=true
   split
   · exact hc
   · exact hz
 · cases h
theorem sT {α:Type}:∀ {l:List (Nat×Option α)}{i:Nat}{v:α},lookG l i=some v→(i,some v)∈l
 | (j,w)::l,i,v,h=>by
   rw [lookG.eq_2]at h
   split at h
   · rename_i e;subst e;rw [h];exact List.mem_cons_self
   · exact List.mem_cons_of_mem _ (sT h)
theorem okall {S:Nat→Bool}(hO:X.OK) (id:Nat) (o:bR) (hg:(X.H S).get id=some o):okO X.N o:=by
 rcases get hO hg with⟨_,h⟩ | ⟨_,h⟩ | ⟨_,h⟩
 · exact ax4 hO.z2 hO.c2 h
 · exact ax4 hO.z1 hO.c1 h
 · exact hO.objs _ (sT h) _ rfl
theorem unne {S:Nat→Bool}(hO:X.OK) (id:Nat) (h:id∈X.un S) (o:bR):(X.H S).get id≠some o:=by
 rcases un_of h with⟨rfl,h1⟩ | ⟨rfl,h1⟩
 · rw [getN hO];unfold twO;rw [h1];simp
 · rw [getN1 hO];unfold twO;rw [h1];simp
theorem unge {S:Nat→Bool}(id:Nat) (h:id∈X.un S):X.N≤id:=by
 rcases un_of h with⟨rfl,h1⟩ | ⟨rfl,h1⟩<;>omega
theorem op (hng:fL P) (G:GRel B0 W0.w g) (hO:X.OK) {ops:Array Oper}{i:Nat}{o:Oper}{fr0:EFr}{e:EVal}{h2:Go.Ev.H}{S:Nat→Bool}(ho:ops[i]? = some o) (hw:wantedE ops (aB ops o fr0) o=some true)
  (he:eOp P g (X.H S) (aB ops o fr0) o=some (.val e h2)) (hn:h2.n=X.N+2) (hm:h2.m=X.m) (hk:h2.k=(X.H S).k) (hget:∀id ob,(X.H (cD S i)).get id=some ob→h2.get id=some ob)
  (hun:∀id∈X.un (cD S i),id∈X.un S) (hb:below X.N e=true) {tm:Array Value} {d:List Deferred} {ρ:Loc} {w:World} (ht:TRel ρ (aB ops o fr0) tm) (hS:X.HS P B0 W0 S ρ w) (b:Frame) (k:List Item) (cs:List Frame) (js:List Nat) :
  ∃w' ρ' v,ρ.le ρ'∧VRel ρ' e v∧X.HS P B0 W0 (cD S i) ρ' w'∧Steps P (lone (fr b tm d (.inRegion ops (i::js)::k)) cs w) (lone (fr b (kF tm o.dst v) d (.inRegion ops js::k)) cs w'):=by
 have hE:ax1 ρ (aB ops o fr0) ({ tmps:=tm,defers:=d }:Act).eval:=TRel.eval (a:={ tmps:=tm,defers:=d }) ht
 obtain⟨w',ρ',hle,R',hres⟩:=bG hng G hS.1 hE he
 have R2:HRel P B0 W0 ρ' (X.H (cD S i)) w':=R'.less (by rw [hn];rfl) (by rw [hm];rfl) (by rw [hk];rfl) hget
 have R3:=R2.dels (N:=X.N) (l:=X.un (cD S i)) unge (unne hO) (okall hO)
 have hle2:ρ.le (ρ'.dels (X.un (cD S i))):=le_dels hle fun id h=>hS.2 id (hun id h)
 have hw':=aJ ht hw
 rcases hres with⟨u,hrun,hvr⟩ | ⟨hrun,hund⟩
 · exact⟨w',_,u,hle2,aj4 unge (.inl hb) hvr,⟨R3,fun id h=>aqa h⟩,.one (bX ho hw' (aD he) hrun)⟩
 · exact⟨w',_,undef,hle2,by rw [hund];exact bA _,⟨R3,fun id h=>aqa h⟩,.one (jL ho hw' (aD he) hrun)⟩
theorem exec_alloc {E:Operand→Value}{o:Oper}{t:TypeId}(ho:o.op=.alloc t):execOp E o=(do pure (.value (←Instr.alloc t true (.tuple #[])))):=by
 unfold execOp;rw [ho]
theorem alloc1 (hO:X.OK) {ops:Array Oper}{i:Nat}{o:Oper}{fr0:EFr}{S:Nat→Bool}(ho:ops[i]? = some o) (hop:o.op=.alloc X.t1) (hw:wantedE ops (aB ops o fr0) o=some true) (hz:bJ P X.t1=some X.z1)
  (hi:i=X.i1) (hi2:i≠X.i2) (hj1:i≠X.j1) (hj2:i≠X.j2) (hSi:S i=false) (hSj:S X.j1=false)
  {tm:Array Value} {d:List Deferred} {ρ:Loc} {w:World} (ht:TRel ρ (aB ops o fr0) tm) (hS:X.HS P B0 W0 S ρ w) (b:Frame) (k:List Item) (cs:List Frame) (js:List Nat) :
  ∃w' ρ' v,ρ.le ρ'∧VRel ρ' (.ptr X.N 0) v∧X.HS P B0 W0 (cD S i) ρ' w'∧Steps P (lone (fr b tm d (.inRegion ops (i::js)::k)) cs w) (lone (fr b (kF tm o.dst v) d (.inRegion ops js::k)) cs w'):=by
 have hN:=hO.hN
 have hf:=hS.2 _ (un_N (S:=S) (by rw [←hi];exact hSi))
 obtain⟨v,w',hrun,hv,hR⟩:=kB hS.1 (N:=X.N) (by show X.N<X.N+2;omega) hf hz
 refine⟨w',_,v,Loc.le_add hf,hv,⟨hR.less rfl rfl rfl fun id ob hg=>?_,fun id hid=>?_⟩,.one (bX ho (aJ ht hw) (by rw [hop];intro c h;cases h) (by rw [exec_alloc hop];simp [hrun]))⟩
 · have e:(X.H S).put X.N (.row X.z1 X.t1 0 0 false)=mkH (X.N+2) ((X.N,some (.row X.z1 X.t1 0 0 false))::(X.N+1,twO (S X.i2) (S X.j2) X.z2 X.c2 X.t2)::(X.N,twO (S X.i1) (S X.j1) X.z1 X.c1 X.t1)::X.l) X.m X.k:=rfl
   rw [e]
   rcases get hO hg with⟨rfl,h⟩ | ⟨rfl,h⟩ | ⟨hlt,h⟩
   · rw [mkH_get (by omega),lookG.eq_2,if_neg (by omega),lookG.eq_2,if_pos rfl,←h]
     simp only [cD,if_neg (Ne.symm hi2),if_neg (Ne.symm hj2)]
   · rw [mkH_get (by omega),lookG.eq_2,if_pos rfl,←h]
     simp only [cD,if_neg (Ne.symm hj1),hSj,if_pos hi.symm]
     rfl
   · rw [mkH_get (by omega),lookG.eq_2,if_neg (by omega),lookG.eq_2,if_neg (by omega),lookG.eq_2,if_neg (by omega)]
     exact h
 · rcases un_of hid with⟨rfl,h1⟩ | ⟨rfl,h1⟩
   · simp [cD,hi]at h1
   · rw [Loc.add_own,if_neg (by omega)]
     simp only [cD,if_neg (Ne.symm hi2)]at h1
     exact hS.2 _ (un_N1 h1)
theorem alloc2 (hO:X.OK) {ops:Array Oper}{i:Nat}{o:Oper}{fr0:EFr}{S:Nat→Bool}(ho:ops[i]? = some o) (hop:o.op=.alloc X.t2) (hw:wantedE ops (aB ops o fr0) o=some true) (hz:bJ P X.t2=some X.z2)
  (hi:i=X.i2) (hi1:i≠X.i1) (hj1:i≠X.j1) (hj2:i≠X.j2) (hSi:S i=false) (hSj:S X.j2=false)
  {tm:Array Value} {d:List Deferred} {ρ:Loc} {w:World} (ht:TRel ρ (aB ops o fr0) tm) (hS:X.HS P B0 W0 S ρ w) (b:Frame) (k:List Item) (cs:List Frame) (js:List Nat) :
  ∃w' ρ' v,ρ.le ρ'∧VRel ρ' (.ptr (X.N+1) 0) v∧X.HS P B0 W0 (cD S i) ρ' w'∧Steps P (lone (fr b tm d (.inRegion ops (i::js)::k)) cs w) (lone (fr b (kF tm o.dst v) d (.inRegion ops js::k)) cs w'):=by
 have hN:=hO.hN
 have hf:=hS.2 _ (un_N1 (S:=S) (by rw [←hi];exact hSi))
 obtain⟨v,w',hrun,hv,hR⟩:=kB hS.1 (N:=X.N+1) (by show X.N+1<X.N+2;omega) hf hz
 refine⟨w',_,v,Loc.le_add hf,hv,⟨hR.less rfl rfl rfl fun id ob hg=>?_,fun id hid=>?_⟩,.one (bX ho (aJ ht hw) (by rw [hop];intro c h;cases h) (by rw [exec_alloc hop];simp [hrun]))⟩
 · have e:(X.H S).put (X.N+1) (.row X.z2 X.t2 0 0 false)=mkH (X.N+2) ((X.N+1,some (.row X.z2 X.t2 0 0 false))::(X.N+1,twO (S X.i2) (S X.j2) X.z2 X.c2 X.t2)::(X.N,twO (S X.i1) (S X.j1) X.z1 X.c1 X.t1)::X.l) X.m X.k:=rfl
   rw [e]
   rcases get hO hg with⟨rfl,h⟩ | ⟨rfl,h⟩ | ⟨hlt,h⟩
   · rw [mkH_get (by omega),lookG.eq_2,if_pos rfl,←h]
     simp only [cD,if_neg (Ne.symm hj2),hSj,if_pos hi.symm]
     rfl
   · rw [mkH_get (by omega),lookG.eq_2,if_neg (by omega),lookG.eq_2,if_neg (by omega),lookG.eq_2,if_pos rfl,←h]
     simp only [cD,if_neg (Ne.symm hi1),if_neg (Ne.symm hj1)]
   · rw [mkH_get (by omega),lookG.eq_2,if_neg (by omega),lookG.eq_2,if_neg (by omega),lookG.eq_2,if_neg (by omega)]
     exact h
 · rcases un_of hid with⟨rfl,h1⟩ | ⟨rfl,h1⟩
   · rw [Loc.add_own,if_neg (by omega)]
     simp only [cD,if_neg (Ne.symm hi1)]at h1
     exact hS.2 _ (un_N h1)
   · simp [cD,hi]at h1
theorem free (hng:fL P) (G:GRel B0 W0.w g) (hO:X.OK) {ops:Array Oper}{i:Nat}{o:Oper}{fr0:EFr}{e:EVal}{S:Nat→Bool}(ho:ops[i]? = some o) (hw:wantedE ops (aB ops o fr0) o=some true)
  (he:∀h:Go.Ev.H,h.m=X.m→eOp P g h (aB ops o fr0) o=some (.val e h)) (hi:i≠X.i1∧i≠X.i2∧i≠X.j1∧i≠X.j2) (hb:below X.N e=true) {tm:Array Value} {d:List Deferred} {ρ:Loc} {w:World}
  (ht:TRel ρ (aB ops o fr0) tm) (hS:X.HS P B0 W0 S ρ w) (b:Frame) (k:List Item) (cs:List Frame) (js:List Nat) :
  ∃w' ρ' v,ρ.le ρ'∧VRel ρ' e v∧X.HS P B0 W0 (cD S i) ρ' w'∧Steps P (lone (fr b tm d (.inRegion ops (i::js)::k)) cs w) (lone (fr b (kF tm o.dst v) d (.inRegion ops js::k)) cs w'):=by
 obtain⟨h1,h2,h3,h4⟩:=hi
 have e1:X.H (cD S i)=X.H S:=by unfold H;simp only [cD,if_neg (Ne.symm h1),if_neg (Ne.symm h2),if_neg (Ne.symm h3),if_neg (Ne.symm h4)]
 have e2:X.un (cD S i)=X.un S:=by unfold un;simp only [cD,if_neg (Ne.symm h1),if_neg (Ne.symm h2)]
 exact op hng G hO ho hw (he _ rfl) rfl rfl rfl (fun id ob h=>by rw [e1]at h;exact h) (fun id h=>by rw [e2]at h;exact h) hb ht hS b k cs js
theorem store1 (hng:fL P) (G:GRel B0 W0.w g) (hO:X.OK) {ops:Array Oper}{i:Nat}{o:Oper}{fr0:EFr}{e:EVal}{S:Nat→Bool}(ho:ops[i]? = some o) (hw:wantedE ops (aB ops o fr0) o=some true)
  (he:∀h:Go.Ev.H,h.get X.N=some (.row X.z1 X.t1 0 0 false)→eOp P g h (aB ops o fr0) o=some (.val e (h.put X.N (.row X.c1 X.t1 0 0 false)))) (hi:i=X.j1) (hi1:i≠X.i1) (hi2:i≠X.i2) (hi3:i≠X.j2)
  (hSi:S i=false) (hS1:S X.i1=true) (hb:below X.N e=true) {tm:Array Value} {d:List Deferred} {ρ:Loc} {w:World}
  (ht:TRel ρ (aB ops o fr0) tm) (hS:X.HS P B0 W0 S ρ w) (b:Frame) (k:List Item) (cs:List Frame) (js:List Nat) :
  ∃w' ρ' v,ρ.le ρ'∧VRel ρ' e v∧X.HS P B0 W0 (cD S i) ρ' w'∧Steps P (lone (fr b tm d (.inRegion ops (i::js)::k)) cs w) (lone (fr b (kF tm o.dst v) d (.inRegion ops js::k)) cs w'):=by
 have hN:=hO.hN
 have hg:(X.H S).get X.N=some (.row X.z1 X.t1 0 0 false):=by rw [getN hO,hS1,←hi,hSi];rfl
 have e2:X.un (cD S i)=X.un S:=by unfold un;simp only [cD,if_neg (Ne.symm hi1),if_neg (Ne.symm hi2)]
 refine op hng G hO ho hw (he _ hg) rfl rfl rfl (fun id ob hg0=>?_) (fun id h=>by rw [e2]at h;exact h) hb ht hS b k cs js
 have e:(X.H S).put X.N (.row X.c1 X.t1 0 0 false)=mkH (X.N+2) ((X.N,some (.row X.c1 X.t1 0 0 false))::(X.N+1,twO (S X.i2) (S X.j2) X.z2 X.c2 X.t2)::(X.N,twO (S X.i1) (S X.j1) X.z1 X.c1 X.t1)::X.l) X.m X.k:=rfl
 rw [e]
 rcases get hO hg0 with⟨rfl,h⟩ | ⟨rfl,h⟩ | ⟨hlt,h⟩
 · rw [mkH_get (by omega),lookG.eq_2,if_neg (by omega),lookG.eq_2,if_pos rfl,←h]
   simp only [cD,if_neg (Ne.symm hi2),if_neg (Ne.symm hi3)]
 · rw [mkH_get (by omega),lookG.eq_2,if_pos rfl,←h]
   simp only [cD,if_neg (Ne.symm hi1),hS1,if_pos hi.symm]
   rfl
 · rw [mkH_get (by omega),lookG.eq_2,if_neg (by omega),lookG.eq_2,if_neg (by omega),lookG.eq_2,if_neg (by omega)]
   exact h
theorem store2 (hng:fL P) (G:GRel B0 W0.w g) (hO:X.OK) {ops:Array Oper}{i:Nat}{o:Oper}{fr0:EFr}{e:EVal}{S:Nat→Bool}(ho:ops[i]? = some o) (hw:wantedE ops (aB ops o fr0) o=some true)
  (he:∀h:Go.Ev.H,h.get (X.N+1)=some (.row X.z2 X.t2 0 0 false)→eOp P g h (aB ops o fr0) o=some (.val e (h.put (X.N+1) (.row X.c2 X.t2 0 0 false)))) (hi:i=X.j2) (hi1:i≠X.i1) (hi2:i≠X.i2) (hi3:i≠X.j1)
  (hSi:S i=false) (hS1:S X.i2=true) (hb:below X.N e=true) {tm:Array Value} {d:List Deferred} {ρ:Loc} {w:World}
  (ht:TRel ρ (aB ops o fr0) tm) (hS:X.HS P B0 W0 S ρ w) (b:Frame) (k:List Item) (cs:List Frame) (js:List Nat) :
  ∃w' ρ' v,ρ.le ρ'∧VRel ρ' e v∧X.HS P B0 W0 (cD S i) ρ' w'∧Steps P (lone (fr b tm d (.inRegion ops (i::js)::k)) cs w) (lone (fr b (kF tm o.dst v) d (.inRegion ops js::k)) cs w'):=by
 have hN:=hO.hN
 have hg:(X.H S).get (X.N+1)=some (.row X.z2 X.t2 0 0 false):=by rw [getN1 hO,hS1,←hi,hSi];rfl
 have e2:X.un (cD S i)=X.un S:=by unfold un;simp only [cD,if_neg (Ne.symm hi1),if_neg (Ne.symm hi2)]
 refine op hng G hO ho hw (he _ hg) rfl rfl rfl (fun id ob hg0=>?_) (fun id h=>by rw [e2]at h;exact h) hb ht hS b k cs js
 have e:(X.H S).put (X.N+1) (.row X.c2 X.t2 0 0 false)=mkH (X.N+2) ((X.N+1,some (.row X.c2 X.t2 0 0 false))::(X.N+1,twO (S X.i2) (S X.j2) X.z2 X.c2 X.t2)::(X.N,twO (S X.i1) (S X.j1) X.z1 X.c1 X.t1)::X.l) X.m X.k:=rfl
 rw [e]
 rcases get hO hg0 with⟨rfl,h⟩ | ⟨rfl,h⟩ | ⟨hlt,h⟩
 · rw [mkH_get (by omega),lookG.eq_2,if_pos rfl,←h]
   simp only [cD,if_neg (Ne.symm hi2),hS1,if_pos hi.symm]
   rfl
 · rw [mkH_get (by omega),lookG.eq_2,if_neg (by omega),lookG.eq_2,if_neg (by omega),lookG.eq_2,if_pos rfl,←h]
   simp only [cD,if_neg (Ne.symm hi1),if_neg (Ne.symm hi3)]
 · rw [mkH_get (by omega),lookG.eq_2,if_neg (by omega),lookG.eq_2,if_neg (by omega),lookG.eq_2,if_neg (by omega)]
   exact h
theorem HS0 (hO:X.OK) {S:Nat→Bool}(hS:∀i,S i=false) {ρ:Loc}{w:World}(R:HRel P B0 W0 ρ (mkH X.N X.l X.m X.k) w):X.HS P B0 W0 S ρ w:=by
 have hN:=hO.hN
 refine⟨(R.up 2).less rfl rfl rfl fun id o hg=>?_,fun id h=>R.dom id (unge id h)⟩
 rcases get hO hg with⟨rfl,h⟩ | ⟨rfl,h⟩ | ⟨hlt,h⟩
 · rw [hS]at h;cases h
 · rw [hS]at h;cases h
 · show (mkH X.N X.l X.m X.k).get id=some o
   rw [mkH_get (by omega)];exact h
theorem HS1 (hO:X.OK) {S:Nat→Bool}(h1:S X.i1=true) (h2:S X.i2=true) (h3:S X.j1=true) (h4:S X.j2=true) {ρ:Loc}{w:World}(hS:X.HS P B0 W0 S ρ w) :
  HRel P B0 W0 ρ (mkH (X.N+2) ((X.N+1,some (.row X.c2 X.t2 0 0 false))::(X.N,some (.row X.c1 X.t1 0 0 false))::X.l) X.m X.k) w:=by
 have e:X.H S=mkH (X.N+2) ((X.N+1,some (.row X.c2 X.t2 0 0 false))::(X.N,some (.row X.c1 X.t1 0 0 false))::X.l) X.m X.k:=by unfold H twO;rw [h1,h2,h3,h4];rfl
 rw [←e];exact hS.1
end Tw
theorem Top.twin {P:Program}{g:G}{K:aH}{r:Rec}{A:Option Nat}(hm:P.follows .mixedOrders=true) {id:Nat}{ops:Array Oper}{f f':EFr}{h':H}{Q:dG}{st:List aC}{X:Tw}(hO:X.OK)
  (T:Trace P g K r ops st f (mkH X.N X.l X.m X.k) f' h') (hst:st.map (·.o)=ops.toList) (hs:bN ops (dQ ops.toList [])=true)
  (hj:X.i1<ops.size∧X.i2<ops.size∧X.j1<ops.size∧X.j2<ops.size)
  (hstep:∀(B0:Nat) (W0:eF),GRel B0 W0.w g→ajO P ops (dQ ops.toList []) st (X.HS P B0 W0))
  {h2:H} (hV:∀(B0:Nat) (W0:eF) (ρ:Loc) (w:World),HRel P B0 W0 ρ (mkH (X.N+2) ((X.N+1,some (.row X.c2 X.t2 0 0 false))::(X.N,some (.row X.c1 X.t1 0 0 false))::X.l) X.m X.k) w→HRel P B0 W0 ρ h2 w) (hQ:Q .normal f' h2):Top A P g K (.region id ops true) f (mkH X.N X.l X.m X.k) Q:=by
 intro B0 W0 G0 hK b t d k cs ρ w F R
 obtain⟨e,f1,h1,hmem,t',d',w',ρ',l1,F1,R1,A1⟩:=vA hm id ops f f' (mkH X.N X.l X.m X.k) h2 st T hst hs (hstep B0 W0 G0)
  (fun ρ w R=>Tw.HS0 hO (fun i=>by rw [Array.getD_eq_getD_getElem?,Array.getElem?_replicate];split<;>rfl) R)
  (fun S ρ w hall hS=>hV _ _ _ _ (Tw.HS1 hO (hall _ hj.1) (hall _ hj.2.1) (hall _ hj.2.2.1) (hall _ hj.2.2.2) hS)) b t d k cs ρ w F R
 simp only [List.mem_singleton,Out.code.injEq]at hmem
 obtain⟨rfl,rfl,rfl⟩:=hmem
 exact⟨_,_,_,hQ,t',d',w',ρ',Loc.leA_of l1,F1,R1,A1⟩
end Go.Ev
namespace Go.Ev
open Go.RowKit
section
variable {P:Program}{g:G}{K:aH}{r:Rec}
def axn (P:Program) (g:G) (ops:Array Oper) (X:Tw) (i:Nat) (x:aC):Prop:=
 wantedE ops (aB ops x.o x.fr) x.o=some true ∧
 ((i=X.i1∧x.o.op=.alloc X.t1∧x.v=.ptr X.N 0)∨(i=X.i2∧x.o.op=.alloc X.t2∧x.v=.ptr (X.N+1) 0) ∨
   (i=X.j1∧below X.N x.v=true∧∀h:H,h.get X.N=some (.row X.z1 X.t1 0 0 false)→eOp P g h (aB ops x.o x.fr) x.o=some (.val x.v (h.put X.N (.row X.c1 X.t1 0 0 false)))) ∨
   (i=X.j2∧below X.N x.v=true∧∀h:H,h.get (X.N+1)=some (.row X.z2 X.t2 0 0 false)→eOp P g h (aB ops x.o x.fr) x.o=some (.val x.v (h.put (X.N+1) (.row X.c2 X.t2 0 0 false)))) ∨
   ((i≠X.i1∧i≠X.i2∧i≠X.j1∧i≠X.j2)∧below X.N x.v=true∧∀h:H,h.m=X.m→eOp P g h (aB ops x.o x.fr) x.o=some (.val x.v h)))
structure Tw.Apart (X:Tw) (P:Program) (A:List Nat) (n:Nat):Prop where
 a:X.i1≠X.i2∧X.i1≠X.j1∧X.i1≠X.j2∧X.i2≠X.j1∧X.i2≠X.j2∧X.j1≠X.j2
 n:X.i1<n∧X.i2<n∧X.j1<n∧X.j2<n
 h1:hasB (nthM A X.j1) X.i1=true
 h2:hasB (nthM A X.j2) X.i2=true
 z1:bJ P X.t1=some X.z1
 z2:bJ P X.t2=some X.z2
theorem Tw.stepW (hng:fL P) {B0:Nat}{W0:eF}(G:GRel B0 W0.w g) {X:Tw}(hO:X.OK) {ops:Array Oper}{A:List Nat}{st:List aC}(hst:st.map (·.o)=ops.toList) (hA:X.Apart P A ops.size)
  (hx:∀i x,st[i]? = some x→axn P g ops X i x):ajO P ops A st (X.HS P B0 W0):=by
 intro S i x hi hSi hanc hcl tm d ρ w ht hS b k cs js
 have ho:ops[i]? = some x.o:=by rw [←Array.getElem?_toList,←hst,List.getElem?_map,hi];rfl
 obtain⟨a1,a2,a3,a4,a5,a6⟩:=hA.a
 obtain⟨hw,h⟩:=hx i x hi
 rcases h with⟨hi1,hop,hv⟩ | ⟨hi1,hop,hv⟩ | ⟨hi1,hb,he⟩ | ⟨hi1,hb,he⟩ | ⟨hne,hb,he⟩
 · rw [hv]
   refine Tw.alloc1 hO ho hop hw hA.z1 hi1 (by omega) (by omega) (by omega) hSi ?_ ht hS b k cs js
   cases hq:S X.j1 with
   | false=>rfl
   | true=>have:=hcl _ hq _ hA.h1;rw [←hi1,hSi]at this;cases this
 · rw [hv]
   refine Tw.alloc2 hO ho hop hw hA.z2 hi1 (by omega) (by omega) (by omega) hSi ?_ ht hS b k cs js
   cases hq:S X.j2 with
   | false=>rfl
   | true=>have:=hcl _ hq _ hA.h2;rw [←hi1,hSi]at this;cases this
 · exact Tw.store1 hng G hO ho hw he hi1 (by omega) (by omega) (by omega) hSi (hanc _ (by rw [hi1];exact hA.h1)) hb ht hS b k cs js
 · exact Tw.store2 hng G hO ho hw he hi1 (by omega) (by omega) (by omega) hSi (hanc _ (by rw [hi1];exact hA.h2)) hb ht hS b k cs js
 · exact Tw.free hng G hO ho hw he hne hb ht hS b k cs js
theorem Top.twinT {A:Option Nat}(hm:P.follows .mixedOrders=true) (hng:fL P) {id:Nat}{ops:Array Oper}{f f':EFr}{h':H}{Q:dG}{st:List aC}{X:Tw}(hO:X.OK)
  (T:Trace P g K r ops st f (mkH X.N X.l X.m X.k) f' h') (hst:st.map (·.o)=ops.toList) (hs:bN ops (dQ ops.toList [])=true) (hA:X.Apart P (dQ ops.toList []) ops.size)
  (hx:∀i x,st[i]? = some x→axn P g ops X i x)
  {h2:H} (hV:∀(B0:Nat) (W0:eF) (ρ:Loc) (w:World),HRel P B0 W0 ρ (mkH (X.N+2) ((X.N+1,some (.row X.c2 X.t2 0 0 false))::(X.N,some (.row X.c1 X.t1 0 0 false))::X.l) X.m X.k) w→HRel P B0 W0 ρ h2 w) (hQ:Q .normal f' h2):Top A P g K (.region id ops true) f (mkH X.N X.l X.m X.k) Q:=
 Top.twin hm hO T hst hs hA.n (fun B0 W0 G=>Tw.stepW hng G hO hst hA hx) hV hQ
theorem tw_free {o:Oper}{t:T EVal}{h:H}{v:EVal}(hp:(isPure o||isKept t o)=true) (he:cX P g K r o t h (some true)=some (v,none)) (hn:∀fn args h',eOp P g h t o≠some (.enter fn args h')):∀h2,eOp P g h2 t o=some (.val v h2):=by
 have hf:HFree (fun h=>eOp P g h t o):=by
  rw [Bool.or_eq_true]at hp
  exact hp.elim nF qQ
 have he:gG P K r o (eOp P g h t o)=some (v,none):=he
 unfold gG at he
 split at he
 · rename_i v' h2 heq
   obtain⟨v2,e1,e2⟩:=hf _ _ heq
   cases e1
   have:v=v':=by
    cases hc:(isPure o||isStill o h v')with
    | true=>rw [hc]at he;simp only [cond_true,Oi,Prod.mk.injEq]at he;exact he.1.symm
    | false=>rw [hc]at he;simp only [cond_false,Oi,Prod.mk.injEq]at he;exact he.1.symm
   rw [this];exact e2
 · rename_i fn args h2 heq
   exact absurd heq (hn _ _ _)
 · cases he
theorem v7 {o:Oper}{t:T EVal}{h:H}{v:EVal}{h3:H}{ty e:TypeId}{a x:Operand}{id:Nat}{z:List EVal}{lo hi:Nat}{sl:Bool}(ho:o.op=.store ty a x) (ha:ev t a=some (.ptr id 0)) (hg:h.get id=some (.row z e lo hi sl))
  (he:eOp P g h t o=some (.val v h3)):∃u,ev t x=some u∧v=undefE∧h3=h.put id (.row (setRange z 0 u.cells) e lo hi sl)∧∀h2:H,h2.get id=some (.row z e lo hi sl)→eOp P g h2 t o=some (.val undefE (h2.put id (.row (setRange z 0 u.cells) e lo hi sl))):=by
 have e1:∀h2:H,eOp P g h2 t o=eStoreOp P h2 ty (ev t a) (ev t x):=fun h2=>by unfold eOp;rw [ho]
 rw [e1,ha]at he
 cases hx:ev t x with
 | none=>rw [hx]at he;cases he
 | some u =>
   rw [hx]at he
   simp only [eStoreOp,eStore]at he
   cases hi':P.info? ty with
   | none=>rw [hi']at he;cases he
   | some i=>
     rw [hi']at he
     simp only at he
     by_cases hl:u.cells.length=i.size
     · rw [if_pos hl]at he
       simp only [eStoreCells,hg]at he
       by_cases hc:0+u.cells.length≤z.length∧hi≤0∧allOne u.cells=true
       · rw [if_pos hc]at he
         simp only [Oi,EOut.val.injEq]at he
         refine⟨u,rfl,he.1.symm,he.2.symm,fun h2 h4=>?_⟩
         rw [e1,ha,hx]
         simp only [eStoreOp,eStore,hi']
         rw [if_pos hl]
         simp only [eStoreCells,h4]
         rw [if_pos hc]
       · rw [if_neg hc]at he;cases he
     · rw [if_neg hl]at he;cases he
end
end Go.Ev
namespace Go.Ev
open Go.RowKit
section
variable {P:Program}{g:G}{K:aH}{r:Rec}
theorem kC {α:Type}{q:aC→Option α}:∀ {st:List aC}{b:α},(∀(j:Nat) (y:aC),st[j]? = some y→q y=none)→oP q st b=b
 | [],_,_=>rfl
 | x::st,b,h=>by
   have h0:q x=none:=h 0 x rfl
   simp only [oP,h0,Option.getD_none]
   exact kC fun j y hy=>h (j+1) y (by simpa using hy)
theorem tY {α:Type}{q:aC→Option α}{v:α}:∀ {st:List aC}{i:Nat}{x:aC}{b:α},st[i]? = some x→q x=some v→(∀(j:Nat) (y:aC),j≠i→st[j]? = some y→q y=none)→oP q st b=v
 | [],_,_,_,h,_,_=>by simp at h
 | y::st,0,x,b,h,hq,ho=>by
   simp only [List.getElem?_cons_zero,Oi]at h;subst h
   simp only [oP,hq,Option.getD_some]
   exact kC fun j y hy=>ho (j+1) y (by omega) (by simpa using hy)
 | y::st,i+1,x,b,h,hq,ho=>by
   have h0:q y=none:=ho 0 y (by omega) rfl
   simp only [oP,h0,Option.getD_none]
   exact tY (by simpa using h) hq fun j z hj hz=>ho (j+1) z (by omega) (by simpa using hz)
theorem Flags.at {all:Array Oper}{st:List aC}{fl:List (Bool×Bool)}{h:H}(F:Flags P g K all st fl h):∀ {i:Nat}{x:aC},st[i]? = some x →
  ∃b,fl[i]? = some b∧x.act.isSome=b.1∧x.h.m=h.m∧(fC all x=true→(b.2=true∧b.1=false∧∀h2,HGrow x.h h2→aY P g K all x h2=true)∨∀h2,h2.m=x.h.m→aY P g K all x h2=true):=by
 induction F with
 | nil h=>intro i x hx;simp at hx
 | cons x b st fl h hh ha hn he rest ih=>
   intro i y hy
   cases i with
   | zero=>
     simp only [List.getElem?_cons_zero,Oi]at hy;subst hy
     exact⟨b,rfl,ha,by rw [hh],hn⟩
   | succ i=>
     obtain⟨b',h1,h2,h3,h4⟩:=ih (by simpa using hy)
     refine⟨b',by simpa using h1,h2,?_,h4⟩
     rw [h3]
     cases hq:x.act with
     | none=>rfl
     | some h'=>rw [Option.getD_some,(he h' hq).1,hh]
theorem yF {all:Array Oper}{x:aC}{t:T EVal}(ht:t=aB all x.o x.fr) (hwant:wantedE all t x.o=some true) (hdraw:cX P g K r x.o t x.h (some true)=some (x.v,none)) (hact:x.act=none)
  (hn:fC all x=true→∀h2:H,h2.m=x.h.m→aY P g K all x h2=true) (hc:∀h fn args h',eOp P g h t x.o≠some (.enter fn args h')) (h2:H) (hm:h2.m=x.h.m):eOp P g h2 t x.o=some (.val x.v h2):=by
 cases hp:(isPure x.o||isKept t x.o)with
 | true=>exact tw_free hp hdraw (hc _) h2
 | false=>
   have hneed:fC all x=true:=by
    unfold fC;rw [hact,←ht];simp only [hp,cond_false];rw [hwant]
   have h1:=hn hneed h2 hm
   unfold aY jT at h1
   rw [←ht]at h1
   split at h1
   · rename_i v2 h3 heq
     simp only [Bool.and_eq_true]at h1
     obtain⟨h5,h4⟩:=h1
     have:=EVal.beq_eq h4
     subst this
     have:=jJ h5 heq
     subst this
     exact heq
   · rename_i fn args h3 heq
     exact absurd heq (hc _ _ _ _)
   · cases h1
theorem fK {α:Type}{q:aC→Option α}{v:α}:∀ {st:List aC}{i:Nat}{x:aC}{b:α},st[i]? = some x→q x=some v→(∀(j:Nat) (y:aC),i<j→st[j]? = some y→q y=none)→oP q st b=v
 | [],_,_,_,h,_,_=>by simp at h
 | y::st,0,x,b,h,hq,ho=>by
   simp only [List.getElem?_cons_zero,Oi]at h;subst h
   simp only [oP,hq,Option.getD_some]
   exact kC fun j y hy=>ho (j+1) y (by omega) (by simpa using hy)
 | y::st,i+1,x,b,h,hq,ho=>by
   simp only [oP]
   exact fK (by simpa using h) hq fun j z hj hz=>ho (j+1) z (by omega) (by simpa using hz)
theorem jI {st:List aC}{i j:Nat}{y:aC}(h:(st.take i)[j]? = some y):j<i∧st[j]? = some y:=by
 rw [List.getElem?_take]at h
 split at h
 · exact⟨by assumption,h⟩
 · cases h
theorem mJ {st:List aC}{i j:Nat}{y:aC}(hj:j<i) (h:st[j]? = some y):(st.take i)[j]? = some y:=by
 rw [List.getElem?_take,if_pos hj];exact h
theorem pZ {o:Oper}{t:T EVal}{h:H}{v:EVal}{act:Option H}{ty:TypeId}{z:List EVal}(ho:o.op=.alloc ty) (hz:bJ P ty=some z) (he:cX P g K r o t h (some true)=some (v,act)) (ha:act.isSome=true) :
  v=.ptr h.n 0∧act=some (h.new (.row z ty 0 0 false)):=by
 have e1:eOp P g h t o=some (.val (.ptr h.n 0) (h.new (.row z ty 0 0 false))):=by
  unfold eOp;rw [ho];simp only [eAlloc,hz]
 have he:gG P K r o (eOp P g h t o)=some (v,act):=he
 rw [e1]at he
 simp only [gG,Bool.cond_eq_ite]at he
 split at he
 · simp only [Oi,Prod.mk.injEq]at he;rw [←he.2]at ha;cases ha
 · simp only [Oi,Prod.mk.injEq]at he;exact⟨he.1.symm,he.2.symm⟩
theorem o8 {o:Oper}{t:T EVal}{h:H}{v:EVal}{act:Option H}{ty:TypeId}{a x:Operand}(ho:o.op=.store ty a x) (he:cX P g K r o t h (some true)=some (v,act)) (ha:act.isSome=true) :
  ∃e h3,ev t a=some e∧eOp P g h t o=some (.val v h3)∧act=some h3:=by
 have e1:eOp P g h t o=eStoreOp P h ty (ev t a) (ev t x):=by unfold eOp;rw [ho]
 have he:gG P K r o (eOp P g h t o)=some (v,act):=he
 rw [e1]at he ⊢
 cases h1:ev t a with
 | none=>rw [h1]at he;cases he
 | some p =>
   cases h2:ev t x with
   | none=>rw [h1,h2]at he;cases he
   | some u=>
     rw [h1,h2]at he
     simp only [eStoreOp]at he ⊢
     cases h3:eStore P h ty p u with
     | none=>rw [h3]at he;cases he
     | some h4=>
       rw [h3]at he
       simp only [gG,Bool.cond_eq_ite]at he
       split at he
       · simp only [Oi,Prod.mk.injEq]at he;rw [←he.2]at ha;cases ha
       · simp only [Oi,Prod.mk.injEq]at he
         exact⟨p,h4,rfl,by rw [he.1],he.2.symm⟩
theorem Top.twinF {A:Option Nat}(hm:P.follows .mixedOrders=true) (hng:fL P) {id:Nat}{ops:Array Oper}{f f':EFr}{h':H}{Q:dG}{st:List aC}{fl:List (Bool×Bool)}{X:Tw}{a1 a2:Nat}{o1 o2 p1 p2:Oper}{y1 y2:TypeId}{u1 u2:Operand}
  (e1:eO P g K r ops ops.toList f (mkH X.N X.l X.m X.k)=some (st,f',h')) (e2:Flags P g K ops st fl (mkH X.N X.l X.m X.k)) (hs:bN ops (dQ ops.toList [])=true) (hO:X.OK) (hA:X.Apart P (dQ ops.toList []) ops.size)
  (hord:X.i1<X.i2∧X.i2<X.j1∧X.j1<X.j2) (hg:∀(i:Nat) (o:Oper),ops[i]? = some o→o.guard=none)
  (h1:ops[X.i1]? = some o1∧o1.op=.alloc X.t1∧o1.dst=some a1) (h2:ops[X.i2]? = some o2∧o2.op=.alloc X.t2∧o2.dst=some a2)
  (h3:ops[X.j1]? = some p1∧p1.op=.store y1 (.tmp a1) u1) (h4:ops[X.j2]? = some p2∧p2.op=.store y2 (.tmp a2) u2)
  (hone:∀(i j:Nat) (o o':Oper) (s:Nat),i≠j→ops[i]? = some o→ops[j]? = some o'→o.dst=some s→o'.dst≠some s)
  (hfl:∀(i:Nat) (b:Bool×Bool),fl[i]? = some b→(b=(false,false)∧i≠X.i1∧i≠X.i2∧i≠X.j1∧i≠X.j2)∨(b.1=true∧(i=X.i1∨i=X.i2∨i=X.j1∨i=X.j2)))
  (hfree:∀(i:Nat) (o:Oper),ops[i]? = some o→i≠X.i1∧i≠X.i2∧i≠X.j1∧i≠X.j2→(∀h t fn args h',eOp P g h t o≠some (.enter fn args h'))∧∃s e,o.dst=some s∧f'.tmps.get s=some e∧below X.N e=true)
  (hc1:h'.get X.N=some (.row X.c1 X.t1 0 0 false)) (hc2:h'.get (X.N+1)=some (.row X.c2 X.t2 0 0 false))
  (hQ:Q .normal f' h'):Top A P g K (.region id ops true) f (mkH X.N X.l X.m X.k) Q:=by
 have hN:=hO.hN
 obtain⟨T,hst⟩:=dD e1
 have hop:∀ {j:Nat} {y:aC},st[j]? = some y→ops[j]? = some y.o:=fun {j y} hy=>by
  rw [←Array.getElem?_toList,←hst,List.getElem?_map,hy];rfl
 have hlen:st.length=ops.size:=by have:=congrArg List.length hst;simpa using this
 have hat:∀i,i<ops.size→∃x,st[i]? = some x:=fun i hi=>⟨_,List.getElem?_eq_getElem (by omega)⟩
 have hwant:∀ {i:Nat} {x:aC},st[i]? = some x→wantedE ops (aB ops x.o x.fr) x.o=some true:=fun {i x} hx=>by
  unfold wantedE;rw [hg i _ (hop hx)]
 have hdraw:∀ {i:Nat} {x:aC},st[i]? = some x→cX P g K r x.o (aB ops x.o x.fr) x.h (some true)=some (x.v,x.act):=fun {i x} hx=>by
  have:=(T.at hx).2.1;rwa [hwant hx]at this
 have hquiet:∀ {i:Nat} {x:aC},st[i]? = some x→i≠X.i1∧i≠X.i2∧i≠X.j1∧i≠X.j2→wH x=none:=fun {i x} hx hne=>by
  obtain⟨b,h5,h6,_,_⟩:=e2.at hx
  rcases hfl i b h5 with⟨rfl,_⟩ | ⟨_,h7⟩
  · show x.act=none
    cases hq:x.act with
    | none=>rfl
    | some _=>rw [hq]at h6;cases h6
  · omega
 have hsome:∀ {i:Nat} {x:aC},st[i]? = some x→(i=X.i1∨i=X.i2∨i=X.j1∨i=X.j2)→x.act.isSome=true:=fun {i x} hx hi=>by
  obtain⟨b,h5,h6,_,_⟩:=e2.at hx
  rcases hfl i b h5 with⟨_,h7⟩ | ⟨h7,_⟩
  · omega
  · rw [h6];exact h7
 obtain⟨q1,q2,q3⟩:=hord
 obtain⟨n1,n2,n3,n4⟩:=hA.n
 obtain⟨x1,hx1⟩:=hat _ n1
 obtain⟨x2,hx2⟩:=hat _ n2
 obtain⟨x3,hx3⟩:=hat _ n3
 obtain⟨x4,hx4⟩:=hat _ n4
 have ex1:x1.o=o1:=by have:=hop hx1;rw [h1.1]at this;cases this;rfl
 have ex2:x2.o=o2:=by have:=hop hx2;rw [h2.1]at this;cases this;rfl
 have ex3:x3.o=p1:=by have:=hop hx3;rw [h3.1]at this;cases this;rfl
 have ex4:x4.o=p2:=by have:=hop hx4;rw [h4.1]at this;cases this;rfl
 have hh1:x1.h=mkH X.N X.l X.m X.k:=by
  rw [(T.at hx1).2.2.1]
  exact kC fun j y hy=>by obtain⟨h5,h6⟩:=jI hy;exact hquiet h6 (by omega)
 obtain⟨v1,ac1⟩:=pZ (by rw [ex1];exact h1.2.1) hA.z1 (hdraw hx1) (hsome hx1 (by omega))
 rw [hh1]at v1 ac1
 have hh2:x2.h=(mkH X.N X.l X.m X.k).new (.row X.z1 X.t1 0 0 false):=by
  rw [(T.at hx2).2.2.1]
  exact fK (mJ q1 hx1) ac1 fun j y hj hy=>by obtain⟨h5,h6⟩:=jI hy;exact hquiet h6 (by omega)
 obtain⟨v2,ac2⟩:=pZ (by rw [ex2];exact h2.2.1) hA.z2 (hdraw hx2) (hsome hx2 (by omega))
 rw [hh2]at v2 ac2
 have hh3:x3.h=mkH (X.N+2) ((X.N+1,some (.row X.z2 X.t2 0 0 false))::(X.N,some (.row X.z1 X.t1 0 0 false))::X.l) X.m X.k:=by
  rw [(T.at hx3).2.2.1]
  exact fK (mJ q2 hx2) ac2 fun j y hj hy=>by obtain⟨h5,h6⟩:=jI hy;exact hquiet h6 (by omega)
 have slot:∀ {i j a:Nat} {x y:aC} {e:EVal},i<j→st[i]? = some x→x.o.dst=some a→st[j]? = some y→ev (aB ops y.o y.fr) (.tmp a)=some e→e=x.v:=by
  intro i j a x y e hij hx hd hy he
  have he:(aB ops y.o y.fr).get a=some e:=he
  have h5:=(T.at hy).2.2.2 a (f.tmps.get a) (fun e h=>h) e (jQ he).2
  have h6:oP (wS a) (st.take j) (f.tmps.get a)=some x.v:=fK (mJ hij hx) (by simp [wS,hd]) fun j' y' hj' hy'=>by
   obtain⟨h7,h8⟩:=jI hy'
   have:=hone i j' _ _ a (by omega) (hop hx) (hop h8) hd
   simp [wS,this]
  rw [h6]at h5;cases h5;rfl
 obtain⟨ea,h3',ev3,eo3,ac3⟩:=o8 (by rw [ex3];exact h3.2) (hdraw hx3) (hsome hx3 (by omega))
 have hea:=slot (by omega) hx1 (by rw [ex1];exact h1.2.2) hx3 ev3
 rw [v1]at hea
 have g3:x3.h.get X.N=some (.row X.z1 X.t1 0 0 false):=by
  rw [hh3,mkH_get (by omega),lookG.eq_2,if_neg (by omega),lookG.eq_2,if_pos rfl]
 obtain⟨w3,-,vv3,hp3,st3⟩:=v7 (by rw [ex3];exact h3.2) (by rw [ev3,hea];rfl) g3 eo3
 have hh4:x4.h=mkH (X.N+2) ((X.N,some (.row (setRange X.z1 0 w3.cells) X.t1 0 0 false))::(X.N+1,some (.row X.z2 X.t2 0 0 false))::(X.N,some (.row X.z1 X.t1 0 0 false))::X.l) X.m X.k:=by
  rw [(T.at hx4).2.2.1]
  refine(fK (mJ q3 hx3) ac3 fun j y hj hy=>by obtain⟨h5,h6⟩:=jI hy;exact hquiet h6 (by omega)).trans ?_
  rw [hp3,hh3];rfl
 obtain⟨eb,h4',ev4,eo4,ac4⟩:=o8 (by rw [ex4];exact h4.2) (hdraw hx4) (hsome hx4 (by omega))
 have heb:=slot (by omega) hx2 (by rw [ex2];exact h2.2.2) hx4 ev4
 rw [v2]at heb
 have g4:x4.h.get (X.N+1)=some (.row X.z2 X.t2 0 0 false):=by
  rw [hh4,mkH_get (by omega),lookG.eq_2,if_neg (by omega),lookG.eq_2,if_pos rfl]
 obtain⟨w4,-,vv4,hp4,st4⟩:=v7 (by rw [ex4];exact h4.2) (by rw [ev4,heb];rfl) g4 eo4
 have hfin:h'=mkH (X.N+2) ((X.N+1,some (.row (setRange X.z2 0 w4.cells) X.t2 0 0 false))::(X.N,some (.row (setRange X.z1 0 w3.cells) X.t1 0 0 false))::(X.N+1,some (.row X.z2 X.t2 0 0 false))::(X.N,some (.row X.z1 X.t1 0 0 false))::X.l) X.m X.k:=by
  rw [T.fin.1]
  refine(fK hx4 ac4 fun j y hj hy=>hquiet hy (by omega)).trans ?_
  rw [hp4,hh4];rfl
 have k1:setRange X.z1 0 w3.cells=X.c1:=by
  rw [hfin,mkH_get (by omega),lookG.eq_2,if_neg (by omega),lookG.eq_2,if_pos rfl]at hc1
  simp only [Oi,bR.row.injEq]at hc1;exact hc1.1
 have k2:setRange X.z2 0 w4.cells=X.c2:=by
  rw [hfin,mkH_get (by omega),lookG.eq_2,if_pos rfl]at hc2
  simp only [Oi,bR.row.injEq]at hc2;exact hc2.1
 rw [k1]at st3
 rw [k2]at st4
 have hV:∀(B0:Nat) (W0:eF) (ρ:Loc) (w:World),HRel P B0 W0 ρ (mkH (X.N+2) ((X.N+1,some (.row X.c2 X.t2 0 0 false))::(X.N,some (.row X.c1 X.t1 0 0 false))::X.l) X.m X.k) w→HRel P B0 W0 ρ h' w:=fun B0 W0 ρ w R=>by
  rw [hfin,k1,k2]
  refine R.less rfl rfl rfl fun i o hgi=>?_
  have hi:i<16000:=by
   have hmem:=Go.Ev.T.ofG_mem hgi
   simp only [List.mem_cons,Prod.mk.injEq]at hmem
   rcases hmem with⟨h9,_⟩ | ⟨h9,_⟩ | ⟨h9,_⟩ | ⟨h9,_⟩ | h9
   · omega
   · omega
   · omega
   · omega
   · have:=hO.keys _ h9
     simp only at this
     omega
  rw [mkH_get hi]at hgi ⊢
  simp only [lookG.eq_2]at hgi ⊢
  split at hgi
  · rename_i h9;rw [if_pos h9];exact hgi
  · rename_i h9
    rw [if_neg h9]
    split at hgi
    · rename_i h8;rw [if_pos h8];exact hgi
    · rename_i h8
      rw [if_neg h8]
      first|exact hgi|(rw [if_neg h9,if_neg h8]at hgi;exact hgi)
 refine Top.twinT hm hng hO T hst hs hA (fun i x hx=>⟨hwant hx,?_⟩) hV hQ
 by_cases c1:i=X.i1
 · subst c1
   rw [hx1]at hx;cases hx
   exact .inl ⟨rfl,by rw [ex1];exact h1.2.1,v1⟩
 by_cases c2:i=X.i2
 · subst c2
   rw [hx2]at hx;cases hx
   exact .inr (.inl ⟨rfl,by rw [ex2];exact h2.2.1,v2⟩)
 by_cases c3:i=X.j1
 · subst c3
   rw [hx3]at hx;cases hx
   exact .inr (.inr (.inl ⟨rfl,by rw [vv3];rfl,by rw [vv3];exact st3⟩))
 by_cases c4:i=X.j2
 · subst c4
   rw [hx4]at hx;cases hx
   exact .inr (.inr (.inr (.inl ⟨rfl,by rw [vv4];rfl,by rw [vv4];exact st4⟩)))
 obtain⟨hc,s,e,hd,hs',hb⟩:=hfree i x.o (hop hx) ⟨c1,c2,c3,c4⟩
 refine .inr (.inr (.inr (.inr ⟨⟨c1,c2,c3,c4⟩,?_,fun h hm'=>?_⟩)))
 · have h5:=T.fin.2 s (f.tmps.get s) (fun e h=>h) e hs'
   have h6:oP (wS s) st (f.tmps.get s)=some x.v:=tY hx (by simp [wS,hd]) fun j y hj hy=>by
    have:=hone i j _ _ s (by omega) (hop hx) (hop hy) hd
    simp [wS,this]
   rw [h6]at h5;cases h5;exact hb
 · have hn:=hquiet hx ⟨c1,c2,c3,c4⟩
   obtain⟨b,h5,h6,h7,h8⟩:=e2.at hx
   have hb0:b=(false,false):=by
    rcases hfl i b h5 with⟨h9,_⟩ | ⟨_,h9⟩
    · exact h9
    · omega
   refine yF rfl (hwant hx) (by rw [hdraw hx,show x.act=none from hn]) hn (fun hneed=>?_) (fun h=>hc h _) h (by rw [hm',h7];rfl)
   rcases h8 hneed with⟨h9,_⟩ | h9
   · rw [hb0]at h9;cases h9
   · exact h9
end
end Go.Ev
namespace Go.Ev
open Go.RowKit
noncomputable section
def xP (o:Oper):Option TypeId:=match o.op with
 | .alloc t=>some t
 | _=>none
def v8 (o:Oper):Option Nat:=match o.op with
 | .store _ (.tmp a) _=>some a
 | _=>none
def nD (o:Oper):Bool:=match o.op with
 | .move _=>true
 | .binOp _ _ _ _ _=>true
 | .indexAddr _ _ _=>true
 | .load _ _=>true
 | _=>false
def mS:List Oper→Bool
 | []=>true
 | o::l=>match o.guard with
   | none=>mS l
   | some _=>false
def tG (s:Nat):List Oper→Bool
 | []=>true
 | o::l=>match o.dst with
   | some s'=>bif Nat.beq s s' then false else tG s l
   | none=>tG s l
def iK:List Oper→Bool
 | []=>true
 | o::l=>match o.dst with
   | some s=>bif tG s l then iK l else false
   | none=>iK l
def u0 (N:Nat) (fr:List (Nat×Option V)):List Oper→List (Bool×Bool)→Bool
 | [],[]=>true
 | o :: l,b::fl=>bif b.1 then u0 N fr l fl else bif b.2 then false else bif nD o then(match o.dst with
   | some s=>bif Nat.blt s 1000 then(match lookA fr s with
     | some (some v)=>bif aV N v then u0 N fr l fl else false
     | _=>false)else false
   | none=>false)else false
 | _,_=>false
def aqU (N:Nat):List (Nat×Option DObj)→Bool
 | []=>true
 | (i,x)::l=>bif Nat.blt i N then(match x with
   | some r=>bif D.belowO N r then aqU N l else false
   | none=>aqU N l)else false
def fourB (P:Program) (A:List Nat) (d d':D) (i1 i2 j1 j2:Nat) (o1 o2 p1 p2:Oper):Bool:=
 match xP o1,xP o2,v8 p1,v8 p2,o1.dst,o2.dst with
 | some t1,some t2,some a1,some a2,some b1,some b2=>match bJ P t1,bJ P t2,d'.row d.n,d'.row (d.n+1)with
   | some z1,some z2,some r1,some r2=>(Nat.beq a1 b1&&Nat.beq a2 b2&&hasB (nthM A j1) i1&&hasB (nthM A j2) i2&&bI d.n z1&&bI d.n z2&&b8 d.n r1.cells&&b8 d.n r2.cells) &&
     (decide (r1.e=t1)&&decide (r2.e=t2)&&!r1.sl&&!r2.sl&&Nat.blt i1 i2&&Nat.blt i2 j1&&Nat.blt j1 j2)
   | _,_,_,_=>false
 | _,_,_,_,_,_=>false
def twinB (P:Program) (ops:List Oper) (A:List Nat) (d d':D) (fl:List (Bool×Bool)):Bool:=
 match actIdx fl 0 with
 | [i1,i2,j1,j2]=>match ops[i1]?,ops[i2]?,ops[j1]?,ops[j2]? with
   | some o1,some o2,some p1,some p2=>fourB P A d d' i1 i2 j1 j2 o1 o2 p1 p2&&(mS ops&&iK ops&&u0 d.n d'.fr.l ops fl&&aqU d.n d.hp&&Nat.blt (d.n+1) 16000)
   | _,_,_,_=>false
 | _=>false
theorem tX {o:Oper}{t:TypeId}(h:xP o=some t):o.op=.alloc t:=by
 unfold xP at h
 split at h
 · rename_i t' ho;cases h;exact ho
 · cases h
theorem sE {o:Oper}{a:Nat}(h:v8 o=some a):∃y u,o.op=.store y (.tmp a) u:=by
 unfold v8 at h
 split at h
 · rename_i y a' u ho;cases h;exact⟨y,u,ho⟩
 · cases h
theorem mk_noEnter {x:Option EVal}{h:H}{fn:FuncId}{args:List EVal}{h':H}:mk x h≠some (.enter fn args h'):=fun he=>by
 cases x<;>cases he
theorem xX {P:Program}{g:G}{o:Oper}(ho:nD o=true) (h:H) (t:T EVal) (fn:FuncId) (args:List EVal) (h':H):eOp P g h t o≠some (.enter fn args h'):=fun he=>by
 unfold nD at ho
 unfold eOp at he
 split at ho
 · rename_i h1;rw [h1]at he;exact mk_noEnter he
 · rename_i h1;rw [h1]at he;simp only [eBinOp]at he;(repeat' split at he)<;>first|exact mk_noEnter he|(cases he;done)|simp at he
 · rename_i h1;rw [h1]at he;simp only [eIndexAddrOp]at he;(repeat' split at he)<;>first|exact mk_noEnter he|(cases he;done)|simp at he
 · rename_i h1;rw [h1]at he;simp only [eLoadOp]at he;(repeat' split at he)<;>first|exact mk_noEnter he|(cases he;done)|simp at he
 · cases ho
theorem nL:∀ {l:List Oper},mS l=true→∀(i:Nat) (o:Oper),l[i]? = some o→o.guard=none
 | [],_,i,o,h=>by simp at h
 | p :: l,hb,i,o,h=>by
   unfold mS at hb
   split at hb
   · rename_i hg
     cases i with
     | zero=>simp only [List.getElem?_cons_zero,Oi]at h;subst h;exact hg
     | succ i=>exact nL hb i o (by simpa using h)
   · cases hb
theorem wY {s:Nat}:∀ {l:List Oper},tG s l=true→∀(i:Nat) (o:Oper),l[i]? = some o→o.dst≠some s
 | [],_,i,o,h=>by simp at h
 | p :: l,hb,i,o,h=>by
   unfold tG at hb
   have hl:tG s l=true:=by
    split at hb
    · cases hq:Nat.beq s _<;>rw [hq]at hb<;>first|exact hb|cases hb
    · exact hb
   cases i with
   | zero=>
     simp only [List.getElem?_cons_zero,Oi]at h;subst h
     split at hb
     · rename_i s' hd
       rw [hd]
       intro he
       cases he
       have:Nat.beq s s=true:=Nat.beq_refl s
       rw [this]at hb;cases hb
     · rename_i hd;rw [hd];intro he;cases he
   | succ i=>exact wY hl i o (by simpa using h)
theorem i5:∀ {l:List Oper},iK l=true→∀(i j:Nat) (o o':Oper) (s:Nat),i<j→l[i]? = some o→l[j]? = some o'→o.dst=some s→o'.dst≠some s
 | [],_,i,j,o,o',s,_,h,_,_=>by simp at h
 | p :: l,hb,i,j,o,o',s,hij,h,h',hd=>by
   unfold iK at hb
   obtain⟨j,rfl⟩:∃k,j=k+1:=⟨j-1,by omega⟩
   have h':l[j]? = some o':=by simpa using h'
   cases i with
   | zero=>
     simp only [List.getElem?_cons_zero,Oi]at h;subst h
     rw [hd]at hb
     simp only at hb
     cases hq:tG s l with
     | true=>exact wY hq j o' h'
     | false=>rw [hq]at hb;cases hb
   | succ i=>
     have hl:iK l=true:=by
      split at hb
      · cases hq:tG _ l<;>rw [hq]at hb<;>first|exact hb|cases hb
      · exact hb
     exact i5 hl i j o o' s (by omega) (by simpa using h) h' hd
theorem freeB_ok {N : Nat} {fr:List (Nat×Option V)}:∀ {l:List Oper}{fl:List (Bool×Bool)},u0 N fr l fl=true→∀(i:Nat) (o:Oper) (b:Bool×Bool),l[i]? = some o→fl[i]? = some b →
  b.1=true∨(b=(false,false)∧nD o=true∧∃s v,o.dst=some s∧s<1000∧lookA fr s=some (some v)∧aV N v=true)
 | [],_,_,i,o,b,h,_=>by simp at h
 | p::l,[],hb,i,o,b,_,h'=>by simp at h'
 | p :: l, c :: fl, hb,i,o,b,h,h'=>by
   unfold u0 at hb
   obtain⟨c1,c2⟩:=c
   cases c1 with
   | true=>
     cases i with
     | zero=>simp only [List.getElem?_cons_zero,Oi]at h';subst h';exact .inl rfl
     | succ i=>exact freeB_ok (show u0 N fr l fl=true from hb) i o b (by simpa using h) (by simpa using h')
   | false =>
     cases c2 with
     | true=>cases hb
     | false =>
       simp only [cond_false]at hb
       cases hq:nD p with
       | false=>rw [hq]at hb;cases hb
       | true =>
         rw [hq]at hb
         simp only [cond_true]at hb
         split at hb
         · rename_i s hd
           cases hs:Nat.blt s 1000 with
           | false=>rw [hs]at hb;cases hb
           | true =>
             rw [hs]at hb
             simp only [cond_true]at hb
             split at hb
             · rename_i v hv
               cases hbv:aV N v with
               | false=>rw [hbv]at hb;cases hb
               | true=>
                 rw [hbv]at hb
                 cases i with
                 | zero=>
                   simp only [List.getElem?_cons_zero,Oi]at h h';subst h;subst h'
                   exact .inr ⟨rfl,hq,s,v,hd,by rwa [Nat.blt_eq]at hs,hv,hbv⟩
                 | succ i=>exact freeB_ok (show u0 N fr l fl=true from hb) i o b (by simpa using h) (by simpa using h')
             · cases hb
         · cases hb
theorem D.belowO_ok {N:Nat}{r:DObj}(k5:D.belowO N r=true):okO N r.o:=by
 cases r with
 | row r=>refine .inl ?_;simp only [DObj.o,DRow.o,Go.Ev.belowO];exact dF k5
 | iter s q=>exact .inl rfl
 | dfr b=>exact .inl rfl
 | sset ks=>exact .inl (pB _ _ _)
 | iset ks=>exact .inl (pC _ _ _)
 | mp es cl=>
   refine .inl ?_
   have k6:(es.all fun e=>aV N e.1&&aV N e.2.1)=true:=k5
   simp only [DObj.o,Go.Ev.belowO,List.all_map,List.all_eq_true,Function.comp,Bool.and_eq_true]at k6 ⊢
   exact fun e he=>⟨dP (k6 e he).1,dP (k6 e he).2⟩
 | loop st pend n fr ps x y=>
   refine wJ fun p hp=>?_
   simp only [List.mem_map]at hp
   obtain⟨q,hq,rfl⟩:=hp
   have k6:b8 N (fr.map (·.2))=true:=k5
   exact dP (i9 k6 _ (List.mem_map_of_mem hq))
theorem mT {N:Nat}:∀ {l:List (Nat×Option DObj)},aqU N l=true→∀p∈l,p.1<N∧∀r,p.2=some r→D.belowO N r=true
 | [],_,p,h=>by cases h
 | (i, x) :: l,hb,p,h=>by
   unfold aqU at hb
   cases hi:Nat.blt i N with
   | false=>rw [hi]at hb;cases hb
   | true =>
     rw [hi]at hb
     simp only [cond_true]at hb
     rw [Nat.blt_eq]at hi
     cases x with
     | none=>
       rcases List.mem_cons.1 h with rfl|h
       · exact⟨hi,fun r hr=>by cases hr⟩
       · exact mT hb p h
     | some r=>
       simp only at hb
       cases hr:D.belowO N r with
       | false=>rw [hr]at hb;cases hb
       | true=>
         rw [hr]at hb
         rcases List.mem_cons.1 h with rfl|h
         · exact⟨hi,fun r' h'=>by cases h';exact hr⟩
         · exact mT hb p h
theorem lF : ∀ {fl:List (Bool×Bool)}{k i:Nat}{b:Bool×Bool},fl[i]? = some b→(b.1=true↔k+i∈actIdx fl k)
 | [],k,i,b,h=>by simp at h
 | c :: fl, k,0,b,h=>by
   simp only [List.getElem?_cons_zero,Oi]at h;subst h
   obtain⟨c1,c2⟩:=c
   cases c1 with
   | true=>simp [actIdx]
   | false =>
     have hlow:∀ {fl:List (Bool×Bool)} {k j:Nat},j∈actIdx fl k→k≤j:=by
      intro fl
      induction fl with
      | nil=>intro k j h;cases h
      | cons d fl ih=>
        intro k j h
        obtain⟨d1,d2⟩:=d
        cases d1 with
        | true=>
          have h:j∈k::actIdx fl (k+1):=h
          rcases List.mem_cons.1 h with rfl|h
          · omega
          · have:=ih h;omega
        | false=>have:=ih (show j∈actIdx fl (k+1)from h);omega
     refine⟨fun h=>(by cases h),fun h=>?_⟩
     have:=hlow (show k+0∈actIdx fl (k+1)from h)
     omega
 | c :: fl,k,i+1,b,h=>by
   have ih:=lF (fl:=fl) (k:=k+1) (i:=i) (b:=b) (by simpa using h)
   rw [ih,show k+1+i=k+(i+1) by omega]
   obtain⟨c1,c2⟩:=c
   cases c1 with
   | true=>
     show _↔k+(i+1)∈k::actIdx fl (k+1)
     rw [List.mem_cons]
     exact⟨.inr,fun h=>h.elim (fun h=>by omega) id⟩
   | false=>exact Iff.rfl
end
end Go.Ev
namespace Go.Ev
open Go.RowKit
noncomputable section
variable {R:Type}{r:R}
def V.keptB:V→Bool
 | .fl _ _ _=>true
 | .el _=>true
 | .raw (.lsl _)=>true
 | .eptr s sz n i off=>(V.eptr s sz n i off).c.kept
 | _=>false
theorem V.keptB_c {v:V}{tk}:(v.ct tk).kept=v.keptB:=by
 cases v<;>simp only [V.ct,V.c,EVal.kept,V.keptB]
 case raw e=>cases e<;>rfl
 case gl id=>cases lookA tk id<;>rfl
def wA (o:Oper) (d:D) (w:V):Bool:=match o.op with
 | .buildSlice _ _ _=>Nat.ble 128 (d.m % 1024)
 | .call c=>match c.callee with
   | .builtin .append=>w.keptB
   | _=>isQuiet o
 | _=>isQuiet o
def extV (d:D):Bool:=match d.obj d.n with
 | some _=>false
 | none=>true
def ajd (d:D) (o:Oper):Bool:=match o.op with
 | .load _ x=>match dEv d x with
   | some (.lptr _ _)=>true
   | _=>false
 | _=>false
def aqz (d:D) (o:Oper):Bool:=match o.op with
 | .buildSlice _ _ _=>Nat.ble 128 (d.m % 1024)
 | _=>false
def aqm (o:Oper) (d d':D) (w:V) (kk:Bool×Bool→Option R):Option R:=
 bif rM o then kk (false,true)else
 bif isPure o then kk (false,false)else
 bif ajd d o then kk (false,false)else
 bif aqz d o then kk (false,false)else
 bif wA o d' w then kk (false,true)else
 bif Nat.blt d.n 16000 then kk (true,isNew o&&extV d)else none
def rG (C:Cfg R) (sz:Nat) (all:Array Oper):List Oper→List (Bool×Bool)→D→(List (Bool×Bool)→D→Option R)→Option R
 | [],fl,d,kk=>kk fl d
 | o::rest,fl,d,kk=>tK all d o (fun d=>match ajv C.P d o with|some (x,n,b)=>cond (Nat.ble (b*n) 1000000) (aqi sz d o.dst x fun d2=>rG C sz all rest ((false,true)::fl) d2 kk) none|none=>dOp C d o fun v d'=>aqm o d d' v fun b=>aqi sz d' o.dst v fun d2=>rG C sz all rest (b::fl) d2 kk) (fun d=>aqi sz d o.dst gC fun d2=>rG C sz all rest ((false,false)::fl) d2 kk)
section
variable {C:Cfg R}{K:aH}{sz:Nat}{d d':D}{f:EFr}{h h':H}{sh:List (List (Nat×V))}
theorem v9 {o:Oper}{d:D}{w:V}{tk}:isStill o d.H (w.ct tk)=wA o d w:=by
 unfold isStill wA
 cases o.op with
 | buildSlice _ _ _=>
   simp only [D.fz]
   rw [Bool.eq_iff_iff,Nat.ble_eq];simp
 | call c=>
   simp only
   cases c.callee with
   | builtin b=>cases b<;>first|exact V.keptB_c|rfl
   | _=>rfl
 | _=>rfl
theorem extV_c {o:Oper}{d:D}(hn:d.n<16000):ajh o d.H=(isNew o&&extV d):=by
 unfold ajh extV
 congr 1
 have e:d.H.get d.H.n=(d.obj d.n).map DObj.o:=by
  show d.H.get d.n=_
  unfold D.obj D.H
  rw [mkH_get hn,kO,show Nat.blt d.n 16000=true by rw [Nat.blt_eq];exact hn]
  simp only [cond_true]
  cases lookA d.hp d.n with
  | none=>rfl
  | some x=>cases x<;>rfl
 rw [e]
 cases d.obj d.n<;>rfl
theorem keptV_c (F:Fits sh C.P sz d f h) {o:Oper}(hk:ajd d o=true):isKept f.tmps o=true:=by
 unfold ajd at hk
 unfold isKept
 split at hk
 · rename_i ty x hop
   rw [hop]
   simp only
   split at hk
   · rename_i cs off hx
     rw [aF F hx,V.ct,V.c]
     simp
   · cases hk
 · cases hk
theorem j6 (CO : CfgOK C K) (hM:∀fn vs d kk,C.M fn vs d kk=none) (hY:∀fn vs d kk,C.Y fn vs d kk=none) {all:Array Oper}:∀ {l:List Oper}{fl:List (Bool×Bool)}{d:D}{f:EFr}{h:H}{kk:List (Bool×Bool)→D→Option R},Fits sh C.P sz d f h→rG C sz all l fl d kk=some r →
  bQ C.P C.g K all (fun fl' f' h'=>∃d',Fits sh C.P sz d' f' h'∧kk fl' d'=some r) l fl f h
 | [],fl,d,f,h,kk,F,hk=>⟨d,F,hk⟩
 | o :: rest, fl,d,f,h,kk,F,hk=>by
   unfold rG at hk
   show t9 C.P C.g K all _ o rest fl f h (wantedE all f.tmps o)
   obtain⟨d,F,hk|hk⟩:=oE F hk
   · obtain ⟨hw,hk⟩:=hk
     have hh:=F.heap
     rw [hh]at F ⊢
     clear hh
     rw [hw]
     show _∨_
     split at hk
     · rename_i x n b hz
       obtain⟨hb,hk⟩:=aA hk
       obtain⟨e1,e2,e3,e4,e5⟩:=tN (g:=C.g) F hz hb
       obtain⟨d2,F2,k2⟩:=eV F e3 hk
       rw [V.ct_plain e2]at F2
       right
       rw [e1,wpDOut_val,e4,e5,wpDSel_quiet]
       exact j6 CO hM hY F2 k2
     rcases dOp_ok F CO hk with⟨w,d',h1,h2,h3,h4,h5⟩ | ⟨fn,args,w,h1,h2,h3,h4,h5⟩ | ⟨fn,vs,h1,h2,h3⟩ | ⟨id,vs,h1,h3⟩
     rotate_left 2
     · rw [hM]at h3;cases h3
     · rw [hY]at h3;cases h3
     · rw [h1, wpDOut_val]
       have go:∀b,(aqi sz d' o.dst w fun d2=>rG C sz all rest (b::fl) d2 kk)=some r→bQ C.P C.g K all (fun fl' f' h'=>∃d',Fits sh C.P sz d' f' h'∧kk fl' d'=some r) rest (b::fl) (f.putd o.dst (w.ct d'.tk)) d'.H:=by
        intro b hb
        obtain⟨d2,F2,k2⟩:=eV (F.kept h3) h2 hb
        exact j6 CO hM hY F2 k2
       replace h4:aqm o d d' w (fun b=>aqi sz d' o.dst w fun d2=>rG C sz all rest (b::fl) d2 kk)=some r:=h4
       unfold aqm at h4
       rw [h5,cond_false]at h4
       cases hp:isPure o with
       | true=>
         rw [hp]at h4
         obtain⟨v0,e0,_⟩:=nF hp _ _ h1
         simp only [EOut.val.injEq]at e0
         right
         rw [wpDSel_pure,←e0.2]
         exact go _ h4
       | false =>
         rw [hp,cond_false]at h4
         cases hkv:ajd d o with
         | true=>
           rw [hkv]at h4
           have hkE:=keptV_c F hkv
           obtain⟨v0,e0,_⟩:=qQ (P:=C.P) (g:=C.g) hkE _ _ h1
           simp only [EOut.val.injEq]at e0
           have hq:=go _ h4
           rw [e0.2]at hq
           exact .inl ⟨.inl hkE,w.ct d'.tk,by rw [e0.2],hq⟩
         | false=>
         rw [hkv,cond_false]at h4
         cases hbv:aqz d o with
         | true=>
           rw [hbv]at h4
           have hq:=go _ h4
           have hbE:kQ d.H o=true∧d'.H=d.H:=by
            unfold aqz at hbv
            unfold kQ
            split at hbv
            · rename_i hop
              have hfz:d.H.fz=true:=by rw [D.fz];rw [Nat.ble_eq]at hbv;exact decide_eq_true hbv
              refine⟨?_,(pW hop hfz h1 rfl).1⟩
              rw [hop];exact hfz
            · cases hbv
           rw [hbE.2]at hq
           exact .inl ⟨.inr hbE.1,w.ct d'.tk,by rw [hbE.2],hq⟩
         | false=>
         rw [hbv,cond_false]at h4
         right
         cases hs:wA o d' w with
         | true=>
           rw [hs]at h4
           have hs2:isStill o d'.H (w.ct d'.tk)=true:=by rw [v9];exact hs
           have e0:=jJ hs2 h1
           rw [hs2,wpDSel_quiet,←e0]
           exact go _ h4
         | false=>
           rw [hs,cond_false]at h4
           obtain⟨hn,h4⟩:=aA h4
           rw [Nat.blt_eq]at hn
           rw [show isStill o d'.H (w.ct d'.tk)=false by rw [v9];exact hs,wpDSel_act,extV_c hn]
           exact go _ h4
     · right
       rw [h1,wpDOut_enter,h2,wpDKc_some]
       replace h4:aqm o d d w (fun b=>aqi sz d o.dst w fun d2=>rG C sz all rest (b::fl) d2 kk)=some r:=h4
       unfold aqm at h4
       rw [h5,cond_true]at h4
       obtain⟨d2,F2,k2⟩:=eV F (V.safe_ok h3).2 h4
       rw [V.safe_ct h3]at F2
       exact j6 CO hM hY F2 k2
   · obtain ⟨hw,hk⟩:=hk
     rw [hw]
     show bQ _ _ _ _ _ _ _ _ _
     obtain⟨d2,F2,k2⟩:=eV F (v:=gC) trivial hk
     have e:gC.ct d.tk=undefE:=by simp only [gC,V.ct,V.c,V.cs,undefE]
     rw [e]at F2
     exact j6 CO hM hY F2 k2
end
def Cfg.still {R:Type}(C:Cfg R):Cfg R:={ C with M:=fun _ _ _ _=>none,Y:=fun _ _ _ _=>none }
theorem CfgOK.still {R:Type}{C:Cfg R}{K:aH}(h:CfgOK C K):CfgOK C.still K:=⟨h.gd,h.eq,h.kd,h.no,fun _ _ _ _ _ h _=>(by cases h),fun _ _ _ _ _ h _=>(by cases h)⟩
def b6:Code→Nat
 | .region i _ _=>i
 | .seq a _=>b6 a
 | .cond _ a _=>b6 a
 | .block _ a=>b6 a
 | .loop a=>b6 a
 | .scope a=>b6 a
 | _=>1000000
structure It where
 f:FuncId
 b:Nat
 n:Nat
 sz:Nat
 ds:List Nat
 keep:List Nat
structure axW where
 sz:Nat
 loops:Nat→Option Lab
 joins:Nat→Option Lab
 iters:Nat→Option It
def nK:axW:=⟨0,fun _=>none,fun _=>none,fun _=>none⟩
abbrev mY (R:Type):=Nat→D→Option R
abbrev jC (R:Type):=oZ→D→Option R
structure Wh (R:Type) where
 C:Cfg R
 p:axW
 b:Nat
 sz:Nat
 A:Option Nat
structure Rf (R:Type) where
 w:Wh R→mY R→Operand→Array Tmp→Code→Code→D→jC R→Option R
 f:Wh R→mY R→Operand→Array Tmp→Code→Code→jC R→Nat→Option (D→Option R)
 k:Wh R→Operand→Array Tmp→Code→Code→List Nat
def Rf.none {R:Type}:Rf R:=⟨fun _ _ _ _ _ _ _ _=>Option.none,fun _ _ _ _ _ _ _ _=>Option.none,fun _ _ _ _ _=>[]⟩
def goto (A:Option Nat) (J:mY R) (l:Nat) (L:Lab) (d:D):Option R:=bif okA A L.n then retell L.tf d fun d=>match canon L d with
 | some d2=>J l d2
 | none=>none
 else none
def kSeq (W:Wh R) (J:mY R) (b:Code) (db:D→jC R→Option R) (k:jC R):jC R:=fun e d=>match e with
 | .normal=>match W.p.joins (W.b+b6 b)with
   | none=>db d k
   | some L=>goto W.A J (2*(W.b+b6 b)+1) L d
 | e=>k e d
def aqR (W:Wh R) (J:mY R) (a:Code) (k:jC R):jC R:=fun e d=>match e with
 | .normal=>match W.p.loops (W.b+b6 a)with
   | some L=>goto W.A J (2*(W.b+b6 a)) L d
   | none=>none
 | e=>k e d
def wT (id:Nat) (k:jC R):jC R:=fun e d=>match e with
 | .exit i=>bif Nat.beq i id then k .normal d else k (.exit i) d
 | e=>k e d
def kUn (ih:D→Option R) (k:jC R):jC R:=fun e d=>match e with
 | .normal=>ih d
 | e=>k e d
def sB (g:D→jC R→Option R) (k:jC R):Nat→D→Option R
 | 0,_=>none
 | n+1,d=>g d (kUn (sB g k n) k)
def bO (W:Wh R) (rf:Rf R):Code→List Nat
 | .seq a b=>bO W rf a++(match W.p.joins (W.b+b6 b)with
   | some _=>[2*(W.b+b6 b)+1]
   | none=>[])++bO W rf b
 | .cond _ a b=>bO W rf a++bO W rf b
 | .block _ a=>bO W rf a
 | .scope a=>bO W rf a
 | .loop a=>match W.p.loops (W.b+b6 a)with
   | some _=>(2*(W.b+b6 a))::bO W rf a
   | none=>[]
 | .rangeFunc f ps x y=>rf.k W f ps x y
 | _=>[]
def D.up (d:D):D:=⟨d.fr,d.n,d.hp,bif Nat.ble 64 d.m&&Nat.blt d.m 128 then 128 else d.m,d.tk⟩
theorem D.up_le {d:D}:d.m % 1099511627776≤d.up.m % 1099511627776:=by
 unfold D.up
 cases h:(Nat.ble 64 d.m&&Nat.blt d.m 128)with
 | false=>exact Nat.le_refl _
 | true=>simp only [Bool.and_eq_true,Nat.ble_eq,Nat.blt_eq]at h;simp only [cond_true];omega
theorem D.up_view {A:Option Nat}{P:Program}{f:EFr}{d:D}:View A P f d.H f d.up.H:=View.mode _ D.up_le
theorem D.up_fits {P:Program}{sh:List (List (Nat×V))}{sz:Nat}{d:D}{f:EFr}{h:Go.Ev.H}(F:Fits sh P sz d f h):Fits sh P sz d.up f d.up.H:=⟨F.sz,F.defers,F.round,F.has,F.tmps,F.inr,F.sh,rfl,F.lens⟩
def cE (W:Wh R) (rf:Rf R) (J:mY R):Code→D→jC R→Option R
 | .skip,d,k=>k .normal d
 | .label _,d,k=>k .normal d
 | .region _ ops false,d,k=>axi W.C W.sz ops ops.toList d (k .normal)
 | .region _ ops true,d,k=>bif kW ops W.sz then rG W.C.still W.sz ops ops.toList [] d.up fun fl d'=>bif mP (dQ ops.toList []) fl.reverse then k .normal d' else bif twinB W.C.P ops.toList (dQ ops.toList []) d.up d' fl.reverse then k .normal d' else none else none
 | .seq a b,d,k=>cE W rf J a d (kSeq W J b (cE W rf J b) k)
 | .cond c a b,d,k=>match dEv d c with
   | some (.bool q)=>match c with
     | .tmp t=>cond q (cE W rf J a (d.told t true) k) (cE W rf J b (d.told t false) k)
     | _=>cond q (cE W rf J a d k) (cE W rf J b d k)
   | _=>none
 | .block id a,d,k=>cE W rf J a d (wT id k)
 | .scope a,d,k=>cE W rf J a d k
 | .exit id,d,k=>k (.exit id) d
 | .ret,d,k=>k .ret d
 | .loop a,d,k=>match W.p.loops (W.b+b6 a)with
   | some L=>goto W.A J (2*(W.b+b6 a)) L d
   | none=>match bO W rf a with
     | []=>sB (cE W rf J a) k 64 d
     | _=>none
 | .rangeFunc f ps x y,d,k=>rf.w W J f ps x y d k
 | _,_,_=>none
def b7 (W:Wh R) (rf:Rf R) (J:mY R):Code→jC R→Nat→Option (D→Option R)
 | .seq a b,k,l=>match b7 W rf J a (kSeq W J b (cE W rf J b) k) l with
   | some f=>some f
   | none=>bif Nat.beq l (2*(W.b+b6 b)+1)then(match W.p.joins (W.b+b6 b)with
     | some _=>some fun d=>cE W rf J b d k
     | none=>b7 W rf J b k l)
     else b7 W rf J b k l
 | .cond _ a b,k,l=>match b7 W rf J a k l with
   | some f=>some f
   | none=>b7 W rf J b k l
 | .block id a,k,l=>b7 W rf J a (wT id k) l
 | .scope a,k,l=>b7 W rf J a k l
 | .loop a,k,l=>match W.p.loops (W.b+b6 a)with
   | some _=>bif Nat.beq l (2*(W.b+b6 a))then some fun d=>cE W rf J a d (aqR W J a k)else b7 W rf J a (aqR W J a k) l
   | none=>none
 | .rangeFunc f ps x y,k,l=>rf.f W J f ps x y k l
 | _,_,_=>none
def ajr (W:Wh R) (rf:Rf R) (c:Code) (k:jC R):Nat→mY R
 | 0,_,_=>none
 | n+1,l,d=>match b7 W rf (ajr W rf c k n) c k l with
   | some f=>f d
   | none=>none
def memB (x:Nat):List Nat→Bool
 | []=>false
 | y::l=>bif Nat.beq x y then true else memB x l
def pI:List Nat→Bool
 | []=>true
 | x::l=>bif memB x l then false else pI l
theorem wO {x:Nat}:∀ {l:List Nat},memB x l=true↔x∈l
 | []=>by simp [memB]
 | y :: l=>by
   simp only [memB,List.mem_cons]
   cases hb:Nat.beq x y with
   | true=>have:=Nat.eq_of_beq_eq_true hb;simp [this]
   | false=>
     have h1:x≠y:=fun e=>by rw [e,Nat.beq_refl]at hb;cases hb
     simp only [cond_false,wO,h1,false_or]
theorem pH:∀ {l:List Nat},pI l=true→l.Nodup
 | [],_=>List.nodup_nil
 | x :: l,h=>by
   simp only [pI]at h
   cases hb:memB x l with
   | true=>rw [hb]at h;cases h
   | false=>
     rw [hb]at h
     refine List.nodup_cons.2 ⟨fun hm=>?_,pH h⟩
     rw [←wO]at hm;rw [hm]at hb;cases hb
section
variable {W:Wh R}{rf:Rf R}{J:mY R}
def RfMem (rf:Rf R):Prop:=∀W J f ps x y k l g,rf.f W J f ps x y k l=some g→l∈rf.k W f ps x y
theorem aU (hr:RfMem rf):∀ {c:Code}{k:jC R}{l:Nat}{f:D→Option R},b7 W rf J c k l=some f→l∈bO W rf c
 | .seq a b,k,l,f,h=>by
   simp only [b7]at h
   simp only [bO,List.mem_append]
   split at h
   · rename_i f' hf
     exact .inl (.inl (aU hr hf))
   · cases hb:Nat.beq l (2*(W.b+b6 b)+1)with
     | true=>
       rw [hb]at h
       simp only [cond_true]at h
       split at h
       · rename_i x hx
         refine .inl (.inr ?_)
         simp [Nat.eq_of_beq_eq_true hb]
       · exact .inr (aU hr h)
     | false=>
       rw [hb]at h
       exact .inr (aU hr h)
 | .cond _ a b,k,l,f,h=>by
   simp only [b7]at h
   simp only [bO,List.mem_append]
   split at h
   · rename_i f' hf
     exact .inl (aU hr hf)
   · exact .inr (aU hr h)
 | .block id a,k,l,f,h=>by simp only [b7]at h;simp only [bO];exact aU hr h
 | .scope a,k,l,f,h=>by simp only [b7]at h;simp only [bO];exact aU hr h
 | .loop a,k,l,f,h=>by
   simp only [b7]at h
   simp only [bO]
   split at h
   · rename_i L hL
     simp only [List.mem_cons]
     cases hb:Nat.beq l (2*(W.b+b6 a))with
     | true=>exact .inl (Nat.eq_of_beq_eq_true hb)
     | false=>rw [hb]at h;exact .inr (aU hr h)
   · cases h
 | .rangeFunc f ps x y,k,l,g,h=>hr _ _ _ _ _ _ _ _ _ h
 | .skip,k,l,f,h=>by cases h
 | .label _,k,l,f,h=>by cases h
 | .region _ _ _,k,l,f,h=>by cases h
 | .exit _,k,l,f,h=>by cases h
 | .ret,k,l,f,h=>by cases h
 | .goto _,k,l,f,h=>by cases h
 | .refuse _,k,l,f,h=>by cases h
theorem fI (hr:RfMem rf) {c:Code}{k:jC R}{l:Nat}(h:l ∉ bO W rf c):b7 W rf J c k l=none:=by
 cases hq:b7 W rf J c k l with
 | none=>rfl
 | some f=>exact absurd (aU hr hq) h
end
end
end Go.Ev
namespace Go.Ev
open Go.RowKit
noncomputable section
theorem Top.twinB {A:Option Nat}{P:Program}{g:G}{K:aH}{r:Rec}{sh:List (List (Nat×V))}{sz:Nat}(hm:P.follows .mixedOrders=true) (hng:fL P) {id:Nat}{ops:Array Oper}{d d':D}{f f':EFr}{h':H}{st:List aC}{fl:List (Bool×Bool)}{Q:dG}
  (e1:eO P g K r ops ops.toList f d.H=some (st,f',h')) (e2:Flags P g K ops st fl d.H) (F':Fits sh P sz d' f' h') (hs:bN ops (dQ ops.toList [])=true) (hb:twinB P ops.toList (dQ ops.toList []) d d' fl=true) (hQ:Q .normal f' h') :
  Top A P g K (.region id ops true) f d.H Q:=by
 unfold Go.Ev.twinB at hb
 split at hb
 rotate_left
 · cases hb
 rename_i i1 i2 j1 j2 hidx
 split at hb
 rotate_left
 · cases hb
 rename_i o1 o2 p1 p2 g1 g2 g3 g4
 simp only [Bool.and_eq_true,Nat.blt_eq]at hb
 obtain⟨hfour,⟨⟨⟨hng',hap⟩,hfree⟩,hheap⟩,hN⟩:=hb
 unfold fourB at hfour
 split at hfour
 rotate_left
 · cases hfour
 rename_i t1 t2 a1 a2 b1 b2 q1 q2 q3 q4 q5 q6
 split at hfour
 rotate_left
 · cases hfour
 rename_i z1 z2 r1 r2 hz1 hz2 hr1 hr2
 simp only [Bool.and_eq_true,Nat.blt_eq,decide_eq_true_eq,Bool.not_eq_true']at hfour
 obtain⟨⟨⟨⟨⟨⟨⟨⟨c1,c2⟩,c3⟩,c4⟩,c5⟩,c6⟩,c7⟩,c8⟩,⟨⟨⟨⟨⟨⟨c9,c10⟩,c11⟩,c12⟩,c13⟩,c14⟩,c15⟩⟩:=hfour
 have c1:=Nat.eq_of_beq_eq_true c1
 have c2:=Nat.eq_of_beq_eq_true c2
 subst c1 c2
 obtain⟨y1,u1,s1⟩:=sE q3
 obtain⟨y2,u2,s2⟩:=sE q4
 let X:Tw:=⟨d.n,d.m,d.hp.map fun p=>(p.1,p.2.map DObj.o),d.tk.map fun p=>(p.1,some (oO p.2)),i1,i2,j1,j2,t1,t2,z1,z2,V.cs r1.cells,V.cs r2.cells⟩
 have tol:∀ {i:Nat} {o:Oper},ops[i]? = some o→ops.toList[i]? = some o:=fun h=>by rw [Array.getElem?_toList];exact h
 have oft:∀ {i:Nat} {o:Oper},ops.toList[i]? = some o→ops[i]? = some o:=fun h=>by rw [Array.getElem?_toList]at h;exact h
 have hsize:∀ {i:Nat} {o:Oper},ops.toList[i]? = some o→i<ops.size:=fun h=>by
  have:=(List.getElem?_eq_some_iff.1 h).1;simpa using this
 have hlen:fl.length=ops.size:=by
  obtain⟨T,hst⟩:=dD e1
  have:∀ {st:List aC} {fl:List (Bool×Bool)} {h:H},Flags P g K ops st fl h→fl.length=st.length:=fun F=>by
   induction F with
   | nil _=>rfl
   | cons _ _ _ _ _ _ _ _ _ _ ih=>simp [ih]
  rw [this e2]
  have:=congrArg List.length hst;simpa using this
 have hO:X.OK:=⟨hN,fun p hp=>by
  simp only [X,List.mem_map]at hp
  obtain⟨q,hq,rfl⟩:=hp
  exact(mT hheap q hq).1,fun p hp o ho=>by
  simp only [X,List.mem_map]at hp
  obtain⟨q,hq,rfl⟩:=hp
  simp only [Option.map_eq_some_iff]at ho
  obtain⟨r,hr,rfl⟩:=ho
  exact D.belowO_ok ((mT hheap q hq).2 r hr),c5,c6,dF c7,dF c8⟩
 have hA:X.Apart P (dQ ops.toList []) ops.size:=⟨by simp only [X];omega,⟨hsize g1,hsize g2,hsize g3,hsize g4⟩,c3,c4,hz1,hz2⟩
 have row:∀ {id:Nat} {r:DRow},d'.row id=some r→r.sl=false→h'.get id=some (.row (V.cs r.cells) r.e 0 0 false):=fun {id r} h1 h2=>by
  rw [F'.heap,D.row_get h1];unfold DRow.o;rw [h2]
 refine Top.twinF (X:=X) hm hng e1 e2 hs hO hA ⟨c13,c14,c15⟩ (fun i o h=>nL hng' i o (tol h)) ⟨oft g1,tX q1,q5⟩ ⟨oft g2,tX q2,q6⟩ ⟨oft g3,s1⟩ ⟨oft g4,s2⟩ (fun i j o o' s hij h1 h2 hd=>?_) (fun i b h=>?_) (fun i o h hne=>?_)
  (by have:=row hr1 c11;rw [c9]at this;exact this) (by have:=row hr2 c12;rw [c10]at this;exact this) hQ
 · rcases Nat.lt_or_gt_of_ne hij with hlt|hgt
   · exact i5 hap i j o o' s hlt (tol h1) (tol h2) hd
   · intro hd'
     exact i5 hap j i o' o s hgt (tol h2) (tol h1) hd' hd
 · have hm1:=lF (k:=0) h
   rw [hidx,Nat.zero_add]at hm1
   simp only [List.mem_cons,List.not_mem_nil,or_false]at hm1
   have hi:i<ops.size:=by rw [←hlen];exact(List.getElem?_eq_some_iff.1 h).1
   obtain⟨o,ho⟩:∃o,ops.toList[i]? = some o:=⟨_,List.getElem?_eq_getElem (by simpa using hi)⟩
   rcases freeB_ok hfree i o b ho h with h5|⟨h5,_⟩
   · exact .inr ⟨h5,hm1.1 h5⟩
   · left
     refine⟨h5,?_⟩
     have:¬(i=i1∨i=i2∨i=j1∨i=j2):=fun h6=>by
      have:=hm1.2 h6;rw [h5]at this;cases this
     simp only [X]
     omega
 · have hi:i<fl.length:=by rw [hlen];exact hsize (tol h)
   obtain⟨b,hb'⟩:∃b,fl[i]? = some b:=⟨_,List.getElem?_eq_getElem hi⟩
   have hm1:=lF (k:=0) hb'
   rw [hidx,Nat.zero_add]at hm1
   simp only [List.mem_cons,List.not_mem_nil,or_false]at hm1
   rcases freeB_ok hfree i o b (tol h) hb' with h5|⟨h5,h6,s,v,h7,h8,h9,h10⟩
   · have:=hm1.1 h5
     simp only [X]at hne
     omega
   · exact⟨fun h t fn args h'=>xX h6 h t fn args h',s,v.ct d'.tk,h7,F'.tmps s v h8 h9,tT h10 _⟩
theorem Top.drawB {A:Option Nat}{P:Program}{g:G}{K:aH}{sh:List (List (Nat×V))}{sz:Nat}(hm:P.follows .mixedOrders=true) (hng:fL P) {id:Nat}{ops:Array Oper}{d:D}{f:EFr}{Q:dG}(hs:kW ops f.sz=true)
  (hw:bQ P g K ops (fun fl f' h'=>∃d',Fits sh P sz d' f' h'∧(mP (dQ ops.toList []) fl.reverse=true∨Go.Ev.twinB P ops.toList (dQ ops.toList []) d d' fl.reverse=true)∧Q .normal f' h') ops.toList [] f d.H):Top A P g K (.region id ops true) f d.H Q:=by
 unfold kW at hs
 simp only [Bool.and_eq_true,List.all_eq_true,Nat.blt_eq]at hs
 obtain⟨st,f',h',fl',e1,e2,d',F',e3,e4⟩:=o5 (r:=Go.Ev.run P g K 0) ops.toList [] f d.H hs.2 hw
 simp only [List.append_nil,List.reverse_reverse]at e3
 rcases e3 with e3|e3
 rotate_left
 · exact Top.twinB hm hng e1 e2 F' hs.1 e3 e4
 refine Top.runDraw hm hng (n:=0) (outs:=[.code .normal f' h']) ?_ (fun e f'' h'' hmem=>by simp at hmem;obtain⟨rfl,rfl,rfl⟩:=hmem;exact e4)
 unfold Go.Ev.runDraw
 rw [e1]
 simp only [vB]
 rw [hs.1]
 have : t4 P g K ops (dQ ops.toList []) st d.H (actsOf st 0)=true:=by
  rw [tZ e2]
  unfold mP at e3
  generalize actIdx fl' 0=acts at e3
  cases acts with
  | nil=>rfl
  | cons a acts=>
    have e4:gA (dQ ops.toList []) (a::acts) (a::acts)=true∧hX (dQ ops.toList []) (b9 fl' 0) fl' 0=true:=by
     cases hc:gA (dQ ops.toList []) (a::acts) (a::acts)with
     | true=>simp only [hc,cond_true]at e3;exact⟨rfl,e3⟩
     | false=>simp only [hc,cond_false]at e3;cases e3
    show(bif gA _ (a::acts) (a::acts)then dA P g K ops _ st d.H (a::acts) st 0 else false)=true
    rw [e4.1]
    exact iQ st [] fl' d.H e2 e2 e4.2
 rw [this];rfl
end
end Go.Ev
namespace Go.Ev
open Go.RowKit
noncomputable section
variable {R:Type}{r:R}{K:aH}{sh:List (List (Nat×V))}
abbrev Find (R:Type):=mY R→Nat→Option (D→Option R)
def JOK (JJ:Nat→mY R) (FD:Find R):Prop:=∀n l d r,JJ n l d=some r→∃m f,n=m+1∧FD (JJ m) l=some f∧f d=some r
def Res (W:Wh R) (rf:Rf R) (FD:Find R) (c:Code) (κ:mY R→jC R):Prop:=
 ∀J l f,b7 W rf J c (κ J) l=some f→FD J l=some f
def jq (sh:List (List (Nat×V))) (A:Option Nat) (P:Program) (sz:Nat) (JJ:Nat→mY R) (κ:mY R→jC R) (n:Nat) (r:R):dG:=
 Viewed A P fun e f h=>∃m d,m≤n∧Fits sh P sz d f h∧κ (JJ m) e d=some r
theorem aqS {A:Option Nat}{P:Program}{sz:Nat}{JJ:Nat→mY R}{κ:mY R→jC R}{m n:Nat}(hmn:m≤n):∀e f h,jq sh A P sz JJ κ m r e f h→jq sh A P sz JJ κ n r e f h:=by
 rintro e f h ⟨f2,h2,v,q,d,hq,F,k⟩
 exact⟨f2,h2,v,q,d,Nat.le_trans hq hmn,F,k⟩
theorem nV {A:Option Nat}{P:Program}{sz:Nat}{J:mY R}{l:Nat}{L:Lab}{d:D}{f:EFr}{h:Go.Ev.H}(F:Fits sh P sz d f h) (hk:goto A J l L d=some r):∃d2 f2 h2,View A P f h f2 h2∧Exact sh P sz d2 f2 h2∧J l d2=some r:=by
 unfold goto at hk
 obtain⟨h0,hk⟩:=aA hk
 obtain⟨d1,f1,v1,F1,k1⟩:=sL (A:=A) F hk
 split at k1
 · rename_i d2 hd
   obtain⟨f2,h2,v2,E2⟩:=axB F1 h0 hd
   exact⟨d2,f2,h2,View.trans v1 v2,E2,k1⟩
 · cases k1
structure RfOK (rf:Rf R) (K:aH):Prop where
 mem:RfMem rf
 ok:∀(W:Wh R) (JJ:Nat→mY R) (FD:Find R),W.C.P.follows .mixedOrders=true→fL W.C.P→CfgOK W.C K→JOK JJ FD→∀(f:Operand) (ps:Array Tmp) (x y:Code) (κ:mY R→jC R),
  (∀J l g,rf.f W J f ps x y (κ J) l=some g→FD J l=some g)→(rf.k W f ps x y).Nodup →
  ∀ {sh:List (List (Nat×V))} {n:Nat} {d:D} {fr:EFr} {h:H} {r:R},Fits sh W.C.P W.sz d fr h→rf.w W (JJ n) f ps x y d (κ (JJ n))=some r→Top W.A W.C.P W.C.g K (.rangeFunc f ps x y) fr h (jq sh W.A W.C.P W.sz JJ κ n r)
theorem Rf.none_ok:RfOK (Rf.none (R:=R)) K:=⟨fun _ _ _ _ _ _ _ _ _ h=>(by cases h),fun _ _ _ _ _ _ _ _ _ _ _ _ _ _ sh n d fr h r _ hk=>(by cases hk)⟩
theorem bH {W:Wh R}{rf:Rf R}{JJ:Nat→mY R}{FD:Find R}(hm:W.C.P.follows .mixedOrders=true) (hng:fL W.C.P) (CO:CfgOK W.C K) (RO:RfOK rf K) (JO:JOK JJ FD):∀ {c:Code}{κ:mY R→jC R},Res W rf FD c κ→(bO W rf c).Nodup →
  ∀ {n:Nat} {d:D} {f:EFr} {h:H} {r:R},Fits sh W.C.P W.sz d f h→cE W rf (JJ n) c d (κ (JJ n))=some r→Top W.A W.C.P W.C.g K c f h (jq sh W.A W.C.P W.sz JJ κ n r)
 | .skip,κ,_,_,n,d,f,h,r,F,hk=>.skip ⟨f,h,View.refl,n,d,Nat.le_refl n,F,hk⟩
 | .label _,κ,_,_,n,d,f,h,r,F,hk=>.label ⟨f,h,View.refl,n,d,Nat.le_refl n,F,hk⟩
 | .region _ ops false,κ,_,_,n,d,f,h,r,F,hk=>by
   refine Top.ops (OpsT.mono (gY hng CO (all:=ops) F (show axi W.C W.sz ops ops.toList d (κ (JJ n) .normal)=some r from hk)) ?_)
   rintro f' h' ⟨d',F',k'⟩
   exact⟨f',h',View.refl,n,d',Nat.le_refl n,F',k'⟩
 | .region i ops true,κ,_,_,n,d,f,h,r,F,hk=>by
   unfold cE at hk
   obtain⟨hs,hk⟩:=aA hk
   rw [F.heap]
   refine Top.view D.up_view ?_
   refine Top.drawB (sh:=sh) (sz:=W.sz) hm hng (by rw [F.sz];exact hs) ?_
   have:=j6 (C:=W.C.still) CO.still (fun _ _ _ _=>rfl) (fun _ _ _ _=>rfl) (all:=ops) (D.up_fits F) hk
   refine eH (fun fl f' h' hq=>?_) this
   obtain⟨d',F',k'⟩:=hq
   cases k1:mP (dQ ops.toList []) fl.reverse with
   | true=>rw [k1]at k';exact⟨d',F',.inl rfl,f',h',View.refl,n,d',Nat.le_refl n,F',k'⟩
   | false=>
     rw [k1]at k'
     obtain⟨k3,k2⟩:=aA (show cond _ _ none=some r from k')
     exact⟨d',F',.inr k3,f',h',View.refl,n,d',Nat.le_refl n,F',k2⟩
 | .seq a b,κ,hr,hn,n,d,f,h,r,F,hk=>by
   simp only [bO]at hn
   have hna:=(List.nodup_append.1 (List.nodup_append.1 hn).1).1
   have hnb:=(List.nodup_append.1 hn).2.1
   have hra:Res W rf FD a (fun J=>kSeq W J b (cE W rf J b) (κ J)):=fun J l f hf=>hr J l f (by simp only [b7,hf])
   have hrb:Res W rf FD b κ:=fun J l f hf=>by
    refine hr J l f ?_
    have hl:=aU RO.mem hf
    have h1:l ∉ bO W rf a:=fun hq=>(List.nodup_append.1 hn).2.2 l (List.mem_append_left _ hq) l hl rfl
    simp only [b7,fI RO.mem h1]
    cases hb:Nat.beq l (2*(W.b+b6 b)+1)with
    | false=>exact hf
    | true=>
      simp only [cond_true]
      split
      · rename_i x hx
        exfalso
        refine(List.nodup_append.1 hn).2.2 l (List.mem_append_right _ ?_) l hl rfl
        rw [hx,Nat.eq_of_beq_eq_true hb];simp
      · exact hf
   refine Top.seq (Top.mono (bH hm hng CO RO JO hra hna F (show cE W rf _ a d _=some r from hk)) ?_)
   intro e f' h' hq
   cases e with
   | normal=>
     obtain⟨f2,h2,v,m,d2,hmn,F2,k2⟩:=hq
     refine Top.view v ?_
     simp only [kSeq]at k2
     split at k2
     · exact Top.mono (bH hm hng CO RO JO hrb hnb F2 k2) (aqS hmn)
     · rename_i L hL
       obtain⟨d3,f3,h3,v3,E3,k3⟩:=nV F2 k2
       obtain⟨m',fn,rfl,hfn,k4⟩:=JO _ _ _ _ k3
       have hkey:2*(W.b+b6 b)+1 ∉ bO W rf a:=fun hq=>by
        have h1:=(List.nodup_append.1 (List.nodup_append.1 hn).1).2.2
        exact h1 _ hq (2*(W.b+b6 b)+1) (by rw [hL];simp) rfl
       have hh2:=hr (JJ m') (2*(W.b+b6 b)+1) (fun d=>cE W rf (JJ m') b d (κ (JJ m'))) (by
        simp only [b7,fI RO.mem hkey,Nat.beq_refl,cond_true,hL])
       rw [hh2]at hfn
       simp only [Oi]at hfn
       subst hfn
       exact Top.view v3 (Top.mono (bH hm hng CO RO JO hrb hnb E3.fits k4) (aqS (by omega)))
   | exit i=>exact hq
   | ret=>exact hq
 | .cond c a b,κ,hr,hn,n,d,f,h,r,F,hk=>by
   simp only [bO]at hn
   have hna:=(List.nodup_append.1 hn).1
   have hnb:=(List.nodup_append.1 hn).2.1
   have hra:Res W rf FD a κ:=fun J l f hf=>hr J l f (by simp only [b7,hf])
   have hrb:Res W rf FD b κ:=fun J l f hf=>by
    refine hr J l f ?_
    have h1:l ∉ bO W rf a:=fun hq=>(List.nodup_append.1 hn).2.2 l hq l (aU RO.mem hf) rfl
    simp only [b7,fI RO.mem h1,hf]
   unfold cE at hk
   split at hk
   · rename_i q hc
     have hc':=aF F hc
     simp only [V.ct,V.c]at hc'
     split at hk
     · rename_i t
       refine Top.cond hc' (fun hq=>?_) (fun hq=>?_)
       · subst hq;exact bH hm hng CO RO JO hra hna (F.told hc) hk
       · subst hq;exact bH hm hng CO RO JO hrb hnb (F.told hc) hk
     · refine Top.cond hc' (fun hq=>?_) (fun hq=>?_)
       · subst hq;exact bH hm hng CO RO JO hra hna F hk
       · subst hq;exact bH hm hng CO RO JO hrb hnb F hk
   · cases hk
 | .block id a,κ,hr,hn,n,d,f,h,r,F,hk=>by
   have hra:Res W rf FD a (fun J=>wT id (κ J)):=fun J l f hf=>hr J l f (by simp only [b7,hf])
   refine Top.block (Top.mono (bH hm hng CO RO JO hra hn F (show cE W rf _ a d _=some r from hk)) ?_)
   intro e f' h' hq
   cases e with
   | normal=>exact hq
   | exit i=>
     obtain⟨f2,h2,v,m,d2,hmn,F2,k2⟩:=hq
     simp only [wT]at k2
     simp only
     cases hb:Nat.beq i id with
     | true=>
       rw [hb]at k2
       rw [if_pos (Nat.eq_of_beq_eq_true hb)]
       exact⟨f2,h2,v,m,d2,hmn,F2,k2⟩
     | false=>
       rw [hb]at k2
       rw [if_neg (fun e=>by rw [e,Nat.beq_refl]at hb;cases hb)]
       exact⟨f2,h2,v,m,d2,hmn,F2,k2⟩
   | ret=>exact hq
 | .scope a,κ,hr,hn,n,d,f,h,r,F,hk=>by
   have hra:Res W rf FD a κ:=fun J l f hf=>hr J l f (by simp only [b7,hf])
   simp only [bO]at hn
   exact .scope (bH (c:=a) hm hng CO RO JO hra hn F (show cE W rf _ a d _=some r from hk))
 | .exit id,κ,_,_,n,d,f,h,r,F,hk=>.exit ⟨f,h,View.refl,n,d,Nat.le_refl n,F,hk⟩
 | .ret,κ,_,_,n,d,f,h,r,F,hk=>.ret ⟨f,h,View.refl,n,d,Nat.le_refl n,F,hk⟩
 | .loop a,κ,hr,hn,n,d,f,h,r,F,hk=>by
   simp only [bO]at hn
   unfold cE at hk
   split at hk
   · rename_i L hL
     rw [hL]at hn
     obtain⟨hn0,hna⟩:=List.nodup_cons.1 hn
     have hra:Res W rf FD a (fun J=>aqR W J a (κ J)):=fun J l f hf=>hr J l f (by
      simp only [b7,hL]
      cases hb:Nat.beq l (2*(W.b+b6 a))with
      | false=>exact hf
      | true=>exact absurd (by rw [←Nat.eq_of_beq_eq_true hb];exact aU RO.mem hf) hn0)
     obtain⟨d2,f2,h2,v2,E2,k2⟩:=nV F hk
     refine Top.view v2 ?_
     refine Top.loop (σ:={ x:Nat×D×EFr×H // x.1≤n∧Fits sh W.C.P W.sz x.2.1 x.2.2.1 x.2.2.2∧JJ x.1 (2*(W.b+b6 a)) x.2.1=some r }) (fun s=>s.1.2.2) (fun s=>s.1.1) ⟨(n,d2,f2,h2),Nat.le_refl n,E2.fits,k2⟩ View.refl ?_
     rintro⟨⟨n',d',f',h'⟩,hle,F',k'⟩
     obtain⟨m,fn,hn',hfn,k3⟩:=JO _ _ _ _ k'
     have h2:=hr (JJ m) (2*(W.b+b6 a)) (fun d=>cE W rf (JJ m) a d (aqR W (JJ m) a (κ (JJ m)))) (by simp only [b7,hL,Nat.beq_refl,cond_true])
     rw [h2]at hfn
     simp only [Oi]at hfn
     subst hfn
     simp only at hle hn' F'
     refine Top.mono (bH hm hng CO RO JO hra hna F' k3) ?_
     intro e f3 h3 hq
     cases e with
     | normal=>
       obtain⟨f4,h4,v4,q,d4,hqm,F4,k4⟩:=hq
       simp only [aqR,hL]at k4
       obtain⟨d5,f5,h5,v5,E5,k5⟩:=nV F4 k4
       exact⟨⟨(q,d5,f5,h5),by simp only;omega,E5.fits,k5⟩,by show q<n';omega,View.trans v4 v5⟩
     | exit i=>
       obtain⟨f4,h4,v4,q,d4,hqm,F4,k4⟩:=hq
       exact⟨f4,h4,v4,q,d4,by omega,F4,k4⟩
     | ret=>
       obtain⟨f4,h4,v4,q,d4,hqm,F4,k4⟩:=hq
       exact⟨f4,h4,v4,q,d4,by omega,F4,k4⟩
   · split at hk
     · rename_i hkeys
       have hno:∀J k l,b7 W rf J a k l=none:=fun J k l=>fI RO.mem (by rw [hkeys];simp)
       refine Top.loop (σ:={ x:(Nat×Nat)×D×EFr×H // x.1.2≤n∧Fits sh W.C.P W.sz x.2.1 x.2.2.1 x.2.2.2∧sB (cE W rf (JJ x.1.2) a) (κ (JJ x.1.2)) x.1.1 x.2.1=some r }) (fun s=>s.1.2.2) (fun s=>s.1.1.1) ⟨((64,n),d,f,h),Nat.le_refl n,F,hk⟩ View.refl ?_
       rintro⟨⟨⟨m,n'⟩,d',f',h'⟩,hle,F',k'⟩
       simp only at hle F' k'
       cases m with
       | zero=>cases k'
       | succ m=>
         simp only [sB]at k'
         have hra:Res W rf FD a (fun J=>kUn (sB (cE W rf J a) (κ J) m) (κ J)):=fun J l f hf=>by rw [hno]at hf;cases hf
         refine Top.mono (bH hm hng CO RO JO hra (by rw [hkeys];exact List.nodup_nil) F' k') ?_
         intro e f3 h3 hq
         obtain⟨f4,h4,v4,q,d4,hqm,F4,k4⟩:=hq
         cases e with
         | normal=>exact⟨⟨((m,q),d4,f4,h4),by simp only;omega,F4,k4⟩,by show m<m+1;omega,v4⟩
         | exit i=>exact⟨f4,h4,v4,q,d4,by omega,F4,k4⟩
         | ret=>exact⟨f4,h4,v4,q,d4,by omega,F4,k4⟩
     · cases hk
 | .rangeFunc f ps x y,κ,hr,hn,n,d,fr,h,r,F,hk=>RO.ok W JJ FD hm hng CO JO f ps x y κ (fun J l g hf=>hr J l g hf) hn F hk
 | .goto _,κ,_,_,n,d,f,h,r,F,hk=>by cases hk
 | .refuse _,κ,_,_,n,d,f,h,r,F,hk=>by cases hk
def noJ:Nat→mY R:=fun _ _ _=>none
def noFD:Find R:=fun _ _=>none
theorem noJ_ok:JOK (R:=R) noJ noFD:=fun _ _ _ _ h=>by cases h
theorem ajq {W:Wh R}{rf:Rf R}{c:Code}{k:jC R}:JOK (ajr W rf c k) (fun J l=>b7 W rf J c k l):=by
 intro n l d r h
 cases n with
 | zero=>cases h
 | succ m=>
   simp only [ajr]at h
   split at h
   · rename_i f hf
     exact⟨m,f,rfl,hf,h⟩
   · cases h
end
end Go.Ev
namespace Go.Ev
open Go.RowKit
noncomputable section
def gE:Nat→List V→List (Nat×Option V)
 | _,[]=>[]
 | i,v::l=>(i,some v)::gE (i+1) l
def gM:List V→Bool
 | []=>true
 | v::l=>bif v.safe then gM l else false
def D.begin (m:Nat) (vs:List V):D:=⟨⟨gE 0 vs,[],none,[]⟩,0,[],m,[]⟩
theorem mK (tk):∀ {vs:List V}{i:Nat},gM vs=true→lC i (V.cs vs)=frC tk (gE i vs)
 | [],i,_=>by rw [V.cs];rfl
 | v::l,i,h=>by
   simp only [gM]at h
   obtain⟨h1,h2⟩:v.safe=true∧gM l=true:=by cases hv:v.safe<;>rw [hv]at h<;>first|cases h|exact⟨rfl,h⟩
   rw [V.cs,lC,mK tk h2]
   simp only [frC,gE,List.map_cons,Option.getD_some,V.ct_plain (V.safe_ok h1).1]
theorem hI:∀ {vs:List V}{i:Nat},gM vs=true→∀p∈gE i vs,i≤p.1∧p.1<i+vs.length∧∃v,p.2=some v∧v.inr
 | [],i,_,p,hp=>by cases hp
 | v :: l,i,h,p,hp=>by
   simp only [gM]at h
   obtain⟨h1,h2⟩:v.safe=true∧gM l=true:=by cases hv:v.safe<;>rw [hv]at h<;>first|cases h|exact⟨rfl,h⟩
   simp only [gE]at hp
   rcases List.mem_cons.1 hp with rfl|hp
   · exact⟨Nat.le_refl _,by simp only [List.length_cons];omega,v,rfl,(V.safe_ok h1).2⟩
   · obtain ⟨k1,k2,k3⟩:=hI h2 p hp
     exact⟨by omega,by simp only [List.length_cons];omega,k3⟩
def kX (P:Program) (gD:Nat→Option (List V)) (d:D):List ResultVar→Option (List V)
 | []=>some []
 | .tmp i::l=>match dEv d (.tmp i)with
   | some v=>match kX P gD d l with
     | some m=>some (v::m)
     | none=>none
   | none=>none
 | .cell i ty::l=>match dEv d (.tmp i)with
   | some a=>match ajp P gD d ty a with
     | some v=>bif v.safe then match kX P gD d l with
       | some m=>some (v::m)
       | none=>none
       else none
     | none=>none
   | none=>none
def D.putO (d:D) (id:Nat) (o:DObj):D:={ d with hp:=(id,some o)::d.hp }
theorem D.putO_H {d:D}{id:Nat}{o:DObj}:(d.putO id o).H=d.H.put id o.o:=by
 unfold D.H D.putO;rw [mkH_put];rfl
def oA:List Nat→D→Option D
 | [],d=>some d
 | i::l,d=>match d.obj i with
   | some (.dfr false)=>oA l (d.putO i (.dfr true))
   | _=>none
theorem w5:∀ {l:List Nat}{d d2:D},oA l d=some d2→cT d.H l=some d2.H∧d2.fr=d.fr∧d2.tk=d.tk∧d2.n=d.n
 | [],d,d2,h=>by simp only [oA,Oi]at h;subst h;exact⟨rfl,rfl,rfl,rfl⟩
 | i :: l,d,d2,h=>by
   simp only [oA]at h
   split at h
   · rename_i ho
     obtain⟨h1,h2,h3,h4⟩:=w5 h
     refine⟨?_,h2,h3,h4⟩
     have:=D.obj_get ho
     simp only [cT,this,DObj.o]
     rw [D.putO_H]at h1
     exact h1
   · cases h
def dEnd (P:Program) (gD:Nat→Option (List V)) (rs:List ResultVar) (e:oZ) (d0:D):Option V:=
 match e with
 | .exit _=>none
 | _ => match oA d0.fr.ds d0 with
   | some d=>match kX P gD d rs with
     | some vs=>match vs with
       | [v]=>v.arg d.tk
       | vs=>match oY d.tk vs with
         | some m=>some (.tup m)
         | none=>none
     | none=>none
   | none=>none
def dRet (P:Program) (gD:Nat→Option (List V)) (rs:List ResultVar) (d:D):Option V:=
 match kX P gD d rs with
 | some vs=>match vs with
   | [v]=>some v
   | vs=>bif lR vs then some (.tup vs)else none
 | none=>none
section
variable {P:Program}{g:G}{gD:Nat→Option (List V)}{sz:Nat}{d:D}{f:EFr}{h:H}{sh:List (List (Nat×V))}
theorem mV (hg:GD g gD) (F:Fits sh P sz d f h):∀ {rs:List ResultVar}{vs:List V},kX P gD d rs=some vs→resultsE P g h f.tmps rs=some (V.cts d.tk vs)
 | [],vs,hk=>by simp only [kX,Oi]at hk;subst hk;rfl
 | .tmp i::l,vs,hk=>by
   simp only [kX]at hk
   split at hk
   · rename_i v hv
     split at hk
     · rename_i m hm
       simp only [Oi]at hk;subst hk
       have:=aF F hv
       rw [ev]at this
       simp only [resultsE,this,mV hg F hm,V.cts,List.map_cons]
     · cases hk
   · cases hk
 | .cell i ty::l,vs,hk=>by
   simp only [kX]at hk
   split at hk
   · rename_i a ha
     split at hk
     · rename_i v hv
       obtain⟨hs,hk⟩:=aA hk
       split at hk
       · rename_i m hm
         simp only [Oi]at hk;subst hk
         have:=aF F ha
         rw [ev]at this
         obtain⟨h1,h2⟩:=w8 hg (f8 F ha) hv
         rw [V.ct_plain h2]at this
         have ih:=mV hg F hm
         rw [←F.heap]at h1
         simp only [resultsE,this,ih,h1,V.cts,List.map_cons,V.safe_ct hs]
       · cases hk
     · cases hk
   · cases hk
theorem xN {tk} {v w:V}(h:v.arg tk=some w):keepV (v.ct tk)=some w.c∧keepA (v.ct tk)=some w.c:=by
 unfold V.arg at h
 split at h
 · split at h
   · rename_i id x hx
     simp only [Oi]at h;subst h
     simp only [V.ct,hx,V.c]
     exact⟨rfl,rfl⟩
   · cases h
 · split at h
   · rename_i l _ m hm
     simp only [Oi]at h;subst h
     simp only [V.ct,V.c]
     have e:(keepL (V.cs l)).map EVal.agg=some (EVal.agg (V.cs m)):=by rw [(iC hm).1];rfl
     exact⟨e,e⟩
   · cases h
 · unfold V.keep1 at h
   split at h<;>first|(cases h;done)|(simp only [Oi]at h;subst h;simp only [V.ct,V.c,V.css];exact⟨rfl,rfl⟩)|skip
   obtain⟨hc,h⟩:=aA h
   simp only [Oi]at h;subst h
   have:=qW (f:=‹FuncId›) hc
   simp only [V.ct]
   rw [V.c]at this ⊢
   exact⟨this,this⟩
theorem pY {tk}:∀ {l m:List V},oY tk l=some m→keepT (V.cts tk l)=some (V.cs m)
 | [],m,h=>by simp only [oY,Oi]at h;subst h;rw [V.cs];rfl
 | v :: l,m,h=>by
   simp only [oY]at h
   split at h
   · rename_i a ha
     split at h
     · rename_i b hb
       simp only [Oi]at h;subst h
       show keepT (v.ct tk::V.cts tk l)=_
       simp only [keepT,(xN ha).2,pY hb,V.cs]
     · cases h
   · cases h
theorem aqC {l:List EVal}(h:∀v,l≠[v]):one l=.tup l:=by
 unfold one
 split
 · exact absurd rfl (h _)
 · rfl
theorem oC (F:Fits sh P sz d f h):∀ {rs:List ResultVar}{vs:List V},kX P gD d rs=some vs→∀v∈vs,v.inr
 | [],vs,hk,v,hv=>by simp only [kX,Oi]at hk;subst hk;cases hv
 | .tmp i::l,vs,hk,v,hv=>by
   simp only [kX]at hk
   split at hk
   · rename_i u hu
     split at hk
     · rename_i m hm
       simp only [Oi]at hk;subst hk
       rcases List.mem_cons.1 hv with rfl|hv
       · exact f8 F hu
       · exact oC F hm v hv
     · cases hk
   · cases hk
 | .cell i ty::l,vs,hk,v,hv=>by
   simp only [kX]at hk
   split at hk
   · split at hk
     · obtain ⟨hs,hk⟩:=aA hk
       split at hk
       · rename_i m hm
         simp only [Oi]at hk;subst hk
         rcases List.mem_cons.1 hv with rfl|hv
         · exact(V.safe_ok hs).2
         · exact oC F hm v hv
       · cases hk
     · cases hk
   · cases hk
theorem Fits.take (F:Fits sh P sz d f h) {d2:D}(hk:oA d.fr.ds d=some d2):cT h f.defers=some d2.H∧Fits sh P sz d2 f d2.H:=by
 obtain⟨h1,h2,h3,_⟩:=w5 hk
 refine⟨by rw [F.heap,F.defers];exact h1,F.kept (Kept.of h2 h3)⟩
theorem dEnd_ok (hg:GD g gD) (F0:Fits sh P sz d f h) {fn:Func}{e:oZ}{w:V}(hk:dEnd P gD fn.results.toList e d=some w):Ends P g fn w.c e f h:=by
 unfold dEnd at hk
 have main:(match oA d.fr.ds d with
  | some d=>match kX P gD d fn.results.toList with
    | some vs=>match vs with
      | [v]=>v.arg d.tk
      | vs=>match oY d.tk vs with
        | some m=>some (V.tup m)
        | none=>none
    | none=>none
  | none=>none)=some w→∃h2 es,cT h f.defers=some h2∧resultsE P g h2 f.tmps fn.results.toList=some es∧keepV (one es)=some w.c:=by
  intro hk
  split at hk
  rotate_left
  · cases hk
  rename_i d2 hd2
  obtain⟨ht,F⟩:=F0.take hd2
  split at hk
  rotate_left
  · cases hk
  rename_i vs hvs
  refine⟨_,_,ht,mV hg F hvs,?_⟩
  split at hk
  · exact(xN hk).1
  · rename_i hn
    split at hk
    · rename_i m hm
      simp only [Oi]at hk;subst hk
      rw [aqC (fun v hv=>by
       match vs,hv with
       | [u],_=>exact hn u rfl)]
      show(keepT (V.cts d2.tk vs)).map EVal.tup=_
      rw [pY hm,V.c];rfl
    · cases hk
 cases e with
 | normal=>exact⟨trivial,main hk⟩
 | ret=>exact⟨trivial,main hk⟩
 | exit i=>cases hk
theorem dRet_ok (hg:GD g gD) (F:Fits sh P sz d f h) {rs:List ResultVar}{w:V}(hk:dRet P gD rs d=some w):∃es,resultsE P g h f.tmps rs=some es∧one es=w.ct d.tk∧w.inr:=by
 unfold dRet at hk
 split at hk
 rotate_left
 · cases hk
 rename_i vs hvs
 refine⟨_,mV hg F hvs,?_⟩
 split at hk
 · rename_i v
   simp only [Oi]at hk;subst hk
   exact⟨rfl,oC F hvs _ (List.mem_singleton.2 rfl)⟩
 · rename_i hn
   obtain⟨hp,hk⟩:=aA hk
   simp only [Oi]at hk;subst hk
   rw [aqC (fun v hv=>by
    match vs,hv with
    | [u],_=>exact hn u rfl)]
   refine⟨?_,trivial⟩
   rw [j7 hp,V.ct,V.c]
   simp
end
def wI:List (Nat×Option V)→List (Nat×Option V)
 | []=>[]
 | (i,v)::l=>(i,match v with
   | some u=>bif u.plain then some u else none
   | none=>none)::wI l
theorem lV:∀ {l:List (Nat×Option V)}{i:Nat}{v:V},lookA (wI l) i=some (some v)→lookA l i=some (some v)∧v.plain=true
 | [],i,v,h=>by cases h
 | (j, u)::l,i,v,h=>by
   simp only [wI,lookA]at h ⊢
   cases hb:Nat.beq j i with
   | true=>
     rw [hb]at h
     simp only [cond_true,Oi]at h ⊢
     split at h
     · rename_i u
       cases hp:u.plain with
       | true=>rw [hp]at h;simp only [cond_true,Oi]at h;subst h;exact⟨rfl,hp⟩
       | false=>rw [hp]at h;cases h
     · cases h
   | false=>rw [hb]at h;exact lV h
def D.back (d d2:D):D:={ d2 with fr:=⟨wI d.fr.l,d.fr.ds,d.fr.rd,d.fr.sh⟩ }
theorem D.back_H {d d2:D}:(d.back d2).H=d2.H:=rfl
theorem D.back_kept {P:Program}{d d2:D}(hl:t5 P d2):Kept P d (d.back d2):=by
 refine⟨fun i v hv=>?_,fun _=>hl,rfl,rfl,rfl⟩
 obtain⟨h1,h2⟩:=lV hv
 exact⟨v,h1,by rw [V.ct_plain h2,V.ct_plain h2],fun h=>h⟩
variable {R:Type}{r:R}{K:aH}
theorem eJ {C:Cfg R}{b sz:Nat}{A:Option Nat}:∀(c:Code),bO ⟨C,nK,b,sz,A⟩ Rf.none c=[]
 | .seq a c=>by simp only [bO,eJ a,eJ c];rfl
 | .cond _ a c=>by simp only [bO,eJ a,eJ c];rfl
 | .block _ a=>by simp only [bO,eJ a]
 | .scope a=>by simp only [bO,eJ a]
 | .loop a=>by simp only [bO];rfl
 | .rangeFunc _ _ _ _=>by simp only [bO];rfl
 | .skip=>rfl
 | .label _=>rfl
 | .region _ _ _=>rfl
 | .exit _=>rfl
 | .ret=>rfl
 | .goto _=>rfl
 | .refuse _=>rfl
theorem res_no {C:Cfg R}{b sz:Nat}{A:Option Nat}{FD:Find R}{c:Code}{κ:mY R→jC R}:Res ⟨C,nK,b,sz,A⟩ Rf.none FD c κ:=fun J l f hf=>by
 rw [fI (Rf.none_ok (K:=fun _ _=>none)).mem (by rw [eJ];simp)]at hf;cases hf
theorem rH {C:Cfg R}{b sz:Nat}{A:Option Nat}(hm:C.P.follows .mixedOrders=true) (hng:fL C.P) (CO:CfgOK C K) {sh:List (List (Nat×V))}{c:Code}{k:jC R}{d:D}{f:EFr}{h:H}{r:R}(F:Fits sh C.P sz d f h)
  (hk:cE ⟨C,nK,b,sz,A⟩ Rf.none (noJ 0) c d k=some r):Top A C.P C.g K c f h (Viewed A C.P fun e f h=>∃d,Fits sh C.P sz d f h∧k e d=some r):=by
 refine Top.mono (bH (W:=⟨C,nK,b,sz,A⟩) (JJ:=noJ) (FD:=noFD) (κ:=fun _=>k) hm hng CO Rf.none_ok noJ_ok res_no (by rw [eJ];exact List.nodup_nil) (n:=0) F hk) ?_
 rintro e f' h' ⟨f2,h2,v,_,d2,_,F2,k2⟩
 exact⟨f2,h2,v,d2,F2,k2⟩
theorem lO:∀ {l:List V},gM l=true→lR l=true
 | [],_=>rfl
 | v::l,hs=>by
   simp only [gM]at hs
   obtain⟨h1,h2⟩:v.safe=true∧gM l=true:=by cases hv:v.safe<;>rw [hv]at hs<;>first|cases hs|exact⟨rfl,hs⟩
   simp only [lR,(V.safe_ok h1).1,cond_true,lO h2]
def kRet (C:Cfg R) (F:Func) (d:D) (kk:V→D→Option R):jC R:=fun e d1=>match e with
 | .exit _=>none
 | _ => match oA d1.fr.ds d1 with
   | some d2=>match dRet C.P C.gD F.results.toList d2 with
     | some w=>kk w (d.back d2)
     | none=>none
   | none=>none
def mkM (C:Cfg R) (fn:FuncId) (vs:List V) (d:D) (kk:V→D→Option R):Option R:=
 match C.P.funcs[fn]? with
 | some F=>match F.body with
   | some c=>bif gM vs&&Nat.blt vs.length 1000 then
     cE ⟨C,nK,0,Nat.max F.ntmps vs.length,some d.n⟩ Rf.none (noJ 0) c { d with fr:=⟨gE 0 vs,[],none,[]⟩ } (kRet C F d kk)
     else none
   | none=>none
 | none=>none
theorem mkM_ok {C:Cfg R}(hm:C.P.follows .mixedOrders=true) (hng:fL C.P) (CO:CfgOK C K) {fn:FuncId}{vs:List V}{d:D}{kk:V→D→Option R}{r:R}(hk:mkM C fn vs d kk=some r) (hl:t5 C.P d) :
  CallT C.P C.g K fn (V.cts d.tk vs) d.H (zC C.P d kk r):=by
 unfold mkM at hk
 split at hk
 rotate_left
 · cases hk
 rename_i F hF
 split at hk
 rotate_left
 · cases hk
 rename_i c hc
 obtain⟨hs,hk⟩:=aA hk
 simp only [Bool.and_eq_true,Nat.blt_eq]at hs
 obtain⟨hs,hlen⟩:=hs
 have hp:=lO hs
 rw [j7 hp]
 refine CallT.intro hF hc ?_
 have hA:d.H.n=d.n:=rfl
 rw [hA]
 refine Top.view (View.start (n:=Nat.max F.ntmps vs.length) (by rw [V.cs_length]) (by rw [V.cs_length];exact hlen)) ?_
 have E:Exact [] C.P (Nat.max F.ntmps vs.length) { d with fr:=⟨gE 0 vs,[],none,[]⟩ } (mkF (Nat.max F.ntmps vs.length) (lC 0 (V.cs vs))) d.H:=by
  refine⟨by rw [mK d.tk hs];rfl,rfl,rfl,fun q hq=>?_,hl⟩
  obtain⟨_,k2,k3⟩:=hI hs q hq
  exact⟨by omega,k3⟩
 refine Top.unview (Top.mono (rH hm hng CO E.fits hk) ?_)
 rintro e f' h' ⟨f2,h2,v,d2,F2,k2⟩
 refine⟨f2,h2,v,?_⟩
 have main:(match oA d2.fr.ds d2 with
  | some d3=>match dRet C.P C.gD F.results.toList d3 with
    | some w=>kk w (d.back d3)
    | none=>none
  | none=>none)=some r→∃h3 es,cT h2 f2.defers=some h3∧resultsE C.P C.g h3 f2.tmps F.results.toList=some es∧zC C.P d kk r (one es) h3:=by
  intro hk
  split at hk
  rotate_left
  · cases hk
  rename_i d3 hd3
  obtain⟨ht,F3⟩:=F2.take hd3
  split at hk
  rotate_left
  · cases hk
  rename_i w hw
  obtain⟨es,h4,h5,h6⟩:=dRet_ok CO.gd F3 hw
  exact⟨_,es,ht,h4,w,d.back d3,h5,h6,rfl,D.back_kept F3.lens,hk⟩
 cases e with
 | normal=>exact⟨trivial,main k2⟩
 | ret=>exact⟨trivial,main k2⟩
 | exit i=>cases k2
def axa (l:List (Nat×Option V)):Bool:=l.all fun p=>Nat.blt p.1 1000&&(match p.2 with
 | some v=>v.safe
 | none=>false)
theorem mR {l:List (Nat×Option V)}(h:axa l=true):∀p∈l,p.1<1000∧∃v,p.2=some v∧v.safe=true:=by
 intro p hp
 have:=List.all_eq_true.1 h p hp
 simp only [Bool.and_eq_true,Nat.blt_eq]at this
 refine⟨this.1,?_⟩
 split at this
 · rename_i v hv;exact⟨v,hv,this.2⟩
 · cases this.2
def i7 (n:Nat):List Tmp→List V→List (Nat×Option V)→Option (List (Nat×Option V))
 | [],[],l=>some l
 | p::ps,v::vs,l=>bif Nat.blt p n then i7 n ps vs ((p,some v)::l)else none
 | _,_,_=>none
theorem dParams_ok (tk) {n:Nat}:∀ {ps:List Tmp}{vs:List V}{l l':List (Nat×Option V)},i7 n ps vs l=some l'→bK n (T.ofL (frC tk l)) ps (V.cts tk vs)=some (T.ofL (frC tk l'))
 | [],[],l,l',h=>by simp only [i7,Oi]at h;subst h;rfl
 | p::ps,v::vs,l,l',h=>by
   simp only [i7]at h
   obtain⟨h1,h2⟩:=aA h
   have:=dParams_ok tk h2
   show bK n _ (p::ps) (v.ct tk::V.cts tk vs)=_
   simp only [bK,h1,cond_true]
   exact this
 | [],_::_,l,l',h=>by simp [i7]at h
 | _::_,[],l,l',h=>by simp [i7]at h
def iU (l:List (Nat×V)):List (Nat×Option V):=l.map fun p=>(p.1,some p.2)
def unF:List (Nat×Option V)→List (Nat×V)
 | []=>[]
 | (i,some v)::l=>(i,v)::unF l
 | (_,none)::l=>unF l
theorem jG:∀ {l:List (Nat×Option V)},axa l=true→iU (unF l)=l
 | [],_=>rfl
 | (i,some v)::l,h=>by
   unfold axa at h
   rw [List.all_cons,Bool.and_eq_true]at h
   have:=jG (l:=l) h.2
   simp only [unF]
   unfold iU at this ⊢
   rw [List.map_cons,this]
 | (i,none)::l,h=>by
   unfold axa at h
   rw [List.all_cons,Bool.and_eq_true]at h
   simp at h
theorem zO (tk) {l:List (Nat×V)}(h:axa (iU l)=true):(l.map fun p=>(p.1,p.2.c))=frC tk (iU l):=by
 unfold frC iU
 rw [List.map_map]
 refine List.map_congr_left fun p hp=>?_
 obtain⟨_,v,hv,hs⟩:=mR h (p.1,some p.2) (by unfold iU;exact List.mem_map.2 ⟨p,hp,rfl⟩)
 simp only [Oi]at hv
 subst hv
 simp only [Function.comp,Option.getD_some,V.ct_plain (V.safe_ok hs).1]
def axc (id:Nat) (d:D) (kk:V→D→Option R):jC R:=fun e d1=>match d1.obj id with
 | some (.loop _ _ n fr ps x y)=>match e with
   | .normal=>kk (.bool true) (d.back (d1.putO id (.loop .ready none n fr ps x y)))
   | .ret=>kk (.bool false) (d.back (d1.putO id (.loop .done (some .ret) n fr ps x y)))
   | .exit i=>kk (.bool false) (d.back (d1.putO id (.loop .done (some (.exit i)) n fr ps x y)))
 | _=>none
def kMid (C:Cfg R) (id n0:Nat) (y:Code) (d:D) (kk:V→D→Option R):jC R:=fun e d1=>match e with
 | .normal=>match d1.obj id with
   | some (.loop .ready pend n fr ps a b)=>cE ⟨C,nK,0,n0,some d.n⟩ Rf.none (noJ 0) y (d1.putO id (.loop .busy pend n fr ps a b)) (axc id d kk)
   | _=>none
 | _=>none
def mkY (C:Cfg R) (id:Nat) (vs:List V) (d:D) (kk:V→D→Option R):Option R:=
 match d.obj id with
 | some (.loop _ _ n fr ps x y)=>match i7 n ps vs (iU fr)with
   | some l=>bif axa l&&axa (iU fr)then cE ⟨C,nK,0,n,some d.n⟩ Rf.none (noJ 0) x { d with fr:=⟨l,[],some id,[]⟩ } (kMid C id n y d kk)else none
   | none=>none
 | _=>none
theorem z7 {P:Program}{sz:Nat}{d:D}{f:EFr}{h:H}{sh:List (List (Nat×V))}{id:Nat}{o:DObj}(F:Fits sh P sz d f h):Fits sh P sz (d.putO id o) f (h.put id o.o):=by
 have:=F.kept (d':=d.putO id o) (Kept.of rfl rfl)
 rw [D.putO_H]at this
 rw [F.heap];exact this
theorem mkY_ok {C:Cfg R}(hm:C.P.follows .mixedOrders=true) (hng:fL C.P) (CO:CfgOK C K) {id:Nat}{vs:List V}{d:D}{kk:V→D→Option R}{r:R}(hk:mkY C id vs d kk=some r) (hl:t5 C.P d) :
  RoundT C.P C.g K id (V.cts d.tk vs) d.H (zC C.P d kk r):=by
 unfold mkY at hk
 split at hk
 rotate_left
 · cases hk
 rename_i st pend n fr ps x y ho
 split at hk
 rotate_left
 · cases hk
 rename_i l hpar
 obtain⟨hok,hk⟩:=aA hk
 rw [Bool.and_eq_true]at hok
 have hg:=D.obj_get ho
 simp only [DObj.o]at hg
 rw [zO d.tk hok.2]at hg
 have hA:d.H.n=d.n:=rfl
 refine RoundT.intro hg (dParams_ok d.tk hpar) ?_
 rw [hA]
 have E:Exact [] C.P n { d with fr:=⟨l,[],some id,[]⟩ } ⟨n,T.ofL (frC d.tk l),[],some id⟩ d.H:=by
  refine⟨rfl,rfl,rfl,fun q hq=>?_,hl⟩
  obtain⟨k1,v,k2,k3⟩:=mR hok.1 q hq
  exact⟨k1,v,k2,(V.safe_ok k3).2⟩
 refine Top.unview (Top.mono (rH hm hng CO E.fits hk) ?_)
 rintro e f' h' ⟨f2,h2,v,d2,F2,k2⟩
 refine⟨f2,h2,v,?_⟩
 unfold kMid at k2
 split at k2
 rotate_left
 · cases k2
 split at k2
 rotate_left
 · cases k2
 rename_i pend2 n2 fr2 ps2 a2 b2 ho2
 refine⟨rfl,?_⟩
 have hg2:=D.obj_get ho2
 rw [←F2.heap]at hg2
 simp only [DObj.o]at hg2
 rw [hg2]
 simp only
 refine Top.unview (Top.mono (rH hm hng CO (z7 F2 (o:=.loop .busy pend2 n2 fr2 ps2 a2 b2)) k2) ?_)
 rintro e f3 h3 ⟨f4,h4,v4,d4,F4,k4⟩
 refine⟨f4,h4,v4,?_⟩
 unfold axc at k4
 split at k4
 rotate_left
 · cases k4
 rename_i st5 pend5 n5 fr5 ps5 x5 y5 ho5
 have hg5:=D.obj_get ho5
 rw [←F4.heap]at hg5
 simp only [DObj.o]at hg5
 unfold qI
 rw [hg5]
 simp only
 have fin:∀(b:Bool) (o:DObj),kk (.bool b) (d.back (d4.putO id o))=some r→zC C.P d kk r (.bool b) (h4.put id o.o):=by
  intro b o hk
  refine⟨.bool b,d.back (d4.putO id o),by rw [V.ct,V.c];simp,trivial,?_,D.back_kept ?_,hk⟩
  · rw [D.back_H,D.putO_H,F4.heap]
  · exact F4.lens
 cases e with
 | normal=>exact fin true (.loop .ready none n5 fr5 ps5 x5 y5) k4
 | ret=>exact fin false (.loop .done (some .ret) n5 fr5 ps5 x5 y5) k4
 | exit i=>exact fin false (.loop .done (some (.exit i)) n5 fr5 ps5 x5 y5) k4
def Cfg.deep (C:Cfg R):Nat→Cfg R
 | 0=>C.still
 | n+1=>{ C with M:=mkM (C.deep n),Y:=mkY (C.deep n) }
theorem Cfg.deep_P (C:Cfg R):∀n,(C.deep n).P=C.P∧(C.deep n).g=C.g
 | 0=>⟨rfl,rfl⟩
 | _+1=>⟨rfl,rfl⟩
theorem CfgOK.deep {C:Cfg R}(hm:C.P.follows .mixedOrders=true) (hng:fL C.P) (CO:CfgOK C K):∀n,CfgOK (C.deep n) K
 | 0=>CO.still
 | n + 1=>by
   have ih:=CO.deep hm hng n
   obtain⟨e1,e2⟩:=C.deep_P n
   refine⟨CO.gd,CO.eq,CO.kd,CO.no,fun fn vs d kk r hk hl=>?_,fun id vs d kk r hk hl=>?_⟩
   · have:=mkM_ok (C:=C.deep n) (by rw [e1];exact hm) (by rw [e1];exact hng) ih hk (by rw [e1];exact hl)
     rw [e1,e2]at this;exact this
   · have:=mkY_ok (C:=C.deep n) (by rw [e1];exact hm) (by rw [e1];exact hng) ih hk (by rw [e1];exact hl)
     rw [e1,e2]at this;exact this
def tE:List Nat→List Nat→Bool
 | [],[]=>true
 | a::l,b::m=>bif Nat.beq a b then tE l m else false
 | _,_=>false
theorem tD:∀ {l m:List Nat},tE l m=true→l=m
 | [],[],_=>rfl
 | a::l,b::m,h=>by
   simp only [tE]at h
   obtain⟨h1,h2⟩:Nat.beq a b=true∧tE l m=true:=by cases hv:Nat.beq a b<;>rw [hv]at h<;>first|cases h|exact⟨rfl,h⟩
   rw [Nat.eq_of_beq_eq_true h1,tD h2]
 | [],_::_,h=>by cases h
 | _::_,[],h=>by cases h
def cloV:V→Option (FuncId×List V)
 | .raw (.func f [])=>some (f,[])
 | .fn f l=>some (f,l)
 | _=>none
def aj7 (x y:Code):Nat:=bif Nat.beq (b6 x) 1000000 then b6 y else b6 x
def idleB:LoopState→Bool
 | .busy=>false
 | _=>true
def kIter (it:It) (k:jC R):jC R:=fun e d1=>match e with
 | .exit _=>none
 | _ => match oA d1.fr.ds d1 with
   | some d2=>match d2.obj (it.n+1)with
     | some (.loop st pend n fr ps x y)=>match d2.fr.sh with
       | l::sh=>bif idleB st then match pend with
         | none=>k .normal { d2.putO (it.n+1) (.loop .exhausted pend n fr ps x y)with fr:=⟨iU l,it.n::it.ds,none,sh⟩ }
         | some .ret=>k .ret { d2.putO (it.n+1) (.loop .exhausted pend n fr ps x y)with fr:=⟨iU l,it.n::it.ds,none,sh⟩ }
         | some (.exit i)=>k (.exit i) { d2.putO (it.n+1) (.loop .exhausted pend n fr ps x y)with fr:=⟨iU l,it.n::it.ds,none,sh⟩ }
         | _=>none
         else none
       | []=>none
     | _=>none
   | none=>none
def subW (W:Wh R) (it:It):Wh R:=⟨W.C,W.p,it.b,it.sz,some (it.n+2)⟩
def rfS (lo : Rf R):Rf R where
 w W J f ps x y d k:=match W.p.iters (W.b+aj7 x y)with
  | none=>none
  | some it => match oQ d.fr.l it.keep with
    | none=>none
    | some l => match dEv { d with fr:=⟨l,d.fr.ds,d.fr.rd,d.fr.sh⟩ } f with
      | none=>none
      | some v => match cloV v with
        | none=>none
        | some (kf,caps)=>bif Nat.beq kf it.f&&Nat.beq d.n it.n&&tE d.fr.ds it.ds&&d.fr.rd.isNone&&gM caps&&Nat.blt caps.length 900&&axa l then
          match W.C.P.funcs[it.f]? with
          | none=>none
          | some F=>match F.body with
            | none=>none
            | some c=>bif Nat.beq (Nat.max F.ntmps (caps.length+1)) it.sz&&Nat.beq F.results.size 0 then
              cE (subW W it) lo J c ⟨⟨gE 0 (.raw (.yieldf (it.n+1))::caps),[],none,unF l::d.fr.sh⟩,it.n+2,(it.n+1,some (.loop .ready none W.sz (unF l) ps.toList x y))::(it.n,some (.dfr false))::d.hp,d.m,d.tk⟩ (kIter it k)
              else none
          else none
 f W J f ps x y k l:=match W.p.iters (W.b+aj7 x y)with
  | none=>none
  | some it=>match W.C.P.funcs[it.f]? with
    | none=>none
    | some F=>match F.body with
      | none=>none
      | some c=>b7 (subW W it) lo J c (kIter it k) l
 k W f ps x y:=match W.p.iters (W.b+aj7 x y)with
  | none=>[]
  | some it=>match W.C.P.funcs[it.f]? with
    | none=>[]
    | some F=>match F.body with
      | none=>[]
      | some c=>bO (subW W it) lo c
theorem cloV_c {v:V}{f:FuncId}{l:List V}(h:cloV v=some (f,l)):∀tk,v.ct tk=.func f (V.cs l):=by
 intro tk
 unfold cloV at h
 split at h
 · cases h;rw [V.ct,V.c,V.cs];simp
 · cases h;rw [V.ct,V.c];simp
 · cases h
theorem rfS_ok {lo:Rf R}(LO:RfOK lo K):RfOK (rfS lo) K:=by
 refine⟨fun W J f ps x y k l g hg=>?_,fun W JJ FD hm hng CO JO f ps x y κ hres hnd sh n d fr h r F hk=>?_⟩
 · unfold rfS at hg ⊢
   dsimp only at hg ⊢
   cases hit:W.p.iters (W.b+aj7 x y)with
   | none=>rw [hit]at hg;cases hg
   | some it=>
   rw [hit]at hg
   dsimp only at hg ⊢
   cases hFn:W.C.P.funcs[it.f]? with
   | none=>rw [hFn]at hg;cases hg
   | some Fn=>
   rw [hFn]at hg
   dsimp only at hg ⊢
   cases hc:Fn.body with
   | none=>rw [hc]at hg;cases hg
   | some c=>
   rw [hc]at hg
   dsimp only at hg ⊢
   exact aU LO.mem hg
 · have hres':=hres
   have hnd':=hnd
   unfold rfS at hk hres' hnd'
   dsimp only at hk hres' hnd'
   split at hk
   · cases hk
   rename_i it hit
   split at hk
   · cases hk
   rename_i l hl
   split at hk
   · cases hk
   rename_i v hv
   split at hk
   · cases hk
   rename_i kf caps hcl
   obtain⟨hc,hk⟩:=aA hk
   simp only [Bool.and_eq_true,Nat.beq_eq,Nat.blt_eq,Option.isNone_iff_eq_none]at hc
   obtain⟨⟨⟨⟨⟨⟨c1,c2⟩,c3⟩,c4⟩,c5⟩,c6⟩,c7⟩:=hc
   split at hk
   · cases hk
   rename_i Fn hFn
   split at hk
   · cases hk
   rename_i c hcb
   obtain⟨hz,hkA⟩:=aA hk
   simp only [Bool.and_eq_true,Nat.beq_eq]at hz
   obtain⟨hz1,hz2⟩:=hz
   subst c1
   have c3:=tD c3
   simp only [hit,hFn,hcb]at hres' hnd'
   obtain⟨v1,E1⟩:=qS (A:=W.A) F hl
   refine Top.view v1 ?_
   have hev:=aF E1.fits hv
   rw [cloV_c hcl]at hev
   have hrd:d.fr.rd=none:=c4
   have hh:h=d.H:=F.heap
   subst hh
   rw [hrd]
   refine Top.rangeFunc hng (kf:=it.f) (caps:=V.cs caps) ?_ ?_ ?_
   · exact hev
   · unfold nT;rw [hFn];simp only [hcb,Option.isSome_some]
   have hn:d.H.n=it.n:=c2
   rw [hn]
   have hH2:((d.H.new (.deferred false)).new (.loop .ready none W.sz (T.ofL (frC d.tk l)) ps.toList x y 0))=(⟨⟨gE 0 (.raw (.yieldf (it.n+1))::caps),[],none,unF l::d.fr.sh⟩,it.n+2,(it.n+1,some (.loop .ready none W.sz (unF l) ps.toList x y))::(it.n,some (.dfr false))::d.hp,d.m,d.tk⟩:D).H:=by
    unfold D.H
    rw [mkH_new,mkH_new,c2]
    have e:(T.ofL (frC d.tk l))=T.ofL ((unF l).map fun p=>(p.1,p.2.c)):=by
     rw [zO d.tk (by rw [jG c7];exact c7),jG c7]
    rw [e]
    rfl
   have hcs:(EVal.yieldf (it.n+1)::V.cs caps)=V.cs (.raw (.yieldf (it.n+1))::caps):=by rw [V.cs,V.c]
   have hsafe:gM (V.raw (.yieldf (it.n+1))::caps)=true:=by simp only [gM,V.safe,c5,cond_true]
   have hsz:Nat.max Fn.ntmps (V.cs (.raw (.yieldf (it.n+1))::caps)).length=it.sz:=by
    rw [V.cs_length,List.length_cons];exact hz1
   show CallT W.C.P W.C.g K it.f (.yieldf (it.n+1)::V.cs caps) ((d.H.new (.deferred false)).new (.loop .ready none W.sz (T.ofL (frC d.tk l)) ps.toList x y 0)) _
   rw [hH2,hcs]
   refine CallT.intro hFn hcb ?_
   refine Top.view (View.start (n:=it.sz) hsz (by rw [V.cs_length,List.length_cons];omega)) ?_
   have E:Exact (unF l::d.fr.sh) W.C.P it.sz ⟨⟨gE 0 (.raw (.yieldf (it.n+1))::caps),[],none,unF l::d.fr.sh⟩,it.n+2,(it.n+1,some (.loop .ready none W.sz (unF l) ps.toList x y))::(it.n,some (.dfr false))::d.hp,d.m,d.tk⟩ (mkF it.sz (lC 0 (V.cs (.raw (.yieldf (it.n+1))::caps)))) (⟨⟨gE 0 (.raw (.yieldf (it.n+1))::caps),[],none,unF l::d.fr.sh⟩,it.n+2,(it.n+1,some (.loop .ready none W.sz (unF l) ps.toList x y))::(it.n,some (.dfr false))::d.hp,d.m,d.tk⟩:D).H:=by
    refine⟨by rw [mK d.tk hsafe];rfl,rfl,rfl,fun q hq=>?_,F.lens⟩
    obtain⟨_,k2,k3⟩:=hI hsafe q hq
    simp only [List.length_cons]at k2
    exact⟨by omega,k3⟩
   refine Top.unview (Top.mono (bH (W:=subW W it) (rf:=lo) (κ:=fun J=>kIter it (κ J)) hm hng CO LO JO (fun J l g hg=>hres' J l g hg) hnd' E.fits hkA) ?_)
   rintro e f' h' ⟨f2,h2,v2,m,d2,hmn,F2,k2⟩
   refine⟨f2,h2,v2,?_⟩
   have hres0:Fn.results.toList=[]:=by
    have:Fn.results.toList.length=0:=by rw [Array.length_toList];exact hz2
    exact List.length_eq_zero_iff.1 this
   have main:(match oA d2.fr.ds d2 with
    | some d2=>match d2.obj (it.n+1)with
      | some (.loop st pend n fr ps x y)=>match d2.fr.sh with
        | l::sh=>bif idleB st then match pend with
          | none=>κ (JJ m) .normal { d2.putO (it.n+1) (.loop .exhausted pend n fr ps x y)with fr:=⟨iU l,it.n::it.ds,none,sh⟩ }
          | some .ret=>κ (JJ m) .ret { d2.putO (it.n+1) (.loop .exhausted pend n fr ps x y)with fr:=⟨iU l,it.n::it.ds,none,sh⟩ }
          | some (.exit i)=>κ (JJ m) (.exit i) { d2.putO (it.n+1) (.loop .exhausted pend n fr ps x y)with fr:=⟨iU l,it.n::it.ds,none,sh⟩ }
          | _=>none
          else none
        | []=>none
      | _=>none
    | none=>none)=some r→∃h3 es,cT h2 f2.defers=some h3∧resultsE W.C.P W.C.g h3 f2.tmps Fn.results.toList=some es∧mO (it.n+1) ⟨W.sz,T.ofL (frC d.tk l),it.n::d.fr.ds,none⟩ (jq sh W.A W.C.P W.sz JJ κ n r) (one es) h3:=by
    intro hk
    split at hk
    rotate_left
    · cases hk
    rename_i d3 hd3
    obtain⟨ht,F3⟩:=F2.take hd3
    split at hk
    rotate_left
    · cases hk
    rename_i st pend n4 fr4 ps4 x4 y4 ho
    refine⟨_,[],ht,by rw [hres0];rfl,?_⟩
    have hg:=D.obj_get ho
    simp only [DObj.o]at hg
    unfold mO
    rw [hg]
    simp only
    have hsh:=F3.sh
    rw [hsh]at hk
    simp only at hk
    obtain⟨hid,hk⟩:=aA hk
    refine⟨fun e=>(by rw [e]at hid;cases hid),?_⟩
    have EF:∀pd:Option Code,Exact sh W.C.P W.sz { d3.putO (it.n+1) (.loop .exhausted pd n4 fr4 ps4 x4 y4)with fr:=⟨iU (unF l),it.n::it.ds,none,d.fr.sh⟩ } ⟨W.sz,T.ofL (frC d.tk l),it.n::d.fr.ds,none⟩ (d3.H.put (it.n+1) (.loop .exhausted pd n4 (T.ofL (fr4.map fun p=>(p.1,p.2.c))) ps4 x4 y4 0)):=by
     intro pd
     refine⟨?_,F.sh,?_,fun q hq=>?_,F3.lens⟩
     · rw [jG c7,c3]
       have:frC d.tk l=frC d3.tk l:=by
        unfold frC
        refine List.map_congr_left fun p hp=>?_
        obtain⟨_,u,hu,hs⟩:=mR c7 p hp
        simp only [hu,Option.getD_some,V.ct_plain (V.safe_ok hs).1]
       rw [this];rfl
     · show _=(d3.putO (it.n+1) (.loop .exhausted pd n4 fr4 ps4 x4 y4)).H
       rw [D.putO_H];rfl
     · rw [jG c7]at hq
       obtain⟨k1,u,k2,k3⟩:=mR c7 q hq
       exact⟨k1,u,k2,(V.safe_ok k3).2⟩
    split at hk
    · exact⟨_,_,View.refl,m,_,hmn,(EF _).fits,hk⟩
    · exact⟨_,_,View.refl,m,_,hmn,(EF _).fits,hk⟩
    · exact⟨_,_,View.refl,m,_,hmn,(EF _).fits,hk⟩
    · cases hk
   cases e with
   | normal=>exact⟨trivial,main k2⟩
   | ret=>exact⟨trivial,main k2⟩
   | exit i=>cases k2
def rfN:Nat→Rf R
 | 0=>Rf.none
 | n+1=>rfS (rfN n)
theorem ax6:∀n,RfOK (rfN (R:=R) n) K
 | 0=>Rf.none_ok
 | n+1=>rfS_ok (ax6 n)
def topW (C:Cfg V) (p:axW):Wh V:=⟨C.deep 8,p,0,p.sz,none⟩
def dJ (C:Cfg V) (p:axW) (c:Code) (rs:List ResultVar) (n:Nat):mY V:=ajr (topW C p) (rfN 2) c (dEnd C.P C.gD rs) n
def dFn (C:Cfg V) (p:axW) (m:Nat) (c:Code) (rs:List ResultVar) (n:Nat) (vs:List V):Option V:=cE (topW C p) (rfN 2) (dJ C p c rs n) c (D.begin m vs) (dEnd C.P C.gD rs)
theorem Fn.den {P:Program}{g:G}(hm:P.follows .mixedOrders=true) (hng:fL P) {f:FuncId}{F:List EVal→Option EVal}{fn:Func}(hfn:P.funcs[f]? = some fn) {c:Code}(hc:fn.body=some c) (l:lG) (hl:∀p∈l,Fn P g p.1 p.2)
  (H1:∀args v,F args=some v→∃(C:Cfg V) (p:axW) (m n:Nat) (vs:List V) (w:V),pI (bO (topW C p) (rfN 2) c)=true∧C.P=P∧C.g=g∧CfgOK C (aR l)∧args=V.cs vs∧gM vs=true∧vs.length<1000∧Nat.max fn.ntmps vs.length=p.sz∧v=w.c∧dFn C p m c fn.results.toList n vs=some w):Fn P g f F:=by
 refine Fn.intro hm hng hfn hc l hl ?_
 intro args v hF Q hV
 have hQ:=Viewed.of hV
 obtain⟨C,p,m,n,vs,w,hnd,rfl,rfl,CO,rfl,hs,hlen,hsz,rfl,hk⟩:=H1 args v hF
 have E:Exact [] C.P p.sz (D.begin m vs) (mkF p.sz (lC 0 (V.cs vs))) (mkH 0 [] m []):=by
  refine⟨by rw [mK [] hs];rfl,rfl,rfl,fun q hq=>?_,fun id els e s h2 _=>by cases h2⟩
  obtain⟨_,k2,k3⟩:=hI hs q hq
  exact⟨by omega,k3⟩
 refine Top.view (View.trans (View.start (n:=p.sz) (by rw [V.cs_length];exact hsz) (by rw [V.cs_length];exact hlen)) (show View none C.P _ H.start _ (mkH 0 [] m [])from View.mode (n:=0) (m:=0) (l:=[]) (k:=[]) m (Nat.zero_le _))) ?_
 have CO4:=CO.deep hm hng 8
 refine Top.mono (bH (W:=topW C p) (rf:=rfN 2) (JJ:=dJ C p c fn.results.toList) (FD:=fun J l=>b7 (topW C p) (rfN 2) J c (dEnd C.P C.gD fn.results.toList) l) (κ:=fun _=>dEnd C.P C.gD fn.results.toList) hm hng CO4 (ax6 2) ajq (fun J l f hf=>hf) (pH hnd) E.fits hk) ?_
 rintro e f' h' ⟨f2,h2,v2,_,d2,_,F2,k2⟩
 exact hV _ _ _ ⟨f2,h2,v2,dEnd_ok CO.gd F2 k2⟩
structure Con (P:Program) (g:G) where
 f:FuncId
 F:List EVal→Option EVal
 ok:Fn P g f F
 call:{R:Type}→List V→(V→Option R)→Option R
 sound:∀ {R:Type} (vs:List V) (k:V→Option R) (r:R),call vs k=some r→∃w:V,F (V.cs vs)=some w.c∧w.safe=true∧k w=some r
def conT {P:Program}{g:G}(l:List (Con P g)):lG:=l.map fun c=>(c.f,c.F)
def conD {P:Program}{g:G}{R:Type}:List (Con P g)→KD R
 | [],_,_,_=>none
 | c::l,fn,vs,k=>bif Nat.beq c.f fn then c.call vs k else conD l fn vs k
theorem conT_ok {P:Program}{g:G}{l:List (Con P g)}:∀p∈conT l,Fn P g p.1 p.2:=by
 intro p hp
 simp only [conT,List.mem_map]at hp
 obtain⟨c,_,rfl⟩:=hp
 exact c.ok
theorem aqu {P:Program}{g:G}{R:Type}:∀ {l:List (Con P g)},KDOK (R:=R) (aR (conT l)) (conD l)
 | []=>fun fn vs k r h=>by cases h
 | c :: l=>fun fn vs k r h=>by
   simp only [conD]at h
   show ∃w:V,aR ((c.f,c.F)::conT l) fn (V.cs vs)=some w.c∧_
   rw [known_cons]
   cases hb:Nat.beq c.f fn with
   | true=>
     rw [hb]at h
     rw [if_pos (Nat.eq_of_beq_eq_true hb)]
     exact c.sound vs k r h
   | false=>
     rw [hb]at h
     rw [if_neg (fun e=>by rw [e,Nat.beq_refl]at hb;cases hb)]
     exact aqu fn vs k r h
end
end Go.Ev
namespace Go.Ev
open Go.RowKit
noncomputable section
structure Cod (α:Type) where
 v:α→V
 ok:V→Bool
 dec:V→α
 e:EVal→Option α
 rt:∀x,e (v x).c=some x
 inv:∀w x,e w=some x→w=(v x).c
 dok:∀u,ok u=true→u.c=(v (dec u)).c
 safe:∀x,(v x).safe=true
 okv:∀x,ok (v x)=true
 dv:∀x,dec (v x)=x
 sp:{R:Type}→α→(V→Option R)→Option R:=fun x k=>k (v x)
 spk:∀ {R:Type} (x:α) (k:V→Option R) (r:R),sp x k=some r→k (v x)=some r:=by intro _ x k r h;exact h
 kb:Bool:=false
 kp:kb=true→∀x,(v x).kept=true:=by intro h;cases h
structure Row (α:Type) where
 v:α→List V
 ok:List V→Bool
 dec:List V→α
 e:List EVal→Option α
 rt:∀x,e (V.cs (v x))=some x
 inv:∀w x,e w=some x→w=V.cs (v x)
 dok:∀u,ok u=true→V.cs u=V.cs (v (dec u))
 safe:∀x,gM (v x)=true
 okv:∀x,ok (v x)=true
 dv:∀x,dec (v x)=x
 sp:{R:Type}→α→(List V→Option R)→Option R:=fun x k=>k (v x)
 spk:∀ {R:Type} (x:α) (k:List V→Option R) (r:R),sp x k=some r→k (v x)=some r:=by intro _ x k r h;exact h
 w:Nat
 len:∀x,(v x).length=w
 kb:Bool
 kp:kb=true→∀x,keptB (v x)=true
def nI {α R:Type}(o:Option α) (a:Option R) (b:α→Option R):Option R:=match o with
 | none=>a
 | some x=>b x
def cInt (k:IntKind):Cod Int where
 v n:=.int k n
 ok
  | .int j _=>decide (j=k)
  | _=>false
 dec
  | .int _ n=>n
  | _=>0
 e
  | .int j n=>if j=k then some n else none
  | _=>none
 rt x:=by simp only [V.c,if_true]
 inv w x h:=by
  split at h
  · split at h
    · rename_i hj;cases h;subst hj;simp only [V.c]
    · cases h
  · cases h
 dok u h:=by
  split at h
  · rename_i j n;simp only [decide_eq_true_eq]at h;subst h;simp only [V.c]
  · cases h
 safe _:=rfl
 okv _:=by simp
 dv _:=rfl
 kb:=true
 kp _ _:=rfl
abbrev cI:Cod Int:=cInt .i64
abbrev cU8:Cod Int:=cInt .u8
def cB:Cod Bool where
 v b:=.bool b
 ok
  | .bool _=>true
  | _=>false
 dec
  | .bool b=>b
  | _=>false
 e
  | .bool b=>some b
  | _=>none
 rt x:=by simp only [V.c]
 inv w x h:=by
  split at h
  · cases h;simp only [V.c]
  · cases h
 dok u h:=by
  split at h
  · simp only [V.c]
  · cases h
 safe _:=rfl
 okv _:=rfl
 dv _:=rfl
 kb:=true
 kp _ _:=rfl
def cS:Cod (List Nat) where
 v b:=.str b
 ok
  | .str _=>true
  | _=>false
 dec
  | .str b=>b
  | _=>[]
 e
  | .str b=>some b
  | _=>none
 rt x:=by simp only [V.c]
 inv w x h:=by
  split at h
  · cases h;simp only [V.c]
  · cases h
 dok u h:=by
  split at h
  · simp only [V.c]
  · cases h
 safe _:=rfl
 okv _:=rfl
 dv _:=rfl
 kb:=true
 kp _ _:=rfl
def Row.nil:Row Unit where
 v _:=[]
 ok
  | []=>true
  | _=>false
 dec _:=()
 e
  | []=>some ()
  | _=>none
 rt x:=by rw [V.cs]
 inv w x h:=by
  split at h
  · rw [V.cs]
  · cases h
 dok u h:=by
  split at h
  · rfl
  · cases h
 safe _:=rfl
 okv _:=rfl
 dv _:=rfl
 w:=0
 len _:=rfl
 kb:=true
 kp _ _:=rfl
def Row.cons {α β:Type}(A:Cod α) (B:Row β):Row (α×β) where
 v x:=A.v x.1::B.v x.2
 ok
  | a::l=>A.ok a&&B.ok l
  | []=>false
 dec
  | a::l=>(A.dec a,B.dec l)
  | []=>(A.dec (.raw .unk),B.dec [])
 e
  | a::l=>(A.e a).bind fun x=>(B.e l).map fun y=>(x,y)
  | []=>none
 rt x:=by
  rw [V.cs]
  simp only [A.rt,B.rt,Option.bind_some,Option.map_some]
 inv w x h:=by
  split at h
  · rename_i a l
    cases ha:A.e a with
    | none=>rw [ha]at h;cases h
    | some x1=>
      cases hl:B.e l with
      | none=>rw [ha,hl]at h;cases h
      | some x2=>
        rw [ha,hl]at h
        cases h
        rw [V.cs,A.inv _ _ ha,B.inv _ _ hl]
  · cases h
 dok u h:=by
  split at h
  · rename_i a l
    simp only [Bool.and_eq_true]at h
    simp only [V.cs]
    rw [A.dok _ h.1,B.dok _ h.2]
  · cases h
 safe x:=by simp only [gM,A.safe,B.safe,cond_true]
 okv x:=by simp only [A.okv,B.okv,Bool.and_self]
 dv x:=by simp only [A.dv,B.dv]
 sp x k:=A.sp x.1 fun a=>B.sp x.2 fun l=>k (a::l)
 spk x k r h:=B.spk _ _ _ (A.spk _ _ _ h)
 w:=B.w+1
 len x:=by simp only [List.length_cons,B.len]
 kb:=A.kb&&B.kb
 kp h x:=by
  rw [Bool.and_eq_true]at h
  simp only [keptB,A.kp h.1,cond_true,B.kp h.2]
def Row.iso {α β:Type}(A:Row α) (to:α→β) (of:β→α) (h1:∀y,to (of y)=y) (h2:∀x,of (to x)=x):Row β where
 v y:=A.v (of y)
 ok:=A.ok
 dec u:=to (A.dec u)
 e w:=(A.e w).map to
 rt y:=by rw [A.rt,Option.map_some,h1]
 inv w y h:=by
  cases ha:A.e w with
  | none=>rw [ha]at h;cases h
  | some x=>rw [ha]at h;cases h;rw [h2];exact A.inv _ _ ha
 dok u h:=by simp only [h2];exact A.dok u h
 safe y:=A.safe _
 okv y:=A.okv _
 dv y:=by simp only [A.dv,h1]
 w:=A.w
 len y:=A.len _
 kb:=A.kb
 kp h y:=A.kp h _
def Cod.agg {α:Type}(A:Row α):Cod α where
 v x:=.agg (A.v x)
 ok
  | .agg l=>A.ok l
  | _=>false
 dec
  | .agg l=>A.dec l
  | _=>A.dec []
 e
  | .agg l=>A.e l
  | _=>none
 rt x:=by rw [V.c];exact A.rt x
 inv w x h:=by
  split at h
  · rw [V.c,A.inv _ _ h]
  · cases h
 dok u h:=by
  split at h
  · simp only [V.c];rw [A.dok _ h]
  · cases h
 safe _:=rfl
 okv x:=A.okv x
 dv x:=A.dv x
def Row.es {α:Type}(A:Row α):List (List EVal)→Option (List α)
 | []=>some []
 | w::l=>(A.e w).bind fun x=>(A.es l).map fun m=>x::m
theorem Row.es_rt {α:Type}(A:Row α):∀l:List α,A.es (l.map fun x=>V.cs (A.v x))=some l
 | []=>rfl
 | x::l=>by simp only [List.map_cons,Row.es,A.rt,Row.es_rt A l,Option.bind_some,Option.map_some]
theorem Row.es_inv {α:Type}(A:Row α):∀ {w:List (List EVal)}{l:List α},A.es w=some l→w=l.map fun x=>V.cs (A.v x)
 | [],l,h=>by simp only [Row.es,Oi]at h;subst h;rfl
 | w :: ws,l,h=>by
   simp only [Row.es]at h
   cases ha:A.e w with
   | none=>rw [ha]at h;cases h
   | some x=>
     cases hl:A.es ws with
     | none=>rw [ha,hl]at h;cases h
     | some m=>
       rw [ha,hl]at h
       cases h
       rw [List.map_cons,←A.inv _ _ ha,←Row.es_inv A hl]
theorem pF {α:Type}(d:α) (l:List α):((List.range l.length).map fun i=>l.getD i d)=l:=by
 apply List.ext_getElem
 · simp
 · intro i h1 h2
   simp only [List.getElem_map,List.getElem_range,List.getD_eq_getElem?_getD,List.getElem?_eq_getElem h2,Option.getD_some]
theorem bC {α β:Type}(d:α) (l:List α) (g:α→β):((List.range l.length).map fun i=>g (l.getD i d))=l.map g:=by
 conv=>rhs;rw [←pF d l]
 rw [List.map_map];rfl
theorem Row.okw {α:Type}(A:Row α) (hk:A.kb=true) (x:α):okW A.w (A.v x)=true:=by
 unfold okW;rw [A.len,Nat.beq_refl,A.kp hk];rfl
theorem Row.fixed {α:Type}(A:Row α) (hk:A.kb=true) (x:α):(bif okW A.w (A.v x)then V.cs (A.v x)else List.replicate A.w (.bool false))=V.cs (A.v x):=by rw [A.okw hk];rfl
def Cod.list {α:Type}(d:α) (A:Row α) (hk:A.kb=true:=by rfl):Cod (List α) where
 v l:=.fl A.w l.length fun i=>A.v (l.getD i d)
 ok
  | .fl w n f=>(List.range n).all fun i=>okW w (f i)&&A.ok (f i)
  | .el els=>els.all A.ok
  | _=>false
 dec
  | .fl _ n f=>(List.range n).map fun i=>A.dec (f i)
  | .el els=>els.map A.dec
  | _=>[]
 e
  | .lsl w=>A.es w
  | _=>none
 rt l:=by
  rw [V.c]
  simp only [A.fixed hk]
  show A.es _=_
  rw [bC d l fun x=>V.cs (A.v x)]
  exact A.es_rt l
 inv w l h:=by
  split at h
  · rw [V.c,A.es_inv h]
    simp only [A.fixed hk]
    rw [bC d l fun x=>V.cs (A.v x)]
  · cases h
 dok u h:=by
  split at h
  · rename_i w n f
    simp only [List.all_eq_true,List.mem_range,Bool.and_eq_true]at h
    simp only [V.c,A.fixed hk]
    rw [bC d _ fun x=>V.cs (A.v x),List.map_map]
    congr 1
    apply List.map_congr_left
    intro i hi
    rw [(h i (List.mem_range.1 hi)).1]
    exact A.dok _ (h i (List.mem_range.1 hi)).2
  · rename_i els
    simp only [List.all_eq_true]at h
    simp only [V.c,A.fixed hk]
    rw [bC d _ fun x=>V.cs (A.v x),List.map_map,V.css_map]
    congr 1
    apply List.map_congr_left
    intro c hc
    exact A.dok _ (h c hc)
  · cases h
 safe _:=rfl
 okv l:=by simp only [A.okv,A.okw hk,List.all_eq_true,Bool.and_self,implies_true]
 dv l:=by simp only [A.dv];exact pF d l
 kb:=true
 kp _ _:=rfl
def fnB (f:FuncId):V→Bool
 | .raw (.func g [])=>Nat.beq f g
 | _=>false
def Cod.ptr {α:Type}(A:Row α):Cod α where
 v x:=.lptr (A.v x) 0
 ok
  | .lptr l 0=>A.ok l
  | _=>false
 dec
  | .lptr l _=>A.dec l
  | _=>A.dec []
 e
  | .lptr l 0=>A.e l
  | _=>none
 rt x:=by rw [V.c];exact A.rt x
 inv w x h:=by
  split at h
  · rw [V.c,A.inv _ _ h]
  · cases h
 dok u h:=by
  split at h
  · simp only [V.c];rw [A.dok _ h]
  · cases h
 safe _:=rfl
 okv x:=A.okv x
 dv x:=A.dv x
 kb:=true
 kp _ _:=rfl
def Cod.fn {α:Type}(f:FuncId) (A:Row α):Cod α where
 v x:=.fn f (A.v x)
 ok
  | .fn g l=>Nat.beq f g&&A.ok l
  | _=>false
 dec
  | .fn _ l=>A.dec l
  | _=>A.dec []
 e
  | .func g l=>if g=f then A.e l else none
  | _=>none
 rt x:=by rw [V.c];simp only [if_true];exact A.rt x
 inv w x h:=by
  split at h
  · split at h
    · rename_i hg;subst hg;rw [V.c,A.inv _ _ h]
    · cases h
  · cases h
 dok u h:=by
  split at h
  · simp only [Bool.and_eq_true]at h
    simp only [V.c]
    rw [A.dok _ h.2,Nat.eq_of_beq_eq_true h.1]
  · cases h
 safe _:=rfl
 okv x:=by simp only [Nat.beq_refl,A.okv,Bool.and_self]
 dv x:=A.dv x
def fOf {α ρ:Type}(A:Row α) (Q:Cod ρ) (S:α→Option ρ):List EVal→Option EVal:=fun args=>(A.e args).bind fun x=>(S x).map fun r=>(Q.v r).c
theorem aq0 {α ρ:Type}{A:Row α}{Q:Cod ρ}{S:α→Option ρ}{a:List EVal}{v:EVal}(h:fOf A Q S a=some v):∃x r,a=V.cs (A.v x)∧S x=some r∧v=(Q.v r).c:=by
 unfold fOf at h
 cases ha:A.e a with
 | none=>rw [ha]at h;cases h
 | some x=>
   rw [ha]at h
   simp only [Option.bind_some]at h
   cases hs:S x with
   | none=>rw [hs]at h;cases h
   | some r=>
     rw [hs]at h
     cases h
     exact⟨x,r,A.inv _ _ ha,hs,rfl⟩
def kM {α β:Type}:Option α→(α→Option β)→Option β
 | some x,k=>k x
 | none,_=>none
theorem obind_some {α β:Type}{x:α}{k:α→Option β}:kM (some x) k=k x:=rfl
theorem jV {α β:Type}{f:α→β}{c:Bool}{a b:Option α}:(cond c a b).map f=cond c (a.map f) (b.map f):=by cases c<;>rfl
theorem hZ {α β γ:Type}{f:β→γ}{x:Option α}{k:α→Option β}:(kM x k).map f=kM x fun r=>(k r).map f:=by cases x<;>rfl
theorem nJ {α β γ:Type}{f:β→γ}{x:Option α}{a:Option β}{k:α→Option β}:(nI x a k).map f=nI x (a.map f) fun r=>(k r).map f:=by cases x<;>rfl
theorem den_ow {ρ:Type}{Q:Cod ρ}{W:ρ→V}(hW:∀r,(W r).c=(Q.v r).c) {t:Nat→Option V}{e:Option ρ}{r:ρ}(n:Nat) (hq:(t n).map V.c=e.map fun r=>(W r).c) (h:e=some r):∃n w,t n=some w∧w.c=(Q.v r).c:=by
 rw [h]at hq
 obtain⟨w,h1,h2⟩:=Option.map_eq_some_iff.1 hq
 exact⟨n,w,h1,h2.trans (hW r)⟩
theorem fD {α:Type}{d:α}{A:Row α}{hk:A.kb=true} {l:List α}:(V.el (l.map A.v)).c=((Cod.list d A hk).v l).c:=by
 show _=(V.fl A.w l.length fun i=>A.v (l.getD i d)).c
 rw [V.c,V.c]
 simp only [A.fixed hk]
 rw [bC d l fun x=>V.cs (A.v x),V.css_map,List.map_map];rfl
def Con.of {P:Program}{g:G}{α ρ:Type}(f:FuncId) (A:Row α) (Q:Cod ρ) (S:α→Option ρ) (h:Fn P g f (fOf A Q S)):Con P g where
 f:=f
 F:=fOf A Q S
 ok:=h
 call vs k:=cond (A.ok vs) (kM (S (A.dec vs)) fun r=>Q.sp r k) none
 sound vs k r hk:=by
  obtain⟨h1,h2⟩:=aA hk
  cases hs:S (A.dec vs)with
  | none=>rw [hs]at h2;cases h2
  | some x=>
    rw [hs]at h2
    refine⟨Q.v x,?_,Q.safe x,Q.spk _ _ _ h2⟩
    unfold fOf
    rw [A.dok vs h1,A.rt,Option.bind_some,hs];rfl
def ajz {P:Program}{g:G}(l:List (Con P g)):FuncId→Bool:=fun fn=>l.all fun c=>!Nat.beq c.f fn
theorem xF {P:Program}{g:G}:∀ {l:List (Con P g)}{fn:FuncId}(ts:List EVal),ajz l fn=true→aR (conT l) fn ts=none
 | [],fn,ts,_=>rfl
 | c::l,fn,ts,h=>by
   unfold ajz at h
   rw [List.all_cons,Bool.and_eq_true]at h
   show aR ((c.f,c.F)::conT l) fn ts=none
   rw [known_cons,if_neg (fun e=>by rw [e,Nat.beq_refl]at h;cases h.1)]
   exact xF ts h.2
def aj6 {R:Type}:FuncId→List V→D→(V→D→Option R)→Option R:=fun _ _ _ _=>none
theorem Fn.of {P:Program}{g:G}(hm:P.follows .mixedOrders=true) (hng:fL P) {f:FuncId}{fn:Func}(hfn:P.funcs[f]? = some fn) {c:Code}(hc:fn.body=some c) (l:List (Con P g)) {α ρ:Type}(A:Row α) (Q:Cod ρ) (S:α→Option ρ)
  (C:Cfg V) (p:axW) (m:Nat) (hP:C.P=P) (hg:C.g=g) (hgd:GD C.g C.gD) (hT:EqT C.P C.T) (hkd:C.kd=conD l) (hno:C.no=ajz l) (hM:C.M=aj6) (hY:C.Y=aj6) (hn:pI (bO (topW C p) (rfN 2) c)=true) (hlen:∀x,(A.v x).length<1000∧Nat.max fn.ntmps (A.v x).length=p.sz)
  (H1:∀x r,S x=some r→∃n w,dFn C p m c fn.results.toList n (A.v x)=some w∧w.c=(Q.v r).c):Fn P g f (fOf A Q S):=by
 refine Fn.den hm hng hfn hc (conT l) conT_ok ?_
 intro args v hF
 unfold fOf at hF
 cases ha:A.e args with
 | none=>rw [ha]at hF;cases hF
 | some x=>
   rw [ha]at hF
   simp only [Option.bind_some]at hF
   cases hs:S x with
   | none=>rw [hs]at hF;cases hF
   | some r=>
     rw [hs]at hF
     simp only [Option.map_some,Oi]at hF
     obtain⟨n,w,h1,h2⟩:=H1 x r hs
     exact⟨C,p,m,n,A.v x,w,hn,hP,hg,⟨hgd,hT,by rw [hkd];exact aqu,fun f ts h=>xF ts (by rw [hno]at h;exact h),fun fn vs d kk r h _=>(by rw [hM]at h;cases h),fun fn vs d kk r h _=>(by rw [hY]at h;cases h)⟩,A.inv _ _ ha,A.safe x,(hlen x).1,(hlen x).2,by rw [←hF,h2],h1⟩
end
end Go.Ev
