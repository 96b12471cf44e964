import Derived.Test.YtkhmgggponmimaaGreatDoorDF0
set_option linter.unusedSimpArgs false
set_option linter.unusedVariables false
namespace Go.Ev
open Go.RowKit Go.Proofs
set_option maxRecDepth 100000
set_option maxHeartbeats 4000000
set_option linter.unusedSimpArgs false
noncomputable section
theorem Con.less {f:FuncId}{α ρ:Type}{A:Row α}{Q:Cod ρ}{S S':α→Option ρ}(h:FnT f (fOf A Q S)) (hs:∀x r,S' x=some r→S x=some r):FnT f (fOf A Q S'):=
 Fn.weak h fun a v hv=>by
  obtain⟨x,r,rfl,h1,rfl⟩:=rE hv
  unfold fOf
  rw [A.rt,Option.bind_some,hs x r h1];rfl
theorem lo137:((List.range 128).all fun r=>Sf137 (((r:Nat):Int),())==some (isP r))=true:=by kernel_rfl
def l5:List Nat:=[66,67,83,70,88,72]
theorem ff214 (r:Int):uO l5 r 70 (.k76 0)=some (-1):=by kernel_rfl
theorem aqx {l:List Nat}{b:Nat}(h:∀x∈l,x<128) (h1:128≤b) (h2:b<256):S230 (l,((b:Nat):Int),())=some (-1):=by
 unfold S230
 rw [if_pos (by constructor<;>simp<;>omega)]
 simp only [Int.toNat_natCast,awu h h1]
theorem hi_k {r:Int}{k b:Nat}(hk:k=1∨k=2∨k=3) (hl:(bX r).length=k+1) (hb:(bX r).getD k 0=b) (h1:128≤b) (h2:b<256) (n:Nat):uO l5 r (n+1) .k10=some (-1):=by
 rw [bqD]
 have w1:w6 ((((bX r).length:Nat):Int)-1)=(k:Int):=by rw [hl];unfold w6;rw [fY]<;>omega
 simp only [axG,TS,w1,Int.toNat_natCast,hb]
 simp only [hl]
 rcases hk with rfl|rfl|rfl
 · have c4:((((l5.getD 1 0:Nat)):Int)==(b:Int))=false:=by rw [show l5.getD 1 0=67 from rfl];exact beq_eq_false_iff_ne.2 (by omega)
   have c6:=aqx (l:=(l5.take l5.length).drop (w6 (((1:Nat):Int)+1)).toNat) (by decide) h1 h2
   simp only [show decide (((1:Nat):Int)<((l5.length:Nat):Int))=true by decide,show inR ((1:Nat):Int) l5.length=true by decide,show inR ((1:Nat):Int) (1+1)=true by decide,c4,show(decide ((0:Int)≤w6 (((1:Nat):Int)+1))&&decide (w6 (((1:Nat):Int)+1)≤((l5.length:Nat):Int)))=true by decide,c6,Bool.not_false,cond_true,obind_some];rfl
 · have c4:((((l5.getD 2 0:Nat)):Int)==(b:Int))=false:=by rw [show l5.getD 2 0=83 from rfl];exact beq_eq_false_iff_ne.2 (by omega)
   have c6:=aqx (l:=(l5.take l5.length).drop (w6 (((2:Nat):Int)+1)).toNat) (by decide) h1 h2
   simp only [show decide (((2:Nat):Int)<((l5.length:Nat):Int))=true by decide,show inR ((2:Nat):Int) l5.length=true by decide,show inR ((2:Nat):Int) (2+1)=true by decide,c4,show(decide ((0:Int)≤w6 (((2:Nat):Int)+1))&&decide (w6 (((2:Nat):Int)+1)≤((l5.length:Nat):Int)))=true by decide,c6,Bool.not_false,cond_true,obind_some];rfl
 · have c4:((((l5.getD 3 0:Nat)):Int)==(b:Int))=false:=by rw [show l5.getD 3 0=70 from rfl];exact beq_eq_false_iff_ne.2 (by omega)
   have c6:=aqx (l:=(l5.take l5.length).drop (w6 (((3:Nat):Int)+1)).toNat) (by decide) h1 h2
   simp only [show decide (((3:Nat):Int)<((l5.length:Nat):Int))=true by decide,show inR ((3:Nat):Int) l5.length=true by decide,show inR ((3:Nat):Int) (3+1)=true by decide,c4,show(decide ((0:Int)≤w6 (((3:Nat):Int)+1))&&decide (w6 (((3:Nat):Int)+1)≤((l5.length:Nat):Int)))=true by decide,c6,Bool.not_false,cond_true,obind_some];rfl
theorem hi214 {r:Int}(h:128≤r) (n:Nat):uO l5 r (n+1) .k10=some (-1):=by
 rcases runeE_cases r h with⟨a,b,e,h1,h2⟩ | ⟨a,c,b,e,h1,h2⟩ | ⟨a,c,d,b,e,h1,h2⟩
 · exact hi_k (k:=1) (b:=b) (by simp) (by rw [e];rfl) (by rw [e];rfl) h1 h2 n
 · exact hi_k (k:=2) (b:=b) (by simp) (by rw [e];rfl) (by rw [e];rfl) h1 h2 n
 · exact hi_k (k:=3) (b:=b) (by simp) (by rw [e];rfl) (by rw [e];rfl) h1 h2 n
theorem m214 {r:Int}(h:128≤r):Sf214 (l5,r,())=some (-1):=by
 show Ef214 (6+64) l5 r=_
 unfold Ef214 Tf214
 have c0:decide (0≤r)=true:=by rw [decide_eq_true_eq];omega
 have c1:decide (r<128)=false:=by rw [decide_eq_false_iff_not];omega
 obtain⟨v,hv⟩:∃v,ayo (r,())=some v:=by
  show ∃v,Ef231 r=some v
  unfold Ef231 Tf231
  simp only [TS]
  cases decide (0≤r)<;>cases decide (r<55296)<;>cases decide (57343<r)<;>cases decide (r≤1114111)<;>exact⟨_,rfl⟩
 simp only [TS,c0,c1,cond_true,cond_false,hv,obind_some,ff214]
 have e:=hi214 h 69
 cases r==65533 with
 | true=>rfl
 | false=>
   cases v with
   | false=>rfl
   | true=>exact e
theorem m137' {r:Int}(h:0≤r):Sf137 (r,())=some (isP r.toNat):=by
 obtain⟨k,rfl⟩:∃k:Nat,r=(k:Int):=⟨r.toNat,by omega⟩
 rw [Int.toNat_natCast]
 by_cases hk:k<128
 · exact eq_of_beq (List.all_eq_true.1 lo137 k (List.mem_range.2 hk))
 · have e:ayq (l5,((k:Nat):Int),())=some false:=by
    show Ef190 l5 _=_
    unfold Ef190 Tf190
    simp only [TS,m214 (show(128:Int)≤(k:Int) by omega),obind_some];rfl
   rw [mA (by omega)]
   show Ef137 _=_
   unfold Ef137 Tf137
   simp only [TS]
   show aM (ayq (l5,((k:Nat):Int),())) _=_
   rw [e];rfl
def A137:Row (Int×Unit):=Row.cons (azO .i32) Row.nil
def S137 (x:Int×Unit):Option Bool:=if 0≤x.1 then some (isP x.1.toNat)else none
def K137:Con Tryz.prog gT:=Con.of 32 A137 cB S137 (Con.less Kf137.ok fun x r h=>by
 unfold S137 at h
 split at h
 · rename_i h0;exact(m137' h0).trans h
 · cases h)
def gX (l:List Mv):Bool:=decide (l.length≤300)&&l.all fun m=>decide (m.b.length≤1000)
theorem cp_j (s:List Mv) (h:gX s=true):∀j n k,k+j=s.length→bqC s (n+j+1) (.k6 (k:Int) (s.take k))=some s:=by
 simp only [gX,Bool.and_eq_true,decide_eq_true_eq,List.all_eq_true]at h
 intro j
 induction j with
 | zero=>
   intro n k hk
   have c1:decide ((k:Int)<((s.length:Nat):Int))=false:=by rw [decide_eq_false_iff_not];omega
   rw [awR]
   simp only [akm,TS,c1,cond_false]
   rw [List.take_of_length_le (by omega)]
 | succ j ih=>
   intro n k hk
   have hlt:k<s.length:=by omega
   obtain⟨x,hx⟩:∃x,s[k]? = some x:=⟨s[k],List.getElem?_eq_getElem hlt⟩
   have hm:=h.2 x (List.mem_of_getElem? hx)
   have c1:decide ((k:Int)<((s.length:Nat):Int))=true:=by rw [decide_eq_true_eq];omega
   have c2:inR (k:Int) s.length=true:=by simp [inR];omega
   have hg:s.getD k mv0=x:=by rw [List.getD_eq_getElem?_getD,hx];rfl
   have c3:Nat.ble (8*x.b.length) 1000000=true:=by rw [Nat.ble_eq];omega
   have c4:Nat.ble (64*((s.take k).length+1)) 1000000=true:=by rw [Nat.ble_eq,List.length_take];omega
   have w4:w6 ((k:Int)+1)=((k+1:Nat):Int):=by unfold w6;rw [fY]<;>omega
   have ht:s.take k++[x]=s.take (k+1):=by rw [List.take_add_one,hx];rfl
   rw [awR]
   simp only [akm,TS,c1,c2,Int.toNat_natCast,hg,c3,List.length_map,c4,cond_true,w4,ht]
   rw [show n+(j+1)=n+j+1 by omega]
   exact ih n (k+1) (by omega)
theorem m87 (s:List Mv) (h:gX s=true):Sf87 (s,())=some s:=by
 show Ef87 (s.length+64) s=_
 unfold Ef87 Tf87
 simp only [TS]
 have e:=cp_j s h s.length 63 0 (by omega)
 rw [show 63+s.length+1=s.length+64 by omega,List.take_zero]at e
 exact e
theorem m33 (p:Pl) (h:gX p.m=true):Sf33 (p,())=some p:=by
 show Ef33 p=_
 unfold Ef33 Tf33
 simp only [TS,m87 p.m h,obind_some]
end
end Go.Ev
