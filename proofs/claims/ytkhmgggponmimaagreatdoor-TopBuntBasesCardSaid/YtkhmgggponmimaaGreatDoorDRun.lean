import Derived.Test.YtkhmgggponmimaaGreatDoorEvE
import Derived.Test.YtkhmgggponmimaaGreatDoorDBase
set_option linter.unusedSimpArgs false
set_option linter.unusedVariables false
namespace Go.Ev
open Go.RowKit Go.Proofs
set_option maxRecDepth 20000
set_option maxHeartbeats 4000000
noncomputable def avO:FuncId→Bool:=fun f=>Nat.beq f 100000
noncomputable def quiet:aK:=avN Tryz.prog gT 100 avO
def aqp (b:Bool):Option (List Out)→Bool
 | some l=>l.all fun o=>match o with | .val (.bool c) _=>c==b|_=>false
 | none=>false
theorem awe {f:FuncId}{F:List EVal→Option EVal}{n:Nat}(H1:∀a u,F a=some u→∃b,u=.bool b∧aqp b (run Tryz.prog gT quiet n (.call f a H.start))=true):FnT f F:=by
 intro B0 W0 G a u hF vs fro w hvs hfz hb hs
 obtain⟨b,rfl,h⟩:=H1 a u hF
 have G1:GRel w.heap.size w gT:=G.grow hb hs
 cases hr:run Tryz.prog gT quiet n (.call f a H.start)with
 | none=>rw [hr]at h;cases h
 | some outs=>
   rw [hr]at h
   have hall:∀o∈outs,(match o with | .val (.bool c) _=>c==b|_=>false)=true:=List.all_eq_true.1 h
   refine(qH mixed noNG hfz G1 (xO (W0:=⟨w,fro⟩) mixed noNG G1 100 avO) hr hvs).mono ?_
   rintro e w' ⟨v,h',u,ρ,hm,rfl,hv,hR⟩
   have:=hall _ hm
   split at this
   · rename_i heq
     cases heq
     cases hv
     simp only [beq_iff_eq]at this
     subst this
     refine⟨_,ρ.fro,rfl,.bool _,hR.below,?_⟩
     have hfro:(fun b=>if b<w.heap.size then fro b else ρ.fro b)=ρ.fro:=by
      funext b
      split
      · rename_i hb;exact(hR.fz0 b hb).symm
      · rfl
     rw [hfro];exact hR.fz
   · cases this
theorem nbeq (x k:Nat):(((x:Nat):Int)==((k:Nat):Int))=(x==k):=by
 rw [Bool.eq_iff_iff,beq_iff_eq,beq_iff_eq];omega
def hasC (l:List Nat) (c:Int):Bool:=l.any fun x=>(x:Int)==c
theorem akG (s:ByteArray) (i:Nat) (h:128≤(s.get! i).toNat):128≤(Utf8.decode s i).1:=by
 unfold Utf8.decode
 simp only [Nat.add_zero]
 rw [if_neg (by omega)]
 have h2:128≤Utf8.runeError:=by decide
 split
 · split
   · assumption
   · exact h2
 · split
   · split
     · rename_i h3
       simp only [Bool.and_eq_true,decide_eq_true_eq]at h3
       omega
     · exact h2
   · split
     · split
       · rename_i h3
         simp only [Bool.and_eq_true,decide_eq_true_eq]at h3
         omega
       · exact h2
     · exact h2
def aS (l:List Nat):Bool:=l.all fun c=>decide (c<256)
theorem ax2 {l:List Nat}{k c:Nat}(h:l[k]? = some c) (hc:c<128):dU l k=some (c,1):=by
 unfold dU;rw [h];simp [hc]
theorem avY {l:List Nat}{k c:Nat}(hb:aS l=true) (h:l[k]? = some c) (hc:¬c<128):∃r w,dU l k=some (r,w)∧128≤r:=by
 unfold dU;rw [h]
 simp only [hc,if_false]
 refine⟨_,_,rfl,akG _ _ ?_⟩
 have hlt:c<256:=by
  have:=List.all_eq_true.1 hb c (List.mem_of_getElem? h)
  simpa using this
 have hk:=(List.getElem?_eq_some_iff.1 h).1
 have:((⟨(l.map UInt8.ofNat).toArray⟩:ByteArray).get! k)=UInt8.ofNat c:=by
  show((l.map UInt8.ofNat).toArray)[k]! = _
  have hq:(l.map UInt8.ofNat)[k]? = some (UInt8.ofNat c):=by simp [h]
  simp [hq]
 rw [this]
 simp
 omega
def withinB (n lo hi:Int):Bool:=decide (lo≤n)&&decide (n≤hi)
def lX (n lo hi:Int):Int:=if n<lo∨hi<n then 3 else 0
theorem awu {l:List Nat}{c i:Nat}(h:∀x∈l,x<128) (hc:128≤c):aU l c i=-1:=by
 induction l generalizing i with
 | nil=>rfl
 | cons x l ih=>
   unfold aU
   rw [if_neg (by have:=h x List.mem_cons_self;omega)]
   exact ih fun y hy=>h y (List.mem_cons_of_mem _ hy)
theorem runeE_cases (r:Int) (h:128≤r):(∃a b:Nat,bX r=[a,b]∧128≤b∧b<256)∨(∃a b c:Nat,bX r=[a,b,c]∧128≤c∧c<256)∨(∃a b c d:Nat,bX r=[a,b,c,d]∧128≤d∧d<256):=by
 unfold bX Utf8.encode
 have hc:∃n:Nat,(if Utf8.valid r then r.toNat else Utf8.runeError)=n∧128≤n:=by
  split
  · exact⟨_,rfl,by omega⟩
  · exact⟨_,rfl,by decide⟩
 obtain⟨n,hn,h128⟩:=hc
 simp only [hn]
 have e:∀k:Nat,(UInt8.ofNat (128+k % 64)).toNat=128+k % 64:=fun k=>by
  simp
  omega
 rw [if_neg (by omega)]
 split
 · exact .inl ⟨_,_,rfl,by rw [e];omega,by rw [e];omega⟩
 split
 · exact .inr (.inl ⟨_,_,_,rfl,by rw [e];omega,by rw [e];omega⟩)
 · exact .inr (.inr ⟨_,_,_,_,rfl,by rw [e];omega,by rw [e];omega⟩)
theorem mA {n:Nat}(h:128≤n):isP n=false:=by
 simp [isP];omega
end Go.Ev
