import Derived.Test.YtgnnhpffealmmaaGreatDoorEvD
import Derived.OpenShut
import Derived.Deep.Slices
import Derived.WalkKit
import Derived.ProofKit
import Derived.Deep.DeepHandedRow
import Derived.Lib.LaidTab
import Derived.Lib.SmallJoins
import Derived.ChangeMaps5
set_option linter.unusedSimpArgs false
set_option linter.unusedVariables false
namespace Go.Ev
open Go.RowKit
noncomputable section
structure Same {α:Type} (a b:α):Prop where
 h:a=b
inductive Tr (ρ L:Type) (st:L→D) (W:ρ→V):Type 1 where
 | n
 | r (x:ρ)
 | w (x:ρ) (y:V) (h:Same y.c (W x).c)
 | g (l:L)
 | j (l:L) (d:D) (h:Same d (st l))
 | i (c:Bool) (a b:Tr ρ L st W)
 | c {α β:Type} (A:Row α) (S:α→Option β) (x:α) (k:β→Tr ρ L st W)
 | v {α β:Type} (A:Row α) (S:α→Option β) (x:List V) (k:β→Tr ρ L st W)
 | s {α:Type} (x:Option α) (a:Tr ρ L st W) (k:α→Tr ρ L st W)
 | t {α:Type} (A:Row α) (l:List α) (x:List (List V)) (h:Same x (l.map A.v)) (k:List α→Tr ρ L st W)
section
variable {ρ L:Type}{st:L→D}{W:ρ→V}
def Tr.m (J:Nat→D→Option V) (u:L→Nat) (t:Tr ρ L st W):Option V:=
 t.rec none (fun x=>some (W x)) (fun _ y _=>some y) (fun l=>J (u l) (st l)) (fun l d _=>J (u l) d) (fun c _ _ a b=>cond c a b)
  (fun A S x _ k=>cond (A.ok (A.v x)) (kM (S (A.dec (A.v x))) k) none)
  (fun A S x _ k=>cond (A.ok x) (kM (S (A.dec x)) k) none) (fun x _ _ a k=>nI x a k)
  (fun A _ x _ _ k=>cond (x.all A.ok) (k (x.map A.dec)) none)
def Tr.d (g:L→Option ρ) (t:Tr ρ L st W):Option ρ:=
 t.rec none (fun x=>some x) (fun x _ _=>some x) (fun l=>g l) (fun l _ _=>g l) (fun c _ _ a b=>cond c a b)
  (fun _ S x _ k=>kM (S x) k) (fun A S x _ k=>cond (A.ok x) (kM (S (A.dec x)) k) none) (fun x _ _ a k=>nI x a k) (fun _ l _ _ _ k=>k l)
theorem Tr.d_n {g:L→Option ρ}:(Tr.n:Tr ρ L st W).d g=none:=(rfl)
theorem Tr.d_r {g:L→Option ρ}{x:ρ}:(Tr.r x:Tr ρ L st W).d g=some x:=(rfl)
theorem Tr.d_w {g:L→Option ρ}{x:ρ}{y:V}{h:Same y.c (W x).c}:(Tr.w x y h:Tr ρ L st W).d g=some x:=(rfl)
theorem Tr.d_g {g:L→Option ρ}{l:L}:(Tr.g l:Tr ρ L st W).d g=g l:=(rfl)
theorem Tr.d_j {g:L→Option ρ}{l:L}{d:D}{h:Same d (st l)}:(Tr.j l d h:Tr ρ L st W).d g=g l:=(rfl)
theorem Tr.d_i {g:L→Option ρ}{c:Bool}{a b:Tr ρ L st W}:(Tr.i c a b).d g=cond c (a.d g) (b.d g):=(rfl)
theorem Tr.d_c {g:L→Option ρ}{α β:Type}{A:Row α}{S:α→Option β}{x:α}{k:β→Tr ρ L st W}:(Tr.c A S x k).d g=kM (S x) fun r=>(k r).d g:=(rfl)
theorem Tr.d_v {g:L→Option ρ}{α β:Type}{A:Row α}{S:α→Option β}{x:List V}{k:β→Tr ρ L st W}:(Tr.v A S x k).d g=cond (A.ok x) (kM (S (A.dec x)) fun r=>(k r).d g) none:=(rfl)
theorem Tr.d_s {g:L→Option ρ}{α:Type}{x:Option α}{a:Tr ρ L st W}{k:α→Tr ρ L st W}:(Tr.s x a k).d g=nI x (a.d g) fun r=>(k r).d g:=(rfl)
theorem Tr.d_t {g:L→Option ρ}{α:Type}{A:Row α}{l:List α}{x:List (List V)}{h:Same x (l.map A.v)}{k:List α→Tr ρ L st W}:(Tr.t A l x h k).d g=(k l).d g:=(rfl)
theorem Tr.m_d {J:Nat→D→Option V}{u:L→Nat}{g:L→Option ρ}(h:∀l,(J (u l) (st l)).map V.c=(g l).map fun r=>(W r).c) (t:Tr ρ L st W):(t.m J u).map V.c=(t.d g).map fun r=>(W r).c:=by
 induction t with
 | n=>rfl
 | r x=>rfl
 | w x y hy=>exact congrArg some hy.h
 | g l=>exact h l
 | j l d hd=>obtain⟨rfl⟩:=hd;exact h l
 | i c a b ha hb=>show(cond c (a.m J u) (b.m J u)).map _=_;rw [Tr.d_i,jV,jV,ha,hb]
 | c A S x k ih=>
   show(cond (A.ok (A.v x)) (kM (S (A.dec (A.v x))) fun r=>(k r).m J u) none).map _=_
   rw [A.okv,A.dv,Tr.d_c,cond_true,hZ,hZ]
   exact congrArg (kM (S x)) (funext ih)
 | v A S x k ih=>
   show(cond (A.ok x) (kM (S (A.dec x)) fun r=>(k r).m J u) none).map _=_
   rw [Tr.d_v,jV,jV,hZ,hZ]
   rw [show(fun r=>((k r).m J u).map V.c)=fun r=>((k r).d g).map fun r=>(W r).c from funext ih];rfl
 | s x a k ha ih=>
   show(nI x (a.m J u) (fun r=>(k r).m J u)).map _=_
   rw [Tr.d_s,nJ,nJ,ha]
   exact congrArg (nI x _) (funext ih)
 | t A l x hx k ih=>
   obtain⟨rfl⟩:=hx
   show(cond ((l.map A.v).all A.ok) ((k ((l.map A.v).map A.dec)).m J u) none).map _=_
   rw [show(l.map A.v).all A.ok=true by rw [List.all_eq_true];intro q hq;obtain⟨y,_,rfl⟩:=List.mem_map.1 hq;exact A.okv y,
    show(l.map A.v).map A.dec=l by rw [List.map_map];exact(List.map_congr_left fun y _=>A.dv y).trans (List.map_id l)]
   exact ih l
def Tr.lp (E:(l:L)→Tr ρ L st W) (n:Nat):L→Option ρ:=n.rec (fun _=>none) fun _ f l=>(E l).d f
theorem Tr.lp_s {E:(l:L)→Tr ρ L st W}{n:Nat}{l:L}:Tr.lp E (n+1) l=(E l).d (Tr.lp E n):=(rfl)
theorem Tr.lp_ok {J:Nat→Nat→D→Option V}{u:L→Nat}{E:(l:L)→Tr ρ L st W}(h0:∀l d,J 0 l d=none)
  (h:∀n l,J (n+1) (u l) (st l)=(E l).m (J n) u):∀n l,(J n (u l) (st l)).map V.c=(Tr.lp E n l).map fun r=>(W r).c
 | 0,l=>by rw [h0];rfl
 | k+1,l=>by rw [h,Tr.m_d (Tr.lp_ok h0 h k)];rfl
end
set_option linter.defProp false in
def TS:=Ai @Tr.d_n (Ai @Tr.d_r (Ai @Tr.d_w (Ai @Tr.d_g (Ai @Tr.d_j (Ai @Tr.d_i (Ai @Tr.d_c (Ai @Tr.d_t @Tr.d_s)))))))
structure Wk (α ρ L:Type) (W:ρ→V) where
 st:α→L→D
 u:L→Nat
 E:(x:α)→Tr ρ L (st x) W
 J:(x:α)→(l:L)→Tr ρ L (st x) W
def Wk.S {α ρ L:Type}{W:ρ→V}(w:Wk α ρ L W) (fuel:α→Nat) (x:α):Option ρ:=(w.E x).d (Tr.lp (w.J x) (fuel x))
theorem Wk.ok {α ρ L:Type}{W:ρ→V}(w:Wk α ρ L W) {fuel:α→Nat}{A:Row α}{Q:Cod ρ}{C:Cfg V}{p:axW}{m:Nat}{c:Code}{rs:List ResultVar}(hW:∀r,(W r).c=(Q.v r).c)
  (q:∀n x,dFn C p m c rs n (A.v x)=(w.E x).m (dJ C p c rs n) w.u)
  (qJ:∀n x l,dJ C p c rs (n+1) (w.u l) (w.st x l)=(w.J x l).m (dJ C p c rs n) w.u) (x:α) (r:ρ) (h:w.S fuel x=some r) :
  ∃n v,dFn C p m c rs n (A.v x)=some v∧v.c=(Q.v r).c:=by
 refine den_ow hW (fuel x) (t:=fun n=>dFn C p m c rs n (A.v x)) ?_ h
 show Option.map V.c (dFn C p m c rs (fuel x) (A.v x))=_
 rw [q,Tr.m_d (Tr.lp_ok (J:=dJ C p c rs) (fun _ _=>rfl) (fun n l=>qJ n x l) (fuel x))];rfl
def noL {α:Type}:Nat→Option α:=fun _=>none
def noS:Empty→D:=fun e=>e.rec
def noE {ρ:Type}:Empty→Option ρ:=fun _=>none
def noT {ρ:Type}{W:ρ→V}:(l:Empty)→Tr ρ Empty noS W:=fun e=>e.rec
def wk0 {α ρ:Type}{W:ρ→V}(T:α→Tr ρ Empty noS W):Wk α ρ Empty W:=⟨fun _=>noS,fun _=>0,T,fun _=>noT⟩
def noZ:Nat→Bool:=fun _=>false
def mE (fr:List (Nat×V)) (ds:List Nat) (rd:Option Nat) (sh:List (List (Nat×V))) (n:Nat) (hp:List (Nat×DObj)) (m:Nat) (tk:List (Nat×(List (List V)×TypeId))):D:=
 ⟨⟨fr.map fun p=>(p.1,some p.2),ds,rd,sh⟩,n,hp.map fun p=>(p.1,some p.2),m,tk⟩
def mD (fr:List (Nat×V)) (n:Nat) (hp:List (Nat×DObj)) (m:Nat) (tk:List (Nat×(List (List V)×TypeId))):D:=mE fr [] none [] n hp m tk
abbrev w6 (n:Int):Int:=IntKind.i64.wrap n
end
end Go.Ev
namespace Go.Ev
open Go.RowKit
def aj0 (v v2:EVal):Prop:=v2=v∨(v=.nilslice∧v2=.lsl [])
def xT:List EVal→List EVal→Prop
 | [],[]=>True
 | a::l,b::m=>aj0 a b∧xT l m
 | _,_=>False
theorem m3 {ρ:Loc}{v v2:EVal}{u:Value}(h:aj0 v v2) (hv:VRel ρ v u):VRel ρ v2 u:=by
 rcases h with rfl|⟨rfl,rfl⟩
 · exact hv
 · cases hv;exact .lsln
theorem lI:∀ {l m:List EVal},xT l m→l.length=m.length
 | [],[],_=>rfl
 | a::l,b::m,h=>by simp only [List.length_cons,lI h.2]
theorem m4 {ρ:Loc}:∀ {l m:List EVal}{us:List Value},xT l m→VsRel ρ l us→VsRel ρ m us
 | [],[],_,_,h=>by cases h;exact .nil
 | a::l,b::m,_,hf,h=>by
   cases h with
   | cons _ u _ us h hs=>exact .cons _ _ _ _ (m3 hf.1 h) (m4 hf.2 hs)
theorem View.told {A:Option Nat}{P:Program}{s n m:Nat}{ds:List Nat}{r:Option Nat}{fl fl2:List (Nat×EVal)}{l l2:List (Nat×Option bR)}{k:List (Nat×Option (Nat×TypeId))}
  (hf:∀p∈fl2,p.1<1000∧∃v,look fl p.1=some v∧aj0 v p.2)
  (hl:∀p∈l2,p.1<16000∧∃o2,p.2=some o2∧(lookG l p.1=some o2∨∃cs1 cs2 e lo hi sl,lookG l p.1=some (.row cs1 e lo hi sl)∧o2=.row cs2 e lo hi sl∧xT cs1 cs2)) :
  View A P (mkD s fl ds r) (mkH n l m k) (mkD s fl2 ds r) (mkH n l2 m k):=by
 intro B0 W0 b t d ρ w F R
 have hget:∀q o2,(mkH n l2 m k).get q=some o2→∃o,(mkH n l m k).get q=some o∧(o=o2∨∃cs1 cs2 e lo hi sl,o=.row cs1 e lo hi sl∧o2=.row cs2 e lo hi sl∧xT cs1 cs2):=by
  intro q o2 hg
  obtain⟨h1,o',h3,h4⟩:=hl _ (T.ofG_mem hg)
  simp only [Oi]at h3
  subst h3
  rcases h4 with h4|⟨cs1,cs2,e,lo,hi,sl,h4,rfl,h5⟩
  · exact⟨_,by rw [mkH_get h1];exact h4,.inl rfl⟩
  · exact⟨_,by rw [mkH_get h1];exact h4,.inr ⟨_,_,_,_,_,_,rfl,rfl,h5⟩⟩
 refine⟨ρ,Loc.leA_refl,⟨F.size,fun j v hv=>?_,F.defers,F.round⟩,?_⟩
 · obtain ⟨h1,v0,h3,h4⟩:=hf _ (eI hv)
   exact m3 h4 (F.tmps j v0 (by show(T.ofL fl).get j=_;rw [T.get_ofL _ _ h1];exact h3))
 · refine ⟨R.below,R.base,R.dom,R.lo,fun a b o1 o2 b' C C' g1 g2 r1 r2=>?_,fun q o hg=>?_,R.fz,fun b' pre hb' id C o hg hr=>?_,R.fz0,R.mdom,R.toks,R.tnew,R.tinj⟩
   · obtain ⟨_,e1,_⟩:=hget _ _ g1
     obtain⟨_,e2,_⟩:=hget _ _ g2
     exact R.inj a b _ _ b' C C' e1 e2 r1 r2
   · obtain ⟨o0,e1,e2⟩:=hget _ _ hg
     obtain⟨b',C',hb',rr⟩:=R.objs _ _ e1
     refine⟨b',C',hb',?_⟩
     rcases e2 with rfl|⟨cs1,cs2,e',lo',hi',sl',rfl,rfl,h5⟩
     · exact rr
     · obtain ⟨cs',r1,r2,r3,r4⟩:=rr
       have hln:=lI h5
       exact⟨cs',r1,by rw [←hln];exact m4 h5 r2,by rw [←hln];exact r3,r4⟩
   · obtain ⟨_,e1,_⟩:=hget _ _ hg
     exact R.free b' pre hb' id C _ e1 hr
end Go.Ev
namespace Go.Ev
open Go.RowKit
def oU (f:EVal→Option EVal):List EVal→Option (List EVal)
 | []=>some []
 | v::l=>match f v,oU f l with
   | some a,some b=>some (a::b)
   | _,_=>none
noncomputable def oV (P:Program) (h:H):Nat→EVal→Option EVal
 | 0,_=>none
 | n + 1, v => match v with
   | .agg l=>(oU (oV P h n) l).map .agg
   | .tup l=>(oU (oV P h n) l).map .tup
   | .slice id off len cap=>match h.get id with
     | some (.row cs e _ _ _)=>match aG P e with
       | some sz=>match takeN cs off (len*sz)with
         | some r=>match oU (oV P h n) r with
           | some r'=>if capOK len cap=true∧sz≠0 then some (.lsl (chunk sz len r'))else none
           | none=>none
         | none=>none
       | none=>none
     | _=>none
   | .ptr id off=>match h.get id with
     | some (.row cs _ _ _ _)=>match oU (oV P h n) cs with
       | some r=>some (.lptr r off)
       | none=>none
     | _=>none
   | v=>keep1 v
def j0 (B0:Nat) (W0:eF) (w:World):Nat→Option (List Value):=fun b=>if b<B0 then W0.fro b else bU w b
section
variable {P:Program}{B0:Nat}{W0:eF}{g:G}{K:aH}
theorem fz_mix {ρ:Loc}{h:H}{w:World}(R:HRel P B0 W0 ρ h w):ρ.fz.le ⟨fun _=>none,j0 B0 W0 w,fun _ _=>none⟩:=
 ⟨fun _ _ h=>(by cases h),fun b pre hb=>by
  have hb':ρ.fro b=some pre:=hb
  show ∃more,(if b<B0 then W0.fro b else bU w b)=_
  by_cases hlt:b<B0
  · rw [if_pos hlt,←R.fz0 b hlt];exact⟨[],by rw [hb',List.append_nil]⟩
  · rw [if_neg hlt];exact(aqW R.fz).fro b pre hb,fun _ _ _ h=>(by cases h)⟩
theorem nW {ρ:Loc}{h:H}{w:World}(R:HRel P B0 W0 ρ h w):FzOK (j0 B0 W0 w) w:=fun b pre hb=>by
 unfold j0 at hb
 split at hb
 · rename_i hlt;exact R.fz b pre (by rw [R.fz0 b hlt];exact hb)
 · exact nX w b pre hb
theorem eC {ρ A:Loc}{f:EVal→Option EVal}(hf:∀v v' u,VRel ρ v u→f v=some v'→VRel A v' u):∀ {l l':List EVal}{us:List Value},VsRel ρ l us→oU f l=some l'→VsRel A l' us
 | [],l',us,h,hk=>by
   simp only [oU,Oi]at hk;subst hk
   cases h;exact .nil
 | v :: l,l',us,h,hk=>by
   simp only [oU]at hk
   split at hk
   · rename_i a b ha hb
     simp only [Oi]at hk;subst hk
     cases h with
     | cons _ u _ us h hs=>exact .cons _ _ _ _ (hf _ _ _ h ha) (eC hf hs hb)
   · cases hk
theorem f7 {ρ : Loc} {h:H} {w:World}(R:HRel P B0 W0 ρ h w):∀(n:Nat) (v v':EVal) (u:Value),VRel ρ v u→oV P h n v=some v'→VRel ⟨fun _=>none,j0 B0 W0 w,fun _ _=>none⟩ v' u
 | 0,_,_,_,_,hk=>by cases hk
 | n + 1, v, v', u, hv,hk=>by
   have ih:=f7 R n
   have own:∀id b C,ρ id=some (b,C)→∀cv e m,w.heap[b]? = some (.cells cv e m)→j0 B0 W0 w b=some cv.toList:=by
    intro id b C hb cv e m hw
    have:=(R.lo _ _ _ hb).1
    unfold j0
    rw [if_neg (by omega)]
    simp [bU,hw]
   unfold oV at hk
   split at hk
   · rename_i l
     cases hl:oU (oV P h n) l with
     | none=>rw [hl]at hk;cases hk
     | some l'=>
       rw [hl]at hk;cases hk
       cases hv with|agg _ cs hc=>exact .agg _ _ (eC ih hc hl)
   · rename_i l
     cases hl:oU (oV P h n) l with
     | none=>rw [hl]at hk;cases hk
     | some l'=>
       rw [hl]at hk;cases hk
       cases hv with|tup _ cs hc=>exact .tup _ _ (eC ih hc hl)
   · rename_i id off len cap
     split at hk
     · rename_i cs e lo hi sl hg
       split at hk
       · rename_i sz hsz
         split at hk
         · rename_i r hr
           split at hk
           · rename_i r' hr'
             split at hk
             rotate_left
             · cases hk
             rename_i hcond
             obtain⟨hcap,hsz0⟩:=hcond
             cases hk
             unfold takeN at hr
             simp only at hr
             split at hr
             · rename_i hl
               cases hr
               have key:∀(b C c':Nat),ρ id=some (b,C)→len≤c'→VRel ⟨fun _=>none,j0 B0 W0 w,fun _ _=>none⟩ (.lsl (chunk sz len r')) (.slice (some ⟨b,off,none⟩) len c'):=by
                intro b C c' hb hc
                obtain⟨b',C',hb',cv,hw,hrel,_⟩:=R.objs _ _ hg
                rw [hb]at hb';cases hb'
                have h1:=(hrel.drop off).take (len*sz)
                have h2:=eC ih h1 hr'
                have h3:r'.length=len*sz:=by rw [h2.length,←h1.length,hl]
                obtain⟨uss,c1,c2,c3,c4⟩:=cO sz len r' _ h2 h3
                by_cases h0:len=0
                · subst h0;exact .lsl0 _ _
                have hlen:(chunk sz len r').length=len:=aN _ _ _
                have hfa:=own _ _ _ hb _ _ _ hw
                by_cases hoff:off≤cv.toList.length
                · have:=VRel.lsl (ρ:=⟨fun _=>none,j0 B0 W0 w,fun _ _=>none⟩) (chunk sz len r') uss b off c' sz cv.toList (((cv.toList.drop off).drop uss.flatten.length)) hfa c1 ?_ hoff c3 (by rw [hlen];exact hc)
                  · rw [hlen]at this;exact this
                  · have hpre:uss.flatten=(cv.toList.drop off).take uss.flatten.length:=by
                     conv=>lhs;rw [c2]
                     have hl3:uss.flatten.length=len*sz:=by rw [cW uss c3,c4]
                     rw [hl3,List.drop_take,List.take_take]
                     have hl2:=hl
                     simp only [List.length_take,List.length_drop]at hl2
                     rw [Nat.min_eq_left (by omega)]
                    conv=>lhs;rw [←List.take_append_drop uss.flatten.length (cv.toList.drop off)]
                    rw [←hpre]
                · have hcl:=hrel.length
                  simp only [List.length_take,List.length_drop,Array.length_toList]at hcl hl hoff
                  have:0<len*sz:=Nat.mul_pos (by omega) (by omega)
                  omega
               cases hv with
               | slice _ _ _ c b C hb=>exact key _ _ _ hb (by simpa [capOK]using hcap)
               | slack _ _ _ _ c b C hb hc hn=>exact key _ _ _ hb hn
             · cases hr
           · cases hk
         · cases hk
       · cases hk
     · cases hk
   · rename_i id off
     split at hk
     · rename_i cs e lo hi sl hg
       split at hk
       · rename_i r hr
         cases hk
         cases hv with
         | ptr _ _ b C hb=>
           obtain⟨b',C',hb',cv,hw,hrel,_⟩:=R.objs _ _ hg
           rw [hb]at hb';cases hb'
           have:=VRel.lptr (ρ:=⟨fun _=>none,j0 B0 W0 w,fun _ _=>none⟩) r off (cv.toList.take cs.length) b 0 cv.toList (cv.toList.drop cs.length) (own _ _ _ hb _ _ _ hw)
            (eC ih hrel hr) (by rw [List.drop_zero,List.take_append_drop]) (Nat.zero_le _)
           rwa [Nat.zero_add]at this
       · cases hk
     · cases hk
   · exact((fS hv hk).1).mono (fz_mix R)
noncomputable def aK (P:Program) (v:EVal):Option (List Out)→Bool
 | some l=>l.all fun o=>match o with
   | .val x h=>match oV P h 9 x with
     | some y=>EVal.beq y v
     | none=>false
   | _=>false
 | none=>false
theorem Fn.run (hm:P.follows .mixedOrders=true) (hng:fL P) (l:lG) (hl:∀p∈l,Fn P g p.1 p.2) {f:FuncId}{F:List EVal→Option EVal}{n:Nat}
  (H1:∀a v,F a=some v→aK P v (Go.Ev.run P g (aR l) n (.call f a H.start))=true):Fn P g f F:=by
 intro B0 W0 G a v hF vs fro w hvs hfz hb hs
 have h:=H1 a v hF
 have G1:GRel w.heap.size w g:=G.grow hb hs
 cases hr:Go.Ev.run P g (aR l) n (.call f a H.start)with
 | none=>rw [hr]at h;cases h
 | some outs=>
   rw [hr]at h
   have hall:=List.all_eq_true.1 h
   refine(sJ hm hng hfz G1 (jY (W0:=⟨w,fro⟩) G1 l hl) hr hvs).mono ?_
   rintro e w' ⟨x,h',u,ρ,hmem,rfl,hv,hR⟩
   have:=hall _ hmem
   simp only at this
   split at this
   · rename_i y hy
     have e:=EVal.beq_eq this
     subst e
     exact⟨u,bU w',rfl,f7 hR 9 _ _ _ hv hy,hR.below,nW hR⟩
   · cases this
end
end Go.Ev
namespace Go.Ev
def tbl:List (List EVal×EVal)→List EVal→Option EVal
 | [],_=>none
 | (a,v)::l,b=>bif zE a b then some v else tbl l b
theorem zH:∀ {l:List (List EVal×EVal)}{a:List EVal}{v:EVal},tbl l a=some v→(a,v)∈l
 | (b, u)::l,a,v,h=>by
   simp only [tbl,Bool.cond_eq_ite]at h
   split at h
   · rename_i hb
     have:=g6 hb
     subst this
     cases h
     exact .head _
   · exact .tail _ (zH h)
theorem Fn.tbl {P:Program}{g:G}(hm:P.follows .mixedOrders=true) (hng:fL P) (l:lG) (hl:∀p∈l,Fn P g p.1 p.2) {f:FuncId}{rows:List (List EVal×EVal)}{n:Nat}
  (H1:∀p∈rows,aK P p.2 (Go.Ev.run P g (aR l) n (.call f p.1 H.start))=true):Fn P g f (Go.Ev.tbl rows):=
 Fn.run hm hng l hl (n:=n) fun a v h=>H1 (a,v) (zH h)
end Go.Ev
namespace Go.Ev
open Go.RowKit
noncomputable def autoV (P:Program):Option (List Out)→Option EVal
 | some (.val x h::l)=>match oV P h 9 x with
   | some v=>bif aK P v (some (.val x h::l))then some v else none
   | none=>none
 | _=>none
noncomputable def auto (P:Program) (g:G) (K:aH) (n:Nat) (f:FuncId):List EVal→Option EVal:=fun a=>autoV P (Go.Ev.run P g K n (.call f a H.start))
section
variable {P:Program}{B0:Nat}{W0:eF}{g:G}{K:aH}
theorem ajC {o:Option (List Out)}{v:EVal}(h:autoV P o=some v):aK P v o=true:=by
 unfold autoV at h
 split at h
 · rename_i x h' l
   split at h
   · rename_i u hu
     cases hk:aK P u (some (.val x h'::l))with
     | false=>rw [hk]at h;cases h
     | true=>rw [hk]at h;cases h;exact hk
   · cases h
 · cases h
theorem Fn.auto (hm:P.follows .mixedOrders=true) (hng:fL P) (l:lG) (hl:∀p∈l,Fn P g p.1 p.2) (f:FuncId) (n:Nat):Fn P g f (Go.Ev.auto P g (aR l) n f):=by
 intro B0 W0 G a v hF vs fro w hvs hfz hb hs
 have h:=ajC hF
 have G1:GRel w.heap.size w g:=G.grow hb hs
 cases hr:Go.Ev.run P g (aR l) n (.call f a H.start)with
 | none=>rw [hr]at h;cases h
 | some outs=>
   rw [hr]at h
   have hall:=List.all_eq_true.1 h
   refine(sJ hm hng hfz G1 (jY (W0:=⟨w,fro⟩) G1 l hl) hr hvs).mono ?_
   rintro e w' ⟨x,h',u,ρ,hmem,rfl,hv,hR⟩
   have:=hall _ hmem
   simp only at this
   split at this
   · rename_i y hy
     have e:=EVal.beq_eq this
     subst e
     exact⟨u,bU w',rfl,f7 hR 9 _ _ _ hv hy,hR.below,nW hR⟩
   · cases this
end
noncomputable def ajD (P:Program) (g:G) (n:Nat):List FuncId→lG
 | []=>[]
 | f::l=>(f,auto P g (aR (ajD P g n l)) n f)::ajD P g n l
theorem xK {P:Program}{g:G}(hm:P.follows .mixedOrders=true) (hng:fL P) (n:Nat):∀(l:List FuncId),∀p∈ajD P g n l,Fn P g p.1 p.2
 | []=>fun _ h=>by cases h
 | f::l=>fun p hp=>by
   have ih:=xK (g:=g) hm hng n l
   simp only [ajD,List.mem_cons]at hp
   rcases hp with rfl|hp
   · exact Fn.auto hm hng _ ih f n
   · exact ih p hp
end Go.Ev
namespace Go.Ev
open Go.RowKit
def H.start8:H:=⟨0,T.full none 14,128,T.full none 8⟩
theorem HRel.start8 {P:Program}(w:World) {fro:Nat→Option (List Value)}(hF:FzOK fro w):HRel P w.heap.size ⟨w,fro⟩ (Loc.start fro) H.start8 w:=
 (HRel.start w hF).mode (m:=128) (Nat.zero_le _)
theorem Fn.run8 {P:Program}{g:G}(hm:P.follows .mixedOrders=true) (hng:fL P) (l:lG) (hl:∀p∈l,Fn P g p.1 p.2) {f:FuncId}{F:List EVal→Option EVal}{n:Nat}
  (H1:∀a v,F a=some v→aK P v (Go.Ev.run P g (aR l) n (.call f a H.start8))=true):Fn P g f F:=by
 intro B0 W0 G a v hF vs fro w hvs hfz hb hs
 have h:=H1 a v hF
 have G1:GRel w.heap.size w g:=G.grow hb hs
 cases hr:Go.Ev.run P g (aR l) n (.call f a H.start8)with
 | none=>rw [hr]at h;cases h
 | some outs=>
   rw [hr]at h
   have hall:=List.all_eq_true.1 h
   refine(((jS hm hng G1 (jY (W0:=⟨w,fro⟩) G1 l hl) n).call f a _ outs hr vs _ w hvs (HRel.start8 w hfz))).mono ?_
   rintro e w' ⟨x,h',u,ρ,hmem,rfl,hle,hv,hR⟩
   have:=hall _ hmem
   simp only at this
   split at this
   · rename_i y hy
     have e:=EVal.beq_eq this
     subst e
     exact⟨u,bU w',rfl,f7 hR 9 _ _ _ hv hy,hR.below,nW hR⟩
   · cases this
end Go.Ev
namespace Go.Ev
open Go.RowKit
end Go.Ev
namespace Go.Ev
open Go.RowKit
abbrev ρ0 (w:World):Loc:=⟨fun _=>none,bU w,fun _ _=>none⟩
theorem VssRel.map {ρ:Loc}{E:Nat→List EVal}{C:Nat→List Value}:∀ {l:List Nat},(∀i∈l,VsRel ρ (E i) (C i))→VssRel ρ (l.map E) (l.map C)
 | [],_=>.nil
 | i::l,h=>.cons _ _ _ _ (h i List.mem_cons_self) (VssRel.map fun j hj=>h j (List.mem_cons_of_mem _ hj))
theorem VRel.rows {w:World}{a:Addr}{len cap sz:Nat}(hcap:len≤cap) (hsz:0<sz) (E:Nat→List EVal) (C:Nat→List Value)
  (hC:∀i,i<len→w.cells? 0 (a.add (i*sz)) sz=some (C i)) (hE:∀i,i<len→VsRel (ρ0 w) (E i) (C i)) :
  VRel (ρ0 w) (.lsl ((List.range len).map E)) (.slice (some a) len cap):=by
 by_cases h0:len=0
 · subst h0;exact .lsl0 a cap
 have hc:∀i,i<len→(C i).length=sz∧∀j,j<sz→w.cell? ((a.add (i*sz)).add j)=(C i)[j]? := fun i hi=>by
  obtain⟨_,h1,h2⟩:=World.cells?_some (hC i hi)
  exact⟨h1,h2⟩
 obtain⟨v,hv⟩:∃v,w.cell? a=some v:=by
  obtain⟨h1,h2⟩:=hc 0 (by omega)
  have:=h2 0 hsz
  simp only [Nat.zero_mul,Addr.add,if_true]at this
  rw [this]
  exact⟨_,List.getElem?_eq_getElem (by omega)⟩
 obtain⟨b,off,spot⟩:=a
 unfold World.cell? at hv
 split at hv
 rotate_left
 · cases hv
 rename_i cs e m hw
 simp only at hw
 split at hv
 · cases hv
 rename_i hsp
 obtain rfl:spot=none:=by cases spot with
  | none=>rfl
  | some x=>simp at hsp
 simp only at hv
 have hoff:off<cs.size:=(Array.getElem?_eq_some_iff.1 hv).1
 have hcell:∀o,w.cell? ⟨b,o,none⟩=cs.toList[o]? := fun o=>by
  unfold World.cell?
  simp only [hw]
  simp
 have hrow:∀n,n<len→(cs.toList.drop (off+n*sz)).take sz=C n:=fun n hn=>by
  obtain⟨h1,h2⟩:=hc n hn
  apply List.ext_getElem?
  intro j
  by_cases hj:j<sz
  · rw [List.getElem?_take_of_lt hj,List.getElem?_drop,←hcell,←h2 j hj]
    congr 1
    simp only [Addr.add]
    by_cases e1:n*sz=0<;>by_cases e2:j=0<;>simp [e1,e2]
  · rw [List.getElem?_eq_none (by rw [List.length_take];omega),List.getElem?_eq_none (by omega)]
 have key:∀n,n≤len→(cs.toList.drop off).take (n*sz)=((List.range n).map C).flatten:=by
  intro n
  induction n with
  | zero=>intro _;simp
  | succ n ih=>
    intro hn
    rw [Nat.succ_mul,List.take_add,ih (by omega),List.range_succ,List.map_append,List.flatten_append,List.drop_drop]
    simp only [List.map_cons,List.map_nil,List.flatten_cons,List.flatten_nil,List.append_nil]
    rw [hrow n (by omega)]
 have hl:((List.range len).map E).length=len:=by simp
 have:=VRel.lsl (ρ:=ρ0 w) ((List.range len).map E) ((List.range len).map C) b off cap sz cs.toList ((cs.toList.drop off).drop (len*sz)) (by show bU w b=_;unfold bU;rw [hw])
  (VssRel.map fun i hi=>hE i (by simpa using hi)) (by rw [←key len (Nat.le_refl _),List.take_append_drop]) (by simp;omega)
  (fun u hu=>by obtain⟨i,hi,rfl⟩:=List.mem_map.1 hu;exact(hc i (by simpa using hi)).1) (by rw [hl];exact hcap)
 rw [hl]at this
 exact this
end Go.Ev
namespace Go.Ev
open Go.ChangeShapes Go.WideShapes Go.ChangeAt Go.RowKit Go.Lib Go.Joins Go.Deep
inductive Kd where
 | i (k:IntKind)
 | b
 | s
 | l (ks:List Kd)
def jZ (P:Program) (f:TypeId→Option (List Kd)):List Field→Nat→Option (List Kd)
 | [],_=>some []
 | x::fs,o=>match f x.type,jZ P f fs (o+P.cellsOf x.type)with
   | some a,some b=>bif Nat.beq x.offset o&&Nat.beq a.length (P.cellsOf x.type)then some (a++b)else none
   | _,_=>none
def kdRep (ks:List Kd):Nat→List Kd
 | 0=>[]
 | n+1=>ks++kdRep ks n
def kdT (P:Program):Nat→TypeId→Option (List Kd)
 | 0,_=>none
 | n + 1,t=>match P.underlying t with
   | some .bool=>some [.b]
   | some (.int k)=>some [.i k]
   | some .string=>some [.s]
   | some (.struct fs)=>match jZ P (kdT P n) fs.toList 0 with
     | some ks=>bif Nat.beq ks.length (P.cellsOf t)then some ks else none
     | none=>none
   | some (.array m e)=>match kdT P n e with
     | some ks=>bif Nat.beq ks.length (P.cellsOf e)&&Nat.beq (m*ks.length) (P.cellsOf t)then some (kdRep ks m)else none
     | none=>none
   | some (.slice e)=>match kdT P n e with
     | some ks=>bif Nat.beq ks.length (P.cellsOf e)&&Nat.blt 0 ks.length then some [.l ks]else none
     | none=>none
   | _=>none
mutual
inductive xQ:Kd→EVal→Prop
 | i (k:IntKind) (n:Int) (h:(Lit.int k n).wf=true):xQ (.i k) (.int k n)
 | b (b:Bool):xQ .b (.bool b)
 | s (s:ByteArray) (h:s.size≤maxLen):xQ .s (.str (s.data.toList.map UInt8.toNat))
 | l (ks:List Kd) (rows:List (List EVal)) (hl:rows.length≤maxLen) (h:SuitR ks rows):xQ (.l ks) (.lsl rows)
inductive Suits:List Kd→List EVal→Prop
 | nil:Suits [] []
 | cons (k:Kd) (ks:List Kd) (e:EVal) (es:List EVal) (h:xQ k e) (hs:Suits ks es):Suits (k::ks) (e::es)
inductive SuitR:List Kd→List (List EVal)→Prop
 | nil (ks:List Kd):SuitR ks []
 | cons (ks:List Kd) (r:List EVal) (rs:List (List EVal)) (h:Suits ks r) (hs:SuitR ks rs):SuitR ks (r::rs)
end
theorem Suits.append {a b:List Kd}{x y:List EVal}(h:Suits a x) (h2:Suits b y):Suits (a++b) (x++y):=by
 induction a generalizing x with
 | nil=>cases h;exact h2
 | cons k ks ih=>cases h with|cons _ _ e es h hs=>exact .cons _ _ _ _ h (ih hs)
theorem SuitR.range {ks:List Kd}{E:Nat→List EVal}:∀ {l:List Nat},(∀i∈l,Suits ks (E i))→SuitR ks (l.map E)
 | [],_=>.nil _
 | i::l,h=>.cons _ _ _ (h i List.mem_cons_self) (SuitR.range fun j hj=>h j (List.mem_cons_of_mem _ hj))
section
variable {H:Type}{enc:TypeId×Value→H}{P:Program}{w:World}
theorem iR {f:TypeId→Option (List Kd)}{tr:TypeId→List Value→Option (DataW H×List MemPlace)}{cs:List Value}
  (hf:∀t ks c p,f t=some ks→tr t c=some p→∃es,VsRel (ρ0 w) es c∧Suits ks es):∀ {fs:List Field} {xs:List (DataW H×List MemPlace)} {o:Nat} {ks:List Kd},
  jZ P f fs o=some ks→xs.length=fs.length→(∀(i:Nat) (x:Field),fs[i]? = some x→tr x.type ((cs.drop x.offset).take (P.cellsOf x.type))=xs[i]?)→∃es,VsRel (ρ0 w) es ((cs.drop o).take ks.length)∧Suits ks es
 | [],xs,o,ks,h,_,_=>by
   simp only [jZ,Oi]at h;subst h
   exact⟨[],by simpa using VsRel.nil,.nil⟩
 | x::fs,[],o,ks,h,hl,_=>by simp at hl
 | x :: fs,y::ys,o,ks,h,hl,ht=>by
   simp only [jZ]at h
   split at h
   · rename_i a b ha hb
     simp only [Bool.cond_eq_ite]at h
     split at h
     · rename_i hx
       simp only [Bool.and_eq_true,Nat.beq_eq]at hx
       simp only [Oi]at h;subst h
       obtain⟨hxo,hal⟩:=hx
       have h0:=ht 0 x rfl
       rw [hxo]at h0
       obtain⟨e1,r1,f1⟩:=hf _ _ _ y ha (by rw [h0];rfl)
       obtain⟨e2,r2,f2⟩:=iR hf hb (by simpa using hl) (fun i z hz=>ht (i+1) z (by simpa using hz))
       refine⟨e1++e2,?_,f1.append f2⟩
       rw [List.length_append,List.take_add,List.drop_drop,hal]
       exact r1.append r2
     · cases h
   · cases h
theorem nR {tr:List Value→Option (DataW H×List MemPlace)}{c:Nat}{cs:List Value}{ks:List Kd}(hc:ks.length=c)
  (hf:∀u p,tr u=some p→∃es,VsRel (ρ0 w) es u∧Suits ks es) {xs:List (DataW H×List MemPlace)}:∀ {m k:Nat},k+m≤xs.length→(∀(i:Nat),i<xs.length→tr ((cs.drop (i*c)).take c)=xs[i]?)→∃es,VsRel (ρ0 w) es ((cs.drop (k*c)).take (m*c))∧Suits (kdRep ks m) es
 | 0,k,_,_=>⟨[],by simpa using VsRel.nil,.nil⟩
 | m+1,k,hk,ht=>by
   have h0:=ht k (by omega)
   obtain⟨e1,r1,f1⟩:=hf _ _ (by rw [h0];exact List.getElem?_eq_getElem (show k<xs.length by omega))
   obtain⟨e2,r2,f2⟩:=nR hc hf (m:=m) (k:=k+1) (by omega) ht
   refine⟨e1++e2,?_,f1.append f2⟩
   rw [show(m+1)*c=c+m*c by rw [Nat.succ_mul];omega,List.take_add,List.drop_drop,show k*c+c=(k+1)*c by rw [Nat.succ_mul]]
   exact r1.append r2
theorem aqA : ∀(n:Nat) {m:Nat}{t:TypeId}{cs:List Value}{x:DataW H×List MemPlace}{ks:List Kd},kdT P n t=some ks→DataW.trod enc P w 0 (fun _=>true) true m t cs=some x→∃es,VsRel (ρ0 w) es cs∧Suits ks es
 | 0,_,_,_,_,_,h,_=>by cases h
 | n + 1, m, t,cs,x,ks,h,ht=>by
   simp only [kdT]at h
   split at h
   · rename_i hu
     simp only [Oi]at h;subst h
     obtain⟨b,rfl,_⟩:=DataW.trod_bool hu ht
     exact⟨_,.cons _ _ _ _ (.bool b) .nil,.cons _ _ _ _ (.b _) .nil⟩
   · rename_i k hu
     simp only [Oi]at h;subst h
     obtain⟨z,rfl,_,hw⟩:=DataW.trod_int hu ht
     exact⟨_,.cons _ _ _ _ (.int k z) .nil,.cons _ _ _ _ (.i _ _ hw) .nil⟩
   · rename_i hu
     simp only [Oi]at h;subst h
     obtain⟨s,rfl,_,hs⟩:=DataW.trod_string hu ht
     exact⟨_,.cons _ _ _ _ (.str _ s rfl) .nil,.cons _ _ _ _ (.s s hs) .nil⟩
   · rename_i fs hu
     split at h
     · rename_i ks' hk
       simp only [Bool.cond_eq_ite]at h
       split at h
       · rename_i hl
         simp only [Nat.beq_eq]at hl
         simp only [Oi]at h;subst h
         obtain⟨xs,m',_,_,hcl,hxl,hxs⟩:=DataW.trod_struct hu ht
         obtain⟨es,r,f⟩:=iR (tr:=fun t c=>DataW.trod enc P w 0 (fun _=>true) true m' t c) (cs:=cs) (fun t ks c p h1 h2=>aqA n h1 h2) hk (by simpa using hxl) (fun i x hx=>hxs i x (by rw [←Array.getElem?_toList];exact hx))
         rw [List.drop_zero,hl,←hcl,List.take_length]at r
         exact⟨es,r,f⟩
       · cases h
     · cases h
   · rename_i k e hu
     split at h
     · rename_i ks' hk
       simp only [Bool.cond_eq_ite]at h
       split at h
       · rename_i hl
         simp only [Bool.and_eq_true,Nat.beq_eq]at hl
         simp only [Oi]at h;subst h
         obtain⟨xs,m',_,_,hcl,hxl,hxs⟩:=DataW.trod_array hu ht
         obtain⟨es,r,f⟩:=nR (tr:=fun c=>DataW.trod enc P w 0 (fun _=>true) true m' e c) (cs:=cs) (ks:=ks') hl.1 (fun u p h2=>aqA n hk h2) (xs:=xs) (m:=k) (k:=0) (by omega) (fun i hi=>hxs i (by omega))
         rw [Nat.zero_mul,List.drop_zero,←hl.1,hl.2,←hcl,List.take_length]at r
         exact⟨es,r,f⟩
       · cases h
     · cases h
   · rename_i e hu
     split at h
     · rename_i ks' hk
       simp only [Bool.cond_eq_ite]at h
       split at h
       · rename_i hl
         simp only [Bool.and_eq_true,Nat.beq_eq,Nat.blt_eq]at hl
         simp only [Oi]at h;subst h
         rcases open_slice hu ht with⟨hcs,_⟩ | ⟨a,len,cap,m',n',D,Pl,hcs,_,hlc,hcm,hmm,_,hx⟩
         · subst hcs
           exact⟨[.lsl []],.cons _ _ _ _ .lsln .nil,.cons _ _ _ _ (.l _ _ (Nat.zero_le _) (.nil _)) .nil⟩
         · subst hcs
           have hle:len≤m':=by rw [hmm];simp;omega
           obtain⟨C,hC⟩:=choose_lt (α:=List Value) (n:=len) (p:=fun i cs=>w.cells? 0 (a.add (i*P.cellsOf e)) (P.cellsOf e)=some cs∧∃es,VsRel (ρ0 w) es cs∧Suits ks' es) (fun i hi=>by
            obtain⟨cs',h1,h2⟩:=hx i (by omega)
            exact⟨cs',h1,aqA n hk h2⟩)
           obtain⟨V,hV⟩:=choose_lt (α:=List EVal) (n:=len) (p:=fun i es=>VsRel (ρ0 w) es (C i)∧Suits ks' es) (fun i hi=>(hC i hi).2)
           refine⟨[.lsl ((List.range len).map V)],.cons _ _ _ _ (VRel.rows hlc (by omega) V C (fun i hi=>(hC i hi).1) (fun i hi=>(hV i hi).1)) .nil,.cons _ _ _ _ (.l _ _ (by simp;omega) (SuitR.range fun i hi=>(hV i (by simpa using hi)).2)) .nil⟩
       · cases h
     · cases h
   · cases h
theorem aj3 {r:Reach}{b0 n:Nat}{t:TypeId}{v:Value}{d:DataW H}{p:List MemPlace}{ks:List Kd}(hk:kdT P n t=some ks) (ht:(match P.underlying t with|some (.struct _)=>true|some (.array _ _)=>true|_=>false)=true)
  (hv:Value.okWide P w r b0 t v) (h:DataW.Trod enc P w 0 (fun _=>true) true t v d p):∃es,VRel (ρ0 w) (.agg es) v∧Suits ks es:=by
 obtain⟨cs,rfl⟩:∃cs,v=.agg cs:=by
  unfold Value.okWide at hv
  split at hv
  · obtain⟨cs,rfl,_⟩:=hv;exact⟨cs,rfl⟩
  · obtain⟨cs,rfl,_⟩:=hv;exact⟨cs,rfl⟩
  · rename_i h1 h2
    split at ht
    · rename_i fs hu;exact absurd hu (h1 _)
    · rename_i k e hu;exact absurd hu (h2 _ _)
    · cases ht
 obtain⟨fuel,hf⟩:=h
 obtain⟨es,h1,h2⟩:=aqA n hk hf
 exact⟨es,.agg _ _ h1,h2⟩
theorem aj2 {r:Reach}{b0 n:Nat}{t:TypeId}{v:Value}{d:DataW H}{p:List MemPlace}{k:Kd}(hk:kdT P n t=some [k]) (ht:(match P.underlying t with|some (.int _)=>true|some .string=>true|some .bool=>true|some (.slice _)=>true|_=>false)=true)
  (hv:Value.okWide P w r b0 t v) (h:DataW.Trod enc P w 0 (fun _=>true) true t v d p):∃e,VRel (ρ0 w) e v∧xQ k e:=by
 have hc:v.cells.toList=[v]:=by
  split at ht
  · rename_i q hu;obtain⟨n,rfl⟩:=okWide_int hu hv;rfl
  · rename_i hu
    obtain⟨fuel,hf⟩:=h
    obtain⟨s,hs,_⟩:=DataW.trod_string hu hf
    unfold Value.okWide at hv
    rw [hu]at hv
    cases v<;>first|rfl|(simp [Cell.okWide,Cell.ok,hu]at hv)
  · rename_i hu
    unfold Value.okWide at hv
    rw [hu]at hv
    cases v<;>first|rfl|(simp [Cell.okWide,Cell.ok,hu]at hv)
  · rename_i e hu;obtain⟨a,len,cap,rfl⟩:=okWide_slice hu hv;rfl
  · cases ht
 obtain⟨fuel,hf⟩:=h
 rw [hc]at hf
 obtain⟨es,h1,h2⟩:=aqA n hk hf
 cases h2 with
 | cons _ _ e es h hs=>
   cases hs
   cases h1 with
   | cons _ _ _ _ r rs=>exact⟨e,r,h⟩
end
noncomputable section
def KC {α:Type}(A:Cod α) (k:Kd):Prop:=∀e,xQ k e→∃x,e=(A.v x).c
def KR {α:Type}(A:Row α) (ks:List Kd):Prop:=∀es,Suits ks es→∃x,es=V.cs (A.v x)
theorem KC.int (k:IntKind):KC (cInt k) (.i k):=fun e h=>by cases h with|i _ n _=>exact⟨n,rfl⟩
theorem KC.str:KC cS .s:=fun e h=>by cases h with|s x _=>exact⟨_,rfl⟩
theorem KR.nil:KR Row.nil []:=fun es h=>by cases h;exact⟨(),rfl⟩
theorem KR.cons {α β:Type}{A:Cod α}{B:Row β}{k:Kd}{ks:List Kd}(h1:KC A k) (h2:KR B ks):KR (Row.cons A B) (k::ks):=fun es h=>by
 cases h with
 | cons _ _ e es h hs=>
   obtain⟨x,rfl⟩:=h1 _ h
   obtain⟨y,rfl⟩:=h2 _ hs
   exact⟨(x,y),rfl⟩
theorem KR.iso {α β:Type}{A:Row α}{to:α→β}{of:β→α}{g1:∀y,to (of y)=y} {g2:∀x,of (to x)=x} {ks:List Kd}(h:KR A ks):KR (Row.iso A to of g1 g2) ks:=fun es he=>by
 obtain⟨x,rfl⟩:=h _ he
 exact⟨to x,by show _=V.cs (A.v (of (to x)));rw [g2]⟩
theorem KC.list {α:Type}{d:α}{A:Row α}{hk:A.kb=true} {ks:List Kd}(h:KR A ks):KC (Cod.list d A hk) (.l ks):=fun e he=>by
 cases he with
 | l _ rows hl hr=>
   have : ∃l:List α,rows=l.map fun x=>V.cs (A.v x):=by
    clear hk hl
    induction rows with
    | nil=>exact⟨[],rfl⟩
    | cons r rs ih=>
      cases hr with
      | cons _ _ _ h1 hs=>
        obtain⟨x,rfl⟩:=h _ h1
        obtain⟨l,rfl⟩:=ih hs
        exact⟨x::l,rfl⟩
   obtain⟨l,rfl⟩:=this
   exact⟨l,(Cod.list d A hk).inv _ _ (A.es_rt l)⟩
end
end Go.Ev
namespace Go.Ev
open Go.ChangeShapes Go.WideShapes Go.ChangeAt Go.RowKit Go.Lib Go.Joins Go.Deep
section
variable {H:Type}{enc:TypeId×Value→H}{P:Program}
theorem qM {f:Func}{s:ChangeSpec}{apart fresh handsOn again:Bool}{W W':World}{args:Array Value}{v:Value}{ds gs:List (DataW H)}{before pa pv:List MemPlace}
  (hW:DataW.Whole enc P f.params.toList s.vars apart W args.toList ds gs before)
  (hres:∀(b:Nat) (sp:Nat→Bool) (hd:Bool),DataW.TrodAll enc P W' b sp hd f.resultTypes.toList (v.resultList f.resultTypes.size) (s.fn H (ds++gs)).results [])
  (hargs:∀sp:Nat→Bool,(∀p∈before,sp p.block=true)→DataW.TrodAll enc P W' 0 sp true f.params.toList args.toList (s.fn H (ds++gs)).args pa)
  (hvars:∀sp:Nat→Bool,(∀p∈before,sp p.block=true)→DataW.TrodVars enc P W' sp s.vars (s.fn H (ds++gs)).vars pv)
  (hps:before=pa++pv) (hb:Below W.heap.size W W')
  (hok:∀(j:Nat) (t:TypeId) (r:Value),f.resultTypes[j]? = some t→(v.resultList f.resultTypes.size)[j]? = some r→Value.okWide P W' .any 0 t r) :
  s.post enc P f apart fresh handsOn again W args v W':=by
 have hlt:∀p∈before,p.block<W.heap.size:=fun p hp=>hW.lt p hp
 have hold:∀p∈before,(fun b=>decide (b<W.heap.size)) p.block=true:=fun p hp=>by simpa using hlt p hp
 refine⟨ds,gs,before,[],pa,pv,hW,hres _ _ _,hargs _ hold,hvars _ hold,World.keptBut_mono (fun p hp=>⟨hp,?_⟩) (hb.frame (·∈before)),fun _=>?_⟩
 · rw [hps,List.mem_append]at hp
   exact Or.inr hp
 · obtain ⟨_,_,_,_,_,hz,hn⟩:=hW
   refine⟨hok,_,_,([]++pa)++pv,⟨[]++pa,pv,trodAll_append (hargs _ (fun _ _=>rfl)) (hres _ _ _),hvars _ (fun _ _=>rfl),rfl,?_,?_⟩,?_⟩
   · intro b off hp
     have hin:MemPlace.cell b off∈before:=by rw [hps];simpa using hp
     rw [hb.frozen (hlt _ hin)]
     exact hz b off hin
   · intro ha
     have:=hn ha
     rw [hps]at this
     simpa using this
   · intro p hp _
     rw [hps]
     simpa using hp
end
theorem gQ {P:Program}{x:String×DataW Unit}{l:List (String×DataW Unit)}{W:World}(h:laidMet P (x::l) W):laidMet P l W:=by
 obtain⟨n,d⟩:=x
 obtain⟨ps,⟨g,t,cs,fuel,p,q,_,_,_,_,hr,rfl⟩,hn,hb⟩:=h
 exact⟨q,hr,(List.nodup_append.1 hn).2.1,fun b off hm=>hb b off (List.mem_append_right _ hm)⟩
def layV:Nat→DataW Unit→List Value
 | 0,_=>[]
 | n+1,d=>match d with
   | .lit (.bool b)=>[.bool b]
   | .lit (.int k m)=>[.int k m]
   | .lit (.string l)=>[.string ⟨l.toArray⟩]
   | .agg ds=>(ds.map (layV n)).flatten
   | _=>[]
def layH:List (Nat×DataW Unit)→Array Obj→Array Obj
 | [],h=>h
 | (g,d)::l,h=>layH l (h.modify g fun
   | .cells _ t frozen=>.cells (layV 9 d).toArray t frozen
   | o=>o)
end Go.Ev
