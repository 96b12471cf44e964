import Derived.Test.YtfhbflaighfmpaaGreatDoorEvC
import Derived.OpenShut
import Derived.Deep.Slices
import Derived.WalkKit
import Derived.ProofKit
import Derived.Deep.DeepHandedRow
import Derived.Lib.LaidTab
import Derived.Lib.SmallJoins
import Derived.ChangeMaps5
set_option linter.unusedSimpArgs false
set_option linter.unusedVariables false
namespace Go.Ev
open Go.RowKit
noncomputable section
variable {P:Program}{sz:Nat}{d d1:D}{f:EFr}{h:H}{sh:List (List (Nat×V))}
theorem fV {α:Type}{l:List (Nat×α)}{i j:Nat}{v:α}:lookA ((j,v)::l) i=bif Nat.beq j i then some v else lookA l i:=rfl
theorem View.slotsD {A:Option Nat}{n:Nat}{l:List (Nat×EVal)}{ds:List Nat}{r:Option Nat}(hn:f.sz=n) (hd:f.defers=ds) (hr:f.round=r)
  (hv:∀p∈l,f.tmps.get p.1=some p.2):View A P f h (mkD n l ds r) h:=fun B0 W0 b t d ρ w F R=>by
 refine⟨ρ,Loc.leA_refl,⟨by rw [F.size,hn];rfl,fun i e he=>F.tmps i e (hv _ (jE he)),?_,?_⟩,R⟩;· have:=F.defers;rw [hd]at this;exact this
 · have:=F.round;rw [hr]at this;exact this
theorem yN {A:Option Nat}(F:Fits sh P sz d f h) {ks:List Nat}{fr1:List (Nat×Option V)}(hk:vK d.fr.l ks=some fr1) :
  View A P f h (mkD sz (frC d.tk fr1) d.fr.ds d.fr.rd) h∧Exact sh P sz { d with fr:=⟨fr1,d.fr.ds,d.fr.rd,d.fr.sh⟩ } (mkD sz (frC d.tk fr1) d.fr.ds d.fr.rd) h:=by
 refine⟨View.slotsD F.sz F.defers F.round fun p hp=>?_,⟨rfl,F.sh,F.heap,fun p hp=>?_,F.lens⟩⟩;· simp only [frC,List.mem_map]at hp;obtain⟨q,hq,rfl⟩:=hp;obtain⟨h1,v,h2,h3⟩:=dG hk q hq;simp only [h2,Option.getD_some];exact F.tmps _ _ h1 h3
 · obtain ⟨h1,v,h2,h3⟩:=dG hk p hp;exact⟨h1,v,h2,F.inr _ _ h3⟩
theorem ajk {m:Nat}{x:List (List V)×TypeId}{tk}:∀ {fr:List (Nat×Option V)},noGl m fr=true→frC ((m,x)::tk) fr=frC tk fr
 | [],_=>rfl| (i, v)::l,h=>by
   simp only [noGl]at h;have step:noGl m l=true→∀u:V,v=some u→(u.ct ((m,x)::tk)=u.ct tk)→frC ((m,x)::tk) ((i,v)::l)=frC tk ((i,v)::l):=by intro h1 u hu h2;have ih:=ajk (x:=x) (tk:=tk) h1;unfold frC at ih ⊢;rw [List.map_cons,List.map_cons,ih,hu];simp only [Option.getD_some,h2]
   split at h
   · rename_i j;cases hb:Nat.beq j m with
     | true=>rw [hb]at h;cases h| false=>
       rw [hb]at h;refine step h _ rfl ?_;have hb2:Nat.beq m j=false:=by
        cases hq:Nat.beq m j;· rfl
        · rw [Nat.eq_of_beq_eq_true hq,Nat.beq_refl]at hb;cases hb
       simp only [V.ct,fV,hb2,cond_false]
   · rename_i u hn;refine step h _ rfl ?_;cases u with
     | gl j=>exact absurd rfl (hn j)| _=>rfl
   · cases h
theorem lA {A:Option Nat}:∀ {l:List (Nat×TypeId)}{d d1:D}{f:EFr}{h:H},Exact sh P sz d f h→rA d l=some d1→∃f1 h1,View A P f h f1 h1∧Exact sh P sz d1 f1 h1
 | [],d,d1,f,h,E,hk=>by simp only [rA,Oi]at hk;subst hk;exact⟨f,h,View.refl,E⟩
 | (i, e) :: l,d,d1,f,h,E,hk=>by
   simp only [rA]at hk;cases h20:Nat.ble 2000 i with
   | true =>
     rw [h20]at hk;simp only [cond_true]at hk;cases h21:Nat.blt i 3000 with
     | true =>
       rw [h21]at hk;simp only [cond_true]at hk;obtain⟨hc,hk⟩:=aA hk;simp only [Bool.and_eq_true,Nat.blt_eq]at hc;obtain⟨⟨c1,c2⟩,c3⟩:=hc;have c1:=Nat.eq_of_beq_eq_true c1;obtain⟨rfl,hsh,rfl,ha,hl⟩:=E;generalize i-2000=j at hk c1 c2 c3;have hv:View A P (mkD sz (frC d.tk d.fr.l) d.fr.ds d.fr.rd) d.H (mkD sz (frC d.tk d.fr.l) d.fr.ds d.fr.rd) (mkH d.n (d.hp.map fun p=>(p.1,p.2.map DObj.o)) (j+1+1099511627776) ((j,some (0,e))::(d.tk.map fun p=>(p.1,some (vF p.2))))):=by have:=View.spare (A:=A) (P:=P) (f:=mkD sz (frC d.tk d.fr.l) d.fr.ds d.fr.rd) (n:=d.n) (l:=d.hp.map fun p=>(p.1,p.2.map DObj.o)) (k:=d.tk.map fun p=>(p.1,some (vF p.2))) e (m:=d.m) (by omega);rw [c1]at this;exact this
       have E2:Exact sh P sz { d with m:=j+1+1099511627776,tk:=(j,([],e))::d.tk } (mkD sz (frC d.tk d.fr.l) d.fr.ds d.fr.rd) (mkH d.n (d.hp.map fun p=>(p.1,p.2.map DObj.o)) (j+1+1099511627776) ((j,some (0,e))::(d.tk.map fun p=>(p.1,some (vF p.2))))):=by
        refine⟨?_,hsh,rfl,ha,fun id els e2 s h2 hs=>?_⟩;· rw [show frC ((j,([],e))::d.tk) d.fr.l=frC d.tk d.fr.l from ajk c3]
        · simp only [fV]at h2;cases hb:Nat.beq j id with
          | true=>rw [hb]at h2;simp only [cond_true,Oi,Prod.mk.injEq]at h2;obtain⟨rfl,rfl⟩:=h2;rw [V.css];rfl| false=>rw [hb]at h2;exact hl _ _ _ _ h2 hs
       obtain⟨f1,h1,v1,E1⟩:=lA E2 hk;exact⟨f1,h1,View.trans hv v1,E1⟩
     | false=>rw [h21]at hk;simp only [cond_false]at hk;obtain⟨c1,hk⟩:=aA hk;have c1:=Nat.eq_of_beq_eq_true c1;obtain⟨rfl,hsh,rfl,ha,hl⟩:=E;generalize i-3000=j at hk c1;have hv:View A P (mkD sz (frC d.tk d.fr.l) d.fr.ds d.fr.rd) d.H (mkD sz (frC d.tk d.fr.l) d.fr.ds d.fr.rd) (mkH d.n (d.hp.map fun p=>(p.1,p.2.map DObj.o)) j (d.tk.map fun p=>(p.1,some (vF p.2)))):=View.mode0 _ (by omega);obtain⟨f1,h1,v1,E1⟩:=lA (d:={ d with m:=j }) ⟨rfl,hsh,rfl,ha,hl⟩ hk;exact⟨f1,h1,View.trans hv v1,E1⟩
   | false=>
   rw [h20,cond_false]at hk;split at hk
   · rename_i hi;obtain⟨hc,hk⟩:=aA hk;simp only [Bool.and_eq_true,Nat.blt_eq]at hc;obtain⟨⟨c1,c2⟩,c3⟩:=hc;obtain⟨rfl,hsh,rfl,ha,hl⟩:=E;have hv:View A P (mkD sz (frC d.tk d.fr.l) d.fr.ds d.fr.rd) d.H (mkD sz ((i,.gsl d.m [])::frC d.tk d.fr.l) d.fr.ds d.fr.rd) (mkH d.n (d.hp.map fun p=>(p.1,p.2.map DObj.o)) (d.m+1) ((d.m,some (0,e))::(d.tk.map fun p=>(p.1,some (vF p.2))))):=View.growD i e c1 c2 (by rw [jH,hi];simp only [Option.map_some,Option.getD_some,V.ct,V.c])
     let d2:D:={ d with fr:=⟨(i,some (.gl d.m))::d.fr.l,d.fr.ds,d.fr.rd,d.fr.sh⟩,m:=d.m+1,tk:=(d.m,([],e))::d.tk }
     have E2:Exact sh P sz d2 (mkD sz ((i,.gsl d.m [])::frC d.tk d.fr.l) d.fr.ds d.fr.rd) (mkH d.n (d.hp.map fun p=>(p.1,p.2.map DObj.o)) (d.m+1) ((d.m,some (0,e))::(d.tk.map fun p=>(p.1,some (vF p.2))))):=by
      refine⟨?_,hsh,rfl,fun p hp=>?_,fun id els e2 s h2 hs=>?_⟩
      · have e1:frC d2.tk d2.fr.l=(i,(V.gl d.m).ct d2.tk)::frC d2.tk d.fr.l:=rfl;rw [e1,show frC d2.tk d.fr.l=frC d.tk d.fr.l from ajk c3];have e2:(V.gl d.m).ct d2.tk=.gsl d.m []:=by simp only [V.ct,d2,fV,Nat.beq_refl,cond_true,V.css]
        rw [e2]
      · rcases List.mem_cons.1 hp with rfl|hp;· exact⟨c1,_,rfl,trivial⟩
        · exact ha p hp
      · simp only [d2,fV]at h2;cases hb:Nat.beq d.m id with
        | true=>rw [hb]at h2;simp only [cond_true,Oi,Prod.mk.injEq]at h2;obtain⟨rfl,rfl⟩:=h2;rw [V.css];rfl| false=>rw [hb]at h2;exact hl _ _ _ _ h2 hs
     obtain⟨f1,h1,v1,E1⟩:=lA E2 hk;exact⟨f1,h1,View.trans hv v1,E1⟩
   · exact lA E hk
   · cases hk
theorem bq8 (F:Fits sh P sz d f h) {v u:V}(hk:untok d v=some u) {ρ:Loc}{x:Value}(hv:VRel ρ (v.ct d.tk) x):VRel ρ u.c x∧u.plain=true∧u.inr:=by
 unfold untok at hk;split at hk
 · rename_i id;split at hk
   · rename_i y hy;simp only [Oi]at hk;subst hk;have hlk:lookA d.tk id=some y:=by
      unfold D.tok at hy;cases hb:Nat.blt id 250 with
      | false=>rw [hb]at hy;cases hy| true=>rw [hb]at hy;exact hy
     simp only [V.ct,hlk]at hv;exact⟨by rw [V.c];exact hv.unG,rfl,trivial⟩
   · cases hk
 · simp only [Oi]at hk;subst hk;simp only [V.ct,V.c]at hv;cases hv;exact⟨by rw [V.c,V.css];exact .lsln,rfl,trivial⟩
 · simp only [Oi]at hk;subst hk;rw [V.ct_plain rfl]at hv;exact⟨hv,rfl,trivial⟩
 · simp only [Oi]at hk;subst hk;rw [V.ct_plain rfl]at hv;exact⟨hv,rfl,trivial⟩
 · simp only [Oi]at hk;subst hk;simp only [V.ct,V.c]at hv;cases hv with
   | zsl p=>exact⟨by rw [V.c,V.css];exact .lsl0 p 0,rfl,trivial⟩
 · cases hk
theorem aqL {R:Type}{r:R}{A:Option Nat}:∀ {l:List (Nat×Rt)}{d:D}{f:EFr}{kk:D→Option R},Fits sh P sz d f h→retell l d kk=some r→∃d2 f2,View A P f h f2 h∧Fits sh P sz d2 f2 h∧kk d2=some r
 | [],d,f,kk,F,hk=>⟨d,f,View.refl,F,hk⟩| (i, t)::l,d,f,kk,F,hk=>by
   simp only [retell]at hk;split at hk;rotate_left;· cases hk
   rename_i v hv;split at hk;rotate_left;· cases hk
   rename_i u hu;obtain⟨hi,hk⟩:=aA hk;obtain⟨hok,hk⟩:=aA hk;rw [Nat.blt_eq]at hi;obtain⟨e1,e2,e3⟩:=t.h u hok;have hget:=F.tmps i v hi hv;have hv1:View A P f h ⟨f.sz,f.tmps.set i (some (t.to u).c),f.defers,f.round⟩ h:=fun B0 W0 b tt dd ρ w FF R=>by
    refine⟨ρ,Loc.leA_refl,⟨FF.size,fun j e hj=>?_,FF.defers,FF.round⟩,R⟩;rcases T.get_set _ _ _ _ hj with⟨hji,hq⟩ | ⟨_,hq⟩;· simp only [Oi]at hq;subst hji;rw [←hq,←e1];exact(bq8 F hu (FF.tmps _ _ hget)).1
    · exact FF.tmps j e hq
   have F2:Fits sh P sz { d with fr:=⟨(i,some (t.to u))::d.fr.l,d.fr.ds,d.fr.rd,d.fr.sh⟩ } ⟨f.sz,f.tmps.set i (some (t.to u).c),f.defers,f.round⟩ h:=by
    refine⟨F.sz,F.defers,F.round,fun j hj=>(T.has_set _ _ _ _).2 (F.has j hj),fun j w hj hw=>?_,fun j w hw=>?_,F.sh,F.heap,F.lens⟩
    · show (f.tmps.set i (some (t.to u).c)).get j=_;simp only [lookA]at hw;cases hb:Nat.beq i j with
      | true=>rw [hb]at hw;simp only [cond_true,Oi]at hw;subst hw;obtain rfl:=Nat.eq_of_beq_eq_true hb;rw [T.get_set_same _ _ _ (F.has i hi),V.ct_plain e2]| false=>rw [hb]at hw;simp only [cond_false]at hw;rw [T.get_set_ne _ _ _ _ (fun e=>by rw [e,Nat.beq_refl]at hb;cases hb)];exact F.tmps j w hj hw
    · simp only [lookA]at hw;cases hb:Nat.beq i j with
      | true=>rw [hb]at hw;simp only [cond_true,Oi]at hw;subst hw;exact e3| false=>rw [hb]at hw;exact F.inr j w hw
   obtain⟨d3,f3,v3,F3,k3⟩:=aqL F2 hk;exact⟨d3,f3,View.trans hv1 v3,F3,k3⟩
theorem xA {N:Nat}:∀ {l:List (Nat×Option V)},azc N l=true→∀p∈l,∃v,p.2=some v∧c9 N v=true
 | [],_,p,hp=>by cases hp
 | (i,none)::l,h,p,hp=>by cases h
 | (i, some v)::l,h,p,hp=>by
   simp only [azc]at h;cases hv:c9 N v with
   | false=>rw [hv]at h;cases h| true=>
     rw [hv]at h;rcases List.mem_cons.1 hp with rfl|hp;· exact⟨v,rfl,hv⟩
     · exact xA h p hp
theorem aq1 {N:Nat}:∀ {l:List Nat}{m:List (Nat×Option DObj)},aw9 d N l=some m→∀p∈m,p.1<16000∧p.1<N∧∃r,p.2=some r∧d.obj p.1=some r∧D.belowO N r=true
 | [],m,h,p,hp=>by simp only [aw9,Oi]at h;subst h;cases hp
 | i :: l, m,h,p,hp=>by
   simp only [aw9]at h;obtain⟨hc,h⟩:=aA h;rw [Nat.blt_eq]at hc;split at h
   · rename_i r hr;obtain⟨hb,h⟩:=aA h;split at h
     · rename_i m' hm;simp only [Oi]at h;subst h;rcases List.mem_cons.1 hp with rfl|hp
       · refine ⟨?_,hc,r,rfl,hr,hb⟩;unfold D.obj at hr;cases hq:Nat.blt i 16000 with
         | false=>rw [hq]at hr;cases hr| true=>rw [Nat.blt_eq]at hq;exact hq
       · exact aq1 hm p hp
     · cases h
   · cases h
theorem fB:∀ {l:List Nat}{m:List (Nat×(List (List V)×TypeId))},ajw d l=some m→∀p∈m,p.1<250∧lookA d.tk p.1=some p.2
 | [],m,h,p,hp=>by simp only [ajw,Oi]at h;subst h;cases hp
 | i :: l, m,h,p,hp=>by
   simp only [ajw]at h;split at h
   · rename_i x hx;split at h
     · rename_i m' hm;simp only [Oi]at h;subst h;rcases List.mem_cons.1 hp with rfl|hp
       · unfold D.tok at hx;cases hq:Nat.blt i 250 with
         | false=>rw [hq]at hx;cases hx| true=>rw [hq]at hx;rw [Nat.blt_eq]at hq;exact⟨hq,hx⟩
       · exact fB hm p hp
     · cases h
   · cases h
theorem yM {tk tk2:List (Nat×(List (List V)×TypeId))}(hs:∀p∈tk2,lookA tk p.1=some p.2):∀ {fr:List (Nat×Option V)},aq0 tk2 fr=true→frC tk2 fr=frC tk fr
 | [],_=>rfl| (i, v)::l,h=>by
   have step:aq0 tk2 l=true→((v.getD j0).ct tk2=(v.getD j0).ct tk)→frC tk2 ((i,v)::l)=frC tk ((i,v)::l):=by intro h1 h2;have ih:=yM hs h1;unfold frC at ih ⊢;rw [List.map_cons,List.map_cons,ih];simp only [h2]
   unfold aq0 at h;split at h;· rename_i heq;cases heq
   · rename_i i' j l' heq;simp only [List.cons.injEq,Prod.mk.injEq]at heq;obtain⟨⟨rfl,rfl⟩,rfl⟩:=heq;cases hl:lookA tk2 j with
     | none=>rw [hl]at h;cases h| some x=>rw [hl]at h;refine step h ?_;have:=hs _ (dF hl);simp only [Option.getD_some,V.ct,hl,this]
   · rename_i i' v' l' hn heq;simp only [List.cons.injEq,Prod.mk.injEq]at heq;obtain⟨⟨rfl,rfl⟩,rfl⟩:=heq;refine step h ?_;cases v with
     | none=>rfl| some u=>
       cases u with
       | gl j=>exact absurd rfl (hn j)| _=>rfl
theorem awl {id sz:Nat}{cells:List V}{v:V}{tk}:fbR id sz (V.cs cells) (v.ct tk) ((fzV id sz cells v).ct tk):=by
 unfold fzV;split
 · rename_i i off;cases hb:Nat.beq i id with
   | true=>obtain rfl:=Nat.eq_of_beq_eq_true hb;exact .inr (.inr ⟨off,by simp only [V.ct,V.c],by simp only [cond_true,V.ct,V.c]⟩)
   | false=>exact .inl rfl
 · rename_i i off len cap;cases hb:(Nat.beq i id&&capOK len cap&&Nat.ble (off+len*sz) cells.length)with
   | true=>simp only [Bool.and_eq_true]at hb;obtain⟨⟨h1,h2⟩,h3⟩:=hb;obtain rfl:=Nat.eq_of_beq_eq_true h1;refine .inr (.inl ⟨off,len,cap,by simp only [V.ct,V.c],h2,by rw [V.cs_length];exact Nat.le_of_ble_eq_true h3,?_⟩);simp only [cond_true,V.ct,V.c,oH,V.cs_map,List.map_drop]| false=>exact .inl rfl
 · exact .inl rfl
theorem fzV_c {id sz:Nat}{cells:List V}{v:V}:fbR id sz (V.cs cells) v.c ((fzV id sz cells v).c):=by
 cases v with
 | gl j=>exact .inl rfl| ptr i o=>
   have:=awl (id:=id) (sz:=sz) (cells:=cells) (v:=.ptr i o) (tk:=[]);rw [V.ct_plain rfl,V.ct_plain]at this;· exact this
   · unfold fzV;dsimp only;cases Nat.beq i id<;>rfl
 | sl i o n c=>
   have:=awl (id:=id) (sz:=sz) (cells:=cells) (v:=.sl i o n c) (tk:=[]);rw [V.ct_plain rfl,V.ct_plain]at this;· exact this
   · unfold fzV;dsimp only;cases(Nat.beq i id&&capOK n c&&Nat.ble (o+n*sz) cells.length)<;>rfl
 | _=>exact .inl rfl
theorem bxs {id sz:Nat}{cells:List V}:∀ {l:List V},fbL id sz (V.cs cells) (V.cs l) (V.cs (l.map (fzV id sz cells)))
 | []=>by rw [List.map_nil,V.cs];trivial
 | v::l=>by rw [List.map_cons,V.cs,V.cs];exact⟨fzV_c,bxs⟩
theorem fzF_mem {g:V→V}:∀ {l:List (Nat×Option V)},∀p∈fzF g l,(p.2=none∧(p.1,none)∈l)∨∃v,(p.1,some v)∈l∧p.2=some (g v)
 | [],p,h=>by cases h
 | (i, some v)::l,p,h=>by
   simp only [fzF]at h;rcases List.mem_cons.1 h with rfl|h;· exact .inr ⟨v,List.mem_cons_self,rfl⟩
   · rcases fzF_mem p h with⟨h1,h2⟩ | ⟨v',h1,h2⟩;· exact .inl ⟨h1,List.mem_cons_of_mem _ h2⟩
     · exact .inr ⟨v',List.mem_cons_of_mem _ h1,h2⟩
 | (i, none)::l,p,h=>by
   simp only [fzF]at h;rcases List.mem_cons.1 h with rfl|h;· exact .inl ⟨rfl,List.mem_cons_self⟩
   · rcases fzF_mem p h with⟨h1,h2⟩ | ⟨v',h1,h2⟩;· exact .inl ⟨h1,List.mem_cons_of_mem _ h2⟩
     · exact .inr ⟨v',List.mem_cons_of_mem _ h1,h2⟩
theorem awm {id:Nat} {g:DObj→DObj}:∀ {l:List Nat}{m:List (Nat×Option DObj)},fzH d id g l=some m→∀p∈m,p.1<16000∧p.1≠id∧∃o,p.2=some (g o)∧d.obj p.1=some o
 | [],m,h,p,hp=>by simp only [fzH,Oi]at h;subst h;cases hp
 | i :: l, m, h,p,hp=>by
   simp only [fzH]at h;cases hb:Nat.beq i id with
   | true=>rw [hb]at h;cases h| false =>
     rw [hb]at h;simp only [cond_false]at h;split at h
     · rename_i o ho;split at h
       · rename_i m' hm;simp only [Oi]at h;subst h;rcases List.mem_cons.1 hp with rfl|hp
         · refine ⟨?_,fun e=>?_,o,rfl,ho⟩
           · unfold D.obj at ho;cases hq:Nat.blt i 16000 with
             | false=>rw [hq]at ho;cases ho| true=>rw [Nat.blt_eq]at hq;exact hq
           · simp only at e;rw [e,Nat.beq_refl]at hb;cases hb
         · exact awm hm p hp
       · cases h
     · cases h
theorem fzV_inr {id sz:Nat}{cells:List V}{v:V}(h:v.inr):(fzV id sz cells v).inr:=by
 unfold fzV;split;· rename_i i off;cases Nat.beq i id<;>trivial
 · rename_i i off len cap;cases(Nat.beq i id&&capOK len cap&&Nat.ble (off+len*sz) cells.length)<;>trivial
 · exact h
theorem dFz1_ok {A:Option Nat}{keep ids toks:List Nat}{id sz':Nat}(E:Exact sh P sz d f h) (hk:dFz1 keep ids toks id sz' d=some d1):∃f1 h1,View A P f h f1 h1∧Exact sh P sz d1 f1 h1:=by
 unfold dFz1 at hk;obtain⟨hid,hk⟩:=aA hk;rw [Nat.blt_eq]at hid;split at hk;rotate_left;· cases hk
 rename_i r hr;split at hk;rotate_left;· cases hk
 rename_i cs hcs;split at hk;rotate_left;· cases hk
 rename_i fr hfr;split at hk;rotate_left;· cases hk
 rename_i hp hhp;split at hk;rotate_left;· cases hk
 rename_i tk htk;obtain⟨hkk,hk⟩:=aA hk;simp only [Oi]at hk;subst hk;obtain⟨rfl,hsh,rfl,ha,hl⟩:=E;have hsub:∀p∈tk,lookA d.tk p.1=some p.2:=fun p hp=>(fB htk p hp).2;have hct:=yM hsub hkk;refine⟨mkD sz (frC tk (fzF (fzV id sz' cs) fr)) d.fr.ds d.fr.rd,_,?_,⟨rfl,hsh,rfl,fun p hp=>?_,fun id els e s h3 hs=>?_⟩⟩
 · unfold D.H;rw [hct];have hrow:=D.row_get hr;unfold D.H at hrow;rw [mkH_get hid]at hrow;refine View.fbD (sz:=sz') id hid hrow (lY hcs).1 (fun p hp=>?_) (fun p hp=>?_) (fun p hp=>?_)
   · simp only [frC,List.mem_map]at hp;obtain⟨q,hq,rfl⟩:=hp;rcases fzF_mem q hq with⟨_,h2⟩ | ⟨v,h1,h2⟩;· obtain⟨_,v',h3,_⟩:=dG hfr _ h2;cases h3
     · obtain ⟨k1,v',k2,k3⟩:=dG hfr _ h1;cases k2;refine⟨k1,v.ct d.tk,?_,?_⟩;· simp only at k3;simp only [jH,k3,Option.map_some,Option.getD_some]
       · simp only [h2,Option.getD_some];exact awl
   · simp only [List.mem_map]at hp;obtain⟨q,hq,rfl⟩:=hp;obtain⟨k1,k2,o,k3,k4⟩:=awm hhp q hq;have hg:=D.obj_get k4;unfold D.H at hg;rw [mkH_get k1]at hg;refine⟨k1,k2,(fzO id sz' cs o).o,by simp only [k3,Option.map_some],?_⟩;cases o with
     | row r=>exact .inr ⟨_,_,_,_,_,_,hg,rfl,bxs⟩| _=>exact .inl hg
   · simp only [List.mem_map]at hp;obtain⟨q,hq,rfl⟩:=hp;obtain⟨k1,k2⟩:=fB htk q hq;refine⟨k1,_,rfl,?_⟩;rw [kM (g:=vF),k2];rfl
 · rcases fzF_mem p hp with⟨_,h2⟩ | ⟨v,h1,h2⟩;· obtain⟨_,v',h3,_⟩:=dG hfr _ h2;cases h3
   · obtain ⟨k1,v',k2,k3⟩:=dG hfr _ h1;cases k2;obtain⟨_,v',k4,k5⟩:=ha _ (dF k3);cases k4;exact⟨k1,_,h2,fzV_inr k5⟩
 · exact hl _ _ _ _ (hsub _ (dF h3)) hs
theorem ayJ {A:Option Nat}{keep ids toks:List Nat}:∀ {l:List (Nat×Nat)}{d d1:D}{f:EFr}{h:H},Exact sh P sz d f h→dFzL keep ids toks l d=some d1→∃f1 h1,View A P f h f1 h1∧Exact sh P sz d1 f1 h1
 | [],d,d1,f,h,E,hk=>by simp only [dFzL,Oi]at hk;subst hk;exact⟨f,h,View.refl,E⟩
 | (i, s)::l,d,d1,f,h,E,hk=>by
   simp only [dFzL]at hk;split at hk;· rename_i d2 h2;obtain⟨f1,h1,v1,E1⟩:=dFz1_ok E h2;obtain⟨f2,h2,v2,E2⟩:=ayJ E1 hk;exact⟨f2,h2,View.trans v1 v2,E2⟩
   · cases hk
theorem uL {N:Nat}:∀ {l:List V},fL N l=true→∀v∈l,c9 N v=true
 | [],_,v,hv=>by cases hv
 | u::l,h,v,hv=>by
   rw [fL]at h;obtain⟨h1,h2⟩:c9 N u=true∧fL N l=true:=by cases hq:c9 N u<;>rw [hq]at h<;>first|cases h|exact⟨rfl,h⟩
   rcases List.mem_cons.1 hv with rfl|hv;· exact h1
   · exact uL h2 v hv
theorem avD {N:Nat}(l:List (List Nat)) (c:Nat):∀(i:Nat),(Go.Ev.belowO N (.map (aj8 i l) c))=true:=by
 induction l with
 | nil=>intro i;rfl| cons k l ih=>intro i;have:=ih (i+1);simp only [Go.Ev.belowO,aj8,List.all_cons,below,Bool.and_self,Bool.true_and]at this ⊢;exact this
theorem avE {N:Nat}(l:List Int) (c:Nat):∀(i:Nat),(Go.Ev.belowO N (.map (aj9 i l) c))=true:=by
 induction l with
 | nil=>intro i;rfl| cons k l ih=>intro i;have:=ih (i+1);simp only [Go.Ev.belowO,aj9,List.all_cons,below,Bool.and_self,Bool.true_and]at this ⊢;exact this
def okA (A:Option Nat) (n:Nat):Bool:=match A with
 | none=>true| some q=>Nat.ble q n
theorem bjd {A:Option Nat}(F:Fits sh P sz d f h) {c:Lab}(hA:okA A c.n=true) (hc:canon c d=some d1):∃f1 h1,View A P f h f1 h1∧Exact sh P sz d1 f1 h1:=by
 unfold canon at hc;split at hc;rotate_left;· cases hc
 rename_i fr1 hf1;split at hc;rotate_left;· cases hc
 rename_i dg hg;split at hc;rotate_left;· cases hc
 rename_i fr2 hf2;obtain⟨hb,hc⟩:=aA hc;simp only [Bool.and_eq_true,List.all_eq_true,Nat.blt_eq]at hb;obtain⟨⟨hb,hbd⟩,hbr⟩:=hb;split at hc;rotate_left;· cases hc
 rename_i hp hh;split at hc;rotate_left;· cases hc
 rename_i tk ht;obtain⟨hkk,hc⟩:=aA hc;simp only [Oi]at hc;subst hc;obtain⟨v1,E1⟩:=yN (A:=A) F hf1;split at hg;rotate_left;· cases hg
 rename_i d0 hg0;obtain⟨f20,h20,v20,E20⟩:=lA (A:=A) E1 hg0;obtain⟨f2,h2,v21,E2⟩:=ayJ (A:=A) E20 hg;have v2:=View.trans v20 v21;obtain⟨rfl,hsh,rfl,ha,hl⟩:=E2;have hsub:∀p∈tk,lookA dg.tk p.1=some p.2:=fun p hp=>(fB ht p hp).2;have hct:=yM hsub hkk;refine⟨mkD sz (frC tk fr2) dg.fr.ds dg.fr.rd,_,View.trans v1 (View.trans v2 ?_),⟨rfl,hsh,rfl,fun p hp=>?_,fun id els e s h3 hs=>?_⟩⟩
 · unfold D.H;rw [hct];refine View.dropD (fun q hq=>?_) (fun i hi=>hbd i hi) (fun i hi=>?_) (fun p hp=>?_) (fun p hp=>?_) (fun p hp=>?_);· subst hq;exact Nat.le_of_ble_eq_true hA
   · rw [hi]at hbr;simpa [bzF]using hbr
   · simp only [frC,List.mem_map]at hp;obtain⟨q,hq,rfl⟩:=hp;obtain⟨k1,v,k2,k3⟩:=dG hf2 q hq;obtain⟨v',k4,k5⟩:=xA hb q hq;rw [k2]at k4;cases k4;refine⟨k1,?_,?_⟩;· simp only [jH,k3,Option.map_some,k2,Option.getD_some]
     · simp only [k2,Option.getD_some];exact ay6 k5 _
   · simp only [List.mem_map]at hp;obtain⟨q,hq,rfl⟩:=hp;obtain⟨k1,k2,r,k3,k4,k5⟩:=aq1 hh q hq;refine⟨k1,k2,r.o,by simp only [k3,Option.map_some],?_,?_⟩;· have:=D.obj_get k4;unfold D.H at this;rw [mkH_get k1]at this;exact this
     · cases r with
       | row r=>refine .inl ?_;simp only [DObj.o,DRow.o,Go.Ev.belowO];exact lF k5| iter s q=>exact .inl rfl| dfr b=>exact .inl rfl| sset ks=>exact .inl (avD _ _ _)| iset ks=>exact .inl (avE _ _ _)| mp es cl=>refine .inl ?_;have k6:(es.all fun e=>c9 c.n e.1&&c9 c.n e.2.1)=true:=k5;simp only [DObj.o,Go.Ev.belowO,List.all_map,List.all_eq_true,Function.comp,Bool.and_eq_true]at k6 ⊢;exact fun e he=>⟨mF (k6 e he).1,mF (k6 e he).2⟩
       | loop st pend n fr ps x y=>refine bqr fun p hp=>?_;simp only [List.mem_map]at hp;obtain⟨q,hq,rfl⟩:=hp;have k6:fL c.n (fr.map (·.2))=true:=k5;exact mF (uL k6 _ (List.mem_map_of_mem hq))
   · simp only [List.mem_map]at hp;obtain⟨q,hq,rfl⟩:=hp;obtain⟨k1,k2⟩:=fB ht q hq;refine⟨k1,_,rfl,?_⟩;rw [kM (g:=vF),k2];rfl
 · obtain ⟨k1,v,k2,k3⟩:=dG hf2 p hp;obtain⟨_,v',k4,k5⟩:=ha _ (dF k3);cases k4;exact⟨k1,v,k2,k5⟩
 · exact hl _ _ _ _ (hsub _ (dF h3)) hs
end
end Go.Ev
namespace Go.Ev
open Go.RowKit
section
variable {A:Option Nat}{P:Program}{g:G}{K:aW}
def OpsT (A:Option Nat) (P:Program) (g:G) (K:aW) (all:Array Oper) (Q:EFr→H→Prop) (l:List Oper) (f:EFr) (h:H):Prop:=
 ∀(B0:Nat) (W0:jY),GRel B0 W0.w g→KOK P B0 W0 K→∀(js:List Nat),js.map (all[·]?)=l.map some →
  ∀(b:Frame) (t:Array Value) (d:List Deferred) (k:List Item) (cs:List Frame) (ρ:Loc) (w:World),FRel ρ f b t d→HRel P B0 W0 ρ h w →
  ∃f' h',Q f' h'∧∃t' w' ρ',ρ.leA A ρ'∧FRel ρ' f' b t' d∧HRel P B0 W0 ρ' h' w'∧Steps P (lone (fr b t d (.inRegion all js::k)) cs w) (lone (fr b t' d k) cs w')
theorem OpsT.nil {all:Array Oper}{Q:EFr→H→Prop}{f:EFr}{h:H}(hq:Q f h):OpsT A P g K all Q [] f h:=fun B0 W0 G hK js hjs b t d k cs ρ w F R=>by
 obtain rfl:js=[]:=by simpa using hjs
 exact⟨f,h,hq,t,w,ρ,Loc.leA_refl,F,R,.one fS⟩
theorem OpsT.view {all:Array Oper}{Q:EFr→H→Prop}{l:List Oper}{f f2:EFr}{h h2:H}(v:View A P f h f2 h2) (H1:OpsT A P g K all Q l f2 h2):OpsT A P g K all Q l f h:=fun B0 W0 G hK js hjs b t d k cs ρ w F R=>by obtain⟨ρ2,l2,F2,R2⟩:=v B0 W0 b t d ρ w F R;obtain⟨f',h',hQ,t',w',ρ',l',F',R',A'⟩:=H1 B0 W0 G hK js hjs b t d k cs ρ2 w F2 R2;exact⟨f',h',hQ,t',w',ρ',Loc.leA_trans l2 l',F',R',A'⟩
theorem OpsT.mono {all:Array Oper}{Q Q':EFr→H→Prop}{l:List Oper}{f:EFr}{h:H}(H1:OpsT A P g K all Q l f h) (hq:∀f h,Q f h→Q' f h):OpsT A P g K all Q' l f h:=fun B0 W0 G hK js hjs b t d k cs ρ w F R=>by obtain⟨f',h',hQ,rest⟩:=H1 B0 W0 G hK js hjs b t d k cs ρ w F R;exact⟨f',h',hq _ _ hQ,rest⟩
theorem OpsT.skip {all:Array Oper}{Q:EFr→H→Prop}{o:Oper}{rest:List Oper}{f:EFr}{h:H}(hw:wantedE all f.tmps o=some false) (H1:OpsT A P g K all Q rest (f.putd o.dst undefE) h) :
  OpsT A P g K all Q (o::rest) f h:=fun B0 W0 G hK js hjs b t d k cs ρ w F R=>by
 cases js with
 | nil=>simp at hjs| cons i js=>simp only [List.map_cons,List.cons.injEq]at hjs;obtain⟨ho,hjs⟩:=hjs;obtain⟨f2,h2,hm,t2,w2,ρ2,l2,F2,R2,S2⟩:=H1 B0 W0 G hK js hjs b _ d k cs ρ w (F.put (cQ _)) R;exact⟨f2,h2,hm,t2,w2,ρ2,l2,F2,R2,(Steps.trans (.one (lQ ho (b9 F.tmps hw))) S2)⟩
theorem OpsT.op (hng:mH P) {all:Array Oper}{Q:EFr→H→Prop}{o:Oper}{rest:List Oper}{f:EFr}{h:H}(hw:wantedE all f.tmps o=some true) (hr:bq3 P g K o f h fun v h'=>OpsT A P g K all Q rest (f.putd o.dst v) h') :
  OpsT A P g K all Q (o::rest) f h:=fun B0 W0 G hK js hjs b t d k cs ρ w F R=>by
 cases js with
 | nil=>simp at hjs| cons i js=>
   simp only [List.map_cons,List.cons.injEq]at hjs;obtain⟨ho,hjs⟩:=hjs
   have next:∀ {e:EVal} {h':H} {ρ':Loc} {v:Value} {w':World},OpsT A P g K all Q rest (f.putd o.dst e) h'→ρ.le ρ'→VRel ρ' e v→HRel P B0 W0 ρ' h' w' →
     Steps P (lone (fr b t d (.inRegion all (i::js)::k)) cs w) (lone (fr b (aqT t o.dst v) d (.inRegion all js::k)) cs w') →
     ∃f' h',Q f' h'∧∃t' w' ρ',ρ.leA A ρ'∧FRel ρ' f' b t' d∧HRel P B0 W0 ρ' h' w'∧Steps P (lone (fr b t d (.inRegion all (i::js)::k)) cs w) (lone (fr b t' d k) cs w'):=by
    intro e h' ρ' v w' hr hle hv R' hst;obtain⟨f2,h2,hm,t2,w2,ρ2,l2,F2,R2,S2⟩:=hr B0 W0 G hK js hjs b _ d k cs ρ' w' ((F.mono hle).put hv) R';exact⟨f2,h2,hm,t2,w2,ρ2,Loc.leA_trans (Loc.leA_of hle) l2,F2,R2,hst.trans S2⟩
   have hwant:=b9 F.tmps hw;unfold bq3 at hr;split at hr
   · rename_i it hop;split at hr
     · rename_i l hl;cases hx:ev f.tmps it with
       | none=>rw [hx]at hl;cases hl| some x=>
         rw [hx]at hl;obtain⟨e,h',u,w',hm,hrun,hv,R'⟩:=jF R o.type (F.erel _ _ hx) hl;refine next (hr _ hm) (Loc.le_refl _) hv R' (.one (fR ho hwant (fun c hc=>by rw [hop]at hc;cases hc) ?_))
         unfold execOp;rw [hop];simp only [Sem.run_bind];rw [hrun];rfl
     · exact hr.elim
   · unfold xN at hr;split at hr
     · rename_i v h' hop;obtain⟨w',ρ',hle,R',hres⟩:=cX hng G R F.erel hop;rcases hres with⟨u,hrun,hv⟩ | ⟨hrun,rfl⟩;· exact next hr hle hv R' (.one (fR ho hwant (aI hop) hrun))
       · exact next hr hle (cQ _) R' (.one (rW ho hwant (aI hop) hrun))
     · rename_i fn args h' hop;obtain⟨rfl,vs,hrun,hvs⟩:=cX hng G R F.erel hop;split at hr
       · rename_i v hk;obtain⟨e1,w1,fr1,⟨u,ρ',rfl,hle,hv,R'⟩,hcomes,hfn,hleave⟩:=jK hK R hk hvs (fr b t d (.inRegion all (i::js)::k)::cs);refine next hr hle hv R' ?_
         refine .head (jA ho hwant (aI hop) hrun) (Steps.trans hcomes (.one ?_));rw [←bY ho];exact step_leave_returned hleave
       · obtain ⟨e1,w1,fr1,⟨v,h2,u,ρ',hk2,rfl,hle,hv,R'⟩,hcomes,hfn,hleave⟩:=hr B0 W0 G hK _ ρ w hvs R (fr b t d (.inRegion all (i::js)::k)::cs);refine next hk2 hle hv R' ?_
         refine .head (jA ho hwant (aI hop) hrun) (Steps.trans hcomes (.one ?_));rw [←bY ho];exact step_leave_returned hleave
     · rename_i id args h' hop;obtain⟨rfl,l,C,vs,hid,hrun,hvs⟩:=cX hng G R F.erel hop;obtain⟨v,h2,u,ρ',w',f0,tm,x,y,hk2,hy,hle,hv,R',hsteps⟩:=hr B0 W0 G hK l C vs ρ w (fr b t d (.inRegion all (i::js)::k)) cs hid hvs R;refine next hk2 hle hv R' ?_
       refine .head (xU ho hwant (aI hop) (by rw [hrun];exact hy)) ?_;rw [←bY ho];exact hsteps
     · cases hnd:ndOp P f.tmps o with
       | false=>rw [hnd]at hr;exact hr.elim| true=>
         rw [hnd]at hr;unfold ndOp at hnd;split at hnd;rotate_left;· cases hnd
         rename_i ty x y z hop2;have hx:=F.erel x;have hy:=F.erel y;generalize ev f.tmps x=ex at hnd hx;generalize ev f.tmps y=ey at hnd hy;unfold ndEq at hnd;split at hnd;rotate_left;· cases hnd
         split at hnd;rotate_left;· cases hnd
         rename_i el hk;obtain⟨q,hq⟩:=azH (hx _ rfl) (hy _ rfl) hk w (x:=x) (y:=y);refine next (hr q) (Loc.le_refl _) (.bool q) R (.one (fR ho hwant (fun c hc=>by rw [hop2]at hc;cases hc) ?_))
         unfold execOp;rw [hop2];simp only [Sem.run_bind]at hq ⊢;rw [hq];rfl
theorem Top.ops {id:Nat}{ops:Array Oper}{f:EFr}{h:H}{Q:fM}(hw:OpsT A P g K ops (fun f' h'=>Q .normal f' h') ops.toList f h):Top A P g K (.region id ops false) f h Q:=fun B0 W0 G hK b t d k cs ρ w F R=>by
 obtain ⟨f',h',hq,t',w',ρ',hle,F',R',hst⟩:=hw B0 W0 G hK (List.range ops.size) (by
   apply List.ext_getElem?;intro i;simp only [List.getElem?_map];by_cases hi:i<ops.size;· rw [List.getElem?_range hi];simp [hi]
   · rw [List.getElem?_eq_none (by simpa using Nat.le_of_not_lt hi),List.getElem?_eq_none (by simpa using Nat.le_of_not_lt hi)];rfl) b t d k cs ρ w F R
 exact⟨.normal,f',h',hq,t',d,w',ρ',hle,F',R',.head sS hst⟩
end
end Go.Ev
namespace Go.Ev
open Go.RowKit
end Go.Ev
namespace Go.Ev
open Go.RowKit
theorem View.sameH {A:Option Nat}{P:Program}{f:EFr}{n m:Nat}{l l2:List (Nat×Option b8)}{k:List (Nat×Option (Nat×TypeId))}(hl:∀p∈l2,p.1<16000∧∃o,p.2=some o∧lookG l p.1=some o):View A P f (mkH n l m k) f (mkH n l2 m k):=by
 intro B0 W0 b t d ρ w F R;have hget:∀id o,(mkH n l2 m k).get id=some o→(mkH n l m k).get id=some o:=by intro id o hg;obtain⟨h1,o',h3,h4⟩:=hl _ (T.ofG_mem hg);simp only [Oi]at h3;subst h3;rw [mkH_get h1];exact h4
 exact⟨ρ,Loc.leA_refl,F,R.below,R.base,R.dom,R.lo,fun a b o1 o2 b' C C' g1 g2=>R.inj a b o1 o2 b' C C' (hget _ _ g1) (hget _ _ g2),fun id o hg=>R.objs id o (hget _ _ hg),R.fz,fun b' pre hb' id C o hg=>R.free b' pre hb' id C o (hget _ _ hg),R.fz0,R.mdom,R.toks,R.tnew,R.tinj⟩
end Go.Ev
namespace Go.Ev
open Go.RowKit
def HV (P:Program) (h h2:H):Prop:=∀(B0:Nat) (W0:jY) (ρ:Loc) (w:World),HRel P B0 W0 ρ h w→HRel P B0 W0 ρ h2 w
section
variable {P:Program}{g:G}{K:aW}
theorem CallT.inn {f:FuncId}{args:List EVal}{h h2:H}{k:EVal→H→Prop}(hv:HV P h h2) (H1:CallT P g K f args h2 k):CallT P g K f args h k:=fun B0 W0 G hK vs ρ w hvs R=>H1 B0 W0 G hK vs ρ w hvs (hv _ _ _ _ R)
theorem sK {fn:Func}{k:EVal→H→Prop}{e:vD}{f:EFr}{h h2:H}{es:List EVal}(he:e=.ret∨e=.normal) (h1:d8 h f.defers=some h2) (h3:resultsE P g h2 f.tmps fn.results.toList=some es) (hk:k (one es) h2):Ends2 P g fn k e f h:=by refine⟨by rcases he with rfl|rfl<;>trivial,h2,es,h1,h3,hk⟩
end
end Go.Ev
namespace Go.Ev
open Go.RowKit
theorem wI {P:Program}{K:aW}{h:H}{f:FuncId}{args:List EVal}(hK:∀a,K f a=none):kcall P K h f args=none:=by
 unfold kcall;split;· rw [hK]
 · rfl
end Go.Ev
namespace Go.Ev
open Go.RowKit
end Go.Ev
namespace Go.Ev
open Go.RowKit
end Go.Ev
namespace Go.Ev
open Go.RowKit
section
variable {A:Option Nat}{P:Program}
theorem View.retell {s:Nat}{fl fl2:List (Nat×EVal)}{ds:List Nat}{r:Option Nat}{h:H}(hf:∀p∈fl2,p.1<1000∧∃v,look fl p.1=some v∧∀ρ u,VRel ρ v u→VRel ρ p.2 u) :
  View A P (mkD s fl ds r) h (mkD s fl2 ds r) h:=by
 intro B0 W0 b t d ρ w F R;refine⟨ρ,Loc.leA_refl,⟨F.size,fun j v hv=>?_,F.defers,F.round⟩,R⟩;obtain⟨h1,v0,h3,h4⟩:=hf _ (jE hv);exact h4 _ _ (F.tmps j v0 (by show(T.ofL fl).get j=_;rw [T.get_ofL _ _ h1];exact h3))
theorem View.bump {f:EFr}{n m:Nat}{l:List (Nat×Option b8)}{k:List (Nat×Option (Nat×TypeId))}:View A P f (mkH n l m k) f (mkH (n+1) l m k):=by intro B0 W0 b t d ρ w F R;exact⟨ρ,Loc.leA_refl,F,R.below,R.base,fun id h=>R.dom id (by have h:n+1≤id:=h;show n≤id;omega),R.lo,R.inj,R.objs,R.fz,R.free,R.fz0,R.mdom,R.toks,R.tnew,R.tinj⟩
theorem wP {ρ:Loc}{u:Value}{v:EVal}(hv:v=.nilslice∨∃id off c,v=.slice id off 0 (.exact c)) (h:VRel ρ v u):VRel ρ (.lsl []) u:=by
 rcases hv with rfl|⟨id,off,c,rfl⟩;· cases h;exact .lsln
 · cases h with|slice _ _ _ c b C hb=>exact .lsl0 _ _
end
noncomputable section
def bxv (d:D):V→Bool
 | .nils=>true| .sl id 0 0 (.exact 0)=>match d.row id with
   | some r=>match r.cells with
     | []=>true| _=>false
   | none=>false
 | _=>false
def avO (P:Program) (e:TypeId) (inf:TypeInfo):Bool:=match cJ P e with
 | some z=>z.length==inf.size&&Nat.ble 1 inf.bytes&&!Nat.beq inf.size 0| none=>false
def bj1 (P : Program) (d:D) (o:Oper):Option (V×Nat×Nat):=match o.op with
 | .call c => match c.callee with
   | .builtin .append=>match c.argTypes.toList with
     | t :: t2 :: _=>match P.underlying t with
       | some (.slice e)=>match P.underlying t2 with
         | some (.slice _)=>match P.info? e with
           | some inf=>match bxy d c.args.toList with
             | some [s,x]=>bif bxv d s&&avO P e inf then match eY inf.size x with
               | some n=>some (x,n,inf.bytes)| none=>none
               else none
             | _=>none
           | none=>none
         | _=>none
       | _=>none
     | _=>none
   | _=>none
 | _=>none
variable {P:Program}{g:G}{K:aW}{A:Option Nat}{sh:List (List (Nat×V))}{sz:Nat}{d:D}{f:EFr}{h:H}
theorem ayP (F:Fits sh P sz d f h) {o:Oper}{x:V}{n b:Nat}(hk:bj1 P d o=some (x,n,b)) (hb:Nat.ble (b*n) 1000000=true) :
  ∃ rows e,x.c=.lsl rows∧rows.length=n∧(∀r∈rows,r.length≠0∧keepL r=some r)∧(∃q,∀r∈rows,r.length=q)∧x.plain=true∧x.inr ∧
   ((rows=[]∧∃v,(v=.nilslice∨∃id off c,v=.slice id off 0 (.exact c))∧eOp P g d.H f.tmps o=some (.val v d.H)) ∨
    (rows=[]∧∃id r off c,d.row id=some r∧eOp P g d.H f.tmps o=some (.val (.slice id off 0 (.exact c)) (d.H.put id r.o))) ∨
    (rows≠[]∧eOp P g d.H f.tmps o=some (.val (.slice d.n 0 n (.slack 0)) (d.H.new (.row rows.flatten e 0 0 true))))):=by
 unfold bj1 at hk;split at hk<;>(try cases hk;done)
 rename_i c hop;split at hk<;>(try cases hk;done)
 rename_i hcal;split at hk<;>(try cases hk;done)
 rename_i t t2 tl hty;split at hk<;>(try cases hk;done)
 rename_i e hu;split at hk<;>(try cases hk;done)
 rename_i e2 hu2;split at hk<;>(try cases hk;done)
 rename_i inf hinf;split at hk<;>(try cases hk;done)
 rename_i s y hevs;obtain⟨hc,hk⟩:=aA hk;rw [Bool.and_eq_true]at hc;obtain⟨hes,hgz⟩:=hc;split at hk<;>(try cases hk;done)
 rename_i n' hkl;simp only [Oi,Prod.mk.injEq]at hk;obtain⟨rfl,rfl,rfl⟩:=hk;obtain⟨rows,hx,hlen,hrows,hpl,hin⟩:=lX hkl;have hev:=uD F hevs;simp only [V.cts,List.map_cons,List.map_nil,V.ct_plain hpl]at hev;have hgr:aO P e inf.size inf.bytes n'=true:=by
  unfold avO at hgz;unfold aO;split at hgz;· rename_i z hz;rw [hz];rw [Bool.and_eq_true,Bool.and_eq_true]at hgz;rw [Bool.and_eq_true,Bool.and_eq_true];exact⟨hgz.1,hb⟩
  · cases hgz
 have hs0:inf.size≠0:=by
  unfold avO at hgz;split at hgz;· rw [Bool.and_eq_true]at hgz;intro e0;rw [e0]at hgz;exact absurd hgz.2 (by decide)
  · cases hgz
 have hlo:a8 inf.size rows=true:=by unfold a8;rw [List.all_eq_true];exact fun r hr=>by rw [(hrows r hr).1];simp
 have hsrc:srcCells d.H inf.size y.c=some (rows.flatten,n'):=by rw [hx];simp only [srcCells];rw [if_pos hlo,hlen]
 have hop2:∀v,s.ct d.tk=v→eOp P g d.H f.tmps o=(match eAppend P d.H t v y.c with|some (v,h')=>some (.val v h')|none=>none):=by intro v hv;rw [hv]at hev;simp only [eOp,hop,hev,hcal,eCall,eCallB,hty,eBuiltin,hu2];rfl
 have happ:∀v,eAppend P d.H t v y.c=(match v with
    | .nilslice=>if n'=0 then some (.nilslice,d.H)else eGrow P d.H e inf.size inf.bytes [] rows.flatten n'| .zsl=>iB P d.H e inf.size inf.bytes rows.flatten n'| .zslt id=>jQ P d.H e inf.size inf.bytes id rows.flatten n'| .slice id off len (.exact c)=>eAppendX P d.H e inf.size inf.bytes id off len c rows.flatten n'| .slice id 0 len (.slack 0)=>eAppendS P d.H e inf.size inf.bytes id len rows.flatten n'| .gsl id els=>eAppendG P d.H e inf.size inf.bytes id els rows.flatten n'| _=>none):=by
  intro v;simp only [eAppend,hu,hinf,hsrc];rfl
 refine⟨rows,e,hx,hlen,fun r hr=>⟨by rw [(hrows r hr).1];exact hs0,(hrows r hr).2⟩,⟨_,fun r hr=>(hrows r hr).1⟩,hpl,hin,?_⟩;have hnr:rows=[]↔n'=0:=by rw [←hlen];exact List.length_eq_zero_iff.symm
 unfold bxv at hes;split at hes<;>(try cases hes;done)
 · have hv:(V.nils).ct d.tk=.nilslice:=by simp only [V.ct,V.c]
   by_cases h0:rows=[];· refine .inl ⟨h0,.nilslice,.inl rfl,?_⟩;rw [hop2 _ hv,happ];simp only [hnr.1 h0,if_true]
   · refine .inr (.inr ⟨h0,?_⟩);rw [hop2 _ hv,happ];simp only [if_neg (fun e0=>h0 (hnr.2 e0)),eGrow,hgr,if_true,List.nil_append];rfl
 · rename_i id;have hv:(V.sl id 0 0 (.exact 0)).ct d.tk=.slice id 0 0 (.exact 0):=by simp only [V.ct,V.c]
   split at hes<;>(try cases hes;done)
   rename_i r hr;split at hes<;>(try cases hes;done)
   rename_i hcells;have hg:=D.row_get hr;simp only [DRow.o,hcells,V.cs]at hg;by_cases h0:rows=[];· refine .inr (.inl ⟨h0,id,r,0,0,hr,?_⟩);rw [hop2 _ hv,happ];have hn0:=hnr.1 h0;simp only [eAppendX,hn0,h0,List.flatten_nil,Nat.zero_mul,Nat.add_zero,Nat.le_refl,if_true,eStoreCells,hg,List.length_nil,allOne,and_self,DRow.o,hcells,V.cs,setRange,List.take_nil,List.drop_nil,List.append_nil]
   · refine .inr (.inr ⟨h0,?_⟩);rw [hop2 _ hv,happ];have hn0:n'≠0:=fun e0=>h0 (hnr.2 e0);simp only [eAppendX];rw [if_neg (by omega)];simp only [srcCells,hg,takeN,Nat.zero_mul,List.drop_nil,List.take_nil,List.length_nil,if_true,eGrow,Nat.zero_add,hgr,List.nil_append];rfl
def bj0 (P : Program) (d:D) (o:Oper):Option (V×Nat×Nat):=match o.op with
 | .call c => match c.callee with
   | .builtin .append=>match c.argTypes.toList with
     | t :: t2 :: _=>match P.underlying t with
       | some (.slice e)=>match P.underlying t2 with
         | some (.slice _)=>match P.info? e with
           | some inf=>match bxy d c.args.toList with
             | some [.raw .zsl,x]=>bif Nat.ble 128 (d.m % 1024)&&avO P e inf then match eY inf.size x with
               | some n=>some (x,n,inf.bytes)| none=>none
               else none
             | _=>none
           | none=>none
         | _=>none
       | _=>none
     | _=>none
   | _=>none
 | _=>none
theorem aqo (F:Fits sh P sz d f h) {o:Oper}{x:V}{n b:Nat}(hk:bj0 P d o=some (x,n,b)) (hb:Nat.ble (b*n) 1000000=true) :
  eOp P g d.H f.tmps o=some (.val x.c d.H)∧x.plain=true∧x.inr∧isPure o=false∧isStill o d.H x.c=true:=by
 unfold bj0 at hk;split at hk<;>(try cases hk;done)
 rename_i c hop;split at hk<;>(try cases hk;done)
 rename_i hcal;split at hk<;>(try cases hk;done)
 rename_i t t2 tl hty;split at hk<;>(try cases hk;done)
 rename_i e hu;split at hk<;>(try cases hk;done)
 rename_i e2 hu2;split at hk<;>(try cases hk;done)
 rename_i inf hinf;split at hk<;>(try cases hk;done)
 rename_i y hevs;obtain⟨hc,hk⟩:=aA hk;rw [Bool.and_eq_true]at hc;obtain⟨hm,hgz⟩:=hc;split at hk<;>(try cases hk;done)
 rename_i n' hkl;simp only [Oi,Prod.mk.injEq]at hk;obtain⟨rfl,rfl,rfl⟩:=hk;obtain⟨rows,hx,hlen,hrows,hpl,hin⟩:=lX hkl;have hev:=uD F hevs;simp only [V.cts,List.map_cons,List.map_nil,V.ct_plain hpl]at hev;have hz:(V.raw .zsl).ct d.tk=.zsl:=by simp only [V.ct,V.c]
 rw [hz]at hev;have hgr:aO P e inf.size inf.bytes n'=true:=by
  unfold avO at hgz;unfold aO;split at hgz;· rename_i z hz;rw [hz];rw [Bool.and_eq_true,Bool.and_eq_true]at hgz;rw [Bool.and_eq_true,Bool.and_eq_true];exact⟨hgz.1,hb⟩
  · cases hgz
 have hs0:inf.size≠0:=by
  unfold avO at hgz;split at hgz;· rw [Bool.and_eq_true]at hgz;intro e0;rw [e0]at hgz;exact absurd hgz.2 (by decide)
  · cases hgz
 have hlo:a8 inf.size rows=true:=by unfold a8;rw [List.all_eq_true];exact fun r hr=>by rw [(hrows r hr).1];simp
 have hsrc:srcCells d.H inf.size y.c=some (rows.flatten,n'):=by rw [hx];simp only [srcCells];rw [if_pos hlo,hlen]
 have hfz:d.H.fz=true:=by rw [show d.H.fz=decide (128≤d.m % 1024)from rfl];rw [Nat.ble_eq]at hm;exact decide_eq_true hm
 have hfl:rows.flatten.length=n'*inf.size:=by
  rw [←hlen];have:∀ {l:List (List EVal)},(∀r∈l,r.length=inf.size)→l.flatten.length=l.length*inf.size:=by
   intro l;induction l with
   | nil=>intro _;simp| cons a l ih=>intro h;rw [List.flatten_cons,List.length_append,h a List.mem_cons_self,ih fun r hr=>h r (List.mem_cons_of_mem _ hr),List.length_cons,Nat.succ_mul,Nat.add_comm]
  exact this fun r hr=>(hrows r hr).1
 have happ:eAppend P d.H t .zsl y.c=some (y.c,d.H):=by simp only [eAppend,hu,hinf,hsrc,iB,hfz,eB fun r hr=>(hrows r hr).2];rw [if_pos ⟨hfl,hgr⟩,←hlen,eL fun r hr=>(hrows r hr).1,hx]
 refine⟨?_,hpl,hin,?_,?_⟩;· simp only [eOp,hop,hev,hcal,eCall,eCallB,hty,eBuiltin,hu2,happ]
 · unfold isPure;rw [hop]
 · unfold isStill;rw [hop];simp only [hcal,hx,EVal.kept]
theorem View.unput {f:EFr}{n m id:Nat}{o:b8}{l:List (Nat×Option b8)}{k:List (Nat×Option (Nat×TypeId))}(hid:id<16000) (hg:lookG l id=some o):View A P f (mkH n ((id,some o)::l) m k) f (mkH n l m k):=by
 intro B0 W0 b t d ρ w F R;have hget:∀q e,(mkH n l m k).get q=some e→(mkH n ((id,some o)::l) m k).get q=some e:=by
  intro q e he;by_cases hq:q=id;· subst hq;rw [mkH_get hid]at he ⊢;rw [hg]at he;rw [lookG.eq_2,if_pos rfl];exact he
  · show ((T.ofG 14 l).set id (some o)).get q=some e;rw [T.get_set_ne _ _ _ _ hq];exact he
 exact⟨ρ,Loc.leA_refl,F,R.below,R.base,R.dom,R.lo,fun a b o1 o2 b' C C' g1 g2=>R.inj a b o1 o2 b' C C' (hget _ _ g1) (hget _ _ g2),fun id o hg=>R.objs id o (hget _ _ hg),R.fz,fun b' pre hb' id C o hg=>R.free b' pre hb' id C o (hget _ _ hg),R.fz0,R.mdom,R.toks,R.tnew,R.tinj⟩
def memN (x:Nat):List Nat→Bool
 | []=>false| y::l=>bif Nat.beq x y then true else memN x l
def bqz:List (Nat×Option V)→List Nat→List Nat
 | [],_=>[]| (i,v)::l,seen=>bif memN i seen||Nat.ble 1000 i then bqz l seen else match v with
   | some _=>i::bqz l (i::seen)| none=>bqz l (i::seen)
def bqy:List (Nat×Option DObj)→List Nat→List Nat
 | [],_=>[]| (i,v)::l,seen=>bif memN i seen then bqy l seen else match v with
   | some _=>i::bqy l (i::seen)| none=>bqy l (i::seen)
def keysK:List (Nat×(List (List V)×TypeId))→List Nat→List Nat
 | [],_=>[]| (i,_)::l,seen=>bif memN i seen then keysK l seen else i::keysK l (i::seen)
def aw5 (d:D):List Nat→Option (List (Nat×Option DObj))
 | []=>some []| i :: l=>bif Nat.blt i d.n then match d.obj i with
   | some r=>match aw5 d l with
     | some m=>some ((i,some r)::m)| none=>none
   | none=>none
   else none
theorem aqY:∀ {l:List Nat}{m:List (Nat×Option DObj)},aw5 d l=some m→∀p∈m,p.1<16000∧p.1<d.n∧∃r,p.2=some r∧d.obj p.1=some r
 | [],m,h,p,hp=>by simp only [aw5,Oi]at h;subst h;cases hp
 | i :: l, m,h,p,hp=>by
   simp only [aw5]at h;obtain⟨hc,h⟩:=aA h;rw [Nat.blt_eq]at hc;split at h
   · rename_i r hr;split at h
     · rename_i m' hm;simp only [Oi]at h;subst h;rcases List.mem_cons.1 hp with rfl|hp
       · refine ⟨?_,hc,r,rfl,hr⟩;unfold D.obj at hr;cases hq:Nat.blt i 16000 with
         | false=>rw [hq]at hr;cases hr| true=>rw [Nat.blt_eq]at hq;exact hq
       · exact aqY hm p hp
     · cases h
   · cases h
def ayW (d:D):Option D:=match vK d.fr.l (bqz d.fr.l [])with
 | some fr=>match aw5 d (bqy d.hp [])with
   | some hp=>match ajw d (keysK d.tk [])with
     | some tk=>bif aq0 tk fr then some ⟨⟨fr,d.fr.ds,d.fr.rd,d.fr.sh⟩,d.n,hp,d.m,tk⟩else none| none=>none
   | none=>none
 | none=>none
structure Cln (sh:List (List (Nat×V))) (P:Program) (sz:Nat) (d:D) (f:EFr) (h:H):Prop extends Exact sh P sz d f h where
 hpU:∀p∈d.hp,p.1<16000∧p.1<d.n∧∃r,p.2=some r∧lookA d.hp p.1=some (some r)
 tkU:∀p∈d.tk,p.1<250∧lookA d.tk p.1=some p.2
 frU:∀p∈d.fr.l,lookA d.fr.l p.1=some p.2
theorem yK {α:Type}{l:List (Nat×α)}{g:Nat→α→Prop}(hg:∀i a b,g i a→g i b→a=b) (hl:∀p∈l,g p.1 p.2):∀p∈l,lookA l p.1=some p.2:=by
 intro p hp;cases hq:lookA l p.1 with
 | none =>
   exfalso;clear hl;induction l with
   | nil=>cases hp| cons a l ih=>
     obtain⟨j,w⟩:=a;simp only [lookA]at hq;cases hb:Nat.beq j p.1 with
     | true=>rw [hb]at hq;cases hq| false=>
       rw [hb]at hq;rcases List.mem_cons.1 hp with rfl|hp;· simp only at hb;rw [Nat.beq_refl]at hb;cases hb
       · exact ih hp hq
 | some x=>exact congrArg some (hg _ _ _ (hl _ (dF hq)) (hl p hp))
theorem bj8 (F:Fits sh P sz d f h) {d1:D}(hc:ayW d=some d1):∃f1 h1,View A P f h f1 h1∧Cln sh P sz d1 f1 h1∧d1.n=d.n:=by
 unfold ayW at hc;split at hc;rotate_left;· cases hc
 rename_i fr hfr;split at hc;rotate_left;· cases hc
 rename_i hp hhp;split at hc;rotate_left;· cases hc
 rename_i tk htk;obtain⟨hkk,hc⟩:=aA hc;simp only [Oi]at hc;subst hc;have hsub:∀p∈tk,lookA d.tk p.1=some p.2:=fun p hp=>(fB htk p hp).2;have hct:=yM hsub hkk;obtain⟨v1,E1⟩:=yN (A:=A) F hfr;have hh:=F.heap;subst hh;have hgo:∀p∈hp,p.1<16000∧p.1<d.n∧∃r,p.2=some r∧d.obj p.1=some r:=fun p hp=>aqY hhp p hp;refine⟨_,mkH d.n (hp.map fun p=>(p.1,p.2.map DObj.o)) d.m (tk.map fun p=>(p.1,some (vF p.2))),View.trans v1 ?_,⟨⟨by rw [hct],F.sh,rfl,E1.all,fun id els e s h3 hs=>F.lens _ _ _ _ (hsub _ (dF h3)) hs⟩,fun p hp'=>?_,fun p hp'=>?_,?_⟩,rfl⟩
 · have v2:View A P (mkD sz (frC d.tk fr) d.fr.ds d.fr.rd) d.H (mkD sz (frC d.tk fr) d.fr.ds d.fr.rd) (mkH d.n (hp.map fun p=>(p.1,p.2.map DObj.o)) d.m (d.tk.map fun p=>(p.1,some (vF p.2)))):=by refine View.sameH fun p hp'=>?_;simp only [List.mem_map]at hp';obtain⟨q,hq,rfl⟩:=hp';obtain⟨k1,k2,r,k3,k4⟩:=hgo q hq;refine⟨k1,r.o,by simp only [k3,Option.map_some],?_⟩;have:=D.obj_get k4;unfold D.H at this;rw [mkH_get k1]at this;exact this
   refine View.trans v2 ?_;intro B0 W0 b t d' ρ w F' R;have hk:∀q x,(mkH d.n (hp.map fun p=>(p.1,p.2.map DObj.o)) d.m (tk.map fun p=>(p.1,some (vF p.2)))).k.get q=some x→(mkH d.n (hp.map fun p=>(p.1,p.2.map DObj.o)) d.m (d.tk.map fun p=>(p.1,some (vF p.2)))).k.get q=some x:=by intro q x hq;have hm:=T.ofG_mem hq;simp only [List.mem_map]at hm;obtain⟨y,hy,e⟩:=hm;simp only [Prod.mk.injEq,Oi]at e;obtain⟨rfl,rfl⟩:=e;obtain⟨k1,k2⟩:=fB htk y hy;rw [mkH_k k1,kM (g:=vF),k2];rfl
   exact⟨ρ,Loc.leA_refl,F',R.below,R.base,R.dom,R.lo,R.inj,R.objs,R.fz,R.free,R.fz0,R.mdom,fun i n e hg=>R.toks i n e (hk _ _ hg),fun i n e hg=>R.tnew i n e (hk _ _ hg),fun i n e j m q b C C' h1 h2=>R.tinj i n e j m q b C C' (hk _ _ h1) (hk _ _ h2)⟩
 · obtain ⟨k1,k2,r,k3,k4⟩:=hgo p hp';refine⟨k1,k2,r,k3,?_⟩;rw [←k3];exact yK (g:=fun i (a:Option DObj)=>∃r,a=some r∧d.obj i=some r) (fun i a b ⟨r1,e1,e2⟩ ⟨r2,e3,e4⟩=>by rw [e2]at e4;cases e4;rw [e1,e3]) (fun q hq=>(hgo q hq).2.2) p hp'
 · exact⟨(fB htk p hp').1,yK (g:=fun i a=>lookA d.tk i=some a) (fun i a b e1 e2=>by rw [e1]at e2;cases e2;rfl) hsub p hp'⟩
 · exact yK (g:=fun i (a:Option V)=>∃v,a=some v∧lookA d.fr.l i=some (some v)) (fun i a b ⟨r1,e1,e2⟩ ⟨r2,e3,e4⟩=>by rw [e2]at e4;cases e4;rw [e1,e3]) (fun q hq=>(dG hfr q hq).2)
theorem Cln.lookf {d:D}{f:EFr}{h:H}(E:Cln sh P sz d f h):∀p∈frC d.tk d.fr.l,p.1<1000∧look (frC d.tk d.fr.l) p.1=some p.2:=by intro p hp;simp only [frC,List.mem_map]at hp;obtain⟨q,hq,rfl⟩:=hp;obtain⟨k1,v,k2,_⟩:=E.all q hq;exact⟨k1,by rw [jH,E.frU q hq];rfl⟩
def bxx {R : Type} (C:Cfg R) (sz:Nat) (all:Array Oper):List Oper→D→(D→Option R)→Option R
 | [],d,kk=>kk d| o :: rest,d,kk=>aql all d o (fun d=>match bj1 C.P d o with
   | some _ => match ayW d with
     | some d=>match aql all d o (fun _=>some true) (fun _=>some false)with
       | some true=>match bj1 C.P d o with
         | some (x,n,b)=>match o.dst with
           | some i=>cond (Nat.ble (b*n) 1000000) (bif Nat.blt i sz&&Nat.blt i 1000&&Nat.blt d.n 16000 then bxx C sz all rest { d with fr:=⟨(i,some x)::d.fr.l,d.fr.ds,d.fr.rd,d.fr.sh⟩,n:=d.n+1 } kk else none) none| none=>none
         | none=>none
       | _=>none
     | none=>none
   | none=>match bj0 C.P d o with
     | some (x,n,b)=>cond (Nat.ble (b*n) 1000000) (ayG sz d o.dst x fun d2=>bxx C sz all rest d2 kk) none| none=>dOp C d o fun v d'=>ayG sz d' o.dst v fun d2=>bxx C sz all rest d2 kk) (fun d=>ayG sz d o.dst j0 fun d2=>bxx C sz all rest d2 kk)
theorem kZ {R : Type} {C:Cfg R}{r:R}{sz:Nat}(hng:mH C.P) (CO:CfgOK C K) {all:Array Oper}:∀ {l:List Oper}{d:D}{f:EFr}{h:H}{kk:D→Option R},Fits sh C.P sz d f h→bxx C sz all l d kk=some r →
  OpsT A C.P C.g K all (fun f' h'=>∃d',Fits sh C.P sz d' f' h'∧kk d'=some r) l f h
 | [],d,f,h,kk,F,hk=>OpsT.nil ⟨d,F,hk⟩| o :: rest, d, f,h,kk,F0,hk=>by
   unfold bxx at hk;obtain⟨d0,F,hk|hk⟩:=uC F0 hk
   · obtain ⟨hw, hk⟩:=hk;split at hk
     · split at hk;rotate_left;· cases hk
       rename_i d1 hcl;split at hk;rotate_left;· cases hk
       rename_i hgd;split at hk;rotate_left;· cases hk
       rename_i x n b hap;split at hk;rotate_left;· cases hk
       rename_i i hi;obtain⟨hb,hk⟩:=aA hk;obtain⟨hs,hk⟩:=aA hk;rw [Bool.and_eq_true,Bool.and_eq_true,Nat.blt_eq,Nat.blt_eq,Nat.blt_eq]at hs;obtain⟨⟨hs1,hs2⟩,hn16⟩:=hs;obtain⟨f1,h1,v1,E,hn1⟩:=bj8 (A:=A) F hcl;refine OpsT.view v1 ?_;have F1:=E.fits;obtain⟨_,_,⟨hw1,_⟩ | ⟨_,hw2⟩⟩:=uC (R:=Bool) F1 hgd;rotate_left;· cases hw2
       obtain⟨rows,e,hx,hlen,hrows,⟨q,hq⟩,hpl,hin,hcase⟩:=ayP (g:=C.g) F1 hap hb;obtain⟨hfr,hh⟩:f1=mkD sz (frC d1.tk d1.fr.l) d1.fr.ds d1.fr.rd∧h1=d1.H:=⟨E.fr,E.heap⟩;subst hfr;subst hh;have hput:∀v:EVal,(mkD sz (frC d1.tk d1.fr.l) d1.fr.ds d1.fr.rd).putd o.dst v=mkD sz ((i,v)::frC d1.tk d1.fr.l) d1.fr.ds d1.fr.rd:=by intro v;rw [hi,mkD_putd hs1]
       let fl:=(frC d1.tk d1.fr.l).filter (fun p=>!Nat.beq p.1 i)
       have hfl:∀(v:EVal),∀p∈fl,p.1<1000∧look ((i,v)::frC d1.tk d1.fr.l) p.1=some p.2:=by
        intro v p hp;obtain⟨hp1,hp2⟩:=List.mem_filter.1 hp;have hne:i≠p.1:=fun e0=>by rw [←e0,Nat.beq_refl]at hp2;cases hp2
        obtain⟨k1,k2⟩:=E.lookf p hp1;exact⟨k1,by simp only [look];rw [if_neg hne];exact k2⟩
       have hlooki:∀v:EVal,look ((i,v)::frC d1.tk d1.fr.l) i=some v:=fun v=>by simp only [look,if_true]
       have fin : Fits sh C.P sz { d1 with fr:=⟨(i,some x)::d1.fr.l,d1.fr.ds,d1.fr.rd,d1.fr.sh⟩,n:=d1.n+1 } (mkD sz ((i,x.c)::fl) d1.fr.ds d1.fr.rd) (mkH (d1.n+1) (d1.hp.map fun p=>(p.1,p.2.map DObj.o)) d1.m (d1.tk.map fun p=>(p.1,some (vF p.2)))):=by
        refine⟨rfl,rfl,rfl,fun j hj=>T.has_ofL _ _ hj,fun j v hj hv=>?_,fun j v hv=>?_,E.sh,rfl,E.lens⟩
        · show (T.ofL _).get j=_;rw [T.get_ofL _ _ hj];simp only [lookA]at hv;simp only [look];cases hb2:Nat.beq i j with
          | true=>rw [hb2]at hv;simp only [cond_true,Oi]at hv;subst hv;rw [if_pos (Nat.eq_of_beq_eq_true hb2),V.ct_plain hpl]| false =>
            rw [hb2]at hv;have hne:i≠j:=fun e0=>by rw [e0,Nat.beq_refl]at hb2;cases hb2
            rw [if_neg hne];have : ∀l:List (Nat×EVal),look (l.filter (fun p=>!Nat.beq p.1 i)) j=look l j:=by
             intro l;induction l with
             | nil=>rfl| cons p l ih=>
               obtain⟨a,w⟩:=p;simp only [List.filter];cases hq2:Nat.beq a i with
               | true=>have ha:=Nat.eq_of_beq_eq_true hq2;simp only [Bool.not_true,look,ih];rw [if_neg (by rw [ha];exact hne)]| false=>simp only [Bool.not_false,look,ih]
            rw [this,jH];have hv2:lookA d1.fr.l j=some (some v):=hv;rw [hv2];rfl
        · simp only [lookA]at hv;cases hb2:Nat.beq i j with
          | true=>rw [hb2]at hv;simp only [cond_true,Oi]at hv;subst hv;exact hin| false=>rw [hb2]at hv;exact F1.inr _ _ hv
       have last:=kZ hng CO fin hk;refine OpsT.op hng hw1 ?_;rcases hcase with⟨h0,v,hv,he⟩ | ⟨h0,id,r',off,c,hr,he⟩ | ⟨h0,he⟩
       · rw [wpOp_eq,iA he,wpOpB_false,he,wpOut_val,hput];refine OpsT.view (View.retell (fl2:=(i,x.c)::fl) fun p hp=>?_) (OpsT.view View.bump last);rcases List.mem_cons.1 hp with rfl|hp;· exact⟨hs2,v,hlooki v,fun ρ u hu=>by rw [hx,h0];exact wP hv hu⟩
         · exact⟨(hfl v p hp).1,p.2,(hfl v p hp).2,fun _ _ h=>h⟩
       · rw [wpOp_eq,iA he,wpOpB_false,he,wpOut_val,hput];refine OpsT.view (View.retell (fl2:=(i,x.c)::fl) fun p hp=>?_) ?_
         · rcases List.mem_cons.1 hp with rfl|hp;· exact⟨hs2,_,hlooki _,fun ρ u hu=>by rw [hx,h0];exact wP (.inr ⟨_,_,_,rfl⟩) hu⟩
           · exact⟨(hfl .unk p hp).1,p.2,(hfl _ p hp).2,fun _ _ h=>h⟩
         have hobj:=D.row_obj hr;have hid:id<16000:=by
          unfold D.obj at hobj;cases hq:Nat.blt id 16000 with
          | false=>rw [hq]at hobj;cases hobj| true=>rw [Nat.blt_eq]at hq;exact hq
         have hg:=D.row_get hr;unfold D.H at hg;rw [mkH_get hid]at hg;exact OpsT.view (View.unput hid hg) (OpsT.view View.bump last)
       · rw [wpOp_eq,iA he,wpOpB_false,he,wpOut_val,hput];have hkl:=eB fun r hr=>(hrows r hr).2;refine OpsT.view ?_ last;show View A C.P _ (mkH (d1.n+1) ((d1.n,some (.row rows.flatten e 0 0 true))::(d1.hp.map fun p=>(p.1,p.2.map DObj.o))) d1.m (d1.tk.map fun p=>(p.1,some (vF p.2)))) _ _;have hfl0:rows.flatten.length=n*q:=by
          rw [←hlen];clear hlen he hkl hx h0 hrows;induction rows with
          | nil=>simp| cons a l ih=>rw [List.flatten_cons,List.length_append,List.length_cons,hq a List.mem_cons_self,ih (fun r hr=>hq r (List.mem_cons_of_mem _ hr)),Nat.add_mul,Nat.one_mul,Nat.add_comm]
         refine View.fbD (sz:=q) d1.n hn16 (cells:=rows.flatten) (cells':=rows.flatten) (e:=e) (lo:=0) (hi:=0) (sl:=true) (by rw [lookG.eq_2,if_pos rfl]) hkl (fun p hp=>?_) (fun p hp=>?_) (fun p hp=>?_)
         · rcases List.mem_cons.1 hp with rfl|hp;· refine ⟨hs2,_,hlooki _,.inr (.inl ⟨0,n,_,rfl,rfl,by rw [hfl0];omega,?_⟩)⟩;rw [hx,List.drop_zero,←hlen,eL hq]
           · exact⟨(hfl .unk p hp).1,p.2,(hfl _ p hp).2,.inl rfl⟩
         · simp only [List.mem_map]at hp;obtain⟨q',hq',rfl⟩:=hp;obtain⟨k1,k2,r,k3,k4⟩:=E.hpU q' hq';refine⟨k1,by simp only;omega,r.o,by simp only [k3,Option.map_some],.inl ?_⟩;rw [lookG.eq_2,if_neg (by omega),pC,k4];rfl
         · simp only [List.mem_map]at hp;obtain⟨q',hq',rfl⟩:=hp;obtain⟨k1,k2⟩:=E.tkU q' hq';exact⟨k1,_,rfl,by rw [kM (g:=vF),k2];rfl⟩
     · have hh:=F.heap;rw [hh]at F ⊢;refine OpsT.op hng hw ?_;rw [wpOp_eq];split at hk;· rename_i x n b hz;obtain⟨hb,hk⟩:=aA hk;obtain⟨e1,e2,e3,_,_⟩:=aqo (g:=C.g) F hz hb;obtain⟨d2,F2,k2⟩:=iJ F e3 hk;rw [V.ct_plain e2]at F2;rw [iA e1,wpOpB_false,e1,wpOut_val];exact kZ hng CO F2 k2
       rcases dOp_ok F CO hk with⟨w,d',h1,h2,h3,h4,_⟩ | ⟨fn,args,w,h1,h2,h3,h4,_⟩ | ⟨fn,vs,h1,h2,h3⟩ | ⟨id,vs,h1,h3⟩;· rw [iA h1,wpOpB_false,h1,wpOut_val];obtain⟨d2,F2,k2⟩:=iJ (F.kept h3) h2 h4;exact kZ hng CO F2 k2
       · rw [iA h1,wpOpB_false,h1,wpOut_enter,h2,wpKc_some];obtain⟨d2,F2,k2⟩:=iJ F (V.safe_ok h3).2 h4;rw [V.safe_ct h3]at F2;exact kZ hng CO F2 k2
       · rw [iA h1,wpOpB_false,h1,wpOut_enter,h2,wpKc_none];refine(CO.mo _ _ _ _ _ h3 F.lens).mono ?_;rintro v h' ⟨w,d',rfl,k2,rfl,k3,k4⟩;obtain⟨d2,F2,k5⟩:=iJ (F.kept k3) k2 k4;exact kZ hng CO F2 k5
       · rw [iA h1,wpOpB_false,h1,wpOut_yield];refine(CO.yo _ _ _ _ _ h3 F.lens).mono ?_;rintro v h' ⟨w,d',rfl,k2,rfl,k3,k4⟩;obtain⟨d2,F2,k5⟩:=iJ (F.kept k3) k2 k4;exact kZ hng CO F2 k5
   · obtain ⟨hw,hk⟩:=hk;obtain⟨d2,F2,k2⟩:=iJ F (v:=j0) trivial hk;have e:j0.ct d0.tk=undefE:=by simp only [j0,V.ct,V.c,V.cs,undefE]
     rw [e]at F2;exact OpsT.skip hw (kZ hng CO F2 k2)
end
end Go.Ev
namespace Go.Ev
open Go.RowKit
noncomputable section
variable {R:Type}{r:R}
def V.keptB:V→Bool
 | .fl _ _ _=>true| .el _=>true| .raw (.lsl _)=>true| .eptr s sz n i off=>(V.eptr s sz n i off).c.kept| _=>false
theorem V.keptB_c {v:V}{tk}:(v.ct tk).kept=v.keptB:=by
 cases v<;>simp only [V.ct,V.c,EVal.kept,V.keptB]
 case raw e=>cases e<;>rfl
 case gl id=>cases lookA tk id<;>rfl
def axn (o:Oper) (d:D) (w:V):Bool:=match o.op with
 | .buildSlice _ _ _=>Nat.ble 128 (d.m % 1024)| .call c=>match c.callee with
   | .builtin .append=>w.keptB| _=>isQuiet o
 | _=>isQuiet o
def extV (d:D):Bool:=match d.obj d.n with
 | some _=>false| none=>true
def bjA (d:D) (o:Oper):Bool:=match o.op with
 | .load _ x=>match dEv d x with
   | some (.lptr _ _)=>true| _=>false
 | _=>false
def ay2 (d:D) (o:Oper):Bool:=match o.op with
 | .buildSlice _ _ _=>Nat.ble 128 (d.m % 1024)| _=>false
def ayK (o:Oper) (d d':D) (w:V) (kk:Bool×Bool→Option R):Option R:=
 bif zH o then kk (false,true)else
 bif isPure o then kk (false,false)else
 bif bjA d o then kk (false,false)else
 bif ay2 d o then kk (false,false)else
 bif axn o d' w then kk (false,true)else
 bif Nat.blt d.n 16000 then kk (true,isNew o&&extV d)else none
def zC (C:Cfg R) (sz:Nat) (all:Array Oper):List Oper→List (Bool×Bool)→D→(List (Bool×Bool)→D→Option R)→Option R
 | [],fl,d,kk=>kk fl d| o::rest,fl,d,kk=>aql all d o (fun d=>match bj0 C.P d o with|some (x,n,b)=>cond (Nat.ble (b*n) 1000000) (ayG sz d o.dst x fun d2=>zC C sz all rest ((false,true)::fl) d2 kk) none|none=>dOp C d o fun v d'=>ayK o d d' v fun b=>ayG sz d' o.dst v fun d2=>zC C sz all rest (b::fl) d2 kk) (fun d=>ayG sz d o.dst j0 fun d2=>zC C sz all rest ((false,false)::fl) d2 kk)
section
variable {C:Cfg R}{K:aW}{sz:Nat}{d d':D}{f:EFr}{h h':H}{sh:List (List (Nat×V))}
theorem axm {o:Oper}{d:D}{w:V}{tk}:isStill o d.H (w.ct tk)=axn o d w:=by
 unfold isStill axn;cases o.op with
 | buildSlice _ _ _=>simp only [D.fz];rw [Bool.eq_iff_iff,Nat.ble_eq];simp| call c=>
   simp only;cases c.callee with
   | builtin b=>cases b<;>first|exact V.keptB_c|rfl
   | _=>rfl
 | _=>rfl
theorem extV_c {o:Oper}{d:D}(hn:d.n<16000):akC o d.H=(isNew o&&extV d):=by
 unfold akC extV;congr 1;have e:d.H.get d.H.n=(d.obj d.n).map DObj.o:=by
  show d.H.get d.n=_;unfold D.obj D.H;rw [mkH_get hn,pC,show Nat.blt d.n 16000=true by rw [Nat.blt_eq];exact hn];simp only [cond_true];cases lookA d.hp d.n with
  | none=>rfl| some x=>cases x<;>rfl
 rw [e];cases d.obj d.n<;>rfl
theorem keptV_c (F:Fits sh C.P sz d f h) {o:Oper}(hk:bjA d o=true):isKept f.tmps o=true:=by
 unfold bjA at hk;unfold isKept;split at hk
 · rename_i ty x hop;rw [hop];simp only;split at hk;· rename_i cs off hx;rw [aJ F hx,V.ct,V.c];simp
   · cases hk
 · cases hk
theorem oD (CO : CfgOK C K) (hM:∀fn vs d kk,C.M fn vs d kk=none) (hY:∀fn vs d kk,C.Y fn vs d kk=none) {all:Array Oper}:∀ {l:List Oper}{fl:List (Bool×Bool)}{d:D}{f:EFr}{h:H}{kk:List (Bool×Bool)→D→Option R},Fits sh C.P sz d f h→zC C sz all l fl d kk=some r →
  cK C.P C.g K all (fun fl' f' h'=>∃d',Fits sh C.P sz d' f' h'∧kk fl' d'=some r) l fl f h
 | [],fl,d,f,h,kk,F,hk=>⟨d,F,hk⟩| o :: rest, fl,d,f,h,kk,F,hk=>by
   unfold zC at hk;show aj3 C.P C.g K all _ o rest fl f h (wantedE all f.tmps o);obtain⟨d,F,hk|hk⟩:=uC F hk
   · obtain ⟨hw,hk⟩:=hk;have hh:=F.heap;rw [hh]at F ⊢;clear hh;rw [hw];show _∨_;split at hk;· rename_i x n b hz;obtain⟨hb,hk⟩:=aA hk;obtain⟨e1,e2,e3,e4,e5⟩:=aqo (g:=C.g) F hz hb;obtain⟨d2,F2,k2⟩:=iJ F e3 hk;rw [V.ct_plain e2]at F2;right;rw [e1,wpDOut_val,e4,e5,wpDSel_quiet];exact oD CO hM hY F2 k2
     rcases dOp_ok F CO hk with⟨w,d',h1,h2,h3,h4,h5⟩ | ⟨fn,args,w,h1,h2,h3,h4,h5⟩ | ⟨fn,vs,h1,h2,h3⟩ | ⟨id,vs,h1,h3⟩;rotate_left 2;· rw [hM]at h3;cases h3
     · rw [hY]at h3;cases h3
     · rw [h1, wpDOut_val];have go:∀b,(ayG sz d' o.dst w fun d2=>zC C sz all rest (b::fl) d2 kk)=some r→cK C.P C.g K all (fun fl' f' h'=>∃d',Fits sh C.P sz d' f' h'∧kk fl' d'=some r) rest (b::fl) (f.putd o.dst (w.ct d'.tk)) d'.H:=by intro b hb;obtain⟨d2,F2,k2⟩:=iJ (F.kept h3) h2 hb;exact oD CO hM hY F2 k2
       replace h4:ayK o d d' w (fun b=>ayG sz d' o.dst w fun d2=>zC C sz all rest (b::fl) d2 kk)=some r:=h4
       unfold ayK at h4;rw [h5,cond_false]at h4;cases hp:isPure o with
       | true=>rw [hp]at h4;obtain⟨v0,e0,_⟩:=yG hp _ _ h1;simp only [EOut.val.injEq]at e0;right;rw [wpDSel_pure,←e0.2];exact go _ h4| false =>
         rw [hp,cond_false]at h4;cases hkv:bjA d o with
         | true=>rw [hkv]at h4;have hkE:=keptV_c F hkv;obtain⟨v0,e0,_⟩:=aju (P:=C.P) (g:=C.g) hkE _ _ h1;simp only [EOut.val.injEq]at e0;have hq:=go _ h4;rw [e0.2]at hq;exact .inl ⟨.inl hkE,w.ct d'.tk,by rw [e0.2],hq⟩| false=>
         rw [hkv,cond_false]at h4;cases hbv:ay2 d o with
         | true=>
           rw [hbv]at h4;have hq:=go _ h4;have hbE:pE d.H o=true∧d'.H=d.H:=by
            unfold ay2 at hbv;unfold pE;split at hbv
            · rename_i hop;have hfz:d.H.fz=true:=by rw [D.fz];rw [Nat.ble_eq]at hbv;exact decide_eq_true hbv
              refine⟨?_,(wZ hop hfz h1 rfl).1⟩;rw [hop];exact hfz
            · cases hbv
           rw [hbE.2]at hq;exact .inl ⟨.inr hbE.1,w.ct d'.tk,by rw [hbE.2],hq⟩
         | false=>
         rw [hbv,cond_false]at h4;right;cases hs:axn o d' w with
         | true=>
           rw [hs]at h4;have hs2:isStill o d'.H (w.ct d'.tk)=true:=by rw [axm];exact hs
           have e0:=rU hs2 h1;rw [hs2,wpDSel_quiet,←e0];exact go _ h4
         | false=>rw [hs,cond_false]at h4;obtain⟨hn,h4⟩:=aA h4;rw [Nat.blt_eq]at hn;rw [show isStill o d'.H (w.ct d'.tk)=false by rw [axm];exact hs,wpDSel_act,extV_c hn];exact go _ h4
     · right;rw [h1,wpDOut_enter,h2,wpDKc_some]
       replace h4:ayK o d d w (fun b=>ayG sz d o.dst w fun d2=>zC C sz all rest (b::fl) d2 kk)=some r:=h4
       unfold ayK at h4;rw [h5,cond_true]at h4;obtain⟨d2,F2,k2⟩:=iJ F (V.safe_ok h3).2 h4;rw [V.safe_ct h3]at F2;exact oD CO hM hY F2 k2
   · obtain ⟨hw,hk⟩:=hk;rw [hw];show cK _ _ _ _ _ _ _ _ _;obtain⟨d2,F2,k2⟩:=iJ F (v:=j0) trivial hk;have e:j0.ct d.tk=undefE:=by simp only [j0,V.ct,V.c,V.cs,undefE]
     rw [e]at F2;exact oD CO hM hY F2 k2
end
def Cfg.still {R:Type}(C:Cfg R):Cfg R:={ C with M:=fun _ _ _ _=>none,Y:=fun _ _ _ _=>none }
theorem CfgOK.still {R:Type}{C:Cfg R}{K:aW}(h:CfgOK C K):CfgOK C.still K:=⟨h.gd,h.eq,h.kd,h.no,fun _ _ _ _ _ h _=>(by cases h),fun _ _ _ _ _ h _=>(by cases h)⟩
def dP:Code→Nat
 | .region i _ _=>i| .seq a _=>dP a| .cond _ a _=>dP a| .block _ a=>dP a| .loop a=>dP a| .scope a=>dP a| _=>1000000
structure It where
 f:FuncId
 b:Nat
 n:Nat
 sz:Nat
 ds:List Nat
 keep:List Nat
structure bxV where
 sz:Nat
 loops:Nat→Option Lab
 joins:Nat→Option Lab
 iters:Nat→Option It
def tD:bxV:=⟨0,fun _=>none,fun _=>none,fun _=>none⟩
abbrev sJ (R:Type):=Nat→D→Option R
abbrev nD (R:Type):=vD→D→Option R
structure Wh (R:Type) where
 C:Cfg R
 p:bxV
 b:Nat
 sz:Nat
 A:Option Nat
structure Rf (R:Type) where
 w:Wh R→sJ R→Operand→Array Tmp→Code→Code→D→nD R→Option R
 f:Wh R→sJ R→Operand→Array Tmp→Code→Code→nD R→Nat→Option (D→Option R)
 k:Wh R→Operand→Array Tmp→Code→Code→List Nat
def Rf.none {R:Type}:Rf R:=⟨fun _ _ _ _ _ _ _ _=>Option.none,fun _ _ _ _ _ _ _ _=>Option.none,fun _ _ _ _ _=>[]⟩
def goto (A:Option Nat) (J:sJ R) (l:Nat) (L:Lab) (d:D):Option R:=bif okA A L.n then retell L.tf d fun d=>match canon L d with
 | some d2=>J l d2| none=>none
 else none
def kSeq (W:Wh R) (J:sJ R) (b:Code) (db:D→nD R→Option R) (k:nD R):nD R:=fun e d=>match e with
 | .normal=>match W.p.joins (W.b+dP b)with
   | none=>db d k| some L=>goto W.A J (2*(W.b+dP b)+1) L d
 | e=>k e d
def awb (W:Wh R) (J:sJ R) (a:Code) (k:nD R):nD R:=fun e d=>match e with
 | .normal=>match W.p.loops (W.b+dP a)with
   | some L=>goto W.A J (2*(W.b+dP a)) L d| none=>none
 | e=>k e d
def azN (id:Nat) (k:nD R):nD R:=fun e d=>match e with
 | .exit i=>bif Nat.beq i id then k .normal d else k (.exit i) d| e=>k e d
def kUn (ih:D→Option R) (k:nD R):nD R:=fun e d=>match e with
 | .normal=>ih d| e=>k e d
def aqA (g:D→nD R→Option R) (k:nD R):Nat→D→Option R
 | 0,_=>none| n+1,d=>g d (kUn (aqA g k n) k)
def cY (W:Wh R) (rf:Rf R):Code→List Nat
 | .seq a b=>cY W rf a++(match W.p.joins (W.b+dP b)with
   | some _=>[2*(W.b+dP b)+1]| none=>[])++cY W rf b
 | .cond _ a b=>cY W rf a++cY W rf b| .block _ a=>cY W rf a| .scope a=>cY W rf a| .loop a=>match W.p.loops (W.b+dP a)with
   | some _=>(2*(W.b+dP a))::cY W rf a| none=>[]
 | .rangeFunc f ps x y=>rf.k W f ps x y| _=>[]
def D.up (d:D):D:=⟨d.fr,d.n,d.hp,bif Nat.ble 64 d.m&&Nat.blt d.m 128 then 128 else d.m,d.tk⟩
theorem D.up_le {d:D}:d.m % 1099511627776≤d.up.m % 1099511627776:=by
 unfold D.up;cases h:(Nat.ble 64 d.m&&Nat.blt d.m 128)with
 | false=>exact Nat.le_refl _| true=>simp only [Bool.and_eq_true,Nat.ble_eq,Nat.blt_eq]at h;simp only [cond_true];omega
theorem D.up_view {A:Option Nat}{P:Program}{f:EFr}{d:D}:View A P f d.H f d.up.H:=View.mode _ D.up_le
theorem D.up_fits {P:Program}{sh:List (List (Nat×V))}{sz:Nat}{d:D}{f:EFr}{h:Go.Ev.H}(F:Fits sh P sz d f h):Fits sh P sz d.up f d.up.H:=⟨F.sz,F.defers,F.round,F.has,F.tmps,F.inr,F.sh,rfl,F.lens⟩
def dZ (W:Wh R) (rf:Rf R) (J:sJ R):Code→D→nD R→Option R
 | .skip,d,k=>k .normal d| .label _,d,k=>k .normal d| .region _ ops false,d,k=>bxx W.C W.sz ops ops.toList d (k .normal)| .region _ ops true,d,k=>bif gB ops W.sz then zC W.C.still W.sz ops ops.toList [] d.up fun fl d'=>bif sB (nB ops.toList []) fl.reverse then k .normal d' else none else none
 | .seq a b,d,k=>dZ W rf J a d (kSeq W J b (dZ W rf J b) k)| .cond c a b,d,k=>match dEv d c with
   | some (.bool q)=>match c with
     | .tmp t=>cond q (dZ W rf J a (d.told t true) k) (dZ W rf J b (d.told t false) k)| _=>cond q (dZ W rf J a d k) (dZ W rf J b d k)
   | _=>none
 | .block id a,d,k=>dZ W rf J a d (azN id k)| .scope a,d,k=>dZ W rf J a d k| .exit id,d,k=>k (.exit id) d| .ret,d,k=>k .ret d| .loop a,d,k=>match W.p.loops (W.b+dP a)with
   | some L=>goto W.A J (2*(W.b+dP a)) L d| none=>match cY W rf a with
     | []=>aqA (dZ W rf J a) k 64 d| _=>none
 | .rangeFunc f ps x y,d,k=>rf.w W J f ps x y d k| _,_,_=>none
def dR (W:Wh R) (rf:Rf R) (J:sJ R):Code→nD R→Nat→Option (D→Option R)
 | .seq a b,k,l=>match dR W rf J a (kSeq W J b (dZ W rf J b) k) l with
   | some f=>some f| none=>bif Nat.beq l (2*(W.b+dP b)+1)then(match W.p.joins (W.b+dP b)with
     | some _=>some fun d=>dZ W rf J b d k
     | none=>dR W rf J b k l)
     else dR W rf J b k l
 | .cond _ a b,k,l=>match dR W rf J a k l with
   | some f=>some f| none=>dR W rf J b k l
 | .block id a,k,l=>dR W rf J a (azN id k) l| .scope a,k,l=>dR W rf J a k l| .loop a,k,l=>match W.p.loops (W.b+dP a)with
   | some _=>bif Nat.beq l (2*(W.b+dP a))then some fun d=>dZ W rf J a d (awb W J a k)else dR W rf J a (awb W J a k) l
   | none=>none
 | .rangeFunc f ps x y,k,l=>rf.f W J f ps x y k l| _,_,_=>none
def bjW (W:Wh R) (rf:Rf R) (c:Code) (k:nD R):Nat→sJ R
 | 0,_,_=>none| n+1,l,d=>match dR W rf (bjW W rf c k n) c k l with
   | some f=>f d| none=>none
def memB (x:Nat):List Nat→Bool
 | []=>false| y::l=>bif Nat.beq x y then true else memB x l
def wE:List Nat→Bool
 | []=>true| x::l=>bif memB x l then false else wE l
theorem azK {x:Nat}:∀ {l:List Nat},memB x l=true↔x∈l
 | []=>by simp [memB]
 | y :: l=>by
   simp only [memB,List.mem_cons];cases hb:Nat.beq x y with
   | true=>have:=Nat.eq_of_beq_eq_true hb;simp [this]| false=>
     have h1:x≠y:=fun e=>by rw [e,Nat.beq_refl]at hb;cases hb
     simp only [cond_false,azK,h1,false_or]
theorem wD:∀ {l:List Nat},wE l=true→l.Nodup
 | [],_=>List.nodup_nil| x :: l,h=>by
   simp only [wE]at h;cases hb:memB x l with
   | true=>rw [hb]at h;cases h| false=>rw [hb]at h;refine List.nodup_cons.2 ⟨fun hm=>?_,wD h⟩;rw [←azK]at hm;rw [hm]at hb;cases hb
section
variable {W:Wh R}{rf:Rf R}{J:sJ R}
def RfMem (rf:Rf R):Prop:=∀W J f ps x y k l g,rf.f W J f ps x y k l=some g→l∈rf.k W f ps x y
theorem bZ (hr:RfMem rf):∀ {c:Code}{k:nD R}{l:Nat}{f:D→Option R},dR W rf J c k l=some f→l∈cY W rf c
 | .seq a b,k,l,f,h=>by
   simp only [dR]at h;simp only [cY,List.mem_append];split at h;· rename_i f' hf;exact .inl (.inl (bZ hr hf))
   · cases hb:Nat.beq l (2*(W.b+dP b)+1)with
     | true=>
       rw [hb]at h;simp only [cond_true]at h;split at h;· rename_i x hx;refine .inl (.inr ?_);simp [Nat.eq_of_beq_eq_true hb]
       · exact .inr (bZ hr h)
     | false=>rw [hb]at h;exact .inr (bZ hr h)
 | .cond _ a b,k,l,f,h=>by
   simp only [dR]at h;simp only [cY,List.mem_append];split at h;· rename_i f' hf;exact .inl (bZ hr hf)
   · exact .inr (bZ hr h)
 | .block id a,k,l,f,h=>by simp only [dR]at h;simp only [cY];exact bZ hr h
 | .scope a,k,l,f,h=>by simp only [dR]at h;simp only [cY];exact bZ hr h
 | .loop a,k,l,f,h=>by
   simp only [dR]at h;simp only [cY];split at h
   · rename_i L hL;simp only [List.mem_cons];cases hb:Nat.beq l (2*(W.b+dP a))with
     | true=>exact .inl (Nat.eq_of_beq_eq_true hb)| false=>rw [hb]at h;exact .inr (bZ hr h)
   · cases h
 | .rangeFunc f ps x y,k,l,g,h=>hr _ _ _ _ _ _ _ _ _ h| .skip,k,l,f,h=>by cases h
 | .label _,k,l,f,h=>by cases h
 | .region _ _ _,k,l,f,h=>by cases h
 | .exit _,k,l,f,h=>by cases h
 | .ret,k,l,f,h=>by cases h
 | .goto _,k,l,f,h=>by cases h
 | .refuse _,k,l,f,h=>by cases h
theorem iY (hr:RfMem rf) {c:Code}{k:nD R}{l:Nat}(h:l ∉ cY W rf c):dR W rf J c k l=none:=by
 cases hq:dR W rf J c k l with
 | none=>rfl| some f=>exact absurd (bZ hr hq) h
end
end
end Go.Ev
namespace Go.Ev
open Go.RowKit
noncomputable section
variable {R:Type}{r:R}{K:aW}{sh:List (List (Nat×V))}
abbrev Find (R:Type):=sJ R→Nat→Option (D→Option R)
def JOK (JJ:Nat→sJ R) (FD:Find R):Prop:=∀n l d r,JJ n l d=some r→∃m f,n=m+1∧FD (JJ m) l=some f∧f d=some r
def Res (W:Wh R) (rf:Rf R) (FD:Find R) (c:Code) (κ:sJ R→nD R):Prop:=∀J l f,dR W rf J c (κ J) l=some f→FD J l=some f
def jq (sh:List (List (Nat×V))) (A:Option Nat) (P:Program) (sz:Nat) (JJ:Nat→sJ R) (κ:sJ R→nD R) (n:Nat) (r:R):fM:=Viewed A P fun e f h=>∃m d,m≤n∧Fits sh P sz d f h∧κ (JJ m) e d=some r
theorem awc {A:Option Nat}{P:Program}{sz:Nat}{JJ:Nat→sJ R}{κ:sJ R→nD R}{m n:Nat}(hmn:m≤n):∀e f h,jq sh A P sz JJ κ m r e f h→jq sh A P sz JJ κ n r e f h:=by rintro e f h ⟨f2,h2,v,q,d,hq,F,k⟩;exact⟨f2,h2,v,q,d,Nat.le_trans hq hmn,F,k⟩
theorem tQ {A:Option Nat}{P:Program}{sz:Nat}{J:sJ R}{l:Nat}{L:Lab}{d:D}{f:EFr}{h:Go.Ev.H}(F:Fits sh P sz d f h) (hk:goto A J l L d=some r):∃d2 f2 h2,View A P f h f2 h2∧Exact sh P sz d2 f2 h2∧J l d2=some r:=by
 unfold goto at hk;obtain⟨h0,hk⟩:=aA hk;obtain⟨d1,f1,v1,F1,k1⟩:=aqL (A:=A) F hk;split at k1;· rename_i d2 hd;obtain⟨f2,h2,v2,E2⟩:=bjd F1 h0 hd;exact⟨d2,f2,h2,View.trans v1 v2,E2,k1⟩
 · cases k1
structure RfOK (rf:Rf R) (K:aW):Prop where
 mem:RfMem rf
 ok:∀(W:Wh R) (JJ:Nat→sJ R) (FD:Find R),W.C.P.follows .mixedOrders=true→mH W.C.P→CfgOK W.C K→JOK JJ FD→∀(f:Operand) (ps:Array Tmp) (x y:Code) (κ:sJ R→nD R),
  (∀J l g,rf.f W J f ps x y (κ J) l=some g→FD J l=some g)→(rf.k W f ps x y).Nodup →
  ∀ {sh:List (List (Nat×V))} {n:Nat} {d:D} {fr:EFr} {h:H} {r:R},Fits sh W.C.P W.sz d fr h→rf.w W (JJ n) f ps x y d (κ (JJ n))=some r→Top W.A W.C.P W.C.g K (.rangeFunc f ps x y) fr h (jq sh W.A W.C.P W.sz JJ κ n r)
theorem Rf.none_ok:RfOK (Rf.none (R:=R)) K:=⟨fun _ _ _ _ _ _ _ _ _ h=>(by cases h),fun _ _ _ _ _ _ _ _ _ _ _ _ _ _ sh n d fr h r _ hk=>(by cases hk)⟩
theorem cN {W:Wh R}{rf:Rf R}{JJ:Nat→sJ R}{FD:Find R}(hm:W.C.P.follows .mixedOrders=true) (hng:mH W.C.P) (CO:CfgOK W.C K) (RO:RfOK rf K) (JO:JOK JJ FD):∀ {c:Code}{κ:sJ R→nD R},Res W rf FD c κ→(cY W rf c).Nodup →
  ∀ {n:Nat} {d:D} {f:EFr} {h:H} {r:R},Fits sh W.C.P W.sz d f h→dZ W rf (JJ n) c d (κ (JJ n))=some r→Top W.A W.C.P W.C.g K c f h (jq sh W.A W.C.P W.sz JJ κ n r)
 | .skip,κ,_,_,n,d,f,h,r,F,hk=>.skip ⟨f,h,View.refl,n,d,Nat.le_refl n,F,hk⟩| .label _,κ,_,_,n,d,f,h,r,F,hk=>.label ⟨f,h,View.refl,n,d,Nat.le_refl n,F,hk⟩| .region _ ops false,κ,_,_,n,d,f,h,r,F,hk=>by refine Top.ops (OpsT.mono (kZ hng CO (all:=ops) F (show bxx W.C W.sz ops ops.toList d (κ (JJ n) .normal)=some r from hk)) ?_);rintro f' h' ⟨d',F',k'⟩;exact⟨f',h',View.refl,n,d',Nat.le_refl n,F',k'⟩
 | .region i ops true,κ,_,_,n,d,f,h,r,F,hk=>by unfold dZ at hk;obtain⟨hs,hk⟩:=aA hk;rw [F.heap];refine Top.view D.up_view ?_;refine Top.drawK hm hng (by rw [F.sz];exact hs) ?_;have:=oD (C:=W.C.still) CO.still (fun _ _ _ _=>rfl) (fun _ _ _ _=>rfl) (all:=ops) (D.up_fits F) hk;refine hD (fun fl f' h' hq=>?_) this;obtain⟨d',F',k'⟩:=hq;obtain⟨k1,k2⟩:=aA k';exact⟨k1,f',h',View.refl,n,d',Nat.le_refl n,F',k2⟩
 | .seq a b,κ,hr,hn,n,d,f,h,r,F,hk=>by
   simp only [cY]at hn;have hna:=(List.nodup_append.1 (List.nodup_append.1 hn).1).1;have hnb:=(List.nodup_append.1 hn).2.1;have hra:Res W rf FD a (fun J=>kSeq W J b (dZ W rf J b) (κ J)):=fun J l f hf=>hr J l f (by simp only [dR,hf]);have hrb:Res W rf FD b κ:=fun J l f hf=>by
    refine hr J l f ?_;have hl:=bZ RO.mem hf;have h1:l ∉ cY W rf a:=fun hq=>(List.nodup_append.1 hn).2.2 l (List.mem_append_left _ hq) l hl rfl;simp only [dR,iY RO.mem h1];cases hb:Nat.beq l (2*(W.b+dP b)+1)with
    | false=>exact hf| true=>
      simp only [cond_true];split;· rename_i x hx;exfalso;refine(List.nodup_append.1 hn).2.2 l (List.mem_append_right _ ?_) l hl rfl;rw [hx,Nat.eq_of_beq_eq_true hb];simp
      · exact hf
   refine Top.seq (Top.mono (cN hm hng CO RO JO hra hna F (show dZ W rf _ a d _=some r from hk)) ?_);intro e f' h' hq;cases e with
   | normal=>
     obtain⟨f2,h2,v,m,d2,hmn,F2,k2⟩:=hq;refine Top.view v ?_;simp only [kSeq]at k2;split at k2;· exact Top.mono (cN hm hng CO RO JO hrb hnb F2 k2) (awc hmn)
     · rename_i L hL;obtain⟨d3,f3,h3,v3,E3,k3⟩:=tQ F2 k2;obtain⟨m',fn,rfl,hfn,k4⟩:=JO _ _ _ _ k3;have hkey:2*(W.b+dP b)+1 ∉ cY W rf a:=fun hq=>by have h1:=(List.nodup_append.1 (List.nodup_append.1 hn).1).2.2;exact h1 _ hq (2*(W.b+dP b)+1) (by rw [hL];simp) rfl
       have hh2:=hr (JJ m') (2*(W.b+dP b)+1) (fun d=>dZ W rf (JJ m') b d (κ (JJ m'))) (by
        simp only [dR,iY RO.mem hkey,Nat.beq_refl,cond_true,hL])
       rw [hh2]at hfn;simp only [Oi]at hfn;subst hfn;exact Top.view v3 (Top.mono (cN hm hng CO RO JO hrb hnb E3.fits k4) (awc (by omega)))
   | exit i=>exact hq| ret=>exact hq
 | .cond c a b,κ,hr,hn,n,d,f,h,r,F,hk=>by
   simp only [cY]at hn;have hna:=(List.nodup_append.1 hn).1;have hnb:=(List.nodup_append.1 hn).2.1;have hra:Res W rf FD a κ:=fun J l f hf=>hr J l f (by simp only [dR,hf]);have hrb:Res W rf FD b κ:=fun J l f hf=>by refine hr J l f ?_;have h1:l ∉ cY W rf a:=fun hq=>(List.nodup_append.1 hn).2.2 l hq l (bZ RO.mem hf) rfl;simp only [dR,iY RO.mem h1,hf]
   unfold dZ at hk;split at hk
   · rename_i q hc;have hc':=aJ F hc;simp only [V.ct,V.c]at hc';split at hk
     · rename_i t;refine Top.cond hc' (fun hq=>?_) (fun hq=>?_);· subst hq;exact cN hm hng CO RO JO hra hna (F.told hc) hk
       · subst hq;exact cN hm hng CO RO JO hrb hnb (F.told hc) hk
     · refine Top.cond hc' (fun hq=>?_) (fun hq=>?_);· subst hq;exact cN hm hng CO RO JO hra hna F hk
       · subst hq;exact cN hm hng CO RO JO hrb hnb F hk
   · cases hk
 | .block id a,κ,hr,hn,n,d,f,h,r,F,hk=>by
   have hra:Res W rf FD a (fun J=>azN id (κ J)):=fun J l f hf=>hr J l f (by simp only [dR,hf]);refine Top.block (Top.mono (cN hm hng CO RO JO hra hn F (show dZ W rf _ a d _=some r from hk)) ?_);intro e f' h' hq;cases e with
   | normal=>exact hq| exit i=>
     obtain⟨f2,h2,v,m,d2,hmn,F2,k2⟩:=hq;simp only [azN]at k2;simp only;cases hb:Nat.beq i id with
     | true=>rw [hb]at k2;rw [if_pos (Nat.eq_of_beq_eq_true hb)];exact⟨f2,h2,v,m,d2,hmn,F2,k2⟩| false=>rw [hb]at k2;rw [if_neg (fun e=>by rw [e,Nat.beq_refl]at hb;cases hb)];exact⟨f2,h2,v,m,d2,hmn,F2,k2⟩
   | ret=>exact hq
 | .scope a,κ,hr,hn,n,d,f,h,r,F,hk=>by have hra:Res W rf FD a κ:=fun J l f hf=>hr J l f (by simp only [dR,hf]);simp only [cY]at hn;exact .scope (cN (c:=a) hm hng CO RO JO hra hn F (show dZ W rf _ a d _=some r from hk))
 | .exit id,κ,_,_,n,d,f,h,r,F,hk=>.exit ⟨f,h,View.refl,n,d,Nat.le_refl n,F,hk⟩| .ret,κ,_,_,n,d,f,h,r,F,hk=>.ret ⟨f,h,View.refl,n,d,Nat.le_refl n,F,hk⟩| .loop a,κ,hr,hn,n,d,f,h,r,F,hk=>by
   simp only [cY]at hn;unfold dZ at hk;split at hk
   · rename_i L hL;rw [hL]at hn;obtain⟨hn0,hna⟩:=List.nodup_cons.1 hn;have hra:Res W rf FD a (fun J=>awb W J a (κ J)):=fun J l f hf=>hr J l f (by
      simp only [dR,hL];cases hb:Nat.beq l (2*(W.b+dP a))with
      | false=>exact hf| true=>exact absurd (by rw [←Nat.eq_of_beq_eq_true hb];exact bZ RO.mem hf) hn0)
     obtain⟨d2,f2,h2,v2,E2,k2⟩:=tQ F hk;refine Top.view v2 ?_;refine Top.loop (σ:={ x:Nat×D×EFr×H // x.1≤n∧Fits sh W.C.P W.sz x.2.1 x.2.2.1 x.2.2.2∧JJ x.1 (2*(W.b+dP a)) x.2.1=some r }) (fun s=>s.1.2.2) (fun s=>s.1.1) ⟨(n,d2,f2,h2),Nat.le_refl n,E2.fits,k2⟩ View.refl ?_;rintro⟨⟨n',d',f',h'⟩,hle,F',k'⟩;obtain⟨m,fn,hn',hfn,k3⟩:=JO _ _ _ _ k';have h2:=hr (JJ m) (2*(W.b+dP a)) (fun d=>dZ W rf (JJ m) a d (awb W (JJ m) a (κ (JJ m)))) (by simp only [dR,hL,Nat.beq_refl,cond_true]);rw [h2]at hfn;simp only [Oi]at hfn;subst hfn;simp only at hle hn' F';refine Top.mono (cN hm hng CO RO JO hra hna F' k3) ?_;intro e f3 h3 hq;cases e with
     | normal=>obtain⟨f4,h4,v4,q,d4,hqm,F4,k4⟩:=hq;simp only [awb,hL]at k4;obtain⟨d5,f5,h5,v5,E5,k5⟩:=tQ F4 k4;exact⟨⟨(q,d5,f5,h5),by simp only;omega,E5.fits,k5⟩,by show q<n';omega,View.trans v4 v5⟩
     | exit i=>obtain⟨f4,h4,v4,q,d4,hqm,F4,k4⟩:=hq;exact⟨f4,h4,v4,q,d4,by omega,F4,k4⟩
     | ret=>obtain⟨f4,h4,v4,q,d4,hqm,F4,k4⟩:=hq;exact⟨f4,h4,v4,q,d4,by omega,F4,k4⟩
   · split at hk
     · rename_i hkeys;have hno:∀J k l,dR W rf J a k l=none:=fun J k l=>iY RO.mem (by rw [hkeys];simp);refine Top.loop (σ:={ x:(Nat×Nat)×D×EFr×H // x.1.2≤n∧Fits sh W.C.P W.sz x.2.1 x.2.2.1 x.2.2.2∧aqA (dZ W rf (JJ x.1.2) a) (κ (JJ x.1.2)) x.1.1 x.2.1=some r }) (fun s=>s.1.2.2) (fun s=>s.1.1.1) ⟨((64,n),d,f,h),Nat.le_refl n,F,hk⟩ View.refl ?_;rintro⟨⟨⟨m,n'⟩,d',f',h'⟩,hle,F',k'⟩;simp only at hle F' k';cases m with
       | zero=>cases k'| succ m=>
         simp only [aqA]at k';have hra:Res W rf FD a (fun J=>kUn (aqA (dZ W rf J a) (κ J) m) (κ J)):=fun J l f hf=>by rw [hno]at hf;cases hf
         refine Top.mono (cN hm hng CO RO JO hra (by rw [hkeys];exact List.nodup_nil) F' k') ?_;intro e f3 h3 hq;obtain⟨f4,h4,v4,q,d4,hqm,F4,k4⟩:=hq;cases e with
         | normal=>exact⟨⟨((m,q),d4,f4,h4),by simp only;omega,F4,k4⟩,by show m<m+1;omega,v4⟩| exit i=>exact⟨f4,h4,v4,q,d4,by omega,F4,k4⟩| ret=>exact⟨f4,h4,v4,q,d4,by omega,F4,k4⟩
     · cases hk
 | .rangeFunc f ps x y,κ,hr,hn,n,d,fr,h,r,F,hk=>RO.ok W JJ FD hm hng CO JO f ps x y κ (fun J l g hf=>hr J l g hf) hn F hk| .goto _,κ,_,_,n,d,f,h,r,F,hk=>by cases hk
 | .refuse _,κ,_,_,n,d,f,h,r,F,hk=>by cases hk
def noJ:Nat→sJ R:=fun _ _ _=>none
def noFD:Find R:=fun _ _=>none
theorem noJ_ok:JOK (R:=R) noJ noFD:=fun _ _ _ _ h=>by cases h
theorem bjV {W:Wh R}{rf:Rf R}{c:Code}{k:nD R}:JOK (bjW W rf c k) (fun J l=>dR W rf J c k l):=by
 intro n l d r h;cases n with
 | zero=>cases h| succ m=>
   simp only [bjW]at h;split at h;· rename_i f hf;exact⟨m,f,rfl,hf,h⟩
   · cases h
end
end Go.Ev
namespace Go.Ev
open Go.RowKit
noncomputable section
def j1:Nat→List V→List (Nat×Option V)
 | _,[]=>[]| i,v::l=>(i,some v)::j1 (i+1) l
def kI:List V→Bool
 | []=>true| v::l=>bif v.safe then kI l else false
def D.begin (m:Nat) (vs:List V):D:=⟨⟨j1 0 vs,[],none,[]⟩,0,[],m,[]⟩
theorem rV (tk):∀ {vs:List V}{i:Nat},kI vs=true→dS i (V.cs vs)=frC tk (j1 i vs)
 | [],i,_=>by rw [V.cs];rfl
 | v::l,i,h=>by
   simp only [kI]at h;obtain⟨h1,h2⟩:v.safe=true∧kI l=true:=by cases hv:v.safe<;>rw [hv]at h<;>first|cases h|exact⟨rfl,h⟩
   rw [V.cs,dS,rV tk h2];simp only [frC,j1,List.map_cons,Option.getD_some,V.ct_plain (V.safe_ok h1).1]
theorem lP:∀ {vs:List V}{i:Nat},kI vs=true→∀p∈j1 i vs,i≤p.1∧p.1<i+vs.length∧∃v,p.2=some v∧v.inr
 | [],i,_,p,hp=>by cases hp
 | v :: l,i,h,p,hp=>by
   simp only [kI]at h;obtain⟨h1,h2⟩:v.safe=true∧kI l=true:=by cases hv:v.safe<;>rw [hv]at h<;>first|cases h|exact⟨rfl,h⟩
   simp only [j1]at hp;rcases List.mem_cons.1 hp with rfl|hp;· exact⟨Nat.le_refl _,by simp only [List.length_cons];omega,v,rfl,(V.safe_ok h1).2⟩
   · obtain ⟨k1,k2,k3⟩:=lP h2 p hp;exact⟨by omega,by simp only [List.length_cons];omega,k3⟩
def pO (P:Program) (gD:Nat→Option (List V)) (d:D):List ResultVar→Option (List V)
 | []=>some []| .tmp i::l=>match dEv d (.tmp i)with
   | some v=>match pO P gD d l with
     | some m=>some (v::m)| none=>none
   | none=>none
 | .cell i ty::l=>match dEv d (.tmp i)with
   | some a=>match bjU P gD d ty a with
     | some v=>bif v.safe then match pO P gD d l with
       | some m=>some (v::m)| none=>none
       else none
     | none=>none
   | none=>none
def D.putO (d:D) (id:Nat) (o:DObj):D:={ d with hp:=(id,some o)::d.hp }
theorem D.putO_H {d:D}{id:Nat}{o:DObj}:(d.putO id o).H=d.H.put id o.o:=by unfold D.H D.putO;rw [mkH_put];rfl
def t8:List Nat→D→Option D
 | [],d=>some d| i::l,d=>match d.obj i with
   | some (.dfr false)=>t8 l (d.putO i (.dfr true))| _=>none
theorem azX:∀ {l:List Nat}{d d2:D},t8 l d=some d2→d8 d.H l=some d2.H∧d2.fr=d.fr∧d2.tk=d.tk∧d2.n=d.n
 | [],d,d2,h=>by simp only [t8,Oi]at h;subst h;exact⟨rfl,rfl,rfl,rfl⟩
 | i :: l,d,d2,h=>by
   simp only [t8]at h;split at h;· rename_i ho;obtain⟨h1,h2,h3,h4⟩:=azX h;refine⟨?_,h2,h3,h4⟩;have:=D.obj_get ho;simp only [d8,this,DObj.o];rw [D.putO_H]at h1;exact h1
   · cases h
def dEnd (P:Program) (gD:Nat→Option (List V)) (rs:List ResultVar) (e:vD) (d0:D):Option V:=
 match e with
 | .exit _=>none| _ => match t8 d0.fr.ds d0 with
   | some d=>match pO P gD d rs with
     | some vs=>match vs with
       | [v]=>v.arg d.tk| vs=>match vT d.tk vs with
         | some m=>some (.tup m)| none=>none
     | none=>none
   | none=>none
def dRet (P:Program) (gD:Nat→Option (List V)) (rs:List ResultVar) (d:D):Option V:=
 match pO P gD d rs with
 | some vs=>match vs with
   | [v]=>some v| vs=>bif qI vs then some (.tup vs)else none
 | none=>none
section
variable {P:Program}{g:G}{gD:Nat→Option (List V)}{sz:Nat}{d:D}{f:EFr}{h:H}{sh:List (List (Nat×V))}
theorem sG (hg:GD g gD) (F:Fits sh P sz d f h):∀ {rs:List ResultVar}{vs:List V},pO P gD d rs=some vs→resultsE P g h f.tmps rs=some (V.cts d.tk vs)
 | [],vs,hk=>by simp only [pO,Oi]at hk;subst hk;rfl
 | .tmp i::l,vs,hk=>by
   simp only [pO]at hk;split at hk
   · rename_i v hv;split at hk;· rename_i m hm;simp only [Oi]at hk;subst hk;have:=aJ F hv;rw [ev]at this;simp only [resultsE,this,sG hg F hm,V.cts,List.map_cons]
     · cases hk
   · cases hk
 | .cell i ty::l,vs,hk=>by
   simp only [pO]at hk;split at hk
   · rename_i a ha;split at hk
     · rename_i v hv;obtain⟨hs,hk⟩:=aA hk;split at hk;· rename_i m hm;simp only [Oi]at hk;subst hk;have:=aJ F ha;rw [ev]at this;obtain⟨h1,h2⟩:=azZ hg (jR F ha) hv;rw [V.ct_plain h2]at this;have ih:=sG hg F hm;rw [←F.heap]at h1;simp only [resultsE,this,ih,h1,V.cts,List.map_cons,V.safe_ct hs]
       · cases hk
     · cases hk
   · cases hk
theorem azh {tk} {v w:V}(h:v.arg tk=some w):keepV (v.ct tk)=some w.c∧keepA (v.ct tk)=some w.c:=by
 unfold V.arg at h;split at h
 · split at h;· rename_i id x hx;simp only [Oi]at h;subst h;simp only [V.ct,hx,V.c];exact⟨rfl,rfl⟩
   · cases h
 · split at h
   · rename_i l _ m hm;simp only [Oi]at h;subst h;simp only [V.ct,V.c];have e:(keepL (V.cs l)).map EVal.agg=some (EVal.agg (V.cs m)):=by rw [(lY hm).1];rfl
     exact⟨e,e⟩
   · cases h
 · unfold V.keep1 at h;split at h<;>first|(cases h;done)|(simp only [Oi]at h;subst h;simp only [V.ct,V.c,V.css];exact⟨rfl,rfl⟩)|skip
   obtain⟨hc,h⟩:=aA h;simp only [Oi]at h;subst h;have:=yR (f:=‹FuncId›) hc;simp only [V.ct];rw [V.c]at this ⊢;exact⟨this,this⟩
theorem xD {tk}:∀ {l m:List V},vT tk l=some m→keepT (V.cts tk l)=some (V.cs m)
 | [],m,h=>by simp only [vT,Oi]at h;subst h;rw [V.cs];rfl
 | v :: l,m,h=>by
   simp only [vT]at h;split at h
   · rename_i a ha;split at h;· rename_i b hb;simp only [Oi]at h;subst h;show keepT (v.ct tk::V.cts tk l)=_;simp only [keepT,(azh ha).2,xD hb,V.cs]
     · cases h
   · cases h
theorem awX {l:List EVal}(h:∀v,l≠[v]):one l=.tup l:=by
 unfold one;split;· exact absurd rfl (h _)
 · rfl
theorem uA (F:Fits sh P sz d f h):∀ {rs:List ResultVar}{vs:List V},pO P gD d rs=some vs→∀v∈vs,v.inr
 | [],vs,hk,v,hv=>by simp only [pO,Oi]at hk;subst hk;cases hv
 | .tmp i::l,vs,hk,v,hv=>by
   simp only [pO]at hk;split at hk
   · rename_i u hu;split at hk
     · rename_i m hm;simp only [Oi]at hk;subst hk;rcases List.mem_cons.1 hv with rfl|hv;· exact jR F hu
       · exact uA F hm v hv
     · cases hk
   · cases hk
 | .cell i ty::l,vs,hk,v,hv=>by
   simp only [pO]at hk;split at hk
   · split at hk
     · obtain ⟨hs,hk⟩:=aA hk;split at hk
       · rename_i m hm;simp only [Oi]at hk;subst hk;rcases List.mem_cons.1 hv with rfl|hv;· exact(V.safe_ok hs).2
         · exact uA F hm v hv
       · cases hk
     · cases hk
   · cases hk
theorem Fits.take (F:Fits sh P sz d f h) {d2:D}(hk:t8 d.fr.ds d=some d2):d8 h f.defers=some d2.H∧Fits sh P sz d2 f d2.H:=by obtain⟨h1,h2,h3,_⟩:=azX hk;refine⟨by rw [F.heap,F.defers];exact h1,F.kept (Kept.of h2 h3)⟩
theorem dEnd_ok (hg:GD g gD) (F0:Fits sh P sz d f h) {fn:Func}{e:vD}{w:V}(hk:dEnd P gD fn.results.toList e d=some w):bx4 P g fn w.c e f h:=by
 unfold dEnd at hk;have main:(match t8 d.fr.ds d with
  | some d=>match pO P gD d fn.results.toList with
    | some vs=>match vs with
      | [v]=>v.arg d.tk| vs=>match vT d.tk vs with
        | some m=>some (V.tup m)| none=>none
    | none=>none
  | none=>none)=some w→∃h2 es,d8 h f.defers=some h2∧resultsE P g h2 f.tmps fn.results.toList=some es∧keepV (one es)=some w.c:=by
  intro hk;split at hk;rotate_left;· cases hk
  rename_i d2 hd2;obtain⟨ht,F⟩:=F0.take hd2;split at hk;rotate_left;· cases hk
  rename_i vs hvs;refine⟨_,_,ht,sG hg F hvs,?_⟩;split at hk;· exact(azh hk).1
  · rename_i hn;split at hk
    · rename_i m hm;simp only [Oi]at hk;subst hk;rw [awX (fun v hv=>by
       match vs,hv with
       | [u],_=>exact hn u rfl)]
      show(keepT (V.cts d2.tk vs)).map EVal.tup=_;rw [xD hm,V.c];rfl
    · cases hk
 cases e with
 | normal=>exact⟨trivial,main hk⟩| ret=>exact⟨trivial,main hk⟩| exit i=>cases hk
theorem dRet_ok (hg:GD g gD) (F:Fits sh P sz d f h) {rs:List ResultVar}{w:V}(hk:dRet P gD rs d=some w):∃es,resultsE P g h f.tmps rs=some es∧one es=w.ct d.tk∧w.inr:=by
 unfold dRet at hk;split at hk;rotate_left;· cases hk
 rename_i vs hvs;refine⟨_,sG hg F hvs,?_⟩;split at hk;· rename_i v;simp only [Oi]at hk;subst hk;exact⟨rfl,uA F hvs _ (List.mem_singleton.2 rfl)⟩
 · rename_i hn;obtain⟨hp,hk⟩:=aA hk;simp only [Oi]at hk;subst hk;rw [awX (fun v hv=>by
    match vs,hv with
    | [u],_=>exact hn u rfl)]
   refine⟨?_,trivial⟩;rw [oE hp,V.ct,V.c];simp
end
def axz:List (Nat×Option V)→List (Nat×Option V)
 | []=>[]| (i,v)::l=>(i,match v with
   | some u=>bif u.plain then some u else none| none=>none)::axz l
theorem qO:∀ {l:List (Nat×Option V)}{i:Nat}{v:V},lookA (axz l) i=some (some v)→lookA l i=some (some v)∧v.plain=true
 | [],i,v,h=>by cases h
 | (j, u)::l,i,v,h=>by
   simp only [axz,lookA]at h ⊢;cases hb:Nat.beq j i with
   | true=>
     rw [hb]at h;simp only [cond_true,Oi]at h ⊢;split at h
     · rename_i u;cases hp:u.plain with
       | true=>rw [hp]at h;simp only [cond_true,Oi]at h;subst h;exact⟨rfl,hp⟩| false=>rw [hp]at h;cases h
     · cases h
   | false=>rw [hb]at h;exact qO h
def D.back (d d2:D):D:={ d2 with fr:=⟨axz d.fr.l,d.fr.ds,d.fr.rd,d.fr.sh⟩ }
theorem D.back_H {d d2:D}:(d.back d2).H=d2.H:=rfl
theorem D.back_kept {P:Program}{d d2:D}(hl:ajT P d2):Kept P d (d.back d2):=by refine⟨fun i v hv=>?_,fun _=>hl,rfl,rfl,rfl⟩;obtain⟨h1,h2⟩:=qO hv;exact⟨v,h1,by rw [V.ct_plain h2,V.ct_plain h2],fun h=>h⟩
variable {R:Type}{r:R}{K:aW}
theorem hX {C:Cfg R}{b sz:Nat}{A:Option Nat}:∀(c:Code),cY ⟨C,tD,b,sz,A⟩ Rf.none c=[]
 | .seq a c=>by simp only [cY,hX a,hX c];rfl
 | .cond _ a c=>by simp only [cY,hX a,hX c];rfl
 | .block _ a=>by simp only [cY,hX a]
 | .scope a=>by simp only [cY,hX a]
 | .loop a=>by simp only [cY];rfl
 | .rangeFunc _ _ _ _=>by simp only [cY];rfl
 | .skip=>rfl| .label _=>rfl| .region _ _ _=>rfl| .exit _=>rfl| .ret=>rfl| .goto _=>rfl| .refuse _=>rfl
theorem res_no {C:Cfg R}{b sz:Nat}{A:Option Nat}{FD:Find R}{c:Code}{κ:sJ R→nD R}:Res ⟨C,tD,b,sz,A⟩ Rf.none FD c κ:=fun J l f hf=>by rw [iY (Rf.none_ok (K:=fun _ _=>none)).mem (by rw [hX];simp)]at hf;cases hf
theorem zD {C:Cfg R}{b sz:Nat}{A:Option Nat}(hm:C.P.follows .mixedOrders=true) (hng:mH C.P) (CO:CfgOK C K) {sh:List (List (Nat×V))}{c:Code}{k:nD R}{d:D}{f:EFr}{h:H}{r:R}(F:Fits sh C.P sz d f h)
  (hk:dZ ⟨C,tD,b,sz,A⟩ Rf.none (noJ 0) c d k=some r):Top A C.P C.g K c f h (Viewed A C.P fun e f h=>∃d,Fits sh C.P sz d f h∧k e d=some r):=by
 refine Top.mono (cN (W:=⟨C,tD,b,sz,A⟩) (JJ:=noJ) (FD:=noFD) (κ:=fun _=>k) hm hng CO Rf.none_ok noJ_ok res_no (by rw [hX];exact List.nodup_nil) (n:=0) F hk) ?_;rintro e f' h' ⟨f2,h2,v,_,d2,_,F2,k2⟩;exact⟨f2,h2,v,d2,F2,k2⟩
theorem qG:∀ {l:List V},kI l=true→qI l=true
 | [],_=>rfl| v::l,hs=>by
   simp only [kI]at hs;obtain⟨h1,h2⟩:v.safe=true∧kI l=true:=by cases hv:v.safe<;>rw [hv]at hs<;>first|cases hs|exact⟨rfl,hs⟩
   simp only [qI,(V.safe_ok h1).1,cond_true,qG h2]
def kRet (C:Cfg R) (F:Func) (d:D) (kk:V→D→Option R):nD R:=fun e d1=>match e with
 | .exit _=>none| _ => match t8 d1.fr.ds d1 with
   | some d2=>match dRet C.P C.gD F.results.toList d2 with
     | some w=>kk w (d.back d2)| none=>none
   | none=>none
def mkM (C:Cfg R) (fn:FuncId) (vs:List V) (d:D) (kk:V→D→Option R):Option R:=
 match C.P.funcs[fn]? with
 | some F=>match F.body with
   | some c=>bif kI vs&&Nat.blt vs.length 1000 then
     dZ ⟨C,tD,0,Nat.max F.ntmps vs.length,some d.n⟩ Rf.none (noJ 0) c { d with fr:=⟨j1 0 vs,[],none,[]⟩ } (kRet C F d kk)
     else none
   | none=>none
 | none=>none
theorem mkM_ok {C:Cfg R}(hm:C.P.follows .mixedOrders=true) (hng:mH C.P) (CO:CfgOK C K) {fn:FuncId}{vs:List V}{d:D}{kk:V→D→Option R}{r:R}(hk:mkM C fn vs d kk=some r) (hl:ajT C.P d) :
  CallT C.P C.g K fn (V.cts d.tk vs) d.H (avx C.P d kk r):=by
 unfold mkM at hk;split at hk;rotate_left;· cases hk
 rename_i F hF;split at hk;rotate_left;· cases hk
 rename_i c hc;obtain⟨hs,hk⟩:=aA hk;simp only [Bool.and_eq_true,Nat.blt_eq]at hs;obtain⟨hs,hlen⟩:=hs;have hp:=qG hs;rw [oE hp];refine CallT.intro hF hc ?_;have hA:d.H.n=d.n:=rfl;rw [hA];refine Top.view (View.start (n:=Nat.max F.ntmps vs.length) (by rw [V.cs_length]) (by rw [V.cs_length];exact hlen)) ?_;have E:Exact [] C.P (Nat.max F.ntmps vs.length) { d with fr:=⟨j1 0 vs,[],none,[]⟩ } (mkF (Nat.max F.ntmps vs.length) (dS 0 (V.cs vs))) d.H:=by refine⟨by rw [rV d.tk hs];rfl,rfl,rfl,fun q hq=>?_,hl⟩;obtain⟨_,k2,k3⟩:=lP hs q hq;exact⟨by omega,k3⟩
 refine Top.unview (Top.mono (zD hm hng CO E.fits hk) ?_);rintro e f' h' ⟨f2,h2,v,d2,F2,k2⟩;refine⟨f2,h2,v,?_⟩;have main:(match t8 d2.fr.ds d2 with
  | some d3=>match dRet C.P C.gD F.results.toList d3 with
    | some w=>kk w (d.back d3)| none=>none
  | none=>none)=some r→∃h3 es,d8 h2 f2.defers=some h3∧resultsE C.P C.g h3 f2.tmps F.results.toList=some es∧avx C.P d kk r (one es) h3:=by
  intro hk;split at hk;rotate_left;· cases hk
  rename_i d3 hd3;obtain⟨ht,F3⟩:=F2.take hd3;split at hk;rotate_left;· cases hk
  rename_i w hw;obtain⟨es,h4,h5,h6⟩:=dRet_ok CO.gd F3 hw;exact⟨_,es,ht,h4,w,d.back d3,h5,h6,rfl,D.back_kept F3.lens,hk⟩
 cases e with
 | normal=>exact⟨trivial,main k2⟩| ret=>exact⟨trivial,main k2⟩| exit i=>cases k2
def bxk (l:List (Nat×Option V)):Bool:=l.all fun p=>Nat.blt p.1 1000&&(match p.2 with
 | some v=>v.safe| none=>false)
theorem sE {l:List (Nat×Option V)}(h:bxk l=true):∀p∈l,p.1<1000∧∃v,p.2=some v∧v.safe=true:=by
 intro p hp;have:=List.all_eq_true.1 h p hp;simp only [Bool.and_eq_true,Nat.blt_eq]at this;refine⟨this.1,?_⟩;split at this;· rename_i v hv;exact⟨v,hv,this.2⟩
 · cases this.2
def m9 (n:Nat):List Tmp→List V→List (Nat×Option V)→Option (List (Nat×Option V))
 | [],[],l=>some l| p::ps,v::vs,l=>bif Nat.blt p n then m9 n ps vs ((p,some v)::l)else none| _,_,_=>none
theorem dParams_ok (tk) {n:Nat}:∀ {ps:List Tmp}{vs:List V}{l l':List (Nat×Option V)},m9 n ps vs l=some l'→cR n (T.ofL (frC tk l)) ps (V.cts tk vs)=some (T.ofL (frC tk l'))
 | [],[],l,l',h=>by simp only [m9,Oi]at h;subst h;rfl
 | p::ps,v::vs,l,l',h=>by simp only [m9]at h;obtain⟨h1,h2⟩:=aA h;have:=dParams_ok tk h2;show cR n _ (p::ps) (v.ct tk::V.cts tk vs)=_;simp only [cR,h1,cond_true];exact this
 | [],_::_,l,l',h=>by simp [m9]at h
 | _::_,[],l,l',h=>by simp [m9]at h
def mS (l:List (Nat×V)):List (Nat×Option V):=l.map fun p=>(p.1,some p.2)
def unF:List (Nat×Option V)→List (Nat×V)
 | []=>[]| (i,some v)::l=>(i,v)::unF l| (_,none)::l=>unF l
theorem nH:∀ {l:List (Nat×Option V)},bxk l=true→mS (unF l)=l
 | [],_=>rfl| (i,some v)::l,h=>by unfold bxk at h;rw [List.all_cons,Bool.and_eq_true]at h;have:=nH (l:=l) h.2;simp only [unF];unfold mS at this ⊢;rw [List.map_cons,this]
 | (i,none)::l,h=>by unfold bxk at h;rw [List.all_cons,Bool.and_eq_true]at h;simp at h
theorem ak9 (tk) {l:List (Nat×V)}(h:bxk (mS l)=true):(l.map fun p=>(p.1,p.2.c))=frC tk (mS l):=by unfold frC mS;rw [List.map_map];refine List.map_congr_left fun p hp=>?_;obtain⟨_,v,hv,hs⟩:=sE h (p.1,some p.2) (by unfold mS;exact List.mem_map.2 ⟨p,hp,rfl⟩);simp only [Oi]at hv;subst hv;simp only [Function.comp,Option.getD_some,V.ct_plain (V.safe_ok hs).1]
def bxo (id:Nat) (d:D) (kk:V→D→Option R):nD R:=fun e d1=>match d1.obj id with
 | some (.loop _ _ n fr ps x y)=>match e with
   | .normal=>kk (.bool true) (d.back (d1.putO id (.loop .ready none n fr ps x y)))| .ret=>kk (.bool false) (d.back (d1.putO id (.loop .done (some .ret) n fr ps x y)))| .exit i=>kk (.bool false) (d.back (d1.putO id (.loop .done (some (.exit i)) n fr ps x y)))
 | _=>none
def kMid (C:Cfg R) (id n0:Nat) (y:Code) (d:D) (kk:V→D→Option R):nD R:=fun e d1=>match e with
 | .normal=>match d1.obj id with
   | some (.loop .ready pend n fr ps a b)=>dZ ⟨C,tD,0,n0,some d.n⟩ Rf.none (noJ 0) y (d1.putO id (.loop .busy pend n fr ps a b)) (bxo id d kk)| _=>none
 | _=>none
def mkY (C:Cfg R) (id:Nat) (vs:List V) (d:D) (kk:V→D→Option R):Option R:=
 match d.obj id with
 | some (.loop _ _ n fr ps x y)=>match m9 n ps vs (mS fr)with
   | some l=>bif bxk l&&bxk (mS fr)then dZ ⟨C,tD,0,n,some d.n⟩ Rf.none (noJ 0) x { d with fr:=⟨l,[],some id,[]⟩ } (kMid C id n y d kk)else none| none=>none
 | _=>none
theorem awR {P:Program}{sz:Nat}{d:D}{f:EFr}{h:H}{sh:List (List (Nat×V))}{id:Nat}{o:DObj}(F:Fits sh P sz d f h):Fits sh P sz (d.putO id o) f (h.put id o.o):=by have:=F.kept (d':=d.putO id o) (Kept.of rfl rfl);rw [D.putO_H]at this;rw [F.heap];exact this
theorem mkY_ok {C:Cfg R}(hm:C.P.follows .mixedOrders=true) (hng:mH C.P) (CO:CfgOK C K) {id:Nat}{vs:List V}{d:D}{kk:V→D→Option R}{r:R}(hk:mkY C id vs d kk=some r) (hl:ajT C.P d) :
  RoundT C.P C.g K id (V.cts d.tk vs) d.H (avx C.P d kk r):=by
 unfold mkY at hk;split at hk;rotate_left;· cases hk
 rename_i st pend n fr ps x y ho;split at hk;rotate_left;· cases hk
 rename_i l hpar;obtain⟨hok,hk⟩:=aA hk;rw [Bool.and_eq_true]at hok;have hg:=D.obj_get ho;simp only [DObj.o]at hg;rw [ak9 d.tk hok.2]at hg;have hA:d.H.n=d.n:=rfl;refine RoundT.intro hg (dParams_ok d.tk hpar) ?_;rw [hA];have E:Exact [] C.P n { d with fr:=⟨l,[],some id,[]⟩ } ⟨n,T.ofL (frC d.tk l),[],some id⟩ d.H:=by refine⟨rfl,rfl,rfl,fun q hq=>?_,hl⟩;obtain⟨k1,v,k2,k3⟩:=sE hok.1 q hq;exact⟨k1,v,k2,(V.safe_ok k3).2⟩
 refine Top.unview (Top.mono (zD hm hng CO E.fits hk) ?_);rintro e f' h' ⟨f2,h2,v,d2,F2,k2⟩;refine⟨f2,h2,v,?_⟩;unfold kMid at k2;split at k2;rotate_left;· cases k2
 split at k2;rotate_left;· cases k2
 rename_i pend2 n2 fr2 ps2 a2 b2 ho2;refine⟨rfl,?_⟩;have hg2:=D.obj_get ho2;rw [←F2.heap]at hg2;simp only [DObj.o]at hg2;rw [hg2];simp only;refine Top.unview (Top.mono (zD hm hng CO (awR F2 (o:=.loop .busy pend2 n2 fr2 ps2 a2 b2)) k2) ?_);rintro e f3 h3 ⟨f4,h4,v4,d4,F4,k4⟩;refine⟨f4,h4,v4,?_⟩;unfold bxo at k4;split at k4;rotate_left;· cases k4
 rename_i st5 pend5 n5 fr5 ps5 x5 y5 ho5;have hg5:=D.obj_get ho5;rw [←F4.heap]at hg5;simp only [DObj.o]at hg5;unfold yD;rw [hg5];simp only;have fin:∀(b:Bool) (o:DObj),kk (.bool b) (d.back (d4.putO id o))=some r→avx C.P d kk r (.bool b) (h4.put id o.o):=by
  intro b o hk;refine⟨.bool b,d.back (d4.putO id o),by rw [V.ct,V.c];simp,trivial,?_,D.back_kept ?_,hk⟩;· rw [D.back_H,D.putO_H,F4.heap]
  · exact F4.lens
 cases e with
 | normal=>exact fin true (.loop .ready none n5 fr5 ps5 x5 y5) k4| ret=>exact fin false (.loop .done (some .ret) n5 fr5 ps5 x5 y5) k4| exit i=>exact fin false (.loop .done (some (.exit i)) n5 fr5 ps5 x5 y5) k4
def Cfg.deep (C:Cfg R):Nat→Cfg R
 | 0=>C.still| n+1=>{ C with M:=mkM (C.deep n),Y:=mkY (C.deep n) }
theorem Cfg.deep_P (C:Cfg R):∀n,(C.deep n).P=C.P∧(C.deep n).g=C.g
 | 0=>⟨rfl,rfl⟩| _+1=>⟨rfl,rfl⟩
theorem CfgOK.deep {C:Cfg R}(hm:C.P.follows .mixedOrders=true) (hng:mH C.P) (CO:CfgOK C K):∀n,CfgOK (C.deep n) K
 | 0=>CO.still| n + 1=>by
   have ih:=CO.deep hm hng n;obtain⟨e1,e2⟩:=C.deep_P n;refine⟨CO.gd,CO.eq,CO.kd,CO.no,fun fn vs d kk r hk hl=>?_,fun id vs d kk r hk hl=>?_⟩;· have:=mkM_ok (C:=C.deep n) (by rw [e1];exact hm) (by rw [e1];exact hng) ih hk (by rw [e1];exact hl);rw [e1,e2]at this;exact this
   · have:=mkY_ok (C:=C.deep n) (by rw [e1];exact hm) (by rw [e1];exact hng) ih hk (by rw [e1];exact hl);rw [e1,e2]at this;exact this
def aqd:List Nat→List Nat→Bool
 | [],[]=>true| a::l,b::m=>bif Nat.beq a b then aqd l m else false| _,_=>false
theorem aqc:∀ {l m:List Nat},aqd l m=true→l=m
 | [],[],_=>rfl| a::l,b::m,h=>by
   simp only [aqd]at h;obtain⟨h1,h2⟩:Nat.beq a b=true∧aqd l m=true:=by cases hv:Nat.beq a b<;>rw [hv]at h<;>first|cases h|exact⟨rfl,h⟩
   rw [Nat.eq_of_beq_eq_true h1,aqc h2]
 | [],_::_,h=>by cases h
 | _::_,[],h=>by cases h
def cloV:V→Option (FuncId×List V)
 | .raw (.func f [])=>some (f,[])| .fn f l=>some (f,l)| _=>none
def bqt (x y:Code):Nat:=bif Nat.beq (dP x) 1000000 then dP y else dP x
def idleB:LoopState→Bool
 | .busy=>false| _=>true
def kIter (it:It) (k:nD R):nD R:=fun e d1=>match e with
 | .exit _=>none| _ => match t8 d1.fr.ds d1 with
   | some d2=>match d2.obj (it.n+1)with
     | some (.loop st pend n fr ps x y)=>match d2.fr.sh with
       | l::sh=>bif idleB st then match pend with
         | none=>k .normal { d2.putO (it.n+1) (.loop .exhausted pend n fr ps x y)with fr:=⟨mS l,it.n::it.ds,none,sh⟩ }| some .ret=>k .ret { d2.putO (it.n+1) (.loop .exhausted pend n fr ps x y)with fr:=⟨mS l,it.n::it.ds,none,sh⟩ }| some (.exit i)=>k (.exit i) { d2.putO (it.n+1) (.loop .exhausted pend n fr ps x y)with fr:=⟨mS l,it.n::it.ds,none,sh⟩ }| _=>none
         else none
       | []=>none
     | _=>none
   | none=>none
def subW (W:Wh R) (it:It):Wh R:=⟨W.C,W.p,it.b,it.sz,some (it.n+2)⟩
def rfS (lo : Rf R):Rf R where
 w W J f ps x y d k:=match W.p.iters (W.b+bqt x y)with
  | none=>none| some it => match vK d.fr.l it.keep with
    | none=>none| some l => match dEv { d with fr:=⟨l,d.fr.ds,d.fr.rd,d.fr.sh⟩ } f with
      | none=>none| some v => match cloV v with
        | none=>none| some (kf,caps)=>bif Nat.beq kf it.f&&Nat.beq d.n it.n&&aqd d.fr.ds it.ds&&d.fr.rd.isNone&&kI caps&&Nat.blt caps.length 900&&bxk l then
          match W.C.P.funcs[it.f]? with
          | none=>none| some F=>match F.body with
            | none=>none| some c=>bif Nat.beq (Nat.max F.ntmps (caps.length+1)) it.sz&&Nat.beq F.results.size 0 then
              dZ (subW W it) lo J c ⟨⟨j1 0 (.raw (.yieldf (it.n+1))::caps),[],none,unF l::d.fr.sh⟩,it.n+2,(it.n+1,some (.loop .ready none W.sz (unF l) ps.toList x y))::(it.n,some (.dfr false))::d.hp,d.m,d.tk⟩ (kIter it k)
              else none
          else none
 f W J f ps x y k l:=match W.p.iters (W.b+bqt x y)with
  | none=>none| some it=>match W.C.P.funcs[it.f]? with
    | none=>none| some F=>match F.body with
      | none=>none| some c=>dR (subW W it) lo J c (kIter it k) l
 k W f ps x y:=match W.p.iters (W.b+bqt x y)with
  | none=>[]| some it=>match W.C.P.funcs[it.f]? with
    | none=>[]| some F=>match F.body with
      | none=>[]| some c=>cY (subW W it) lo c
theorem cloV_c {v:V}{f:FuncId}{l:List V}(h:cloV v=some (f,l)):∀tk,v.ct tk=.func f (V.cs l):=by
 intro tk;unfold cloV at h;split at h;· cases h;rw [V.ct,V.c,V.cs];simp
 · cases h;rw [V.ct,V.c];simp
 · cases h
theorem rfS_ok {lo:Rf R}(LO:RfOK lo K):RfOK (rfS lo) K:=by
 refine⟨fun W J f ps x y k l g hg=>?_,fun W JJ FD hm hng CO JO f ps x y κ hres hnd sh n d fr h r F hk=>?_⟩
 · unfold rfS at hg ⊢;dsimp only at hg ⊢;cases hit:W.p.iters (W.b+bqt x y)with
   | none=>rw [hit]at hg;cases hg| some it=>
   rw [hit]at hg;dsimp only at hg ⊢;cases hFn:W.C.P.funcs[it.f]? with
   | none=>rw [hFn]at hg;cases hg| some Fn=>
   rw [hFn]at hg;dsimp only at hg ⊢;cases hc:Fn.body with
   | none=>rw [hc]at hg;cases hg| some c=>
   rw [hc]at hg;dsimp only at hg ⊢;exact bZ LO.mem hg
 · have hres':=hres;have hnd':=hnd;unfold rfS at hk hres' hnd';dsimp only at hk hres' hnd';split at hk;· cases hk
   rename_i it hit;split at hk;· cases hk
   rename_i l hl;split at hk;· cases hk
   rename_i v hv;split at hk;· cases hk
   rename_i kf caps hcl;obtain⟨hc,hk⟩:=aA hk;simp only [Bool.and_eq_true,Nat.beq_eq,Nat.blt_eq,Option.isNone_iff_eq_none]at hc;obtain⟨⟨⟨⟨⟨⟨c1,c2⟩,c3⟩,c4⟩,c5⟩,c6⟩,c7⟩:=hc;split at hk;· cases hk
   rename_i Fn hFn;split at hk;· cases hk
   rename_i c hcb;obtain⟨hz,hkA⟩:=aA hk;simp only [Bool.and_eq_true,Nat.beq_eq]at hz;obtain⟨hz1,hz2⟩:=hz;subst c1;have c3:=aqc c3;simp only [hit,hFn,hcb]at hres' hnd';obtain⟨v1,E1⟩:=yN (A:=W.A) F hl;refine Top.view v1 ?_;have hev:=aJ E1.fits hv;rw [cloV_c hcl]at hev;have hrd:d.fr.rd=none:=c4;have hh:h=d.H:=F.heap;subst hh;rw [hrd];refine Top.rangeFunc hng (kf:=it.f) (caps:=V.cs caps) ?_ ?_ ?_;· exact hev
   · unfold tO;rw [hFn];simp only [hcb,Option.isSome_some]
   have hn:d.H.n=it.n:=c2;rw [hn];have hH2:((d.H.new (.deferred false)).new (.loop .ready none W.sz (T.ofL (frC d.tk l)) ps.toList x y 0))=(⟨⟨j1 0 (.raw (.yieldf (it.n+1))::caps),[],none,unF l::d.fr.sh⟩,it.n+2,(it.n+1,some (.loop .ready none W.sz (unF l) ps.toList x y))::(it.n,some (.dfr false))::d.hp,d.m,d.tk⟩:D).H:=by
    unfold D.H;rw [mkH_new,mkH_new,c2];have e:(T.ofL (frC d.tk l))=T.ofL ((unF l).map fun p=>(p.1,p.2.c)):=by rw [ak9 d.tk (by rw [nH c7];exact c7),nH c7]
    rw [e];rfl
   have hcs:(EVal.yieldf (it.n+1)::V.cs caps)=V.cs (.raw (.yieldf (it.n+1))::caps):=by rw [V.cs,V.c]
   have hsafe:kI (V.raw (.yieldf (it.n+1))::caps)=true:=by simp only [kI,V.safe,c5,cond_true]
   have hsz:Nat.max Fn.ntmps (V.cs (.raw (.yieldf (it.n+1))::caps)).length=it.sz:=by rw [V.cs_length,List.length_cons];exact hz1
   show CallT W.C.P W.C.g K it.f (.yieldf (it.n+1)::V.cs caps) ((d.H.new (.deferred false)).new (.loop .ready none W.sz (T.ofL (frC d.tk l)) ps.toList x y 0)) _;rw [hH2,hcs];refine CallT.intro hFn hcb ?_;refine Top.view (View.start (n:=it.sz) hsz (by rw [V.cs_length,List.length_cons];omega)) ?_;have E:Exact (unF l::d.fr.sh) W.C.P it.sz ⟨⟨j1 0 (.raw (.yieldf (it.n+1))::caps),[],none,unF l::d.fr.sh⟩,it.n+2,(it.n+1,some (.loop .ready none W.sz (unF l) ps.toList x y))::(it.n,some (.dfr false))::d.hp,d.m,d.tk⟩ (mkF it.sz (dS 0 (V.cs (.raw (.yieldf (it.n+1))::caps)))) (⟨⟨j1 0 (.raw (.yieldf (it.n+1))::caps),[],none,unF l::d.fr.sh⟩,it.n+2,(it.n+1,some (.loop .ready none W.sz (unF l) ps.toList x y))::(it.n,some (.dfr false))::d.hp,d.m,d.tk⟩:D).H:=by refine⟨by rw [rV d.tk hsafe];rfl,rfl,rfl,fun q hq=>?_,F.lens⟩;obtain⟨_,k2,k3⟩:=lP hsafe q hq;simp only [List.length_cons]at k2;exact⟨by omega,k3⟩
   refine Top.unview (Top.mono (cN (W:=subW W it) (rf:=lo) (κ:=fun J=>kIter it (κ J)) hm hng CO LO JO (fun J l g hg=>hres' J l g hg) hnd' E.fits hkA) ?_);rintro e f' h' ⟨f2,h2,v2,m,d2,hmn,F2,k2⟩;refine⟨f2,h2,v2,?_⟩;have hres0:Fn.results.toList=[]:=by
    have:Fn.results.toList.length=0:=by rw [Array.length_toList];exact hz2
    exact List.length_eq_zero_iff.1 this
   have main:(match t8 d2.fr.ds d2 with
    | some d2=>match d2.obj (it.n+1)with
      | some (.loop st pend n fr ps x y)=>match d2.fr.sh with
        | l::sh=>bif idleB st then match pend with
          | none=>κ (JJ m) .normal { d2.putO (it.n+1) (.loop .exhausted pend n fr ps x y)with fr:=⟨mS l,it.n::it.ds,none,sh⟩ }| some .ret=>κ (JJ m) .ret { d2.putO (it.n+1) (.loop .exhausted pend n fr ps x y)with fr:=⟨mS l,it.n::it.ds,none,sh⟩ }| some (.exit i)=>κ (JJ m) (.exit i) { d2.putO (it.n+1) (.loop .exhausted pend n fr ps x y)with fr:=⟨mS l,it.n::it.ds,none,sh⟩ }| _=>none
          else none
        | []=>none
      | _=>none
    | none=>none)=some r→∃h3 es,d8 h2 f2.defers=some h3∧resultsE W.C.P W.C.g h3 f2.tmps Fn.results.toList=some es∧sA (it.n+1) ⟨W.sz,T.ofL (frC d.tk l),it.n::d.fr.ds,none⟩ (jq sh W.A W.C.P W.sz JJ κ n r) (one es) h3:=by
    intro hk;split at hk;rotate_left;· cases hk
    rename_i d3 hd3;obtain⟨ht,F3⟩:=F2.take hd3;split at hk;rotate_left;· cases hk
    rename_i st pend n4 fr4 ps4 x4 y4 ho;refine⟨_,[],ht,by rw [hres0];rfl,?_⟩;have hg:=D.obj_get ho;simp only [DObj.o]at hg;unfold sA;rw [hg];simp only;have hsh:=F3.sh;rw [hsh]at hk;simp only at hk;obtain⟨hid,hk⟩:=aA hk;refine⟨fun e=>(by rw [e]at hid;cases hid),?_⟩;have EF:∀pd:Option Code,Exact sh W.C.P W.sz { d3.putO (it.n+1) (.loop .exhausted pd n4 fr4 ps4 x4 y4)with fr:=⟨mS (unF l),it.n::it.ds,none,d.fr.sh⟩ } ⟨W.sz,T.ofL (frC d.tk l),it.n::d.fr.ds,none⟩ (d3.H.put (it.n+1) (.loop .exhausted pd n4 (T.ofL (fr4.map fun p=>(p.1,p.2.c))) ps4 x4 y4 0)):=by
     intro pd;refine⟨?_,F.sh,?_,fun q hq=>?_,F3.lens⟩
     · rw [nH c7,c3];have:frC d.tk l=frC d3.tk l:=by unfold frC;refine List.map_congr_left fun p hp=>?_;obtain⟨_,u,hu,hs⟩:=sE c7 p hp;simp only [hu,Option.getD_some,V.ct_plain (V.safe_ok hs).1]
       rw [this];rfl
     · show _=(d3.putO (it.n+1) (.loop .exhausted pd n4 fr4 ps4 x4 y4)).H;rw [D.putO_H];rfl
     · rw [nH c7]at hq;obtain⟨k1,u,k2,k3⟩:=sE c7 q hq;exact⟨k1,u,k2,(V.safe_ok k3).2⟩
    split at hk;· exact⟨_,_,View.refl,m,_,hmn,(EF _).fits,hk⟩
    · exact⟨_,_,View.refl,m,_,hmn,(EF _).fits,hk⟩
    · exact⟨_,_,View.refl,m,_,hmn,(EF _).fits,hk⟩
    · cases hk
   cases e with
   | normal=>exact⟨trivial,main k2⟩| ret=>exact⟨trivial,main k2⟩| exit i=>cases k2
def rfN:Nat→Rf R
 | 0=>Rf.none| n+1=>rfS (rfN n)
theorem bxg:∀n,RfOK (rfN (R:=R) n) K
 | 0=>Rf.none_ok| n+1=>rfS_ok (bxg n)
def topW (C:Cfg V) (p:bxV):Wh V:=⟨C.deep 8,p,0,p.sz,none⟩
def dJ (C:Cfg V) (p:bxV) (c:Code) (rs:List ResultVar) (n:Nat):sJ V:=bjW (topW C p) (rfN 2) c (dEnd C.P C.gD rs) n
def dFn (C:Cfg V) (p:bxV) (m:Nat) (c:Code) (rs:List ResultVar) (n:Nat) (vs:List V):Option V:=dZ (topW C p) (rfN 2) (dJ C p c rs n) c (D.begin m vs) (dEnd C.P C.gD rs)
theorem Fn.den {P:Program}{g:G}(hm:P.follows .mixedOrders=true) (hng:mH P) {f:FuncId}{F:List EVal→Option EVal}{fn:Func}(hfn:P.funcs[f]? = some fn) {c:Code}(hc:fn.body=some c) (l:oM) (hl:∀p∈l,Fn P g p.1 p.2)
  (H1:∀args v,F args=some v→∃(C:Cfg V) (p:bxV) (m n:Nat) (vs:List V) (w:V),wE (cY (topW C p) (rfN 2) c)=true∧C.P=P∧C.g=g∧CfgOK C (aN l)∧args=V.cs vs∧kI vs=true∧vs.length<1000∧Nat.max fn.ntmps vs.length=p.sz∧v=w.c∧dFn C p m c fn.results.toList n vs=some w):Fn P g f F:=by
 refine Fn.intro hm hng hfn hc l hl ?_;intro args v hF Q hV;have hQ:=Viewed.of hV;obtain⟨C,p,m,n,vs,w,hnd,rfl,rfl,CO,rfl,hs,hlen,hsz,rfl,hk⟩:=H1 args v hF;have E:Exact [] C.P p.sz (D.begin m vs) (mkF p.sz (dS 0 (V.cs vs))) (mkH 0 [] m []):=by refine⟨by rw [rV [] hs];rfl,rfl,rfl,fun q hq=>?_,fun id els e s h2 _=>by cases h2⟩;obtain⟨_,k2,k3⟩:=lP hs q hq;exact⟨by omega,k3⟩
 refine Top.view (View.trans (View.start (n:=p.sz) (by rw [V.cs_length];exact hsz) (by rw [V.cs_length];exact hlen)) (show View none C.P _ H.start _ (mkH 0 [] m [])from View.mode (n:=0) (m:=0) (l:=[]) (k:=[]) m (Nat.zero_le _))) ?_;have CO4:=CO.deep hm hng 8;refine Top.mono (cN (W:=topW C p) (rf:=rfN 2) (JJ:=dJ C p c fn.results.toList) (FD:=fun J l=>dR (topW C p) (rfN 2) J c (dEnd C.P C.gD fn.results.toList) l) (κ:=fun _=>dEnd C.P C.gD fn.results.toList) hm hng CO4 (bxg 2) bjV (fun J l f hf=>hf) (wD hnd) E.fits hk) ?_;rintro e f' h' ⟨f2,h2,v2,_,d2,_,F2,k2⟩;exact hV _ _ _ ⟨f2,h2,v2,dEnd_ok CO.gd F2 k2⟩
structure Con (P:Program) (g:G) where
 f:FuncId
 F:List EVal→Option EVal
 ok:Fn P g f F
 call:{R:Type}→List V→(V→Option R)→Option R
 sound:∀ {R:Type} (vs:List V) (k:V→Option R) (r:R),call vs k=some r→∃w:V,F (V.cs vs)=some w.c∧w.safe=true∧k w=some r
def conT {P:Program}{g:G}(l:List (Con P g)):oM:=l.map fun c=>(c.f,c.F)
def conD {P:Program}{g:G}{R:Type}:List (Con P g)→KD R
 | [],_,_,_=>none| c::l,fn,vs,k=>bif Nat.beq c.f fn then c.call vs k else conD l fn vs k
theorem conT_ok {P:Program}{g:G}{l:List (Con P g)}:∀p∈conT l,Fn P g p.1 p.2:=by intro p hp;simp only [conT,List.mem_map]at hp;obtain⟨c,_,rfl⟩:=hp;exact c.ok
theorem ayT {P:Program}{g:G}{R:Type}:∀ {l:List (Con P g)},KDOK (R:=R) (aN (conT l)) (conD l)
 | []=>fun fn vs k r h=>by cases h
 | c :: l=>fun fn vs k r h=>by
   simp only [conD]at h;show ∃w:V,aN ((c.f,c.F)::conT l) fn (V.cs vs)=some w.c∧_;rw [known_cons];cases hb:Nat.beq c.f fn with
   | true=>rw [hb]at h;rw [if_pos (Nat.eq_of_beq_eq_true hb)];exact c.sound vs k r h| false=>rw [hb]at h;rw [if_neg (fun e=>by rw [e,Nat.beq_refl]at hb;cases hb)];exact ayT fn vs k r h
end
end Go.Ev
namespace Go.Ev
open Go.RowKit
noncomputable section
structure Cod (α:Type) where
 v:α→V
 ok:V→Bool
 dec:V→α
 e:EVal→Option α
 rt:∀x,e (v x).c=some x
 inv:∀w x,e w=some x→w=(v x).c
 dok:∀u,ok u=true→u.c=(v (dec u)).c
 safe:∀x,(v x).safe=true
 okv:∀x,ok (v x)=true
 dv:∀x,dec (v x)=x
 sp:{R:Type}→α→(V→Option R)→Option R:=fun x k=>k (v x)
 spk:∀ {R:Type} (x:α) (k:V→Option R) (r:R),sp x k=some r→k (v x)=some r:=by intro _ x k r h;exact h
 kb:Bool:=false
 kp:kb=true→∀x,(v x).kept=true:=by intro h;cases h
structure Row (α:Type) where
 v:α→List V
 ok:List V→Bool
 dec:List V→α
 e:List EVal→Option α
 rt:∀x,e (V.cs (v x))=some x
 inv:∀w x,e w=some x→w=V.cs (v x)
 dok:∀u,ok u=true→V.cs u=V.cs (v (dec u))
 safe:∀x,kI (v x)=true
 okv:∀x,ok (v x)=true
 dv:∀x,dec (v x)=x
 sp:{R:Type}→α→(List V→Option R)→Option R:=fun x k=>k (v x)
 spk:∀ {R:Type} (x:α) (k:List V→Option R) (r:R),sp x k=some r→k (v x)=some r:=by intro _ x k r h;exact h
 w:Nat
 len:∀x,(v x).length=w
 kb:Bool
 kp:kb=true→∀x,keptB (v x)=true
def qL {α R:Type}(o:Option α) (a:Option R) (b:α→Option R):Option R:=match o with
 | none=>a| some x=>b x
def akE (k:IntKind):Cod Int where
 v n:=.int k n
 ok
  | .int j _=>decide (j=k)| _=>false
 dec
  | .int _ n=>n| _=>0
 e
  | .int j n=>if j=k then some n else none| _=>none
 rt x:=by simp only [V.c,if_true]
 inv w x h:=by
  split at h
  · split at h;· rename_i hj;cases h;subst hj;simp only [V.c]
    · cases h
  · cases h
 dok u h:=by
  split at h;· rename_i j n;simp only [decide_eq_true_eq]at h;subst h;simp only [V.c]
  · cases h
 safe _:=rfl
 okv _:=by simp
 dv _:=rfl
 kb:=true
 kp _ _:=rfl
abbrev cI:Cod Int:=akE .i64
abbrev cU8:Cod Int:=akE .u8
def cB:Cod Bool where
 v b:=.bool b
 ok
  | .bool _=>true| _=>false
 dec
  | .bool b=>b| _=>false
 e
  | .bool b=>some b| _=>none
 rt x:=by simp only [V.c]
 inv w x h:=by
  split at h;· cases h;simp only [V.c]
  · cases h
 dok u h:=by
  split at h;· simp only [V.c]
  · cases h
 safe _:=rfl
 okv _:=rfl
 dv _:=rfl
 kb:=true
 kp _ _:=rfl
def cS:Cod (List Nat) where
 v b:=.str b
 ok
  | .str _=>true| _=>false
 dec
  | .str b=>b| _=>[]
 e
  | .str b=>some b| _=>none
 rt x:=by simp only [V.c]
 inv w x h:=by
  split at h;· cases h;simp only [V.c]
  · cases h
 dok u h:=by
  split at h;· simp only [V.c]
  · cases h
 safe _:=rfl
 okv _:=rfl
 dv _:=rfl
 kb:=true
 kp _ _:=rfl
def Row.nil:Row Unit where
 v _:=[]
 ok
  | []=>true| _=>false
 dec _:=()
 e
  | []=>some ()| _=>none
 rt x:=by rw [V.cs]
 inv w x h:=by
  split at h;· rw [V.cs]
  · cases h
 dok u h:=by
  split at h;· rfl
  · cases h
 safe _:=rfl
 okv _:=rfl
 dv _:=rfl
 w:=0
 len _:=rfl
 kb:=true
 kp _ _:=rfl
def Row.cons {α β:Type}(A:Cod α) (B:Row β):Row (α×β) where
 v x:=A.v x.1::B.v x.2
 ok
  | a::l=>A.ok a&&B.ok l| []=>false
 dec
  | a::l=>(A.dec a,B.dec l)| []=>(A.dec (.raw .unk),B.dec [])
 e
  | a::l=>(A.e a).bind fun x=>(B.e l).map fun y=>(x,y)
  | []=>none
 rt x:=by rw [V.cs];simp only [A.rt,B.rt,Option.bind_some,Option.map_some]
 inv w x h:=by
  split at h
  · rename_i a l;cases ha:A.e a with
    | none=>rw [ha]at h;cases h| some x1=>
      cases hl:B.e l with
      | none=>rw [ha,hl]at h;cases h| some x2=>rw [ha,hl]at h;cases h;rw [V.cs,A.inv _ _ ha,B.inv _ _ hl]
  · cases h
 dok u h:=by
  split at h;· rename_i a l;simp only [Bool.and_eq_true]at h;simp only [V.cs];rw [A.dok _ h.1,B.dok _ h.2]
  · cases h
 safe x:=by simp only [kI,A.safe,B.safe,cond_true]
 okv x:=by simp only [A.okv,B.okv,Bool.and_self]
 dv x:=by simp only [A.dv,B.dv]
 sp x k:=A.sp x.1 fun a=>B.sp x.2 fun l=>k (a::l)
 spk x k r h:=B.spk _ _ _ (A.spk _ _ _ h)
 w:=B.w+1
 len x:=by simp only [List.length_cons,B.len]
 kb:=A.kb&&B.kb
 kp h x:=by rw [Bool.and_eq_true]at h;simp only [keptB,A.kp h.1,cond_true,B.kp h.2]
def Row.iso {α β:Type}(A:Row α) (to:α→β) (of:β→α) (h1:∀y,to (of y)=y) (h2:∀x,of (to x)=x):Row β where
 v y:=A.v (of y)
 ok:=A.ok
 dec u:=to (A.dec u)
 e w:=(A.e w).map to
 rt y:=by rw [A.rt,Option.map_some,h1]
 inv w y h:=by
  cases ha:A.e w with
  | none=>rw [ha]at h;cases h| some x=>rw [ha]at h;cases h;rw [h2];exact A.inv _ _ ha
 dok u h:=by simp only [h2];exact A.dok u h
 safe y:=A.safe _
 okv y:=A.okv _
 dv y:=by simp only [A.dv,h1]
 w:=A.w
 len y:=A.len _
 kb:=A.kb
 kp h y:=A.kp h _
def Cod.agg {α:Type}(A:Row α):Cod α where
 v x:=.agg (A.v x)
 ok
  | .agg l=>A.ok l| _=>false
 dec
  | .agg l=>A.dec l| _=>A.dec []
 e
  | .agg l=>A.e l| _=>none
 rt x:=by rw [V.c];exact A.rt x
 inv w x h:=by
  split at h;· rw [V.c,A.inv _ _ h]
  · cases h
 dok u h:=by
  split at h;· simp only [V.c];rw [A.dok _ h]
  · cases h
 safe _:=rfl
 okv x:=A.okv x
 dv x:=A.dv x
def Cod.tup {α:Type}(A:Row α):Cod α where
 v x:=.tup (A.v x)
 ok
  | .tup l=>A.ok l| _=>false
 dec
  | .tup l=>A.dec l| _=>A.dec []
 e
  | .tup l=>A.e l| _=>none
 rt x:=by rw [V.c];exact A.rt x
 inv w x h:=by
  split at h;· rw [V.c,A.inv _ _ h]
  · cases h
 dok u h:=by
  split at h;· simp only [V.c];rw [A.dok _ h]
  · cases h
 safe _:=rfl
 okv x:=A.okv x
 dv x:=A.dv x
 sp x k:=A.sp x fun l=>k (.tup l)
 spk x k r h:=A.spk _ _ _ h
def Row.es {α:Type}(A:Row α):List (List EVal)→Option (List α)
 | []=>some []| w::l=>(A.e w).bind fun x=>(A.es l).map fun m=>x::m
theorem Row.es_rt {α:Type}(A:Row α):∀l:List α,A.es (l.map fun x=>V.cs (A.v x))=some l
 | []=>rfl| x::l=>by simp only [List.map_cons,Row.es,A.rt,Row.es_rt A l,Option.bind_some,Option.map_some]
theorem Row.es_inv {α:Type}(A:Row α):∀ {w:List (List EVal)}{l:List α},A.es w=some l→w=l.map fun x=>V.cs (A.v x)
 | [],l,h=>by simp only [Row.es,Oi]at h;subst h;rfl
 | w :: ws,l,h=>by
   simp only [Row.es]at h;cases ha:A.e w with
   | none=>rw [ha]at h;cases h| some x=>
     cases hl:A.es ws with
     | none=>rw [ha,hl]at h;cases h| some m=>rw [ha,hl]at h;cases h;rw [List.map_cons,←A.inv _ _ ha,←Row.es_inv A hl]
theorem wA {α:Type}(d:α) (l:List α):((List.range l.length).map fun i=>l.getD i d)=l:=by
 apply List.ext_getElem;· simp
 · intro i h1 h2;simp only [List.getElem_map,List.getElem_range,List.getD_eq_getElem?_getD,List.getElem?_eq_getElem h2,Option.getD_some]
theorem dE {α β:Type}(d:α) (l:List α) (g:α→β):((List.range l.length).map fun i=>g (l.getD i d))=l.map g:=by
 conv=>rhs;rw [←wA d l]
 rw [List.map_map];rfl
theorem Row.okw {α:Type}(A:Row α) (hk:A.kb=true) (x:α):okW A.w (A.v x)=true:=by unfold okW;rw [A.len,Nat.beq_refl,A.kp hk];rfl
theorem Row.fixed {α:Type}(A:Row α) (hk:A.kb=true) (x:α):(bif okW A.w (A.v x)then V.cs (A.v x)else List.replicate A.w (.bool false))=V.cs (A.v x):=by rw [A.okw hk];rfl
def Cod.list {α:Type}(d:α) (A:Row α) (hk:A.kb=true:=by rfl):Cod (List α) where
 v l:=.fl A.w l.length fun i=>A.v (l.getD i d)
 ok
  | .fl w n f=>(List.range n).all fun i=>okW w (f i)&&A.ok (f i)
  | .el els=>els.all A.ok| _=>false
 dec
  | .fl _ n f=>(List.range n).map fun i=>A.dec (f i)
  | .el els=>els.map A.dec| _=>[]
 e
  | .lsl w=>A.es w| _=>none
 rt l:=by rw [V.c];simp only [A.fixed hk];show A.es _=_;rw [dE d l fun x=>V.cs (A.v x)];exact A.es_rt l
 inv w l h:=by
  split at h;· rw [V.c,A.es_inv h];simp only [A.fixed hk];rw [dE d l fun x=>V.cs (A.v x)]
  · cases h
 dok u h:=by
  split at h;· rename_i w n f;simp only [List.all_eq_true,List.mem_range,Bool.and_eq_true]at h;simp only [V.c,A.fixed hk];rw [dE d _ fun x=>V.cs (A.v x),List.map_map];congr 1;apply List.map_congr_left;intro i hi;rw [(h i (List.mem_range.1 hi)).1];exact A.dok _ (h i (List.mem_range.1 hi)).2
  · rename_i els;simp only [List.all_eq_true]at h;simp only [V.c,A.fixed hk];rw [dE d _ fun x=>V.cs (A.v x),List.map_map,V.css_map];congr 1;apply List.map_congr_left;intro c hc;exact A.dok _ (h c hc)
  · cases h
 safe _:=rfl
 okv l:=by simp only [A.okv,A.okw hk,List.all_eq_true,Bool.and_self,implies_true]
 dv l:=by simp only [A.dv];exact wA d l
 kb:=true
 kp _ _:=rfl
def fnB (f:FuncId):V→Bool
 | .raw (.func g [])=>Nat.beq f g| _=>false
def fnsB:List FuncId→List (List V)→Bool
 | [],[]=>true| f::fs,[v]::vs=>fnB f v&&fnsB fs vs| _,_=>false
theorem fnB_c {f:FuncId}{v:V}(h:fnB f v=true):v.c=.func f []:=by
 unfold fnB at h;split at h;· rw [←Nat.eq_of_beq_eq_true h,V.c]
 · cases h
theorem aq8:∀ {fs:List FuncId}{vs:List (List V)},fnsB fs vs=true→V.css vs=fs.map fun f=>[.func f []]
 | [],[],_=>by rw [V.css];rfl
 | f::fs,[v]::vs,h=>by simp only [fnsB,Bool.and_eq_true]at h;rw [V.css,V.cs,V.cs,fnB_c h.1,aq8 h.2];rfl
 | [],_::_,h=>by cases h
 | _::_,[],h=>by cases h
 | _::_,[]::_,h=>by cases h
 | _::_,(_::_::_)::_,h=>by cases h
theorem azS (fs:List FuncId):fnsB fs (fs.map fun f=>[V.raw (.func f [])])=true:=by
 induction fs with
 | nil=>rfl| cons f fs ih=>simp only [List.map_cons,fnsB,ih,fnB,Nat.beq_refl,Bool.and_self]
def eFns:List FuncId→List (List EVal)→Bool
 | [],[]=>true| f::fs,[.func g []]::vs=>Nat.beq f g&&eFns fs vs| _,_=>false
theorem awx:∀ {fs:List FuncId}{vs:List (List EVal)},eFns fs vs=true→vs=fs.map fun f=>[.func f []]
 | [],[],_=>rfl| f::fs,[.func g []]::vs,h=>by simp only [eFns,Bool.and_eq_true]at h;rw [List.map_cons,←awx h.2,Nat.eq_of_beq_eq_true h.1]
 | [],_::_,h=>by cases h
 | _::_,[],h=>by cases h
 | f :: fs,x::vs,h=>by
   unfold eFns at h;split at h;· rename_i heq;cases heq
   · rename_i f' fs' g vs' h1 h2;cases h1;cases h2;simp only [Bool.and_eq_true]at h;rw [List.map_cons,←awx h.2,Nat.eq_of_beq_eq_true h.1]
   · cases h
theorem eFns_v (fs:List FuncId):eFns fs (fs.map fun f=>[EVal.func f []])=true:=by
 induction fs with
 | nil=>rfl| cons f fs ih=>simp only [List.map_cons,eFns,ih,Nat.beq_refl,Bool.and_self]
def cFns (fs:List FuncId):Cod Unit where
 v _:=.el (fs.map fun f=>[.raw (.func f [])])
 ok
  | .el els=>fnsB fs els| _=>false
 dec _:=()
 e
  | .lsl l=>if eFns fs l=true then some ()else none| _=>none
 rt _:=by rw [V.c,aq8 (azS fs)];simp only [eFns_v,if_true]
 inv w x h:=by
  split at h
  · split at h;· rename_i l hl;rw [V.c,aq8 (azS fs),awx hl]
    · cases h
  · cases h
 dok u h:=by
  split at h;· simp only [V.c];rw [aq8 h,aq8 (azS fs)]
  · cases h
 safe _:=rfl
 okv _:=azS fs
 dv _:=rfl
def Cod.ptr {α:Type}(A:Row α):Cod α where
 v x:=.lptr (A.v x) 0
 ok
  | .lptr l 0=>A.ok l| _=>false
 dec
  | .lptr l _=>A.dec l| _=>A.dec []
 e
  | .lptr l 0=>A.e l| _=>none
 rt x:=by rw [V.c];exact A.rt x
 inv w x h:=by
  split at h;· rw [V.c,A.inv _ _ h]
  · cases h
 dok u h:=by
  split at h;· simp only [V.c];rw [A.dok _ h]
  · cases h
 safe _:=rfl
 okv x:=A.okv x
 dv x:=A.dv x
 kb:=true
 kp _ _:=rfl
def Cod.opt {α:Type}(A:Row α):Cod (Option α) where
 v
  | none=>.raw .nilp| some x=>.lptr (A.v x) 0
 ok
  | .lptr l 0=>A.ok l| .raw .nilp=>true| _=>false
 dec
  | .lptr l _=>some (A.dec l)| _=>none
 e
  | .lptr l 0=>(A.e l).map some| .nilp=>some none| _=>none
 rt x:=by
  cases x with
  | none=>simp only [V.c]| some x=>simp only [V.c,A.rt,Option.map_some]
 inv w x h:=by
  split at h
  · rename_i l;cases ha:A.e l with
    | none=>rw [ha]at h;cases h| some y=>rw [ha]at h;cases h;simp only [V.c,A.inv _ _ ha]
  · cases h;simp only [V.c]
  · cases h
 dok u h:=by
  split at h;· simp only [V.c];rw [A.dok _ h]
  · simp only [V.c]
  · cases h
 safe x:=by cases x<;>rfl
 okv x:=by
  cases x with
  | none=>rfl| some x=>exact A.okv x
 dv x:=by
  cases x with
  | none=>rfl| some x=>exact congrArg some (A.dv x)
 sp x k:=qL x (k (.raw .nilp)) fun x=>k (.lptr (A.v x) 0)
 spk x k r h:=by
  cases x with
  | none=>exact h| some x=>exact h
def Cod.fn {α:Type}(f:FuncId) (A:Row α):Cod α where
 v x:=.fn f (A.v x)
 ok
  | .fn g l=>Nat.beq f g&&A.ok l| _=>false
 dec
  | .fn _ l=>A.dec l| _=>A.dec []
 e
  | .func g l=>if g=f then A.e l else none| _=>none
 rt x:=by rw [V.c];simp only [if_true];exact A.rt x
 inv w x h:=by
  split at h
  · split at h;· rename_i hg;subst hg;rw [V.c,A.inv _ _ h]
    · cases h
  · cases h
 dok u h:=by
  split at h;· simp only [Bool.and_eq_true]at h;simp only [V.c];rw [A.dok _ h.2,Nat.eq_of_beq_eq_true h.1]
  · cases h
 safe _:=rfl
 okv x:=by simp only [Nat.beq_refl,A.okv,Bool.and_self]
 dv x:=A.dv x
def Cod.fn0 (f:FuncId):Cod Unit where
 v _:=.raw (.func f [])
 ok:=fnB f
 dec _:=()
 e
  | .func g []=>if g=f then some ()else none| _=>none
 rt x:=by rw [V.c];simp only [if_true]
 inv w x h:=by
  split at h
  · split at h;· rename_i hg;subst hg;rw [V.c]
    · cases h
  · cases h
 dok u h:=by rw [fnB_c h,V.c]
 safe _:=rfl
 okv x:=Nat.beq_refl f
 dv x:=rfl
structure Els (α:Type) where
 v:α→List (List V)
 ok:List (List V)→Bool
 dec:List (List V)→α
 e:List (List EVal)→Option α
 rt:∀x,e (V.css (v x))=some x
 inv:∀w x,e w=some x→w=V.css (v x)
 dok:∀u,ok u=true→V.css u=V.css (v (dec u))
 okv:∀x,ok (v x)=true
 dv:∀x,dec (v x)=x
def Els.nil:Els Unit where
 v _:=[]
 ok
  | []=>true| _=>false
 dec _:=()
 e
  | []=>some ()| _=>none
 rt x:=by rw [V.css]
 inv w x h:=by
  split at h;· rw [V.css]
  · cases h
 dok u h:=by
  split at h;· rfl
  · cases h
 okv _:=rfl
 dv _:=rfl
def Els.cons {α β:Type}(A:Row α) (B:Els β):Els (α×β) where
 v x:=A.v x.1::B.v x.2
 ok
  | a::l=>A.ok a&&B.ok l| []=>false
 dec
  | a::l=>(A.dec a,B.dec l)| []=>(A.dec [],B.dec [])
 e
  | a::l=>(A.e a).bind fun x=>(B.e l).map fun y=>(x,y)
  | []=>none
 rt x:=by rw [V.css];simp only [A.rt,B.rt,Option.bind_some,Option.map_some]
 inv w x h:=by
  split at h
  · rename_i a l;cases ha:A.e a with
    | none=>rw [ha]at h;cases h| some x1=>
      cases hl:B.e l with
      | none=>rw [ha,hl]at h;cases h| some x2=>rw [ha,hl]at h;cases h;rw [V.css,A.inv _ _ ha,B.inv _ _ hl]
  · cases h
 dok u h:=by
  split at h;· rename_i a l;simp only [Bool.and_eq_true]at h;simp only [V.css];rw [A.dok _ h.1,B.dok _ h.2]
  · cases h
 okv x:=by simp only [A.okv,B.okv,Bool.and_self]
 dv x:=by simp only [A.dv,B.dv]
def Cod.lit {α:Type}(B:Els α):Cod α where
 v x:=.el (B.v x)
 ok
  | .el l=>B.ok l| _=>false
 dec
  | .el l=>B.dec l| _=>B.dec []
 e
  | .lsl l=>B.e l| _=>none
 rt x:=by rw [V.c];exact B.rt x
 inv w x h:=by
  split at h;· rw [V.c,B.inv _ _ h]
  · cases h
 dok u h:=by
  split at h;· simp only [V.c];rw [B.dok _ h]
  · cases h
 safe _:=rfl
 okv x:=B.okv x
 dv x:=B.dv x
 kb:=true
 kp _ _:=rfl
def fOf {α ρ:Type}(A:Row α) (Q:Cod ρ) (S:α→Option ρ):List EVal→Option EVal:=fun args=>(A.e args).bind fun x=>(S x).map fun r=>(Q.v r).c
theorem Fn.weak {P:Program}{g:G}{f:FuncId}{F F':List EVal→Option EVal}(h:Fn P g f F) (hw:∀a v,F' a=some v→F a=some v):Fn P g f F':=fun B0 W0 G a v hF=>h B0 W0 G a v (hw a v hF)
theorem jN {α ρ:Type}{A:Row α}{Q:Cod ρ}{S:α→Option ρ}{a:List EVal}{v:EVal}(h:fOf A Q S a=some v):∃x r,a=V.cs (A.v x)∧S x=some r∧v=(Q.v r).c:=by
 unfold fOf at h;cases ha:A.e a with
 | none=>rw [ha]at h;cases h| some x=>
   rw [ha]at h;simp only [Option.bind_some]at h;cases hs:S x with
   | none=>rw [hs]at h;cases h| some r=>rw [hs]at h;cases h;exact⟨x,r,A.inv _ _ ha,hs,rfl⟩
def aX {α β:Type}:Option α→(α→Option β)→Option β
 | some x,k=>k x| none,_=>none
theorem obind_some {α β:Type}{x:α}{k:α→Option β}:aX (some x) k=k x:=rfl
theorem nW {α β:Type}{f:α→β}{c:Bool}{a b:Option α}:(cond c a b).map f=cond c (a.map f) (b.map f):=by cases c<;>rfl
theorem lV {α β γ:Type}{f:β→γ}{x:Option α}{k:α→Option β}:(aX x k).map f=aX x fun r=>(k r).map f:=by cases x<;>rfl
theorem tC {α β γ:Type}{f:β→γ}{x:Option α}{a:Option β}{k:α→Option β}:(qL x a k).map f=qL x (a.map f) fun r=>(k r).map f:=by cases x<;>rfl
theorem den_ow {ρ:Type}{Q:Cod ρ}{W:ρ→V}(hW:∀r,(W r).c=(Q.v r).c) {t:Nat→Option V}{e:Option ρ}{r:ρ}(n:Nat) (hq:(t n).map V.c=e.map fun r=>(W r).c) (h:e=some r):∃n w,t n=some w∧w.c=(Q.v r).c:=by rw [h]at hq;obtain⟨w,h1,h2⟩:=Option.map_eq_some_iff.1 hq;exact⟨n,w,h1,h2.trans (hW r)⟩
theorem aS {α:Type}{d:α}{A:Row α}{hk:A.kb=true} {l:List α}:(V.el (l.map A.v)).c=((Cod.list d A hk).v l).c:=by show _=(V.fl A.w l.length fun i=>A.v (l.getD i d)).c;rw [V.c,V.c];simp only [A.fixed hk];rw [dE d l fun x=>V.cs (A.v x),V.css_map,List.map_map];rfl
def Con.of {P:Program}{g:G}{α ρ:Type}(f:FuncId) (A:Row α) (Q:Cod ρ) (S:α→Option ρ) (h:Fn P g f (fOf A Q S)):Con P g where
 f:=f
 F:=fOf A Q S
 ok:=h
 call vs k:=cond (A.ok vs) (aX (S (A.dec vs)) fun r=>Q.sp r k) none
 sound vs k r hk:=by
  obtain⟨h1,h2⟩:=aA hk;cases hs:S (A.dec vs)with
  | none=>rw [hs]at h2;cases h2| some x=>rw [hs]at h2;refine⟨Q.v x,?_,Q.safe x,Q.spk _ _ _ h2⟩;unfold fOf;rw [A.dok vs h1,A.rt,Option.bind_some,hs];rfl
def partC1:Code→Nat→Code
 | .seq a _,0=>a| .seq _ b,_=>b| .cond _ a _,0=>a| .cond _ _ b,_=>b| .block _ a,_=>a| .scope a,_=>a| .loop a,_=>a| .rangeFunc _ _ x _,0=>x| .rangeFunc _ _ _ y,_=>y| c,_=>c
def subC (c:Code) (l:List Nat):Code:=l.foldl partC1 c
def bj6 {P:Program}{g:G}(l:List (Con P g)):FuncId→Bool:=fun fn=>l.all fun c=>!Nat.beq c.f fn
theorem az6 {P:Program}{g:G}:∀ {l:List (Con P g)}{fn:FuncId}(ts:List EVal),bj6 l fn=true→aN (conT l) fn ts=none
 | [],fn,ts,_=>rfl| c::l,fn,ts,h=>by unfold bj6 at h;rw [List.all_cons,Bool.and_eq_true]at h;show aN ((c.f,c.F)::conT l) fn ts=none;rw [known_cons,if_neg (fun e=>by rw [e,Nat.beq_refl]at h;cases h.1)];exact az6 ts h.2
def bqs {R:Type}:FuncId→List V→D→(V→D→Option R)→Option R:=fun _ _ _ _=>none
theorem Fn.of {P:Program}{g:G}(hm:P.follows .mixedOrders=true) (hng:mH P) {f:FuncId}{fn:Func}(hfn:P.funcs[f]? = some fn) {c:Code}(hc:fn.body=some c) (l:List (Con P g)) {α ρ:Type}(A:Row α) (Q:Cod ρ) (S:α→Option ρ)
  (C:Cfg V) (p:bxV) (m:Nat) (hP:C.P=P) (hg:C.g=g) (hgd:GD C.g C.gD) (hT:EqT C.P C.T) (hkd:C.kd=conD l) (hno:C.no=bj6 l) (hM:C.M=bqs) (hY:C.Y=bqs) (hn:wE (cY (topW C p) (rfN 2) c)=true) (hlen:∀x,(A.v x).length<1000∧Nat.max fn.ntmps (A.v x).length=p.sz)
  (H1:∀x r,S x=some r→∃n w,dFn C p m c fn.results.toList n (A.v x)=some w∧w.c=(Q.v r).c):Fn P g f (fOf A Q S):=by
 refine Fn.den hm hng hfn hc (conT l) conT_ok ?_;intro args v hF;unfold fOf at hF;cases ha:A.e args with
 | none=>rw [ha]at hF;cases hF| some x=>
   rw [ha]at hF;simp only [Option.bind_some]at hF;cases hs:S x with
   | none=>rw [hs]at hF;cases hF| some r=>rw [hs]at hF;simp only [Option.map_some,Oi]at hF;obtain⟨n,w,h1,h2⟩:=H1 x r hs;exact⟨C,p,m,n,A.v x,w,hn,hP,hg,⟨hgd,hT,by rw [hkd];exact ayT,fun f ts h=>az6 ts (by rw [hno]at h;exact h),fun fn vs d kk r h _=>(by rw [hM]at h;cases h),fun fn vs d kk r h _=>(by rw [hY]at h;cases h)⟩,A.inv _ _ ha,A.safe x,(hlen x).1,(hlen x).2,by rw [←hF,h2],h1⟩
end
end Go.Ev
namespace Go.Ev
open Go.RowKit
noncomputable section
structure Same {α:Type} (a b:α):Prop where
 h:a=b
inductive Tr (ρ L:Type) (st:L→D) (W:ρ→V):Type 1 where
 | n
 | r (x:ρ)
 | w (x:ρ) (y:V) (h:Same y.c (W x).c)
 | g (l:L)
 | j (l:L) (d:D) (h:Same d (st l))
 | i (c:Bool) (a b:Tr ρ L st W)
 | c {α β:Type} (A:Row α) (S:α→Option β) (x:α) (k:β→Tr ρ L st W)
 | v {α β:Type} (A:Row α) (S:α→Option β) (x:List V) (k:β→Tr ρ L st W)
 | s {α:Type} (x:Option α) (a:Tr ρ L st W) (k:α→Tr ρ L st W)
 | t {α:Type} (A:Row α) (l:List α) (x:List (List V)) (h:Same x (l.map A.v)) (k:List α→Tr ρ L st W)
section
variable {ρ L:Type}{st:L→D}{W:ρ→V}
def Tr.m (J:Nat→D→Option V) (u:L→Nat) (t:Tr ρ L st W):Option V:=
 t.rec none (fun x=>some (W x)) (fun _ y _=>some y) (fun l=>J (u l) (st l)) (fun l d _=>J (u l) d) (fun c _ _ a b=>cond c a b)
  (fun A S x _ k=>cond (A.ok (A.v x)) (aX (S (A.dec (A.v x))) k) none)
  (fun A S x _ k=>cond (A.ok x) (aX (S (A.dec x)) k) none) (fun x _ _ a k=>qL x a k)
  (fun A _ x _ _ k=>cond (x.all A.ok) (k (x.map A.dec)) none)
def Tr.d (g:L→Option ρ) (t:Tr ρ L st W):Option ρ:=
 t.rec none (fun x=>some x) (fun x _ _=>some x) (fun l=>g l) (fun l _ _=>g l) (fun c _ _ a b=>cond c a b)
  (fun _ S x _ k=>aX (S x) k) (fun A S x _ k=>cond (A.ok x) (aX (S (A.dec x)) k) none) (fun x _ _ a k=>qL x a k) (fun _ l _ _ _ k=>k l)
theorem Tr.d_n {g:L→Option ρ}:(Tr.n:Tr ρ L st W).d g=none:=(rfl)
theorem Tr.d_r {g:L→Option ρ}{x:ρ}:(Tr.r x:Tr ρ L st W).d g=some x:=(rfl)
theorem Tr.d_w {g:L→Option ρ}{x:ρ}{y:V}{h:Same y.c (W x).c}:(Tr.w x y h:Tr ρ L st W).d g=some x:=(rfl)
theorem Tr.d_g {g:L→Option ρ}{l:L}:(Tr.g l:Tr ρ L st W).d g=g l:=(rfl)
theorem Tr.d_j {g:L→Option ρ}{l:L}{d:D}{h:Same d (st l)}:(Tr.j l d h:Tr ρ L st W).d g=g l:=(rfl)
theorem Tr.d_i {g:L→Option ρ}{c:Bool}{a b:Tr ρ L st W}:(Tr.i c a b).d g=cond c (a.d g) (b.d g):=(rfl)
theorem Tr.d_c {g:L→Option ρ}{α β:Type}{A:Row α}{S:α→Option β}{x:α}{k:β→Tr ρ L st W}:(Tr.c A S x k).d g=aX (S x) fun r=>(k r).d g:=(rfl)
theorem Tr.d_v {g:L→Option ρ}{α β:Type}{A:Row α}{S:α→Option β}{x:List V}{k:β→Tr ρ L st W}:(Tr.v A S x k).d g=cond (A.ok x) (aX (S (A.dec x)) fun r=>(k r).d g) none:=(rfl)
theorem Tr.d_s {g:L→Option ρ}{α:Type}{x:Option α}{a:Tr ρ L st W}{k:α→Tr ρ L st W}:(Tr.s x a k).d g=qL x (a.d g) fun r=>(k r).d g:=(rfl)
theorem Tr.d_t {g:L→Option ρ}{α:Type}{A:Row α}{l:List α}{x:List (List V)}{h:Same x (l.map A.v)}{k:List α→Tr ρ L st W}:(Tr.t A l x h k).d g=(k l).d g:=(rfl)
theorem Tr.m_d {J:Nat→D→Option V}{u:L→Nat}{g:L→Option ρ}(h:∀l,(J (u l) (st l)).map V.c=(g l).map fun r=>(W r).c) (t:Tr ρ L st W):(t.m J u).map V.c=(t.d g).map fun r=>(W r).c:=by
 induction t with
 | n=>rfl| r x=>rfl| w x y hy=>exact congrArg some hy.h| g l=>exact h l| j l d hd=>obtain⟨rfl⟩:=hd;exact h l
 | i c a b ha hb=>show(cond c (a.m J u) (b.m J u)).map _=_;rw [Tr.d_i,nW,nW,ha,hb]| c A S x k ih=>show(cond (A.ok (A.v x)) (aX (S (A.dec (A.v x))) fun r=>(k r).m J u) none).map _=_;rw [A.okv,A.dv,Tr.d_c,cond_true,lV,lV];exact congrArg (aX (S x)) (funext ih)| v A S x k ih=>show(cond (A.ok x) (aX (S (A.dec x)) fun r=>(k r).m J u) none).map _=_;rw [Tr.d_v,nW,nW,lV,lV];rw [show(fun r=>((k r).m J u).map V.c)=fun r=>((k r).d g).map fun r=>(W r).c from funext ih];rfl| s x a k ha ih=>show(qL x (a.m J u) (fun r=>(k r).m J u)).map _=_;rw [Tr.d_s,tC,tC,ha];exact congrArg (qL x _) (funext ih)| t A l x hx k ih=>
   obtain⟨rfl⟩:=hx;show(cond ((l.map A.v).all A.ok) ((k ((l.map A.v).map A.dec)).m J u) none).map _=_;rw [show(l.map A.v).all A.ok=true by rw [List.all_eq_true];intro q hq;obtain⟨y,_,rfl⟩:=List.mem_map.1 hq;exact A.okv y,
    show(l.map A.v).map A.dec=l by rw [List.map_map];exact(List.map_congr_left fun y _=>A.dv y).trans (List.map_id l)]
   exact ih l
def Tr.lp (E:(l:L)→Tr ρ L st W) (n:Nat):L→Option ρ:=n.rec (fun _=>none) fun _ f l=>(E l).d f
theorem Tr.lp_s {E:(l:L)→Tr ρ L st W}{n:Nat}{l:L}:Tr.lp E (n+1) l=(E l).d (Tr.lp E n):=(rfl)
theorem Tr.lp_ok {J:Nat→Nat→D→Option V}{u:L→Nat}{E:(l:L)→Tr ρ L st W}(h0:∀l d,J 0 l d=none)
  (h:∀n l,J (n+1) (u l) (st l)=(E l).m (J n) u):∀n l,(J n (u l) (st l)).map V.c=(Tr.lp E n l).map fun r=>(W r).c
 | 0,l=>by rw [h0];rfl
 | k+1,l=>by rw [h,Tr.m_d (Tr.lp_ok h0 h k)];rfl
end
set_option linter.defProp false in
def TS:=Ai @Tr.d_n (Ai @Tr.d_r (Ai @Tr.d_w (Ai @Tr.d_g (Ai @Tr.d_j (Ai @Tr.d_i (Ai @Tr.d_c (Ai @Tr.d_t @Tr.d_s)))))))
structure Wk (α ρ L:Type) (W:ρ→V) where
 st:α→L→D
 u:L→Nat
 E:(x:α)→Tr ρ L (st x) W
 J:(x:α)→(l:L)→Tr ρ L (st x) W
def Wk.S {α ρ L:Type}{W:ρ→V}(w:Wk α ρ L W) (fuel:α→Nat) (x:α):Option ρ:=(w.E x).d (Tr.lp (w.J x) (fuel x))
theorem Wk.ok {α ρ L:Type}{W:ρ→V}(w:Wk α ρ L W) {fuel:α→Nat}{A:Row α}{Q:Cod ρ}{C:Cfg V}{p:bxV}{m:Nat}{c:Code}{rs:List ResultVar}(hW:∀r,(W r).c=(Q.v r).c)
  (q:∀n x,dFn C p m c rs n (A.v x)=(w.E x).m (dJ C p c rs n) w.u)
  (qJ:∀n x l,dJ C p c rs (n+1) (w.u l) (w.st x l)=(w.J x l).m (dJ C p c rs n) w.u) (x:α) (r:ρ) (h:w.S fuel x=some r) :
  ∃n v,dFn C p m c rs n (A.v x)=some v∧v.c=(Q.v r).c:=by
 refine den_ow hW (fuel x) (t:=fun n=>dFn C p m c rs n (A.v x)) ?_ h;show Option.map V.c (dFn C p m c rs (fuel x) (A.v x))=_;rw [q,Tr.m_d (Tr.lp_ok (J:=dJ C p c rs) (fun _ _=>rfl) (fun n l=>qJ n x l) (fuel x))];rfl
def noL {α:Type}:Nat→Option α:=fun _=>none
def noS:Empty→D:=fun e=>e.rec
def noE {ρ:Type}:Empty→Option ρ:=fun _=>none
def noT {ρ:Type}{W:ρ→V}:(l:Empty)→Tr ρ Empty noS W:=fun e=>e.rec
def wk0 {α ρ:Type}{W:ρ→V}(T:α→Tr ρ Empty noS W):Wk α ρ Empty W:=⟨fun _=>noS,fun _=>0,T,fun _=>noT⟩
def noZ:Nat→Bool:=fun _=>false
def mE (fr:List (Nat×V)) (ds:List Nat) (rd:Option Nat) (sh:List (List (Nat×V))) (n:Nat) (hp:List (Nat×DObj)) (m:Nat) (tk:List (Nat×(List (List V)×TypeId))):D:=⟨⟨fr.map fun p=>(p.1,some p.2),ds,rd,sh⟩,n,hp.map fun p=>(p.1,some p.2),m,tk⟩
def mD (fr:List (Nat×V)) (n:Nat) (hp:List (Nat×DObj)) (m:Nat) (tk:List (Nat×(List (List V)×TypeId))):D:=mE fr [] none [] n hp m tk
abbrev w6 (n:Int):Int:=IntKind.i64.wrap n
end
end Go.Ev
namespace Go.Ev
open Go.RowKit
def eInts (l:List Int):List (List EVal):=l.map fun n=>[.int .i64 n]
def eS:List Int→Int
 | []=>0| n::l=>if n≠0 then n else eS l
theorem tU {l:List Int}{k:Nat}{x:Int}(h:l[k]? = some x):eS (l.drop k)=if x≠0 then x else eS (l.drop (k+1)):=by obtain⟨hk,rfl⟩:=List.getElem?_eq_some_iff.1 h;rw [List.drop_eq_getElem_cons hk];rfl
theorem d7 {n:Int}(h1:-9223372036854775808≤n) (h2:n<9223372036854775808):IntKind.i64.wrap n=n:=by rw [IntKind.wrap_i64];omega
end Go.Ev
namespace Go.Ev
open Go.RowKit
def isP (c:Nat):Bool:=c==66||c==67||c==83||c==70||c==88||c==72
def lastP (c:Nat):Bool:=c==88||c==72
abbrev Cnt:=Int×Int
def full (c:Cnt):Bool:=c.1==4||c.2==3
def stepC (c:Cnt) (x:Nat):Cnt:=if x=66 then(c.1+1,c.2)else if x=67∨x=83 then(c.1,c.2+1)else if x=70 then(if c.2<2 then(c.1,c.2+1)else c)else c
def doneC (c:Cnt) (x:Nat):Bool:=full (stepC c x)||lastP x
def cnt:Cnt→Bool→List Nat→(Cnt×Bool) ⊕ Nat
 | c,d,[]=>.inl (c,d)| c,d,x::l=>if d||!isP x then .inr 0 else
   match cnt (stepC c x) (doneC c x) l with
   | .inl r=>.inl r| .inr k=>.inr (k+1)
theorem wV (c:Cnt) (d:Bool) (l m:List Nat):cnt c d (l++m)=match cnt c d l with
  | .inl (c',d')=>(match cnt c' d' m with | .inl r=>.inl r | .inr k=>.inr (l.length+k))| .inr k=>.inr k:=by
 induction l generalizing c d with
 | nil=>simp only [List.nil_append,cnt,List.length_nil,Nat.zero_add];cases cnt c d m<;>rfl
 | cons x l ih=>
   simp only [List.cons_append,cnt];by_cases h:(d||!isP x)=true;· simp only [h,if_true]
   · simp only [Bool.eq_false_iff.2 h,Bool.false_eq_true,if_false];rw [ih];cases cnt (stepC c x) (doneC c x) l with
     | inr k=>rfl| inl r=>
       obtain⟨c',d'⟩:=r;simp only;cases cnt c' d' m with
       | inl r=>rfl| inr k=>simp only [List.length_cons];congr 1;omega
def okC (c:Cnt) (d:Bool):Prop:=0≤c.1∧0≤c.2∧c.1≤4∧c.2≤3∧(d=false→c.1≤3∧c.2≤2)
theorem axo {c:Cnt}{x:Nat}(h:okC c false):okC (stepC c x) (doneC c x):=by
 obtain⟨h1,h2,h3,h4,h5⟩:=h;obtain⟨h5,h6⟩:=h5 rfl;have:∃a b,c=(a,b):=⟨_,_,rfl⟩;obtain⟨a,b,rfl⟩:=this;unfold doneC okC full stepC;simp only at *
 refine⟨?_,?_,?_,?_,?_⟩;· split<;>(try split)<;>(try split)<;>(try split)<;>simp only<;>omega
 · split<;>(try split)<;>(try split)<;>(try split)<;>simp only<;>omega
 · split<;>(try split)<;>(try split)<;>(try split)<;>simp only<;>omega
 · split<;>(try split)<;>(try split)<;>(try split)<;>simp only<;>omega
 · intro h;simp only [Bool.or_eq_false_iff,beq_eq_false_iff_ne]at h;revert h;split<;>(try split)<;>(try split)<;>(try split)<;>simp only<;>omega
theorem bzA {c:Cnt}{d:Bool}{l:List Nat}{c':Cnt}{d':Bool}(h:okC c d) (hc:cnt c d l=.inl (c',d')):okC c' d':=by
 induction l generalizing c d with
 | nil=>simp only [cnt,Sum.inl.injEq,Prod.mk.injEq]at hc;obtain⟨rfl,rfl⟩:=hc;exact h| cons x l ih=>
   simp only [cnt]at hc;split at hc;· cases hc
   · rename_i hd;simp only [Bool.or_eq_true,Bool.not_eq_true',not_or,Bool.not_eq_true,Bool.not_eq_false]at hd;obtain⟨rfl,_⟩:=hd;cases hr:cnt (stepC c x) (doneC c x) l with
     | inr k=>rw [hr]at hc;cases hc| inl r=>rw [hr]at hc;cases hc;exact ih (axo h) hr
end Go.Ev
namespace Go.Ev
open Go.RowKit
structure Mv where
 f:Int
 t:Int
 o:Bool
 h:List Nat
 b:List Int
def eMove (m:Mv):List EVal:=[.int .i64 m.f,.int .i64 m.t,.bool m.o,.str m.h,.lsl (eInts m.b)]
def qX (l:List Mv):List (List EVal):=l.map eMove
end Go.Ev
namespace Go.Ev
open Go.RowKit
def vO (f:EVal→Option EVal):List EVal→Option (List EVal)
 | []=>some []| v::l=>match f v,vO f l with
   | some a,some b=>some (a::b)| _,_=>none
noncomputable def yZ (P:Program) (h:H):Nat→EVal→Option EVal
 | 0,_=>none| n + 1, v => match v with
   | .agg l=>(vO (yZ P h n) l).map .agg| .tup l=>(vO (yZ P h n) l).map .tup| .slice id off len cap=>match h.get id with
     | some (.row cs e _ _ _)=>match aG P e with
       | some sz=>match takeN cs off (len*sz)with
         | some r=>match vO (yZ P h n) r with
           | some r'=>if capOK len cap=true∧sz≠0 then some (.lsl (chunk sz len r'))else none| none=>none
         | none=>none
       | none=>none
     | _=>none
   | .ptr id off=>match h.get id with
     | some (.row cs _ _ _ _)=>match vO (yZ P h n) cs with
       | some r=>some (.lptr r off)| none=>none
     | _=>none
   | v=>keep1 v
def oB (B0:Nat) (W0:jY) (w:World):Nat→Option (List Value):=fun b=>if b<B0 then W0.fro b else eC w b
section
variable {P:Program}{B0:Nat}{W0:jY}{g:G}{K:aW}
theorem fz_mix {ρ:Loc}{h:H}{w:World}(R:HRel P B0 W0 ρ h w):ρ.fz.le ⟨fun _=>none,oB B0 W0 w,fun _ _=>none⟩:=
 ⟨fun _ _ h=>(by cases h),fun b pre hb=>by
  have hb':ρ.fro b=some pre:=hb;show ∃more,(if b<B0 then W0.fro b else eC w b)=_;by_cases hlt:b<B0;· rw [if_pos hlt,←R.fz0 b hlt];exact⟨[],by rw [hb',List.append_nil]⟩
  · rw [if_neg hlt];exact(awk R.fz).fro b pre hb,fun _ _ _ h=>(by cases h)⟩
theorem awn {ρ:Loc}{h:H}{w:World}(R:HRel P B0 W0 ρ h w):FzOK (oB B0 W0 w) w:=fun b pre hb=>by
 unfold oB at hb;split at hb;· rename_i hlt;exact R.fz b pre (by rw [R.fz0 b hlt];exact hb)
 · exact tS w b pre hb
theorem gQ {ρ A:Loc}{f:EVal→Option EVal}(hf:∀v v' u,VRel ρ v u→f v=some v'→VRel A v' u):∀ {l l':List EVal}{us:List Value},VsRel ρ l us→vO f l=some l'→VsRel A l' us
 | [],l',us,h,hk=>by simp only [vO,Oi]at hk;subst hk;cases h;exact .nil
 | v :: l,l',us,h,hk=>by
   simp only [vO]at hk;split at hk
   · rename_i a b ha hb;simp only [Oi]at hk;subst hk;cases h with
     | cons _ u _ us h hs=>exact .cons _ _ _ _ (hf _ _ _ h ha) (gQ hf hs hb)
   · cases hk
theorem t7 {ρ : Loc} {h:H} {w:World}(R:HRel P B0 W0 ρ h w):∀(n:Nat) (v v':EVal) (u:Value),VRel ρ v u→yZ P h n v=some v'→VRel ⟨fun _=>none,oB B0 W0 w,fun _ _=>none⟩ v' u
 | 0,_,_,_,_,hk=>by cases hk
 | n + 1, v, v', u, hv,hk=>by
   have ih:=t7 R n;have own:∀id b C,ρ id=some (b,C)→∀cv e m,w.heap[b]? = some (.cells cv e m)→oB B0 W0 w b=some cv.toList:=by intro id b C hb cv e m hw;have:=(R.lo _ _ _ hb).1;unfold oB;rw [if_neg (by omega)];simp [eC,hw]
   unfold yZ at hk;split at hk
   · rename_i l;cases hl:vO (yZ P h n) l with
     | none=>rw [hl]at hk;cases hk| some l'=>rw [hl]at hk;cases hk;cases hv with|agg _ cs hc=>exact .agg _ _ (gQ ih hc hl)
   · rename_i l;cases hl:vO (yZ P h n) l with
     | none=>rw [hl]at hk;cases hk| some l'=>rw [hl]at hk;cases hk;cases hv with|tup _ cs hc=>exact .tup _ _ (gQ ih hc hl)
   · rename_i id off len cap;split at hk
     · rename_i cs e lo hi sl hg;split at hk
       · rename_i sz hsz;split at hk
         · rename_i r hr;split at hk
           · rename_i r' hr';split at hk;rotate_left;· cases hk
             rename_i hcond;obtain⟨hcap,hsz0⟩:=hcond;cases hk;unfold takeN at hr;simp only at hr;split at hr
             · rename_i hl;cases hr;have key:∀(b C c':Nat),ρ id=some (b,C)→len≤c'→VRel ⟨fun _=>none,oB B0 W0 w,fun _ _=>none⟩ (.lsl (chunk sz len r')) (.slice (some ⟨b,off,none⟩) len c'):=by
                intro b C c' hb hc;obtain⟨b',C',hb',cv,hw,hrel,_⟩:=R.objs _ _ hg;rw [hb]at hb';cases hb';have h1:=(hrel.drop off).take (len*sz);have h2:=gQ ih h1 hr';have h3:r'.length=len*sz:=by rw [h2.length,←h1.length,hl]
                obtain⟨uss,c1,c2,c3,c4⟩:=eK sz len r' _ h2 h3;by_cases h0:len=0;· subst h0;exact .lsl0 _ _
                have hlen:(chunk sz len r').length=len:=a9 _ _ _;have hfa:=own _ _ _ hb _ _ _ hw;by_cases hoff:off≤cv.toList.length
                · have:=VRel.lsl (ρ:=⟨fun _=>none,oB B0 W0 w,fun _ _=>none⟩) (chunk sz len r') uss b off c' sz cv.toList (((cv.toList.drop off).drop uss.flatten.length)) hfa c1 ?_ hoff c3 (by rw [hlen];exact hc);· rw [hlen]at this;exact this
                  · have hpre:uss.flatten=(cv.toList.drop off).take uss.flatten.length:=by
                     conv=>lhs;rw [c2]
                     have hl3:uss.flatten.length=len*sz:=by rw [eV uss c3,c4]
                     rw [hl3,List.drop_take,List.take_take];have hl2:=hl;simp only [List.length_take,List.length_drop]at hl2;rw [Nat.min_eq_left (by omega)]
                    conv=>lhs;rw [←List.take_append_drop uss.flatten.length (cv.toList.drop off)]
                    rw [←hpre]
                · have hcl:=hrel.length;simp only [List.length_take,List.length_drop,Array.length_toList]at hcl hl hoff;have:0<len*sz:=Nat.mul_pos (by omega) (by omega);omega
               cases hv with
               | slice _ _ _ c b C hb=>exact key _ _ _ hb (by simpa [capOK]using hcap)| slack _ _ _ _ c b C hb hc hn=>exact key _ _ _ hb hn
             · cases hr
           · cases hk
         · cases hk
       · cases hk
     · cases hk
   · rename_i id off;split at hk
     · rename_i cs e lo hi sl hg;split at hk
       · rename_i r hr;cases hk;cases hv with
         | ptr _ _ b C hb=>
           obtain⟨b',C',hb',cv,hw,hrel,_⟩:=R.objs _ _ hg;rw [hb]at hb';cases hb';have:=VRel.lptr (ρ:=⟨fun _=>none,oB B0 W0 w,fun _ _=>none⟩) r off (cv.toList.take cs.length) b 0 cv.toList (cv.toList.drop cs.length) (own _ _ _ hb _ _ _ hw)
            (gQ ih hrel hr) (by rw [List.drop_zero,List.take_append_drop]) (Nat.zero_le _)
           rwa [Nat.zero_add]at this
       · cases hk
     · cases hk
   · exact((jJ hv hk).1).mono (fz_mix R)
noncomputable def aF (P:Program) (v:EVal):Option (List Out)→Bool
 | some l=>l.all fun o=>match o with
   | .val x h=>match yZ P h 9 x with
     | some y=>EVal.beq y v| none=>false
   | _=>false
 | none=>false
end
end Go.Ev
namespace Go.Ev
def tbl:List (List EVal×EVal)→List EVal→Option EVal
 | [],_=>none| (a,v)::l,b=>bif akG a b then some v else tbl l b
theorem akW:∀ {l:List (List EVal×EVal)}{a:List EVal}{v:EVal},tbl l a=some v→(a,v)∈l
 | (b, u)::l,a,v,h=>by
   simp only [tbl,Bool.cond_eq_ite]at h;split at h;· rename_i hb;have:=lE hb;subst this;cases h;exact .head _
   · exact .tail _ (akW h)
end Go.Ev
namespace Go.Ev
open Go.RowKit
section
variable {P:Program}{B0:Nat}{W0:jY}{g:G}{K:aW}
end
end Go.Ev
namespace Go.Ev
open Go.RowKit
theorem Fn.run0 {P:Program}{g:G}(hm:P.follows .mixedOrders=true) (hng:mH P) (l:oM) (hl:∀p∈l,Fn P g p.1 p.2) {f:FuncId}{F:List EVal→Option EVal}{n:Nat}
  (H1:∀a v,F a=some v→aF P v (Go.Ev.run P g (aN l) n (.call f a H.start0))=true):Fn P g f F:=by
 intro B0 W0 G a v hF vs fro w hvs hfz hb hs;have h:=H1 a v hF;have G1:GRel w.heap.size w g:=G.grow hb hs;cases hr:Go.Ev.run P g (aN l) n (.call f a H.start0)with
 | none=>rw [hr]at h;cases h| some outs=>
   rw [hr]at h;have hall:=List.all_eq_true.1 h;refine(((nR hm hng G1 (yL (W0:=⟨w,fro⟩) G1 l hl) n).call f a _ outs hr vs _ w hvs (HRel.start0 w hfz))).mono ?_;rintro e w' ⟨x,h',u,ρ,hmem,rfl,hle,hv,hR⟩;have:=hall _ hmem;simp only at this;split at this;· rename_i y hy;have e:=EVal.beq_eq this;subst e;exact⟨u,eC w',rfl,t7 hR 9 _ _ _ hv hy,hR.below,awn hR⟩
   · cases this
theorem Fn.tbl0 {P:Program}{g:G}(hm:P.follows .mixedOrders=true) (hng:mH P) (l:oM) (hl:∀p∈l,Fn P g p.1 p.2) {f:FuncId}{rows:List (List EVal×EVal)}{n:Nat}
  (H1:∀p∈rows,aF P p.2 (Go.Ev.run P g (aN l) n (.call f p.1 H.start0))=true):Fn P g f (Go.Ev.tbl rows):=
 Fn.run0 hm hng l hl (n:=n) fun a v h=>H1 (a,v) (akW h)
end Go.Ev
namespace Go.Ev
open Go.RowKit
end Go.Ev
namespace Go.Ev
open Go.RowKit
abbrev ρ0 (w:World):Loc:=⟨fun _=>none,eC w,fun _ _=>none⟩
theorem VssRel.map {ρ:Loc}{E:Nat→List EVal}{C:Nat→List Value}:∀ {l:List Nat},(∀i∈l,VsRel ρ (E i) (C i))→VssRel ρ (l.map E) (l.map C)
 | [],_=>.nil| i::l,h=>.cons _ _ _ _ (h i List.mem_cons_self) (VssRel.map fun j hj=>h j (List.mem_cons_of_mem _ hj))
theorem VRel.rows {w:World}{a:Addr}{len cap sz:Nat}(hcap:len≤cap) (hsz:0<sz) (E:Nat→List EVal) (C:Nat→List Value)
  (hC:∀i,i<len→w.cells? 0 (a.add (i*sz)) sz=some (C i)) (hE:∀i,i<len→VsRel (ρ0 w) (E i) (C i)) :
  VRel (ρ0 w) (.lsl ((List.range len).map E)) (.slice (some a) len cap):=by
 by_cases h0:len=0;· subst h0;exact .lsl0 a cap
 have hc:∀i,i<len→(C i).length=sz∧∀j,j<sz→w.cell? ((a.add (i*sz)).add j)=(C i)[j]? := fun i hi=>by obtain⟨_,h1,h2⟩:=World.cells?_some (hC i hi);exact⟨h1,h2⟩
 obtain⟨v,hv⟩:∃v,w.cell? a=some v:=by obtain⟨h1,h2⟩:=hc 0 (by omega);have:=h2 0 hsz;simp only [Nat.zero_mul,Addr.add,if_true]at this;rw [this];exact⟨_,List.getElem?_eq_getElem (by omega)⟩
 obtain⟨b,off,spot⟩:=a;unfold World.cell? at hv;split at hv;rotate_left;· cases hv
 rename_i cs e m hw;simp only at hw;split at hv;· cases hv
 rename_i hsp;obtain rfl:spot=none:=by cases spot with
  | none=>rfl| some x=>simp at hsp
 simp only at hv;have hoff:off<cs.size:=(Array.getElem?_eq_some_iff.1 hv).1;have hcell:∀o,w.cell? ⟨b,o,none⟩=cs.toList[o]? := fun o=>by unfold World.cell?;simp only [hw];simp
 have hrow:∀n,n<len→(cs.toList.drop (off+n*sz)).take sz=C n:=fun n hn=>by
  obtain⟨h1,h2⟩:=hc n hn;apply List.ext_getElem?;intro j;by_cases hj:j<sz;· rw [List.getElem?_take_of_lt hj,List.getElem?_drop,←hcell,←h2 j hj];congr 1;simp only [Addr.add];by_cases e1:n*sz=0<;>by_cases e2:j=0<;>simp [e1,e2]
  · rw [List.getElem?_eq_none (by rw [List.length_take];omega),List.getElem?_eq_none (by omega)]
 have key:∀n,n≤len→(cs.toList.drop off).take (n*sz)=((List.range n).map C).flatten:=by
  intro n;induction n with
  | zero=>intro _;simp| succ n ih=>intro hn;rw [Nat.succ_mul,List.take_add,ih (by omega),List.range_succ,List.map_append,List.flatten_append,List.drop_drop];simp only [List.map_cons,List.map_nil,List.flatten_cons,List.flatten_nil,List.append_nil];rw [hrow n (by omega)]
 have hl:((List.range len).map E).length=len:=by simp
 have:=VRel.lsl (ρ:=ρ0 w) ((List.range len).map E) ((List.range len).map C) b off cap sz cs.toList ((cs.toList.drop off).drop (len*sz)) (by show eC w b=_;unfold eC;rw [hw])
  (VssRel.map fun i hi=>hE i (by simpa using hi)) (by rw [←key len (Nat.le_refl _),List.take_append_drop]) (by simp;omega)
  (fun u hu=>by obtain⟨i,hi,rfl⟩:=List.mem_map.1 hu;exact(hc i (by simpa using hi)).1) (by rw [hl];exact hcap)
 rw [hl]at this;exact this
end Go.Ev
namespace Go.Ev
open Go.ChangeShapes Go.WideShapes Go.ChangeAt Go.RowKit Go.Lib Go.Joins Go.Deep
inductive Kd where
 | i (k:IntKind)
 | b
 | s
 | l (ks:List Kd)
def nZ (P:Program) (f:TypeId→Option (List Kd)):List Field→Nat→Option (List Kd)
 | [],_=>some []| x::fs,o=>match f x.type,nZ P f fs (o+P.cellsOf x.type)with
   | some a,some b=>bif Nat.beq x.offset o&&Nat.beq a.length (P.cellsOf x.type)then some (a++b)else none| _,_=>none
def kdRep (ks:List Kd):Nat→List Kd
 | 0=>[]| n+1=>ks++kdRep ks n
def kdT (P:Program):Nat→TypeId→Option (List Kd)
 | 0,_=>none| n + 1,t=>match P.underlying t with
   | some .bool=>some [.b]| some (.int k)=>some [.i k]| some .string=>some [.s]| some (.struct fs)=>match nZ P (kdT P n) fs.toList 0 with
     | some ks=>bif Nat.beq ks.length (P.cellsOf t)then some ks else none| none=>none
   | some (.array m e)=>match kdT P n e with
     | some ks=>bif Nat.beq ks.length (P.cellsOf e)&&Nat.beq (m*ks.length) (P.cellsOf t)then some (kdRep ks m)else none| none=>none
   | some (.slice e)=>match kdT P n e with
     | some ks=>bif Nat.beq ks.length (P.cellsOf e)&&Nat.blt 0 ks.length then some [.l ks]else none| none=>none
   | _=>none
mutual
inductive ayw:Kd→EVal→Prop
 | i (k:IntKind) (n:Int) (h:(Lit.int k n).wf=true):ayw (.i k) (.int k n)
 | b (b:Bool):ayw .b (.bool b)
 | s (s:ByteArray) (h:s.size≤maxLen):ayw .s (.str (s.data.toList.map UInt8.toNat))
 | l (ks:List Kd) (rows:List (List EVal)) (hl:rows.length≤maxLen) (h:SuitR ks rows):ayw (.l ks) (.lsl rows)
inductive Suits:List Kd→List EVal→Prop
 | nil:Suits [] []
 | cons (k:Kd) (ks:List Kd) (e:EVal) (es:List EVal) (h:ayw k e) (hs:Suits ks es):Suits (k::ks) (e::es)
inductive SuitR:List Kd→List (List EVal)→Prop
 | nil (ks:List Kd):SuitR ks []
 | cons (ks:List Kd) (r:List EVal) (rs:List (List EVal)) (h:Suits ks r) (hs:SuitR ks rs):SuitR ks (r::rs)
end
theorem Suits.append {a b:List Kd}{x y:List EVal}(h:Suits a x) (h2:Suits b y):Suits (a++b) (x++y):=by
 induction a generalizing x with
 | nil=>cases h;exact h2| cons k ks ih=>cases h with|cons _ _ e es h hs=>exact .cons _ _ _ _ h (ih hs)
theorem SuitR.range {ks:List Kd}{E:Nat→List EVal}:∀ {l:List Nat},(∀i∈l,Suits ks (E i))→SuitR ks (l.map E)
 | [],_=>.nil _| i::l,h=>.cons _ _ _ (h i List.mem_cons_self) (SuitR.range fun j hj=>h j (List.mem_cons_of_mem _ hj))
section
variable {H:Type}{enc:TypeId×Value→H}{P:Program}{w:World}
theorem mP {f:TypeId→Option (List Kd)}{tr:TypeId→List Value→Option (DataW H×List MemPlace)}{cs:List Value}
  (hf:∀t ks c p,f t=some ks→tr t c=some p→∃es,VsRel (ρ0 w) es c∧Suits ks es):∀ {fs:List Field} {xs:List (DataW H×List MemPlace)} {o:Nat} {ks:List Kd},
  nZ P f fs o=some ks→xs.length=fs.length→(∀(i:Nat) (x:Field),fs[i]? = some x→tr x.type ((cs.drop x.offset).take (P.cellsOf x.type))=xs[i]?)→∃es,VsRel (ρ0 w) es ((cs.drop o).take ks.length)∧Suits ks es
 | [],xs,o,ks,h,_,_=>by simp only [nZ,Oi]at h;subst h;exact⟨[],by simpa using VsRel.nil,.nil⟩
 | x::fs,[],o,ks,h,hl,_=>by simp at hl
 | x :: fs,y::ys,o,ks,h,hl,ht=>by
   simp only [nZ]at h;split at h
   · rename_i a b ha hb;simp only [Bool.cond_eq_ite]at h;split at h;· rename_i hx;simp only [Bool.and_eq_true,Nat.beq_eq]at hx;simp only [Oi]at h;subst h;obtain⟨hxo,hal⟩:=hx;have h0:=ht 0 x rfl;rw [hxo]at h0;obtain⟨e1,r1,f1⟩:=hf _ _ _ y ha (by rw [h0];rfl);obtain⟨e2,r2,f2⟩:=mP hf hb (by simpa using hl) (fun i z hz=>ht (i+1) z (by simpa using hz));refine⟨e1++e2,?_,f1.append f2⟩;rw [List.length_append,List.take_add,List.drop_drop,hal];exact r1.append r2
     · cases h
   · cases h
theorem tM {tr:List Value→Option (DataW H×List MemPlace)}{c:Nat}{cs:List Value}{ks:List Kd}(hc:ks.length=c)
  (hf:∀u p,tr u=some p→∃es,VsRel (ρ0 w) es u∧Suits ks es) {xs:List (DataW H×List MemPlace)}:∀ {m k:Nat},k+m≤xs.length→(∀(i:Nat),i<xs.length→tr ((cs.drop (i*c)).take c)=xs[i]?)→∃es,VsRel (ρ0 w) es ((cs.drop (k*c)).take (m*c))∧Suits (kdRep ks m) es
 | 0,k,_,_=>⟨[],by simpa using VsRel.nil,.nil⟩| m+1,k,hk,ht=>by have h0:=ht k (by omega);obtain⟨e1,r1,f1⟩:=hf _ _ (by rw [h0];exact List.getElem?_eq_getElem (show k<xs.length by omega));obtain⟨e2,r2,f2⟩:=tM hc hf (m:=m) (k:=k+1) (by omega) ht;refine⟨e1++e2,?_,f1.append f2⟩;rw [show(m+1)*c=c+m*c by rw [Nat.succ_mul];omega,List.take_add,List.drop_drop,show k*c+c=(k+1)*c by rw [Nat.succ_mul]];exact r1.append r2
theorem bqp : ∀(n:Nat) {m:Nat}{t:TypeId}{cs:List Value}{x:DataW H×List MemPlace}{ks:List Kd},kdT P n t=some ks→DataW.trod enc P w 0 (fun _=>true) true m t cs=some x→∃es,VsRel (ρ0 w) es cs∧Suits ks es
 | 0,_,_,_,_,_,h,_=>by cases h
 | n + 1, m, t,cs,x,ks,h,ht=>by
   simp only [kdT]at h;split at h;· rename_i hu;simp only [Oi]at h;subst h;obtain⟨b,rfl,_⟩:=DataW.trod_bool hu ht;exact⟨_,.cons _ _ _ _ (.bool b) .nil,.cons _ _ _ _ (.b _) .nil⟩
   · rename_i k hu;simp only [Oi]at h;subst h;obtain⟨z,rfl,_,hw⟩:=DataW.trod_int hu ht;exact⟨_,.cons _ _ _ _ (.int k z) .nil,.cons _ _ _ _ (.i _ _ hw) .nil⟩
   · rename_i hu;simp only [Oi]at h;subst h;obtain⟨s,rfl,_,hs⟩:=DataW.trod_string hu ht;exact⟨_,.cons _ _ _ _ (.str _ s rfl) .nil,.cons _ _ _ _ (.s s hs) .nil⟩
   · rename_i fs hu;split at h
     · rename_i ks' hk;simp only [Bool.cond_eq_ite]at h;split at h;· rename_i hl;simp only [Nat.beq_eq]at hl;simp only [Oi]at h;subst h;obtain⟨xs,m',_,_,hcl,hxl,hxs⟩:=DataW.trod_struct hu ht;obtain⟨es,r,f⟩:=mP (tr:=fun t c=>DataW.trod enc P w 0 (fun _=>true) true m' t c) (cs:=cs) (fun t ks c p h1 h2=>bqp n h1 h2) hk (by simpa using hxl) (fun i x hx=>hxs i x (by rw [←Array.getElem?_toList];exact hx));rw [List.drop_zero,hl,←hcl,List.take_length]at r;exact⟨es,r,f⟩
       · cases h
     · cases h
   · rename_i k e hu;split at h
     · rename_i ks' hk;simp only [Bool.cond_eq_ite]at h;split at h;· rename_i hl;simp only [Bool.and_eq_true,Nat.beq_eq]at hl;simp only [Oi]at h;subst h;obtain⟨xs,m',_,_,hcl,hxl,hxs⟩:=DataW.trod_array hu ht;obtain⟨es,r,f⟩:=tM (tr:=fun c=>DataW.trod enc P w 0 (fun _=>true) true m' e c) (cs:=cs) (ks:=ks') hl.1 (fun u p h2=>bqp n hk h2) (xs:=xs) (m:=k) (k:=0) (by omega) (fun i hi=>hxs i (by omega));rw [Nat.zero_mul,List.drop_zero,←hl.1,hl.2,←hcl,List.take_length]at r;exact⟨es,r,f⟩
       · cases h
     · cases h
   · rename_i e hu;split at h
     · rename_i ks' hk;simp only [Bool.cond_eq_ite]at h;split at h
       · rename_i hl;simp only [Bool.and_eq_true,Nat.beq_eq,Nat.blt_eq]at hl;simp only [Oi]at h;subst h;rcases open_slice hu ht with⟨hcs,_⟩ | ⟨a,len,cap,m',n',D,Pl,hcs,_,hlc,hcm,hmm,_,hx⟩;· subst hcs;exact⟨[.lsl []],.cons _ _ _ _ .lsln .nil,.cons _ _ _ _ (.l _ _ (Nat.zero_le _) (.nil _)) .nil⟩
         · subst hcs;have hle:len≤m':=by rw [hmm];simp;omega
           obtain⟨C,hC⟩:=choose_lt (α:=List Value) (n:=len) (p:=fun i cs=>w.cells? 0 (a.add (i*P.cellsOf e)) (P.cellsOf e)=some cs∧∃es,VsRel (ρ0 w) es cs∧Suits ks' es) (fun i hi=>by
            obtain⟨cs',h1,h2⟩:=hx i (by omega);exact⟨cs',h1,bqp n hk h2⟩)
           obtain⟨V,hV⟩:=choose_lt (α:=List EVal) (n:=len) (p:=fun i es=>VsRel (ρ0 w) es (C i)∧Suits ks' es) (fun i hi=>(hC i hi).2);refine⟨[.lsl ((List.range len).map V)],.cons _ _ _ _ (VRel.rows hlc (by omega) V C (fun i hi=>(hC i hi).1) (fun i hi=>(hV i hi).1)) .nil,.cons _ _ _ _ (.l _ _ (by simp;omega) (SuitR.range fun i hi=>(hV i (by simpa using hi)).2)) .nil⟩
       · cases h
     · cases h
   · cases h
theorem bqo {r:Reach}{b0 n:Nat}{t:TypeId}{v:Value}{d:DataW H}{p:List MemPlace}{k:Kd}(hk:kdT P n t=some [k]) (ht:(match P.underlying t with|some (.int _)=>true|some .string=>true|some .bool=>true|some (.slice _)=>true|_=>false)=true)
  (hv:Value.okWide P w r b0 t v) (h:DataW.Trod enc P w 0 (fun _=>true) true t v d p):∃e,VRel (ρ0 w) e v∧ayw k e:=by
 have hc:v.cells.toList=[v]:=by
  split at ht;· rename_i q hu;obtain⟨n,rfl⟩:=okWide_int hu hv;rfl
  · rename_i hu;obtain⟨fuel,hf⟩:=h;obtain⟨s,hs,_⟩:=DataW.trod_string hu hf;unfold Value.okWide at hv;rw [hu]at hv;cases v<;>first|rfl|(simp [Cell.okWide,Cell.ok,hu]at hv)
  · rename_i hu;unfold Value.okWide at hv;rw [hu]at hv;cases v<;>first|rfl|(simp [Cell.okWide,Cell.ok,hu]at hv)
  · rename_i e hu;obtain⟨a,len,cap,rfl⟩:=okWide_slice hu hv;rfl
  · cases ht
 obtain⟨fuel,hf⟩:=h;rw [hc]at hf;obtain⟨es,h1,h2⟩:=bqp n hk hf;cases h2 with
 | cons _ _ e es h hs=>
   cases hs;cases h1 with
   | cons _ _ _ _ r rs=>exact⟨e,r,h⟩
end
noncomputable section
def KC {α:Type}(A:Cod α) (k:Kd):Prop:=∀e,ayw k e→∃x,e=(A.v x).c
def KR {α:Type}(A:Row α) (ks:List Kd):Prop:=∀es,Suits ks es→∃x,es=V.cs (A.v x)
theorem KC.int (k:IntKind):KC (akE k) (.i k):=fun e h=>by cases h with|i _ n _=>exact⟨n,rfl⟩
theorem KC.bool:KC cB .b:=fun e h=>by cases h with|b x=>exact⟨x,rfl⟩
theorem KC.str:KC cS .s:=fun e h=>by cases h with|s x _=>exact⟨_,rfl⟩
theorem KR.nil:KR Row.nil []:=fun es h=>by cases h;exact⟨(),rfl⟩
theorem KR.cons {α β:Type}{A:Cod α}{B:Row β}{k:Kd}{ks:List Kd}(h1:KC A k) (h2:KR B ks):KR (Row.cons A B) (k::ks):=fun es h=>by
 cases h with
 | cons _ _ e es h hs=>obtain⟨x,rfl⟩:=h1 _ h;obtain⟨y,rfl⟩:=h2 _ hs;exact⟨(x,y),rfl⟩
theorem KR.iso {α β:Type}{A:Row α}{to:α→β}{of:β→α}{g1:∀y,to (of y)=y} {g2:∀x,of (to x)=x} {ks:List Kd}(h:KR A ks):KR (Row.iso A to of g1 g2) ks:=fun es he=>by obtain⟨x,rfl⟩:=h _ he;exact⟨to x,by show _=V.cs (A.v (of (to x)));rw [g2]⟩
theorem KC.list {α:Type}{d:α}{A:Row α}{hk:A.kb=true} {ks:List Kd}(h:KR A ks):KC (Cod.list d A hk) (.l ks):=fun e he=>by
 cases he with
 | l _ rows hl hr=>
   have : ∃l:List α,rows=l.map fun x=>V.cs (A.v x):=by
    clear hk hl;induction rows with
    | nil=>exact⟨[],rfl⟩| cons r rs ih=>
      cases hr with
      | cons _ _ _ h1 hs=>obtain⟨x,rfl⟩:=h _ h1;obtain⟨l,rfl⟩:=ih hs;exact⟨x::l,rfl⟩
   obtain⟨l,rfl⟩:=this;exact⟨l,(Cod.list d A hk).inv _ _ (A.es_rt l)⟩
end
end Go.Ev
namespace Go.Ev
open Go.ChangeShapes Go.WideShapes Go.ChangeAt Go.RowKit Go.Lib Go.Joins Go.Deep
section
variable {H:Type}{enc:TypeId×Value→H}{P:Program}
theorem yH {f:Func}{s:ChangeSpec}{apart fresh handsOn again:Bool}{W W':World}{args:Array Value}{v:Value}{ds gs:List (DataW H)}{before pa pv:List MemPlace}
  (hW:DataW.Whole enc P f.params.toList s.vars apart W args.toList ds gs before)
  (hres:∀(b:Nat) (sp:Nat→Bool) (hd:Bool),DataW.TrodAll enc P W' b sp hd f.resultTypes.toList (v.resultList f.resultTypes.size) (s.fn H (ds++gs)).results [])
  (hargs:∀sp:Nat→Bool,(∀p∈before,sp p.block=true)→DataW.TrodAll enc P W' 0 sp true f.params.toList args.toList (s.fn H (ds++gs)).args pa)
  (hvars:∀sp:Nat→Bool,(∀p∈before,sp p.block=true)→DataW.TrodVars enc P W' sp s.vars (s.fn H (ds++gs)).vars pv)
  (hps:before=pa++pv) (hb:Below W.heap.size W W')
  (hok:∀(j:Nat) (t:TypeId) (r:Value),f.resultTypes[j]? = some t→(v.resultList f.resultTypes.size)[j]? = some r→Value.okWide P W' .any 0 t r) :
  s.post enc P f apart fresh handsOn again W args v W':=by
 have hlt:∀p∈before,p.block<W.heap.size:=fun p hp=>hW.lt p hp;have hold:∀p∈before,(fun b=>decide (b<W.heap.size)) p.block=true:=fun p hp=>by simpa using hlt p hp
 refine⟨ds,gs,before,[],pa,pv,hW,hres _ _ _,hargs _ hold,hvars _ hold,World.keptBut_mono (fun p hp=>⟨hp,?_⟩) (hb.frame (·∈before)),fun _=>?_⟩;· rw [hps,List.mem_append]at hp;exact Or.inr hp
 · obtain ⟨_,_,_,_,_,hz,hn⟩:=hW;refine⟨hok,_,_,([]++pa)++pv,⟨[]++pa,pv,trodAll_append (hargs _ (fun _ _=>rfl)) (hres _ _ _),hvars _ (fun _ _=>rfl),rfl,?_,?_⟩,?_⟩
   · intro b off hp;have hin:MemPlace.cell b off∈before:=by rw [hps];simpa using hp
     rw [hb.frozen (hlt _ hin)];exact hz b off hin
   · intro ha;have:=hn ha;rw [hps]at this;simpa using this
   · intro p hp _;rw [hps];simpa using hp
end
theorem kO {P:Program}{x:String×DataW Unit}{l:List (String×DataW Unit)}{W:World}(h:laidMet P (x::l) W):laidMet P l W:=by obtain⟨n,d⟩:=x;obtain⟨ps,⟨g,t,cs,fuel,p,q,_,_,_,_,hr,rfl⟩,hn,hb⟩:=h;exact⟨q,hr,(List.nodup_append.1 hn).2.1,fun b off hm=>hb b off (List.mem_append_right _ hm)⟩
def layV:Nat→DataW Unit→List Value
 | 0,_=>[]| n+1,d=>match d with
   | .lit (.bool b)=>[.bool b]| .lit (.int k m)=>[.int k m]| .lit (.string l)=>[.string ⟨l.toArray⟩]| .agg ds=>(ds.map (layV n)).flatten| _=>[]
def layH:List (Nat×DataW Unit)→Array Obj→Array Obj
 | [],h=>h| (g,d)::l,h=>layH l (h.modify g fun
   | .cells _ t frozen=>.cells (layV 9 d).toArray t frozen| o=>o)
end Go.Ev
set_option linter.defProp false
namespace Go.Ev
open Go.RowKit
def SS0:=Ai (Ai (Ai (Ai (Ai (Ai (Ai (@wp_seq) (Ai (@wp_region) (@wp_block))) (Ai (Ai (@wp_scope) (@wp_exit)) (Ai (@wp_skip) (@wp_label)))) (Ai (Ai (@wp_ret) (Ai (@wp_cond) (@loopQ_normal))) (Ai (Ai (@loopQ_exit) (@loopQ_ret)) (Ai (@seqQ_normal) (@seqQ_exit))))) (Ai (Ai (Ai (@seqQ_ret) (Ai (@blockQ_normal) (@blockQ_exit))) (Ai (Ai (@blockQ_ret) (@wpCond_true)) (Ai (@wpCond_false) (@wpOps_cons)))) (Ai (Ai (@wpOps_nil) (Ai (@wpStep_true) (@wpStep_false))) (Ai (Ai (@wpNext_q) (@wpOp_eq)) (Ai (@wpOpB_false) (@wpOut_val)))))) (Ai (Ai (Ai (Ai (@wpOut_enter) (Ai (@wpKc_some) (@wpDraw_cons))) (Ai (Ai (@wpDraw_nil) (@wpDStep_true)) (Ai (@wpDStep_false) (@wpDNext_q)))) (Ai (Ai (@wpDOut_val) (Ai (@wpDOut_enter) (@wpDKc_some))) (Ai (Ai (@wpDSel_pure) (@wpDSel_quiet)) (Ai (@wpDSel_act) (@Go.Ev.isPure.eq_1))))) (Ai (Ai (Ai (@Go.Ev.isQuiet.eq_1) (Ai (@Go.Ev.wantedE.eq_1) (@Go.Ev.yieldedE.eq_1))) (Ai (Ai (@Go.Ev.eOp.eq_1) (@Go.Ev.mk.eq_1)) (Ai (@ev_tmp) (@ev_int)))) (Ai (Ai (@ev_bool) (Ai (@ev_str) (@ev_nils))) (Ai (Ai (@ev_nilp) (@ev_nilm)) (Ai (@ev_nilf) (@ev_func))))))) (Ai (Ai (Ai (Ai (Ai (@ev_glob) (Ai (@ev_agg) (@Go.Ev.evs.eq_1))) (Ai (Ai (@Go.Ev.evs.eq_2) (@Go.Ev.evParts.eq_1)) (Ai (@Go.Ev.evParts.eq_2) (@Go.Ev.evOpt.eq_1)))) (Ai (Ai (@Go.Ev.evOpt.eq_2) (Ai (@Go.Ev.absCells.eq_1) (@Go.Ev.absCells.eq_2))) (Ai (Ai (@mkF_putd) (@mkF_putd_none)) (Ai (@mkF_tmps) (@mkF_defers))))) (Ai (Ai (Ai (@T.get_ofL) (Ai (@Go.Ev.look.eq_1) (@Go.Ev.look.eq_2))) (Ai (Ai (@mkH_new) (@mkH_put)) (Ai (@mkH_kill) (@mkH_tok)))) (Ai (Ai (@mkH_get) (Ai (@mkH_k) (@mkH_n))) (Ai (Ai (@Go.Ev.lookG.eq_1) (@Go.Ev.lookG.eq_2)) (Ai (@Go.Ev.eShl.eq_1) (@Go.Ev.eShr.eq_1)))))) (Ai (Ai (Ai (Ai (@Go.Ev.eUnOp.eq_1) (Ai (@Go.Ev.eUnOp.eq_2) (@Go.Ev.eConvOp.eq_1))) (Ai (Ai (@Go.Ev.eConvOp.eq_2) (@Go.Ev.eCallB.eq_1)) (Ai (@Go.Ev.eLenM.eq_1) (@Go.Ev.eAppend.eq_1)))) (Ai (Ai (@Go.Ev.eAppendX.eq_1) (Ai (@Go.Ev.eAppendS.eq_1) (@Go.Ev.eAppendS'.eq_1))) (Ai (Ai (@Go.Ev.eAppendG.eq_1) (@Go.Ev.eGrow.eq_1)) (Ai (@Go.Ev.takeN.eq_1) (@Go.Ev.keepL.eq_1))))) (Ai (Ai (Ai (@Go.Ev.keepL.eq_2) (Ai (@Go.Ev.chunk.eq_1) (@Go.Ev.chunk.eq_2))) (Ai (Ai (@Go.Ev.eLoadOp.eq_1) (@Go.Ev.eLoadOp.eq_2)) (Ai (@Go.Ev.eLoad.eq_1) (@Go.Ev.eLoad'.eq_1)))) (Ai (Ai (Ai (@Go.Ev.eLoad'.eq_2) (@Go.Ev.eLoad'.eq_3)) (Ai (@Go.Ev.aggT.eq_1) (@Go.Ev.eStore.eq_1))) (Ai (Ai (@Go.Ev.eStoreCells.eq_1) (@Go.Ev.allOne.eq_1)) (Ai (@Go.Ev.allOne.eq_2) (@Go.Ev.eFieldAddrOp.eq_1)))))))) (Ai (Ai (Ai (Ai (Ai (Ai (@Go.Ev.eFieldAddrOp.eq_2) (Ai (@Go.Ev.eFieldAddr.eq_1) (@Go.Ev.eFieldOp.eq_1))) (Ai (Ai (@Go.Ev.eFieldOp.eq_2) (@Go.Ev.ePart.eq_1)) (Ai (@Go.Ev.eIndexAddr'.eq_1) (@Go.Ev.eIndexL.eq_1)))) (Ai (Ai (@Go.Ev.eSliceL.eq_1) (Ai (@Go.Ev.eAlloc.eq_1) (@Go.Ev.eBox.eq_1))) (Ai (Ai (@Go.Ev.eBox.eq_2) (@Go.Ev.eBuildS.eq_1)) (Ai (@Go.Ev.eBuildA.eq_1) (@Go.Ev.eBuildSlice'.eq_1))))) (Ai (Ai (Ai (@Go.Ev.fillE.eq_1) (Ai (@Go.Ev.fillE.eq_2) (@Go.Ev.placeS.eq_1))) (Ai (Ai (@Go.Ev.eMakeSlice'.eq_1) (@Go.Ev.eNextS'.eq_1)) (Ai (@Go.Ev.argsB.eq_1) (@Go.Ev.argsB.eq_2)))) (Ai (Ai (@Go.Ev.capOK.eq_1) (Ai (@Go.Ev.capOK.eq_2) (@Go.Ev.flatL.eq_1))) (Ai (Ai (@Go.Ev.flatL.eq_2) (@known_nil)) (Ai (@known_hit) (@known_cons)))))) (Ai (Ai (Ai (Ai (@Go.Ev.undefE.eq_1) (Ai (@Option.map_some.{0,0}) (@Option.map_none.{0,0}))) (Ai (Ai (@Oi.{0}) (@if_true.{1})) (Ai (@if_false.{1}) (@List.getElem?_toArray.{0})))) (Ai (Ai (@List.getElem?_cons_zero.{0}) (Ai (@List.getElem?_cons_succ.{0}) (@List.length_cons.{0}))) (Ai (Ai (@List.length_nil.{0}) (@List.append_nil.{0})) (Ai (@List.nil_append.{0}) (@List.cons_append.{0}))))) (Ai (Ai (Ai (@List.map_cons.{0,0}) (Ai (@List.map_nil.{0,0}) (@List.any_cons.{0}))) (Ai (Ai (@List.any_nil.{0}) (@List.take_succ_cons.{0})) (Ai (@List.take_zero.{0}) (@List.drop_succ_cons.{0})))) (Ai (Ai (@List.drop_zero.{0}) (Ai (@List.drop_nil.{0}) (@List.take_nil.{0}))) (Ai (Ai (@Nat.zero_add) (@Nat.mul_one)) (Ai (@Nat.zero_le) (@bne_not))))))) (Ai (Ai (Ai (Ai (Ai (@some_beq) (Ai (@none_beq) (@beq_t))) (Ai (Ai (@beq_f) (@Int.natCast_nonneg)) (Ai (@Int.toNat_natCast) (@Int.le_refl)))) (Ai (Ai (@Int.toNat_zero) (Ai (@Int.natCast_zero) (@BEq.rfl.{0}))) (Ai (Ai (@beq_self_eq_true.{0}) (@Option.bind_some.{0,0})) (Ai (@Go.Ev.resultsE.eq_1) (@Go.Ev.resultsE.eq_2))))) (Ai (Ai (Ai (@Go.Ev.resultsE.eq_3) (Ai (@Go.Ev.keepT.eq_1) (@Go.Ev.keepT.eq_2))) (Ai (Ai (@Bool.not_true) (@Bool.not_false)) (Ai (@Bool.or_false) (@Bool.false_or)))) (Ai (Ai (@Bool.or_true) (Ai (@Bool.true_or) (@Bool.and_true))) (Ai (Ai (@Bool.true_and) (@Bool.and_false)) (Ai (@Bool.false_and) (@Bool.cond_true.{1})))))) (Ai (Ai (Ai (Ai (@Bool.cond_false.{1}) (Ai (@decide_true) (@decide_false))) (Ai (Ai (@Bool.false_eq_true) (@ne_eq.{1})) (Ai (@not_true_eq_false) (@not_false_eq_true)))) (Ai (Ai (@gt_iff_lt.{0}) (Ai (@ge_iff_le.{0}) (@or_self))) (Ai (Ai (@or_false) (@false_or)) (Ai (@true_or) (@or_true))))) (Ai (Ai (Ai (@H.start_mk) (Ai (@Nat.lt_irrefl) (@Nat.le_refl))) (Ai (Ai (@List.flatten_cons.{0}) (@List.flatten_nil.{0})) (Ai (@List.replicate.eq_1.{0}) (@List.replicate.eq_2.{0})))) (Ai (Ai (Ai (@true_and) (@and_true)) (Ai (@true_implies) (@false_implies))) (Ai (Ai (@implies_true.{0}) (@implies_true.{1})) (Ai (@exists_eq_left'.{1}) (@and_self))))))))
def SS1:=Ai SS0 (Ai (Ai (Ai (@wpOut_yield) (Ai (@wpOut_none) (@wpNd_true))) (Ai (@wpKc_none) (Ai (@mkH_fz) (@Go.Ev.isStill.eq_1)))) (Ai (Ai (@Go.Ev.ndOp.eq_1) (Ai (@ndEq_yes) (@mkD_putd))) (Ai (@mkD_putd_none) (Ai (@mkD_tmps) (@mkD_defers)))))
def SX:=Ai (Ai (Ai (Ai (Ai (Ai (Ai (@Go.Ev.isNew.eq_1) (@Go.Ev.absCell.eq_1)) (Ai (@Go.Ev.absCell.eq_2) (Ai (@Go.Ev.absCell.eq_3) (@Go.Ev.absCell.eq_4)))) (Ai (Ai (@Go.Ev.absCell.eq_5) (Ai (@Go.Ev.absCell.eq_6) (@Go.Ev.absCell.eq_7))) (Ai (@Go.Ev.absCell.eq_8) (Ai (@Go.Ev.absCell.eq_9) (@Go.Ev.absCell.eq_10))))) (Ai (Ai (Ai (@Go.Ev.absCell.eq_11) (@Go.Ev.eBinOp.eq_1)) (Ai (@Go.Ev.eBinOp.eq_2) (Ai (@Go.Ev.eBin.eq_1) (@Go.Ev.eBin.eq_2)))) (Ai (Ai (@Go.Ev.eBin.eq_3) (Ai (@Go.Ev.eBin.eq_4) (@Go.Ev.eBin.eq_5))) (Ai (@Go.Ev.eInt2.eq_1) (Ai (@Go.Ev.eInt2.eq_2) (@Go.Ev.eInt2.eq_3)))))) (Ai (Ai (Ai (Ai (@Go.Ev.eInt.eq_1) (@Go.Ev.eInt.eq_2)) (Ai (@Go.Ev.eInt.eq_3) (Ai (@Go.Ev.eInt.eq_4) (@Go.Ev.eInt.eq_5)))) (Ai (Ai (@Go.Ev.eInt.eq_6) (Ai (@Go.Ev.eInt.eq_7) (@Go.Ev.eInt.eq_8))) (Ai (@Go.Ev.eInt.eq_9) (Ai (@Go.Ev.eInt.eq_10) (@Go.Ev.eInt.eq_11))))) (Ai (Ai (Ai (@Go.Ev.eInt.eq_12) (@Go.Ev.eInt.eq_13)) (Ai (@Go.Ev.eInt.eq_14) (Ai (@Go.Ev.eInt.eq_15) (@Go.Ev.eInt.eq_16)))) (Ai (Ai (@Go.Ev.eStr.eq_1) (Ai (@Go.Ev.eStr.eq_2) (@Go.Ev.eStr.eq_3))) (Ai (@Go.Ev.eStr.eq_4) (Ai (@Go.Ev.eStr.eq_5) (@Go.Ev.eStr.eq_6))))))) (Ai (Ai (Ai (Ai (Ai (@Go.Ev.eStr.eq_7) (@Go.Ev.eStr.eq_8)) (Ai (@Go.Ev.eUn.eq_1) (Ai (@Go.Ev.eUn.eq_2) (@Go.Ev.eUn.eq_3)))) (Ai (Ai (@Go.Ev.ePick.eq_1) (Ai (@Go.Ev.ePick.eq_2) (@Go.Ev.ePick.eq_3))) (Ai (@Go.Ev.eExtract.eq_1) (Ai (@Go.Ev.eExtract.eq_2) (@Go.Ev.eNil.eq_1))))) (Ai (Ai (Ai (@Go.Ev.eNil.eq_2) (@Go.Ev.eNil.eq_3)) (Ai (@Go.Ev.eNil.eq_4) (Ai (@Go.Ev.eNil.eq_5) (@Go.Ev.eCall.eq_1)))) (Ai (Ai (@Go.Ev.eCall.eq_2) (Ai (@Go.Ev.eCall.eq_3) (@Go.Ev.eCall.eq_4))) (Ai (@Go.Ev.eCallV.eq_1) (Ai (@Go.Ev.eCallV.eq_2) (@Go.Ev.eCallV.eq_3)))))) (Ai (Ai (Ai (Ai (@Go.Ev.eBuiltin.eq_1) (@Go.Ev.eBuiltin.eq_2)) (Ai (@Go.Ev.eBuiltin.eq_3) (Ai (@Go.Ev.eBuiltin.eq_4) (@Go.Ev.eBuiltin.eq_5)))) (Ai (Ai (@Go.Ev.eBuiltin.eq_6) (Ai (@Go.Ev.eBuiltin.eq_7) (@Go.Ev.eBuiltin.eq_8))) (Ai (@Go.Ev.eBuiltin.eq_9) (Ai (@Go.Ev.eBuiltin.eq_10) (@Go.Ev.eBuiltin.eq_11))))) (Ai (Ai (Ai (@Go.Ev.eBuiltin.eq_12) (@Go.Ev.eBuiltin.eq_13)) (Ai (@Go.Ev.eBuiltin.eq_14) (Ai (@Go.Ev.eBuiltin.eq_15) (@Go.Ev.eBuiltin.eq_16)))) (Ai (Ai (@Go.Ev.eBuiltin.eq_17) (Ai (@Go.Ev.eBuiltin.eq_18) (@Go.Ev.eLen.eq_1))) (Ai (@Go.Ev.eLen.eq_2) (Ai (@Go.Ev.eLen.eq_3) (@Go.Ev.eLen.eq_4)))))))) (Ai (Ai (Ai (Ai (Ai (Ai (@Go.Ev.eLen.eq_5) (@Go.Ev.eLen.eq_6)) (Ai (@Go.Ev.eLen.eq_7) (Ai (@Go.Ev.eLen.eq_8) (@Go.Ev.eCap.eq_1)))) (Ai (Ai (@Go.Ev.eCap.eq_2) (Ai (@Go.Ev.eCap.eq_3) (@Go.Ev.srcCells.eq_1))) (Ai (@Go.Ev.srcCells.eq_2) (Ai (@Go.Ev.srcCells.eq_3) (@Go.Ev.srcCells.eq_4))))) (Ai (Ai (Ai (@Go.Ev.srcCells.eq_5) (@Go.Ev.srcCells.eq_6)) (Ai (@Go.Ev.keepV.eq_1) (Ai (@Go.Ev.keepV.eq_2) (@Go.Ev.keepV.eq_3)))) (Ai (Ai (@Go.Ev.keep1.eq_1) (Ai (@Go.Ev.keep1.eq_2) (@Go.Ev.keep1.eq_3))) (Ai (@Go.Ev.keep1.eq_4) (Ai (@Go.Ev.keep1.eq_5) (@Go.Ev.keep1.eq_6)))))) (Ai (Ai (Ai (Ai (@Go.Ev.keep1.eq_7) (@Go.Ev.keep1.eq_8)) (Ai (@Go.Ev.keep1.eq_9) (Ai (@Go.Ev.keep1.eq_10) (@Go.Ev.keep1.eq_11)))) (Ai (Ai (@Go.Ev.keep1.eq_12) (Ai (@Go.Ev.keep1.eq_13) (@Go.Ev.keep1.eq_15))) (Ai (@Go.Ev.row?.eq_1) (Ai (@Go.Ev.row?.eq_2) (@Go.Ev.row?.eq_3))))) (Ai (Ai (Ai (@Go.Ev.row?.eq_4) (@Go.Ev.eStoreOp.eq_1)) (Ai (@Go.Ev.eStoreOp.eq_2) (Ai (@Go.Ev.EVal.cells.eq_1) (@Go.Ev.EVal.cells.eq_2)))) (Ai (Ai (@Go.Ev.EVal.one.eq_1) (Ai (@Go.Ev.EVal.one.eq_2) (@Go.Ev.EVal.one.eq_3))) (Ai (@Go.Ev.eShift.eq_1) (Ai (@Go.Ev.eShift.eq_2) (@Go.Ev.eShift.eq_3))))))) (Ai (Ai (Ai (Ai (Ai (@Go.Ev.eShift.eq_4) (@Go.Ev.eIndexAddrOp.eq_1)) (Ai (@Go.Ev.eIndexAddrOp.eq_2) (Ai (@Go.Ev.eIndexAddr.eq_1) (@Go.Ev.eIndexAddr.eq_2)))) (Ai (Ai (@Go.Ev.eIndexOp.eq_1) (Ai (@Go.Ev.eIndexOp.eq_2) (@Go.Ev.eIndex.eq_1))) (Ai (@Go.Ev.eIndex.eq_2) (Ai (@Go.Ev.eIndex.eq_3) (@Go.Ev.eSliceOp.eq_1))))) (Ai (Ai (Ai (@Go.Ev.eSliceOp.eq_2) (@Go.Ev.bound.eq_1)) (Ai (@Go.Ev.bound.eq_2) (Ai (@Go.Ev.bound.eq_3) (@Go.Ev.eMakeSlice.eq_1)))) (Ai (Ai (@Go.Ev.eMakeSlice.eq_2) (Ai (@Go.Ev.eRange.eq_1) (@Go.Ev.eRange.eq_2))) (Ai (@Go.Ev.eRange.eq_3) (Ai (@Go.Ev.eNextS.eq_1) (@Go.Ev.eNextS.eq_2)))))) (Ai (Ai (Ai (Ai (@Go.Ev.argB.eq_1) (@Go.Ev.argB.eq_2)) (Ai (@Go.Ev.isLent.eq_1) (Ai (@Go.Ev.isLent.eq_2) (@Go.Ev.flat.eq_1)))) (Ai (Ai (@Go.Ev.flat.eq_2) (Ai (@Go.Ev.flat.eq_3) (@Go.Ev.flat.eq_4))) (Ai (@Go.Ev.flat.eq_5) (Ai (@Go.Ev.flat.eq_6) (@Go.Ev.flat.eq_7))))) (Ai (Ai (Ai (@Go.Ev.flat.eq_8) (Ai (@Go.Ev.flat.eq_9) (@Go.Ev.flat.eq_10))) (Ai (@Go.Ev.flat.eq_11) (Ai (@Go.Ev.flat.eq_12) (@Go.Ev.one.eq_1)))) (Ai (Ai (@Go.Ev.one.eq_2) (Ai (@Go.Ev.keepA.eq_1) (@Go.Ev.keepA.eq_2))) (Ai (@extB_q) (Ai (@Option.isNone_none.{0}) (@Option.isNone_some.{0}))))))))
def SS:=Ai SS1 SX
end Go.Ev
namespace Go.Ev
open Go.RowKit
noncomputable def allE (i:Nat):List (Nat×Bool)→Bool
 | []=>true| (a,e)::l=>bif Nat.blt a i then(bif e then allE i l else false)else true
noncomputable def iN (A:List Nat) (i:Nat):List (Nat×Bool)→Bool
 | []=>true| (a,e)::l=>bif Nat.blt a i then(bif hasB (nthM A i) a then iN A i l else bif allE i ((a,e)::l)then iN A i l else false)else eQ A i ((a,e)::l)
noncomputable def lU (A:List Nat) (acts:List (Nat×Bool)):List (Bool×Bool)→Nat→Bool
 | [],_=>true| (a,nd)::l,i=>bif(bif nd then(bif a then true else iN A i acts)else true)then lU A acts l (i+1)else false
noncomputable def azA (A:List Nat) (fl:List (Bool×Bool)):Bool:=
 match actIdx fl 0 with
 | []=>true| acts=>bif eW A acts acts then lU A (aR fl 0) fl 0 else false
section
variable {P:Program}{g:G}{K:aW}
def nY (P:Program) (K:aW) (o:Oper) (v:EVal) (x:Option EOut):Prop:=j2 P K ⟨o,⟨0,.nil,[],none⟩,v,⟨0,.nil,0,.nil⟩,none⟩ x=true
theorem looksOld_val {o:Oper}{v v2:EVal}{h:H}:nY P K o v (some (.val v2 h))=((isStill o h v2&&EVal.beq v2 v)=true):=(rfl)
theorem mO {o:Oper}{v:EVal}{h:H}{fn:FuncId}{args:List EVal}:nY P K o v (some (.enter fn args h))=((match kcall P K h fn args with|some u=>EVal.beq u v|none=>false)=true):=(rfl)
def zX (k:EVal→H→H→Bool×Bool→Prop) (old:EVal→Prop) (v:EVal) (hb h h':H) (e:Bool):Bool→Bool→Prop
 | true,_=>k v hb h (false,false)| false,true=>old v∧k v hb h (false,true)| false,false=>k v (bif e then hb else h') h' (true,e)
def wpFKc (k:EVal→H→H→Bool×Bool→Prop) (old:EVal→Prop) (hb h:H):Option EVal→Prop
 | some v=>old v∧k v hb h (false,true)| none=>False
def axi (P:Program) (K:aW) (k:EVal→H→H→Bool×Bool→Prop) (o:Oper) (old:EVal→Prop) (hb h:H):Option EOut→Prop
 | some (.val v h')=>zX k old v hb h h' (akC o h) (isPure o) (isStill o h' v)| some (.enter fn args h')=>wpFKc k old hb h (kcall P K h' fn args)| _=>False
def xO (P:Program) (g:G) (K:aW) (o:Oper) (f:EFr) (hb h:H) (k:EVal→H→H→Bool×Bool→Prop):Option Bool→Prop
 | some true=>axi P K k o (fun v=>nY P K o v (eOp P g hb f.tmps o)) hb h (eOp P g h f.tmps o)| some false=>k undefE hb h (false,false)| none=>False
def wpF (P:Program) (g:G) (K:aW) (all:Array Oper) (Q:List (Bool×Bool)→EFr→H→Prop):List Oper→List (Bool×Bool)→EFr→H→H→Prop
 | [],fl,f,_,h=>Q fl f h| o::rest,fl,f,hb,h=>xO P g K o f hb h (fun v hb' h' b=>wpF P g K all Q rest (b::fl) (f.putd o.dst v) hb' h') (wantedE all f.tmps o)
theorem wpF_nil {all:Array Oper}{Q:List (Bool×Bool)→EFr→H→Prop}{fl:List (Bool×Bool)}{f:EFr}{hb h:H}:wpF P g K all Q [] fl f hb h=Q fl f h:=(rfl)
def akO (P:Program) (g:G) (K:aW) (all:Array Oper) (Q:List (Bool×Bool)→EFr→H→Prop) (d:Option Tmp) (rest:List Oper) (fl:List (Bool×Bool)) (f:EFr) (v:EVal) (hb h:H) (b:Bool×Bool):Prop:=wpF P g K all Q rest (b::fl) (f.putd d v) hb h
theorem wpF_cons {all:Array Oper}{Q:List (Bool×Bool)→EFr→H→Prop}{o:Oper}{rest:List Oper}{fl:List (Bool×Bool)}{f:EFr}{hb h:H}:wpF P g K all Q (o::rest) fl f hb h=xO P g K o f hb h (akO P g K all Q o.dst rest fl f) (wantedE all f.tmps o):=(rfl)
theorem wpFNext_q {all:Array Oper}{Q:List (Bool×Bool)→EFr→H→Prop}{d:Option Tmp}{rest:List Oper}{fl:List (Bool×Bool)}{f:EFr}{v:EVal}{hb h:H}{b:Bool×Bool}:akO P g K all Q d rest fl f v hb h b=wpF P g K all Q rest (b::fl) (f.putd d v) hb h:=(rfl)
theorem wpFStep_true {o:Oper}{f:EFr}{hb h:H}{k:EVal→H→H→Bool×Bool→Prop}:xO P g K o f hb h k (some true)=axi P K k o (fun v=>nY P K o v (eOp P g hb f.tmps o)) hb h (eOp P g h f.tmps o):=(rfl)
theorem wpFStep_false {o:Oper}{f:EFr}{hb h:H}{k:EVal→H→H→Bool×Bool→Prop}:xO P g K o f hb h k (some false)=k undefE hb h (false,false):=(rfl)
theorem wpFOut_val {k:EVal→H→H→Bool×Bool→Prop}{o:Oper}{old:EVal→Prop}{hb h h':H}{v:EVal}:axi P K k o old hb h (some (.val v h'))=zX k old v hb h h' (akC o h) (isPure o) (isStill o h' v):=(rfl)
theorem wpFOut_enter {k:EVal→H→H→Bool×Bool→Prop}{o:Oper}{old:EVal→Prop}{hb h h':H}{fn:FuncId}{args:List EVal}:axi P K k o old hb h (some (.enter fn args h'))=wpFKc k old hb h (kcall P K h' fn args):=(rfl)
theorem wpFSel_pure {k:EVal→H→H→Bool×Bool→Prop}{old:EVal→Prop}{v:EVal}{hb h h':H}{e q:Bool}:zX k old v hb h h' e true q=k v hb h (false,false):=by cases q<;>rfl
theorem wpFSel_quiet {k:EVal→H→H→Bool×Bool→Prop}{old:EVal→Prop}{v:EVal}{hb h h':H}{e:Bool}:zX k old v hb h h' e false true=(old v∧k v hb h (false,true)):=(rfl)
theorem wpFSel_act {k:EVal→H→H→Bool×Bool→Prop}{old:EVal→Prop}{v:EVal}{hb h h':H}{e:Bool}:zX k old v hb h h' e false false=k v (bif e then hb else h') h' (true,e):=(rfl)
theorem wpFKc_some {k:EVal→H→H→Bool×Bool→Prop}{old:EVal→Prop}{hb h:H}{v:EVal}:wpFKc k old hb h (some v)=(old v∧k v hb h (false,true)):=(rfl)
inductive j6 (P:Program) (g:G) (K:aW) (all:Array Oper):List aL→List (Bool×Bool)→H→H→Prop
 | nil (hb h:H) (hg:HGrow hb h):j6 P g K all [] [] hb h
 | cons (x:aL) (b:Bool×Bool) (st:List aL) (fl:List (Bool×Bool)) (hb h:H) (hg:HGrow hb h) (hh:x.h=h) (ha:x.act.isSome=b.1)
   (hn:e7 all x=true→b.2=true∧b.1=false∧∀h2,HGrow hb h2→bX P g K all x h2=true)
   (he:∀h',x.act=some h'→b.2=true→HGrow x.h h') (rest:j6 P g K all st fl (match x.act with|some h'=>(bif b.2 then hb else h')|none=>hb) (x.act.getD h)):j6 P g K all (x::st) (b::fl) hb h
theorem bxb {all:Array Oper} {Q:List (Bool×Bool)→EFr→H→Prop}{r:Rec}:∀(l:List Oper) (fl:List (Bool×Bool)) (f:EFr) (hb h:H),HGrow hb h→(∀o∈l,oC o f.sz=true∧∀s∈bW all o,s<1000)→wpF P g K all Q l fl f hb h →
  ∃st f' h' fl',fD P g K r all l f h=some (st,f',h')∧j6 P g K all st fl' hb h∧Q (fl'.reverse++fl) f' h'
 | [],fl,f,hb,h,hg,_,hw=>⟨[],f,h,[],rfl,.nil _ _ hg,hw⟩| o :: l, fl, f,hb,h,hg,hs,hw=>by
   obtain⟨hd,hr⟩:=hs o (by simp);have hgo:fD P g K r all (o::l) f h=(match oC o f.sz with
    | false=>none| true=>match gP P g K r o (aP all o f) h (wantedE all (aP all o f) o)with
      | some (v,none)=>rM ⟨o,f,v,h,none⟩ (fD P g K r all l (f.putd o.dst v) h)| some (v,some h')=>rM ⟨o,f,v,h,some h'⟩ (fD P g K r all l (f.putd o.dst v) h')| none=>none):=rfl
   rw [hgo,hd];simp only;have hsz:∀v,(f.putd o.dst v).sz=f.sz:=fun v=>by
    unfold EFr.putd;split;· simp only [Bool.cond_eq_ite];split<;>rfl
    · rfl
   have hs':∀v,∀o'∈l,oC o' (f.putd o.dst v).sz=true∧∀s∈bW all o',s<1000:=fun v o' ho'=>by rw [hsz];exact hs o' (by simp [ho'])
   have next:∀(v:EVal) (hb' h':H) (act:Option H) (b:Bool×Bool),act.isSome=b.1→act.getD h=h'→hb'=(match act with|some h'=>(bif b.2 then hb else h')|none=>hb) →
     (e7 all ⟨o,f,v,h,act⟩=true→b.2=true∧b.1=false∧∀h2,HGrow hb h2→bX P g K all ⟨o,f,v,h,act⟩ h2=true) →
     (∀h2,act=some h2→b.2=true→HGrow h h2)→wpF P g K all Q l (b::fl) (f.putd o.dst v) hb' h' →
     ∃st f' h2 fl',rM ⟨o,f,v,h,act⟩ (fD P g K r all l (f.putd o.dst v) h')=some (st,f',h2)∧j6 P g K all st fl' hb h∧Q (fl'.reverse++fl) f' h2:=by
    intro v hb' h' act b hb1 hb3 hb5 hb2 hb4 hq;have hg':HGrow hb' h':=by
     subst hb3 hb5;cases act with
     | none=>exact hg| some h2=>
       obtain⟨b1,b2⟩:=b;cases b2 with
       | true=>exact hg.trans (hb4 h2 rfl rfl)| false=>exact HGrow.refl _
    obtain⟨st,f',h2,fl',e1,e2,e3⟩:=bxb (r:=r) l (b::fl) _ hb' h' hg' (hs' v) hq;subst hb3 hb5;refine⟨_,f',h2,b::fl',by rw [e1];rfl,.cons ⟨o,f,v,h,act⟩ _ _ _ _ _ hg rfl hb1 hb2 hb4 e2,?_⟩;rw [List.reverse_cons,List.append_assoc];exact e3
   rw [wpF_cons]at hw;rw [hU hr];cases hwant:wantedE all f.tmps o with
   | none=>rw [hwant]at hw;exact hw.elim| some wq=>
   rw [hwant]at hw;cases wq with
   | false=>
     rw [wpFStep_false]at hw;simp only [gP];refine next undefE hb h none (false,false) rfl rfl rfl (fun hn=>?_) (fun _ e=>by cases e) hw
     unfold e7 at hn;simp only [hU hr,hwant]at hn;generalize (isPure o||isKept _ o)=q at hn;cases q<;>cases hn
   | true =>
     rw [wpFStep_true]at hw;simp only [gP];rw [iL hr];have old:∀v,nY P K o v (eOp P g hb f.tmps o)→∀h2,HGrow hb h2→bX P g K all ⟨o,f,v,h,none⟩ h2=true:=by
      intro v hv h2 hg2;show j2 P K _ (eOp P g h2 (aP all o f) o)=true;rw [iL hr];cases hx:eOp P g hb f.tmps o with
      | none=>rw [hx]at hv;cases hv| some x=>
        rw [hx]at hv;cases x with
        | val v2 h3=>rw [looksOld_val]at hv;simp only [Bool.and_eq_true]at hv;obtain⟨h4,e3,e4⟩:=aqF hg2 hv.1 hx;rw [e3];simp only [j2,e4,hv.2,Bool.and_self]| enter fn args h3=>
          rw [mO]at hv;obtain⟨rfl,e3⟩:=aqe (hh:=h2) hx;rw [e3];cases hk:kcall P K h3 fn args with
          | none=>rw [hk]at hv;cases hv| some u=>rw [hk]at hv;simp only [j2,aq2 hg2 hk];exact hv
        | yield _ _ _=>cases hv
     cases hx:eOp P g h f.tmps o with
     | none=>rw [hx]at hw;exact hw.elim| some x =>
       rw [hx]at hw;cases x with
       | yield _ _ _=>exact hw.elim| val v h'=>
         rw [wpFOut_val]at hw;simp only [qZ,Bool.cond_eq_ite];cases hp:isPure o with
         | true=>rw [hp,wpFSel_pure]at hw;simp only [Bool.true_or,if_true];exact next v hb h none (false,false) rfl rfl rfl (by simp [e7,hp]) (fun _ e=>by cases e) hw
         | false=>
           rw [hp]at hw;cases hqt:isStill o h' v with
           | true=>rw [hqt,wpFSel_quiet]at hw;simp only [Bool.or_true,if_true];exact next v hb h none (false,true) rfl rfl rfl (fun _=>⟨rfl,rfl,old v hw.1⟩) (fun _ e=>by cases e) hw.2
           | false=>rw [hqt,wpFSel_act]at hw;simp only [Bool.or_false,Bool.false_eq_true,if_false];exact next v _ h' (some h') (true,akC o h) rfl rfl rfl (by simp [e7]) (fun h2 e hb2=>by cases e;exact new_grow hb2 hx) hw
       | enter fn args h'=>
         rw [wpFOut_enter]at hw;simp only [qZ];cases hk:kcall P K h' fn args with
         | none=>rw [hk]at hw;exact hw.elim| some v=>rw [hk,wpFKc_some]at hw;exact next v hb h none (false,true) rfl rfl rfl (fun _=>⟨rfl,rfl,old v hw.1⟩) (fun _ e=>by cases e) hw.2
theorem zN {all:Array Oper}{st:List aL}{fl:List (Bool×Bool)}{hb h:H}(H1:j6 P g K all st fl hb h):∀i,actsOf st i=actIdx fl i:=by
 induction H1 with
 | nil=>intro i;rfl| cons x b st fl hb h hg hh ha hn he rest ih=>
   intro i;obtain⟨a,nd⟩:=b;have e:actsOf (x::st) i=Option.rec (motive:=fun _=>List Nat) (actsOf st (Nat.succ i)) (fun _=>i::actsOf st (Nat.succ i)) x.act:=rfl;rw [e];simp only [actIdx];cases hx:x.act with
   | none=>rw [hx]at ha;simp at ha;subst ha;simpa using ih (i+1)| some h'=>rw [hx]at ha;simp at ha;subst ha;simpa using ih (i+1)
theorem i8 {all:Array Oper} {A:List Nat}{i:Nat}{x:aL}{hx0:H}(hx:∀h2,HGrow hx0 h2→bX P g K all x h2=true):∀ {st:List aL}{fl:List (Bool×Bool)}{hb h:H},j6 P g K all st fl hb h→∀a,i<a→HGrow hx0 h→eQ A i (aR fl a)=true→eZ P g K all A i x a h st=true
 | _,_,_,h,.nil _ _ _,a,_,hg,_=>hx h hg| _, _, _, h,.cons y b st fl hb _ hgb hh ha hn he rest,a,hi,hg,hq=>by
   obtain⟨b1,b2⟩:=b;rw [eU];cases hy:y.act with
   | none=>rw [hy]at ha rest;simp at ha;subst ha;exact i8 hx rest (a+1) (by omega) hg hq| some h'=>
     rw [hy]at ha rest
     replace rest:j6 P g K all st fl (bif b2 then hb else h') h':=rest
     simp at ha;subst ha;simp only;have e:eQ A i ((a,b2)::aR fl (a+1))=true:=hq;have hlt:Nat.blt a i=false:=by rw [Bool.eq_false_iff];intro e;rw [Nat.blt_eq]at e;omega
     simp only [eQ,hlt,cond_false]at e;cases h1:hasB (nthM A i) a with
     | true=>rw [h1]at e;cases e| false=>
       rw [h1]at e;simp only [cond_false]at e ⊢;cases h2:hasB (nthM A a) i with
       | true=>simp only [cond_true];exact hx h hg| false=>
         rw [h2]at e;simp only [cond_false]at e ⊢;cases h3:b2 with
         | false=>rw [h3]at e;cases e| true=>rw [h3]at e;simp only [cond_true]at e;subst hh;rw [hx _ hg,i8 hx rest (a+1) (by omega) (hg.trans (he h' hy h3)) e];rfl
theorem nT {A:List Nat}{i:Nat}:∀ {fl:List (Bool×Bool)}{a:Nat},i<a→iN A i (aR fl a)=true→eQ A i (aR fl a)=true
 | [],_,_,_=>rfl| (b1,b2)::fl,a,hi,h=>by
   cases b1 with
   | false=>exact nT (fl:=fl) (a:=a+1) (by omega) h| true=>
     have e:iN A i ((a,b2)::aR fl (a+1))=true:=h;have hlt:Nat.blt a i=false:=by rw [Bool.eq_false_iff];intro e;rw [Nat.blt_eq]at e;omega
     simp only [iN,hlt,cond_false]at e;exact e
theorem pI {all:Array Oper}{i:Nat}{x:aL}{l2:List aL}(hnx:e7 all x=true):∀(l1:List aL) {fl:List (Bool×Bool)}{hb h:H},j6 P g K all (l1++x::l2) fl hb h→∀a,a+l1.length=i→allE i (aR fl a)=true→∀h2,HGrow hb h2→bX P g K all x h2=true
 | [],_,_,_,HF,a,hi,hq=>by
   rw [List.nil_append]at HF;cases HF with
   | cons _ b st fl _ _ _ hh ha hn he rest=>exact(hn hnx).2.2
 | y :: l1,_,_,_,HF,a,hi,hq=>by
   rw [List.cons_append]at HF;cases HF with
   | cons _ b st fl hb h hg hh ha hn he rest=>
   obtain⟨b1,b2⟩:=b;simp only [List.length_cons]at hi;cases hy:y.act with
   | none=>rw [hy]at ha rest;simp at ha;subst ha;exact pI hnx l1 rest (a+1) (by omega) hq| some h'=>
     rw [hy]at ha rest;simp at ha;subst ha;have e:allE i ((a,b2)::aR fl (a+1))=true:=hq;have hlt:Nat.blt a i=true:=by rw [Nat.blt_eq];omega
     simp only [allE,hlt,cond_true]at e;cases h3:b2 with
     | false=>rw [h3]at e;cases e| true=>rw [h3]at e rest;simp only [cond_true]at e rest;exact pI hnx l1 rest (a+1) (by omega) e
theorem hJ {all:Array Oper} {A:List Nat}{i:Nat}{x:aL}{l2:List aL}(hnx:e7 all x=true):∀(l1:List aL) {fl:List (Bool×Bool)}{hb h:H},j6 P g K all (l1++x::l2) fl hb h→∀a,a+l1.length=i→iN A i (aR fl a)=true→eZ P g K all A i x a h (l1++x::l2)=true
 | [],_,_,h,HF,a,hi,hq=>by
   rw [List.nil_append]at HF;cases HF with
   | cons _ b st fl hb _ hg hh ha hn he rest=>
   obtain⟨b1,b2⟩:=b;obtain⟨h1,h2,h3⟩:=hn hnx;simp only at h1 h2;subst h1 h2;simp only [List.length_nil,Nat.add_zero]at hi;subst hi;show eZ P g K all A a x a h (x::l2)=true;rw [eU];have hact:x.act=none:=by
    cases hx:x.act with
    | none=>rfl| some _=>rw [hx]at ha;cases ha
   rw [hact]at rest;rw [hact];exact i8 h3 rest (a+1) (by omega) hg (nT (by omega) hq)
 | y :: l1, _,_,h,HF,a,hi,hq=>by
   have HF0:=HF;rw [List.cons_append]at HF;cases HF with
   | cons _ b st fl hb _ hg hh ha hn he rest=>
   obtain⟨b1,b2⟩:=b;simp only [List.length_cons]at hi;show eZ P g K all A i x a h (y::(l1++x::l2))=true;rw [eU];cases hy:y.act with
   | none=>rw [hy]at ha rest;simp at ha;subst ha;exact hJ hnx l1 rest (a+1) (by omega) hq| some h'=>
     rw [hy]at ha rest;simp at ha;subst ha;simp only;have e:iN A i ((a,b2)::aR fl (a+1))=true:=hq;have hlt:Nat.blt a i=true:=by rw [Nat.blt_eq];omega
     simp only [iN,hlt,cond_true]at e;cases h1:hasB (nthM A i) a with
     | true=>rw [h1]at e;simp only [cond_true]at e ⊢;exact hJ hnx l1 rest (a+1) (by omega) e| false=>
       rw [h1]at e;simp only [cond_false]at e ⊢;cases h4:allE i ((a,b2)::aR fl (a+1))with
       | false=>rw [h4]at e;cases e| true=>
         rw [h4]at e;simp only [cond_true]at e;have hlow:=pI hnx (y::l1) HF0 a (by simp only [List.length_cons];omega) h4;rw [hlow h hg];cases h2:hasB (nthM A a) i with
         | true=>rfl| false=>simp only [cond_false,Bool.true_and];exact hJ hnx l1 rest (a+1) (by omega) e
theorem kL {all:Array Oper}{A acts:List Nat}{hb0 h0:H}{fl0:List (Bool×Bool)}:∀(st l1:List aL) (fl:List (Bool×Bool)) (hb h:H),j6 P g K all (l1++st) fl0 hb0 h0→j6 P g K all st fl hb h→lU A (aR fl0 0) fl l1.length=true→cD P g K all A (l1++st) h0 acts st l1.length=true
 | [],_,_,_,_,_,_,_=>rfl| x :: st,l1,_,_,_,H0,.cons _ b _ fl hb h hg hh ha hn he rest,hq=>by
   obtain⟨a,nd⟩:=b;have e:cD P g K all A (l1++x::st) h0 acts (x::st) l1.length=(bif(bif quick A l1.length acts then true else bif e7 all x then eZ P g K all A l1.length x 0 h0 (l1++x::st)else true)then cD P g K all A (l1++x::st) h0 acts st (Nat.succ l1.length)else false):=rfl;have hq2:(bif(bif nd then(bif a then true else iN A l1.length (aR fl0 0))else true)then lU A (aR fl0 0) fl (l1.length+1)else false)=true:=hq;have hrest:lU A (aR fl0 0) fl (l1.length+1)=true:=by
    cases hc:(bif nd then(bif a then true else iN A l1.length (aR fl0 0))else true)with
    | true=>rw [hc]at hq2;exact hq2| false=>rw [hc]at hq2;cases hq2
   have h1:(bif e7 all x then eZ P g K all A l1.length x 0 h0 (l1++x::st)else true)=true:=by
    cases hnx:e7 all x with
    | false=>rfl| true=>
      obtain⟨e1,e2,_⟩:=hn hnx;simp only at e1 e2;subst e1 e2;have h2:iN A l1.length (aR fl0 0)=true:=by
       cases hc:iN A l1.length (aR fl0 0)with
       | true=>rfl| false=>simp only [cond_true,cond_false,hc]at hq2;cases hq2
      exact hJ hnx l1 H0 0 (by omega) h2
   have ih:=kL (acts:=acts) st (l1++[x]) fl _ _ (by rw [List.append_assoc];exact H0) rest (by rw [List.length_append];exact hrest);rw [List.append_assoc]at ih;have ih2:cD P g K all A (l1++x::st) h0 acts st (l1.length+1)=true:=by have:=ih;rw [List.length_append]at this;exact this
   rw [e,h1];cases quick A l1.length acts<;>exact ih2
theorem Top.drawF {A:Option Nat}(hm:P.follows .mixedOrders=true) (hng:mH P) {id:Nat}{ops:Array Oper}{f:EFr}{h:H}{Q:fM}(hs:gB ops f.sz=true)
  (hw:wpF P g K ops (fun fl f' h'=>azA (nB ops.toList []) fl.reverse=true∧Q .normal f' h') ops.toList [] f h h):Top A P g K (.region id ops true) f h Q:=by
 unfold gB at hs;simp only [Bool.and_eq_true,List.all_eq_true,Nat.blt_eq]at hs;obtain⟨st,f',h',fl',e1,e2,e3,e4⟩:=bxb (r:=Go.Ev.run P g K 0) ops.toList [] f h h (HGrow.refl h) hs.2 hw;simp only [List.append_nil,List.reverse_reverse]at e3;refine Top.runDraw hm hng (n:=0) (outs:=[.code .normal f' h']) ?_ (fun e f'' h'' hmem=>by simp at hmem;obtain⟨rfl,rfl,rfl⟩:=hmem;exact e4);unfold Go.Ev.runDraw;rw [e1];simp only [yY];rw [hs.1];have : xF P g K ops (nB ops.toList []) st h (actsOf st 0)=true:=by
  rw [zN e2];unfold azA at e3;generalize actIdx fl' 0=acts at e3;cases acts with
  | nil=>rfl| cons a acts=>
    have e4:eW (nB ops.toList []) (a::acts) (a::acts)=true∧lU (nB ops.toList []) (aR fl' 0) fl' 0=true:=by
     cases hc:eW (nB ops.toList []) (a::acts) (a::acts)with
     | true=>simp only [hc,cond_true]at e3;exact⟨rfl,e3⟩| false=>simp only [hc,cond_false]at e3;cases e3
    show(bif eW _ (a::acts) (a::acts)then cD P g K ops _ st h (a::acts) st 0 else false)=true;rw [e4.1];exact kL st [] fl' h h e2 e2 e4.2
 rw [this];rfl
end
set_option linter.defProp false
def WF:=Ai (Ai (Ai (@wpF_nil) (@wpF_cons)) (Ai (@wpFNext_q) (Ai (@wpFStep_true) (@wpFStep_false)))) (Ai (Ai (@wpFOut_val) (Ai (@wpFOut_enter) (@wpFSel_pure))) (Ai (Ai (@wpFSel_quiet) (@wpFSel_act)) (Ai (@wpFKc_some) (Ai (@looksOld_val) (@EVal.beq_refl)))))
end Go.Ev


