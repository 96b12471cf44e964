import Derived.Test.YtfhbflaighfmpaaGreatDoorB3
set_option linter.unusedSimpArgs false
set_option linter.unusedVariables false
namespace Go.Ev
open Go.RowKit Go.Proofs
set_option maxRecDepth 20000
set_option maxHeartbeats 8000000
set_option linter.unusedVariables false
noncomputable section
theorem bqm {c r:List P2}{h:Hf}(hk:(h.inn-1).toNat<c.length):putQ (c++r) h=putQ c h++r:=by
 unfold putQ;have e:(c++r).getD (h.inn-1).toNat p20=c.getD (h.inn-1).toNat p20:=by rw [List.getD_eq_getElem?_getD,List.getElem?_append_left hk,←List.getD_eq_getElem?_getD]
 rw [e,List.set_append_left _ _ hk]
theorem bjF {L:List Pl}{k:Nat}{h:Hf}{a b:Nat}{c:List P2}(F:Fin1 L k h a b) (hc:c.length=(k+1) / 2):(growQ c h).length=(k+2) / 2∧(growQ c h=c∨growQ c h=c++[p20]):=by
 have:=F.cur.inn;unfold growQ;split;· exact⟨by rw [List.length_append,List.length_singleton];omega,.inr rfl⟩
 · exact⟨by omega,.inl rfl⟩
theorem awJ {L:List Pl}:∀(l:List Hf) (k a e:Nat) (c:List P2),Ch L k a l e→c.length=(k+1) / 2→k+l.length≤600 →
  okR c l=true∧∀m,m=(k+l.length+1) / 2→l.foldl putQ (c++List.replicate (m-c.length) p20)=vJ c l
 | [],k,a,e,c,h,hc,hk=>⟨rfl,fun m hm=>by
   rw [List.length_nil,Nat.add_zero]at hm;rw [show m-c.length=0 by omega];simp [vJ]⟩
 | x :: l,k,a,e,c,⟨b,F,h⟩,hc,hk=>by
   obtain⟨g1,g2⟩:=bjF F hc;have fi:=F.cur.inn;have fs:=F.cur.side;rw [List.length_cons]at hk;obtain⟨i1,i2⟩:=awJ l (k+1) b e (putQ (growQ c x) x) h (by rw [gJ,g1]) (by omega);refine⟨?_,fun m hm=>?_⟩;· simp only [okR,Bool.and_eq_true,decide_eq_true_eq,Bool.or_eq_true,beq_iff_eq];exact⟨by omega,by omega,by omega,by omega,i1⟩
   · rw [List.length_cons]at hm;have e2:=i2 m (by omega);show _=vJ (putQ (growQ c x) x) l;rw [←e2,gJ,List.foldl_cons];congr 1;have hlt:(x.inn-1).toNat<(growQ c x).length:=by omega
     have e1:c++List.replicate (m-c.length) p20=growQ c x++List.replicate (m-(growQ c x).length) p20:=by
      rcases g2 with q|q;· rw [q]
      · rw [q,List.append_assoc];congr 1;have l1:(c++[p20]).length=c.length+1:=by simp
        have:(growQ c x).length=c.length+1:=by rw [q,l1]
        rw [l1,show m-c.length=(m-(c.length+1))+1 by omega,List.replicate_succ];rfl
     rw [e1,bqm hlt]
theorem line_eq {L:List Pl}{H:List Hf}{e:Nat}(h:Ch L 0 0 H e) (hl:H.length≤300):okR [] H=true∧vJ [] H=lineQ H:=by obtain⟨h1,h2⟩:=awJ H 0 0 e [] h rfl (by omega);refine⟨h1,?_⟩;have g:=(bxp h hl).2;unfold lineQ at g ⊢;rw [hZ,List.length_replicate]at g;rw [←h2 _ rfl,List.nil_append,List.length_nil,Nat.sub_zero,Nat.zero_add,g]
end
end Go.Ev
namespace Go.Ev
open Go.RowKit Go.Proofs
set_option maxRecDepth 20000
set_option maxHeartbeats 8000000
set_option linter.unusedVariables false
set_option linter.unusedSimpArgs false
noncomputable section
theorem lp52 (a:List Hf) (hl:a.length≤300):∀(j k n:Nat),a.length=k+j→bqO a a (n+j+1) (.k8 (k:Int))=some true
 | 0,k,n,hk=>by
   have c1:decide ((k:Int)<((a.length:Nat):Int))=false:=by simp;omega
   simp only [bqN,ayi,TS,w6,c1,cond_false]
 | j+1,k,n,hlk=>by
   have ih:=lp52 a hl j (k+1) n (by omega);have c1:decide ((k:Int)<((a.length:Nat):Int))=true:=by simp;omega
   have c2:inR (k:Int) a.length=true:=gN (by omega) (by omega);have w4:IntKind.i64.wrap ((k:Int)+1)=((k+1:Nat):Int):=by rw [bD]<;>omega
   rw [show n+(j+1)+1=(n+j+1)+1 from rfl];generalize n+j+1=N at ih ⊢;simp only [bqN,ayi,TS,w6,c1,c2,cond_true,w4,ih,beq_self_eq_true,Bool.and_self,Bool.not_true,cond_false]
theorem s52 (a:List Hf) (hl:a.length≤300):Sz52 (a,a,())=some true:=by show Ez52 (a.length+a.length+64) a a=_;unfold Ez52 Tz52;simp only [TS,w6];rw [show a.length+a.length+64=(a.length+63)+a.length+1 by omega];have e:=lp52 a hl a.length 0 (a.length+63) (by omega);have e':bqO a a (a.length+63+a.length+1) (.k8 0)=some true:=e;rw [e'];simp
theorem lp53 (a:List P2) (hl:a.length≤300):∀(j k n:Nat),a.length=k+j→bqM a a (n+j+1) (.k8 (k:Int))=some true
 | 0,k,n,hk=>by
   have c1:decide ((k:Int)<((a.length:Nat):Int))=false:=by simp;omega
   simp only [bqL,ayh,TS,w6,c1,cond_false]
 | j+1,k,n,hlk=>by
   have ih:=lp53 a hl j (k+1) n (by omega);have c1:decide ((k:Int)<((a.length:Nat):Int))=true:=by simp;omega
   have c2:inR (k:Int) a.length=true:=gN (by omega) (by omega);have w4:IntKind.i64.wrap ((k:Int)+1)=((k+1:Nat):Int):=by rw [bD]<;>omega
   rw [show n+(j+1)+1=(n+j+1)+1 from rfl];generalize n+j+1=N at ih ⊢;simp only [bqL,ayh,TS,w6,c1,c2,cond_true,w4,ih,beq_self_eq_true,Bool.and_self,Bool.not_true,cond_false]
theorem s53 (a:List P2) (hl:a.length≤300):Sz53 (a,a,())=some true:=by show Ez53 (a.length+a.length+64) a a=_;unfold Ez53 Tz53;simp only [TS,w6];rw [show a.length+a.length+64=(a.length+63)+a.length+1 by omega];have e:=lp53 a hl a.length 0 (a.length+63) (by omega);have e':bqM a a (a.length+63+a.length+1) (.k8 0)=some true:=e;rw [e'];simp
section
variable {s:List Pl}
theorem lph0 {x10 x12 x13 x17:Int}{x11 x15:List P2}{x14 x16:List Hf}(hl:x16.length≤300) (hx:x17=((x16.length:Nat):Int)):∀(j k n:Nat) (x:List Hf),x16.length=k+j→x.length=k→Ez7J s (n+j+1) (.k26_0 x10 x11 x12 x13 x14 x15 x16 x17 (k:Int) x)=Ez7J s (n+1) (.k26_0 x10 x11 x12 x13 x14 x15 x16 x17 ((x16.length:Nat):Int) (x++x16.drop k))
 | 0,k,n,x,hk,hx2=>by
   obtain rfl:k=x16.length:=by omega
   rw [List.drop_length,List.append_nil]
 | j+1,k,n,x,hlk,hx2=>by
   have hk:k<x16.length:=by omega
   obtain⟨m,hm⟩:∃m,x16[k]? = some m:=⟨x16[k],List.getElem?_eq_getElem hk⟩;have ih:=lph0 hl hx (x10:=x10) (x11:=x11) (x12:=x12) (x13:=x13) (x14:=x14) (x15:=x15) j (k+1) n (x++[m]) (by omega) (by simp [hx2]);have c1:decide ((k:Int)<x17)=true:=by rw [hx];simp;omega
   have c2:inR (k:Int) x16.length=true:=gN (by omega) (by omega);have w4:IntKind.i64.wrap ((k:Int)+1)=((k+1:Nat):Int):=by rw [bD]<;>omega
   have c3:Nat.ble (64*(x.length+1)) 1000000=true:=by rw [Nat.ble_eq];omega
   rw [aT hm,show n+(j+1)+1=(n+j+1)+1 from rfl,bqJ];simp only [Tz7J,TS,w6,c1,c2,c3,cond_true,Int.toNat_natCast,aV hm,w4,List.length_map];rw [ih,List.append_assoc];rfl
end
theorem v52 (S T:List Hf):Az52.ok [V.el (S.map rHf.v),(Cod.list hf0 rHf).v T]=true∧Az52.dec [V.el (S.map rHf.v),(Cod.list hf0 rHf).v T]=(S,T,()):=by
 constructor;· exact(Bool.and_eq_true_iff (x:=(Cod.list hf0 rHf).ok (.el (S.map rHf.v)))).2 ⟨el_ok (d:=hf0) (hk:=rfl) S,Bool.and_eq_true_iff.2 ⟨Cod.okv _ T,rfl⟩⟩
 · exact Prod.ext (el_dec (d:=hf0) (hk:=rfl) S) (Prod.ext ((Cod.list hf0 rHf).dv T) rfl)
theorem v520:Az52.ok [V.el (([]:List Hf).map rHf.v),V.el []]=true∧Az52.dec [V.el (([]:List Hf).map rHf.v),V.el []]=([],[],()):=⟨rfl,rfl⟩
theorem bjE {s:List Pl}(h:256<s.length):halv s=([],5)∧(game s).2.2.2=5:=by unfold halv game;rw [if_pos h,if_pos h];exact⟨rfl,rfl⟩
theorem azQ {L:List Pl}:∀(l:List Pl) (i:Nat) (acc:List Hf) (s:St),(pF i acc s l).2≠0→(pF i acc s l).1=[]
 | [],i,acc,s,h=>absurd rfl h| t :: l,i,acc,s,h=>by
   rw [iR]at h ⊢;split;· rfl
   · rename_i he;rw [if_neg he]at h;exact azQ (L:=L) l _ _ _ h
theorem law7 (s:List Pl) (hb:∀t∈s,bB t.p=true∧bB t.e=true):Sz7 (s,())=some true:=by
 show Ez7 (s.length+64) s=_;have sw:Sw27 ()=some true:=rfl;unfold Ez7 Tz7;simp only [TS,w6];rw [s42,obind_some];cases hs:shL s with
 | false=>rw [sw];rfl| true=>
 simp only [shL,Bool.and_eq_true,Bool.or_eq_true,decide_eq_true_eq,List.all_eq_true]at hs;obtain⟨h1,h2⟩:=hs;have hl:s.length≤258:=by omega
 have hc:∀t∈s,awY t=true∧lC t.m=true:=fun t ht=>(bxe (h2 t ht) (hb t ht).1 (hb t ht).2).2;have hok:∀t∈s,okP t:=fun t ht=>(bxe (h2 t ht) (hb t ht).1 (hb t ht).2).1;have hg:gOK s=true:=gOK_of (by omega) hok;have g46:Sg46 (s,())=some ((game s).1,(((game s).2.1:Nat):Int),(game s).2.2.1,(game s).2.2.2,()):=by unfold Sg46 Sg43;rw [if_pos hg]
 have g48:bxN (s,())=some ((halv s).1,(halv s).2,()):=by unfold bxN;rw [if_pos hg]
 rw [Bool.not_true,cond_false,s44 s (by omega) hc,obind_some,g48,obind_some,obind_some];have big:(game s).2.2.2=(halv s).2∧((halv s).2≠0→(halv s).1=[])∧((halv s).2=0→s.length≤256∧Ch s 0 0 (halv s).1 s.length∧bql 0 [] none a6 s=(halv s).1):=by
  by_cases hb2:256<s.length;· obtain ⟨q1,q2⟩:=bjE hb2;rw [q1,q2];exact⟨rfl,fun _=>rfl,fun h=>absurd h (by decide)⟩
  · have eG:game s=oA 0 [a6] a6 s:=by unfold game;rw [if_neg (by omega)]
    have eH:halv s=pF 0 [] a6 s:=by unfold halv;rw [if_neg (by omega)]
    obtain⟨m1,m2⟩:=awg s (by omega) s 0 [] [a6] a6 rfl (Nat.zero_le _) (azb s) hok rfl;rw [←eG,←eH]at m1 m2;refine⟨m1.symm,fun h=>by rw [eH]at h ⊢;exact azQ (L:=s) s _ _ _ h,fun h=>⟨by omega,(m2 h).2.2.1.ch,?_⟩⟩;rw [eH]at h ⊢;exact bxh s (by omega) s 0 [] none a6 rfl (Nat.zero_le _) (azb s) (fun _=>rfl) hok h
 obtain⟨bE,bN,bO⟩:=big;dsimp only;by_cases he:(halv s).2=0
 · obtain ⟨h256,hch,hre⟩:=bO he;have hH:(halv s).1.length≤256:=by have:=ch_le hch;omega
   obtain⟨k1,k2⟩:=line_eq hch (by omega);have hgood:=bxp hch (by omega);have g49:bzO (s,())=some (lineQ (halv s).1,0,()):=by unfold bzO lin;rw [if_pos ⟨hg,hgood.1⟩,if_pos he]
   have g50:Sg50 (s,())=some (halv s).1:=by unfold Sg50;rw [if_pos ⟨hg,by rw [bE,he],h256⟩];exact congrArg some hre
   have g51:Sg51 ((halv s).1,())=some (lineQ (halv s).1):=by unfold Sg51;rw [if_pos ⟨k1,by dsimp only;omega⟩];exact congrArg some k2
   have c0:((game s).2.2.2==0)=true:=by rw [bE,he];rfl
   rw [g49,obind_some,g46,obind_some];dsimp only;rw [c0,cond_true,g50,obind_some,g51,obind_some,bE,he];have hlW:(lineQ (halv s).1).length≤300:=by rw [hgood.2];omega
   generalize (halv s).1=H at *
   generalize lineQ H=W at *
   have f1:s.length+64=(s.length+63-H.length)+H.length+1:=by have:=ch_le hch;omega
   have lp:=lph0 (s:=s) (x10:=0) (x11:=W) (x12:=0) (x13:=0) (x14:=H) (x15:=W) (x16:=H) (by omega) rfl H.length 0 (s.length+63-H.length) [] (by omega) rfl;rw [←f1,List.drop_zero,List.nil_append]at lp;refine lp.trans ?_;rw [bqJ];have c1:decide (((H.length:Nat):Int)<((H.length:Nat):Int))=false:=by simp
   have z0:((0:Int)==0)=true:=rfl;simp only [Tz7J,TS,Tr.d_v,(v52 H H).1,(v52 H H).2,w6,c1,cond_false,cond_true,s52 H (by omega),s53 W hlW,obind_some,z0,sw]
 · have hn:=bN he;have g49:bzO (s,())=some ([],(halv s).2,()):=by unfold bzO lin;rw [if_pos ⟨hg,by dsimp only;rw [hn];rfl⟩,if_neg he]
   have c0:((game s).2.2.2==0)=false:=by rw [bE];simpa using he
   rw [g49,obind_some,g46,obind_some];dsimp only;rw [c0,cond_false,bE,hn];show Ez7J s (s.length+63+1) _=_;rw [bqJ];have c1:decide (((([]:List Hf).length:Nat):Int)>(0:Int))=false:=rfl;have c2:((halv s).2==(halv s).2)=true:=by simp
   have c3:decide ((0:Int)<((([]:List Hf).length:Nat):Int))=false:=rfl;simp only [Tz7J,TS,Tr.d_v,v520.1,v520.2,w6,c1,c3,cond_false,cond_true,s52 [] (by simp),s53 [] (by simp),obind_some,c2,sw];try rfl
end
end Go.Ev
