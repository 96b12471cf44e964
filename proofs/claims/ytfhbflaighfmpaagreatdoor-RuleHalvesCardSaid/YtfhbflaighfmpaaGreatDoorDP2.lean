import Derived.Test.YtfhbflaighfmpaaGreatDoorDP1
set_option linter.unusedSimpArgs false
set_option linter.unusedVariables false
namespace Go.Ev
open Go.RowKit Go.Proofs
set_option maxRecDepth 100000
set_option maxHeartbeats 4000000
set_option linter.unusedVariables false
noncomputable section
def Az202:=(Row.cons (Cod.agg rSt) (Row.cons (Cod.agg rPl) (Row.cons (Cod.agg rMv) Row.nil)))
inductive ax3 where
 | k9 (a:Bool)(b c:Int)(d:Bool)(e:List Nat)(f:List (Int))(g:Bool)
 | k11 (a b:Bool)(c d:Int)(e:Bool)(f:List Nat)(g:List (Int))(h:Bool)
 | k13 (a b c d:Bool)(e f:Int)(g:Bool)(h:List Nat)(i:List (Int))
 | k15 (a b c d e:Bool)(f g:Int)(h:Bool)(i:List Nat)(j:List (Int))
def uz202:ax3→Nat
 | .k9 _ _ _ _ _ _ _=>9| .k11 _ _ _ _ _ _ _ _=>11| .k13 _ _ _ _ _ _ _ _ _=>13| .k15 _ _ _ _ _ _ _ _ _ _=>15
noncomputable def akf (s:St) (t:Pl) (u:Mv):ax3→D
 | .k9 a b c d f g h=>mD [(3,.ptr 0 0),(4,.ptr 1 0),(5,.ptr 2 0),(7,.str t.e),(8,.ptr 3 0),(9,.bool a),(10,.bool h)] 4 [(0,.row ⟨(rSt.v s),78,false⟩),(1,.row ⟨(rPl.v t),48,false⟩),(2,.row ⟨(rMv.v u),87,false⟩),(3,.row ⟨[.int .i64 b,.int .i64 c,.bool d,.str f,(Cod.list 0 a7).v g],87,false⟩)] 128 []| .k11 a b c d f g h i=>mD [(3,.ptr 0 0),(4,.ptr 1 0),(5,.ptr 2 0),(7,.str t.e),(8,.ptr 3 0),(9,.bool a),(10,.bool b),(11,.bool i)] 4 [(0,.row ⟨(rSt.v s),78,false⟩),(1,.row ⟨(rPl.v t),48,false⟩),(2,.row ⟨(rMv.v u),87,false⟩),(3,.row ⟨[.int .i64 c,.int .i64 d,.bool f,.str g,(Cod.list 0 a7).v h],87,false⟩)] 128 []| .k13 a b c d f g h i j=>mD [(4,.ptr 1 0),(5,.ptr 2 0),(7,.str t.e),(8,.ptr 3 0),(9,.bool a),(10,.bool b),(11,.bool c),(12,.bool d)] 4 [(1,.row ⟨(rPl.v t),48,false⟩),(2,.row ⟨(rMv.v u),87,false⟩),(3,.row ⟨[.int .i64 f,.int .i64 g,.bool h,.str i,(Cod.list 0 a7).v j],87,false⟩)] 128 []| .k15 a b c d f g h i j k=>mD [(4,.ptr 1 0),(5,.ptr 2 0),(7,.str t.e),(8,.ptr 3 0),(9,.bool a),(10,.bool b),(11,.bool c),(12,.bool d),(13,.bool f)] 4 [(1,.row ⟨(rPl.v t),48,false⟩),(2,.row ⟨(rMv.v u),87,false⟩),(3,.row ⟨[.int .i64 g,.int .i64 h,.bool i,.str j,(Cod.list 0 a7).v k],87,false⟩)] 128 []
noncomputable def Tz202J (s:St) (t:Pl) (u:Mv):(l_:ax3)→Tr Bool ax3 (akf s t u) cB.v
 | .k9 a b c d f h j=>(.i (decide (t.e=[])) (.g (.k11 a j b c d f h true)) (.i (decide (t.e=[75])) (.g (.k11 a j b c d f h true)) (.g (.k11 a j b c d f h (decide (t.e=[87]))))))| .k11 a b d e h j k l=>(.c Az25 Sz25 (s,()) fun m=>(.i (u.f==0) (.g (.k13 a b l m.1 d e h j k)) (.i (u.f==1) (.g (.k13 a b l m.2.1 d e h j k)) (.i (u.f==2) (.g (.k13 a b l m.2.2.1 d e h j k)) (.i (u.f==3) (.g (.k13 a b l m.2.2.2.1 d e h j k)) .n)))))| .k13 a b d e f h j k l=>(.i a (.c j9 gV ((⟨f,h,j,k,l⟩:Mv),true,[99],()) fun m=>(.g (.k15 a b d e m f h j k l))) (.g (.k15 a b d e false f h j k l)))| .k15 a b d g j k l m n o=>(.i (decide (u.h=[98])) (.i (decide (t.e=[88])) (.r true) (.r (decide (t.e=[89])))) (.i (decide (u.h=[97])) (.i (decide (t.e=[87])) (.i g (.r (u.t==(w6 (u.f+1)))) (.r false)) (.i (decide (t.e=[72])) (.i g (.r (u.t==(w6 (u.f+1)))) (.r false)) (.i (decide (t.e=[73])) (.i g (.r (u.t==(w6 (u.f+1)))) (.r false)) (.r false)))) (.i (decide (u.h=[115])) (.r d) (.i (decide (u.h=[112])) (.i d (.r (!decide (t.p=[]))) (.r false)) (.i (decide (u.h=[107])) (.r (decide (t.e=[]))) (.i (decide (u.h=[102])) (.i g (.i (decide (t.e=[88])) (.i a (.c j9 gV ((⟨k,l,m,n,o⟩:Mv),true,[99,107],()) fun q=>(.r (!q))) (.r true)) (.i (decide (t.e=[75])) (.i a (.c j9 gV ((⟨k,l,m,n,o⟩:Mv),true,[99,107],()) fun s=>(.r (!s))) (.r true)) (.r false))) (.r false)) (.i (decide (u.h=[100])) (.i (decide (t.e=[89])) (.r true) (.r j)) (.r (!b)))))))))
noncomputable def Tz202 (s:St) (t:Pl) (u:Mv):Tr Bool ax3 (akf s t u) cB.v:=(.c Az197 bjs (t,()) fun a=>(.i (decide (t.e=[72])) (.g (.k9 a.2.1 a.1.f a.1.t a.1.o a.1.h a.1.b true)) (.i (decide (t.e=[73])) (.g (.k9 a.2.1 a.1.f a.1.t a.1.o a.1.h a.1.b true)) (.g (.k9 a.2.1 a.1.f a.1.t a.1.o a.1.h a.1.b (decide (t.e=[78])))))))
def xJ (s:St) (t:Pl) (u:Mv):=Tr.lp (Tz202J s t u)
theorem Ez202J_s {s:St}{t:Pl}{u:Mv}{n:Nat}{l_:ax3}:xJ s t u (n+1) l_=(Tz202J s t u l_).d (xJ s t u n):=rfl
def Ez202 (n:Nat) (s:St) (t:Pl) (u:Mv):=(Tz202 s t u).d (xJ s t u n)
def bjr (x:St×Pl×Mv×Unit):=Ez202 (x.2.1.m.length+64) x.1 x.2.1 x.2.2.1
def wz202:Wk (St×Pl×Mv×Unit) Bool ax3 cB.v:=⟨fun x=>akf x.1 x.2.1 x.2.2.1,uz202,fun x=>Tz202 x.1 x.2.1 x.2.2.1,fun x=>Tz202J x.1 x.2.1 x.2.2.1⟩
noncomputable def Kz202:=aU 160 Tryz.func160 [Kz25,Kz197,bxW] noZ ⟨127,noL,(lookA [(4,⟨[3,4,5,7,8,9,10],[0,1,2,3],4,[],[],[],[]⟩),(5,⟨[3,4,5,7,8,9,10,11],[0,1,2,3],4,[],[],[],[]⟩),(6,⟨[4,5,7,8,9,10,11,12],[1,2,3],4,[],[],[],[]⟩),(7,⟨[4,5,7,8,9,10,11,12,13],[1,2,3],4,[],[],[],[]⟩)]),noL⟩ 128 Az202 cB bjr wz202 (fun x=>x.2.1.m.length+64)
def Az98:=(Row.cons (Cod.agg rSt) (Row.cons (Cod.agg rPl) (Row.cons cI Row.nil)))
noncomputable def Tz98 (s:St) (t:Pl) (u:Int):Tr Int Empty noS cI.v:=(.c avy ajS (t,u,()) fun a=>(.i (decide (0≤a)) (.i (inR a t.m.length) (.i ((t.m.getD a.toNat mv0).o) (.r 0) (.i (inR a t.m.length) (.r ((t.m.getD a.toNat mv0).t)) .n)) .n) (.i (decide (0<u)) (.i ((w6 (u-1))==0) (.i (!(s.b1==0)) (.r u) (.r 0)) (.i ((w6 (u-1))==1) (.i (!(s.b2==0)) (.r u) (.r 0)) (.i ((w6 (u-1))==2) (.i (!(s.b3==0)) (.r u) (.r 0)) .n))) (.r 0))))
def Ez98 (s:St) (t:Pl) (u:Int):=(Tz98 s t u).d noE
def bjq (x:St×Pl×Int×Unit):=Ez98 x.1 x.2.1 x.2.2.1
def wz98:Wk (St×Pl×Int×Unit) Int Empty cI.v:=wk0 fun x=>Tz98 x.1 x.2.1 x.2.2.1
def Kz98:=aU 72 Tryz.func72 [Kz157] noZ ⟨36,noL,noL,noL⟩ 128 Az98 cI bjq wz98 (fun _=>0)
def Az153:=(Row.cons (Cod.agg rSt) (Row.cons (Cod.agg rPl) (Row.cons cI Row.nil)))
inductive ax6 where
 | k44 (a:Bool)(b:Int)
 | k51 (a:Bool)(b:Int)
 | k61 (a:Bool)
 | k53 (a:Bool)(b c d:Int)(e:Bool)(f:List Nat)(g:List (Int))
 | k62 (a:Int)(b:Bool)
 | k57 (a:Bool)(b c d:Int)(e:Bool)(f:List Nat)(g:List (Int))
 | k71 (a b:Int)(c:Bool)
 | k81
 | k77 (a b:Int)(c d:Bool)
 | k86 (a:Int)
 | k92 (a b:Int)
def uz153:ax6→Nat
 | .k44 _ _=>44| .k51 _ _=>51| .k61 _=>61| .k53 _ _ _ _ _ _ _=>53| .k62 _ _=>62| .k57 _ _ _ _ _ _ _=>57| .k71 _ _ _=>71| .k81=>81| .k77 _ _ _ _=>77| .k86 _=>86| .k92 _ _=>92
noncomputable def aki (s:St) (t:Pl) (u:Int):ax6→D
 | .k44 a b=>mD [(2,.int .i64 u),(3,.ptr 0 0),(4,.ptr 1 0),(12,.bool a),(13,.int .i64 b)] 2 [(0,.row ⟨(rSt.v s),78,false⟩),(1,.row ⟨(rPl.v t),48,false⟩)] 128 []| .k51 a b=>mD [(2,.int .i64 u),(3,.ptr 0 0),(4,.ptr 1 0),(12,.bool a),(13,.int .i64 b)] 2 [(0,.row ⟨(rSt.v s),78,false⟩),(1,.row ⟨(rPl.v t),48,false⟩)] 128 []| .k61 a=>mD [(2,.int .i64 u),(3,.ptr 0 0),(4,.ptr 1 0),(12,.bool a)] 2 [(0,.row ⟨(rSt.v s),78,false⟩),(1,.row ⟨(rPl.v t),48,false⟩)] 128 []| .k53 a b c d e f g=>mD [(2,.int .i64 u),(3,.ptr 0 0),(4,.ptr 1 0),(12,.bool a),(13,.int .i64 b),(14,.ptr 2 0)] 3 [(0,.row ⟨(rSt.v s),78,false⟩),(1,.row ⟨(rPl.v t),48,false⟩),(2,.row ⟨[.int .i64 c,.int .i64 d,.bool e,.str f,(Cod.list 0 a7).v g],87,false⟩)] 128 []| .k62 a b=>mD [(2,.int .i64 u),(3,.ptr 0 0),(4,.ptr 1 0),(12,.bool b),(15,.int .i64 a)] 2 [(0,.row ⟨(rSt.v s),78,false⟩),(1,.row ⟨(rPl.v t),48,false⟩)] 128 []| .k57 a b c d e f g=>mD [(2,.int .i64 u),(3,.ptr 0 0),(4,.ptr 1 0),(12,.bool a),(13,.int .i64 b),(14,.ptr 2 0)] 3 [(0,.row ⟨(rSt.v s),78,false⟩),(1,.row ⟨(rPl.v t),48,false⟩),(2,.row ⟨[.int .i64 c,.int .i64 d,.bool e,.str f,(Cod.list 0 a7).v g],87,false⟩)] 128 []| .k71 a b c=>mD [(2,.int .i64 u),(3,.ptr 0 0),(4,.ptr 1 0),(12,.bool c),(15,.int .i64 b),(16,.int .i64 a)] 2 [(0,.row ⟨(rSt.v s),78,false⟩),(1,.row ⟨(rPl.v t),48,false⟩)] 128 []| .k81=>mD [(2,.int .i64 u),(3,.ptr 0 0),(4,.ptr 1 0)] 2 [(0,.row ⟨(rSt.v s),78,false⟩),(1,.row ⟨(rPl.v t),48,false⟩)] 128 []| .k77 a b c d=>mD [(2,.int .i64 u),(3,.ptr 0 0),(4,.ptr 1 0),(12,.bool d),(15,.int .i64 a),(16,.int .i64 b),(17,.bool c)] 2 [(0,.row ⟨(rSt.v s),78,false⟩),(1,.row ⟨(rPl.v t),48,false⟩)] 128 []| .k86 a=>mD [(3,.ptr 0 0),(4,.ptr 1 0),(18,.int .i64 a)] 2 [(0,.row ⟨(rSt.v s),78,false⟩),(1,.row ⟨(rPl.v t),48,false⟩)] 128 []| .k92 a b=>mD [(3,.ptr 0 0),(4,.ptr 1 0),(18,.int .i64 b),(19,.int .i64 a)] 2 [(0,.row ⟨(rSt.v s),78,false⟩),(1,.row ⟨(rPl.v t),48,false⟩)] 128 []
noncomputable def Tz153J (s:St) (t:Pl) (u:Int):(l_:ax6)→Tr Bool ax6 (aki s t u) cB.v
 | .k44 a b=>(.i (decide (b<((t.m.length:Nat):Int))) (.i a (.g (.k51 true b)) (.i (inR b t.m.length) (.i (decide (((t.m.getD b.toNat mv0).h)=[107])) (.i (inR b t.m.length) (.g (.k51 (!(t.m.getD b.toNat mv0).o) b)) .n) (.g (.k51 false b))) .n)) (.g (.k61 a)))| .k51 a c=>(.i (inR c t.m.length) (.g (.k53 a c (t.m.getD c.toNat mv0).f (t.m.getD c.toNat mv0).t ((t.m.getD c.toNat mv0).o) ((t.m.getD c.toNat mv0).h) ((t.m.getD c.toNat mv0).b))) .n)| .k61 a=>(.g (.k62 1 a))| .k53 a b c d e f h=>(.i (decide (0<c)) (.i (u==4) (.i ((w6 (c-1))==0) (.i (s.b1==0) (.r true) (.g (.k57 a b c d e f h))) (.i ((w6 (c-1))==1) (.i (s.b2==0) (.r true) (.g (.k57 a b c d e f h))) (.i ((w6 (c-1))==2) (.i (s.b3==0) (.r true) (.g (.k57 a b c d e f h))) .n))) (.g (.k57 a b c d e f h))) (.g (.k57 a b c d e f h)))| .k62 a b=>(.i (decide (a<4)) (.i ((w6 (a-1))==0) (.i (s.b1==0) (.g (.k62 (w6 (a+1)) b)) (.c avy ajS (t,a,()) fun d=>(.g (.k71 d a b)))) (.i ((w6 (a-1))==1) (.i (s.b2==0) (.g (.k62 (w6 (a+1)) b)) (.c avy ajS (t,a,()) fun e=>(.g (.k71 e a b)))) (.i ((w6 (a-1))==2) (.i (s.b3==0) (.g (.k62 (w6 (a+1)) b)) (.c avy ajS (t,a,()) fun f=>(.g (.k71 f a b)))) .n))) (.g .k81))| .k57 a b d e f h j=>(.i (decide (0<d)) (.i (u==8) (.c Az202 bjr (s,t,(⟨d,e,f,h,j⟩:Mv),()) fun k=>(.i (!k) (.r true) (.g (.k44 a (w6 (b+1)))))) (.g (.k44 a (w6 (b+1))))) (.g (.k44 a (w6 (b+1)))))| .k71 a b d=>(.i (u==9) (.i d (.i (decide (a<0)) (.r true) (.i (inR a t.m.length) (.c j9 gV ((t.m.getD a.toNat mv0),false,[107],()) fun f=>(.i (!f) (.r true) (.i (inR a t.m.length) (.i (!((t.m.getD a.toNat mv0).t==(w6 (b+1)))) (.r true) (.i (decide (t.e=[87])) (.g (.k77 b a true d)) (.i (decide (t.e=[72])) (.g (.k77 b a true d)) (.g (.k77 b a (decide (t.e=[73])) d))))) .n))) .n)) (.i (decide (t.e=[87])) (.g (.k77 b a true d)) (.i (decide (t.e=[72])) (.g (.k77 b a true d)) (.g (.k77 b a (decide (t.e=[73])) d))))) (.i (decide (t.e=[87])) (.g (.k77 b a true d)) (.i (decide (t.e=[72])) (.g (.k77 b a true d)) (.g (.k77 b a (decide (t.e=[73])) d)))))| .k81=>(.i (!(u==11)) (.r false) (.g (.k86 0)))| .k77 a b d e=>(.i (u==10) (.i d (.c Az25 Sz25 (s,()) fun f=>(.i (a==0) (.i f.1 (.i (decide (b<0)) (.r true) (.i (inR b t.m.length) (.i ((t.m.getD b.toNat mv0).o) (.r true) (.g (.k62 (w6 (a+1)) e))) .n)) (.g (.k62 (w6 (a+1)) e))) (.i (a==1) (.i f.2.1 (.i (decide (b<0)) (.r true) (.i (inR b t.m.length) (.i ((t.m.getD b.toNat mv0).o) (.r true) (.g (.k62 (w6 (a+1)) e))) .n)) (.g (.k62 (w6 (a+1)) e))) (.i (a==2) (.i f.2.2.1 (.i (decide (b<0)) (.r true) (.i (inR b t.m.length) (.i ((t.m.getD b.toNat mv0).o) (.r true) (.g (.k62 (w6 (a+1)) e))) .n)) (.g (.k62 (w6 (a+1)) e))) (.i (a==3) (.i f.2.2.2.1 (.i (decide (b<0)) (.r true) (.i (inR b t.m.length) (.i ((t.m.getD b.toNat mv0).o) (.r true) (.g (.k62 (w6 (a+1)) e))) .n)) (.g (.k62 (w6 (a+1)) e))) .n))))) (.g (.k62 (w6 (a+1)) e))) (.g (.k62 (w6 (a+1)) e)))| .k86 a=>(.i (decide (a<4)) (.g (.k92 (w6 (a+1)) a)) (.r false))| .k92 a b=>(.i (decide (a<4)) (.c Az98 bjq (s,t,b,()) fun d=>(.c Az98 bjq (s,t,a,()) fun e=>(.i (decide (0<d)) (.i (decide (0<e)) (.i (decide (e≤d)) (.i (d==4) (.i (!(e==4)) (.r true) (.g (.k92 (w6 (a+1)) b))) (.r true)) (.g (.k92 (w6 (a+1)) b))) (.g (.k92 (w6 (a+1)) b))) (.g (.k92 (w6 (a+1)) b))))) (.g (.k86 (w6 (b+1)))))
noncomputable def uT (s:St) (t:Pl) (u:Int):Tr Bool ax6 (aki s t u) cB.v:=(.c A29 S29 (s.balls,s.strikes,t.p,()) fun a=>(.c Az197 bjs (t,()) fun b=>(.i (u==1) (.r (!(a.2.2.1==0))) (.i (u==2) (.c Az30 Sz30 ((a.1.1,a.1.2.1,()),t.p,()) fun d=>(.c Az198 Sz198 (d,t.e,()) fun f=>(.r (!f)))) (.i (u==3) (.r (!(b.2.1==(!decide (t.e=[]))))) (.i (u==5) (.i b.2.1 (.c Az199 Sz199 (t.e,b.1,()) fun h=>(.r (!h))) (.r false)) (.i (u==6) (.i (decide (t.e=[75])) (.c j9 gV (b.1,true,[107],()) fun j=>(.i (!j) (.i (!(s.b1==0)) (.r (decide (s.outs<2))) (.r false)) (.r false))) (.r false)) (.i (u==7) (.i (decide (t.e=[89])) (.i (s.outs==2) (.r true) (.i (s.b1==0) (.r true) (.r (s.b2==0)))) (.r false)) (.i (u==12) (.c bqU ajQ (t,()) fun k=>(.r (decide (3<(w6 (s.outs+k)))))) (.i (u==13) (.i t.l (.c Az155 bjw (s,t,()) fun m=>(.i (!m) (.r true) (.c Az201 Sz201 (t,()) fun n=>(.r (n==0))))) (.r false)) (.g (.k44 false 0))))))))))))
def aE (s:St) (t:Pl) (u:Int):=Tr.lp (Tz153J s t u)
theorem Ez153J_s {s:St}{t:Pl}{u:Int}{n:Nat}{l_:ax6}:aE s t u (n+1) l_=(Tz153J s t u l_).d (aE s t u n):=rfl
def jX (n:Nat) (s:St) (t:Pl) (u:Int):=(uT s t u).d (aE s t u n)
def j8 (x:St×Pl×Int×Unit):=jX (x.2.1.m.length+64) x.1 x.2.1 x.2.2.1
def wz153:Wk (St×Pl×Int×Unit) Bool ax6 cB.v:=⟨fun x=>aki x.1 x.2.1 x.2.2.1,uz153,fun x=>uT x.1 x.2.1 x.2.2.1,fun x=>Tz153J x.1 x.2.1 x.2.2.1⟩
noncomputable def Kz153:=aU 121 Tryz.func121 [Kz25,K29,Kz30,Kz59,Kz98,Kz155,Kz157,Kz197,Kz198,Kz199,bxW,Kz201,Kz202] noZ ⟨315,(lookA [(22,⟨[2,3,4,12,13],[0,1],2,[],[],[],[]⟩),(31,⟨[2,3,4,12,15],[0,1],2,[],[],[],[]⟩),(43,⟨[3,4,18],[0,1],2,[],[],[],[]⟩),(46,⟨[3,4,18,19],[0,1],2,[],[],[],[]⟩)]),(lookA [(25,⟨[2,3,4,12,13],[0,1],2,[],[],[],[]⟩),(30,⟨[2,3,4,12],[0,1],2,[],[],[],[]⟩),(26,⟨[2,3,4,12,13,14],[0,1,2],3,[],[],[],[]⟩),(28,⟨[2,3,4,12,13,14],[0,1,2],3,[],[],[],[]⟩),(35,⟨[2,3,4,12,15,16],[0,1],2,[],[],[],[]⟩),(40,⟨[2,3,4],[0,1],2,[],[],[],[]⟩),(38,⟨[2,3,4,12,15,16,17],[0,1],2,[],[],[],[]⟩)]),noL⟩ 128 Az153 cB j8 wz153 (fun x=>x.2.1.m.length+64)
def Az94:=(Row.cons (Cod.agg rSt) (Row.cons (Cod.agg rPl) Row.nil))
inductive Lz94 where
 | k4 (a:Int)
def uz94:Lz94→Nat
 | .k4 _=>4
def sLz94 (s:St) (t:Pl):Lz94→D
 | .k4 a=>mD [(2,.ptr 0 0),(3,.ptr 1 0),(5,.int .i64 a)] 2 [(0,.row ⟨(rSt.v s),78,false⟩),(1,.row ⟨(rPl.v t),48,false⟩)] 128 []
def Tz94J (s:St) (t:Pl):(l_:Lz94)→Tr Int Lz94 (sLz94 s t) cI.v
 | .k4 a=>(.i (decide (a≤13)) (.c Az153 j8 (s,t,a,()) fun b=>(.i b (.r a) (.g (.k4 (w6 (a+1)))))) (.r 0))
def Tz94 (s:St) (t:Pl):Tr Int Lz94 (sLz94 s t) cI.v:=(.g (.k4 1))
def bqD (s:St) (t:Pl):=Tr.lp (Tz94J s t)
def Ez94 (n:Nat) (s:St) (t:Pl):=(Tz94 s t).d (bqD s t n)
def Sz94 (x:St×Pl×Unit):=Ez94 (x.2.1.m.length+64) x.1 x.2.1
def wz94:Wk (St×Pl×Unit) Int Lz94 cI.v:=⟨fun x=>sLz94 x.1 x.2.1,uz94,fun x=>Tz94 x.1 x.2.1,fun x=>Tz94J x.1 x.2.1⟩
def Kz94:=aU 67 Tryz.func67 [Kz153] noZ ⟨15,(lookA [(2,⟨[2,3,5],[0,1],2,[],[],[],[]⟩)]),noL,noL⟩ 128 Az94 cI Sz94 wz94 (fun x=>x.2.1.m.length+64)
def Az154:=(Row.cons cI Row.nil)
def Tz154 (s:Int):Tr Int Empty noS cI.v:=(.r (w6 ((s.tmod 9)+1)))
def Ez154 (s:Int):=(Tz154 s).d noE
def avh (x:Int×Unit):=Ez154 x.1
def wz154:Wk (Int×Unit) Int Empty cI.v:=wk0 fun x=>Tz154 x.1
def Kz154:=aU 123 Tryz.func123 [] noZ ⟨6,noL,noL,noL⟩ 128 Az154 cI avh wz154 (fun _=>0)
def Az156:=(Row.cons (Cod.agg rMv) Row.nil)
noncomputable def Tz156 (s:Mv):Tr Bool Empty noS cB.v:=(.c j9 gV (s,true,[102],()) fun a=>(.i a (.r true) (.i (s.f==0) (.c j9 gV (s,true,[99,107,121,110],()) fun b=>(.i b (.r true) (.c j9 gV (s,true,[103],()) fun d=>(.i d (.r (s.t==1)) (.r false))))) (.r false))))
def Ez156 (s:Mv):=(Tz156 s).d noE
def Sz156 (x:Mv×Unit):=Ez156 x.1
def wz156:Wk (Mv×Unit) Bool Empty cB.v:=wk0 fun x=>Tz156 x.1
def Kz156:=aU 125 Tryz.func125 [bxW] noZ ⟨23,noL,noL,noL⟩ 128 Az156 cB Sz156 wz156 (fun _=>0)
def Az96:=(Row.cons (Cod.agg rSt) (Row.cons (Cod.agg rPl) Row.nil))
inductive Lz96 where
 | k8 (a:Int)
def uz96:Lz96→Nat
 | .k8 _=>8
def sLz96 (s:St) (t:Pl):Lz96→D
 | .k8 a=>mD [(3,.ptr 1 0),(5,.int .i64 a)] 2 [(1,.row ⟨(rPl.v t),48,false⟩)] 128 []
noncomputable def aye (s:St) (t:Pl):(l_:Lz96)→Tr Bool Lz96 (sLz96 s t) cB.v
 | .k8 a=>(.i (decide (a<((t.m.length:Nat):Int))) (.i (inR a t.m.length) (.c Az156 Sz156 ((t.m.getD a.toNat mv0),()) fun b=>(.i b (.r false) (.g (.k8 (w6 (a+1)))))) .n) (.r (!t.l)))
def Tz96 (s:St) (t:Pl):Tr Bool Lz96 (sLz96 s t) cB.v:=(.c Az155 bjw (s,t,()) fun a=>(.i (!a) (.r true) (.g (.k8 0))))
def bqC (s:St) (t:Pl):=Tr.lp (aye s t)
theorem bqB {s:St}{t:Pl}{n:Nat}{l_:Lz96}:bqC s t (n+1) l_=(aye s t l_).d (bqC s t n):=rfl
def Ez96 (n:Nat) (s:St) (t:Pl):=(Tz96 s t).d (bqC s t n)
def Sz96 (x:St×Pl×Unit):=Ez96 (x.2.1.m.length+64) x.1 x.2.1
def wz96:Wk (St×Pl×Unit) Bool Lz96 cB.v:=⟨fun x=>sLz96 x.1 x.2.1,uz96,fun x=>Tz96 x.1 x.2.1,fun x=>aye x.1 x.2.1⟩
def Kz96:=aU 70 Tryz.func70 [Kz155,Kz156] noZ ⟨26,(lookA [(4,⟨[3,5],[1],2,[],[],[],[]⟩)]),noL,noL⟩ 128 Az96 cB Sz96 wz96 (fun x=>x.2.1.m.length+64)
def Az97:=(Row.cons (Cod.agg rSt) (Row.cons cI Row.nil))
def Tz97 (s:St) (t:Int):Tr Int Empty noS cI.v:=(.i (t==0) (.i (s.half==0) (.r s.n0) (.i (s.half==1) (.r s.n1) .n)) (.i ((w6 (t-1))==0) (.r s.b1) (.i ((w6 (t-1))==1) (.r s.b2) (.i ((w6 (t-1))==2) (.r s.b3) .n))))
def Ez97 (s:St) (t:Int):=(Tz97 s t).d noE
def bzM (x:St×Int×Unit):=Ez97 x.1 x.2.1
def wz97:Wk (St×Int×Unit) Int Empty cI.v:=wk0 fun x=>Tz97 x.1 x.2.1
def Kz97:=aU 71 Tryz.func71 [] noZ ⟨17,noL,noL,noL⟩ 128 Az97 cI bzM wz97 (fun _=>0)
def Az39:=(Row.cons (Cod.agg rSt) (Row.cons (Cod.agg rPl) Row.nil))
def Wz39 (r:(List (Int))):V:=.el (r.map a7.v)
theorem hWz39 (r:(List (Int))):(Wz39 r).c=((Cod.list 0 a7).v r).c:=by first|rfl|exact aS|(show EVal.tup (V.cs _)=EVal.tup (V.cs _);simp only [V.cs_map,List.map_cons,List.map_nil,aS];rfl)
inductive Lz39 where
 | k6 (a:Int)(b:List (Int))
def uz39:Lz39→Nat
 | .k6 _ _=>6
def akY (s:St) (t:Pl) (x3:Int) (x4:List (List V)):D:=mD [(2,.ptr 0 0),(3,.ptr 1 0),(5,.gl 128),(6,.int .i64 x3)] 2 [(0,.row ⟨(rSt.v s),78,false⟩),(1,.row ⟨(rPl.v t),48,false⟩)] 129 [(128,(x4,3))]
def bqh (s:St) (t:Pl):Lz39→D
 | .k6 a b=>akY s t a (b.map a7.v)
noncomputable def ayl (s:St) (t:Pl):(l_:Lz39)→Tr (List (Int)) Lz39 (bqh s t) Wz39
 | .k6 a b=>(.i (decide (a<((t.m.length:Nat):Int))) (.c Az96 Sz96 (s,t,()) fun d=>(.i d (.i (inR a t.m.length) (.i (!(t.m.getD a.toNat mv0).o) (.i (inR a t.m.length) (.i ((t.m.getD a.toNat mv0).t==4) (.i (inR a t.m.length) (.c Az97 bzM (s,(t.m.getD a.toNat mv0).f,()) fun e=>(.i (Nat.ble (8*(((b.map a7.v)).length+1)) 1000000) (.j (.k6 (w6 (a+1)) (b++[e])) (akY s t (w6 (a+1)) ((b.map a7.v)++[[.int .i64 e]])) ⟨by simp only [bqh,List.map_append,List.map_cons,List.map_nil];rfl⟩) .n)) .n) (.g (.k6 (w6 (a+1)) b))) .n) (.g (.k6 (w6 (a+1)) b))) .n) (.r b))) (.r b))
def Tz39 (s:St) (t:Pl):Tr (List (Int)) Lz39 (bqh s t) Wz39:=(.g (.k6 0 []))
def bx1 (s:St) (t:Pl):=Tr.lp (ayl s t)
theorem bqS {s:St}{t:Pl}{n:Nat}{l_:Lz39}:bx1 s t (n+1) l_=(ayl s t l_).d (bx1 s t n):=rfl
def Ez39 (n:Nat) (s:St) (t:Pl):=(Tz39 s t).d (bx1 s t n)
def bzN (x:St×Pl×Unit):=Ez39 (x.2.1.m.length+64) x.1 x.2.1
def wz39:Wk (St×Pl×Unit) (List (Int)) Lz39 Wz39:=⟨fun x=>bqh x.1 x.2.1,uz39,fun x=>Tz39 x.1 x.2.1,fun x=>ayl x.1 x.2.1⟩
def Kz39:=aU 35 Tryz.func35 [Kz96,Kz97] noZ ⟨47,(lookA [(3,⟨[2,3,5,6],[0,1],2,[(5,3)],[128],[],[]⟩)]),noL,noL⟩ 128 Az39 (Cod.list 0 a7) bzN wz39 (fun x=>x.2.1.m.length+64) hWz39
def Az95:=(Row.cons (Cod.agg rSt) (Row.cons (Cod.agg rPl) Row.nil))
inductive Lz95 where
 | k7 (a b:Int)
 | k11 (a b:Int)
 | k13
 | k17 (a b c d e:Int)
 | k22 (a b c d e f g h i j k:Int)
def uz95:Lz95→Nat
 | .k7 _ _=>7| .k11 _ _=>11| .k13=>13| .k17 _ _ _ _ _=>17| .k22 _ _ _ _ _ _ _ _ _ _ _=>22
noncomputable def sLz95 (s:St) (t:Pl):Lz95→D
 | .k7 a b=>mD [(2,.ptr 0 0),(3,.ptr 1 0),(4,.ptr 2 0),(5,.ptr 3 0),(6,.lptr [.int .i64 a,.int .i64 b] 0)] 4 [(0,.row ⟨(rSt.v s),78,false⟩),(1,.row ⟨(rPl.v t),48,false⟩),(2,.row ⟨[.int .i64 0,.int .i64 0,.int .i64 0,.int .i64 0,.int .i64 0,.int .i64 0,.int .i64 0,.int .i64 0,.int .i64 0,.int .i64 0,.int .i64 0,.int .i64 0,.bool false],78,false⟩),(3,.row ⟨(rSt.v s),78,false⟩)] 128 []| .k11 a b=>mD [(2,.ptr 0 0),(3,.ptr 1 0),(4,.ptr 2 0),(5,.ptr 3 0),(31,.bool (!decide (t.e=[])))] 4 [(0,.row ⟨(rSt.v s),78,false⟩),(1,.row ⟨(rPl.v t),48,false⟩),(2,.row ⟨[.int .i64 0,.int .i64 0,.int .i64 0,.int .i64 0,.int .i64 0,.int .i64 0,.int .i64 0,.int .i64 0,.int .i64 0,.int .i64 0,.int .i64 0,.int .i64 0,.bool false],78,false⟩),(3,.row ⟨[.int .i64 s.inn,.int .i64 s.half,.int .i64 s.outs,.int .i64 a,.int .i64 b,.int .i64 s.b1,.int .i64 s.b2,.int .i64 s.b3,.int .i64 s.n0,.int .i64 s.n1,.int .i64 s.c0,.int .i64 s.c1,.bool s.over],78,false⟩)] 128 []| .k13=>mD [(2,.ptr 0 0),(3,.ptr 1 0),(4,.ptr 2 0),(5,.ptr 3 0)] 4 [(0,.row ⟨(rSt.v s),78,false⟩),(1,.row ⟨(rPl.v t),48,false⟩),(2,.row ⟨[.int .i64 0,.int .i64 0,.int .i64 0,.int .i64 0,.int .i64 0,.int .i64 0,.int .i64 0,.int .i64 0,.int .i64 0,.int .i64 0,.int .i64 0,.int .i64 0,.bool false],78,false⟩),(3,.row ⟨[.int .i64 s.inn,.int .i64 s.half,.int .i64 s.outs,.int .i64 0,.int .i64 0,.int .i64 s.b1,.int .i64 s.b2,.int .i64 s.b3,.int .i64 s.n0,.int .i64 s.n1,.int .i64 s.c0,.int .i64 s.c1,.bool s.over],78,false⟩)] 128 []| .k17 a b c d e=>mD [(2,.ptr 0 0),(3,.ptr 1 0),(4,.ptr 2 0),(5,.ptr 3 0)] 4 [(0,.row ⟨(rSt.v s),78,false⟩),(1,.row ⟨(rPl.v t),48,false⟩),(2,.row ⟨[.int .i64 0,.int .i64 0,.int .i64 0,.int .i64 0,.int .i64 0,.int .i64 0,.int .i64 0,.int .i64 0,.int .i64 0,.int .i64 0,.int .i64 0,.int .i64 0,.bool false],78,false⟩),(3,.row ⟨[.int .i64 s.inn,.int .i64 s.half,.int .i64 a,.int .i64 b,.int .i64 c,.int .i64 s.b1,.int .i64 s.b2,.int .i64 s.b3,.int .i64 e,.int .i64 d,.int .i64 s.c0,.int .i64 s.c1,.bool s.over],78,false⟩)] 128 []| .k22 a b c d e f g h i j k=>mD [(2,.ptr 0 0),(3,.ptr 1 0),(4,.ptr 2 0),(5,.ptr 3 0),(9,.int .i64 h)] 4 [(0,.row ⟨(rSt.v s),78,false⟩),(1,.row ⟨(rPl.v t),48,false⟩),(2,.row ⟨[.int .i64 0,.int .i64 0,.int .i64 0,.int .i64 0,.int .i64 0,.int .i64 0,.int .i64 0,.int .i64 0,.int .i64 0,.int .i64 0,.int .i64 0,.int .i64 0,.bool false],78,false⟩),(3,.row ⟨[.int .i64 s.inn,.int .i64 s.half,.int .i64 a,.int .i64 b,.int .i64 c,.int .i64 k,.int .i64 j,.int .i64 i,.int .i64 d,.int .i64 e,.int .i64 g,.int .i64 f,.bool s.over],78,false⟩)] 128 []
noncomputable def bji (s:St) (t:Pl):(l_:Lz95)→Tr St Lz95 (sLz95 s t) (Cod.agg rSt).v
 | .k7 a b=>(.g (.k11 a b))| .k11 a b=>(.i (!decide (t.e=[])) (.g .k13) (.c bqU ajQ (t,()) fun d=>(.g (.k17 (w6 (s.outs+d)) a b s.n1 s.n0))))| .k13=>(.i (s.half==0) (.c Az154 avh (s.n0,()) fun a=>(.i (s.half==0) (.c bqU ajQ (t,()) fun b=>(.g (.k17 (w6 (s.outs+b)) 0 0 s.n1 a))) (.i (s.half==1) (.c bqU ajQ (t,()) fun d=>(.g (.k17 (w6 (s.outs+d)) 0 0 a s.n0))) .n))) (.i (s.half==1) (.c Az154 avh (s.n1,()) fun e=>(.i (s.half==0) (.c bqU ajQ (t,()) fun f=>(.g (.k17 (w6 (s.outs+f)) 0 0 s.n1 e))) (.i (s.half==1) (.c bqU ajQ (t,()) fun h=>(.g (.k17 (w6 (s.outs+h)) 0 0 e s.n0))) .n))) .n))| .k17 a b d e f=>(.i (s.half==0) (.c Az39 bzN (s,t,()) fun h=>(.i (s.half==0) (.g (.k22 a b d f e s.c1 (w6 (s.c0+((h.length:Nat):Int))) 0 0 0 0)) (.i (s.half==1) (.g (.k22 a b d f e (w6 (s.c0+((h.length:Nat):Int))) s.c0 0 0 0 0)) .n))) (.i (s.half==1) (.c Az39 bzN (s,t,()) fun j=>(.i (s.half==0) (.g (.k22 a b d f e s.c1 (w6 (s.c1+((j.length:Nat):Int))) 0 0 0 0)) (.i (s.half==1) (.g (.k22 a b d f e (w6 (s.c1+((j.length:Nat):Int))) s.c0 0 0 0 0)) .n))) .n))| .k22 a b d e f h j k l m o=>(.i (decide (k<4)) (.c Az98 bjq (s,t,k,()) fun p=>(.i (decide (0<p)) (.i (decide (p<4)) (.c Az97 bzM (s,k,()) fun q=>(.i ((w6 (p-1))==0) (.g (.k22 a b d e f h j (w6 (k+1)) l m q)) (.i ((w6 (p-1))==1) (.g (.k22 a b d e f h j (w6 (k+1)) l q o)) (.i ((w6 (p-1))==2) (.g (.k22 a b d e f h j (w6 (k+1)) q m o)) .n)))) (.g (.k22 a b d e f h j (w6 (k+1)) l m o))) (.g (.k22 a b d e f h j (w6 (k+1)) l m o)))) (.r (⟨s.inn,s.half,a,b,d,o,m,l,e,f,j,h,s.over⟩:St)))
def Tz95 (s:St) (t:Pl):Tr St Lz95 (sLz95 s t) (Cod.agg rSt).v:=(.c A29 S29 (s.balls,s.strikes,t.p,()) fun a=>(.g (.k7 a.1.1 a.1.2.1)))
def fN (s:St) (t:Pl):=Tr.lp (bji s t)
theorem Ez95J_s {s:St}{t:Pl}{n:Nat}{l_:Lz95}:fN s t (n+1) l_=(bji s t l_).d (fN s t n):=rfl
def Ez95 (n:Nat) (s:St) (t:Pl):=(Tz95 s t).d (fN s t n)
def Sz95 (x:St×Pl×Unit):=Ez95 (x.2.1.m.length+64) x.1 x.2.1
def wz95:Wk (St×Pl×Unit) St Lz95 (Cod.agg rSt).v:=⟨fun x=>sLz95 x.1 x.2.1,uz95,fun x=>Tz95 x.1 x.2.1,fun x=>bji x.1 x.2.1⟩
noncomputable def Kz95:=aU 68 Tryz.func68 [K29,Kz39,Kz59,Kz97,Kz98,Kz154] noZ ⟨88,(lookA [(11,⟨[2,3,4,5,9],[0,1,2,3],4,[],[],[],[]⟩)]),(lookA [(3,⟨[2,3,4,5,6],[0,1,2,3],4,[],[],[(4,1)],[]⟩),(5,⟨[2,3,4,5,31],[0,1,2,3],4,[],[],[],[]⟩),(6,⟨[2,3,4,5],[0,1,2,3],4,[],[],[],[]⟩),(8,⟨[2,3,4,5],[0,1,2,3],4,[],[],[],[]⟩)]),noL⟩ 128 Az95 (Cod.agg rSt) Sz95 wz95 (fun x=>x.2.1.m.length+64)
def Az67:=(Row.cons (Cod.agg rSt) Row.nil)
def Tz67 (s:St):Tr Bool Empty noS cB.v:=(.i (decide (9≤s.inn)) (.i (s.half==1) (.r (decide (s.c0<s.c1))) (.r false)) (.r false))
def Ez67 (s:St):=(Tz67 s).d noE
def Sz67 (x:St×Unit):=Ez67 x.1
def wz67:Wk (St×Unit) Bool Empty cB.v:=wk0 fun x=>Tz67 x.1
def Kz67:=aU 69 Tryz.func69 [] noZ ⟨20,noL,noL,noL⟩ 128 Az67 cB Sz67 wz67 (fun _=>0)
def Az41:=(Row.cons (Cod.agg rSt) (Row.cons (Cod.agg rPl) Row.nil))
noncomputable def Tz41 (s:St) (t:Pl):Tr Int Empty noS cI.v:=(.c Az95 Sz95 (s,t,()) fun a=>(.c Az67 Sz67 (a,()) fun b=>(.i b (.r 2) (.i (decide (a.outs<3)) (.r 0) (.i (decide (9≤a.inn)) (.i (a.half==0) (.i (decide (a.c0<a.c1)) (.r 2) (.i (a.half==1) (.i (!(a.c0==a.c1)) (.r 2) (.i (a.half==1) (.i (a.inn==30) (.r 2) (.r 1)) (.r 1))) (.i (a.half==1) (.i (a.inn==30) (.r 2) (.r 1)) (.r 1)))) (.i (a.half==1) (.i (!(a.c0==a.c1)) (.r 2) (.i (a.half==1) (.i (a.inn==30) (.r 2) (.r 1)) (.r 1))) (.i (a.half==1) (.i (a.inn==30) (.r 2) (.r 1)) (.r 1)))) (.i (a.half==1) (.i (a.inn==30) (.r 2) (.r 1)) (.r 1)))))))
def Ez41 (s:St) (t:Pl):=(Tz41 s t).d noE
def Sz41 (x:St×Pl×Unit):=Ez41 x.1 x.2.1
def wz41:Wk (St×Pl×Unit) Int Empty cI.v:=wk0 fun x=>Tz41 x.1 x.2.1
def Kz41:=aU 34 Tryz.func34 [Kz67,Kz95] noZ ⟨57,noL,noL,noL⟩ 128 Az41 cI Sz41 wz41 (fun _=>0)
def Az38:=(Row.cons (Cod.agg rSt) (Row.cons (Cod.agg rPl) Row.nil))
noncomputable def Tz38 (s:St) (t:Pl):Tr ((St)×(Int)×(Int)×Unit) Empty noS (Cod.tup (Row.cons (Cod.agg rSt) (Row.cons cI (Row.cons cI Row.nil)))).v:=(.i s.over (.r ((⟨0,0,0,0,0,0,0,0,0,0,0,0,false⟩:St),0,20,())) (.c Az94 Sz94 (s,t,()) fun a=>(.i (!(a==0)) (.r ((⟨0,0,0,0,0,0,0,0,0,0,0,0,false⟩:St),a,18,())) (.c Az95 Sz95 (s,t,()) fun b=>(.i (decide (9999<b.c0)) (.r ((⟨0,0,0,0,0,0,0,0,0,0,0,0,false⟩:St),0,4,())) (.i (decide (9999<b.c1)) (.r ((⟨0,0,0,0,0,0,0,0,0,0,0,0,false⟩:St),0,4,())) (.c Az41 Sz41 (s,t,()) fun d=>(.i (d==0) (.r (b,0,0,())) (.i (d==2) (.r ((⟨b.inn,b.half,0,0,0,0,0,0,b.n0,b.n1,b.c0,b.c1,true⟩:St),0,0,())) (.i ((w6 (1-b.half))==0) (.r ((⟨(w6 (b.inn+1)),(w6 (1-b.half)),0,0,0,0,0,0,b.n0,b.n1,b.c0,b.c1,b.over⟩:St),0,0,())) (.r ((⟨b.inn,(w6 (1-b.half)),0,0,0,0,0,0,b.n0,b.n1,b.c0,b.c1,b.over⟩:St),0,0,()))))))))))))
def Ez38 (s:St) (t:Pl):=(Tz38 s t).d noE
def Sz38 (x:St×Pl×Unit):=Ez38 x.1 x.2.1
def wz38:Wk (St×Pl×Unit) ((St)×(Int)×(Int)×Unit) Empty (Cod.tup (Row.cons (Cod.agg rSt) (Row.cons cI (Row.cons cI Row.nil)))).v:=wk0 fun x=>Tz38 x.1 x.2.1
def Kz38:=aU 33 Tryz.func33 [Kz41,Kz94,Kz95] noZ ⟨61,noL,noL,noL⟩ 128 Az38 (Cod.tup (Row.cons (Cod.agg rSt) (Row.cons cI (Row.cons cI Row.nil)))) Sz38 wz38 (fun _=>0)
def Az40:=(Row.cons (Cod.agg rSt) (Row.cons (Cod.agg rPl) Row.nil))
def Wz40 (r:(List (Int))):V:=.el (r.map a7.v)
theorem hWz40 (r:(List (Int))):(Wz40 r).c=((Cod.list 0 a7).v r).c:=by first|rfl|exact aS|(show EVal.tup (V.cs _)=EVal.tup (V.cs _);simp only [V.cs_map,List.map_cons,List.map_nil,aS];rfl)
inductive Lz40 where
 | k10 (a:Int)(b:List (Int))
 | k16 (a:Int)(b:List (Int))(c:Int)
def uz40:Lz40→Nat
 | .k10 _ _=>10| .k16 _ _ _=>16
def bqb (s:St) (t:Pl) (x10:Int) (x11:List (List V)):D:=mD [(2,.ptr 0 0),(3,.ptr 1 0),(5,.gl 128),(6,.int .i64 x10)] 2 [(0,.row ⟨(rSt.v s),78,false⟩),(1,.row ⟨(rPl.v t),48,false⟩)] 129 [(128,(x11,3))]
noncomputable def xR (s:St) (t:Pl) (x5:Int) (x6:List (List V)) (x12:Int):D:=mD [(2,.ptr 0 0),(3,.ptr 1 0),(5,.gl 128),(6,.int .i64 x12),(7,.int .i64 x5)] 2 [(0,.row ⟨(rSt.v s),78,false⟩),(1,.row ⟨(rPl.v t),48,false⟩)] 129 [(128,(x6,3))]
def ake (s:St) (t:Pl):Lz40→D
 | .k10 a b=>bqb s t a (b.map a7.v)| .k16 a b c=>xR s t a (b.map a7.v) c
noncomputable def bjk (s:St) (t:Pl):(l_:Lz40)→Tr (List (Int)) Lz40 (ake s t) Wz40
 | .k10 a b=>(.i (decide (1≤a)) (.g (.k16 3 b a)) (.r b))| .k16 a b d=>(.i (decide (0≤a)) (.c Az98 bjq (s,t,a,()) fun e=>(.i (e==d) (.i (decide (d<4)) (.c Az97 bzM (s,a,()) fun f=>(.i (Nat.ble (8*(((b.map a7.v)).length+1)) 1000000) (.j (.k16 (w6 (a-1)) (b++[f]) d) (xR s t (w6 (a-1)) ((b.map a7.v)++[[.int .i64 f]]) d) ⟨by simp only [ake,List.map_append,List.map_cons,List.map_nil];rfl⟩) .n)) (.c Az96 Sz96 (s,t,()) fun h=>(.i (!h) (.c Az97 bzM (s,a,()) fun k=>(.i (Nat.ble (8*(((b.map a7.v)).length+1)) 1000000) (.j (.k16 (w6 (a-1)) (b++[k]) d) (xR s t (w6 (a-1)) ((b.map a7.v)++[[.int .i64 k]]) d) ⟨by simp only [ake,List.map_append,List.map_cons,List.map_nil];rfl⟩) .n)) (.g (.k16 (w6 (a-1)) b d))))) (.g (.k16 (w6 (a-1)) b d)))) (.g (.k10 (w6 (d-1)) b)))
def Tz40 (s:St) (t:Pl):Tr (List (Int)) Lz40 (ake s t) Wz40:=(.c Az41 Sz41 (s,t,()) fun a=>(.i (a==0) (.r []) (.g (.k10 4 []))))
def jW (s:St) (t:Pl):=Tr.lp (bjk s t)
theorem Ez40J_s {s:St}{t:Pl}{n:Nat}{l_:Lz40}:jW s t (n+1) l_=(bjk s t l_).d (jW s t n):=rfl
def Ez40 (n:Nat) (s:St) (t:Pl):=(Tz40 s t).d (jW s t n)
def Sz40 (x:St×Pl×Unit):=Ez40 (x.2.1.m.length+64) x.1 x.2.1
def wz40:Wk (St×Pl×Unit) (List (Int)) Lz40 Wz40:=⟨fun x=>ake x.1 x.2.1,uz40,fun x=>Tz40 x.1 x.2.1,fun x=>bjk x.1 x.2.1⟩
noncomputable def Kz40:=aU 38 Tryz.func38 [Kz41,Kz96,Kz97,Kz98] noZ ⟨43,(lookA [(5,⟨[2,3,5,6],[0,1],2,[(5,3)],[128],[],[]⟩),(8,⟨[2,3,5,6,7],[0,1],2,[],[128],[],[]⟩)]),noL,noL⟩ 128 Az40 (Cod.list 0 a7) Sz40 wz40 (fun x=>x.2.1.m.length+64) hWz40
end
end Go.Ev
