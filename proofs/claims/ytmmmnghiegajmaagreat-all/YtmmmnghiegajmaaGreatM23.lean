import Derived.Test.YtmmmnghiegajmaaGreatM22
set_option maxHeartbeats 2000000
open Go.RowKit Go.Proofs.Herald Go.Proofs.Tryz
namespace Go.Proofs.YtmmmnghiegajmaaGreat
theorem oS (c:Int)(w:World):
  Calls prog 122 #[.int .u8 c] w fun e w'=>e=.returned (.bool (c==32 || c==10))/\w'=w:=by
 cases h1:(c==32) with
 | true=>
  go_enter func122,ntmps122
  go_wp2
  go_ret;exact⟨rfl,rfl⟩
 | false=>
  cases h2:(c==10) with
  | true=>
   go_enter func122,ntmps122
   go_wp2
   go_ret;exact⟨rfl,rfl⟩
  | false=>
   go_enter func122,ntmps122
   go_wp2
   go_ret;exact⟨rfl,rfl⟩
theorem qh (c:Int)(w:World):
  Calls prog 123 #[.int .u8 c] w fun e w'=>e=.returned (.bool (c==123 || c==125))/\w'=w:=by
 cases h1:(c==123) with
 | true=>
  go_enter func123,ntmps123
  go_wp2
  go_ret;exact⟨rfl,rfl⟩
 | false=>
  cases h2:(c==125) with
  | true=>
   go_enter func123,ntmps123
   go_wp2
   go_ret;exact⟨rfl,rfl⟩
  | false=>
   go_enter func123,ntmps123
   go_wp2
   go_ret;exact⟨rfl,rfl⟩
theorem zT (t:ByteArray)(i:Int)(i0:Nat)(hi:i=i0)(w:World)(ht:t.size<=400)(hi0:i0<=t.size):
  Calls prog 107 #[.string t,.int .i64 i] w fun e w'=>e=.returned (.int .i64 (dB (t.data.toList.drop i0) i0:Nat))/\w'=w:=by
 subst hi;go_enter func107,ntmps107
 go_wp2_with fail
 go_loop [1] (fun x=>∃ k:Nat,k<=t.size/\x=.int .i64 k/\dB (t.data.toList.drop k) k=dB (t.data.toList.drop i0) i0) (fun x=>t.size - (intOf x).toNat)
 case atStart=>exact⟨i0,hi0,rfl,rfl⟩
 case round=>
  obtain⟨k,hk,rfl,hr⟩:=hrel;by_cases hlt:k<t.size
  .by_cases hg:((t[k]).toNat:Int)=32\/((t[k]).toNat:Int)=10
   .rw[Aq t k hlt hg]at hr;have HR:=ah hr;have hb:(((t[k]).toNat:Int)==32 || ((t[k]).toNat:Int)==10)=true:=by simpa using hg
    have HG:=ah hb;clear hr hg hb;go_wp2_with (go_at_call 122;refine(oS _ _).mono ?_;rw[HG];rintro e w' ⟨rfl,rfl⟩)
    go_round;case rel=>exact⟨k+1,by omega,by go_num,HR.out⟩
    case measure=>simp[intOf];omega
   .rw[Ap t k hlt (by omega) (by omega)]at hr;have HR:=ah hr;have hb:(((t[k]).toNat:Int)==32 || ((t[k]).toNat:Int)==10)=false:=by simpa using hg
    have HG:=ah hb;clear hr hg hb;go_wp2_with (go_at_call 122;refine(oS _ _).mono ?_;rw[HG];rintro e w' ⟨rfl,rfl⟩)
    go_ret;exact⟨dO (by rw[<- HR]),rfl⟩
  .rw[uP t k (by omega)]at hr;have HR:=ah hr;clear hr;go_wp2_with fail
   go_ret;exact⟨dO (by rw[<- HR]),rfl⟩
theorem Bv (t:ByteArray)(i:Int)(i0:Nat)(hi:i=i0)(w:World)(ht:t.size<=400)(hi0:i0<=t.size):
  Calls prog 108 #[.string t,.int .i64 i] w fun e w'=>e=.returned (.int .i64 (fK (t.data.toList.drop i0) i0:Nat))/\w'=w:=by
 subst hi;by_cases hbr:∃ h:i0<t.size,((t[i0]).toNat:Int)=123\/((t[i0]).toNat:Int)=125
 .obtain⟨A0,hb⟩:=hbr;have HE:Hid (_=_):=Bp t i0 A0 hb;have A2:(((t[i0]).toNat:Int)==123 || ((t[i0]).toNat:Int)==125)=true:=by simpa using hb
  have HG:=ah A2;clear hb A2;go_enter func108,ntmps108
  go_wp2_with (go_at_call 123;refine(qh _ _).mono ?_;rw[HG];rintro e w' ⟨rfl,rfl⟩)
  go_ret;exact⟨dO (by rw[HE];omega),rfl⟩
 .have HE:Hid (fK (t.data.toList.drop i0) i0=eK (t.data.toList.drop i0) i0):=by
   by_cases A0:i0<t.size
   .exact AK t i0 A0 (fun h=>hbr ⟨A0,.inl h⟩) (fun h=>hbr ⟨A0,.inr h⟩)
   .exact wK t i0 (by omega)
  have A1:(∃ h:i0<t.size,(((t[i0]).toNat:Int)==123 || ((t[i0]).toNat:Int)==125)=false)\/¬ i0<t.size:=by
   by_cases A0:i0<t.size
   .left;refine⟨A0,?_⟩;have h1:¬ ((t[i0]).toNat:Int)=123:=fun h=>hbr ⟨A0,.inl h⟩;have h2:¬ ((t[i0]).toNat:Int)=125:=fun h=>hbr ⟨A0,.inr h⟩;simp;omega
   .exact .inr A0
  clear hbr;rcases A1 with ⟨A0,hg⟩|A0
  .have HG:=ah hg;clear hg;go_enter func108,ntmps108
   go_wp2_with (go_at_call 123;refine(qh _ _).mono ?_;rw[HG];rintro e w' ⟨rfl,rfl⟩)
   go_loop [1] (fun x=>∃ k:Nat,k<=t.size/\x=.int .i64 k/\eK (t.data.toList.drop k) k=eK (t.data.toList.drop i0) i0) (fun x=>t.size - (intOf x).toNat)
   case atStart=>exact⟨i0,hi0,rfl,rfl⟩
   case round=>
    obtain⟨k,hk,rfl,hr⟩:=hrel;clear HG;by_cases hlk:k<t.size
    .by_cases hg:((t[k]).toNat:Int)=32\/((t[k]).toNat:Int)=10
     .rw[uQ t k hlk (by omega)]at hr;have HR:=ah hr;have HG:Hid ((((t[k]).toNat:Int)==32 || ((t[k]).toNat:Int)==10)=true):=by show _=_;simpa using hg
      clear hr hg;go_wp2_with (go_at_call 122;refine(oS _ _).mono ?_;rw[HG];rintro e w' ⟨rfl,rfl⟩)
      go_ret;exact⟨dO (by rw[HE,<- HR]),rfl⟩
     .have HG:Hid ((((t[k]).toNat:Int)==32 || ((t[k]).toNat:Int)==10)=false):=by show _=_;simpa using hg
      by_cases hb:((t[k]).toNat:Int)=123\/((t[k]).toNat:Int)=125
      .rw[uQ t k hlk (by omega)]at hr;have HR:=ah hr;have HB:Hid ((((t[k]).toNat:Int)==123 || ((t[k]).toNat:Int)==125)=true):=by show _=_;simpa using hb
       clear hr hg hb;go_wp2_with (first|(go_at_call 122;refine(oS _ _).mono ?_;rw[HG];rintro e w' ⟨rfl,rfl⟩)|(go_at_call 123;refine(qh _ _).mono ?_;rw[HB];rintro e w' ⟨rfl,rfl⟩))
       go_ret;exact⟨dO (by rw[HE,<- HR]),rfl⟩
      .rw[BB t k hlk (by omega) (by omega) (by omega) (by omega)]at hr;have HR:=ah hr;have HB:Hid ((((t[k]).toNat:Int)==123 || ((t[k]).toNat:Int)==125)=false):=by show _=_;simpa using hb
       clear hr hg hb;go_wp2_with (first|(go_at_call 122;refine(oS _ _).mono ?_;rw[HG];rintro e w' ⟨rfl,rfl⟩)|(go_at_call 123;refine(qh _ _).mono ?_;rw[HB];rintro e w' ⟨rfl,rfl⟩))
       go_round;case rel=>exact⟨k+1,by omega,by go_num,HR.out⟩
       case measure=>simp[intOf];omega
    .rw[rX t k (by omega)]at hr;have HR:=ah hr;clear hr;go_wp2_with fail
     go_ret;exact⟨dO (by rw[HE,<- HR]),rfl⟩
  .have HS:Hid (_=_):=rX t i0 (by omega);go_enter func108,ntmps108
   go_wp2_with fail
   go_loop [1] (fun x=>x=.int .i64 i0) (fun _=>0)
   case atStart=>rfl
   case round=>
    subst hrel;go_wp2_with fail
    go_ret;exact⟨dO (by rw[HE,HS.out]),rfl⟩
def pm (l:List UInt8):Int:=if 0<=cA l then cA l else 0
def pk (l:List UInt8):Bool:=decide (0<=cA l)
theorem CF {l:List UInt8}{k:Int}(h:cA l=k)(hk:0<=k):pm l=k/\pk l=true:=by
 unfold pm pk;rw[h];simp[hk]
theorem xi {l:List UInt8}(h:cA l=-1):pm l=0/\pk l=false:=by
 unfold pm pk;rw[h];simp
theorem lN {k:IntKind}{a c:Int}{x y:Bool}(h1:a=c)(h2:x=y):Ending.returned (.tuple #[.int k a,.bool x])=.returned (.tuple #[.int k c,.bool y]):=by rw[h1,h2]
theorem ED (s:ByteArray)(w:World):
  Calls prog 146 #[.string s] w fun e w'=>e=.returned (.tuple #[.int .i64 (pm s.data.toList),.bool (pk s.data.toList)])/\w'=w:=by
 by_cases h1:s.size=1
 .have hp:0<s.size:=by omega
  have HK:Hid (_=_):=xh s h1 hp;by_cases hr:(97:Int)<=((s[0]'hp).toNat:Int)/\((s[0]'hp).toNat:Int)<105
  .have HV:Hid (cA s.data.toList=((s[0]'hp).toNat:Int) - 97):=HK.trans (if_pos hr);have HP:Hid (_/\_):=CF HV (by omega);obtain⟨A2,A3⟩:=hr;go_enter func146,ntmps146
   go_wp2_with fail
   go_ret2;exact⟨lN HP.1.symm HP.2.symm,rfl⟩
  .have HV:Hid (cA s.data.toList=-1):=HK.trans (if_neg hr);have HP:Hid (_/\_):=xi HV;have A0:((s[0]'hp).toNat:Int)<=255:=by have:=(s[0]'hp).toNat_lt;omega
   have hc:(((s[0]'hp).toNat:Int)<(97:Int)/\((s[0]'hp).toNat:Int)<=(255:Int))\/((105:Int)<=((s[0]'hp).toNat:Int)/\((s[0]'hp).toNat:Int)<=(255:Int)):=by omega
   clear hr A0;rcases hc with ⟨hc0,hc⟩|⟨hc0,hc⟩;all_goals
    go_enter func146,ntmps146
    go_wp2_with fail
    go_ret2;exact⟨lN HP.1.symm HP.2.symm,rfl⟩
 .have HV:Hid (_=_):=xg s h1;have HP:Hid (_/\_):=xi HV;have A1:((s.size:Int) != 1)=true:=by simp;omega
  go_enter func146,ntmps146
  go_wp2_with fail
  go_ret2;exact⟨lN HP.1.symm HP.2.symm,rfl⟩
theorem DI (s:ByteArray)(w:World):
  Calls prog 124 #[.string s] w fun e w'=>e=.returned (.int .i64 (cN s.data.toList))/\w'=w:=by
 by_cases h0:s.data.toList=eA
 .have y:(s.toList==[115,101,110,100])=true:=du h0;have HR:Hid (cN s.data.toList=1):=by show _=_;unfold cN;simp[h0,eA]
  clear h0;go_enter func124,ntmps124
  go_wp2_with fail
  go_ret;exact⟨dO HR.symm,rfl⟩
 have n0:(s.toList==[115,101,110,100])=false:=bg h0;by_cases h1:s.data.toList=eJ
 .have y:(s.toList==[119,97,105,116])=true:=du h1;have HR:Hid (cN s.data.toList=2):=by show _=_;unfold cN;simp[h1,eA,eJ]
  clear h1;go_enter func124,ntmps124
  go_wp2_with fail
  go_ret;exact⟨dO HR.symm,rfl⟩
 have n1:(s.toList==[119,97,105,116])=false:=bg h1;by_cases h2:s.data.toList=eX
 .have y:(s.toList==[115,116,111,112])=true:=du h2;have HR:Hid (cN s.data.toList=3):=by show _=_;unfold cN;simp[h2,eA,eJ,eX]
  clear h2;go_enter func124,ntmps124
  go_wp2_with fail
  go_ret;exact⟨dO HR.symm,rfl⟩
 have n2:(s.toList==[115,116,111,112])=false:=bg h2;by_cases h3:s.data.toList=dV
 .have y:(s.toList==[97,115,107])=true:=du h3;have HR:Hid (cN s.data.toList=4):=by show _=_;unfold cN;simp[h3,eA,eJ,eX,dV]
  clear h3;go_enter func124,ntmps124
  go_wp2_with fail
  go_ret;exact⟨dO HR.symm,rfl⟩
 have n3:(s.toList==[97,115,107])=false:=bg h3;by_cases h4:s.data.toList=dL
 .have y:(s.toList==[114,101,116,114,121])=true:=du h4;have HR:Hid (cN s.data.toList=5):=by show _=_;unfold cN;simp[h4,eA,eJ,eX,dV,dL]
  clear h4;go_enter func124,ntmps124
  go_wp2_with fail
  go_ret;exact⟨dO HR.symm,rfl⟩
 have n4:(s.toList==[114,101,116,114,121])=false:=bg h4;by_cases h5:s.data.toList=ch
 .have y:(s.toList==[114,101,112,101,97,116])=true:=du h5;have HR:Hid (cN s.data.toList=6):=by show _=_;unfold cN;simp[h5,eA,eJ,eX,dV,dL,ch]
  clear h5;go_enter func124,ntmps124
  go_wp2_with fail
  go_ret;exact⟨dO HR.symm,rfl⟩
 have n5:(s.toList==[114,101,112,101,97,116])=false:=bg h5;have HR:Hid (cN s.data.toList=0):=by show _=_;unfold cN;rw[if_neg h0,if_neg h1,if_neg h2,if_neg h3,if_neg h4,if_neg h5]
 clear h0 h1 h2 h3 h4 h5;go_enter func124,ntmps124
 go_wp2_with fail
 go_ret;exact⟨dO HR.symm,rfl⟩
theorem sD (a b:Int)(w:World):
  Calls prog 111 #[.int .i64 a,.int .i64 b] w fun e w'=>e=.returned (.int .i64 (cu a b))/\w'=w:=by
 by_cases h:b<a
 .go_enter func111,ntmps111
  go_wp2_with fail
  go_ret;exact⟨dO (by simp[cu,h]),rfl⟩
 .have h':a<=b:=by omega
  go_enter func111,ntmps111
  go_wp2_with fail
  go_ret;exact⟨dO (by rw[cu,if_neg (by omega)]),rfl⟩
def nf (a b:Int):Int:=if b=-1 then -1 else a+b
theorem Fg (a b:Int)(w:World)(ha0:-1<=a)(ha:a<=4000000000000000000)(hb0:-1<=b)(hb:b<=4000000000000000000):
  Calls prog 162 #[.int .i64 a,.int .i64 b] w fun e w'=>e=.returned (.int .i64 (nf a b))/\w'=w:=by
 by_cases h:b=-1
 .have h':(b==-1)=true:=by simp[h]
  have HR:Hid (nf a b=-1):=if_pos h;clear h;go_enter func162,ntmps162
  go_wp2_with fail
  go_ret;exact⟨dO HR.symm,rfl⟩
 .have h':(b==-1)=false:=by simp[h]
  have HR:Hid (nf a b=a+b):=if_neg h;clear h;go_enter func162,ntmps162
  go_wp2_with fail
  go_ret;exact⟨dO HR.symm,rfl⟩
def ir (a b:Int):Int:=if 64<a*b then 65 else a*b
theorem Bt (a b:Int)(w:World)(h1:-1000000<=a*b)(h2:a*b<=1000000):
  Calls prog 148 #[.int .i64 a,.int .i64 b] w fun e w'=>e=.returned (.int .i64 (ir a b))/\w'=w:=by
 by_cases h:64<a*b
 .have HR:Hid (ir a b=65):=if_pos h;go_enter func148,ntmps148
  go_wp2_with fail
  go_ret;exact⟨dO HR.symm,rfl⟩
 .have HR:Hid (ir a b=a*b):=if_neg h;have h':a*b<=64:=by omega
  clear h;go_enter func148,ntmps148
  go_wp2_with fail
  go_ret;exact⟨dO HR.symm,rfl⟩
def pt (l:List UInt8):Int:=if 0<=bm l then bm l else 0
def pq (l:List UInt8):Bool:=decide (0<=bm l)
theorem CN {l:List UInt8}{k:Int}(h:bm l=k)(hk:0<=k):pt l=k/\pq l=true:=by
 unfold pt pq;rw[h];simp[hk]
theorem sK {l:List UInt8}(h:bm l=-1):pt l=0/\pq l=false:=by
 unfold pt pq;rw[h];simp
theorem Bg (s:ByteArray)(w:World)(hs:s.size<=400):
  Calls prog 161 #[.string s] w fun e w'=>e=.returned (.tuple #[.int .i64 (pt s.data.toList),.bool (pq s.data.toList)])/\w'=w:=by
 by_cases h0:s.size=0
 .have HP:Hid (_/\_):=sK (pV s (.inl h0));go_enter func161,ntmps161
  go_wp2_with fail
  go_ret2;exact⟨lN HP.1.symm HP.2.symm,rfl⟩
 .have A2:1<=s.size:=by omega
  by_cases h4:4<s.size
  .have HP:Hid (_/\_):=sK (pV s (.inr h4));clear h0;go_enter func161,ntmps161
   go_wp2_with fail
   go_ret2;exact⟨lN HP.1.symm HP.2.symm,rfl⟩
  .have HK:Hid (_=_):=vt s h0 (by omega);have A3:s.size<=4:=by omega
   clear h4 h0;go_enter func161,ntmps161
   go_wp2_with fail
   go_loop [4,5] (fun n i=>∃ (k:Nat) (m:Int),k<=s.size/\i=.int .i64 k/\n=.int .i64 m/\fF 0 (s.data.toList.take k)=some m) (fun _ i=>s.size - (intOf i).toNat)
   case atStart=>exact⟨0,0,Qa _,rfl,rfl,rfl⟩
   case round=>
    obtain⟨k,m,hk,rfl,rfl,hm⟩:=hrel;have HM:=ah hm;have A0:=tL s k (by omega) m hm;clear hm;by_cases hlt:k<s.size
    .have A1:((s[k]).toNat:Int)<=255:=by have:=(s[k]).toNat_lt;omega
     by_cases hc:((s[k]).toNat:Int)<48\/57<((s[k]).toNat:Int)
     .have HN:Hid (fF 0 s.data.toList=none):=xH s k hlt m HM hc;have HP:Hid (_/\_):=sK (by rw[HK,HN];rfl);rcases hc with hc|hc;all_goals
       go_wp2_with fail
       go_ret2;exact⟨lN HP.1.symm HP.2.symm,rfl⟩
     .have h1:(48:Int)<=((s[k]).toNat:Int):=by omega
      have h2:((s[k]).toNat:Int)<=57:=by omega
      have HY:Hid (fF 0 (s.data.toList.take (k+1))=some (10*m+(((s[k]).toNat:Int) - 48))):=wF s k hlt m HM h1 h2;clear hc A1;go_wp2_with fail
      go_round;case rel=>exact⟨k+1,10*m+(((s[k]).toNat:Int) - 48),by omega,by go_num,by go_num,HY.out⟩
      case measure=>simp[intOf];omega
    .have HE:Hid (s.data.toList.take k=s.data.toList):=Qe (by simp;omega);have HP:Hid (_/\_):=CN (k:=m) (by rw[HK,<- HE,HM];rfl) A0.1;go_wp2_with fail
     go_ret2;exact⟨lN HP.1.symm HP.2.symm,rfl⟩
theorem ur {a b:Int}(ha:0<=a)(hb:-1<=b):nf a b=bV a b:=by
 unfold nf bV;by_cases h:b=-1
 .rw[if_pos h,if_pos (by omega)]
 .rw[if_neg h,if_neg (by omega)]
theorem sU (n p q:Int)(w:World)(hn:0<=n)(hn2:n<=4000000000000000000)(hp0:-1<=p)(hp:p<=4000000000000000000)(hq0:-1<=q)(hq:q<=4000000000000000000):
  Calls prog 153 #[.int .i64 n,.agg #[.int .i64 p,.int .i64 q]] w fun e w'=>e=.returned (.agg #[.int .i64 (bV n p),.int .i64 (bV n q)])/\Below w.heap.size w w':=by
 have H1:Hid (_=_):=ur hn hp0;have H2:Hid (_=_):=ur hn hq0;go_enter func153,ntmps153
 go_wp2_with (go_at_call 162;refine(Fg _ _ _ (by omega) (by omega) (by omega) (by omega)).mono ?_;rintro e w' ⟨rfl,rfl⟩)
 refine bodyPost_ret (v:=.agg #[.int .i64 (nf n p),.int .i64 (nf n q)]) (by simp[results,results153,go_sem]) rfl ⟨by rw[H1,H2],?_⟩;exact((v7 _ _).alloc (v9 _) _).alloc (by simp) _
theorem qO (w:World)(A B R:Obj):(((w.alloc A).alloc B).alloc R).heap[w.heap.size]?=some A/\(((w.alloc A).alloc B).alloc R).heap[w.heap.size+1]?=some B/\(((w.alloc A).alloc B).alloc R).heap[w.heap.size+1+1]?=some R:=by
 refine⟨?_,?_,?_⟩
 .rw[q9 _ _ _ (by simp;omega),q9 _ _ _ (by simp),v8]
 .rw[q9 _ _ _ (by simp),ey]
 .exact jj _ _ _ (by simp)
theorem Gw (w:World)(A B:Obj):((w.alloc A).alloc B).heap[w.heap.size]?=some A/\((w.alloc A).alloc B).heap[w.heap.size+1]?=some B:=by
 refine⟨?_,ey _ _ _⟩;rw[q9 _ _ _ (by simp),v8]
theorem oZ (p q r s:Int)(w:World)(hp0:-1<=p)(hp:p<=1000000000000000)(hq0:-1<=q)(hq:q<=1000000000000000)(hr0:-1<=r)(hr:r<=1000000000000000)(hs0:-1<=s)(hs:s<=1000000000000000):
  Calls prog 131 #[.agg #[.int .i64 p,.int .i64 q],.agg #[.int .i64 r,.int .i64 s]] w fun e w'=>e=.returned (.agg #[.int .i64 (bV p r),.int .i64 (cu q (bV p s))])/\Below w.heap.size w w':=by
 by_cases h:p=-1
 .have h':(p==-1)=true:=by simp[h]
  have H1:Hid (bV p r=p):=by show _=_;unfold bV;rw[if_pos (by omega)];omega
  have H2:Hid (cu q (bV p s)=q):=by show _=_;unfold bV cu;rw[if_pos (show p<0\/s<0 from Or.inl (by omega))];split <;> omega
  clear h;go_enter func131,ntmps131
  go_wp2_with fail
  refine bodyPost_ret (v:=.agg #[.int .i64 p,.int .i64 q]) (by simp[results,results131,go_sem]) rfl ⟨by rw[H1,H2],?_⟩;exact(((v7 _ _).alloc (v9 _) _).alloc (by simp) _).alloc (by simp;omega) _
 .have h':(p==-1)=false:=by simp[h]
  have A1:0<=p:=by omega
  clear h;go_enter func131,ntmps131
  go_wp2_with fail
  refine(sU p r s _ A1 (by omega) hr0 (by omega) hs0 (by omega)).mono ?_;rintro e w1 ⟨rfl,A0⟩;have hz:w.heap.size+3<=w1.heap.size:=by have:=A0.size;simp at this;omega
  have A3:w.heap.size<w1.heap.size:=by omega
  have A2:w.heap.size+1+1<w1.heap.size:=by omega
  obtain⟨k0,_,k2⟩:=qO w (.cells #[.int .i64 p,.int .i64 q] 186) (.cells #[.int .i64 r,.int .i64 s] 186) (.cells #[.int .i64 0,.int .i64 0] 186);have g0:=(A0.block _ (by simp;omega)).trans k0;have g2:=(A0.block _ (by simp)).trans k2;have f1:w1.cell? ⟨w.heap.size,1,none⟩=some (.int .i64 q):=(ag g0).trans rfl;have r0:w1.cell? ⟨w.heap.size+1+1,0,none⟩=some (.int .i64 0):=(ag g2).trans rfl;have r1:w1.cell? ⟨w.heap.size+1+1,1,none⟩=some (.int .i64 0):=(ag g2).trans rfl;have z0:w1.frozen? ⟨w.heap.size+1+1,0,none⟩=false:=aC g2;have z1:w1.frozen? ⟨w.heap.size+1+1,1,none⟩=false:=aC g2;have HB:Hid (Below w.heap.size w w1):=((((v7 _ _).alloc (v9 _) _).alloc (by simp) _).alloc (by simp;omega) _).trans (A0.mono (by simp;omega));clear A0 g0 g2 k0 k2;go_wp2_with (go_at_call 111;refine(sD _ _ _).mono ?_;rintro e w' ⟨rfl,rfl⟩)
  refine bodyPost_ret (v:=.agg #[.int .i64 (bV p r),.int .i64 (cu q (bV p s))]) (by simp[results,results131,go_sem,r0,r1,A2]) rfl ⟨rfl,?_⟩;exact(((HB.setCell (p:=⟨w.heap.size+1+1,0,none⟩) (by simp;omega) _).setCell (p:=⟨w.heap.size+1+1,1,none⟩) (by simp;omega) _)).alloc (by simp[World.setCell];omega) _
def fV (n:Int):Nat->Int
 | 0=>0
 | j+1=>fO n j
theorem uG (n:Int)(j:Nat):fV n (j+1)=2*fV n j+n:=by
 cases j with
 | zero=>simp[fV,fO]
 | succ j=>simp[fV,fO]
theorem rm (n:Int)(h0:0<=n)(hn:n<=999)(j:Nat)(hj:j<=6):0<=fV n j/\fV n j<=62937:=by
 cases j with
 | zero=>simp[fV]
 | succ j=>exact pI n h0 hn j (by omega)
theorem Bd (m n:Int)(w:World)(hm0:0<=m)(hm:m<=6)(hn0:0<=n)(hn:n<=999):
  Calls prog 151 #[.int .i64 m,.int .i64 n] w fun e w'=>e=.returned (.int .i64 (fV n m.toNat))/\w'=w:=by
 go_enter func151,ntmps151
 go_wp2_with fail
 go_loop [5,6,7] (fun x y i=>∃ j:Nat,j<=m.toNat/\i=.int .i64 j/\x=.int .i64 (fV n j)/\y=.int .i64 (fV n j+n)) (fun _ _ i=>m.toNat - (intOf i).toNat)
 case atStart=>exact⟨0,by omega,rfl,rfl,by simp[fV]⟩
 case round=>
  obtain⟨j,hj,rfl,rfl,rfl⟩:=hrel;have hb:=rm n hn0 hn j (by omega);have HS:Hid (_=_):=uG n j;by_cases hlt:j<m.toNat
  .have A0:(j:Int)<m:=by omega
   obtain⟨S,hS⟩:∃ S,S=fV n j:=⟨_,rfl⟩;rw[<- hS]at hb HS;rw[<- hS];clear hS;go_wp2_with fail
   go_round;case rel=>exact⟨j+1,by omega,by go_num,by rw[HS.out];go_num,by rw[HS.out];go_num⟩
   case measure=>simp[intOf];omega
  .have A0:¬ (j:Int)<m:=by omega
   obtain rfl:j=m.toNat:=by omega
   clear hlt;go_wp2_with fail
   go_ret;exact⟨rfl,rfl⟩
theorem ul (n p q r s:Int)(w:World)(hn:1<=n)(hn2:n<=62937)(hp0:-1<=p)(hp:p<=1000000000000000)(hq0:-1<=q)(hq:q<=1000000000000000)(hr0:-1<=r)(hr:r<=1000000000000000)(hs0:-1<=s)(hs:s<=1000000000000000):
  Calls prog 150 #[.int .i64 n,.agg #[.int .i64 p,.int .i64 q],.agg #[.int .i64 r,.int .i64 s]] w fun e w'=>
   e=.returned (.agg #[.int .i64 (cu (bV (n - 1) p) (bV n r)),.int .i64 (cu (bV (n - 1) q) (bV n s))])/\Below w.heap.size w w':=by
 go_enter func150,ntmps150
 go_wp2_with fail
 refine(sU (n - 1) p q _ (by omega) (by omega) hp0 (by omega) hq0 (by omega)).mono ?_;rintro e w1 ⟨rfl,A0⟩;have hz:w.heap.size+3<=w1.heap.size:=by have:=A0.size;simp at this;omega
 have A6:w.heap.size+1<w1.heap.size:=by omega
 have A4:w.heap.size+1+1<w1.heap.size:=by omega
 obtain⟨_,k1,k2⟩:=qO w (.cells #[.int .i64 p,.int .i64 q] 186) (.cells #[.int .i64 r,.int .i64 s] 186) (.cells #[.int .i64 0,.int .i64 0] 186);have g1:=(A0.block _ (by simp)).trans k1;have g2:=(A0.block _ (by simp)).trans k2;have f0:w1.cell? ⟨w.heap.size+1,0,none⟩=some (.int .i64 r):=(ag g1).trans rfl;have f1:w1.cell? ⟨w.heap.size+1,1,none⟩=some (.int .i64 s):=(ag g1).trans rfl;have HB:Hid (Below w.heap.size w w1):=((((v7 _ _).alloc (v9 _) _).alloc (by simp) _).alloc (by simp;omega) _).trans (A0.mono (by simp;omega));have HG:=ah g2;clear A0 g1 g2 k1 k2;go_wp2_with fail
 refine(sU n r s _ (by omega) (by omega) hr0 (by omega) hs0 (by omega)).mono ?_;rintro e w2 ⟨rfl,A1⟩;have hy:w1.heap.size+1<=w2.heap.size:=by have:=A1.size;simp at this;omega
 have g3:=(A1.block (w.heap.size+1+1) (by simp;omega)).trans ((q9 _ _ _ A4).trans HG.out);have g4:=(A1.block w1.heap.size (by simp)).trans (v8 _ _);have e0:w2.cell? ⟨w1.heap.size,0,none⟩=some (.int .i64 (bV (n - 1) p)):=(ag g4).trans rfl;have e1:w2.cell? ⟨w1.heap.size,1,none⟩=some (.int .i64 (bV (n - 1) q)):=(ag g4).trans rfl;have r0:w2.cell? ⟨w.heap.size+1+1,0,none⟩=some (.int .i64 0):=(ag g3).trans rfl;have r1:w2.cell? ⟨w.heap.size+1+1,1,none⟩=some (.int .i64 0):=(ag g3).trans rfl;have z0:w2.frozen? ⟨w.heap.size+1+1,0,none⟩=false:=aC g3;have z1:w2.frozen? ⟨w.heap.size+1+1,1,none⟩=false:=aC g3;have A5:w1.heap.size<w2.heap.size:=by omega
 have A3:w.heap.size+1+1<w2.heap.size:=by omega
 have A2:Hid (Below w.heap.size w w2):=(HB.alloc (by omega) _).trans (A1.mono (by simp;omega));clear A1 g3 g4 f0 f1;go_wp2_with (go_at_call 111;refine(sD _ _ _).mono ?_;rintro e w' ⟨rfl,rfl⟩)
 refine bodyPost_ret (v:=.agg #[.int .i64 (cu (bV (n - 1) p) (bV n r)),.int .i64 (cu (bV (n - 1) q) (bV n s))]) (by simp[results,results150,go_sem,r0,r1,A3]) rfl ⟨rfl,?_⟩;exact(((A2.setCell (p:=⟨w.heap.size+1+1,0,none⟩) (by simp;omega) _).setCell (p:=⟨w.heap.size+1+1,1,none⟩) (by simp;omega) _)).alloc (by simp[World.setCell];omega) _
structure jy (w wr:World)(r s p q:Int):Prop where
 bel:Below w.heap.size w wr
 size:w.heap.size+3<=wr.heap.size
 body:wr.heap[w.heap.size]?=some (.cells #[.int .i64 r,.int .i64 s] 186)
 res:wr.heap[w.heap.size+1]?=some (.cells #[.int .i64 0,.int .i64 0] 186)
 all:wr.heap[w.heap.size+1+1]?=some (.cells #[.int .i64 p,.int .i64 q] 186)
theorem jy.next {w wr w2:World}{r s p q:Int}(h:jy w wr r s p q)(hb:Below wr.heap.size wr w2)(p' q':Int):
  jy w ((w2.setCell ⟨w.heap.size+1+1,0,none⟩ (.int .i64 p')).setCell ⟨w.heap.size+1+1,1,none⟩ (.int .i64 q')) r s p' q':=by
 have hs:=h.size;have A0:=hb.size;have g2:=(hb.block _ (by omega)).trans h.all;refine⟨((h.bel.trans (hb.mono (by omega))).setCell (p:=⟨w.heap.size+1+1,0,none⟩) (by simp;omega) _).setCell (p:=⟨w.heap.size+1+1,1,none⟩) (by simp;omega) _,?_,?_,?_,?_⟩
 .rw[ef,ef];omega
 .rw[q8 _ _ _ _ (by simp;omega),q8 _ _ _ _ (by simp;omega),hb.block _ (by omega)];exact h.body
 .rw[q8 _ _ _ _ (by simp),q8 _ _ _ _ (by simp),hb.block _ (by omega)];exact h.res
 .rw[cG _ (cG _ g2)];rfl
theorem zv (n r s:Int)(w:World)(hn0:0<=n)(hn:n<=9)(hr0:-1<=r)(hr:r<=10000000000000)(hs0:-1<=s)(hs:s<=10000000000000):
  Calls prog 152 #[.int .i64 n,.agg #[.int .i64 r,.int .i64 s]] w fun e w'=>
   e=.returned (.agg #[.int .i64 (gR n.toNat (0,-1) (r,s)).1,.int .i64 (gR n.toNat (0,-1) (r,s)).2])/\Below w.heap.size w w':=by
 go_enter func152,ntmps152
 go_wp2_with fail
 go_loopw [6] (fun i wr=>∃ (j:Nat) (p q:Int),j<=n.toNat/\i=.int .i64 j/\jy w wr r s p q/\bn (p,q) (j*10000000000000)/\gR (n.toNat - j) (p,q) (r,s)=gR n.toNat (0,-1) (r,s)) (fun i _=>n.toNat - (intOf i).toNat)
 case atStart=>
  obtain⟨k0,k1,k2⟩:=qO w (.cells #[.int .i64 r,.int .i64 s] 186) (.cells #[.int .i64 0,.int .i64 0] 186) (.cells #[.int .i64 0,.int .i64 (-1)] 186);exact⟨0,0,-1,by omega,rfl,⟨(((v7 _ _).alloc (v9 _) _).alloc (by simp) _).alloc (by simp;omega) _,by simp,k0,k1,k2⟩,⟨by simp,by simp,by simp,by simp⟩,rfl⟩
 case round=>
  obtain⟨j,p,q,hj,rfl,hR,hA,A0⟩:=hrel;obtain⟨a1,a2,a3,a4⟩:=hA;simp only at a1 a2 a3 a4;have b0:wr.cell? ⟨w.heap.size,0,none⟩=some (.int .i64 r):=(ag hR.body).trans rfl;have b1:wr.cell? ⟨w.heap.size,1,none⟩=some (.int .i64 s):=(ag hR.body).trans rfl;have c0:wr.cell? ⟨w.heap.size+1+1,0,none⟩=some (.int .i64 p):=(ag hR.all).trans rfl;have c1:wr.cell? ⟨w.heap.size+1+1,1,none⟩=some (.int .i64 q):=(ag hR.all).trans rfl;have HR:=ah hR;by_cases hlt:j<n.toNat
  .have A3:(j:Int)<n:=by omega
   rw[show n.toNat - j=(n.toNat - (j+1))+1 from by omega,gR]at A0;have A1:=ah A0;clear A0 hR;go_wp2_with fail
   refine(oZ p q r s _ a1 (by omega) a3 (by omega) hr0 (by omega) hs0 (by omega)).mono ?_;rintro e w2 ⟨rfl,A2⟩;have g2:=(A2.block _ (by have:=HR.size;omega)).trans HR.out.all;have d0:w2.cell? ⟨w.heap.size+1+1,0,none⟩=some (.int .i64 p):=(ag g2).trans rfl;have d1:w2.cell? ⟨w.heap.size+1+1,1,none⟩=some (.int .i64 q):=(ag g2).trans rfl;have z0:w2.frozen? ⟨w.heap.size+1+1,0,none⟩=false:=aC g2;have z1:w2.frozen? ⟨w.heap.size+1+1,1,none⟩=false:=aC g2;have HN:Hid (_):=HR.next A2 (bV p r) (cu q (bV p s));clear A2 g2 b0 b1 c0 c1;go_wp2_with fail
   go_roundw;case rel=>
    have s1:=bn.step (acc:=(p,q)) (a:=(r,s)) (c:=j*10000000000000) (e:=10000000000000) ⟨a1,a2,a3,a4⟩ ⟨hr0,hr,hs0,hs⟩ (by omega) (by omega);obtain⟨t1,t2,t3,t4⟩:=s1;exact⟨j+1,_,_,by omega,by go_num,HN.out,⟨t1,by simp only at t2 ⊢;omega,t3,by simp only at t4 ⊢;omega⟩,A1.out⟩
   case measure=>simp[intOf];omega
  .have A3:¬ (j:Int)<n:=by omega
   rw[show n.toNat - j=0 from by omega,gR]at A0;have A1:=ah A0;have r0:wr.cell? ⟨w.heap.size+1,0,none⟩=some (.int .i64 0):=(ag hR.res).trans rfl;have r1:wr.cell? ⟨w.heap.size+1,1,none⟩=some (.int .i64 0):=(ag hR.res).trans rfl;have z0:wr.frozen? ⟨w.heap.size+1,0,none⟩=false:=aC hR.res;have z1:wr.frozen? ⟨w.heap.size+1,1,none⟩=false:=aC hR.res;clear A0 hR hlt;go_wp2_with fail
   refine bodyPost_ret (v:=.agg #[.int .i64 p,.int .i64 q]) (by simp[results,results152,go_sem,r0,r1]) rfl ⟨by rw[<- A1],?_⟩;exact((HR.bel.setCell (p:=⟨w.heap.size+1,0,none⟩) (by simp) _).setCell (p:=⟨w.heap.size+1,1,none⟩) (by simp) _)
def dR (x:Nd):List Value:=[.int .i64 x.kind,.int .i64 x.key,.int .i64 x.times,.int .i64 x.ticks,.int .i64 x.body,.int .i64 x.els]
theorem ts (w:World)(A B C R:Obj):((((w.alloc A).alloc B).alloc C).alloc R).heap[w.heap.size]?=some A/\((((w.alloc A).alloc B).alloc C).alloc R).heap[w.heap.size+1]?=some B /\
  ((((w.alloc A).alloc B).alloc C).alloc R).heap[w.heap.size+1+1]?=some C/\((((w.alloc A).alloc B).alloc C).alloc R).heap[w.heap.size+1+1+1]?=some R:=by
 obtain⟨a,b,c⟩:=qO w A B C;refine⟨?_,?_,?_,jj _ _ _ (by simp)⟩
 .rw[q9 _ _ _ (by simp;omega)];exact a
 .rw[q9 _ _ _ (by simp)];exact b
 .rw[q9 _ _ _ (by simp)];exact c
theorem pw (t:ByteArray)(h:Hd)(b e:Nat)(hg:bt t h)(p q r s:Int)(w:World)(hp0:-1<=p)(hp:p<=10000000000000)(hq0:-1<=q)(hq:q<=10000000000000)(hr0:-1<=r)(hr:r<=10000000000000)(hs0:-1<=s)(hs:s<=10000000000000):
  Calls prog 130 #[.agg (dR (ei t h b e)).toArray,.agg #[.int .i64 p,.int .i64 q],.agg #[.int .i64 r,.int .i64 s]] w fun e w'=>
   e=.returned (.agg #[.int .i64 (eD t h (p,q) (r,s)).1,.int .i64 (eD t h (p,q) (r,s)).2])/\Below w.heap.size w w':=by
 have A2:∀ A B C R:Obj,Below w.heap.size w ((((w.alloc A).alloc B).alloc C).alloc R):=fun A B C R=>
  ((((v7 _ _).alloc (v9 _) _).alloc (by simp) _).alloc (by simp;omega) _).alloc (by simp;omega) _
 have A1:=ah A2;clear A2;rcases hg with ⟨hk,h1,h2⟩|⟨hk,h1,h2,h3,h4⟩|⟨hk,h1,h2,h3⟩|⟨hk,h1,h2,h3⟩|⟨hk,h1,h2,h3,h4⟩|⟨hk,h1,h2,h3,h4⟩
 .have HC:dR (ei t h b e)=[.int .i64 1,.int .i64 h.key,.int .i64 0,.int .i64 0,.int .i64 b,.int .i64 e]:=by rw[si b e hk];rfl
  have HO:Hid (eD t h (p,q) (r,s)=(0,-1)):=CO (p,q) (r,s) hk;rw[HC];clear HC hk;go_enter func130,ntmps130
  go_wp2_with fail
  refine bodyPost_ret (v:=.agg #[.int .i64 0,.int .i64 (-1)]) (by simp[results,results130,go_sem]) rfl ⟨by rw[HO],?_⟩;exact A1 _ _ _ _
 .have HC:dR (ei t h b e)=[.int .i64 2,.int .i64 h.key,.int .i64 0,.int .i64 h.n,.int .i64 b,.int .i64 e]:=by rw[sk b e hk];rfl
  have HO:Hid (eD t h (p,q) (r,s)=(h.n,-1)):=CQ (p,q) (r,s) hk;rw[HC];clear HC hk;go_enter func130,ntmps130
  go_wp2_with fail
  refine bodyPost_ret (v:=.agg #[.int .i64 h.n,.int .i64 (-1)]) (by simp[results,results130,go_sem]) rfl ⟨by rw[HO],?_⟩;exact A1 _ _ _ _
 .have HC:dR (ei t h b e)=[.int .i64 3,.int .i64 h.key,.int .i64 0,.int .i64 0,.int .i64 b,.int .i64 e]:=by rw[sj b e hk];rfl
  have HO:Hid (eD t h (p,q) (r,s)=(-1,0)):=CP (p,q) (r,s) hk;rw[HC];clear HC hk;go_enter func130,ntmps130
  go_wp2_with fail
  refine bodyPost_ret (v:=.agg #[.int .i64 (-1),.int .i64 0]) (by simp[results,results130,go_sem]) rfl ⟨by rw[HO],?_⟩;exact A1 _ _ _ _
 .have HC:dR (ei t h b e)=[.int .i64 4,.int .i64 h.key,.int .i64 0,.int .i64 h.n,.int .i64 b,.int .i64 e]:=by rw[oK b e hk];rfl
  have HO:Hid (eD t h (p,q) (r,s)=(cu (bV (h.n - 1) p) (bV (h.n) r),cu (bV (h.n - 1) q) (bV (h.n) s))):=Dx (p,q) (r,s) hk h3;rw[HC];clear HC hk;go_enter func130,ntmps130
  go_wp2_with fail
  refine(ul h.n p q r s _ h1 (by omega) hp0 (by omega) hq0 (by omega) hr0 (by omega) hs0 (by omega)).mono ?_;rintro ee w1 ⟨rfl,A0⟩;have hz:w.heap.size+4<=w1.heap.size:=by have:=A0.size;simp at this;omega
  obtain⟨_,_,_,k3⟩:=ts w (.cells #[.int .i64 4,.int .i64 h.key,.int .i64 0,.int .i64 h.n,.int .i64 b,.int .i64 e] 190) (.cells #[.int .i64 p,.int .i64 q] 186) (.cells #[.int .i64 r,.int .i64 s] 186) (.cells #[.int .i64 0,.int .i64 0] 186);have g3:=(A0.block (w.heap.size+1+1+1) (by simp)).trans k3;have r0:w1.cell? ⟨w.heap.size+1+1+1,0,none⟩=some (.int .i64 0):=(ag g3).trans rfl;have r1:w1.cell? ⟨w.heap.size+1+1+1,1,none⟩=some (.int .i64 0):=(ag g3).trans rfl;have z0:w1.frozen? ⟨w.heap.size+1+1+1,0,none⟩=false:=aC g3;have z1:w1.frozen? ⟨w.heap.size+1+1+1,1,none⟩=false:=aC g3;have HB:Hid (Below w.heap.size w w1):=(A1 _ _ _ _).trans (A0.mono (by simp;omega));clear A0 g3 k3;go_wp2_with fail
  refine bodyPost_ret (v:=.agg #[.int .i64 (cu (bV (h.n - 1) p) (bV (h.n) r)),.int .i64 (cu (bV (h.n - 1) q) (bV (h.n) s))]) (by simp[results,results130,go_sem,r0,r1]) rfl ⟨by rw[HO],?_⟩;exact(HB.setCell (p:=⟨w.heap.size+1+1+1,0,none⟩) (by simp;omega) _).setCell (p:=⟨w.heap.size+1+1+1,1,none⟩) (by simp;omega) _
 .have HC:dR (ei t h b e)=[.int .i64 5,.int .i64 h.key,.int .i64 h.m,.int .i64 h.n,.int .i64 b,.int .i64 e]:=by rw[ol b e hk];rfl
  have HO:Hid (eD t h (p,q) (r,s)=(cu (bV (fV h.n h.m.toNat - 1) p) (bV (fV h.n h.m.toNat) r),cu (bV (fV h.n h.m.toNat - 1) q) (bV (fV h.n h.m.toNat) s))):=by
   show _=_;have e1:fO h.n (h.m - 1).toNat=fV h.n h.m.toNat:=by rw[show h.m.toNat=(h.m - 1).toNat+1 from by omega];rfl
   rw[Ci (p,q) (r,s) hk,e1]
  rw[HC];clear HC hk;have hT:=rm h.n (by omega) h2 h.m.toNat (by omega);have A3:1<=fV h.n h.m.toNat:=by rw[show h.m.toNat=(h.m - 1).toNat+1 from by omega,uG];have:=rm h.n (by omega) h2 (h.m - 1).toNat (by omega);omega
  go_enter func130,ntmps130
  go_wp2_with (go_at_call 151;refine(Bd _ _ _ (by omega) (by omega) (by omega) (by omega)).mono ?_;rintro e w' ⟨rfl,rfl⟩)
  refine(ul (fV h.n h.m.toNat) p q r s _ A3 hT.2 hp0 (by omega) hq0 (by omega) hr0 (by omega) hs0 (by omega)).mono ?_;rintro ee w1 ⟨rfl,A0⟩;have hz:w.heap.size+4<=w1.heap.size:=by have:=A0.size;simp at this;omega
  obtain⟨_,_,_,k3⟩:=ts w (.cells #[.int .i64 5,.int .i64 h.key,.int .i64 h.m,.int .i64 h.n,.int .i64 b,.int .i64 e] 190) (.cells #[.int .i64 p,.int .i64 q] 186) (.cells #[.int .i64 r,.int .i64 s] 186) (.cells #[.int .i64 0,.int .i64 0] 186);have g3:=(A0.block (w.heap.size+1+1+1) (by simp)).trans k3;have r0:w1.cell? ⟨w.heap.size+1+1+1,0,none⟩=some (.int .i64 0):=(ag g3).trans rfl;have r1:w1.cell? ⟨w.heap.size+1+1+1,1,none⟩=some (.int .i64 0):=(ag g3).trans rfl;have z0:w1.frozen? ⟨w.heap.size+1+1+1,0,none⟩=false:=aC g3;have z1:w1.frozen? ⟨w.heap.size+1+1+1,1,none⟩=false:=aC g3;have HB:Hid (Below w.heap.size w w1):=(A1 _ _ _ _).trans (A0.mono (by simp;omega));clear A0 g3 k3;go_wp2_with fail
  refine bodyPost_ret (v:=.agg #[.int .i64 (cu (bV (fV h.n h.m.toNat - 1) p) (bV (fV h.n h.m.toNat) r)),.int .i64 (cu (bV (fV h.n h.m.toNat - 1) q) (bV (fV h.n h.m.toNat) s))]) (by simp[results,results130,go_sem,r0,r1]) rfl ⟨by rw[HO],?_⟩;exact(HB.setCell (p:=⟨w.heap.size+1+1+1,0,none⟩) (by simp;omega) _).setCell (p:=⟨w.heap.size+1+1+1,1,none⟩) (by simp;omega) _
 .have HC:dR (ei t h b e)=[.int .i64 6,.int .i64 h.key,.int .i64 h.n,.int .i64 0,.int .i64 b,.int .i64 e]:=by rw[ou b e hk];rfl
  have HO:Hid (eD t h (p,q) (r,s)=gR h.n.toNat (0,-1) (p,q)):=AD (p,q) (r,s) hk;rw[HC];clear HC hk h3 h4;go_enter func130,ntmps130
  go_wp2_with fail
  refine(zv h.n p q _ (by omega) h2 hp0 hp hq0 hq).mono ?_;rintro ee w1 ⟨rfl,A0⟩;have hz:w.heap.size+4<=w1.heap.size:=by have:=A0.size;simp at this;omega
  obtain⟨_,_,_,k3⟩:=ts w (.cells #[.int .i64 6,.int .i64 h.key,.int .i64 h.n,.int .i64 0,.int .i64 b,.int .i64 e] 190) (.cells #[.int .i64 p,.int .i64 q] 186) (.cells #[.int .i64 r,.int .i64 s] 186) (.cells #[.int .i64 0,.int .i64 0] 186);have g3:=(A0.block (w.heap.size+1+1+1) (by simp)).trans k3;have r0:w1.cell? ⟨w.heap.size+1+1+1,0,none⟩=some (.int .i64 0):=(ag g3).trans rfl;have r1:w1.cell? ⟨w.heap.size+1+1+1,1,none⟩=some (.int .i64 0):=(ag g3).trans rfl;have z0:w1.frozen? ⟨w.heap.size+1+1+1,0,none⟩=false:=aC g3;have z1:w1.frozen? ⟨w.heap.size+1+1+1,1,none⟩=false:=aC g3;have HB:Hid (Below w.heap.size w w1):=(A1 _ _ _ _).trans (A0.mono (by simp;omega));clear A0 g3 k3;go_wp2_with fail
  refine bodyPost_ret (v:=.agg #[.int .i64 (gR h.n.toNat (0,-1) (p,q)).1,.int .i64 (gR h.n.toNat (0,-1) (p,q)).2]) (by simp[results,results130,go_sem,r0,r1]) rfl ⟨by rw[HO],?_⟩;exact(HB.setCell (p:=⟨w.heap.size+1+1+1,0,none⟩) (by simp;omega) _).setCell (p:=⟨w.heap.size+1+1+1,1,none⟩) (by simp;omega) _
def ib (l:List Nd):List Value:=l.flatMap dR
theorem rf:∀ (l:List Nd)(i:Nat)(hi:i<l.length)(j:Nat)(_:j<6),(ib l)[i*6+j]?=(dR l[i])[j]?:=by
 intro l;induction l with
 | nil=>intro i hi;simp at hi
 | cons x r ih=>
  intro i hi j hj;have hl:(dR x).length=6:=rfl;cases i with
  | zero=>
   simp only[ib,List.flatMap_cons,Nat.zero_mul,Nat.zero_add,List.getElem_cons_zero];rw[List.getElem?_append_left (by omega)]
  | succ i=>
   have:=ih i (by simpa using hi) j hj;simp only[ib,List.flatMap_cons,List.getElem_cons_succ]at this ⊢;rw[List.getElem?_append_right (by omega),show(i+1)*6+j - (dR x).length=i*6+j from by omega];exact this
def bH (w:World)(b off:Nat)(l:List Nd):Prop:=∀ (i:Nat) (hi:i<l.length) (j:Nat) (u:Value),(dR l[i])[j]?=some u->w.cell? ⟨b,off+i*6+j,none⟩=some u
theorem bH.keep {w w':World}{b off:Nat}{l:List Nd}(h:bH w b off l)(hk:w'.heap[b]?=w.heap[b]?):bH w' b off l:=fun i hi j u hj=>
 (World.cell?_of_block hk).trans (h i hi j u hj)
theorem bH.sub {w:World}{b off:Nat}{l:List Nd}(h:bH w b off l)(k n:Nat)(us:List Nd)(hu:us=(l.drop k).take n):bH w b (off+k*6) us:=by
 subst hu;intro i hi j u hj;simp at hi;have e:((l.drop k).take n)[i]=l[k+i]'(by omega):=by simp
 rw[e]at hj;have:=h (k+i) (by omega) j u hj;rw[show off+k*6+i*6+j=off+(k+i)*6+j from by omega];exact this
def wN (t:ByteArray)(d:Nat):Prop:=
 ∀ (tr:af d) (a:Option Addr) (b off cap n:Nat) (w:World),n=(cE t d tr).length->aF t d tr->bv d tr<=400->d<=5->n<=cap->cap<=maxLen->(0<n->a=some ⟨b,off,none⟩/\b<w.heap.size/\bH w b off (cE t d tr)) ->
  Calls prog 110 #[.slice a n cap] w fun e w'=>e=.returned (.agg #[.int .i64 (bE t d tr).1,.int .i64 (bE t d tr).2])/\Below w.heap.size w w'
end Go.Proofs.YtmmmnghiegajmaaGreat
