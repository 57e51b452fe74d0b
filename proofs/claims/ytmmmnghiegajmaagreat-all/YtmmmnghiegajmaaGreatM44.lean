import Derived.Lib.BufferRead
import Derived.Test.YtmmmnghiegajmaaGreatM43
set_option maxHeartbeats 8000000
set_option maxRecDepth 20000
open Go.RowKit Go.Proofs.Herald Go.Proofs.Tryz
namespace Go.Proofs.Herald
def fs (c:Nat):Int:=if c=84 then 1 else if c=75 then 2 else if c=65 then 3 else if c=67 then 4 else 5
end Go.Proofs.Herald
namespace Go.Proofs.YtmmmnghiegajmaaGreat
theorem rS {B:Nat}{cs:List am}{m:Nat}{h:az Pr}{J:List Nat}{w0:World}{H:Nat}{F:Nat->Prop}(w:World)(g:KJ B cs m h J w0 H F w):
  Calls prog 16 #[.pointer (some ⟨H,0,none⟩)] w fun e w'=>e=.returned (.string (aI J))/\w'=w:=by
 obtain⟨i,s,h1,h2,_⟩:=g;have hb:=h2.ga.fh.m.at'.blk;have A2:H<w.heap.size:=ak hb;obtain⟨ra,rc,A0⟩:=bD h2.r;have c7:w.cell? ⟨H,7,none⟩=some (.slice ra J.length rc):=by rw[<- A0];exact(ag hb).trans rfl
 have hr:=h2.r;rw[A0]at hr;by_cases hp:0<J.length
 .have A1:=uR hr hp;clear hr A0 h2 hb h1;go_enter func16,ntmps16
  go_wp2_with fail
  go_ret;exact⟨rfl,rfl⟩
 .obtain rfl:J=[]:=List.eq_nil_of_length_eq_zero (by omega);have A1:(convert 80 9 (.slice ra 0 rc)).run prog w=.ok (.string (aI [])) w:=by
   rcases hr.2 with ⟨hv,_⟩|⟨g,c,cur,hv,_⟩
   .simp at hv;obtain⟨rfl,rfl⟩:=hv;exact Lib.run_convert_nil_bytes w 80 9 5 0 underlying80 underlying5 underlying9
   .simp at hv;obtain⟨rfl,rfl⟩:=hv;exact run_convert_bytes_arg (w:=w) 80 5 underlying80 underlying5 g 0 0 rc [] rfl (fun i hi=>absurd hi (by omega)) 9 underlying9
  clear hr A0 h2 hb h1;go_enter func16,ntmps16
  go_wp2_with fail
  go_ret;exact⟨rfl,rfl⟩
def Fz (B:Nat)(cs:List am)(m:Nat)(h':az Pr)(J':List Nat)(w0:World)(H:Nat)(F:Nat->Prop)(f:Int)(w:World)(e:Ending)(w':World):Prop:=
 e=.returned (.int .i64 f)/\KJ B cs (m+1) h' J' w0 H F w'/\∀ k,F k->w'.heap[k]?=w.heap[k]?
theorem nr {w:World}(o:Obj){k:Nat}(hk:k<w.heap.size):(w.alloc o).heap[k]?=w.heap[k]?:=q9 _ _ _ hk
theorem Gp {B:Nat}{cs:List am}{m:Nat}{h:az Pr}{J:List Nat}{w0:World}{H:Nat}{F:Nat->Prop}(c:Nat)(a b:Int)(hc:eV c b=true)(w:World)(g:KJ B cs m h J w0 H F w)(hm:m<=1500000):
  Calls prog 115 #[.pointer (some ⟨H,0,none⟩),.agg #[.int .u8 (c:Nat),.int .i64 a,.int .i64 b]] w (Fz B cs m (iK cs h (fs c) a b).2 (kN cs h J (fs c) a b) w0 H F (iK cs h (fs c) a b).1.2.2 w):=by
 have HF:Hid (∀ x,F x->x<w.heap.size):=fun x hx=>g.lt hx;obtain⟨P,hP⟩:∃ P,P=iK cs h (fs c) a b:=⟨_,rfl⟩;obtain⟨J',hJ⟩:∃ J',J'=kN cs h J (fs c) a b:=⟨_,rfl⟩;have HB:=fun o=>g.below ((v7 _ _).alloc (v9 _) o);have HC:(c=84/\Hid (∀ o,Calls prog 34 #[.pointer (some ⟨H,0,none⟩),.int .i64 a] (w.alloc o) fun e w'=>(∃ x,e=.returned (.tuple #[.int .i64 x,.int .i64 P.1.2.2]))/\KJ B cs (m+1) P.2 J' w0 H F w'/\∀ k,F k->w'.heap[k]?=w.heap[k]?)) \/
   (c=75/\Hid (∀ o,Calls prog 36 #[.pointer (some ⟨H,0,none⟩),.int .i64 a] (w.alloc o) fun e w'=>e=.returned (.int .i64 P.1.2.2)/\KJ B cs (m+1) P.2 J' w0 H F w'/\∀ k,F k->w'.heap[k]?=w.heap[k]?)) \/
   (c=65/\Hid (∀ o,Calls prog 38 #[.pointer (some ⟨H,0,none⟩),.int .i64 a,.int .i64 b] (w.alloc o) fun e w'=>e=.returned (.int .i64 P.1.2.2)/\KJ B cs (m+1) P.2 J' w0 H F w'/\∀ k,F k->w'.heap[k]?=w.heap[k]?)) \/
   (c=67/\Hid (∀ o,Calls prog 40 #[.pointer (some ⟨H,0,none⟩),.int .i64 a] (w.alloc o) fun e w'=>e=.returned (.int .i64 P.1.2.2)/\KJ B cs (m+1) P.2 J' w0 H F w'/\∀ k,F k->w'.heap[k]?=w.heap[k]?)) \/
   (c=68/\Hid (∀ o,Calls prog 42 #[.pointer (some ⟨H,0,none⟩),.int .i64 a] (w.alloc o) fun e w'=>(∃ x y z u,e=.returned (.tuple #[.agg #[.int .i64 x,.int .i64 y,.int .i64 z,.int .i64 u],.int .i64 P.1.2.2]))/\KJ B cs (m+1) P.2 J' w0 H F w'/\∀ k,F k->w'.heap[k]?=w.heap[k]?)):=by
  unfold eV at hc;rw[hP,hJ];by_cases h0:c=84
  .subst h0;exact .inl ⟨rfl,fun o=>(Ce a _ (HB o) (by omega)).mono fun e w' hh=>⟨⟨_,hh.1⟩,hh.2.1,fun k hk=>(hh.2.2 k hk).trans (nr o (g.lt hk))⟩⟩
  by_cases h1:c=75
  .subst h1;exact .inr (.inl ⟨rfl,fun o=>(FI a _ (HB o) (by omega)).mono fun e w' hh=>⟨hh.1,hh.2.1,fun k hk=>(hh.2.2 k hk).trans (nr o (g.lt hk))⟩⟩)
  by_cases h2:c=65
  .subst h2;exact .inr (.inr (.inl ⟨rfl,fun o=>(GQ a b _ (HB o) (by omega)).mono fun e w' hh=>⟨hh.1,hh.2.1,fun k hk=>(hh.2.2 k hk).trans (nr o (g.lt hk))⟩⟩))
  by_cases h3:c=67
  .subst h3;exact .inr (.inr (.inr (.inl ⟨rfl,fun o=>(CG a _ (HB o) (by omega)).mono fun e w' hh=>⟨hh.1,hh.2.1,fun k hk=>(hh.2.2 k hk).trans (nr o (g.lt hk))⟩⟩)))
  by_cases h4:c=68
  .subst h4;exact .inr (.inr (.inr (.inr ⟨rfl,fun o=>(DU a _ (HB o) (by omega)).mono fun e w' hh=>⟨⟨_,_,_,_,hh.1⟩,hh.2.1,fun k hk=>(hh.2.2 k hk).trans (nr o (g.lt hk))⟩⟩)))
  rw[if_neg (by omega)]at hc;simp at hc;omega
 rw[<- hP,<- hJ];clear g hP hJ HB hc;rcases HC with ⟨rfl,HC⟩|⟨rfl,HC⟩|⟨rfl,HC⟩|⟨rfl,HC⟩|⟨rfl,HC⟩;all_goals
  go_enter func115,ntmps115
  go_wp2_with fail
  refine(HC _).mono ?_;first
   | rintro e w1 ⟨rfl,k1,p1⟩
   | rintro e w1 ⟨⟨x,rfl⟩,k1,p1⟩
   | rintro e w1 ⟨⟨x,y,z,u,rfl⟩,k1,p1⟩
  have HK:Hid (KJ B cs (m+1) P.2 J' w0 H F w1/\∀ k,F k->w1.heap[k]?=w.heap[k]?):=⟨k1,p1⟩;clear k1 p1 HC;go_wp2_with fail
  go_ret;first
   | exact⟨rfl,HK.1,HK.2⟩
   | exact⟨rfl,HK.1.below ((v7 _ _).alloc (v9 _) _),fun k hk=>(nr _ (HK.1.lt hk)).trans (HK.2 k hk)⟩
theorem Es {B:Nat}{cs:List am}{m:Nat}{h:az Pr}{J:List Nat}{w0:World}{H:Nat}{F:Nat->Prop}(L:List Nat)(hL:∀ x∈L,x<256)(hl:L.length=19)(hr:gU L=none)(w:World)(g:KJ B cs m h J w0 H F w):
  Calls prog 90 #[.pointer (some ⟨H,0,none⟩),.string (aI L)] w fun e w'=>e=.returned (.bool false)/\KJ B cs m h J w0 H F w'/\∀ k,F k->w'.heap[k]?=w.heap[k]?:=by
 have HF:=ah g;have HR:Hid (Calls prog 114 #[.string (aI L)] w fun e w'=>e=.returned (.tuple #[.agg #[.int .u8 0,.int .i64 0,.int .i64 0],.bool false])/\Below w.heap.size w w'):=by
  have:=yh L hL hl w;rw[hr]at this;exact this
 clear g hL hl hr;generalize aI L=S at *;go_enter func90,ntmps90
 go_wp2_with fail
 refine HR.mono ?_;rintro e w1 ⟨rfl,b1⟩;have HB:Hid (Below w.heap.size w w1):=b1;clear b1 HR;go_wp2_with fail
 go_ret;have hb:Below w.heap.size w (w1.alloc (.cells #[.int .u8 0,.int .i64 0,.int .i64 0] 143)):=HB.alloc HB.size _;exact⟨rfl,HF.below hb,fun k hk=>hb.block k (HF.lt hk)⟩
theorem BJ {B:Nat}{cs:List am}{m:Nat}{h:az Pr}{J:List Nat}{w0:World}{H:Nat}{F:Nat->Prop}(L:List Nat)(hL:∀ x∈L,x<256)(hl:L.length=19)(c:Nat)(a b:Int)(hr:gU L=some (c,a,b))(w:World)(g:KJ B cs m h J w0 H F w)(hm:m<=1500000):
  Calls prog 90 #[.pointer (some ⟨H,0,none⟩),.string (aI L)] w fun e w'=>e=.returned (.bool ((iK cs h (fs c) a b).1.2.2==0))/\KJ B cs (m+1) (iK cs h (fs c) a b).2 (kN cs h J (fs c) a b) w0 H F w'/\∀ k,F k->w'.heap[k]?=w.heap[k]?:=by
 have HF:=ah g;have HR:Hid (Calls prog 114 #[.string (aI L)] w fun e w'=>e=.returned (.tuple #[.agg #[.int .u8 (c:Nat),.int .i64 a,.int .i64 b],.bool true])/\Below w.heap.size w w'):=by
  have:=yh L hL hl w;rw[hr]at this;exact this
 have HD:Hid (∀ W,Below w.heap.size w W->Calls prog 115 #[.pointer (some ⟨H,0,none⟩),.agg #[.int .u8 (c:Nat),.int .i64 a,.int .i64 b]] W fun e w'=>e=.returned (.int .i64 (iK cs h (fs c) a b).1.2.2)/\KJ B cs (m+1) (iK cs h (fs c) a b).2 (kN cs h J (fs c) a b) w0 H F w'/\∀ k,F k->w'.heap[k]?=w.heap[k]?):=fun W hb=>
  (Gp c a b (rU hr).2 W (g.below hb) hm).mono fun e w' hh=>⟨hh.1,hh.2.1,fun k hk=>(hh.2.2 k hk).trans (hb.block k (g.lt hk))⟩
 clear g hL hl hr;generalize aI L=S at *;generalize iK cs h (fs c) a b=P at *;generalize kN cs h J (fs c) a b=J' at *;go_enter func90,ntmps90
 go_wp2_with fail
 refine HR.mono ?_;rintro e w1 ⟨rfl,b1⟩;have HB:Hid (Below w.heap.size w (w1.alloc (.cells #[.int .u8 (c:Nat),.int .i64 a,.int .i64 b] 143))):=b1.alloc b1.size _;clear b1 HR;go_wp2_with fail
 refine(HD _ HB).mono ?_;rintro e w2 ⟨rfl,k2,p2⟩;have HK:Hid (KJ B cs (m+1) P.2 J' w0 H F w2/\∀ k,F k->w2.heap[k]?=w.heap[k]?):=⟨k2,p2⟩;clear k2 p2 HD HB;go_wp2_with fail
 go_ret;exact⟨rfl,HK.1,HK.2⟩
def jT (cs:List am):List (List Nat)->az Pr->List Nat->Nat->az Pr×List Nat×Nat
 | [],h,J,n=>(h,J,n)
 | L::rest,h,J,n=>match gU L with
  | none=>(h,J,n)
  | some (c,a,b)=>if (iK cs h (fs c) a b).1.2.2=0 then jT cs rest (iK cs h (fs c) a b).2 (kN cs h J (fs c) a b) (n+1) else ((iK cs h (fs c) a b).2,kN cs h J (fs c) a b,n)
def gF (L:List Nat)(i:Nat):List Nat:=(L.drop (i*19)).take 19
def gE (L:List Nat)(i:Nat):Nat->List (List Nat)
 | 0=>[]
 | n+1=>gF L i::gE L (i+1) n
theorem wg {L:List Nat}{i:Nat}(h:i*19+19<=L.length):(gF L i).length=19:=by
 unfold gF;rw[List.length_take,List.length_drop];omega
theorem Fv {cs:List am}{ca:Option Addr}{ccap:Nat}(L:List Nat)(hL:∀ x∈L,x<256)(hl:L.length<=20000000)(w w0:World)(F:Nat->Prop)(hN0:Calls prog 29 #[.slice ca cs.length ccap] w fun e w'=>∃ H v,e=.returned (.tuple #[.pointer (some ⟨H,0,none⟩),.int .i64 0])/\w.heap.size<=H/\w'.heap[H]?=some (.cells (ll v) 114)/\w'.ownsRow w.heap.size 91 4 v cs.length (aZ cs)/\Below w.heap.size w w')(hs:em cs=true)(hF:∀ k,F k->k<w.heap.size)(hb0:Below w0.heap.size w0 w):
  Calls prog 61 #[.slice ca cs.length ccap,.string (aI L)] w fun e w'=>∃ (H:Nat) (m:Nat),e=.returned (.tuple #[.pointer (some ⟨H,0,none⟩),.int .i64 ((jT cs (gE L 0 (L.length / 19)) dM [] 0).2.2:Nat),.int .i64 0])/\m<=L.length / 19/\KJ w0.heap.size cs m (jT cs (gE L 0 (L.length / 19)) dM [] 0).1 (jT cs (gE L 0 (L.length / 19)) dM [] 0).2.1 w0 H F w'/\∀ k,F k->w'.heap[k]?=w.heap[k]?:=by
 have hz:(aI L).size=L.length:=iG L;have HN:=(show Hid _ from hN0:Hid (Calls prog 29 #[.slice ca cs.length ccap] w _));have HX:Hid ((∀ x∈L,x<256)/\em cs=true/\(∀ k,F k->k<w.heap.size)/\Below w0.heap.size w0 w):=⟨hL,hs,hF,hb0⟩;obtain⟨N,hN⟩:∃ N,N=L.length / 19:=⟨_,rfl⟩;rw[<- hN];generalize hRR:jT cs (gE L 0 N) dM [] 0=R;have B3:=ah hRR;clear hN0 hL hs hF hb0 hRR;go_enter func61,ntmps61
 go_wp2_with fail
 refine HN.mono ?_;rintro e w1 ⟨H,v,rfl,hH,B1,A8,b1⟩;have A5:Hid (KJ w0.heap.size cs 0 dM [] w0 H F w1/\∀ k,F k->w1.heap[k]?=w.heap[k]?):=by
  obtain⟨_,q2,q3,q4⟩:=HX;refine⟨⟨0,_,v9 _,GJ.new q2 B1 (bZ A8),fun k hk=>?_,fun k hk=>by have:=q3 k hk;have:=b1.size;omega,q4.trans (b1.mono q4.size),by have:=q4.size;have:=b1.size;omega⟩,fun k hk=>b1.block k (q3 k hk)⟩;have B4:w.heap.size<=k:=by
   rcases hk with hk|hk|hk
   .rcases hk with rfl|⟨d,hd⟩|hk
    .exact hH
    .simp[Value.ownBlock]at hd
    .simp[Value.ownBlock]at hk
   .simp[Value.ownBlock]at hk
   .exact(A8.lt k hk).1
  exact⟨by have:=q4.size;omega,fun hf=>by have:=q3 k hf;omega⟩
 clear hH B1 A8 b1 HN;go_wp2_with fail
 go_loopw [9,10] (fun mv sv wr=>∃ (k:Nat) (h:az Pr) (J:List Nat),k<=N/\mv=.int .i64 (k:Nat)/\sv=.int .i64 ((k*19:Nat):Int)/\Hid (jT cs (gE L k (N - k)) h J k=R/\KJ w0.heap.size cs k h J w0 H F wr/\∀ k,F k->wr.heap[k]?=w.heap[k]?)) (fun mv _ _=>N - (intOf mv).toNat)
 case atStart=>exact⟨0,dM,[],Qa _,rfl,rfl,B3,A5.1,A5.2⟩
 case round=>
  clear A5;obtain⟨k,h,J,hk,rfl,rfl,HI⟩:=hrel;by_cases hlt:k<N
  .have B2:k*19+19<=L.length:=by omega
   obtain⟨n',A7⟩:∃ n',N - k=n'+1:=⟨N - k - 1,by omega⟩;have A4:N - (k+1)=n':=by omega
   have A3:(gF L k).length=19:=wg B2;have A2:∀ x∈gF L k,x<256:=nN HX.1 (k*19) 19;have A9:Hid ((aI L).extract (k*19) (k*19+19)=aI (gF L k)):=by
    show _=_;rw[kU,show k*19+19 - k*19=19 by omega];rfl
   have B0:Hid (jT cs (gF L k::gE L (k+1) n') h J k=R):=by
    have:=HI.1;rw[A7]at this;exact this
   cases hr:gU (gF L k) with
   | none=>
    have HC:=(show Hid _ from Es (gF L k) A2 A3 hr wr HI.2.1:Hid (Calls prog 90 #[.pointer (some ⟨H,0,none⟩),.string (aI (gF L k))] wr _));rw[<- A9]at HC;have A1:Hid (R=(h,J,k)):=by
     have:=B0.out;unfold jT at this;rw[hr]at this;exact this.symm
    clear hr A2 A3 A7 A4;go_wp2_with fail
    refine HC.mono ?_;rintro e w2 ⟨rfl,k2,p2⟩;have A0:Hid (KJ w0.heap.size cs k h J w0 H F w2/\∀ k,F k->w2.heap[k]?=w.heap[k]?):=⟨k2,fun x hx=>(p2 x hx).trans (HI.2.2 x hx)⟩;clear k2 p2 HC;go_wp2_with fail
    go_ret3;rw[A1];exact⟨H,k,rfl,hk,A0.1,A0.2⟩
   | some q=>
    obtain⟨c,a,b⟩:=q;have HC:=(show Hid _ from BJ (gF L k) A2 A3 c a b hr wr HI.2.1 (by omega):Hid (Calls prog 90 #[.pointer (some ⟨H,0,none⟩),.string (aI (gF L k))] wr _));rw[<- A9]at HC;have A1:Hid ((if (iK cs h (fs c) a b).1.2.2=0 then jT cs (gE L (k+1) n') (iK cs h (fs c) a b).2 (kN cs h J (fs c) a b) (k+1) else ((iK cs h (fs c) a b).2,kN cs h J (fs c) a b,k))=R):=by
     have:=B0.out;unfold jT at this;rw[hr]at this;exact this
    generalize iK cs h (fs c) a b=P at *;generalize kN cs h J (fs c) a b=J' at *;clear hr A2 A3 A7;by_cases he:P.1.2.2=0
    .have be:(P.1.2.2==0)=true:=by simpa using he
     have A6:Hid (jT cs (gE L (k+1) (N - (k+1))) P.2 J' (k+1)=R):=by
      have:=A1.out;rw[if_pos he]at this;rw[A4];exact this
     rw[be]at HC;clear he A4;go_wp2_with fail
     refine HC.mono ?_;rintro e w2 ⟨rfl,k2,p2⟩;have A0:Hid (KJ w0.heap.size cs (k+1) P.2 J' w0 H F w2/\∀ k,F k->w2.heap[k]?=w.heap[k]?):=⟨k2,fun x hx=>(p2 x hx).trans (HI.2.2 x hx)⟩;clear k2 p2 HC;go_wp2_with fail
     go_roundw;case rel=>exact⟨k+1,P.2,J',by omega,by go_num,by go_num,A6.out,A0.out.1,A0.out.2⟩
     case measure=>simp[intOf];omega
    .have be:(P.1.2.2==0)=false:=by simpa using he
     have A6:Hid (R=(P.2,J',k)):=by
      have:=A1.out;rw[if_neg he]at this;exact this.symm
     rw[be]at HC;clear he A4;go_wp2_with fail
     refine HC.mono ?_;rintro e w2 ⟨rfl,k2,p2⟩;have A0:Hid (KJ w0.heap.size cs (k+1) P.2 J' w0 H F w2/\∀ k,F k->w2.heap[k]?=w.heap[k]?):=⟨k2,fun x hx=>(p2 x hx).trans (HI.2.2 x hx)⟩;clear k2 p2 HC;go_wp2_with fail
     go_ret3;rw[A6];exact⟨H,k+1,rfl,hlt,A0.1,A0.2⟩
  .have A1:Hid (R=(h,J,k)):=by
    have:=HI.1;rw[show N - k=0 by omega]at this;exact this.symm
   have B2:L.length<k*19+19:=by omega
   go_wp2_with fail
   go_ret3;rw[A1];exact⟨H,k,rfl,hk,HI.2.1,HI.2.2⟩
end Go.Proofs.YtmmmnghiegajmaaGreat
namespace Go.Proofs.Herald
theorem Ej {x0 x1 x2 x3 x4 x5 x6 x7:Nat}(h0:x0<256)(h1:x1<256)(h2:x2<256)(h3:x3<256)(h4:x4<256)(h5:x5<256)(h6:x6<256)(h7:x7<256):jO (dW (fG [x0,x1,x2,x3,x4,x5,x6,x7]))=[x0,x1,x2,x3,x4,x5,x6,x7]:=by
 have ev:fG [x0,x1,x2,x3,x4,x5,x6,x7]=(x0:Int)*72057594037927936+x1*281474976710656+x2*1099511627776+x3*4294967296+x4*16777216+x5*65536+x6*256+x7:=by
  unfold fG;simp only[List.foldl_cons,List.foldl_nil];omega
 have hw:dW (fG [x0,x1,x2,x3,x4,x5,x6,x7])=fG [x0,x1,x2,x3,x4,x5,x6,x7]\/dW (fG [x0,x1,x2,x3,x4,x5,x6,x7])=fG [x0,x1,x2,x3,x4,x5,x6,x7] - 18446744073709551616:=by
  unfold dW;rw[ev];omega
 generalize dW (fG [x0,x1,x2,x3,x4,x5,x6,x7])=n at *;rw[ev]at hw;have d0:(fk n 0).toNat=x0:=by
  have e:n / 2 ^ (56 - 8*0)=n / 72057594037927936:=rfl;unfold fk;rw[e];omega
 have d1:(fk n 1).toNat=x1:=by
  have e:n / 2 ^ (56 - 8*1)=n / 281474976710656:=rfl;unfold fk;rw[e];omega
 have d2:(fk n 2).toNat=x2:=by
  have e:n / 2 ^ (56 - 8*2)=n / 1099511627776:=rfl;unfold fk;rw[e];omega
 have d3:(fk n 3).toNat=x3:=by
  have e:n / 2 ^ (56 - 8*3)=n / 4294967296:=rfl;unfold fk;rw[e];omega
 have d4:(fk n 4).toNat=x4:=by
  have e:n / 2 ^ (56 - 8*4)=n / 16777216:=rfl;unfold fk;rw[e];omega
 have d5:(fk n 5).toNat=x5:=by
  have e:n / 2 ^ (56 - 8*5)=n / 65536:=rfl;unfold fk;rw[e];omega
 have d6:(fk n 6).toNat=x6:=by
  have e:n / 2 ^ (56 - 8*6)=n / 256:=rfl;unfold fk;rw[e];omega
 have d7:(fk n 7).toNat=x7:=by
  have e:n / 2 ^ (56 - 8*7)=n:=by show n / 1=n;exact Int.ediv_one n
  unfold fk;rw[e];omega
 unfold jO;simp only[List.range,List.range.loop,List.map_cons,List.map_nil,d0,d1,d2,d3,d4,d5,d6,d7]
theorem vd {X:List Nat}(hl:X.length=8)(hX:∀ x∈X,x<256):jO (dW (fG X))=X:=by
 match X,hl with
 | [x0,x1,x2,x3,x4,x5,x6,x7],_=>
  exact Ej (hX _ (by simp)) (hX _ (by simp)) (hX _ (by simp)) (hX _ (by simp)) (hX _ (by simp)) (hX _ (by simp)) (hX _ (by simp)) (hX _ (by simp))
theorem Br {L:List Nat}(hl:L.length=19)(hL:∀ x∈L,x<256):fg (iA L) (jP L) (iY L)=L.take 17:=by
 have h1:jO (jP L)=(L.drop 1).take 8:=vd (by rw[List.length_take,List.length_drop];omega) fun x hx=>hL x (List.mem_of_mem_drop (List.mem_of_mem_take hx));have h2:jO (iY L)=(L.drop 9).take 8:=vd (by rw[List.length_take,List.length_drop];omega) fun x hx=>hL x (List.mem_of_mem_drop (List.mem_of_mem_take hx));unfold fg;rw[h1,h2];cases L with
 | nil=>simp at hl
 | cons x R=>
  show x::(R.take 8++(R.drop 8).take 8)=x::R.take 16;rw[show(16:Nat)=8+8 from rfl,List.take_add]
theorem CW {L:List Nat}(hl:L.length=19)(hL:∀ x∈L,x<256):eR (iA L) (jP L) (iY L)=L ↔ [jd (L.take 17) / 256,jd (L.take 17) % 256]=L.drop 17:=by
 unfold eR;rw[Br hl hL];constructor
 .intro h;have h2:=congrArg (List.drop 17) h;rw[List.drop_left' (by rw[List.length_take];omega)]at h2;exact h2
 .intro h;rw[h];exact List.take_append_drop 17 L
end Go.Proofs.Herald
namespace Go.Proofs.YtmmmnghiegajmaaGreat
def fx {R:Type}(E:bM R)(h:az R)(c:Nat)(a b:Int):Int×az R:=
 if c=84 then ((cP E h a).2.1,(cP E h a).2.2)
 else if c=75 then dU E h a
 else if c=65 then di E h a b
 else if c=67 then dH E h a
 else if c=68 then ((cU h a).2.1,(cU h a).2.2)
 else (10,h)
def gT {R:Type}(E:bM R):List (List Nat)->az R->List Nat->Nat->az R×List Nat×Nat
 | [],h,J,n=>(h,J,n)
 | L::rest,h,J,n=>match gU L with
  | none=>(h,J,n)
  | some (c,a,b)=>if (fx E h c a b).1=0 then gT E rest (fx E h c a b).2 (cI (fx E h c a b).1 J c a b) (n+1) else ((fx E h c a b).2,cI (fx E h c a b).1 J c a b,n)
theorem Bw {cs:List am}{h:az Pr}{J:List Nat}{c:Nat}{a b:Int}(hc:eV c b=true):(iK cs h (fs c) a b).1.2.2=(fx (aE cs) h c a b).1/\(iK cs h (fs c) a b).2=(fx (aE cs) h c a b).2/\kN cs h J (fs c) a b=cI (fx (aE cs) h c a b).1 J c a b:=by
 unfold eV at hc;by_cases h1:c=84
 .subst h1;have hb:b=0:=by simpa using hc
  subst hb;exact⟨rfl,rfl,rfl⟩
 by_cases h2:c=75
 .subst h2;have hb:b=0:=by simpa using hc
  subst hb;exact⟨rfl,rfl,rfl⟩
 by_cases h3:c=65
 .subst h3;exact⟨rfl,rfl,rfl⟩
 by_cases h4:c=67
 .subst h4;have hb:b=0:=by simpa using hc
  subst hb;exact⟨rfl,rfl,rfl⟩
 by_cases h5:c=68
 .subst h5;have hb:b=0:=by simpa using hc
  subst hb;exact⟨rfl,rfl,rfl⟩
 .rw[if_neg (by omega)]at hc;simp at hc;omega
theorem vz (cs:List am):∀ (Ls:List (List Nat)) (h:az Pr) (J:List Nat) (n:Nat),jT cs Ls h J n=gT (aE cs) Ls h J n
 | [],_,_,_=>rfl
 | L::rest,h,J,n=>by
  unfold jT gT;cases hr:gU L with
  | none=>rfl
  | some q=>
   obtain⟨c,a,b⟩:=q;obtain⟨e1,e2,e3⟩:=Bw (cs:=cs) (h:=h) (J:=J) (a:=a) (rU hr).2;simp only;rw[e1,e2,e3,vz cs rest]
theorem Bx {R S:Type}{E:bM R}{F:bM S}{ρ:R->S->Prop}(hE:bq E F ρ){h:az R}{k:az S}(hs:ay ρ h k)(c:Nat)(a b:Int):(fx E h c a b).1=(fx F k c a b).1/\ay ρ (fx E h c a b).2 (fx F k c a b).2:=by
 unfold fx;split
 .obtain⟨_,h2,h3⟩:=ay.trig hE hs a;exact⟨h2,h3⟩
 split
 .exact ay.tick hE hs a
 split
 .exact ay.ack hE hs a b
 split
 .exact ay.cancel hE hs a
 split
 .obtain⟨_,h2,h3⟩:=ay.drain hs a;exact⟨h2,h3⟩
 .exact⟨rfl,hs⟩
theorem sm {R S:Type}{E:bM R}{F:bM S}{ρ:R->S->Prop}(hE:bq E F ρ):∀ (Ls:List (List Nat)) {h:az R} {k:az S} (J:List Nat) (n:Nat),ay ρ h k->ay ρ (gT E Ls h J n).1 (gT F Ls k J n).1/\(gT E Ls h J n).2=(gT F Ls k J n).2
 | [],_,_,_,_,hs=>⟨hs,rfl⟩
 | L::rest,h,k,J,n,hs=>by
  unfold gT;cases gU L with
  | none=>exact⟨hs,rfl⟩
  | some q=>
   obtain⟨c,a,b⟩:=q;obtain⟨e1,e2⟩:=Bx hE hs c a b;simp only;rw[e1];split
   .exact sm hE rest _ _ e2
   .exact⟨e2,rfl⟩
theorem wC (L:List Nat)(hL:∀ x∈L,x<256)(hl:L.length=8)(w:World):
  Calls prog 117 #[.string (aI L)] w fun e w'=>e=.returned (.int .i64 (dW (fG L)))/\w'=w:=by
 have hz:(aI L).size=8:=by rw[iG,hl]
 have A2:Hid (∀ (i:Nat) (h:i<(aI L).size) (hi:i<L.length),(((aI L)[i]).toNat:Int)=(L[i]:Int)):=fun i h hi=>by
  rw[qA h hi (hL _ (Qb hi))]
 have HL:Hid ((∀ x∈L,x<256)/\L.length=8):=⟨hL,hl⟩;clear hL hl;go_enter func117,ntmps117
 go_wp2_with fail
 go_loop [3,4] (fun n i=>∃ k:Nat,k<=8/\i=.int .i64 k/\n=.int .i64 (dW (fG (L.take k)))) (fun _ i=>8 - (intOf i).toNat)
 case atStart=>exact⟨0,Qa _,rfl,by rw[List.take_zero];rfl⟩
 case round=>
  obtain⟨k,hk,rfl,rfl⟩:=hrel;by_cases hlt:k<8
  .have A0:k<L.length:=by have:=HL.2;omega
   have A1:k<(aI L).size:=by omega
   have e1:=A2 k A1 A0;have hb:=HL.1 _ (Qb A0);have A4:Hid (dW (fG (L.take (k+1)))=dW (dW (fG (L.take k))*256)+(L[k]:Int)):=by
    show _=_;rw[wh L k A0,xd _ _ hb]
   generalize fG (L.take k)=v at *;have A3:Hid (Go.bits .or .i64 (Go.RowKit.wrap64 (dW v*256)) (L[k]:Int)=dW (fG (L.take (k+1)))):=by
    show _=_;have e2:Go.RowKit.wrap64 (dW v*256)=dW (dW v*256):=by unfold dW;exact yg _
    rw[A4,e2];exact vk _ _ (by unfold dW;omega) (by unfold dW;omega) (by unfold dW;omega) hb
   go_wp2_with fail
   go_round;case rel=>exact⟨k+1,by omega,by go_num,by rw[A3.out]⟩
   case measure=>simp[intOf];omega
  .have e:L.take k=L:=Qe (by have:=HL.2;omega);rw[e];go_wp2_with fail
   go_ret;exact⟨rfl,rfl⟩
section
structure nZ (L:List Nat)(Z:ByteArray):Prop where
 z:aI L=Z
 sz:Z.size=19
 ck:∀ w:World,Calls prog 116 #[.string (Z.extract 0 17)] w fun e w'=>e=.returned (.string (ig (Z.extract 0 17)))/\Below w.heap.size w w'
 na:∀ w:World,Calls prog 117 #[.string (Z.extract 1 9)] w fun e w'=>e=.returned (.int .i64 (jP L))/\w'=w
 nb:∀ w:World,Calls prog 117 #[.string (Z.extract 9 17)] w fun e w'=>e=.returned (.int .i64 (iY L))/\w'=w
 nm:∀ h:0<Z.size,(Z[0].toNat:Int)=(iA L:Nat)
 cs:ig (Z.extract 0 17)=Z.extract 17 19 ↔ eR (iA L) (jP L) (iY L)=L
theorem xX {L:List Nat}(hL:∀ x∈L,x<256)(hl:L.length=19):nZ L (aI L):=by
 have x1:(aI L).extract 0 17=aI (L.take 17):=by rw[kU];rfl
 have x2:(aI L).extract 17 19=aI (L.drop 17):=by
  rw[kU,Qe (by rw[List.length_drop];omega)]
 have xa:(aI L).extract 1 9=aI ((L.drop 1).take 8):=kU L 1 9;have xb:(aI L).extract 9 17=aI ((L.drop 9).take 8):=kU L 9 17;have l1:∀ x∈L.take 17,x<256:=fun x hx=>hL x (List.mem_of_mem_take hx);have l2:∀ x∈L.drop 17,x<256:=fun x hx=>hL x (List.mem_of_mem_drop hx);have A0:(L.take 17).length=17:=by rw[List.length_take];omega
 refine⟨rfl,by rw[iG,hl],fun w=>?_,fun w=>?_,fun w=>?_,fun h=>?_,?_⟩
 .rw[x1];exact vV _ (by rw[iG];omega) (by rw[iG];omega) w
 .rw[xa];exact wC _ (nN hL 1 8) (by rw[List.length_take,List.length_drop];omega) w
 .rw[xb];exact wC _ (nN hL 9 8) (by rw[List.length_take,List.length_drop];omega) w
 .have h0:0<L.length:=by omega
  rw[qA h h0 (hL _ (Qb h0))];unfold iA;simp[List.getD,h0]
 .have hr:jd (L.take 17)<65536:=oV _ (by decide) l1;rw[x1,x2,we _ l1 (by omega),CW hl hL];constructor
  .intro h;refine wZ (fun x hx=>?_) l2 h;simp only[List.mem_cons,List.not_mem_nil,or_false]at hx;rcases hx with rfl|rfl <;> omega
  .intro h;rw[h]
theorem Bn (S:Nat)(L:List Nat)(hL:∀ x∈L,x<256)(hl:L.length=19)(hr:gU L=none)(w:World):
  Calls prog 91 #[.pointer (some ⟨S,0,none⟩),.string (aI L)] w fun e w'=>e=.returned (.bool false)/\Below w.heap.size w w':=by
 have R:=xX hL hl;have hn:¬ (ig ((aI L).extract 0 17)=(aI L).extract 17 19/\eV (iA L) (iY L)=true):=fun hh=>by
  unfold gU at hr;rw[if_pos ⟨R.cs.mp hh.1,hh.2⟩]at hr;cases hr
 have hz:=R.sz;have h0:0<(aI L).size:=by omega
 have n0:=R.nm h0;have HK:Hid (∀ w:World,Calls prog 116 #[.string ((aI L).extract 0 17)] w fun e w'=>e=.returned (.string (ig ((aI L).extract 0 17)))/\Below w.heap.size w w'):=R.ck;have HA:Hid (∀ w:World,Calls prog 117 #[.string ((aI L).extract 1 9)] w fun e w'=>e=.returned (.int .i64 (jP L))/\w'=w):=R.na;have HB:Hid (∀ w:World,Calls prog 117 #[.string ((aI L).extract 9 17)] w fun e w'=>e=.returned (.int .i64 (iY L))/\w'=w):=R.nb;clear R hr hL hl;generalize iY L=b at *;generalize jP L=a at *;generalize iA L=c at *;generalize aI L=Z at *;by_cases h1:ig (Z.extract 0 17)=Z.extract 17 19
 .have hi:eV c b=false:=by
   cases hh:eV c b with
   | false=>rfl
   | true=>exact absurd ⟨h1,hh⟩ hn
  rw[h1]at HK;clear hn h1;have A1:¬ c=65:=fun e=>by
   subst e;cases hi
  have A3:(((c:Nat):Int) != 65)=true:=by simp;omega
  by_cases hb:b=0
  .subst hb;have k1:(((c:Nat):Int)==84)=false:=by
    cases hh:(((c:Nat):Int)==84) with
    | false=>rfl
    | true=>
     have e:c=84:=by simp at hh;omega
     subst e;cases hi
   have k2:(((c:Nat):Int)==75)=false:=by
    cases hh:(((c:Nat):Int)==75) with
    | false=>rfl
    | true=>
     have e:c=75:=by simp at hh;omega
     subst e;cases hi
   have k3:(((c:Nat):Int)==65)=false:=by simp;omega
   have k4:(((c:Nat):Int)==67)=false:=by
    cases hh:(((c:Nat):Int)==67) with
    | false=>rfl
    | true=>
     have e:c=67:=by simp at hh;omega
     subst e;cases hi
   have k5:(((c:Nat):Int)==68)=false:=by
    cases hh:(((c:Nat):Int)==68) with
    | false=>rfl
    | true=>
     have e:c=68:=by simp at hh;omega
     subst e;cases hi
   clear A1 hi;go_enter func91,ntmps91
   go_wp2_with fail
   refine(HK _).mono ?_;rintro e w1 ⟨rfl,b1⟩;have A0:Hid (Below w.heap.size w w1):=b1;clear b1 HK;go_wp2_with fail
   refine(HA _).mono ?_;rintro e w2 ⟨rfl,hw⟩;rw[hw];clear hw HA;go_wp2_with fail
   refine(HB _).mono ?_;rintro e w2 ⟨rfl,hw⟩;rw[hw];clear hw HB;go_wp2_with fail
   go_ret;exact⟨rfl,A0⟩
  .have bb:(b != 0)=true:=by simpa using hb
   clear A1 hi hb;go_enter func91,ntmps91
   go_wp2_with fail
   refine(HK _).mono ?_;rintro e w1 ⟨rfl,b1⟩;have A0:Hid (Below w.heap.size w w1):=b1;clear b1 HK;go_wp2_with fail
   refine(HA _).mono ?_;rintro e w2 ⟨rfl,hw⟩;rw[hw];clear hw HA;go_wp2_with fail
   refine(HB _).mono ?_;rintro e w2 ⟨rfl,hw⟩;rw[hw];clear hw HB;go_wp2_with fail
   go_ret;exact⟨rfl,A0⟩
 .have A2:(ig (Z.extract 0 17)).toList≠(Z.extract 17 19).toList:=fun h=>h1 (og (by rw[<- ByteArray.toList_eq,<- ByteArray.toList_eq];exact h));have A4:((ig (Z.extract 0 17)).toList==(Z.extract 17 19).toList)=false:=by simpa using A2
  clear hn h1 A2;generalize ig (Z.extract 0 17)=Y at *;go_enter func91,ntmps91
  go_wp2_with fail
  refine(HK _).mono ?_;rintro e w1 ⟨rfl,b1⟩;have A0:Hid (Below w.heap.size w w1):=b1;clear b1 HK;go_wp2_with fail
  go_ret;exact⟨rfl,A0⟩
theorem Bm {L:List Nat}(hL:∀ x∈L,x<256)(hl:L.length=19){c:Nat}{a b:Int}(hr:gU L=some (c,a,b)):(aI L).size=19/\(∀ h:0<(aI L).size,((aI L)[0].toNat:Int)=(c:Nat))/\Hid (∀ w:World,Calls prog 116 #[.string ((aI L).extract 0 17)] w fun e w'=>e=.returned (.string ((aI L).extract 17 19))/\Below w.heap.size w w') /\
  Hid (∀ w:World,Calls prog 117 #[.string ((aI L).extract 1 9)] w fun e w'=>e=.returned (.int .i64 a)/\w'=w)/\Hid (∀ w:World,Calls prog 117 #[.string ((aI L).extract 9 17)] w fun e w'=>e=.returned (.int .i64 b)/\w'=w):=by
 have R:=xX hL hl;unfold gU at hr;split at hr
 .rename_i hh;simp only[Option.some.injEq,Prod.mk.injEq]at hr;obtain⟨rfl,rfl,rfl⟩:=hr;refine⟨R.sz,R.nm,fun w=>?_,R.na,R.nb⟩;have:=R.ck w;rw[R.cs.mpr hh.1]at this;exact this
 .cases hr
end
def eE (Pb H S Q:Nat)(s:HS)(d:DS)(k:Nat):Prop:=k=Pb\/s.own H k\/d.own S Q k
structure QH {RT:Type}(M:aV RT)(G:RT->Prop)(CB:World->Prop)(cs:List am)(i j:Nat)(hm:az Pr)(hd:az RT)(J L:List Nat)(w:World)(Pb H S Q:Nat)(u tv:Value)(s:HS)(d:DS):Prop where
 p:w.heap[Pb]?=some (.cells #[.pointer (some ⟨H,0,none⟩),.pointer (some ⟨S,0,none⟩),u,tv] 42)
 gj:GJ cs i hm J w H s
 gd:GD M G CB j hd L w S Q d
 dj:∀ k,s.own H k->¬ d.own S Q k
 pf:¬ s.own H Pb
 pd:¬ d.own S Q Pb
 fb:∀ k,s.own H k->M.B0<=k
 pb:M.B0<=Pb
section
variable {RT:Type} {M:aV RT} {G:RT->Prop} {CB:World->Prop} {cs:List am} {i j:Nat} {hm hm':az Pr} {hd hd':az RT} {J J' L L':List Nat} {w w' W w1:World} {Pb H S Q:Nat} {u tv:Value} {s:HS} {d:DS}
theorem QH.lt (h:QH M G CB cs i j hm hd J L w Pb H S Q u tv s d){k:Nat}(hk:eE Pb H S Q s d k):k<w.heap.size:=by
 rcases hk with rfl|hk|hk
 .exact ak h.p
 .exact h.gj.lt hk
 .exact h.gd.lt hk
theorem QH.base (h:QH M G CB cs i j hm hd J L w Pb H S Q u tv s d){k:Nat}(hk:eE Pb H S Q s d k):M.B0<=k:=by
 rcases hk with rfl|hk|hk
 .exact h.pb
 .exact h.fb k hk
 .exact h.gd.sim.base k hk
theorem QH.B (h:QH M G CB cs i j hm hd J L w Pb H S Q u tv s d):M.B0<=w.heap.size:=by
 have h1:=h.pb;have h2:=ak h.p;omega
theorem QH.sort (h:QH M G CB cs i j hm hd J L w Pb H S Q u tv s d){k:Nat}(hk:eE Pb H S Q s d k):ek w k:=by
 rcases hk with rfl|hk|hk
 .exact⟨_,_,h.p,by decide,by decide⟩
 .exact h.gj.ga.fh.sort hk
 .obtain⟨c,t,hc,ht⟩:=h.gd.sim.at'.sort hk;refine⟨c,t,hc,?_⟩;rcases ht with rfl|rfl|rfl|rfl|rfl|rfl <;> exact⟨by decide,by decide⟩
theorem QH.keep (K:cy M G CB)(h:QH M G CB cs i j hm hd J L w Pb H S Q u tv s d)(hk:∀ k,eE Pb H S Q s d k->w'.heap[k]?=w.heap[k]?)(hst:aN M.B0 w w'):QH M G CB cs i j hm hd J L w' Pb H S Q u tv s d:=
 ⟨(hk Pb (.inl rfl)).trans h.p,h.gj.keep fun k hk'=>hk k (.inr (.inl hk')),h.gd.keep K (fun k hk'=>hk k (.inr (.inr hk'))) hst,h.dj,h.pf,h.pd,h.fb,h.pb⟩
theorem QH.below (K:cy M G CB)(h:QH M G CB cs i j hm hd J L w Pb H S Q u tv s d)(hb:Below w.heap.size w w'):QH M G CB cs i j hm hd J L w' Pb H S Q u tv s d:=
 h.keep K (fun k hk=>hb.block k (h.lt hk)) (pC hb)
theorem QH.write (K:cy M G CB)(h:QH M G CB cs i j hm hd J L w Pb H S Q u tv s d){Z:Nat->Prop}(hf:Fr Z w w')(hz:∀ k,k<w.heap.size->Z k->¬ eE Pb H S Q s d k/\M.B0<=k/\ek w k):QH M G CB cs i j hm hd J L w' Pb H S Q u tv s d:=
 h.keep K (fun k hk=>hf.block k (h.lt hk) fun hh=>(hz k (h.lt hk) hh).1 hk) (mj hf fun k hk hh=>(hz k hk hh).2)
structure dm (w:World)(Pb H S Q:Nat)(s:HS)(d:DS)(w1:World)(s1:HS)(d1:DS):Prop where
 own:∀ k,eE Pb H S Q s1 d1 k->eE Pb H S Q s d k\/w.heap.size<=k
 fr:Fr (eE Pb H S Q s d) w w1
theorem dm.trans {w2:World}{s1 s2:HS}{d1 d2:DS}(g:dm w Pb H S Q s d w1 s1 d1)(g2:dm w1 Pb H S Q s1 d1 w2 s2 d2):dm w Pb H S Q s d w2 s2 d2:=by
 have z:=g.fr.size;refine⟨fun k hk=>?_,?_⟩
 .rcases g2.own k hk with h|h
  .exact g.own k h
  .exact .inr (by omega)
 .have f1:Fr (fun k=>eE Pb H S Q s d k\/w.heap.size<=k) w w1:=g.fr.mono fun k _ hk=>.inl hk;have f2:Fr (fun k=>eE Pb H S Q s d k\/w.heap.size<=k) w1 w2:=g2.fr.mono fun k _ hk=>g.own k hk;exact(f1.trans f2).mono fun k hk hs=>by
   rcases hs with h|h
   .exact h
   .omega
theorem dm.below (hb:Below w.heap.size w w1):dm w Pb H S Q s d w1 s d:=⟨fun _ hk=>.inl hk,(Fr.of_below hb).mono fun k hk hs=>by omega⟩
theorem dm.write {s1:HS}{d1:DS}(g:dm w Pb H S Q s d w1 s1 d1){Z:Nat->Prop}(hf:Fr Z w1 w')(hz:∀ k,Z k->w.heap.size<=k):dm w Pb H S Q s d w' s1 d1:=by
 refine⟨g.own,?_⟩;have f1:Fr (fun k=>eE Pb H S Q s d k\/w.heap.size<=k) w w1:=g.fr.mono fun k _ hk=>.inl hk;have f2:Fr (fun k=>eE Pb H S Q s d k\/w.heap.size<=k) w1 w':=hf.mono fun k _ hk=>.inr (hz k hk);exact(f1.trans f2).mono fun k hk hs=>by
  rcases hs with h|h
  .exact h
  .omega
theorem QH.prog (K:cy M G CB)(h:QH M G CB cs i j hm hd J L w Pb H S Q u tv s d)(hW:Below w.heap.size w W)(ho:cB cs i hm' J' W H s w1):
  ∃ s1,QH M G CB cs (i+1) j hm' hd J' L w1 Pb H S Q u tv s1 d/\dm w Pb H S Q s d w1 s1 d/\(∀ k,w.heap.size<=k->k<W.heap.size->w1.heap[k]?=W.heap[k]?)/\∀ k,eE Pb H S Q s1 d k->eE Pb H S Q s d k\/W.heap.size<=k:=by
 obtain⟨s1,g1,hg,hf⟩:=ho;have A2:=hW.size;have hP:=ak h.p;have A4:=h.pb;have A0:=h.below K hW;have A3:aN M.B0 W w1:=mj hf fun k hk hz=>⟨h.fb k hz,A0.sort (.inr (.inl hz))⟩;have A1:∀ k,eE Pb H S Q s1 d k->eE Pb H S Q s d k\/W.heap.size<=k:=fun k hk=>by
  rcases hk with hk|hk|hk
  .exact .inl (.inl hk)
  .rcases hg k hk with hh|hh
   .exact .inl (.inr (.inl hh))
   .exact .inr hh
  .exact .inl (.inr (.inr hk))
 refine⟨s1,⟨(hf.block _ (ak A0.p) h.pf).trans A0.p,g1,A0.gd.keep K (fun k hk=>hf.block k (A0.gd.lt hk) fun hz=>h.dj k hz hk) A3,fun k hk hz=>?_,fun hk=>?_,h.pd,fun k hk=>?_,h.pb⟩,⟨fun k hk=>(A1 k hk).imp id fun hh=>Qc A2 hh,?_⟩,fun k h1 h2=>hf.block k h2 fun hz=>by have:=h.gj.lt hz;omega,A1⟩
 .rcases hg k hk with hh|hh
  .exact h.dj k hh hz
  .have:=h.gd.lt hz;omega
 .rcases hg Pb hk with hh|hh
  .exact h.pf hh
  .omega
 .rcases hg k hk with hh|hh
  .exact h.fb k hh
  .omega
 .have f1:Fr (eE Pb H S Q s d) w W:=(Fr.of_below hW).mono fun k hk hs=>by omega
  exact f1.trans (hf.mono fun k _ hk=>.inr (.inl hk))
theorem QH.doc (K:cy M G CB)(h:QH M G CB cs i j hm hd J L w Pb H S Q u tv s d)(hW:Below w.heap.size w W)(ho:aX M G CB j hd' L' W S Q d w1):
  ∃ d1,QH M G CB cs i (j+1) hm hd' J L' w1 Pb H S Q u tv s d1/\dm w Pb H S Q s d w1 s d1/\(∀ k,k<W.heap.size->¬ d.own S Q k->w1.heap[k]?=W.heap[k]?)/\∀ k,eE Pb H S Q s d1 k->eE Pb H S Q s d k\/W.heap.size<=k:=by
 obtain⟨d1,g1,hg,hf⟩:=ho;have A2:=hW.size;have hP:=ak h.p;have A1:=h.below K hW;have A0:∀ k,eE Pb H S Q s d1 k->eE Pb H S Q s d k\/W.heap.size<=k:=fun k hk=>by
  rcases hk with hk|hk|hk
  .exact .inl (.inl hk)
  .exact .inl (.inr (.inl hk))
  .rcases hg k hk with hh|hh
   .exact .inl (.inr (.inr hh))
   .exact .inr hh
 refine⟨d1,⟨(hf.block _ (ak A1.p) h.pd).trans A1.p,A1.gj.keep fun k hk=>hf.block k (A1.gj.lt hk) fun hz=>h.dj k hk hz,g1,fun k hk hz=>?_,h.pf,fun hk=>?_,h.fb,h.pb⟩,⟨fun k hk=>(A0 k hk).imp id fun hh=>Qc A2 hh,?_⟩,fun k h1 h2=>hf.block k h1 h2,A0⟩
 .rcases hg k hz with hh|hh
  .exact h.dj k hk hh
  .have:=h.gj.lt hk;omega
 .rcases hg Pb hk with hh|hh
  .exact h.pd hh
  .omega
 .have f1:Fr (eE Pb H S Q s d) w W:=(Fr.of_below hW).mono fun k hk hs=>by omega
  exact f1.trans (hf.mono fun k _ hk=>.inr (.inr hk))
end
structure QP {RT:Type}(M:aV RT)(G:RT->Prop)(ρ:RT->Pr->Prop)(CB:World->Prop)(cs:List am)(i:Nat)(hm:az Pr)(hd:az RT)(J:List Nat)(w:World)(Pb H S Q:Nat)(u tv:Value)(s:HS)(d:DS):Prop where
 q:QH M G CB cs i i hm hd J J w Pb H S Q u tv s d
 same:ay ρ hd hm
structure cY {RT:Type}(M:aV RT)(G:RT->Prop)(ρ:RT->Pr->Prop)(CB:World->Prop)(cs:List am):Prop where
 k:cy M G CB
 hE:bq M.E (aE cs) ρ
def jF {RT:Type}(M:aV RT)(G:RT->Prop)(ρ:RT->Pr->Prop)(CB:World->Prop)(cs:List am)(i:Nat)(w:World)(Pb H S Q:Nat)(u tv:Value)(s:HS)(d:DS)(w':World):Prop:=
 ∃ hm hd J s1 d1,QP M G ρ CB cs (i+1) hm hd J w' Pb H S Q u tv s1 d1/\dm w Pb H S Q s d w' s1 d1
section
variable {RT:Type} {M:aV RT} {G:RT->Prop} {ρ:RT->Pr->Prop} {CB:World->Prop} {cs:List am} {i:Nat} {hm:az Pr} {hd:az RT} {J:List Nat} {w w':World} {Pb H S Q:Nat} {u tv:Value} {s:HS} {d:DS}
theorem QH.le {j:Nat}{L:List Nat}(h:QH M G CB cs i j hm hd J L w Pb H S Q u tv s d){i' j':Nat}(hi:i<=i')(hj:j<=j'):QH M G CB cs i' j' hm hd J L w Pb H S Q u tv s d:=
 ⟨h.p,⟨⟨h.gj.ga.fh,by have:=h.gj.ga.n;omega,h.gj.ga.snd,h.gj.ga.ok.mono (by omega),h.gj.ga.qs,by have:=h.gj.ga.last;omega⟩,h.gj.r,by have:=h.gj.len;omega⟩,h.gd.le hj,h.dj,h.pf,h.pd,h.fb,h.pb⟩
theorem QP.stay (K:cY M G ρ CB cs)(h:QP M G ρ CB cs i hm hd J w Pb H S Q u tv s d)(hb:Below w.heap.size w w'):jF M G ρ CB cs i w Pb H S Q u tv s d w':=
 ⟨hm,hd,J,s,d,⟨(h.q.below K.k hb).le (by omega) (by omega),h.same⟩,dm.below hb⟩
theorem QP.pp (h:QP M G ρ CB cs i hm hd J w Pb H S Q u tv s d):PP M CB w Pb H S Q u tv cs hm hd ⟨s.code,s.jr,s.rv,s.qv,s.n,aI J,d.pv,d.qv,d.rs⟩:=
 ⟨h.q.p,h.q.gj.ga.fh,h.q.gd.sim,h.q.gd.cb,h.q.dj,h.q.pf,h.q.pd,h.q.fb,h.q.pb⟩
end
theorem En (Pb H S O:Nat)(a b c:Int)(str:ByteArray)(T U:Int)(dI Nx:World->Prop)(w:World)(p0:w.cell? ⟨Pb,0,none⟩=some (.pointer (some ⟨H,0,none⟩)))(hPl:Pb<w.heap.size)
  (hP:∀ W,W=(w.alloc (.cells #[.int .i64 1,.int .i64 a,.int .i64 b,.int .i64 c,.string str] 47)).drew->Calls prog 34 #[.pointer (some ⟨H,0,none⟩),.int .i64 a] W fun e w1=>e=.returned (.tuple #[.int .i64 T,.int .i64 U])/\dI w1)
  (hD:∀ w1,dI w1->Calls prog 35 #[.pointer (some ⟨S,0,none⟩),.int .i64 a] w1.drew fun e w2=>e=.returned (.tuple #[.int .i64 T,.int .i64 U])/\Nx w2)
  (hQ:∀ w1,dI w1->w1.cell? ⟨Pb,1,none⟩=some (.pointer (some ⟨S,0,none⟩))/\w1.heap[w.heap.size]?=some (.cells #[.int .i64 1,.int .i64 a,.int .i64 b,.int .i64 c,.string str] 47)):
  Calls prog 13 #[.pointer (some ⟨Pb,0,none⟩),.agg #[.int .i64 1,.int .i64 a,.int .i64 b,.int .i64 c,.string str],.pointer (some ⟨O,0,none⟩)] w fun e w'=>e=.returned (.bool true)/\Nx w':=by
 have HP:=(show Hid _ from hP:Hid (∀ W,W=(w.alloc (.cells #[.int .i64 1,.int .i64 a,.int .i64 b,.int .i64 c,.string str] 47)).drew->Calls prog 34 #[.pointer (some ⟨H,0,none⟩),.int .i64 a] W fun e w1=>e=.returned (.tuple #[.int .i64 T,.int .i64 U])/\dI w1));have HD:=(show Hid _ from hD:Hid (∀ w1,dI w1->Calls prog 35 #[.pointer (some ⟨S,0,none⟩),.int .i64 a] w1.drew fun e w2=>e=.returned (.tuple #[.int .i64 T,.int .i64 U])/\Nx w2));have HQ:=(show Hid _ from hQ:Hid (∀ w1,dI w1->w1.cell? ⟨Pb,1,none⟩=some (.pointer (some ⟨S,0,none⟩))/\w1.heap[w.heap.size]?=some (.cells #[.int .i64 1,.int .i64 a,.int .i64 b,.int .i64 c,.string str] 47)));clear hP hD hQ;go_enter func13,ntmps13
 go_upto_region 3 with fail
 go_cut [7,8] (fun x y wx=>x=.int .i64 T/\y=.int .i64 U/\Hid (dI wx))
 case first=>
  go_region_with (go_at_call 34;refine(HP _ rfl).mono ?_;rintro e w1 ⟨rfl,ho⟩)
  all_goals
   go_wp2_with fail
   go_meet;case rel=>exact⟨rfl,rfl,ho⟩
 case rest=>
  obtain⟨rfl,rfl,HX⟩:=hcut;obtain⟨q1,A0⟩:=HQ _ HX;obtain⟨m0,m1,m2,m3,m4⟩:=jp A0;clear p0 hPl HP A0 HQ;go_upto_region 4 with fail
  go_cut [9,10] (fun x y wx=>x=.int .i64 T/\y=.int .i64 U/\Hid (Nx wx))
  case first=>
   go_region_with (go_at_call 35;refine(HD _ HX).mono ?_;rintro e w2 ⟨rfl,ho⟩)
   all_goals
    go_wp2_with fail
    go_meet;case rel=>exact⟨rfl,rfl,ho⟩
  case rest=>
   obtain⟨rfl,rfl,HY⟩:=hcut;clear q1 m0 m1 m2 m3 m4 HD HX;go_wp2_with fail
   go_ret;exact⟨rfl,HY⟩
theorem Em (Pb H S O:Nat)(a b c:Int)(str:ByteArray)(T:Int)(dI Nx:World->Prop)(w:World)(p0:w.cell? ⟨Pb,0,none⟩=some (.pointer (some ⟨H,0,none⟩)))(hPl:Pb<w.heap.size)
  (hP:∀ W,W=(w.alloc (.cells #[.int .i64 2,.int .i64 a,.int .i64 b,.int .i64 c,.string str] 47)).drew->Calls prog 36 #[.pointer (some ⟨H,0,none⟩),.int .i64 a] W fun e w1=>e=.returned (.int .i64 T)/\dI w1)
  (hD:∀ w1,dI w1->Calls prog 37 #[.pointer (some ⟨S,0,none⟩),.int .i64 a] w1.drew fun e w2=>e=.returned (.int .i64 T)/\Nx w2)
  (hQ:∀ w1,dI w1->w1.cell? ⟨Pb,1,none⟩=some (.pointer (some ⟨S,0,none⟩))/\w1.heap[w.heap.size]?=some (.cells #[.int .i64 2,.int .i64 a,.int .i64 b,.int .i64 c,.string str] 47)):
  Calls prog 13 #[.pointer (some ⟨Pb,0,none⟩),.agg #[.int .i64 2,.int .i64 a,.int .i64 b,.int .i64 c,.string str],.pointer (some ⟨O,0,none⟩)] w fun e w'=>e=.returned (.bool true)/\Nx w':=by
 have HP:=(show Hid _ from hP:Hid (∀ W,W=(w.alloc (.cells #[.int .i64 2,.int .i64 a,.int .i64 b,.int .i64 c,.string str] 47)).drew->Calls prog 36 #[.pointer (some ⟨H,0,none⟩),.int .i64 a] W fun e w1=>e=.returned (.int .i64 T)/\dI w1));have HD:=(show Hid _ from hD:Hid (∀ w1,dI w1->Calls prog 37 #[.pointer (some ⟨S,0,none⟩),.int .i64 a] w1.drew fun e w2=>e=.returned (.int .i64 T)/\Nx w2));have HQ:=(show Hid _ from hQ:Hid (∀ w1,dI w1->w1.cell? ⟨Pb,1,none⟩=some (.pointer (some ⟨S,0,none⟩))/\w1.heap[w.heap.size]?=some (.cells #[.int .i64 2,.int .i64 a,.int .i64 b,.int .i64 c,.string str] 47)));clear hP hD hQ;go_enter func13,ntmps13
 go_upto_region 7 with fail
 go_cut [11] (fun x wx=>x=.int .i64 T/\Hid (dI wx))
 case first=>
  go_region_with (go_at_call 36;refine(HP _ rfl).mono ?_;rintro e w1 ⟨rfl,ho⟩)
  all_goals
   go_wp2_with fail
   go_meet;case rel=>exact⟨rfl,ho⟩
 case rest=>
  obtain⟨rfl,HX⟩:=hcut;obtain⟨q1,A0⟩:=HQ _ HX;obtain⟨m0,m1,m2,m3,m4⟩:=jp A0;clear p0 hPl HP A0 HQ;go_upto_region 8 with fail
  go_cut [12] (fun x wx=>x=.int .i64 T/\Hid (Nx wx))
  case first=>
   go_region_with (go_at_call 37;refine(HD _ HX).mono ?_;rintro e w2 ⟨rfl,ho⟩)
   all_goals
    go_wp2_with fail
    go_meet;case rel=>exact⟨rfl,ho⟩
  case rest=>
   obtain⟨rfl,HY⟩:=hcut;clear q1 m0 m1 m2 m3 m4 HD HX;go_wp2_with fail
   go_ret;exact⟨rfl,HY⟩
theorem Fc (Pb H S O:Nat)(a b c:Int)(str:ByteArray)(T:Int)(dI Nx:World->Prop)(w:World)(p0:w.cell? ⟨Pb,0,none⟩=some (.pointer (some ⟨H,0,none⟩)))(hPl:Pb<w.heap.size)
  (hP:∀ W,W=(w.alloc (.cells #[.int .i64 3,.int .i64 a,.int .i64 b,.int .i64 c,.string str] 47)).drew->Calls prog 38 #[.pointer (some ⟨H,0,none⟩),.int .i64 a,.int .i64 b] W fun e w1=>e=.returned (.int .i64 T)/\dI w1)
  (hD:∀ w1,dI w1->Calls prog 39 #[.pointer (some ⟨S,0,none⟩),.int .i64 a,.int .i64 b] w1.drew fun e w2=>e=.returned (.int .i64 T)/\Nx w2)
  (hQ:∀ w1,dI w1->w1.cell? ⟨Pb,1,none⟩=some (.pointer (some ⟨S,0,none⟩))/\w1.heap[w.heap.size]?=some (.cells #[.int .i64 3,.int .i64 a,.int .i64 b,.int .i64 c,.string str] 47)):
  Calls prog 13 #[.pointer (some ⟨Pb,0,none⟩),.agg #[.int .i64 3,.int .i64 a,.int .i64 b,.int .i64 c,.string str],.pointer (some ⟨O,0,none⟩)] w fun e w'=>e=.returned (.bool true)/\Nx w':=by
 have HP:=(show Hid _ from hP:Hid (∀ W,W=(w.alloc (.cells #[.int .i64 3,.int .i64 a,.int .i64 b,.int .i64 c,.string str] 47)).drew->Calls prog 38 #[.pointer (some ⟨H,0,none⟩),.int .i64 a,.int .i64 b] W fun e w1=>e=.returned (.int .i64 T)/\dI w1));have HD:=(show Hid _ from hD:Hid (∀ w1,dI w1->Calls prog 39 #[.pointer (some ⟨S,0,none⟩),.int .i64 a,.int .i64 b] w1.drew fun e w2=>e=.returned (.int .i64 T)/\Nx w2));have HQ:=(show Hid _ from hQ:Hid (∀ w1,dI w1->w1.cell? ⟨Pb,1,none⟩=some (.pointer (some ⟨S,0,none⟩))/\w1.heap[w.heap.size]?=some (.cells #[.int .i64 3,.int .i64 a,.int .i64 b,.int .i64 c,.string str] 47)));clear hP hD hQ;go_enter func13,ntmps13
 go_upto_region 11 with fail
 go_cut [13] (fun x wx=>x=.int .i64 T/\Hid (dI wx))
 case first=>
  go_region_with (go_at_call 38;refine(HP _ rfl).mono ?_;rintro e w1 ⟨rfl,ho⟩)
  all_goals
   go_wp2_with fail
   go_meet;case rel=>exact⟨rfl,ho⟩
 case rest=>
  obtain⟨rfl,HX⟩:=hcut;obtain⟨q1,A0⟩:=HQ _ HX;obtain⟨m0,m1,m2,m3,m4⟩:=jp A0;clear p0 hPl HP A0 HQ;go_upto_region 12 with fail
  go_cut [14] (fun x wx=>x=.int .i64 T/\Hid (Nx wx))
  case first=>
   go_region_with (go_at_call 39;refine(HD _ HX).mono ?_;rintro e w2 ⟨rfl,ho⟩)
   all_goals
    go_wp2_with fail
    go_meet;case rel=>exact⟨rfl,ho⟩
  case rest=>
   obtain⟨rfl,HY⟩:=hcut;clear q1 m0 m1 m2 m3 m4 HD HX;go_wp2_with fail
   go_ret;exact⟨rfl,HY⟩
theorem At (Pb H S O:Nat)(a b c:Int)(str:ByteArray)(T:Int)(dI Nx:World->Prop)(w:World)(p0:w.cell? ⟨Pb,0,none⟩=some (.pointer (some ⟨H,0,none⟩)))(hPl:Pb<w.heap.size)
  (hP:∀ W,W=(w.alloc (.cells #[.int .i64 4,.int .i64 a,.int .i64 b,.int .i64 c,.string str] 47)).drew->Calls prog 40 #[.pointer (some ⟨H,0,none⟩),.int .i64 a] W fun e w1=>e=.returned (.int .i64 T)/\dI w1)
  (hD:∀ w1,dI w1->Calls prog 41 #[.pointer (some ⟨S,0,none⟩),.int .i64 a] w1.drew fun e w2=>e=.returned (.int .i64 T)/\Nx w2)
  (hQ:∀ w1,dI w1->w1.cell? ⟨Pb,1,none⟩=some (.pointer (some ⟨S,0,none⟩))/\w1.heap[w.heap.size]?=some (.cells #[.int .i64 4,.int .i64 a,.int .i64 b,.int .i64 c,.string str] 47)):
  Calls prog 13 #[.pointer (some ⟨Pb,0,none⟩),.agg #[.int .i64 4,.int .i64 a,.int .i64 b,.int .i64 c,.string str],.pointer (some ⟨O,0,none⟩)] w fun e w'=>e=.returned (.bool true)/\Nx w':=by
 have HP:=(show Hid _ from hP:Hid (∀ W,W=(w.alloc (.cells #[.int .i64 4,.int .i64 a,.int .i64 b,.int .i64 c,.string str] 47)).drew->Calls prog 40 #[.pointer (some ⟨H,0,none⟩),.int .i64 a] W fun e w1=>e=.returned (.int .i64 T)/\dI w1));have HD:=(show Hid _ from hD:Hid (∀ w1,dI w1->Calls prog 41 #[.pointer (some ⟨S,0,none⟩),.int .i64 a] w1.drew fun e w2=>e=.returned (.int .i64 T)/\Nx w2));have HQ:=(show Hid _ from hQ:Hid (∀ w1,dI w1->w1.cell? ⟨Pb,1,none⟩=some (.pointer (some ⟨S,0,none⟩))/\w1.heap[w.heap.size]?=some (.cells #[.int .i64 4,.int .i64 a,.int .i64 b,.int .i64 c,.string str] 47)));clear hP hD hQ;go_enter func13,ntmps13
 go_upto_region 15 with fail
 go_cut [15] (fun x wx=>x=.int .i64 T/\Hid (dI wx))
 case first=>
  go_region_with (go_at_call 40;refine(HP _ rfl).mono ?_;rintro e w1 ⟨rfl,ho⟩)
  all_goals
   go_wp2_with fail
   go_meet;case rel=>exact⟨rfl,ho⟩
 case rest=>
  obtain⟨rfl,HX⟩:=hcut;obtain⟨q1,A0⟩:=HQ _ HX;obtain⟨m0,m1,m2,m3,m4⟩:=jp A0;clear p0 hPl HP A0 HQ;go_upto_region 16 with fail
  go_cut [16] (fun x wx=>x=.int .i64 T/\Hid (Nx wx))
  case first=>
   go_region_with (go_at_call 41;refine(HD _ HX).mono ?_;rintro e w2 ⟨rfl,ho⟩)
   all_goals
    go_wp2_with fail
    go_meet;case rel=>exact⟨rfl,ho⟩
  case rest=>
   obtain⟨rfl,HY⟩:=hcut;clear q1 m0 m1 m2 m3 m4 HD HX;go_wp2_with fail
   go_ret;exact⟨rfl,HY⟩
theorem BH (Pb H S O:Nat)(a b c:Int)(str:ByteArray)(m:aj)(f:Int)(dI Nx:World->Prop)(w:World)(p0:w.cell? ⟨Pb,0,none⟩=some (.pointer (some ⟨H,0,none⟩)))(hPl:Pb<w.heap.size)
  (hp1:Calls prog 42 #[.pointer (some ⟨H,0,none⟩),.int .i64 a] (w.alloc (.cells #[.int .i64 5,.int .i64 a,.int .i64 b,.int .i64 c,.string str] 47)).drew fun e w1=>e=.returned (.tuple #[.agg #[.int .i64 m.dev,.int .i64 m.run,.int .i64 m.num,.int .i64 m.key],.int .i64 f])/\w.heap.size<w1.heap.size/\∀ o2,dI (w1.alloc o2))
  (hp2:Calls prog 42 #[.pointer (some ⟨H,0,none⟩),.int .i64 a] ((w.alloc (.cells #[.int .i64 5,.int .i64 a,.int .i64 b,.int .i64 c,.string str] 47)).alloc (.cells #[.int .i64 0,.int .i64 0,.int .i64 0,.int .i64 0] 87)).drew fun e w1=>e=.returned (.tuple #[.agg #[.int .i64 m.dev,.int .i64 m.run,.int .i64 m.num,.int .i64 m.key],.int .i64 f])/\w1.heap[w.heap.size+1]?=some (.cells #[.int .i64 0,.int .i64 0,.int .i64 0,.int .i64 0] 87)/\∀ u0 u1 u2 u3,dI ((((w1.setCell ⟨w.heap.size+1,0,none⟩ u0).setCell ⟨w.heap.size+1,1,none⟩ u1).setCell ⟨w.heap.size+1,2,none⟩ u2).setCell ⟨w.heap.size+1,3,none⟩ u3))
  (hd1:∀ w1 X ox,w.heap.size<=X->w1.heap[X]?=some ox->dI w1->Calls prog 43 #[.pointer (some ⟨S,0,none⟩),.int .i64 a] w1.drew fun e w2=>e=.returned (.tuple #[.agg #[.int .i64 m.dev,.int .i64 m.run,.int .i64 m.num,.int .i64 m.key],.int .i64 f])/\w2.heap[X]?=some ox/\∀ o2,Nx (w2.alloc o2))
  (hd2:∀ w1 X ox,w.heap.size<=X->w1.heap[X]?=some ox->dI w1->Calls prog 43 #[.pointer (some ⟨S,0,none⟩),.int .i64 a] (w1.alloc (.cells #[.int .i64 0,.int .i64 0,.int .i64 0,.int .i64 0] 87)).drew fun e w2=>e=.returned (.tuple #[.agg #[.int .i64 m.dev,.int .i64 m.run,.int .i64 m.num,.int .i64 m.key],.int .i64 f])/\w2.heap[w1.heap.size]?=some (.cells #[.int .i64 0,.int .i64 0,.int .i64 0,.int .i64 0] 87)/\∀ u0 u1 u2 u3,((((w2.setCell ⟨w1.heap.size,0,none⟩ u0).setCell ⟨w1.heap.size,1,none⟩ u1).setCell ⟨w1.heap.size,2,none⟩ u2).setCell ⟨w1.heap.size,3,none⟩ u3).heap[X]?=some ox/\Nx ((((w2.setCell ⟨w1.heap.size,0,none⟩ u0).setCell ⟨w1.heap.size,1,none⟩ u1).setCell ⟨w1.heap.size,2,none⟩ u2).setCell ⟨w1.heap.size,3,none⟩ u3))
  (hq:∀ w1,dI w1->w1.cell? ⟨Pb,1,none⟩=some (.pointer (some ⟨S,0,none⟩))/\w1.heap[w.heap.size]?=some (.cells #[.int .i64 5,.int .i64 a,.int .i64 b,.int .i64 c,.string str] 47)/\Pb<w1.heap.size):
  Calls prog 13 #[.pointer (some ⟨Pb,0,none⟩),.agg #[.int .i64 5,.int .i64 a,.int .i64 b,.int .i64 c,.string str],.pointer (some ⟨O,0,none⟩)] w fun e w'=>e=.returned (.bool true)/\Nx w':=by
 have A9:=(show Hid _ from hp1:Hid (Calls prog 42 #[.pointer (some ⟨H,0,none⟩),.int .i64 a] (w.alloc (.cells #[.int .i64 5,.int .i64 a,.int .i64 b,.int .i64 c,.string str] 47)).drew fun e w1=>e=.returned (.tuple #[.agg #[.int .i64 m.dev,.int .i64 m.run,.int .i64 m.num,.int .i64 m.key],.int .i64 f])/\w.heap.size<w1.heap.size/\∀ o2,dI (w1.alloc o2)));have B0:=(show Hid _ from hp2:Hid (Calls prog 42 #[.pointer (some ⟨H,0,none⟩),.int .i64 a] ((w.alloc (.cells #[.int .i64 5,.int .i64 a,.int .i64 b,.int .i64 c,.string str] 47)).alloc (.cells #[.int .i64 0,.int .i64 0,.int .i64 0,.int .i64 0] 87)).drew fun e w1=>e=.returned (.tuple #[.agg #[.int .i64 m.dev,.int .i64 m.run,.int .i64 m.num,.int .i64 m.key],.int .i64 f])/\w1.heap[w.heap.size+1]?=some (.cells #[.int .i64 0,.int .i64 0,.int .i64 0,.int .i64 0] 87)/\∀ u0 u1 u2 u3,dI ((((w1.setCell ⟨w.heap.size+1,0,none⟩ u0).setCell ⟨w.heap.size+1,1,none⟩ u1).setCell ⟨w.heap.size+1,2,none⟩ u2).setCell ⟨w.heap.size+1,3,none⟩ u3)));have A5:=(show Hid _ from hd1:Hid (∀ w1 X ox,w.heap.size<=X->w1.heap[X]?=some ox->dI w1->Calls prog 43 #[.pointer (some ⟨S,0,none⟩),.int .i64 a] w1.drew fun e w2=>e=.returned (.tuple #[.agg #[.int .i64 m.dev,.int .i64 m.run,.int .i64 m.num,.int .i64 m.key],.int .i64 f])/\w2.heap[X]?=some ox/\∀ o2,Nx (w2.alloc o2)));have A6:=(show Hid _ from hd2:Hid (∀ w1 X ox,w.heap.size<=X->w1.heap[X]?=some ox->dI w1->Calls prog 43 #[.pointer (some ⟨S,0,none⟩),.int .i64 a] (w1.alloc (.cells #[.int .i64 0,.int .i64 0,.int .i64 0,.int .i64 0] 87)).drew fun e w2=>e=.returned (.tuple #[.agg #[.int .i64 m.dev,.int .i64 m.run,.int .i64 m.num,.int .i64 m.key],.int .i64 f])/\w2.heap[w1.heap.size]?=some (.cells #[.int .i64 0,.int .i64 0,.int .i64 0,.int .i64 0] 87)/\∀ u0 u1 u2 u3,((((w2.setCell ⟨w1.heap.size,0,none⟩ u0).setCell ⟨w1.heap.size,1,none⟩ u1).setCell ⟨w1.heap.size,2,none⟩ u2).setCell ⟨w1.heap.size,3,none⟩ u3).heap[X]?=some ox/\Nx ((((w2.setCell ⟨w1.heap.size,0,none⟩ u0).setCell ⟨w1.heap.size,1,none⟩ u1).setCell ⟨w1.heap.size,2,none⟩ u2).setCell ⟨w1.heap.size,3,none⟩ u3)))
 have HQ:=(show Hid _ from hq:Hid (∀ w1,dI w1->w1.cell? ⟨Pb,1,none⟩=some (.pointer (some ⟨S,0,none⟩))/\w1.heap[w.heap.size]?=some (.cells #[.int .i64 5,.int .i64 a,.int .i64 b,.int .i64 c,.string str] 47)/\Pb<w1.heap.size));clear hp1 hp2 hd1 hd2 hq;go_enter func13,ntmps13
 go_upto_region 19 with fail
 go_cut [17,18] (fun x y wx=>∃ X,x=.pointer (some ⟨X,0,none⟩)/\y=.int .i64 f/\Hid (w.heap.size<=X/\wx.heap[X]?=some (.cells #[.int .i64 m.dev,.int .i64 m.run,.int .i64 m.num,.int .i64 m.key] 87)/\dI wx))
 case first=>
  go_region_with (go_at_call 42;first|(with_reducible refine A9.out.mono ?_;rintro e w1 ⟨rfl,A1,A3⟩)|(with_reducible refine B0.out.mono ?_;rintro e w1 ⟨rfl,A0,A2⟩;obtain⟨n0,n1,n2,n3,y0,y1,y2,y3⟩:=nM A0))
  all_goals
   go_wp2_with fail
   go_meet;case rel=>
    first
     | exact⟨w.heap.size+1,rfl,rfl,Nat.le_succ _,vy A0 _ _ _ _,A2 _ _ _ _⟩
     | exact⟨w1.heap.size,rfl,rfl,Nat.le_of_lt A1,v8 _ _,A3 _⟩
 case rest=>
  obtain⟨X,rfl,rfl,HX⟩:=hcut;obtain⟨q1,A4,B2⟩:=HQ _ HX.2.2;obtain⟨m0,m1,m2,m3,m4⟩:=jp A4;have B1:w.heap.size<wc.heap.size:=ak A4;have A7:=A5 wc X _ HX.1 HX.2.1 HX.2.2;have A8:=A6 wc X _ HX.1 HX.2.1 HX.2.2;have HA:=ah A7;have HB:=ah A8;clear p0 hPl A9 B0 A4 HQ A5 A6 A7 A8;go_upto_region 20 with fail
  go_cut [19,20] (fun x y wx=>∃ Y,x=.pointer (some ⟨Y,0,none⟩)/\y=.int .i64 f/\Hid (wx.heap[Y]?=some (.cells #[.int .i64 m.dev,.int .i64 m.run,.int .i64 m.num,.int .i64 m.key] 87)/\wx.heap[X]?=some (.cells #[.int .i64 m.dev,.int .i64 m.run,.int .i64 m.num,.int .i64 m.key] 87)/\Nx wx))
  case first=>
   go_region_with (go_at_call 43;first|(with_reducible refine HA.out.mono ?_;rintro e w2 ⟨rfl,A1,A3⟩)|(with_reducible refine HB.out.mono ?_;rintro e w2 ⟨rfl,A0,A2⟩;obtain⟨n0,n1,n2,n3,y0,y1,y2,y3⟩:=nM A0))
   all_goals
    go_wp2_with fail
    go_meet;case rel=>
     first
      | exact⟨wc.heap.size,rfl,rfl,vy A0 _ _ _ _,(A2 _ _ _ _).1,(A2 _ _ _ _).2⟩
      | exact⟨w2.heap.size,rfl,rfl,v8 _ _,(q9 _ _ _ (ak A1)).trans A1,A3 _⟩
  case rest=>
   obtain⟨Y,rfl,rfl,HY⟩:=hcut;obtain⟨r0,r1,r2,r3⟩:=fP HY.1;obtain⟨t0,t1,t2,t3⟩:=fP HY.2.1;clear q1 m0 m1 m2 m3 m4 HA HB HX;go_wp2_with fail
   go_ret;exact⟨rfl,HY.2.2⟩
theorem Ek (Pb O:Nat)(k a b c:Int)(str:ByteArray)(Nx:World->Prop)(w:World)(hk:k<=0\/8<=k)(hN:∀ ob,Nx (w.alloc ob)):
  Calls prog 13 #[.pointer (some ⟨Pb,0,none⟩),.agg #[.int .i64 k,.int .i64 a,.int .i64 b,.int .i64 c,.string str],.pointer (some ⟨O,0,none⟩)] w fun e w'=>e=.returned (.bool true)/\Nx w':=by
 have HS:=ah hN;have k1:(k==1)=false:=by simp;omega
 have k2:(k==2)=false:=by simp;omega
 have k3:(k==3)=false:=by simp;omega
 have k4:(k==4)=false:=by simp;omega
 have k5:(k==5)=false:=by simp;omega
 have k6:(k==6)=false:=by simp;omega
 have k7:(k==7)=false:=by simp;omega
 clear hN hk;go_enter func13,ntmps13
 go_wp2_with fail
 go_ret;exact⟨rfl,HS.out _⟩
theorem El (Pb O:Nat)(a b c:Int)(str:ByteArray)(Nx:World->Prop)(w:World)(hL:∀ ob,Calls prog 15 #[.pointer (some ⟨Pb,0,none⟩),.pointer (some ⟨O,0,none⟩)] (w.alloc ob) fun e w'=>e=.returned (.bool true)/\Nx w'):
  Calls prog 13 #[.pointer (some ⟨Pb,0,none⟩),.agg #[.int .i64 6,.int .i64 a,.int .i64 b,.int .i64 c,.string str],.pointer (some ⟨O,0,none⟩)] w fun e w'=>e=.returned (.bool true)/\Nx w':=by
 have HL:=(show Hid _ from hL:Hid (∀ ob,Calls prog 15 #[.pointer (some ⟨Pb,0,none⟩),.pointer (some ⟨O,0,none⟩)] (w.alloc ob) fun e w'=>e=.returned (.bool true)/\Nx w'));clear hL;go_enter func13,ntmps13
 go_wp2_with fail
 refine(HL _).mono ?_;rintro e w1 ⟨rfl,ho⟩;have HO:=ah ho;clear ho HL;go_wp2_with fail
 go_ret;exact⟨rfl,HO⟩
theorem zL (Pb H S O:Nat)(a b c:Int)(str J:ByteArray)(Nx:World->Prop)(w:World)(p0:w.cell? ⟨Pb,0,none⟩=some (.pointer (some ⟨H,0,none⟩)))(hPl:Pb<w.heap.size)
  (hJ:∀ ob,Calls prog 16 #[.pointer (some ⟨H,0,none⟩)] (w.alloc ob) fun e w'=>e=.returned (.string J)/\w'.cell? ⟨Pb,1,none⟩=some (.pointer (some ⟨S,0,none⟩))/\w'.cell? ⟨S,7,none⟩=some (.string J)/\Nx w'):
  Calls prog 13 #[.pointer (some ⟨Pb,0,none⟩),.agg #[.int .i64 7,.int .i64 a,.int .i64 b,.int .i64 c,.string str],.pointer (some ⟨O,0,none⟩)] w fun e w'=>e=.returned (.bool true)/\Nx w':=by
 have HJ:=(show Hid _ from hJ:Hid (∀ ob,Calls prog 16 #[.pointer (some ⟨H,0,none⟩)] (w.alloc ob) fun e w'=>e=.returned (.string J)/\w'.cell? ⟨Pb,1,none⟩=some (.pointer (some ⟨S,0,none⟩))/\w'.cell? ⟨S,7,none⟩=some (.string J)/\Nx w'));clear hJ;go_enter func13,ntmps13
 go_wp2_with fail
 refine(HJ _).mono ?_;rintro e w1 ⟨rfl,c1,c7,ho⟩;have HO:=ah ho;clear ho HJ p0;go_wp2_with fail
 go_ret;exact⟨rfl,HO⟩
section
variable {RT:Type} {M:aV RT} {G:RT->Prop} {CB:World->Prop} {i:Nat} {h:az RT} {J:List Nat} {S Q:Nat} {s:DS}
theorem aX.back {h':az RT}{J':List Nat}{w W w':World}(hW:Below w.heap.size w W)(ho:aX M G CB i h' J' W S Q s w'):aX M G CB i h' J' w S Q s w':=by
 obtain⟨s',g,hg,hf⟩:=ho;have hz:=hW.size;exact⟨s',g,fun k hk=>(hg k hk).imp id fun hh=>by omega,((Fr.of_below hW).mono fun k hk hs=>by omega).trans hf⟩
theorem zZ (K:cy M G CB)(L:List Nat)(hL:∀ x∈L,x<256)(hl:L.length=19)(c:Nat)(a b:Int)(hr:gU L=some (c,a,b))(w:World)(g:GD M G CB i h J w S Q s)(hi:i<=2000000):
  Calls prog 91 #[.pointer (some ⟨S,0,none⟩),.string (aI L)] w fun e w'=>e=.returned (.bool ((fx M.E h c a b).1==0))/\aX M G CB i (fx M.E h c a b).2 (cI (fx M.E h c a b).1 J c a b) w S Q s w':=by
 obtain⟨hz,n0,HK,HA,HB⟩:=Bm hL hl hr;have h0:0<(aI L).size:=by omega
 have n1:=n0 h0;have hc:=(rU hr).2;obtain⟨P,hP⟩:∃ P,P=fx M.E h c a b:=⟨_,rfl⟩;have HG:Hid (∀ W,Below w.heap.size w W->GD M G CB i h J W S Q s/\∀ {h' J' w'},aX M G CB i h' J' W S Q s w'->aX M G CB i h' J' w S Q s w'):=fun W hW=>⟨g.below K hW,fun ho=>aX.back hW ho⟩;have HC:(c=84/\b=0/\Hid (∀ W,Below w.heap.size w W->Calls prog 35 #[.pointer (some ⟨S,0,none⟩),.int .i64 a] W fun e w'=>(∃ x,e=.returned (.tuple #[.int .i64 x,.int .i64 P.1]))/\aX M G CB i P.2 (cI P.1 J c a b) w S Q s w')) \/
   (c=75/\b=0/\Hid (∀ W,Below w.heap.size w W->Calls prog 37 #[.pointer (some ⟨S,0,none⟩),.int .i64 a] W fun e w'=>e=.returned (.int .i64 P.1)/\aX M G CB i P.2 (cI P.1 J c a b) w S Q s w')) \/
   (c=65/\Hid (∀ W,Below w.heap.size w W->Calls prog 39 #[.pointer (some ⟨S,0,none⟩),.int .i64 a,.int .i64 b] W fun e w'=>e=.returned (.int .i64 P.1)/\aX M G CB i P.2 (cI P.1 J c a b) w S Q s w')) \/
   (c=67/\b=0/\Hid (∀ W,Below w.heap.size w W->Calls prog 41 #[.pointer (some ⟨S,0,none⟩),.int .i64 a] W fun e w'=>e=.returned (.int .i64 P.1)/\aX M G CB i P.2 (cI P.1 J c a b) w S Q s w')) \/
   (c=68/\b=0/\Hid (∀ W,Below w.heap.size w W->Calls prog 43 #[.pointer (some ⟨S,0,none⟩),.int .i64 a] W fun e w'=>(∃ x,e=.returned (.tuple #[x,.int .i64 P.1]))/\aX M G CB i P.2 (cI P.1 J c a b) w S Q s w')):=by
  unfold eV at hc;rw[hP];by_cases h1:c=84
  .subst h1;obtain rfl:b=0:=by simpa using hc
   exact .inl ⟨rfl,rfl,fun W hW=>(vh K a W (HG W hW).1 hi).mono fun e w' hh=>⟨⟨_,hh.1⟩,(HG W hW).2 hh.2⟩⟩
  by_cases h2:c=75
  .subst h2;obtain rfl:b=0:=by simpa using hc
   exact .inr (.inl ⟨rfl,rfl,fun W hW=>(xJ K a W (HG W hW).1 hi).mono fun e w' hh=>⟨hh.1,(HG W hW).2 hh.2⟩⟩)
  by_cases h3:c=65
  .subst h3;exact .inr (.inr (.inl ⟨rfl,fun W hW=>(yl K a b W (HG W hW).1 hi).mono fun e w' hh=>⟨hh.1,(HG W hW).2 hh.2⟩⟩))
  by_cases h4:c=67
  .subst h4;obtain rfl:b=0:=by simpa using hc
   exact .inr (.inr (.inr (.inl ⟨rfl,rfl,fun W hW=>(vL K a W (HG W hW).1 hi).mono fun e w' hh=>⟨hh.1,(HG W hW).2 hh.2⟩⟩)))
  by_cases h5:c=68
  .subst h5;obtain rfl:b=0:=by simpa using hc
   exact .inr (.inr (.inr (.inr ⟨rfl,rfl,fun W hW=>(sF K a W (HG W hW).1 hi).mono fun e w' hh=>⟨⟨_,hh.1⟩,(HG W hW).2 hh.2⟩⟩)))
  .rw[if_neg (by omega)]at hc;simp at hc;omega
 rw[<- hP];clear g hL hl hr n0 hP HG hc;generalize aI L=Z at *;rcases HC with ⟨rfl,rfl,HC⟩|⟨rfl,rfl,HC⟩|⟨rfl,HC⟩|⟨rfl,rfl,HC⟩|⟨rfl,rfl,HC⟩;all_goals
  go_enter func91,ntmps91
  go_wp2_with fail
  refine(HK _).mono ?_;rintro e w1 ⟨rfl,b1⟩;have A0:Hid (Below w.heap.size w w1):=b1;clear b1;go_wp2_with fail
  refine(HA _).mono ?_;rintro e w2 ⟨rfl,hw⟩;rw[hw];clear hw;go_wp2_with fail
  refine(HB _).mono ?_;rintro e w2 ⟨rfl,hw⟩;rw[hw];clear hw;go_wp2_with fail
  refine(HC _ A0).mono ?_;first
   | rintro e w3 ⟨rfl,ho⟩
   | rintro e w3 ⟨⟨x,rfl⟩,ho⟩
  have HO:=(show Hid _ from ho:Hid (aX _ _ _ _ _ _ _ _ _ _ _));clear ho HC;go_wp2_with fail
  go_ret;exact⟨rfl,HO⟩
end
end Go.Proofs.YtmmmnghiegajmaaGreat
