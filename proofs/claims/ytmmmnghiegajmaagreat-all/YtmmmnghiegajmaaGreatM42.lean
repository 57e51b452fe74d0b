import Derived.Test.YtmmmnghiegajmaaGreatM38
open Go.RowKit Go.Proofs.Herald
namespace Go.Proofs.Herald
open Go Go.RowKit
def jV (r:Nat)(t:Bool):Nat:=iZ (r ^^^ (if t then 32768 else 0))
theorem xO (a b:Nat):2*(a ^^^ b)=(2*a) ^^^ (2*b):=by
 refine Nat.eq_of_testBit_eq fun i=>?_;have e:∀ x:Nat,2*x=x <<< 1:=fun x=>by rw[Nat.shiftLeft_eq];omega
 rw[e,e,e,Nat.testBit_xor,Nat.testBit_shiftLeft,Nat.testBit_shiftLeft,Nat.testBit_shiftLeft,Nat.testBit_xor];cases decide (i ≥ 1) <;> simp
theorem xN {x y:Nat}(hx:x<65536)(hy:y<32768):65535<2*(x ^^^ y) ↔ 65535<2*x:=by
 have hz:x ^^^ y<65536:=Nat.xor_lt_two_pow (n:=16) hx (by omega);have key:∀ z:Nat,z<65536->(65535<2*z ↔ z.testBit 15=true):=fun z hz=>by
  rw[Nat.testBit_eq_decide_div_mod_eq];have:z / 2 ^ 15 % 2=1 ↔ 65535<2*z:=by omega
  simpa using this.symm
 rw[key _ hz,key _ hx,Nat.testBit_xor,Nat.testBit_lt_two_pow (show y<2 ^ 15 from hy),Bool.xor_false]
theorem Bk {x y:Nat}(hx:x<65536)(hy:y<32768):iZ (x ^^^ y)=iZ x ^^^ (2*y):=by
 unfold iZ;by_cases h:65535<2*x
 .rw[if_pos h,if_pos ((xN hx hy).mpr h),xO,Nat.xor_assoc,Nat.xor_assoc,Nat.xor_comm (2*y)]
 .rw[if_neg h,if_neg (fun hh=>h ((xN hx hy).mp hh)),xO]
theorem Et (b:Nat)(hb:b<256):256*b=(if 128<=b then 32768 else 0) ^^^ (256*(b % 128)):=by
 have:∀ b:Fin 256,256*b.1=(if 128<=b.1 then 32768 else 0) ^^^ (256*(b.1 % 128)):=by decide +kernel
 exact this ⟨b,hb⟩
theorem zX {r b:Nat}(hr:r<65536)(hb:b<256):iZ (r ^^^ (256*b))=jV r (decide (128<=b)) ^^^ (256*(2*b % 256)):=by
 unfold jV;rw[Et b hb,<- Nat.xor_assoc,Bk (Nat.xor_lt_two_pow (n:=16) hr (by split <;> omega)) (by omega)];have e:2*(256*(b % 128))=256*(2*b % 256):=by omega
 rw[e];by_cases h:128<=b
 .simp[h]
 .simp[h]
theorem uo:∀ (k r:Nat),gP (k+1) r=gP k (iZ r)
 | 0,_=>rfl
 | k+1,r=>by
  show iZ (gP (k+1) r)=iZ (gP k (iZ r));rw[uo k r]
theorem wY {r:Nat}(h:r<65536)(t:Bool):jV r t<65536:=vE (Nat.xor_lt_two_pow (n:=16) h (by split <;> omega))
def iw (b:Nat):Nat->List Bool
 | 0=>[]
 | k+1=>decide (128<=b % 256)::iw (2*b) k
theorem rF:∀ (k b:Nat),iw (b % 256) k=iw b k
 | 0,_=>rfl
 | k+1,b=>by
  show _::_=_::_;rw[Nat.mod_mod,<- rF k (2*(b % 256)),<- rF k (2*b)];congr 2;omega
theorem un:∀ (k r b:Nat),r<65536->b<256->gP k (r ^^^ (256*b))=(iw b k).foldl jV r ^^^ (256*(2 ^ k*b % 256))
 | 0,r,b,_,hb=>by
  show r ^^^ (256*b)=r ^^^ _;rw[Nat.pow_zero,Nat.one_mul,Nat.mod_eq_of_lt hb]
 | k+1,r,b,hr,hb=>by
  rw[uo,zX hr hb,un k _ _ (wY hr _) (by omega),rF];show _=(iw (2*b) k).foldl jV (jV r (decide (128<=b % 256))) ^^^ _;rw[Nat.mod_eq_of_lt hb];congr 1;congr 1;rw[Nat.pow_succ,Nat.mul_assoc];have h:=Nat.mul_mod (2 ^ k) (2*b % 256) 256;rw[Nat.mod_mod]at h;rw[h,<- Nat.mul_mod]
theorem zY {r b:Nat}(hr:r<65536)(hb:b<256):iI r b=(iw b 8).foldl jV r:=by
 rw[rL,un 8 r b hr hb];have e:2 ^ 8*b % 256=0:=by omega
 rw[e,Nat.mul_zero,Nat.xor_zero]
def jb (L:List Nat):List Bool:=L.flatMap fun b=>iw b 8
theorem Ba (b:Nat)(L:List Nat):jb (b::L)=iw b 8++jb L:=by unfold jb;rw[List.flatMap_cons]
theorem pD:∀ (l:List Bool){r:Nat},r<65536->l.foldl jV r<65536
 | [],_,h=>h
 | t::l,_,h=>pD l (wY h t)
theorem rY:∀ (L:List Nat){r:Nat},r<65536->(∀ b∈L,b<256)->L.foldl iI r=(jb L).foldl jV r
 | [],_,_,_=>rfl
 | b::L,r,hr,hb=>by
  have h1:=hb b (List.mem_cons_self ..);rw[List.foldl_cons,Ba,List.foldl_append,zY hr h1];exact rY L (pD _ hr) fun c hc=>hb c (Qf _ hc)
theorem Bj {x:Nat}(hx:x<65536){k:Nat}:(iZ x).testBit k=((decide (1<=k) && x.testBit (k - 1)) != (x.testBit 15 && (69665:Nat).testBit k)):=by
 have e2:∀ z:Nat,(2*z).testBit k=(decide (1<=k) && z.testBit (k - 1)):=fun z=>by
  rw[show 2*z=z <<< 1 from by rw[Nat.shiftLeft_eq];omega,Nat.testBit_shiftLeft]
 have key:65535<2*x ↔ x.testBit 15=true:=by
  rw[Nat.testBit_eq_decide_div_mod_eq];have:x / 2 ^ 15 % 2=1 ↔ 65535<2*x:=by omega
  simpa using this.symm
 unfold iZ;by_cases h:65535<2*x
 .rw[if_pos h,Nat.testBit_xor,e2,key.mp h,Bool.true_and]
 .have h2:x.testBit 15=false:=by
   cases hh:x.testBit 15 with
   | false=>rfl
   | true=>exact absurd (key.mpr hh) h
  rw[if_neg h,e2,h2,Bool.false_and,Bool.bne_false]
theorem Dc {r:Nat}(hr:r<65536)(t:Bool){k:Nat}(hk:k<16):(jV r t).testBit k=((decide (1<=k) && r.testBit (k - 1)) != ((r.testBit 15 != t) && (69665:Nat).testBit k)):=by
 unfold jV;have A0:∀ j:Nat,(if t then 32768 else 0:Nat).testBit j=(t && decide (j=15)):=fun j=>by
  cases t with
  | false=>simp
  | true=>
   show(32768:Nat).testBit j=(true && decide (j=15));rw[show(32768:Nat)=2 ^ 15 from rfl,Nat.testBit_two_pow,Bool.true_and];exact decide_eq_decide.mpr ⟨fun h=>h.symm,fun h=>h.symm⟩
 rw[Bj (Nat.xor_lt_two_pow (n:=16) hr (by split <;> omega)),Nat.testBit_xor,Nat.testBit_xor,A0,A0];have e:decide (k - 1=15)=false:=decide_eq_false (by omega);rw[e,Bool.and_false,Bool.xor_false];simp
theorem pM (l:List Bool)(q p:Nat)(hp:p<l.length):(lg l q).getD p false=(l.getD p false != decide (p=q)):=by
 unfold lg;by_cases h:p=q
 .subst h;simp[List.getD,hp]
 .have h2:q≠p:=fun e=>h e.symm;simp[List.getD,List.getElem?_set_ne h2,h]
theorem Fo (l:List Bool)(i:Nat):gu l i 16=lg (lg (lg l (i+16)) (i+11)) (i+4):=by
 have d:∀ k,k<16->nR k=(k==0 || k==5 || k==12):=fun k hk=>by
  have:∀ k:Fin 16,nR k.1=(k.1==0 || k.1==5 || k.1==12):=by decide +kernel
  exact this ⟨k,hk⟩
 simp only[gu,d 0 (by omega),d 1 (by omega),d 2 (by omega),d 3 (by omega),d 4 (by omega),d 5 (by omega),d 6 (by omega),d 7 (by omega),d 8 (by omega),d 9 (by omega),d 10 (by omega),d 11 (by omega),d 12 (by omega),d 13 (by omega),d 14 (by omega),d 15 (by omega)];rfl
theorem EL (k:Nat)(hk:k<16):(69665:Nat).testBit k=(k==0 || k==5 || k==12):=by
 have:∀ k:Fin 16,(69665:Nat).testBit k.1=(k.1==0 || k.1==5 || k.1==12):=by decide +kernel
 exact this ⟨k,hk⟩
structure gL (B:List Bool)(n i r:Nat)(l:List Bool):Prop where
 len:l.length=n+16
 win:∀ j,j<16->l.getD (i+j) false=(r.testBit (15 - j) != B.getD (i+j) false)
 far:∀ p,i+16<=p->p<n+16->l.getD p false=B.getD p false
theorem gL.step {B:List Bool}{n i r:Nat}{l:List Bool}(h:gL B n i r l)(hi:i<n)(hr:r<65536):gL B n (i+1) (jV r (B.getD i false)) (if l.getD i false then gu (l.set i false) i 16 else l):=by
 have h0:l.getD i false=(r.testBit 15 != B.getD i false):=by
  have:=h.win 0 (by omega);simpa using this
 have A0:∀ p,i<p->p<n+16->(if l.getD i false then gu (l.set i false) i 16 else l).getD p false=(l.getD p false != (l.getD i false && (decide (p=i+16) || decide (p=i+11) || decide (p=i+4)))):=fun p h1 h2=>by
  cases hl:l.getD i false with
  | false=>simp
  | true=>
   rw[if_pos rfl,Fo];have hs:∀ p,i<p->(l.set i false).getD p false=l.getD p false:=fun p hp=>by
    have A1:i≠p:=by omega
    simp[List.getD,List.getElem?_set_ne A1]
   rw[pM _ _ _ (by rw[oj,oj,List.length_set,h.len];omega),pM _ _ _ (by rw[oj,List.length_set,h.len];omega),pM _ _ _ (by rw[List.length_set,h.len];omega),hs p h1];by_cases e1:p=i+16
   .have e2:¬ p=i+11:=by omega
    have e3:¬ p=i+4:=by omega
    simp[e1]
   .by_cases e2:p=i+11
    .simp[e2]
    .by_cases e3:p=i+4
     .simp[e3]
     .simp[e1,e2,e3]
 refine⟨?_,fun j hj=>?_,fun p h1 h2=>?_⟩
 .split
  .rw[oN,List.length_set,h.len]
  .exact h.len
 .rw[A0 (i+1+j) (by omega) (by omega),Dc hr _ (by omega),EL _ (by omega),h0];by_cases hj15:j=15
  .subst hj15;rw[h.far (i+1+15) (by omega) (by omega)];have e1:decide (i+1+15=i+16)=true:=decide_eq_true (by omega);rw[e1];generalize B.getD (i+1+15) false=x;generalize (r.testBit 15 != B.getD i false)=y;cases x <;> cases y <;> rfl
  .have hw:=h.win (j+1) (by omega);rw[show i+(j+1)=i+1+j by omega,show 15 - (j+1)=15 - j - 1 by omega]at hw;rw[hw];have e0:decide (1<=15 - j)=true:=decide_eq_true (by omega);have e1:decide (i+1+j=i+16)=false:=decide_eq_false (by omega);have e2:decide (i+1+j=i+11)=(15 - j==5):=by
    by_cases hh:j=10
    .subst hh;simp
    .have a1:¬ i+1+j=i+11:=by omega
     have a2:¬ 15 - j=5:=by omega
     simp[a1,a2]
   have e3:decide (i+1+j=i+4)=(15 - j==12):=by
    by_cases hh:j=3
    .subst hh;simp
    .have a1:¬ i+1+j=i+4:=by omega
     have a2:¬ 15 - j=12:=by omega
     simp[a1,a2]
   have e4:(15 - j==0)=false:=by
    have a2:¬ 15 - j=0:=by omega
    simp[a2]
   rw[e0,e1,e2,e3,e4,Bool.true_and,Bool.false_or];generalize r.testBit (15 - j - 1)=x;generalize B.getD (i+1+j) false=y;generalize (r.testBit 15 != B.getD i false)=z;generalize (15 - j==5)=u;generalize (15 - j==12)=v;cases x <;> cases y <;> cases z <;> cases u <;> cases v <;> rfl
 .rw[A0 p (by omega) h2,h.far p (by omega) h2];have e1:decide (p=i+16)=false:=decide_eq_false (by omega);have e2:decide (p=i+11)=false:=decide_eq_false (by omega);have e3:decide (p=i+4)=false:=decide_eq_false (by omega);rw[e1,e2,e3];simp
theorem xI {B:List Bool}{n:Nat}{l:List Bool}(hB:B.length=n)(h:gL B n 0 65535 l):∀ i,i<=n->gL B n i ((B.take i).foldl jV 65535) (iC l i)
 | 0,_=>by rw[List.take_zero];exact h
 | i+1,hi=>by
  have ih:=xI hB h i (by omega);have hlt:i<B.length:=by omega
  rw[Qd hlt,List.foldl_append,List.foldl_cons,List.foldl_nil];have e:B[i]=B.getD i false:=by simp[List.getD,hlt]
  rw[e];exact ih.step (by omega) (pD _ (by decide))
theorem vK (l:List Bool):∀ (k p:Nat),p<l.length->(gI l k).getD p false=(l.getD p false != decide (p<k))
 | 0,p,_=>by simp[gI]
 | k+1,p,hp=>by
  rw[gI,pM _ _ _ (by rw[mc];exact hp),vK l k p hp];by_cases h1:p=k
  .subst h1;simp
  .by_cases h2:p<k
   .have:p<k+1:=by omega
    simp[h1,h2,this]
   .have:¬ p<k+1:=by omega
    simp[h1,h2,this]
theorem DQ (B:List Bool)(h16:16<=B.length):gL B B.length 0 65535 (gI B 16++List.replicate 16 false):=by
 have hg:∀ p,p<B.length+16->(gI B 16++List.replicate 16 false).getD p false=(B.getD p false != decide (p<16)):=fun p hp=>by
  by_cases h:p<B.length
  .rw[<- vK B 16 p h];simp[List.getD,List.getElem?_append_left (show p<(gI B 16).length by rw[mc];exact h)]
  .have h1:¬ p<16:=by omega
   simp only[List.getD,List.getElem?_append_right (show(gI B 16).length<=p by rw[mc];omega),List.getElem?_replicate,List.getElem?_eq_none (show B.length<=p by omega),h1,mc];split <;> rfl
 refine⟨by rw[List.length_append,mc,List.length_replicate],fun j hj=>?_,fun p h1 h2=>?_⟩
 .have e1:(65535:Nat).testBit (15 - j)=true:=by
   have:∀ k:Fin 16,(65535:Nat).testBit k.1=true:=by decide +kernel
   exact this ⟨15 - j,by omega⟩
  have e2:decide (0+j<16)=true:=decide_eq_true (by omega);rw[hg _ (by omega),e1,e2];generalize B.getD (0+j) false=x;cases x <;> rfl
 .have e2:decide (p<16)=false:=decide_eq_false (by omega);rw[hg p h2,e2,Bool.bne_false]
def gl (f:Nat->Bool):Nat->List Int
 | 0=>[0,0]
 | k+1=>if f k then (gl f k).set (k / 8) (Go.bits BinOp.or IntKind.u8 ((gl f k).getD (k / 8) 0) (2 ^ (7 - k % 8))) else gl f k
theorem xk (l:List Bool)(n:Nat):∀ k,ej l n k=gl (fun k=>l.getD (n+k) false) k
 | 0=>rfl
 | k+1=>by rw[ej,gl,xk l n k]
theorem rD {f g:Nat->Bool}:∀ k,(∀ j,j<k->f j=g j)->gl f k=gl g k
 | 0,_=>rfl
 | k+1,h=>by rw[gl,gl,rD k (fun j hj=>h j (by omega)),h k (by omega)]
theorem su (f:Nat->Bool):∀ k,(gl f k).length=2
 | 0=>rfl
 | k+1=>by
  rw[gl];split
  .rw[List.length_set,su f k]
  .exact su f k
theorem vA (f:Nat->Bool)(x:Int)(h8:gl f 8=[x,0]):∀ k,k<=8->gl f (8+k)=[x,(gl (fun j=>f (8+j)) k).getD 0 0]
 | 0,_=>by rw[Nat.add_zero,h8];rfl
 | k+1,hk=>by
  have ih:=vA f x h8 k (by omega);rw[show 8+(k+1)=(8+k)+1 by omega,gl,gl,ih,show(8+k) / 8=1 by omega,show(8+k) % 8=k by omega,show k / 8=0 by omega,show k % 8=k by omega];have hl:=su (fun j=>f (8+j)) k;generalize gl (fun j=>f (8+j)) k=o at *;match o,hl with
  | [a,b],_=>
   cases f (8+k) <;> rfl
theorem xl (v:Nat)(hv:v<256):gl (fun k=>v.testBit (7 - k)) 8=[(v:Int),0]:=by
 have:∀ v:Fin 256,gl (fun k=>v.1.testBit (7 - k)) 8=[(v.1:Int),0]:=by decide +kernel
 exact this ⟨v,hv⟩
theorem FX {f:Nat->Bool}{r:Nat}(hr:r<65536)(hf:∀ j,j<16->f j=r.testBit (15 - j)):gl f 16=[((r / 256:Nat):Int),((r % 256:Nat):Int)]:=by
 have h1:gl f 8=[((r / 256:Nat):Int),0]:=by
  rw[<- xl (r / 256) (by omega)];refine rD 8 fun j hj=>?_;rw[hf j (by omega),show r / 256=r / 2 ^ 8 from rfl,Nat.testBit_div_two_pow,show 7 - j+8=15 - j by omega]
 have h2:=vA f _ h1 8 (by omega);rw[show(16:Nat)=8+8 from rfl,h2];have h3:gl (fun j=>f (8+j)) 8=[((r % 256:Nat):Int),0]:=by
  rw[<- xl (r % 256) (by omega)];refine rD 8 fun j hj=>?_;rw[hf (8+j) (by omega),show r % 256=r % 2 ^ 8 from rfl,Nat.testBit_mod_two_pow,show 15 - (8+j)=7 - j by omega,decide_eq_true (show 7 - j<8 by omega),Bool.true_and]
 rw[h3];rfl
theorem rE:∀ (k b:Nat),(iw b k).length=k
 | 0,_=>rfl
 | k+1,b=>by show(iw (2*b) k).length+1=k+1;rw[rE k]
theorem Ak (b m:Nat)(hb:b<256)(hm:m<8):(iw b 8).getD m false=po (b:Int) m:=by
 have:∀ (b:Fin 256) (m:Fin 8),(iw b.1 8).getD m.1 false=po (b.1:Int) m.1:=by decide +kernel
 exact this ⟨b,hb⟩ ⟨m,hm⟩
theorem vY:∀ (L:List Nat)(i:Nat),i<L.length*8->(jb L).getD i false=(iw (L.getD (i / 8) 0) 8).getD (i % 8) false
 | [],i,h=>by simp at h
 | b::L,i,h=>by
  have hl:=rE 8 b;show((iw b 8)++jb L).getD i false=_;by_cases hi:i<8
  .rw[show i / 8=0 by omega,show i % 8=i by omega];simp[List.getD,List.getElem?_append_left (show i<(iw b 8).length by omega)]
  .have e:(i - 8) / 8=i / 8 - 1:=by omega
   have e2:(i - 8) % 8=i % 8:=by omega
   have ih:=vY L (i - 8) (by simp only[List.length_cons]at h;omega);rw[e,e2]at ih;obtain⟨q,hq⟩:∃ q,i / 8=q+1:=⟨i / 8 - 1,by omega⟩;rw[hq]at ih ⊢;have e3:((iw b 8)++jb L).getD i false=(jb L).getD (i - 8) false:=by
    simp only[List.getD,List.getElem?_append_right (show(iw b 8).length<=i by omega),hl]
   rw[e3,ih];rfl
theorem rH:∀ L:List Nat,(jb L).length=L.length*8
 | []=>rfl
 | b::L=>by
  show((iw b 8)++jb L).length=_;rw[List.length_append,rE,rH L,List.length_cons];omega
theorem BT (L:List Nat)(hL:∀ x∈L,x<256):jB (aI L) (L.length*8)=jb L:=by
 refine List.ext_getElem (by rw[pF,rH]) fun i h1 h2=>?_;rw[pF]at h1;have hi:i / 8<L.length:=by omega
 have e1:(jB (aI L) (L.length*8))[i]'(by rw[pF];exact h1)=pi (aI L) i:=by simp[jB]
 have e2:(jb L)[i]=(jb L).getD i false:=by simp[List.getD,h2]
 rw[e1,e2,vY L i h1];have hg:L.getD (i / 8) 0=L[i / 8]:=by simp[List.getD,hi]
 have hb:=hL _ (Qb hi);rw[hg,Ak _ _ hb (by omega)];unfold pi;have e3:(aI L).data.getD (i / 8) 0=UInt8.ofNat L[i / 8]:=by
  rw[Array.getD_eq_getD_getElem?];simp[aI,hi]
 rw[e3,qH hb]
theorem we (L:List Nat)(hL:∀ x∈L,x<256)(h2:2<=L.length):ig (aI L)=aI [jd L / 256,jd L % 256]:=by
 unfold ig yp;rw[iG,BT L hL];have hl:=rH L;have hd:=xI hl.symm.symm (by have:=DQ (jb L) (by omega);rw[hl]at this;exact this) (L.length*8) (v9 _);rw[Qe (by omega),<- rY L (by decide) hL]at hd;have hr:L.foldl iI 65535<65536:=by rw[rY L (by decide) hL];exact pD _ (by decide)
 rw[xk,FX hr fun j hj=>?_]
 .unfold strOfNums aI jd;rfl
 .rw[hd.win j hj];have e:(jb L).getD (L.length*8+j) false=false:=by simp[List.getD,List.getElem?_eq_none (show(jb L).length<=L.length*8+j by omega)]
  rw[e,Bool.bne_false]
end Go.Proofs.Herald
namespace Go.Proofs.YtmmmnghiegajmaaGreat
theorem wJ (n:Int):strOfNums (kL n)=aI (jO n):=by
 rw[<- qd,rN];rfl
theorem EC (c:Nat)(a b:Int):nP (c:Int) a b=aI (fg c a b):=by
 have e:strOfNums [(c:Int)]=aI [c]:=by
  rw[<- qd];rfl
 unfold nP;rw[wJ,wJ,e,pR,pR];rfl
theorem Hc {c:Nat}(hc:c<256)(a b:Int):gJ (c:Int) a b=aI (eR c a b):=by
 unfold gJ;rw[EC,we _ (oP hc a b) (by rw[oH];omega),pR];rfl
theorem oo {c:Nat}(hc:c<256)(J:List Nat)(f a b:Int):jC (aI J) f (c:Int) a b=aI (cI f J c a b):=by
 unfold jC cI;split
 .rw[Hc hc,pR]
 .rfl
end Go.Proofs.YtmmmnghiegajmaaGreat
