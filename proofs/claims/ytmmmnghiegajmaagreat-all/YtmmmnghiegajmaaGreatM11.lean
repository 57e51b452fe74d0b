import Derived.Test.YtmmmnghiegajmaaGreatM08
import Derived.Laws.BytesArg
import Derived.Test.YtmmmnghiegajmaaGreatM10
set_option maxHeartbeats 4000000
set_option maxRecDepth 20000
open Go.RowKit Go.Proofs.Herald Go.Proofs.Tryz
namespace Go.Proofs.Herald
def nL (n:Int)(k:Nat):Int:=n / 2 ^ (56 - 8*k) % 256
def kL (n:Int):List Int:=(List.range 8).map (nL n)
def kW (n:Int)(k:Nat):List Int:=(List.range k).map (nL n)++List.replicate (8 - k) 0
theorem yZ {n:Int}{k:Nat}(h:k<=8):(kW n k).length=8:=by unfold kW;simp;omega
theorem yO {n:Int}{k:Nat}(h:k<8):(kW n k).set k (nL n k)=kW n (k+1):=by
 match k,h with
 | 0,_=>rfl
 | 1,_=>rfl
 | 2,_=>rfl
 | 3,_=>rfl
 | 4,_=>rfl
 | 5,_=>rfl
 | 6,_=>rfl
 | 7,_=>rfl
end Go.Proofs.Herald
namespace Go.Proofs.YtmmmnghiegajmaaGreat
theorem Tryz.infoByte:(prog.info? 5).map (fun i=>(i.zero,i.size,i.bytes))=some (some (.int .u8 0),1,1):=by kernel_rfl
theorem vH (n:Int)(w:World):
  Calls prog 121 #[.int .i64 n] w fun e w'=>e=.returned (.string (strOfNums (kL n)))/\Below w.heap.size w w':=by
 obtain⟨i0,hi,A1,A2,A3⟩:=info_parts Tryz.infoByte;go_enter func121,ntmps121
 go_wp2_with (at_make;refine wpList_make_full _ rfl _ _ 80 rfl w.heap.size 5 i0 _ 1 underlying80 hi A1 A2 _ _ _ _ 8 rfl rfl rfl rfl (by rw[A3];omega) (by unfold maxLen;omega) (v9 _) ?_)
 intro w1 hown1 hgrow1;have A5:Hid (w1.ownsRow w.heap.size 5 1 (.slice (some ⟨w.heap.size,0,none⟩) 8 8) 8 ((kW n 0).map fun z=>Value.int .u8 z)):=by
  have e:(madeCells #[Value.int IntKind.u8 0] 8).toList=((kW n 0).map fun z=>Value.int .u8 z):=by simp[madeCells,List.range,List.range.loop,kW,List.replicate]
  rw[<- e];exact hown1
 have A4:Hid (Below w.heap.size w w1):=(v7 _ _).grown hgrow1 (v9 _) (fun k hk=>by cases hk);clear hown1 hgrow1 hi A1 A2 A3;go_wp2_with fail
 go_loopw [4] (fun i wr=>∃ k:Nat,k<=8/\i=.int .i64 k/\Hid (wr.ownsRow w.heap.size 5 1 (.slice (some ⟨w.heap.size,0,none⟩) 8 8) 8 ((kW n k).map fun z=>Value.int .u8 z)/\Below w.heap.size w wr)) (fun i _=>8 - (intOf i).toNat)
 case atStart=>exact⟨0,Qa _,rfl,A5,A4⟩
 case round=>
  obtain⟨k,hk,rfl,HB⟩:=hrel;have A0:=yZ (n:=n) hk;by_cases hlt:k<8
  .obtain⟨u,hu⟩:∃ u,u=(kW n k)[k]'(by omega):=⟨_,rfl⟩;obtain⟨c0,z0⟩:=eW HB.1 k (.int .u8 u) (by simp[A0,hlt,hu]);clear hu;have HN:Hid ((wr.setCell ⟨w.heap.size,k,none⟩ (.int .u8 (nL n k))).ownsRow w.heap.size 5 1 (.slice (some ⟨w.heap.size,0,none⟩) 8 8) 8 ((kW n (k+1)).map fun z=>Value.int .u8 z)/\Below w.heap.size w (wr.setCell ⟨w.heap.size,k,none⟩ (.int .u8 (nL n k)))):=by
    have h:=iX HB.1 k (.int .u8 (nL n k));rw[<- yO hlt,List.map_set];exact⟨h,HB.2.setCell (v9 _) _⟩
   clear A0;go_wp2_with fail
   go_roundw;case rel=>exact⟨k+1,by omega,by go_num,HN⟩
   case measure=>simp[intOf];omega
  .have A6:k=8:=by omega
   subst A6;have HC:(convert 80 9 (.slice (some ⟨w.heap.size,0,none⟩) 8 8)).run prog wr=.ok (.string (strOfNums (kL n))) wr:=
    run_convert_bytes_arg (w:=wr) 80 5 underlying80 underlying5 w.heap.size 0 8 8 (kL n) rfl (fun i hi=>by
     have h:=eW HB.1 i (.int .u8 ((kL n).getD i 0)) (by
      match i,hi with
      | 0,_=>rfl
      | 1,_=>rfl
      | 2,_=>rfl
      | 3,_=>rfl
      | 4,_=>rfl
      | 5,_=>rfl
      | 6,_=>rfl
      | 7,_=>rfl)
     rw[Nat.zero_add];exact h.1) 9 underlying9
   clear A0;go_wp2_with fail
   go_ret;exact⟨rfl,HB.2⟩
end Go.Proofs.YtmmmnghiegajmaaGreat
namespace Go.Proofs.Herald
def po (b:Int)(m:Nat):Bool:=Go.bits BinOp.and IntKind.i64 (wrap64 b / 2 ^ (7 - m)) 1==1
def pi (s:ByteArray)(i:Nat):Bool:=po ((s.data.getD (i / 8) 0).toNat:Int) (i % 8)
def jB (s:ByteArray)(n:Nat):List Bool:=(List.range n).map (pi s)
theorem yY (s:ByteArray)(k m:Nat)(hk:k<s.size)(hm:m<8):jB s (k*8+m+1)=jB s (k*8+m)++[po (s[k].toNat:Int) m]:=by
 have e1:(k*8+m) / 8=k:=by omega
 have e2:(k*8+m) % 8=m:=by omega
 have e3:s.data.getD k 0=s[k]:=by
  have A0:k<s.data.size:=hk;rw[Array.getD_eq_getD_getElem?,Array.getElem?_eq_getElem A0];rfl
 have e:pi s (k*8+m)=po (s[k].toNat:Int) m:=by unfold pi;rw[e1,e2,e3]
 unfold jB;rw[List.range_succ,List.map_append,List.map_cons,List.map_nil,e]
end Go.Proofs.Herald
namespace Go.Proofs.YtmmmnghiegajmaaGreat
theorem DG (s:ByteArray)(hs:s.size<=1000)(w:World):
  Calls prog 143 #[.string s] w fun e w'=>∃ v,e=.returned v/\w'.ownsRow w.heap.size 4 1 v (s.size*8) ((jB s (s.size*8)).map fun z:Bool=>Value.bool z)/\Below w.heap.size w w':=by
 go_enter func143,ntmps143
 go_wp2_with fail
 go_loopw [3,4] (fun v i wr=>∃ k:Nat,k<=s.size/\i=.int .i64 k/\Hid (wr.ownsRow w.heap.size 4 1 v (k*8) ((jB s (k*8)).map fun z:Bool=>Value.bool z))/\Hid (Below w.heap.size w wr)) (fun _ i _=>s.size - (intOf i).toNat)
 case atStart=>exact⟨0,Qa _,rfl,Qg _ _ _ _,v7 _ _⟩
 case round=>
  obtain⟨k,hk,rfl,HV,HB⟩:=hrel;by_cases hlt:k<s.size
  .go_wp2_with fail
   go_loopw [3,5] (fun v' j wr'=>∃ m:Nat,m<=8/\j=.int .i64 (7 - (m:Int))/\Hid (wr'.ownsRow w.heap.size 4 1 v' (k*8+m) ((jB s (k*8+m)).map fun z:Bool=>Value.bool z))/\Hid (Below w.heap.size w wr')) (fun _ j _=>(intOf j+1).toNat)
   case atStart=>exact⟨0,Qa _,rfl,HV,HB⟩
   case round=>
    obtain⟨m,hm,rfl,HC,HD⟩:=hrel;by_cases hlm:m<8
    .have A0:=yY s k m hlt hlm;go_wp2_with (at_builtin;refine jX wr w rfl (.tmp 16) (.tmp 25) 124 rfl 4 _ 1 1 underlying124 Tryz.infoBool rfl (by decide) (by decide) w.heap.size _ _ _ (by rfl) HC [_] (by rfl) rfl (by simp[Value.oneCell']) (by omega) HD.out HD.out.size ?_)
     intro v2 w2 hown2 hb2 _ _;have A2:Hid (w2.ownsRow w.heap.size 4 1 v2 (k*8+(m+1)) ((jB s (k*8+(m+1))).map fun z:Bool=>Value.bool z)):=by
      rw[<- Nat.add_assoc,A0,List.map_append];exact hown2
     have A1:=ah hb2;clear hown2 hb2 A0;go_wp2_with fail
     go_roundw;case rel=>exact⟨m+1,by omega,by go_num,A2,A1⟩
     case measure=>simp[intOf];omega
    .have A4:m=8:=by omega
     subst A4;go_wp2_with fail
     go_roundw;case rel=>exact⟨k+1,by omega,by go_num,by rw[show(k+1)*8=k*8+8 from by omega];exact HC,HD⟩
     case measure=>simp[intOf];omega
  .have A3:k=s.size:=by omega
   subst A3;go_wp2_with fail
   go_ret;exact⟨_,rfl,HV,HB⟩
end Go.Proofs.YtmmmnghiegajmaaGreat
namespace Go.Proofs.Herald
def lg (l:List Bool)(i:Nat):List Bool:=l.set i (!(l.getD i false))
def gI (l:List Bool):Nat->List Bool
 | 0=>l
 | k+1=>lg (gI l k) k
def nR (k:Nat):Bool:=Go.bits BinOp.and IntKind.i64 (4129 / 2 ^ k) 1==1
def gu (l:List Bool)(i:Nat):Nat->List Bool
 | 0=>l
 | k+1=>if nR k then lg (gu l i k) (i+16 - k) else gu l i k
def iC (l:List Bool):Nat->List Bool
 | 0=>l
 | i+1=>if (iC l i).getD i false then gu ((iC l i).set i false) i 16 else iC l i
def ej (l:List Bool)(n:Nat):Nat->List Int
 | 0=>[0,0]
 | k+1=>if l.getD (n+k) false then (ej l n k).set (k / 8) (Go.bits BinOp.or IntKind.u8 ((ej l n k).getD (k / 8) 0) (2 ^ (7 - k % 8))) else ej l n k
def yp (s:ByteArray):List Bool:=gI (jB s (s.size*8)) 16++List.replicate 16 false
def ig (s:ByteArray):ByteArray:=strOfNums (ej (iC (yp s) (s.size*8)) (s.size*8) 16)
theorem oj (l:List Bool)(i:Nat):(lg l i).length=l.length:=by simp[lg]
theorem mc (l:List Bool):∀ k,(gI l k).length=l.length
 | 0=>rfl
 | k+1=>by rw[gI,oj,mc l k]
theorem oN (l:List Bool)(i:Nat):∀ k,(gu l i k).length=l.length
 | 0=>rfl
 | k+1=>by
  rw[gu];split
  .rw[oj,oN l i k]
  .exact oN l i k
theorem oR (l:List Bool):∀ k,(iC l k).length=l.length
 | 0=>rfl
 | k+1=>by
  rw[iC];split
  .rw[oN,List.length_set,oR l k]
  .exact oR l k
theorem oM (l:List Bool)(n:Nat):∀ k,(ej l n k).length=2
 | 0=>rfl
 | k+1=>by
  rw[ej];split
  .rw[List.length_set,oM l n k]
  .exact oM l n k
theorem pF (s:ByteArray)(n:Nat):(jB s n).length=n:=by simp[jB]
end Go.Proofs.Herald
namespace Go.Proofs.YtmmmnghiegajmaaGreat
def ie (l:List Bool):List Value:=l.map fun z:Bool=>Value.bool z
theorem pK {l:List Bool}{i:Nat}(h:i<l.length):(ie l)[i]?=some (.bool (l.getD i false)):=by
 unfold ie;rw[List.getElem?_map,List.getElem?_eq_getElem h];simp[List.getD,h]
theorem rt (l:List Bool)(i:Nat)(b:Bool):ie (l.set i b)=(ie l).set i (.bool b):=by unfold ie;rw[List.map_set]
theorem vV (s:ByteArray)(hs2:2<=s.size)(hs:s.size<=1000)(w:World):
  Calls prog 116 #[.string s] w fun e w'=>e=.returned (.string (ig s))/\Below w.heap.size w w':=by
 obtain⟨i0,hi,C4,C5,C6⟩:=info_parts Tryz.infoByte;obtain⟨N,hN⟩:∃ N,N=s.size*8:=⟨_,rfl⟩;have HN:=ah hN;obtain⟨L,hL⟩:∃ L,L=jB s N:=⟨_,rfl⟩;have C0:L.length=N:=by rw[hL,pF]
 have B9:=ah C0;have HB:Hid (∀ w:World,Calls prog 143 #[.string s] w fun e w'=>∃ v,e=.returned v/\w'.ownsRow w.heap.size 4 1 v N (ie L)/\Below w.heap.size w w'):=fun w=>by
  rw[hL,hN];exact DG s hs w
 have HS:Hid (ig s=strOfNums (ej (iC (gI L 16++List.replicate 16 false) N) N 16)):=by
  show _=_;rw[hL,hN];rfl
 have D3:16<=N:=by omega
 have D7:N<=8000:=by omega
 clear hN hL C0 hs2 hs;go_enter func116,ntmps116
 go_wp2_with fail
 refine(HB _).mono ?_;rintro e w1 ⟨v,rfl,B2,C1⟩;obtain⟨g,B4,rfl,C3,_⟩:=B2.form (by omega);have H1:Hid (w1.ownsRow w.heap.size 4 1 (.slice (some ⟨g,0,none⟩) N B4) N (ie L)/\Below w.heap.size w w1):=⟨B2,C1⟩;obtain⟨B7,_,A9⟩:=jN (bZ B2);unfold maxLen at A9;clear B2 C1 HB;go_wp2_with fail
 go_loopw [4] (fun i wr=>∃ k:Nat,k<=16/\i=.int .i64 k/\Hid (wr.ownsRow w.heap.size 4 1 (.slice (some ⟨g,0,none⟩) N B4) N (ie (gI L k))/\Below w.heap.size w wr)) (fun i _=>16 - (intOf i).toNat)
 case atStart=>exact⟨0,Qa _,rfl,H1⟩
 case round=>
  obtain⟨k,hk,rfl,HK⟩:=hrel;by_cases hlt:k<16
  .obtain⟨c0,z0⟩:=eW HK.1 k _ (pK (by rw[mc,B9];omega));have C9:Hid ((wr.setCell ⟨g,k,none⟩ (.bool (!(gI L k).getD k false))).ownsRow w.heap.size 4 1 (.slice (some ⟨g,0,none⟩) N B4) N (ie (gI L (k+1)))/\Below w.heap.size w (wr.setCell ⟨g,k,none⟩ (.bool (!(gI L k).getD k false)))):=by
    refine⟨?_,HK.2.setCell (p:=⟨g,k,none⟩) C3 _⟩;have h:=iX HK.1 k (.bool (!(gI L k).getD k false));rw[<- rt]at h;exact h
   generalize (gI L k).getD k false=bb at *;have B8:k<N:=by omega
   go_wp2_with fail
   go_roundw;case rel=>exact⟨k+1,by omega,by go_num,C9⟩
   case measure=>simp[intOf];omega
  .have A7:k=16:=by omega
   rw[A7]at HK;clear A7;go_wp2_with fail
   go_loopw [3,6] (fun v i wr'=>∃ k:Nat,k<=16/\i=.int .i64 k/\Hid (wr'.ownsRow w.heap.size 4 1 v (N+k) (ie (gI L 16++List.replicate k false))/\Below w.heap.size w wr')) (fun _ i _=>16 - (intOf i).toNat)
   case atStart=>
    refine⟨0,Qa _,rfl,?_⟩;rw[List.replicate_zero,List.append_nil];exact HK
   case round=>
    obtain⟨m,D9,rfl,HA⟩:=hrel;by_cases hlt2:m<16
    .go_wp2_with (at_builtin;refine jX wr w rfl (.tmp 31) (.tmp 32) 124 rfl 4 _ 1 1 underlying124 Tryz.infoBool rfl (by decide) (by decide) w.heap.size _ _ _ (by rfl) HA.1 [_] (by rfl) rfl (by simp[Value.oneCell']) (by omega) HA.out.2 HA.out.2.size ?_)
     intro v2 w2 hown2 hb2 _ _;have D2:Hid (w2.ownsRow w.heap.size 4 1 v2 (N+(m+1)) (ie (gI L 16++List.replicate (m+1) false))/\Below w.heap.size w w2):=by
      refine⟨?_,hb2⟩;rw[<- Nat.add_assoc,List.replicate_succ',<- List.append_assoc];unfold ie at hown2 ⊢;rw[List.map_append];exact hown2
     clear hown2 hb2;go_wp2_with fail
     go_roundw;case rel=>exact⟨m+1,by omega,by go_num,D2⟩
     case measure=>simp[intOf];omega
    .have A8:m=16:=by omega
     rw[A8]at HA;clear HK H1 hlt hk A8;obtain⟨L2,B5⟩:∃ L2,L2=gI L 16++List.replicate 16 false:=⟨_,rfl⟩;rw[<- B5]at HA HS;have A5:L2.length=N+16:=by rw[B5];simp[mc,B9.out]
     have B3:=ah A5;clear B5 A5;obtain⟨g2,A2,D6,A6,_⟩:=HA.1.form (by omega);subst D6;obtain⟨C2,_,B0⟩:=jN (bZ HA.1);unfold maxLen at B0;clear B7 A9 C3;go_wp2_with fail
     go_loopw [7] (fun i wr'=>∃ k:Nat,k<=N/\i=.int .i64 k/\Hid (wr'.ownsRow w.heap.size 4 1 (.slice (some ⟨g2,0,none⟩) (N+16) A2) (N+16) (ie (iC L2 k))/\Below w.heap.size w wr')) (fun i _=>N - (intOf i).toNat)
     case atStart=>exact⟨0,Qa _,rfl,HA⟩
     case round=>
      obtain⟨k,hk,rfl,HK⟩:=hrel;by_cases hlt:k<N
      .obtain⟨c0,z0⟩:=eW HK.1 k _ (pK (by rw[oR,B3];omega));cases hb:(iC L2 k).getD k false with
       | false=>
        rw[hb]at c0;have HE:Hid (iC L2 (k+1)=iC L2 k):=by show _=_;rw[iC,hb];rfl
        clear hb;go_wp2_with fail
        go_roundw;case rel=>exact⟨k+1,by omega,by go_num,by rw[HE.out];exact HK⟩
        case measure=>simp[intOf];omega
       | true=>
        rw[hb]at c0;have HE:Hid (iC L2 (k+1)=gu ((iC L2 k).set k false) k 16):=by show _=_;rw[iC,hb];rfl
        clear hb;obtain⟨L3,B1⟩:∃ L3,L3=(iC L2 k).set k false:=⟨_,rfl⟩;rw[<- B1]at HE;have C7:Hid (L3.length=N+16):=by show _=_;rw[B1,List.length_set,oR,B3]
        have D0:Hid ((wr.setCell ⟨g2,k,none⟩ (.bool false)).ownsRow w.heap.size 4 1 (.slice (some ⟨g2,0,none⟩) (N+16) A2) (N+16) (ie L3)/\Below w.heap.size w (wr.setCell ⟨g2,k,none⟩ (.bool false))):=by
         refine⟨?_,HK.2.setCell (p:=⟨g2,k,none⟩) A6 _⟩;have h:=iX HK.1 k (.bool false);rw[<- rt,<- B1]at h;exact h
        clear B1 HK;go_wp2_with fail
        go_loopw [8] (fun i wr'=>∃ j:Nat,j<=16/\i=.int .i64 j/\Hid (wr'.ownsRow w.heap.size 4 1 (.slice (some ⟨g2,0,none⟩) (N+16) A2) (N+16) (ie (gu L3 k j))/\Below w.heap.size w wr')) (fun i _=>16 - (intOf i).toNat)
        case atStart=>exact⟨0,Qa _,rfl,D0⟩
        case round=>
         obtain⟨j,hj,rfl,HJ⟩:=hrel;by_cases hlj:j<16
         .obtain⟨e0,f0⟩:=eW HJ.1 (k+16 - j) _ (pK (by rw[oN,C7];omega));have D8:((k:Int)+16 - (j:Int)).toNat=k+16 - j:=by omega
          cases hd:nR j with
          | true=>
           have A0:Hid (gu L3 k (j+1)=lg (gu L3 k j) (k+16 - j)):=by show _=_;rw[gu,hd];rfl
           have D1:Hid ((wr.setCell ⟨g2,k+16 - j,none⟩ (.bool (!(gu L3 k j).getD (k+16 - j) false))).ownsRow w.heap.size 4 1 (.slice (some ⟨g2,0,none⟩) (N+16) A2) (N+16) (ie (gu L3 k (j+1)))/\Below w.heap.size w (wr.setCell ⟨g2,k+16 - j,none⟩ (.bool (!(gu L3 k j).getD (k+16 - j) false)))):=by
            refine⟨?_,HJ.2.setCell (p:=⟨g2,k+16 - j,none⟩) A6 _⟩;have h:=iX HJ.1 (k+16 - j) (.bool (!(gu L3 k j).getD (k+16 - j) false));rw[<- rt]at h;rw[A0];exact h
           unfold nR at hd;generalize (gu L3 k j).getD (k+16 - j) false=bb at *;go_wp2_with fail
           go_roundw;case rel=>exact⟨j+1,by omega,by go_num,D1⟩
           case measure=>simp[intOf];omega
          | false=>
           have A0:Hid (gu L3 k (j+1)=gu L3 k j):=by show _=_;rw[gu,hd];rfl
           unfold nR at hd;go_wp2_with fail
           go_roundw;case rel=>exact⟨j+1,by omega,by go_num,by rw[A0.out];exact HJ⟩
           case measure=>simp[intOf];omega
         .have A4:j=16:=by omega
          rw[A4]at HJ;clear A4;go_wp2_with fail
          go_roundw;case rel=>exact⟨k+1,by omega,by go_num,by rw[HE.out];exact HJ⟩
          case measure=>simp[intOf];omega
      .have B8:k=N:=by omega
       rw[B8]at HK;clear B8;obtain⟨L4,B6⟩:∃ L4,L4=iC L2 N:=⟨_,rfl⟩;rw[<- B6]at HK HS;have C8:Hid (L4.length=N+16):=by show _=_;rw[B6,oR,B3]
       clear B6 HA;go_wp2_with (at_make;refine wpList_make_full _ rfl _ _ 80 rfl w.heap.size 5 i0 _ 1 underlying80 hi C4 C5 _ _ _ _ 2 rfl rfl rfl rfl (by rw[C6];omega) (by unfold maxLen;omega) HK.out.2.size ?_)
       intro w1 hown1 hgrow1;obtain⟨o,ho⟩:∃ o,o=wr.heap.size:=⟨_,rfl⟩;rw[<- ho]at hown1 ⊢;have D5:w.heap.size<=o:=by rw[ho];exact HK.2.size
       have H5:Hid (w1.ownsRow w.heap.size 4 1 (.slice (some ⟨g2,0,none⟩) (N+16) A2) (N+16) (ie L4)/\w1.ownsRow w.heap.size 5 1 (.slice (some ⟨o,0,none⟩) 2 2) 2 ((ej L4 N 0).map fun z=>Value.int .u8 z)/\Below w.heap.size w w1):=by
        refine⟨eu HK.1 fun b hb=>?_,?_,HK.2.grown hgrow1 HK.2.size (fun k hk=>by cases hk)⟩
        .obtain⟨c,hc⟩:=ax (bZ HK.1) hb;exact hgrow1.block b (ak hc) (by simp)
        .have e:(madeCells #[Value.int IntKind.u8 0] 2).toList=((ej L4 N 0).map fun z=>Value.int .u8 z):=by simp[madeCells,List.range,List.range.loop,ej]
         rw[<- e];exact hown1
       clear hown1 hgrow1 ho HK hi C4 C5 C6;go_wp2_with fail
       go_loopw [10] (fun i wr'=>∃ k:Nat,k<=16/\i=.int .i64 k/\Hid (wr'.ownsRow w.heap.size 4 1 (.slice (some ⟨g2,0,none⟩) (N+16) A2) (N+16) (ie L4)/\wr'.ownsRow w.heap.size 5 1 (.slice (some ⟨o,0,none⟩) 2 2) 2 ((ej L4 N k).map fun z=>Value.int .u8 z)/\Below w.heap.size w wr')) (fun i _=>16 - (intOf i).toNat)
       case atStart=>exact⟨0,Qa _,rfl,H5⟩
       case round=>
        clear H5;obtain⟨j,hj,rfl,HJ⟩:=hrel;by_cases hlj:j<16
        .obtain⟨e0,f0⟩:=eW HJ.1 (N+j) _ (pK (by rw[C8];omega));cases hb:L4.getD (N+j) false with
         | false=>
          rw[hb]at e0;have HE:Hid (ej L4 N (j+1)=ej L4 N j):=by show _=_;rw[ej,hb];rfl
          clear hb;go_wp2_with fail
          go_roundw;case rel=>exact⟨j+1,by omega,by go_num,by rw[HE.out];exact HJ⟩
          case measure=>simp[intOf];omega
         | true=>
          rw[hb]at e0;obtain⟨x0,x1,hx⟩:∃ x0 x1,ej L4 N j=[x0,x1]:=by
           have hl:=oM L4 N j;match h:ej L4 N j,hl with
           | [x0,x1],_=>exact⟨x0,x1,rfl⟩
          have HE:Hid (ej L4 N (j+1)=[x0,x1].set (j / 8) (Go.bits BinOp.or IntKind.u8 ([x0,x1].getD (j / 8) 0) (2 ^ (7 - j % 8)))):=by show _=_;rw[ej,hb,hx];rfl
          have A3:=HJ.out;rw[hx]at A3;obtain⟨E0,E1⟩:=eW A3.2.1 0 (.int .u8 x0) rfl;obtain⟨E2,E3⟩:=eW A3.2.1 1 (.int .u8 x1) rfl;have A1:Hid (∀ i z,i<2->(wr.setCell ⟨o,i,none⟩ (.int .u8 z)).drew.ownsRow w.heap.size 4 1 (.slice (some ⟨g2,0,none⟩) (N+16) A2) (N+16) (ie L4)/\(wr.setCell ⟨o,i,none⟩ (.int .u8 z)).drew.ownsRow w.heap.size 5 1 (.slice (some ⟨o,0,none⟩) 2 2) 2 (([x0,x1].set i z).map fun z=>Value.int .u8 z)/\Below w.heap.size w (wr.setCell ⟨o,i,none⟩ (.int .u8 z)).drew):=by
           intro i z _;refine⟨eu A3.1 fun b hb'=>?_,?_,(A3.2.2.setCell (p:=⟨o,i,none⟩) D5 _).drew⟩
           .obtain⟨c,hc⟩:=ax (bZ A3.1) hb';obtain⟨c2,D4⟩:=ax (bZ A3.2.1) (k:=o) rfl;exact q8 _ _ _ _ (aA hc D4 (by decide))
           .rw[List.map_set];exact eu (iX A3.2.1 i (.int .u8 z)) fun _ _=>rfl
          clear hb hx A3 HJ;rcases(show j=0\/j=1\/j=2\/j=3\/j=4\/j=5\/j=6\/j=7\/j=8\/j=9\/j=10\/j=11\/j=12\/j=13\/j=14\/j=15 by omega) with rfl|rfl|rfl|rfl|rfl|rfl|rfl|rfl|rfl|rfl|rfl|rfl|rfl|rfl|rfl|rfl
          .have A0:Hid (ej L4 N 1=[Go.bits BinOp.or IntKind.u8 x0 128,x1]):=HE.out;simp only[Nat.add_zero]at e0;go_wp2_with fail
           go_region;all_goals
            go_wp2_with fail
            go_roundw;case rel=>exact⟨1,by omega,by go_num,by rw[A0.out];exact A1 0 (Go.bits BinOp.or IntKind.u8 x0 128) (by omega)⟩
            case measure=>simp[intOf]
          .have A0:Hid (ej L4 N 2=[Go.bits BinOp.or IntKind.u8 x0 64,x1]):=HE.out;go_wp2_with fail
           go_region;all_goals
            go_wp2_with fail
            go_roundw;case rel=>exact⟨2,by omega,by go_num,by rw[A0.out];exact A1 0 (Go.bits BinOp.or IntKind.u8 x0 64) (by omega)⟩
            case measure=>simp[intOf]
          .have A0:Hid (ej L4 N 3=[Go.bits BinOp.or IntKind.u8 x0 32,x1]):=HE.out;go_wp2_with fail
           go_region;all_goals
            go_wp2_with fail
            go_roundw;case rel=>exact⟨3,by omega,by go_num,by rw[A0.out];exact A1 0 (Go.bits BinOp.or IntKind.u8 x0 32) (by omega)⟩
            case measure=>simp[intOf]
          .have A0:Hid (ej L4 N 4=[Go.bits BinOp.or IntKind.u8 x0 16,x1]):=HE.out;go_wp2_with fail
           go_region;all_goals
            go_wp2_with fail
            go_roundw;case rel=>exact⟨4,by omega,by go_num,by rw[A0.out];exact A1 0 (Go.bits BinOp.or IntKind.u8 x0 16) (by omega)⟩
            case measure=>simp[intOf]
          .have A0:Hid (ej L4 N 5=[Go.bits BinOp.or IntKind.u8 x0 8,x1]):=HE.out;go_wp2_with fail
           go_region;all_goals
            go_wp2_with fail
            go_roundw;case rel=>exact⟨5,by omega,by go_num,by rw[A0.out];exact A1 0 (Go.bits BinOp.or IntKind.u8 x0 8) (by omega)⟩
            case measure=>simp[intOf]
          .have A0:Hid (ej L4 N 6=[Go.bits BinOp.or IntKind.u8 x0 4,x1]):=HE.out;go_wp2_with fail
           go_region;all_goals
            go_wp2_with fail
            go_roundw;case rel=>exact⟨6,by omega,by go_num,by rw[A0.out];exact A1 0 (Go.bits BinOp.or IntKind.u8 x0 4) (by omega)⟩
            case measure=>simp[intOf]
          .have A0:Hid (ej L4 N 7=[Go.bits BinOp.or IntKind.u8 x0 2,x1]):=HE.out;go_wp2_with fail
           go_region;all_goals
            go_wp2_with fail
            go_roundw;case rel=>exact⟨7,by omega,by go_num,by rw[A0.out];exact A1 0 (Go.bits BinOp.or IntKind.u8 x0 2) (by omega)⟩
            case measure=>simp[intOf]
          .have A0:Hid (ej L4 N 8=[Go.bits BinOp.or IntKind.u8 x0 1,x1]):=HE.out;go_wp2_with fail
           go_region;all_goals
            go_wp2_with fail
            go_roundw;case rel=>exact⟨8,by omega,by go_num,by rw[A0.out];exact A1 0 (Go.bits BinOp.or IntKind.u8 x0 1) (by omega)⟩
            case measure=>simp[intOf]
          .have A0:Hid (ej L4 N 9=[x0,Go.bits BinOp.or IntKind.u8 x1 128]):=HE.out;go_wp2_with fail
           go_region;all_goals
            go_wp2_with fail
            go_roundw;case rel=>exact⟨9,by omega,by go_num,by rw[A0.out];exact A1 1 (Go.bits BinOp.or IntKind.u8 x1 128) (by omega)⟩
            case measure=>simp[intOf]
          .have A0:Hid (ej L4 N 10=[x0,Go.bits BinOp.or IntKind.u8 x1 64]):=HE.out;go_wp2_with fail
           go_region;all_goals
            go_wp2_with fail
            go_roundw;case rel=>exact⟨10,by omega,by go_num,by rw[A0.out];exact A1 1 (Go.bits BinOp.or IntKind.u8 x1 64) (by omega)⟩
            case measure=>simp[intOf]
          .have A0:Hid (ej L4 N 11=[x0,Go.bits BinOp.or IntKind.u8 x1 32]):=HE.out;go_wp2_with fail
           go_region;all_goals
            go_wp2_with fail
            go_roundw;case rel=>exact⟨11,by omega,by go_num,by rw[A0.out];exact A1 1 (Go.bits BinOp.or IntKind.u8 x1 32) (by omega)⟩
            case measure=>simp[intOf]
          .have A0:Hid (ej L4 N 12=[x0,Go.bits BinOp.or IntKind.u8 x1 16]):=HE.out;go_wp2_with fail
           go_region;all_goals
            go_wp2_with fail
            go_roundw;case rel=>exact⟨12,by omega,by go_num,by rw[A0.out];exact A1 1 (Go.bits BinOp.or IntKind.u8 x1 16) (by omega)⟩
            case measure=>simp[intOf]
          .have A0:Hid (ej L4 N 13=[x0,Go.bits BinOp.or IntKind.u8 x1 8]):=HE.out;go_wp2_with fail
           go_region;all_goals
            go_wp2_with fail
            go_roundw;case rel=>exact⟨13,by omega,by go_num,by rw[A0.out];exact A1 1 (Go.bits BinOp.or IntKind.u8 x1 8) (by omega)⟩
            case measure=>simp[intOf]
          .have A0:Hid (ej L4 N 14=[x0,Go.bits BinOp.or IntKind.u8 x1 4]):=HE.out;go_wp2_with fail
           go_region;all_goals
            go_wp2_with fail
            go_roundw;case rel=>exact⟨14,by omega,by go_num,by rw[A0.out];exact A1 1 (Go.bits BinOp.or IntKind.u8 x1 4) (by omega)⟩
            case measure=>simp[intOf]
          .have A0:Hid (ej L4 N 15=[x0,Go.bits BinOp.or IntKind.u8 x1 2]):=HE.out;go_wp2_with fail
           go_region;all_goals
            go_wp2_with fail
            go_roundw;case rel=>exact⟨15,by omega,by go_num,by rw[A0.out];exact A1 1 (Go.bits BinOp.or IntKind.u8 x1 2) (by omega)⟩
            case measure=>simp[intOf]
          .have A0:Hid (ej L4 N 16=[x0,Go.bits BinOp.or IntKind.u8 x1 1]):=HE.out;go_wp2_with fail
           go_region;all_goals
            go_wp2_with fail
            go_roundw;case rel=>exact⟨16,by omega,by go_num,by rw[A0.out];exact A1 1 (Go.bits BinOp.or IntKind.u8 x1 1) (by omega)⟩
            case measure=>simp[intOf]
        .have A4:j=16:=by omega
         subst A4;have HC:(convert 80 9 (.slice (some ⟨o,0,none⟩) 2 2)).run prog wr=.ok (.string (strOfNums (ej L4 N 16))) wr:=by
          obtain⟨x0,x1,hx⟩:∃ x0 x1,ej L4 N 16=[x0,x1]:=by
           have hl:=oM L4 N 16;match h:ej L4 N 16,hl with
           | [x0,x1],_=>exact⟨x0,x1,rfl⟩
          have A3:=HJ.2.1;rw[hx]at A3 ⊢;exact run_convert_bytes_arg (w:=wr) 80 5 underlying80 underlying5 o 0 2 2 [x0,x1] rfl (fun i hi=>by
           have h:=eW A3 i (.int .u8 ([x0,x1].getD i 0)) (by
            match i,hi with
            | 0,_=>rfl
            | 1,_=>rfl)
           rw[Nat.zero_add];exact h.1) 9 underlying9
         go_wp2_with fail
         go_ret;rw[HS.out];exact⟨rfl,HJ.2.2⟩
end Go.Proofs.YtmmmnghiegajmaaGreat
