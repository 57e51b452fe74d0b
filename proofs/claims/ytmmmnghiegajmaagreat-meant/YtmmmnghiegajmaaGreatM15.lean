import Derived.Test.YtmmmnghiegajmaaGreatM13
import Derived.Laws.BytesArg
import Derived.Test.YtmmmnghiegajmaaGreatM06
set_option maxHeartbeats 4000000
namespace Go.Proofs.Herald
def zhT (n:Int)(k:Nat):Int:=n / 2 ^ (56 - 8*k) % 256
def zfj (n:Int):List Int:=(List.range 8).map (zhT n)
def zcK (n:Int)(k:Nat):List Int:=(List.range k).map (zhT n)++List.replicate (8 - k) 0
theorem zio {n:Int}{k:Nat}(h:k<=8):(zcK n k).length=8:=by unfold zcK;simp;omega
theorem zhI {n:Int}{k:Nat}(h:k<8):(zcK n k).set k (zhT n k)=zcK n (k+1):=by
 match k,h with
 | 0,_=>rfl
 | 1,_=>rfl
 | 2,_=>rfl
 | 3,_=>rfl
 | 4,_=>rfl
 | 5,_=>rfl
 | 6,_=>rfl
 | 7,_=>rfl
end Go.Proofs.Herald
namespace Go.Proofs.YtmmmnghiegajmaaGreat
open Go.RowKit Go.Proofs.Herald
theorem Tryz.infoByte:(Tryz.prog.info? 5).map (fun i=>(i.zero,i.size,i.bytes))=some (some (.int .u8 0),1,1):=by kernel_rfl
set_option maxRecDepth 20000 in
theorem zjd (n:Int)(w:World):
  Calls Tryz.prog 121 #[.int .i64 n] w fun e w'=>e=.returned (.string (strOfNums (zfj n)))/\Below w.heap.size w w':=by
 obtain ⟨i0,hi,hz0,hz1,hz2⟩:=info_parts Tryz.infoByte
 go_enter Tryz.func121,Tryz.ntmps121
 go_wp2_with (at_make;refine wpList_make_full _ rfl _ _ 80 rfl w.heap.size 5 i0 _ 1 Tryz.underlying80 hi hz0 hz1 _ _ _ _ 8 rfl rfl rfl rfl (by rw [hz2];omega) (by unfold maxLen;omega) (Nat.le_refl _) ?_)
 intro w1 hown1 hgrow1
 have HO1:Hid (w1.ownsRow w.heap.size 5 1 (.slice (some ⟨w.heap.size,0,none⟩) 8 8) 8 ((zcK n 0).map fun z=>Value.int .u8 z)):=by
  have e:(madeCells #[Value.int IntKind.u8 0] 8).toList=((zcK n 0).map fun z=>Value.int .u8 z):=by simp [madeCells,List.range,List.range.loop,zcK,List.replicate]
  rw [<- e];exact hown1
 have HB1:Hid (Below w.heap.size w w1):=(Below.refl _ _).grown hgrow1 (Nat.le_refl _) (fun k hk=>by cases hk)
 clear hown1 hgrow1 hi hz0 hz1 hz2
 go_wp2_with fail
 go_loopw [4] (fun i wr=>∃ k:Nat,k<=8/\i=.int .i64 k/\Hid (wr.ownsRow w.heap.size 5 1 (.slice (some ⟨w.heap.size,0,none⟩) 8 8) 8 ((zcK n k).map fun z=>Value.int .u8 z)/\Below w.heap.size w wr)) (fun i _=>8 - (intOf i).toNat)
 case atStart=>exact ⟨0,Nat.zero_le _,rfl,HO1.out,HB1.out⟩
 case round=>
  obtain ⟨k,hk,rfl,HB⟩:=hrel
  have hbl:=zio (n:=n) hk
  by_cases hlt:k<8
  .obtain ⟨u,hu⟩:∃ u,u=(zcK n k)[k]'(by omega):=⟨_,rfl⟩
   obtain ⟨c0,z0⟩:=zbn HB.out.1 k (.int .u8 u) (by simp [hbl,hlt,hu])
   clear hu
   have HN:Hid ((wr.setCell ⟨w.heap.size,k,none⟩ (.int .u8 (zhT n k))).ownsRow w.heap.size 5 1 (.slice (some ⟨w.heap.size,0,none⟩) 8 8) 8 ((zcK n (k+1)).map fun z=>Value.int .u8 z)/\Below w.heap.size w (wr.setCell ⟨w.heap.size,k,none⟩ (.int .u8 (zhT n k)))):=by
    have h:=zcG HB.out.1 k (.int .u8 (zhT n k))
    rw [<- zhI hlt,List.map_set]
    exact ⟨h,HB.out.2.setCell (Nat.le_refl _) _⟩
   clear hbl
   go_wp2_with fail
   go_roundw
   case rel=>exact ⟨k+1,by omega,by go_num,HN⟩
   case measure=>simp [intOf];omega
  .have hk8:k=8:=by omega
   subst hk8
   have HC:(convert 80 9 (.slice (some ⟨w.heap.size,0,none⟩) 8 8)).run Tryz.prog wr=.ok (.string (strOfNums (zfj n))) wr:=
    run_convert_bytes_arg (w:=wr) 80 5 Tryz.underlying80 Tryz.underlying5 w.heap.size 0 8 8 (zfj n) rfl (fun i hi=>by
     have h:=zbn HB.out.1 i (.int .u8 ((zfj n).getD i 0)) (by
      match i,hi with
      | 0,_=>rfl
      | 1,_=>rfl
      | 2,_=>rfl
      | 3,_=>rfl
      | 4,_=>rfl
      | 5,_=>rfl
      | 6,_=>rfl
      | 7,_=>rfl)
     rw [Nat.zero_add];exact h.1) 9 Tryz.underlying9
   clear hbl
   go_wp2_with fail
   go_ret
   exact ⟨rfl,HB.out.2⟩
end Go.Proofs.YtmmmnghiegajmaaGreat
namespace Go.Proofs.Herald
open Go.RowKit
def zqV (b:Int)(m:Nat):Bool:=Go.bits BinOp.and IntKind.i64 (wrap64 b / 2 ^ (7 - m)) 1==1
def zpq (s:ByteArray)(i:Nat):Bool:=zqV ((s.data.getD (i / 8) 0).toNat:Int) (i % 8)
def zcY (s:ByteArray)(n:Nat):List Bool:=(List.range n).map (zpq s)
theorem zil (s:ByteArray)(k m:Nat)(hk:k<s.size)(hm:m<8):zcY s (k*8+m+1)=zcY s (k*8+m)++[zqV (s[k].toNat:Int) m]:=by
 have e1:(k*8+m) / 8=k:=by omega
 have e2:(k*8+m) % 8=m:=by omega
 have e3:s.data.getD k 0=s[k]:=by
  have hk2:k<s.data.size:=hk
  rw [Array.getD_eq_getD_getElem?,Array.getElem?_eq_getElem hk2];rfl
 have e:zpq s (k*8+m)=zqV (s[k].toNat:Int) m:=by unfold zpq;rw [e1,e2,e3]
 unfold zcY
 rw [List.range_succ,List.map_append,List.map_cons,List.map_nil,e]
end Go.Proofs.Herald
namespace Go.Proofs.YtmmmnghiegajmaaGreat
open Go.RowKit Go.Proofs.Herald
set_option maxRecDepth 20000 in
theorem zoj (s:ByteArray)(hs:s.size<=1000)(w:World):
  Calls Tryz.prog 143 #[.string s] w fun e w'=>∃ v,e=.returned v/\w'.ownsRow w.heap.size 4 1 v (s.size*8) ((zcY s (s.size*8)).map fun z:Bool=>Value.bool z)/\Below w.heap.size w w':=by
 go_enter Tryz.func143,Tryz.ntmps143
 go_wp2_with fail
 go_loopw [3,4] (fun v i wr=>∃ k:Nat,k<=s.size/\i=.int .i64 k/\Hid (wr.ownsRow w.heap.size 4 1 v (k*8) ((zcY s (k*8)).map fun z:Bool=>Value.bool z))/\Hid (Below w.heap.size w wr)) (fun _ i _=>s.size - (intOf i).toNat)
 case atStart=>exact ⟨0,Nat.zero_le _,rfl,World.ownsRow_nil _ _ _ _,Below.refl _ _⟩
 case round=>
  obtain ⟨k,hk,rfl,HV,HB⟩:=hrel
  by_cases hlt:k<s.size
  .go_wp2_with fail
   go_loopw [3,5] (fun v' j wr'=>∃ m:Nat,m<=8/\j=.int .i64 (7 - (m:Int))/\Hid (wr'.ownsRow w.heap.size 4 1 v' (k*8+m) ((zcY s (k*8+m)).map fun z:Bool=>Value.bool z))/\Hid (Below w.heap.size w wr')) (fun _ j _=>(intOf j+1).toNat)
   case atStart=>exact ⟨0,Nat.zero_le _,rfl,HV,HB⟩
   case round=>
    obtain ⟨m,hm,rfl,HC,HD⟩:=hrel
    by_cases hlm:m<8
    .have HSU:=zil s k m hlt hlm
     go_wp2_with (at_builtin;refine zbI wr w rfl (.tmp 16) (.tmp 25) 124 rfl 4 _ 1 1 Tryz.underlying124 Tryz.infoBool rfl (by decide) (by decide) w.heap.size _ _ _ (by rfl) HC.out [_] (by rfl) rfl (by simp [Value.oneCell']) (by omega) HD.out HD.out.size ?_)
     intro v2 w2 hown2 hb2 _ _
     have HV2:Hid (w2.ownsRow w.heap.size 4 1 v2 (k*8+(m+1)) ((zcY s (k*8+(m+1))).map fun z:Bool=>Value.bool z)):=by
      rw [<- Nat.add_assoc,HSU,List.map_append];exact hown2
     have HB2:=zHd hb2
     clear hown2 hb2 HSU
     go_wp2_with fail
     go_roundw
     case rel=>exact ⟨m+1,by omega,by go_num,HV2,HB2⟩
     case measure=>simp [intOf];omega
    .have hm8:m=8:=by omega
     subst hm8
     go_wp2_with fail
     go_roundw
     case rel=>exact ⟨k+1,by omega,by go_num,by rw [show (k+1)*8=k*8+8 from by omega];exact HC.out,HD⟩
     case measure=>simp [intOf];omega
  .have hk2:k=s.size:=by omega
   subst hk2
   go_wp2_with fail
   go_ret
   exact ⟨_,rfl,HV.out,HB.out⟩
end Go.Proofs.YtmmmnghiegajmaaGreat
namespace Go.Proofs.Herald
open Go.RowKit
def zjh (l:List Bool)(i:Nat):List Bool:=l.set i (!(l.getD i false))
def zfG (l:List Bool):Nat->List Bool
 | 0=>l
 | k+1=>zjh (zfG l k) k
def zqQ (k:Nat):Bool:=Go.bits BinOp.and IntKind.i64 (4129 / 2 ^ k) 1==1
def ziV (l:List Bool)(i:Nat):Nat->List Bool
 | 0=>l
 | k+1=>if zqQ k then zjh (ziV l i k) (i+16 - k) else ziV l i k
def zi9 (l:List Bool):Nat->List Bool
 | 0=>l
 | i+1=>if (zi9 l i).getD i false then ziV ((zi9 l i).set i false) i 16 else zi9 l i
def zeD (l:List Bool)(n:Nat):Nat->List Int
 | 0=>[0,0]
 | k+1=>if l.getD (n+k) false then (zeD l n k).set (k / 8) (Go.bits BinOp.or IntKind.u8 ((zeD l n k).getD (k / 8) 0) (2 ^ (7 - k % 8))) else zeD l n k
def zq1 (s:ByteArray):List Bool:=zfG (zcY s (s.size*8)) 16++List.replicate 16 false
def zfD (s:ByteArray):ByteArray:=strOfNums (zeD (zi9 (zq1 s) (s.size*8)) (s.size*8) 16)
theorem zh0 (l:List Bool)(i:Nat):(zjh l i).length=l.length:=by simp [zjh]
theorem zha (l:List Bool):∀ k,(zfG l k).length=l.length
 | 0=>rfl
 | k+1=>by rw [zfG,zh0,zha l k]
theorem zgT (l:List Bool)(i:Nat):∀ k,(ziV l i k).length=l.length
 | 0=>rfl
 | k+1=>by
  rw [ziV]
  split
  .rw [zh0,zgT l i k]
  .exact zgT l i k
theorem zfE (l:List Bool):∀ k,(zi9 l k).length=l.length
 | 0=>rfl
 | k+1=>by
  rw [zi9]
  split
  .rw [zgT,List.length_set,zfE l k]
  .exact zfE l k
theorem zfU (l:List Bool)(n:Nat):∀ k,(zeD l n k).length=2
 | 0=>rfl
 | k+1=>by
  rw [zeD]
  split
  .rw [List.length_set,zfU l n k]
  .exact zfU l n k
theorem zi2 (s:ByteArray)(n:Nat):(zcY s n).length=n:=by simp [zcY]
end Go.Proofs.Herald
namespace Go.Proofs.YtmmmnghiegajmaaGreat
open Go.RowKit Go.Proofs.Herald
def zcZ (l:List Bool):List Value:=l.map fun z:Bool=>Value.bool z
theorem ze7 {l:List Bool}{i:Nat}(h:i<l.length):(zcZ l)[i]?=some (.bool (l.getD i false)):=by
 unfold zcZ
 rw [List.getElem?_map,List.getElem?_eq_getElem h]
 simp [List.getD,h]
theorem zgc (l:List Bool)(i:Nat)(b:Bool):zcZ (l.set i b)=(zcZ l).set i (.bool b):=by unfold zcZ;rw [List.map_set]
set_option maxRecDepth 20000 in
theorem zmH (s:ByteArray)(hs2:2<=s.size)(hs:s.size<=1000)(w:World):
  Calls Tryz.prog 116 #[.string s] w fun e w'=>e=.returned (.string (zfD s))/\Below w.heap.size w w':=by
 obtain ⟨i0,hi,hz0,hz1,hz2⟩:=info_parts Tryz.infoByte
 obtain ⟨N,hN⟩:∃ N,N=s.size*8:=⟨_,rfl⟩
 have HN:=zHd hN
 obtain ⟨L,hL⟩:∃ L,L=zcY s N:=⟨_,rfl⟩
 have hLl:L.length=N:=by rw [hL,zi2]
 have HLL:=zHd hLl
 have HB:Hid (∀ w:World,Calls Tryz.prog 143 #[.string s] w fun e w'=>∃ v,e=.returned v/\w'.ownsRow w.heap.size 4 1 v N (zcZ L)/\Below w.heap.size w w'):=fun w=>by
  rw [hL,hN];exact zoj s hs w
 have HS:Hid (zfD s=strOfNums (zeD (zi9 (zfG L 16++List.replicate 16 false) N) N 16)):=by
  show _=_
  rw [hL,hN];rfl
 have hN16:16<=N:=by omega
 have hN8:N<=8000:=by omega
 clear hN hL hLl hs2 hs
 go_enter Tryz.func116,Tryz.ntmps116
 go_wp2_with fail
 refine (HB.out _).mono ?_
 rintro e w1 ⟨v,rfl,ho1,hb1⟩
 obtain ⟨g,cap,rfl,hgB,_⟩:=ho1.form (by omega)
 have H1:Hid (w1.ownsRow w.heap.size 4 1 (.slice (some ⟨g,0,none⟩) N cap) N (zcZ L)/\Below w.heap.size w w1):=⟨ho1,hb1⟩
 obtain ⟨hcap,_,hmax⟩:=zdh (zcr ho1)
 unfold maxLen at hmax
 clear ho1 hb1 HB
 go_wp2_with fail
 go_loopw [4] (fun i wr=>∃ k:Nat,k<=16/\i=.int .i64 k/\Hid (wr.ownsRow w.heap.size 4 1 (.slice (some ⟨g,0,none⟩) N cap) N (zcZ (zfG L k))/\Below w.heap.size w wr)) (fun i _=>16 - (intOf i).toNat)
 case atStart=>exact ⟨0,Nat.zero_le _,rfl,H1⟩
 case round=>
  obtain ⟨k,hk,rfl,HK⟩:=hrel
  by_cases hlt:k<16
  .obtain ⟨c0,z0⟩:=zbn HK.out.1 k _ (ze7 (by rw [zha,HLL.out];omega))
   have HS2:Hid ((wr.setCell ⟨g,k,none⟩ (.bool (!(zfG L k).getD k false))).ownsRow w.heap.size 4 1 (.slice (some ⟨g,0,none⟩) N cap) N (zcZ (zfG L (k+1)))/\Below w.heap.size w (wr.setCell ⟨g,k,none⟩ (.bool (!(zfG L k).getD k false)))):=by
    refine ⟨?_,HK.out.2.setCell (p:=⟨g,k,none⟩) hgB _⟩
    have h:=zcG HK.out.1 k (.bool (!(zfG L k).getD k false))
    rw [<- zgc] at h
    exact h
   generalize (zfG L k).getD k false=bb at *
   have hkN:k<N:=by omega
   go_wp2_with fail
   go_roundw
   case rel=>exact ⟨k+1,by omega,by go_num,HS2⟩
   case measure=>simp [intOf];omega
  .have hk16:k=16:=by omega
   rw [hk16] at HK
   clear hk16
   go_wp2_with fail
   go_loopw [3,6] (fun v i wr'=>∃ k:Nat,k<=16/\i=.int .i64 k/\Hid (wr'.ownsRow w.heap.size 4 1 v (N+k) (zcZ (zfG L 16++List.replicate k false))/\Below w.heap.size w wr')) (fun _ i _=>16 - (intOf i).toNat)
   case atStart=>
    refine ⟨0,Nat.zero_le _,rfl,?_⟩
    rw [List.replicate_zero,List.append_nil]
    exact HK
   case round=>
    obtain ⟨m,hm2,rfl,HA⟩:=hrel
    by_cases hlt2:m<16
    .go_wp2_with (at_builtin;refine zbI wr w rfl (.tmp 31) (.tmp 32) 124 rfl 4 _ 1 1 Tryz.underlying124 Tryz.infoBool rfl (by decide) (by decide) w.heap.size _ _ _ (by rfl) HA.out.1 [_] (by rfl) rfl (by simp [Value.oneCell']) (by omega) HA.out.2 HA.out.2.size ?_)
     intro v2 w2 hown2 hb2 _ _
     have HV2:Hid (w2.ownsRow w.heap.size 4 1 v2 (N+(m+1)) (zcZ (zfG L 16++List.replicate (m+1) false))/\Below w.heap.size w w2):=by
      refine ⟨?_,hb2⟩
      rw [<- Nat.add_assoc,List.replicate_succ',<- List.append_assoc]
      unfold zcZ at hown2 ⊢
      rw [List.map_append]
      exact hown2
     clear hown2 hb2
     go_wp2_with fail
     go_roundw
     case rel=>exact ⟨m+1,by omega,by go_num,HV2⟩
     case measure=>simp [intOf];omega
    .have hm16:m=16:=by omega
     rw [hm16] at HA
     clear HK H1 hlt hk hm16
     obtain ⟨L2,hL2⟩:∃ L2,L2=zfG L 16++List.replicate 16 false:=⟨_,rfl⟩
     rw [<- hL2] at HA HS
     have hL2l:L2.length=N+16:=by rw [hL2];simp [zha,HLL.out]
     have HL2:=zHd hL2l
     clear hL2 hL2l
     obtain ⟨g2,cap2,hv2,hg2B,_⟩:=HA.out.1.form (by omega)
     subst hv2
     obtain ⟨hcap2,_,hmax2⟩:=zdh (zcr HA.out.1)
     unfold maxLen at hmax2
     clear hcap hmax hgB
     go_wp2_with fail
     go_loopw [7] (fun i wr'=>∃ k:Nat,k<=N/\i=.int .i64 k/\Hid (wr'.ownsRow w.heap.size 4 1 (.slice (some ⟨g2,0,none⟩) (N+16) cap2) (N+16) (zcZ (zi9 L2 k))/\Below w.heap.size w wr')) (fun i _=>N - (intOf i).toNat)
     case atStart=>exact ⟨0,Nat.zero_le _,rfl,HA⟩
     case round=>
      obtain ⟨k,hk,rfl,HK⟩:=hrel
      by_cases hlt:k<N
      .obtain ⟨c0,z0⟩:=zbn HK.out.1 k _ (ze7 (by rw [zfE,HL2.out];omega))
       cases hb:(zi9 L2 k).getD k false with
       | false=>
        rw [hb] at c0
        have HE:Hid (zi9 L2 (k+1)=zi9 L2 k):=by show _=_;rw [zi9,hb];rfl
        clear hb
        go_wp2_with fail
        go_roundw
        case rel=>exact ⟨k+1,by omega,by go_num,by rw [HE.out];exact HK.out⟩
        case measure=>simp [intOf];omega
       | true=>
        rw [hb] at c0
        have HE:Hid (zi9 L2 (k+1)=ziV ((zi9 L2 k).set k false) k 16):=by show _=_;rw [zi9,hb];rfl
        clear hb
        obtain ⟨L3,hL3⟩:∃ L3,L3=(zi9 L2 k).set k false:=⟨_,rfl⟩
        rw [<- hL3] at HE
        have HL3:Hid (L3.length=N+16):=by show _=_;rw [hL3,List.length_set,zfE,HL2.out]
        have HS3:Hid ((wr.setCell ⟨g2,k,none⟩ (.bool false)).ownsRow w.heap.size 4 1 (.slice (some ⟨g2,0,none⟩) (N+16) cap2) (N+16) (zcZ L3)/\Below w.heap.size w (wr.setCell ⟨g2,k,none⟩ (.bool false))):=by
         refine ⟨?_,HK.out.2.setCell (p:=⟨g2,k,none⟩) hg2B _⟩
         have h:=zcG HK.out.1 k (.bool false)
         rw [<- zgc,<- hL3] at h
         exact h
        clear hL3 HK
        go_wp2_with fail
        go_loopw [8] (fun i wr'=>∃ j:Nat,j<=16/\i=.int .i64 j/\Hid (wr'.ownsRow w.heap.size 4 1 (.slice (some ⟨g2,0,none⟩) (N+16) cap2) (N+16) (zcZ (ziV L3 k j))/\Below w.heap.size w wr')) (fun i _=>16 - (intOf i).toNat)
        case atStart=>exact ⟨0,Nat.zero_le _,rfl,HS3⟩
        case round=>
         obtain ⟨j,hj,rfl,HJ⟩:=hrel
         by_cases hlj:j<16
         .obtain ⟨e0,f0⟩:=zbn HJ.out.1 (k+16 - j) _ (ze7 (by rw [zgT,HL3.out];omega))
          have hij:((k:Int)+16 - (j:Int)).toNat=k+16 - j:=by omega
          cases hd:zqQ j with
          | true=>
           have HE2:Hid (ziV L3 k (j+1)=zjh (ziV L3 k j) (k+16 - j)):=by show _=_;rw [ziV,hd];rfl
           have HS4:Hid ((wr.setCell ⟨g2,k+16 - j,none⟩ (.bool (!(ziV L3 k j).getD (k+16 - j) false))).ownsRow w.heap.size 4 1 (.slice (some ⟨g2,0,none⟩) (N+16) cap2) (N+16) (zcZ (ziV L3 k (j+1)))/\Below w.heap.size w (wr.setCell ⟨g2,k+16 - j,none⟩ (.bool (!(ziV L3 k j).getD (k+16 - j) false)))):=by
            refine ⟨?_,HJ.out.2.setCell (p:=⟨g2,k+16 - j,none⟩) hg2B _⟩
            have h:=zcG HJ.out.1 (k+16 - j) (.bool (!(ziV L3 k j).getD (k+16 - j) false))
            rw [<- zgc] at h
            rw [HE2.out]
            exact h
           unfold zqQ at hd
           generalize (ziV L3 k j).getD (k+16 - j) false=bb at *
           go_wp2_with fail
           go_roundw
           case rel=>exact ⟨j+1,by omega,by go_num,HS4⟩
           case measure=>simp [intOf];omega
          | false=>
           have HE2:Hid (ziV L3 k (j+1)=ziV L3 k j):=by show _=_;rw [ziV,hd];rfl
           unfold zqQ at hd
           go_wp2_with fail
           go_roundw
           case rel=>exact ⟨j+1,by omega,by go_num,by rw [HE2.out];exact HJ.out⟩
           case measure=>simp [intOf];omega
         .have hj16:j=16:=by omega
          rw [hj16] at HJ
          clear hj16
          go_wp2_with fail
          go_roundw
          case rel=>exact ⟨k+1,by omega,by go_num,by rw [HE.out];exact HJ.out⟩
          case measure=>simp [intOf];omega
      .have hkN:k=N:=by omega
       rw [hkN] at HK
       clear hkN
       obtain ⟨L4,hL4⟩:∃ L4,L4=zi9 L2 N:=⟨_,rfl⟩
       rw [<- hL4] at HK HS
       have HL4:Hid (L4.length=N+16):=by show _=_;rw [hL4,zfE,HL2.out]
       clear hL4 HA
       go_wp2_with (at_make;refine wpList_make_full _ rfl _ _ 80 rfl w.heap.size 5 i0 _ 1 Tryz.underlying80 hi hz0 hz1 _ _ _ _ 2 rfl rfl rfl rfl (by rw [hz2];omega) (by unfold maxLen;omega) HK.out.2.size ?_)
       intro w1 hown1 hgrow1
       obtain ⟨o,ho⟩:∃ o,o=wr.heap.size:=⟨_,rfl⟩
       rw [<- ho] at hown1 ⊢
       have hoB:w.heap.size<=o:=by rw [ho];exact HK.out.2.size
       have H5:Hid (w1.ownsRow w.heap.size 4 1 (.slice (some ⟨g2,0,none⟩) (N+16) cap2) (N+16) (zcZ L4)/\w1.ownsRow w.heap.size 5 1 (.slice (some ⟨o,0,none⟩) 2 2) 2 ((zeD L4 N 0).map fun z=>Value.int .u8 z)/\Below w.heap.size w w1):=by
        refine ⟨zaJ HK.out.1 fun b hb=>?_,?_,HK.out.2.grown hgrow1 HK.out.2.size (fun k hk=>by cases hk)⟩
        .obtain ⟨c,hc⟩:=zad (zcr HK.out.1) hb
         exact hgrow1.block b (zae hc) (by simp)
        .have e:(madeCells #[Value.int IntKind.u8 0] 2).toList=((zeD L4 N 0).map fun z=>Value.int .u8 z):=by simp [madeCells,List.range,List.range.loop,zeD]
         rw [<- e];exact hown1
       clear hown1 hgrow1 ho HK hi hz0 hz1 hz2
       go_wp2_with fail
       go_loopw [10] (fun i wr'=>∃ k:Nat,k<=16/\i=.int .i64 k/\Hid (wr'.ownsRow w.heap.size 4 1 (.slice (some ⟨g2,0,none⟩) (N+16) cap2) (N+16) (zcZ L4)/\wr'.ownsRow w.heap.size 5 1 (.slice (some ⟨o,0,none⟩) 2 2) 2 ((zeD L4 N k).map fun z=>Value.int .u8 z)/\Below w.heap.size w wr')) (fun i _=>16 - (intOf i).toNat)
       case atStart=>exact ⟨0,Nat.zero_le _,rfl,H5⟩
       case round=>
        clear H5
        obtain ⟨j,hj,rfl,HJ⟩:=hrel
        by_cases hlj:j<16
        .obtain ⟨e0,f0⟩:=zbn HJ.out.1 (N+j) _ (ze7 (by rw [HL4.out];omega))
         cases hb:L4.getD (N+j) false with
         | false=>
          rw [hb] at e0
          have HE:Hid (zeD L4 N (j+1)=zeD L4 N j):=by show _=_;rw [zeD,hb];rfl
          clear hb
          go_wp2_with fail
          go_roundw
          case rel=>exact ⟨j+1,by omega,by go_num,by rw [HE.out];exact HJ.out⟩
          case measure=>simp [intOf];omega
         | true=>
          rw [hb] at e0
          obtain ⟨x0,x1,hx⟩:∃ x0 x1,zeD L4 N j=[x0,x1]:=by
           have hl:=zfU L4 N j
           match h:zeD L4 N j,hl with
           | [x0,x1],_=>exact ⟨x0,x1,rfl⟩
          have HE:Hid (zeD L4 N (j+1)=[x0,x1].set (j / 8) (Go.bits BinOp.or IntKind.u8 ([x0,x1].getD (j / 8) 0) (2 ^ (7 - j % 8)))):=by show _=_;rw [zeD,hb,hx];rfl
          have HJ2:=HJ.out
          rw [hx] at HJ2
          obtain ⟨x0c,x0f⟩:=zbn HJ2.2.1 0 (.int .u8 x0) rfl
          obtain ⟨x1c,x1f⟩:=zbn HJ2.2.1 1 (.int .u8 x1) rfl
          have HSO:Hid (∀ i z,i<2->(wr.setCell ⟨o,i,none⟩ (.int .u8 z)).drew.ownsRow w.heap.size 4 1 (.slice (some ⟨g2,0,none⟩) (N+16) cap2) (N+16) (zcZ L4)/\(wr.setCell ⟨o,i,none⟩ (.int .u8 z)).drew.ownsRow w.heap.size 5 1 (.slice (some ⟨o,0,none⟩) 2 2) 2 (([x0,x1].set i z).map fun z=>Value.int .u8 z)/\Below w.heap.size w (wr.setCell ⟨o,i,none⟩ (.int .u8 z)).drew):=by
           intro i z _
           refine ⟨zaJ HJ2.1 fun b hb'=>?_,?_,(HJ2.2.2.setCell (p:=⟨o,i,none⟩) hoB _).drew⟩
           .obtain ⟨c,hc⟩:=zad (zcr HJ2.1) hb'
            obtain ⟨c2,hc2⟩:=zad (zcr HJ2.2.1) (k:=o) rfl
            exact Below.heap_setCell _ _ _ _ (zac hc hc2 (by decide))
           .rw [List.map_set];exact zaJ (zcG HJ2.2.1 i (.int .u8 z)) fun _ _=>rfl
          clear hb hx HJ2 HJ
          rcases (show j=0\/j=1\/j=2\/j=3\/j=4\/j=5\/j=6\/j=7\/j=8\/j=9\/j=10\/j=11\/j=12\/j=13\/j=14\/j=15 by omega) with rfl|rfl|rfl|rfl|rfl|rfl|rfl|rfl|rfl|rfl|rfl|rfl|rfl|rfl|rfl|rfl
          .have HE2:Hid (zeD L4 N 1=[Go.bits BinOp.or IntKind.u8 x0 128,x1]):=HE.out
           simp only [Nat.add_zero] at e0
           go_wp2_with fail
           go_region
           all_goals
            go_wp2_with fail
            go_roundw
            case rel=>exact ⟨1,by omega,by go_num,by rw [HE2.out];exact HSO.out 0 (Go.bits BinOp.or IntKind.u8 x0 128) (by omega)⟩
            case measure=>simp [intOf]
          .have HE2:Hid (zeD L4 N 2=[Go.bits BinOp.or IntKind.u8 x0 64,x1]):=HE.out
           go_wp2_with fail
           go_region
           all_goals
            go_wp2_with fail
            go_roundw
            case rel=>exact ⟨2,by omega,by go_num,by rw [HE2.out];exact HSO.out 0 (Go.bits BinOp.or IntKind.u8 x0 64) (by omega)⟩
            case measure=>simp [intOf]
          .have HE2:Hid (zeD L4 N 3=[Go.bits BinOp.or IntKind.u8 x0 32,x1]):=HE.out
           go_wp2_with fail
           go_region
           all_goals
            go_wp2_with fail
            go_roundw
            case rel=>exact ⟨3,by omega,by go_num,by rw [HE2.out];exact HSO.out 0 (Go.bits BinOp.or IntKind.u8 x0 32) (by omega)⟩
            case measure=>simp [intOf]
          .have HE2:Hid (zeD L4 N 4=[Go.bits BinOp.or IntKind.u8 x0 16,x1]):=HE.out
           go_wp2_with fail
           go_region
           all_goals
            go_wp2_with fail
            go_roundw
            case rel=>exact ⟨4,by omega,by go_num,by rw [HE2.out];exact HSO.out 0 (Go.bits BinOp.or IntKind.u8 x0 16) (by omega)⟩
            case measure=>simp [intOf]
          .have HE2:Hid (zeD L4 N 5=[Go.bits BinOp.or IntKind.u8 x0 8,x1]):=HE.out
           go_wp2_with fail
           go_region
           all_goals
            go_wp2_with fail
            go_roundw
            case rel=>exact ⟨5,by omega,by go_num,by rw [HE2.out];exact HSO.out 0 (Go.bits BinOp.or IntKind.u8 x0 8) (by omega)⟩
            case measure=>simp [intOf]
          .have HE2:Hid (zeD L4 N 6=[Go.bits BinOp.or IntKind.u8 x0 4,x1]):=HE.out
           go_wp2_with fail
           go_region
           all_goals
            go_wp2_with fail
            go_roundw
            case rel=>exact ⟨6,by omega,by go_num,by rw [HE2.out];exact HSO.out 0 (Go.bits BinOp.or IntKind.u8 x0 4) (by omega)⟩
            case measure=>simp [intOf]
          .have HE2:Hid (zeD L4 N 7=[Go.bits BinOp.or IntKind.u8 x0 2,x1]):=HE.out
           go_wp2_with fail
           go_region
           all_goals
            go_wp2_with fail
            go_roundw
            case rel=>exact ⟨7,by omega,by go_num,by rw [HE2.out];exact HSO.out 0 (Go.bits BinOp.or IntKind.u8 x0 2) (by omega)⟩
            case measure=>simp [intOf]
          .have HE2:Hid (zeD L4 N 8=[Go.bits BinOp.or IntKind.u8 x0 1,x1]):=HE.out
           go_wp2_with fail
           go_region
           all_goals
            go_wp2_with fail
            go_roundw
            case rel=>exact ⟨8,by omega,by go_num,by rw [HE2.out];exact HSO.out 0 (Go.bits BinOp.or IntKind.u8 x0 1) (by omega)⟩
            case measure=>simp [intOf]
          .have HE2:Hid (zeD L4 N 9=[x0,Go.bits BinOp.or IntKind.u8 x1 128]):=HE.out
           go_wp2_with fail
           go_region
           all_goals
            go_wp2_with fail
            go_roundw
            case rel=>exact ⟨9,by omega,by go_num,by rw [HE2.out];exact HSO.out 1 (Go.bits BinOp.or IntKind.u8 x1 128) (by omega)⟩
            case measure=>simp [intOf]
          .have HE2:Hid (zeD L4 N 10=[x0,Go.bits BinOp.or IntKind.u8 x1 64]):=HE.out
           go_wp2_with fail
           go_region
           all_goals
            go_wp2_with fail
            go_roundw
            case rel=>exact ⟨10,by omega,by go_num,by rw [HE2.out];exact HSO.out 1 (Go.bits BinOp.or IntKind.u8 x1 64) (by omega)⟩
            case measure=>simp [intOf]
          .have HE2:Hid (zeD L4 N 11=[x0,Go.bits BinOp.or IntKind.u8 x1 32]):=HE.out
           go_wp2_with fail
           go_region
           all_goals
            go_wp2_with fail
            go_roundw
            case rel=>exact ⟨11,by omega,by go_num,by rw [HE2.out];exact HSO.out 1 (Go.bits BinOp.or IntKind.u8 x1 32) (by omega)⟩
            case measure=>simp [intOf]
          .have HE2:Hid (zeD L4 N 12=[x0,Go.bits BinOp.or IntKind.u8 x1 16]):=HE.out
           go_wp2_with fail
           go_region
           all_goals
            go_wp2_with fail
            go_roundw
            case rel=>exact ⟨12,by omega,by go_num,by rw [HE2.out];exact HSO.out 1 (Go.bits BinOp.or IntKind.u8 x1 16) (by omega)⟩
            case measure=>simp [intOf]
          .have HE2:Hid (zeD L4 N 13=[x0,Go.bits BinOp.or IntKind.u8 x1 8]):=HE.out
           go_wp2_with fail
           go_region
           all_goals
            go_wp2_with fail
            go_roundw
            case rel=>exact ⟨13,by omega,by go_num,by rw [HE2.out];exact HSO.out 1 (Go.bits BinOp.or IntKind.u8 x1 8) (by omega)⟩
            case measure=>simp [intOf]
          .have HE2:Hid (zeD L4 N 14=[x0,Go.bits BinOp.or IntKind.u8 x1 4]):=HE.out
           go_wp2_with fail
           go_region
           all_goals
            go_wp2_with fail
            go_roundw
            case rel=>exact ⟨14,by omega,by go_num,by rw [HE2.out];exact HSO.out 1 (Go.bits BinOp.or IntKind.u8 x1 4) (by omega)⟩
            case measure=>simp [intOf]
          .have HE2:Hid (zeD L4 N 15=[x0,Go.bits BinOp.or IntKind.u8 x1 2]):=HE.out
           go_wp2_with fail
           go_region
           all_goals
            go_wp2_with fail
            go_roundw
            case rel=>exact ⟨15,by omega,by go_num,by rw [HE2.out];exact HSO.out 1 (Go.bits BinOp.or IntKind.u8 x1 2) (by omega)⟩
            case measure=>simp [intOf]
          .have HE2:Hid (zeD L4 N 16=[x0,Go.bits BinOp.or IntKind.u8 x1 1]):=HE.out
           go_wp2_with fail
           go_region
           all_goals
            go_wp2_with fail
            go_roundw
            case rel=>exact ⟨16,by omega,by go_num,by rw [HE2.out];exact HSO.out 1 (Go.bits BinOp.or IntKind.u8 x1 1) (by omega)⟩
            case measure=>simp [intOf]
        .have hj16:j=16:=by omega
         subst hj16
         have HC:(convert 80 9 (.slice (some ⟨o,0,none⟩) 2 2)).run Tryz.prog wr=.ok (.string (strOfNums (zeD L4 N 16))) wr:=by
          obtain ⟨x0,x1,hx⟩:∃ x0 x1,zeD L4 N 16=[x0,x1]:=by
           have hl:=zfU L4 N 16
           match h:zeD L4 N 16,hl with
           | [x0,x1],_=>exact ⟨x0,x1,rfl⟩
          have HJ2:=HJ.out.2.1
          rw [hx] at HJ2 ⊢
          exact run_convert_bytes_arg (w:=wr) 80 5 Tryz.underlying80 Tryz.underlying5 o 0 2 2 [x0,x1] rfl (fun i hi=>by
           have h:=zbn HJ2 i (.int .u8 ([x0,x1].getD i 0)) (by
            match i,hi with
            | 0,_=>rfl
            | 1,_=>rfl)
           rw [Nat.zero_add];exact h.1) 9 Tryz.underlying9
         go_wp2_with fail
         go_ret
         rw [HS.out]
         exact ⟨rfl,HJ.out.2.2⟩
end Go.Proofs.YtmmmnghiegajmaaGreat
