import Derived.Test.YtmmmnghiegajmaaGreatM46
import Derived.Test.YtmmmnghiegajmaaGreatM48
set_option maxHeartbeats 4000000
namespace Go.Proofs.YtmmmnghiegajmaaGreat
open Go.RowKit Go.Proofs.Herald
theorem zlL (t:ByteArray)(ht:t.size<=400)(tr:Tree 5)(hT:TextOk t tr)(w:World):
  Calls Tryz.prog 8 #[.string t] w fun e w'=>∃ S Q pg,e=.returned (.pointer (some ⟨S,0,none⟩))/\w.heap.size<=S/\w.heap.size<=Q /\
   (w'.heap[S]?=some (.cells #[.bool true,pg,.slice none 0 0,.int .i64 0,.int .i64 0,.slice none 0 0,.slice (some ⟨Q,0,none⟩) 3 3,.string ⟨#[]⟩] 60 (0,0))/\w'.heap[Q]?=some (.cells #[.slice none 0 0,.slice none 0 0,.slice none 0 0] 99 (0,0))) /\
   TreeAt t w' (fun _=>True) 5 pg tr/\Below w.heap.size w w':=by
 have HG:Hid (GT t 5 (za2 t.data.toList) tr):=hT.words
 have hwl:(za2 t.data.toList).length<=400:=by
  have h2:=zbr t.data.toList
  have h3:t.data.toList.length=t.size:=by simp
  omega
 clear hT
 go_enter Tryz.func8,Tryz.ntmps8
 go_wp2_with fail
 refine (zmR _).mono ?_
 rintro e w1 ⟨S,Q,rfl,hS,hQ,hn,hb⟩
 have c0:w1.cell? ⟨S,0,none⟩=some (.bool false):=(zaa hn.1).trans rfl
 have z0:w1.frozen? ⟨S,0,none⟩=false:=zab hn.1
 have HN:Hid (zpb w1 S Q (.slice none 0 0)/\Below w.heap.size w w1):=⟨hn,hb⟩
 clear hn hb
 go_wp2_with fail
 refine (zgG t _ ht).mono ?_
 rintro e w2 ⟨a,cap,L,rfl,hcap,hws,hb2⟩
 generalize za2 t.data.toList=ws at *
 have HBL:Hid (Calls Tryz.prog 24 #[.slice a ws.length cap] w2 fun e w'=>∃ aa na ca,e=.returned (.slice aa na ca)/\TreeAt t w' (fun k=>w2.heap.size<=k) 5 (.slice aa na ca) tr/\Below w2.heap.size w2 w'):=
  ziX t ht 5 ws tr a L 0 cap ws.length w2 rfl HG.out hwl hcap (fun h=>⟨(hws h).1,(hws h).2.2.1,(hws h).2.2.2⟩)
 have HB2:=zHd hb2
 clear hws hb2 hwl hcap
 go_wp2_with fail
 refine HBL.out.mono ?_
 rintro e w3 ⟨aa,na,ca,rfl,htr,hb3⟩
 have hsz:(w1.setCell ⟨S,0,none⟩ (.bool true)).heap.size=w1.heap.size:=by simp
 have hb13:=HB2.out.trans (hb3.mono HB2.out.size)
 have hS1:(w1.setCell ⟨S,0,none⟩ (.bool true)).heap[S]?=some (.cells #[.bool true,.slice none 0 0,.slice none 0 0,.int .i64 0,.int .i64 0,.slice none 0 0,.slice (some ⟨Q,0,none⟩) 3 3,.string ⟨#[]⟩] 60 (0,0)):=by rw [zah _ HN.out.1.1];rfl
 have hS3:=(hb13.block S (zae hS1)).trans hS1
 have hQ1:(w1.setCell ⟨S,0,none⟩ (.bool true)).heap[Q]?=some (.cells #[.slice none 0 0,.slice none 0 0,.slice none 0 0] 99 (0,0)):=by rw [Below.heap_setCell _ _ _ _ (zac HN.out.1.2 HN.out.1.1 (by decide))];exact HN.out.1.2
 have hQ3:=(hb13.block Q (zae hQ1)).trans hQ1
 have c1:w3.cell? ⟨S,1,none⟩=some (.slice none 0 0):=(zaa hS3).trans rfl
 have z1:w3.frozen? ⟨S,1,none⟩=false:=zab hS3
 have HEND:Hid ((w3.setCell ⟨S,1,none⟩ (.slice aa na ca)).heap[S]?=some (.cells #[.bool true,.slice aa na ca,.slice none 0 0,.int .i64 0,.int .i64 0,.slice none 0 0,.slice (some ⟨Q,0,none⟩) 3 3,.string ⟨#[]⟩] 60 (0,0)) /\
   (w3.setCell ⟨S,1,none⟩ (.slice aa na ca)).heap[Q]?=some (.cells #[.slice none 0 0,.slice none 0 0,.slice none 0 0] 99 (0,0))/\TreeAt t (w3.setCell ⟨S,1,none⟩ (.slice aa na ca)) (fun _=>True) 5 (.slice aa na ca) tr/\Below w.heap.size w (w3.setCell ⟨S,1,none⟩ (.slice aa na ca))):=by
  refine ⟨?_,?_,?_,?_⟩
  .rw [zah _ hS3];rfl
  .rw [Below.heap_setCell _ _ _ _ (zac hQ3 hS3 (by decide))];exact hQ3
  .refine TreeAt.mono (fun _ _=>trivial) _ _ _ (TreeAt.keep (X:=fun k=>w2.heap.size<=k) (fun k hk=>Below.heap_setCell _ _ _ _ ?_) _ _ _ htr)
   show k≠S
   have:=zae hS1
   have:=HB2.out.size
   omega
  .refine ((HN.out.2.setCell (p:=⟨S,0,none⟩) hS _).trans (hb13.mono ?_)).setCell (p:=⟨S,1,none⟩) hS _
   rw [hsz]
   exact HN.out.2.size
 clear htr hb3 hb13 hS1 hS3 hQ1 hQ3 hsz HB2 HBL
 go_wp2_with fail
 go_ret
 exact ⟨S,Q,_,rfl,hS,hQ,⟨HEND.out.1,HEND.out.2.1⟩,HEND.out.2.2.1,HEND.out.2.2.2⟩
set_option maxRecDepth 20000 in
theorem zmj (t:ByteArray)(sa:Option Addr)(sb soff scap:Nat)(ops:List OpI)(w:World)(hsc:zmN w sa sb soff ops)(hlen:ops.length<=1048576):
  Calls Tryz.prog 3 #[.string t,.slice sa ops.length scap] w fun e w'=>e=.returned (.bool true)/\Below w.heap.size w w':=by
 have HSC:=zHd hsc
 clear hsc
 rcases zmC t with ⟨tr,hT,ht,hL⟩|⟨m,f,p,hf,hC,hL⟩
 .have HT:=zHd hT
  have HL:=zHd hL
  have HOK:Hid (∀ (X:Nat->Prop) (O:Nat) (n:Int) (cv rv qv:Value) (cb rb qb:List (Value×List Value)) (w:World),0<=n->n<=900000000->cb.length<=10000000->OwnAt w X O n cv rv qv cb rb qb->(∀ k,X k->k<w.heap.size) ->
    Calls Tryz.prog 5 #[.string t,.pointer (some ⟨O,0,none⟩)] w fun e w'=>∃ S X' cv' cb',e=.returned (.tuple #[.slice (some ⟨S,0,none⟩) (zbj t tr).length (zbj t tr).length,.bool true])/\CompOut X O n rv qv cb rb qb (zbj t tr) w w' S X' cv' cb'):=
   fun X O n cv rv qv cb rb qb w h1 h2 h3 h4 h5=>zke t ht tr hT _ hL X O n cv rv qv cb rb qb w h1 h2 h3 h4 h5
  have HS:Hid (zbq (zbj t tr)=true):=hT.sound ht
  have HK:Hid (∀ (pg:Value) (B0:Nat),Kinds (zgs t tr pg B0) (fun r=>∃ p,Tied t (zbj t tr) 6400 p r/\zoy (zbj t tr) p) (fun r m=>∃ p,Tied t (zbj t tr) 6400 p r/\StR p m) (fun w=>TreeAt t w (fun _=>True) 5 pg tr) (zbj t tr)):=fun pg B0=>zmD hT ht pg B0
  have HOT:Hid (∀ w:World,Calls Tryz.prog 8 #[.string t] w _):=fun w=>zlL t ht tr hT w
  clear hL hT
  generalize zcy (zay t 5 tr).1 (zay t 5 tr).2=LM at *
  generalize zbj t tr=C at *
  go_enter Tryz.func3,Tryz.ntmps3
  go_wp2_with fail
  refine (HOK.out (fun k=>k=w.heap.size) w.heap.size 0 _ _ _ [] [] [] _ (by omega) (by omega) (by simp) (zpX _ _ (heap_alloc_new _ _)) (fun k hk=>by rw [hk];simp)).mono ?_
  rintro e w1 ⟨S1,X1,cv1,cb1,rfl,h1⟩
  have H1:Hid (w1.heap[S1]?=some (.cells (zai C).toArray 91 (0,0))/\Below w.heap.size w w1):=by
   have f1:=h1.fr
   refine ⟨h1.code,⟨f1.os,f1.tape,f1.output,?_,fun k hk=>?_⟩⟩
   .have:=f1.size
    simp at this
    omega
   .rw [f1.block k (by simp;omega) (by omega),Below.heap_alloc _ _ _ hk]
  clear h1 HOK
  go_wp2_with fail
  refine (HL.out _).mono ?_
  rintro e w2 ⟨rfl,hb2⟩
  have H2:Hid (CodeIn w2 (some ⟨S1,0,none⟩) S1 0 C/\Below w.heap.size w w2):=⟨(zhH H1.out.1).keep hb2,H1.out.2.trans (hb2.mono H1.out.2.size)⟩
  clear hb2 H1 HL
  go_wp2_with fail
  refine (zmS (some ⟨S1,0,none⟩) S1 0 C.length C _ H2.out.1 HS.out).mono ?_
  rintro e w3 ⟨H,v,rfl,hH,hgH,hvo,hb3⟩
  have H3:Hid (w3.heap[H]?=some (.cells (zjv v) 114 (0,0))/\w3.ownsRow w2.heap.size 91 4 v C.length (zai C)/\Below w2.heap.size w2 w3):=⟨hgH,hvo,hb3⟩
  clear hgH hb3 hvo
  go_wp2_with fail
  refine (HOT.out _).mono ?_
  rintro e w4 ⟨S,Q,pg,rfl,hS,hQ,hsn,htr,hb4⟩
  have HPP:Hid (PP (zgs t tr pg w.heap.size) (fun w'=>TreeAt t w' (fun _=>True) 5 pg tr) (w4.alloc (.cells #[.pointer (some ⟨H,0,none⟩),.pointer (some ⟨S,0,none⟩),.slice none 0 0,.string ⟨#[]⟩] 42)) w4.heap.size H S Q (.slice none 0 0) (.string ⟨#[]⟩) C zgF zgF (zfR v)/\Below w.heap.size w (w4.alloc (.cells #[.pointer (some ⟨H,0,none⟩),.pointer (some ⟨S,0,none⟩),.slice none 0 0,.string ⟨#[]⟩] 42))):=by
   have hs2:=H2.out.2.size
   have hs3:=H3.out.2.2.size
   have hs4:=hb4.size
   have hbA:Below w4.heap.size w4 (w4.alloc (.cells #[.pointer (some ⟨H,0,none⟩),.pointer (some ⟨S,0,none⟩),.slice none 0 0,.string ⟨#[]⟩] 42)):=(Below.refl _ _).alloc (Nat.le_refl _) _
   have hb34:Below w3.heap.size w3 (w4.alloc (.cells #[.pointer (some ⟨H,0,none⟩),.pointer (some ⟨S,0,none⟩),.slice none 0 0,.string ⟨#[]⟩] 42)):=hb4.trans (hbA.mono hs4)
   have hbw:Below w.heap.size w (w4.alloc (.cells #[.pointer (some ⟨H,0,none⟩),.pointer (some ⟨S,0,none⟩),.slice none 0 0,.string ⟨#[]⟩] 42)):=(H2.out.2.trans (H3.out.2.2.mono hs2)).trans (hb34.mono (by omega))
   refine ⟨zqF (heap_alloc_new _ _) ((hb34.block H (zae H3.out.1)).trans H3.out.1) ?_ ⟨(hbA.block S (zae hsn.1)).trans hsn.1,(hbA.block Q (zae hsn.2)).trans hsn.2⟩ (TreeAt.still (B0:=0) (fun k hk _=>hbA.block k hk) _ _ _ htr) ?_ ?_ ?_ ?_,hbw⟩
   .exact zdn (zcr (zaJ H3.out.2.1 fun k hk=>hb34.block k (by obtain ⟨_,cur,hc⟩:=zao H3.out.2.1 hk;exact zae hc))) fun b hb=>Nat.le_trans hs2 (zao H3.out.2.1 hb).1
   .show w.heap.size<=w4.heap.size;omega
   .show w.heap.size<=H;omega
   .show w.heap.size<=S;omega
   .show w.heap.size<=Q;omega
  clear hsn hb4 H3 H2 HOT htr
  have HPL:Hid (Calls Tryz.prog 9 #[.pointer (some ⟨w4.heap.size,0,none⟩),.slice sa ops.length scap,.int .i64 6] (w4.alloc (.cells #[.pointer (some ⟨H,0,none⟩),.pointer (some ⟨S,0,none⟩),.slice none 0 0,.string ⟨#[]⟩] 42)) fun e w'=>e=.returned (.bool true)/\Below w.heap.size w w'):=by
   refine (znJ (HK.out pg w.heap.size) w4.heap.size H S Q (.slice none 0 0) (.string ⟨#[]⟩) (zfR v) sa sb soff scap ops _ HPP.out.1 rfl rfl ?_ ?_ hlen).mono ?_
   .intro hp
    obtain ⟨e1,e2,e3⟩:=HSC.out hp
    exact ⟨e1,Nat.lt_of_lt_of_le e2 HPP.out.2.size,fun i hi j u hu=>(HPP.out.2.cell (p:=⟨sb,soff+i*5+j,none⟩) e2).trans (e3 i hi j u hu)⟩
   .intro hp
    exact (HSC.out hp).2.1
   .rintro e w' ⟨rfl,hb⟩
    exact ⟨rfl,HPP.out.2.trans hb⟩
  clear HPP HK
  go_wp2_with fail
  refine HPL.out.mono ?_
  rintro e w5 ⟨rfl,hb5⟩
  have HB5:=zHd hb5
  clear hb5 HPL
  go_wp2_with fail
  go_ret
  exact ⟨rfl,HB5.out⟩
 .have HC:=zHd hC
  have HL:=zHd hL
  have b1:(f != 0)=true:=by simpa using hf
  clear hC hL
  go_enter Tryz.func3,Tryz.ntmps3
  go_wp2_with fail
  refine (zkd t m f p hf HC.out HL.out _ _).mono ?_
  rintro e w1 ⟨rfl,hb1⟩
  go_wp2_with fail
  refine (HL.out _).mono ?_
  rintro e w2 ⟨rfl,hb2⟩
  have HB:Hid (Below w.heap.size w w2):=by
   have h0:Below w.heap.size w (w.alloc (.cells #[.int .i64 0,.slice none 0 0,.slice none 0 0,.slice none 0 0] 28)):=(Below.refl _ _).alloc (Nat.le_refl _) _
   have h1:=h0.trans (hb1.mono h0.size)
   exact h1.trans (hb2.mono h1.size)
  clear hb1 hb2
  go_wp2_with fail
  go_ret
  exact ⟨rfl,HB.out⟩
end Go.Proofs.YtmmmnghiegajmaaGreat
