import Derived.Test.YtmmmnghiegajmaaGreatM38
import Derived.Test.YtmmmnghiegajmaaGreatRows
import Derived.Test.YtmmmnghiegajmaaGreatM20
import Derived.Test.YtmmmnghiegajmaaGreatM31
set_option maxHeartbeats 4000000
set_option maxRecDepth 20000
open Go.RowKit Go.Proofs.Herald Go.Proofs.Tryz
namespace Go.Proofs.YtmmmnghiegajmaaGreat
structure lT where
 k:Int
 a:Int
 b:Int
 c:Int
 str:ByteArray
def qG (x:lT):List Value:=[.int .i64 x.k,.int .i64 x.a,.int .i64 x.b,.int .i64 x.c,.string x.str]
def tt (W:World)(sa:Option Addr)(sb soff:Nat)(ops:List lT):Prop:=0<ops.length->sa=some ⟨sb,soff,none⟩/\sb<W.heap.size/\∀ (i:Nat) (hi:i<ops.length) (j:Nat) (u:Value),(qG ops[i])[j]?=some u->W.cell? ⟨sb,soff+i*5+j,none⟩=some u
open Go.ChangeShapes Go.WideShapes Go.ChangeAt Go.RowKit Go.Proofs.Herald
theorem Tryz.cellsOp:prog.cellsOf 47=5:=by kernel_rfl
theorem Tryz.cellsStr:prog.cellsOf 9=1:=by kernel_rfl
theorem DH {H:Type}(d:DataW H):1<=Rows.uptoBulk d:=by
 cases d with
 | lit l=>cases l <;> simp[Rows.uptoBulk]
 | nil=>simp[Rows.uptoBulk]
 | ptr d=>simp[Rows.uptoBulk]
 | slice a b=>simp[Rows.uptoBulk]
 | agg p=>simp[Rows.uptoBulk]
 | iface t d=>simp[Rows.uptoBulk]
 | map e=>simp[Rows.uptoBulk]
 | held h=>simp[Rows.uptoBulk]
theorem wU {H:Type}:∀ (l:List (DataW H)),l.length<=Rows.uptoBulkAll l
 | []=>Qa _
 | d::r=>by
  have h1:=DH d;have h2:=wU r;simp only[Rows.uptoBulkAll,List.length_cons];omega
theorem zp {t:ByteArray}{tr:af 5}(hT:bu t tr)(ht:t.size<=400)(pg:Value)(B0:Nat){G:TR->Prop}(S Q:Nat)(rec:ByteArray)(h:az TR)(pv:Value)(qv:Nat->Value)(rs:List Rs)(dev C:Int)(w:World)(H:bO (jc t tr pg B0) w S Q rec h pv qv rs)(htr:ai t w (fun _=>True) 5 pg tr)(hI:cC (lO t tr) G C h)(hr:rec.size<=1000000000000)(hlast:h.last<=1000000000000000000)(hd:0<=dev/\dev<=2)(hl:¬ 5<=h.rs.length):
  Calls prog 35 #[.pointer (some ⟨S,0,none⟩),.int .i64 dev] w fun e w'=>e=.returned (.tuple #[.int .i64 (h.last+1),.int .i64 0])/\aR (jc t tr pg B0) w S Q pv qv rs (rec++gJ 84 dev 0) (cP (lO t tr) h dev).2.2 w':=by
 have hb:=wE hd;have E3:rs.length<5:=by rw[lG H.rel];omega
 obtain⟨pa,pc,E0⟩:=bD H.at'.lB;subst E0;have c4:w.cell? ⟨S,4,none⟩=some (.int .i64 h.last):=(ag H.at'.sB).trans rfl;have c5:w.cell? ⟨S,5,none⟩=some (.slice pa rs.length pc):=(ag H.at'.sB).trans rfl;have z4:w.frozen? ⟨S,4,none⟩=false:=aC H.at'.sB;have D5:=ak H.at'.sB;have E2:=hI.last0;have HH:=ah H;have HI:=ah hI;have D2:=ah htr;have D3:=ah hT;have D0:Hid (∀ y∈rs,y.p.id≠h.last+1):=fun y hy=>by
  obtain⟨r,E1,B5⟩:=xr H.rel hy;have h1:=hI.id r E1;have h2:=(nH t tr pg B0).pub w y r B5;have h3:(lO t tr).pub r=cF y.p:=h2;rw[h3]at h1;simp only[cF]at h1;omega
 have HE:Hid ((cP (lO t tr) h dev).2.2={h with last:=h.last+1,qs:=bU h.qs dev.toNat (cD t h.now (fN t 5 tr+1) (bB 5 tr) (h.qs dev.toNat) ⟨dg (h.last+1) dev,[],[]⟩).1,rs:=dP (lO t tr) (h.rs++[(⟨dg (h.last+1) dev,[],[]⟩:TR)]) (cD t h.now (fN t 5 tr+1) (bB 5 tr) (h.qs dev.toNat) ⟨dg (h.last+1) dev,[],[]⟩).2.1 (cD t h.now (fN t 5 tr+1) (bB 5 tr) (h.qs dev.toNat) ⟨dg (h.last+1) dev,[],[]⟩).2.2}):=by
  show _=_;unfold cP;rw[if_neg (fun hh=>hh hd),if_neg hl];rfl
 rw[HE];have C7:Hid (dev=(dev.toNat:Nat)):=(by omega:dev=(dev.toNat:Nat));have B4:dev.toNat<3:=by omega
 clear H hI htr hT hl hd;go_enter func35,ntmps35
 go_wp2_with fail
 refine(fp _ _ _ _).mono ?_;rintro e w1 ⟨rfl,rfl⟩;rw[hb];have D7:=GW (w1.setCell ⟨S,4,none⟩ (.int .i64 (h.last+1))).drew;go_upto_region 7 with fail
 go_region;clear D7;rw[show((w1.setCell ⟨S,4,none⟩ (.int .i64 (h.last+1))).alloc (.cells nh 3)).alloc (.cells #[.int .i64 (h.last+1),.int .i64 dev,.int .i64 0,.int .i64 0,.int .i64 0,.slice none 0 0,.slice none 0 0,.slice (some ⟨w1.heap.size,0,none⟩) 12 12,.int .i64 0,.int .i64 0] 147)=iD w1 S (h.last+1) dev from rfl];have A7:Hid ((iD w1 S (h.last+1) dev).heap[S]?=_):=xU (h.last+1) dev HH.at'.sB;have C2:Hid ((iD w1 S (h.last+1) dev).ownsRow 0 144 1 (.slice pa rs.length pc) rs.length (fy (dz rs))):=aT HH.at'.lB fun k hk=>by
  obtain⟨c,hc⟩:=ax HH.at'.lB hk;exact vr _ _ _ _ (ak hc) (aA hc HH.at'.sB (by decide))
 have C1:Hid ((Value.slice pa rs.length pc).ownBlock≠some S):=fun e=>by
  obtain⟨c,hc⟩:=ax HH.at'.lB e;exact aA hc HH.at'.sB (by decide) rfl
 have D8:(iD w1 S (h.last+1) dev).cell? ⟨S,5,none⟩=some (.slice pa rs.length pc):=(ag A7).trans rfl;have D9:=ak A7;have HM:Hid (∀ (V w2:World) (g cap':Nat),ae (iD w1 S (h.last+1) dev) V->V.grownBy w2 (Value.slice pa rs.length pc).ownBlock->w2.ownsRow 0 144 1 (.slice (some ⟨g,0,none⟩) (rs.length+1) cap') (rs.length+1) (fy (dz rs)++[.pointer (some ⟨w1.heap.size+1,0,none⟩)])->((Value.slice pa rs.length pc).ownBlock=some g\/g=V.heap.size)->_):=fun V w2 g cap' h0 hg ho hat=>Fa HH dev D0 h0 hg ho hat;generalize iD w1 S (h.last+1) dev=W at *;go_wp2_with (at_builtin;refine jZ _ rfl (.tmp 38) (.tmp 40) 57 rfl 144 _ 1 8 underlying57 Tryz.infoProcP rfl (by decide) (by decide) (.slice pa rs.length pc) rs.length (fy (dz rs)) W.heap.size [.pointer (some ⟨w1.heap.size+1,0,none⟩)] (by rfl) (by exact C2.alloc _) (by exact v8 _ _) (by rfl) rfl (by simp[Value.oneCell']) (by omega) ?_)
 intro g1 cap1 w2 hown1 hgrow hat hlt1;have hA:=HM _ w2 g1 cap1 (ae.alloc _ _).drew hgrow hown1 (hat.imp id fun e=>e.trans (by simp));have B3:=cM (ae.alloc _ _).drew hgrow A7 C1;have q5:w2.cell? ⟨S,5,none⟩=some (.slice pa rs.length pc):=(ag B3).trans rfl;have y5:w2.frozen? ⟨S,5,none⟩=false:=aC B3;have HA:=ah hA;clear hA B3 hown1 hgrow hat hlt1 HM A7 C2 C1 D8 D9;have B1:Hid (B0<=w1.heap.size):=by
  have h1:=HH.base S (.inl rfl);exact Qc h1 (Nat.le_of_lt D5)
 have A3:Hid (aN B0 w1 (w2.setCell ⟨S,5,none⟩ (.slice (some ⟨g1,0,none⟩) (rs.length+1) cap1))):=HH.at'.still HH.base HA.2.1;have B2:Hid (bO (jc t tr pg B0) (w2.setCell ⟨S,5,none⟩ (.slice (some ⟨g1,0,none⟩) (rs.length+1) cap1)) S Q rec {h with last:=h.last+1,rs:=h.rs++[(⟨dg (h.last+1) dev,[],[]⟩:TR)]} (.slice (some ⟨g1,0,none⟩) (rs.length+1) cap1) qv (rs++[jS w1 (h.last+1) dev])):=by
  refine⟨HA.1,fun k hk=>?_,py (jM (fun x r hl=>(nH t tr pg B0).keep w1 _ x r hl A3) HH.rel) ⟨⟨rfl,Qc B1 HA.2.1.size,aw.none _ _ _,aw.none _ _ _,aK.nil _,aK.nil _⟩,trivial⟩⟩;rcases HA.2.2 k hk with h1|h1
  .exact HH.base k h1
  .exact Qc B1 h1
 go_wp2_with fail
 refine(oF (nH t tr pg B0) S Q rec _ _ qv _ 84 dev 0 _ B2 hr).mono ?_;rintro e w4 ⟨rfl,A8,A9⟩;have C9:=ah A9;have D1:=ah A8;have C4:Hid (ai t w4 (fun _=>True) 5 pg tr):=ai.still (B2.at'.still B2.base (A9.mono fun k _ hk=>.inl hk)) _ _ _ (ai.still A3 _ _ _ D2);obtain⟨ga,gn,gc,B7⟩:=C4.one;have s0:w4.cell? ⟨S,0,none⟩=some (.bool true):=(ag A8.at'.sB).trans rfl;have s1:w4.cell? ⟨S,1,none⟩=some (.slice ga gn gc):=by rw[<- B7];exact(ag A8.at'.sB).trans rfl
 have B9:Hid (B0<=w4.heap.size):=Qc (Qc B1 HA.2.1.size) A9.size;clear A9 A8 q5 y5;have A1:Hid (aK t (bB 5 tr)):=D3.its ht;have C0:Hid (Calls prog 67 #[.slice ga gn gc,.slice none 0 0] w4 fun e w'=>∃ ov,e=.returned ov/\aw t w' B0 ov (bB 5 tr)/\Below w4.heap.size w4 w'):=by
  have h1:=mP t B0 5 tr (.slice ga gn gc) (.slice none 0 0) [] w4 B9 (by rw[<- B7];exact C4) (aw.none _ _ _) (Qc A1.len (by omega)) (Qa _);rw[List.append_nil]at h1;exact h1
 have HX:Hid (jS w1 (h.last+1) dev∈rs++[jS w1 (h.last+1) dev]):=List.mem_append_right _ (List.mem_singleton.mpr rfl);have A2:Hid (∀ w5 ov,Below w4.heap.size w4 w5->aw t w5 B0 ov (bB 5 tr)->Calls prog 66 #[.pointer (some ⟨S,0,none⟩),.pointer (some ⟨w1.heap.size+1,0,none⟩),ov] w5 fun e w6=>e=.returned (.tuple #[]) /\
   w6.cell? ⟨w1.heap.size+1,0,none⟩=some (.int .i64 (h.last+1))/\aR (jc t tr pg B0) w1 S Q (.slice pa rs.length pc) qv rs (rec++gJ 84 dev 0) {h with last:=h.last+1,qs:=bU h.qs dev.toNat (cD t h.now (fN t 5 tr+1) (bB 5 tr) (h.qs dev.toNat) ⟨dg (h.last+1) dev,[],[]⟩).1,rs:=dP (lO t tr) (h.rs++[(⟨dg (h.last+1) dev,[],[]⟩:TR)]) (cD t h.now (fN t 5 tr+1) (bB 5 tr) (h.qs dev.toNat) ⟨dg (h.last+1) dev,[],[]⟩).2.1 (cD t h.now (fN t 5 tr+1) (bB 5 tr) (h.qs dev.toNat) ⟨dg (h.last+1) dev,[],[]⟩).2.2} w6):=fun w5 ov A0 A6=>by
  have H5:=D1.below (nH t tr pg B0) A0;have B5:dS t B0 w5 (jS w1 (h.last+1) dev) ⟨dg (h.last+1) dev,[],[]⟩:=⟨rfl,Qc B9 A0.size,aw.none _ _ _,aw.none _ _ _,aK.nil _,aK.nil _⟩;have D6:∀ k,il S Q (jS w1 (h.last+1) dev).P (jS w1 (h.last+1) dev).R (qv dev.toNat) k->B0<=k:=fun k hk=>H5.base k (by
   rcases hk with e|e|e|e|e
   .exact .inr (.inr (.inr (.inr ⟨_,HX,.inl e⟩)))
   .exact .inr (.inl e)
   .exact .inr (.inr (.inr (.inr ⟨_,HX,.inr e⟩)))
   .exact .inl e
   .exact .inr (.inr (.inl ⟨dev.toNat,B4,e⟩)))
  have C6:=yt t B0 S Q (jc t tr pg B0).s (.slice (some ⟨g1,0,none⟩) (rs.length+1) cap1) (rec++gJ 84 dev 0) h.now (h.last+1) qv h.qs (dz (rs++[jS w1 (h.last+1) dev])) (jS w1 (h.last+1) dev) dev.toNat ⟨dg (h.last+1) dev,[],[]⟩ (bB 5 tr) ov w5 (H5.at'.core HX) H5.at'.procs (by unfold dz;rw[List.length_map,List.length_append,List.length_singleton];omega) B5 A6 A1.out D6 B4 C7.out (HI.out.qlen _) (Int.le_refl 0) (by show(0:Int)<=999999999999990000;omega) HI.out.now0 HI.out.now1;rw[kH]at C6;refine C6.mono ?_;rintro e w6 ⟨rfl,x',v,E4,B8,B6⟩;have A4:w6.cell? ⟨w1.heap.size+1,0,none⟩=some (.int .i64 (h.last+1)):=by
   have h1:w6.cell? ⟨w1.heap.size+1,0,none⟩=some (.int .i64 x'.p.id):=(ag B8.core.pB).trans rfl;rw[B8.id]at h1;exact h1
  obtain⟨k1,k2,k3⟩:=H5.after (nH t tr pg B0) (r':=(cD t h.now (fN t 5 tr+1) (bB 5 tr) (h.qs dev.toNat) ⟨dg (h.last+1) dev,[],[]⟩).2.1) HX B4 B8 (oW _ _ _ _) B6;have D4:Fr (de S Q (.slice pa rs.length pc) qv rs) w4 w5:=⟨A0.os,A0.tape,A0.output,A0.size,fun k hk _=>A0.block k hk⟩;have C5:Fr (de S Q (.slice pa rs.length pc) qv rs) w1 w5:=(HA.2.1.trans (C9.mono fun k _ hk=>.inl hk)).trans D4;refine⟨rfl,A4,⟨_,_,_,k1,fun k hk=>?_⟩,((C5.mono (T:=fun j=>de S Q (.slice pa rs.length pc) qv rs j\/w1.heap.size<=j) fun _ _ hs=>Or.inl hs).trans (k2.mono fun k _ hk=>HA.2.2 k hk)).mono fun j hj hs=>hs.elim id fun h=>by omega⟩;rcases k3 k hk with h1|h1
  .exact HA.2.2 k h1
  .exact .inr (Qc C5.size h1)
 clear B7;go_wp2_with fail
 refine C0.mono ?_;rintro e w5 ⟨ov,rfl,A6,A0⟩;obtain⟨oa,on,oc,rfl⟩:=A6.form;have C3:=A2 w5 _ A0 A6;clear A6 A0 A2 C0 s0 s1;go_wp2_with fail
 refine C3.mono ?_;rintro e w6 ⟨rfl,p0,A5⟩;have C8:=ah A5;clear A5 C3;go_wp2_with fail
 go_ret2;exact⟨rfl,C8⟩
end Go.Proofs.YtmmmnghiegajmaaGreat
