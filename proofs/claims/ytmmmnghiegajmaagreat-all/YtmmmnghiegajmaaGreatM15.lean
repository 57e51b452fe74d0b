import Derived.Test.YtmmmnghiegajmaaGreatM13
import Derived.Test.YtmmmnghiegajmaaGreatM14
set_option maxHeartbeats 4000000
set_option maxRecDepth 20000
open Go.RowKit Go.Proofs.Herald Go.Proofs.Tryz
namespace Go.Proofs.YtmmmnghiegajmaaGreat
def ki (r:Rn):List Value:=[.int .i64 r.id,.int .i64 r.dev,.int .i64 r.sent,.int .i64 r.til,.int .i64 r.num]
def fT (l:List Rn):List Value:=l.flatMap ki
theorem tT (l:List Rn)(r:Rn):fT (l++[r])=fT l++ki r:=by simp[fT]
theorem FY {w:World}{B:Nat}{e:TypeId}{size:Nat}{v:Value}{n:Nat}{xs:List Value}(h:w.ownsRow 0 e size v n xs)(hB:∀ b,v.ownBlock=some b->B<=b):w.ownsRow B e size v n xs:=lF h hB
structure dx (w wr:World)(now:Int)(rv:Value)(rl:List Rn)(uv:Value)(ml:List aj):Prop where
 bel:Below w.heap.size w wr
 a:wr.heap[w.heap.size]?=some (.cells #[.int .i64 0,.slice none 0 0,.slice none 0 0] 103)
 o:wr.heap[w.heap.size+1]?=some (.cells #[.int .i64 now,rv,uv] 103)
 r:wr.ownsRow w.heap.size 96 5 rv rl.length (fT rl)
 m:wr.ownsRow w.heap.size 87 4 uv ml.length (bA ml)
theorem dx.pushR {w wr W w1:World}{now:Int}{rv uv:Value}{rl:List Rn}{ml:List aj}{g cap:Nat}(h:dx w wr now rv rl uv ml)(r:Rn)(h0:ae wr W)
  (hown1:w1.ownsRow 0 96 5 (.slice (some ⟨g,0,none⟩) (rl.length+1) cap) (rl.length+1) (fT rl++ki r)) (hgrow:W.grownBy w1 rv.ownBlock) (hat:rv.ownBlock=some g\/g=W.heap.size):
  dx w (w1.setCell ⟨w.heap.size+1,1,none⟩ (.slice (some ⟨g,0,none⟩) (rl.length+1) cap)) now (.slice (some ⟨g,0,none⟩) (rl.length+1) cap) (rl++[r]) uv ml:=by
 have hs:=h0.size;have A0:∀ {k:Nat} {c:Array Value} {t:TypeId},wr.heap[k]?=some (.cells c t (0,0))->t≠96->w1.heap[k]?=wr.heap[k]?:=fun {k c t} hk ht=>iU h0 hgrow (ak hk) fun e=>by
  obtain⟨A2,hc⟩:=ax (bZ h.r) e;exact aA hk hc ht rfl
 have A4:w.heap.size<=g:=by
  rcases hat with h1|h1
  .exact(cS h.r h1).1
  .have:=h.bel.size;omega
 have A1:=(A0 h.o (by decide)).trans h.o;have A3:g≠w.heap.size+1:=by
  obtain⟨A2,hc⟩:=ax hown1 (k:=g) rfl;exact aA hc A1 (by decide)
 have hb:Below w.heap.size w w1:=h.bel.trans ⟨hgrow.os.trans h0.os,hgrow.tape.trans h0.tape,hgrow.output.trans h0.output,by have:=nw h0 hgrow;omega,fun k hk=>iU h0 hgrow (by have:=h.bel.size;omega) (fun e=>by have:=(cS h.r e).1;omega)⟩;refine⟨hb.setCell (p:=⟨w.heap.size+1,1,none⟩) (Nat.le_succ _) _,?_,?_,?_,?_⟩
 .rw[q8 _ _ _ _ (show w.heap.size≠w.heap.size+1 by omega)];exact(A0 h.a (by decide)).trans h.a
 .rw[cG _ A1];rfl
 .rw[tT,List.length_append];refine FY (aT hown1 fun k hk=>?_) fun b hb=>?_
  .simp[Value.ownBlock]at hk;subst hk;exact q8 _ _ _ _ A3
  .simp[Value.ownBlock]at hb;omega
 .refine eu h.m fun k hk=>?_;obtain⟨c,hc⟩:=ax (bZ h.m) hk;rw[q8 _ _ _ _ (aA hc h.o (by decide))];exact A0 hc (by decide)
theorem dx.pushM {w wr w1:World}{now:Int}{rv uv v':Value}{rl:List Rn}{ml:List aj}(h:dx w wr now rv rl uv ml)(q:List aj)
  (hown1:w1.ownsRow 0 87 4 v' (ml.length+q.length) (bA ml++bA q)) (ha:jL wr w1 uv ml.length q.length v'):
  dx w (w1.setCell ⟨w.heap.size+1,2,none⟩ v') now rv rl v' (ml++q):=by
 obtain⟨hb,A0⟩:=iF h.bel h.bel.size h.m hown1 ha;have A1:∀ {k:Nat} {c:Array Value} {t:TypeId},wr.heap[k]?=some (.cells c t (0,0))->t≠87->w1.heap[k]?=wr.heap[k]?:=fun {k c t} hk ht=>by
  rcases ha with ⟨g,cap,e1,_,hg⟩|⟨_,hg⟩
  .refine hg.block k (ak hk) fun e=>?_;cases e
   obtain⟨A3,hc⟩:=ax (bZ h.m) (k:=k) (by rw[e1];rfl);exact aA hk hc ht rfl
  .exact hg.block k (ak hk) (by simp)
 have A2:=(A1 h.o (by decide)).trans h.o;have e2:bA (ml++q)=bA ml++bA q:=by unfold bA;rw[List.map_append,kv]
 refine⟨hb.setCell (p:=⟨w.heap.size+1,2,none⟩) (Nat.le_succ _) _,?_,?_,?_,?_⟩
 .rw[q8 _ _ _ _ (show w.heap.size≠w.heap.size+1 by omega)];exact(A1 h.a (by decide)).trans h.a
 .rw[cG _ A2];rfl
 .refine eu h.r fun k hk=>?_;obtain⟨c,hc⟩:=ax (bZ h.r) hk;rw[q8 _ _ _ _ (aA hc h.o (by decide))];exact A1 hc (by decide)
 .rw[e2,List.length_append];refine eu A0 fun k hk=>?_;obtain⟨c,hc⟩:=ax (bZ A0) hk;exact q8 _ _ _ _ (aA hc A2 (by decide))
theorem dx.drew {w wr:World}{now:Int}{rv uv:Value}{rl:List Rn}{ml:List aj}(h:dx w wr now rv rl uv ml):dx w wr.drew now rv rl uv ml:=
 ⟨h.bel.drew,h.a,h.o,eu h.r fun _ _=>rfl,eu h.m fun _ _=>rfl⟩
def dG (qs:Nat->List aj):Nat->List aj
 | 0=>[]
 | j+1=>dG qs j++qs j
theorem Hb (S Q:Nat)(s:Sd)(pv:Value)(rec:ByteArray)(now last:Int)(qv:Nat->Value)(qs:Nat->List aj)(rs:List Rs)(w:World)(H:bN w S Q s pv rec now last qv qs rs)(hl:rs.length<=1000)(hq:∀ d,(qs d).length<=1000):
  Calls prog 44 #[.pointer (some ⟨S,0,none⟩)] w fun e w'=>∃ rv uv,e=.returned (.agg #[.int .i64 now,rv,uv])/\w'.ownsRow w.heap.size 96 5 rv rs.length (fT (rs.map fun x=>cF x.p))/\w'.ownsRow w.heap.size 87 4 uv (qs 0++qs 1++qs 2).length (bA (qs 0++qs 1++qs 2))/\Below w.heap.size w w':=by
 have c3:w.cell? ⟨S,3,none⟩=some (.int .i64 now):=(ag H.sB).trans rfl;have c5:w.cell? ⟨S,5,none⟩=some pv:=(ag H.sB).trans rfl;have c6:w.cell? ⟨S,6,none⟩=some (.slice (some ⟨Q,0,none⟩) 3 3):=(ag H.sB).trans rfl;have A4:=ak H.sB;have B3:=ak H.qB;have HH:=ah H;have HQ:=ah hq;obtain⟨pa,pc,C6⟩:=bD H.lB;subst C6;clear H hq;go_enter func44,ntmps44
 go_wp2_with fail
 go_loopw [4] (fun i wr=>∃ (k:Nat) (rv:Value),k<=rs.length/\i=.int .i64 k/\Hid (dx w wr now rv ((rs.map fun x=>cF x.p).take k) (.slice none 0 0) [])) (fun i _=>rs.length - (intOf i).toNat)
 case atStart=>
  refine⟨0,.slice none 0 0,Qa _,rfl,⟨((v7 _ _).alloc (v9 _) _).alloc (by simp) _,?_,ey _ _ _,Qg _ _ _ _,Qg _ _ _ _⟩⟩;rw[q9 _ _ _ (by simp)];exact v8 _ _
 case round=>
  obtain⟨k,rv,hk,rfl,HS⟩:=hrel;have k5:wr.cell? ⟨S,5,none⟩=some (.slice pa rs.length pc):=(HS.out.bel.cell (p:=⟨S,5,none⟩) A4).trans c5;have k6:wr.cell? ⟨S,6,none⟩=some (.slice (some ⟨Q,0,none⟩) 3 3):=(HS.out.bel.cell (p:=⟨S,6,none⟩) A4).trans c6;have A9:=ak HS.out.o;by_cases hlt:k<rs.length
  .obtain⟨gp,D2,hv,_,A5⟩:=HH.lB.form (by omega);simp at hv;obtain⟨rfl,rfl⟩:=hv;have C5:wr.cell? ⟨gp,k,none⟩=some (.pointer (some ⟨rs[k].P,0,none⟩)):=by
    rw[HS.out.bel.cell (p:=⟨gp,k,none⟩) A5];exact mi HH.lB rfl (by unfold fy dz;rw[List.map_map];simp[hlt])
   have A2:=(HH.rB rs[k] (Qb hlt)).1;have A0:=(HS.out.bel.block rs[k].P (ak A2)).trans A2;have C9:=ak A0;have p0:wr.cell? ⟨rs[k].P,0,none⟩=some (.int .i64 rs[k].p.id):=(ag A0).trans rfl;have p1:wr.cell? ⟨rs[k].P,1,none⟩=some (.int .i64 rs[k].p.dev):=(ag A0).trans rfl;have p2:wr.cell? ⟨rs[k].P,2,none⟩=some (.int .i64 rs[k].p.sent):=(ag A0).trans rfl;have p3:wr.cell? ⟨rs[k].P,3,none⟩=some (.int .i64 rs[k].p.til):=(ag A0).trans rfl;have p4:wr.cell? ⟨rs[k].P,4,none⟩=some (.int .i64 rs[k].p.num):=(ag A0).trans rfl;have B2:Hid ((rs.map fun x=>cF x.p).take (k+1)=(rs.map fun x=>cF x.p).take k++[cF rs[k].p]):=by
    show _=_;rw[Qd (by simpa using hlt)];simp
   obtain⟨rl,B1⟩:∃ rl,rl=(rs.map fun x=>cF x.p).take k:=⟨_,rfl⟩;rw[<- B1]at HS B2;have B7:Hid (rl.length=k):=(by rw[B1];simp;omega:rl.length=k);obtain⟨ra,rc,A6⟩:=bD HS.out.r;subst A6;have o1:wr.cell? ⟨w.heap.size+1,1,none⟩=some (.slice ra rl.length rc):=(ag HS.out.o).trans rfl;have y1:wr.frozen? ⟨w.heap.size+1,1,none⟩=false:=aC HS.out.o;have A3:Hid ((Value.slice ra rl.length rc).ownBlock≠some (w.heap.size+1)):=fun e=>by obtain⟨B8,hc⟩:=ax (bZ HS.out.r) e;exact aA hc HS.out.o (by decide) rfl
   generalize rs[k]=x at *;have C3:gp<wr.heap.size:=Qh A5 HS.out.bel.size;have C0:S<wr.heap.size:=Qh A4 HS.out.bel.size;clear B1 A2 A0;go_upto_region 5 with fail
   go_region_law (refine oG _ rfl (.tmp 21) (.tmp 32) 94 rfl 96 _ 5 40 underlying94 Tryz.infoRun rfl (by decide) (by decide) (.slice ra rl.length rc) _ _ wr.heap.size [.int .i64 x.p.id,.int .i64 x.p.dev,.int .i64 x.p.sent,.int .i64 x.p.til,.int .i64 x.p.num] (by rfl) (by exact(bZ HS.out.r).alloc _) (by exact v8 _ _) (by rfl) rfl (by simp[Value.oneCell']) (by have:=B7.out;omega) ?_;intro g1 cap1 w2 hown1 hgrow hat hlt2;have C1:w2.cell? ⟨w.heap.size+1,1,none⟩=some (.slice ra rl.length rc):=(ag (cM (ae.alloc _ _).drew hgrow HS.out.o A3)).trans rfl;have C2:w2.frozen? ⟨w.heap.size+1,1,none⟩=false:=aC (cM (ae.alloc _ _).drew hgrow HS.out.o A3))
   all_goals
    have HP:=HS.out.pushR (cF x.p) (ae.alloc _ _).drew hown1 hgrow hat;rw[<- B2]at HP;have A7:=ah HP;clear HP;go_wp2_with fail
    go_roundw;case rel=>exact⟨k+1,_,by omega,by go_num,A7⟩
    case measure=>simp[intOf];omega
  .have HK:Hid ((rs.map fun x=>cF x.p).take k=rs.map fun x=>cF x.p):=Qe (by simp;omega);rw[HK]at HS;obtain⟨ra,rc,A6⟩:=bD HS.out.r;rw[List.length_map]at A6;subst A6;clear HK;go_wp2_with fail
   go_loopw [5] (fun i wr'=>∃ (j:Nat) (uv:Value),j<=3/\i=.int .i64 j/\Hid (dx w wr' now (.slice ra rs.length rc) (rs.map fun x=>cF x.p) uv (dG qs j))) (fun i _=>3 - (intOf i).toNat)
   case atStart=>exact⟨0,.slice none 0 0,Qa _,rfl,HS⟩
   case round=>
    clear k5 k6 A9 HS;obtain⟨j,uv,hj,rfl,HS⟩:=hrel;have k6:wr.cell? ⟨S,6,none⟩=some (.slice (some ⟨Q,0,none⟩) 3 3):=(HS.out.bel.cell (p:=⟨S,6,none⟩) A4).trans c6;have A9:=ak HS.out.o;obtain⟨ua,uc,C7⟩:=bD HS.out.m;subst C7;have o0:wr.cell? ⟨w.heap.size+1,0,none⟩=some (.int .i64 now):=(ag HS.out.o).trans rfl;have o1:wr.cell? ⟨w.heap.size+1,1,none⟩=some (.slice ra rs.length rc):=(ag HS.out.o).trans rfl;have o2:wr.cell? ⟨w.heap.size+1,2,none⟩=some (.slice ua (dG qs j).length uc):=(ag HS.out.o).trans rfl;have y2:wr.frozen? ⟨w.heap.size+1,2,none⟩=false:=aC HS.out.o;by_cases hlt3:j<3
    .obtain⟨qa,qc,B0⟩:=bD (HH.oB j hlt3);have cq:wr.cell? ⟨Q,j,none⟩=some (.slice qa (qs j).length qc):=by
      rw[HS.out.bel.cell (p:=⟨Q,j,none⟩) B3,ag HH.qB,mX qv j hlt3,B0]
     have B9:Q<wr.heap.size:=Qh B3 HS.out.bel.size;have D0:=HQ j;have D1:(dG qs j).length<=3000:=by
      have h0:=HQ 0;have h1:=HQ 1;rcases(show j=0\/j=1\/j=2 by omega) with rfl|rfl|rfl <;> simp[dG] <;> omega
     have A8:Hid (∀ W:World,W.heap=wr.heap->jo W qa (qs j).length (bA (qs j))):=fun W hW hp=>by
      have ho:=HH.oB j hlt3;rw[B0]at ho;obtain⟨g,c,hv,_,A5⟩:=ho.form hp;simp at hv;obtain⟨rfl,rfl⟩:=hv;refine⟨_,rfl,fun i u hu=>?_⟩;have h1:=ho.cells (g:=g) rfl i u hu;rw[World.cell?_of_block (w:=wr) (w':=W) (by rw[hW])];rw[Addr.add_lit]at h1 ⊢;rw[HS.out.bel.cell (p:=⟨g,0+i,none⟩) A5];exact h1
     have A3:Hid ((Value.slice ua (dG qs j).length uc).ownBlock≠some (w.heap.size+1)):=fun e=>by obtain⟨B8,hc⟩:=ax (bZ HS.out.m) e;exact aA hc HS.out.o (by decide) rfl
     have B6:Hid (∀ (W w2:World) (v2:Value),W.heap=wr.heap->jL W w2 (.slice ua (dG qs j).length uc) (dG qs j).length (qs j).length v2->w2.heap[w.heap.size+1]?=some (.cells #[.int .i64 now,.slice ra rs.length rc,.slice ua (dG qs j).length uc] 103)):=fun W w2 v2 hW ha=>by
      have B4:w.heap.size+1<W.heap.size:=by rw[hW];exact A9
      rcases ha with ⟨g,cap,e1,_,hg⟩|⟨_,hg⟩
      .rw[hg.block _ B4 (fun e=>A3 (by rw[e1];exact e.symm)),hW];exact HS.out.o
      .rw[hg.block _ B4 (by simp),hW];exact HS.out.o
     clear B0;go_upto_region 9 with fail
     go_region_law (refine yM _ rfl (.tmp 45) (.tmp 52) 99 rfl 87 _ 4 32 underlying99 Tryz.infoMsg rfl (by decide) (by decide) (.slice ua (dG qs j).length uc) _ (bA (dG qs j)) qa _ qc (bA (qs j)) (by rfl) (by exact bZ HS.out.m) (by rfl) (by exact A8 _ rfl) (mI _) (by exact mM _) (by omega) ?_;intro v2 w2 hown2 ha2;have B5:=B6 wr.drew w2 v2 rfl ha2;have C1:w2.cell? ⟨w.heap.size+1,2,none⟩=some (.slice ua (dG qs j).length uc):=(ag B5).trans rfl;have C2:w2.frozen? ⟨w.heap.size+1,2,none⟩=false:=aC B5;obtain⟨va,vc,C8⟩:=bD hown2;subst C8)
     all_goals
      have HP:=dx.pushM HS.out.drew (qs j) hown2 ha2;have A7:=ah HP;clear HP;go_wp2_with fail
      go_roundw;case rel=>exact⟨j+1,_,by omega,by go_num,A7⟩
      case measure=>simp[intOf];omega
    .have C4:j=3:=by omega
     subst C4;have r0:wr.cell? ⟨w.heap.size,0,none⟩=some (.int .i64 0):=(ag HS.out.a).trans rfl;have r1:wr.cell? ⟨w.heap.size,1,none⟩=some (.slice none 0 0):=(ag HS.out.a).trans rfl;have r2:wr.cell? ⟨w.heap.size,2,none⟩=some (.slice none 0 0):=(ag HS.out.a).trans rfl;have y0:wr.frozen? ⟨w.heap.size,0,none⟩=false:=aC HS.out.a;have y1:wr.frozen? ⟨w.heap.size,1,none⟩=false:=aC HS.out.a;have D3:wr.frozen? ⟨w.heap.size,2,none⟩=false:=aC HS.out.a;have HB:Hid (Below w.heap.size w (((wr.setCell ⟨w.heap.size,0,none⟩ (.int .i64 now)).setCell ⟨w.heap.size,1,none⟩ (.slice ra rs.length rc)).setCell ⟨w.heap.size,2,none⟩ (.slice ua (dG qs 3).length uc))):=
      ((HS.out.bel.setCell (p:=⟨w.heap.size,0,none⟩) (v9 _) _).setCell (p:=⟨w.heap.size,1,none⟩) (v9 _) _).setCell (p:=⟨w.heap.size,2,none⟩) (v9 _) _
     have HU:Hid (dG qs 3=qs 0++qs 1++qs 2):=(by simp[dG]:dG qs 3=qs 0++qs 1++qs 2);go_wp2_with fail
     refine bodyPost_ret (v:=.agg #[.int .i64 now,.slice ra rs.length rc,.slice ua (dG qs 3).length uc]) (by simp[results,results44,go_sem,r0,r1,r2]) rfl ⟨_,_,rfl,?_,?_,HB⟩
     .have h:=HS.out.r;rw[List.length_map]at h;refine eu h fun k hk=>?_;obtain⟨c,hc⟩:=ax (bZ h) hk;have A1:=aA hc HS.out.a (by decide);rw[q8 _ _ _ _ A1,q8 _ _ _ _ A1,q8 _ _ _ _ A1]
     .rw[<- HU];have h:=HS.out.m;refine eu h fun k hk=>?_;obtain⟨c,hc⟩:=ax (bZ h) hk;have A1:=aA hc HS.out.a (by decide);rw[q8 _ _ _ _ A1,q8 _ _ _ _ A1,q8 _ _ _ _ A1]
end Go.Proofs.YtmmmnghiegajmaaGreat
