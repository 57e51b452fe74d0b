import Derived.Test.YtmmmnghiegajmaaGreatM23
import Derived.Test.YtmmmnghiegajmaaGreatM24
set_option maxHeartbeats 4000000
namespace Go.Proofs.YtmmmnghiegajmaaGreat
open Go.RowKit Go.Proofs.Herald
def zdB (r:Rn):List Value:=[.int .i64 r.id,.int .i64 r.dev,.int .i64 r.sent,.int .i64 r.til,.int .i64 r.num]
def zbp (l:List Rn):List Value:=l.flatMap zdB
theorem zfY (l:List Rn)(r:Rn):zbp (l++[r])=zbp l++zdB r:=by simp [zbp]
theorem zpW {w:World}{B:Nat}{e:TypeId}{size:Nat}{v:Value}{n:Nat}{xs:List Value}(h:w.ownsRow 0 e size v n xs)(hB:∀ b,v.ownBlock=some b->B<=b):w.ownsRow B e size v n xs:=zdn h hB
structure ShAt (w wr:World)(now:Int)(rv:Value)(rl:List Rn)(uv:Value)(ml:List Msg):Prop where
 bel:Below w.heap.size w wr
 a:wr.heap[w.heap.size]?=some (.cells #[.int .i64 0,.slice none 0 0,.slice none 0 0] 103 (0,0))
 o:wr.heap[w.heap.size+1]?=some (.cells #[.int .i64 now,rv,uv] 103 (0,0))
 r:wr.ownsRow w.heap.size 96 5 rv rl.length (zbp rl)
 m:wr.ownsRow w.heap.size 87 4 uv ml.length (zak ml)
theorem ShAt.pushR {w wr W w1:World}{now:Int}{rv uv:Value}{rl:List Rn}{ml:List Msg}{g cap:Nat}(h:ShAt w wr now rv rl uv ml)(r:Rn)(h0:OneMore wr W)
  (hown1:w1.ownsRow 0 96 5 (.slice (some ⟨g,0,none⟩) (rl.length+1) cap) (rl.length+1) (zbp rl++zdB r)) (hgrow:W.grownBy w1 rv.ownBlock) (hat:rv.ownBlock=some g\/g=W.heap.size):
  ShAt w (w1.setCell ⟨w.heap.size+1,1,none⟩ (.slice (some ⟨g,0,none⟩) (rl.length+1) cap)) now (.slice (some ⟨g,0,none⟩) (rl.length+1) cap) (rl++[r]) uv ml:=by
 have hs:=h0.size
 have hrO:∀ {k:Nat} {c:Array Value} {t:TypeId},wr.heap[k]?=some (.cells c t (0,0))->t≠96->w1.heap[k]?=wr.heap[k]?:=fun {k c t} hk ht=>zbs h0 hgrow (zae hk) fun e=>by
  obtain ⟨cur,hc⟩:=zad (zcr h.r) e
  exact zac hk hc ht rfl
 have hBg:w.heap.size<=g:=by
  rcases hat with h1|h1
  .exact (zao h.r h1).1
  .have:=h.bel.size;omega
 have ho1:=(hrO h.o (by decide)).trans h.o
 have hgO:g≠w.heap.size+1:=by
  obtain ⟨cur,hc⟩:=zad hown1 (k:=g) rfl
  exact zac hc ho1 (by decide)
 have hb:Below w.heap.size w w1:=h.bel.trans ⟨hgrow.os.trans h0.os,hgrow.tape.trans h0.tape,hgrow.output.trans h0.output,by have:=zdI h0 hgrow;omega,fun k hk=>zbs h0 hgrow (by have:=h.bel.size;omega) (fun e=>by have:=(zao h.r e).1;omega)⟩
 refine ⟨hb.setCell (p:=⟨w.heap.size+1,1,none⟩) (Nat.le_succ _) _,?_,?_,?_,?_⟩
 .rw [Below.heap_setCell _ _ _ _ (show w.heap.size≠w.heap.size+1 by omega)]
  exact (hrO h.a (by decide)).trans h.a
 .rw [zah _ ho1];rfl
 .rw [zfY,List.length_append]
  refine zpW (zaj hown1 fun k hk=>?_) fun b hb=>?_
  .simp [Value.ownBlock] at hk;subst hk;exact Below.heap_setCell _ _ _ _ hgO
  .simp [Value.ownBlock] at hb;omega
 .refine zaJ h.m fun k hk=>?_
  obtain ⟨c,hc⟩:=zad (zcr h.m) hk
  rw [Below.heap_setCell _ _ _ _ (zac hc h.o (by decide))]
  exact hrO hc (by decide)
theorem ShAt.pushM {w wr w1:World}{now:Int}{rv uv v':Value}{rl:List Rn}{ml:List Msg}(h:ShAt w wr now rv rl uv ml)(q:List Msg)
  (hown1:w1.ownsRow 0 87 4 v' (ml.length+q.length) (zak ml++zak q)) (ha:zcM wr w1 uv ml.length q.length v'):
  ShAt w (w1.setCell ⟨w.heap.size+1,2,none⟩ v') now rv rl v' (ml++q):=by
 obtain ⟨hb,hown2⟩:=zaR h.bel h.bel.size h.m hown1 ha
 have hrO:∀ {k:Nat} {c:Array Value} {t:TypeId},wr.heap[k]?=some (.cells c t (0,0))->t≠87->w1.heap[k]?=wr.heap[k]?:=fun {k c t} hk ht=>by
  rcases ha with ⟨g,cap,e1,_,hg⟩|⟨_,hg⟩
  .refine hg.block k (zae hk) fun e=>?_
   cases e
   obtain ⟨cur,hc⟩:=zad (zcr h.m) (k:=k) (by rw [e1];rfl)
   exact zac hk hc ht rfl
  .exact hg.block k (zae hk) (by simp)
 have ho1:=(hrO h.o (by decide)).trans h.o
 have e2:zak (ml++q)=zak ml++zak q:=by unfold zak;rw [List.map_append,za0]
 refine ⟨hb.setCell (p:=⟨w.heap.size+1,2,none⟩) (Nat.le_succ _) _,?_,?_,?_,?_⟩
 .rw [Below.heap_setCell _ _ _ _ (show w.heap.size≠w.heap.size+1 by omega)]
  exact (hrO h.a (by decide)).trans h.a
 .rw [zah _ ho1];rfl
 .refine zaJ h.r fun k hk=>?_
  obtain ⟨c,hc⟩:=zad (zcr h.r) hk
  rw [Below.heap_setCell _ _ _ _ (zac hc h.o (by decide))]
  exact hrO hc (by decide)
 .rw [e2,List.length_append]
  refine zaJ hown2 fun k hk=>?_
  obtain ⟨c,hc⟩:=zad (zcr hown2) hk
  exact Below.heap_setCell _ _ _ _ (zac hc ho1 (by decide))
theorem ShAt.drew {w wr:World}{now:Int}{rv uv:Value}{rl:List Rn}{ml:List Msg}(h:ShAt w wr now rv rl uv ml):ShAt w wr.drew now rv rl uv ml:=
 ⟨h.bel.drew,h.a,h.o,zaJ h.r fun _ _=>rfl,zaJ h.m fun _ _=>rfl⟩
def upQ (qs:Nat->List Msg):Nat->List Msg
 | 0=>[]
 | j+1=>upQ qs j++qs j
set_option maxRecDepth 20000 in
theorem zqH (S Q:Nat)(s:Sd)(pv:Value)(rec:ByteArray)(now last:Int)(qv:Nat->Value)(qs:Nat->List Msg)(rs:List Rs)(w:World)(H:SimAt w S Q s pv rec now last qv qs rs)(hl:rs.length<=1000)(hq:∀ d,(qs d).length<=1000):
  Calls Tryz.prog 44 #[.pointer (some ⟨S,0,none⟩)] w fun e w'=>∃ rv uv,e=.returned (.agg #[.int .i64 now,rv,uv])/\w'.ownsRow w.heap.size 96 5 rv rs.length (zbp (rs.map fun x=>zcE x.p))/\w'.ownsRow w.heap.size 87 4 uv (qs 0++qs 1++qs 2).length (zak (qs 0++qs 1++qs 2))/\Below w.heap.size w w':=by
 have c3:w.cell? ⟨S,3,none⟩=some (.int .i64 now):=(zaa H.sB).trans rfl
 have c5:w.cell? ⟨S,5,none⟩=some pv:=(zaa H.sB).trans rfl
 have c6:w.cell? ⟨S,6,none⟩=some (.slice (some ⟨Q,0,none⟩) 3 3):=(zaa H.sB).trans rfl
 have hSl:=zae H.sB
 have hQl:=zae H.qB
 have HH:=zHd H
 have HQ:=zHd hq
 obtain ⟨pa,pc,hpv⟩:=zag H.lB
 subst hpv
 clear H hq
 go_enter Tryz.func44,Tryz.ntmps44
 go_wp2_with fail
 go_loopw [4] (fun i wr=>∃ (k:Nat) (rv:Value),k<=rs.length/\i=.int .i64 k/\Hid (ShAt w wr now rv ((rs.map fun x=>zcE x.p).take k) (.slice none 0 0) [])) (fun i _=>rs.length - (intOf i).toNat)
 case atStart=>
  refine ⟨0,.slice none 0 0,Nat.zero_le _,rfl,⟨((Below.refl _ _).alloc (Nat.le_refl _) _).alloc (by simp) _,?_,zaw _ _ _,World.ownsRow_nil _ _ _ _,World.ownsRow_nil _ _ _ _⟩⟩
  rw [Below.heap_alloc _ _ _ (by simp)];exact heap_alloc_new _ _
 case round=>
  obtain ⟨k,rv,hk,rfl,HS⟩:=hrel
  have k5:wr.cell? ⟨S,5,none⟩=some (.slice pa rs.length pc):=(HS.out.bel.cell (p:=⟨S,5,none⟩) hSl).trans c5
  have k6:wr.cell? ⟨S,6,none⟩=some (.slice (some ⟨Q,0,none⟩) 3 3):=(HS.out.bel.cell (p:=⟨S,6,none⟩) hSl).trans c6
  have hl1:=zae HS.out.o
  by_cases hlt:k<rs.length
  .obtain ⟨gp,pc',hv,_,hgl⟩:=HH.out.lB.form (by omega)
   simp at hv
   obtain ⟨rfl,rfl⟩:=hv
   have hptr:wr.cell? ⟨gp,k,none⟩=some (.pointer (some ⟨rs[k].P,0,none⟩)):=by
    rw [HS.out.bel.cell (p:=⟨gp,k,none⟩) hgl]
    exact zdY HH.out.lB rfl (by unfold zf8 zbN;rw [List.map_map];simp [hlt])
   have hrun:=(HH.out.rB rs[k] (List.getElem_mem hlt)).1
   have hrun2:=(HS.out.bel.block rs[k].P (zae hrun)).trans hrun
   have hPl:=zae hrun2
   have p0:wr.cell? ⟨rs[k].P,0,none⟩=some (.int .i64 rs[k].p.id):=(zaa hrun2).trans rfl
   have p1:wr.cell? ⟨rs[k].P,1,none⟩=some (.int .i64 rs[k].p.dev):=(zaa hrun2).trans rfl
   have p2:wr.cell? ⟨rs[k].P,2,none⟩=some (.int .i64 rs[k].p.sent):=(zaa hrun2).trans rfl
   have p3:wr.cell? ⟨rs[k].P,3,none⟩=some (.int .i64 rs[k].p.til):=(zaa hrun2).trans rfl
   have p4:wr.cell? ⟨rs[k].P,4,none⟩=some (.int .i64 rs[k].p.num):=(zaa hrun2).trans rfl
   have HTK:Hid ((rs.map fun x=>zcE x.p).take (k+1)=(rs.map fun x=>zcE x.p).take k++[zcE rs[k].p]):=by
    show _=_
    rw [List.take_succ_eq_append_getElem (by simpa using hlt)]
    simp
   obtain ⟨rl,hrl⟩:∃ rl,rl=(rs.map fun x=>zcE x.p).take k:=⟨_,rfl⟩
   rw [<- hrl] at HS HTK
   have HRL:Hid (rl.length=k):=(by rw [hrl];simp;omega:rl.length=k)
   obtain ⟨ra,rc,hrv⟩:=zag HS.out.r
   subst hrv
   have o1:wr.cell? ⟨w.heap.size+1,1,none⟩=some (.slice ra rl.length rc):=(zaa HS.out.o).trans rfl
   have y1:wr.frozen? ⟨w.heap.size+1,1,none⟩=false:=zab HS.out.o
   have HNE:Hid ((Value.slice ra rl.length rc).ownBlock≠some (w.heap.size+1)):=fun e=>by obtain ⟨cur,hc⟩:=zad (zcr HS.out.r) e;exact zac hc HS.out.o (by decide) rfl
   generalize rs[k]=x at *
   have hgl2:gp<wr.heap.size:=Nat.lt_of_lt_of_le hgl HS.out.bel.size
   have hSl2:S<wr.heap.size:=Nat.lt_of_lt_of_le hSl HS.out.bel.size
   clear hrl hrun hrun2
   go_upto_region 5 with fail
   go_region_law (refine ze2 _ rfl (.tmp 21) (.tmp 32) 94 rfl 96 _ 5 40 Tryz.underlying94 Tryz.infoRun rfl (by decide) (by decide) (.slice ra rl.length rc) _ _ wr.heap.size [.int .i64 x.p.id,.int .i64 x.p.dev,.int .i64 x.p.sent,.int .i64 x.p.til,.int .i64 x.p.num] (by rfl) (by exact (zcr HS.out.r).alloc _) (by exact heap_alloc_new _ _) (by rfl) rfl (by simp [Value.oneCell']) (by have:=HRL.out;omega) ?_;intro g1 cap1 w2 hown1 hgrow hat hlt2;have hc1:w2.cell? ⟨w.heap.size+1,1,none⟩=some (.slice ra rl.length rc):=(zaa (zal (OneMore.alloc _ _).drew hgrow HS.out.o HNE.out)).trans rfl;have hf1:w2.frozen? ⟨w.heap.size+1,1,none⟩=false:=zab (zal (OneMore.alloc _ _).drew hgrow HS.out.o HNE.out))
   all_goals
    have HP:=HS.out.pushR (zcE x.p) (OneMore.alloc _ _).drew hown1 hgrow hat
    rw [<- HTK.out] at HP
    have HP2:=zHd HP
    clear HP
    go_wp2_with fail
    go_roundw
    case rel=>exact ⟨k+1,_,by omega,by go_num,HP2⟩
    case measure=>simp [intOf];omega
  .have HK:Hid ((rs.map fun x=>zcE x.p).take k=rs.map fun x=>zcE x.p):=List.take_of_length_le (by simp;omega)
   rw [HK.out] at HS
   obtain ⟨ra,rc,hrv⟩:=zag HS.out.r
   rw [List.length_map] at hrv
   subst hrv
   clear HK
   go_wp2_with fail
   go_loopw [5] (fun i wr'=>∃ (j:Nat) (uv:Value),j<=3/\i=.int .i64 j/\Hid (ShAt w wr' now (.slice ra rs.length rc) (rs.map fun x=>zcE x.p) uv (upQ qs j))) (fun i _=>3 - (intOf i).toNat)
   case atStart=>exact ⟨0,.slice none 0 0,Nat.zero_le _,rfl,HS⟩
   case round=>
    clear k5 k6 hl1 HS
    obtain ⟨j,uv,hj,rfl,HS⟩:=hrel
    have k6:wr.cell? ⟨S,6,none⟩=some (.slice (some ⟨Q,0,none⟩) 3 3):=(HS.out.bel.cell (p:=⟨S,6,none⟩) hSl).trans c6
    have hl1:=zae HS.out.o
    obtain ⟨ua,uc,huv⟩:=zag HS.out.m
    subst huv
    have o0:wr.cell? ⟨w.heap.size+1,0,none⟩=some (.int .i64 now):=(zaa HS.out.o).trans rfl
    have o1:wr.cell? ⟨w.heap.size+1,1,none⟩=some (.slice ra rs.length rc):=(zaa HS.out.o).trans rfl
    have o2:wr.cell? ⟨w.heap.size+1,2,none⟩=some (.slice ua (upQ qs j).length uc):=(zaa HS.out.o).trans rfl
    have y2:wr.frozen? ⟨w.heap.size+1,2,none⟩=false:=zab HS.out.o
    by_cases hlt3:j<3
    .obtain ⟨qa,qc,hqv⟩:=zag (HH.out.oB j hlt3)
     have cq:wr.cell? ⟨Q,j,none⟩=some (.slice qa (qs j).length qc):=by
      rw [HS.out.bel.cell (p:=⟨Q,j,none⟩) hQl,zaa HH.out.qB,zk1 qv j hlt3,hqv]
     have hQl2:Q<wr.heap.size:=Nat.lt_of_lt_of_le hQl HS.out.bel.size
     have hlq:=HQ.out j
     have hlu:(upQ qs j).length<=3000:=by
      have h0:=HQ.out 0
      have h1:=HQ.out 1
      rcases (show j=0\/j=1\/j=2 by omega) with rfl|rfl|rfl <;> simp [upQ] <;> omega
     have HSRC:Hid (∀ W:World,W.heap=wr.heap->zfq W qa (qs j).length (zak (qs j))):=fun W hW hp=>by
      have ho:=HH.out.oB j hlt3
      rw [hqv] at ho
      obtain ⟨g,c,hv,_,hgl⟩:=ho.form hp
      simp at hv
      obtain ⟨rfl,rfl⟩:=hv
      refine ⟨_,rfl,fun i u hu=>?_⟩
      have h1:=ho.cells (g:=g) rfl i u hu
      rw [World.cell?_of_block (w:=wr) (w':=W) (by rw [hW])]
      rw [Addr.add_lit] at h1 ⊢
      rw [HS.out.bel.cell (p:=⟨g,0+i,none⟩) hgl]
      exact h1
     have HNE:Hid ((Value.slice ua (upQ qs j).length uc).ownBlock≠some (w.heap.size+1)):=fun e=>by obtain ⟨cur,hc⟩:=zad (zcr HS.out.m) e;exact zac hc HS.out.o (by decide) rfl
     have HOB:Hid (∀ (W w2:World) (v2:Value),W.heap=wr.heap->zcM W w2 (.slice ua (upQ qs j).length uc) (upQ qs j).length (qs j).length v2->w2.heap[w.heap.size+1]?=some (.cells #[.int .i64 now,.slice ra rs.length rc,.slice ua (upQ qs j).length uc] 103 (0,0))):=fun W w2 v2 hW ha=>by
      have hlW:w.heap.size+1<W.heap.size:=by rw [hW];exact hl1
      rcases ha with ⟨g,cap,e1,_,hg⟩|⟨_,hg⟩
      .rw [hg.block _ hlW (fun e=>HNE.out (by rw [e1];exact e.symm)),hW];exact HS.out.o
      .rw [hg.block _ hlW (by simp),hW];exact HS.out.o
     clear hqv
     go_upto_region 9 with fail
     go_region_law (refine zhz _ rfl (.tmp 45) (.tmp 52) 99 rfl 87 _ 4 32 Tryz.underlying99 Tryz.infoMsg rfl (by decide) (by decide) (.slice ua (upQ qs j).length uc) _ (zak (upQ qs j)) qa _ qc (zak (qs j)) (by rfl) (by exact zcr HS.out.m) (by rfl) (by exact HSRC.out _ rfl) (zbH _) (by exact zb8 _) (by omega) ?_;intro v2 w2 hown2 ha2;have hob:=HOB.out wr.drew w2 v2 rfl ha2;have hc1:w2.cell? ⟨w.heap.size+1,2,none⟩=some (.slice ua (upQ qs j).length uc):=(zaa hob).trans rfl;have hf1:w2.frozen? ⟨w.heap.size+1,2,none⟩=false:=zab hob;obtain ⟨va,vc,hv2⟩:=zag hown2;subst hv2)
     all_goals
      have HP:=ShAt.pushM HS.out.drew (qs j) hown2 ha2
      have HP2:=zHd HP
      clear HP
      go_wp2_with fail
      go_roundw
      case rel=>exact ⟨j+1,_,by omega,by go_num,HP2⟩
      case measure=>simp [intOf];omega
    .have hj3:j=3:=by omega
     subst hj3
     have r0:wr.cell? ⟨w.heap.size,0,none⟩=some (.int .i64 0):=(zaa HS.out.a).trans rfl
     have r1:wr.cell? ⟨w.heap.size,1,none⟩=some (.slice none 0 0):=(zaa HS.out.a).trans rfl
     have r2:wr.cell? ⟨w.heap.size,2,none⟩=some (.slice none 0 0):=(zaa HS.out.a).trans rfl
     have y0:wr.frozen? ⟨w.heap.size,0,none⟩=false:=zab HS.out.a
     have y1:wr.frozen? ⟨w.heap.size,1,none⟩=false:=zab HS.out.a
     have y2':wr.frozen? ⟨w.heap.size,2,none⟩=false:=zab HS.out.a
     have HB:Hid (Below w.heap.size w (((wr.setCell ⟨w.heap.size,0,none⟩ (.int .i64 now)).setCell ⟨w.heap.size,1,none⟩ (.slice ra rs.length rc)).setCell ⟨w.heap.size,2,none⟩ (.slice ua (upQ qs 3).length uc))):=
      ((HS.out.bel.setCell (p:=⟨w.heap.size,0,none⟩) (Nat.le_refl _) _).setCell (p:=⟨w.heap.size,1,none⟩) (Nat.le_refl _) _).setCell (p:=⟨w.heap.size,2,none⟩) (Nat.le_refl _) _
     have HU:Hid (upQ qs 3=qs 0++qs 1++qs 2):=(by simp [upQ]:upQ qs 3=qs 0++qs 1++qs 2)
     go_wp2_with fail
     refine bodyPost_ret (v:=.agg #[.int .i64 now,.slice ra rs.length rc,.slice ua (upQ qs 3).length uc]) (by simp [results,Tryz.results44,go_sem,r0,r1,r2]) rfl ⟨_,_,rfl,?_,?_,HB.out⟩
     .have h:=HS.out.r
      rw [List.length_map] at h
      refine zaJ h fun k hk=>?_
      obtain ⟨c,hc⟩:=zad (zcr h) hk
      have hne:=zac hc HS.out.a (by decide)
      rw [Below.heap_setCell _ _ _ _ hne,Below.heap_setCell _ _ _ _ hne,Below.heap_setCell _ _ _ _ hne]
     .rw [<- HU.out]
      have h:=HS.out.m
      refine zaJ h fun k hk=>?_
      obtain ⟨c,hc⟩:=zad (zcr h) hk
      have hne:=zac hc HS.out.a (by decide)
      rw [Below.heap_setCell _ _ _ _ hne,Below.heap_setCell _ _ _ _ hne,Below.heap_setCell _ _ _ _ hne]
end Go.Proofs.YtmmmnghiegajmaaGreat
