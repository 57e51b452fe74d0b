import Derived.Test.YtmmmnghiegajmaaM19
import Derived.Test.YtmmmnghiegajmaaM21
/- The document's own herald: Show. -/
namespace Go.Proofs.Ytmmmnghiegajmaa
open Go.RowKit Go.Proofs.Herald
def rnCells (r : Rn) : List Value := [.int .i64 r.id, .int .i64 r.dev, .int .i64 r.sent, .int .i64 r.til, .int .i64 r.num]
def rnsCells (l : List Rn) : List Value := l.flatMap rnCells
theorem rnsCells_snoc (l : List Rn) (r : Rn) : rnsCells (l ++ [r]) = rnsCells l ++ rnCells r := by simp [rnsCells]
theorem own_any {w : World} {B : Nat} {e : TypeId} {size : Nat} {v : Value} {n : Nat} {xs : List Value} (h : w.ownsRow 0 e size v n xs) (hB : ∀ b, v.ownBlock = some b → B ≤ b) : w.ownsRow B e size v n xs := own_base h hB
/-- A state in the making. -/
structure ShAt (w wr : World) (now : Int) (rv : Value) (rl : List Rn) (uv : Value) (ml : List Msg) : Prop where
  bel : Below w.heap.size w wr
  a : wr.heap[w.heap.size]? = some (.cells #[.int .i64 0, .slice none 0 0, .slice none 0 0] 68 (0, 0))
  o : wr.heap[w.heap.size + 1]? = some (.cells #[.int .i64 now, rv, uv] 68 (0, 0))
  r : wr.ownsRow w.heap.size 90 5 rv rl.length (rnsCells rl)
  m : wr.ownsRow w.heap.size 83 4 uv ml.length (msgsCells ml)
theorem ShAt.pushR {w wr W w1 : World} {now : Int} {rv uv : Value} {rl : List Rn} {ml : List Msg} {g cap : Nat} (h : ShAt w wr now rv rl uv ml) (r : Rn) (h0 : OneMore wr W)
    (hown1 : w1.ownsRow 0 90 5 (.slice (some ⟨g, 0, none⟩) (rl.length + 1) cap) (rl.length + 1) (rnsCells rl ++ rnCells r)) (hgrow : W.grownBy w1 rv.ownBlock) (hat : rv.ownBlock = some g ∨ g = W.heap.size) :
    ShAt w (w1.setCell ⟨w.heap.size + 1, 1, none⟩ (.slice (some ⟨g, 0, none⟩) (rl.length + 1) cap)) now (.slice (some ⟨g, 0, none⟩) (rl.length + 1) cap) (rl ++ [r]) uv ml := by
  have hs := h0.size
  have hrO : ∀ {k : Nat} {c : Array Value} {t : TypeId}, wr.heap[k]? = some (.cells c t (0, 0)) → t ≠ 90 → w1.heap[k]? = wr.heap[k]? := fun {k c t} hk ht => grown_same h0 hgrow (heap_lt hk) fun e => by
    obtain ⟨cur, hc⟩ := own_block (own0 h.r) e
    exact ne_of_type hk hc ht rfl
  have hBg : w.heap.size ≤ g := by
    rcases hat with h1 | h1
    · exact (ownsRow_lies h.r h1).1
    · have := h.bel.size; omega
  have ho1 := (hrO h.o (by decide)).trans h.o
  have hgO : g ≠ w.heap.size + 1 := by
    obtain ⟨cur, hc⟩ := own_block hown1 (k := g) rfl
    exact ne_of_type hc ho1 (by decide)
  have hb : Below w.heap.size w w1 := h.bel.trans ⟨hgrow.os.trans h0.os, hgrow.tape.trans h0.tape, hgrow.output.trans h0.output, by have := grown_size h0 hgrow; omega, fun k hk => grown_same h0 hgrow (by have := h.bel.size; omega) (fun e => by have := (ownsRow_lies h.r e).1; omega)⟩
  refine ⟨hb.setCell (p := ⟨w.heap.size + 1, 1, none⟩) (Nat.le_succ _) _, ?_, ?_, ?_, ?_⟩
  · rw [Below.heap_setCell _ _ _ _ (show w.heap.size ≠ w.heap.size + 1 by omega)]
    exact (hrO h.a (by decide)).trans h.a
  · rw [heap_setCell_self _ ho1]; rfl
  · rw [rnsCells_snoc, List.length_append]
    refine own_any (own_keep hown1 fun k hk => ?_) fun b hb => ?_
    · simp [Value.ownBlock] at hk; subst hk; exact Below.heap_setCell _ _ _ _ hgO
    · simp [Value.ownBlock] at hb; omega
  · refine own_stays h.m fun k hk => ?_
    obtain ⟨c, hc⟩ := own_block (own0 h.m) hk
    rw [Below.heap_setCell _ _ _ _ (ne_of_type hc h.o (by decide))]
    exact hrO hc (by decide)
theorem ShAt.pushM {w wr w1 : World} {now : Int} {rv uv v' : Value} {rl : List Rn} {ml : List Msg} (h : ShAt w wr now rv rl uv ml) (q : List Msg)
    (hown1 : w1.ownsRow 0 83 4 v' (ml.length + q.length) (msgsCells ml ++ msgsCells q)) (ha : Appended wr w1 uv ml.length q.length v') :
    ShAt w (w1.setCell ⟨w.heap.size + 1, 2, none⟩ v') now rv rl v' (ml ++ q) := by
  obtain ⟨hb, hown2⟩ := appended_below h.bel h.bel.size h.m hown1 ha
  have hrO : ∀ {k : Nat} {c : Array Value} {t : TypeId}, wr.heap[k]? = some (.cells c t (0, 0)) → t ≠ 83 → w1.heap[k]? = wr.heap[k]? := fun {k c t} hk ht => by
    rcases ha with ⟨g, cap, e1, _, hg⟩ | ⟨_, hg⟩
    · refine hg.block k (heap_lt hk) fun e => ?_
      cases e
      obtain ⟨cur, hc⟩ := own_block (own0 h.m) (k := k) (by rw [e1]; rfl)
      exact ne_of_type hk hc ht rfl
    · exact hg.block k (heap_lt hk) (by simp)
  have ho1 := (hrO h.o (by decide)).trans h.o
  have e2 : msgsCells (ml ++ q) = msgsCells ml ++ msgsCells q := by unfold msgsCells; rw [List.map_append, codeCells_append]
  refine ⟨hb.setCell (p := ⟨w.heap.size + 1, 2, none⟩) (Nat.le_succ _) _, ?_, ?_, ?_, ?_⟩
  · rw [Below.heap_setCell _ _ _ _ (show w.heap.size ≠ w.heap.size + 1 by omega)]
    exact (hrO h.a (by decide)).trans h.a
  · rw [heap_setCell_self _ ho1]; rfl
  · refine own_stays h.r fun k hk => ?_
    obtain ⟨c, hc⟩ := own_block (own0 h.r) hk
    rw [Below.heap_setCell _ _ _ _ (ne_of_type hc h.o (by decide))]
    exact hrO hc (by decide)
  · rw [e2, List.length_append]
    refine own_stays hown2 fun k hk => ?_
    obtain ⟨c, hc⟩ := own_block (own0 hown2) hk
    exact Below.heap_setCell _ _ _ _ (ne_of_type hc ho1 (by decide))
theorem ShAt.drew {w wr : World} {now : Int} {rv uv : Value} {rl : List Rn} {ml : List Msg} (h : ShAt w wr now rv rl uv ml) : ShAt w wr.drew now rv rl uv ml :=
  ⟨h.bel.drew, h.a, h.o, own_stays h.r fun _ _ => rfl, own_stays h.m fun _ _ => rfl⟩
def upQ (qs : Nat → List Msg) : Nat → List Msg
  | 0 => []
  | j + 1 => upQ qs j ++ qs j
set_option maxRecDepth 20000 in
set_option maxHeartbeats 4000000 in
theorem r_Show (S Q : Nat) (s : Sd) (pv : Value) (rec : ByteArray) (now last : Int) (qv : Nat → Value) (qs : Nat → List Msg) (rs : List Rs) (w : World) (H : SimAt w S Q s pv rec now last qv qs rs) (hl : rs.length ≤ 1000) (hq : ∀ d, (qs d).length ≤ 1000) :
    Calls Try.prog 56 #[.pointer (some ⟨S, 0, none⟩)] w fun e w' => ∃ rv uv, e = .returned (.agg #[.int .i64 now, rv, uv]) ∧ w'.ownsRow w.heap.size 90 5 rv rs.length (rnsCells (rs.map fun x => pubP x.p)) ∧ w'.ownsRow w.heap.size 83 4 uv (qs 0 ++ qs 1 ++ qs 2).length (msgsCells (qs 0 ++ qs 1 ++ qs 2)) ∧ Below w.heap.size w w' := by
  have c3 : w.cell? ⟨S, 3, none⟩ = some (.int .i64 now) := (cell_of_heap H.sB).trans rfl
  have c5 : w.cell? ⟨S, 5, none⟩ = some pv := (cell_of_heap H.sB).trans rfl
  have c6 : w.cell? ⟨S, 6, none⟩ = some (.slice (some ⟨Q, 0, none⟩) 3 3) := (cell_of_heap H.sB).trans rfl
  have hSl := heap_lt H.sB
  have hQl := heap_lt H.qB
  have HH : Hid (SimAt w S Q s pv rec now last qv qs rs) := H
  have HQ : Hid (∀ d, (qs d).length ≤ 1000) := hq
  obtain ⟨pa, pc, hpv⟩ := ownsRow_slice H.lB
  subst hpv
  clear H hq
  go_enter Try.func56, Try.ntmps56
  go_wp2_with fail
  go_loopw [4] (fun i wr => ∃ (k : Nat) (rv : Value), k ≤ rs.length ∧ i = .int .i64 k ∧ Hid (ShAt w wr now rv ((rs.map fun x => pubP x.p).take k) (.slice none 0 0) [])) (fun i _ => rs.length - (intOf i).toNat)
  case atStart =>
    refine ⟨0, .slice none 0 0, Nat.zero_le _, rfl, ⟨((Below.refl _ _).alloc (Nat.le_refl _) _).alloc (by simp) _, ?_, heap_alloc2 _ _ _, World.ownsRow_nil _ _ _ _, World.ownsRow_nil _ _ _ _⟩⟩
    rw [Below.heap_alloc _ _ _ (by simp)]; exact heap_alloc_new _ _
  case round =>
    obtain ⟨k, rv, hk, rfl, HS⟩ := hrel
    have k5 : wr.cell? ⟨S, 5, none⟩ = some (.slice pa rs.length pc) := (HS.out.bel.cell (p := ⟨S, 5, none⟩) hSl).trans c5
    have k6 : wr.cell? ⟨S, 6, none⟩ = some (.slice (some ⟨Q, 0, none⟩) 3 3) := (HS.out.bel.cell (p := ⟨S, 6, none⟩) hSl).trans c6
    have hl1 := heap_lt HS.out.o
    by_cases hlt : k < rs.length
    · obtain ⟨gp, pc', hv, _, hgl⟩ := HH.out.lB.form (by omega)
      simp at hv
      obtain ⟨rfl, rfl⟩ := hv
      have hptr : wr.cell? ⟨gp, k, none⟩ = some (.pointer (some ⟨rs[k].P, 0, none⟩)) := by
        rw [HS.out.bel.cell (p := ⟨gp, k, none⟩) hgl]
        exact own_cell HH.out.lB rfl (by unfold ptrs idsOf; rw [List.map_map]; simp [hlt])
      have hrun := (HH.out.rB rs[k] (List.getElem_mem hlt)).1
      have hrun2 := (HS.out.bel.block rs[k].P (heap_lt hrun)).trans hrun
      have hPl := heap_lt hrun2
      have p0 : wr.cell? ⟨rs[k].P, 0, none⟩ = some (.int .i64 rs[k].p.id) := (cell_of_heap hrun2).trans rfl
      have p1 : wr.cell? ⟨rs[k].P, 1, none⟩ = some (.int .i64 rs[k].p.dev) := (cell_of_heap hrun2).trans rfl
      have p2 : wr.cell? ⟨rs[k].P, 2, none⟩ = some (.int .i64 rs[k].p.sent) := (cell_of_heap hrun2).trans rfl
      have p3 : wr.cell? ⟨rs[k].P, 3, none⟩ = some (.int .i64 rs[k].p.til) := (cell_of_heap hrun2).trans rfl
      have p4 : wr.cell? ⟨rs[k].P, 4, none⟩ = some (.int .i64 rs[k].p.num) := (cell_of_heap hrun2).trans rfl
      have HTK : Hid ((rs.map fun x => pubP x.p).take (k + 1) = (rs.map fun x => pubP x.p).take k ++ [pubP rs[k].p]) := by
        show _ = _
        rw [List.take_succ_eq_append_getElem (by simpa using hlt)]
        simp
      obtain ⟨rl, hrl⟩ : ∃ rl, rl = (rs.map fun x => pubP x.p).take k := ⟨_, rfl⟩
      rw [← hrl] at HS HTK
      have HRL : Hid (rl.length = k) := (by rw [hrl]; simp; omega : rl.length = k)
      obtain ⟨ra, rc, hrv⟩ := ownsRow_slice HS.out.r
      subst hrv
      have o1 : wr.cell? ⟨w.heap.size + 1, 1, none⟩ = some (.slice ra rl.length rc) := (cell_of_heap HS.out.o).trans rfl
      have y1 : wr.frozen? ⟨w.heap.size + 1, 1, none⟩ = false := free_of_heap HS.out.o
      have HNE : Hid ((Value.slice ra rl.length rc).ownBlock ≠ some (w.heap.size + 1)) := fun e => by obtain ⟨cur, hc⟩ := own_block (own0 HS.out.r) e; exact ne_of_type hc HS.out.o (by decide) rfl
      generalize rs[k] = x at *
      have hgl2 : gp < wr.heap.size := Nat.lt_of_lt_of_le hgl HS.out.bel.size
      have hSl2 : S < wr.heap.size := Nat.lt_of_lt_of_le hSl HS.out.bel.size
      clear hrl hrun hrun2
      go_upto_region 5 with fail
      go_region_law (refine step_push _ rfl (.tmp 21) (.tmp 32) 65 rfl 90 _ 5 40 Try.underlying65 Try.infoRun rfl (by decide) (by decide) (.slice ra rl.length rc) _ _ wr.heap.size [.int .i64 x.p.id, .int .i64 x.p.dev, .int .i64 x.p.sent, .int .i64 x.p.til, .int .i64 x.p.num] (by rfl) (by exact (own0 HS.out.r).alloc _) (by exact heap_alloc_new _ _) (by rfl) rfl (by simp [Value.oneCell']) (by have := HRL.out; omega) ?_; intro g1 cap1 w2 hown1 hgrow hat hlt2; have hc1 : w2.cell? ⟨w.heap.size + 1, 1, none⟩ = some (.slice ra rl.length rc) := (cell_of_heap (grown_block (OneMore.alloc _ _).drew hgrow HS.out.o HNE.out)).trans rfl; have hf1 : w2.frozen? ⟨w.heap.size + 1, 1, none⟩ = false := free_of_heap (grown_block (OneMore.alloc _ _).drew hgrow HS.out.o HNE.out))
      all_goals
        have HP := HS.out.pushR (pubP x.p) (OneMore.alloc _ _).drew hown1 hgrow hat
        rw [← HTK.out] at HP
        have HP2 : Hid (ShAt w _ now _ _ (.slice none 0 0) []) := HP
        clear HP
        go_wp2_with fail
        go_roundw
        case rel => exact ⟨k + 1, _, by omega, by go_num, HP2⟩
        case measure => simp [intOf]; omega
    · have HK : Hid ((rs.map fun x => pubP x.p).take k = rs.map fun x => pubP x.p) := List.take_of_length_le (by simp; omega)
      rw [HK.out] at HS
      obtain ⟨ra, rc, hrv⟩ := ownsRow_slice HS.out.r
      rw [List.length_map] at hrv
      subst hrv
      clear HK
      go_wp2_with fail
      go_loopw [5] (fun i wr' => ∃ (j : Nat) (uv : Value), j ≤ 3 ∧ i = .int .i64 j ∧ Hid (ShAt w wr' now (.slice ra rs.length rc) (rs.map fun x => pubP x.p) uv (upQ qs j))) (fun i _ => 3 - (intOf i).toNat)
      case atStart => exact ⟨0, .slice none 0 0, Nat.zero_le _, rfl, HS⟩
      case round =>
        clear k5 k6 hl1 HS
        obtain ⟨j, uv, hj, rfl, HS⟩ := hrel
        have k6 : wr.cell? ⟨S, 6, none⟩ = some (.slice (some ⟨Q, 0, none⟩) 3 3) := (HS.out.bel.cell (p := ⟨S, 6, none⟩) hSl).trans c6
        have hl1 := heap_lt HS.out.o
        obtain ⟨ua, uc, huv⟩ := ownsRow_slice HS.out.m
        subst huv
        have o0 : wr.cell? ⟨w.heap.size + 1, 0, none⟩ = some (.int .i64 now) := (cell_of_heap HS.out.o).trans rfl
        have o1 : wr.cell? ⟨w.heap.size + 1, 1, none⟩ = some (.slice ra rs.length rc) := (cell_of_heap HS.out.o).trans rfl
        have o2 : wr.cell? ⟨w.heap.size + 1, 2, none⟩ = some (.slice ua (upQ qs j).length uc) := (cell_of_heap HS.out.o).trans rfl
        have y2 : wr.frozen? ⟨w.heap.size + 1, 2, none⟩ = false := free_of_heap HS.out.o
        by_cases hlt3 : j < 3
        · obtain ⟨qa, qc, hqv⟩ := ownsRow_slice (HH.out.oB j hlt3)
          have cq : wr.cell? ⟨Q, j, none⟩ = some (.slice qa (qs j).length qc) := by
            rw [HS.out.bel.cell (p := ⟨Q, j, none⟩) hQl, cell_of_heap HH.out.qB, three qv j hlt3, hqv]
          have hQl2 : Q < wr.heap.size := Nat.lt_of_lt_of_le hQl HS.out.bel.size
          have hlq := HQ.out j
          have hlu : (upQ qs j).length ≤ 3000 := by
            have h0 := HQ.out 0
            have h1 := HQ.out 1
            rcases (show j = 0 ∨ j = 1 ∨ j = 2 by omega) with rfl | rfl | rfl <;> simp [upQ] <;> omega
          have HSRC : Hid (∀ W : World, W.heap = wr.heap → SrcAt W qa (qs j).length (msgsCells (qs j))) := fun W hW hp => by
            have ho := HH.out.oB j hlt3
            rw [hqv] at ho
            obtain ⟨g, c, hv, _, hgl⟩ := ho.form hp
            simp at hv
            obtain ⟨rfl, rfl⟩ := hv
            refine ⟨_, rfl, fun i u hu => ?_⟩
            have h1 := ho.cells (g := g) rfl i u hu
            rw [World.cell?_of_block (w := wr) (w' := W) (by rw [hW])]
            rw [Addr.add_lit] at h1 ⊢
            rw [HS.out.bel.cell (p := ⟨g, 0 + i, none⟩) hgl]
            exact h1
          have HNE : Hid ((Value.slice ua (upQ qs j).length uc).ownBlock ≠ some (w.heap.size + 1)) := fun e => by obtain ⟨cur, hc⟩ := own_block (own0 HS.out.m) e; exact ne_of_type hc HS.out.o (by decide) rfl
          have HOB : Hid (∀ (W w2 : World) (v2 : Value), W.heap = wr.heap → Appended W w2 (.slice ua (upQ qs j).length uc) (upQ qs j).length (qs j).length v2 → w2.heap[w.heap.size + 1]? = some (.cells #[.int .i64 now, .slice ra rs.length rc, .slice ua (upQ qs j).length uc] 68 (0, 0))) := fun W w2 v2 hW ha => by
            have hlW : w.heap.size + 1 < W.heap.size := by rw [hW]; exact hl1
            rcases ha with ⟨g, cap, e1, _, hg⟩ | ⟨_, hg⟩
            · rw [hg.block _ hlW (fun e => HNE.out (by rw [e1]; exact e.symm)), hW]; exact HS.out.o
            · rw [hg.block _ hlW (by simp), hW]; exact HS.out.o
          clear hqv
          go_upto_region 9 with fail
          go_region_law (refine step_append_src _ rfl (.tmp 45) (.tmp 52) 66 rfl 83 _ 4 32 Try.underlying66 Try.infoMsg rfl (by decide) (by decide) (.slice ua (upQ qs j).length uc) _ (msgsCells (upQ qs j)) qa _ qc (msgsCells (qs j)) (by rfl) (by exact own0 HS.out.m) (by rfl) (by exact HSRC.out _ rfl) (msgsCells_length _) (by exact codeCells_one _) (by omega) ?_; intro v2 w2 hown2 ha2; have hob := HOB.out wr.drew w2 v2 rfl ha2; have hc1 : w2.cell? ⟨w.heap.size + 1, 2, none⟩ = some (.slice ua (upQ qs j).length uc) := (cell_of_heap hob).trans rfl; have hf1 : w2.frozen? ⟨w.heap.size + 1, 2, none⟩ = false := free_of_heap hob; obtain ⟨va, vc, hv2⟩ := ownsRow_slice hown2; subst hv2)
          all_goals
            have HP := ShAt.pushM HS.out.drew (qs j) hown2 ha2
            have HP2 : Hid (ShAt w _ now (.slice ra rs.length rc) (rs.map fun x => pubP x.p) _ (upQ qs (j + 1))) := HP
            clear HP
            go_wp2_with fail
            go_roundw
            case rel => exact ⟨j + 1, _, by omega, by go_num, HP2⟩
            case measure => simp [intOf]; omega
        · have hj3 : j = 3 := by omega
          subst hj3
          have r0 : wr.cell? ⟨w.heap.size, 0, none⟩ = some (.int .i64 0) := (cell_of_heap HS.out.a).trans rfl
          have r1 : wr.cell? ⟨w.heap.size, 1, none⟩ = some (.slice none 0 0) := (cell_of_heap HS.out.a).trans rfl
          have r2 : wr.cell? ⟨w.heap.size, 2, none⟩ = some (.slice none 0 0) := (cell_of_heap HS.out.a).trans rfl
          have y0 : wr.frozen? ⟨w.heap.size, 0, none⟩ = false := free_of_heap HS.out.a
          have y1 : wr.frozen? ⟨w.heap.size, 1, none⟩ = false := free_of_heap HS.out.a
          have y2' : wr.frozen? ⟨w.heap.size, 2, none⟩ = false := free_of_heap HS.out.a
          have HB : Hid (Below w.heap.size w (((wr.setCell ⟨w.heap.size, 0, none⟩ (.int .i64 now)).setCell ⟨w.heap.size, 1, none⟩ (.slice ra rs.length rc)).setCell ⟨w.heap.size, 2, none⟩ (.slice ua (upQ qs 3).length uc))) :=
            ((HS.out.bel.setCell (p := ⟨w.heap.size, 0, none⟩) (Nat.le_refl _) _).setCell (p := ⟨w.heap.size, 1, none⟩) (Nat.le_refl _) _).setCell (p := ⟨w.heap.size, 2, none⟩) (Nat.le_refl _) _
          have HU : Hid (upQ qs 3 = qs 0 ++ qs 1 ++ qs 2) := (by simp [upQ] : upQ qs 3 = qs 0 ++ qs 1 ++ qs 2)
          go_wp2_with fail
          refine bodyPost_ret (v := .agg #[.int .i64 now, .slice ra rs.length rc, .slice ua (upQ qs 3).length uc]) (by simp [results, Try.results56, go_sem, r0, r1, r2]) rfl ⟨_, _, rfl, ?_, ?_, HB.out⟩
          · have h := HS.out.r
            rw [List.length_map] at h
            refine own_stays h fun k hk => ?_
            obtain ⟨c, hc⟩ := own_block (own0 h) hk
            have hne := ne_of_type hc HS.out.a (by decide)
            rw [Below.heap_setCell _ _ _ _ hne, Below.heap_setCell _ _ _ _ hne, Below.heap_setCell _ _ _ _ hne]
          · rw [← HU.out]
            have h := HS.out.m
            refine own_stays h fun k hk => ?_
            obtain ⟨c, hc⟩ := own_block (own0 h) hk
            have hne := ne_of_type hc HS.out.a (by decide)
            rw [Below.heap_setCell _ _ _ _ hne, Below.heap_setCell _ _ _ _ hne, Below.heap_setCell _ _ _ _ hne]
end Go.Proofs.Ytmmmnghiegajmaa
