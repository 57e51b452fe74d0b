import Derived.Test.YtmmmnghiegajmaaM20
import Derived.Test.YtmmmnghiegajmaaM14
/- The program's herald: a run goes on, answered or not; Cancel. -/
namespace Go.Proofs.Ytmmmnghiegajmaa
open Go.RowKit Go.Proofs.Herald
theorem wpOp_do {P : Program} {ops : Array Oper} {Q : Exit → Act → World → Prop} {i : Nat} {K : Act → World → Prop} {a : Act} {w : World} {o : Oper} (ho : ops[i]? = some o) (hg : o.guard = none) (h : ∀ K' : Act → World → Prop, (∀ a w, K a w → K' a w) → o.wp P a w K' Q) : wpOp P ops Q i K a w :=
  wpOp_step ho fun K' hK => by
    rw [if_pos (by simp [Region.wanted, hg])]
    exact h K' hK
theorem getD_set_self {listed : Array Bool} {i : Nat} (h : i < listed.size) : (listed.setIfInBounds i true).getD i false = true := by
  simp [h]
/-- Behind a run's going on. -/
structure ProcOut (w w' : World) (H : Nat) (code rec : Value) (now last : Int) (rv : Value) (qv : Nat → Value) (qs : Nat → List Msg) (ps : List Pr) : Prop where
  ex : ∃ rv' qv', HAt w' H code rec now last rv' qv' qs ps ∧ ∀ k, ownH H rv' qv' k → ownH H rv qv k ∨ w.heap.size ≤ k
  fr : Fr (ownH H rv qv) w w'
set_option maxRecDepth 20000 in
set_option maxHeartbeats 8000000 in
theorem h_proceed_no (H : Nat) (code rec : Value) (now last : Int) (rv : Value) (qv : Nat → Value) (qs : Nat → List Msg) (ps : List Pr) (i d : Nat) (cs : List Ins) (w : World) (h : HAt w H code rec now last rv qv qs ps) (hl : ps.length ≤ 1000) (hi : i < ps.length) (hd : d < 3) (hdev : ps[i].dev = (d : Nat))
    (hc : w.ownsRow 0 128 4 code cs.length (codeCells cs)) (hsnd : soundL cs = true) (hm : MidM cs.length 0 ps[i].sent (qs d) ps[i]) (hs : ps[i].sent ≤ 999999999999990000) (ht0 : 0 ≤ now) (ht1 : now ≤ 1000000000) (hdone : (runM now cs 10000 (qs d) ps[i]).2.2 = true) :
    Calls Try.prog 100 #[.pointer (some ⟨H, 0, none⟩), .int .i64 (i : Nat)] w fun e w' => e = .returned (.tuple #[]) ∧ ProcOut w w' H code rec now last rv qv (updQ qs d (runM now cs 10000 (qs d) ps[i]).1) (ps.eraseIdx i) := by
  obtain ⟨g, cap, hv, _, hgl⟩ := h.rB.form (by omega)
  subst hv
  have c0 : w.cell? ⟨H, 0, none⟩ = some code := (cell_of_heap h.blk).trans rfl
  have c1 : w.cell? ⟨H, 1, none⟩ = some (.int .i64 now) := (cell_of_heap h.blk).trans rfl
  have c3 : w.cell? ⟨H, 3, none⟩ = some (.slice (some ⟨g, 0, none⟩) ps.length cap) := (cell_of_heap h.blk).trans rfl
  have hHl : H < w.heap.size := heap_lt h.blk
  have hran := run_range h.rB h.rl hi
  have hrl := h.rl _ (List.getElem_mem hi)
  have HH : Hid (HAt w H code rec now last (.slice (some ⟨g, 0, none⟩) ps.length cap) qv qs ps) := h
  generalize hp : ps[i] = p at *
  obtain ⟨C, hC⟩ : ∃ C, C = (runCells p).toArray := ⟨_, rfl⟩
  have HCR : Hid (CellsR C p ∧ w.rangeAt g (i * 19) C.toList) := ⟨⟨hC, hrl⟩, CellsR.range ⟨hC, hrl⟩ hran⟩
  have k0 : C[1]? = some (.int .i64 (d : Nat)) := by rw [hC, ← hdev]; rfl
  have hdi : (d : Int) < 3 := by omega
  generalize hRR : runM now cs 10000 (qs d) p = RR at *
  have HGO : Hid (∀ W, W = (w.alloc (.cells C 187)).drew → Calls Try.prog 136 #[.pointer (some ⟨w.heap.size, 0, none⟩), code, .pointer (some ⟨H, 4 + d, none⟩), .int .i64 now] W fun e w' => e = .returned (.bool false) ∧ MOut W w' w.heap.size H (4 + d) (hCells code rec now last (.slice (some ⟨g, 0, none⟩) ps.length cap) qv) 150 (qv d) RR.1 RR.2.1) := fun W hW => by
    have hb : Below w.heap.size w W := by rw [hW]; exact ((Below.refl _ _).alloc (Nat.le_refl _) _).drew
    have hA : MAt W w.heap.size H (4 + d) (hCells code rec now last (.slice (some ⟨g, 0, none⟩) ps.length cap) qv) 150 (qv d) (qs d) p := ⟨by rw [hW, ← hC]; exact heap_alloc_new _ _, hrl, (h.que hd).below hb, by decide⟩
    refine (m_goOn _ H (4 + d) _ _ (qv d) code (qs d) p now cs W hA (own_keep hc fun b hb' => by obtain ⟨c, hc'⟩ := own_block hc hb'; exact hb.block b (heap_lt hc')) (by decide) hsnd hm hs ht0 ht1).mono ?_
    rintro e w' ⟨rfl, ho⟩
    rw [hRR] at ho ⊢
    rw [hdone]
    exact ⟨rfl, ho⟩
  obtain ⟨ca, cc, hcode⟩ := ownsRow_slice hc
  subst hcode
  clear h hc hsnd hm hs hran hrl hRR hgl hC
  go_enter Try.func100, Try.ntmps100
  go_upto_region 2 with (first | (refine wpList_load_mid rfl 187 (.tmp 12) rfl g (i * 19) (by rfl) C.toList _ HCR.out.2 Try.underlying187 rfl HCR.out.1.infoL ?_) | (refine wpList_store_new w rfl 187 (.tmp 4) (.tmp 13) rfl zeroRun C (by rfl) (by rfl) HCR.out.1.info HCR.out.1.zero HCR.out.1.one ?_))
  go_cut [6] (fun r wx => r = .bool false ∧ Hid (∃ W, W = (w.alloc (.cells C 187)).drew ∧ MOut W wx w.heap.size H (4 + d) (hCells (.slice ca cs.length cc) rec now last (.slice (some ⟨g, 0, none⟩) ps.length cap) qv) 150 (qv d) RR.1 RR.2.1))
  case first =>
    go_region_with (go_at_call 136; refine (HGO.out _ rfl).mono ?_; rintro e w1 ⟨rfl, ho⟩)
    all_goals
      go_wp2_with fail
      go_meet
      case rel => exact ⟨rfl, _, rfl, ho⟩
  case rest =>
    obtain ⟨rfl, HX⟩ := hcut
    have HB : Hid (∃ v', HAt wc H (.slice ca cs.length cc) rec now last (.slice (some ⟨g, 0, none⟩) ps.length cap) (upd qv d v') (updQ qs d RR.1) ps ∧ (∀ k, ownH H (.slice (some ⟨g, 0, none⟩) ps.length cap) (upd qv d v') k → ownH H (.slice (some ⟨g, 0, none⟩) ps.length cap) qv k ∨ w.heap.size ≤ k) ∧ Fr (ownH H (.slice (some ⟨g, 0, none⟩) ps.length cap) qv) w wc) := by
      obtain ⟨W, hW, ho⟩ := HX.out
      obtain ⟨v', h1, _, _, h4, h5⟩ := HH.out.ran hd (by rw [hW]; exact ((Below.refl _ _).alloc (Nat.le_refl _) _).drew) (Nat.le_refl _) ho
      exact ⟨v', h1, h4, h5⟩
    obtain ⟨v', hA, hO, hF⟩ := HB.out
    have HR : Hid (Calls Try.prog 108 #[.pointer (some ⟨H, 0, none⟩), .int .i64 (i : Nat)] wc fun e w' => e = .returned (.tuple #[]) ∧ ProcOut w w' H (.slice ca cs.length cc) rec now last (.slice (some ⟨g, 0, none⟩) ps.length cap) qv (updQ qs d RR.1) (ps.eraseIdx i)) := by
      refine (h_remove H _ rec now last _ _ _ ps i wc hA hl).mono ?_
      rintro e w' ⟨rfl, rv', hr⟩
      refine ⟨rfl, ⟨rv', _, hA.setRuns hr fun x hx => hA.rl x (List.mem_of_mem_eraseIdx hx), fun k hk => ?_⟩, hF.trans (hr.fr.mono fun k _ hk => .inl hk)⟩
      rcases hk with rfl | hk | hk
      · exact .inl (.inl rfl)
      · exact hO k (.inr (.inl hk))
      · exact .inr (Nat.le_trans hF.size (ownsRow_lies hr.own hk).1)
    clear hA hO hF HB HX HGO HCR c0 c1 c3 hHl k0
    go_wp2_with fail
    refine HR.out.mono ?_
    rintro e w' ⟨rfl, hout⟩
    go_wp2_with fail
    go_end0
    exact ⟨rfl, hout⟩
set_option maxRecDepth 20000 in
set_option maxHeartbeats 8000000 in
theorem h_proceed_yes (H : Nat) (code rec : Value) (now last : Int) (rv : Value) (qv : Nat → Value) (qs : Nat → List Msg) (ps : List Pr) (i d : Nat) (cs : List Ins) (w : World) (h : HAt w H code rec now last rv qv qs ps) (hl : ps.length ≤ 1000) (hi : i < ps.length) (hd : d < 3) (hdev : ps[i].dev = (d : Nat))
    (hc : w.ownsRow 0 128 4 code cs.length (codeCells cs)) (hsnd : soundL cs = true) (hm : MidM cs.length 0 ps[i].sent (qs d) ps[i]) (hs : ps[i].sent ≤ 999999999999990000) (ht0 : 0 ≤ now) (ht1 : now ≤ 1000000000) (hdone : (runM now cs 10000 (qs d) ps[i]).2.2 = false) :
    Calls Try.prog 100 #[.pointer (some ⟨H, 0, none⟩), .int .i64 (i : Nat)] w fun e w' => e = .returned (.tuple #[]) ∧ ProcOut w w' H code rec now last rv qv (updQ qs d (runM now cs 10000 (qs d) ps[i]).1) (ps.set i (runM now cs 10000 (qs d) ps[i]).2.1) := by
  obtain ⟨g, cap, hv, _, hgl⟩ := h.rB.form (by omega)
  subst hv
  have c0 : w.cell? ⟨H, 0, none⟩ = some code := (cell_of_heap h.blk).trans rfl
  have c1 : w.cell? ⟨H, 1, none⟩ = some (.int .i64 now) := (cell_of_heap h.blk).trans rfl
  have c3 : w.cell? ⟨H, 3, none⟩ = some (.slice (some ⟨g, 0, none⟩) ps.length cap) := (cell_of_heap h.blk).trans rfl
  have hHl : H < w.heap.size := heap_lt h.blk
  have hran := run_range h.rB h.rl hi
  have hrl := h.rl _ (List.getElem_mem hi)
  have HH : Hid (HAt w H code rec now last (.slice (some ⟨g, 0, none⟩) ps.length cap) qv qs ps) := h
  generalize hp : ps[i] = p at *
  obtain ⟨C, hC⟩ : ∃ C, C = (runCells p).toArray := ⟨_, rfl⟩
  have HCR : Hid (CellsR C p ∧ w.rangeAt g (i * 19) C.toList) := ⟨⟨hC, hrl⟩, CellsR.range ⟨hC, hrl⟩ hran⟩
  have k0 : C[1]? = some (.int .i64 (d : Nat)) := by rw [hC, ← hdev]; rfl
  have hdi : (d : Int) < 3 := by omega
  generalize hRR : runM now cs 10000 (qs d) p = RR at *
  have HGO : Hid (∀ W, W = (w.alloc (.cells C 187)).drew → Calls Try.prog 136 #[.pointer (some ⟨w.heap.size, 0, none⟩), code, .pointer (some ⟨H, 4 + d, none⟩), .int .i64 now] W fun e w' => e = .returned (.bool true) ∧ MOut W w' w.heap.size H (4 + d) (hCells code rec now last (.slice (some ⟨g, 0, none⟩) ps.length cap) qv) 150 (qv d) RR.1 RR.2.1) := fun W hW => by
    have hb : Below w.heap.size w W := by rw [hW]; exact ((Below.refl _ _).alloc (Nat.le_refl _) _).drew
    have hA : MAt W w.heap.size H (4 + d) (hCells code rec now last (.slice (some ⟨g, 0, none⟩) ps.length cap) qv) 150 (qv d) (qs d) p := ⟨by rw [hW, ← hC]; exact heap_alloc_new _ _, hrl, (h.que hd).below hb, by decide⟩
    refine (m_goOn _ H (4 + d) _ _ (qv d) code (qs d) p now cs W hA (own_keep hc fun b hb' => by obtain ⟨c, hc'⟩ := own_block hc hb'; exact hb.block b (heap_lt hc')) (by decide) hsnd hm hs ht0 ht1).mono ?_
    rintro e w' ⟨rfl, ho⟩
    rw [hRR] at ho ⊢
    rw [hdone]
    exact ⟨rfl, ho⟩
  obtain ⟨ca, cc, hcode⟩ := ownsRow_slice hc
  subst hcode
  clear h hc hsnd hm hs hran hrl hRR hgl hC
  go_enter Try.func100, Try.ntmps100
  go_upto_region 2 with (first | (refine wpList_load_mid rfl 187 (.tmp 12) rfl g (i * 19) (by rfl) C.toList _ HCR.out.2 Try.underlying187 rfl HCR.out.1.infoL ?_) | (refine wpList_store_new w rfl 187 (.tmp 4) (.tmp 13) rfl zeroRun C (by rfl) (by rfl) HCR.out.1.info HCR.out.1.zero HCR.out.1.one ?_))
  go_cut [6] (fun r wx => r = .bool true ∧ Hid (∃ W, W = (w.alloc (.cells C 187)).drew ∧ MOut W wx w.heap.size H (4 + d) (hCells (.slice ca cs.length cc) rec now last (.slice (some ⟨g, 0, none⟩) ps.length cap) qv) 150 (qv d) RR.1 RR.2.1))
  case first =>
    go_region_with (go_at_call 136; refine (HGO.out _ rfl).mono ?_; rintro e w1 ⟨rfl, ho⟩)
    all_goals
      go_wp2_with fail
      go_meet
      case rel => exact ⟨rfl, _, rfl, ho⟩
  case rest =>
    obtain ⟨rfl, HX⟩ := hcut
    clear c0 c1 c3
    obtain ⟨v', hA, hRb, hRl, hO, hF⟩ : ∃ v', HAt wc H (.slice ca cs.length cc) rec now last (.slice (some ⟨g, 0, none⟩) ps.length cap) (upd qv d v') (updQ qs d RR.1) ps ∧ wc.heap[w.heap.size]? = some (.cells (runCells RR.2.1).toArray 187 (0, 0)) ∧ RR.2.1.regs.length = 12 ∧ (∀ k, ownH H (.slice (some ⟨g, 0, none⟩) ps.length cap) (upd qv d v') k → ownH H (.slice (some ⟨g, 0, none⟩) ps.length cap) qv k ∨ w.heap.size ≤ k) ∧ Fr (ownH H (.slice (some ⟨g, 0, none⟩) ps.length cap) qv) w wc := by
      obtain ⟨W, hW, ho⟩ := HX.out
      exact HH.out.ran hd (by rw [hW]; exact ((Below.refl _ _).alloc (Nat.le_refl _) _).drew) (Nat.le_refl _) ho
    obtain ⟨D, hD⟩ : ∃ D, D = (runCells RR.2.1).toArray := ⟨_, rfl⟩
    have HD : Hid (CellsR D RR.2.1 ∧ wc.drew.rangeAt w.heap.size 0 D.toList ∧ wc.drew.there g (i * 19) D.size) := by
      refine ⟨⟨hD, hRl⟩, ?_, ?_⟩
      · exact CellsR.new (w := wc.drew) (by rw [hD]; exact hRb)
      · intro j hj
        rw [CellsR.size ⟨hD, hRl⟩] at hj
        have hr := runsCells_get hA.rl hi hj
        have hlt : j < (runCells ps[i]).length := by rw [runCells_length (hA.rl _ (List.getElem_mem hi))]; exact hj
        rw [List.getElem?_eq_getElem hlt] at hr
        have h2 := own_get hA.rB (i * 19 + j) _ hr
        exact ⟨by show (wc.cell? _).isSome = true; rw [h2.1]; rfl, h2.2⟩
    have c3 : wc.cell? ⟨H, 3, none⟩ = some (.slice (some ⟨g, 0, none⟩) ps.length cap) := (cell_of_heap hA.blk).trans rfl
    have HA : Hid (HAt wc H (.slice ca cs.length cc) rec now last (.slice (some ⟨g, 0, none⟩) ps.length cap) (upd qv d v') (updQ qs d RR.1) ps ∧ RR.2.1.regs.length = 12 ∧ (∀ k, ownH H (.slice (some ⟨g, 0, none⟩) ps.length cap) (upd qv d v') k → ownH H (.slice (some ⟨g, 0, none⟩) ps.length cap) qv k ∨ w.heap.size ≤ k) ∧ Fr (ownH H (.slice (some ⟨g, 0, none⟩) ps.length cap) qv) w wc) := ⟨hA, hRl, hO, hF⟩
    clear hA hRb hRl hO hF hD HX HGO HCR k0
    go_wp2_with fail
    refine wp_region_inv (by kernel_rfl) (fun listed ac W => ∃ x0 x1 x2 x3 x4 x5 x6, ac = { tmps := #[.pointer (some ⟨H, 0, none⟩), .int .i64 (i : Nat), undef, undef, .pointer (some ⟨w.heap.size, 0, none⟩), .int .i64 (d : Nat), .bool true, u7, u8, u9, u10, u11, u12, u13, u14, u15, u16, u17, u18, u19, u20, u21, u22, u23, u24, u25, u26, u27, u28, u29, u30, .bool true, x0, x1, x2, x3, x4, x5, x6, u39, u40, u41], defers := [] } ∧ listed.size = 8 ∧ (listed.getD 0 false = true → x0 = .pointer (some ⟨H, 0, none⟩)) ∧ (listed.getD 1 false = true → x1 = .pointer (some ⟨H, 0, none⟩)) ∧ (listed.getD 2 false = true → x2 = .pointer (some ⟨H, 3, none⟩)) ∧ (listed.getD 3 false = true → x3 = .slice (some ⟨g, 0, none⟩) ps.length cap) ∧ (listed.getD 4 false = true → x4 = .int .i64 (i : Nat)) ∧ (listed.getD 5 false = true → x5 = .agg D.toList.toArray) ∧ (listed.getD 6 false = true → x6 = .pointer (some ⟨g, i * 19, none⟩)) ∧ (listed.getD 7 false = false → W = wc.drew) ∧ (listed.getD 7 false = true → W = wc.drew.setCells g (i * 19) D.toList ∧ ∀ k, k < 7 → listed.getD k false = true)) ?_ ?_ ?_
    · exact ⟨u32, u33, u34, u35, u36, u37, u38, rfl, by simp, by simp, by simp, by simp, by simp, by simp, by simp, by simp, fun _ => rfl, by simp⟩
    · rintro listed ac W j ⟨x0, x1, x2, x3, x4, x5, x6, rfl, hsz, h0, h1, h2, h3, h4, h5, h6, hW0, hW1⟩ hj
      obtain ⟨hun, op, ho, hall⟩ := mem_ready.1 hj
      clear hj
      have hj8 : j < 8 := (Array.getElem?_eq_some_iff.1 ho).1
      have hun2 : listed.getD j false = false := by
        have hk2 : j < listed.size := by omega
        simp [hk2] at hun ⊢
        exact hun
      have hW : listed.getD 7 false = false := by
        cases h7 : listed.getD 7 false with
        | false => rfl
        | true =>
          by_cases hj7 : j = 7
          · rw [hj7, h7] at hun2; cases hun2
          · have := (hW1 h7).2 j (by omega)
            rw [this] at hun2; cases hun2
      obtain rfl := hW0 hW
      clear hW0 hW1 hun
      rcases (show j = 0 ∨ j = 1 ∨ j = 2 ∨ j = 3 ∨ j = 4 ∨ j = 5 ∨ j = 6 ∨ j = 7 by omega) with rfl | rfl | rfl | rfl | rfl | rfl | rfl | rfl
      · simp at ho
        subst ho
        refine wpOp_do (by rfl) rfl fun K2 hK2 => ?_
        simp [Oper.wp, go_sem]
        refine hK2 _ _ ?_
        exact ⟨_, x1, x2, x3, x4, x5, x6, rfl, by simpa using hsz, fun _ => rfl, fun hh => h1 (old_of (by decide) hh), fun hh => h2 (old_of (by decide) hh), fun hh => h3 (old_of (by decide) hh), fun hh => h4 (old_of (by decide) hh), fun hh => h5 (old_of (by decide) hh), fun hh => h6 (old_of (by decide) hh), fun _ => rfl, fun hh => by rw [getD_set_ne false (by decide), hW] at hh; cases hh⟩
      · simp at ho
        subst ho
        have g0 : listed.getD 0 false = true := hall { on := 0, ground := .data } (by simp) rfl
        obtain rfl := h0 g0
        refine wpOp_do (by rfl) rfl fun K2 hK2 => ?_
        simp [Oper.wp, go_sem]
        refine hK2 _ _ ?_
        exact ⟨_, _, x2, x3, x4, x5, x6, rfl, by simpa using hsz, fun _ => rfl, fun _ => rfl, fun hh => h2 (old_of (by decide) hh), fun hh => h3 (old_of (by decide) hh), fun hh => h4 (old_of (by decide) hh), fun hh => h5 (old_of (by decide) hh), fun hh => h6 (old_of (by decide) hh), fun _ => rfl, fun hh => by rw [getD_set_ne false (by decide), hW] at hh; cases hh⟩
      · simp at ho
        subst ho
        have g1 : listed.getD 1 false = true := hall { on := 1, ground := .data } (by simp) rfl
        obtain rfl := h1 g1
        refine wpOp_do (by rfl) rfl fun K2 hK2 => ?_
        simp [Oper.wp, go_sem]
        refine hK2 _ _ ?_
        exact ⟨x0, _, _, x3, x4, x5, x6, rfl, by simpa using hsz, fun hh => h0 (old_of (by decide) hh), fun _ => rfl, fun _ => rfl, fun hh => h3 (old_of (by decide) hh), fun hh => h4 (old_of (by decide) hh), fun hh => h5 (old_of (by decide) hh), fun hh => h6 (old_of (by decide) hh), fun _ => rfl, fun hh => by rw [getD_set_ne false (by decide), hW] at hh; cases hh⟩
      · simp at ho
        subst ho
        have g2 : listed.getD 2 false = true := hall { on := 2, ground := .data } (by simp) rfl
        obtain rfl := h2 g2
        refine wpOp_do (by rfl) rfl fun K2 hK2 => ?_
        simp [Oper.wp, go_sem, c3]
        refine hK2 _ _ ?_
        exact ⟨x0, x1, _, _, x4, x5, x6, rfl, by simpa using hsz, fun hh => h0 (old_of (by decide) hh), fun hh => h1 (old_of (by decide) hh), fun _ => rfl, fun _ => rfl, fun hh => h4 (old_of (by decide) hh), fun hh => h5 (old_of (by decide) hh), fun hh => h6 (old_of (by decide) hh), fun _ => rfl, fun hh => by rw [getD_set_ne false (by decide), hW] at hh; cases hh⟩
      · simp at ho
        subst ho
        refine wpOp_do (by rfl) rfl fun K2 hK2 => ?_
        simp [Oper.wp, go_sem]
        refine hK2 _ _ ?_
        exact ⟨x0, x1, x2, x3, _, x5, x6, rfl, by simpa using hsz, fun hh => h0 (old_of (by decide) hh), fun hh => h1 (old_of (by decide) hh), fun hh => h2 (old_of (by decide) hh), fun hh => h3 (old_of (by decide) hh), fun _ => rfl, fun hh => h5 (old_of (by decide) hh), fun hh => h6 (old_of (by decide) hh), fun _ => rfl, fun hh => by rw [getD_set_ne false (by decide), hW] at hh; cases hh⟩
      · simp at ho
        subst ho
        refine wpOp_do (by rfl) rfl fun K2 hK2 => ?_
        refine wp_load_mid 187 (.tmp 4) rfl w.heap.size 0 (by rfl) D.toList _ HD.out.2.1 Try.underlying187 rfl HD.out.1.infoL ?_
        refine hK2 _ _ ?_
        exact ⟨x0, x1, x2, x3, x4, _, x6, rfl, by simpa using hsz, fun hh => h0 (old_of (by decide) hh), fun hh => h1 (old_of (by decide) hh), fun hh => h2 (old_of (by decide) hh), fun hh => h3 (old_of (by decide) hh), fun hh => h4 (old_of (by decide) hh), fun _ => rfl, fun hh => h6 (old_of (by decide) hh), fun _ => rfl, fun hh => by rw [getD_set_ne false (by decide), hW] at hh; cases hh⟩
      · simp at ho
        subst ho
        have g3 : listed.getD 3 false = true := hall { on := 3, ground := .data } (by simp) rfl
        obtain rfl := h3 g3
        have g4 : listed.getD 4 false = true := hall { on := 4, ground := .data } (by simp) rfl
        obtain rfl := h4 g4
        refine wpOp_do (by rfl) rfl fun K2 hK2 => ?_
        simp [Oper.wp, go_sem, hi]
        refine hK2 _ _ ?_
        exact ⟨x0, x1, x2, _, _, x5, _, rfl, by simpa using hsz, fun hh => h0 (old_of (by decide) hh), fun hh => h1 (old_of (by decide) hh), fun hh => h2 (old_of (by decide) hh), fun _ => rfl, fun _ => rfl, fun hh => h5 (old_of (by decide) hh), fun _ => rfl, fun _ => rfl, fun hh => by rw [getD_set_ne false (by decide), hW] at hh; cases hh⟩
      · simp at ho
        subst ho
        have g6 : listed.getD 6 false = true := hall { on := 6, ground := .data } (by simp) rfl
        obtain rfl := h6 g6
        have g5 : listed.getD 5 false = true := hall { on := 5, ground := .data } (by simp) rfl
        obtain rfl := h5 g5
        refine wpOp_do (by rfl) rfl fun K2 hK2 => ?_
        refine wp_store_mid 187 (.tmp 38) (.tmp 37) rfl g (i * 19) D (by rfl) (by rfl) HD.out.2.2 HD.out.1.info HD.out.1.one ?_
        refine hK2 _ _ ?_
        have gall : ∀ k, k < 7 → listed.getD k false = true := by
          intro k hk
          rcases (show k = 0 ∨ k = 1 ∨ k = 2 ∨ k = 3 ∨ k = 4 ∨ k = 5 ∨ k = 6 by omega) with rfl | rfl | rfl | rfl | rfl | rfl | rfl
          · exact hall { on := 0, ground := .phase } (by simp) rfl
          · exact hall { on := 1, ground := .phase } (by simp) rfl
          · exact hall { on := 2, ground := .phase } (by simp) rfl
          · exact hall { on := 3, ground := .phase } (by simp) rfl
          · exact hall { on := 4, ground := .phase } (by simp) rfl
          · exact g5
          · exact g6
        exact ⟨x0, x1, x2, x3, x4, _, _, rfl, by simpa using hsz, fun hh => h0 (old_of (by decide) hh), fun hh => h1 (old_of (by decide) hh), fun hh => h2 (old_of (by decide) hh), fun hh => h3 (old_of (by decide) hh), fun hh => h4 (old_of (by decide) hh), fun _ => rfl, fun _ => rfl, fun hh => (by rw [getD_set_self (by omega)] at hh; cases hh), fun _ => ⟨rfl, fun k hk => by rw [getD_set_ne false (by omega)]; exact gall k hk⟩⟩
    · rintro listed ac W ⟨x0, x1, x2, x3, x4, x5, x6, rfl, hsz, h0, h1, h2, h3, h4, h5, h6, hW0, hW1⟩ hr
      have hd' := ready_nil (by rw [hsz]; rfl) (by kernel_rfl) hr
      obtain ⟨hW, _⟩ := hW1 (hd' 7 (by decide))
      obtain rfl := h0 (hd' 0 (by decide))
      obtain rfl := h1 (hd' 1 (by decide))
      obtain rfl := h2 (hd' 2 (by decide))
      obtain rfl := h3 (hd' 3 (by decide))
      obtain rfl := h4 (hd' 4 (by decide))
      obtain rfl := h5 (hd' 5 (by decide))
      obtain rfl := h6 (hd' 6 (by decide))
      have HWW : Hid (W = wc.drew.setCells g (i * 19) (runCells RR.2.1)) := by
        show _ = _
        rw [hW, HD.out.1.eq]
      clear hW0 hW1 hr hd' hW h0 h1 h2 h3 h4 h5 h6 c3
      go_wp2_with fail
      (try simp only [Exit.inBlock, Exit.then]); refine bodyPost_ret (results_none rfl _ _ _) rfl ?_
      have hS := (HA.out.1.below (Below.refl _ _).drew).setRun hi HA.out.2.1 HWW.out
      refine ⟨rfl, ⟨_, _, hS, HA.out.2.2.1⟩, ?_⟩
      rw [HWW.out]
      exact fr_setCells (.inr (.inr rfl)) _ _ HA.out.2.2.2.drew
end Go.Proofs.Ytmmmnghiegajmaa
namespace Go.Proofs.Herald
theorem updQ_updQ (f : Nat → List Msg) (d : Nat) (a b : List Msg) : updQ (updQ f d a) d b = updQ f d b := by
  funext k
  unfold updQ
  by_cases h : k = d
  · rw [if_pos h, if_pos h]
  · rw [if_neg h, if_neg h, if_neg h]
theorem updQ_at (f : Nat → List Msg) (d : Nat) (a : List Msg) : updQ f d a d = a := if_pos rfl
/-- What is left of the runs behind what the one at a place did. -/
def afterI (ps : List Pr) (i : Nat) (p : Pr) (done : Bool) : List Pr := if done then ps.eraseIdx i else ps.set i p
theorem after_idx {E : Eng Pr} (hE : ∀ p, E.pub p = pubP p) {p' : Pr} {done : Bool} : ∀ {ps : List Pr} (_ : ps.Pairwise fun a b => (E.pub a).id ≠ (E.pub b).id) {i : Nat} (hi : i < ps.length) (_ : p'.id = ps[i].id), afterR E ps p' done = afterI ps i p' done := by
  intro ps
  induction ps with
  | nil => intro _ i hi; simp at hi
  | cons x ps ih =>
    intro hnd i hi hid
    rw [List.pairwise_cons] at hnd
    have pid : ∀ y : Pr, (E.pub y).id = y.id := fun y => by rw [hE]; rfl
    cases i with
    | zero =>
      have hx : p'.id = x.id := hid
      have hne : ∀ y ∈ ps, ¬ (E.pub y).id = (E.pub p').id := fun y hy hh => by
        rw [pid, pid, hx] at hh
        have := hnd.1 y hy
        rw [pid, pid] at this
        exact this hh.symm
      unfold afterR afterI
      cases done with
      | true =>
        simp only [if_true, List.eraseIdx_zero, List.tail_cons]
        rw [List.filter_cons_of_neg (by simp [pid, hx])]
        exact List.filter_eq_self.mpr fun y hy => by simpa using hne y hy
      | false =>
        simp only [Bool.false_eq_true, if_false, List.map_cons, List.set_cons_zero]
        rw [if_pos (by rw [pid, pid, hx])]
        congr 1
        conv => rhs; rw [← List.map_id ps]
        exact List.map_congr_left fun y hy => by rw [if_neg (hne y hy)]; rfl
    | succ i =>
      have hi' : i < ps.length := by simpa using hi
      have hid' : p'.id = ps[i].id := by simpa using hid
      have hx : ¬ (E.pub x).id = (E.pub p').id := fun hh => by
        rw [pid, pid, hid'] at hh
        have := hnd.1 ps[i] (List.getElem_mem hi')
        rw [pid, pid] at this
        exact this hh
      have h := ih hnd.2 hi' hid'
      unfold afterR afterI at h ⊢
      cases done with
      | true =>
        simp only [if_true] at h ⊢
        rw [List.filter_cons_of_pos (by simpa using hx), h]
        simp
      | false =>
        simp only [Bool.false_eq_true, if_false] at h ⊢
        rw [List.map_cons, if_neg hx, h]
        simp
/-- A stopped run, as the program keeps it: a plain run of code stands behind it. -/
def goodM (cs : List Ins) (m : Pr) : Prop := ∃ p, StR p m ∧ (RegsOk p ∧ PcsOk cs.length p)
theorem mid_no {cs : List Ins} {m : Pr} {q : List Msg} (h : goodM cs m) (hq : q.length ≤ 4) : MidM cs.length 0 m.sent q m := by
  obtain ⟨p, h1, h2⟩ := h
  exact ⟨m.els, p, ⟨h1.id, h1.dev, h1.sent, h1.til, h1.regs, rfl, by rw [← h1.els]; exact h1.els0, h1.sent0, h1.len⟩, h2.1, by rw [← h1.els]; exact h2.2.2.2.2, by rw [h1.sent]; exact Int.le_refl _, by rw [h1.sent]; simp, hq⟩
theorem mid_yes {cs : List Ins} {m : Pr} {q : List Msg} (h : goodM cs m) (hn : m.num ≠ 0) (hq : q.length ≤ 4) : MidM cs.length 0 m.sent q { m with els := m.tow } := by
  obtain ⟨p, h1, h2⟩ := h
  have ht := h1.tow (by rw [h1.num]; exact hn)
  exact ⟨m.tow, p, ⟨h1.id, h1.dev, h1.sent, h1.til, h1.regs, rfl, by rw [← ht.1]; exact ht.2, h1.sent0, h1.len⟩, h2.1, by rw [← ht.1]; exact h2.2.2.1, by rw [h1.sent]; exact Int.le_refl _, by rw [h1.sent]; simp, hq⟩
theorem mid_new {cs : List Ins} {id dev : Int} {q : List Msg} (hq : q.length ≤ 4) : MidM cs.length 0 0 q (freshP id dev) := by
  refine ⟨0, freshP id dev, ⟨rfl, rfl, rfl, rfl, rfl, rfl, Int.le_refl 0, Int.le_refl 0, rfl⟩, fun z hz => ?_, by omega, Int.le_refl _, by simp [freshP], hq⟩
  obtain rfl := (List.mem_replicate.mp hz).2
  omega
end Go.Proofs.Herald
namespace Go.Proofs.Ytmmmnghiegajmaa
open Go.RowKit Go.Proofs.Herald
theorem h_proceed (H : Nat) (code rec : Value) (now last : Int) (rv : Value) (qv : Nat → Value) (qs : Nat → List Msg) (ps : List Pr) (i d : Nat) (cs : List Ins) (w : World) (h : HAt w H code rec now last rv qv qs ps) (hl : ps.length ≤ 1000) (hi : i < ps.length) (hd : d < 3) (hdev : ps[i].dev = (d : Nat))
    (hc : w.ownsRow 0 128 4 code cs.length (codeCells cs)) (hsnd : soundL cs = true) (hm : MidM cs.length 0 ps[i].sent (qs d) ps[i]) (hs : ps[i].sent ≤ 999999999999990000) (ht0 : 0 ≤ now) (ht1 : now ≤ 1000000000) :
    Calls Try.prog 100 #[.pointer (some ⟨H, 0, none⟩), .int .i64 (i : Nat)] w fun e w' => e = .returned (.tuple #[]) ∧ ProcOut w w' H code rec now last rv qv (updQ qs d (runM now cs 10000 (qs d) ps[i]).1) (afterI ps i (runM now cs 10000 (qs d) ps[i]).2.1 (runM now cs 10000 (qs d) ps[i]).2.2) := by
  unfold afterI
  cases hdn : (runM now cs 10000 (qs d) ps[i]).2.2 with
  | true => exact h_proceed_no H code rec now last rv qv qs ps i d cs w h hl hi hd hdev hc hsnd hm hs ht0 ht1 hdn
  | false => exact h_proceed_yes H code rec now last rv qv qs ps i d cs w h hl hi hd hdev hc hsnd hm hs ht0 ht1 hdn
theorem ProcOut.trans {w w1 w2 : World} {H : Nat} {code rec : Value} {now last : Int} {rv rv1 : Value} {qv qv1 : Nat → Value} {qs : Nat → List Msg} {ps : List Pr} (ho : ∀ k, ownH H rv1 qv1 k → ownH H rv qv k ∨ w.heap.size ≤ k) (hf : Fr (ownH H rv qv) w w1) (h : ProcOut w1 w2 H code rec now last rv1 qv1 qs ps) : ProcOut w w2 H code rec now last rv qv qs ps := by
  obtain ⟨⟨rv2, qv2, h1, h2⟩, h3⟩ := h
  refine ⟨⟨rv2, qv2, h1, fun k hk => ?_⟩, ?_⟩
  · rcases h2 k hk with h | h
    · exact ho k h
    · exact .inr (Nat.le_trans hf.size h)
  · have f1 : Fr (fun k => ownH H rv qv k ∨ w.heap.size ≤ k) w w1 := hf.mono fun k _ hk => .inl hk
    have f2 : Fr (fun k => ownH H rv qv k ∨ w.heap.size ≤ k) w1 w2 := h3.mono fun k _ hk => ho k hk
    exact (f1.trans f2).mono fun k hk hs => by
      rcases hs with h | h
      · exact h
      · omega
/-- The code is none of what a herald owns. -/
theorem HAt.code {w w1 : World} {H : Nat} {code rec : Value} {now last : Int} {rv : Value} {qv : Nat → Value} {qs : Nat → List Msg} {ps : List Pr} {cv : Value} {cs : List Ins} (h : HAt w H code rec now last rv qv qs ps) (hf : Fr (ownH H rv qv) w w1) (hc : w.ownsRow 0 128 4 cv cs.length (codeCells cs)) : w1.ownsRow 0 128 4 cv cs.length (codeCells cs) := by
  refine own_keep hc fun b hb => ?_
  obtain ⟨c, hc'⟩ := own_block hc hb
  refine hf.block b (heap_lt hc') fun ho => ?_
  obtain ⟨c2, t, hc2, ht⟩ := h.sort ho
  rcases ht with rfl | rfl | rfl
  · exact ne_of_type hc' hc2 (by decide) rfl
  · exact ne_of_type hc' hc2 (by decide) rfl
  · exact ne_of_type hc' hc2 (by decide) rfl
/-- A queue was laid anew: seen of the herald. -/
theorem HAt.took {w w1 : World} {H : Nat} {code rec : Value} {now last : Int} {rv v' : Value} {qv : Nat → Value} {qs : Nat → List Msg} {ps : List Pr} {q' : List Msg} {d : Nat} (h : HAt w H code rec now last rv qv qs ps) (hd : d < 3) (hq : QNew w w1 H (4 + d) (hCells code rec now last rv qv) 150 q' v') (hl : q'.length ≤ 4) :
    HAt w1 H code rec now last rv (upd qv d v') (updQ qs d q') ps ∧ (∀ k, ownH H rv (upd qv d v') k → ownH H rv qv k ∨ w.heap.size ≤ k) ∧ Fr (ownH H rv qv) w w1 := by
  have hnew : ∀ b, v'.ownBlock = some b → w.heap.size ≤ b := fun b hb => (ownsRow_lies hq.own hb).1
  refine ⟨h.setQueue hd ⟨hq.blk, ?_, by decide, own0 hq.own, hl⟩ (fun b hb => .inr (hnew b hb)) (hq.fr.mono fun k _ hk => .inl hk), fun k hk => ?_, hq.fr.mono fun k _ hk => .inl hk⟩
  · rw [hCells_setQ hd, hCells_q hd, upd_same]
  · rcases hk with rfl | ⟨e, he, hk⟩ | hk
    · exact .inl (.inl rfl)
    · by_cases hed : e = d
      · subst hed
        rw [upd_same] at hk
        exact .inr (hnew k hk)
      · rw [upd_other _ _ hed] at hk
        exact .inl (.inr (.inl ⟨e, he, hk⟩))
    · exact .inl (.inr (.inr hk))
open Go.RowKit Go.Proofs.Herald
theorem take_len (q : List Msg) (id num : Int) (h : q.length ≤ 4) : (takeQ q id num).length ≤ 4 := Nat.le_trans (List.length_filter_le _ _) h
set_option maxRecDepth 20000 in
set_option maxHeartbeats 8000000 in
theorem h_without_stop (H : Nat) (code rec : Value) (now last : Int) (rv : Value) (qv : Nat → Value) (qs : Nat → List Msg) (ps : List Pr) (i d : Nat) (cs : List Ins) (w : World) (h : HAt w H code rec now last rv qv qs ps) (hl : ps.length ≤ 1000) (hi : i < ps.length) (hd : d < 3) (hdev : ps[i].dev = (d : Nat))
    (hc : w.ownsRow 0 128 4 code cs.length (codeCells cs)) (hsnd : soundL cs = true) (hm : goodM cs ps[i]) (hs : ps[i].sent ≤ 999999999999990000) (ht0 : 0 ≤ now) (ht1 : now ≤ 1000000000) (hz : ps[i].num = 0) :
    Calls Try.prog 103 #[.pointer (some ⟨H, 0, none⟩), .int .i64 (i : Nat)] w fun e w' => e = .returned (.tuple #[]) ∧ ProcOut w w' H code rec now last rv qv (updQ qs d (runM now cs 10000 (qs d) ps[i]).1) (afterI ps i (runM now cs 10000 (qs d) ps[i]).2.1 (runM now cs 10000 (qs d) ps[i]).2.2) := by
  obtain ⟨g, cap, hv, _, hgl⟩ := h.rB.form (by omega)
  subst hv
  have c3 : w.cell? ⟨H, 3, none⟩ = some (.slice (some ⟨g, 0, none⟩) ps.length cap) := (cell_of_heap h.blk).trans rfl
  have hHl : H < w.heap.size := heap_lt h.blk
  obtain ⟨_, _, _, _, _, _, _, _, _, _, _, _, _, ⟨e0, e1, e2, e3, e4⟩, _⟩ := run_get h.rB h.rl hi
  have HP : Hid (∀ ob, Calls Try.prog 100 #[.pointer (some ⟨H, 0, none⟩), .int .i64 (i : Nat)] (w.alloc ob) fun e w' => e = .returned (.tuple #[]) ∧ ProcOut w w' H code rec now last (.slice (some ⟨g, 0, none⟩) ps.length cap) qv (updQ qs d (runM now cs 10000 (qs d) ps[i]).1) (afterI ps i (runM now cs 10000 (qs d) ps[i]).2.1 (runM now cs 10000 (qs d) ps[i]).2.2)) := fun ob => by
    have hb : Below w.heap.size w (w.alloc ob) := (Below.refl _ _).alloc (Nat.le_refl _) _
    refine (h_proceed H code rec now last _ qv qs ps i d cs (w.alloc ob) (h.below hb) hl hi hd hdev (hc.alloc _) hsnd (mid_no hm (h.ql d hd)) hs ht0 ht1).mono ?_
    rintro e w' ⟨rfl, ho⟩
    exact ⟨rfl, ho.trans (fun k hk => .inl hk) ((Fr.refl _ _).alloc _)⟩
  generalize runM now cs 10000 (qs d) ps[i] = RR at *
  have hzb : ((0 : Int) != 0) = false := by decide
  rw [hz] at e4
  generalize ps[i] = p at *
  clear h hc hm hsnd hgl hdev hs hz
  go_enter Try.func103, Try.ntmps103
  go_wp2_with fail
  refine (HP.out _).mono ?_
  rintro e w' ⟨rfl, ho⟩
  go_wp2_with fail
  go_end0
  exact ⟨rfl, ho⟩
set_option maxRecDepth 20000 in
set_option maxHeartbeats 8000000 in
theorem h_without_ask (H : Nat) (code rec : Value) (now last : Int) (rv : Value) (qv : Nat → Value) (qs : Nat → List Msg) (ps : List Pr) (i d : Nat) (cs : List Ins) (w : World) (h : HAt w H code rec now last rv qv qs ps) (hl : ps.length ≤ 1000) (hi : i < ps.length) (hd : d < 3) (hdev : ps[i].dev = (d : Nat))
    (hc : w.ownsRow 0 128 4 code cs.length (codeCells cs)) (hsnd : soundL cs = true) (hm : goodM cs ps[i]) (hs : ps[i].sent ≤ 999999999999990000) (ht0 : 0 ≤ now) (ht1 : now ≤ 1000000000) (hz : ¬ ps[i].num = 0) :
    Calls Try.prog 103 #[.pointer (some ⟨H, 0, none⟩), .int .i64 (i : Nat)] w fun e w' => e = .returned (.tuple #[]) ∧ ProcOut w w' H code rec now last rv qv (updQ qs d (runM now cs 10000 (takeQ (qs d) ps[i].id ps[i].num) ps[i]).1) (afterI ps i (runM now cs 10000 (takeQ (qs d) ps[i].id ps[i].num) ps[i]).2.1 (runM now cs 10000 (takeQ (qs d) ps[i].id ps[i].num) ps[i]).2.2) := by
  obtain ⟨g, cap, hv, _, hgl⟩ := h.rB.form (by omega)
  subst hv
  have c3 : w.cell? ⟨H, 3, none⟩ = some (.slice (some ⟨g, 0, none⟩) ps.length cap) := (cell_of_heap h.blk).trans rfl
  have hHl : H < w.heap.size := heap_lt h.blk
  obtain ⟨_, _, _, _, _, _, _, _, _, _, _, _, _, ⟨e0, e1, e2, e3, e4⟩, _⟩ := run_get h.rB h.rl hi
  have HT : Hid (∀ ob, Calls Try.prog 104 #[.pointer (some ⟨H, 4 + d, none⟩), .int .i64 ps[i].id, .int .i64 ps[i].num] (w.alloc ob).drew fun e w' => e = .returned (.tuple #[]) ∧ ∃ v', HAt w' H code rec now last (.slice (some ⟨g, 0, none⟩) ps.length cap) (upd qv d v') (updQ qs d (takeQ (qs d) ps[i].id ps[i].num)) ps ∧ (∀ k, ownH H (.slice (some ⟨g, 0, none⟩) ps.length cap) (upd qv d v') k → ownH H (.slice (some ⟨g, 0, none⟩) ps.length cap) qv k ∨ w.heap.size ≤ k) ∧ Fr (ownH H (.slice (some ⟨g, 0, none⟩) ps.length cap) qv) w w') := fun ob => by
    have hb : Below w.heap.size w (w.alloc ob).drew := ((Below.refl _ _).alloc (Nat.le_refl _) _).drew
    have h1 := h.below hb
    refine (q_remove H (4 + d) _ _ (qv d) (qs d) ps[i].id ps[i].num _ (h1.que hd) hz).mono ?_
    rintro e w' ⟨rfl, v', hq⟩
    obtain ⟨k1, k2, k3⟩ := h1.took hd hq (take_len _ _ _ (h.ql d hd))
    refine ⟨rfl, v', k1, fun k hk => ?_, (((Fr.refl _ _).alloc _).drew).trans k3⟩
    rcases k2 k hk with h | h
    · exact .inl h
    · exact .inr (Nat.le_trans hb.size h)
  have HP : Hid (∀ wc v', HAt wc H code rec now last (.slice (some ⟨g, 0, none⟩) ps.length cap) (upd qv d v') (updQ qs d (takeQ (qs d) ps[i].id ps[i].num)) ps → (∀ k, ownH H (.slice (some ⟨g, 0, none⟩) ps.length cap) (upd qv d v') k → ownH H (.slice (some ⟨g, 0, none⟩) ps.length cap) qv k ∨ w.heap.size ≤ k) → Fr (ownH H (.slice (some ⟨g, 0, none⟩) ps.length cap) qv) w wc → Calls Try.prog 100 #[.pointer (some ⟨H, 0, none⟩), .int .i64 (i : Nat)] wc fun e w' => e = .returned (.tuple #[]) ∧ ProcOut w w' H code rec now last (.slice (some ⟨g, 0, none⟩) ps.length cap) qv (updQ qs d (runM now cs 10000 (takeQ (qs d) ps[i].id ps[i].num) ps[i]).1) (afterI ps i (runM now cs 10000 (takeQ (qs d) ps[i].id ps[i].num) ps[i]).2.1 (runM now cs 10000 (takeQ (qs d) ps[i].id ps[i].num) ps[i]).2.2)) := fun wc v' h1 h2 h3 => by
    have hq : updQ qs d (takeQ (qs d) ps[i].id ps[i].num) d = takeQ (qs d) ps[i].id ps[i].num := updQ_at _ _ _
    have hk := h_proceed H code rec now last _ _ _ ps i d cs wc h1 hl hi hd hdev (h.code h3 hc) hsnd (mid_no hm (h1.ql d hd)) hs ht0 ht1
    rw [hq, updQ_updQ] at hk
    refine hk.mono ?_
    rintro e w' ⟨rfl, ho⟩
    exact ⟨rfl, ho.trans h2 h3⟩
  generalize hRR : runM now cs 10000 (takeQ (qs d) ps[i].id ps[i].num) ps[i] = RR at *
  have hzb : (ps[i].num != 0) = true := by simpa using hz
  have hdi : (d : Int) < 3 := by omega
  rw [hdev] at e1
  generalize ps[i] = p at *
  clear h hc hm hsnd hgl hdev hs hz hRR
  go_enter Try.func103, Try.ntmps103
  go_upto_region 2 with fail
  go_cut [0] (fun r wx => r = .pointer (some ⟨H, 0, none⟩) ∧ Hid (∃ v', HAt wx H code rec now last (.slice (some ⟨g, 0, none⟩) ps.length cap) (upd qv d v') (updQ qs d (takeQ (qs d) p.id p.num)) ps ∧ (∀ k, ownH H (.slice (some ⟨g, 0, none⟩) ps.length cap) (upd qv d v') k → ownH H (.slice (some ⟨g, 0, none⟩) ps.length cap) qv k ∨ w.heap.size ≤ k) ∧ Fr (ownH H (.slice (some ⟨g, 0, none⟩) ps.length cap) qv) w wx))
  case first =>
    go_region_with (go_at_call 104; refine (HT.out _).mono ?_; rintro e w1 ⟨rfl, ho⟩)
    all_goals
      go_wp2_with fail
      go_meet
      case rel => exact ⟨rfl, ho⟩
  case rest =>
    obtain ⟨rfl, HX⟩ := hcut
    obtain ⟨v', h1, h2, h3⟩ := HX.out
    have HP2 : Hid (Calls Try.prog 100 #[.pointer (some ⟨H, 0, none⟩), .int .i64 (i : Nat)] wc fun e w' => e = .returned (.tuple #[]) ∧ ProcOut w w' H code rec now last (.slice (some ⟨g, 0, none⟩) ps.length cap) qv (updQ qs d RR.1) (afterI ps i RR.2.1 RR.2.2)) := HP.out wc v' h1 h2 h3
    clear h1 h2 h3 HX HP HT c3 hHl e0 e1 e2 e3 e4
    go_wp2_with fail
    refine HP2.out.mono ?_
    rintro e w' ⟨rfl, ho⟩
    go_wp2_with fail
    go_end0
    exact ⟨rfl, ho⟩
/-- A run goes on without an answer. -/
theorem h_without (H : Nat) (code rec : Value) (now last : Int) (rv : Value) (qv : Nat → Value) (qs : Nat → List Msg) (ps : List Pr) (i d : Nat) (cs : List Ins) (w : World) (h : HAt w H code rec now last rv qv qs ps) (hl : ps.length ≤ 1000) (hi : i < ps.length) (hd : d < 3) (hdev : ps[i].dev = (d : Nat))
    (hc : w.ownsRow 0 128 4 code cs.length (codeCells cs)) (hsnd : soundL cs = true) (hm : goodM cs ps[i]) (hs : ps[i].sent ≤ 999999999999990000) (ht0 : 0 ≤ now) (ht1 : now ≤ 1000000000) :
    Calls Try.prog 103 #[.pointer (some ⟨H, 0, none⟩), .int .i64 (i : Nat)] w fun e w' => e = .returned (.tuple #[]) ∧ ProcOut w w' H code rec now last rv qv (updQ qs d (onM now cs false (qs d) ps[i]).1) (afterI ps i (onM now cs false (qs d) ps[i]).2.1 (onM now cs false (qs d) ps[i]).2.2) := by
  by_cases hz : ps[i].num = 0
  · have e : onM now cs false (qs d) ps[i] = runM now cs 10000 (qs d) ps[i] := by unfold onM; simp [hz]
    rw [e]
    exact h_without_stop H code rec now last rv qv qs ps i d cs w h hl hi hd hdev hc hsnd hm hs ht0 ht1 hz
  · have e : onM now cs false (qs d) ps[i] = runM now cs 10000 (takeQ (qs d) ps[i].id ps[i].num) ps[i] := by unfold onM; simp [hz]
    rw [e]
    exact h_without_ask H code rec now last rv qv qs ps i d cs w h hl hi hd hdev hc hsnd hm hs ht0 ht1 hz
set_option maxRecDepth 20000 in
set_option maxHeartbeats 8000000 in
theorem h_cancel_none (H : Nat) (code rec : Value) (now last : Int) (rv : Value) (qv : Nat → Value) (qs : Nat → List Msg) (ps : List Pr) (id : Int) (w : World) (h : HAt w H code rec now last rv qv qs ps) (hl : ps.length ≤ 1000) (hf : findI id ps = ps.length) :
    Calls Try.prog 73 #[.pointer (some ⟨H, 0, none⟩), .int .i64 id] w fun e w' => e = .returned (.int .i64 10) ∧ Below w.heap.size w w' := by
  obtain ⟨a, cap, hv⟩ := ownsRow_slice h.rB
  subst hv
  have HF : Hid (Calls Try.prog 105 #[.pointer (some ⟨H, 0, none⟩), .int .i64 id] w fun e w' => e = .returned (.int .i64 (ps.length : Nat)) ∧ Below w.heap.size w w') := by
    have := h_find H code rec now last _ qv qs ps id w h hl
    rw [hf] at this
    exact this
  have HH : Hid (HAt w H code rec now last (.slice a ps.length cap) qv qs ps) := h
  clear h hf
  go_enter Try.func73, Try.ntmps73
  go_wp2_with fail
  refine HF.out.mono ?_
  rintro e w1 ⟨rfl, hb⟩
  have c3 : w1.cell? ⟨H, 3, none⟩ = some (.slice a ps.length cap) := (cell_of_heap (HH.out.below hb).blk).trans rfl
  have HB : Hid (Below w.heap.size w w1) := hb
  clear hb
  go_wp2_with fail
  go_ret
  exact ⟨rfl, HB.out⟩
set_option maxRecDepth 20000 in
set_option maxHeartbeats 8000000 in
theorem h_cancel_some (H : Nat) (code rec : Value) (now last : Int) (rv : Value) (qv : Nat → Value) (qs : Nat → List Msg) (ps : List Pr) (id : Int) (i d : Nat) (w : World) (h : HAt w H code rec now last rv qv qs ps) (hl : ps.length ≤ 1000) (hi : i < ps.length) (hf : findI id ps = i) (hd : d < 3) (hdev : ps[i].dev = (d : Nat)) :
    Calls Try.prog 73 #[.pointer (some ⟨H, 0, none⟩), .int .i64 id] w fun e w' => e = .returned (.int .i64 0) ∧ ProcOut w w' H code rec now last rv qv (updQ qs d (takeQ (qs d) id 0)) (ps.eraseIdx i) := by
  obtain ⟨g, cap, hv, _, hgl⟩ := h.rB.form (by omega)
  subst hv
  have HF : Hid (Calls Try.prog 105 #[.pointer (some ⟨H, 0, none⟩), .int .i64 id] w fun e w' => e = .returned (.int .i64 (i : Nat)) ∧ Below w.heap.size w w') := by
    have := h_find H code rec now last _ qv qs ps id w h hl
    rw [hf] at this
    exact this
  have HH : Hid (HAt w H code rec now last (.slice (some ⟨g, 0, none⟩) ps.length cap) qv qs ps ∧ ps[i].dev = (d : Nat)) := ⟨h, hdev⟩
  have hne : ((i : Int) == (ps.length : Int)) = false := by simp; omega
  have hdi : (d : Int) < 3 := by omega
  clear h hf hgl hdev
  go_enter Try.func73, Try.ntmps73
  go_wp2_with fail
  refine HF.out.mono ?_
  rintro e w1 ⟨rfl, hb⟩
  have h1 := HH.out.1.below hb
  have c3 : w1.cell? ⟨H, 3, none⟩ = some (.slice (some ⟨g, 0, none⟩) ps.length cap) := (cell_of_heap h1.blk).trans rfl
  obtain ⟨_, _, _, _, _, _, _, _, _, _, _, _, _, ⟨e0, e1, e2, e3, e4⟩, _⟩ := run_get h1.rB h1.rl hi
  rw [HH.out.2] at e1
  have HT : Hid (Calls Try.prog 107 #[.pointer (some ⟨H, 4 + d, none⟩), .int .i64 id] w1 fun e w' => e = .returned (.tuple #[]) ∧ ∃ v', HAt w' H code rec now last (.slice (some ⟨g, 0, none⟩) ps.length cap) (upd qv d v') (updQ qs d (takeQ (qs d) id 0)) ps ∧ (∀ k, ownH H (.slice (some ⟨g, 0, none⟩) ps.length cap) (upd qv d v') k → ownH H (.slice (some ⟨g, 0, none⟩) ps.length cap) qv k ∨ w.heap.size ≤ k) ∧ Fr (ownH H (.slice (some ⟨g, 0, none⟩) ps.length cap) qv) w w') := by
    refine (q_removeAll H (4 + d) _ _ (qv d) (qs d) id _ (h1.que hd)).mono ?_
    rintro e w' ⟨rfl, v', hq⟩
    obtain ⟨k1, k2, k3⟩ := h1.took hd hq (take_len _ _ _ (h1.ql d hd))
    refine ⟨rfl, v', k1, fun k hk => ?_, ((Fr.of_below hb).mono fun k hk hs => by omega).trans k3⟩
    rcases k2 k hk with h | h
    · exact .inl h
    · exact .inr (Nat.le_trans hb.size h)
  clear hb h1
  go_wp2_with fail
  refine HT.out.mono ?_
  rintro e w2 ⟨rfl, v', k1, k2, k3⟩
  have HR : Hid (Calls Try.prog 108 #[.pointer (some ⟨H, 0, none⟩), .int .i64 (i : Nat)] w2 fun e w' => e = .returned (.tuple #[]) ∧ ProcOut w w' H code rec now last (.slice (some ⟨g, 0, none⟩) ps.length cap) qv (updQ qs d (takeQ (qs d) id 0)) (ps.eraseIdx i)) := by
    refine (h_remove H _ rec now last _ _ _ ps i w2 k1 hl).mono ?_
    rintro e w' ⟨rfl, rv', hr⟩
    refine ⟨rfl, ⟨rv', _, k1.setRuns hr fun x hx => k1.rl x (List.mem_of_mem_eraseIdx hx), fun k hk => ?_⟩, k3.trans (hr.fr.mono fun k _ hk => .inl hk)⟩
    rcases hk with rfl | hk | hk
    · exact .inl (.inl rfl)
    · exact k2 k (.inr (.inl hk))
    · exact .inr (Nat.le_trans k3.size (ownsRow_lies hr.own hk).1)
  clear k1 k2 k3 HT c3 e0 e1 e2 e3 e4 HF
  go_wp2_with fail
  refine HR.out.mono ?_
  rintro e w3 ⟨rfl, ho⟩
  have HO : Hid (_) := ho
  clear ho HR
  go_wp2_with fail
  go_ret
  exact ⟨rfl, HO.out⟩
end Go.Proofs.Ytmmmnghiegajmaa
