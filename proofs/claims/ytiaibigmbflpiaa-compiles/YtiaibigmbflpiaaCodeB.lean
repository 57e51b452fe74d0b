/- What the program's functions on spans of ticks give back. -/
import Derived.Test.YtiaibigmbflpiaaCodeA
import Derived.Test.YtiaibigmbflpiaaPureH
namespace Go.Proofs.Ytiaibigmbflpiaa
open Go.RowKit Go.Proofs.Herald

theorem plusI_behind {a b : Int} (ha : 0 ≤ a) (hb : -1 ≤ b) : plusI a b = behindI a b := by
  unfold plusI behindI
  by_cases h : b = -1
  · rw [if_pos h, if_pos (by omega)]
  · rw [if_neg h, if_neg (by omega)]

set_option maxHeartbeats 400000 in
theorem c_after (n p q : Int) (w : World) (hn : 0 ≤ n) (hn2 : n ≤ 4000000000000000000) (hp0 : -1 ≤ p) (hp : p ≤ 4000000000000000000) (hq0 : -1 ≤ q) (hq : q ≤ 4000000000000000000) :
    Calls Try.prog 158 #[.int .i64 n, .agg #[.int .i64 p, .int .i64 q]] w fun e w' => e = .returned (.agg #[.int .i64 (behindI n p), .int .i64 (behindI n q)]) ∧ Below w.heap.size w w' := by
  have H1 : Hid (_ = _) := plusI_behind hn hp0
  have H2 : Hid (_ = _) := plusI_behind hn hq0
  go_enter Try.func158, Try.ntmps158
  go_wp2_with (go_at_call 169; refine (c_plus _ _ _ (by omega) (by omega) (by omega) (by omega)).mono ?_; rintro e w' ⟨rfl, rfl⟩)
  refine bodyPost_ret (v := .agg #[.int .i64 (plusI n p), .int .i64 (plusI n q)]) (by simp [results, Try.results158, go_sem]) rfl ⟨by rw [H1.out, H2.out], ?_⟩
  exact ((Below.refl _ _).alloc (Nat.le_refl _) _).alloc (by simp) _

theorem heap3 (w : World) (A B R : Obj) : (((w.alloc A).alloc B).alloc R).heap[w.heap.size]? = some A ∧ (((w.alloc A).alloc B).alloc R).heap[w.heap.size + 1]? = some B ∧ (((w.alloc A).alloc B).alloc R).heap[w.heap.size + 1 + 1]? = some R := by
  refine ⟨?_, ?_, ?_⟩
  · rw [Below.heap_alloc _ _ _ (by simp; omega), Below.heap_alloc _ _ _ (by simp), heap_alloc_new]
  · rw [Below.heap_alloc _ _ _ (by simp), heap_alloc2]
  · exact heap_alloc_at _ _ _ (by simp)

theorem heap2 (w : World) (A B : Obj) : ((w.alloc A).alloc B).heap[w.heap.size]? = some A ∧ ((w.alloc A).alloc B).heap[w.heap.size + 1]? = some B := by
  refine ⟨?_, heap_alloc2 _ _ _⟩
  rw [Below.heap_alloc _ _ _ (by simp), heap_alloc_new]

set_option maxHeartbeats 1000000 in
theorem c_then (p q r s : Int) (w : World) (hp0 : -1 ≤ p) (hp : p ≤ 1000000000000000) (hq0 : -1 ≤ q) (hq : q ≤ 1000000000000000) (hr0 : -1 ≤ r) (hr : r ≤ 1000000000000000) (hs0 : -1 ≤ s) (hs : s ≤ 1000000000000000) :
    Calls Try.prog 134 #[.agg #[.int .i64 p, .int .i64 q], .agg #[.int .i64 r, .int .i64 s]] w fun e w' => e = .returned (.agg #[.int .i64 (behindI p r), .int .i64 (maxI q (behindI p s))]) ∧ Below w.heap.size w w' := by
  by_cases h : p = -1
  · have h' : (p == -1) = true := by simp [h]
    have H1 : Hid (behindI p r = p) := by show _ = _; unfold behindI; rw [if_pos (by omega)]; omega
    have H2 : Hid (maxI q (behindI p s) = q) := by show _ = _; unfold behindI maxI; rw [if_pos (show p < 0 ∨ s < 0 from Or.inl (by omega))]; split <;> omega
    clear h
    go_enter Try.func134, Try.ntmps134
    go_wp2_with fail
    refine bodyPost_ret (v := .agg #[.int .i64 p, .int .i64 q]) (by simp [results, Try.results134, go_sem]) rfl ⟨by rw [H1.out, H2.out], ?_⟩
    exact (((Below.refl _ _).alloc (Nat.le_refl _) _).alloc (by simp) _).alloc (by simp; omega) _
  · have h' : (p == -1) = false := by simp [h]
    have hp1 : 0 ≤ p := by omega
    clear h
    go_enter Try.func134, Try.ntmps134
    go_wp2_with fail
    refine (c_after p r s _ hp1 (by omega) hr0 (by omega) hs0 (by omega)).mono ?_
    rintro e w1 ⟨rfl, hb1⟩
    have hz : w.heap.size + 3 ≤ w1.heap.size := by have := hb1.size; simp at this; omega
    have hz0 : w.heap.size < w1.heap.size := by omega
    have hz2 : w.heap.size + 1 + 1 < w1.heap.size := by omega
    obtain ⟨k0, _, k2⟩ := heap3 w (.cells #[.int .i64 p, .int .i64 q] 188) (.cells #[.int .i64 r, .int .i64 s] 188) (.cells #[.int .i64 0, .int .i64 0] 188)
    have g0 := (hb1.block _ (by simp; omega)).trans k0
    have g2 := (hb1.block _ (by simp)).trans k2
    have f1 : w1.cell? ⟨w.heap.size, 1, none⟩ = some (.int .i64 q) := (cell_of_heap g0).trans rfl
    have r0 : w1.cell? ⟨w.heap.size + 1 + 1, 0, none⟩ = some (.int .i64 0) := (cell_of_heap g2).trans rfl
    have r1 : w1.cell? ⟨w.heap.size + 1 + 1, 1, none⟩ = some (.int .i64 0) := (cell_of_heap g2).trans rfl
    have z0 : w1.frozen? ⟨w.heap.size + 1 + 1, 0, none⟩ = false := free_of_heap g2
    have z1 : w1.frozen? ⟨w.heap.size + 1 + 1, 1, none⟩ = false := free_of_heap g2
    have HB : Hid (Below w.heap.size w w1) := ((((Below.refl _ _).alloc (Nat.le_refl _) _).alloc (by simp) _).alloc (by simp; omega) _).trans (hb1.mono (by simp; omega))
    clear hb1 g0 g2 k0 k2
    go_wp2_with (go_at_call 109; refine (c_longer _ _ _).mono ?_; rintro e w' ⟨rfl, rfl⟩)
    refine bodyPost_ret (v := .agg #[.int .i64 (behindI p r), .int .i64 (maxI q (behindI p s))]) (by simp [results, Try.results134, go_sem, r0, r1, hz2]) rfl ⟨rfl, ?_⟩
    exact (((HB.out.setCell (p := ⟨w.heap.size + 1 + 1, 0, none⟩) (by simp; omega) _).setCell (p := ⟨w.heap.size + 1 + 1, 1, none⟩) (by simp; omega) _)).alloc (by simp [World.setCell]; omega) _

/-- The ticks of so many tries. -/
def triesS (n : Int) : Nat → Int
  | 0 => 0
  | j + 1 => triesI n j

theorem triesS_succ (n : Int) (j : Nat) : triesS n (j + 1) = 2 * triesS n j + n := by
  cases j with
  | zero => simp [triesS, triesI]
  | succ j => simp [triesS, triesI]

theorem triesS_bound (n : Int) (h0 : 0 ≤ n) (hn : n ≤ 999) (j : Nat) (hj : j ≤ 6) : 0 ≤ triesS n j ∧ triesS n j ≤ 62937 := by
  cases j with
  | zero => simp [triesS]
  | succ j => exact triesI_bound n h0 hn j (by omega)

set_option maxHeartbeats 1000000 in
theorem c_allTries (m n : Int) (w : World) (hm0 : 0 ≤ m) (hm : m ≤ 6) (hn0 : 0 ≤ n) (hn : n ≤ 999) :
    Calls Try.prog 156 #[.int .i64 m, .int .i64 n] w fun e w' => e = .returned (.int .i64 (triesS n m.toNat)) ∧ w' = w := by
  go_enter Try.func156, Try.ntmps156
  go_wp2_with fail
  go_loop [5, 6, 7] (fun x y i => ∃ j : Nat, j ≤ m.toNat ∧ i = .int .i64 j ∧ x = .int .i64 (triesS n j) ∧ y = .int .i64 (triesS n j + n)) (fun _ _ i => m.toNat - (intOf i).toNat)
  case atStart => exact ⟨0, by omega, rfl, rfl, by simp [triesS]⟩
  case round =>
    obtain ⟨j, hj, rfl, rfl, rfl⟩ := hrel
    have hb := triesS_bound n hn0 hn j (by omega)
    have HS : Hid (_ = _) := triesS_succ n j
    by_cases hlt : j < m.toNat
    · have hlt' : (j : Int) < m := by omega
      obtain ⟨S, hS⟩ : ∃ S, S = triesS n j := ⟨_, rfl⟩
      rw [← hS] at hb HS
      rw [← hS]
      clear hS
      go_wp2_with fail
      go_round
      case rel => exact ⟨j + 1, by omega, by go_num, by rw [HS.out]; go_num, by rw [HS.out]; go_num⟩
      case measure => simp [intOf]; omega
    · have hlt' : ¬ (j : Int) < m := by omega
      obtain rfl : j = m.toNat := by omega
      clear hlt
      go_wp2_with fail
      go_ret
      exact ⟨rfl, rfl⟩

set_option maxHeartbeats 1000000 in
theorem c_answerSpan (n p q r s : Int) (w : World) (hn : 1 ≤ n) (hn2 : n ≤ 62937) (hp0 : -1 ≤ p) (hp : p ≤ 1000000000000000) (hq0 : -1 ≤ q) (hq : q ≤ 1000000000000000) (hr0 : -1 ≤ r) (hr : r ≤ 1000000000000000) (hs0 : -1 ≤ s) (hs : s ≤ 1000000000000000) :
    Calls Try.prog 155 #[.int .i64 n, .agg #[.int .i64 p, .int .i64 q], .agg #[.int .i64 r, .int .i64 s]] w fun e w' =>
      e = .returned (.agg #[.int .i64 (maxI (behindI (n - 1) p) (behindI n r)), .int .i64 (maxI (behindI (n - 1) q) (behindI n s))]) ∧ Below w.heap.size w w' := by
  go_enter Try.func155, Try.ntmps155
  go_wp2_with fail
  refine (c_after (n - 1) p q _ (by omega) (by omega) hp0 (by omega) hq0 (by omega)).mono ?_
  rintro e w1 ⟨rfl, hb1⟩
  have hz : w.heap.size + 3 ≤ w1.heap.size := by have := hb1.size; simp at this; omega
  have hz1 : w.heap.size + 1 < w1.heap.size := by omega
  have hz2 : w.heap.size + 1 + 1 < w1.heap.size := by omega
  obtain ⟨_, k1, k2⟩ := heap3 w (.cells #[.int .i64 p, .int .i64 q] 188) (.cells #[.int .i64 r, .int .i64 s] 188) (.cells #[.int .i64 0, .int .i64 0] 188)
  have g1 := (hb1.block _ (by simp)).trans k1
  have g2 := (hb1.block _ (by simp)).trans k2
  have f0 : w1.cell? ⟨w.heap.size + 1, 0, none⟩ = some (.int .i64 r) := (cell_of_heap g1).trans rfl
  have f1 : w1.cell? ⟨w.heap.size + 1, 1, none⟩ = some (.int .i64 s) := (cell_of_heap g1).trans rfl
  have HB : Hid (Below w.heap.size w w1) := ((((Below.refl _ _).alloc (Nat.le_refl _) _).alloc (by simp) _).alloc (by simp; omega) _).trans (hb1.mono (by simp; omega))
  have HG : Hid (_ = _) := g2
  clear hb1 g1 g2 k1 k2
  go_wp2_with fail
  refine (c_after n r s _ (by omega) (by omega) hr0 (by omega) hs0 (by omega)).mono ?_
  rintro e w2 ⟨rfl, hb2⟩
  have hy : w1.heap.size + 1 ≤ w2.heap.size := by have := hb2.size; simp at this; omega
  have g3 := (hb2.block (w.heap.size + 1 + 1) (by simp; omega)).trans ((Below.heap_alloc _ _ _ hz2).trans HG.out)
  have g4 := (hb2.block w1.heap.size (by simp)).trans (heap_alloc_new _ _)
  have e0 : w2.cell? ⟨w1.heap.size, 0, none⟩ = some (.int .i64 (behindI (n - 1) p)) := (cell_of_heap g4).trans rfl
  have e1 : w2.cell? ⟨w1.heap.size, 1, none⟩ = some (.int .i64 (behindI (n - 1) q)) := (cell_of_heap g4).trans rfl
  have r0 : w2.cell? ⟨w.heap.size + 1 + 1, 0, none⟩ = some (.int .i64 0) := (cell_of_heap g3).trans rfl
  have r1 : w2.cell? ⟨w.heap.size + 1 + 1, 1, none⟩ = some (.int .i64 0) := (cell_of_heap g3).trans rfl
  have z0 : w2.frozen? ⟨w.heap.size + 1 + 1, 0, none⟩ = false := free_of_heap g3
  have z1 : w2.frozen? ⟨w.heap.size + 1 + 1, 1, none⟩ = false := free_of_heap g3
  have hy1 : w1.heap.size < w2.heap.size := by omega
  have hy2 : w.heap.size + 1 + 1 < w2.heap.size := by omega
  have HB2 : Hid (Below w.heap.size w w2) := (HB.out.alloc (by omega) _).trans (hb2.mono (by simp; omega))
  clear hb2 g3 g4 f0 f1
  go_wp2_with (go_at_call 109; refine (c_longer _ _ _).mono ?_; rintro e w' ⟨rfl, rfl⟩)
  refine bodyPost_ret (v := .agg #[.int .i64 (maxI (behindI (n - 1) p) (behindI n r)), .int .i64 (maxI (behindI (n - 1) q) (behindI n s))]) (by simp [results, Try.results155, go_sem, r0, r1, hy2]) rfl ⟨rfl, ?_⟩
  exact (((HB2.out.setCell (p := ⟨w.heap.size + 1 + 1, 0, none⟩) (by simp; omega) _).setCell (p := ⟨w.heap.size + 1 + 1, 1, none⟩) (by simp; omega) _)).alloc (by simp [World.setCell]; omega) _

/-- The three blocks of repeatSpan. -/
structure RepAt (w wr : World) (r s p q : Int) : Prop where
  bel : Below w.heap.size w wr
  size : w.heap.size + 3 ≤ wr.heap.size
  body : wr.heap[w.heap.size]? = some (.cells #[.int .i64 r, .int .i64 s] 188 (0, 0))
  res : wr.heap[w.heap.size + 1]? = some (.cells #[.int .i64 0, .int .i64 0] 188 (0, 0))
  all : wr.heap[w.heap.size + 1 + 1]? = some (.cells #[.int .i64 p, .int .i64 q] 188 (0, 0))

theorem RepAt.next {w wr w2 : World} {r s p q : Int} (h : RepAt w wr r s p q) (hb : Below wr.heap.size wr w2) (p' q' : Int) :
    RepAt w ((w2.setCell ⟨w.heap.size + 1 + 1, 0, none⟩ (.int .i64 p')).setCell ⟨w.heap.size + 1 + 1, 1, none⟩ (.int .i64 q')) r s p' q' := by
  have hs := h.size
  have hs2 := hb.size
  have g2 := (hb.block _ (by omega)).trans h.all
  refine ⟨((h.bel.trans (hb.mono (by omega))).setCell (p := ⟨w.heap.size + 1 + 1, 0, none⟩) (by simp; omega) _).setCell (p := ⟨w.heap.size + 1 + 1, 1, none⟩) (by simp; omega) _, ?_, ?_, ?_, ?_⟩
  · rw [size_setCell, size_setCell]; omega
  · rw [Below.heap_setCell _ _ _ _ (by simp; omega), Below.heap_setCell _ _ _ _ (by simp; omega), hb.block _ (by omega)]; exact h.body
  · rw [Below.heap_setCell _ _ _ _ (by simp), Below.heap_setCell _ _ _ _ (by simp), hb.block _ (by omega)]; exact h.res
  · rw [heap_setCell_self _ (heap_setCell_self _ g2)]; rfl

set_option maxHeartbeats 1000000 in
theorem c_repeatSpan (n r s : Int) (w : World) (hn0 : 0 ≤ n) (hn : n ≤ 9) (hr0 : -1 ≤ r) (hr : r ≤ 10000000000000) (hs0 : -1 ≤ s) (hs : s ≤ 10000000000000) :
    Calls Try.prog 157 #[.int .i64 n, .agg #[.int .i64 r, .int .i64 s]] w fun e w' =>
      e = .returned (.agg #[.int .i64 (rounds n.toNat (0, -1) (r, s)).1, .int .i64 (rounds n.toNat (0, -1) (r, s)).2]) ∧ Below w.heap.size w w' := by
  go_enter Try.func157, Try.ntmps157
  go_wp2_with fail
  go_loopw [6] (fun i wr => ∃ (j : Nat) (p q : Int), j ≤ n.toNat ∧ i = .int .i64 j ∧ RepAt w wr r s p q ∧ AtMost (p, q) (j * 10000000000000) ∧ rounds (n.toNat - j) (p, q) (r, s) = rounds n.toNat (0, -1) (r, s)) (fun i _ => n.toNat - (intOf i).toNat)
  case atStart =>
    obtain ⟨k0, k1, k2⟩ := heap3 w (.cells #[.int .i64 r, .int .i64 s] 188) (.cells #[.int .i64 0, .int .i64 0] 188) (.cells #[.int .i64 0, .int .i64 (-1)] 188)
    exact ⟨0, 0, -1, by omega, rfl, ⟨(((Below.refl _ _).alloc (Nat.le_refl _) _).alloc (by simp) _).alloc (by simp; omega) _, by simp, k0, k1, k2⟩, ⟨by simp, by simp, by simp, by simp⟩, rfl⟩
  case round =>
    obtain ⟨j, p, q, hj, rfl, hR, hA, hrun⟩ := hrel
    obtain ⟨a1, a2, a3, a4⟩ := hA
    simp only at a1 a2 a3 a4
    have b0 : wr.cell? ⟨w.heap.size, 0, none⟩ = some (.int .i64 r) := (cell_of_heap hR.body).trans rfl
    have b1 : wr.cell? ⟨w.heap.size, 1, none⟩ = some (.int .i64 s) := (cell_of_heap hR.body).trans rfl
    have c0 : wr.cell? ⟨w.heap.size + 1 + 1, 0, none⟩ = some (.int .i64 p) := (cell_of_heap hR.all).trans rfl
    have c1 : wr.cell? ⟨w.heap.size + 1 + 1, 1, none⟩ = some (.int .i64 q) := (cell_of_heap hR.all).trans rfl
    have HR : Hid (RepAt w wr r s p q) := hR
    by_cases hlt : j < n.toNat
    · have hlt' : (j : Int) < n := by omega
      rw [show n.toNat - j = (n.toNat - (j + 1)) + 1 from by omega, rounds] at hrun
      have HRR : Hid (_ = _) := hrun
      clear hrun hR
      go_wp2_with fail
      refine (c_then p q r s _ a1 (by omega) a3 (by omega) hr0 (by omega) hs0 (by omega)).mono ?_
      rintro e w2 ⟨rfl, hb2⟩
      have g2 := (hb2.block _ (by have := HR.out.size; omega)).trans HR.out.all
      have d0 : w2.cell? ⟨w.heap.size + 1 + 1, 0, none⟩ = some (.int .i64 p) := (cell_of_heap g2).trans rfl
      have d1 : w2.cell? ⟨w.heap.size + 1 + 1, 1, none⟩ = some (.int .i64 q) := (cell_of_heap g2).trans rfl
      have z0 : w2.frozen? ⟨w.heap.size + 1 + 1, 0, none⟩ = false := free_of_heap g2
      have z1 : w2.frozen? ⟨w.heap.size + 1 + 1, 1, none⟩ = false := free_of_heap g2
      have HN : Hid (_) := HR.out.next hb2 (behindI p r) (maxI q (behindI p s))
      clear hb2 g2 b0 b1 c0 c1
      go_wp2_with fail
      go_roundw
      case rel =>
        have s1 := AtMost.step (acc := (p, q)) (a := (r, s)) (c := j * 10000000000000) (e := 10000000000000) ⟨a1, a2, a3, a4⟩ ⟨hr0, hr, hs0, hs⟩ (by omega) (by omega)
        obtain ⟨t1, t2, t3, t4⟩ := s1
        exact ⟨j + 1, _, _, by omega, by go_num, HN.out, ⟨t1, by simp only at t2 ⊢; omega, t3, by simp only at t4 ⊢; omega⟩, HRR.out⟩
      case measure => simp [intOf]; omega
    · have hlt' : ¬ (j : Int) < n := by omega
      rw [show n.toNat - j = 0 from by omega, rounds] at hrun
      have HRR : Hid (_ = _) := hrun
      have r0 : wr.cell? ⟨w.heap.size + 1, 0, none⟩ = some (.int .i64 0) := (cell_of_heap hR.res).trans rfl
      have r1 : wr.cell? ⟨w.heap.size + 1, 1, none⟩ = some (.int .i64 0) := (cell_of_heap hR.res).trans rfl
      have z0 : wr.frozen? ⟨w.heap.size + 1, 0, none⟩ = false := free_of_heap hR.res
      have z1 : wr.frozen? ⟨w.heap.size + 1, 1, none⟩ = false := free_of_heap hR.res
      clear hrun hR hlt
      go_wp2_with fail
      refine bodyPost_ret (v := .agg #[.int .i64 p, .int .i64 q]) (by simp [results, Try.results157, go_sem, r0, r1]) rfl ⟨by rw [← HRR.out], ?_⟩
      exact ((HR.out.bel.setCell (p := ⟨w.heap.size + 1, 0, none⟩) (by simp) _).setCell (p := ⟨w.heap.size + 1, 1, none⟩) (by simp) _)

end Go.Proofs.Ytiaibigmbflpiaa
