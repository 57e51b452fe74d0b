/- The first state, as both show it. -/
import Derived.Test.YtiaibigmbflpiaaNewL
namespace Go.Proofs.Ytiaibigmbflpiaa
open Go.RowKit Go.Proofs.Herald

set_option maxHeartbeats 1000000 in
theorem c_Show_new (H : Nat) (v : Value) (w : World) (hH : w.heap[H]? = some (.cells (newM v) 144 (0, 0))) :
    Calls Try.prog 28 #[.pointer (some ⟨H, 0, none⟩)] w fun e w' => e = .returned (.agg #[.int .i64 0, .slice none 0 0, .slice none 0 0]) ∧ Below w.heap.size w w' := by
  have HC : Hid (∀ o, Calls Try.prog 63 #[.pointer (some ⟨H, 0, none⟩)] (w.alloc o) fun e w' => e = .returned (.agg #[.int .i64 0, .slice none 0 0, .slice none 0 0]) ∧ Below (w.alloc o).heap.size (w.alloc o) w') := fun o => c_mShow_new H _ v (w.alloc o) (by rw [Below.heap_alloc _ _ _ (heap_lt hH)]; exact hH)
  clear hH
  go_enter Try.func28, Try.ntmps28
  go_wp2_with fail
  refine (HC.out _).mono ?_
  rintro e w1 ⟨rfl, hb1⟩
  have g1 : w1.heap[w.heap.size]? = some (.cells #[.int .i64 0, .slice none 0 0, .slice none 0 0] 66 (0, 0)) := (hb1.block _ (by simp)).trans (heap_alloc_new _ _)
  obtain ⟨r0, r1, r2, y0, y1, y2⟩ := cells3 g1
  have HB : Hid (Below w.heap.size w w1) := ((Below.refl _ _).alloc (Nat.le_refl _) _).trans (hb1.mono (by simp))
  clear hb1 g1 HC
  go_wp2_with fail
  refine bodyPost_ret (v := .agg #[.int .i64 0, .slice none 0 0, .slice none 0 0]) (by simp [results, Try.results28, go_sem, r0, r1, r2]) rfl ⟨rfl, ?_⟩
  exact ((HB.out.setCell (p := ⟨w.heap.size, 0, none⟩) (Nat.le_refl _) _).setCell (p := ⟨w.heap.size, 1, none⟩) (Nat.le_refl _) _).setCell (p := ⟨w.heap.size, 2, none⟩) (Nat.le_refl _) _

/-- The document's own herald as it begins. -/
def SimNew (w : World) (S Q : Nat) (cv : Value) : Prop :=
  w.heap[S]? = some (.cells #[.bool false, .slice none 0 0, cv, .int .i64 0, .int .i64 0, .slice none 0 0, .slice (some ⟨Q, 0, none⟩) 3 3, .string ⟨#[]⟩] 119 (0, 0)) ∧ w.heap[Q]? = some (.cells #[.slice none 0 0, .slice none 0 0, .slice none 0 0] 64 (0, 0))

theorem SimNew.keep {w w' : World} {S Q : Nat} {cv : Value} (h : SimNew w S Q cv) (hk : ∀ k, k = S ∨ k = Q → w'.heap[k]? = w.heap[k]?) : SimNew w' S Q cv :=
  ⟨(hk S (Or.inl rfl)).trans h.1, (hk Q (Or.inr rfl)).trans h.2⟩

set_option maxRecDepth 20000 in
set_option maxHeartbeats 2000000 in
theorem r_Show_new (S Q : Nat) (cv : Value) (w : World) (hS : SimNew w S Q cv) :
    Calls Try.prog 54 #[.pointer (some ⟨S, 0, none⟩)] w fun e w' => e = .returned (.agg #[.int .i64 0, .slice none 0 0, .slice none 0 0]) ∧ Below w.heap.size w w' := by
  have c3 : w.cell? ⟨S, 3, none⟩ = some (.int .i64 0) := (cell_of_heap hS.1).trans rfl
  have c5 : w.cell? ⟨S, 5, none⟩ = some (.slice none 0 0) := (cell_of_heap hS.1).trans rfl
  have c6 : w.cell? ⟨S, 6, none⟩ = some (.slice (some ⟨Q, 0, none⟩) 3 3) := (cell_of_heap hS.1).trans rfl
  have hSl := heap_lt hS.1
  have hQl := heap_lt hS.2
  have HS0 : Hid (SimNew w S Q cv) := hS
  clear hS
  go_enter Try.func54, Try.ntmps54
  go_wp2_with fail
  go_loop [4] (fun i => i = .int .i64 0) (fun _ => 0)
  case atStart => rfl
  case round =>
    subst hrel
    go_wp2_with fail
    go_loopw [5] (fun i wr => ∃ j : Nat, j ≤ 3 ∧ i = .int .i64 j ∧ Hid (wr.heap[w.heap.size]? = some (.cells #[.int .i64 0, .slice none 0 0, .slice none 0 0] 66 (0, 0)) ∧ wr.heap[w.heap.size + 1]? = some (.cells #[.int .i64 0, .slice none 0 0, .slice none 0 0] 66 (0, 0)) ∧ Below w.heap.size w wr)) (fun i _ => 3 - (intOf i).toNat)
    case atStart => exact ⟨0, by omega, rfl, by rw [Below.heap_alloc _ _ _ (by simp)]; exact heap_alloc_new _ _, heap_alloc2 _ _ _, ((Below.refl _ _).alloc (Nat.le_refl _) _).alloc (by simp) _⟩
    case round =>
      obtain ⟨j, hj, rfl, HR⟩ := hrel
      obtain ⟨s0, s1, s2, z0, z1, z2⟩ := cells3 HR.out.2.1
      obtain ⟨r0, r1, r2, y0, y1, y2⟩ := cells3 HR.out.1
      have hl1 := heap_lt HR.out.2.1
      have k6 : wr.cell? ⟨S, 6, none⟩ = some (.slice (some ⟨Q, 0, none⟩) 3 3) := (HR.out.2.2.cell (p := ⟨S, 6, none⟩) hSl).trans c6
      obtain ⟨q0, q1, q2, _⟩ := cells3 ((HR.out.2.2.block Q hQl).trans HS0.out.2)
      by_cases hlt : j < 3
      · have hcase : j = 0 ∨ j = 1 ∨ j = 2 := by omega
        have HS : Hid ((wr.setCell ⟨w.heap.size + 1, 2, none⟩ (.slice none 0 0)).heap[w.heap.size]? = some (.cells #[.int .i64 0, .slice none 0 0, .slice none 0 0] 66 (0, 0)) ∧ (wr.setCell ⟨w.heap.size + 1, 2, none⟩ (.slice none 0 0)).heap[w.heap.size + 1]? = some (.cells #[.int .i64 0, .slice none 0 0, .slice none 0 0] 66 (0, 0)) ∧ Below w.heap.size w (wr.setCell ⟨w.heap.size + 1, 2, none⟩ (.slice none 0 0))) := by
          refine ⟨?_, ?_, ?_⟩
          · rw [Below.heap_setCell _ _ _ _ (by show w.heap.size ≠ w.heap.size + 1; omega)]; exact HR.out.1
          · rw [heap_setCell_self _ HR.out.2.1]; rfl
          · exact HR.out.2.2.setCell (p := ⟨w.heap.size + 1, 2, none⟩) (Nat.le_succ _) _
        clear hlt
        rcases hcase with rfl | rfl | rfl
        all_goals
          go_upto_region 9 with fail
          go_region_law (refine step_append_none rfl (.tmp 45) (.tmp 52) 64 rfl 81 _ 4 32 Try.underlying64 Try.infoMsg0 (.slice none 0 0) 0 [] (by rfl) (World.ownsRow_nil _ _ _ _) (by rfl) ?_)
          all_goals
            go_wp2_with fail
            go_roundw
            case rel => first | exact ⟨1, by omega, by go_num, HS.out.1, HS.out.2.1, HS.out.2.2.drew⟩ | exact ⟨2, by omega, by go_num, HS.out.1, HS.out.2.1, HS.out.2.2.drew⟩ | exact ⟨3, by omega, by go_num, HS.out.1, HS.out.2.1, HS.out.2.2.drew⟩
            case measure => simp [intOf]
      · go_wp2_with fail
        refine bodyPost_ret (v := .agg #[.int .i64 0, .slice none 0 0, .slice none 0 0]) (by simp [results, Try.results54, go_sem, r0, r1, r2]) rfl ⟨rfl, ?_⟩
        exact ((HR.out.2.2.setCell (p := ⟨w.heap.size, 0, none⟩) (Nat.le_refl _) _).setCell (p := ⟨w.heap.size, 1, none⟩) (Nat.le_refl _) _).setCell (p := ⟨w.heap.size, 2, none⟩) (Nat.le_refl _) _

set_option maxHeartbeats 1000000 in
theorem sameRuns_none (w : World) : Calls Try.prog 81 #[.slice none 0 0, .slice none 0 0] w fun e w' => e = .returned (.bool true) ∧ w' = w := by
  go_enter Try.func81, Try.ntmps81
  go_wp2_with fail
  go_loop [5] (fun i => i = .int .i64 0) (fun _ => 0)
  case atStart => rfl
  case round =>
    subst hrel
    go_wp2_with fail
    go_ret
    exact ⟨rfl, rfl⟩

set_option maxHeartbeats 1000000 in
theorem sameQueue_none (w : World) : Calls Try.prog 82 #[.slice none 0 0, .slice none 0 0] w fun e w' => e = .returned (.bool true) ∧ w' = w := by
  go_enter Try.func82, Try.ntmps82
  go_wp2_with fail
  go_loop [5] (fun i => i = .int .i64 0) (fun _ => 0)
  case atStart => rfl
  case round =>
    subst hrel
    go_wp2_with fail
    go_ret
    exact ⟨rfl, rfl⟩

set_option maxHeartbeats 1000000 in
theorem sameState_none (w : World) : Calls Try.prog 55 #[.agg #[.int .i64 0, .slice none 0 0, .slice none 0 0], .agg #[.int .i64 0, .slice none 0 0, .slice none 0 0]] w fun e w' => e = .returned (.bool true) ∧ Below w.heap.size w w' := by
  go_enter Try.func55, Try.ntmps55
  go_wp2_with (first | (go_at_call 81; refine (sameRuns_none _).mono ?_; rintro e w' ⟨rfl, rfl⟩) | (go_at_call 82; refine (sameQueue_none _).mono ?_; rintro e w' ⟨rfl, rfl⟩))
  go_ret
  exact ⟨rfl, ((Below.refl _ _).alloc (Nat.le_refl _) _).alloc (by simp) _⟩

theorem Try.infoMsgs : (Try.prog.info? 64).map (fun i => (i.zero, i.size, i.bytes)) = some (some (.slice none 0 0), 1, 24) := by kernel_rfl

set_option maxHeartbeats 1000000 in
theorem begin_any (w : World) : Calls Try.prog 53 #[] w fun e w' => ∃ S Q, e = .returned (.pointer (some ⟨S, 0, none⟩)) ∧ w.heap.size ≤ S ∧ w.heap.size ≤ Q ∧ SimNew w' S Q (.slice none 0 0) ∧ Below w.heap.size w w' := by
  obtain ⟨i0, hi, hz0, hz1, hz2⟩ := info_parts Try.infoMsgs
  go_enter Try.func53, Try.ntmps53
  go_wp2_with (at_make; refine wpList_make_full _ rfl _ _ 117 rfl w.heap.size 64 i0 _ 1 Try.underlying117 hi hz0 hz1 _ _ _ _ 3 rfl rfl rfl rfl (by rw [hz2]; omega) (by unfold maxLen; omega) (Nat.le_refl _) ?_)
  intro w1 hown1 hgrow1
  have g1 : w1.heap[w.heap.size]? = some (.cells #[.slice none 0 0, .slice none 0 0, .slice none 0 0] 64 (0, 0)) := by
    rcases hown1.2 with ⟨h, _⟩ | ⟨g, c, cur, hv, hb, hg, h1, h2, h3, h4⟩
    · cases h
    · simp at hv
      obtain ⟨rfl, rfl⟩ := hv
      rw [hg]
      have e1 : cur.toList = [.slice none 0 0, .slice none 0 0, .slice none 0 0] := by
        have : cur.toList.take (3 * 1) = cur.toList := List.take_of_length_le (by simp; omega)
        rw [← this, h4]; simp [madeCells, List.range, List.range.loop]
      have e2 : cur = #[.slice none 0 0, .slice none 0 0, .slice none 0 0] := by
        apply Array.ext'
        exact e1
      rw [e2]
  have HB1 : Hid (Below w.heap.size w w1) := (Below.refl _ _).grown hgrow1 (Nat.le_refl _) (fun k hk => by cases hk)
  have HG : Hid (_ = _) := g1
  clear hown1 hgrow1 g1
  go_wp2_with fail
  go_ret
  exact ⟨_, _, rfl, HB1.out.size, Nat.le_refl _, ⟨heap_alloc_new _ _, by rw [Below.heap_alloc _ _ _ (heap_lt HG.out)]; exact HG.out⟩, HB1.out.alloc HB1.out.size _⟩

set_option maxHeartbeats 1000000 in
theorem OfCode_any (w : World) (a : Option Addr) (n cap : Nat) : Calls Try.prog 15 #[.slice a n cap] w fun e w' => ∃ S Q, e = .returned (.pointer (some ⟨S, 0, none⟩)) ∧ w.heap.size ≤ S ∧ w.heap.size ≤ Q ∧ SimNew w' S Q (.slice a n cap) ∧ Below w.heap.size w w' := by
  go_enter Try.func15, Try.ntmps15
  go_wp2_with fail
  refine (begin_any _).mono ?_
  rintro e w1 ⟨S, Q, rfl, hS, hQ, hn, hb⟩
  have c2 : w1.cell? ⟨S, 2, none⟩ = some (.slice none 0 0) := (cell_of_heap hn.1).trans rfl
  have z2 : w1.frozen? ⟨S, 2, none⟩ = false := free_of_heap hn.1
  have HN : Hid (SimNew w1 S Q (.slice none 0 0) ∧ Below w.heap.size w w1) := ⟨hn, hb⟩
  clear hn hb
  go_wp2_with fail
  go_ret
  refine ⟨S, Q, rfl, hS, hQ, ⟨?_, ?_⟩, HN.out.2.setCell (p := ⟨S, 2, none⟩) hS _⟩
  · rw [heap_setCell_self _ HN.out.1.1]; rfl
  · rw [Below.heap_setCell _ _ _ _ (ne_of_type HN.out.1.2 HN.out.1.1 (by decide))]; exact HN.out.1.2

end Go.Proofs.Ytiaibigmbflpiaa
