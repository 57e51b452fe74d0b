/- What a herald shows at first, and what the document's own shows. The first state, as both show it. The harness looks at a herald that has just begun. -/
import Derived.Test.YtmmmnghiegajmaaNewD
import Derived.Test.YtmmmnghiegajmaaKit
import Derived.Laws.AppendOwnNone
import Derived.Deep.DeepCutAuto
import Derived.Test.YtmmmnghiegajmaaNewK
namespace Go.Proofs.Ytmmmnghiegajmaa
open Go.RowKit Go.Proofs.Herald

theorem Try.infoMsg0 : (Try.prog.info? 83).map (fun i => (i.zero, i.size, i.bytes)) = some (some (.agg #[.int .i64 0, .int .i64 0, .int .i64 0, .int .i64 0]), 4, 32) := by kernel_rfl

theorem step_append_none {P : Program} {w : World} {ops : Array Oper} {o : Oper} {a : Act} {K : Act → World → Prop} {Q : Exit → Act → World → Prop} {E : Prop} (hgd : o.guard = none) (s x : Operand) (t : TypeId)
    (ho : o.op = .call { callee := .builtin .append, args := #[s, x], argTypes := #[t, t] })
    (e : TypeId) (z : Value) (size bytes : Nat) (ht : P.underlying t = some (.slice e)) (hinfo : (P.info? e).map (fun i => (i.zero, i.size, i.bytes)) = some (some z, size, bytes))
    (v : Value) (n : Nat) (xs : List Value) (hs : a.eval s = v) (hown : w.ownsRow 0 e size v n xs) (hx : a.eval x = .slice none 0 0) (h : K (a.put o.dst v) w) :
    if Region.wanted o (yielded ops a.tmps) = true then Oper.wp P o a w K Q else E := by
  obtain ⟨i0, hi, _⟩ := info_parts hinfo
  have hw : Region.wanted o (yielded ops a.tmps) = true := by simp [Region.wanted, hgd]
  rw [if_pos hw]
  have hrun := run_append_owned_none (P := P) (w := w) 0 t o.type e i0 size ht hi v n xs hown
  unfold Oper.wp execOp
  simp only [ho, resolve, invoke, builtin, Sem.run_bind, Sem.run_pure, Result.andThen_ok, List.map_toArray, List.map_cons, List.map_nil, hs, hx, hrun]
  exact h

theorem cells3 {w : World} {R : Nat} {e : TypeId} {u0 u1 u2 : Value} (h : w.heap[R]? = some (.cells #[u0, u1, u2] e (0, 0))) :
    w.cell? ⟨R, 0, none⟩ = some u0 ∧ w.cell? ⟨R, 1, none⟩ = some u1 ∧ w.cell? ⟨R, 2, none⟩ = some u2 ∧ w.frozen? ⟨R, 0, none⟩ = false ∧ w.frozen? ⟨R, 1, none⟩ = false ∧ w.frozen? ⟨R, 2, none⟩ = false :=
  ⟨(cell_of_heap h).trans rfl, (cell_of_heap h).trans rfl, (cell_of_heap h).trans rfl, free_of_heap h, free_of_heap h, free_of_heap h⟩

theorem run_index3 (u0 u1 u2 : Value) (w : World) :
    (Instr.index 144 (.agg #[u0, u1, u2]) (.int .i64 0)).run Try.prog w = .ok (.agg #[u0]) w ∧ (Instr.index 144 (.agg #[u0, u1, u2]) (.int .i64 1)).run Try.prog w = .ok (.agg #[u1]) w ∧ (Instr.index 144 (.agg #[u0, u1, u2]) (.int .i64 2)).run Try.prog w = .ok (.agg #[u2]) w := by
  refine ⟨?_, ?_, ?_⟩ <;> simp [Instr.index, run_underlying Try.underlying144, asIntOf, go_sem]

set_option maxRecDepth 20000 in
set_option maxHeartbeats 2000000 in
theorem c_mShow_new (H : Nat) (e : TypeId) (v : Value) (w : World) (hH : w.heap[H]? = some (.cells (newHd v) e (0, 0))) :
    Calls Try.prog 69 #[.pointer (some ⟨H, 0, none⟩)] w fun e w' => e = .returned (.agg #[.int .i64 0, .slice none 0 0, .slice none 0 0]) ∧ Below w.heap.size w w' := by
  obtain ⟨d0, d1, d2, d3, d4, d5, d6, _⟩ := cells8 hH
  have hHl := heap_lt hH
  obtain ⟨i0, hi, hz0, hz1, hz2⟩ := info_parts Try.infoMsg0
  have HH : Hid (_ = _) := hH
  clear hH
  go_enter Try.func69, Try.ntmps69
  go_wp2_with fail
  go_loop [18] (fun i => i = .int .i64 0) (fun _ => 0)
  case atStart => rfl
  case round =>
    subst hrel
    go_wp2_with fail
    go_loopw [34] (fun i wr => ∃ j : Nat, j ≤ 3 ∧ i = .int .i64 j ∧ Hid (wr.heap[w.heap.size]? = some (.cells #[.int .i64 0, .slice none 0 0, .slice none 0 0] 68 (0, 0)) ∧ wr.heap[w.heap.size + 1]? = some (.cells #[.int .i64 0, .slice none 0 0, .slice none 0 0] 68 (0, 0)) ∧ Below w.heap.size w wr)) (fun i _ => 3 - (intOf i).toNat)
    case atStart => exact ⟨0, by omega, rfl, by rw [Below.heap_alloc _ _ _ (by simp)]; exact heap_alloc_new _ _, heap_alloc2 _ _ _, ((Below.refl _ _).alloc (Nat.le_refl _) _).alloc (by simp) _⟩
    case round =>
      obtain ⟨j, hj, rfl, HR⟩ := hrel
      obtain ⟨s0, s1, s2, z0, z1, z2⟩ := cells3 HR.out.2.1
      obtain ⟨r0, r1, r2, y0, y1, y2⟩ := cells3 HR.out.1
      have hl1 := heap_lt HR.out.2.1
      by_cases hlt : j < 3
      · have hcase : j = 0 ∨ j = 1 ∨ j = 2 := by omega
        have HS : Hid (∀ o, (((wr.setCell ⟨w.heap.size + 1, 2, none⟩ (.slice none 0 0)).alloc o).heap[w.heap.size]? = some (.cells #[.int .i64 0, .slice none 0 0, .slice none 0 0] 68 (0, 0)) ∧ ((wr.setCell ⟨w.heap.size + 1, 2, none⟩ (.slice none 0 0)).alloc o).heap[w.heap.size + 1]? = some (.cells #[.int .i64 0, .slice none 0 0, .slice none 0 0] 68 (0, 0)) ∧ Below w.heap.size w ((wr.setCell ⟨w.heap.size + 1, 2, none⟩ (.slice none 0 0)).alloc o))) := fun o => by
          refine ⟨?_, ?_, ?_⟩
          · rw [Below.heap_alloc _ _ _ (by rw [size_setCell]; exact heap_lt HR.out.1), Below.heap_setCell _ _ _ _ (by show w.heap.size ≠ w.heap.size + 1; omega)]; exact HR.out.1
          · rw [Below.heap_alloc _ _ _ (by rw [size_setCell]; exact heap_lt HR.out.2.1), heap_setCell_self _ HR.out.2.1]; rfl
          · exact (HR.out.2.2.setCell (p := ⟨w.heap.size + 1, 2, none⟩) (Nat.le_succ _) _).alloc (by rw [size_setCell]; exact HR.out.2.2.size) _
        obtain ⟨q0, q1, q2⟩ := run_index3 (.slice none 0 0) (.slice none 0 0) (.slice none 0 0) wr
        clear hlt
        rcases hcase with rfl | rfl | rfl
        all_goals
          go_wp2_with (at_builtin; refine wpList_append_own_none rfl (.tmp 38) (.tmp 40) 66 rfl 0 83 i0 4 Try.underlying66 hi (.slice none 0 0) 0 [] rfl (World.ownsRow_nil _ _ _ _) rfl ?_)
          go_wp2_with fail
          go_roundw
          case rel => first | exact ⟨1, by omega, by go_num, HS.out _⟩ | exact ⟨2, by omega, by go_num, HS.out _⟩ | exact ⟨3, by omega, by go_num, HS.out _⟩
          case measure => simp [intOf]
      · go_wp2_with fail
        refine bodyPost_ret (v := .agg #[.int .i64 0, .slice none 0 0, .slice none 0 0]) (by simp [results, Try.results69, go_sem, r0, r1, r2]) rfl ⟨rfl, ?_⟩
        exact ((HR.out.2.2.setCell (p := ⟨w.heap.size, 0, none⟩) (Nat.le_refl _) _).setCell (p := ⟨w.heap.size, 1, none⟩) (Nat.le_refl _) _).setCell (p := ⟨w.heap.size, 2, none⟩) (Nat.le_refl _) _

end Go.Proofs.Ytmmmnghiegajmaa

namespace Go.Proofs.Ytmmmnghiegajmaa
open Go.RowKit Go.Proofs.Herald

set_option maxHeartbeats 1000000 in
theorem c_Show_new (H : Nat) (v : Value) (w : World) (hH : w.heap[H]? = some (.cells (newHd v) 150 (0, 0))) :
    Calls Try.prog 30 #[.pointer (some ⟨H, 0, none⟩)] w fun e w' => e = .returned (.agg #[.int .i64 0, .slice none 0 0, .slice none 0 0]) ∧ Below w.heap.size w w' := by
  have HC : Hid (∀ o, Calls Try.prog 69 #[.pointer (some ⟨H, 0, none⟩)] (w.alloc o) fun e w' => e = .returned (.agg #[.int .i64 0, .slice none 0 0, .slice none 0 0]) ∧ Below (w.alloc o).heap.size (w.alloc o) w') := fun o => c_mShow_new H _ v (w.alloc o) (by rw [Below.heap_alloc _ _ _ (heap_lt hH)]; exact hH)
  clear hH
  go_enter Try.func30, Try.ntmps30
  go_wp2_with fail
  refine (HC.out _).mono ?_
  rintro e w1 ⟨rfl, hb1⟩
  have g1 : w1.heap[w.heap.size]? = some (.cells #[.int .i64 0, .slice none 0 0, .slice none 0 0] 68 (0, 0)) := (hb1.block _ (by simp)).trans (heap_alloc_new _ _)
  obtain ⟨r0, r1, r2, y0, y1, y2⟩ := cells3 g1
  have HB : Hid (Below w.heap.size w w1) := ((Below.refl _ _).alloc (Nat.le_refl _) _).trans (hb1.mono (by simp))
  clear hb1 g1 HC
  go_wp2_with fail
  refine bodyPost_ret (v := .agg #[.int .i64 0, .slice none 0 0, .slice none 0 0]) (by simp [results, Try.results30, go_sem, r0, r1, r2]) rfl ⟨rfl, ?_⟩
  exact ((HB.out.setCell (p := ⟨w.heap.size, 0, none⟩) (Nat.le_refl _) _).setCell (p := ⟨w.heap.size, 1, none⟩) (Nat.le_refl _) _).setCell (p := ⟨w.heap.size, 2, none⟩) (Nat.le_refl _) _

/-- The document's own herald as it begins. -/
def SimNew (w : World) (S Q : Nat) (cv : Value) : Prop :=
  w.heap[S]? = some (.cells #[.bool false, .slice none 0 0, cv, .int .i64 0, .int .i64 0, .slice none 0 0, .slice (some ⟨Q, 0, none⟩) 3 3, .string ⟨#[]⟩] 121 (0, 0)) ∧ w.heap[Q]? = some (.cells #[.slice none 0 0, .slice none 0 0, .slice none 0 0] 66 (0, 0))

theorem SimNew.keep {w w' : World} {S Q : Nat} {cv : Value} (h : SimNew w S Q cv) (hk : ∀ k, k = S ∨ k = Q → w'.heap[k]? = w.heap[k]?) : SimNew w' S Q cv :=
  ⟨(hk S (Or.inl rfl)).trans h.1, (hk Q (Or.inr rfl)).trans h.2⟩

set_option maxRecDepth 20000 in
set_option maxHeartbeats 2000000 in
theorem r_Show_new (S Q : Nat) (cv : Value) (w : World) (hS : SimNew w S Q cv) :
    Calls Try.prog 56 #[.pointer (some ⟨S, 0, none⟩)] w fun e w' => e = .returned (.agg #[.int .i64 0, .slice none 0 0, .slice none 0 0]) ∧ Below w.heap.size w w' := by
  have c3 : w.cell? ⟨S, 3, none⟩ = some (.int .i64 0) := (cell_of_heap hS.1).trans rfl
  have c5 : w.cell? ⟨S, 5, none⟩ = some (.slice none 0 0) := (cell_of_heap hS.1).trans rfl
  have c6 : w.cell? ⟨S, 6, none⟩ = some (.slice (some ⟨Q, 0, none⟩) 3 3) := (cell_of_heap hS.1).trans rfl
  have hSl := heap_lt hS.1
  have hQl := heap_lt hS.2
  have HS0 : Hid (SimNew w S Q cv) := hS
  clear hS
  go_enter Try.func56, Try.ntmps56
  go_wp2_with fail
  go_loop [4] (fun i => i = .int .i64 0) (fun _ => 0)
  case atStart => rfl
  case round =>
    subst hrel
    go_wp2_with fail
    go_loopw [5] (fun i wr => ∃ j : Nat, j ≤ 3 ∧ i = .int .i64 j ∧ Hid (wr.heap[w.heap.size]? = some (.cells #[.int .i64 0, .slice none 0 0, .slice none 0 0] 68 (0, 0)) ∧ wr.heap[w.heap.size + 1]? = some (.cells #[.int .i64 0, .slice none 0 0, .slice none 0 0] 68 (0, 0)) ∧ Below w.heap.size w wr)) (fun i _ => 3 - (intOf i).toNat)
    case atStart => exact ⟨0, by omega, rfl, by rw [Below.heap_alloc _ _ _ (by simp)]; exact heap_alloc_new _ _, heap_alloc2 _ _ _, ((Below.refl _ _).alloc (Nat.le_refl _) _).alloc (by simp) _⟩
    case round =>
      obtain ⟨j, hj, rfl, HR⟩ := hrel
      obtain ⟨s0, s1, s2, z0, z1, z2⟩ := cells3 HR.out.2.1
      obtain ⟨r0, r1, r2, y0, y1, y2⟩ := cells3 HR.out.1
      have hl1 := heap_lt HR.out.2.1
      have k6 : wr.cell? ⟨S, 6, none⟩ = some (.slice (some ⟨Q, 0, none⟩) 3 3) := (HR.out.2.2.cell (p := ⟨S, 6, none⟩) hSl).trans c6
      obtain ⟨q0, q1, q2, _⟩ := cells3 ((HR.out.2.2.block Q hQl).trans HS0.out.2)
      by_cases hlt : j < 3
      · have hcase : j = 0 ∨ j = 1 ∨ j = 2 := by omega
        have HS : Hid ((wr.setCell ⟨w.heap.size + 1, 2, none⟩ (.slice none 0 0)).heap[w.heap.size]? = some (.cells #[.int .i64 0, .slice none 0 0, .slice none 0 0] 68 (0, 0)) ∧ (wr.setCell ⟨w.heap.size + 1, 2, none⟩ (.slice none 0 0)).heap[w.heap.size + 1]? = some (.cells #[.int .i64 0, .slice none 0 0, .slice none 0 0] 68 (0, 0)) ∧ Below w.heap.size w (wr.setCell ⟨w.heap.size + 1, 2, none⟩ (.slice none 0 0))) := by
          refine ⟨?_, ?_, ?_⟩
          · rw [Below.heap_setCell _ _ _ _ (by show w.heap.size ≠ w.heap.size + 1; omega)]; exact HR.out.1
          · rw [heap_setCell_self _ HR.out.2.1]; rfl
          · exact HR.out.2.2.setCell (p := ⟨w.heap.size + 1, 2, none⟩) (Nat.le_succ _) _
        clear hlt
        rcases hcase with rfl | rfl | rfl
        all_goals
          go_upto_region 9 with fail
          go_region_law (refine step_append_none rfl (.tmp 45) (.tmp 52) 66 rfl 83 _ 4 32 Try.underlying66 Try.infoMsg0 (.slice none 0 0) 0 [] (by rfl) (World.ownsRow_nil _ _ _ _) (by rfl) ?_)
          all_goals
            go_wp2_with fail
            go_roundw
            case rel => first | exact ⟨1, by omega, by go_num, HS.out.1, HS.out.2.1, HS.out.2.2.drew⟩ | exact ⟨2, by omega, by go_num, HS.out.1, HS.out.2.1, HS.out.2.2.drew⟩ | exact ⟨3, by omega, by go_num, HS.out.1, HS.out.2.1, HS.out.2.2.drew⟩
            case measure => simp [intOf]
      · go_wp2_with fail
        refine bodyPost_ret (v := .agg #[.int .i64 0, .slice none 0 0, .slice none 0 0]) (by simp [results, Try.results56, go_sem, r0, r1, r2]) rfl ⟨rfl, ?_⟩
        exact ((HR.out.2.2.setCell (p := ⟨w.heap.size, 0, none⟩) (Nat.le_refl _) _).setCell (p := ⟨w.heap.size, 1, none⟩) (Nat.le_refl _) _).setCell (p := ⟨w.heap.size, 2, none⟩) (Nat.le_refl _) _

set_option maxHeartbeats 1000000 in
theorem sameRuns_none (w : World) : Calls Try.prog 87 #[.slice none 0 0, .slice none 0 0] w fun e w' => e = .returned (.bool true) ∧ w' = w := by
  go_enter Try.func87, Try.ntmps87
  go_wp2_with fail
  go_loop [5] (fun i => i = .int .i64 0) (fun _ => 0)
  case atStart => rfl
  case round =>
    subst hrel
    go_wp2_with fail
    go_ret
    exact ⟨rfl, rfl⟩

set_option maxHeartbeats 1000000 in
theorem sameQueue_none (w : World) : Calls Try.prog 88 #[.slice none 0 0, .slice none 0 0] w fun e w' => e = .returned (.bool true) ∧ w' = w := by
  go_enter Try.func88, Try.ntmps88
  go_wp2_with fail
  go_loop [5] (fun i => i = .int .i64 0) (fun _ => 0)
  case atStart => rfl
  case round =>
    subst hrel
    go_wp2_with fail
    go_ret
    exact ⟨rfl, rfl⟩

set_option maxHeartbeats 1000000 in
theorem sameState_none (w : World) : Calls Try.prog 57 #[.agg #[.int .i64 0, .slice none 0 0, .slice none 0 0], .agg #[.int .i64 0, .slice none 0 0, .slice none 0 0]] w fun e w' => e = .returned (.bool true) ∧ Below w.heap.size w w' := by
  go_enter Try.func57, Try.ntmps57
  go_wp2_with (first | (go_at_call 87; refine (sameRuns_none _).mono ?_; rintro e w' ⟨rfl, rfl⟩) | (go_at_call 88; refine (sameQueue_none _).mono ?_; rintro e w' ⟨rfl, rfl⟩))
  go_ret
  exact ⟨rfl, ((Below.refl _ _).alloc (Nat.le_refl _) _).alloc (by simp) _⟩

theorem Try.infoMsgs : (Try.prog.info? 66).map (fun i => (i.zero, i.size, i.bytes)) = some (some (.slice none 0 0), 1, 24) := by kernel_rfl

set_option maxHeartbeats 1000000 in
theorem begin_any (w : World) : Calls Try.prog 55 #[] w fun e w' => ∃ S Q, e = .returned (.pointer (some ⟨S, 0, none⟩)) ∧ w.heap.size ≤ S ∧ w.heap.size ≤ Q ∧ SimNew w' S Q (.slice none 0 0) ∧ Below w.heap.size w w' := by
  obtain ⟨i0, hi, hz0, hz1, hz2⟩ := info_parts Try.infoMsgs
  go_enter Try.func55, Try.ntmps55
  go_wp2_with (at_make; refine wpList_make_full _ rfl _ _ 119 rfl w.heap.size 66 i0 _ 1 Try.underlying119 hi hz0 hz1 _ _ _ _ 3 rfl rfl rfl rfl (by rw [hz2]; omega) (by unfold maxLen; omega) (Nat.le_refl _) ?_)
  intro w1 hown1 hgrow1
  have g1 : w1.heap[w.heap.size]? = some (.cells #[.slice none 0 0, .slice none 0 0, .slice none 0 0] 66 (0, 0)) := by
    rcases hown1.2 with ⟨h, _⟩ | ⟨g, c, cur, hv, hb, hg, h1, h2, h3, h4⟩
    · cases h
    · simp at hv
      obtain ⟨rfl, rfl⟩ := hv
      rw [hg]
      have e1 : cur.toList = [.slice none 0 0, .slice none 0 0, .slice none 0 0] := by
        have : cur.toList.take (3 * 1) = cur.toList := List.take_of_length_le (by simp; omega)
        rw [← this, h4]; simp [madeCells, List.range, List.range.loop]
      have e2 : cur = #[.slice none 0 0, .slice none 0 0, .slice none 0 0] := by
        apply Array.ext'
        exact e1
      rw [e2]
  have HB1 : Hid (Below w.heap.size w w1) := (Below.refl _ _).grown hgrow1 (Nat.le_refl _) (fun k hk => by cases hk)
  have HG : Hid (_ = _) := g1
  clear hown1 hgrow1 g1
  go_wp2_with fail
  go_ret
  exact ⟨_, _, rfl, HB1.out.size, Nat.le_refl _, ⟨heap_alloc_new _ _, by rw [Below.heap_alloc _ _ _ (heap_lt HG.out)]; exact HG.out⟩, HB1.out.alloc HB1.out.size _⟩

set_option maxHeartbeats 1000000 in
theorem OfCode_any (w : World) (a : Option Addr) (n cap : Nat) : Calls Try.prog 16 #[.slice a n cap] w fun e w' => ∃ S Q, e = .returned (.pointer (some ⟨S, 0, none⟩)) ∧ w.heap.size ≤ S ∧ w.heap.size ≤ Q ∧ SimNew w' S Q (.slice a n cap) ∧ Below w.heap.size w w' := by
  go_enter Try.func16, Try.ntmps16
  go_wp2_with fail
  refine (begin_any _).mono ?_
  rintro e w1 ⟨S, Q, rfl, hS, hQ, hn, hb⟩
  have c2 : w1.cell? ⟨S, 2, none⟩ = some (.slice none 0 0) := (cell_of_heap hn.1).trans rfl
  have z2 : w1.frozen? ⟨S, 2, none⟩ = false := free_of_heap hn.1
  have HN : Hid (SimNew w1 S Q (.slice none 0 0) ∧ Below w.heap.size w w1) := ⟨hn, hb⟩
  clear hn hb
  go_wp2_with fail
  go_ret
  refine ⟨S, Q, rfl, hS, hQ, ⟨?_, ?_⟩, HN.out.2.setCell (p := ⟨S, 2, none⟩) hS _⟩
  · rw [heap_setCell_self _ HN.out.1.1]; rfl
  · rw [Below.heap_setCell _ _ _ _ (ne_of_type HN.out.1.2 HN.out.1.1 (by decide))]; exact HN.out.1.2

end Go.Proofs.Ytmmmnghiegajmaa

namespace Go.Proofs.Ytmmmnghiegajmaa
open Go.RowKit Go.Proofs.Herald

theorem BookOk.keep {w w' : World} {X : Nat → Prop} {e : TypeId} {k : Nat} {b : Value × List Value} (h : BookOk w X e k b) (hk : ∀ j, X j → w'.heap[j]? = w.heap[j]?) : BookOk w' X e k b := by
  obtain ⟨h1, m, hm, h2, h3⟩ := h
  exact ⟨h1, m, hm, own_keep h2 fun g hg => hk g (h3 g hg), h3⟩

theorem OwnAt.keep {w w' : World} {X : Nat → Prop} {O : Nat} {n : Int} {cv rv qv : Value} {cb rb qb : List (Value × List Value)} (h : OwnAt w X O n cv rv qv cb rb qb) (hk : ∀ j, X j → w'.heap[j]? = w.heap[j]?) : OwnAt w' X O n cv rv qv cb rb qb :=
  ⟨(hk O h.inO).trans h.blk, h.inO, own_keep h.cown fun g hg => hk g (h.cin g hg), own_keep h.rown fun g hg => hk g (h.rin g hg), own_keep h.qown fun g hg => hk g (h.qin g hg), h.cin, h.rin, h.qin,
    fun b hb => (h.cbk b hb).keep hk, fun b hb => (h.rbk b hb).keep hk, fun b hb => (h.qbk b hb).keep hk⟩

/-- A pair of heralds that have just begun. -/
structure LkNew (w : World) (Pb H S Q : Nat) (v cv u tv : Value) : Prop where
  p : w.heap[Pb]? = some (.cells #[.pointer (some ⟨H, 0, none⟩), .pointer (some ⟨S, 0, none⟩), u, tv] 34 (0, 0))
  h : w.heap[H]? = some (.cells (newHd v) 150 (0, 0))
  s : SimNew w S Q cv

theorem LkNew.keep {w w' : World} {Pb H S Q : Nat} {v cv u tv : Value} (h : LkNew w Pb H S Q v cv u tv) (hk : ∀ k, k = Pb ∨ k = H ∨ k = S ∨ k = Q → w'.heap[k]? = w.heap[k]?) : LkNew w' Pb H S Q v cv u tv :=
  ⟨(hk Pb (by simp)).trans h.p, (hk H (by simp)).trans h.h, h.s.keep fun k hk' => hk k (by rcases hk' with rfl | rfl <;> simp)⟩

theorem LkNew.lt {w : World} {Pb H S Q : Nat} {v cv u tv : Value} (h : LkNew w Pb H S Q v cv u tv) : ∀ k, k = Pb ∨ k = H ∨ k = S ∨ k = Q → k < w.heap.size := by
  intro k hk
  rcases hk with rfl | rfl | rfl | rfl
  · exact heap_lt h.p
  · exact heap_lt h.h
  · exact heap_lt h.s.1
  · exact heap_lt h.s.2

theorem LkNew.below {w w' : World} {Pb H S Q : Nat} {v cv u tv : Value} (h : LkNew w Pb H S Q v cv u tv) (hb : Below w.heap.size w w') : LkNew w' Pb H S Q v cv u tv :=
  h.keep fun k hk => hb.block k (h.lt k hk)

theorem OwnAt.below {w w' : World} {X : Nat → Prop} {O : Nat} {n : Int} {cv rv qv : Value} {cb rb qb : List (Value × List Value)} (h : OwnAt w X O n cv rv qv cb rb qb) (hX : ∀ k, X k → k < w.heap.size) (hb : Below w.heap.size w w') : OwnAt w' X O n cv rv qv cb rb qb :=
  h.keep fun k hk => hb.block k (hX k hk)

set_option maxRecDepth 20000 in
set_option maxHeartbeats 2000000 in
theorem looked_new (Pb H S Q O : Nat) (v cv u tv : Value) (X : Nat → Prop) (n : Int) (cvb rv qv : Value) (cb rb qb : List (Value × List Value)) (w : World) (hL : LkNew w Pb H S Q v cv u tv) (hO : OwnAt w X O n cvb rv qv cb rb qb) (hX : ∀ k, X k → k < w.heap.size) (hN : ∀ k, k = Pb ∨ k = H ∨ k = S ∨ k = Q → ¬ X k)
    (hn0 : 0 ≤ n) (hn1 : n ≤ 800000000) (hcb : cb.length ≤ 9000000) (hrb : rb.length ≤ 9000000) (hqb : qb.length ≤ 9000000) :
    Calls Try.prog 17 #[.pointer (some ⟨Pb, 0, none⟩), .pointer (some ⟨O, 0, none⟩)] w fun e w' => e = .returned (.bool true) ∧ Fr X w w' := by
  have p0 : w.cell? ⟨Pb, 0, none⟩ = some (.pointer (some ⟨H, 0, none⟩)) := (cell_of_heap hL.p).trans rfl
  have p1 : w.cell? ⟨Pb, 1, none⟩ = some (.pointer (some ⟨S, 0, none⟩)) := (cell_of_heap hL.p).trans rfl
  have H0 : Hid (LkNew w Pb H S Q v cv u tv ∧ OwnAt w X O n cvb rv qv cb rb qb ∧ (∀ k, X k → k < w.heap.size) ∧ (∀ k, k = Pb ∨ k = H ∨ k = S ∨ k = Q → ¬ X k)) := ⟨hL, hO, hX, hN⟩
  clear hL hO hX hN
  go_enter Try.func17, Try.ntmps17
  go_wp2_with fail
  refine (r_Show_new S Q cv _ H0.out.1.s).mono ?_
  rintro e w1 ⟨rfl, hb1⟩
  obtain ⟨W1, hW1⟩ : ∃ W, W = w1.alloc (.cells #[.int .i64 0, .slice none 0 0, .slice none 0 0] 68) := ⟨_, rfl⟩
  have HB1 : Hid (Below w.heap.size w W1) := by rw [hW1]; exact hb1.alloc hb1.size _
  have HWB : Hid (W1.heap[w1.heap.size]? = some (.cells #[.int .i64 0, .slice none 0 0, .slice none 0 0] 68 (0, 0)) ∧ w.heap.size ≤ w1.heap.size) := ⟨by rw [hW1]; exact heap_alloc_new _ _, hb1.size⟩
  have HW1 : Hid (W1 = w1.alloc (.cells #[.int .i64 0, .slice none 0 0, .slice none 0 0] 68)) := hW1
  have q0 : w1.cell? ⟨Pb, 0, none⟩ = some (.pointer (some ⟨H, 0, none⟩)) := (cell_of_heap (H0.out.1.below hb1).p).trans rfl
  have hPl : Pb < w1.heap.size := heap_lt (H0.out.1.below hb1).p
  clear hb1 hW1 p0 p1
  go_wp2_with fail
  rw [← HW1.out]
  clear q0 hPl
  have H1 : Hid (LkNew W1 Pb H S Q v cv u tv ∧ OwnAt W1 X O n cvb rv qv cb rb qb ∧ (∀ k, X k → k < W1.heap.size)) := ⟨H0.out.1.below HB1.out, H0.out.2.1.below H0.out.2.2.1 HB1.out, fun k hk => Nat.lt_of_lt_of_le (H0.out.2.2.1 k hk) HB1.out.size⟩
  refine (c_Show_new H v _ H1.out.1.h).mono ?_
  rintro e w2 ⟨rfl, hb2⟩
  have b0 := cells3 ((hb2.block _ (heap_lt HWB.out.1)).trans HWB.out.1)
  obtain ⟨b0, b1, b2, _⟩ := b0
  have hl2 : w1.heap.size < w2.heap.size := Nat.lt_of_lt_of_le (heap_lt HWB.out.1) hb2.size
  have H2 : Hid (LkNew w2 Pb H S Q v cv u tv ∧ OwnAt w2 X O n cvb rv qv cb rb qb ∧ (∀ k, X k → k < w2.heap.size) ∧ w2.heap[w1.heap.size]? = some (.cells #[.int .i64 0, .slice none 0 0, .slice none 0 0] 68 (0, 0)) ∧ Below w.heap.size w w2) :=
    ⟨H1.out.1.below hb2, H1.out.2.1.below H1.out.2.2 hb2, fun k hk => Nat.lt_of_lt_of_le (H1.out.2.2 k hk) hb2.size, (hb2.block _ (heap_lt HWB.out.1)).trans HWB.out.1, HB1.out.trans (hb2.mono HB1.out.size)⟩
  clear hb2 H1 HB1 HW1
  go_wp2_with fail
  refine (sameState_none _).mono ?_
  rintro e w3 ⟨rfl, hb3⟩
  have HA2 : Hid (Below w2.heap.size w2 w3) := ((Below.refl _ _).alloc (Nat.le_refl _) _).trans (hb3.mono (by simp))
  have HS3 : Hid (w3.heap[w2.heap.size]? = some (.cells #[.int .i64 0, .slice none 0 0, .slice none 0 0] 68 (0, 0))) := (hb3.block _ (by simp)).trans (heap_alloc_new _ _)
  have H3 : Hid (LkNew w3 Pb H S Q v cv u tv ∧ OwnAt w3 X O n cvb rv qv cb rb qb ∧ (∀ k, X k → k < w3.heap.size) ∧ w3.heap[w1.heap.size]? = some (.cells #[.int .i64 0, .slice none 0 0, .slice none 0 0] 68 (0, 0)) ∧ Below w.heap.size w w3) :=
    ⟨H2.out.1.below HA2.out, H2.out.2.1.below H2.out.2.2.1 HA2.out, fun k hk => Nat.lt_of_lt_of_le (H2.out.2.2.1 k hk) HA2.out.size, (HA2.out.block _ (heap_lt H2.out.2.2.2.1)).trans H2.out.2.2.2.1, H2.out.2.2.2.2.trans (HA2.out.mono H2.out.2.2.2.2.size)⟩
  obtain ⟨s0, s1, s2, _⟩ := cells3 HS3.out
  clear b0 b1 b2 hl2 hb3 HA2 H2 HS3
  go_wp2_with fail
  refine (state_any X O n 0 cvb rv qv cb rb qb none 0 0 [] none 0 0 [] w3 hn0 (by omega) (by omega) (by omega) (by omega) (by omega) H3.out.2.1 (World.ownsRow_nil _ _ _ _) (World.ownsRow_nil _ _ _ _) (fun b hb => by cases hb) (fun b hb => by cases hb)).mono ?_
  rintro e w4 ⟨rfl, rv4, qv4, rb4, qb4, hr4, hq4, ho4, hf4⟩
  have HF4 : Hid (Fr X w3 w4) := hf4.mono fun k _ hk => by
    rcases hk with hk | hk | hk
    · exact hk
    · cases hk
    · cases hk
  have HX4 : Hid (∀ k, moreX X w3 w4 (.slice none 0 0) (.slice none 0 0) k → k < w4.heap.size ∧ (X k ∨ w3.heap.size ≤ k)) := fun k hk => by
    obtain ⟨h1, h2⟩ := hk
    rcases h2 with h2 | h2 | h2 | h2
    · exact ⟨h1, Or.inl h2⟩
    · cases h2
    · cases h2
    · exact ⟨h1, Or.inr h2⟩
  have H4 : Hid (LkNew w4 Pb H S Q v cv u tv ∧ OwnAt w4 (moreX X w3 w4 (.slice none 0 0) (.slice none 0 0)) O (n + 1) cvb rv4 qv4 cb rb4 qb4 ∧ w4.heap[w1.heap.size]? = some (.cells #[.int .i64 0, .slice none 0 0, .slice none 0 0] 68 (0, 0)) ∧ Fr X w w4) := by
    refine ⟨H3.out.1.keep fun k hk => HF4.out.block k (H3.out.1.lt k hk) (H0.out.2.2.2 k hk), ho4, ?_, ?_⟩
    · rw [HF4.out.block _ (heap_lt H3.out.2.2.2.1) (fun hx => by have := H0.out.2.2.1 _ hx; have := HWB.out.2; omega)]
      exact H3.out.2.2.2.1
    · exact ((Fr.of_below H3.out.2.2.2.2).mono (T := X) fun k hk hs => by omega).trans HF4.out
  have q0 : w4.cell? ⟨Pb, 0, none⟩ = some (.pointer (some ⟨H, 0, none⟩)) := (cell_of_heap H4.out.1.p).trans rfl
  have HLT : Hid (∀ k, k = Pb ∨ k = H ∨ k = S ∨ k = Q → k < w3.heap.size) := H3.out.1.lt
  have HSZ : Hid (w.heap.size ≤ w3.heap.size ∧ w1.heap.size < w3.heap.size) := ⟨H3.out.2.2.2.2.size, heap_lt H3.out.2.2.2.1⟩
  clear ho4 hf4 s0 s1 s2 H3
  go_wp2_with fail
  refine (c_Show_new H v _ H4.out.1.h).mono ?_
  rintro e w5 ⟨rfl, hb5⟩
  have HB5 : Hid (Below w4.heap.size w4 w5) := hb5
  obtain ⟨b0, b1, b2, _⟩ := cells3 ((hb5.block _ (heap_lt H4.out.2.2.1)).trans H4.out.2.2.1)
  have hl2 : w1.heap.size < w5.heap.size := Nat.lt_of_lt_of_le (heap_lt H4.out.2.2.1) hb5.size
  clear hb5 q0
  go_wp2_with fail
  refine (sameState_none _).mono ?_
  rintro e w6 ⟨rfl, hb6⟩
  have HB6 : Hid (Below w4.heap.size w4 w6) := (HB5.out.alloc HB5.out.size _).trans (hb6.mono (by have := HB5.out.size; simp; omega))
  have HS6 : Hid (w6.heap[w5.heap.size]? = some (.cells #[.int .i64 0, .slice none 0 0, .slice none 0 0] 68 (0, 0))) := (hb6.block _ (by simp)).trans (heap_alloc_new _ _)
  obtain ⟨s0, s1, s2, _⟩ := cells3 HS6.out
  have HO6 : Hid (OwnAt w6 (moreX X w3 w4 (.slice none 0 0) (.slice none 0 0)) O (n + 1) cvb rv4 qv4 cb rb4 qb4) := H4.out.2.1.below (fun k hk => (HX4.out k hk).1) HB6.out
  clear hb6 b0 b1 b2 hl2 HB5 HS6
  go_wp2_with fail
  refine (state_any _ O (n + 1) 0 cvb rv4 qv4 cb rb4 qb4 none 0 0 [] none 0 0 [] w6 (by omega) (by omega) (by omega) (by omega) (by omega) (by omega) HO6.out (World.ownsRow_nil _ _ _ _) (World.ownsRow_nil _ _ _ _) (fun b hb => by cases hb) (fun b hb => by cases hb)).mono ?_
  rintro e w7 ⟨rfl, rv7, qv7, rb7, qb7, hr7, hq7, ho7, hf7⟩
  have HO7 : Hid (_) := ho7
  have HF7 : Hid (Fr X w w7) := by
    have h4 := H4.out.2.2.2
    have h6 := HB6.out
    refine ⟨hf7.os.trans (h6.os.trans h4.os), hf7.tape.trans (h6.tape.trans h4.tape), hf7.output.trans (h6.output.trans h4.output), Nat.le_trans h4.size (Nat.le_trans h6.size hf7.size), fun k hk hs => ?_⟩
    have hk4 : k < w4.heap.size := Nat.lt_of_lt_of_le hk h4.size
    rw [hf7.block k (Nat.lt_of_lt_of_le hk4 h6.size) ?_, h6.block k hk4, h4.block k hk hs]
    intro hx
    rcases hx with hx | hx | hx
    · rcases (HX4.out k hx).2 with h | h
      · exact hs h
      · have := HSZ.out.1
        omega
    · cases hx
    · cases hx
  clear ho7 hf7 s0 s1 s2
  go_wp2_with fail
  refine (kept_any _ O (n + 1 + 1) cvb rv7 qv7 cb rb7 qb7 w7 HO7.out (by omega) (by omega) (by omega)).mono ?_
  rintro e w8 ⟨rfl, hs8⟩
  have HB8 : Hid (Below w7.heap.size w7 w8) := hs8.below _
  clear hs8
  go_wp2_with fail
  go_ret
  exact ⟨rfl, HF7.out.trans ((Fr.of_below HB8.out).mono fun k hk hs => by omega)⟩

end Go.Proofs.Ytmmmnghiegajmaa
