/- What a herald shows at first, and what the document's own shows. -/
import Derived.Test.YtiaibigmbflpiaaNewE
import Derived.Test.YtiaibigmbflpiaaKitD
import Derived.Laws.AppendOwnNone
import Derived.Deep.DeepCutAuto
namespace Go.Proofs.Ytiaibigmbflpiaa
open Go.RowKit Go.Proofs.Herald

theorem Try.infoMsg0 : (Try.prog.info? 81).map (fun i => (i.zero, i.size, i.bytes)) = some (some (.agg #[.int .i64 0, .int .i64 0, .int .i64 0, .int .i64 0]), 4, 32) := by kernel_rfl

theorem step_append_none {P : Program} {w : World} {ops : Array Oper} {o : Oper} {a : Act} {K : Act → World → Prop} {Q : Exit → Act → World → Prop} {E : Prop} (hgd : o.guard = none) (s x : Operand) (t : TypeId)
    (ho : o.op = .call { callee := .builtin .append, args := #[s, x], argTypes := #[t, t] })
    (e : TypeId) (z : Value) (size bytes : Nat) (ht : P.underlying t = some (.slice e)) (hinfo : (P.info? e).map (fun i => (i.zero, i.size, i.bytes)) = some (some z, size, bytes))
    (v : Value) (n : Nat) (xs : List Value) (hs : a.eval s = v) (hown : w.ownsRow 0 e size v n xs) (hx : a.eval x = .slice none 0 0) (h : K (a.put o.dst v) w) :
    if Region.wanted o (yielded ops a.tmps) = true then Oper.wp P o a w K Q else E := by
  obtain ⟨i0, hi, _⟩ := info_parts hinfo
  have hw : Region.wanted o (yielded ops a.tmps) = true := by simp [Region.wanted, hgd]
  rw [if_pos hw]
  have hrun := run_append_owned_none (P := P) (w := w) 0 t o.type e i0 size ht hi v n xs hown
  unfold Oper.wp execOp
  simp only [ho, resolve, invoke, builtin, Sem.run_bind, Sem.run_pure, Result.andThen_ok, List.map_toArray, List.map_cons, List.map_nil, hs, hx, hrun]
  exact h

theorem cells3 {w : World} {R : Nat} {e : TypeId} {u0 u1 u2 : Value} (h : w.heap[R]? = some (.cells #[u0, u1, u2] e (0, 0))) :
    w.cell? ⟨R, 0, none⟩ = some u0 ∧ w.cell? ⟨R, 1, none⟩ = some u1 ∧ w.cell? ⟨R, 2, none⟩ = some u2 ∧ w.frozen? ⟨R, 0, none⟩ = false ∧ w.frozen? ⟨R, 1, none⟩ = false ∧ w.frozen? ⟨R, 2, none⟩ = false :=
  ⟨(cell_of_heap h).trans rfl, (cell_of_heap h).trans rfl, (cell_of_heap h).trans rfl, free_of_heap h, free_of_heap h, free_of_heap h⟩

theorem run_index3 (u0 u1 u2 : Value) (w : World) :
    (Instr.index 138 (.agg #[u0, u1, u2]) (.int .i64 0)).run Try.prog w = .ok (.agg #[u0]) w ∧ (Instr.index 138 (.agg #[u0, u1, u2]) (.int .i64 1)).run Try.prog w = .ok (.agg #[u1]) w ∧ (Instr.index 138 (.agg #[u0, u1, u2]) (.int .i64 2)).run Try.prog w = .ok (.agg #[u2]) w := by
  refine ⟨?_, ?_, ?_⟩ <;> simp [Instr.index, run_underlying Try.underlying138, asIntOf, go_sem]

set_option maxRecDepth 20000 in
set_option maxHeartbeats 2000000 in
theorem c_mShow_new (H : Nat) (e : TypeId) (v : Value) (w : World) (hH : w.heap[H]? = some (.cells (newM v) e (0, 0))) :
    Calls Try.prog 63 #[.pointer (some ⟨H, 0, none⟩)] w fun e w' => e = .returned (.agg #[.int .i64 0, .slice none 0 0, .slice none 0 0]) ∧ Below w.heap.size w w' := by
  obtain ⟨d0, d1, d2, d3, d4, d5, d6, _⟩ := cells7 hH
  have hHl := heap_lt hH
  obtain ⟨i0, hi, hz0, hz1, hz2⟩ := info_parts Try.infoMsg0
  have HH : Hid (_ = _) := hH
  clear hH
  go_enter Try.func63, Try.ntmps63
  go_wp2_with fail
  go_loop [18] (fun i => i = .int .i64 0) (fun _ => 0)
  case atStart => rfl
  case round =>
    subst hrel
    go_wp2_with fail
    go_loopw [34] (fun i wr => ∃ j : Nat, j ≤ 3 ∧ i = .int .i64 j ∧ Hid (wr.heap[w.heap.size]? = some (.cells #[.int .i64 0, .slice none 0 0, .slice none 0 0] 66 (0, 0)) ∧ wr.heap[w.heap.size + 1]? = some (.cells #[.int .i64 0, .slice none 0 0, .slice none 0 0] 66 (0, 0)) ∧ Below w.heap.size w wr)) (fun i _ => 3 - (intOf i).toNat)
    case atStart => exact ⟨0, by omega, rfl, by rw [Below.heap_alloc _ _ _ (by simp)]; exact heap_alloc_new _ _, heap_alloc2 _ _ _, ((Below.refl _ _).alloc (Nat.le_refl _) _).alloc (by simp) _⟩
    case round =>
      obtain ⟨j, hj, rfl, HR⟩ := hrel
      obtain ⟨s0, s1, s2, z0, z1, z2⟩ := cells3 HR.out.2.1
      obtain ⟨r0, r1, r2, y0, y1, y2⟩ := cells3 HR.out.1
      have hl1 := heap_lt HR.out.2.1
      by_cases hlt : j < 3
      · have hcase : j = 0 ∨ j = 1 ∨ j = 2 := by omega
        have HS : Hid (∀ o, (((wr.setCell ⟨w.heap.size + 1, 2, none⟩ (.slice none 0 0)).alloc o).heap[w.heap.size]? = some (.cells #[.int .i64 0, .slice none 0 0, .slice none 0 0] 66 (0, 0)) ∧ ((wr.setCell ⟨w.heap.size + 1, 2, none⟩ (.slice none 0 0)).alloc o).heap[w.heap.size + 1]? = some (.cells #[.int .i64 0, .slice none 0 0, .slice none 0 0] 66 (0, 0)) ∧ Below w.heap.size w ((wr.setCell ⟨w.heap.size + 1, 2, none⟩ (.slice none 0 0)).alloc o))) := fun o => by
          refine ⟨?_, ?_, ?_⟩
          · rw [Below.heap_alloc _ _ _ (by rw [size_setCell]; exact heap_lt HR.out.1), Below.heap_setCell _ _ _ _ (by show w.heap.size ≠ w.heap.size + 1; omega)]; exact HR.out.1
          · rw [Below.heap_alloc _ _ _ (by rw [size_setCell]; exact heap_lt HR.out.2.1), heap_setCell_self _ HR.out.2.1]; rfl
          · exact (HR.out.2.2.setCell (p := ⟨w.heap.size + 1, 2, none⟩) (Nat.le_succ _) _).alloc (by rw [size_setCell]; exact HR.out.2.2.size) _
        obtain ⟨q0, q1, q2⟩ := run_index3 (.slice none 0 0) (.slice none 0 0) (.slice none 0 0) wr
        clear hlt
        rcases hcase with rfl | rfl | rfl
        all_goals
          go_wp2_with (at_builtin; refine wpList_append_own_none rfl (.tmp 38) (.tmp 40) 64 rfl 0 81 i0 4 Try.underlying64 hi (.slice none 0 0) 0 [] rfl (World.ownsRow_nil _ _ _ _) rfl ?_)
          go_wp2_with fail
          go_roundw
          case rel => first | exact ⟨1, by omega, by go_num, HS.out _⟩ | exact ⟨2, by omega, by go_num, HS.out _⟩ | exact ⟨3, by omega, by go_num, HS.out _⟩
          case measure => simp [intOf]
      · go_wp2_with fail
        refine bodyPost_ret (v := .agg #[.int .i64 0, .slice none 0 0, .slice none 0 0]) (by simp [results, Try.results63, go_sem, r0, r1, r2]) rfl ⟨rfl, ?_⟩
        exact ((HR.out.2.2.setCell (p := ⟨w.heap.size, 0, none⟩) (Nat.le_refl _) _).setCell (p := ⟨w.heap.size, 1, none⟩) (Nat.le_refl _) _).setCell (p := ⟨w.heap.size, 2, none⟩) (Nat.le_refl _) _

end Go.Proofs.Ytiaibigmbflpiaa
