/- Is code sound: the program's answer. -/
import Derived.Test.YtiaibigmbflpiaaNewA
namespace Go.Proofs.Ytiaibigmbflpiaa
open Go.RowKit Go.Proofs.Herald

theorem all_take_succ {α : Type} (p : α → Bool) (l : List α) (k : Nat) (h : k < l.length) (h1 : (l.take k).all p = true) (h2 : p l[k] = true) : (l.take (k + 1)).all p = true := by
  rw [List.take_succ_eq_append_getElem h, List.all_append, h1]; simp [h2]
theorem all_not {α : Type} (p : α → Bool) (l : List α) (k : Nat) (h : k < l.length) (h2 : p l[k] = false) : l.all p = false := by
  rw [List.all_eq_false]; exact ⟨l[k], List.getElem_mem h, by rw [h2]; simp⟩

theorem soundL_long {cs : List Ins} (h : 1000 < cs.length) : soundL cs = false := by unfold soundL; rw [decide_eq_false (by omega)]; rfl
theorem soundL_short {cs : List Ins} (h : cs.length ≤ 1000) : soundL cs = cs.all (soundI cs.length) := by unfold soundL; rw [decide_eq_true h]; rfl

/-- A slice that holds code. -/
def CodeIn (w : World) (a : Option Addr) (b off : Nat) (cs : List Ins) : Prop := 0 < cs.length → a = some ⟨b, off, none⟩ ∧ b < w.heap.size ∧ CodeAt w b off cs

theorem CodeIn.keep {w w' : World} {a : Option Addr} {b off : Nat} {cs : List Ins} (h : CodeIn w a b off cs) (hb : Below w.heap.size w w') : CodeIn w' a b off cs := fun hp =>
  ⟨(h hp).1, Nat.lt_of_lt_of_le (h hp).2.1 hb.size, (h hp).2.2.keep (hb.block _ (h hp).2.1)⟩

set_option maxHeartbeats 1000000 in
theorem c_sound (a : Option Addr) (b off cap : Nat) (cs : List Ins) (w : World) (hc : CodeIn w a b off cs) :
    Calls Try.prog 91 #[.slice a cs.length cap] w fun e w' => e = .returned (.bool (soundL cs)) ∧ Below w.heap.size w w' := by
  rcases Nat.lt_or_ge 1000 cs.length with hl | hl
  · have HS : Hid (soundL cs = false) := soundL_long hl
    go_enter Try.func91, Try.ntmps91
    go_wp2_with fail
    go_ret
    exact ⟨ret_bool HS.out.symm, Below.refl _ _⟩
  · have HS : Hid (soundL cs = cs.all (soundI cs.length)) := soundL_short hl
    have HC : Hid (CodeIn w a b off cs) := hc
    clear hc
    go_enter Try.func91, Try.ntmps91
    go_wp2_with fail
    go_loopw [10] (fun i wr => ∃ k : Nat, k ≤ cs.length ∧ i = .int .i64 k ∧ Hid (Below w.heap.size w wr) ∧ Hid ((cs.take k).all (soundI cs.length) = true)) (fun i _ => cs.length - (intOf i).toNat)
    case atStart => exact ⟨0, Nat.zero_le _, rfl, Below.refl _ _, by show _ = _; simp⟩
    case round =>
      obtain ⟨k, hk, rfl, HB, HT⟩ := hrel
      by_cases hlt : k < cs.length
      · obtain ⟨rfl, hblt, hca⟩ := HC.out (by omega)
        obtain ⟨c0, c1, c2, c3⟩ := (hca.keep (HB.out.block b hblt)).get k hlt
        have HI : Hid (∀ W : World, Calls Try.prog 123 #[.agg #[.int .i64 cs[k].op, .int .i64 cs[k].a, .int .i64 cs[k].b, .int .i64 cs[k].c], .int .i64 cs.length] W fun e w' => e = .returned (.bool (soundI cs.length cs[k])) ∧ Below W.heap.size W w') := fun W => c_soundInstr cs[k] cs.length W
        have HTT : Hid (soundI cs.length cs[k] = true → (cs.take (k + 1)).all (soundI cs.length) = true) := fun h => all_take_succ _ cs k hlt HT.out h
        have HFF : Hid (soundI cs.length cs[k] = false → cs.all (soundI cs.length) = false) := fun h => all_not _ cs k hlt h
        generalize cs[k].op = op at *
        generalize cs[k].a = xa at *
        generalize cs[k].b = xb at *
        generalize cs[k].c = xc at *
        generalize soundI cs.length cs[k] = S at *
        clear hca
        go_wp2_with fail
        refine (HI.out _).mono ?_
        rintro e w1 ⟨rfl, hb1⟩
        have HB1 : Hid (Below w.heap.size w w1) := (HB.out.alloc HB.out.size _).trans (hb1.mono (by have := HB.out.size; simp; omega))
        clear hb1
        cases S with
        | true =>
          go_wp2_with fail
          go_roundw
          case rel => exact ⟨k + 1, by omega, by go_num, HB1, HTT.out trivial⟩
          case measure => simp [intOf]; omega
        | false =>
          go_wp2_with fail
          go_ret
          exact ⟨ret_bool (by rw [HS.out]; exact (HFF.out trivial).symm), HB1.out⟩
      · have HE : Hid (cs.take k = cs) := List.take_of_length_le (by omega)
        go_wp2_with fail
        go_ret
        exact ⟨ret_bool (by rw [HS.out]; have h := HT.out; rw [HE.out] at h; exact h.symm), HB.out⟩

end Go.Proofs.Ytiaibigmbflpiaa
