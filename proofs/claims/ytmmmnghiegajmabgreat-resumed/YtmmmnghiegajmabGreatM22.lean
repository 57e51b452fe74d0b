import Derived.Test.YtmmmnghiegajmabGreatM11
import Derived.Test.YtmmmnghiegajmabGreatM07
import Derived.Laws.BytesArg
/- Raw numbers made into keys and digits. -/
namespace Go.Proofs.YtmmmnghiegajmabGreat
open Go.RowKit Go.Proofs.Herald
/-- Which of n things a raw number speaks of. -/
def pickI (c n : Int) : Int := (if c < 0 then -(c + 1) else c) % n
theorem pickI_bound (c n : Int) (hn : 0 < n) : 0 ≤ pickI c n ∧ pickI c n < n := by
  unfold pickI
  exact ⟨Int.emod_nonneg _ (by omega), Int.emod_lt_of_pos _ hn⟩
set_option maxHeartbeats 1000000 in
theorem c_pick (c n : Int) (w : World) (hn : 0 < n) (hc1 : -9223372036854775808 ≤ c) (hc2 : c ≤ 9223372036854775807) :
    Calls Tryz.prog 8 #[.int .i64 c, .int .i64 n] w fun e w' => e = .returned (.int .i64 (pickI c n)) ∧ w' = w := by
  have hne : n ≠ 0 := by omega
  unfold pickI
  by_cases h : c < 0
  · rw [if_pos h]
    go_enter Tryz.func8, Tryz.ntmps8
    go_wp2_with fail
    go_ret
    have e : -((c + 1).tmod n) = -(c + 1) % n := by rw [← Int.neg_tmod, Int.tmod_eq_emod_of_nonneg (by omega)]
    rw [e]
    exact ⟨rfl, rfl⟩
  · rw [if_neg h]
    go_enter Tryz.func8, Tryz.ntmps8
    go_wp2_with fail
    go_ret
    exact ⟨rfl, rfl⟩
/-- A byte made into a string. -/
theorem run_byte (W : World) (g : Nat) (c : Int) (h : W.cell? ⟨g, 0, none⟩ = some (.int .u8 c)) : (convert 73 9 (.slice (some ⟨g, 0, none⟩) 1 1)).run Tryz.prog W = .ok (.string (strOfNums [c])) W :=
  run_convert_bytes_arg (w := W) 73 5 Tryz.underlying73 Tryz.underlying5 g 0 1 1 [c] rfl (fun i hi => by
    match i, hi with
    | 0, _ => exact h) 9 Tryz.underlying9
theorem nums_one (c : Int) : (strOfNums [c]).data.toList = [UInt8.ofNat c.toNat] := rfl
set_option maxRecDepth 20000 in
set_option maxHeartbeats 1000000 in
theorem c_letter (k : Int) (w : World) (hc1 : -9223372036854775808 ≤ k) (hc2 : k ≤ 9223372036854775807) :
    Calls Tryz.prog 31 #[.int .i64 k] w fun e w' => ∃ s : ByteArray, e = .returned (.string s) ∧ s.data.toList = letterB (pickI k 8).toNat ∧ Below w.heap.size w w' := by
  obtain ⟨p1, p2⟩ := pickI_bound k 8 (by omega)
  go_enter Tryz.func31, Tryz.ntmps31
  go_wp2_with fail
  refine (c_pick k 8 _ (by omega) hc1 hc2).mono ?_
  rintro e w1 ⟨rfl, rfl⟩
  obtain ⟨p, hp⟩ : ∃ p, pickI k 8 = p := ⟨_, rfl⟩
  have HP : Hid (pickI k 8 = p) := hp
  rw [hp] at p1 p2 ⊢
  clear hp
  have HC := run_byte (w1.alloc (.cells #[.int .u8 (97 + p)] 5)) w1.heap.size (97 + p) ((cell_of_heap (heap_alloc_new _ _)).trans rfl)
  have hs := nums_one (97 + p)
  generalize strOfNums [97 + p] = s at *
  go_wp2_with fail
  go_ret
  refine ⟨s, rfl, ?_, (Below.refl _ _).alloc (Nat.le_refl _) _⟩
  rw [hs, HP.out]
  unfold letterB
  congr 2
  omega
set_option maxRecDepth 20000 in
set_option maxHeartbeats 1000000 in
theorem c_digit (n : Int) (w : World) (h1 : 0 ≤ n) (h2 : n < 10) :
    Calls Tryz.prog 32 #[.int .i64 n] w fun e w' => ∃ s : ByteArray, e = .returned (.string s) ∧ s.data.toList = [UInt8.ofNat (48 + n.toNat)] ∧ Below w.heap.size w w' := by
  have HC := run_byte (w.alloc (.cells #[.int .u8 (48 + n % 10)] 5)) w.heap.size (48 + n % 10) ((cell_of_heap (heap_alloc_new _ _)).trans rfl)
  have hs := nums_one (48 + n % 10)
  generalize strOfNums [48 + n % 10] = s at *
  go_enter Tryz.func32, Tryz.ntmps32
  go_wp2_with fail
  go_ret
  refine ⟨s, rfl, ?_, (Below.refl _ _).alloc (Nat.le_refl _) _⟩
  rw [hs]
  congr 2
  omega
set_option maxRecDepth 20000 in
set_option maxHeartbeats 1000000 in
theorem c_digits_on (n : Int) (l : List UInt8) (w : World) (h1 : 10 ≤ n) (h2 : n < 1000) (hl : l.length ≤ 10) (hr : ∀ w : World, Calls Tryz.prog 32 #[.int .i64 (n / 10)] w fun e w' => ∃ s : ByteArray, e = .returned (.string s) ∧ s.data.toList = l ∧ Below w.heap.size w w') :
    Calls Tryz.prog 32 #[.int .i64 n] w fun e w' => ∃ s : ByteArray, e = .returned (.string s) ∧ s.data.toList = l ++ [UInt8.ofNat (48 + n.toNat % 10)] ∧ Below w.heap.size w w' := by
  have HC := run_byte (w.alloc (.cells #[.int .u8 (48 + n % 10)] 5)) w.heap.size (48 + n % 10) ((cell_of_heap (heap_alloc_new _ _)).trans rfl)
  have hs := nums_one (48 + n % 10)
  have HR : Hid (∀ w : World, Calls Tryz.prog 32 #[.int .i64 (n / 10)] w fun e w' => ∃ s : ByteArray, e = .returned (.string s) ∧ s.data.toList = l ∧ Below w.heap.size w w') := hr
  clear hr
  generalize strOfNums [48 + n % 10] = s at *
  have hsz : s.size = 1 := by
    have e : s.data.toList.length = s.size := by simp
    rw [← e, hs]
    rfl
  go_enter Tryz.func32, Tryz.ntmps32
  go_wp2_with fail
  refine (HR.out _).mono ?_
  rintro e w1 ⟨r, rfl, hr, hb⟩
  have hrz : r.size ≤ 10 := by
    have e : r.data.toList.length = r.size := by simp
    rw [← e, hr]
    exact hl
  have HB : Hid (Below w.heap.size w w1) := ((Below.refl _ _).alloc (Nat.le_refl _) _).trans (hb.mono (by simp))
  clear hb
  go_wp2_with fail
  go_ret
  refine ⟨r ++ s, rfl, ?_, HB.out⟩
  rw [ByteArray.data_append, Array.toList_append, hr, hs]
  congr 3
  omega
theorem c_digits (n : Int) (w : World) (h1 : 0 ≤ n) (h2 : n < 1000) :
    Calls Tryz.prog 32 #[.int .i64 n] w fun e w' => ∃ s : ByteArray, e = .returned (.string s) ∧ s.data.toList = digitsB n.toNat ∧ Below w.heap.size w w' := by
  have two : ∀ (n : Int) (w : World), 10 ≤ n → n < 100 → Calls Tryz.prog 32 #[.int .i64 n] w fun e w' => ∃ s : ByteArray, e = .returned (.string s) ∧ s.data.toList = [UInt8.ofNat (48 + n.toNat / 10), UInt8.ofNat (48 + n.toNat % 10)] ∧ Below w.heap.size w w' := fun n w h1 h2 =>
    (c_digits_on n [UInt8.ofNat (48 + n.toNat / 10)] w h1 (by omega) (by simp) fun w => (c_digit (n / 10) w (by omega) (by omega)).mono fun e w' ⟨s, e1, e2, e3⟩ => ⟨s, e1, by rw [e2]; congr 2; omega, e3⟩).mono fun e w' ⟨s, e1, e2, e3⟩ => ⟨s, e1, by rw [e2]; rfl, e3⟩
  unfold digitsB
  by_cases ha : n < 10
  · rw [if_pos (by omega)]
    exact c_digit n w h1 ha
  · rw [if_neg (by omega)]
    by_cases hb : n < 100
    · rw [if_pos (by omega)]
      exact two n w (by omega) hb
    · rw [if_neg (by omega)]
      refine (c_digits_on n [UInt8.ofNat (48 + n.toNat / 100), UInt8.ofNat (48 + n.toNat / 10 % 10)] w (by omega) h2 (by simp) fun w => (two (n / 10) w (by omega) (by omega)).mono fun e w' ⟨s, e1, e2, e3⟩ => ⟨s, e1, ?_, e3⟩).mono fun e w' ⟨s, e1, e2, e3⟩ => ⟨s, e1, by rw [e2]; rfl, e3⟩
      rw [e2]
      have a1 : (n / 10).toNat / 10 = n.toNat / 100 := by omega
      have a2 : (n / 10).toNat % 10 = n.toNat / 10 % 10 := by omega
      rw [a1, a2]
end Go.Proofs.YtmmmnghiegajmabGreat
