/- What the small functions of the document's own answer give back: contracts of num, key, greater, behind, most. -/
import Derived.Test.YtiaibigmbflpiaaProg
import Derived.Test.YtiaibigmbflpiaaPureA
import Derived.WalkKit
import Derived.WalkSpells
import Derived.WalkLawsBesides
namespace Go.Proofs.Ytiaibigmbflpiaa
open Go.RowKit Go.Proofs.Herald


theorem ret_int {k : IntKind} {a b : Int} (h : a = b) : Ending.returned (.int k a) = .returned (.int k b) := by rw [h]

set_option maxHeartbeats 400000 in
theorem greater_any (a b : Int) (w : World) :
    Calls Try.prog 48 #[.int .i64 a, .int .i64 b] w fun e w' => e = .returned (.int .i64 (maxI a b)) ∧ w' = w := by
  by_cases h : b < a
  · go_enter Try.func48, Try.ntmps48
    go_wp2
    go_ret
    exact ⟨ret_int (by simp [maxI, h]), rfl⟩
  · have h' : a ≤ b := by omega
    go_enter Try.func48, Try.ntmps48
    go_wp2
    go_ret
    exact ⟨ret_int (by rw [maxI, if_neg (by omega)]), rfl⟩

set_option maxHeartbeats 400000 in
theorem behind_any (a b : Int) (w : World) (ha : a ≤ 1000000000000) (hb : b ≤ 1000000000000) :
    Calls Try.prog 78 #[.int .i64 a, .int .i64 b] w fun e w' => e = .returned (.int .i64 (behindI a b)) ∧ w' = w := by
  by_cases h : a < 0
  · go_enter Try.func78, Try.ntmps78
    go_wp2
    go_ret
    exact ⟨ret_int (by rw [behindI, if_pos (by omega)]), rfl⟩
  · by_cases h2 : b < 0
    · go_enter Try.func78, Try.ntmps78
      go_wp2
      go_ret
      exact ⟨ret_int (by rw [behindI, if_pos (by omega)]), rfl⟩
    · go_enter Try.func78, Try.ntmps78
      go_wp2
      go_ret
      exact ⟨ret_int (by rw [behindI, if_neg (by omega)]), rfl⟩

set_option maxHeartbeats 400000 in
theorem most_any (s : Int) (w : World) :
    Calls Try.prog 74 #[.int .i64 s] w fun e w' => e = .returned (.int .i64 (mostI s)) ∧ w' = w := by
  by_cases h : s = 4
  · subst h
    go_enter Try.func74, Try.ntmps74
    go_wp2
    go_ret
    exact ⟨rfl, rfl⟩
  · by_cases h2 : s = 5
    · subst h2
      go_enter Try.func74, Try.ntmps74
      go_wp2
      go_ret
      exact ⟨rfl, rfl⟩
    · have hb : (s == 4) = false := by simp [h]
      have hb2 : (s == 5) = false := by simp [h2]
      go_enter Try.func74, Try.ntmps74
      go_wp2
      go_ret
      exact ⟨ret_int (by simp [mostI, h, h2]), rfl⟩

set_option maxHeartbeats 400000 in
theorem key_any (s : ByteArray) (w : World) :
    Calls Try.prog 75 #[.string s] w fun e w' => e = .returned (.int .i64 (keyL s.data.toList)) ∧ w' = w := by
  by_cases h1 : s.size = 1
  · have hp : 0 < s.size := by omega
    have hk := keyL_one s h1 hp
    have HK : Hid (keyL s.data.toList = if (97 : Int) ≤ ((s[0]'hp).toNat : Int) ∧ ((s[0]'hp).toNat : Int) < 105 then ((s[0]'hp).toNat : Int) - 97 else -1) := hk
    clear hk
    go_enter Try.func75, Try.ntmps75
    go_wp2
    all_goals
      go_ret
      exact ⟨ret_int (by have := (s[0]'hp).toNat_lt; rw [HK.out]; split <;> omega), rfl⟩
  · have hk := keyL_not s h1
    have HK : Hid (keyL s.data.toList = -1) := hk
    clear hk
    go_enter Try.func75, Try.ntmps75
    go_wp2
    go_ret
    exact ⟨ret_int HK.out.symm, rfl⟩

theorem isEmpty_yes (s : ByteArray) (h : s.size = 0) : s.toList.isEmpty = true := by
  rw [ByteArray.toList_eq, List.isEmpty_iff, ← List.length_eq_zero_iff]; simpa using h

theorem isEmpty_no (s : ByteArray) (h : ¬ s.size = 0) : s.toList.isEmpty = false := by
  rw [ByteArray.toList_eq, List.isEmpty_eq_false_iff, ne_eq, ← List.length_eq_zero_iff]; simpa using h

set_option maxHeartbeats 400000 in
theorem num_any (s : ByteArray) (w : World) (hs : s.size ≤ maxLen) :
    Calls Try.prog 73 #[.string s] w fun e w' => e = .returned (.int .i64 (numL s.data.toList)) ∧ w' = w := by
  unfold maxLen at hs
  by_cases h0 : s.size = 0
  · have HK : Hid (numL s.data.toList = -1) := numL_long s (.inl h0)
    have he : s.toList.isEmpty = true := isEmpty_yes s h0
    go_enter Try.func73, Try.ntmps73
    go_wp2
    go_ret
    exact ⟨ret_int HK.out.symm, rfl⟩
  · have he : s.toList.isEmpty = false := isEmpty_no s h0
    by_cases h4 : 4 < s.size
    · have HK : Hid (numL s.data.toList = -1) := numL_long s (.inr h4)
      go_enter Try.func73, Try.ntmps73
      go_wp2
      go_ret
      exact ⟨ret_int HK.out.symm, rfl⟩
    · have HK : Hid (numL s.data.toList = (digs 0 s.data.toList).getD (-1)) := numL_short s h0 (by omega)
      have h4' : s.size ≤ 4 := by omega
      clear h4
      go_enter Try.func73, Try.ntmps73
      go_wp2
      go_loop [3, 4] (fun n i => ∃ (k : Nat) (m : Int), k ≤ s.size ∧ i = .int .i64 k ∧ n = .int .i64 m ∧ digs 0 (s.data.toList.take k) = some m) (fun _ i => s.size - (intOf i).toNat)
      case atStart => exact ⟨0, 0, Nat.zero_le _, rfl, rfl, rfl⟩
      case round =>
        obtain ⟨k, m, hk, rfl, rfl, hm⟩ := hrel
        have HM : Hid (digs 0 (s.data.toList.take k) = some m) := hm
        have hmb := digs_take_bound s k (by omega) m hm
        clear hm
        by_cases hlt : k < s.size
        · by_cases hc : ((s[k]).toNat : Int) < 48 ∨ 57 < ((s[k]).toNat : Int)
          · have HN : Hid (digs 0 s.data.toList = none) := digs_no s k hlt m HM.out hc
            rcases hc with hc | hc
            all_goals
              go_wp2
              go_ret
              exact ⟨ret_int (by rw [HK.out, HN.out]; rfl), rfl⟩
          · have h1 : (48 : Int) ≤ ((s[k]).toNat : Int) := by omega
            have h2 : ((s[k]).toNat : Int) ≤ 57 := by omega
            have HY : Hid (digs 0 (s.data.toList.take (k + 1)) = some (10 * m + (((s[k]).toNat : Int) - 48))) := digs_yes s k hlt m HM.out h1 h2
            clear hc
            go_wp2
            go_round
            case rel => exact ⟨k + 1, 10 * m + (((s[k]).toNat : Int) - 48), by omega, by go_num, by go_num, HY.out⟩
            case measure => simp [intOf]; omega
        · have HE : Hid (s.data.toList.take k = s.data.toList) := List.take_of_length_le (by simp; omega)
          go_wp2
          go_ret
          exact ⟨ret_int (by rw [HK.out, ← HE.out, HM.out]; rfl), rfl⟩

end Go.Proofs.Ytiaibigmbflpiaa
