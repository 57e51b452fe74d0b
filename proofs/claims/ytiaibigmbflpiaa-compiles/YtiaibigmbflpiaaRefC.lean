/- What deep and shut of the document's own answer give back. -/
import Derived.Test.YtiaibigmbflpiaaRefB
import Derived.Test.YtiaibigmbflpiaaPureC
import Derived.Test.YtiaibigmbflpiaaKitB
namespace Go.Proofs.Ytiaibigmbflpiaa
open Go.RowKit Go.Proofs.Herald

/-- The words' cells lie at a place of a block. -/
def WordsAt (t : ByteArray) (w : World) (b off : Nat) (ws : List (Nat × Nat)) : Prop :=
  ∀ (i : Nat) (h : i < ws.length), w.cell? ⟨b, off + i * 2, none⟩ = some (.string (t.extract ws[i].1 ws[i].2)) ∧ w.cell? ⟨b, off + i * 2 + 1, none⟩ = some (.int .i64 ws[i].1)

theorem beq_yes {s : ByteArray} {l : List UInt8} (h : s.data.toList = l) : (s.toList == l) = true := by rw [ByteArray.toList_eq, h]; simp
theorem beq_no {s : ByteArray} {l : List UInt8} (h : ¬ s.data.toList = l) : (s.toList == l) = false := by rw [ByteArray.toList_eq]; simpa using h

set_option maxHeartbeats 400000 in
theorem deep_any (t : ByteArray) (b off cap : Nat) (ws : List (Nat × Nat)) (w : World) (hlen : ws.length ≤ 400) (hw : WordsAt t w b off ws) :
    Calls Try.prog 44 #[.slice (some ⟨b, off, none⟩) ws.length cap] w fun e w' => e = .returned (.int .i64 (deepL t ws 0)) ∧ w' = w := by
  go_enter Try.func44, Try.ntmps44
  go_wp2
  go_loop [3, 4] (fun n i => ∃ (k : Nat) (m : Int), k ≤ ws.length ∧ i = .int .i64 k ∧ n = .int .i64 m ∧ -k ≤ m ∧ m ≤ k ∧ deepL t (ws.drop k) m = deepL t ws 0) (fun _ i => ws.length - (intOf i).toNat)
  case atStart => exact ⟨0, 0, Nat.zero_le _, rfl, rfl, by omega, by omega, rfl⟩
  case round =>
    obtain ⟨k, m, hk, rfl, rfl, hm1, hm2, hd⟩ := hrel
    by_cases hlt : k < ws.length
    · obtain ⟨hc1, hc2⟩ := hw k hlt
      rw [drop_cons_of ws k hlt, deepL] at hd
      by_cases h1 : bytesOf t ws[k] = [123]
      · rw [if_pos h1] at hd
        have e1 := beq_yes h1
        have e2 : ((t.extract ws[k].1 ws[k].2).toList == [125]) = false := beq_no (by unfold bytesOf at h1; rw [h1]; decide)
        by_cases h4 : 4 < m + 1
        · rw [if_pos h4] at hd
          have HD : Hid (_ = _) := hd
          clear hd h1
          go_wp2
          go_ret
          exact ⟨ret_int HD.out, rfl⟩
        · rw [if_neg h4] at hd
          have HD : Hid (_ = _) := hd
          clear hd h1
          go_wp2
          go_round
          case rel => exact ⟨k + 1, m + 1, by omega, by go_num, by go_num, by omega, by omega, HD.out⟩
          case measure => simp [intOf]; omega
      · rw [if_neg h1] at hd
        have e1 := beq_no h1
        by_cases h2 : bytesOf t ws[k] = [125]
        · rw [if_pos h2] at hd
          have e2 := beq_yes h2
          have HD : Hid (_ = _) := hd
          clear hd h1 h2
          go_wp2
          go_round
          case rel => exact ⟨k + 1, m - 1, by omega, by go_num, by go_num, by omega, by omega, HD.out⟩
          case measure => simp [intOf]; omega
        · rw [if_neg h2] at hd
          have e2 := beq_no h2
          have HD : Hid (_ = _) := hd
          clear hd h1 h2
          go_wp2
          go_round
          case rel => exact ⟨k + 1, m, by omega, by go_num, by go_num, by omega, by omega, HD.out⟩
          case measure => simp [intOf]; omega
    · rw [List.drop_of_length_le (by omega)] at hd
      have HD : Hid (_ = _) := hd
      clear hd
      go_wp2
      go_ret
      exact ⟨ret_int HD.out, rfl⟩

set_option maxHeartbeats 400000 in
theorem shut_any (t : ByteArray) (b off cap : Nat) (ws : List (Nat × Nat)) (w : World) (i : Int) (i0 j : Nat) (hi0 : i = i0) (hlen : ws.length ≤ 400) (hw : WordsAt t w b off ws)
    (hj : shutL t (ws.drop i0) 0 = some j) :
    Calls Try.prog 76 #[.slice (some ⟨b, off, none⟩) ws.length cap, .int .i64 i] w fun e w' => e = .returned (.int .i64 ((i0 + j : Nat) : Int)) ∧ w' = w := by
  subst hi0
  have hlt0 := shutL_lt _ _ _ _ hj
  simp at hlt0
  go_enter Try.func76, Try.ntmps76
  go_wp2
  go_loop [1, 5] (fun x n => ∃ (k q : Nat) (m : Int), k + q = i0 + j ∧ x = .int .i64 k ∧ n = .int .i64 m ∧ i0 ≤ k ∧ -k ≤ m ∧ m ≤ k ∧ shutL t (ws.drop k) m = some q) (fun x _ => ws.length - (intOf x).toNat)
  case atStart => exact ⟨i0, j, 0, rfl, rfl, rfl, Nat.le_refl _, by omega, by omega, hj⟩
  case round =>
    obtain ⟨k, q, m, hkq, rfl, rfl, hik, hm1, hm2, hd⟩ := hrel
    have hlt : k < ws.length := by omega
    obtain ⟨hc1, hc2⟩ := hw k hlt
    rw [drop_cons_of ws k hlt, shutL] at hd
    have HQ : Hid (k + q = i0 + j) := hkq
    clear hkq hj hc2
    by_cases h1 : bytesOf t ws[k] = [123]
    · have e1 := beq_yes h1
      have e2 : ((t.extract ws[k].1 ws[k].2).toList == [125]) = false := beq_no (by unfold bytesOf at h1; rw [h1]; decide)
      rw [show openB t ws[k] m = m + 1 from by simp [openB, h1]] at hd
      clear h1
      by_cases h0 : m + 1 = 0
      · rw [if_pos h0] at hd
        have hb : (m + 1 == 0) = true := by simp [h0]
        have HD : Hid (_ = _) := hd
        clear hd h0
        go_wp2
        go_ret
        exact ⟨ret_int (by have := HD.out; have := HQ.out; simp at *; omega), rfl⟩
      · rw [if_neg h0] at hd
        have hb : (m + 1 == 0) = false := by simp [h0]
        have HD : Hid (_ = _) := hd
        clear hd h0
        go_wp2
        go_round
        case rel =>
          obtain ⟨q', hq, hqq⟩ := Option.map_eq_some_iff.1 HD.out
          exact ⟨k + 1, q', m + 1, by have := HQ.out; omega, by go_num, by go_num, by omega, by omega, by omega, hq⟩
        case measure => simp [intOf]; omega
    · have e1 := beq_no h1
      by_cases h2 : bytesOf t ws[k] = [125]
      · have e2 := beq_yes h2
        rw [show openB t ws[k] m = m - 1 from by simp [openB, h2]] at hd
        clear h1 h2
        by_cases h0 : m - 1 = 0
        · rw [if_pos h0] at hd
          have hb : (m - 1 == 0) = true := by simp [h0]
          have HD : Hid (_ = _) := hd
          clear hd h0
          go_wp2
          go_ret
          exact ⟨ret_int (by have := HD.out; have := HQ.out; simp at *; omega), rfl⟩
        · rw [if_neg h0] at hd
          have hb : (m - 1 == 0) = false := by simp [h0]
          have HD : Hid (_ = _) := hd
          clear hd h0
          go_wp2
          go_round
          case rel =>
            obtain ⟨q', hq, hqq⟩ := Option.map_eq_some_iff.1 HD.out
            exact ⟨k + 1, q', m - 1, by have := HQ.out; omega, by go_num, by go_num, by omega, by omega, by omega, hq⟩
          case measure => simp [intOf]; omega
      · have e2 := beq_no h2
        rw [show openB t ws[k] m = m from by simp [openB, h1, h2]] at hd
        clear h1 h2
        by_cases h0 : m = 0
        · rw [if_pos h0] at hd
          have hb : (m == 0) = true := by simp [h0]
          have HD : Hid (_ = _) := hd
          clear hd h0
          go_wp2
          go_ret
          exact ⟨ret_int (by have := HD.out; have := HQ.out; simp at *; omega), rfl⟩
        · rw [if_neg h0] at hd
          have hb : (m == 0) = false := by simp [h0]
          have HD : Hid (_ = _) := hd
          clear hd h0
          go_wp2
          go_round
          case rel =>
            obtain ⟨q', hq, hqq⟩ := Option.map_eq_some_iff.1 HD.out
            exact ⟨k + 1, q', m, by have := HQ.out; omega, by go_num, by go_num, by omega, by omega, by omega, hq⟩
          case measure => simp [intOf]; omega

end Go.Proofs.Ytiaibigmbflpiaa
