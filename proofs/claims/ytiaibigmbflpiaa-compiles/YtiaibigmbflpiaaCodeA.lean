/- What the program's small functions give back: words, keys, numbers, kinds. -/
import Derived.Test.YtiaibigmbflpiaaRefG
import Derived.Test.YtiaibigmbflpiaaPureI
namespace Go.Proofs.Ytiaibigmbflpiaa
open Go.RowKit Go.Proofs.Herald

theorem ret_bool {a b : Bool} (h : a = b) : Ending.returned (.bool a) = .returned (.bool b) := by rw [h]

set_option maxHeartbeats 400000 in
theorem c_isGap (c : Int) (w : World) :
    Calls Try.prog 125 #[.int .u8 c] w fun e w' => e = .returned (.bool (c == 32 || c == 10)) ∧ w' = w := by
  cases h1 : (c == 32) with
  | true =>
    go_enter Try.func125, Try.ntmps125
    go_wp2
    go_ret
    exact ⟨rfl, rfl⟩
  | false =>
    cases h2 : (c == 10) with
    | true =>
      go_enter Try.func125, Try.ntmps125
      go_wp2
      go_ret
      exact ⟨rfl, rfl⟩
    | false =>
      go_enter Try.func125, Try.ntmps125
      go_wp2
      go_ret
      exact ⟨rfl, rfl⟩

set_option maxHeartbeats 400000 in
theorem c_isBrace (c : Int) (w : World) :
    Calls Try.prog 126 #[.int .u8 c] w fun e w' => e = .returned (.bool (c == 123 || c == 125)) ∧ w' = w := by
  cases h1 : (c == 123) with
  | true =>
    go_enter Try.func126, Try.ntmps126
    go_wp2
    go_ret
    exact ⟨rfl, rfl⟩
  | false =>
    cases h2 : (c == 125) with
    | true =>
      go_enter Try.func126, Try.ntmps126
      go_wp2
      go_ret
      exact ⟨rfl, rfl⟩
    | false =>
      go_enter Try.func126, Try.ntmps126
      go_wp2
      go_ret
      exact ⟨rfl, rfl⟩

set_option maxHeartbeats 1000000 in
theorem c_wordStart (t : ByteArray) (i : Int) (i0 : Nat) (hi : i = i0) (w : World) (ht : t.size ≤ 400) (hi0 : i0 ≤ t.size) :
    Calls Try.prog 105 #[.string t, .int .i64 i] w fun e w' => e = .returned (.int .i64 (startL (t.data.toList.drop i0) i0 : Nat)) ∧ w' = w := by
  subst hi
  go_enter Try.func105, Try.ntmps105
  go_wp2_with fail
  go_loop [1] (fun x => ∃ k : Nat, k ≤ t.size ∧ x = .int .i64 k ∧ startL (t.data.toList.drop k) k = startL (t.data.toList.drop i0) i0) (fun x => t.size - (intOf x).toNat)
  case atStart => exact ⟨i0, hi0, rfl, rfl⟩
  case round =>
    obtain ⟨k, hk, rfl, hr⟩ := hrel
    by_cases hlt : k < t.size
    · by_cases hg : ((t[k]).toNat : Int) = 32 ∨ ((t[k]).toNat : Int) = 10
      · rw [startL_step t k hlt hg] at hr
        have HR : Hid (_ = _) := hr
        have hb : (((t[k]).toNat : Int) == 32 || ((t[k]).toNat : Int) == 10) = true := by simpa using hg
        have HG : Hid (_ = _) := hb
        clear hr hg hb
        go_wp2_with (go_at_call 125; refine (c_isGap _ _).mono ?_; rw [HG.out]; rintro e w' ⟨rfl, rfl⟩)
        go_round
        case rel => exact ⟨k + 1, by omega, by go_num, HR.out⟩
        case measure => simp [intOf]; omega
      · rw [startL_here t k hlt (by omega) (by omega)] at hr
        have HR : Hid (_ = _) := hr
        have hb : (((t[k]).toNat : Int) == 32 || ((t[k]).toNat : Int) == 10) = false := by simpa using hg
        have HG : Hid (_ = _) := hb
        clear hr hg hb
        go_wp2_with (go_at_call 125; refine (c_isGap _ _).mono ?_; rw [HG.out]; rintro e w' ⟨rfl, rfl⟩)
        go_ret
        exact ⟨ret_int (by rw [← HR.out]), rfl⟩
    · rw [startL_end t k (by omega)] at hr
      have HR : Hid (_ = _) := hr
      clear hr
      go_wp2_with fail
      go_ret
      exact ⟨ret_int (by rw [← HR.out]), rfl⟩

set_option maxHeartbeats 1000000 in
theorem c_wordEnd (t : ByteArray) (i : Int) (i0 : Nat) (hi : i = i0) (w : World) (ht : t.size ≤ 400) (hi0 : i0 ≤ t.size) :
    Calls Try.prog 106 #[.string t, .int .i64 i] w fun e w' => e = .returned (.int .i64 (endL (t.data.toList.drop i0) i0 : Nat)) ∧ w' = w := by
  subst hi
  by_cases hbr : ∃ h : i0 < t.size, ((t[i0]).toNat : Int) = 123 ∨ ((t[i0]).toNat : Int) = 125
  · obtain ⟨hlt, hb⟩ := hbr
    have HE : Hid (_ = _) := endL_brace t i0 hlt hb
    have hb' : (((t[i0]).toNat : Int) == 123 || ((t[i0]).toNat : Int) == 125) = true := by simpa using hb
    have HG : Hid (_ = _) := hb'
    clear hb hb'
    go_enter Try.func106, Try.ntmps106
    go_wp2_with (go_at_call 126; refine (c_isBrace _ _).mono ?_; rw [HG.out]; rintro e w' ⟨rfl, rfl⟩)
    go_ret
    exact ⟨ret_int (by rw [HE.out]; omega), rfl⟩
  · have HE : Hid (endL (t.data.toList.drop i0) i0 = stopL (t.data.toList.drop i0) i0) := by
      by_cases hlt : i0 < t.size
      · exact endL_other t i0 hlt (fun h => hbr ⟨hlt, .inl h⟩) (fun h => hbr ⟨hlt, .inr h⟩)
      · exact endL_end t i0 (by omega)
    have hcase : (∃ h : i0 < t.size, (((t[i0]).toNat : Int) == 123 || ((t[i0]).toNat : Int) == 125) = false) ∨ ¬ i0 < t.size := by
      by_cases hlt : i0 < t.size
      · left
        refine ⟨hlt, ?_⟩
        have h1 : ¬ ((t[i0]).toNat : Int) = 123 := fun h => hbr ⟨hlt, .inl h⟩
        have h2 : ¬ ((t[i0]).toNat : Int) = 125 := fun h => hbr ⟨hlt, .inr h⟩
        simp; omega
      · exact .inr hlt
    clear hbr
    rcases hcase with ⟨hlt, hg⟩ | hlt
    · have HG : Hid (_ = _) := hg
      clear hg
      go_enter Try.func106, Try.ntmps106
      go_wp2_with (go_at_call 126; refine (c_isBrace _ _).mono ?_; rw [HG.out]; rintro e w' ⟨rfl, rfl⟩)
      go_loop [1] (fun x => ∃ k : Nat, k ≤ t.size ∧ x = .int .i64 k ∧ stopL (t.data.toList.drop k) k = stopL (t.data.toList.drop i0) i0) (fun x => t.size - (intOf x).toNat)
      case atStart => exact ⟨i0, hi0, rfl, rfl⟩
      case round =>
        obtain ⟨k, hk, rfl, hr⟩ := hrel
        clear HG
        by_cases hlk : k < t.size
        · by_cases hg : ((t[k]).toNat : Int) = 32 ∨ ((t[k]).toNat : Int) = 10
          · rw [stopL_here t k hlk (by omega)] at hr
            have HR : Hid (_ = _) := hr
            have HG : Hid ((((t[k]).toNat : Int) == 32 || ((t[k]).toNat : Int) == 10) = true) := by show _ = _; simpa using hg
            clear hr hg
            go_wp2_with (go_at_call 125; refine (c_isGap _ _).mono ?_; rw [HG.out]; rintro e w' ⟨rfl, rfl⟩)
            go_ret
            exact ⟨ret_int (by rw [HE.out, ← HR.out]), rfl⟩
          · have HG : Hid ((((t[k]).toNat : Int) == 32 || ((t[k]).toNat : Int) == 10) = false) := by show _ = _; simpa using hg
            by_cases hb : ((t[k]).toNat : Int) = 123 ∨ ((t[k]).toNat : Int) = 125
            · rw [stopL_here t k hlk (by omega)] at hr
              have HR : Hid (_ = _) := hr
              have HB : Hid ((((t[k]).toNat : Int) == 123 || ((t[k]).toNat : Int) == 125) = true) := by show _ = _; simpa using hb
              clear hr hg hb
              go_wp2_with (first | (go_at_call 125; refine (c_isGap _ _).mono ?_; rw [HG.out]; rintro e w' ⟨rfl, rfl⟩) | (go_at_call 126; refine (c_isBrace _ _).mono ?_; rw [HB.out]; rintro e w' ⟨rfl, rfl⟩))
              go_ret
              exact ⟨ret_int (by rw [HE.out, ← HR.out]), rfl⟩
            · rw [stopL_step t k hlk (by omega) (by omega) (by omega) (by omega)] at hr
              have HR : Hid (_ = _) := hr
              have HB : Hid ((((t[k]).toNat : Int) == 123 || ((t[k]).toNat : Int) == 125) = false) := by show _ = _; simpa using hb
              clear hr hg hb
              go_wp2_with (first | (go_at_call 125; refine (c_isGap _ _).mono ?_; rw [HG.out]; rintro e w' ⟨rfl, rfl⟩) | (go_at_call 126; refine (c_isBrace _ _).mono ?_; rw [HB.out]; rintro e w' ⟨rfl, rfl⟩))
              go_round
              case rel => exact ⟨k + 1, by omega, by go_num, HR.out⟩
              case measure => simp [intOf]; omega
        · rw [stopL_end t k (by omega)] at hr
          have HR : Hid (_ = _) := hr
          clear hr
          go_wp2_with fail
          go_ret
          exact ⟨ret_int (by rw [HE.out, ← HR.out]), rfl⟩
    · have HS : Hid (_ = _) := stopL_end t i0 (by omega)
      go_enter Try.func106, Try.ntmps106
      go_wp2_with fail
      go_loop [1] (fun x => x = .int .i64 i0) (fun _ => 0)
      case atStart => rfl
      case round =>
        subst hrel
        go_wp2_with fail
        go_ret
        exact ⟨ret_int (by rw [HE.out, HS.out]), rfl⟩

def keyV (l : List UInt8) : Int := if 0 ≤ keyL l then keyL l else 0
def keyB (l : List UInt8) : Bool := decide (0 ≤ keyL l)
theorem keyVB_yes {l : List UInt8} {k : Int} (h : keyL l = k) (hk : 0 ≤ k) : keyV l = k ∧ keyB l = true := by
  unfold keyV keyB; rw [h]; simp [hk]
theorem keyVB_no {l : List UInt8} (h : keyL l = -1) : keyV l = 0 ∧ keyB l = false := by
  unfold keyV keyB; rw [h]; simp
theorem ret_ib {k : IntKind} {a c : Int} {x y : Bool} (h1 : a = c) (h2 : x = y) : Ending.returned (.tuple #[.int k a, .bool x]) = .returned (.tuple #[.int k c, .bool y]) := by rw [h1, h2]

set_option maxHeartbeats 400000 in
theorem c_keyOf (s : ByteArray) (w : World) :
    Calls Try.prog 151 #[.string s] w fun e w' => e = .returned (.tuple #[.int .i64 (keyV s.data.toList), .bool (keyB s.data.toList)]) ∧ w' = w := by
  by_cases h1 : s.size = 1
  · have hp : 0 < s.size := by omega
    have HK : Hid (_ = _) := keyL_one s h1 hp
    by_cases hr : (97 : Int) ≤ ((s[0]'hp).toNat : Int) ∧ ((s[0]'hp).toNat : Int) < 105
    · have HV : Hid (keyL s.data.toList = ((s[0]'hp).toNat : Int) - 97) := HK.out.trans (if_pos hr)
      have HP : Hid (_ ∧ _) := keyVB_yes HV.out (by omega)
      obtain ⟨hr1, hr2⟩ := hr
      go_enter Try.func151, Try.ntmps151
      go_wp2_with fail
      go_ret2
      exact ⟨ret_ib HP.out.1.symm HP.out.2.symm, rfl⟩
    · have HV : Hid (keyL s.data.toList = -1) := HK.out.trans (if_neg hr)
      have HP : Hid (_ ∧ _) := keyVB_no HV.out
      have hub : ((s[0]'hp).toNat : Int) ≤ 255 := by have := (s[0]'hp).toNat_lt; omega
      have hc : (((s[0]'hp).toNat : Int) < (97 : Int) ∧ ((s[0]'hp).toNat : Int) ≤ (255 : Int)) ∨ ((105 : Int) ≤ ((s[0]'hp).toNat : Int) ∧ ((s[0]'hp).toNat : Int) ≤ (255 : Int)) := by omega
      clear hr hub
      rcases hc with ⟨hc0, hc⟩ | ⟨hc0, hc⟩
      all_goals
        go_enter Try.func151, Try.ntmps151
        go_wp2_with fail
        go_ret2
        exact ⟨ret_ib HP.out.1.symm HP.out.2.symm, rfl⟩
  · have HV : Hid (_ = _) := keyL_not s h1
    have HP : Hid (_ ∧ _) := keyVB_no HV.out
    have h1' : ((s.size : Int) != 1) = true := by simp; omega
    go_enter Try.func151, Try.ntmps151
    go_wp2_with fail
    go_ret2
    exact ⟨ret_ib HP.out.1.symm HP.out.2.symm, rfl⟩

set_option maxHeartbeats 1000000 in
theorem c_kindOf (s : ByteArray) (w : World) :
    Calls Try.prog 127 #[.string s] w fun e w' => e = .returned (.int .i64 (kindI s.data.toList)) ∧ w' = w := by
  by_cases h0 : s.data.toList = kSend
  · have y : (s.toList == [115, 101, 110, 100]) = true := beq_yes h0
    have HR : Hid (kindI s.data.toList = 1) := by show _ = _; unfold kindI; simp [h0, kSend]
    clear h0
    go_enter Try.func127, Try.ntmps127
    go_wp2_with fail
    go_ret
    exact ⟨ret_int HR.out.symm, rfl⟩
  have n0 : (s.toList == [115, 101, 110, 100]) = false := beq_no h0
  by_cases h1 : s.data.toList = kWait
  · have y : (s.toList == [119, 97, 105, 116]) = true := beq_yes h1
    have HR : Hid (kindI s.data.toList = 2) := by show _ = _; unfold kindI; simp [h1, kSend, kWait]
    clear h1
    go_enter Try.func127, Try.ntmps127
    go_wp2_with fail
    go_ret
    exact ⟨ret_int HR.out.symm, rfl⟩
  have n1 : (s.toList == [119, 97, 105, 116]) = false := beq_no h1
  by_cases h2 : s.data.toList = kStop
  · have y : (s.toList == [115, 116, 111, 112]) = true := beq_yes h2
    have HR : Hid (kindI s.data.toList = 3) := by show _ = _; unfold kindI; simp [h2, kSend, kWait, kStop]
    clear h2
    go_enter Try.func127, Try.ntmps127
    go_wp2_with fail
    go_ret
    exact ⟨ret_int HR.out.symm, rfl⟩
  have n2 : (s.toList == [115, 116, 111, 112]) = false := beq_no h2
  by_cases h3 : s.data.toList = kAsk
  · have y : (s.toList == [97, 115, 107]) = true := beq_yes h3
    have HR : Hid (kindI s.data.toList = 4) := by show _ = _; unfold kindI; simp [h3, kSend, kWait, kStop, kAsk]
    clear h3
    go_enter Try.func127, Try.ntmps127
    go_wp2_with fail
    go_ret
    exact ⟨ret_int HR.out.symm, rfl⟩
  have n3 : (s.toList == [97, 115, 107]) = false := beq_no h3
  by_cases h4 : s.data.toList = kRetry
  · have y : (s.toList == [114, 101, 116, 114, 121]) = true := beq_yes h4
    have HR : Hid (kindI s.data.toList = 5) := by show _ = _; unfold kindI; simp [h4, kSend, kWait, kStop, kAsk, kRetry]
    clear h4
    go_enter Try.func127, Try.ntmps127
    go_wp2_with fail
    go_ret
    exact ⟨ret_int HR.out.symm, rfl⟩
  have n4 : (s.toList == [114, 101, 116, 114, 121]) = false := beq_no h4
  by_cases h5 : s.data.toList = kRepeat
  · have y : (s.toList == [114, 101, 112, 101, 97, 116]) = true := beq_yes h5
    have HR : Hid (kindI s.data.toList = 6) := by show _ = _; unfold kindI; simp [h5, kSend, kWait, kStop, kAsk, kRetry, kRepeat]
    clear h5
    go_enter Try.func127, Try.ntmps127
    go_wp2_with fail
    go_ret
    exact ⟨ret_int HR.out.symm, rfl⟩
  have n5 : (s.toList == [114, 101, 112, 101, 97, 116]) = false := beq_no h5
  have HR : Hid (kindI s.data.toList = 0) := by show _ = _; unfold kindI; rw [if_neg h0, if_neg h1, if_neg h2, if_neg h3, if_neg h4, if_neg h5]
  clear h0 h1 h2 h3 h4 h5
  go_enter Try.func127, Try.ntmps127
  go_wp2_with fail
  go_ret
  exact ⟨ret_int HR.out.symm, rfl⟩

set_option maxHeartbeats 400000 in
theorem c_longer (a b : Int) (w : World) :
    Calls Try.prog 109 #[.int .i64 a, .int .i64 b] w fun e w' => e = .returned (.int .i64 (maxI a b)) ∧ w' = w := by
  by_cases h : b < a
  · go_enter Try.func109, Try.ntmps109
    go_wp2_with fail
    go_ret
    exact ⟨ret_int (by simp [maxI, h]), rfl⟩
  · have h' : a ≤ b := by omega
    go_enter Try.func109, Try.ntmps109
    go_wp2_with fail
    go_ret
    exact ⟨ret_int (by rw [maxI, if_neg (by omega)]), rfl⟩

/-- Ticks ahead of a way; -1: no way. -/
def plusI (a b : Int) : Int := if b = -1 then -1 else a + b

set_option maxHeartbeats 400000 in
theorem c_plus (a b : Int) (w : World) (ha0 : -1 ≤ a) (ha : a ≤ 4000000000000000000) (hb0 : -1 ≤ b) (hb : b ≤ 4000000000000000000) :
    Calls Try.prog 169 #[.int .i64 a, .int .i64 b] w fun e w' => e = .returned (.int .i64 (plusI a b)) ∧ w' = w := by
  by_cases h : b = -1
  · have h' : (b == -1) = true := by simp [h]
    have HR : Hid (plusI a b = -1) := if_pos h
    clear h
    go_enter Try.func169, Try.ntmps169
    go_wp2_with fail
    go_ret
    exact ⟨ret_int HR.out.symm, rfl⟩
  · have h' : (b == -1) = false := by simp [h]
    have HR : Hid (plusI a b = a + b) := if_neg h
    clear h
    go_enter Try.func169, Try.ntmps169
    go_wp2_with fail
    go_ret
    exact ⟨ret_int HR.out.symm, rfl⟩

/-- The product, never above the first number that is too much. -/
def heavierI (a b : Int) : Int := if 64 < a * b then 65 else a * b

set_option maxHeartbeats 400000 in
theorem c_heavier (a b : Int) (w : World) (h1 : -1000000 ≤ a * b) (h2 : a * b ≤ 1000000) :
    Calls Try.prog 153 #[.int .i64 a, .int .i64 b] w fun e w' => e = .returned (.int .i64 (heavierI a b)) ∧ w' = w := by
  by_cases h : 64 < a * b
  · have HR : Hid (heavierI a b = 65) := if_pos h
    go_enter Try.func153, Try.ntmps153
    go_wp2_with fail
    go_ret
    exact ⟨ret_int HR.out.symm, rfl⟩
  · have HR : Hid (heavierI a b = a * b) := if_neg h
    have h' : a * b ≤ 64 := by omega
    clear h
    go_enter Try.func153, Try.ntmps153
    go_wp2_with fail
    go_ret
    exact ⟨ret_int HR.out.symm, rfl⟩

def numV (l : List UInt8) : Int := if 0 ≤ numL l then numL l else 0
def numB (l : List UInt8) : Bool := decide (0 ≤ numL l)
theorem numVB_yes {l : List UInt8} {k : Int} (h : numL l = k) (hk : 0 ≤ k) : numV l = k ∧ numB l = true := by
  unfold numV numB; rw [h]; simp [hk]
theorem numVB_no {l : List UInt8} (h : numL l = -1) : numV l = 0 ∧ numB l = false := by
  unfold numV numB; rw [h]; simp

set_option maxHeartbeats 1000000 in
theorem c_numberOf (s : ByteArray) (w : World) (hs : s.size ≤ 400) :
    Calls Try.prog 168 #[.string s] w fun e w' => e = .returned (.tuple #[.int .i64 (numV s.data.toList), .bool (numB s.data.toList)]) ∧ w' = w := by
  by_cases h0 : s.size = 0
  · have HP : Hid (_ ∧ _) := numVB_no (numL_long s (.inl h0))
    go_enter Try.func168, Try.ntmps168
    go_wp2_with fail
    go_ret2
    exact ⟨ret_ib HP.out.1.symm HP.out.2.symm, rfl⟩
  · have h0' : 1 ≤ s.size := by omega
    by_cases h4 : 4 < s.size
    · have HP : Hid (_ ∧ _) := numVB_no (numL_long s (.inr h4))
      clear h0
      go_enter Try.func168, Try.ntmps168
      go_wp2_with fail
      go_ret2
      exact ⟨ret_ib HP.out.1.symm HP.out.2.symm, rfl⟩
    · have HK : Hid (_ = _) := numL_short s h0 (by omega)
      have h4' : s.size ≤ 4 := by omega
      clear h4 h0
      go_enter Try.func168, Try.ntmps168
      go_wp2_with fail
      go_loop [4, 5] (fun n i => ∃ (k : Nat) (m : Int), k ≤ s.size ∧ i = .int .i64 k ∧ n = .int .i64 m ∧ digs 0 (s.data.toList.take k) = some m) (fun _ i => s.size - (intOf i).toNat)
      case atStart => exact ⟨0, 0, Nat.zero_le _, rfl, rfl, rfl⟩
      case round =>
        obtain ⟨k, m, hk, rfl, rfl, hm⟩ := hrel
        have HM : Hid (digs 0 (s.data.toList.take k) = some m) := hm
        have hmb := digs_take_bound s k (by omega) m hm
        clear hm
        by_cases hlt : k < s.size
        · have hub : ((s[k]).toNat : Int) ≤ 255 := by have := (s[k]).toNat_lt; omega
          by_cases hc : ((s[k]).toNat : Int) < 48 ∨ 57 < ((s[k]).toNat : Int)
          · have HN : Hid (digs 0 s.data.toList = none) := digs_no s k hlt m HM.out hc
            have HP : Hid (_ ∧ _) := numVB_no (by rw [HK.out, HN.out]; rfl)
            rcases hc with hc | hc
            all_goals
              go_wp2_with fail
              go_ret2
              exact ⟨ret_ib HP.out.1.symm HP.out.2.symm, rfl⟩
          · have h1 : (48 : Int) ≤ ((s[k]).toNat : Int) := by omega
            have h2 : ((s[k]).toNat : Int) ≤ 57 := by omega
            have HY : Hid (digs 0 (s.data.toList.take (k + 1)) = some (10 * m + (((s[k]).toNat : Int) - 48))) := digs_yes s k hlt m HM.out h1 h2
            clear hc hub
            go_wp2_with fail
            go_round
            case rel => exact ⟨k + 1, 10 * m + (((s[k]).toNat : Int) - 48), by omega, by go_num, by go_num, HY.out⟩
            case measure => simp [intOf]; omega
        · have HE : Hid (s.data.toList.take k = s.data.toList) := List.take_of_length_le (by simp; omega)
          have HP : Hid (_ ∧ _) := numVB_yes (k := m) (by rw [HK.out, ← HE.out, HM.out]; rfl) hmb.1
          go_wp2_with fail
          go_ret2
          exact ⟨ret_ib HP.out.1.symm HP.out.2.symm, rfl⟩

end Go.Proofs.Ytiaibigmbflpiaa
