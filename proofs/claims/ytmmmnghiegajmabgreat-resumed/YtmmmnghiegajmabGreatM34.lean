import Derived.Deep.RegionLaw
import Derived.Deep.RegionHeld3
import Derived.BigRegion
import Derived.BigQuiet
import Derived.Deep.QuietTactic
import Derived.Test.YtmmmnghiegajmabGreatM05
import Derived.Test.YtmmmnghiegajmabGreatM04
/- What the program's small functions give back: words, keys, numbers, kinds. What the program's functions on spans of ticks give back. What the program's functions on lists of statements give back: how long a run can take. -/
namespace Go.Proofs.YtmmmnghiegajmabGreat
open Go.RowKit Go.Proofs.Herald
set_option maxHeartbeats 400000 in
theorem c_isGap (c : Int) (w : World) :
    Calls Tryz.prog 74 #[.int .u8 c] w fun e w' => e = .returned (.bool (c == 32 || c == 10)) ∧ w' = w := by
  cases h1 : (c == 32) with
  | true =>
    go_enter Tryz.func74, Tryz.ntmps74
    go_wp2
    go_ret
    exact ⟨rfl, rfl⟩
  | false =>
    cases h2 : (c == 10) with
    | true =>
      go_enter Tryz.func74, Tryz.ntmps74
      go_wp2
      go_ret
      exact ⟨rfl, rfl⟩
    | false =>
      go_enter Tryz.func74, Tryz.ntmps74
      go_wp2
      go_ret
      exact ⟨rfl, rfl⟩
set_option maxHeartbeats 400000 in
theorem c_isBrace (c : Int) (w : World) :
    Calls Tryz.prog 75 #[.int .u8 c] w fun e w' => e = .returned (.bool (c == 123 || c == 125)) ∧ w' = w := by
  cases h1 : (c == 123) with
  | true =>
    go_enter Tryz.func75, Tryz.ntmps75
    go_wp2
    go_ret
    exact ⟨rfl, rfl⟩
  | false =>
    cases h2 : (c == 125) with
    | true =>
      go_enter Tryz.func75, Tryz.ntmps75
      go_wp2
      go_ret
      exact ⟨rfl, rfl⟩
    | false =>
      go_enter Tryz.func75, Tryz.ntmps75
      go_wp2
      go_ret
      exact ⟨rfl, rfl⟩
set_option maxHeartbeats 1000000 in
theorem c_wordStart (t : ByteArray) (i : Int) (i0 : Nat) (hi : i = i0) (w : World) (ht : t.size ≤ 400) (hi0 : i0 ≤ t.size) :
    Calls Tryz.prog 60 #[.string t, .int .i64 i] w fun e w' => e = .returned (.int .i64 (startL (t.data.toList.drop i0) i0 : Nat)) ∧ w' = w := by
  subst hi
  go_enter Tryz.func60, Tryz.ntmps60
  go_wp2_with fail
  go_loop [1] (fun x => ∃ k : Nat, k ≤ t.size ∧ x = .int .i64 k ∧ startL (t.data.toList.drop k) k = startL (t.data.toList.drop i0) i0) (fun x => t.size - (intOf x).toNat)
  case atStart => exact ⟨i0, hi0, rfl, rfl⟩
  case round =>
    obtain ⟨k, hk, rfl, hr⟩ := hrel
    by_cases hlt : k < t.size
    · by_cases hg : ((t[k]).toNat : Int) = 32 ∨ ((t[k]).toNat : Int) = 10
      · rw [startL_step t k hlt hg] at hr
        have HR : Hid (_ = _) := hr
        have hb : (((t[k]).toNat : Int) == 32 || ((t[k]).toNat : Int) == 10) = true := by simpa using hg
        have HG : Hid (_ = _) := hb
        clear hr hg hb
        go_wp2_with (go_at_call 74; refine (c_isGap _ _).mono ?_; rw [HG.out]; rintro e w' ⟨rfl, rfl⟩)
        go_round
        case rel => exact ⟨k + 1, by omega, by go_num, HR.out⟩
        case measure => simp [intOf]; omega
      · rw [startL_here t k hlt (by omega) (by omega)] at hr
        have HR : Hid (_ = _) := hr
        have hb : (((t[k]).toNat : Int) == 32 || ((t[k]).toNat : Int) == 10) = false := by simpa using hg
        have HG : Hid (_ = _) := hb
        clear hr hg hb
        go_wp2_with (go_at_call 74; refine (c_isGap _ _).mono ?_; rw [HG.out]; rintro e w' ⟨rfl, rfl⟩)
        go_ret
        exact ⟨ret_int (by rw [← HR.out]), rfl⟩
    · rw [startL_end t k (by omega)] at hr
      have HR : Hid (_ = _) := hr
      clear hr
      go_wp2_with fail
      go_ret
      exact ⟨ret_int (by rw [← HR.out]), rfl⟩
set_option maxHeartbeats 1000000 in
theorem c_wordEnd (t : ByteArray) (i : Int) (i0 : Nat) (hi : i = i0) (w : World) (ht : t.size ≤ 400) (hi0 : i0 ≤ t.size) :
    Calls Tryz.prog 61 #[.string t, .int .i64 i] w fun e w' => e = .returned (.int .i64 (endL (t.data.toList.drop i0) i0 : Nat)) ∧ w' = w := by
  subst hi
  by_cases hbr : ∃ h : i0 < t.size, ((t[i0]).toNat : Int) = 123 ∨ ((t[i0]).toNat : Int) = 125
  · obtain ⟨hlt, hb⟩ := hbr
    have HE : Hid (_ = _) := endL_brace t i0 hlt hb
    have hb' : (((t[i0]).toNat : Int) == 123 || ((t[i0]).toNat : Int) == 125) = true := by simpa using hb
    have HG : Hid (_ = _) := hb'
    clear hb hb'
    go_enter Tryz.func61, Tryz.ntmps61
    go_wp2_with (go_at_call 75; refine (c_isBrace _ _).mono ?_; rw [HG.out]; rintro e w' ⟨rfl, rfl⟩)
    go_ret
    exact ⟨ret_int (by rw [HE.out]; omega), rfl⟩
  · have HE : Hid (endL (t.data.toList.drop i0) i0 = stopL (t.data.toList.drop i0) i0) := by
      by_cases hlt : i0 < t.size
      · exact endL_other t i0 hlt (fun h => hbr ⟨hlt, .inl h⟩) (fun h => hbr ⟨hlt, .inr h⟩)
      · exact endL_end t i0 (by omega)
    have hcase : (∃ h : i0 < t.size, (((t[i0]).toNat : Int) == 123 || ((t[i0]).toNat : Int) == 125) = false) ∨ ¬ i0 < t.size := by
      by_cases hlt : i0 < t.size
      · left
        refine ⟨hlt, ?_⟩
        have h1 : ¬ ((t[i0]).toNat : Int) = 123 := fun h => hbr ⟨hlt, .inl h⟩
        have h2 : ¬ ((t[i0]).toNat : Int) = 125 := fun h => hbr ⟨hlt, .inr h⟩
        simp; omega
      · exact .inr hlt
    clear hbr
    rcases hcase with ⟨hlt, hg⟩ | hlt
    · have HG : Hid (_ = _) := hg
      clear hg
      go_enter Tryz.func61, Tryz.ntmps61
      go_wp2_with (go_at_call 75; refine (c_isBrace _ _).mono ?_; rw [HG.out]; rintro e w' ⟨rfl, rfl⟩)
      go_loop [1] (fun x => ∃ k : Nat, k ≤ t.size ∧ x = .int .i64 k ∧ stopL (t.data.toList.drop k) k = stopL (t.data.toList.drop i0) i0) (fun x => t.size - (intOf x).toNat)
      case atStart => exact ⟨i0, hi0, rfl, rfl⟩
      case round =>
        obtain ⟨k, hk, rfl, hr⟩ := hrel
        clear HG
        by_cases hlk : k < t.size
        · by_cases hg : ((t[k]).toNat : Int) = 32 ∨ ((t[k]).toNat : Int) = 10
          · rw [stopL_here t k hlk (by omega)] at hr
            have HR : Hid (_ = _) := hr
            have HG : Hid ((((t[k]).toNat : Int) == 32 || ((t[k]).toNat : Int) == 10) = true) := by show _ = _; simpa using hg
            clear hr hg
            go_wp2_with (go_at_call 74; refine (c_isGap _ _).mono ?_; rw [HG.out]; rintro e w' ⟨rfl, rfl⟩)
            go_ret
            exact ⟨ret_int (by rw [HE.out, ← HR.out]), rfl⟩
          · have HG : Hid ((((t[k]).toNat : Int) == 32 || ((t[k]).toNat : Int) == 10) = false) := by show _ = _; simpa using hg
            by_cases hb : ((t[k]).toNat : Int) = 123 ∨ ((t[k]).toNat : Int) = 125
            · rw [stopL_here t k hlk (by omega)] at hr
              have HR : Hid (_ = _) := hr
              have HB : Hid ((((t[k]).toNat : Int) == 123 || ((t[k]).toNat : Int) == 125) = true) := by show _ = _; simpa using hb
              clear hr hg hb
              go_wp2_with (first | (go_at_call 74; refine (c_isGap _ _).mono ?_; rw [HG.out]; rintro e w' ⟨rfl, rfl⟩) | (go_at_call 75; refine (c_isBrace _ _).mono ?_; rw [HB.out]; rintro e w' ⟨rfl, rfl⟩))
              go_ret
              exact ⟨ret_int (by rw [HE.out, ← HR.out]), rfl⟩
            · rw [stopL_step t k hlk (by omega) (by omega) (by omega) (by omega)] at hr
              have HR : Hid (_ = _) := hr
              have HB : Hid ((((t[k]).toNat : Int) == 123 || ((t[k]).toNat : Int) == 125) = false) := by show _ = _; simpa using hb
              clear hr hg hb
              go_wp2_with (first | (go_at_call 74; refine (c_isGap _ _).mono ?_; rw [HG.out]; rintro e w' ⟨rfl, rfl⟩) | (go_at_call 75; refine (c_isBrace _ _).mono ?_; rw [HB.out]; rintro e w' ⟨rfl, rfl⟩))
              go_round
              case rel => exact ⟨k + 1, by omega, by go_num, HR.out⟩
              case measure => simp [intOf]; omega
        · rw [stopL_end t k (by omega)] at hr
          have HR : Hid (_ = _) := hr
          clear hr
          go_wp2_with fail
          go_ret
          exact ⟨ret_int (by rw [HE.out, ← HR.out]), rfl⟩
    · have HS : Hid (_ = _) := stopL_end t i0 (by omega)
      go_enter Tryz.func61, Tryz.ntmps61
      go_wp2_with fail
      go_loop [1] (fun x => x = .int .i64 i0) (fun _ => 0)
      case atStart => rfl
      case round =>
        subst hrel
        go_wp2_with fail
        go_ret
        exact ⟨ret_int (by rw [HE.out, HS.out]), rfl⟩
def keyV (l : List UInt8) : Int := if 0 ≤ keyL l then keyL l else 0
def keyB (l : List UInt8) : Bool := decide (0 ≤ keyL l)
theorem keyVB_yes {l : List UInt8} {k : Int} (h : keyL l = k) (hk : 0 ≤ k) : keyV l = k ∧ keyB l = true := by
  unfold keyV keyB; rw [h]; simp [hk]
theorem keyVB_no {l : List UInt8} (h : keyL l = -1) : keyV l = 0 ∧ keyB l = false := by
  unfold keyV keyB; rw [h]; simp
theorem ret_ib {k : IntKind} {a c : Int} {x y : Bool} (h1 : a = c) (h2 : x = y) : Ending.returned (.tuple #[.int k a, .bool x]) = .returned (.tuple #[.int k c, .bool y]) := by rw [h1, h2]
set_option maxHeartbeats 400000 in
theorem c_keyOf (s : ByteArray) (w : World) :
    Calls Tryz.prog 90 #[.string s] w fun e w' => e = .returned (.tuple #[.int .i64 (keyV s.data.toList), .bool (keyB s.data.toList)]) ∧ w' = w := by
  by_cases h1 : s.size = 1
  · have hp : 0 < s.size := by omega
    have HK : Hid (_ = _) := keyL_one s h1 hp
    by_cases hr : (97 : Int) ≤ ((s[0]'hp).toNat : Int) ∧ ((s[0]'hp).toNat : Int) < 105
    · have HV : Hid (keyL s.data.toList = ((s[0]'hp).toNat : Int) - 97) := HK.out.trans (if_pos hr)
      have HP : Hid (_ ∧ _) := keyVB_yes HV.out (by omega)
      obtain ⟨hr1, hr2⟩ := hr
      go_enter Tryz.func90, Tryz.ntmps90
      go_wp2_with fail
      go_ret2
      exact ⟨ret_ib HP.out.1.symm HP.out.2.symm, rfl⟩
    · have HV : Hid (keyL s.data.toList = -1) := HK.out.trans (if_neg hr)
      have HP : Hid (_ ∧ _) := keyVB_no HV.out
      have hub : ((s[0]'hp).toNat : Int) ≤ 255 := by have := (s[0]'hp).toNat_lt; omega
      have hc : (((s[0]'hp).toNat : Int) < (97 : Int) ∧ ((s[0]'hp).toNat : Int) ≤ (255 : Int)) ∨ ((105 : Int) ≤ ((s[0]'hp).toNat : Int) ∧ ((s[0]'hp).toNat : Int) ≤ (255 : Int)) := by omega
      clear hr hub
      rcases hc with ⟨hc0, hc⟩ | ⟨hc0, hc⟩
      all_goals
        go_enter Tryz.func90, Tryz.ntmps90
        go_wp2_with fail
        go_ret2
        exact ⟨ret_ib HP.out.1.symm HP.out.2.symm, rfl⟩
  · have HV : Hid (_ = _) := keyL_not s h1
    have HP : Hid (_ ∧ _) := keyVB_no HV.out
    have h1' : ((s.size : Int) != 1) = true := by simp; omega
    go_enter Tryz.func90, Tryz.ntmps90
    go_wp2_with fail
    go_ret2
    exact ⟨ret_ib HP.out.1.symm HP.out.2.symm, rfl⟩
set_option maxHeartbeats 1000000 in
theorem c_kindOf (s : ByteArray) (w : World) :
    Calls Tryz.prog 76 #[.string s] w fun e w' => e = .returned (.int .i64 (kindI s.data.toList)) ∧ w' = w := by
  by_cases h0 : s.data.toList = kSend
  · have y : (s.toList == [115, 101, 110, 100]) = true := beq_yes h0
    have HR : Hid (kindI s.data.toList = 1) := by show _ = _; unfold kindI; simp [h0, kSend]
    clear h0
    go_enter Tryz.func76, Tryz.ntmps76
    go_wp2_with fail
    go_ret
    exact ⟨ret_int HR.out.symm, rfl⟩
  have n0 : (s.toList == [115, 101, 110, 100]) = false := beq_no h0
  by_cases h1 : s.data.toList = kWait
  · have y : (s.toList == [119, 97, 105, 116]) = true := beq_yes h1
    have HR : Hid (kindI s.data.toList = 2) := by show _ = _; unfold kindI; simp [h1, kSend, kWait]
    clear h1
    go_enter Tryz.func76, Tryz.ntmps76
    go_wp2_with fail
    go_ret
    exact ⟨ret_int HR.out.symm, rfl⟩
  have n1 : (s.toList == [119, 97, 105, 116]) = false := beq_no h1
  by_cases h2 : s.data.toList = kStop
  · have y : (s.toList == [115, 116, 111, 112]) = true := beq_yes h2
    have HR : Hid (kindI s.data.toList = 3) := by show _ = _; unfold kindI; simp [h2, kSend, kWait, kStop]
    clear h2
    go_enter Tryz.func76, Tryz.ntmps76
    go_wp2_with fail
    go_ret
    exact ⟨ret_int HR.out.symm, rfl⟩
  have n2 : (s.toList == [115, 116, 111, 112]) = false := beq_no h2
  by_cases h3 : s.data.toList = kAsk
  · have y : (s.toList == [97, 115, 107]) = true := beq_yes h3
    have HR : Hid (kindI s.data.toList = 4) := by show _ = _; unfold kindI; simp [h3, kSend, kWait, kStop, kAsk]
    clear h3
    go_enter Tryz.func76, Tryz.ntmps76
    go_wp2_with fail
    go_ret
    exact ⟨ret_int HR.out.symm, rfl⟩
  have n3 : (s.toList == [97, 115, 107]) = false := beq_no h3
  by_cases h4 : s.data.toList = kRetry
  · have y : (s.toList == [114, 101, 116, 114, 121]) = true := beq_yes h4
    have HR : Hid (kindI s.data.toList = 5) := by show _ = _; unfold kindI; simp [h4, kSend, kWait, kStop, kAsk, kRetry]
    clear h4
    go_enter Tryz.func76, Tryz.ntmps76
    go_wp2_with fail
    go_ret
    exact ⟨ret_int HR.out.symm, rfl⟩
  have n4 : (s.toList == [114, 101, 116, 114, 121]) = false := beq_no h4
  by_cases h5 : s.data.toList = kRepeat
  · have y : (s.toList == [114, 101, 112, 101, 97, 116]) = true := beq_yes h5
    have HR : Hid (kindI s.data.toList = 6) := by show _ = _; unfold kindI; simp [h5, kSend, kWait, kStop, kAsk, kRetry, kRepeat]
    clear h5
    go_enter Tryz.func76, Tryz.ntmps76
    go_wp2_with fail
    go_ret
    exact ⟨ret_int HR.out.symm, rfl⟩
  have n5 : (s.toList == [114, 101, 112, 101, 97, 116]) = false := beq_no h5
  have HR : Hid (kindI s.data.toList = 0) := by show _ = _; unfold kindI; rw [if_neg h0, if_neg h1, if_neg h2, if_neg h3, if_neg h4, if_neg h5]
  clear h0 h1 h2 h3 h4 h5
  go_enter Tryz.func76, Tryz.ntmps76
  go_wp2_with fail
  go_ret
  exact ⟨ret_int HR.out.symm, rfl⟩
set_option maxHeartbeats 400000 in
theorem c_longer (a b : Int) (w : World) :
    Calls Tryz.prog 64 #[.int .i64 a, .int .i64 b] w fun e w' => e = .returned (.int .i64 (maxI a b)) ∧ w' = w := by
  by_cases h : b < a
  · go_enter Tryz.func64, Tryz.ntmps64
    go_wp2_with fail
    go_ret
    exact ⟨ret_int (by simp [maxI, h]), rfl⟩
  · have h' : a ≤ b := by omega
    go_enter Tryz.func64, Tryz.ntmps64
    go_wp2_with fail
    go_ret
    exact ⟨ret_int (by rw [maxI, if_neg (by omega)]), rfl⟩
/-- Ticks ahead of a way; -1: no way. -/
def plusI (a b : Int) : Int := if b = -1 then -1 else a + b
set_option maxHeartbeats 400000 in
theorem c_plus (a b : Int) (w : World) (ha0 : -1 ≤ a) (ha : a ≤ 4000000000000000000) (hb0 : -1 ≤ b) (hb : b ≤ 4000000000000000000) :
    Calls Tryz.prog 106 #[.int .i64 a, .int .i64 b] w fun e w' => e = .returned (.int .i64 (plusI a b)) ∧ w' = w := by
  by_cases h : b = -1
  · have h' : (b == -1) = true := by simp [h]
    have HR : Hid (plusI a b = -1) := if_pos h
    clear h
    go_enter Tryz.func106, Tryz.ntmps106
    go_wp2_with fail
    go_ret
    exact ⟨ret_int HR.out.symm, rfl⟩
  · have h' : (b == -1) = false := by simp [h]
    have HR : Hid (plusI a b = a + b) := if_neg h
    clear h
    go_enter Tryz.func106, Tryz.ntmps106
    go_wp2_with fail
    go_ret
    exact ⟨ret_int HR.out.symm, rfl⟩
/-- The product, never above the first number that is too much. -/
def heavierI (a b : Int) : Int := if 64 < a * b then 65 else a * b
set_option maxHeartbeats 400000 in
theorem c_heavier (a b : Int) (w : World) (h1 : -1000000 ≤ a * b) (h2 : a * b ≤ 1000000) :
    Calls Tryz.prog 92 #[.int .i64 a, .int .i64 b] w fun e w' => e = .returned (.int .i64 (heavierI a b)) ∧ w' = w := by
  by_cases h : 64 < a * b
  · have HR : Hid (heavierI a b = 65) := if_pos h
    go_enter Tryz.func92, Tryz.ntmps92
    go_wp2_with fail
    go_ret
    exact ⟨ret_int HR.out.symm, rfl⟩
  · have HR : Hid (heavierI a b = a * b) := if_neg h
    have h' : a * b ≤ 64 := by omega
    clear h
    go_enter Tryz.func92, Tryz.ntmps92
    go_wp2_with fail
    go_ret
    exact ⟨ret_int HR.out.symm, rfl⟩
def numV (l : List UInt8) : Int := if 0 ≤ numL l then numL l else 0
def numB (l : List UInt8) : Bool := decide (0 ≤ numL l)
theorem numVB_yes {l : List UInt8} {k : Int} (h : numL l = k) (hk : 0 ≤ k) : numV l = k ∧ numB l = true := by
  unfold numV numB; rw [h]; simp [hk]
theorem numVB_no {l : List UInt8} (h : numL l = -1) : numV l = 0 ∧ numB l = false := by
  unfold numV numB; rw [h]; simp
set_option maxHeartbeats 1000000 in
theorem c_numberOf (s : ByteArray) (w : World) (hs : s.size ≤ 400) :
    Calls Tryz.prog 105 #[.string s] w fun e w' => e = .returned (.tuple #[.int .i64 (numV s.data.toList), .bool (numB s.data.toList)]) ∧ w' = w := by
  by_cases h0 : s.size = 0
  · have HP : Hid (_ ∧ _) := numVB_no (numL_long s (.inl h0))
    go_enter Tryz.func105, Tryz.ntmps105
    go_wp2_with fail
    go_ret2
    exact ⟨ret_ib HP.out.1.symm HP.out.2.symm, rfl⟩
  · have h0' : 1 ≤ s.size := by omega
    by_cases h4 : 4 < s.size
    · have HP : Hid (_ ∧ _) := numVB_no (numL_long s (.inr h4))
      clear h0
      go_enter Tryz.func105, Tryz.ntmps105
      go_wp2_with fail
      go_ret2
      exact ⟨ret_ib HP.out.1.symm HP.out.2.symm, rfl⟩
    · have HK : Hid (_ = _) := numL_short s h0 (by omega)
      have h4' : s.size ≤ 4 := by omega
      clear h4 h0
      go_enter Tryz.func105, Tryz.ntmps105
      go_wp2_with fail
      go_loop [4, 5] (fun n i => ∃ (k : Nat) (m : Int), k ≤ s.size ∧ i = .int .i64 k ∧ n = .int .i64 m ∧ digs 0 (s.data.toList.take k) = some m) (fun _ i => s.size - (intOf i).toNat)
      case atStart => exact ⟨0, 0, Nat.zero_le _, rfl, rfl, rfl⟩
      case round =>
        obtain ⟨k, m, hk, rfl, rfl, hm⟩ := hrel
        have HM : Hid (digs 0 (s.data.toList.take k) = some m) := hm
        have hmb := digs_take_bound s k (by omega) m hm
        clear hm
        by_cases hlt : k < s.size
        · have hub : ((s[k]).toNat : Int) ≤ 255 := by have := (s[k]).toNat_lt; omega
          by_cases hc : ((s[k]).toNat : Int) < 48 ∨ 57 < ((s[k]).toNat : Int)
          · have HN : Hid (digs 0 s.data.toList = none) := digs_no s k hlt m HM.out hc
            have HP : Hid (_ ∧ _) := numVB_no (by rw [HK.out, HN.out]; rfl)
            rcases hc with hc | hc
            all_goals
              go_wp2_with fail
              go_ret2
              exact ⟨ret_ib HP.out.1.symm HP.out.2.symm, rfl⟩
          · have h1 : (48 : Int) ≤ ((s[k]).toNat : Int) := by omega
            have h2 : ((s[k]).toNat : Int) ≤ 57 := by omega
            have HY : Hid (digs 0 (s.data.toList.take (k + 1)) = some (10 * m + (((s[k]).toNat : Int) - 48))) := digs_yes s k hlt m HM.out h1 h2
            clear hc hub
            go_wp2_with fail
            go_round
            case rel => exact ⟨k + 1, 10 * m + (((s[k]).toNat : Int) - 48), by omega, by go_num, by go_num, HY.out⟩
            case measure => simp [intOf]; omega
        · have HE : Hid (s.data.toList.take k = s.data.toList) := List.take_of_length_le (by simp; omega)
          have HP : Hid (_ ∧ _) := numVB_yes (k := m) (by rw [HK.out, ← HE.out, HM.out]; rfl) hmb.1
          go_wp2_with fail
          go_ret2
          exact ⟨ret_ib HP.out.1.symm HP.out.2.symm, rfl⟩
open Go.RowKit Go.Proofs.Herald
theorem plusI_behind {a b : Int} (ha : 0 ≤ a) (hb : -1 ≤ b) : plusI a b = behindI a b := by
  unfold plusI behindI
  by_cases h : b = -1
  · rw [if_pos h, if_pos (by omega)]
  · rw [if_neg h, if_neg (by omega)]
set_option maxHeartbeats 400000 in
theorem c_after (n p q : Int) (w : World) (hn : 0 ≤ n) (hn2 : n ≤ 4000000000000000000) (hp0 : -1 ≤ p) (hp : p ≤ 4000000000000000000) (hq0 : -1 ≤ q) (hq : q ≤ 4000000000000000000) :
    Calls Tryz.prog 97 #[.int .i64 n, .agg #[.int .i64 p, .int .i64 q]] w fun e w' => e = .returned (.agg #[.int .i64 (behindI n p), .int .i64 (behindI n q)]) ∧ Below w.heap.size w w' := by
  have H1 : Hid (_ = _) := plusI_behind hn hp0
  have H2 : Hid (_ = _) := plusI_behind hn hq0
  go_enter Tryz.func97, Tryz.ntmps97
  go_wp2_with (go_at_call 106; refine (c_plus _ _ _ (by omega) (by omega) (by omega) (by omega)).mono ?_; rintro e w' ⟨rfl, rfl⟩)
  refine bodyPost_ret (v := .agg #[.int .i64 (plusI n p), .int .i64 (plusI n q)]) (by simp [results, Tryz.results97, go_sem]) rfl ⟨by rw [H1.out, H2.out], ?_⟩
  exact ((Below.refl _ _).alloc (Nat.le_refl _) _).alloc (by simp) _
theorem heap3 (w : World) (A B R : Obj) : (((w.alloc A).alloc B).alloc R).heap[w.heap.size]? = some A ∧ (((w.alloc A).alloc B).alloc R).heap[w.heap.size + 1]? = some B ∧ (((w.alloc A).alloc B).alloc R).heap[w.heap.size + 1 + 1]? = some R := by
  refine ⟨?_, ?_, ?_⟩
  · rw [Below.heap_alloc _ _ _ (by simp; omega), Below.heap_alloc _ _ _ (by simp), heap_alloc_new]
  · rw [Below.heap_alloc _ _ _ (by simp), heap_alloc2]
  · exact heap_alloc_at _ _ _ (by simp)
theorem heap2 (w : World) (A B : Obj) : ((w.alloc A).alloc B).heap[w.heap.size]? = some A ∧ ((w.alloc A).alloc B).heap[w.heap.size + 1]? = some B := by
  refine ⟨?_, heap_alloc2 _ _ _⟩
  rw [Below.heap_alloc _ _ _ (by simp), heap_alloc_new]
set_option maxHeartbeats 1000000 in
theorem c_then (p q r s : Int) (w : World) (hp0 : -1 ≤ p) (hp : p ≤ 1000000000000000) (hq0 : -1 ≤ q) (hq : q ≤ 1000000000000000) (hr0 : -1 ≤ r) (hr : r ≤ 1000000000000000) (hs0 : -1 ≤ s) (hs : s ≤ 1000000000000000) :
    Calls Tryz.prog 83 #[.agg #[.int .i64 p, .int .i64 q], .agg #[.int .i64 r, .int .i64 s]] w fun e w' => e = .returned (.agg #[.int .i64 (behindI p r), .int .i64 (maxI q (behindI p s))]) ∧ Below w.heap.size w w' := by
  by_cases h : p = -1
  · have h' : (p == -1) = true := by simp [h]
    have H1 : Hid (behindI p r = p) := by show _ = _; unfold behindI; rw [if_pos (by omega)]; omega
    have H2 : Hid (maxI q (behindI p s) = q) := by show _ = _; unfold behindI maxI; rw [if_pos (show p < 0 ∨ s < 0 from Or.inl (by omega))]; split <;> omega
    clear h
    go_enter Tryz.func83, Tryz.ntmps83
    go_wp2_with fail
    refine bodyPost_ret (v := .agg #[.int .i64 p, .int .i64 q]) (by simp [results, Tryz.results83, go_sem]) rfl ⟨by rw [H1.out, H2.out], ?_⟩
    exact (((Below.refl _ _).alloc (Nat.le_refl _) _).alloc (by simp) _).alloc (by simp; omega) _
  · have h' : (p == -1) = false := by simp [h]
    have hp1 : 0 ≤ p := by omega
    clear h
    go_enter Tryz.func83, Tryz.ntmps83
    go_wp2_with fail
    refine (c_after p r s _ hp1 (by omega) hr0 (by omega) hs0 (by omega)).mono ?_
    rintro e w1 ⟨rfl, hb1⟩
    have hz : w.heap.size + 3 ≤ w1.heap.size := by have := hb1.size; simp at this; omega
    have hz0 : w.heap.size < w1.heap.size := by omega
    have hz2 : w.heap.size + 1 + 1 < w1.heap.size := by omega
    obtain ⟨k0, _, k2⟩ := heap3 w (.cells #[.int .i64 p, .int .i64 q] 123) (.cells #[.int .i64 r, .int .i64 s] 123) (.cells #[.int .i64 0, .int .i64 0] 123)
    have g0 := (hb1.block _ (by simp; omega)).trans k0
    have g2 := (hb1.block _ (by simp)).trans k2
    have f1 : w1.cell? ⟨w.heap.size, 1, none⟩ = some (.int .i64 q) := (cell_of_heap g0).trans rfl
    have r0 : w1.cell? ⟨w.heap.size + 1 + 1, 0, none⟩ = some (.int .i64 0) := (cell_of_heap g2).trans rfl
    have r1 : w1.cell? ⟨w.heap.size + 1 + 1, 1, none⟩ = some (.int .i64 0) := (cell_of_heap g2).trans rfl
    have z0 : w1.frozen? ⟨w.heap.size + 1 + 1, 0, none⟩ = false := free_of_heap g2
    have z1 : w1.frozen? ⟨w.heap.size + 1 + 1, 1, none⟩ = false := free_of_heap g2
    have HB : Hid (Below w.heap.size w w1) := ((((Below.refl _ _).alloc (Nat.le_refl _) _).alloc (by simp) _).alloc (by simp; omega) _).trans (hb1.mono (by simp; omega))
    clear hb1 g0 g2 k0 k2
    go_wp2_with (go_at_call 64; refine (c_longer _ _ _).mono ?_; rintro e w' ⟨rfl, rfl⟩)
    refine bodyPost_ret (v := .agg #[.int .i64 (behindI p r), .int .i64 (maxI q (behindI p s))]) (by simp [results, Tryz.results83, go_sem, r0, r1, hz2]) rfl ⟨rfl, ?_⟩
    exact (((HB.out.setCell (p := ⟨w.heap.size + 1 + 1, 0, none⟩) (by simp; omega) _).setCell (p := ⟨w.heap.size + 1 + 1, 1, none⟩) (by simp; omega) _)).alloc (by simp [World.setCell]; omega) _
/-- The ticks of so many tries. -/
def triesS (n : Int) : Nat → Int
  | 0 => 0
  | j + 1 => triesI n j
theorem triesS_succ (n : Int) (j : Nat) : triesS n (j + 1) = 2 * triesS n j + n := by
  cases j with
  | zero => simp [triesS, triesI]
  | succ j => simp [triesS, triesI]
theorem triesS_bound (n : Int) (h0 : 0 ≤ n) (hn : n ≤ 999) (j : Nat) (hj : j ≤ 6) : 0 ≤ triesS n j ∧ triesS n j ≤ 62937 := by
  cases j with
  | zero => simp [triesS]
  | succ j => exact triesI_bound n h0 hn j (by omega)
set_option maxHeartbeats 1000000 in
theorem c_allTries (m n : Int) (w : World) (hm0 : 0 ≤ m) (hm : m ≤ 6) (hn0 : 0 ≤ n) (hn : n ≤ 999) :
    Calls Tryz.prog 95 #[.int .i64 m, .int .i64 n] w fun e w' => e = .returned (.int .i64 (triesS n m.toNat)) ∧ w' = w := by
  go_enter Tryz.func95, Tryz.ntmps95
  go_wp2_with fail
  go_loop [5, 6, 7] (fun x y i => ∃ j : Nat, j ≤ m.toNat ∧ i = .int .i64 j ∧ x = .int .i64 (triesS n j) ∧ y = .int .i64 (triesS n j + n)) (fun _ _ i => m.toNat - (intOf i).toNat)
  case atStart => exact ⟨0, by omega, rfl, rfl, by simp [triesS]⟩
  case round =>
    obtain ⟨j, hj, rfl, rfl, rfl⟩ := hrel
    have hb := triesS_bound n hn0 hn j (by omega)
    have HS : Hid (_ = _) := triesS_succ n j
    by_cases hlt : j < m.toNat
    · have hlt' : (j : Int) < m := by omega
      obtain ⟨S, hS⟩ : ∃ S, S = triesS n j := ⟨_, rfl⟩
      rw [← hS] at hb HS
      rw [← hS]
      clear hS
      go_wp2_with fail
      go_round
      case rel => exact ⟨j + 1, by omega, by go_num, by rw [HS.out]; go_num, by rw [HS.out]; go_num⟩
      case measure => simp [intOf]; omega
    · have hlt' : ¬ (j : Int) < m := by omega
      obtain rfl : j = m.toNat := by omega
      clear hlt
      go_wp2_with fail
      go_ret
      exact ⟨rfl, rfl⟩
set_option maxHeartbeats 1000000 in
theorem c_answerSpan (n p q r s : Int) (w : World) (hn : 1 ≤ n) (hn2 : n ≤ 62937) (hp0 : -1 ≤ p) (hp : p ≤ 1000000000000000) (hq0 : -1 ≤ q) (hq : q ≤ 1000000000000000) (hr0 : -1 ≤ r) (hr : r ≤ 1000000000000000) (hs0 : -1 ≤ s) (hs : s ≤ 1000000000000000) :
    Calls Tryz.prog 94 #[.int .i64 n, .agg #[.int .i64 p, .int .i64 q], .agg #[.int .i64 r, .int .i64 s]] w fun e w' =>
      e = .returned (.agg #[.int .i64 (maxI (behindI (n - 1) p) (behindI n r)), .int .i64 (maxI (behindI (n - 1) q) (behindI n s))]) ∧ Below w.heap.size w w' := by
  go_enter Tryz.func94, Tryz.ntmps94
  go_wp2_with fail
  refine (c_after (n - 1) p q _ (by omega) (by omega) hp0 (by omega) hq0 (by omega)).mono ?_
  rintro e w1 ⟨rfl, hb1⟩
  have hz : w.heap.size + 3 ≤ w1.heap.size := by have := hb1.size; simp at this; omega
  have hz1 : w.heap.size + 1 < w1.heap.size := by omega
  have hz2 : w.heap.size + 1 + 1 < w1.heap.size := by omega
  obtain ⟨_, k1, k2⟩ := heap3 w (.cells #[.int .i64 p, .int .i64 q] 123) (.cells #[.int .i64 r, .int .i64 s] 123) (.cells #[.int .i64 0, .int .i64 0] 123)
  have g1 := (hb1.block _ (by simp)).trans k1
  have g2 := (hb1.block _ (by simp)).trans k2
  have f0 : w1.cell? ⟨w.heap.size + 1, 0, none⟩ = some (.int .i64 r) := (cell_of_heap g1).trans rfl
  have f1 : w1.cell? ⟨w.heap.size + 1, 1, none⟩ = some (.int .i64 s) := (cell_of_heap g1).trans rfl
  have HB : Hid (Below w.heap.size w w1) := ((((Below.refl _ _).alloc (Nat.le_refl _) _).alloc (by simp) _).alloc (by simp; omega) _).trans (hb1.mono (by simp; omega))
  have HG : Hid (_ = _) := g2
  clear hb1 g1 g2 k1 k2
  go_wp2_with fail
  refine (c_after n r s _ (by omega) (by omega) hr0 (by omega) hs0 (by omega)).mono ?_
  rintro e w2 ⟨rfl, hb2⟩
  have hy : w1.heap.size + 1 ≤ w2.heap.size := by have := hb2.size; simp at this; omega
  have g3 := (hb2.block (w.heap.size + 1 + 1) (by simp; omega)).trans ((Below.heap_alloc _ _ _ hz2).trans HG.out)
  have g4 := (hb2.block w1.heap.size (by simp)).trans (heap_alloc_new _ _)
  have e0 : w2.cell? ⟨w1.heap.size, 0, none⟩ = some (.int .i64 (behindI (n - 1) p)) := (cell_of_heap g4).trans rfl
  have e1 : w2.cell? ⟨w1.heap.size, 1, none⟩ = some (.int .i64 (behindI (n - 1) q)) := (cell_of_heap g4).trans rfl
  have r0 : w2.cell? ⟨w.heap.size + 1 + 1, 0, none⟩ = some (.int .i64 0) := (cell_of_heap g3).trans rfl
  have r1 : w2.cell? ⟨w.heap.size + 1 + 1, 1, none⟩ = some (.int .i64 0) := (cell_of_heap g3).trans rfl
  have z0 : w2.frozen? ⟨w.heap.size + 1 + 1, 0, none⟩ = false := free_of_heap g3
  have z1 : w2.frozen? ⟨w.heap.size + 1 + 1, 1, none⟩ = false := free_of_heap g3
  have hy1 : w1.heap.size < w2.heap.size := by omega
  have hy2 : w.heap.size + 1 + 1 < w2.heap.size := by omega
  have HB2 : Hid (Below w.heap.size w w2) := (HB.out.alloc (by omega) _).trans (hb2.mono (by simp; omega))
  clear hb2 g3 g4 f0 f1
  go_wp2_with (go_at_call 64; refine (c_longer _ _ _).mono ?_; rintro e w' ⟨rfl, rfl⟩)
  refine bodyPost_ret (v := .agg #[.int .i64 (maxI (behindI (n - 1) p) (behindI n r)), .int .i64 (maxI (behindI (n - 1) q) (behindI n s))]) (by simp [results, Tryz.results94, go_sem, r0, r1, hy2]) rfl ⟨rfl, ?_⟩
  exact (((HB2.out.setCell (p := ⟨w.heap.size + 1 + 1, 0, none⟩) (by simp; omega) _).setCell (p := ⟨w.heap.size + 1 + 1, 1, none⟩) (by simp; omega) _)).alloc (by simp [World.setCell]; omega) _
/-- The three blocks of repeatSpan. -/
structure RepAt (w wr : World) (r s p q : Int) : Prop where
  bel : Below w.heap.size w wr
  size : w.heap.size + 3 ≤ wr.heap.size
  body : wr.heap[w.heap.size]? = some (.cells #[.int .i64 r, .int .i64 s] 123 (0, 0))
  res : wr.heap[w.heap.size + 1]? = some (.cells #[.int .i64 0, .int .i64 0] 123 (0, 0))
  all : wr.heap[w.heap.size + 1 + 1]? = some (.cells #[.int .i64 p, .int .i64 q] 123 (0, 0))
theorem RepAt.next {w wr w2 : World} {r s p q : Int} (h : RepAt w wr r s p q) (hb : Below wr.heap.size wr w2) (p' q' : Int) :
    RepAt w ((w2.setCell ⟨w.heap.size + 1 + 1, 0, none⟩ (.int .i64 p')).setCell ⟨w.heap.size + 1 + 1, 1, none⟩ (.int .i64 q')) r s p' q' := by
  have hs := h.size
  have hs2 := hb.size
  have g2 := (hb.block _ (by omega)).trans h.all
  refine ⟨((h.bel.trans (hb.mono (by omega))).setCell (p := ⟨w.heap.size + 1 + 1, 0, none⟩) (by simp; omega) _).setCell (p := ⟨w.heap.size + 1 + 1, 1, none⟩) (by simp; omega) _, ?_, ?_, ?_, ?_⟩
  · rw [size_setCell, size_setCell]; omega
  · rw [Below.heap_setCell _ _ _ _ (by simp; omega), Below.heap_setCell _ _ _ _ (by simp; omega), hb.block _ (by omega)]; exact h.body
  · rw [Below.heap_setCell _ _ _ _ (by simp), Below.heap_setCell _ _ _ _ (by simp), hb.block _ (by omega)]; exact h.res
  · rw [heap_setCell_self _ (heap_setCell_self _ g2)]; rfl
set_option maxHeartbeats 1000000 in
theorem c_repeatSpan (n r s : Int) (w : World) (hn0 : 0 ≤ n) (hn : n ≤ 9) (hr0 : -1 ≤ r) (hr : r ≤ 10000000000000) (hs0 : -1 ≤ s) (hs : s ≤ 10000000000000) :
    Calls Tryz.prog 96 #[.int .i64 n, .agg #[.int .i64 r, .int .i64 s]] w fun e w' =>
      e = .returned (.agg #[.int .i64 (rounds n.toNat (0, -1) (r, s)).1, .int .i64 (rounds n.toNat (0, -1) (r, s)).2]) ∧ Below w.heap.size w w' := by
  go_enter Tryz.func96, Tryz.ntmps96
  go_wp2_with fail
  go_loopw [6] (fun i wr => ∃ (j : Nat) (p q : Int), j ≤ n.toNat ∧ i = .int .i64 j ∧ RepAt w wr r s p q ∧ AtMost (p, q) (j * 10000000000000) ∧ rounds (n.toNat - j) (p, q) (r, s) = rounds n.toNat (0, -1) (r, s)) (fun i _ => n.toNat - (intOf i).toNat)
  case atStart =>
    obtain ⟨k0, k1, k2⟩ := heap3 w (.cells #[.int .i64 r, .int .i64 s] 123) (.cells #[.int .i64 0, .int .i64 0] 123) (.cells #[.int .i64 0, .int .i64 (-1)] 123)
    exact ⟨0, 0, -1, by omega, rfl, ⟨(((Below.refl _ _).alloc (Nat.le_refl _) _).alloc (by simp) _).alloc (by simp; omega) _, by simp, k0, k1, k2⟩, ⟨by simp, by simp, by simp, by simp⟩, rfl⟩
  case round =>
    obtain ⟨j, p, q, hj, rfl, hR, hA, hrun⟩ := hrel
    obtain ⟨a1, a2, a3, a4⟩ := hA
    simp only at a1 a2 a3 a4
    have b0 : wr.cell? ⟨w.heap.size, 0, none⟩ = some (.int .i64 r) := (cell_of_heap hR.body).trans rfl
    have b1 : wr.cell? ⟨w.heap.size, 1, none⟩ = some (.int .i64 s) := (cell_of_heap hR.body).trans rfl
    have c0 : wr.cell? ⟨w.heap.size + 1 + 1, 0, none⟩ = some (.int .i64 p) := (cell_of_heap hR.all).trans rfl
    have c1 : wr.cell? ⟨w.heap.size + 1 + 1, 1, none⟩ = some (.int .i64 q) := (cell_of_heap hR.all).trans rfl
    have HR : Hid (RepAt w wr r s p q) := hR
    by_cases hlt : j < n.toNat
    · have hlt' : (j : Int) < n := by omega
      rw [show n.toNat - j = (n.toNat - (j + 1)) + 1 from by omega, rounds] at hrun
      have HRR : Hid (_ = _) := hrun
      clear hrun hR
      go_wp2_with fail
      refine (c_then p q r s _ a1 (by omega) a3 (by omega) hr0 (by omega) hs0 (by omega)).mono ?_
      rintro e w2 ⟨rfl, hb2⟩
      have g2 := (hb2.block _ (by have := HR.out.size; omega)).trans HR.out.all
      have d0 : w2.cell? ⟨w.heap.size + 1 + 1, 0, none⟩ = some (.int .i64 p) := (cell_of_heap g2).trans rfl
      have d1 : w2.cell? ⟨w.heap.size + 1 + 1, 1, none⟩ = some (.int .i64 q) := (cell_of_heap g2).trans rfl
      have z0 : w2.frozen? ⟨w.heap.size + 1 + 1, 0, none⟩ = false := free_of_heap g2
      have z1 : w2.frozen? ⟨w.heap.size + 1 + 1, 1, none⟩ = false := free_of_heap g2
      have HN : Hid (_) := HR.out.next hb2 (behindI p r) (maxI q (behindI p s))
      clear hb2 g2 b0 b1 c0 c1
      go_wp2_with fail
      go_roundw
      case rel =>
        have s1 := AtMost.step (acc := (p, q)) (a := (r, s)) (c := j * 10000000000000) (e := 10000000000000) ⟨a1, a2, a3, a4⟩ ⟨hr0, hr, hs0, hs⟩ (by omega) (by omega)
        obtain ⟨t1, t2, t3, t4⟩ := s1
        exact ⟨j + 1, _, _, by omega, by go_num, HN.out, ⟨t1, by simp only at t2 ⊢; omega, t3, by simp only at t4 ⊢; omega⟩, HRR.out⟩
      case measure => simp [intOf]; omega
    · have hlt' : ¬ (j : Int) < n := by omega
      rw [show n.toNat - j = 0 from by omega, rounds] at hrun
      have HRR : Hid (_ = _) := hrun
      have r0 : wr.cell? ⟨w.heap.size + 1, 0, none⟩ = some (.int .i64 0) := (cell_of_heap hR.res).trans rfl
      have r1 : wr.cell? ⟨w.heap.size + 1, 1, none⟩ = some (.int .i64 0) := (cell_of_heap hR.res).trans rfl
      have z0 : wr.frozen? ⟨w.heap.size + 1, 0, none⟩ = false := free_of_heap hR.res
      have z1 : wr.frozen? ⟨w.heap.size + 1, 1, none⟩ = false := free_of_heap hR.res
      clear hrun hR hlt
      go_wp2_with fail
      refine bodyPost_ret (v := .agg #[.int .i64 p, .int .i64 q]) (by simp [results, Tryz.results96, go_sem, r0, r1]) rfl ⟨by rw [← HRR.out], ?_⟩
      exact ((HR.out.bel.setCell (p := ⟨w.heap.size + 1, 0, none⟩) (by simp) _).setCell (p := ⟨w.heap.size + 1, 1, none⟩) (by simp) _)
open Go.RowKit Go.Proofs.Herald
def ndCells (x : Nd) : List Value := [.int .i64 x.kind, .int .i64 x.key, .int .i64 x.times, .int .i64 x.ticks, .int .i64 x.body, .int .i64 x.els]
theorem heap4 (w : World) (A B C R : Obj) : ((((w.alloc A).alloc B).alloc C).alloc R).heap[w.heap.size]? = some A ∧ ((((w.alloc A).alloc B).alloc C).alloc R).heap[w.heap.size + 1]? = some B ∧
    ((((w.alloc A).alloc B).alloc C).alloc R).heap[w.heap.size + 1 + 1]? = some C ∧ ((((w.alloc A).alloc B).alloc C).alloc R).heap[w.heap.size + 1 + 1 + 1]? = some R := by
  obtain ⟨a, b, c⟩ := heap3 w A B C
  refine ⟨?_, ?_, ?_, heap_alloc_at _ _ _ (by simp)⟩
  · rw [Below.heap_alloc _ _ _ (by simp; omega)]; exact a
  · rw [Below.heap_alloc _ _ _ (by simp)]; exact b
  · rw [Below.heap_alloc _ _ _ (by simp)]; exact c
set_option maxHeartbeats 2000000 in
theorem c_statementSpan (t : ByteArray) (h : Hd) (b e : Nat) (hg : GoodHd t h) (p q r s : Int) (w : World) (hp0 : -1 ≤ p) (hp : p ≤ 10000000000000) (hq0 : -1 ≤ q) (hq : q ≤ 10000000000000) (hr0 : -1 ≤ r) (hr : r ≤ 10000000000000) (hs0 : -1 ≤ s) (hs : s ≤ 10000000000000) :
    Calls Tryz.prog 82 #[.agg (ndCells (ndOf t h b e)).toArray, .agg #[.int .i64 p, .int .i64 q], .agg #[.int .i64 r, .int .i64 s]] w fun e w' =>
      e = .returned (.agg #[.int .i64 (oneI t h (p, q) (r, s)).1, .int .i64 (oneI t h (p, q) (r, s)).2]) ∧ Below w.heap.size w w' := by
  have hbel : ∀ A B C R : Obj, Below w.heap.size w ((((w.alloc A).alloc B).alloc C).alloc R) := fun A B C R =>
    ((((Below.refl _ _).alloc (Nat.le_refl _) _).alloc (by simp) _).alloc (by simp; omega) _).alloc (by simp; omega) _
  have HBEL : Hid (∀ A B C R : Obj, Below w.heap.size w ((((w.alloc A).alloc B).alloc C).alloc R)) := hbel
  clear hbel
  rcases hg with ⟨hk, h1, h2⟩ | ⟨hk, h1, h2, h3, h4⟩ | ⟨hk, h1, h2, h3⟩ | ⟨hk, h1, h2, h3⟩ | ⟨hk, h1, h2, h3, h4⟩ | ⟨hk, h1, h2, h3, h4⟩
  · have HC : ndCells (ndOf t h b e) = [.int .i64 1, .int .i64 h.key, .int .i64 0, .int .i64 0, .int .i64 b, .int .i64 e] := by rw [ndOf_send b e hk]; rfl
    have HO : Hid (oneI t h (p, q) (r, s) = (0, -1)) := oneI_send (p, q) (r, s) hk
    rw [HC]
    clear HC hk
    go_enter Tryz.func82, Tryz.ntmps82
    go_wp2_with fail
    refine bodyPost_ret (v := .agg #[.int .i64 0, .int .i64 (-1)]) (by simp [results, Tryz.results82, go_sem]) rfl ⟨by rw [HO.out], ?_⟩
    exact HBEL.out _ _ _ _
  · have HC : ndCells (ndOf t h b e) = [.int .i64 2, .int .i64 h.key, .int .i64 0, .int .i64 h.n, .int .i64 b, .int .i64 e] := by rw [ndOf_wait b e hk]; rfl
    have HO : Hid (oneI t h (p, q) (r, s) = (h.n, -1)) := oneI_wait (p, q) (r, s) hk
    rw [HC]
    clear HC hk
    go_enter Tryz.func82, Tryz.ntmps82
    go_wp2_with fail
    refine bodyPost_ret (v := .agg #[.int .i64 h.n, .int .i64 (-1)]) (by simp [results, Tryz.results82, go_sem]) rfl ⟨by rw [HO.out], ?_⟩
    exact HBEL.out _ _ _ _
  · have HC : ndCells (ndOf t h b e) = [.int .i64 3, .int .i64 h.key, .int .i64 0, .int .i64 0, .int .i64 b, .int .i64 e] := by rw [ndOf_stop b e hk]; rfl
    have HO : Hid (oneI t h (p, q) (r, s) = (-1, 0)) := oneI_stop (p, q) (r, s) hk
    rw [HC]
    clear HC hk
    go_enter Tryz.func82, Tryz.ntmps82
    go_wp2_with fail
    refine bodyPost_ret (v := .agg #[.int .i64 (-1), .int .i64 0]) (by simp [results, Tryz.results82, go_sem]) rfl ⟨by rw [HO.out], ?_⟩
    exact HBEL.out _ _ _ _
  · have HC : ndCells (ndOf t h b e) = [.int .i64 4, .int .i64 h.key, .int .i64 0, .int .i64 h.n, .int .i64 b, .int .i64 e] := by rw [ndOf_ask b e hk]; rfl
    have HO : Hid (oneI t h (p, q) (r, s) = (maxI (behindI (h.n - 1) p) (behindI (h.n) r), maxI (behindI (h.n - 1) q) (behindI (h.n) s))) := oneI_ask (p, q) (r, s) hk h3
    rw [HC]
    clear HC hk
    go_enter Tryz.func82, Tryz.ntmps82
    go_wp2_with fail
    refine (c_answerSpan h.n p q r s _ h1 (by omega) hp0 (by omega) hq0 (by omega) hr0 (by omega) hs0 (by omega)).mono ?_
    rintro ee w1 ⟨rfl, hb1⟩
    have hz : w.heap.size + 4 ≤ w1.heap.size := by have := hb1.size; simp at this; omega
    obtain ⟨_, _, _, k3⟩ := heap4 w (.cells #[.int .i64 4, .int .i64 h.key, .int .i64 0, .int .i64 h.n, .int .i64 b, .int .i64 e] 127) (.cells #[.int .i64 p, .int .i64 q] 123) (.cells #[.int .i64 r, .int .i64 s] 123) (.cells #[.int .i64 0, .int .i64 0] 123)
    have g3 := (hb1.block (w.heap.size + 1 + 1 + 1) (by simp)).trans k3
    have r0 : w1.cell? ⟨w.heap.size + 1 + 1 + 1, 0, none⟩ = some (.int .i64 0) := (cell_of_heap g3).trans rfl
    have r1 : w1.cell? ⟨w.heap.size + 1 + 1 + 1, 1, none⟩ = some (.int .i64 0) := (cell_of_heap g3).trans rfl
    have z0 : w1.frozen? ⟨w.heap.size + 1 + 1 + 1, 0, none⟩ = false := free_of_heap g3
    have z1 : w1.frozen? ⟨w.heap.size + 1 + 1 + 1, 1, none⟩ = false := free_of_heap g3
    have HB : Hid (Below w.heap.size w w1) := (HBEL.out _ _ _ _).trans (hb1.mono (by simp; omega))
    clear hb1 g3 k3
    go_wp2_with fail
    refine bodyPost_ret (v := .agg #[.int .i64 (maxI (behindI (h.n - 1) p) (behindI (h.n) r)), .int .i64 (maxI (behindI (h.n - 1) q) (behindI (h.n) s))]) (by simp [results, Tryz.results82, go_sem, r0, r1]) rfl ⟨by rw [HO.out], ?_⟩
    exact (HB.out.setCell (p := ⟨w.heap.size + 1 + 1 + 1, 0, none⟩) (by simp; omega) _).setCell (p := ⟨w.heap.size + 1 + 1 + 1, 1, none⟩) (by simp; omega) _
  · have HC : ndCells (ndOf t h b e) = [.int .i64 5, .int .i64 h.key, .int .i64 h.m, .int .i64 h.n, .int .i64 b, .int .i64 e] := by rw [ndOf_retry b e hk]; rfl
    have HO : Hid (oneI t h (p, q) (r, s) = (maxI (behindI (triesS h.n h.m.toNat - 1) p) (behindI (triesS h.n h.m.toNat) r), maxI (behindI (triesS h.n h.m.toNat - 1) q) (behindI (triesS h.n h.m.toNat) s))) := by
      show _ = _
      have e1 : triesI h.n (h.m - 1).toNat = triesS h.n h.m.toNat := by rw [show h.m.toNat = (h.m - 1).toNat + 1 from by omega]; rfl
      rw [oneI_retry (p, q) (r, s) hk, e1]
    rw [HC]
    clear HC hk
    have hT := triesS_bound h.n (by omega) h2 h.m.toNat (by omega)
    have hT1 : 1 ≤ triesS h.n h.m.toNat := by rw [show h.m.toNat = (h.m - 1).toNat + 1 from by omega, triesS_succ]; have := triesS_bound h.n (by omega) h2 (h.m - 1).toNat (by omega); omega
    go_enter Tryz.func82, Tryz.ntmps82
    go_wp2_with (go_at_call 95; refine (c_allTries _ _ _ (by omega) (by omega) (by omega) (by omega)).mono ?_; rintro e w' ⟨rfl, rfl⟩)
    refine (c_answerSpan (triesS h.n h.m.toNat) p q r s _ hT1 hT.2 hp0 (by omega) hq0 (by omega) hr0 (by omega) hs0 (by omega)).mono ?_
    rintro ee w1 ⟨rfl, hb1⟩
    have hz : w.heap.size + 4 ≤ w1.heap.size := by have := hb1.size; simp at this; omega
    obtain ⟨_, _, _, k3⟩ := heap4 w (.cells #[.int .i64 5, .int .i64 h.key, .int .i64 h.m, .int .i64 h.n, .int .i64 b, .int .i64 e] 127) (.cells #[.int .i64 p, .int .i64 q] 123) (.cells #[.int .i64 r, .int .i64 s] 123) (.cells #[.int .i64 0, .int .i64 0] 123)
    have g3 := (hb1.block (w.heap.size + 1 + 1 + 1) (by simp)).trans k3
    have r0 : w1.cell? ⟨w.heap.size + 1 + 1 + 1, 0, none⟩ = some (.int .i64 0) := (cell_of_heap g3).trans rfl
    have r1 : w1.cell? ⟨w.heap.size + 1 + 1 + 1, 1, none⟩ = some (.int .i64 0) := (cell_of_heap g3).trans rfl
    have z0 : w1.frozen? ⟨w.heap.size + 1 + 1 + 1, 0, none⟩ = false := free_of_heap g3
    have z1 : w1.frozen? ⟨w.heap.size + 1 + 1 + 1, 1, none⟩ = false := free_of_heap g3
    have HB : Hid (Below w.heap.size w w1) := (HBEL.out _ _ _ _).trans (hb1.mono (by simp; omega))
    clear hb1 g3 k3
    go_wp2_with fail
    refine bodyPost_ret (v := .agg #[.int .i64 (maxI (behindI (triesS h.n h.m.toNat - 1) p) (behindI (triesS h.n h.m.toNat) r)), .int .i64 (maxI (behindI (triesS h.n h.m.toNat - 1) q) (behindI (triesS h.n h.m.toNat) s))]) (by simp [results, Tryz.results82, go_sem, r0, r1]) rfl ⟨by rw [HO.out], ?_⟩
    exact (HB.out.setCell (p := ⟨w.heap.size + 1 + 1 + 1, 0, none⟩) (by simp; omega) _).setCell (p := ⟨w.heap.size + 1 + 1 + 1, 1, none⟩) (by simp; omega) _
  · have HC : ndCells (ndOf t h b e) = [.int .i64 6, .int .i64 h.key, .int .i64 h.n, .int .i64 0, .int .i64 b, .int .i64 e] := by rw [ndOf_repeat b e hk]; rfl
    have HO : Hid (oneI t h (p, q) (r, s) = rounds h.n.toNat (0, -1) (p, q)) := oneI_repeat (p, q) (r, s) hk
    rw [HC]
    clear HC hk h3 h4
    go_enter Tryz.func82, Tryz.ntmps82
    go_wp2_with fail
    refine (c_repeatSpan h.n p q _ (by omega) h2 hp0 hp hq0 hq).mono ?_
    rintro ee w1 ⟨rfl, hb1⟩
    have hz : w.heap.size + 4 ≤ w1.heap.size := by have := hb1.size; simp at this; omega
    obtain ⟨_, _, _, k3⟩ := heap4 w (.cells #[.int .i64 6, .int .i64 h.key, .int .i64 h.n, .int .i64 0, .int .i64 b, .int .i64 e] 127) (.cells #[.int .i64 p, .int .i64 q] 123) (.cells #[.int .i64 r, .int .i64 s] 123) (.cells #[.int .i64 0, .int .i64 0] 123)
    have g3 := (hb1.block (w.heap.size + 1 + 1 + 1) (by simp)).trans k3
    have r0 : w1.cell? ⟨w.heap.size + 1 + 1 + 1, 0, none⟩ = some (.int .i64 0) := (cell_of_heap g3).trans rfl
    have r1 : w1.cell? ⟨w.heap.size + 1 + 1 + 1, 1, none⟩ = some (.int .i64 0) := (cell_of_heap g3).trans rfl
    have z0 : w1.frozen? ⟨w.heap.size + 1 + 1 + 1, 0, none⟩ = false := free_of_heap g3
    have z1 : w1.frozen? ⟨w.heap.size + 1 + 1 + 1, 1, none⟩ = false := free_of_heap g3
    have HB : Hid (Below w.heap.size w w1) := (HBEL.out _ _ _ _).trans (hb1.mono (by simp; omega))
    clear hb1 g3 k3
    go_wp2_with fail
    refine bodyPost_ret (v := .agg #[.int .i64 (rounds h.n.toNat (0, -1) (p, q)).1, .int .i64 (rounds h.n.toNat (0, -1) (p, q)).2]) (by simp [results, Tryz.results82, go_sem, r0, r1]) rfl ⟨by rw [HO.out], ?_⟩
    exact (HB.out.setCell (p := ⟨w.heap.size + 1 + 1 + 1, 0, none⟩) (by simp; omega) _).setCell (p := ⟨w.heap.size + 1 + 1 + 1, 1, none⟩) (by simp; omega) _
def ndsCells (l : List Nd) : List Value := l.flatMap ndCells
theorem ndsCells_get : ∀ (l : List Nd) (i : Nat) (hi : i < l.length) (j : Nat) (_ : j < 6), (ndsCells l)[i * 6 + j]? = (ndCells l[i])[j]? := by
  intro l
  induction l with
  | nil => intro i hi; simp at hi
  | cons x r ih =>
    intro i hi j hj
    have hl : (ndCells x).length = 6 := rfl
    cases i with
    | zero =>
      simp only [ndsCells, List.flatMap_cons, Nat.zero_mul, Nat.zero_add, List.getElem_cons_zero]
      rw [List.getElem?_append_left (by omega)]
    | succ i =>
      have := ih i (by simpa using hi) j hj
      simp only [ndsCells, List.flatMap_cons, List.getElem_cons_succ] at this ⊢
      rw [List.getElem?_append_right (by omega), show (i + 1) * 6 + j - (ndCells x).length = i * 6 + j from by omega]
      exact this
/-- The statements' cells lie at a place of a block. -/
def NdsAt (w : World) (b off : Nat) (l : List Nd) : Prop := ∀ (i : Nat) (hi : i < l.length) (j : Nat) (u : Value), (ndCells l[i])[j]? = some u → w.cell? ⟨b, off + i * 6 + j, none⟩ = some u
theorem NdsAt.keep {w w' : World} {b off : Nat} {l : List Nd} (h : NdsAt w b off l) (hk : w'.heap[b]? = w.heap[b]?) : NdsAt w' b off l := fun i hi j u hj =>
  (World.cell?_of_block hk).trans (h i hi j u hj)
theorem NdsAt.sub {w : World} {b off : Nat} {l : List Nd} (h : NdsAt w b off l) (k n : Nat) (us : List Nd) (hu : us = (l.drop k).take n) : NdsAt w b (off + k * 6) us := by
  subst hu
  intro i hi j u hj
  simp at hi
  have e : ((l.drop k).take n)[i] = l[k + i]'(by omega) := by simp
  rw [e] at hj
  have := h (k + i) (by omega) j u hj
  rw [show off + k * 6 + i * 6 + j = off + (k + i) * 6 + j from by omega]
  exact this
/-- What blockSpan gives back, of a tree d deep that lies flat. -/
def SpanSaid (t : ByteArray) (d : Nat) : Prop :=
  ∀ (tr : Tree d) (a : Option Addr) (b off cap n : Nat) (w : World), n = (flatT t d tr).length → GoodT t d tr → sizeT d tr ≤ 400 → d ≤ 5 → n ≤ cap → cap ≤ maxLen → (0 < n → a = some ⟨b, off, none⟩ ∧ b < w.heap.size ∧ NdsAt w b off (flatT t d tr)) →
    Calls Tryz.prog 63 #[.slice a n cap] w fun e w' => e = .returned (.agg #[.int .i64 (lastsT t d tr).1, .int .i64 (lastsT t d tr).2]) ∧ Below w.heap.size w w'
end Go.Proofs.YtmmmnghiegajmabGreat
