import Derived.Test.YtmmmnghiegajmaaM09
import Derived.Laws.BytesArg
import Derived.Test.YtmmmnghiegajmaaM10
/- The document's own journal: a number as eight bytes, the bits of bytes, the check of bytes. -/
namespace Go.Proofs.Herald
/-- Byte k of eight, the high one first. -/
def byteAt (n : Int) (k : Nat) : Int := n / 2 ^ (56 - 8 * k) % 256
def eightL (n : Int) : List Int := (List.range 8).map (byteAt n)
def eightUpto (n : Int) (k : Nat) : List Int := (List.range k).map (byteAt n) ++ List.replicate (8 - k) 0
theorem eightUpto_len {n : Int} {k : Nat} (h : k ≤ 8) : (eightUpto n k).length = 8 := by unfold eightUpto; simp; omega
theorem eightUpto_succ {n : Int} {k : Nat} (h : k < 8) : (eightUpto n k).set k (byteAt n k) = eightUpto n (k + 1) := by
  match k, h with
  | 0, _ => rfl
  | 1, _ => rfl
  | 2, _ => rfl
  | 3, _ => rfl
  | 4, _ => rfl
  | 5, _ => rfl
  | 6, _ => rfl
  | 7, _ => rfl
end Go.Proofs.Herald
namespace Go.Proofs.Ytmmmnghiegajmaa
open Go.RowKit Go.Proofs.Herald
theorem Try.infoByte : (Try.prog.info? 5).map (fun i => (i.zero, i.size, i.bytes)) = some (some (.int .u8 0), 1, 1) := by kernel_rfl
set_option maxRecDepth 20000 in
set_option maxHeartbeats 4000000 in
theorem eight_any (n : Int) (w : World) :
    Calls Try.prog 176 #[.int .i64 n] w fun e w' => e = .returned (.string (strOfNums (eightL n))) ∧ Below w.heap.size w w' := by
  obtain ⟨i0, hi, hz0, hz1, hz2⟩ := info_parts Try.infoByte
  go_enter Try.func176, Try.ntmps176
  go_wp2_with (at_make; refine wpList_make_full _ rfl _ _ 139 rfl w.heap.size 5 i0 _ 1 Try.underlying139 hi hz0 hz1 _ _ _ _ 8 rfl rfl rfl rfl (by rw [hz2]; omega) (by unfold maxLen; omega) (Nat.le_refl _) ?_)
  intro w1 hown1 hgrow1
  have HO1 : Hid (w1.ownsRow w.heap.size 5 1 (.slice (some ⟨w.heap.size, 0, none⟩) 8 8) 8 ((eightUpto n 0).map fun z => Value.int .u8 z)) := by
    have e : (madeCells #[Value.int IntKind.u8 0] 8).toList = ((eightUpto n 0).map fun z => Value.int .u8 z) := by simp [madeCells, List.range, List.range.loop, eightUpto, List.replicate]
    rw [← e]; exact hown1
  have HB1 : Hid (Below w.heap.size w w1) := (Below.refl _ _).grown hgrow1 (Nat.le_refl _) (fun k hk => by cases hk)
  clear hown1 hgrow1 hi hz0 hz1 hz2
  go_wp2_with fail
  go_loopw [4] (fun i wr => ∃ k : Nat, k ≤ 8 ∧ i = .int .i64 k ∧ Hid (wr.ownsRow w.heap.size 5 1 (.slice (some ⟨w.heap.size, 0, none⟩) 8 8) 8 ((eightUpto n k).map fun z => Value.int .u8 z) ∧ Below w.heap.size w wr)) (fun i _ => 8 - (intOf i).toNat)
  case atStart => exact ⟨0, Nat.zero_le _, rfl, HO1.out, HB1.out⟩
  case round =>
    obtain ⟨k, hk, rfl, HB⟩ := hrel
    have hbl := eightUpto_len (n := n) hk
    by_cases hlt : k < 8
    · obtain ⟨u, hu⟩ : ∃ u, u = (eightUpto n k)[k]'(by omega) := ⟨_, rfl⟩
      obtain ⟨c0, z0⟩ := own_get HB.out.1 k (.int .u8 u) (by simp [hbl, hlt, hu])
      clear hu
      have HN : Hid ((wr.setCell ⟨w.heap.size, k, none⟩ (.int .u8 (byteAt n k))).ownsRow w.heap.size 5 1 (.slice (some ⟨w.heap.size, 0, none⟩) 8 8) 8 ((eightUpto n (k + 1)).map fun z => Value.int .u8 z) ∧ Below w.heap.size w (wr.setCell ⟨w.heap.size, k, none⟩ (.int .u8 (byteAt n k)))) := by
        have h := own_set HB.out.1 k (.int .u8 (byteAt n k))
        rw [← eightUpto_succ hlt, List.map_set]
        exact ⟨h, HB.out.2.setCell (Nat.le_refl _) _⟩
      clear hbl
      go_wp2_with fail
      go_roundw
      case rel => exact ⟨k + 1, by omega, by go_num, HN⟩
      case measure => simp [intOf]; omega
    · have hk8 : k = 8 := by omega
      subst hk8
      have HC : (convert 139 9 (.slice (some ⟨w.heap.size, 0, none⟩) 8 8)).run Try.prog wr = .ok (.string (strOfNums (eightL n))) wr :=
        run_convert_bytes_arg (w := wr) 139 5 Try.underlying139 Try.underlying5 w.heap.size 0 8 8 (eightL n) rfl (fun i hi => by
          have h := own_get HB.out.1 i (.int .u8 ((eightL n).getD i 0)) (by
            match i, hi with
            | 0, _ => rfl
            | 1, _ => rfl
            | 2, _ => rfl
            | 3, _ => rfl
            | 4, _ => rfl
            | 5, _ => rfl
            | 6, _ => rfl
            | 7, _ => rfl)
          rw [Nat.zero_add]; exact h.1) 9 Try.underlying9
      clear hbl
      go_wp2_with fail
      go_ret
      exact ⟨rfl, HB.out.2⟩
end Go.Proofs.Ytmmmnghiegajmaa
namespace Go.Proofs.Herald
open Go.RowKit
/-- A bit of a byte, the highest first. -/
def bitF (b : Int) (m : Nat) : Bool := Go.bits BinOp.and IntKind.i64 (wrap64 b / 2 ^ (7 - m)) 1 == 1
/-- Bit i of bytes. -/
def bitOf (s : ByteArray) (i : Nat) : Bool := bitF ((s.data.getD (i / 8) 0).toNat : Int) (i % 8)
def bitsUpto (s : ByteArray) (n : Nat) : List Bool := (List.range n).map (bitOf s)
theorem bitsUpto_succ (s : ByteArray) (k m : Nat) (hk : k < s.size) (hm : m < 8) : bitsUpto s (k * 8 + m + 1) = bitsUpto s (k * 8 + m) ++ [bitF (s[k].toNat : Int) m] := by
  have e1 : (k * 8 + m) / 8 = k := by omega
  have e2 : (k * 8 + m) % 8 = m := by omega
  have e3 : s.data.getD k 0 = s[k] := by
    have hk2 : k < s.data.size := hk
    rw [Array.getD_eq_getD_getElem?, Array.getElem?_eq_getElem hk2]; rfl
  have e : bitOf s (k * 8 + m) = bitF (s[k].toNat : Int) m := by unfold bitOf; rw [e1, e2, e3]
  unfold bitsUpto
  rw [List.range_succ, List.map_append, List.map_cons, List.map_nil, e]
end Go.Proofs.Herald
namespace Go.Proofs.Ytmmmnghiegajmaa
open Go.RowKit Go.Proofs.Herald
set_option maxRecDepth 20000 in
set_option maxHeartbeats 4000000 in
theorem bits_any (s : ByteArray) (hs : s.size ≤ 1000) (w : World) :
    Calls Try.prog 156 #[.string s] w fun e w' => ∃ v, e = .returned v ∧ w'.ownsRow w.heap.size 4 1 v (s.size * 8) ((bitsUpto s (s.size * 8)).map fun z : Bool => Value.bool z) ∧ Below w.heap.size w w' := by
  go_enter Try.func156, Try.ntmps156
  go_wp2_with fail
  go_loopw [3, 4] (fun v i wr => ∃ k : Nat, k ≤ s.size ∧ i = .int .i64 k ∧ Hid (wr.ownsRow w.heap.size 4 1 v (k * 8) ((bitsUpto s (k * 8)).map fun z : Bool => Value.bool z)) ∧ Hid (Below w.heap.size w wr)) (fun _ i _ => s.size - (intOf i).toNat)
  case atStart => exact ⟨0, Nat.zero_le _, rfl, World.ownsRow_nil _ _ _ _, Below.refl _ _⟩
  case round =>
    obtain ⟨k, hk, rfl, HV, HB⟩ := hrel
    by_cases hlt : k < s.size
    · go_wp2_with fail
      go_loopw [3, 5] (fun v' j wr' => ∃ m : Nat, m ≤ 8 ∧ j = .int .i64 (7 - (m : Int)) ∧ Hid (wr'.ownsRow w.heap.size 4 1 v' (k * 8 + m) ((bitsUpto s (k * 8 + m)).map fun z : Bool => Value.bool z)) ∧ Hid (Below w.heap.size w wr')) (fun _ j _ => (intOf j + 1).toNat)
      case atStart => exact ⟨0, Nat.zero_le _, rfl, HV, HB⟩
      case round =>
        obtain ⟨m, hm, rfl, HC, HD⟩ := hrel
        by_cases hlm : m < 8
        · have HSU := bitsUpto_succ s k m hlt hlm
          go_wp2_with (at_builtin; refine wpList_push wr w rfl (.tmp 16) (.tmp 25) 161 rfl 4 _ 1 1 Try.underlying161 Try.infoBool rfl (by decide) (by decide) w.heap.size _ _ _ (by rfl) HC.out [_] (by rfl) rfl (by simp [Value.oneCell']) (by omega) HD.out HD.out.size ?_)
          intro v2 w2 hown2 hb2 _ _
          have HV2 : Hid (w2.ownsRow w.heap.size 4 1 v2 (k * 8 + (m + 1)) ((bitsUpto s (k * 8 + (m + 1))).map fun z : Bool => Value.bool z)) := by
            rw [← Nat.add_assoc, HSU, List.map_append]; exact hown2
          have HB2 : Hid (Below w.heap.size w w2) := hb2
          clear hown2 hb2 HSU
          go_wp2_with fail
          go_roundw
          case rel => exact ⟨m + 1, by omega, by go_num, HV2, HB2⟩
          case measure => simp [intOf]; omega
        · have hm8 : m = 8 := by omega
          subst hm8
          go_wp2_with fail
          go_roundw
          case rel => exact ⟨k + 1, by omega, by go_num, by rw [show (k + 1) * 8 = k * 8 + 8 from by omega]; exact HC.out, HD⟩
          case measure => simp [intOf]; omega
    · have hk2 : k = s.size := by omega
      subst hk2
      go_wp2_with fail
      go_ret
      exact ⟨_, rfl, HV.out, HB.out⟩
end Go.Proofs.Ytmmmnghiegajmaa
namespace Go.Proofs.Herald
open Go.RowKit
def flipAt (l : List Bool) (i : Nat) : List Bool := l.set i (!(l.getD i false))
/-- The first k bits are turned over. -/
def flipN (l : List Bool) : Nat → List Bool
  | 0 => l
  | k + 1 => flipAt (flipN l k) k
/-- Is x to the k in the divisor? -/
def divB (k : Nat) : Bool := Go.bits BinOp.and IntKind.i64 (4129 / 2 ^ k) 1 == 1
/-- The divisor's terms up to k are taken off, below bit i. -/
def subN (l : List Bool) (i : Nat) : Nat → List Bool
  | 0 => l
  | k + 1 => if divB k then flipAt (subN l i k) (i + 16 - k) else subN l i k
/-- The first i bits are divided. -/
def divN (l : List Bool) : Nat → List Bool
  | 0 => l
  | i + 1 => if (divN l i).getD i false then subN ((divN l i).set i false) i 16 else divN l i
/-- The bits from n on, up to k of them, in two bytes. -/
def outN (l : List Bool) (n : Nat) : Nat → List Int
  | 0 => [0, 0]
  | k + 1 => if l.getD (n + k) false then (outN l n k).set (k / 8) (Go.bits BinOp.or IntKind.u8 ((outN l n k).getD (k / 8) 0) (2 ^ (7 - k % 8))) else outN l n k
/-- What is divided. -/
def headL (s : ByteArray) : List Bool := flipN (bitsUpto s (s.size * 8)) 16 ++ List.replicate 16 false
def checkS (s : ByteArray) : ByteArray := strOfNums (outN (divN (headL s) (s.size * 8)) (s.size * 8) 16)
theorem flipAt_len (l : List Bool) (i : Nat) : (flipAt l i).length = l.length := by simp [flipAt]
theorem flipN_len (l : List Bool) : ∀ k, (flipN l k).length = l.length
  | 0 => rfl
  | k + 1 => by rw [flipN, flipAt_len, flipN_len l k]
theorem subN_len (l : List Bool) (i : Nat) : ∀ k, (subN l i k).length = l.length
  | 0 => rfl
  | k + 1 => by
    rw [subN]
    split
    · rw [flipAt_len, subN_len l i k]
    · exact subN_len l i k
theorem divN_len (l : List Bool) : ∀ k, (divN l k).length = l.length
  | 0 => rfl
  | k + 1 => by
    rw [divN]
    split
    · rw [subN_len, List.length_set, divN_len l k]
    · exact divN_len l k
theorem outN_len (l : List Bool) (n : Nat) : ∀ k, (outN l n k).length = 2
  | 0 => rfl
  | k + 1 => by
    rw [outN]
    split
    · rw [List.length_set, outN_len l n k]
    · exact outN_len l n k
theorem bitsUpto_len (s : ByteArray) (n : Nat) : (bitsUpto s n).length = n := by simp [bitsUpto]
end Go.Proofs.Herald
namespace Go.Proofs.Ytmmmnghiegajmaa
open Go.RowKit Go.Proofs.Herald
def boolsV (l : List Bool) : List Value := l.map fun z : Bool => Value.bool z
theorem boolsV_get {l : List Bool} {i : Nat} (h : i < l.length) : (boolsV l)[i]? = some (.bool (l.getD i false)) := by
  unfold boolsV
  rw [List.getElem?_map, List.getElem?_eq_getElem h]
  simp [List.getD, h]
theorem boolsV_set (l : List Bool) (i : Nat) (b : Bool) : boolsV (l.set i b) = (boolsV l).set i (.bool b) := by unfold boolsV; rw [List.map_set]
set_option maxRecDepth 20000 in
set_option maxHeartbeats 4000000 in
theorem Check_any (s : ByteArray) (hs2 : 2 ≤ s.size) (hs : s.size ≤ 1000) (w : World) :
    Calls Try.prog 132 #[.string s] w fun e w' => e = .returned (.string (checkS s)) ∧ Below w.heap.size w w' := by
  obtain ⟨i0, hi, hz0, hz1, hz2⟩ := info_parts Try.infoByte
  obtain ⟨N, hN⟩ : ∃ N, N = s.size * 8 := ⟨_, rfl⟩
  have HN : Hid (N = s.size * 8) := hN
  obtain ⟨L, hL⟩ : ∃ L, L = bitsUpto s N := ⟨_, rfl⟩
  have hLl : L.length = N := by rw [hL, bitsUpto_len]
  have HLL : Hid (L.length = N) := hLl
  have HB : Hid (∀ w : World, Calls Try.prog 156 #[.string s] w fun e w' => ∃ v, e = .returned v ∧ w'.ownsRow w.heap.size 4 1 v N (boolsV L) ∧ Below w.heap.size w w') := fun w => by
    rw [hL, hN]; exact bits_any s hs w
  have HS : Hid (checkS s = strOfNums (outN (divN (flipN L 16 ++ List.replicate 16 false) N) N 16)) := by
    show _ = _
    rw [hL, hN]; rfl
  have hN16 : 16 ≤ N := by omega
  have hN8 : N ≤ 8000 := by omega
  clear hN hL hLl hs2 hs
  go_enter Try.func132, Try.ntmps132
  go_wp2_with fail
  refine (HB.out _).mono ?_
  rintro e w1 ⟨v, rfl, ho1, hb1⟩
  obtain ⟨g, cap, rfl, hgB, _⟩ := ho1.form (by omega)
  have H1 : Hid (w1.ownsRow w.heap.size 4 1 (.slice (some ⟨g, 0, none⟩) N cap) N (boolsV L) ∧ Below w.heap.size w w1) := ⟨ho1, hb1⟩
  obtain ⟨hcap, _, hmax⟩ := own_cap (own0 ho1)
  unfold maxLen at hmax
  clear ho1 hb1 HB
  go_wp2_with fail
  go_loopw [4] (fun i wr => ∃ k : Nat, k ≤ 16 ∧ i = .int .i64 k ∧ Hid (wr.ownsRow w.heap.size 4 1 (.slice (some ⟨g, 0, none⟩) N cap) N (boolsV (flipN L k)) ∧ Below w.heap.size w wr)) (fun i _ => 16 - (intOf i).toNat)
  case atStart => exact ⟨0, Nat.zero_le _, rfl, H1⟩
  case round =>
    obtain ⟨k, hk, rfl, HK⟩ := hrel
    by_cases hlt : k < 16
    · obtain ⟨c0, z0⟩ := own_get HK.out.1 k _ (boolsV_get (by rw [flipN_len, HLL.out]; omega))
      have HS2 : Hid ((wr.setCell ⟨g, k, none⟩ (.bool (!(flipN L k).getD k false))).ownsRow w.heap.size 4 1 (.slice (some ⟨g, 0, none⟩) N cap) N (boolsV (flipN L (k + 1))) ∧ Below w.heap.size w (wr.setCell ⟨g, k, none⟩ (.bool (!(flipN L k).getD k false)))) := by
        refine ⟨?_, HK.out.2.setCell (p := ⟨g, k, none⟩) hgB _⟩
        have h := own_set HK.out.1 k (.bool (!(flipN L k).getD k false))
        rw [← boolsV_set] at h
        exact h
      generalize (flipN L k).getD k false = bb at *
      have hkN : k < N := by omega
      go_wp2_with fail
      go_roundw
      case rel => exact ⟨k + 1, by omega, by go_num, HS2⟩
      case measure => simp [intOf]; omega
    · have hk16 : k = 16 := by omega
      rw [hk16] at HK
      clear hk16
      go_wp2_with fail
      go_loopw [3, 6] (fun v i wr' => ∃ k : Nat, k ≤ 16 ∧ i = .int .i64 k ∧ Hid (wr'.ownsRow w.heap.size 4 1 v (N + k) (boolsV (flipN L 16 ++ List.replicate k false)) ∧ Below w.heap.size w wr')) (fun _ i _ => 16 - (intOf i).toNat)
      case atStart =>
        refine ⟨0, Nat.zero_le _, rfl, ?_⟩
        rw [List.replicate_zero, List.append_nil]
        exact HK
      case round =>
        obtain ⟨m, hm2, rfl, HA⟩ := hrel
        by_cases hlt2 : m < 16
        · go_wp2_with (at_builtin; refine wpList_push wr w rfl (.tmp 31) (.tmp 32) 161 rfl 4 _ 1 1 Try.underlying161 Try.infoBool rfl (by decide) (by decide) w.heap.size _ _ _ (by rfl) HA.out.1 [_] (by rfl) rfl (by simp [Value.oneCell']) (by omega) HA.out.2 HA.out.2.size ?_)
          intro v2 w2 hown2 hb2 _ _
          have HV2 : Hid (w2.ownsRow w.heap.size 4 1 v2 (N + (m + 1)) (boolsV (flipN L 16 ++ List.replicate (m + 1) false)) ∧ Below w.heap.size w w2) := by
            refine ⟨?_, hb2⟩
            rw [← Nat.add_assoc, List.replicate_succ', ← List.append_assoc]
            unfold boolsV at hown2 ⊢
            rw [List.map_append]
            exact hown2
          clear hown2 hb2
          go_wp2_with fail
          go_roundw
          case rel => exact ⟨m + 1, by omega, by go_num, HV2⟩
          case measure => simp [intOf]; omega
        · have hm16 : m = 16 := by omega
          rw [hm16] at HA
          clear HK H1 hlt hk hm16
          obtain ⟨L2, hL2⟩ : ∃ L2, L2 = flipN L 16 ++ List.replicate 16 false := ⟨_, rfl⟩
          rw [← hL2] at HA HS
          have hL2l : L2.length = N + 16 := by rw [hL2]; simp [flipN_len, HLL.out]
          have HL2 : Hid (L2.length = N + 16) := hL2l
          clear hL2 hL2l
          obtain ⟨g2, cap2, hv2, hg2B, _⟩ := HA.out.1.form (by omega)
          subst hv2
          obtain ⟨hcap2, _, hmax2⟩ := own_cap (own0 HA.out.1)
          unfold maxLen at hmax2
          clear hcap hmax hgB
          go_wp2_with fail
          go_loopw [7] (fun i wr' => ∃ k : Nat, k ≤ N ∧ i = .int .i64 k ∧ Hid (wr'.ownsRow w.heap.size 4 1 (.slice (some ⟨g2, 0, none⟩) (N + 16) cap2) (N + 16) (boolsV (divN L2 k)) ∧ Below w.heap.size w wr')) (fun i _ => N - (intOf i).toNat)
          case atStart => exact ⟨0, Nat.zero_le _, rfl, HA⟩
          case round =>
            obtain ⟨k, hk, rfl, HK⟩ := hrel
            by_cases hlt : k < N
            · obtain ⟨c0, z0⟩ := own_get HK.out.1 k _ (boolsV_get (by rw [divN_len, HL2.out]; omega))
              cases hb : (divN L2 k).getD k false with
              | false =>
                rw [hb] at c0
                have HE : Hid (divN L2 (k + 1) = divN L2 k) := by show _ = _; rw [divN, hb]; rfl
                clear hb
                go_wp2_with fail
                go_roundw
                case rel => exact ⟨k + 1, by omega, by go_num, by rw [HE.out]; exact HK.out⟩
                case measure => simp [intOf]; omega
              | true =>
                rw [hb] at c0
                have HE : Hid (divN L2 (k + 1) = subN ((divN L2 k).set k false) k 16) := by show _ = _; rw [divN, hb]; rfl
                clear hb
                obtain ⟨L3, hL3⟩ : ∃ L3, L3 = (divN L2 k).set k false := ⟨_, rfl⟩
                rw [← hL3] at HE
                have HL3 : Hid (L3.length = N + 16) := by show _ = _; rw [hL3, List.length_set, divN_len, HL2.out]
                have HS3 : Hid ((wr.setCell ⟨g2, k, none⟩ (.bool false)).ownsRow w.heap.size 4 1 (.slice (some ⟨g2, 0, none⟩) (N + 16) cap2) (N + 16) (boolsV L3) ∧ Below w.heap.size w (wr.setCell ⟨g2, k, none⟩ (.bool false))) := by
                  refine ⟨?_, HK.out.2.setCell (p := ⟨g2, k, none⟩) hg2B _⟩
                  have h := own_set HK.out.1 k (.bool false)
                  rw [← boolsV_set, ← hL3] at h
                  exact h
                clear hL3 HK
                go_wp2_with fail
                go_loopw [8] (fun i wr' => ∃ j : Nat, j ≤ 16 ∧ i = .int .i64 j ∧ Hid (wr'.ownsRow w.heap.size 4 1 (.slice (some ⟨g2, 0, none⟩) (N + 16) cap2) (N + 16) (boolsV (subN L3 k j)) ∧ Below w.heap.size w wr')) (fun i _ => 16 - (intOf i).toNat)
                case atStart => exact ⟨0, Nat.zero_le _, rfl, HS3⟩
                case round =>
                  obtain ⟨j, hj, rfl, HJ⟩ := hrel
                  by_cases hlj : j < 16
                  · obtain ⟨e0, f0⟩ := own_get HJ.out.1 (k + 16 - j) _ (boolsV_get (by rw [subN_len, HL3.out]; omega))
                    have hij : ((k : Int) + 16 - (j : Int)).toNat = k + 16 - j := by omega
                    cases hd : divB j with
                    | true =>
                      have HE2 : Hid (subN L3 k (j + 1) = flipAt (subN L3 k j) (k + 16 - j)) := by show _ = _; rw [subN, hd]; rfl
                      have HS4 : Hid ((wr.setCell ⟨g2, k + 16 - j, none⟩ (.bool (!(subN L3 k j).getD (k + 16 - j) false))).ownsRow w.heap.size 4 1 (.slice (some ⟨g2, 0, none⟩) (N + 16) cap2) (N + 16) (boolsV (subN L3 k (j + 1))) ∧ Below w.heap.size w (wr.setCell ⟨g2, k + 16 - j, none⟩ (.bool (!(subN L3 k j).getD (k + 16 - j) false)))) := by
                        refine ⟨?_, HJ.out.2.setCell (p := ⟨g2, k + 16 - j, none⟩) hg2B _⟩
                        have h := own_set HJ.out.1 (k + 16 - j) (.bool (!(subN L3 k j).getD (k + 16 - j) false))
                        rw [← boolsV_set] at h
                        rw [HE2.out]
                        exact h
                      unfold divB at hd
                      generalize (subN L3 k j).getD (k + 16 - j) false = bb at *
                      go_wp2_with fail
                      go_roundw
                      case rel => exact ⟨j + 1, by omega, by go_num, HS4⟩
                      case measure => simp [intOf]; omega
                    | false =>
                      have HE2 : Hid (subN L3 k (j + 1) = subN L3 k j) := by show _ = _; rw [subN, hd]; rfl
                      unfold divB at hd
                      go_wp2_with fail
                      go_roundw
                      case rel => exact ⟨j + 1, by omega, by go_num, by rw [HE2.out]; exact HJ.out⟩
                      case measure => simp [intOf]; omega
                  · have hj16 : j = 16 := by omega
                    rw [hj16] at HJ
                    clear hj16
                    go_wp2_with fail
                    go_roundw
                    case rel => exact ⟨k + 1, by omega, by go_num, by rw [HE.out]; exact HJ.out⟩
                    case measure => simp [intOf]; omega
            · have hkN : k = N := by omega
              rw [hkN] at HK
              clear hkN
              obtain ⟨L4, hL4⟩ : ∃ L4, L4 = divN L2 N := ⟨_, rfl⟩
              rw [← hL4] at HK HS
              have HL4 : Hid (L4.length = N + 16) := by show _ = _; rw [hL4, divN_len, HL2.out]
              clear hL4 HA
              go_wp2_with (at_make; refine wpList_make_full _ rfl _ _ 139 rfl w.heap.size 5 i0 _ 1 Try.underlying139 hi hz0 hz1 _ _ _ _ 2 rfl rfl rfl rfl (by rw [hz2]; omega) (by unfold maxLen; omega) HK.out.2.size ?_)
              intro w1 hown1 hgrow1
              obtain ⟨o, ho⟩ : ∃ o, o = wr.heap.size := ⟨_, rfl⟩
              rw [← ho] at hown1 ⊢
              have hoB : w.heap.size ≤ o := by rw [ho]; exact HK.out.2.size
              have H5 : Hid (w1.ownsRow w.heap.size 4 1 (.slice (some ⟨g2, 0, none⟩) (N + 16) cap2) (N + 16) (boolsV L4) ∧ w1.ownsRow w.heap.size 5 1 (.slice (some ⟨o, 0, none⟩) 2 2) 2 ((outN L4 N 0).map fun z => Value.int .u8 z) ∧ Below w.heap.size w w1) := by
                refine ⟨own_stays HK.out.1 fun b hb => ?_, ?_, HK.out.2.grown hgrow1 HK.out.2.size (fun k hk => by cases hk)⟩
                · obtain ⟨c, hc⟩ := own_block (own0 HK.out.1) hb
                  exact hgrow1.block b (heap_lt hc) (by simp)
                · have e : (madeCells #[Value.int IntKind.u8 0] 2).toList = ((outN L4 N 0).map fun z => Value.int .u8 z) := by simp [madeCells, List.range, List.range.loop, outN]
                  rw [← e]; exact hown1
              clear hown1 hgrow1 ho HK hi hz0 hz1 hz2
              go_wp2_with fail
              go_loopw [10] (fun i wr' => ∃ k : Nat, k ≤ 16 ∧ i = .int .i64 k ∧ Hid (wr'.ownsRow w.heap.size 4 1 (.slice (some ⟨g2, 0, none⟩) (N + 16) cap2) (N + 16) (boolsV L4) ∧ wr'.ownsRow w.heap.size 5 1 (.slice (some ⟨o, 0, none⟩) 2 2) 2 ((outN L4 N k).map fun z => Value.int .u8 z) ∧ Below w.heap.size w wr')) (fun i _ => 16 - (intOf i).toNat)
              case atStart => exact ⟨0, Nat.zero_le _, rfl, H5⟩
              case round =>
                clear H5
                obtain ⟨j, hj, rfl, HJ⟩ := hrel
                by_cases hlj : j < 16
                · obtain ⟨e0, f0⟩ := own_get HJ.out.1 (N + j) _ (boolsV_get (by rw [HL4.out]; omega))
                  cases hb : L4.getD (N + j) false with
                  | false =>
                    rw [hb] at e0
                    have HE : Hid (outN L4 N (j + 1) = outN L4 N j) := by show _ = _; rw [outN, hb]; rfl
                    clear hb
                    go_wp2_with fail
                    go_roundw
                    case rel => exact ⟨j + 1, by omega, by go_num, by rw [HE.out]; exact HJ.out⟩
                    case measure => simp [intOf]; omega
                  | true =>
                    rw [hb] at e0
                    obtain ⟨x0, x1, hx⟩ : ∃ x0 x1, outN L4 N j = [x0, x1] := by
                      have hl := outN_len L4 N j
                      match h : outN L4 N j, hl with
                      | [x0, x1], _ => exact ⟨x0, x1, rfl⟩
                    have HE : Hid (outN L4 N (j + 1) = [x0, x1].set (j / 8) (Go.bits BinOp.or IntKind.u8 ([x0, x1].getD (j / 8) 0) (2 ^ (7 - j % 8)))) := by show _ = _; rw [outN, hb, hx]; rfl
                    have HJ2 := HJ.out
                    rw [hx] at HJ2
                    obtain ⟨x0c, x0f⟩ := own_get HJ2.2.1 0 (.int .u8 x0) rfl
                    obtain ⟨x1c, x1f⟩ := own_get HJ2.2.1 1 (.int .u8 x1) rfl
                    have HSO : Hid (∀ i z, i < 2 → (wr.setCell ⟨o, i, none⟩ (.int .u8 z)).drew.ownsRow w.heap.size 4 1 (.slice (some ⟨g2, 0, none⟩) (N + 16) cap2) (N + 16) (boolsV L4) ∧ (wr.setCell ⟨o, i, none⟩ (.int .u8 z)).drew.ownsRow w.heap.size 5 1 (.slice (some ⟨o, 0, none⟩) 2 2) 2 (([x0, x1].set i z).map fun z => Value.int .u8 z) ∧ Below w.heap.size w (wr.setCell ⟨o, i, none⟩ (.int .u8 z)).drew) := by
                      intro i z _
                      refine ⟨own_stays HJ2.1 fun b hb' => ?_, ?_, (HJ2.2.2.setCell (p := ⟨o, i, none⟩) hoB _).drew⟩
                      · obtain ⟨c, hc⟩ := own_block (own0 HJ2.1) hb'
                        obtain ⟨c2, hc2⟩ := own_block (own0 HJ2.2.1) (k := o) rfl
                        exact Below.heap_setCell _ _ _ _ (ne_of_type hc hc2 (by decide))
                      · rw [List.map_set]; exact own_stays (own_set HJ2.2.1 i (.int .u8 z)) fun _ _ => rfl
                    clear hb hx HJ2 HJ
                    rcases (show j = 0 ∨ j = 1 ∨ j = 2 ∨ j = 3 ∨ j = 4 ∨ j = 5 ∨ j = 6 ∨ j = 7 ∨ j = 8 ∨ j = 9 ∨ j = 10 ∨ j = 11 ∨ j = 12 ∨ j = 13 ∨ j = 14 ∨ j = 15 by omega) with rfl | rfl | rfl | rfl | rfl | rfl | rfl | rfl | rfl | rfl | rfl | rfl | rfl | rfl | rfl | rfl
                    · have HE2 : Hid (outN L4 N 1 = [Go.bits BinOp.or IntKind.u8 x0 128, x1]) := HE.out
                      simp only [Nat.add_zero] at e0
                      go_wp2_with fail
                      go_region
                      all_goals
                        go_wp2_with fail
                        go_roundw
                        case rel => exact ⟨1, by omega, by go_num, by rw [HE2.out]; exact HSO.out 0 (Go.bits BinOp.or IntKind.u8 x0 128) (by omega)⟩
                        case measure => simp [intOf]
                    · have HE2 : Hid (outN L4 N 2 = [Go.bits BinOp.or IntKind.u8 x0 64, x1]) := HE.out
                      go_wp2_with fail
                      go_region
                      all_goals
                        go_wp2_with fail
                        go_roundw
                        case rel => exact ⟨2, by omega, by go_num, by rw [HE2.out]; exact HSO.out 0 (Go.bits BinOp.or IntKind.u8 x0 64) (by omega)⟩
                        case measure => simp [intOf]
                    · have HE2 : Hid (outN L4 N 3 = [Go.bits BinOp.or IntKind.u8 x0 32, x1]) := HE.out
                      go_wp2_with fail
                      go_region
                      all_goals
                        go_wp2_with fail
                        go_roundw
                        case rel => exact ⟨3, by omega, by go_num, by rw [HE2.out]; exact HSO.out 0 (Go.bits BinOp.or IntKind.u8 x0 32) (by omega)⟩
                        case measure => simp [intOf]
                    · have HE2 : Hid (outN L4 N 4 = [Go.bits BinOp.or IntKind.u8 x0 16, x1]) := HE.out
                      go_wp2_with fail
                      go_region
                      all_goals
                        go_wp2_with fail
                        go_roundw
                        case rel => exact ⟨4, by omega, by go_num, by rw [HE2.out]; exact HSO.out 0 (Go.bits BinOp.or IntKind.u8 x0 16) (by omega)⟩
                        case measure => simp [intOf]
                    · have HE2 : Hid (outN L4 N 5 = [Go.bits BinOp.or IntKind.u8 x0 8, x1]) := HE.out
                      go_wp2_with fail
                      go_region
                      all_goals
                        go_wp2_with fail
                        go_roundw
                        case rel => exact ⟨5, by omega, by go_num, by rw [HE2.out]; exact HSO.out 0 (Go.bits BinOp.or IntKind.u8 x0 8) (by omega)⟩
                        case measure => simp [intOf]
                    · have HE2 : Hid (outN L4 N 6 = [Go.bits BinOp.or IntKind.u8 x0 4, x1]) := HE.out
                      go_wp2_with fail
                      go_region
                      all_goals
                        go_wp2_with fail
                        go_roundw
                        case rel => exact ⟨6, by omega, by go_num, by rw [HE2.out]; exact HSO.out 0 (Go.bits BinOp.or IntKind.u8 x0 4) (by omega)⟩
                        case measure => simp [intOf]
                    · have HE2 : Hid (outN L4 N 7 = [Go.bits BinOp.or IntKind.u8 x0 2, x1]) := HE.out
                      go_wp2_with fail
                      go_region
                      all_goals
                        go_wp2_with fail
                        go_roundw
                        case rel => exact ⟨7, by omega, by go_num, by rw [HE2.out]; exact HSO.out 0 (Go.bits BinOp.or IntKind.u8 x0 2) (by omega)⟩
                        case measure => simp [intOf]
                    · have HE2 : Hid (outN L4 N 8 = [Go.bits BinOp.or IntKind.u8 x0 1, x1]) := HE.out
                      go_wp2_with fail
                      go_region
                      all_goals
                        go_wp2_with fail
                        go_roundw
                        case rel => exact ⟨8, by omega, by go_num, by rw [HE2.out]; exact HSO.out 0 (Go.bits BinOp.or IntKind.u8 x0 1) (by omega)⟩
                        case measure => simp [intOf]
                    · have HE2 : Hid (outN L4 N 9 = [x0, Go.bits BinOp.or IntKind.u8 x1 128]) := HE.out
                      go_wp2_with fail
                      go_region
                      all_goals
                        go_wp2_with fail
                        go_roundw
                        case rel => exact ⟨9, by omega, by go_num, by rw [HE2.out]; exact HSO.out 1 (Go.bits BinOp.or IntKind.u8 x1 128) (by omega)⟩
                        case measure => simp [intOf]
                    · have HE2 : Hid (outN L4 N 10 = [x0, Go.bits BinOp.or IntKind.u8 x1 64]) := HE.out
                      go_wp2_with fail
                      go_region
                      all_goals
                        go_wp2_with fail
                        go_roundw
                        case rel => exact ⟨10, by omega, by go_num, by rw [HE2.out]; exact HSO.out 1 (Go.bits BinOp.or IntKind.u8 x1 64) (by omega)⟩
                        case measure => simp [intOf]
                    · have HE2 : Hid (outN L4 N 11 = [x0, Go.bits BinOp.or IntKind.u8 x1 32]) := HE.out
                      go_wp2_with fail
                      go_region
                      all_goals
                        go_wp2_with fail
                        go_roundw
                        case rel => exact ⟨11, by omega, by go_num, by rw [HE2.out]; exact HSO.out 1 (Go.bits BinOp.or IntKind.u8 x1 32) (by omega)⟩
                        case measure => simp [intOf]
                    · have HE2 : Hid (outN L4 N 12 = [x0, Go.bits BinOp.or IntKind.u8 x1 16]) := HE.out
                      go_wp2_with fail
                      go_region
                      all_goals
                        go_wp2_with fail
                        go_roundw
                        case rel => exact ⟨12, by omega, by go_num, by rw [HE2.out]; exact HSO.out 1 (Go.bits BinOp.or IntKind.u8 x1 16) (by omega)⟩
                        case measure => simp [intOf]
                    · have HE2 : Hid (outN L4 N 13 = [x0, Go.bits BinOp.or IntKind.u8 x1 8]) := HE.out
                      go_wp2_with fail
                      go_region
                      all_goals
                        go_wp2_with fail
                        go_roundw
                        case rel => exact ⟨13, by omega, by go_num, by rw [HE2.out]; exact HSO.out 1 (Go.bits BinOp.or IntKind.u8 x1 8) (by omega)⟩
                        case measure => simp [intOf]
                    · have HE2 : Hid (outN L4 N 14 = [x0, Go.bits BinOp.or IntKind.u8 x1 4]) := HE.out
                      go_wp2_with fail
                      go_region
                      all_goals
                        go_wp2_with fail
                        go_roundw
                        case rel => exact ⟨14, by omega, by go_num, by rw [HE2.out]; exact HSO.out 1 (Go.bits BinOp.or IntKind.u8 x1 4) (by omega)⟩
                        case measure => simp [intOf]
                    · have HE2 : Hid (outN L4 N 15 = [x0, Go.bits BinOp.or IntKind.u8 x1 2]) := HE.out
                      go_wp2_with fail
                      go_region
                      all_goals
                        go_wp2_with fail
                        go_roundw
                        case rel => exact ⟨15, by omega, by go_num, by rw [HE2.out]; exact HSO.out 1 (Go.bits BinOp.or IntKind.u8 x1 2) (by omega)⟩
                        case measure => simp [intOf]
                    · have HE2 : Hid (outN L4 N 16 = [x0, Go.bits BinOp.or IntKind.u8 x1 1]) := HE.out
                      go_wp2_with fail
                      go_region
                      all_goals
                        go_wp2_with fail
                        go_roundw
                        case rel => exact ⟨16, by omega, by go_num, by rw [HE2.out]; exact HSO.out 1 (Go.bits BinOp.or IntKind.u8 x1 1) (by omega)⟩
                        case measure => simp [intOf]
                · have hj16 : j = 16 := by omega
                  subst hj16
                  have HC : (convert 139 9 (.slice (some ⟨o, 0, none⟩) 2 2)).run Try.prog wr = .ok (.string (strOfNums (outN L4 N 16))) wr := by
                    obtain ⟨x0, x1, hx⟩ : ∃ x0 x1, outN L4 N 16 = [x0, x1] := by
                      have hl := outN_len L4 N 16
                      match h : outN L4 N 16, hl with
                      | [x0, x1], _ => exact ⟨x0, x1, rfl⟩
                    have HJ2 := HJ.out.2.1
                    rw [hx] at HJ2 ⊢
                    exact run_convert_bytes_arg (w := wr) 139 5 Try.underlying139 Try.underlying5 o 0 2 2 [x0, x1] rfl (fun i hi => by
                      have h := own_get HJ2 i (.int .u8 ([x0, x1].getD i 0)) (by
                        match i, hi with
                        | 0, _ => rfl
                        | 1, _ => rfl)
                      rw [Nat.zero_add]; exact h.1) 9 Try.underlying9
                  go_wp2_with fail
                  go_ret
                  rw [HS.out]
                  exact ⟨rfl, HJ.out.2.2⟩
end Go.Proofs.Ytmmmnghiegajmaa
