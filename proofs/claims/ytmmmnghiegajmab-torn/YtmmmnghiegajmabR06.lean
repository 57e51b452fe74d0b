import Derived.Test.YtmmmnghiegajmabM01
import Derived.Test.YtmmmnghiegajmabM02
import Derived.Test.YtmmmnghiegajmabM03
import Derived.Test.YtmmmnghiegajmabM04
import Derived.Test.YtmmmnghiegajmabM05
import Derived.Test.YtmmmnghiegajmabM06
import Derived.Test.YtmmmnghiegajmabM07
import Derived.Test.YtmmmnghiegajmabM08
import Derived.Test.YtmmmnghiegajmabM09
import Derived.Test.YtmmmnghiegajmabM10
import Derived.Test.YtmmmnghiegajmabM11
import Derived.Test.YtmmmnghiegajmabM12
import Derived.Test.YtmmmnghiegajmabM14
import Derived.Test.YtmmmnghiegajmabM15
import Derived.Test.YtmmmnghiegajmabM16
import Derived.Test.YtmmmnghiegajmabM20
import Derived.Test.YtmmmnghiegajmabM21
import Derived.Test.YtmmmnghiegajmabM22
import Derived.Test.YtmmmnghiegajmabM24
import Derived.Test.YtmmmnghiegajmabM26
import Derived.Test.YtmmmnghiegajmabM27
import Derived.Test.YtmmmnghiegajmabM28
import Derived.Test.YtmmmnghiegajmabM29
import Derived.Test.YtmmmnghiegajmabM30
import Derived.Test.YtmmmnghiegajmabM31
import Derived.Test.YtmmmnghiegajmabM32
import Derived.Test.YtmmmnghiegajmabM33
import Derived.Test.YtmmmnghiegajmabM34
import Derived.Test.YtmmmnghiegajmabM35
import Derived.Test.YtmmmnghiegajmabM36
import Derived.Test.YtmmmnghiegajmabM37
import Derived.Test.YtmmmnghiegajmabM38
import Derived.Test.YtmmmnghiegajmabM40
import Derived.Test.YtmmmnghiegajmabM41
import Derived.Test.YtmmmnghiegajmabM42
import Derived.Lib.ConvBytes
import Derived.BigQuiet
import Derived.Laws.BitsAllLaws
import Derived.Test.YtmmmnghiegajmabR01
import Derived.Test.YtmmmnghiegajmabR02
import Derived.Test.YtmmmnghiegajmabR03
import Derived.Test.YtmmmnghiegajmabR04
import Derived.Test.YtmmmnghiegajmabR05
namespace Go.Proofs.Ytmmmnghiegajmab
open Go.RowKit Go.Proofs.Herald
/-- The bytes in memory; some room behind them. -/
def RowB (g : Nat) (M : List Nat) (w : World) : Prop :=
  ∃ C : Array Value, w.heap[g]? = some (.cells C 5 (C.size, C.size + 1)) ∧ M.length ≤ C.size ∧ ∀ i (h : i < M.length), C[i]? = some (.int .u8 ((M[i] : Nat) : Int))
theorem RowB.cell {g : Nat} {M : List Nat} {w : World} (h : RowB g M w) {i : Nat} (hi : i < M.length) : w.cell? ⟨g, i, none⟩ = some (.int .u8 ((M[i] : Nat) : Int)) ∧ w.frozen? ⟨g, i, none⟩ = false := by
  obtain ⟨C, h1, h2, h3⟩ := h
  have hc : i < C.size := by omega
  have hne : ¬ (C.size ≤ i) := by omega
  refine ⟨?_, ?_⟩
  · simp [World.cell?, h1, h3 i hi]
  · simp [World.frozen?, h1, hne]
theorem RowB.same {g : Nat} {M : List Nat} {w w' : World} (h : RowB g M w) (hs : w'.heap[g]? = w.heap[g]?) : RowB g M w' := by
  obtain ⟨C, h1, h2⟩ := h
  exact ⟨C, hs.trans h1, h2⟩
theorem RowB.set {g : Nat} {M : List Nat} {w : World} (h : RowB g M w) {j : Nat} (hj : j < M.length) (v : Nat) : RowB g (M.set j v) (w.setCell ⟨g, j, none⟩ (.int .u8 ((v : Nat) : Int))) := by
  obtain ⟨C, h1, h2, h3⟩ := h
  have hjc : j < C.size := by omega
  refine ⟨C.setIfInBounds j (.int .u8 ((v : Nat) : Int)), ?_, by rw [List.length_set, Array.size_setIfInBounds]; exact h2, fun i hi => ?_⟩
  · rw [Array.size_setIfInBounds]
    exact heap_setCell_self _ h1
  · rw [List.length_set] at hi
    rw [List.getElem_set, Array.getElem?_setIfInBounds]
    split
    · rfl
    · exact h3 i hi
set_option maxRecDepth 20000 in
set_option maxHeartbeats 8000000 in
theorem x_turned (L : List Nat) (hL : ∀ x ∈ L, x < 256) (hl : L.length = 19) (p : Nat) (hp : p < 152) (mask : Int) (w : World) :
    Calls Try.prog 17 #[.string (strN L), .int .i64 (p : Nat), .int .i64 mask] w fun e w' => ∃ M : List Nat, e = .returned (.string (strN M)) ∧ M.length = 19 ∧ (∀ x ∈ M, x < 256) ∧ (∀ i, ¬ (p ≤ i ∧ i < p + 16) → bitAt M i = bitAt L i) ∧ Below w.heap.size w w' := by
  have hz : (strN L).size = 19 := by rw [strN_size, hl]
  have hcv := Lib.run_convert_string_bytes (P := Try.prog) w 9 78 5 (strN L) (u := .string) Try.underlying9 Try.underlying78 Try.underlying5
  have HL0 : Hid (∀ x ∈ L, x < 256) := hL
  obtain ⟨W, hW⟩ : ∃ W, W = Lib.bytesWorld w 5 (strN L) := ⟨_, rfl⟩
  obtain ⟨cp, hcp⟩ : ∃ cp, cp = grownCap w (strN L).size 0 5 := ⟨_, rfl⟩
  have HR : Hid (RowB w.heap.size L W ∧ Below w.heap.size w W) := by
    rw [hW]
    refine ⟨⟨_, Lib.bytesWorld_at_new w _ _, ?_, fun i hi => ?_⟩, ?_, ?_, ?_, ?_, fun k hk => Lib.bytesWorld_at_old w _ _ k hk⟩
    · simp [Lib.bytesCells, strN]
    · have hb := HL0.out _ (List.getElem_mem hi)
      simp [Lib.bytesCells, strN, Array.getElem?_append, hi, u8_back hb]
    · rfl
    · rfl
    · rfl
    · rw [Lib.bytesWorld_size]; omega
  rw [← hW, ← hcp, hz] at hcv
  have HL : Hid (∀ x ∈ L, x < 256) := hL
  clear hL hW hcp
  go_enter Try.func17, Try.ntmps17
  go_wp2_with fail
  go_loopw [8] (fun kv wr => ∃ (k : Nat) (M : List Nat), k ≤ 16 ∧ kv = .int .i64 (k : Nat) ∧ M.length = 19 ∧ Hid (RowB w.heap.size M wr ∧ (∀ x ∈ M, x < 256) ∧ (∀ i, ¬ (p ≤ i ∧ i < p + k) → bitAt M i = bitAt L i) ∧ Below w.heap.size w wr)) (fun kv _ => 16 - (intOf kv).toNat)
  case atStart => exact ⟨0, L, by omega, rfl, hl, HR.out.1, HL.out, fun _ _ => rfl, HR.out.2⟩
  case round =>
    clear HR
    obtain ⟨k, M, hk, rfl, hml, HM⟩ := hrel
    by_cases hlt : k < 16
    · obtain ⟨q, hq0⟩ : ∃ q, q = (p + k) / 8 := ⟨_, rfl⟩
      obtain ⟨r, hr0⟩ : ∃ r, r = (p + k) % 8 := ⟨_, rfl⟩
      obtain ⟨s, hs0⟩ : ∃ s, s = 7 - r := ⟨_, rfl⟩
      have hq : ((p : Int) + (k : Int)) / 8 = ((q : Nat) : Int) := by omega
      have hr : ((p : Int) + (k : Int)) % 8 = ((r : Nat) : Int) := by omega
      have hs : (7 : Int) - ((r : Nat) : Int) = ((s : Nat) : Int) := by omega
      have hs7 : s ≤ 7 := by omega
      have HQ0 : Hid (q = (p + k) / 8 ∧ r = (p + k) % 8 ∧ s = 7 - r) := ⟨hq0, hr0, hs0⟩
      clear hq0 hr0 hs0
      have HSAME : Hid (RowB w.heap.size M wr ∧ (∀ x ∈ M, x < 256) ∧ (∀ i, ¬ (p ≤ i ∧ i < p + (k + 1)) → bitAt M i = bitAt L i) ∧ Below w.heap.size w wr) := ⟨HM.out.1, HM.out.2.1, fun i hi => HM.out.2.2.1 i (by omega), HM.out.2.2.2⟩
      by_cases hin : q < 19
      · have hqm : q < M.length := by omega
        obtain ⟨c1, f1⟩ := HM.out.1.cell hqm
        have hb := HM.out.2.1 _ (List.getElem_mem hqm)
        have HNEW : Hid (∀ W, SameH (wr.setCell ⟨w.heap.size, q, none⟩ (.int .u8 ((M[q] ^^^ 2 ^ s : Nat) : Int))) W → RowB w.heap.size (M.set q (M[q] ^^^ 2 ^ s)) W ∧ (∀ x ∈ M.set q (M[q] ^^^ 2 ^ s), x < 256) ∧ (∀ i, ¬ (p ≤ i ∧ i < p + (k + 1)) → bitAt (M.set q (M[q] ^^^ 2 ^ s)) i = bitAt L i) ∧ Below w.heap.size w W) := fun W hsm => by
          obtain ⟨hq0, hr0, hs0⟩ := HQ0.out
          refine ⟨(HM.out.1.set hqm _).same (by rw [hsm.heap]), fun x hx => ?_, fun i hi => ?_, (HM.out.2.2.2.setCell (p := ⟨w.heap.size, q, none⟩) (Nat.le_refl _) _).trans (hsm.below _)⟩
          · rcases List.mem_or_eq_of_mem_set hx with hx | hx
            · exact HM.out.2.1 x hx
            · rw [hx]
              exact Nat.xor_lt_two_pow (n := 8) hb (Nat.pow_lt_pow_right (by omega) (by omega))
          · rw [← HM.out.2.2.1 i (by omega)]
            unfold bitAt
            by_cases hiq : i / 8 = q
            · rw [hiq, List.getD_eq_getElem?_getD, List.getD_eq_getElem?_getD, List.getElem?_set_self hqm, List.getElem?_eq_getElem hqm]
              show (M[q] ^^^ 2 ^ s).testBit _ = (M[q]).testBit _
              rw [Nat.testBit_xor, Nat.testBit_two_pow, decide_eq_false (by omega), Bool.xor_false]
            · rw [List.getD_eq_getElem?_getD, List.getD_eq_getElem?_getD, List.getElem?_set_ne (fun h => hiq h.symm)]
        have hs8 : 2 ^ s < 256 := Nat.pow_lt_pow_right (a := 2) (n := 8) (by omega) (by omega)
        have HX : Hid (Go.bits .xor .u8 ((M[q] : Nat) : Int) ((2 : Int) ^ s % 256) = ((M[q] ^^^ 2 ^ s : Nat) : Int)) := by
          have e : (2 : Int) ^ s % 256 = ((2 ^ s : Nat) : Int) := by
            have e1 : ((2 ^ s : Nat) : Int) = (2 : Int) ^ s := by push_cast; rfl
            rw [← e1]
            exact Int.emod_eq_of_lt (Int.natCast_nonneg _) (Int.ofNat_lt.mpr hs8)
          show _ = _
          rw [e]
          exact Go.u8_xor_nat _ _ hb hs8
        clear hs8
        go_wp2_with fail
        · go_region
          rw [HX.out]
          have HN := HNEW.out _ ((SameH.refl _).drew)
          have HN2 : Hid (RowB w.heap.size (M.set q (M[q] ^^^ 2 ^ s)) (wr.setCell ⟨w.heap.size, q, none⟩ (.int .u8 ((M[q] ^^^ 2 ^ s : Nat) : Int))).drew ∧ (∀ x ∈ M.set q (M[q] ^^^ 2 ^ s), x < 256) ∧ (∀ i, ¬ (p ≤ i ∧ i < p + (k + 1)) → bitAt (M.set q (M[q] ^^^ 2 ^ s)) i = bitAt L i) ∧ Below w.heap.size w (wr.setCell ⟨w.heap.size, q, none⟩ (.int .u8 ((M[q] ^^^ 2 ^ s : Nat) : Int))).drew) := HN
          clear HN HNEW
          go_wp2_with fail
          go_roundw
          case rel => exact ⟨k + 1, M.set q (M[q] ^^^ 2 ^ s), by omega, by go_num, by rw [List.length_set]; exact hml, HN2⟩
          case measure => simp [intOf]; omega
        · go_roundw
          case rel => exact ⟨k + 1, M, by omega, by go_num, hml, HSAME⟩
          case measure => simp [intOf]; omega
      · go_wp2_with fail
        all_goals
          go_roundw
          case rel => exact ⟨k + 1, M, by omega, by go_num, hml, HSAME⟩
          case measure => simp [intOf]; omega
    · have hcv2 : (convert 78 9 (.slice (some ⟨w.heap.size, 0, none⟩) 19 cp)).run Try.prog wr = .ok (.string (strN M)) wr := by
        rw [← strN_nums]
        refine run_convert_bytes_arg (w := wr) 78 5 Try.underlying78 Try.underlying5 w.heap.size 0 19 cp (natsI M) (by rw [natsI_len, hml]) (fun i hi => ?_) 9 Try.underlying9
        have hi2 : i < M.length := by omega
        rw [Nat.zero_add, (HM.out.1.cell hi2).1]
        simp [natsI, hi2]
      have HFIN : Hid ((∀ x ∈ M, x < 256) ∧ (∀ i, ¬ (p ≤ i ∧ i < p + 16) → bitAt M i = bitAt L i) ∧ Below w.heap.size w wr) := ⟨HM.out.2.1, fun i hi => HM.out.2.2.1 i (by omega), HM.out.2.2.2⟩
      go_wp2_with fail
      go_ret
      exact ⟨M, rfl, hml, HFIN.out.1, HFIN.out.2.1, HFIN.out.2.2⟩
open Go.RowKit Go.Proofs.Herald
set_option maxHeartbeats 4000000 in
theorem opened_J {t : ByteArray} {tr : Tree 5} (ht : t.size ≤ 400) (hT : TextOk t tr) (w : World) :
    Calls Try.prog 6 #[.string t] w fun e w' => ∃ G H cv s, e = .returned (.tuple #[.pointer (some ⟨G, 0, none⟩), .bool true]) ∧ Game w.heap.size (codeOf t tr) 1 (trigH (machE (codeOf t tr)) newH 0).2.2 w' G H cv s ∧ GJ (codeOf t tr) 1 (trigH (machE (codeOf t tr)) newH 0).2.2 (recB 84 0 0) w' H s ∧ Below w.heap.size w w' := by
  have HL : Hid (∀ w : World, Calls Try.prog 19 #[.string t] w fun e w' => e = .returned (.tuple #[.int .i64 (maxI (lastsT t 5 tr).1 (lastsT t 5 tr).2), .int .i64 0, .int .i64 0]) ∧ Below w.heap.size w w') := fun w => c_Longest_ok ht hT w
  have HC : Hid (∀ w : World, Calls Try.prog 20 #[.string t] w fun e w' => ∃ sv, e = .returned (.tuple #[sv, .int .i64 0, .int .i64 0]) ∧ w'.ownsRow w.heap.size 137 4 sv (codeOf t tr).length (codeCells (codeOf t tr)) ∧ Below w.heap.size w w') := fun w => c_Compile_ok t ht tr hT w
  have HSN : Hid (soundL (codeOf t tr) = true) := hT.sound ht
  generalize maxI (lastsT t 5 tr).1 (lastsT t 5 tr).2 = LM at *
  generalize codeOf t tr = C at *
  obtain ⟨q1, q2⟩ := trig_first C
  clear hT
  go_enter Try.func6, Try.ntmps6
  go_wp2_with fail
  refine (HL.out _).mono ?_
  rintro e w1 ⟨rfl, hb1⟩
  have HB1 : Hid (Below w.heap.size w w1) := hb1
  clear hb1 HL
  go_wp2_with fail
  refine (HC.out _).mono ?_
  rintro e w2 ⟨sv, rfl, hsv, hb2⟩
  obtain ⟨ga, cap, rfl⟩ := ownsRow_slice hsv
  have H2 : Hid (w2.ownsRow w1.heap.size 137 4 (.slice ga C.length cap) C.length (codeCells C) ∧ Below w1.heap.size w1 w2) := ⟨hsv, hb2⟩
  have HNW : Hid (Calls Try.prog 21 #[.slice ga C.length cap] w2 fun e w' => ∃ H v, e = .returned (.tuple #[.pointer (some ⟨H, 0, none⟩), .int .i64 0]) ∧ w2.heap.size ≤ H ∧ w'.heap[H]? = some (.cells (newHd v) 80 (0, 0)) ∧ w'.ownsRow w2.heap.size 137 4 v C.length (codeCells C) ∧ Below w2.heap.size w2 w') := c_New_any hsv HSN.out
  clear hsv hb2 HC
  go_wp2_with fail
  refine HNW.out.mono ?_
  rintro e w3 ⟨H, v, rfl, hH, hgH, hvo, hb3⟩
  have H3 : Hid (w2.heap.size ≤ H ∧ w3.heap[H]? = some (.cells (newHd v) 80 (0, 0)) ∧ w3.ownsRow w2.heap.size 137 4 v C.length (codeCells C) ∧ Below w2.heap.size w2 w3) := ⟨hH, hgH, hvo, hb3⟩
  have HGA : Hid (GJ C 0 newH [] w3 H ⟨v, .slice none 0 0, .slice none 0 0, fun _ => .slice none 0 0, 0⟩) := GJ.new HSN.out hgH (own0 hvo)
  clear hH hgH hvo hb3 HNW
  go_wp2_with fail
  refine (gj_Trigger 0 _ HGA.out (by omega)).mono ?_
  rintro e w4 ⟨rfl, s', hg4, hs4, hf4⟩
  have hnj : noteJ (trigH (machE C) newH 0).2.1 [] 84 0 0 = recB 84 0 0 := by rw [q2]; exact if_pos rfl
  rw [hnj] at hg4
  clear hnj
  rw [q1, q2]
  have HFIN : Hid (∀ W : World, Below w4.heap.size w4 W → W.heap[w4.heap.size]? = some (.cells #[.pointer (some ⟨H, 0, none⟩), .slice ga C.length cap] 38 (0, 0)) → Game w.heap.size C 1 (trigH (machE C) newH 0).2.2 W w4.heap.size H (.slice ga C.length cap) s' ∧ GJ C 1 (trigH (machE C) newH 0).2.2 (recB 84 0 0) W H s' ∧ Below w.heap.size w W) := by
    intro W hW hG
    have z1 := HB1.out.size
    have z2 := H2.out.2.size
    have z3 := H3.out.2.2.2.size
    have z4 := hf4.size
    have hown0 : ∀ k, HS.own ⟨v, .slice none 0 0, .slice none 0 0, fun _ => .slice none 0 0, 0⟩ H k → w2.heap.size ≤ k := fun k hk => by
      rcases hk with (hk | ⟨d, _, hk⟩ | hk) | hk | hk
      · subst hk; exact H3.out.1
      · cases hk
      · cases hk
      · cases hk
      · exact (ownsRow_lies H3.out.2.2.1 hk).1
    have hown : ∀ k, s'.own H k → w2.heap.size ≤ k := fun k hk => by
      rcases hs4 k hk with h1 | h1
      · exact hown0 k h1
      · omega
    have hb24 : ∀ k, k < w2.heap.size → W.heap[k]? = w2.heap[k]? := fun k hk => by
      rw [hW.block k (by omega), hf4.block k (by omega) (fun ho => by have := hown0 k ho; omega), H3.out.2.2.2.block k hk]
    refine ⟨⟨hG, hg4.ga.below hW, fun k hk => ⟨by have := hown k hk; omega, by have := hg4.lt hk; omega⟩, ?_, fun k hk ho => ?_, by omega⟩, hg4.keep fun k hk => hW.block k (hg4.lt hk), ?_⟩
    · exact own_base (own0 (own_stays H2.out.1 fun k hk => hb24 k (by obtain ⟨_, cur, hc⟩ := ownsRow_lies H2.out.1 hk; exact heap_lt hc))) fun b hb => by have := (ownsRow_lies H2.out.1 hb).1; omega
    · have h1 := hown k ho
      obtain ⟨_, cur, hc⟩ := ownsRow_lies H2.out.1 hk
      have := heap_lt hc
      omega
    · refine ⟨hW.os.trans (hf4.os.trans (H3.out.2.2.2.os.trans (H2.out.2.os.trans HB1.out.os))), hW.tape.trans (hf4.tape.trans (H3.out.2.2.2.tape.trans (H2.out.2.tape.trans HB1.out.tape))), hW.output.trans (hf4.output.trans (H3.out.2.2.2.output.trans (H2.out.2.output.trans HB1.out.output))), by have := hW.size; omega, fun k hk => ?_⟩
      rw [hb24 k (by omega), H2.out.2.block k (by omega), HB1.out.block k hk]
  clear hg4 hs4 hf4 HGA H2 H3 HB1
  go_wp2_with fail
  go_ret2
  obtain ⟨h1, h2⟩ := HFIN.out _ ((Below.refl _ _).alloc (Nat.le_refl _) _) (heap_alloc_new _ _)
  exact ⟨_, _, _, _, rfl, h1, h2⟩
open Go.RowKit Go.Proofs.Herald
def rec3 (q : Nat × Int × Int) : List Nat := recB q.1 q.2.1 q.2.2
/-- A call that can be written down. -/
def fineC (q : Nat × Int × Int) : Prop := q.1 < 256 ∧ isC q.1 q.2.2 = true ∧ (-9223372036854775808 ≤ q.2.1 ∧ q.2.1 ≤ 9223372036854775807) ∧ -9223372036854775808 ≤ q.2.2 ∧ q.2.2 ≤ 9223372036854775807
/-- The calls that were made, the herald behind them, its journal. -/
def Hist (cs : List Ins) (calls : List (Nat × Int × Int)) (h : Her Pr) (J : List Nat) : Prop :=
  ∀ P : List (Nat × Int × Int) → Her Pr → List Nat → Prop, P [] newH [] → (∀ (calls : List (Nat × Int × Int)) (h : Her Pr) (J : List Nat) (q : Nat × Int × Int), P calls h J → fineC q → (playH cs h (kindOf q.1) q.2.1 q.2.2).1.2.2 = 0 → P (calls ++ [q]) (playH cs h (kindOf q.1) q.2.1 q.2.2).2 (J ++ rec3 q)) → P calls h J
theorem Hist.nil {cs : List Ins} : Hist cs [] newH [] := fun _ a _ => a
theorem Hist.snoc {cs : List Ins} {calls : List (Nat × Int × Int)} {h : Her Pr} {J : List Nat} (q : Nat × Int × Int) (H : Hist cs calls h J) (hq : fineC q) (h0 : (playH cs h (kindOf q.1) q.2.1 q.2.2).1.2.2 = 0) : Hist cs (calls ++ [q]) (playH cs h (kindOf q.1) q.2.1 q.2.2).2 (J ++ rec3 q) :=
  fun P a b => b calls h J q (H P a b) hq h0
theorem Hist.ind {cs : List Ins} {motive : ∀ (calls : List (Nat × Int × Int)) (h : Her Pr) (J : List Nat), Hist cs calls h J → Prop} (nil : motive [] newH [] Hist.nil)
    (snoc : ∀ {calls : List (Nat × Int × Int)} {h : Her Pr} {J : List Nat} (q : Nat × Int × Int) (H : Hist cs calls h J) (hq : fineC q) (h0 : (playH cs h (kindOf q.1) q.2.1 q.2.2).1.2.2 = 0), motive calls h J H → motive (calls ++ [q]) (playH cs h (kindOf q.1) q.2.1 q.2.2).2 (J ++ rec3 q) (Hist.snoc q H hq h0))
    {calls : List (Nat × Int × Int)} {h : Her Pr} {J : List Nat} (H : Hist cs calls h J) : motive calls h J H :=
  (H (fun c h J => ∃ H : Hist cs c h J, motive c h J H) ⟨Hist.nil, nil⟩ (fun _ _ _ q g hq h0 => g.elim fun H m => ⟨Hist.snoc q H hq h0, snoc q H hq h0 m⟩)).elim fun _ m => m
theorem rec3_len (q : Nat × Int × Int) : (rec3 q).length = 19 := recB_len _ _ _
theorem Hist.len {cs : List Ins} {calls : List (Nat × Int × Int)} {h : Her Pr} {J : List Nat} (H : Hist cs calls h J) : J.length = 19 * calls.length := by
  induction H using Hist.ind with
  | nil => rfl
  | snoc q _ _ _ ih => rw [List.length_append, List.length_append, ih, rec3_len, List.length_singleton]; omega
theorem Hist.lt {cs : List Ins} {calls : List (Nat × Int × Int)} {h : Her Pr} {J : List Nat} (H : Hist cs calls h J) : ∀ x ∈ J, x < 256 := by
  induction H using Hist.ind with
  | nil => intro x hx; cases hx
  | snoc q _ hq _ ih =>
    intro x hx
    rcases List.mem_append.mp hx with hx | hx
    · exact ih x hx
    · exact recB_lt hq.1 _ _ x hx
theorem Hist.fine {cs : List Ins} {calls : List (Nat × Int × Int)} {h : Her Pr} {J : List Nat} (H : Hist cs calls h J) : ∀ q ∈ calls, fineC q := by
  induction H using Hist.ind with
  | nil => intro x hx; cases hx
  | snoc q _ hq _ ih =>
    intro x hx
    rcases List.mem_append.mp hx with hx | hx
    · exact ih x hx
    · rw [List.mem_singleton.mp hx]; exact hq
theorem zero_of {b : Int} (h : (b == 0) = true) : 0 = b := by
  have hb0 : b = 0 := by simpa using h
  exact hb0.symm
theorem kind_J {cs : List Ins} {h : Her Pr} {J : List Nat} {q : Nat × Int × Int} (hq : fineC q) (h0 : (playH cs h (kindOf q.1) q.2.1 q.2.2).1.2.2 = 0) : playJ cs h J (kindOf q.1) q.2.1 q.2.2 = J ++ rec3 q := by
  obtain ⟨c, a, b⟩ := q
  obtain ⟨_, hi, _⟩ := hq
  simp only at h0 hi ⊢
  unfold isC at hi
  have key : ∀ {f : Int} (b' : Int), f = 0 → b' = b → noteJ f J c a b' = J ++ rec3 (c, a, b) := fun b' hf hb => by
    unfold noteJ
    rw [if_pos hf, hb]
    rfl
  by_cases h1 : c = 84
  · subst h1
    rw [if_pos (.inl rfl)] at hi
    exact key 0 h0 (zero_of hi)
  by_cases h2 : c = 75
  · subst h2
    rw [if_pos (.inr (.inl rfl))] at hi
    exact key 0 h0 (zero_of hi)
  by_cases h3 : c = 65
  · subst h3
    exact key b h0 rfl
  by_cases h4 : c = 67
  · subst h4
    rw [if_pos (.inr (.inr (.inl rfl)))] at hi
    exact key 0 h0 (zero_of hi)
  by_cases h5 : c = 68
  · subst h5
    rw [if_pos (.inr (.inr (.inr rfl)))] at hi
    exact key 0 h0 (zero_of hi)
  · rw [if_neg (by omega)] at hi
    simp at hi
    omega
/-- It is done again. -/
theorem Hist.opens {cs : List Ins} {calls : List (Nat × Int × Int)} {h : Her Pr} {J : List Nat} (H : Hist cs calls h J) : ∀ X, openS cs (calls.map rec3 ++ X) newH [] 0 = openS cs X h J calls.length := by
  induction H using Hist.ind with
  | nil => intro X; rfl
  | @snoc calls h J q _ hq h0 ih =>
    intro X
    rw [List.map_append, List.append_assoc, ih]
    show openS cs (rec3 q :: X) h J calls.length = _
    have hr : readB (rec3 q) = some (q.1, q.2.1, q.2.2) := readB_rec hq.2.1 hq.2.2.1.1 hq.2.2.1.2 hq.2.2.2.1 hq.2.2.2.2
    conv => lhs; unfold openS
    rw [hr]
    simp only
    rw [if_pos h0, kind_J hq h0, List.length_append, List.length_singleton]
/-- The calls up to one of them. -/
theorem Hist.pre {cs : List Ins} {calls : List (Nat × Int × Int)} {h : Her Pr} {J : List Nat} (H : Hist cs calls h J) : ∀ i, i ≤ calls.length → ∃ h', Hist cs (calls.take i) h' (J.take (i * 19)) := by
  induction H using Hist.ind with
  | nil =>
    intro i hi
    have : i = 0 := by simpa using hi
    subst this
    exact ⟨newH, Hist.nil⟩
  | @snoc calls h J q H hq h0 ih =>
    intro i hi
    have hl := H.len
    rw [List.length_append, List.length_singleton] at hi
    by_cases h1 : i ≤ calls.length
    · rw [List.take_append_of_le_length h1, List.take_append_of_le_length (by omega)]
      exact ih i h1
    · have e : i = calls.length + 1 := by omega
      have e1 : (calls ++ [q]).take i = calls ++ [q] := List.take_of_length_le (by rw [List.length_append, List.length_singleton]; omega)
      have e2 : (J ++ rec3 q).take (i * 19) = J ++ rec3 q := List.take_of_length_le (by rw [List.length_append, rec3_len]; omega)
      rw [e1, e2]
      exact ⟨_, Hist.snoc q H hq h0⟩
theorem Hist.flat {cs : List Ins} {calls : List (Nat × Int × Int)} {h : Her Pr} {J : List Nat} (H : Hist cs calls h J) : J = (calls.map rec3).flatten := by
  induction H using Hist.ind with
  | nil => rfl
  | snoc q _ _ _ ih => rw [List.map_append, List.flatten_append, ← ih]; simp
/-- The records of bytes that are laid one behind the other. -/
theorem chunks_flat : ∀ (Rs : List (List Nat)), (∀ r ∈ Rs, r.length = 19) → ∀ (A : List Nat) (i : Nat), A.length = i * 19 → chunks (A ++ Rs.flatten) i Rs.length = Rs := by
  intro Rs
  induction Rs with
  | nil => intro _ A i _; rfl
  | cons r Rs ih =>
    intro h A i hA
    have hr := h r (List.mem_cons_self ..)
    have e1 : chunk (A ++ (r :: Rs).flatten) i = r := by
      unfold chunk
      rw [List.drop_left' hA, List.flatten_cons, List.take_left' hr]
    have e2 : A ++ (r :: Rs).flatten = (A ++ r) ++ Rs.flatten := by rw [List.flatten_cons, List.append_assoc]
    rw [List.length_cons]
    show chunk (A ++ (r :: Rs).flatten) i :: chunks (A ++ (r :: Rs).flatten) (i + 1) Rs.length = r :: Rs
    rw [e1, e2, ih (fun x hx => h x (List.mem_cons_of_mem _ hx)) (A ++ r) (i + 1) (by rw [List.length_append, hA, hr]; omega)]
theorem flat_len : ∀ (Rs : List (List Nat)), (∀ r ∈ Rs, r.length = 19) → Rs.flatten.length = Rs.length * 19
  | [], _ => rfl
  | r :: Rs, h => by
    rw [List.flatten_cons, List.length_append, h r (List.mem_cons_self ..), flat_len Rs (fun x hx => h x (List.mem_cons_of_mem _ hx)), List.length_cons]
    omega
theorem chunks_all (Rs : List (List Nat)) (h : ∀ r ∈ Rs, r.length = 19) : chunks Rs.flatten 0 (Rs.flatten.length / 19) = Rs := by
  rw [flat_len Rs h, Nat.mul_div_cancel _ (by decide)]
  exact chunks_flat Rs h [] 0 rfl
theorem Hist.get {cs : List Ins} {calls : List (Nat × Int × Int)} {h : Her Pr} {J : List Nat} (H : Hist cs calls h J) (i : Nat) (hi : i < calls.length) : chunk J i = rec3 calls[i] := by
  obtain ⟨h', H'⟩ := H.pre i (by omega)
  have e := H.flat
  have hsp : calls = calls.take i ++ calls[i] :: calls.drop (i + 1) := by rw [← List.drop_eq_getElem_cons hi, List.take_append_drop]
  have e2 : J = ((calls.take i).map rec3).flatten ++ (rec3 calls[i] ++ ((calls.drop (i + 1)).map rec3).flatten) := by
    rw [e]
    conv => lhs; rw [hsp]
    rw [List.map_append, List.map_cons, List.flatten_append, List.flatten_cons]
  have hl : ((calls.take i).map rec3).flatten.length = i * 19 := by
    rw [flat_len _ (fun r hr => by obtain ⟨q, _, rfl⟩ := List.mem_map.mp hr; exact rec3_len q), List.length_map, List.length_take]
    omega
  unfold chunk
  rw [e2, List.drop_left' hl, List.take_left' (rec3_len _)]
/-- One record is another; the journal opens up to it, or whole. -/
theorem Hist.torn {cs : List Ins} {calls : List (Nat × Int × Int)} {h : Her Pr} {J : List Nat} (H : Hist cs calls h J) (i : Nat) (hi : i < calls.length) (b : List Nat) (hb : b.length = 19) (hr : b ≠ rec3 calls[i] → readB b = none) :
    (openS cs (chunks (J.take (i * 19) ++ b ++ J.drop ((i + 1) * 19)) 0 ((J.take (i * 19) ++ b ++ J.drop ((i + 1) * 19)).length / 19)) newH [] 0).2 = (if b = rec3 calls[i] then (J, calls.length) else (J.take (i * 19), i)) := by
  obtain ⟨h', H'⟩ := H.pre i (by omega)
  have hsp : calls = calls.take i ++ calls[i] :: calls.drop (i + 1) := by rw [← List.drop_eq_getElem_cons hi, List.take_append_drop]
  have e := H.flat
  have rl : ∀ r ∈ calls.map rec3, r.length = 19 := fun r hr => by obtain ⟨q, _, rfl⟩ := List.mem_map.mp hr; exact rec3_len q
  have e1 : J.take (i * 19) = ((calls.take i).map rec3).flatten := H'.flat
  have e2 : J.drop ((i + 1) * 19) = ((calls.drop (i + 1)).map rec3).flatten := by
    have e3 : J = ((calls.take (i + 1)).map rec3).flatten ++ ((calls.drop (i + 1)).map rec3).flatten := by
      rw [e]
      conv => lhs; rw [← List.take_append_drop (i + 1) calls]
      rw [List.map_append, List.flatten_append]
    have hl : ((calls.take (i + 1)).map rec3).flatten.length = (i + 1) * 19 := by
      rw [flat_len _ (fun r hr => by obtain ⟨q, _, rfl⟩ := List.mem_map.mp hr; exact rec3_len q), List.length_map, List.length_take]
      omega
    conv => lhs; rw [e3]
    exact List.drop_left' hl
  have e4 : J.take (i * 19) ++ b ++ J.drop ((i + 1) * 19) = ((calls.take i).map rec3 ++ b :: (calls.drop (i + 1)).map rec3).flatten := by
    rw [e1, e2, List.flatten_append, List.flatten_cons, List.append_assoc]
  rw [e4, chunks_all _ (fun r hr => by
    rcases List.mem_append.mp hr with h1 | h1
    · obtain ⟨q, _, rfl⟩ := List.mem_map.mp h1; exact rec3_len q
    · rcases List.mem_cons.mp h1 with rfl | h1
      · exact hb
      · obtain ⟨q, _, rfl⟩ := List.mem_map.mp h1; exact rec3_len q)]
  by_cases hbe : b = rec3 calls[i]
  · rw [if_pos hbe]
    have e5 : (calls.take i).map rec3 ++ b :: (calls.drop (i + 1)).map rec3 = calls.map rec3 ++ [] := by
      rw [List.append_nil, hbe]
      conv => rhs; rw [hsp]
      rw [List.map_append, List.map_cons]
    rw [e5, H.opens]
    rfl
  · rw [if_neg hbe, H'.opens]
    have hn := hr hbe
    unfold openS
    rw [hn, List.length_take]
    simp only [Prod.mk.injEq, true_and]
    omega
/-- A step that fails changes nothing. -/
theorem play_no {cs : List Ins} {h : Her Pr} {J : List Nat} {k a b : Int} (h0 : (playH cs h k a b).1.2.2 ≠ 0) : (playH cs h k a b).2 = h ∧ playJ cs h J k a b = J := by
  have nj : ∀ {f : Int} {c : Nat} {x y : Int}, f ≠ 0 → noteJ f J c x y = J := fun hf => if_neg hf
  unfold playH playJ at *
  by_cases h1 : k = 1
  · rw [if_pos h1] at h0 ⊢
    rw [if_pos h1]
    exact ⟨trig_no h0, nj h0⟩
  rw [if_neg h1] at h0 ⊢
  rw [if_neg h1]
  by_cases h2 : k = 2
  · rw [if_pos h2] at h0 ⊢
    rw [if_pos h2]
    refine ⟨?_, nj h0⟩
    show (tickH (machE cs) h a).2 = h
    have h3 : (tickH (machE cs) h a).1 ≠ 0 := h0
    unfold tickH at h3 ⊢
    split
    · rfl
    · rename_i hh
      rw [if_neg hh] at h3
      exact absurd rfl h3
  rw [if_neg h2] at h0 ⊢
  rw [if_neg h2]
  by_cases h3 : k = 3
  · rw [if_pos h3] at h0 ⊢
    rw [if_pos h3]
    refine ⟨?_, nj h0⟩
    show (ackH (machE cs) h a b).2 = h
    have h4 : (ackH (machE cs) h a b).1 ≠ 0 := h0
    unfold ackH at h4 ⊢
    cases hf : findR (machE cs) h.rs a with
    | none => rfl
    | some r =>
      rw [hf] at h4
      simp only at h4 ⊢
      split
      · rfl
      · rename_i hh
        rw [if_neg hh] at h4
        split
        · rfl
        · rename_i h5
          rw [if_neg h5] at h4
          exact absurd rfl h4
  rw [if_neg h3] at h0 ⊢
  rw [if_neg h3]
  by_cases h4 : k = 4
  · rw [if_pos h4] at h0 ⊢
    rw [if_pos h4]
    refine ⟨?_, nj h0⟩
    show (cancelH (machE cs) h a).2 = h
    have h5 : (cancelH (machE cs) h a).1 ≠ 0 := h0
    unfold cancelH at h5 ⊢
    cases hf : findR (machE cs) h.rs a with
    | none => rfl
    | some r =>
      rw [hf] at h5
      exact absurd rfl h5
  rw [if_neg h4] at h0 ⊢
  rw [if_neg h4]
  by_cases h5 : k = 5
  · rw [if_pos h5] at h0 ⊢
    rw [if_pos h5]
    exact ⟨drain_no h0, nj h0⟩
  rw [if_neg h5] at h0 ⊢
  rw [if_neg h5]
  exact ⟨rfl, rfl⟩
/-- A step is one call more, or none. -/
theorem Hist.play {cs : List Ins} {calls : List (Nat × Int × Int)} {h : Her Pr} {J : List Nat} (H : Hist cs calls h J) (k a b : Int) (ha : -9223372036854775808 ≤ a ∧ a ≤ 9223372036854775807) (hb : -9223372036854775808 ≤ b ∧ b ≤ 9223372036854775807) :
    ∃ calls', Hist cs calls' (playH cs h k a b).2 (playJ cs h J k a b) ∧ calls.length ≤ calls'.length := by
  by_cases h0 : (playH cs h k a b).1.2.2 = 0
  · have key : ∀ (c : Nat) (b' : Int), c < 256 → isC c b' = true → (-9223372036854775808 ≤ b' ∧ b' ≤ 9223372036854775807) → playH cs h (kindOf c) a b' = playH cs h k a b → playJ cs h J (kindOf c) a b' = playJ cs h J k a b → ∃ calls', Hist cs calls' (playH cs h k a b).2 (playJ cs h J k a b) ∧ calls.length ≤ calls'.length := fun c b' hc hi hb' e1 e2 => by
      have hq : fineC (c, a, b') := ⟨hc, hi, ha, hb'⟩
      have h1 : (playH cs h (kindOf c) a b').1.2.2 = 0 := by rw [e1]; exact h0
      have h2 := Hist.snoc (c, a, b') H hq h1
      have h3 := kind_J (J := J) hq h1
      simp only at h2 h3
      rw [← h3, e1, e2] at h2
      exact ⟨_, h2, by rw [List.length_append]; omega⟩
    by_cases h1 : k = 1
    · subst h1; exact key 84 0 (by decide) rfl (by omega) rfl rfl
    by_cases h2 : k = 2
    · subst h2; exact key 75 0 (by decide) rfl (by omega) rfl rfl
    by_cases h3 : k = 3
    · subst h3; exact key 65 b (by decide) rfl hb rfl rfl
    by_cases h4 : k = 4
    · subst h4; exact key 67 0 (by decide) rfl (by omega) rfl rfl
    by_cases h5 : k = 5
    · subst h5; exact key 68 0 (by decide) rfl (by omega) rfl rfl
    · exfalso
      unfold playH at h0
      rw [if_neg h1, if_neg h2, if_neg h3, if_neg h4, if_neg h5] at h0
      cases h0
  · obtain ⟨e1, e2⟩ := play_no (J := J) h0
    rw [e1, e2]
    exact ⟨calls, H, Nat.le_refl _⟩
end Go.Proofs.Ytmmmnghiegajmab
