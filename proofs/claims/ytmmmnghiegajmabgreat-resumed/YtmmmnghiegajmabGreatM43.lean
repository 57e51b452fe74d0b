import Derived.Test.YtmmmnghiegajmabGreatM30
import Derived.Test.YtmmmnghiegajmabGreatM42
/- A record is read: just those bytes that would be written. -/
namespace Go.Proofs.Herald
open Go
/-- Is there such a call? -/
def isC (c : Nat) (b : Int) : Bool := if c = 84 ∨ c = 75 ∨ c = 67 ∨ c = 68 then b == 0 else c == 65
def nameL (L : List Nat) : Nat := L.getD 0 0
def firstL (L : List Nat) : Int := w64 (valB ((L.drop 1).take 8))
def secondL (L : List Nat) : Int := w64 (valB ((L.drop 9).take 8))
/-- The call of a record of 19 bytes. -/
def readB (L : List Nat) : Option (Nat × Int × Int) :=
  if recB (nameL L) (firstL L) (secondL L) = L ∧ isC (nameL L) (secondL L) = true then some (nameL L, firstL L, secondL L) else none
theorem readB_some {L : List Nat} {c : Nat} {a b : Int} (h : readB L = some (c, a, b)) : L = recB c a b ∧ isC c b = true := by
  unfold readB at h
  split at h
  · rename_i hh
    simp only [Option.some.injEq, Prod.mk.injEq] at h
    obtain ⟨rfl, rfl, rfl⟩ := h
    exact ⟨hh.1.symm, hh.2⟩
  · cases h
theorem byteR_chain (n : Int) : n / 18446744073709551616 * 18446744073709551616 + valB (eightN n) = n := by
  have e : ∀ k, ((byteR n k).toNat : Int) = byteR n k := fun k => by have := byteR_bd n k; omega
  have ev : valB (eightN n) = (((((((byteR n 0 * 256 + byteR n 1) * 256 + byteR n 2) * 256 + byteR n 3) * 256 + byteR n 4) * 256 + byteR n 5) * 256 + byteR n 6) * 256 + byteR n 7) := by
    unfold valB eightN
    simp only [List.range, List.range.loop, List.map_cons, List.map_nil, List.foldl_cons, List.foldl_nil, e]
    omega
  rw [ev]
  unfold byteR
  have d0 : n / 2 ^ (56 - 8 * 0) = n / 72057594037927936 := rfl
  have d1 : n / 2 ^ (56 - 8 * 1) = n / 281474976710656 := rfl
  have d2 : n / 2 ^ (56 - 8 * 2) = n / 1099511627776 := rfl
  have d3 : n / 2 ^ (56 - 8 * 3) = n / 4294967296 := rfl
  have d4 : n / 2 ^ (56 - 8 * 4) = n / 16777216 := rfl
  have d5 : n / 2 ^ (56 - 8 * 5) = n / 65536 := rfl
  have d6 : n / 2 ^ (56 - 8 * 6) = n / 256 := rfl
  have d7 : n / 2 ^ (56 - 8 * 7) = n := by show n / 1 = n; exact Int.ediv_one n
  rw [d0, d1, d2, d3, d4, d5, d6, d7]
  omega
theorem valB_eight {n : Int} (h1 : -9223372036854775808 ≤ n) (h2 : n ≤ 9223372036854775807) : w64 (valB (eightN n)) = n := by
  have h := byteR_chain n
  unfold w64
  omega
theorem readB_rec {c : Nat} {a b : Int} (hb : isC c b = true) (a1 : -9223372036854775808 ≤ a) (a2 : a ≤ 9223372036854775807) (b1 : -9223372036854775808 ≤ b) (b2 : b ≤ 9223372036854775807) : readB (recB c a b) = some (c, a, b) := by
  have e1 : nameL (recB c a b) = c := rfl
  have l1 := eightN_len a
  have l2 := eightN_len b
  have e2 : ((recB c a b).drop 1).take 8 = eightN a := by
    unfold recB bodyB
    rw [List.cons_append, List.drop_succ_cons, List.drop_zero, List.append_assoc, List.take_left' l1]
  have e3 : ((recB c a b).drop 9).take 8 = eightN b := by
    unfold recB bodyB
    rw [List.cons_append, List.drop_succ_cons, List.append_assoc, List.drop_left' l1, List.take_left' l2]
  have e4 : firstL (recB c a b) = a := by unfold firstL; rw [e2]; exact valB_eight a1 a2
  have e5 : secondL (recB c a b) = b := by unfold secondL; rw [e3]; exact valB_eight b1 b2
  unfold readB
  rw [e1, e4, e5, if_pos ⟨rfl, hb⟩]
end Go.Proofs.Herald
namespace Go.Proofs.YtmmmnghiegajmabGreat
open Go.RowKit Go.Proofs.Herald
set_option maxRecDepth 20000 in
set_option maxHeartbeats 4000000 in
theorem x_isCall (c : Nat) (_hc : c < 256) (a b : Int) (w : World) :
    Calls Tryz.prog 58 #[.agg #[.int .u8 (c : Nat), .int .i64 a, .int .i64 b]] w fun e w' => e = .returned (.bool (isC c b)) ∧ Below w.heap.size w w' := by
  have HB : Hid (∀ o, Below w.heap.size w (w.alloc o)) := fun o => (Below.refl _ _).alloc (Nat.le_refl _) o
  by_cases h1 : c = 84
  · have HI : Hid (isC c b = (b == 0)) := by show isC c b = _; unfold isC; rw [if_pos (.inl h1)]
    have b1 : (((c : Nat) : Int) == 84) = true := by simp [h1]
    clear h1
    go_enter Tryz.func58, Tryz.ntmps58
    go_wp2_with fail
    go_ret
    refine ⟨?_, HB.out _⟩
    rw [HI.out]
    rfl
  have b1 : (((c : Nat) : Int) == 84) = false := by simp; omega
  by_cases h2 : c = 75
  · have HI : Hid (isC c b = (b == 0)) := by show isC c b = _; unfold isC; rw [if_pos (.inr (.inl h2))]
    have b2 : (((c : Nat) : Int) == 75) = true := by simp [h2]
    clear h1 h2
    go_enter Tryz.func58, Tryz.ntmps58
    go_wp2_with fail
    go_ret
    refine ⟨?_, HB.out _⟩
    rw [HI.out]
    rfl
  have b2 : (((c : Nat) : Int) == 75) = false := by simp; omega
  by_cases h3 : c = 67
  · have HI : Hid (isC c b = (b == 0)) := by show isC c b = _; unfold isC; rw [if_pos (.inr (.inr (.inl h3)))]
    have b3 : (((c : Nat) : Int) == 67) = true := by simp [h3]
    clear h1 h2 h3
    go_enter Tryz.func58, Tryz.ntmps58
    go_wp2_with fail
    go_ret
    refine ⟨?_, HB.out _⟩
    rw [HI.out]
    rfl
  have b3 : (((c : Nat) : Int) == 67) = false := by simp; omega
  by_cases h4 : c = 68
  · have HI : Hid (isC c b = (b == 0)) := by show isC c b = _; unfold isC; rw [if_pos (.inr (.inr (.inr h4)))]
    have b4 : (((c : Nat) : Int) == 68) = true := by simp [h4]
    clear h1 h2 h3 h4
    go_enter Tryz.func58, Tryz.ntmps58
    go_wp2_with fail
    go_ret
    refine ⟨?_, HB.out _⟩
    rw [HI.out]
    rfl
  have b4 : (((c : Nat) : Int) == 68) = false := by simp; omega
  have HI : Hid (isC c b = (c == 65)) := by
    show isC c b = _
    unfold isC
    rw [if_neg (by omega)]
  by_cases h5 : c = 65
  · have b5 : (((c : Nat) : Int) == 65) = true := by simp [h5]
    have HI2 : Hid (isC c b = true) := HI.out.trans (by simp [h5])
    clear h1 h2 h3 h4 h5
    go_enter Tryz.func58, Tryz.ntmps58
    go_wp2_with fail
    go_ret
    refine ⟨?_, HB.out _⟩
    rw [HI2.out]
    rfl
  · have b5 : (((c : Nat) : Int) == 65) = false := by simp; omega
    have HI2 : Hid (isC c b = false) := HI.out.trans (by simp [h5])
    clear h1 h2 h3 h4 h5
    go_enter Tryz.func58, Tryz.ntmps58
    go_wp2_with fail
    go_ret
    refine ⟨?_, HB.out _⟩
    rw [HI2.out]
    rfl
/-- Bytes that a slice holds are made a string. -/
theorem str_of_row {w : World} {a : Option Addr} {cap : Nat} {L : List Nat} (h : w.ownsRow 0 5 1 (.slice a L.length cap) L.length (bytesV (natsI L))) (hp : 0 < L.length) : (convert 73 9 (.slice a L.length cap)).run Tryz.prog w = .ok (.string (strN L)) w := by
  obtain ⟨g, c, hv, _, _⟩ := h.form hp
  simp at hv
  obtain ⟨rfl, rfl⟩ := hv
  rw [← strN_nums]
  have hl : (natsI L).length = L.length := natsI_len L
  refine run_convert_bytes_arg (w := w) 73 5 Tryz.underlying73 Tryz.underlying5 g 0 L.length cap (natsI L) hl (fun i hi => ?_) 9 Tryz.underlying9
  have hi2 : i < L.length := by omega
  have h1 := own_get h i (.int .u8 ((natsI L).getD i 0)) (by simp [bytesV, natsI, hi2])
  rw [Nat.zero_add]
  exact h1.1
/-- The answer of Read. -/
def readV (o : Option (Nat × Int × Int)) : Value :=
  match o with
  | some (c, a, b) => .tuple #[.agg #[.int .u8 (c : Nat), .int .i64 a, .int .i64 b], .bool true]
  | none => .tuple #[.agg #[.int .u8 0, .int .i64 0, .int .i64 0], .bool false]
theorem cells3_of {w : World} {R : Nat} {a b c : Value} {t : TypeId} (h : w.heap[R]? = some (.cells #[a, b, c] t (0, 0))) : (w.cell? ⟨R, 0, none⟩ = some a ∧ w.cell? ⟨R, 1, none⟩ = some b ∧ w.cell? ⟨R, 2, none⟩ = some c) ∧ (w.frozen? ⟨R, 0, none⟩ = false ∧ w.frozen? ⟨R, 1, none⟩ = false ∧ w.frozen? ⟨R, 2, none⟩ = false) ∧ R < w.heap.size :=
  ⟨⟨(cell_of_heap h).trans rfl, (cell_of_heap h).trans rfl, (cell_of_heap h).trans rfl⟩, ⟨free_of_heap h, free_of_heap h, free_of_heap h⟩, heap_lt h⟩
theorem sub_lt {L : List Nat} (hL : ∀ x ∈ L, x < 256) (a n : Nat) : ∀ x ∈ (L.drop a).take n, x < 256 := fun x hx => hL x (List.mem_of_mem_drop (List.mem_of_mem_take hx))
set_option maxRecDepth 20000 in
set_option maxHeartbeats 4000000 in
theorem x_Read (L : List Nat) (hL : ∀ x ∈ L, x < 256) (hl : L.length = 19) (w : World) :
    Calls Tryz.prog 40 #[.string (strN L)] w fun e w' => e = .returned (readV (readB L)) ∧ Below w.heap.size w w' := by
  have hz : (strN L).size = 19 := by rw [strN_size, hl]
  have HX1 : Hid (∀ W : World, Calls Tryz.prog 57 #[.string ((strN L).extract 1 9)] W fun e w' => e = .returned (.int .i64 (firstL L)) ∧ w' = W) := fun W => by
    rw [strN_extract]
    exact x_numberOf _ (sub_lt hL 1 8) (by rw [List.length_take]; omega) W
  have HX2 : Hid (∀ W : World, Calls Tryz.prog 57 #[.string ((strN L).extract 9 17)] W fun e w' => e = .returned (.int .i64 (secondL L)) ∧ w' = W) := fun W => by
    rw [strN_extract]
    exact x_numberOf _ (sub_lt hL 9 8) (by rw [List.length_take]; omega) W
  have h0 : 0 < (strN L).size := by omega
  have hn : (((strN L)[0]).toNat : Int) = ((nameL L : Nat) : Int) := by
    have h1 : 0 < L.length := by omega
    rw [strN_get h0 h1 (hL _ (List.getElem_mem h1))]
    unfold nameL
    simp [h1]
  have hc : nameL L < 256 := by
    unfold nameL
    have h1 : 0 < L.length := by omega
    rw [List.getD_eq_getElem?_getD, List.getElem?_eq_getElem h1]
    exact hL _ (List.getElem_mem h1)
  have HRB : Hid (readB L = if recB (nameL L) (firstL L) (secondL L) = L ∧ isC (nameL L) (secondL L) = true then some (nameL L, firstL L, secondL L) else none) := rfl
  generalize nameL L = c at *
  generalize firstL L = a at *
  generalize secondL L = b at *
  have HW : Hid (∀ W : World, Calls Tryz.prog 49 #[.agg #[.int .u8 (c : Nat), .int .i64 a, .int .i64 b]] W fun e w' => ∃ v, e = .returned v ∧ w'.ownsRow W.heap.size 5 1 v 19 (bytesV (natsI (recB c a b))) ∧ Below W.heap.size W w') := fun W => x_write c hc a b W
  have HC : Hid (∀ W : World, Calls Tryz.prog 58 #[.agg #[.int .u8 (c : Nat), .int .i64 a, .int .i64 b]] W fun e w' => e = .returned (.bool (isC c b)) ∧ Below W.heap.size W w') := fun W => x_isCall c hc a b W
  have HNE : Hid (strN (recB c a b) = strN L ↔ recB c a b = L) := by
    refine ⟨fun h => strN_inj (fun x hx => ?_) hL h, fun h => by rw [h]⟩
    rcases List.mem_append.mp hx with h1 | h1
    · exact bodyB_lt hc a b x h1
    · have := crcL_lt (bodyB c a b) (r := 65535) (by decide) (bodyB_lt hc a b)
      have e : crcL (bodyB c a b) = (bodyB c a b).foldl crcByte 65535 := rfl
      rw [← e] at this
      simp at h1
      omega
  clear hL hl hc
  go_enter Tryz.func40, Tryz.ntmps40
  go_wp2_with fail
  refine (HX1.out _).mono ?_
  rintro e w1 ⟨rfl, hw1⟩
  rw [hw1]
  clear hw1
  go_wp2_with fail
  refine (HX2.out _).mono ?_
  rintro e w2 ⟨rfl, hw2⟩
  rw [hw2]
  clear hw2
  go_wp2_with fail
  obtain ⟨W0, hW0⟩ : ∃ W0, W0 = (w.alloc (.cells #[.int .u8 0, .int .i64 0, .int .i64 0] 89)).alloc (.cells #[.int .u8 (c : Nat), .int .i64 a, .int .i64 b] 89) := ⟨_, rfl⟩
  have HB0 : Hid (Below w.heap.size w W0 ∧ W0.heap[w.heap.size]? = some (.cells #[.int .u8 0, .int .i64 0, .int .i64 0] 89 (0, 0)) ∧ W0.heap[w.heap.size + 1]? = some (.cells #[.int .u8 (c : Nat), .int .i64 a, .int .i64 b] 89 (0, 0))) := by
    rw [hW0]
    refine ⟨((Below.refl _ _).alloc (Nat.le_refl _) _).alloc (by simp) _, ?_, heap_alloc2 _ _ _⟩
    rw [Below.heap_alloc _ _ _ (by simp)]
    exact heap_alloc_new _ _
  rw [← hW0]
  clear hW0
  refine (HW.out W0).mono ?_
  rintro e w3 ⟨v, rfl, hown, hb3⟩
  obtain ⟨va, vc, hv⟩ := ownsRow_slice hown
  subst hv
  have HB3 : Hid (Below w.heap.size w w3 ∧ w3.heap[w.heap.size]? = some (.cells #[.int .u8 0, .int .i64 0, .int .i64 0] 89 (0, 0)) ∧ w3.heap[w.heap.size + 1]? = some (.cells #[.int .u8 (c : Nat), .int .i64 a, .int .i64 b] 89 (0, 0))) := ⟨HB0.out.1.trans (hb3.mono HB0.out.1.size), (hb3.block _ (heap_lt HB0.out.2.1)).trans HB0.out.2.1, (hb3.block _ (heap_lt HB0.out.2.2)).trans HB0.out.2.2⟩
  have hcv : (convert 73 9 (.slice va 19 vc)).run Tryz.prog w3 = .ok (.string (strN (recB c a b))) w3 := by
    have h1 := recB_len c a b
    have h2 := str_of_row (w := w3) (a := va) (cap := vc) (L := recB c a b) (by rw [h1]; exact own0 hown) (by omega)
    rwa [h1] at h2
  clear hown hb3 HB0 HW HX1 HX2
  obtain ⟨⟨r0, r1, r2⟩, ⟨f0, f1, f2⟩, hRl⟩ := cells3_of HB3.out.2.1
  obtain ⟨⟨k0, k1, k2⟩, _, hKl⟩ := cells3_of HB3.out.2.2
  have HFIN : Hid (∀ (w4 : World) (x y z : Value), Below w3.heap.size w3 w4 → (((w4.setCell ⟨w.heap.size, 0, none⟩ x).setCell ⟨w.heap.size, 1, none⟩ y).setCell ⟨w.heap.size, 2, none⟩ z).heap[w.heap.size]? = some (.cells #[x, y, z] 89 (0, 0)) ∧ Below w.heap.size w (((w4.setCell ⟨w.heap.size, 0, none⟩ x).setCell ⟨w.heap.size, 1, none⟩ y).setCell ⟨w.heap.size, 2, none⟩ z)) := fun w4 x y z hb => by
    have hr : w4.heap[w.heap.size]? = some (.cells #[.int .u8 0, .int .i64 0, .int .i64 0] 89 (0, 0)) := (hb.block _ hRl).trans HB3.out.2.1
    refine ⟨state_set hr, ?_⟩
    have hb2 : Below w.heap.size w w4 := HB3.out.1.trans (hb.mono HB3.out.1.size)
    exact ((hb2.setCell (p := ⟨w.heap.size, 0, none⟩) (Nat.le_refl _) _).setCell (p := ⟨w.heap.size, 1, none⟩) (Nat.le_refl _) _).setCell (p := ⟨w.heap.size, 2, none⟩) (Nat.le_refl _) _
  by_cases heq : recB c a b = L
  · rw [heq] at hcv
    have HEQ : Hid (recB c a b = L) := heq
    clear heq
    go_wp2_with fail
    refine (HC.out _).mono ?_
    rintro e w4 ⟨rfl, hb4⟩
    have HB4 : Hid (Below w3.heap.size w3 w4) := hb4
    have hr4 := (hb4.block _ hRl).trans HB3.out.2.1
    have hk4 := (hb4.block _ hKl).trans HB3.out.2.2
    clear r0 r1 r2 f0 f1 f2 k0 k1 k2 hb4 hcv
    obtain ⟨⟨r0, r1, r2⟩, ⟨f0, f1, f2⟩, hRl4⟩ := cells3_of hr4
    obtain ⟨⟨k0, k1, k2⟩, _, hKl4⟩ := cells3_of hk4
    clear hr4 hk4
    cases hi : isC c b with
    | true =>
      have HRD : Hid (readB L = some (c, a, b)) := HRB.out.trans (if_pos ⟨HEQ.out, hi⟩)
      go_wp2_with fail
      obtain ⟨h3, hb⟩ := HFIN.out w4 (.int .u8 (c : Nat)) (.int .i64 a) (.int .i64 b) HB4.out
      generalize ((w4.setCell ⟨w.heap.size, 0, none⟩ (.int .u8 (c : Nat))).setCell ⟨w.heap.size, 1, none⟩ (.int .i64 a)).setCell ⟨w.heap.size, 2, none⟩ (.int .i64 b) = U at *
      obtain ⟨⟨u0, u1, u2⟩, _, hU⟩ := cells3_of h3
      refine bodyPost_ret (v := readV (some (c, a, b))) (by simp [results, Tryz.results40, go_sem, readV, u0, u1, u2]) rfl ⟨by rw [HRD.out], hb⟩
    | false =>
      have HRD : Hid (readB L = none) := HRB.out.trans (if_neg (by rintro ⟨_, h⟩; rw [hi] at h; cases h))
      go_wp2_with fail
      obtain ⟨h3, hb⟩ := HFIN.out w4 (.int .u8 0) (.int .i64 0) (.int .i64 0) HB4.out
      generalize ((w4.setCell ⟨w.heap.size, 0, none⟩ (.int .u8 0)).setCell ⟨w.heap.size, 1, none⟩ (.int .i64 0)).setCell ⟨w.heap.size, 2, none⟩ (.int .i64 0) = U at *
      obtain ⟨⟨u0, u1, u2⟩, _, hU⟩ := cells3_of h3
      refine bodyPost_ret (v := readV none) (by simp [results, Tryz.results40, go_sem, readV, u0, u1, u2]) rfl ⟨by rw [HRD.out], hb⟩
  · have HRD : Hid (readB L = none) := HRB.out.trans (if_neg (by rintro ⟨h, _⟩; exact heq h))
    have hne : ¬ strN (recB c a b) = strN L := fun h => heq (HNE.out.mp h)
    have hnb : (strN (recB c a b)).toList ≠ (strN L).toList := fun h => hne (byteArray_eq (by rw [← ByteArray.toList_eq, ← ByteArray.toList_eq]; exact h))
    have hnc : ((strN (recB c a b)).toList == (strN L).toList) = false := by simpa using hnb
    clear heq
    generalize strN (recB c a b) = S at *
    go_wp2_with fail
    obtain ⟨h3, hb⟩ := HFIN.out w3 (.int .u8 0) (.int .i64 0) (.int .i64 0) (Below.refl _ _)
    generalize ((w3.setCell ⟨w.heap.size, 0, none⟩ (.int .u8 0)).setCell ⟨w.heap.size, 1, none⟩ (.int .i64 0)).setCell ⟨w.heap.size, 2, none⟩ (.int .i64 0) = U at *
    obtain ⟨⟨u0, u1, u2⟩, _, hU⟩ := cells3_of h3
    refine bodyPost_ret (v := readV none) (by simp [results, Tryz.results40, go_sem, readV, u0, u1, u2]) rfl ⟨by rw [HRD.out], hb⟩
end Go.Proofs.YtmmmnghiegajmabGreat
