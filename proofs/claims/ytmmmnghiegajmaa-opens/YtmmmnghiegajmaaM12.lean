import Derived.Test.YtmmmnghiegajmaaM11
import Derived.Test.YtmmmnghiegajmaaM02
/- The document's own journal: a record, and one more of them. -/
namespace Go.Proofs.Herald
open Go.RowKit
/-- A record's bytes ahead of its check. -/
def bodyS (c a b : Int) : ByteArray := strOfNums [c] ++ strOfNums (eightL a) ++ strOfNums (eightL b)
def recS (c a b : Int) : ByteArray := bodyS c a b ++ checkS (bodyS c a b)
theorem strOfNums_size (l : List Int) : (strOfNums l).size = l.length := by simp [strOfNums, ByteArray.size]
theorem eightL_len (a : Int) : (eightL a).length = 8 := by simp [eightL]
theorem bodyS_size (c a b : Int) : (bodyS c a b).size = 17 := by
  unfold bodyS
  rw [ByteArray.size_append, ByteArray.size_append, strOfNums_size, strOfNums_size, strOfNums_size, eightL_len, eightL_len]
  rfl
theorem checkS_size (s : ByteArray) : (checkS s).size = 2 := by unfold checkS; rw [strOfNums_size, outN_len]
theorem recS_size (c a b : Int) : (recS c a b).size = 19 := by unfold recS; rw [ByteArray.size_append, bodyS_size, checkS_size]
end Go.Proofs.Herald
namespace Go.Proofs.Ytmmmnghiegajmaa
open Go.RowKit Go.Proofs.Herald
/-- The frame within the record's first statement. -/
def recAct (c a b : Int) (u7 u9 u10 u11 u12 u13 u14 u15 u16 u17 : Value) : Act :=
  { tmps := #[.int .u8 c, .int .i64 a, .int .i64 b, undef, undef, undef, .string ⟨#[]⟩, u7, undef, u9, u10, u11, u12, u13, u14, u15, u16, u17, undef, undef, undef, undef, undef], defers := [] }
/-- What stands between its operations, whatever their order. -/
structure RecAt (c a b : Int) (A E1 E2 : ByteArray) (w : World) (listed : Array Bool) (W : World) (u7 u9 u10 u11 u12 u13 u14 u15 u16 u17 : Value) : Prop where
  sz : listed.size = 10
  bel : Below w.heap.size w W
  h0 : listed.getD 0 false = true → u9 = .int .u8 c
  h1 : listed.getD 1 false = true → ∃ g, u10 = .slice (some ⟨g, 0, none⟩) 1 1 ∧ g < W.heap.size ∧ W.cell? ⟨g, 0, none⟩ = some (.int .u8 c)
  h2 : listed.getD 2 false = true → u11 = .string A
  h3 : listed.getD 3 false = true → u12 = .int .i64 a
  h4 : listed.getD 4 false = true → u13 = .string E1
  h5 : listed.getD 5 false = true → u14 = .string (A ++ E1)
  h6 : listed.getD 6 false = true → u15 = .int .i64 b
  h7 : listed.getD 7 false = true → u16 = .string E2
  h8 : listed.getD 8 false = true → u17 = .string (A ++ E1 ++ E2)
  h9 : listed.getD 9 false = true → u7 = .string (A ++ E1 ++ E2)
def RecInv (c a b : Int) (A E1 E2 : ByteArray) (w : World) (listed : Array Bool) (ac : Act) (W : World) : Prop :=
  ∃ u7 u9 u10 u11 u12 u13 u14 u15 u16 u17, ac = recAct c a b u7 u9 u10 u11 u12 u13 u14 u15 u16 u17 ∧ RecAt c a b A E1 E2 w listed W u7 u9 u10 u11 u12 u13 u14 u15 u16 u17
theorem old_of {listed : Array Bool} {i j : Nat} (hij : i ≠ j) (h : (listed.setIfInBounds i true).getD j false = true) : listed.getD j false = true := by rwa [getD_set_ne false hij] at h
set_option maxRecDepth 20000 in
set_option maxHeartbeats 1000000 in
theorem Recorded_any (c a b : Int) (w : World) :
    Calls Try.prog 149 #[.int .u8 c, .int .i64 a, .int .i64 b] w fun e w' => e = .returned (.string (recS c a b)) ∧ Below w.heap.size w w' := by
  obtain ⟨A, hA⟩ : ∃ A, A = strOfNums [c] := ⟨_, rfl⟩
  obtain ⟨E1, hE1⟩ : ∃ E, E = strOfNums (eightL a) := ⟨_, rfl⟩
  obtain ⟨E2, hE2⟩ : ∃ E, E = strOfNums (eightL b) := ⟨_, rfl⟩
  have HC : ∀ (W : World) (g : Nat), W.cell? ⟨g, 0, none⟩ = some (.int .u8 c) → (convert 139 9 (.slice (some ⟨g, 0, none⟩) 1 1)).run Try.prog W = .ok (.string A) W := fun W g hW => by
    rw [hA]
    exact run_convert_bytes_arg (w := W) 139 5 Try.underlying139 Try.underlying5 g 0 1 1 [c] rfl (fun i hi => by
      match i, hi with
      | 0, _ => exact hW) 9 Try.underlying9
  have H1 : Hid (∀ W : World, Calls Try.prog 176 #[.int .i64 a] W fun e w' => e = .returned (.string E1) ∧ Below W.heap.size W w') := fun W => by rw [hE1]; exact eight_any a W
  have H2 : Hid (∀ W : World, Calls Try.prog 176 #[.int .i64 b] W fun e w' => e = .returned (.string E2) ∧ Below W.heap.size W w') := fun W => by rw [hE2]; exact eight_any b W
  have zA : A.size = 1 := by rw [hA, strOfNums_size]; rfl
  have z1 : E1.size = 8 := by rw [hE1, strOfNums_size, eightL_len]
  have z2 : E2.size = 8 := by rw [hE2, strOfNums_size, eightL_len]
  have HR : Hid (recS c a b = (A ++ E1 ++ E2) ++ checkS (A ++ E1 ++ E2)) := by show _ = _; rw [hA, hE1, hE2]; rfl
  clear hA hE1 hE2
  go_enter Try.func149, Try.ntmps149
  go_wp2_with fail
  refine wp_region_inv (by kernel_rfl) (RecInv c a b A E1 E2 w) ?_ ?_ ?_
  · exact ⟨undef, undef, undef, undef, undef, undef, undef, undef, undef, undef, rfl, by simp, (Below.refl _ _).drew, by simp, by simp, by simp, by simp, by simp, by simp, by simp, by simp, by simp, by simp⟩
  · rintro listed ac W i ⟨u7, u9, u10, u11, u12, u13, u14, u15, u16, u17, rfl, R⟩ hi
    obtain ⟨hun, o, ho, hall⟩ := mem_ready.1 hi
    clear hi
    have hi10 : i < 10 := (Array.getElem?_eq_some_iff.1 ho).1
    rcases (show i = 0 ∨ i = 1 ∨ i = 2 ∨ i = 3 ∨ i = 4 ∨ i = 5 ∨ i = 6 ∨ i = 7 ∨ i = 8 ∨ i = 9 by omega) with rfl | rfl | rfl | rfl | rfl | rfl | rfl | rfl | rfl | rfl
    · simp at ho
      subst ho
      simp [wpOp, Region.wanted, Oper.wp, go_sem, recAct]
      left
      exact ⟨u7, (.int .u8 c), u10, u11, u12, u13, u14, u15, u16, u17, rfl, ⟨by simpa using R.sz, R.bel, fun _ => rfl, fun hh => (fun x => x) (R.h1 (old_of (by decide) hh)), fun hh => R.h2 (old_of (by decide) hh), fun hh => R.h3 (old_of (by decide) hh), fun hh => R.h4 (old_of (by decide) hh), fun hh => R.h5 (old_of (by decide) hh), fun hh => R.h6 (old_of (by decide) hh), fun hh => R.h7 (old_of (by decide) hh), fun hh => R.h8 (old_of (by decide) hh), fun hh => R.h9 (old_of (by decide) hh)⟩⟩
    · simp at ho
      subst ho
      have g0 : listed.getD 0 false = true := hall { on := 0, ground := .data } (by simp) rfl
      obtain rfl := R.h0 g0
      simp [wpOp, Region.wanted, Oper.wp, go_sem, recAct]
      left
      exact ⟨u7, _, (.slice (some ⟨W.heap.size, 0, none⟩) 1 1), u11, u12, u13, u14, u15, u16, u17, rfl, ⟨by simpa using R.sz, R.bel.alloc R.bel.size _, fun hh => R.h0 (old_of (by decide) hh), fun _ => ⟨_, rfl, by simp, by simp [go_sem]⟩, fun hh => R.h2 (old_of (by decide) hh), fun hh => R.h3 (old_of (by decide) hh), fun hh => R.h4 (old_of (by decide) hh), fun hh => R.h5 (old_of (by decide) hh), fun hh => R.h6 (old_of (by decide) hh), fun hh => R.h7 (old_of (by decide) hh), fun hh => R.h8 (old_of (by decide) hh), fun hh => R.h9 (old_of (by decide) hh)⟩⟩
    · simp at ho
      subst ho
      have g1 : listed.getD 1 false = true := hall { on := 1, ground := .data } (by simp) rfl
      obtain ⟨g, rfl, hgl, hgc⟩ := R.h1 g1
      have hcv := HC W g hgc
      simp [wpOp, Region.wanted, Oper.wp, go_sem, recAct, hcv]
      left
      exact ⟨u7, u9, _, (.string A), u12, u13, u14, u15, u16, u17, rfl, ⟨by simpa using R.sz, R.bel, fun hh => R.h0 (old_of (by decide) hh), fun hh => (fun x => x) (R.h1 (old_of (by decide) hh)), fun _ => rfl, fun hh => R.h3 (old_of (by decide) hh), fun hh => R.h4 (old_of (by decide) hh), fun hh => R.h5 (old_of (by decide) hh), fun hh => R.h6 (old_of (by decide) hh), fun hh => R.h7 (old_of (by decide) hh), fun hh => R.h8 (old_of (by decide) hh), fun hh => R.h9 (old_of (by decide) hh)⟩⟩
    · simp at ho
      subst ho
      simp [wpOp, Region.wanted, Oper.wp, go_sem, recAct]
      left
      exact ⟨u7, u9, u10, u11, (.int .i64 a), u13, u14, u15, u16, u17, rfl, ⟨by simpa using R.sz, R.bel, fun hh => R.h0 (old_of (by decide) hh), fun hh => (fun x => x) (R.h1 (old_of (by decide) hh)), fun hh => R.h2 (old_of (by decide) hh), fun _ => rfl, fun hh => R.h4 (old_of (by decide) hh), fun hh => R.h5 (old_of (by decide) hh), fun hh => R.h6 (old_of (by decide) hh), fun hh => R.h7 (old_of (by decide) hh), fun hh => R.h8 (old_of (by decide) hh), fun hh => R.h9 (old_of (by decide) hh)⟩⟩
    · simp at ho
      subst ho
      have g3 : listed.getD 3 false = true := hall { on := 3, ground := .data } (by simp) rfl
      obtain rfl := R.h3 g3
      simp [wpOp, Region.wanted, Oper.wp, go_sem, recAct]
      left
      refine (H1.out _).mono ?_
      rintro e w1 ⟨rfl, hb1⟩
      exact ⟨u7, u9, u10, u11, _, (.string E1), u14, u15, u16, u17, rfl, ⟨by simpa using R.sz, R.bel.trans (hb1.mono R.bel.size), fun hh => R.h0 (old_of (by decide) hh), fun hh => (fun ⟨g, e1, e2, e3⟩ => ⟨g, e1, Nat.lt_of_lt_of_le e2 hb1.size, (hb1.cell (p := ⟨g, 0, none⟩) e2).trans e3⟩) (R.h1 (old_of (by decide) hh)), fun hh => R.h2 (old_of (by decide) hh), fun hh => R.h3 (old_of (by decide) hh), fun _ => rfl, fun hh => R.h5 (old_of (by decide) hh), fun hh => R.h6 (old_of (by decide) hh), fun hh => R.h7 (old_of (by decide) hh), fun hh => R.h8 (old_of (by decide) hh), fun hh => R.h9 (old_of (by decide) hh)⟩⟩
    · simp at ho
      subst ho
      have g2 : listed.getD 2 false = true := hall { on := 2, ground := .data } (by simp) rfl
      have g4 : listed.getD 4 false = true := hall { on := 4, ground := .data } (by simp) rfl
      obtain rfl := R.h2 g2
      obtain rfl := R.h4 g4
      simp [wpOp, Region.wanted, Oper.wp, go_sem, recAct, zA, z1]
      left
      exact ⟨u7, u9, u10, _, u12, _, (.string (A ++ E1)), u15, u16, u17, rfl, ⟨by simpa using R.sz, R.bel, fun hh => R.h0 (old_of (by decide) hh), fun hh => (fun x => x) (R.h1 (old_of (by decide) hh)), fun hh => R.h2 (old_of (by decide) hh), fun hh => R.h3 (old_of (by decide) hh), fun hh => R.h4 (old_of (by decide) hh), fun _ => rfl, fun hh => R.h6 (old_of (by decide) hh), fun hh => R.h7 (old_of (by decide) hh), fun hh => R.h8 (old_of (by decide) hh), fun hh => R.h9 (old_of (by decide) hh)⟩⟩
    · simp at ho
      subst ho
      simp [wpOp, Region.wanted, Oper.wp, go_sem, recAct]
      left
      exact ⟨u7, u9, u10, u11, u12, u13, u14, (.int .i64 b), u16, u17, rfl, ⟨by simpa using R.sz, R.bel, fun hh => R.h0 (old_of (by decide) hh), fun hh => (fun x => x) (R.h1 (old_of (by decide) hh)), fun hh => R.h2 (old_of (by decide) hh), fun hh => R.h3 (old_of (by decide) hh), fun hh => R.h4 (old_of (by decide) hh), fun hh => R.h5 (old_of (by decide) hh), fun _ => rfl, fun hh => R.h7 (old_of (by decide) hh), fun hh => R.h8 (old_of (by decide) hh), fun hh => R.h9 (old_of (by decide) hh)⟩⟩
    · simp at ho
      subst ho
      have g6 : listed.getD 6 false = true := hall { on := 6, ground := .data } (by simp) rfl
      obtain rfl := R.h6 g6
      simp [wpOp, Region.wanted, Oper.wp, go_sem, recAct]
      left
      refine (H2.out _).mono ?_
      rintro e w1 ⟨rfl, hb1⟩
      exact ⟨u7, u9, u10, u11, u12, u13, u14, _, (.string E2), u17, rfl, ⟨by simpa using R.sz, R.bel.trans (hb1.mono R.bel.size), fun hh => R.h0 (old_of (by decide) hh), fun hh => (fun ⟨g, e1, e2, e3⟩ => ⟨g, e1, Nat.lt_of_lt_of_le e2 hb1.size, (hb1.cell (p := ⟨g, 0, none⟩) e2).trans e3⟩) (R.h1 (old_of (by decide) hh)), fun hh => R.h2 (old_of (by decide) hh), fun hh => R.h3 (old_of (by decide) hh), fun hh => R.h4 (old_of (by decide) hh), fun hh => R.h5 (old_of (by decide) hh), fun hh => R.h6 (old_of (by decide) hh), fun _ => rfl, fun hh => R.h8 (old_of (by decide) hh), fun hh => R.h9 (old_of (by decide) hh)⟩⟩
    · simp at ho
      subst ho
      have g5 : listed.getD 5 false = true := hall { on := 5, ground := .data } (by simp) rfl
      have g7 : listed.getD 7 false = true := hall { on := 7, ground := .data } (by simp) rfl
      obtain rfl := R.h5 g5
      obtain rfl := R.h7 g7
      simp [wpOp, Region.wanted, Oper.wp, go_sem, recAct, zA, z1, z2]
      left
      exact ⟨u7, u9, u10, u11, u12, u13, _, u15, _, (.string (A ++ E1 ++ E2)), rfl, ⟨by simpa using R.sz, R.bel, fun hh => R.h0 (old_of (by decide) hh), fun hh => (fun x => x) (R.h1 (old_of (by decide) hh)), fun hh => R.h2 (old_of (by decide) hh), fun hh => R.h3 (old_of (by decide) hh), fun hh => R.h4 (old_of (by decide) hh), fun hh => R.h5 (old_of (by decide) hh), fun hh => R.h6 (old_of (by decide) hh), fun hh => R.h7 (old_of (by decide) hh), fun _ => rfl, fun hh => R.h9 (old_of (by decide) hh)⟩⟩
    · simp at ho
      subst ho
      have g8 : listed.getD 8 false = true := hall { on := 8, ground := .data } (by simp) rfl
      obtain rfl := R.h8 g8
      simp [wpOp, Region.wanted, Oper.wp, go_sem, recAct]
      left
      exact ⟨(.string (A ++ E1 ++ E2)), u9, u10, u11, u12, u13, u14, u15, u16, _, rfl, ⟨by simpa using R.sz, R.bel, fun hh => R.h0 (old_of (by decide) hh), fun hh => (fun x => x) (R.h1 (old_of (by decide) hh)), fun hh => R.h2 (old_of (by decide) hh), fun hh => R.h3 (old_of (by decide) hh), fun hh => R.h4 (old_of (by decide) hh), fun hh => R.h5 (old_of (by decide) hh), fun hh => R.h6 (old_of (by decide) hh), fun hh => R.h7 (old_of (by decide) hh), fun hh => R.h8 (old_of (by decide) hh), fun _ => rfl⟩⟩
  · rintro listed ac W ⟨u7, u9, u10, u11, u12, u13, u14, u15, u16, u17, rfl, R⟩ hr
    have hd := ready_nil (by rw [R.sz]; rfl) (by kernel_rfl) hr
    obtain rfl := R.h0 (hd 0 (by decide))
    obtain ⟨g, rfl, _, _⟩ := R.h1 (hd 1 (by decide))
    obtain rfl := R.h2 (hd 2 (by decide))
    obtain rfl := R.h3 (hd 3 (by decide))
    obtain rfl := R.h4 (hd 4 (by decide))
    obtain rfl := R.h5 (hd 5 (by decide))
    obtain rfl := R.h6 (hd 6 (by decide))
    obtain rfl := R.h7 (hd 7 (by decide))
    obtain rfl := R.h8 (hd 8 (by decide))
    obtain rfl := R.h9 (hd 9 (by decide))
    have HB : Hid (Below w.heap.size w W) := R.bel
    clear R hd hr
    have HK : Hid (∀ W : World, Calls Try.prog 132 #[.string (A ++ E1 ++ E2)] W fun e w' => e = .returned (.string (checkS (A ++ E1 ++ E2))) ∧ Below W.heap.size W w') := fun W => Check_any _ (by simp only [ByteArray.size_append]; omega) (by simp only [ByteArray.size_append]; omega) W
    have zz : (checkS (A ++ E1 ++ E2)).size = 2 := checkS_size _
    have zy : (A ++ E1 ++ E2).size = 17 := by simp only [ByteArray.size_append]; omega
    unfold recAct
    generalize A ++ E1 ++ E2 = Z at *
    generalize checkS Z = Y at *
    clear HC H1 H2 zA z1 z2
    go_wp2_with fail
    refine (HK.out _).mono ?_
    rintro e w1 ⟨rfl, hb1⟩
    go_wp2_with fail
    go_ret
    rw [HR.out]
    exact ⟨rfl, HB.out.trans (hb1.mono HB.out.size)⟩
end Go.Proofs.Ytmmmnghiegajmaa
/- The document's own journal: one record more. -/
namespace Go.Proofs.Ytmmmnghiegajmaa
open Go.RowKit Go.Proofs.Herald
set_option maxRecDepth 20000 in
set_option maxHeartbeats 1000000 in
theorem wrote_any (S : Nat) (cs : Array Value) (rec : ByteArray) (c a b : Int) (w : World) (hS : w.heap[S]? = some (.cells cs 121 (0, 0))) (h7 : cs[7]? = some (.string rec)) (hr : rec.size ≤ 1000000000000) :
    Calls Try.prog 120 #[.pointer (some ⟨S, 0, none⟩), .int .u8 c, .int .i64 a, .int .i64 b] w fun e w' => e = .returned (.tuple #[]) ∧ w'.heap[S]? = some (.cells (cs.setIfInBounds 7 (.string (rec ++ recS c a b))) 121 (0, 0)) ∧ Fr (fun k => k = S) w w' := by
  have c7 : w.cell? ⟨S, 7, none⟩ = some (.string rec) := (cell_of_heap hS).trans h7
  have z7 : w.frozen? ⟨S, 7, none⟩ = false := free_of_heap hS
  have hSl : S < w.heap.size := heap_lt hS
  obtain ⟨Z, hZ⟩ : ∃ Z, Z = recS c a b := ⟨_, rfl⟩
  have zz : Z.size = 19 := by rw [hZ]; exact recS_size c a b
  rw [← hZ]
  have HR : Hid (∀ W : World, Calls Try.prog 149 #[.int .u8 c, .int .i64 a, .int .i64 b] W fun e w' => e = .returned (.string Z) ∧ Below W.heap.size W w') := fun W => by rw [hZ]; exact Recorded_any c a b W
  have HS : Hid (w.heap[S]? = some (.cells cs 121 (0, 0))) := hS
  have HF : Hid (∀ w1, Below w.drew.heap.size w.drew w1 → w1.cell? ⟨S, 7, none⟩ = some (.string rec) ∧ w1.frozen? ⟨S, 7, none⟩ = false ∧ S < w1.heap.size) := fun w1 hb => by
    have h1 : w1.heap[S]? = some (.cells cs 121 (0, 0)) := (hb.block S hSl).trans HS.out
    exact ⟨(cell_of_heap h1).trans h7, free_of_heap h1, heap_lt h1⟩
  clear hZ hS h7
  go_enter Try.func120, Try.ntmps120
  go_region_with (go_at_call 149; refine (HR.out _).mono ?_; rintro e w1 ⟨rfl, hb1⟩; obtain ⟨k1, k2, k3⟩ := HF.out w1 hb1)
  all_goals
    go_end0
    have h1 : w1.heap[S]? = some (.cells cs 121 (0, 0)) := (hb1.block S hSl).trans HS.out
    refine ⟨rfl, heap_setCell_self _ h1, ?_⟩
    have f1 : Fr (fun k => k = S) w w1 := ⟨hb1.os, hb1.tape, hb1.output, hb1.size, fun k hk _ => hb1.block k hk⟩
    exact f1.setCell ⟨S, 7, none⟩ (Or.inl rfl) _
end Go.Proofs.Ytmmmnghiegajmaa
