/- The harness begins with code: a herald just where the code is sound. -/
import Derived.Test.YtiaibigmbflpiaaNewE
import Derived.Test.YtiaibigmbflpiaaNewC
namespace Go.Proofs.Ytiaibigmbflpiaa
open Go.RowKit Go.Proofs.Herald

theorem CodeIn.fr {w w' : World} {a : Option Addr} {b off S : Nat} {cs : List Ins} (h : CodeIn w a b off cs) (hb : Fr (fun k => k = S) w w') (hS : 0 < cs.length → b ≠ S) : CodeIn w' a b off cs := fun hp =>
  ⟨(h hp).1, Nat.lt_of_lt_of_le (h hp).2.1 hb.size, (h hp).2.2.keep (hb.block _ (h hp).2.1 (hS hp))⟩

set_option maxHeartbeats 2000000 in
theorem begun_no (a : Option Addr) (b off cap : Nat) (cs : List Ins) (w : World) (hc : CodeIn w a b off cs) (hm : cs.length ≤ 4398046511000) (hs : soundL cs = false) :
    Calls Try.prog 14 #[.slice a cs.length cap] w fun e w' => e = .returned (.tuple #[.pointer none, .bool true]) ∧ Below w.heap.size w w' := by
  have HC : Hid (CodeIn w a b off cs) := hc
  have HS : Hid (soundL cs = false) := hs
  clear hc hs
  go_enter Try.func14, Try.ntmps14
  go_wp2_with fail
  refine (handed_any a b off cap cs _ HC.out hm).mono ?_
  rintro e w1 ⟨S, hS, rfl, hg1, hb1⟩
  have H1 : Hid (w1.heap[S]? = some (.cells (codeCells (cs ++ [foreignI, foreignI])).toArray 126 (0, 0)) ∧ Below w.heap.size w w1 ∧ CodeIn w1 (some ⟨S, 0, none⟩) S 0 cs ∧ CodeIn w1 a b off cs) :=
    ⟨hg1, hb1, fun _ => ⟨rfl, heap_lt hg1, codeAt_of_heap (rest := codeCells [foreignI, foreignI]) (by rw [← codeCells_append]; exact hg1)⟩, HC.out.keep hb1⟩
  clear hg1 hb1
  go_wp2_with fail
  refine (c_New_no S 0 _ cs _ H1.out.2.2.1 HS.out).mono ?_
  rintro e w2 ⟨rfl, hb2⟩
  have H2 : Hid (w2.heap[S]? = some (.cells (codeCells (cs ++ [foreignI, foreignI])).toArray 126 (0, 0)) ∧ Below w.heap.size w w2 ∧ CodeIn w2 a b off cs) :=
    ⟨(hb2.block S (heap_lt H1.out.1)).trans H1.out.1, H1.out.2.1.trans (hb2.mono H1.out.2.1.size), H1.out.2.2.2.keep hb2⟩
  clear hb2 H1
  go_wp2_with fail
  refine (still_any a S b off cap cs _ hm H2.out.1 H2.out.2.2).mono ?_
  rintro e w3 ⟨rfl, hb3⟩
  have H3 : Hid (w3.heap[S]? = some (.cells (codeCells (cs ++ [foreignI, foreignI])).toArray 126 (0, 0)) ∧ Below w.heap.size w w3 ∧ CodeIn w3 a b off cs) :=
    ⟨(hb3.block S (heap_lt H2.out.1)).trans H2.out.1, H2.out.2.1.trans (hb3.mono H2.out.2.1.size), H2.out.2.2.keep hb3⟩
  clear hb3 H2
  go_wp2_with fail
  refine (spoil_any S cs.length _ (cs ++ [foreignI, foreignI]) _ (by simp) hm H3.out.1).mono ?_
  rintro e w4 ⟨rfl, hf4⟩
  have H4 : Hid (Below w.heap.size w w4 ∧ CodeIn w4 a b off cs) :=
    ⟨H3.out.2.1.trans ((hf4.mono (fun k _ hk => by show w.heap.size ≤ k; omega)).below H3.out.2.1.size), H3.out.2.2.fr hf4 (fun hp => by have := (HC.out hp).2.1; omega)⟩
  clear hf4 H3
  go_wp2_with fail
  refine (Sound_any a b off cap cs _ H4.out.2).mono ?_
  rw [HS.out]
  rintro e w5 ⟨rfl, hb5⟩
  have H5 : Hid (Below w.heap.size w w5) := H4.out.1.trans (hb5.mono H4.out.1.size)
  clear hb5 H4
  go_wp2_with fail
  go_ret2
  exact ⟨rfl, H5.out⟩

set_option maxHeartbeats 2000000 in
theorem begun_yes (a : Option Addr) (b off cap : Nat) (cs : List Ins) (w : World) (hc : CodeIn w a b off cs) (hs : soundL cs = true) :
    Calls Try.prog 14 #[.slice a cs.length cap] w fun e w' => ∃ H v, e = .returned (.tuple #[.pointer (some ⟨H, 0, none⟩), .bool true]) ∧ w.heap.size ≤ H ∧ w'.heap[H]? = some (.cells (newM v) 144 (0, 0)) ∧ w'.ownsRow w.heap.size 126 4 v cs.length (codeCells cs) ∧ Below w.heap.size w w' := by
  have hm : cs.length ≤ 4398046511000 := by
    rcases Nat.lt_or_ge 1000 cs.length with h | h
    · rw [soundL_long h] at hs; cases hs
    · omega
  have HC : Hid (CodeIn w a b off cs) := hc
  have HS : Hid (soundL cs = true) := hs
  clear hc hs
  go_enter Try.func14, Try.ntmps14
  go_wp2_with fail
  refine (handed_any a b off cap cs _ HC.out hm).mono ?_
  rintro e w1 ⟨S, hS, rfl, hg1, hb1⟩
  have H1 : Hid (w1.heap[S]? = some (.cells (codeCells (cs ++ [foreignI, foreignI])).toArray 126 (0, 0)) ∧ Below w.heap.size w w1 ∧ CodeIn w1 (some ⟨S, 0, none⟩) S 0 cs ∧ CodeIn w1 a b off cs) :=
    ⟨hg1, hb1, fun _ => ⟨rfl, heap_lt hg1, codeAt_of_heap (rest := codeCells [foreignI, foreignI]) (by rw [← codeCells_append]; exact hg1)⟩, HC.out.keep hb1⟩
  clear hg1 hb1
  go_wp2_with fail
  refine (c_New_yes S 0 _ cs _ H1.out.2.2.1 HS.out).mono ?_
  rintro e w2 ⟨H, v, rfl, hH, hgH, ho2, hb2⟩
  have H2 : Hid (w2.heap[S]? = some (.cells (codeCells (cs ++ [foreignI, foreignI])).toArray 126 (0, 0)) ∧ Below w.heap.size w w2 ∧ CodeIn w2 a b off cs) :=
    ⟨(hb2.block S (heap_lt H1.out.1)).trans H1.out.1, H1.out.2.1.trans (hb2.mono H1.out.2.1.size), H1.out.2.2.2.keep hb2⟩
  have HH2 : Hid (w2.heap[H]? = some (.cells (newM v) 144 (0, 0)) ∧ w2.ownsRow w1.heap.size 126 4 v cs.length (codeCells cs) ∧ w1.heap.size ≤ H ∧ S < w1.heap.size ∧ w.heap.size ≤ w1.heap.size) := ⟨hgH, ho2, hH, heap_lt H1.out.1, H1.out.2.1.size⟩
  clear hb2 H1 hgH ho2 hH
  go_wp2_with fail
  refine (still_any a S b off cap cs _ hm H2.out.1 H2.out.2.2).mono ?_
  rintro e w3 ⟨rfl, hb3⟩
  have H3 : Hid (w3.heap[S]? = some (.cells (codeCells (cs ++ [foreignI, foreignI])).toArray 126 (0, 0)) ∧ Below w.heap.size w w3 ∧ CodeIn w3 a b off cs) :=
    ⟨(hb3.block S (heap_lt H2.out.1)).trans H2.out.1, H2.out.2.1.trans (hb3.mono H2.out.2.1.size), H2.out.2.2.keep hb3⟩
  have HH3 : Hid (w3.heap[H]? = some (.cells (newM v) 144 (0, 0)) ∧ w3.ownsRow w1.heap.size 126 4 v cs.length (codeCells cs)) :=
    ⟨(hb3.block H (heap_lt HH2.out.1)).trans HH2.out.1, own_stays HH2.out.2.1 (fun k hk => by obtain ⟨_, c, hc⟩ := ownsRow_lies HH2.out.2.1 hk; exact hb3.block k (heap_lt hc))⟩
  clear hb3 H2
  go_wp2_with fail
  refine (spoil_any S cs.length _ (cs ++ [foreignI, foreignI]) _ (by simp) hm H3.out.1).mono ?_
  rintro e w4 ⟨rfl, hf4⟩
  have H4 : Hid (Below w.heap.size w w4 ∧ CodeIn w4 a b off cs) :=
    ⟨H3.out.2.1.trans ((hf4.mono (fun k _ hk => by show w.heap.size ≤ k; omega)).below H3.out.2.1.size), H3.out.2.2.fr hf4 (fun hp => by have := (HC.out hp).2.1; omega)⟩
  have HH4 : Hid (w4.heap[H]? = some (.cells (newM v) 144 (0, 0)) ∧ w4.ownsRow w1.heap.size 126 4 v cs.length (codeCells cs)) :=
    ⟨(hf4.block H (heap_lt HH3.out.1) (by have := HH2.out.2.2; omega)).trans HH3.out.1, own_stays HH3.out.2 (fun k hk => by obtain ⟨hle, c, hc⟩ := ownsRow_lies HH3.out.2 hk; exact hf4.block k (heap_lt hc) (by have := HH2.out.2.2; omega))⟩
  clear hf4 H3 HH3
  go_wp2_with fail
  refine (Sound_any a b off cap cs _ H4.out.2).mono ?_
  rw [HS.out]
  rintro e w5 ⟨rfl, hb5⟩
  have H5 : Hid (Below w.heap.size w w5) := H4.out.1.trans (hb5.mono H4.out.1.size)
  have HH5 : Hid (w5.heap[H]? = some (.cells (newM v) 144 (0, 0)) ∧ w5.ownsRow w.heap.size 126 4 v cs.length (codeCells cs)) := by
    refine ⟨(hb5.block H (heap_lt HH4.out.1)).trans HH4.out.1, ?_⟩
    have h5 := own_stays (w' := w5) HH4.out.2 (fun k hk => by obtain ⟨hle, c, hc⟩ := ownsRow_lies HH4.out.2 hk; exact hb5.block k (heap_lt hc))
    refine ⟨h5.1, ?_⟩
    rcases h5.2 with h | ⟨g, cap, cur, hv, hb, r⟩
    · exact .inl h
    · exact .inr ⟨g, cap, cur, hv, Nat.le_trans HH2.out.2.2.2.2 hb, r⟩
  clear hb5 H4 HH4
  go_wp2_with fail
  go_ret2
  exact ⟨H, v, rfl, Nat.le_trans HH2.out.2.2.2.2 HH2.out.2.2.1, HH5.out.1, HH5.out.2, H5.out⟩

end Go.Proofs.Ytiaibigmbflpiaa
