import Derived.Test.YtmmmnghiegajmabGreatM07
import Derived.Test.YtmmmnghiegajmabGreatM34
import Derived.Test.YtmmmnghiegajmabGreatM35
/- The program's writer of code: ask, retry, repeat, by the contract of block. The program's writer of code: statement, block. -/
namespace Go.Proofs.YtmmmnghiegajmabGreat
open Go.RowKit Go.Proofs.Herald
/-- A slice holds a tree's statements, within block b. -/
def SlT (t : ByteArray) (d : Nat) (w : World) (b : Nat) (v : Value) (tr : Tree d) : Prop :=
  ∃ a n cap off, v = .slice a n cap ∧ n = (flatT t d tr).length ∧ n ≤ cap ∧ cap ≤ maxLen ∧ (0 < n → a = some ⟨b, off, none⟩ ∧ NdsAt w b off (flatT t d tr))
theorem SlT.keep {t : ByteArray} {d : Nat} {w w' : World} {b : Nat} {v : Value} {tr : Tree d} (h : SlT t d w b v tr) (hk : w'.heap[b]? = w.heap[b]?) : SlT t d w' b v tr := by
  obtain ⟨a, n, cap, off, h1, h2, h3, h4, h5⟩ := h
  exact ⟨a, n, cap, off, h1, h2, h3, h4, fun hp => ⟨(h5 hp).1, (h5 hp).2.keep hk⟩⟩
/-- What block does, with a tree d deep. -/
def BlkC (t : ByteArray) (d : Nat) : Prop :=
  ∀ (tr : Tree d) (v : Value) (b rep B R : Nat) (sv : Value) (cs : List Ins) (w : World), SlT t d w b v tr → GoodT t d tr → rep + d ≤ 9 → sizeT d tr ≤ 400 → cs.length + (compT t d tr rep cs.length).length ≤ 900 → b < B → WrAt B w R sv cs →
    Calls Tryz.prog 46 #[.pointer (some ⟨R, 0, none⟩), v, .int .i64 (rep : Nat)] w fun e w' => e = .returned (.tuple #[]) ∧ (∃ sv', WrAt B w' R sv' (cs ++ compT t d tr rep cs.length)) ∧ Below B w w'
/-- What a statement's method does: the code is written behind what stands. -/
def Wrote (B R : Nat) (w : World) (cs : List Ins) (e : Ending) (w' : World) : Prop := e = .returned (.tuple #[]) ∧ (∃ sv', WrAt B w' R sv' cs) ∧ Below B w w'
theorem WrAt.eq {B : Nat} {w : World} {R : Nat} {sv : Value} {cs ds : List Ins} (h : WrAt B w R sv cs) (e : cs = ds) : WrAt B w R sv ds := by rw [← e]; exact h
set_option maxHeartbeats 2000000 in
theorem c_ask (t : ByteArray) (d : Nat) (hblk : BlkC t d) (x : Hd × Tree d × Tree d) (nb ne rep B R b : Nat) (v1 v2 sv : Value) (cs : List Ins) (w : World) (hk : bytesOf t x.1.p = kAsk) (hA : SlT t d w b v1 x.2.1) (hB : SlT t d w b v2 x.2.2) (gA : GoodT t d x.2.1) (gB : GoodT t d x.2.2)
    (hrep : rep + d ≤ 9) (zA : sizeT d x.2.1 ≤ 400) (zB : sizeT d x.2.2 ≤ 400) (hsz : cs.length + (stmC t (compT t d) x rep cs.length).length ≤ 900) (hb : b < B) (h : WrAt B w R sv cs) :
    Calls Tryz.prog 85 #[.pointer (some ⟨R, 0, none⟩), .agg (ndCells (ndOf t x.1 nb ne)).toArray, v1, v2, .int .i64 (rep : Nat)] w (Wrote B R w (cs ++ stmC t (compT t d) x rep cs.length)) := by
  rw [stmC_ask _ _ _ _ hk] at hsz ⊢
  rw [ndOf_ask _ _ hk]
  have hcell : (ndCells { kind := 4, key := x.1.key, times := 0, ticks := x.1.n, body := nb, els := ne }).toArray = #[.int .i64 4, .int .i64 x.1.key, .int .i64 0, .int .i64 x.1.n, .int .i64 (nb : Nat), .int .i64 (ne : Nat)] := rfl
  rw [hcell]
  have hwb : B ≤ w.heap.size := by have := heap_lt h.blk; have := h.le; omega
  obtain ⟨A, hAd⟩ : ∃ A, A = compT t d x.2.1 rep (cs.length + 1) := ⟨_, rfl⟩
  rw [← hAd] at hsz ⊢
  obtain ⟨E, hEd⟩ : ∃ E, E = compT t d x.2.2 rep (cs.length + 2 + A.length) := ⟨_, rfl⟩
  rw [← hEd] at hsz ⊢
  have hlen : cs.length + 2 + A.length + E.length ≤ 900 := by simp only [List.length_cons, List.length_append] at hsz; omega
  have HH : Hid (WrAt B w R sv cs ∧ SlT t d w b v1 x.2.1 ∧ SlT t d w b v2 x.2.2 ∧ GoodT t d x.2.1 ∧ GoodT t d x.2.2) := ⟨h, hA, hB, gA, gB⟩
  have HD : Hid (A = compT t d x.2.1 rep (cs.length + 1) ∧ E = compT t d x.2.2 rep (cs.length + 2 + A.length)) := ⟨hAd, hEd⟩
  have HK : Hid (BlkC t d) := hblk
  clear hA hB gA gB h hsz hAd hEd hblk hcell
  obtain ⟨N0, hN0⟩ : ∃ N, N = cs.length := ⟨_, rfl⟩
  obtain ⟨N1, hN1⟩ : ∃ N, N = cs.length + 1 + A.length := ⟨_, rfl⟩
  obtain ⟨N2, hN2⟩ : ∃ N, N = cs.length + 2 + A.length := ⟨_, rfl⟩
  obtain ⟨N3, hN3⟩ : ∃ N, N = cs.length + 2 + A.length + E.length := ⟨_, rfl⟩
  have q0 : N0 ≤ 900 := by omega
  have q1 : N1 ≤ 900 := by omega
  have q2 : N2 ≤ 900 := by omega
  have q3 : N3 ≤ 900 := by omega
  have HN0 : Hid (N0 = cs.length) := hN0
  have HN1 : Hid (N1 = cs.length + 1 + A.length) := hN1
  have HN2 : Hid (N2 = cs.length + 2 + A.length) := hN2
  have HN3 : Hid (N3 = cs.length + 2 + A.length + E.length) := hN3
  clear hN0 hN1 hN2 hN3
  go_enter Tryz.func85, Tryz.ntmps85
  go_wp2_with fail
  refine (c_put B R N0 sv cs (Ins.mk 3 x.1.key x.1.n 0) _ (HH.out.1.alloc _) HN0.out (by omega)).mono ?_
  rintro e w1 ⟨rfl, ⟨s1, h1⟩, b1, _⟩
  have H1 : Hid (WrAt B w1 R s1 (cs ++ [Ins.mk 3 x.1.key x.1.n 0]) ∧ Below B w w1) := ⟨h1, ((Below.refl _ _).alloc hwb _).trans b1⟩
  clear h1 b1
  go_wp2_with fail
  refine (HK.out x.2.1 v1 b rep B R s1 _ w1 (HH.out.2.1.keep (H1.out.2.block b hb)) HH.out.2.2.2.1 hrep zA ?_ hb H1.out.1).mono ?_
  · rw [List.length_append, List.length_singleton, ← HD.out.1]; omega
  rw [List.length_append, List.length_singleton, ← HD.out.1]
  rintro e w2 ⟨rfl, ⟨s2, h2⟩, b2⟩
  have H2 : Hid (WrAt B w2 R s2 (cs ++ [Ins.mk 3 x.1.key x.1.n 0] ++ A) ∧ Below B w w2) := ⟨h2, H1.out.2.trans b2⟩
  clear h2 b2 H1
  go_wp2_with fail
  refine (c_put B R N1 s2 _ (Ins.mk 8 0 0 0) _ H2.out.1 (by rw [HN1.out]; simp; omega) (by omega)).mono ?_
  rintro e w3 ⟨rfl, ⟨s3, h3⟩, b3, _⟩
  have H3 : Hid (WrAt B w3 R s3 (cs ++ Ins.mk 3 x.1.key x.1.n 0 :: (A ++ [Ins.mk 8 0 0 0])) ∧ Below B w w3) := ⟨h3.eq (by simp), H2.out.2.trans b3⟩
  clear h3 b3 H2
  go_wp2_with fail
  refine (c_leadOn B R N0 N2 s3 cs (Ins.mk 3 x.1.key x.1.n 0) (A ++ [Ins.mk 8 0 0 0]) w3 H3.out.1 HN0.out (by rw [HN2.out]; simp; omega) (by omega)).mono ?_
  rintro e w4 ⟨rfl, ⟨s4, h4⟩, b4⟩
  have H4 : Hid (WrAt B w4 R s4 ((cs ++ Ins.mk 3 x.1.key x.1.n (N2 : Int) :: A) ++ [Ins.mk 8 0 0 0]) ∧ Below B w w4 ∧ ((cs ++ Ins.mk 3 x.1.key x.1.n (N2 : Int) :: A) ++ [Ins.mk 8 0 0 0]).length = cs.length + 2 + A.length) := ⟨h4.eq (by simp), H3.out.2.trans b4, by simp; omega⟩
  clear h4 b4 H3
  go_wp2_with fail
  refine (HK.out x.2.2 v2 b rep B R s4 _ w4 (HH.out.2.2.1.keep (H4.out.2.1.block b hb)) HH.out.2.2.2.2 hrep zB ?_ hb H4.out.1).mono ?_
  · rw [H4.out.2.2, ← HD.out.2]; omega
  rw [H4.out.2.2, ← HD.out.2]
  rintro e w5 ⟨rfl, ⟨s5, h5⟩, b5⟩
  have H5 : Hid (WrAt B w5 R s5 ((cs ++ Ins.mk 3 x.1.key x.1.n (N2 : Int) :: A) ++ Ins.mk 8 0 0 0 :: E) ∧ Below B w w5) := ⟨h5.eq (by simp), H4.out.2.1.trans b5⟩
  clear h5 b5 H4
  go_wp2_with fail
  refine (c_leadOn B R N1 N3 s5 (cs ++ Ins.mk 3 x.1.key x.1.n (N2 : Int) :: A) (Ins.mk 8 0 0 0) E w5 H5.out.1 (by rw [HN1.out]; simp; omega) (by rw [HN3.out]; simp; omega) (by omega)).mono ?_
  rintro e w6 ⟨rfl, ⟨s6, h6⟩, b6⟩
  go_wp2_with fail
  go_end0
  refine ⟨rfl, ⟨s6, h6.eq ?_⟩, H5.out.2.trans b6⟩
  rw [HN2.out, HN3.out]; simp
set_option maxHeartbeats 4000000 in
theorem c_retry (t : ByteArray) (d : Nat) (hblk : BlkC t d) (x : Hd × Tree d × Tree d) (nb ne rep B R b : Nat) (v1 v2 sv : Value) (cs : List Ins) (w : World) (hk : bytesOf t x.1.p = kRetry) (hA : SlT t d w b v1 x.2.1) (hB : SlT t d w b v2 x.2.2) (gA : GoodT t d x.2.1) (gB : GoodT t d x.2.2)
    (hrep : rep + d ≤ 9) (zA : sizeT d x.2.1 ≤ 400) (zB : sizeT d x.2.2 ≤ 400) (hsz : cs.length + (stmC t (compT t d) x rep cs.length).length ≤ 900) (hb : b < B) (h : WrAt B w R sv cs) :
    Calls Tryz.prog 86 #[.pointer (some ⟨R, 0, none⟩), .agg (ndCells (ndOf t x.1 nb ne)).toArray, v1, v2, .int .i64 (rep : Nat)] w (Wrote B R w (cs ++ stmC t (compT t d) x rep cs.length)) := by
  rw [stmC_retry _ _ _ _ hk] at hsz ⊢
  rw [ndOf_retry _ _ hk]
  have hcell : (ndCells { kind := 5, key := x.1.key, times := x.1.m, ticks := x.1.n, body := nb, els := ne }).toArray = #[.int .i64 5, .int .i64 x.1.key, .int .i64 x.1.m, .int .i64 x.1.n, .int .i64 (nb : Nat), .int .i64 (ne : Nat)] := rfl
  rw [hcell]
  have hwb : B ≤ w.heap.size := by have := heap_lt h.blk; have := h.le; omega
  obtain ⟨E, hEd⟩ : ∃ E, E = compT t d x.2.2 rep (cs.length + 5) := ⟨_, rfl⟩
  rw [← hEd] at hsz ⊢
  obtain ⟨A, hAd⟩ : ∃ A, A = compT t d x.2.1 rep (cs.length + 6 + E.length) := ⟨_, rfl⟩
  rw [← hAd] at hsz ⊢
  have hlen : cs.length + 6 + A.length + E.length ≤ 900 := by simp only [List.length_cons, List.length_append] at hsz; omega
  have HH : Hid (WrAt B w R sv cs ∧ SlT t d w b v1 x.2.1 ∧ SlT t d w b v2 x.2.2 ∧ GoodT t d x.2.1 ∧ GoodT t d x.2.2) := ⟨h, hA, hB, gA, gB⟩
  have HD : Hid (E = compT t d x.2.2 rep (cs.length + 5) ∧ A = compT t d x.2.1 rep (cs.length + 6 + E.length)) := ⟨hEd, hAd⟩
  have HK : Hid (BlkC t d) := hblk
  clear hA hB gA gB h hsz hAd hEd hblk hcell
  obtain ⟨N0, hN0⟩ : ∃ N, N = cs.length := ⟨_, rfl⟩
  obtain ⟨N1, hN1⟩ : ∃ N, N = cs.length + 1 := ⟨_, rfl⟩
  obtain ⟨N2, hN2⟩ : ∃ N, N = cs.length + 2 := ⟨_, rfl⟩
  obtain ⟨N3, hN3⟩ : ∃ N, N = cs.length + 3 := ⟨_, rfl⟩
  obtain ⟨N4, hN4⟩ : ∃ N, N = cs.length + 4 := ⟨_, rfl⟩
  obtain ⟨N5, hN5⟩ : ∃ N, N = cs.length + 5 + E.length := ⟨_, rfl⟩
  obtain ⟨N6, hN6⟩ : ∃ N, N = cs.length + 6 + E.length := ⟨_, rfl⟩
  obtain ⟨N7, hN7⟩ : ∃ N, N = cs.length + 6 + E.length + A.length := ⟨_, rfl⟩
  have q0 : N0 ≤ 900 := by omega
  have q1 : N1 ≤ 900 := by omega
  have q2 : N2 ≤ 900 := by omega
  have q3 : N3 ≤ 900 := by omega
  have q4 : N4 ≤ 900 := by omega
  have q5 : N5 ≤ 900 := by omega
  have q6 : N6 ≤ 900 := by omega
  have q7 : N7 ≤ 900 := by omega
  have HN0 : Hid (N0 = cs.length) := hN0
  have HN1 : Hid (N1 = cs.length + 1) := hN1
  have HN2 : Hid (N2 = cs.length + 2) := hN2
  have HN3 : Hid (N3 = cs.length + 3) := hN3
  have HN4 : Hid (N4 = cs.length + 4) := hN4
  have HN5 : Hid (N5 = cs.length + 5 + E.length) := hN5
  have HN6 : Hid (N6 = cs.length + 6 + E.length) := hN6
  have HN7 : Hid (N7 = cs.length + 6 + E.length + A.length) := hN7
  clear hN0 hN1 hN2 hN3 hN4 hN5 hN6 hN7
  have HX : Hid ((w.alloc (.cells #[.int .i64 5, .int .i64 x.1.key, .int .i64 x.1.m, .int .i64 x.1.n, .int .i64 (nb : Nat), .int .i64 (ne : Nat)] 127)).heap[w.heap.size]? = some (.cells #[.int .i64 5, .int .i64 x.1.key, .int .i64 x.1.m, .int .i64 x.1.n, .int .i64 (nb : Nat), .int .i64 (ne : Nat)] 127 (0, 0))) := heap_alloc_new _ _
  go_enter Tryz.func86, Tryz.ntmps86
  go_wp2_with fail
  refine (c_put B R N0 sv cs (Ins.mk 4 4 x.1.m 0) _ (HH.out.1.alloc _) HN0.out (by omega)).mono ?_
  rintro e w1 ⟨rfl, ⟨s1, h1⟩, b1, k1⟩
  have x1 := k1.out _ _ _ HX.out
  have X1 : Hid (_ = _) := x1
  have c13 : w1.cell? ⟨w.heap.size, 3, none⟩ = some (.int .i64 x.1.n) := (cell_of_heap x1).trans rfl
  have H1 : Hid (WrAt B w1 R s1 (cs ++ [Ins.mk 4 4 x.1.m 0]) ∧ Below B w w1) := ⟨h1, ((Below.refl _ _).alloc hwb _).trans b1⟩
  clear h1 b1 x1 k1
  go_wp2_with fail
  refine (c_put B R N1 s1 _ (Ins.mk 4 5 x.1.n 0) _ H1.out.1 (by rw [HN1.out]; simp) (by omega)).mono ?_
  rintro e w2 ⟨rfl, ⟨s2, h2⟩, b2, k2⟩
  have x2 := k2.out _ _ _ X1.out
  have c21 : w2.cell? ⟨w.heap.size, 1, none⟩ = some (.int .i64 x.1.key) := (cell_of_heap x2).trans rfl
  have H2 : Hid (WrAt B w2 R s2 (cs ++ [Ins.mk 4 4 x.1.m 0, Ins.mk 4 5 x.1.n 0]) ∧ Below B w w2) := ⟨h2.eq (by simp), H1.out.2.trans b2⟩
  clear h2 b2 x2 k2 X1 c13 H1
  go_wp2_with fail
  refine (c_put B R N2 s2 _ (Ins.mk 6 x.1.key 5 0) _ H2.out.1 (by rw [HN2.out]; simp) (by omega)).mono ?_
  rintro e w3 ⟨rfl, ⟨s3, h3⟩, b3, _⟩
  have H3 : Hid (WrAt B w3 R s3 (cs ++ [Ins.mk 4 4 x.1.m 0, Ins.mk 4 5 x.1.n 0, Ins.mk 6 x.1.key 5 0]) ∧ Below B w w3) := ⟨h3.eq (by simp), H2.out.2.trans b3⟩
  clear h3 b3 H2 c21
  go_wp2_with fail
  refine (c_put B R N3 s3 _ (Ins.mk 5 5 0 0) _ H3.out.1 (by rw [HN3.out]; simp) (by omega)).mono ?_
  rintro e w4 ⟨rfl, ⟨s4, h4⟩, b4, _⟩
  have H4 : Hid (WrAt B w4 R s4 (cs ++ [Ins.mk 4 4 x.1.m 0, Ins.mk 4 5 x.1.n 0, Ins.mk 6 x.1.key 5 0, Ins.mk 5 5 0 0]) ∧ Below B w w4) := ⟨h4.eq (by simp), H3.out.2.trans b4⟩
  clear h4 b4 H3
  go_wp2_with fail
  refine (c_put B R N4 s4 _ (Ins.mk 7 4 0 (N2 : Nat)) _ H4.out.1 (by rw [HN4.out]; simp) (by omega)).mono ?_
  rintro e w5 ⟨rfl, ⟨s5, h5⟩, b5, _⟩
  have H5 : Hid (WrAt B w5 R s5 (cs ++ [Ins.mk 4 4 x.1.m 0, Ins.mk 4 5 x.1.n 0, Ins.mk 6 x.1.key 5 0, Ins.mk 5 5 0 0, Ins.mk 7 4 0 (N2 : Nat)]) ∧ Below B w w5 ∧ (cs ++ [Ins.mk 4 4 x.1.m 0, Ins.mk 4 5 x.1.n 0, Ins.mk 6 x.1.key 5 0, Ins.mk 5 5 0 0, Ins.mk 7 4 0 (N2 : Nat)]).length = cs.length + 5) := ⟨h5.eq (by simp), H4.out.2.trans b5, by simp⟩
  clear h5 b5 H4
  go_wp2_with fail
  refine (HK.out x.2.2 v2 b rep B R s5 _ w5 (HH.out.2.2.1.keep (H5.out.2.1.block b hb)) HH.out.2.2.2.2 hrep zB ?_ hb H5.out.1).mono ?_
  · rw [H5.out.2.2, ← HD.out.1]; omega
  rw [H5.out.2.2, ← HD.out.1]
  rintro e w6 ⟨rfl, ⟨s6, h6⟩, b6⟩
  have H6 : Hid (WrAt B w6 R s6 (cs ++ [Ins.mk 4 4 x.1.m 0, Ins.mk 4 5 x.1.n 0, Ins.mk 6 x.1.key 5 0, Ins.mk 5 5 0 0, Ins.mk 7 4 0 (N2 : Nat)] ++ E) ∧ Below B w w6) := ⟨h6, H5.out.2.1.trans b6⟩
  clear h6 b6 H5
  go_wp2_with fail
  refine (c_put B R N5 s6 _ (Ins.mk 8 0 0 0) _ H6.out.1 (by rw [HN5.out]; simp; omega) (by omega)).mono ?_
  rintro e w7 ⟨rfl, ⟨s7, h7⟩, b7, _⟩
  have H7 : Hid (WrAt B w7 R s7 ((cs ++ [Ins.mk 4 4 x.1.m 0, Ins.mk 4 5 x.1.n 0]) ++ Ins.mk 6 x.1.key 5 0 :: (Ins.mk 5 5 0 0 :: Ins.mk 7 4 0 (N2 : Nat) :: (E ++ [Ins.mk 8 0 0 0]))) ∧ Below B w w7) := ⟨h7.eq (by simp), H6.out.2.trans b7⟩
  clear h7 b7 H6
  go_wp2_with fail
  refine (c_leadOn B R N2 N6 s7 (cs ++ [Ins.mk 4 4 x.1.m 0, Ins.mk 4 5 x.1.n 0]) (Ins.mk 6 x.1.key 5 0) (Ins.mk 5 5 0 0 :: Ins.mk 7 4 0 (N2 : Nat) :: (E ++ [Ins.mk 8 0 0 0])) w7 H7.out.1 (by rw [HN2.out]; simp) (by rw [HN6.out]; simp; omega) (by omega)).mono ?_
  rintro e w8 ⟨rfl, ⟨s8, h8⟩, b8⟩
  have H8 : Hid (WrAt B w8 R s8 ((cs ++ [Ins.mk 4 4 x.1.m 0, Ins.mk 4 5 x.1.n 0, Ins.mk 6 x.1.key 5 (N6 : Nat), Ins.mk 5 5 0 0, Ins.mk 7 4 0 (N2 : Nat)] ++ E) ++ [Ins.mk 8 0 0 0]) ∧ Below B w w8 ∧ ((cs ++ [Ins.mk 4 4 x.1.m 0, Ins.mk 4 5 x.1.n 0, Ins.mk 6 x.1.key 5 (N6 : Nat), Ins.mk 5 5 0 0, Ins.mk 7 4 0 (N2 : Nat)] ++ E) ++ [Ins.mk 8 0 0 0]).length = cs.length + 6 + E.length) := ⟨h8.eq (by simp), H7.out.2.trans b8, by simp; omega⟩
  clear h8 b8 H7
  go_wp2_with fail
  refine (HK.out x.2.1 v1 b rep B R s8 _ w8 (HH.out.2.1.keep (H8.out.2.1.block b hb)) HH.out.2.2.2.1 hrep zA ?_ hb H8.out.1).mono ?_
  · rw [H8.out.2.2, ← HD.out.2]; omega
  rw [H8.out.2.2, ← HD.out.2]
  rintro e w9 ⟨rfl, ⟨s9, h9⟩, b9⟩
  have H9 : Hid (WrAt B w9 R s9 ((cs ++ [Ins.mk 4 4 x.1.m 0, Ins.mk 4 5 x.1.n 0, Ins.mk 6 x.1.key 5 (N6 : Nat), Ins.mk 5 5 0 0, Ins.mk 7 4 0 (N2 : Nat)] ++ E) ++ Ins.mk 8 0 0 0 :: A) ∧ Below B w w9) := ⟨h9.eq (by simp), H8.out.2.1.trans b9⟩
  clear h9 b9 H8
  go_wp2_with fail
  refine (c_leadOn B R N5 N7 s9 (cs ++ [Ins.mk 4 4 x.1.m 0, Ins.mk 4 5 x.1.n 0, Ins.mk 6 x.1.key 5 (N6 : Nat), Ins.mk 5 5 0 0, Ins.mk 7 4 0 (N2 : Nat)] ++ E) (Ins.mk 8 0 0 0) A w9 H9.out.1 (by rw [HN5.out]; simp; omega) (by rw [HN7.out]; simp; omega) (by omega)).mono ?_
  rintro e wa ⟨rfl, ⟨sa, ha⟩, ba⟩
  go_wp2_with fail
  go_end0
  refine ⟨rfl, ⟨sa, ha.eq ?_⟩, H9.out.2.trans ba⟩
  rw [HN6.out, HN7.out, HN2.out]; simp
set_option maxHeartbeats 4000000 in
theorem c_repeat (t : ByteArray) (d : Nat) (hblk : BlkC t d) (x : Hd × Tree d × Tree d) (nb ne rep B R b : Nat) (v1 sv : Value) (cs : List Ins) (w : World) (hk : bytesOf t x.1.p = kRepeat) (hA : SlT t d w b v1 x.2.1) (gA : GoodT t d x.2.1)
    (hrep : rep + 1 + d ≤ 9) (zA : sizeT d x.2.1 ≤ 400) (hsz : cs.length + (stmC t (compT t d) x rep cs.length).length ≤ 900) (hb : b < B) (h : WrAt B w R sv cs) :
    Calls Tryz.prog 87 #[.pointer (some ⟨R, 0, none⟩), .agg (ndCells (ndOf t x.1 nb ne)).toArray, v1, .int .i64 (rep : Nat)] w (Wrote B R w (cs ++ stmC t (compT t d) x rep cs.length)) := by
  rw [stmC_repeat _ _ _ _ hk] at hsz ⊢
  rw [ndOf_repeat _ _ hk]
  have hcell : (ndCells { kind := 6, key := x.1.key, times := x.1.n, ticks := 0, body := nb, els := ne }).toArray = #[.int .i64 6, .int .i64 x.1.key, .int .i64 x.1.n, .int .i64 0, .int .i64 (nb : Nat), .int .i64 (ne : Nat)] := rfl
  rw [hcell]
  have hwb : B ≤ w.heap.size := by have := heap_lt h.blk; have := h.le; omega
  obtain ⟨A, hAd⟩ : ∃ A, A = compT t d x.2.1 (rep + 1) (cs.length + 1) := ⟨_, rfl⟩
  rw [← hAd] at hsz ⊢
  have hlen : cs.length + 2 + A.length ≤ 900 := by simp only [List.length_cons, List.length_append, List.length_nil] at hsz; omega
  have HH : Hid (WrAt B w R sv cs ∧ SlT t d w b v1 x.2.1 ∧ GoodT t d x.2.1) := ⟨h, hA, gA⟩
  have HD : Hid (A = compT t d x.2.1 (rep + 1) (cs.length + 1)) := hAd
  have HK : Hid (BlkC t d) := hblk
  clear hA gA h hsz hAd hblk hcell
  obtain ⟨N0, hN0⟩ : ∃ N, N = cs.length := ⟨_, rfl⟩
  obtain ⟨N1, hN1⟩ : ∃ N, N = cs.length + 1 := ⟨_, rfl⟩
  obtain ⟨N2, hN2⟩ : ∃ N, N = cs.length + 1 + A.length := ⟨_, rfl⟩
  have q0 : N0 ≤ 900 := by omega
  have q1 : N1 ≤ 900 := by omega
  have q2 : N2 ≤ 900 := by omega
  have HN0 : Hid (N0 = cs.length) := hN0
  have HN1 : Hid (N1 = cs.length + 1) := hN1
  have HN2 : Hid (N2 = cs.length + 1 + A.length) := hN2
  clear hN0 hN1 hN2
  go_enter Tryz.func87, Tryz.ntmps87
  go_wp2_with fail
  refine (c_put B R N0 sv cs (Ins.mk 4 (rep : Nat) x.1.n 0) _ (HH.out.1.alloc _) HN0.out (by omega)).mono ?_
  rintro e w1 ⟨rfl, ⟨s1, h1⟩, b1, _⟩
  obtain ⟨a1, cap1, hs1⟩ := ownsRow_slice h1.own
  have e1 : (cs ++ [Ins.mk 4 (rep : Nat) x.1.n 0]).length = N1 := by rw [HN1.out]; simp
  rw [e1] at hs1
  have r1 : w1.cell? ⟨R, 0, none⟩ = some (.slice a1 N1 cap1) := by rw [← hs1]; exact (cell_of_heap h1.blk).trans rfl
  have hRl : R < w1.heap.size := heap_lt h1.blk
  have H1 : Hid (WrAt B w1 R s1 (cs ++ [Ins.mk 4 (rep : Nat) x.1.n 0]) ∧ Below B w w1) := ⟨h1, ((Below.refl _ _).alloc hwb _).trans b1⟩
  clear h1 b1 hs1 e1
  go_wp2_with fail
  refine (HK.out x.2.1 v1 b (rep + 1) B R s1 _ w1 (HH.out.2.1.keep (H1.out.2.block b hb)) HH.out.2.2 hrep zA ?_ hb H1.out.1).mono ?_
  · rw [List.length_append, List.length_singleton, ← HD.out]; omega
  rw [List.length_append, List.length_singleton, ← HD.out]
  rintro e w2 ⟨rfl, ⟨s2, h2⟩, b2⟩
  have H2 : Hid (WrAt B w2 R s2 (cs ++ [Ins.mk 4 (rep : Nat) x.1.n 0] ++ A) ∧ Below B w w2) := ⟨h2, H1.out.2.trans b2⟩
  clear h2 b2 H1 r1
  go_wp2_with fail
  refine (c_put B R N2 s2 _ (Ins.mk 7 (rep : Nat) 0 (N1 : Nat)) _ H2.out.1 (by rw [HN2.out]; simp; omega) (by omega)).mono ?_
  rintro e w3 ⟨rfl, ⟨s3, h3⟩, b3, _⟩
  go_wp2_with fail
  go_end0
  refine ⟨rfl, ⟨s3, h3.eq ?_⟩, H2.out.2.trans b3⟩
  rw [HN1.out]; simp
open Go.RowKit Go.Proofs.Herald
theorem Wrote.of {B R : Nat} {w w1 : World} {cs : List Ins} {e : Ending} {w' : World} (h : Wrote B R w1 cs e w') (hb : Below B w w1) : Wrote B R w cs e w' := ⟨h.1, h.2.1, hb.trans h.2.2⟩
set_option maxRecDepth 20000 in
set_option maxHeartbeats 4000000 in
theorem w_send (t : ByteArray) (d : Nat) (x : Hd × Tree d × Tree d) (nb ne rep B R : Nat) (v1 v2 sv : Value) (cs : List Ins) (w : World) (hk : bytesOf t x.1.p = kSend) (h : WrAt B w R sv cs) (hsz : cs.length + (stmC t (compT t d) x rep cs.length).length ≤ 900) :
    Calls Tryz.prog 65 #[.pointer (some ⟨R, 0, none⟩), .agg (ndCells (ndOf t x.1 nb ne)).toArray, v1, v2, .int .i64 (rep : Nat)] w (Wrote B R w (cs ++ stmC t (compT t d) x rep cs.length)) := by
  have hwb : B ≤ w.heap.size := by have := heap_lt h.blk; have := h.le; omega
  have HB0 : Hid (∀ o, Below B w (w.alloc o)) := fun o => (Below.refl _ _).alloc hwb o
  have HH : Hid (WrAt B w R sv cs) := h
  have hl : cs.length ≤ 900 := by omega
  rw [stmC_send _ _ _ _ hk, ndOf_send _ _ hk]
  have hcell : (ndCells { kind := 1, key := x.1.key, times := 0, ticks := 0, body := nb, els := ne }).toArray = #[.int .i64 1, .int .i64 x.1.key, .int .i64 0, .int .i64 0, .int .i64 (nb : Nat), .int .i64 (ne : Nat)] := rfl
  rw [hcell]
  clear hcell hsz h hk
  go_enter Tryz.func65, Tryz.ntmps65
  go_wp2_with fail
  refine (c_put B R cs.length sv cs (Ins.mk 1 x.1.key 0 0) _ (HH.out.alloc _) rfl (by omega)).mono ?_
  rintro e w1 ⟨rfl, ⟨s1, h1⟩, b1, _⟩
  go_wp2_with fail
  go_end0
  exact ⟨rfl, ⟨s1, h1⟩, (HB0.out _).trans b1⟩
set_option maxRecDepth 20000 in
set_option maxHeartbeats 4000000 in
theorem w_wait (t : ByteArray) (d : Nat) (x : Hd × Tree d × Tree d) (nb ne rep B R : Nat) (v1 v2 sv : Value) (cs : List Ins) (w : World) (hk : bytesOf t x.1.p = kWait) (h : WrAt B w R sv cs) (hsz : cs.length + (stmC t (compT t d) x rep cs.length).length ≤ 900) :
    Calls Tryz.prog 65 #[.pointer (some ⟨R, 0, none⟩), .agg (ndCells (ndOf t x.1 nb ne)).toArray, v1, v2, .int .i64 (rep : Nat)] w (Wrote B R w (cs ++ stmC t (compT t d) x rep cs.length)) := by
  have hwb : B ≤ w.heap.size := by have := heap_lt h.blk; have := h.le; omega
  have HB0 : Hid (∀ o, Below B w (w.alloc o)) := fun o => (Below.refl _ _).alloc hwb o
  have HH : Hid (WrAt B w R sv cs) := h
  have hl : cs.length ≤ 900 := by omega
  rw [stmC_wait _ _ _ _ hk, ndOf_wait _ _ hk]
  have hcell : (ndCells { kind := 2, key := x.1.key, times := 0, ticks := x.1.n, body := nb, els := ne }).toArray = #[.int .i64 2, .int .i64 x.1.key, .int .i64 0, .int .i64 x.1.n, .int .i64 (nb : Nat), .int .i64 (ne : Nat)] := rfl
  rw [hcell]
  clear hcell hsz h hk
  go_enter Tryz.func65, Tryz.ntmps65
  go_wp2_with fail
  refine (c_put B R cs.length sv cs (Ins.mk 2 x.1.n 0 0) _ (HH.out.alloc _) rfl (by omega)).mono ?_
  rintro e w1 ⟨rfl, ⟨s1, h1⟩, b1, _⟩
  go_wp2_with fail
  go_end0
  exact ⟨rfl, ⟨s1, h1⟩, (HB0.out _).trans b1⟩
set_option maxRecDepth 20000 in
set_option maxHeartbeats 4000000 in
theorem w_stop (t : ByteArray) (d : Nat) (x : Hd × Tree d × Tree d) (nb ne rep B R : Nat) (v1 v2 sv : Value) (cs : List Ins) (w : World) (hk : bytesOf t x.1.p = kStop) (h : WrAt B w R sv cs) (hsz : cs.length + (stmC t (compT t d) x rep cs.length).length ≤ 900) :
    Calls Tryz.prog 65 #[.pointer (some ⟨R, 0, none⟩), .agg (ndCells (ndOf t x.1 nb ne)).toArray, v1, v2, .int .i64 (rep : Nat)] w (Wrote B R w (cs ++ stmC t (compT t d) x rep cs.length)) := by
  have hwb : B ≤ w.heap.size := by have := heap_lt h.blk; have := h.le; omega
  have HB0 : Hid (∀ o, Below B w (w.alloc o)) := fun o => (Below.refl _ _).alloc hwb o
  have HH : Hid (WrAt B w R sv cs) := h
  have hl : cs.length ≤ 900 := by omega
  rw [stmC_stop _ _ _ _ hk, ndOf_stop _ _ hk]
  have hcell : (ndCells { kind := 3, key := x.1.key, times := 0, ticks := 0, body := nb, els := ne }).toArray = #[.int .i64 3, .int .i64 x.1.key, .int .i64 0, .int .i64 0, .int .i64 (nb : Nat), .int .i64 (ne : Nat)] := rfl
  rw [hcell]
  clear hcell hsz h hk
  go_enter Tryz.func65, Tryz.ntmps65
  go_wp2_with fail
  refine (c_put B R cs.length sv cs (Ins.mk 0 0 0 0) _ (HH.out.alloc _) rfl (by omega)).mono ?_
  rintro e w1 ⟨rfl, ⟨s1, h1⟩, b1, _⟩
  go_wp2_with fail
  go_end0
  exact ⟨rfl, ⟨s1, h1⟩, (HB0.out _).trans b1⟩
set_option maxRecDepth 20000 in
set_option maxHeartbeats 4000000 in
theorem w_ask (t : ByteArray) (d : Nat) (hblk : BlkC t d) (x : Hd × Tree d × Tree d) (nb ne rep B R b : Nat) (v1 v2 sv : Value) (cs : List Ins) (w : World) (hk : bytesOf t x.1.p = kAsk) (hA : SlT t d w b v1 x.2.1) (hB : SlT t d w b v2 x.2.2) (gA : GoodT t d x.2.1) (gB : GoodT t d x.2.2)
    (hrep : rep + 1 + d ≤ 9) (zA : sizeT d x.2.1 ≤ 400) (zB : sizeT d x.2.2 ≤ 400) (hsz : cs.length + (stmC t (compT t d) x rep cs.length).length ≤ 900) (hb : b < B) (h : WrAt B w R sv cs) :
    Calls Tryz.prog 65 #[.pointer (some ⟨R, 0, none⟩), .agg (ndCells (ndOf t x.1 nb ne)).toArray, v1, v2, .int .i64 (rep : Nat)] w (Wrote B R w (cs ++ stmC t (compT t d) x rep cs.length)) := by
  have hwb : B ≤ w.heap.size := by have := heap_lt h.blk; have := h.le; omega
  have HB0 : Hid (∀ o, Below B w (w.alloc o)) := fun o => (Below.refl _ _).alloc hwb o
  have HH : Hid (WrAt B w R sv cs) := h
  have hl : cs.length ≤ 900 := by omega
  have hbw : b < w.heap.size := by omega
  have HC : Hid (∀ o, Calls Tryz.prog 85 #[.pointer (some ⟨R, 0, none⟩), .agg #[.int .i64 4, .int .i64 x.1.key, .int .i64 0, .int .i64 x.1.n, .int .i64 (nb : Nat), .int .i64 (ne : Nat)], v1, v2, .int .i64 (rep : Nat)] (w.alloc o) (Wrote B R (w.alloc o) (cs ++ stmC t (compT t d) x rep cs.length))) := fun o => by
    have h1 := c_ask t d hblk x nb ne rep B R b v1 v2 sv cs (w.alloc o) hk (hA.keep (Below.heap_alloc _ _ _ hbw)) (hB.keep (Below.heap_alloc _ _ _ hbw)) gA gB (by omega) zA zB hsz hb (h.alloc o)
    rw [ndOf_ask _ _ hk] at h1
    exact h1
  rw [ndOf_ask _ _ hk]
  have hcell : (ndCells { kind := 4, key := x.1.key, times := 0, ticks := x.1.n, body := nb, els := ne }).toArray = #[.int .i64 4, .int .i64 x.1.key, .int .i64 0, .int .i64 x.1.n, .int .i64 (nb : Nat), .int .i64 (ne : Nat)] := rfl
  rw [hcell]
  generalize cs ++ stmC t (compT t d) x rep cs.length = Z at *
  clear hcell hA hB gA gB hsz h hk
  go_enter Tryz.func65, Tryz.ntmps65
  go_wp2_with fail
  refine (HC.out _).mono ?_
  rintro e w1 ⟨rfl, ⟨s1, h1⟩, b1⟩
  go_wp2_with fail
  go_end0
  exact ⟨rfl, ⟨s1, h1⟩, (HB0.out _).trans b1⟩
set_option maxRecDepth 20000 in
set_option maxHeartbeats 4000000 in
theorem w_retry (t : ByteArray) (d : Nat) (hblk : BlkC t d) (x : Hd × Tree d × Tree d) (nb ne rep B R b : Nat) (v1 v2 sv : Value) (cs : List Ins) (w : World) (hk : bytesOf t x.1.p = kRetry) (hA : SlT t d w b v1 x.2.1) (hB : SlT t d w b v2 x.2.2) (gA : GoodT t d x.2.1) (gB : GoodT t d x.2.2)
    (hrep : rep + 1 + d ≤ 9) (zA : sizeT d x.2.1 ≤ 400) (zB : sizeT d x.2.2 ≤ 400) (hsz : cs.length + (stmC t (compT t d) x rep cs.length).length ≤ 900) (hb : b < B) (h : WrAt B w R sv cs) :
    Calls Tryz.prog 65 #[.pointer (some ⟨R, 0, none⟩), .agg (ndCells (ndOf t x.1 nb ne)).toArray, v1, v2, .int .i64 (rep : Nat)] w (Wrote B R w (cs ++ stmC t (compT t d) x rep cs.length)) := by
  have hwb : B ≤ w.heap.size := by have := heap_lt h.blk; have := h.le; omega
  have HB0 : Hid (∀ o, Below B w (w.alloc o)) := fun o => (Below.refl _ _).alloc hwb o
  have HH : Hid (WrAt B w R sv cs) := h
  have hl : cs.length ≤ 900 := by omega
  have hbw : b < w.heap.size := by omega
  have HC : Hid (∀ o, Calls Tryz.prog 86 #[.pointer (some ⟨R, 0, none⟩), .agg #[.int .i64 5, .int .i64 x.1.key, .int .i64 x.1.m, .int .i64 x.1.n, .int .i64 (nb : Nat), .int .i64 (ne : Nat)], v1, v2, .int .i64 (rep : Nat)] (w.alloc o) (Wrote B R (w.alloc o) (cs ++ stmC t (compT t d) x rep cs.length))) := fun o => by
    have h1 := c_retry t d hblk x nb ne rep B R b v1 v2 sv cs (w.alloc o) hk (hA.keep (Below.heap_alloc _ _ _ hbw)) (hB.keep (Below.heap_alloc _ _ _ hbw)) gA gB (by omega) zA zB hsz hb (h.alloc o)
    rw [ndOf_retry _ _ hk] at h1
    exact h1
  rw [ndOf_retry _ _ hk]
  have hcell : (ndCells { kind := 5, key := x.1.key, times := x.1.m, ticks := x.1.n, body := nb, els := ne }).toArray = #[.int .i64 5, .int .i64 x.1.key, .int .i64 x.1.m, .int .i64 x.1.n, .int .i64 (nb : Nat), .int .i64 (ne : Nat)] := rfl
  rw [hcell]
  generalize cs ++ stmC t (compT t d) x rep cs.length = Z at *
  clear hcell hA hB gA gB hsz h hk
  go_enter Tryz.func65, Tryz.ntmps65
  go_wp2_with fail
  refine (HC.out _).mono ?_
  rintro e w1 ⟨rfl, ⟨s1, h1⟩, b1⟩
  go_wp2_with fail
  go_end0
  exact ⟨rfl, ⟨s1, h1⟩, (HB0.out _).trans b1⟩
set_option maxRecDepth 20000 in
set_option maxHeartbeats 4000000 in
theorem w_repeat (t : ByteArray) (d : Nat) (hblk : BlkC t d) (x : Hd × Tree d × Tree d) (nb ne rep B R b : Nat) (v1 v2 sv : Value) (cs : List Ins) (w : World) (hk : bytesOf t x.1.p = kRepeat) (hA : SlT t d w b v1 x.2.1) (gA : GoodT t d x.2.1)
    (hrep : rep + 1 + d ≤ 9) (zA : sizeT d x.2.1 ≤ 400) (hsz : cs.length + (stmC t (compT t d) x rep cs.length).length ≤ 900) (hb : b < B) (h : WrAt B w R sv cs) :
    Calls Tryz.prog 65 #[.pointer (some ⟨R, 0, none⟩), .agg (ndCells (ndOf t x.1 nb ne)).toArray, v1, v2, .int .i64 (rep : Nat)] w (Wrote B R w (cs ++ stmC t (compT t d) x rep cs.length)) := by
  have hwb : B ≤ w.heap.size := by have := heap_lt h.blk; have := h.le; omega
  have HB0 : Hid (∀ o, Below B w (w.alloc o)) := fun o => (Below.refl _ _).alloc hwb o
  have HH : Hid (WrAt B w R sv cs) := h
  have hl : cs.length ≤ 900 := by omega
  have hbw : b < w.heap.size := by omega
  have HC : Hid (∀ o, Calls Tryz.prog 87 #[.pointer (some ⟨R, 0, none⟩), .agg #[.int .i64 6, .int .i64 x.1.key, .int .i64 x.1.n, .int .i64 0, .int .i64 (nb : Nat), .int .i64 (ne : Nat)], v1, .int .i64 (rep : Nat)] (w.alloc o) (Wrote B R (w.alloc o) (cs ++ stmC t (compT t d) x rep cs.length))) := fun o => by
    have h1 := c_repeat t d hblk x nb ne rep B R b v1 sv cs (w.alloc o) hk (hA.keep (Below.heap_alloc _ _ _ hbw)) gA (by omega) zA hsz hb (h.alloc o)
    rw [ndOf_repeat _ _ hk] at h1
    exact h1
  rw [ndOf_repeat _ _ hk]
  have hcell : (ndCells { kind := 6, key := x.1.key, times := x.1.n, ticks := 0, body := nb, els := ne }).toArray = #[.int .i64 6, .int .i64 x.1.key, .int .i64 x.1.n, .int .i64 0, .int .i64 (nb : Nat), .int .i64 (ne : Nat)] := rfl
  rw [hcell]
  generalize cs ++ stmC t (compT t d) x rep cs.length = Z at *
  clear hcell hA gA hsz h hk
  go_enter Tryz.func65, Tryz.ntmps65
  go_wp2_with fail
  refine (HC.out _).mono ?_
  rintro e w1 ⟨rfl, ⟨s1, h1⟩, b1⟩
  go_wp2_with fail
  go_end0
  exact ⟨rfl, ⟨s1, h1⟩, (HB0.out _).trans b1⟩
theorem w_statement (t : ByteArray) (d : Nat) (hblk : BlkC t d) (x : Hd × Tree d × Tree d) (nb ne rep B R b : Nat) (v1 v2 sv : Value) (cs : List Ins) (w : World) (hg : GoodHd t x.1) (hA : SlT t d w b v1 x.2.1) (hB : SlT t d w b v2 x.2.2) (gA : GoodT t d x.2.1) (gB : GoodT t d x.2.2)
    (hrep : rep + 1 + d ≤ 9) (zA : sizeT d x.2.1 ≤ 400) (zB : sizeT d x.2.2 ≤ 400) (hsz : cs.length + (stmC t (compT t d) x rep cs.length).length ≤ 900) (hb : b < B) (h : WrAt B w R sv cs) :
    Calls Tryz.prog 65 #[.pointer (some ⟨R, 0, none⟩), .agg (ndCells (ndOf t x.1 nb ne)).toArray, v1, v2, .int .i64 (rep : Nat)] w (Wrote B R w (cs ++ stmC t (compT t d) x rep cs.length)) := by
  rcases hg with ⟨hk, _⟩ | ⟨hk, _⟩ | ⟨hk, _⟩ | ⟨hk, _⟩ | ⟨hk, _⟩ | ⟨hk, _⟩
  · exact w_send t d x nb ne rep B R v1 v2 sv cs w hk h hsz
  · exact w_wait t d x nb ne rep B R v1 v2 sv cs w hk h hsz
  · exact w_stop t d x nb ne rep B R v1 v2 sv cs w hk h hsz
  · exact w_ask t d hblk x nb ne rep B R b v1 v2 sv cs w hk hA hB gA gB hrep zA zB hsz hb h
  · exact w_retry t d hblk x nb ne rep B R b v1 v2 sv cs w hk hA hB gA gB hrep zA zB hsz hb h
  · exact w_repeat t d hblk x nb ne rep B R b v1 v2 sv cs w hk hA gA hrep zA hsz hb h
end Go.Proofs.YtmmmnghiegajmabGreat
/- The program's writer of code: block. -/
namespace Go.Proofs.YtmmmnghiegajmabGreat
open Go.RowKit Go.Proofs.Herald
theorem compL_append (t : ByteArray) {T : Type} (sub : T → Nat → Nat → List Ins) (l r : List (Hd × T × T)) (rep base : Nat) : compL t sub (l ++ r) rep base = compL t sub l rep base ++ compL t sub r rep (base + (compL t sub l rep base).length) := by
  induction l generalizing base with
  | nil => simp [compL]
  | cons x l ih =>
    simp only [List.cons_append, compL]
    rw [ih]
    simp [List.append_assoc, Nat.add_assoc]
theorem addr_eq {b o o' : Nat} (h : o = o') : some (⟨b, o, none⟩ : Addr) = some ⟨b, o', none⟩ := by rw [h]
theorem slice_eq {a : Option Addr} {n n' c : Nat} (h : n = n') : Value.slice a n c = Value.slice a n' c := by rw [h]
theorem compL_one (t : ByteArray) {T : Type} (sub : T → Nat → Nat → List Ins) (x : Hd × T × T) (rep base : Nat) : compL t sub [x] rep base = stmC t sub x rep base := by
  simp [compL]
set_option maxRecDepth 20000 in
set_option maxHeartbeats 8000000 in
theorem w_block_succ (t : ByteArray) (d : Nat) (hblk : BlkC t d) (l : List (Hd × Tree d × Tree d)) (a0 : Option Addr) (n cap off b rep B R : Nat) (sv : Value) (cs : List Ins) (w : World) (hn : n = (flatL t d l).length) (hcap : n ≤ cap) (hmax : cap ≤ maxLen) (hnd : 0 < n → a0 = some ⟨b, off, none⟩ ∧ NdsAt w b off (flatL t d l))
    (hg : GoodT t (d + 1) l) (hrep : rep + (d + 1) ≤ 9) (hsz : sizeT (d + 1) l ≤ 400) (hlen : cs.length + (compL t (compT t d) l rep cs.length).length ≤ 900) (hb : b < B) (hW : WrAt B w R sv cs) :
    Calls Tryz.prog 46 #[.pointer (some ⟨R, 0, none⟩), .slice a0 n cap, .int .i64 (rep : Nat)] w fun e w' => e = .returned (.tuple #[]) ∧ (∃ sv', WrAt B w' R sv' (cs ++ compL t (compT t d) l rep cs.length)) ∧ Below B w w' := by
  unfold maxLen at hmax
  have hn400 : n ≤ 400 := by rw [hn]; have e : (flatL t d l).length = sizeT (d + 1) l := flatT_size t (d + 1) l; omega
  have e2 : sizeT (d + 1) l = (l.map fun x : Hd × Tree d × Tree d => 1 + sizeT d x.2.1 + sizeT d x.2.2).sum := rfl
  have HX : Hid (∀ (k : Nat) (hk : k < l.length), GoodHd t l[k].1 ∧ GoodT t d l[k].2.1 ∧ GoodT t d l[k].2.2 ∧ sizeT d l[k].2.1 ≤ 400 ∧ sizeT d l[k].2.2 ≤ 400) := by
    intro k hk
    have hm : l[k] ∈ l := List.getElem_mem hk
    obtain ⟨h1, h2, h3⟩ := hg l[k] hm
    have h4 := sum_le (fun x : Hd × Tree d × Tree d => 1 + sizeT d x.2.1 + sizeT d x.2.2) l _ hm
    exact ⟨h1, h2, h3, by omega, by omega⟩
  have HC : Hid (∀ (k : Nat) (hk : k < l.length), (cs ++ compL t (compT t d) (l.take k) rep cs.length) ++ stmC t (compT t d) l[k] rep (cs ++ compL t (compT t d) (l.take k) rep cs.length).length = cs ++ compL t (compT t d) (l.take (k + 1)) rep cs.length ∧
      (cs ++ compL t (compT t d) (l.take k) rep cs.length).length + (stmC t (compT t d) l[k] rep (cs ++ compL t (compT t d) (l.take k) rep cs.length).length).length ≤ 900) := by
    intro k hk
    have h1 : compL t (compT t d) (l.take (k + 1)) rep cs.length = compL t (compT t d) (l.take k) rep cs.length ++ stmC t (compT t d) l[k] rep (cs.length + (compL t (compT t d) (l.take k) rep cs.length).length) := by
      rw [List.take_succ_eq_append_getElem hk, compL_append, compL_one]
    have h2 : compL t (compT t d) l rep cs.length = compL t (compT t d) (l.take (k + 1)) rep cs.length ++ compL t (compT t d) (l.drop (k + 1)) rep (cs.length + (compL t (compT t d) (l.take (k + 1)) rep cs.length).length) := by
      rw [← compL_append, List.take_append_drop]
    rw [List.length_append]
    refine ⟨by rw [h1, List.append_assoc], ?_⟩
    have h3 := congrArg List.length h2
    rw [h1] at h3
    simp only [List.length_append] at h3
    omega
  have HN : Hid (0 < n → NdsAt w b off (flatL t d l)) := fun h => (hnd h).2
  have HA0 : Hid (0 < n → a0 = some ⟨b, off, none⟩) := fun h => (hnd h).1
  have HNN : Hid (n = (flatL t d l).length) := hn
  have HW : Hid (WrAt B w R sv cs) := hW
  have HK : Hid (BlkC t d) := hblk
  clear hn hg hsz e2 hnd hW hlen hblk
  go_enter Tryz.func46, Tryz.ntmps46
  go_wp2_with fail
  go_loopw [1] (fun v wr => ∃ (k K m c : Nat) (a : Option Addr), k ≤ l.length ∧ (flatL t d l).drop K = flatL t d (l.drop k) ∧ m = (flatL t d (l.drop k)).length ∧ K + m = n ∧ v = .slice a m c ∧ m ≤ c ∧ c ≤ 9223372036854775807 ∧ (0 < m → a = some ⟨b, off + K * 6, none⟩) ∧
      Hid (∃ sv', WrAt B wr R sv' (cs ++ compL t (compT t d) (l.take k) rep cs.length)) ∧ Hid (Below B w wr)) (fun v _ => match v with | .slice _ m _ => m | _ => 0)
  case atStart =>
    refine ⟨0, 0, n, cap, _, Nat.zero_le _, rfl, HNN.out, by omega, rfl, hcap, by omega, fun h => by simpa using HA0.out h, ⟨sv, HW.out.eq ?_⟩, Below.refl _ _⟩
    simp [compL]
  case round =>
    obtain ⟨k, K, m, c, a, hk, hdr, hm, hKm, rfl, hmc, hc, ha, HWR, HB⟩ := hrel
    by_cases hlt : k < l.length
    · obtain ⟨gh, ga, gb, za, zb⟩ := HX.out k hlt
      have hck := flatL_cons t d l[k] (l.drop (k + 1))
      rw [← drop_cons_of l k hlt] at hck
      obtain ⟨A, hA⟩ : ∃ A, A = flatT t d l[k].2.1 := ⟨_, rfl⟩
      obtain ⟨E, hE⟩ : ∃ E, E = flatT t d l[k].2.2 := ⟨_, rfl⟩
      rw [← hA, ← hE] at hck
      obtain ⟨x, hx⟩ : ∃ x, x = A.length := ⟨_, rfl⟩
      obtain ⟨y, hy⟩ : ∃ y, y = E.length := ⟨_, rfl⟩
      obtain ⟨N, hN⟩ : ∃ N, N = ndOf t l[k].1 x y := ⟨_, rfl⟩
      rw [← hx, ← hy, ← hN] at hck
      have hm2 : m = 1 + x + y + (flatL t d (l.drop (k + 1))).length := by rw [hm, hck]; simp [hx, hy]; omega
      have hNb : N.body = x ∧ N.els = y := by rw [hN]; exact ⟨rfl, rfl⟩
      have hbw : b < w.heap.size := by have := heap_lt HW.out.blk; have := HW.out.le; omega
      have hnr : NdsAt wr b off (flatL t d l) := (HN.out (by omega)).keep (HB.out.block b hb)
      have hn1 : NdsAt wr b (off + K * 6) (flatL t d (l.drop k)) := hnr.sub K (flatL t d (l.drop k)).length _ (by rw [hdr, List.take_length])
      rw [hck] at hn1
      have hnA : NdsAt wr b (off + K * 6 + 1 * 6) A := hn1.sub 1 x A (by simp [hx])
      have hnB : NdsAt wr b (off + K * 6 + (1 + x) * 6) E := hn1.sub (1 + x) y E (by rw [show 1 + x = x + 1 from by omega]; simp [hx, hy])
      have hcl : ∀ (j : Nat) (u : Value), (ndCells N)[j]? = some u → wr.cell? ⟨b, off + K * 6 + j, none⟩ = some u := fun j u hj => by
        have := hn1 0 (by simp) j u hj; simpa using this
      have c0 := hcl 0 (.int .i64 N.kind) rfl
      have c1 := hcl 1 (.int .i64 N.key) rfl
      have c2 := hcl 2 (.int .i64 N.times) rfl
      have c3 := hcl 3 (.int .i64 N.ticks) rfl
      have c4 := hcl 4 (.int .i64 x) (by rw [← hNb.1]; rfl)
      have c5 := hcl 5 (.int .i64 y) (by rw [← hNb.2]; rfl)
      simp only [Nat.add_zero] at c0
      have hdr2 : (flatL t d l).drop (K + (1 + x + y)) = flatL t d (l.drop (k + 1)) := by
        rw [← List.drop_drop, hdr, hck, show 1 + x + y = (x + y) + 1 from by omega, List.drop_succ_cons, hx, hy, ← List.append_assoc, ← List.length_append]
        exact List.drop_left
      have ha' := ha (by omega)
      have hbr : b < wr.heap.size := by have := HB.out.size; omega
      have HNA : Hid (NdsAt wr b (off + K * 6 + 1 * 6) (flatT t d l[k].2.1) ∧ NdsAt wr b (off + K * 6 + (1 + x) * 6) (flatT t d l[k].2.2)) := by rw [← hA, ← hE]; exact ⟨hnA, hnB⟩
      have HXY : Hid (x = (flatT t d l[k].2.1).length ∧ y = (flatT t d l[k].2.2).length) := ⟨by rw [hx, hA], by rw [hy, hE]⟩
      obtain ⟨K2, hK2⟩ : ∃ K2, K2 = K + (1 + x + y) := ⟨_, rfl⟩
      obtain ⟨m2, hm2'⟩ : ∃ m2, m2 = m - (1 + x + y) := ⟨_, rfl⟩
      have HDR : Hid ((flatL t d l).drop K2 = flatL t d (l.drop (k + 1))) := by show _ = _; rw [hK2]; exact hdr2
      have HM2 : Hid (m = 1 + x + y + (flatL t d (l.drop (k + 1))).length) := hm2
      have hxm : 1 + x + y ≤ m := by omega
      have hRw : B ≤ wr.heap.size := by have := HB.out.size; have := heap_lt HW.out.blk; have := HW.out.le; omega
      have HST : Hid (∀ (X Y : Int) (W : World) (a1 a2 : Option Addr) (n1 c1 n2 c2 : Nat), X = (x : Nat) → Y = (y : Nat) → W.os = wr.os → W.tape = wr.tape → W.output = wr.output →
          (∀ j : Nat, W.heap[j]? = (wr.alloc (.cells #[.int .i64 N.kind, .int .i64 N.key, .int .i64 N.times, .int .i64 N.ticks, .int .i64 X, .int .i64 Y] 127)).heap[j]?) → W.heap.size = wr.heap.size + 1 →
          (n1 = x ∧ n1 ≤ c1 ∧ c1 ≤ 9223372036854775807) → (0 < x → a1 = some ⟨b, off + K * 6 + 1 * 6, none⟩) → (n2 = y ∧ n2 ≤ c2 ∧ c2 ≤ 9223372036854775807) → (0 < y → a2 = some ⟨b, off + K * 6 + (1 + x) * 6, none⟩) →
          Calls Tryz.prog 65 #[.pointer (some ⟨R, 0, none⟩), .agg #[.int .i64 N.kind, .int .i64 N.key, .int .i64 N.times, .int .i64 N.ticks, .int .i64 X, .int .i64 Y], .slice a1 n1 c1, .slice a2 n2 c2, .int .i64 (rep : Nat)] W fun e w' =>
            e = .returned (.tuple #[]) ∧ (∃ sv', WrAt B w' R sv' (cs ++ compL t (compT t d) (l.take (k + 1)) rep cs.length)) ∧ Below B w w') := by
        intro X Y W a1 a2 n1 c1 n2 c2 hX hY ho1 ho2 ho3 hWh hWs f1 f2 f3 f4
        have h1 : SlT t d wr b (.slice a1 n1 c1) l[k].2.1 := ⟨a1, n1, c1, _, rfl, by rw [f1.1, HXY.out.1], f1.2.1, f1.2.2, fun hp => ⟨f2 (by omega), HNA.out.1⟩⟩
        have h2 : SlT t d wr b (.slice a2 n2 c2) l[k].2.2 := ⟨a2, n2, c2, _, rfl, by rw [f3.1, HXY.out.2], f3.2.1, f3.2.2, fun hp => ⟨f4 (by omega), HNA.out.2⟩⟩
        obtain ⟨s1, hs1⟩ := HWR.out
        have hkb : ∀ j, j < wr.heap.size → W.heap[j]? = wr.heap[j]? := fun j hj => by rw [hWh j, Below.heap_alloc _ _ _ hj]
        have h0 := w_statement t d HK.out l[k] x y rep B R b _ _ s1 _ W gh (h1.keep (hkb b hbr)) (h2.keep (hkb b hbr)) ga gb (by omega) za zb (HC.out k hlt).2 hb (hs1.keep hkb)
        rw [(HC.out k hlt).1, ← hN] at h0
        have hcells : (ndCells N).toArray = #[.int .i64 N.kind, .int .i64 N.key, .int .i64 N.times, .int .i64 N.ticks, .int .i64 X, .int .i64 Y] := by
          have h3 : ndCells N = [.int .i64 N.kind, .int .i64 N.key, .int .i64 N.times, .int .i64 N.ticks, .int .i64 (N.body : Nat), .int .i64 (N.els : Nat)] := rfl
          rw [h3, hNb.1, hNb.2, hX, hY]
        rw [hcells] at h0
        refine h0.mono ?_
        rintro e w' ⟨he, hw', hb'⟩
        exact ⟨he, hw', (HB.out.trans ⟨ho1, ho2, ho3, by omega, fun j hj => hkb j (by omega)⟩).trans hb'⟩
      clear gh ga gb hck hA hE hx hy hN hNb hnr hn1 hnA hnB hcl hdr2 hm2 hdr hm ha
      subst ha'
      have hRl : R < wr.heap.size := by obtain ⟨s1, hs1⟩ := HWR.out; exact heap_lt hs1.blk
      rcases (show c = 1 ∨ (¬ c = 1 ∧ c = 1 + x) ∨ (¬ c = 1 ∧ ¬ c = 1 + x ∧ c = 1 + x + y) ∨ (¬ c = 1 ∧ ¬ c = 1 + x ∧ ¬ c = 1 + x + y) from by omega) with h1 | ⟨h1, h2⟩ | ⟨h1, h2, h3⟩ | ⟨h1, h2, h3⟩
      all_goals first | (subst h1; obtain rfl : x = 0 := (by omega); obtain rfl : y = 0 := (by omega)) | (subst h2; obtain rfl : y = 0 := (by omega)) | subst h3 | skip
      all_goals
        go_wp2_with fail
        go_region_with (go_at_call 65; refine (HST.out _ _ _ _ _ _ _ _ _ (by first | rfl | omega | simp) (by first | rfl | omega | simp) (by rfl) (by rfl) (by rfl) (by intro _; rfl) (by simp) ⟨by first | rfl | omega, by omega, by omega⟩ (fun hp => by first | (exfalso; omega) | exact addr_eq (by omega)) ⟨by first | rfl | omega, by omega, by omega⟩ (fun hp => by first | (exfalso; omega) | exact addr_eq (by omega))).mono ?_; rintro e w2 ⟨rfl, hw2, hb2⟩)
        all_goals
          have HW2 : Hid (_ ∧ _) := ⟨hw2, hb2⟩
          clear hw2 hb2
          go_wp2_with fail
          go_roundw
          case rel =>
            refine ⟨k + 1, K2, m2, _, _, by omega, HDR.out, ?_, by omega, slice_eq (by omega), ?_, ?_, ?_, HW2.out.1, HW2.out.2⟩
            · have := HM2.out; omega
            · omega
            · omega
            · intro hpos; first | (exfalso; omega) | exact addr_eq (by omega)
          case measure => simp; omega
    · obtain rfl : k = l.length := by omega
      have hm0 : m = 0 := by rw [hm, List.drop_length]; rfl
      rw [List.take_length] at HWR
      clear hdr hm ha hlt
      subst hm0
      go_wp2_with fail
      go_end0
      exact ⟨rfl, HWR.out, HB.out⟩
theorem w_block_empty (a0 : Option Addr) (cap rep B R : Nat) (sv : Value) (cs : List Ins) (w : World) (hW : WrAt B w R sv cs) :
    Calls Tryz.prog 46 #[.pointer (some ⟨R, 0, none⟩), .slice a0 0 cap, .int .i64 (rep : Nat)] w fun e w' => e = .returned (.tuple #[]) ∧ (∃ sv', WrAt B w' R sv' cs) ∧ Below B w w' := by
  have HW : Hid (WrAt B w R sv cs) := hW
  clear hW
  go_enter Tryz.func46, Tryz.ntmps46
  go_wp2_with fail
  go_loopw [1] (fun v wr => v = .slice a0 0 cap ∧ wr = w) (fun _ _ => 0)
  case atStart => exact ⟨rfl, rfl⟩
  case round =>
    obtain ⟨rfl, rfl⟩ := hrel
    go_wp2_with fail
    go_end0
    exact ⟨rfl, ⟨_, HW.out⟩, Below.refl _ _⟩
theorem blkC (t : ByteArray) : ∀ d, BlkC t d := by
  intro d
  induction d with
  | zero =>
    intro tr v b rep B R sv cs w hS _ _ _ _ _ hW
    obtain ⟨a, n, cap, off, rfl, hn, _, _, _⟩ := hS
    have hn0 : n = 0 := hn
    subst hn0
    have e : compT t 0 tr rep cs.length = [] := rfl
    rw [e, List.append_nil]
    exact w_block_empty a cap rep B R sv cs w hW
  | succ d ih =>
    intro tr v b rep B R sv cs w hS hg hrep hsz hlen hb hW
    obtain ⟨a, n, cap, off, rfl, hn, hcap, hmax, hnd⟩ := hS
    exact w_block_succ t d ih tr a n cap off b rep B R sv cs w hn hcap hmax hnd hg hrep hsz hlen hb hW
end Go.Proofs.YtmmmnghiegajmabGreat
