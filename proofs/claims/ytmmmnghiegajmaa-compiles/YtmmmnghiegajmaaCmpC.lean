/- The program's writer of code: ask, retry, repeat, by the contract of block. The program's writer of code: statement, block. -/
import Derived.Test.YtmmmnghiegajmaaCmpA
import Derived.Test.YtmmmnghiegajmaaCodeA
import Derived.Test.YtmmmnghiegajmaaCodeD
namespace Go.Proofs.Ytmmmnghiegajmaa
open Go.RowKit Go.Proofs.Herald

/-- A slice holds a tree's statements, within block b. -/
def SlT (t : ByteArray) (d : Nat) (w : World) (b : Nat) (v : Value) (tr : Tree d) : Prop :=
  ∃ a n cap off, v = .slice a n cap ∧ n = (flatT t d tr).length ∧ n ≤ cap ∧ cap ≤ maxLen ∧ (0 < n → a = some ⟨b, off, none⟩ ∧ NdsAt w b off (flatT t d tr))

theorem SlT.keep {t : ByteArray} {d : Nat} {w w' : World} {b : Nat} {v : Value} {tr : Tree d} (h : SlT t d w b v tr) (hk : w'.heap[b]? = w.heap[b]?) : SlT t d w' b v tr := by
  obtain ⟨a, n, cap, off, h1, h2, h3, h4, h5⟩ := h
  exact ⟨a, n, cap, off, h1, h2, h3, h4, fun hp => ⟨(h5 hp).1, (h5 hp).2.keep hk⟩⟩

/-- What block does, with a tree d deep. -/
def BlkC (t : ByteArray) (d : Nat) : Prop :=
  ∀ (tr : Tree d) (v : Value) (b rep B R : Nat) (sv : Value) (cs : List Ins) (w : World), SlT t d w b v tr → GoodT t d tr → rep + d ≤ 9 → sizeT d tr ≤ 400 → cs.length + (compT t d tr rep cs.length).length ≤ 900 → b < B → WrAt B w R sv cs →
    Calls Try.prog 97 #[.pointer (some ⟨R, 0, none⟩), v, .int .i64 (rep : Nat)] w fun e w' => e = .returned (.tuple #[]) ∧ (∃ sv', WrAt B w' R sv' (cs ++ compT t d tr rep cs.length)) ∧ Below B w w'

/-- What a statement's method does: the code is written behind what stands. -/
def Wrote (B R : Nat) (w : World) (cs : List Ins) (e : Ending) (w' : World) : Prop := e = .returned (.tuple #[]) ∧ (∃ sv', WrAt B w' R sv' cs) ∧ Below B w w'

theorem WrAt.eq {B : Nat} {w : World} {R : Nat} {sv : Value} {cs ds : List Ins} (h : WrAt B w R sv cs) (e : cs = ds) : WrAt B w R sv ds := by rw [← e]; exact h

set_option maxHeartbeats 2000000 in
theorem c_ask (t : ByteArray) (d : Nat) (hblk : BlkC t d) (x : Hd × Tree d × Tree d) (nb ne rep B R b : Nat) (v1 v2 sv : Value) (cs : List Ins) (w : World) (hk : bytesOf t x.1.p = kAsk) (hA : SlT t d w b v1 x.2.1) (hB : SlT t d w b v2 x.2.2) (gA : GoodT t d x.2.1) (gB : GoodT t d x.2.2)
    (hrep : rep + d ≤ 9) (zA : sizeT d x.2.1 ≤ 400) (zB : sizeT d x.2.2 ≤ 400) (hsz : cs.length + (stmC t (compT t d) x rep cs.length).length ≤ 900) (hb : b < B) (h : WrAt B w R sv cs) :
    Calls Try.prog 158 #[.pointer (some ⟨R, 0, none⟩), .agg (ndCells (ndOf t x.1 nb ne)).toArray, v1, v2, .int .i64 (rep : Nat)] w (Wrote B R w (cs ++ stmC t (compT t d) x rep cs.length)) := by
  rw [stmC_ask _ _ _ _ hk] at hsz ⊢
  rw [ndOf_ask _ _ hk]
  have hcell : (ndCells { kind := 4, key := x.1.key, times := 0, ticks := x.1.n, body := nb, els := ne }).toArray = #[.int .i64 4, .int .i64 x.1.key, .int .i64 0, .int .i64 x.1.n, .int .i64 (nb : Nat), .int .i64 (ne : Nat)] := rfl
  rw [hcell]
  have hwb : B ≤ w.heap.size := by have := heap_lt h.blk; have := h.le; omega
  obtain ⟨A, hAd⟩ : ∃ A, A = compT t d x.2.1 rep (cs.length + 1) := ⟨_, rfl⟩
  rw [← hAd] at hsz ⊢
  obtain ⟨E, hEd⟩ : ∃ E, E = compT t d x.2.2 rep (cs.length + 2 + A.length) := ⟨_, rfl⟩
  rw [← hEd] at hsz ⊢
  have hlen : cs.length + 2 + A.length + E.length ≤ 900 := by simp only [List.length_cons, List.length_append] at hsz; omega
  have HH : Hid (WrAt B w R sv cs ∧ SlT t d w b v1 x.2.1 ∧ SlT t d w b v2 x.2.2 ∧ GoodT t d x.2.1 ∧ GoodT t d x.2.2) := ⟨h, hA, hB, gA, gB⟩
  have HD : Hid (A = compT t d x.2.1 rep (cs.length + 1) ∧ E = compT t d x.2.2 rep (cs.length + 2 + A.length)) := ⟨hAd, hEd⟩
  have HK : Hid (BlkC t d) := hblk
  clear hA hB gA gB h hsz hAd hEd hblk hcell
  obtain ⟨N0, hN0⟩ : ∃ N, N = cs.length := ⟨_, rfl⟩
  obtain ⟨N1, hN1⟩ : ∃ N, N = cs.length + 1 + A.length := ⟨_, rfl⟩
  obtain ⟨N2, hN2⟩ : ∃ N, N = cs.length + 2 + A.length := ⟨_, rfl⟩
  obtain ⟨N3, hN3⟩ : ∃ N, N = cs.length + 2 + A.length + E.length := ⟨_, rfl⟩
  have q0 : N0 ≤ 900 := by omega
  have q1 : N1 ≤ 900 := by omega
  have q2 : N2 ≤ 900 := by omega
  have q3 : N3 ≤ 900 := by omega
  have HN0 : Hid (N0 = cs.length) := hN0
  have HN1 : Hid (N1 = cs.length + 1 + A.length) := hN1
  have HN2 : Hid (N2 = cs.length + 2 + A.length) := hN2
  have HN3 : Hid (N3 = cs.length + 2 + A.length + E.length) := hN3
  clear hN0 hN1 hN2 hN3
  go_enter Try.func158, Try.ntmps158
  go_wp2_with fail
  refine (c_put B R N0 sv cs (Ins.mk 3 x.1.key x.1.n 0) _ (HH.out.1.alloc _) HN0.out (by omega)).mono ?_
  rintro e w1 ⟨rfl, ⟨s1, h1⟩, b1, _⟩
  have H1 : Hid (WrAt B w1 R s1 (cs ++ [Ins.mk 3 x.1.key x.1.n 0]) ∧ Below B w w1) := ⟨h1, ((Below.refl _ _).alloc hwb _).trans b1⟩
  clear h1 b1
  go_wp2_with fail
  refine (HK.out x.2.1 v1 b rep B R s1 _ w1 (HH.out.2.1.keep (H1.out.2.block b hb)) HH.out.2.2.2.1 hrep zA ?_ hb H1.out.1).mono ?_
  · rw [List.length_append, List.length_singleton, ← HD.out.1]; omega
  rw [List.length_append, List.length_singleton, ← HD.out.1]
  rintro e w2 ⟨rfl, ⟨s2, h2⟩, b2⟩
  have H2 : Hid (WrAt B w2 R s2 (cs ++ [Ins.mk 3 x.1.key x.1.n 0] ++ A) ∧ Below B w w2) := ⟨h2, H1.out.2.trans b2⟩
  clear h2 b2 H1
  go_wp2_with fail
  refine (c_put B R N1 s2 _ (Ins.mk 8 0 0 0) _ H2.out.1 (by rw [HN1.out]; simp; omega) (by omega)).mono ?_
  rintro e w3 ⟨rfl, ⟨s3, h3⟩, b3, _⟩
  have H3 : Hid (WrAt B w3 R s3 (cs ++ Ins.mk 3 x.1.key x.1.n 0 :: (A ++ [Ins.mk 8 0 0 0])) ∧ Below B w w3) := ⟨h3.eq (by simp), H2.out.2.trans b3⟩
  clear h3 b3 H2
  go_wp2_with fail
  refine (c_leadOn B R N0 N2 s3 cs (Ins.mk 3 x.1.key x.1.n 0) (A ++ [Ins.mk 8 0 0 0]) w3 H3.out.1 HN0.out (by rw [HN2.out]; simp; omega) (by omega)).mono ?_
  rintro e w4 ⟨rfl, ⟨s4, h4⟩, b4⟩
  have H4 : Hid (WrAt B w4 R s4 ((cs ++ Ins.mk 3 x.1.key x.1.n (N2 : Int) :: A) ++ [Ins.mk 8 0 0 0]) ∧ Below B w w4 ∧ ((cs ++ Ins.mk 3 x.1.key x.1.n (N2 : Int) :: A) ++ [Ins.mk 8 0 0 0]).length = cs.length + 2 + A.length) := ⟨h4.eq (by simp), H3.out.2.trans b4, by simp; omega⟩
  clear h4 b4 H3
  go_wp2_with fail
  refine (HK.out x.2.2 v2 b rep B R s4 _ w4 (HH.out.2.2.1.keep (H4.out.2.1.block b hb)) HH.out.2.2.2.2 hrep zB ?_ hb H4.out.1).mono ?_
  · rw [H4.out.2.2, ← HD.out.2]; omega
  rw [H4.out.2.2, ← HD.out.2]
  rintro e w5 ⟨rfl, ⟨s5, h5⟩, b5⟩
  have H5 : Hid (WrAt B w5 R s5 ((cs ++ Ins.mk 3 x.1.key x.1.n (N2 : Int) :: A) ++ Ins.mk 8 0 0 0 :: E) ∧ Below B w w5) := ⟨h5.eq (by simp), H4.out.2.1.trans b5⟩
  clear h5 b5 H4
  go_wp2_with fail
  refine (c_leadOn B R N1 N3 s5 (cs ++ Ins.mk 3 x.1.key x.1.n (N2 : Int) :: A) (Ins.mk 8 0 0 0) E w5 H5.out.1 (by rw [HN1.out]; simp; omega) (by rw [HN3.out]; simp; omega) (by omega)).mono ?_
  rintro e w6 ⟨rfl, ⟨s6, h6⟩, b6⟩
  go_wp2_with fail
  go_end0
  refine ⟨rfl, ⟨s6, h6.eq ?_⟩, H5.out.2.trans b6⟩
  rw [HN2.out, HN3.out]; simp

set_option maxHeartbeats 4000000 in
theorem c_retry (t : ByteArray) (d : Nat) (hblk : BlkC t d) (x : Hd × Tree d × Tree d) (nb ne rep B R b : Nat) (v1 v2 sv : Value) (cs : List Ins) (w : World) (hk : bytesOf t x.1.p = kRetry) (hA : SlT t d w b v1 x.2.1) (hB : SlT t d w b v2 x.2.2) (gA : GoodT t d x.2.1) (gB : GoodT t d x.2.2)
    (hrep : rep + d ≤ 9) (zA : sizeT d x.2.1 ≤ 400) (zB : sizeT d x.2.2 ≤ 400) (hsz : cs.length + (stmC t (compT t d) x rep cs.length).length ≤ 900) (hb : b < B) (h : WrAt B w R sv cs) :
    Calls Try.prog 159 #[.pointer (some ⟨R, 0, none⟩), .agg (ndCells (ndOf t x.1 nb ne)).toArray, v1, v2, .int .i64 (rep : Nat)] w (Wrote B R w (cs ++ stmC t (compT t d) x rep cs.length)) := by
  rw [stmC_retry _ _ _ _ hk] at hsz ⊢
  rw [ndOf_retry _ _ hk]
  have hcell : (ndCells { kind := 5, key := x.1.key, times := x.1.m, ticks := x.1.n, body := nb, els := ne }).toArray = #[.int .i64 5, .int .i64 x.1.key, .int .i64 x.1.m, .int .i64 x.1.n, .int .i64 (nb : Nat), .int .i64 (ne : Nat)] := rfl
  rw [hcell]
  have hwb : B ≤ w.heap.size := by have := heap_lt h.blk; have := h.le; omega
  obtain ⟨E, hEd⟩ : ∃ E, E = compT t d x.2.2 rep (cs.length + 5) := ⟨_, rfl⟩
  rw [← hEd] at hsz ⊢
  obtain ⟨A, hAd⟩ : ∃ A, A = compT t d x.2.1 rep (cs.length + 6 + E.length) := ⟨_, rfl⟩
  rw [← hAd] at hsz ⊢
  have hlen : cs.length + 6 + A.length + E.length ≤ 900 := by simp only [List.length_cons, List.length_append] at hsz; omega
  have HH : Hid (WrAt B w R sv cs ∧ SlT t d w b v1 x.2.1 ∧ SlT t d w b v2 x.2.2 ∧ GoodT t d x.2.1 ∧ GoodT t d x.2.2) := ⟨h, hA, hB, gA, gB⟩
  have HD : Hid (E = compT t d x.2.2 rep (cs.length + 5) ∧ A = compT t d x.2.1 rep (cs.length + 6 + E.length)) := ⟨hEd, hAd⟩
  have HK : Hid (BlkC t d) := hblk
  clear hA hB gA gB h hsz hAd hEd hblk hcell
  obtain ⟨N0, hN0⟩ : ∃ N, N = cs.length := ⟨_, rfl⟩
  obtain ⟨N1, hN1⟩ : ∃ N, N = cs.length + 1 := ⟨_, rfl⟩
  obtain ⟨N2, hN2⟩ : ∃ N, N = cs.length + 2 := ⟨_, rfl⟩
  obtain ⟨N3, hN3⟩ : ∃ N, N = cs.length + 3 := ⟨_, rfl⟩
  obtain ⟨N4, hN4⟩ : ∃ N, N = cs.length + 4 := ⟨_, rfl⟩
  obtain ⟨N5, hN5⟩ : ∃ N, N = cs.length + 5 + E.length := ⟨_, rfl⟩
  obtain ⟨N6, hN6⟩ : ∃ N, N = cs.length + 6 + E.length := ⟨_, rfl⟩
  obtain ⟨N7, hN7⟩ : ∃ N, N = cs.length + 6 + E.length + A.length := ⟨_, rfl⟩
  have q0 : N0 ≤ 900 := by omega
  have q1 : N1 ≤ 900 := by omega
  have q2 : N2 ≤ 900 := by omega
  have q3 : N3 ≤ 900 := by omega
  have q4 : N4 ≤ 900 := by omega
  have q5 : N5 ≤ 900 := by omega
  have q6 : N6 ≤ 900 := by omega
  have q7 : N7 ≤ 900 := by omega
  have HN0 : Hid (N0 = cs.length) := hN0
  have HN1 : Hid (N1 = cs.length + 1) := hN1
  have HN2 : Hid (N2 = cs.length + 2) := hN2
  have HN3 : Hid (N3 = cs.length + 3) := hN3
  have HN4 : Hid (N4 = cs.length + 4) := hN4
  have HN5 : Hid (N5 = cs.length + 5 + E.length) := hN5
  have HN6 : Hid (N6 = cs.length + 6 + E.length) := hN6
  have HN7 : Hid (N7 = cs.length + 6 + E.length + A.length) := hN7
  clear hN0 hN1 hN2 hN3 hN4 hN5 hN6 hN7
  have HX : Hid ((w.alloc (.cells #[.int .i64 5, .int .i64 x.1.key, .int .i64 x.1.m, .int .i64 x.1.n, .int .i64 (nb : Nat), .int .i64 (ne : Nat)] 214)).heap[w.heap.size]? = some (.cells #[.int .i64 5, .int .i64 x.1.key, .int .i64 x.1.m, .int .i64 x.1.n, .int .i64 (nb : Nat), .int .i64 (ne : Nat)] 214 (0, 0))) := heap_alloc_new _ _
  go_enter Try.func159, Try.ntmps159
  go_wp2_with fail
  refine (c_put B R N0 sv cs (Ins.mk 4 4 x.1.m 0) _ (HH.out.1.alloc _) HN0.out (by omega)).mono ?_
  rintro e w1 ⟨rfl, ⟨s1, h1⟩, b1, k1⟩
  have x1 := k1.out _ _ _ HX.out
  have X1 : Hid (_ = _) := x1
  have c13 : w1.cell? ⟨w.heap.size, 3, none⟩ = some (.int .i64 x.1.n) := (cell_of_heap x1).trans rfl
  have H1 : Hid (WrAt B w1 R s1 (cs ++ [Ins.mk 4 4 x.1.m 0]) ∧ Below B w w1) := ⟨h1, ((Below.refl _ _).alloc hwb _).trans b1⟩
  clear h1 b1 x1 k1
  go_wp2_with fail
  refine (c_put B R N1 s1 _ (Ins.mk 4 5 x.1.n 0) _ H1.out.1 (by rw [HN1.out]; simp) (by omega)).mono ?_
  rintro e w2 ⟨rfl, ⟨s2, h2⟩, b2, k2⟩
  have x2 := k2.out _ _ _ X1.out
  have c21 : w2.cell? ⟨w.heap.size, 1, none⟩ = some (.int .i64 x.1.key) := (cell_of_heap x2).trans rfl
  have H2 : Hid (WrAt B w2 R s2 (cs ++ [Ins.mk 4 4 x.1.m 0, Ins.mk 4 5 x.1.n 0]) ∧ Below B w w2) := ⟨h2.eq (by simp), H1.out.2.trans b2⟩
  clear h2 b2 x2 k2 X1 c13 H1
  go_wp2_with fail
  refine (c_put B R N2 s2 _ (Ins.mk 6 x.1.key 5 0) _ H2.out.1 (by rw [HN2.out]; simp) (by omega)).mono ?_
  rintro e w3 ⟨rfl, ⟨s3, h3⟩, b3, _⟩
  have H3 : Hid (WrAt B w3 R s3 (cs ++ [Ins.mk 4 4 x.1.m 0, Ins.mk 4 5 x.1.n 0, Ins.mk 6 x.1.key 5 0]) ∧ Below B w w3) := ⟨h3.eq (by simp), H2.out.2.trans b3⟩
  clear h3 b3 H2 c21
  go_wp2_with fail
  refine (c_put B R N3 s3 _ (Ins.mk 5 5 0 0) _ H3.out.1 (by rw [HN3.out]; simp) (by omega)).mono ?_
  rintro e w4 ⟨rfl, ⟨s4, h4⟩, b4, _⟩
  have H4 : Hid (WrAt B w4 R s4 (cs ++ [Ins.mk 4 4 x.1.m 0, Ins.mk 4 5 x.1.n 0, Ins.mk 6 x.1.key 5 0, Ins.mk 5 5 0 0]) ∧ Below B w w4) := ⟨h4.eq (by simp), H3.out.2.trans b4⟩
  clear h4 b4 H3
  go_wp2_with fail
  refine (c_put B R N4 s4 _ (Ins.mk 7 4 0 (N2 : Nat)) _ H4.out.1 (by rw [HN4.out]; simp) (by omega)).mono ?_
  rintro e w5 ⟨rfl, ⟨s5, h5⟩, b5, _⟩
  have H5 : Hid (WrAt B w5 R s5 (cs ++ [Ins.mk 4 4 x.1.m 0, Ins.mk 4 5 x.1.n 0, Ins.mk 6 x.1.key 5 0, Ins.mk 5 5 0 0, Ins.mk 7 4 0 (N2 : Nat)]) ∧ Below B w w5 ∧ (cs ++ [Ins.mk 4 4 x.1.m 0, Ins.mk 4 5 x.1.n 0, Ins.mk 6 x.1.key 5 0, Ins.mk 5 5 0 0, Ins.mk 7 4 0 (N2 : Nat)]).length = cs.length + 5) := ⟨h5.eq (by simp), H4.out.2.trans b5, by simp⟩
  clear h5 b5 H4
  go_wp2_with fail
  refine (HK.out x.2.2 v2 b rep B R s5 _ w5 (HH.out.2.2.1.keep (H5.out.2.1.block b hb)) HH.out.2.2.2.2 hrep zB ?_ hb H5.out.1).mono ?_
  · rw [H5.out.2.2, ← HD.out.1]; omega
  rw [H5.out.2.2, ← HD.out.1]
  rintro e w6 ⟨rfl, ⟨s6, h6⟩, b6⟩
  have H6 : Hid (WrAt B w6 R s6 (cs ++ [Ins.mk 4 4 x.1.m 0, Ins.mk 4 5 x.1.n 0, Ins.mk 6 x.1.key 5 0, Ins.mk 5 5 0 0, Ins.mk 7 4 0 (N2 : Nat)] ++ E) ∧ Below B w w6) := ⟨h6, H5.out.2.1.trans b6⟩
  clear h6 b6 H5
  go_wp2_with fail
  refine (c_put B R N5 s6 _ (Ins.mk 8 0 0 0) _ H6.out.1 (by rw [HN5.out]; simp; omega) (by omega)).mono ?_
  rintro e w7 ⟨rfl, ⟨s7, h7⟩, b7, _⟩
  have H7 : Hid (WrAt B w7 R s7 ((cs ++ [Ins.mk 4 4 x.1.m 0, Ins.mk 4 5 x.1.n 0]) ++ Ins.mk 6 x.1.key 5 0 :: (Ins.mk 5 5 0 0 :: Ins.mk 7 4 0 (N2 : Nat) :: (E ++ [Ins.mk 8 0 0 0]))) ∧ Below B w w7) := ⟨h7.eq (by simp), H6.out.2.trans b7⟩
  clear h7 b7 H6
  go_wp2_with fail
  refine (c_leadOn B R N2 N6 s7 (cs ++ [Ins.mk 4 4 x.1.m 0, Ins.mk 4 5 x.1.n 0]) (Ins.mk 6 x.1.key 5 0) (Ins.mk 5 5 0 0 :: Ins.mk 7 4 0 (N2 : Nat) :: (E ++ [Ins.mk 8 0 0 0])) w7 H7.out.1 (by rw [HN2.out]; simp) (by rw [HN6.out]; simp; omega) (by omega)).mono ?_
  rintro e w8 ⟨rfl, ⟨s8, h8⟩, b8⟩
  have H8 : Hid (WrAt B w8 R s8 ((cs ++ [Ins.mk 4 4 x.1.m 0, Ins.mk 4 5 x.1.n 0, Ins.mk 6 x.1.key 5 (N6 : Nat), Ins.mk 5 5 0 0, Ins.mk 7 4 0 (N2 : Nat)] ++ E) ++ [Ins.mk 8 0 0 0]) ∧ Below B w w8 ∧ ((cs ++ [Ins.mk 4 4 x.1.m 0, Ins.mk 4 5 x.1.n 0, Ins.mk 6 x.1.key 5 (N6 : Nat), Ins.mk 5 5 0 0, Ins.mk 7 4 0 (N2 : Nat)] ++ E) ++ [Ins.mk 8 0 0 0]).length = cs.length + 6 + E.length) := ⟨h8.eq (by simp), H7.out.2.trans b8, by simp; omega⟩
  clear h8 b8 H7
  go_wp2_with fail
  refine (HK.out x.2.1 v1 b rep B R s8 _ w8 (HH.out.2.1.keep (H8.out.2.1.block b hb)) HH.out.2.2.2.1 hrep zA ?_ hb H8.out.1).mono ?_
  · rw [H8.out.2.2, ← HD.out.2]; omega
  rw [H8.out.2.2, ← HD.out.2]
  rintro e w9 ⟨rfl, ⟨s9, h9⟩, b9⟩
  have H9 : Hid (WrAt B w9 R s9 ((cs ++ [Ins.mk 4 4 x.1.m 0, Ins.mk 4 5 x.1.n 0, Ins.mk 6 x.1.key 5 (N6 : Nat), Ins.mk 5 5 0 0, Ins.mk 7 4 0 (N2 : Nat)] ++ E) ++ Ins.mk 8 0 0 0 :: A) ∧ Below B w w9) := ⟨h9.eq (by simp), H8.out.2.1.trans b9⟩
  clear h9 b9 H8
  go_wp2_with fail
  refine (c_leadOn B R N5 N7 s9 (cs ++ [Ins.mk 4 4 x.1.m 0, Ins.mk 4 5 x.1.n 0, Ins.mk 6 x.1.key 5 (N6 : Nat), Ins.mk 5 5 0 0, Ins.mk 7 4 0 (N2 : Nat)] ++ E) (Ins.mk 8 0 0 0) A w9 H9.out.1 (by rw [HN5.out]; simp; omega) (by rw [HN7.out]; simp; omega) (by omega)).mono ?_
  rintro e wa ⟨rfl, ⟨sa, ha⟩, ba⟩
  go_wp2_with fail
  go_end0
  refine ⟨rfl, ⟨sa, ha.eq ?_⟩, H9.out.2.trans ba⟩
  rw [HN6.out, HN7.out, HN2.out]; simp

set_option maxHeartbeats 4000000 in
theorem c_repeat (t : ByteArray) (d : Nat) (hblk : BlkC t d) (x : Hd × Tree d × Tree d) (nb ne rep B R b : Nat) (v1 sv : Value) (cs : List Ins) (w : World) (hk : bytesOf t x.1.p = kRepeat) (hA : SlT t d w b v1 x.2.1) (gA : GoodT t d x.2.1)
    (hrep : rep + 1 + d ≤ 9) (zA : sizeT d x.2.1 ≤ 400) (hsz : cs.length + (stmC t (compT t d) x rep cs.length).length ≤ 900) (hb : b < B) (h : WrAt B w R sv cs) :
    Calls Try.prog 160 #[.pointer (some ⟨R, 0, none⟩), .agg (ndCells (ndOf t x.1 nb ne)).toArray, v1, .int .i64 (rep : Nat)] w (Wrote B R w (cs ++ stmC t (compT t d) x rep cs.length)) := by
  rw [stmC_repeat _ _ _ _ hk] at hsz ⊢
  rw [ndOf_repeat _ _ hk]
  have hcell : (ndCells { kind := 6, key := x.1.key, times := x.1.n, ticks := 0, body := nb, els := ne }).toArray = #[.int .i64 6, .int .i64 x.1.key, .int .i64 x.1.n, .int .i64 0, .int .i64 (nb : Nat), .int .i64 (ne : Nat)] := rfl
  rw [hcell]
  have hwb : B ≤ w.heap.size := by have := heap_lt h.blk; have := h.le; omega
  obtain ⟨A, hAd⟩ : ∃ A, A = compT t d x.2.1 (rep + 1) (cs.length + 1) := ⟨_, rfl⟩
  rw [← hAd] at hsz ⊢
  have hlen : cs.length + 2 + A.length ≤ 900 := by simp only [List.length_cons, List.length_append, List.length_nil] at hsz; omega
  have HH : Hid (WrAt B w R sv cs ∧ SlT t d w b v1 x.2.1 ∧ GoodT t d x.2.1) := ⟨h, hA, gA⟩
  have HD : Hid (A = compT t d x.2.1 (rep + 1) (cs.length + 1)) := hAd
  have HK : Hid (BlkC t d) := hblk
  clear hA gA h hsz hAd hblk hcell
  obtain ⟨N0, hN0⟩ : ∃ N, N = cs.length := ⟨_, rfl⟩
  obtain ⟨N1, hN1⟩ : ∃ N, N = cs.length + 1 := ⟨_, rfl⟩
  obtain ⟨N2, hN2⟩ : ∃ N, N = cs.length + 1 + A.length := ⟨_, rfl⟩
  have q0 : N0 ≤ 900 := by omega
  have q1 : N1 ≤ 900 := by omega
  have q2 : N2 ≤ 900 := by omega
  have HN0 : Hid (N0 = cs.length) := hN0
  have HN1 : Hid (N1 = cs.length + 1) := hN1
  have HN2 : Hid (N2 = cs.length + 1 + A.length) := hN2
  clear hN0 hN1 hN2
  go_enter Try.func160, Try.ntmps160
  go_wp2_with fail
  refine (c_put B R N0 sv cs (Ins.mk 4 (rep : Nat) x.1.n 0) _ (HH.out.1.alloc _) HN0.out (by omega)).mono ?_
  rintro e w1 ⟨rfl, ⟨s1, h1⟩, b1, _⟩
  obtain ⟨a1, cap1, hs1⟩ := ownsRow_slice h1.own
  have e1 : (cs ++ [Ins.mk 4 (rep : Nat) x.1.n 0]).length = N1 := by rw [HN1.out]; simp
  rw [e1] at hs1
  have r1 : w1.cell? ⟨R, 0, none⟩ = some (.slice a1 N1 cap1) := by rw [← hs1]; exact (cell_of_heap h1.blk).trans rfl
  have hRl : R < w1.heap.size := heap_lt h1.blk
  have H1 : Hid (WrAt B w1 R s1 (cs ++ [Ins.mk 4 (rep : Nat) x.1.n 0]) ∧ Below B w w1) := ⟨h1, ((Below.refl _ _).alloc hwb _).trans b1⟩
  clear h1 b1 hs1 e1
  go_wp2_with fail
  refine (HK.out x.2.1 v1 b (rep + 1) B R s1 _ w1 (HH.out.2.1.keep (H1.out.2.block b hb)) HH.out.2.2 hrep zA ?_ hb H1.out.1).mono ?_
  · rw [List.length_append, List.length_singleton, ← HD.out]; omega
  rw [List.length_append, List.length_singleton, ← HD.out]
  rintro e w2 ⟨rfl, ⟨s2, h2⟩, b2⟩
  have H2 : Hid (WrAt B w2 R s2 (cs ++ [Ins.mk 4 (rep : Nat) x.1.n 0] ++ A) ∧ Below B w w2) := ⟨h2, H1.out.2.trans b2⟩
  clear h2 b2 H1 r1
  go_wp2_with fail
  refine (c_put B R N2 s2 _ (Ins.mk 7 (rep : Nat) 0 (N1 : Nat)) _ H2.out.1 (by rw [HN2.out]; simp; omega) (by omega)).mono ?_
  rintro e w3 ⟨rfl, ⟨s3, h3⟩, b3, _⟩
  go_wp2_with fail
  go_end0
  refine ⟨rfl, ⟨s3, h3.eq ?_⟩, H2.out.2.trans b3⟩
  rw [HN1.out]; simp

end Go.Proofs.Ytmmmnghiegajmaa

namespace Go.Proofs.Ytmmmnghiegajmaa
open Go.RowKit Go.Proofs.Herald

theorem Wrote.of {B R : Nat} {w w1 : World} {cs : List Ins} {e : Ending} {w' : World} (h : Wrote B R w1 cs e w') (hb : Below B w w1) : Wrote B R w cs e w' := ⟨h.1, h.2.1, hb.trans h.2.2⟩

set_option maxRecDepth 20000 in
set_option maxHeartbeats 4000000 in
theorem w_send (t : ByteArray) (d : Nat) (x : Hd × Tree d × Tree d) (nb ne rep B R : Nat) (v1 v2 sv : Value) (cs : List Ins) (w : World) (hk : bytesOf t x.1.p = kSend) (h : WrAt B w R sv cs) (hsz : cs.length + (stmC t (compT t d) x rep cs.length).length ≤ 900) :
    Calls Try.prog 134 #[.pointer (some ⟨R, 0, none⟩), .agg (ndCells (ndOf t x.1 nb ne)).toArray, v1, v2, .int .i64 (rep : Nat)] w (Wrote B R w (cs ++ stmC t (compT t d) x rep cs.length)) := by
  have hwb : B ≤ w.heap.size := by have := heap_lt h.blk; have := h.le; omega
  have HB0 : Hid (∀ o, Below B w (w.alloc o)) := fun o => (Below.refl _ _).alloc hwb o
  have HH : Hid (WrAt B w R sv cs) := h
  have hl : cs.length ≤ 900 := by omega
  rw [stmC_send _ _ _ _ hk, ndOf_send _ _ hk]
  have hcell : (ndCells { kind := 1, key := x.1.key, times := 0, ticks := 0, body := nb, els := ne }).toArray = #[.int .i64 1, .int .i64 x.1.key, .int .i64 0, .int .i64 0, .int .i64 (nb : Nat), .int .i64 (ne : Nat)] := rfl
  rw [hcell]
  clear hcell hsz h hk
  go_enter Try.func134, Try.ntmps134
  go_wp2_with fail
  refine (c_put B R cs.length sv cs (Ins.mk 1 x.1.key 0 0) _ (HH.out.alloc _) rfl (by omega)).mono ?_
  rintro e w1 ⟨rfl, ⟨s1, h1⟩, b1, _⟩
  go_wp2_with fail
  go_end0
  exact ⟨rfl, ⟨s1, h1⟩, (HB0.out _).trans b1⟩

set_option maxRecDepth 20000 in
set_option maxHeartbeats 4000000 in
theorem w_wait (t : ByteArray) (d : Nat) (x : Hd × Tree d × Tree d) (nb ne rep B R : Nat) (v1 v2 sv : Value) (cs : List Ins) (w : World) (hk : bytesOf t x.1.p = kWait) (h : WrAt B w R sv cs) (hsz : cs.length + (stmC t (compT t d) x rep cs.length).length ≤ 900) :
    Calls Try.prog 134 #[.pointer (some ⟨R, 0, none⟩), .agg (ndCells (ndOf t x.1 nb ne)).toArray, v1, v2, .int .i64 (rep : Nat)] w (Wrote B R w (cs ++ stmC t (compT t d) x rep cs.length)) := by
  have hwb : B ≤ w.heap.size := by have := heap_lt h.blk; have := h.le; omega
  have HB0 : Hid (∀ o, Below B w (w.alloc o)) := fun o => (Below.refl _ _).alloc hwb o
  have HH : Hid (WrAt B w R sv cs) := h
  have hl : cs.length ≤ 900 := by omega
  rw [stmC_wait _ _ _ _ hk, ndOf_wait _ _ hk]
  have hcell : (ndCells { kind := 2, key := x.1.key, times := 0, ticks := x.1.n, body := nb, els := ne }).toArray = #[.int .i64 2, .int .i64 x.1.key, .int .i64 0, .int .i64 x.1.n, .int .i64 (nb : Nat), .int .i64 (ne : Nat)] := rfl
  rw [hcell]
  clear hcell hsz h hk
  go_enter Try.func134, Try.ntmps134
  go_wp2_with fail
  refine (c_put B R cs.length sv cs (Ins.mk 2 x.1.n 0 0) _ (HH.out.alloc _) rfl (by omega)).mono ?_
  rintro e w1 ⟨rfl, ⟨s1, h1⟩, b1, _⟩
  go_wp2_with fail
  go_end0
  exact ⟨rfl, ⟨s1, h1⟩, (HB0.out _).trans b1⟩

set_option maxRecDepth 20000 in
set_option maxHeartbeats 4000000 in
theorem w_stop (t : ByteArray) (d : Nat) (x : Hd × Tree d × Tree d) (nb ne rep B R : Nat) (v1 v2 sv : Value) (cs : List Ins) (w : World) (hk : bytesOf t x.1.p = kStop) (h : WrAt B w R sv cs) (hsz : cs.length + (stmC t (compT t d) x rep cs.length).length ≤ 900) :
    Calls Try.prog 134 #[.pointer (some ⟨R, 0, none⟩), .agg (ndCells (ndOf t x.1 nb ne)).toArray, v1, v2, .int .i64 (rep : Nat)] w (Wrote B R w (cs ++ stmC t (compT t d) x rep cs.length)) := by
  have hwb : B ≤ w.heap.size := by have := heap_lt h.blk; have := h.le; omega
  have HB0 : Hid (∀ o, Below B w (w.alloc o)) := fun o => (Below.refl _ _).alloc hwb o
  have HH : Hid (WrAt B w R sv cs) := h
  have hl : cs.length ≤ 900 := by omega
  rw [stmC_stop _ _ _ _ hk, ndOf_stop _ _ hk]
  have hcell : (ndCells { kind := 3, key := x.1.key, times := 0, ticks := 0, body := nb, els := ne }).toArray = #[.int .i64 3, .int .i64 x.1.key, .int .i64 0, .int .i64 0, .int .i64 (nb : Nat), .int .i64 (ne : Nat)] := rfl
  rw [hcell]
  clear hcell hsz h hk
  go_enter Try.func134, Try.ntmps134
  go_wp2_with fail
  refine (c_put B R cs.length sv cs (Ins.mk 0 0 0 0) _ (HH.out.alloc _) rfl (by omega)).mono ?_
  rintro e w1 ⟨rfl, ⟨s1, h1⟩, b1, _⟩
  go_wp2_with fail
  go_end0
  exact ⟨rfl, ⟨s1, h1⟩, (HB0.out _).trans b1⟩

set_option maxRecDepth 20000 in
set_option maxHeartbeats 4000000 in
theorem w_ask (t : ByteArray) (d : Nat) (hblk : BlkC t d) (x : Hd × Tree d × Tree d) (nb ne rep B R b : Nat) (v1 v2 sv : Value) (cs : List Ins) (w : World) (hk : bytesOf t x.1.p = kAsk) (hA : SlT t d w b v1 x.2.1) (hB : SlT t d w b v2 x.2.2) (gA : GoodT t d x.2.1) (gB : GoodT t d x.2.2)
    (hrep : rep + 1 + d ≤ 9) (zA : sizeT d x.2.1 ≤ 400) (zB : sizeT d x.2.2 ≤ 400) (hsz : cs.length + (stmC t (compT t d) x rep cs.length).length ≤ 900) (hb : b < B) (h : WrAt B w R sv cs) :
    Calls Try.prog 134 #[.pointer (some ⟨R, 0, none⟩), .agg (ndCells (ndOf t x.1 nb ne)).toArray, v1, v2, .int .i64 (rep : Nat)] w (Wrote B R w (cs ++ stmC t (compT t d) x rep cs.length)) := by
  have hwb : B ≤ w.heap.size := by have := heap_lt h.blk; have := h.le; omega
  have HB0 : Hid (∀ o, Below B w (w.alloc o)) := fun o => (Below.refl _ _).alloc hwb o
  have HH : Hid (WrAt B w R sv cs) := h
  have hl : cs.length ≤ 900 := by omega
  have hbw : b < w.heap.size := by omega
  have HC : Hid (∀ o, Calls Try.prog 158 #[.pointer (some ⟨R, 0, none⟩), .agg #[.int .i64 4, .int .i64 x.1.key, .int .i64 0, .int .i64 x.1.n, .int .i64 (nb : Nat), .int .i64 (ne : Nat)], v1, v2, .int .i64 (rep : Nat)] (w.alloc o) (Wrote B R (w.alloc o) (cs ++ stmC t (compT t d) x rep cs.length))) := fun o => by
    have h1 := c_ask t d hblk x nb ne rep B R b v1 v2 sv cs (w.alloc o) hk (hA.keep (Below.heap_alloc _ _ _ hbw)) (hB.keep (Below.heap_alloc _ _ _ hbw)) gA gB (by omega) zA zB hsz hb (h.alloc o)
    rw [ndOf_ask _ _ hk] at h1
    exact h1
  rw [ndOf_ask _ _ hk]
  have hcell : (ndCells { kind := 4, key := x.1.key, times := 0, ticks := x.1.n, body := nb, els := ne }).toArray = #[.int .i64 4, .int .i64 x.1.key, .int .i64 0, .int .i64 x.1.n, .int .i64 (nb : Nat), .int .i64 (ne : Nat)] := rfl
  rw [hcell]
  generalize cs ++ stmC t (compT t d) x rep cs.length = Z at *
  clear hcell hA hB gA gB hsz h hk
  go_enter Try.func134, Try.ntmps134
  go_wp2_with fail
  refine (HC.out _).mono ?_
  rintro e w1 ⟨rfl, ⟨s1, h1⟩, b1⟩
  go_wp2_with fail
  go_end0
  exact ⟨rfl, ⟨s1, h1⟩, (HB0.out _).trans b1⟩

set_option maxRecDepth 20000 in
set_option maxHeartbeats 4000000 in
theorem w_retry (t : ByteArray) (d : Nat) (hblk : BlkC t d) (x : Hd × Tree d × Tree d) (nb ne rep B R b : Nat) (v1 v2 sv : Value) (cs : List Ins) (w : World) (hk : bytesOf t x.1.p = kRetry) (hA : SlT t d w b v1 x.2.1) (hB : SlT t d w b v2 x.2.2) (gA : GoodT t d x.2.1) (gB : GoodT t d x.2.2)
    (hrep : rep + 1 + d ≤ 9) (zA : sizeT d x.2.1 ≤ 400) (zB : sizeT d x.2.2 ≤ 400) (hsz : cs.length + (stmC t (compT t d) x rep cs.length).length ≤ 900) (hb : b < B) (h : WrAt B w R sv cs) :
    Calls Try.prog 134 #[.pointer (some ⟨R, 0, none⟩), .agg (ndCells (ndOf t x.1 nb ne)).toArray, v1, v2, .int .i64 (rep : Nat)] w (Wrote B R w (cs ++ stmC t (compT t d) x rep cs.length)) := by
  have hwb : B ≤ w.heap.size := by have := heap_lt h.blk; have := h.le; omega
  have HB0 : Hid (∀ o, Below B w (w.alloc o)) := fun o => (Below.refl _ _).alloc hwb o
  have HH : Hid (WrAt B w R sv cs) := h
  have hl : cs.length ≤ 900 := by omega
  have hbw : b < w.heap.size := by omega
  have HC : Hid (∀ o, Calls Try.prog 159 #[.pointer (some ⟨R, 0, none⟩), .agg #[.int .i64 5, .int .i64 x.1.key, .int .i64 x.1.m, .int .i64 x.1.n, .int .i64 (nb : Nat), .int .i64 (ne : Nat)], v1, v2, .int .i64 (rep : Nat)] (w.alloc o) (Wrote B R (w.alloc o) (cs ++ stmC t (compT t d) x rep cs.length))) := fun o => by
    have h1 := c_retry t d hblk x nb ne rep B R b v1 v2 sv cs (w.alloc o) hk (hA.keep (Below.heap_alloc _ _ _ hbw)) (hB.keep (Below.heap_alloc _ _ _ hbw)) gA gB (by omega) zA zB hsz hb (h.alloc o)
    rw [ndOf_retry _ _ hk] at h1
    exact h1
  rw [ndOf_retry _ _ hk]
  have hcell : (ndCells { kind := 5, key := x.1.key, times := x.1.m, ticks := x.1.n, body := nb, els := ne }).toArray = #[.int .i64 5, .int .i64 x.1.key, .int .i64 x.1.m, .int .i64 x.1.n, .int .i64 (nb : Nat), .int .i64 (ne : Nat)] := rfl
  rw [hcell]
  generalize cs ++ stmC t (compT t d) x rep cs.length = Z at *
  clear hcell hA hB gA gB hsz h hk
  go_enter Try.func134, Try.ntmps134
  go_wp2_with fail
  refine (HC.out _).mono ?_
  rintro e w1 ⟨rfl, ⟨s1, h1⟩, b1⟩
  go_wp2_with fail
  go_end0
  exact ⟨rfl, ⟨s1, h1⟩, (HB0.out _).trans b1⟩

set_option maxRecDepth 20000 in
set_option maxHeartbeats 4000000 in
theorem w_repeat (t : ByteArray) (d : Nat) (hblk : BlkC t d) (x : Hd × Tree d × Tree d) (nb ne rep B R b : Nat) (v1 v2 sv : Value) (cs : List Ins) (w : World) (hk : bytesOf t x.1.p = kRepeat) (hA : SlT t d w b v1 x.2.1) (gA : GoodT t d x.2.1)
    (hrep : rep + 1 + d ≤ 9) (zA : sizeT d x.2.1 ≤ 400) (hsz : cs.length + (stmC t (compT t d) x rep cs.length).length ≤ 900) (hb : b < B) (h : WrAt B w R sv cs) :
    Calls Try.prog 134 #[.pointer (some ⟨R, 0, none⟩), .agg (ndCells (ndOf t x.1 nb ne)).toArray, v1, v2, .int .i64 (rep : Nat)] w (Wrote B R w (cs ++ stmC t (compT t d) x rep cs.length)) := by
  have hwb : B ≤ w.heap.size := by have := heap_lt h.blk; have := h.le; omega
  have HB0 : Hid (∀ o, Below B w (w.alloc o)) := fun o => (Below.refl _ _).alloc hwb o
  have HH : Hid (WrAt B w R sv cs) := h
  have hl : cs.length ≤ 900 := by omega
  have hbw : b < w.heap.size := by omega
  have HC : Hid (∀ o, Calls Try.prog 160 #[.pointer (some ⟨R, 0, none⟩), .agg #[.int .i64 6, .int .i64 x.1.key, .int .i64 x.1.n, .int .i64 0, .int .i64 (nb : Nat), .int .i64 (ne : Nat)], v1, .int .i64 (rep : Nat)] (w.alloc o) (Wrote B R (w.alloc o) (cs ++ stmC t (compT t d) x rep cs.length))) := fun o => by
    have h1 := c_repeat t d hblk x nb ne rep B R b v1 sv cs (w.alloc o) hk (hA.keep (Below.heap_alloc _ _ _ hbw)) gA (by omega) zA hsz hb (h.alloc o)
    rw [ndOf_repeat _ _ hk] at h1
    exact h1
  rw [ndOf_repeat _ _ hk]
  have hcell : (ndCells { kind := 6, key := x.1.key, times := x.1.n, ticks := 0, body := nb, els := ne }).toArray = #[.int .i64 6, .int .i64 x.1.key, .int .i64 x.1.n, .int .i64 0, .int .i64 (nb : Nat), .int .i64 (ne : Nat)] := rfl
  rw [hcell]
  generalize cs ++ stmC t (compT t d) x rep cs.length = Z at *
  clear hcell hA gA hsz h hk
  go_enter Try.func134, Try.ntmps134
  go_wp2_with fail
  refine (HC.out _).mono ?_
  rintro e w1 ⟨rfl, ⟨s1, h1⟩, b1⟩
  go_wp2_with fail
  go_end0
  exact ⟨rfl, ⟨s1, h1⟩, (HB0.out _).trans b1⟩

theorem w_statement (t : ByteArray) (d : Nat) (hblk : BlkC t d) (x : Hd × Tree d × Tree d) (nb ne rep B R b : Nat) (v1 v2 sv : Value) (cs : List Ins) (w : World) (hg : GoodHd t x.1) (hA : SlT t d w b v1 x.2.1) (hB : SlT t d w b v2 x.2.2) (gA : GoodT t d x.2.1) (gB : GoodT t d x.2.2)
    (hrep : rep + 1 + d ≤ 9) (zA : sizeT d x.2.1 ≤ 400) (zB : sizeT d x.2.2 ≤ 400) (hsz : cs.length + (stmC t (compT t d) x rep cs.length).length ≤ 900) (hb : b < B) (h : WrAt B w R sv cs) :
    Calls Try.prog 134 #[.pointer (some ⟨R, 0, none⟩), .agg (ndCells (ndOf t x.1 nb ne)).toArray, v1, v2, .int .i64 (rep : Nat)] w (Wrote B R w (cs ++ stmC t (compT t d) x rep cs.length)) := by
  rcases hg with ⟨hk, _⟩ | ⟨hk, _⟩ | ⟨hk, _⟩ | ⟨hk, _⟩ | ⟨hk, _⟩ | ⟨hk, _⟩
  · exact w_send t d x nb ne rep B R v1 v2 sv cs w hk h hsz
  · exact w_wait t d x nb ne rep B R v1 v2 sv cs w hk h hsz
  · exact w_stop t d x nb ne rep B R v1 v2 sv cs w hk h hsz
  · exact w_ask t d hblk x nb ne rep B R b v1 v2 sv cs w hk hA hB gA gB hrep zA zB hsz hb h
  · exact w_retry t d hblk x nb ne rep B R b v1 v2 sv cs w hk hA hB gA gB hrep zA zB hsz hb h
  · exact w_repeat t d hblk x nb ne rep B R b v1 v2 sv cs w hk hA gA hrep zA hsz hb h

end Go.Proofs.Ytmmmnghiegajmaa
