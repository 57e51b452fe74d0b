/- The program's writer of code: statement, block. -/
import Derived.Test.YtiaibigmbflpiaaCmpC
import Derived.Test.YtiaibigmbflpiaaCodeD
namespace Go.Proofs.Ytiaibigmbflpiaa
open Go.RowKit Go.Proofs.Herald

theorem Wrote.of {B R : Nat} {w w1 : World} {cs : List Ins} {e : Ending} {w' : World} (h : Wrote B R w1 cs e w') (hb : Below B w w1) : Wrote B R w cs e w' := ⟨h.1, h.2.1, hb.trans h.2.2⟩

set_option maxRecDepth 20000 in
set_option maxHeartbeats 4000000 in
theorem w_send (t : ByteArray) (d : Nat) (x : Hd × Tree d × Tree d) (nb ne rep B R : Nat) (v1 v2 sv : Value) (cs : List Ins) (w : World) (hk : bytesOf t x.1.p = kSend) (h : WrAt B w R sv cs) (hsz : cs.length + (stmC t (compT t d) x rep cs.length).length ≤ 900) :
    Calls Try.prog 122 #[.pointer (some ⟨R, 0, none⟩), .agg (ndCells (ndOf t x.1 nb ne)).toArray, v1, v2, .int .i64 (rep : Nat)] w (Wrote B R w (cs ++ stmC t (compT t d) x rep cs.length)) := by
  have hwb : B ≤ w.heap.size := by have := heap_lt h.blk; have := h.le; omega
  have HB0 : Hid (∀ o, Below B w (w.alloc o)) := fun o => (Below.refl _ _).alloc hwb o
  have HH : Hid (WrAt B w R sv cs) := h
  have hl : cs.length ≤ 900 := by omega
  rw [stmC_send _ _ _ _ hk, ndOf_send _ _ hk]
  have hcell : (ndCells { kind := 1, key := x.1.key, times := 0, ticks := 0, body := nb, els := ne }).toArray = #[.int .i64 1, .int .i64 x.1.key, .int .i64 0, .int .i64 0, .int .i64 (nb : Nat), .int .i64 (ne : Nat)] := rfl
  rw [hcell]
  clear hcell hsz h hk
  go_enter Try.func122, Try.ntmps122
  go_wp2_with fail
  refine (c_put B R cs.length sv cs (Ins.mk 1 x.1.key 0 0) _ (HH.out.alloc _) rfl (by omega)).mono ?_
  rintro e w1 ⟨rfl, ⟨s1, h1⟩, b1, _⟩
  go_wp2_with fail
  go_end0
  exact ⟨rfl, ⟨s1, h1⟩, (HB0.out _).trans b1⟩

set_option maxRecDepth 20000 in
set_option maxHeartbeats 4000000 in
theorem w_wait (t : ByteArray) (d : Nat) (x : Hd × Tree d × Tree d) (nb ne rep B R : Nat) (v1 v2 sv : Value) (cs : List Ins) (w : World) (hk : bytesOf t x.1.p = kWait) (h : WrAt B w R sv cs) (hsz : cs.length + (stmC t (compT t d) x rep cs.length).length ≤ 900) :
    Calls Try.prog 122 #[.pointer (some ⟨R, 0, none⟩), .agg (ndCells (ndOf t x.1 nb ne)).toArray, v1, v2, .int .i64 (rep : Nat)] w (Wrote B R w (cs ++ stmC t (compT t d) x rep cs.length)) := by
  have hwb : B ≤ w.heap.size := by have := heap_lt h.blk; have := h.le; omega
  have HB0 : Hid (∀ o, Below B w (w.alloc o)) := fun o => (Below.refl _ _).alloc hwb o
  have HH : Hid (WrAt B w R sv cs) := h
  have hl : cs.length ≤ 900 := by omega
  rw [stmC_wait _ _ _ _ hk, ndOf_wait _ _ hk]
  have hcell : (ndCells { kind := 2, key := x.1.key, times := 0, ticks := x.1.n, body := nb, els := ne }).toArray = #[.int .i64 2, .int .i64 x.1.key, .int .i64 0, .int .i64 x.1.n, .int .i64 (nb : Nat), .int .i64 (ne : Nat)] := rfl
  rw [hcell]
  clear hcell hsz h hk
  go_enter Try.func122, Try.ntmps122
  go_wp2_with fail
  refine (c_put B R cs.length sv cs (Ins.mk 2 x.1.n 0 0) _ (HH.out.alloc _) rfl (by omega)).mono ?_
  rintro e w1 ⟨rfl, ⟨s1, h1⟩, b1, _⟩
  go_wp2_with fail
  go_end0
  exact ⟨rfl, ⟨s1, h1⟩, (HB0.out _).trans b1⟩

set_option maxRecDepth 20000 in
set_option maxHeartbeats 4000000 in
theorem w_stop (t : ByteArray) (d : Nat) (x : Hd × Tree d × Tree d) (nb ne rep B R : Nat) (v1 v2 sv : Value) (cs : List Ins) (w : World) (hk : bytesOf t x.1.p = kStop) (h : WrAt B w R sv cs) (hsz : cs.length + (stmC t (compT t d) x rep cs.length).length ≤ 900) :
    Calls Try.prog 122 #[.pointer (some ⟨R, 0, none⟩), .agg (ndCells (ndOf t x.1 nb ne)).toArray, v1, v2, .int .i64 (rep : Nat)] w (Wrote B R w (cs ++ stmC t (compT t d) x rep cs.length)) := by
  have hwb : B ≤ w.heap.size := by have := heap_lt h.blk; have := h.le; omega
  have HB0 : Hid (∀ o, Below B w (w.alloc o)) := fun o => (Below.refl _ _).alloc hwb o
  have HH : Hid (WrAt B w R sv cs) := h
  have hl : cs.length ≤ 900 := by omega
  rw [stmC_stop _ _ _ _ hk, ndOf_stop _ _ hk]
  have hcell : (ndCells { kind := 3, key := x.1.key, times := 0, ticks := 0, body := nb, els := ne }).toArray = #[.int .i64 3, .int .i64 x.1.key, .int .i64 0, .int .i64 0, .int .i64 (nb : Nat), .int .i64 (ne : Nat)] := rfl
  rw [hcell]
  clear hcell hsz h hk
  go_enter Try.func122, Try.ntmps122
  go_wp2_with fail
  refine (c_put B R cs.length sv cs (Ins.mk 0 0 0 0) _ (HH.out.alloc _) rfl (by omega)).mono ?_
  rintro e w1 ⟨rfl, ⟨s1, h1⟩, b1, _⟩
  go_wp2_with fail
  go_end0
  exact ⟨rfl, ⟨s1, h1⟩, (HB0.out _).trans b1⟩

set_option maxRecDepth 20000 in
set_option maxHeartbeats 4000000 in
theorem w_ask (t : ByteArray) (d : Nat) (hblk : BlkC t d) (x : Hd × Tree d × Tree d) (nb ne rep B R b : Nat) (v1 v2 sv : Value) (cs : List Ins) (w : World) (hk : bytesOf t x.1.p = kAsk) (hA : SlT t d w b v1 x.2.1) (hB : SlT t d w b v2 x.2.2) (gA : GoodT t d x.2.1) (gB : GoodT t d x.2.2)
    (hrep : rep + 1 + d ≤ 9) (zA : sizeT d x.2.1 ≤ 400) (zB : sizeT d x.2.2 ≤ 400) (hsz : cs.length + (stmC t (compT t d) x rep cs.length).length ≤ 900) (hb : b < B) (h : WrAt B w R sv cs) :
    Calls Try.prog 122 #[.pointer (some ⟨R, 0, none⟩), .agg (ndCells (ndOf t x.1 nb ne)).toArray, v1, v2, .int .i64 (rep : Nat)] w (Wrote B R w (cs ++ stmC t (compT t d) x rep cs.length)) := by
  have hwb : B ≤ w.heap.size := by have := heap_lt h.blk; have := h.le; omega
  have HB0 : Hid (∀ o, Below B w (w.alloc o)) := fun o => (Below.refl _ _).alloc hwb o
  have HH : Hid (WrAt B w R sv cs) := h
  have hl : cs.length ≤ 900 := by omega
  have hbw : b < w.heap.size := by omega
  have HC : Hid (∀ o, Calls Try.prog 141 #[.pointer (some ⟨R, 0, none⟩), .agg #[.int .i64 4, .int .i64 x.1.key, .int .i64 0, .int .i64 x.1.n, .int .i64 (nb : Nat), .int .i64 (ne : Nat)], v1, v2, .int .i64 (rep : Nat)] (w.alloc o) (Wrote B R (w.alloc o) (cs ++ stmC t (compT t d) x rep cs.length))) := fun o => by
    have h1 := c_ask t d hblk x nb ne rep B R b v1 v2 sv cs (w.alloc o) hk (hA.keep (Below.heap_alloc _ _ _ hbw)) (hB.keep (Below.heap_alloc _ _ _ hbw)) gA gB (by omega) zA zB hsz hb (h.alloc o)
    rw [ndOf_ask _ _ hk] at h1
    exact h1
  rw [ndOf_ask _ _ hk]
  have hcell : (ndCells { kind := 4, key := x.1.key, times := 0, ticks := x.1.n, body := nb, els := ne }).toArray = #[.int .i64 4, .int .i64 x.1.key, .int .i64 0, .int .i64 x.1.n, .int .i64 (nb : Nat), .int .i64 (ne : Nat)] := rfl
  rw [hcell]
  generalize cs ++ stmC t (compT t d) x rep cs.length = Z at *
  clear hcell hA hB gA gB hsz h hk
  go_enter Try.func122, Try.ntmps122
  go_wp2_with fail
  refine (HC.out _).mono ?_
  rintro e w1 ⟨rfl, ⟨s1, h1⟩, b1⟩
  go_wp2_with fail
  go_end0
  exact ⟨rfl, ⟨s1, h1⟩, (HB0.out _).trans b1⟩

set_option maxRecDepth 20000 in
set_option maxHeartbeats 4000000 in
theorem w_retry (t : ByteArray) (d : Nat) (hblk : BlkC t d) (x : Hd × Tree d × Tree d) (nb ne rep B R b : Nat) (v1 v2 sv : Value) (cs : List Ins) (w : World) (hk : bytesOf t x.1.p = kRetry) (hA : SlT t d w b v1 x.2.1) (hB : SlT t d w b v2 x.2.2) (gA : GoodT t d x.2.1) (gB : GoodT t d x.2.2)
    (hrep : rep + 1 + d ≤ 9) (zA : sizeT d x.2.1 ≤ 400) (zB : sizeT d x.2.2 ≤ 400) (hsz : cs.length + (stmC t (compT t d) x rep cs.length).length ≤ 900) (hb : b < B) (h : WrAt B w R sv cs) :
    Calls Try.prog 122 #[.pointer (some ⟨R, 0, none⟩), .agg (ndCells (ndOf t x.1 nb ne)).toArray, v1, v2, .int .i64 (rep : Nat)] w (Wrote B R w (cs ++ stmC t (compT t d) x rep cs.length)) := by
  have hwb : B ≤ w.heap.size := by have := heap_lt h.blk; have := h.le; omega
  have HB0 : Hid (∀ o, Below B w (w.alloc o)) := fun o => (Below.refl _ _).alloc hwb o
  have HH : Hid (WrAt B w R sv cs) := h
  have hl : cs.length ≤ 900 := by omega
  have hbw : b < w.heap.size := by omega
  have HC : Hid (∀ o, Calls Try.prog 142 #[.pointer (some ⟨R, 0, none⟩), .agg #[.int .i64 5, .int .i64 x.1.key, .int .i64 x.1.m, .int .i64 x.1.n, .int .i64 (nb : Nat), .int .i64 (ne : Nat)], v1, v2, .int .i64 (rep : Nat)] (w.alloc o) (Wrote B R (w.alloc o) (cs ++ stmC t (compT t d) x rep cs.length))) := fun o => by
    have h1 := c_retry t d hblk x nb ne rep B R b v1 v2 sv cs (w.alloc o) hk (hA.keep (Below.heap_alloc _ _ _ hbw)) (hB.keep (Below.heap_alloc _ _ _ hbw)) gA gB (by omega) zA zB hsz hb (h.alloc o)
    rw [ndOf_retry _ _ hk] at h1
    exact h1
  rw [ndOf_retry _ _ hk]
  have hcell : (ndCells { kind := 5, key := x.1.key, times := x.1.m, ticks := x.1.n, body := nb, els := ne }).toArray = #[.int .i64 5, .int .i64 x.1.key, .int .i64 x.1.m, .int .i64 x.1.n, .int .i64 (nb : Nat), .int .i64 (ne : Nat)] := rfl
  rw [hcell]
  generalize cs ++ stmC t (compT t d) x rep cs.length = Z at *
  clear hcell hA hB gA gB hsz h hk
  go_enter Try.func122, Try.ntmps122
  go_wp2_with fail
  refine (HC.out _).mono ?_
  rintro e w1 ⟨rfl, ⟨s1, h1⟩, b1⟩
  go_wp2_with fail
  go_end0
  exact ⟨rfl, ⟨s1, h1⟩, (HB0.out _).trans b1⟩

set_option maxRecDepth 20000 in
set_option maxHeartbeats 4000000 in
theorem w_repeat (t : ByteArray) (d : Nat) (hblk : BlkC t d) (x : Hd × Tree d × Tree d) (nb ne rep B R b : Nat) (v1 v2 sv : Value) (cs : List Ins) (w : World) (hk : bytesOf t x.1.p = kRepeat) (hA : SlT t d w b v1 x.2.1) (gA : GoodT t d x.2.1)
    (hrep : rep + 1 + d ≤ 9) (zA : sizeT d x.2.1 ≤ 400) (hsz : cs.length + (stmC t (compT t d) x rep cs.length).length ≤ 900) (hb : b < B) (h : WrAt B w R sv cs) :
    Calls Try.prog 122 #[.pointer (some ⟨R, 0, none⟩), .agg (ndCells (ndOf t x.1 nb ne)).toArray, v1, v2, .int .i64 (rep : Nat)] w (Wrote B R w (cs ++ stmC t (compT t d) x rep cs.length)) := by
  have hwb : B ≤ w.heap.size := by have := heap_lt h.blk; have := h.le; omega
  have HB0 : Hid (∀ o, Below B w (w.alloc o)) := fun o => (Below.refl _ _).alloc hwb o
  have HH : Hid (WrAt B w R sv cs) := h
  have hl : cs.length ≤ 900 := by omega
  have hbw : b < w.heap.size := by omega
  have HC : Hid (∀ o, Calls Try.prog 143 #[.pointer (some ⟨R, 0, none⟩), .agg #[.int .i64 6, .int .i64 x.1.key, .int .i64 x.1.n, .int .i64 0, .int .i64 (nb : Nat), .int .i64 (ne : Nat)], v1, .int .i64 (rep : Nat)] (w.alloc o) (Wrote B R (w.alloc o) (cs ++ stmC t (compT t d) x rep cs.length))) := fun o => by
    have h1 := c_repeat t d hblk x nb ne rep B R b v1 sv cs (w.alloc o) hk (hA.keep (Below.heap_alloc _ _ _ hbw)) gA (by omega) zA hsz hb (h.alloc o)
    rw [ndOf_repeat _ _ hk] at h1
    exact h1
  rw [ndOf_repeat _ _ hk]
  have hcell : (ndCells { kind := 6, key := x.1.key, times := x.1.n, ticks := 0, body := nb, els := ne }).toArray = #[.int .i64 6, .int .i64 x.1.key, .int .i64 x.1.n, .int .i64 0, .int .i64 (nb : Nat), .int .i64 (ne : Nat)] := rfl
  rw [hcell]
  generalize cs ++ stmC t (compT t d) x rep cs.length = Z at *
  clear hcell hA gA hsz h hk
  go_enter Try.func122, Try.ntmps122
  go_wp2_with fail
  refine (HC.out _).mono ?_
  rintro e w1 ⟨rfl, ⟨s1, h1⟩, b1⟩
  go_wp2_with fail
  go_end0
  exact ⟨rfl, ⟨s1, h1⟩, (HB0.out _).trans b1⟩

theorem w_statement (t : ByteArray) (d : Nat) (hblk : BlkC t d) (x : Hd × Tree d × Tree d) (nb ne rep B R b : Nat) (v1 v2 sv : Value) (cs : List Ins) (w : World) (hg : GoodHd t x.1) (hA : SlT t d w b v1 x.2.1) (hB : SlT t d w b v2 x.2.2) (gA : GoodT t d x.2.1) (gB : GoodT t d x.2.2)
    (hrep : rep + 1 + d ≤ 9) (zA : sizeT d x.2.1 ≤ 400) (zB : sizeT d x.2.2 ≤ 400) (hsz : cs.length + (stmC t (compT t d) x rep cs.length).length ≤ 900) (hb : b < B) (h : WrAt B w R sv cs) :
    Calls Try.prog 122 #[.pointer (some ⟨R, 0, none⟩), .agg (ndCells (ndOf t x.1 nb ne)).toArray, v1, v2, .int .i64 (rep : Nat)] w (Wrote B R w (cs ++ stmC t (compT t d) x rep cs.length)) := by
  rcases hg with ⟨hk, _⟩ | ⟨hk, _⟩ | ⟨hk, _⟩ | ⟨hk, _⟩ | ⟨hk, _⟩ | ⟨hk, _⟩
  · exact w_send t d x nb ne rep B R v1 v2 sv cs w hk h hsz
  · exact w_wait t d x nb ne rep B R v1 v2 sv cs w hk h hsz
  · exact w_stop t d x nb ne rep B R v1 v2 sv cs w hk h hsz
  · exact w_ask t d hblk x nb ne rep B R b v1 v2 sv cs w hk hA hB gA gB hrep zA zB hsz hb h
  · exact w_retry t d hblk x nb ne rep B R b v1 v2 sv cs w hk hA hB gA gB hrep zA zB hsz hb h
  · exact w_repeat t d hblk x nb ne rep B R b v1 v2 sv cs w hk hA gA hrep zA hsz hb h

end Go.Proofs.Ytiaibigmbflpiaa
