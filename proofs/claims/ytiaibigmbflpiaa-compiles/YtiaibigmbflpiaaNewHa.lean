/- The owner's record of lists; messages. -/
import Derived.Test.YtiaibigmbflpiaaNewG
import Derived.Deep.DeepCutAuto
namespace Go.Proofs.Ytiaibigmbflpiaa
open Go.RowKit Go.Proofs.Herald

theorem Try.infoQB : (Try.prog.info? 132).map (fun i => (i.zero, i.size, i.bytes)) = some (some (.agg #[.slice none 0 0, .int .i64 0, .int .i64 0, .int .i64 0, .int .i64 0]), 5, 56) := by kernel_rfl
theorem Try.infoMsg : (Try.prog.info? 81).map (fun i => (i.zero, i.size, i.bytes)) = some (some (.agg #[.int .i64 0, .int .i64 0, .int .i64 0, .int .i64 0]), 4, 32) := by kernel_rfl

/-- A list that was booked reads as its owner wrote it. -/
def BookOk (w : World) (X : Nat → Prop) (eT : TypeId) (k : Nat) (b : Value × List Value) : Prop :=
  (∃ is : List Int, b.2 = is.map (fun z => Value.int .i64 z) ∧ is.length = k) ∧ ∃ n, n ≤ 100000000 ∧ w.ownsRow 0 eT k b.1 n (marks b.2 n) ∧ ∀ g, b.1.ownBlock = some g → X g

structure OwnAt (w : World) (X : Nat → Prop) (O : Nat) (n : Int) (cv rv qv : Value) (cb rb qb : List (Value × List Value)) : Prop where
  blk : w.heap[O]? = some (.cells #[.int .i64 n, cv, rv, qv] 41 (0, 0))
  inO : X O
  cown : w.ownsRow 0 128 5 cv cb.length (booksCells cb)
  rown : w.ownsRow 0 130 6 rv rb.length (booksCells rb)
  qown : w.ownsRow 0 132 5 qv qb.length (booksCells qb)
  cin : ∀ b, cv.ownBlock = some b → X b
  rin : ∀ b, rv.ownBlock = some b → X b
  qin : ∀ b, qv.ownBlock = some b → X b
  cbk : ∀ b ∈ cb, BookOk w X 126 4 b
  rbk : ∀ b ∈ rb, BookOk w X 88 5 b
  qbk : ∀ b ∈ qb, BookOk w X 81 4 b

theorem own_set {w : World} {B : Nat} {e : TypeId} {size n g cap : Nat} {xs : List Value} (h : w.ownsRow B e size (.slice (some ⟨g, 0, none⟩) n cap) n xs) (p : Nat) (v : Value) :
    (w.setCell ⟨g, p, none⟩ v).ownsRow B e size (.slice (some ⟨g, 0, none⟩) n cap) n (xs.set p v) := by
  refine ⟨by rw [List.length_set]; exact h.1, .inr ?_⟩
  rcases h.2 with ⟨h1, _⟩ | ⟨g', cap', cur, hv, hb, hg, hn, hm, hs, ht⟩
  · cases h1
  · simp at hv
    obtain ⟨rfl, rfl⟩ := hv
    refine ⟨g, cap, cur.setIfInBounds p v, rfl, hb, heap_setCell_self v hg, hn, hm, by simpa using hs, ?_⟩
    rw [Array.toList_setIfInBounds, List.take_set, ht]

theorem own_get {w : World} {B : Nat} {e : TypeId} {size n g cap : Nat} {xs : List Value} (h : w.ownsRow B e size (.slice (some ⟨g, 0, none⟩) n cap) n xs) (p : Nat) (u : Value) (hu : xs[p]? = some u) :
    w.cell? ⟨g, p, none⟩ = some u ∧ w.frozen? ⟨g, p, none⟩ = false := by
  have h1 := h.cells (g := g) rfl p u hu
  rw [Addr.add_lit, Nat.zero_add] at h1
  obtain ⟨_, cur, hc⟩ := ownsRow_lies h (k := g) rfl
  exact ⟨h1, free_of_heap hc⟩

/-- Four cells of an element are written. -/
theorem own_set4 {w : World} {B : Nat} {e : TypeId} {size n g cap p : Nat} {A rest : List Value} {r0 r1 r2 r3 : Value} (h : w.ownsRow B e size (.slice (some ⟨g, 0, none⟩) n cap) n (A ++ r0 :: r1 :: r2 :: r3 :: rest)) (hp : p = A.length) (u0 u1 u2 u3 : Value) :
    ((((w.setCell ⟨g, p, none⟩ u0).setCell ⟨g, p + 1, none⟩ u1).setCell ⟨g, p + 2, none⟩ u2).setCell ⟨g, p + 3, none⟩ u3).ownsRow B e size (.slice (some ⟨g, 0, none⟩) n cap) n (A ++ [u0, u1, u2, u3] ++ rest) := by
  have h4 := own_set (own_set (own_set (own_set h p u0) (p + 1) u1) (p + 2) u2) (p + 3) u3
  rw [set4 u0 u1 u2 u3 p hp] at h4
  exact h4

theorem own_get4 {w : World} {B : Nat} {e : TypeId} {size n g cap p : Nat} {A rest : List Value} {r0 r1 r2 r3 : Value} (h : w.ownsRow B e size (.slice (some ⟨g, 0, none⟩) n cap) n (A ++ r0 :: r1 :: r2 :: r3 :: rest)) (hp : p = A.length) :
    w.cell? ⟨g, p, none⟩ = some r0 ∧ w.cell? ⟨g, p + 1, none⟩ = some r1 ∧ w.cell? ⟨g, p + 2, none⟩ = some r2 ∧ w.cell? ⟨g, p + 3, none⟩ = some r3 ∧ w.frozen? ⟨g, p, none⟩ = false ∧ w.frozen? ⟨g, p + 1, none⟩ = false ∧ w.frozen? ⟨g, p + 2, none⟩ = false ∧ w.frozen? ⟨g, p + 3, none⟩ = false := by
  subst hp
  have k0 := own_get h A.length r0 (by simp)
  have k1 := own_get h (A.length + 1) r1 (by simp)
  have k2 := own_get h (A.length + 2) r2 (by simp)
  have k3 := own_get h (A.length + 3) r3 (by simp)
  exact ⟨k0.1, k1.1, k2.1, k3.1, k0.2, k1.2, k2.2, k3.2⟩

theorem four {l : List Value} {n : Nat} (h : l.length = n * 4) (hn : 0 < n) : ∃ r0 r1 r2 r3 rest, l = r0 :: r1 :: r2 :: r3 :: rest ∧ rest.length = (n - 1) * 4 := by
  match l, h with
  | r0 :: r1 :: r2 :: r3 :: rest, h => exact ⟨r0, r1, r2, r3, rest, rfl, by simp at h; omega⟩
  | [], h => simp at h; omega
  | [_], h => simp at h; omega
  | [_, _], h => simp at h; omega
  | [_, _, _], h => simp at h; omega

theorem mark4 {w : World} {M : Nat} {e : TypeId} {u0 u1 u2 u3 : Value} (h : w.heap[M]? = some (.cells [u0, u1, u2, u3].toArray e (0, 0))) :
    w.cell? ⟨M, 0, none⟩ = some u0 ∧ w.cell? ⟨M, 1, none⟩ = some u1 ∧ w.cell? ⟨M, 2, none⟩ = some u2 ∧ w.cell? ⟨M, 3, none⟩ = some u3 :=
  ⟨(cell_of_heap h).trans rfl, (cell_of_heap h).trans rfl, (cell_of_heap h).trans rfl, (cell_of_heap h).trans rfl⟩

theorem fr_one {S : Nat → Prop} {w0 w : World} (h : Fr S w0 w) {g : Nat} (hg : S g) (p : Nat) (u0 u1 u2 u3 : Value) : Fr S w0 ((((w.setCell ⟨g, p, none⟩ u0).setCell ⟨g, p + 1, none⟩ u1).setCell ⟨g, p + 2, none⟩ u2).setCell ⟨g, p + 3, none⟩ u3) :=
  (((h.setCell ⟨g, p, none⟩ (Or.inl hg) _).setCell ⟨g, p + 1, none⟩ (Or.inl hg) _).setCell ⟨g, p + 2, none⟩ (Or.inl hg) _).setCell ⟨g, p + 3, none⟩ (Or.inl hg) _


end Go.Proofs.Ytiaibigmbflpiaa
