import Derived.Test.YtmmmnghiegajmaaM06
import Derived.Test.YtmmmnghiegajmaaM07
import Derived.Test.YtmmmnghiegajmaaM01
import Derived.Deep.DeepCutAuto
import Derived.Test.YtmmmnghiegajmaaM05
import Derived.Test.YtmmmnghiegajmaaM04
/- The harness begins with code: a herald just where the code is sound. Books of lists: what the harness keeps of each list that came out. The owner's record of lists; messages. -/
namespace Go.Proofs.Ytmmmnghiegajmaa
open Go.RowKit Go.Proofs.Herald
theorem CodeIn.fr {w w' : World} {a : Option Addr} {b off S : Nat} {cs : List Ins} (h : CodeIn w a b off cs) (hb : Fr (fun k => k = S) w w') (hS : 0 < cs.length → b ≠ S) : CodeIn w' a b off cs := fun hp =>
  ⟨(h hp).1, Nat.lt_of_lt_of_le (h hp).2.1 hb.size, (h hp).2.2.keep (hb.block _ (h hp).2.1 (hS hp))⟩
open Go.RowKit Go.Proofs.Herald
def bookCells (b : Value × List Value) : List Value := b.1 :: b.2
def booksCells (bs : List (Value × List Value)) : List Value := bs.flatMap bookCells
theorem booksCells_snoc (bs : List (Value × List Value)) (b : Value × List Value) : booksCells (bs ++ [b]) = booksCells bs ++ bookCells b := by simp [booksCells]
/-- x is laid in l's own row, or apart from it. -/
def KinTo (l x : Value) : Prop :=
  (∃ g cap n n', l = .slice (some ⟨g, 0, none⟩) n cap ∧ x = .slice (some ⟨g, 0, none⟩) n' cap) ∨ (∀ b, x.ownBlock = some b → l.ownBlock ≠ some b)
/-- A list is being booked: O: the owner's record, M: the mark, l: the list, kin: what has been put together of it. -/
structure BkAt (w0 w : World) (O M : Nat) (oc : Value → Array Value) (eT bT : TypeId) (k : Nat) (rv0 rv : Value) (bs : List (Value × List Value)) (l : Value) (nl : Nat) (mk : List Value) (kin : List (Value × Nat)) : Prop where
  o : w.heap[O]? = some (.cells (oc rv) 41 (0, 0))
  m : w.heap[M]? = some (.cells mk.toArray eT (0, 0))
  rown : w.ownsRow 0 bT (k + 1) rv bs.length (booksCells bs)
  rat : ∀ b, rv.ownBlock = some b → rv0.ownBlock = some b ∨ w0.heap.size ≤ b
  lown : w.ownsRow 0 eT k l nl (marks mk nl)
  kins : ∀ x ∈ kin, w.ownsRow 0 eT k x.1 x.2 (marks mk x.2) ∧ KinTo l x.1 ∧ (∀ b, x.1.ownBlock = some b → l.ownBlock = some b ∨ w0.heap.size ≤ b)
  fr : Fr (fun j => j = O ∨ rv0.ownBlock = some j ∨ l.ownBlock = some j) w0 w
  mnew : w0.heap.size ≤ M
  old : O < w0.heap.size ∧ ∀ b, l.ownBlock = some b → b < w0.heap.size
theorem Fr.wide {S : Nat → Prop} {w0 w w' : World} (h : Fr S w0 w) (k : Fr (fun j => S j ∨ w0.heap.size ≤ j) w w') : Fr S w0 w' :=
  ((h.mono (T := fun j => S j ∨ w0.heap.size ≤ j) fun _ _ hs => Or.inl hs).trans k).mono fun j hj hs => hs.elim id (fun h => by omega)
theorem BkAt.push {w0 w W w1 : World} {O M : Nat} {oc : Value → Array Value} {eT bT : TypeId} {k : Nat} {rv0 rv : Value} {bs : List (Value × List Value)} {l : Value} {nl : Nat} {mk : List Value} {kin : List (Value × Nat)} (h : BkAt w0 w O M oc eT bT k rv0 rv bs l nl mk kin)
    (hbo : bT ≠ 41) (hbe : bT ≠ eT) (heo : eT ≠ 41) (h0 : OneMore w W) {x : Value} {g cap idx : Nat}
    (hown1 : w1.ownsRow 0 bT (k + 1) (.slice (some ⟨g, 0, none⟩) (bs.length + 1) cap) (bs.length + 1) (booksCells bs ++ (x :: mk))) (hgrow : W.grownBy w1 rv.ownBlock) (hat : rv.ownBlock = some g ∨ g = W.heap.size)
    (hoc : (oc rv).setIfInBounds idx (.slice (some ⟨g, 0, none⟩) (bs.length + 1) cap) = oc (.slice (some ⟨g, 0, none⟩) (bs.length + 1) cap)) :
    BkAt w0 (w1.setCell ⟨O, idx, none⟩ (.slice (some ⟨g, 0, none⟩) (bs.length + 1) cap)) O M oc eT bT k rv0 (.slice (some ⟨g, 0, none⟩) (bs.length + 1) cap) (bs ++ [(x, mk)]) l nl mk kin := by
  have hsz := h0.size
  have hOl := heap_lt h.o
  have hw0 := h.fr.size
  have hvO : rv.ownBlock ≠ some O := fun e => by obtain ⟨cur, hc⟩ := own_block h.rown e; exact ne_of_type hc h.o hbo rfl
  have hO1 : w1.heap[O]? = w.heap[O]? := grown_same h0 hgrow hOl hvO
  have hMO : M ≠ O := ne_of_type h.m h.o heo
  have hgO : g ≠ O := by obtain ⟨cur, hc⟩ := own_block hown1 (k := g) rfl; exact ne_of_type hc (hO1.trans h.o) hbo
  have keep : ∀ {v : Value} {n : Nat} {xs : List Value}, w.ownsRow 0 eT k v n xs → (w1.setCell ⟨O, idx, none⟩ (.slice (some ⟨g, 0, none⟩) (bs.length + 1) cap)).ownsRow 0 eT k v n xs := fun {v n xs} hv => own_keep hv fun b hb => by
    obtain ⟨cur, hc⟩ := own_block hv hb
    rw [Below.heap_setCell _ _ _ _ (ne_of_type hc h.o heo)]
    exact grown_same h0 hgrow (heap_lt hc) (fun e => by obtain ⟨cur', hc'⟩ := own_block h.rown e; exact ne_of_type hc' hc hbe rfl)
  refine ⟨?_, ?_, ?_, ?_, keep h.lown, fun y hy => ⟨keep (h.kins y hy).1, (h.kins y hy).2⟩, ?_, h.mnew, h.old⟩
  · rw [heap_setCell_self _ (hO1.trans h.o), hoc]
  · rw [Below.heap_setCell _ _ _ _ hMO]
    exact grown_block h0 hgrow h.m (fun e => by obtain ⟨cur, hc⟩ := own_block h.rown e; exact ne_of_type hc h.m hbe rfl)
  · rw [booksCells_snoc, List.length_append]
    exact own_keep hown1 fun b hb => by
      simp [Value.ownBlock] at hb
      subst hb
      exact Below.heap_setCell _ _ _ _ hgO
  · intro b hb
    simp [Value.ownBlock] at hb
    subst hb
    rcases hat with h1 | h1
    · exact h.rat _ h1
    · right; omega
  · refine Fr.wide h.fr ?_
    have f1 : Fr (fun j => (j = O ∨ rv0.ownBlock = some j ∨ l.ownBlock = some j) ∨ w0.heap.size ≤ j) w w1 := Fr.of_push h0 hgrow fun j hj => by
      rcases h.rat j hj with h1 | h1
      · exact Or.inl (Or.inr (Or.inl h1))
      · exact Or.inr h1
    exact f1.setCell ⟨O, idx, none⟩ (Or.inl (Or.inl (Or.inl rfl))) _
theorem BkAt.app {w0 w w' : World} {O M : Nat} {oc : Value → Array Value} {eT bT : TypeId} {k : Nat} {rv0 rv : Value} {bs : List (Value × List Value)} {l : Value} {nl : Nat} {mk : List Value} {kin : List (Value × Nat)} (h : BkAt w0 w O M oc eT bT k rv0 rv bs l nl mk kin)
    (hbe : bT ≠ eT) (heo : eT ≠ 41) (hk : mk.length = k) {W : World} (h0 : OneMore w W) {v' : Value} {j : Nat} (hown' : w'.ownsRow 0 eT k v' (nl + j) (marks mk nl ++ marks mk j)) (ha : Appended W w' l nl j v') (hkin : ∀ x ∈ kin, x.2 ≤ nl + j) :
    BkAt w0 w' O M oc eT bT k rv0 rv bs l nl mk (kin ++ [(v', nl + j)]) := by
  rw [← marks_add] at hown'
  have hsz := h0.size
  have hw0 := h.fr.size
  rcases ha with ⟨g, cap, hl, hv, hgrow⟩ | ⟨hnew, hgrow⟩
  · have hlb : l.ownBlock = some g := by rw [hl]; rfl
    have hgl := h.old.2 g hlb
    obtain ⟨curl, hcl⟩ := own_block h.lown hlb
    have same : ∀ {b : Nat} {ob : Obj}, w.heap[b]? = some ob → b ≠ g → w'.heap[b]? = some ob := fun {b ob} hb hne => by
      rw [hgrow.block b (by have := heap_lt hb; omega) (by simpa using hne), h0.block b (heap_lt hb)]; exact hb
    have hown2 := hown'
    rw [hv] at hown2
    refine ⟨same h.o (fun e => ne_of_type hcl h.o heo e.symm), same h.m (fun e => by have := h.mnew; omega), ?_, h.rat, ?_, ?_, ?_, h.mnew, h.old⟩
    · exact own_keep h.rown fun b hb => by
        obtain ⟨cur, hc⟩ := own_block h.rown hb
        rw [same hc (ne_of_type hc hcl hbe), hc]
    · have h1 := own_prefix hown2 (n := nl) (by omega)
      rw [← hk, marks_take mk (by omega), hk, ← hl] at h1
      exact h1
    · intro x hx
      rw [List.mem_append, List.mem_singleton] at hx
      rcases hx with hx | rfl
      · obtain ⟨k1, k2, k3⟩ := h.kins x hx
        refine ⟨?_, k2, k3⟩
        rcases k2 with ⟨g2, cap2, n2, n3, e1, e2⟩ | k2
        · rw [hl] at e1
          simp at e1
          obtain ⟨rfl, _, rfl⟩ := e1
          have hn3 : n3 = x.2 := by
            have h5 := k1
            rw [e2] at h5
            exact (own_cap h5).2.1
          rw [e2, hn3]
          have h1 := own_prefix hown2 (n := x.2) (hkin x hx)
          rw [← hk, marks_take mk (hkin x hx), hk] at h1
          exact h1
        · exact own_keep k1 fun b hb => by
            obtain ⟨cur, hc⟩ := own_block k1 hb
            rw [same hc (fun e => by subst e; exact k2 _ hb hlb), hc]
      · refine ⟨hown', Or.inl ⟨g, cap, nl, nl + j, hl, hv⟩, fun b hb => Or.inl ?_⟩
        rw [hlb]
        rw [hv] at hb
        exact hb
    · refine Fr.wide h.fr ⟨hgrow.os.trans h0.os, hgrow.tape.trans h0.tape, hgrow.output.trans h0.output, by have := hgrow.size; omega, fun b hb hs => ?_⟩
      rw [hgrow.block b (by omega) (fun e => hs (Or.inl (Or.inr (Or.inr (by rw [hlb]; simpa using e.symm))))), h0.block b hb]
  · have same : ∀ {b : Nat} {ob : Obj}, w.heap[b]? = some ob → w'.heap[b]? = some ob := fun {b ob} hb => by
      rw [hgrow.block b (by have := heap_lt hb; omega) (by simp), h0.block b (heap_lt hb)]; exact hb
    have keep : ∀ {e : TypeId} {s : Nat} {v : Value} {n : Nat} {xs : List Value}, w.ownsRow 0 e s v n xs → w'.ownsRow 0 e s v n xs := fun {e s v n xs} hv => own_keep hv fun b hb => by
      obtain ⟨cur, hc⟩ := own_block hv hb
      rw [same hc, hc]
    refine ⟨same h.o, same h.m, keep h.rown, h.rat, keep h.lown, ?_, ?_, h.mnew, h.old⟩
    · intro x hx
      rw [List.mem_append, List.mem_singleton] at hx
      rcases hx with hx | rfl
      · exact ⟨keep (h.kins x hx).1, (h.kins x hx).2⟩
      · refine ⟨hown', Or.inr fun b hb e => ?_, fun b hb => Or.inr ?_⟩
        · have h1 := hnew b hb
          have h2 := h.old.2 b e
          omega
        · have h1 := hnew b hb
          omega
    · refine Fr.wide h.fr ⟨hgrow.os.trans h0.os, hgrow.tape.trans h0.tape, hgrow.output.trans h0.output, by have := hgrow.size; omega, fun b hb _ => ?_⟩
      rw [hgrow.block b (by omega) (by simp), h0.block b hb]
open Go.RowKit Go.Proofs.Herald
theorem Try.infoQB : (Try.prog.info? 134).map (fun i => (i.zero, i.size, i.bytes)) = some (some (.agg #[.slice none 0 0, .int .i64 0, .int .i64 0, .int .i64 0, .int .i64 0]), 5, 56) := by kernel_rfl
theorem Try.infoMsg : (Try.prog.info? 83).map (fun i => (i.zero, i.size, i.bytes)) = some (some (.agg #[.int .i64 0, .int .i64 0, .int .i64 0, .int .i64 0]), 4, 32) := by kernel_rfl
/-- A list that was booked reads as its owner wrote it. -/
def BookOk (w : World) (X : Nat → Prop) (eT : TypeId) (k : Nat) (b : Value × List Value) : Prop :=
  (∃ is : List Int, b.2 = is.map (fun z => Value.int .i64 z) ∧ is.length = k) ∧ ∃ n, n ≤ 100000000 ∧ w.ownsRow 0 eT k b.1 n (marks b.2 n) ∧ ∀ g, b.1.ownBlock = some g → X g
structure OwnAt (w : World) (X : Nat → Prop) (O : Nat) (n : Int) (cv rv qv : Value) (cb rb qb : List (Value × List Value)) : Prop where
  blk : w.heap[O]? = some (.cells #[.int .i64 n, cv, rv, qv] 41 (0, 0))
  inO : X O
  cown : w.ownsRow 0 130 5 cv cb.length (booksCells cb)
  rown : w.ownsRow 0 132 6 rv rb.length (booksCells rb)
  qown : w.ownsRow 0 134 5 qv qb.length (booksCells qb)
  cin : ∀ b, cv.ownBlock = some b → X b
  rin : ∀ b, rv.ownBlock = some b → X b
  qin : ∀ b, qv.ownBlock = some b → X b
  cbk : ∀ b ∈ cb, BookOk w X 128 4 b
  rbk : ∀ b ∈ rb, BookOk w X 90 5 b
  qbk : ∀ b ∈ qb, BookOk w X 83 4 b
theorem own_set {w : World} {B : Nat} {e : TypeId} {size n g cap : Nat} {xs : List Value} (h : w.ownsRow B e size (.slice (some ⟨g, 0, none⟩) n cap) n xs) (p : Nat) (v : Value) :
    (w.setCell ⟨g, p, none⟩ v).ownsRow B e size (.slice (some ⟨g, 0, none⟩) n cap) n (xs.set p v) := by
  refine ⟨by rw [List.length_set]; exact h.1, .inr ?_⟩
  rcases h.2 with ⟨h1, _⟩ | ⟨g', cap', cur, hv, hb, hg, hn, hm, hs, ht⟩
  · cases h1
  · simp at hv
    obtain ⟨rfl, rfl⟩ := hv
    refine ⟨g, cap, cur.setIfInBounds p v, rfl, hb, heap_setCell_self v hg, hn, hm, by simpa using hs, ?_⟩
    rw [Array.toList_setIfInBounds, List.take_set, ht]
theorem own_get {w : World} {B : Nat} {e : TypeId} {size n g cap : Nat} {xs : List Value} (h : w.ownsRow B e size (.slice (some ⟨g, 0, none⟩) n cap) n xs) (p : Nat) (u : Value) (hu : xs[p]? = some u) :
    w.cell? ⟨g, p, none⟩ = some u ∧ w.frozen? ⟨g, p, none⟩ = false := by
  have h1 := h.cells (g := g) rfl p u hu
  rw [Addr.add_lit, Nat.zero_add] at h1
  obtain ⟨_, cur, hc⟩ := ownsRow_lies h (k := g) rfl
  exact ⟨h1, free_of_heap hc⟩
/-- Four cells of an element are written. -/
theorem own_set4 {w : World} {B : Nat} {e : TypeId} {size n g cap p : Nat} {A rest : List Value} {r0 r1 r2 r3 : Value} (h : w.ownsRow B e size (.slice (some ⟨g, 0, none⟩) n cap) n (A ++ r0 :: r1 :: r2 :: r3 :: rest)) (hp : p = A.length) (u0 u1 u2 u3 : Value) :
    ((((w.setCell ⟨g, p, none⟩ u0).setCell ⟨g, p + 1, none⟩ u1).setCell ⟨g, p + 2, none⟩ u2).setCell ⟨g, p + 3, none⟩ u3).ownsRow B e size (.slice (some ⟨g, 0, none⟩) n cap) n (A ++ [u0, u1, u2, u3] ++ rest) := by
  have h4 := own_set (own_set (own_set (own_set h p u0) (p + 1) u1) (p + 2) u2) (p + 3) u3
  rw [set4 u0 u1 u2 u3 p hp] at h4
  exact h4
theorem own_get4 {w : World} {B : Nat} {e : TypeId} {size n g cap p : Nat} {A rest : List Value} {r0 r1 r2 r3 : Value} (h : w.ownsRow B e size (.slice (some ⟨g, 0, none⟩) n cap) n (A ++ r0 :: r1 :: r2 :: r3 :: rest)) (hp : p = A.length) :
    w.cell? ⟨g, p, none⟩ = some r0 ∧ w.cell? ⟨g, p + 1, none⟩ = some r1 ∧ w.cell? ⟨g, p + 2, none⟩ = some r2 ∧ w.cell? ⟨g, p + 3, none⟩ = some r3 ∧ w.frozen? ⟨g, p, none⟩ = false ∧ w.frozen? ⟨g, p + 1, none⟩ = false ∧ w.frozen? ⟨g, p + 2, none⟩ = false ∧ w.frozen? ⟨g, p + 3, none⟩ = false := by
  subst hp
  have k0 := own_get h A.length r0 (by simp)
  have k1 := own_get h (A.length + 1) r1 (by simp)
  have k2 := own_get h (A.length + 2) r2 (by simp)
  have k3 := own_get h (A.length + 3) r3 (by simp)
  exact ⟨k0.1, k1.1, k2.1, k3.1, k0.2, k1.2, k2.2, k3.2⟩
theorem four {l : List Value} {n : Nat} (h : l.length = n * 4) (hn : 0 < n) : ∃ r0 r1 r2 r3 rest, l = r0 :: r1 :: r2 :: r3 :: rest ∧ rest.length = (n - 1) * 4 := by
  match l, h with
  | r0 :: r1 :: r2 :: r3 :: rest, h => exact ⟨r0, r1, r2, r3, rest, rfl, by simp at h; omega⟩
  | [], h => simp at h; omega
  | [_], h => simp at h; omega
  | [_, _], h => simp at h; omega
  | [_, _, _], h => simp at h; omega
theorem mark4 {w : World} {M : Nat} {e : TypeId} {u0 u1 u2 u3 : Value} (h : w.heap[M]? = some (.cells [u0, u1, u2, u3].toArray e (0, 0))) :
    w.cell? ⟨M, 0, none⟩ = some u0 ∧ w.cell? ⟨M, 1, none⟩ = some u1 ∧ w.cell? ⟨M, 2, none⟩ = some u2 ∧ w.cell? ⟨M, 3, none⟩ = some u3 :=
  ⟨(cell_of_heap h).trans rfl, (cell_of_heap h).trans rfl, (cell_of_heap h).trans rfl, (cell_of_heap h).trans rfl⟩
theorem fr_one {S : Nat → Prop} {w0 w : World} (h : Fr S w0 w) {g : Nat} (hg : S g) (p : Nat) (u0 u1 u2 u3 : Value) : Fr S w0 ((((w.setCell ⟨g, p, none⟩ u0).setCell ⟨g, p + 1, none⟩ u1).setCell ⟨g, p + 2, none⟩ u2).setCell ⟨g, p + 3, none⟩ u3) :=
  (((h.setCell ⟨g, p, none⟩ (Or.inl hg) _).setCell ⟨g, p + 1, none⟩ (Or.inl hg) _).setCell ⟨g, p + 2, none⟩ (Or.inl hg) _).setCell ⟨g, p + 3, none⟩ (Or.inl hg) _
end Go.Proofs.Ytmmmnghiegajmaa
/- Every list reads as its owner wrote it: the harness finds so. -/
namespace Go.Proofs.Ytmmmnghiegajmaa
open Go.RowKit Go.Proofs.Herald
/-- The memory is the same. -/
structure SameH (w w' : World) : Prop where
  heap : w'.heap = w.heap
  os : w'.os = w.os
  tape : w'.tape = w.tape
  output : w'.output = w.output
theorem SameH.refl (w : World) : SameH w w := ⟨rfl, rfl, rfl, rfl⟩
theorem SameH.drew {w w' : World} (h : SameH w w') : SameH w w'.drew := ⟨h.heap, h.os, h.tape, h.output⟩
theorem SameH.cell {w w' : World} (h : SameH w w') (p : Addr) : w'.cell? p = w.cell? p := World.cell?_of_block (by rw [h.heap])
theorem SameH.below {w w' : World} (h : SameH w w') (B : Nat) : Below B w w' := ⟨h.os, h.tape, h.output, by rw [h.heap]; exact Nat.le_refl _, fun k _ => by rw [h.heap]⟩
theorem booksCells_get {k : Nat} : ∀ (bs : List (Value × List Value)) (_ : ∀ b ∈ bs, b.2.length = k) (i : Nat) (hi : i < bs.length) (j : Nat) (_ : j < k + 1), (booksCells bs)[i * (k + 1) + j]? = (bookCells bs[i])[j]? := by
  intro bs
  induction bs with
  | nil => intro _ i hi; simp at hi
  | cons b r ih =>
    intro h i hi j hj
    have hl : (bookCells b).length = k + 1 := by simp [bookCells, h b (by simp)]
    simp only [booksCells, List.flatMap_cons]
    cases i with
    | zero =>
      rw [List.getElem?_append_left (by rw [hl]; omega)]
      simp
    | succ i =>
      rw [List.getElem?_append_right (by rw [hl, Nat.add_mul]; omega)]
      have h1 := ih (fun x hx => h x (by simp [hx])) i (by simpa using hi) j hj
      simp only [booksCells] at h1
      have e : (i + 1) * (k + 1) + j - (bookCells b).length = i * (k + 1) + j := by rw [hl, Nat.add_mul]; omega
      rw [e, h1]; simp
/-- What is known of one book, four integers wide. -/
theorem book4 {w : World} {X : Nat → Prop} {e bT : TypeId} {g cap : Nat} {bs : List (Value × List Value)} (ho : w.ownsRow 0 bT 5 (.slice (some ⟨g, 0, none⟩) bs.length cap) bs.length (booksCells bs)) (hb : ∀ b ∈ bs, BookOk w X e 4 b) (i : Nat) (hi : i < bs.length) :
    ∃ a n c i0 i1 i2 i3, n ≤ 100000000 ∧ w.cell? ⟨g, i * 5, none⟩ = some (.slice a n c) ∧ w.cell? ⟨g, i * 5 + 1, none⟩ = some (.int .i64 i0) ∧ w.cell? ⟨g, i * 5 + 2, none⟩ = some (.int .i64 i1) ∧ w.cell? ⟨g, i * 5 + 3, none⟩ = some (.int .i64 i2) ∧ w.cell? ⟨g, i * 5 + 4, none⟩ = some (.int .i64 i3) ∧
      (0 < n → ∃ l, a = some ⟨l, 0, none⟩ ∧ ∀ k, k < n → w.cell? ⟨l, k * 4, none⟩ = some (.int .i64 i0) ∧ w.cell? ⟨l, k * 4 + 1, none⟩ = some (.int .i64 i1) ∧ w.cell? ⟨l, k * 4 + 2, none⟩ = some (.int .i64 i2) ∧ w.cell? ⟨l, k * 4 + 3, none⟩ = some (.int .i64 i3)) ∧ n ≤ c := by
  have hlen : ∀ b ∈ bs, b.2.length = 4 := fun b hbm => by obtain ⟨⟨is, h1, h2⟩, _⟩ := hb b hbm; rw [h1, List.length_map, h2]
  obtain ⟨⟨is, h1, h2⟩, n, hn, hown, _⟩ := hb bs[i] (List.getElem_mem hi)
  obtain ⟨a, c, hv⟩ := ownsRow_slice hown
  match is, h2 with
  | [i0, i1, i2, i3], _ =>
    have hbc : bookCells bs[i] = [.slice a n c, .int .i64 i0, .int .i64 i1, .int .i64 i2, .int .i64 i3] := by simp [bookCells, hv, h1]
    have get : ∀ j u, j < 5 → (bookCells bs[i])[j]? = some u → w.cell? ⟨g, i * 5 + j, none⟩ = some u := fun j u hj hu => (own_get ho (i * 5 + j) u (by rw [booksCells_get bs hlen i hi j hj]; exact hu)).1
    refine ⟨a, n, c, i0, i1, i2, i3, hn, get 0 _ (by omega) (by rw [hbc]; rfl), get 1 _ (by omega) (by rw [hbc]; rfl), get 2 _ (by omega) (by rw [hbc]; rfl), get 3 _ (by omega) (by rw [hbc]; rfl), get 4 _ (by omega) (by rw [hbc]; rfl), fun hp => ?_, ?_⟩
    · obtain ⟨l, c', hv', _⟩ := hown.form hp
      have hv2 := hv.symm.trans hv'
      simp at hv2
      obtain ⟨rfl, rfl⟩ := hv2
      refine ⟨l, rfl, fun k hk => ?_⟩
      rw [hv, h1] at hown
      have gm : ∀ j u, j < 4 → ([Value.int .i64 i0, .int .i64 i1, .int .i64 i2, .int .i64 i3])[j]? = some u → w.cell? ⟨l, k * 4 + j, none⟩ = some u := fun j u hj hu => (own_get hown (k * 4 + j) u (by
        have := marks_get ([i0, i1, i2, i3].map (fun z => Value.int .i64 z)) n k j hk (by simpa using hj)
        simp only [List.length_map, List.length_cons, List.length_nil] at this
        rw [this]; exact hu)).1
      exact ⟨gm 0 _ (by omega) rfl, gm 1 _ (by omega) rfl, gm 2 _ (by omega) rfl, gm 3 _ (by omega) rfl⟩
    · rw [hv] at hown; exact (own_cap hown).1
/-- What is known of one book, five integers wide. -/
theorem book5 {w : World} {X : Nat → Prop} {e bT : TypeId} {g cap : Nat} {bs : List (Value × List Value)} (ho : w.ownsRow 0 bT 6 (.slice (some ⟨g, 0, none⟩) bs.length cap) bs.length (booksCells bs)) (hb : ∀ b ∈ bs, BookOk w X e 5 b) (i : Nat) (hi : i < bs.length) :
    ∃ a n c i0 i1 i2 i3 i4, n ≤ 100000000 ∧ w.cell? ⟨g, i * 6, none⟩ = some (.slice a n c) ∧ w.cell? ⟨g, i * 6 + 1, none⟩ = some (.int .i64 i0) ∧ w.cell? ⟨g, i * 6 + 2, none⟩ = some (.int .i64 i1) ∧ w.cell? ⟨g, i * 6 + 3, none⟩ = some (.int .i64 i2) ∧ w.cell? ⟨g, i * 6 + 4, none⟩ = some (.int .i64 i3) ∧ w.cell? ⟨g, i * 6 + 5, none⟩ = some (.int .i64 i4) ∧
      (0 < n → ∃ l, a = some ⟨l, 0, none⟩ ∧ ∀ k, k < n → w.cell? ⟨l, k * 5, none⟩ = some (.int .i64 i0) ∧ w.cell? ⟨l, k * 5 + 1, none⟩ = some (.int .i64 i1) ∧ w.cell? ⟨l, k * 5 + 2, none⟩ = some (.int .i64 i2) ∧ w.cell? ⟨l, k * 5 + 3, none⟩ = some (.int .i64 i3) ∧ w.cell? ⟨l, k * 5 + 4, none⟩ = some (.int .i64 i4)) ∧ n ≤ c := by
  have hlen : ∀ b ∈ bs, b.2.length = 5 := fun b hbm => by obtain ⟨⟨is, h1, h2⟩, _⟩ := hb b hbm; rw [h1, List.length_map, h2]
  obtain ⟨⟨is, h1, h2⟩, n, hn, hown, _⟩ := hb bs[i] (List.getElem_mem hi)
  obtain ⟨a, c, hv⟩ := ownsRow_slice hown
  match is, h2 with
  | [i0, i1, i2, i3, i4], _ =>
    have hbc : bookCells bs[i] = [.slice a n c, .int .i64 i0, .int .i64 i1, .int .i64 i2, .int .i64 i3, .int .i64 i4] := by simp [bookCells, hv, h1]
    have get : ∀ j u, j < 6 → (bookCells bs[i])[j]? = some u → w.cell? ⟨g, i * 6 + j, none⟩ = some u := fun j u hj hu => (own_get ho (i * 6 + j) u (by rw [booksCells_get bs hlen i hi j hj]; exact hu)).1
    refine ⟨a, n, c, i0, i1, i2, i3, i4, hn, get 0 _ (by omega) (by rw [hbc]; rfl), get 1 _ (by omega) (by rw [hbc]; rfl), get 2 _ (by omega) (by rw [hbc]; rfl), get 3 _ (by omega) (by rw [hbc]; rfl), get 4 _ (by omega) (by rw [hbc]; rfl), get 5 _ (by omega) (by rw [hbc]; rfl), fun hp => ?_, ?_⟩
    · obtain ⟨l, c', hv', _⟩ := hown.form hp
      have hv2 := hv.symm.trans hv'
      simp at hv2
      obtain ⟨rfl, rfl⟩ := hv2
      refine ⟨l, rfl, fun k hk => ?_⟩
      rw [hv, h1] at hown
      have gm : ∀ j u, j < 5 → ([Value.int .i64 i0, .int .i64 i1, .int .i64 i2, .int .i64 i3, .int .i64 i4])[j]? = some u → w.cell? ⟨l, k * 5 + j, none⟩ = some u := fun j u hj hu => (own_get hown (k * 5 + j) u (by
        have := marks_get ([i0, i1, i2, i3, i4].map (fun z => Value.int .i64 z)) n k j hk (by simpa using hj)
        simp only [List.length_map, List.length_cons, List.length_nil] at this
        rw [this]; exact hu)).1
      exact ⟨gm 0 _ (by omega) rfl, gm 1 _ (by omega) rfl, gm 2 _ (by omega) rfl, gm 3 _ (by omega) rfl, gm 4 _ (by omega) rfl⟩
    · rw [hv] at hown; exact (own_cap hown).1
set_option maxRecDepth 20000 in
set_option maxHeartbeats 8000000 in
theorem kept_any (X : Nat → Prop) (O : Nat) (n : Int) (cv rv qv : Value) (cb rb qb : List (Value × List Value)) (w : World) (h : OwnAt w X O n cv rv qv cb rb qb) (hcb : cb.length ≤ 100000000) (hrb : rb.length ≤ 100000000) (hqb : qb.length ≤ 100000000) :
    Calls Try.prog 20 #[.pointer (some ⟨O, 0, none⟩)] w fun e w' => e = .returned (.bool true) ∧ SameH w w' := by
  obtain ⟨ac, capc, rfl⟩ := ownsRow_slice h.cown
  obtain ⟨ar, capr, rfl⟩ := ownsRow_slice h.rown
  obtain ⟨aq, capq, rfl⟩ := ownsRow_slice h.qown
  have HC : Hid (w.cell? ⟨O, 1, none⟩ = some (.slice ac cb.length capc) ∧ w.cell? ⟨O, 2, none⟩ = some (.slice ar rb.length capr) ∧ w.cell? ⟨O, 3, none⟩ = some (.slice aq qb.length capq)) := ⟨(cell_of_heap h.blk).trans rfl, (cell_of_heap h.blk).trans rfl, (cell_of_heap h.blk).trans rfl⟩
  have HO : Hid (OwnAt w X O n _ _ _ cb rb qb) := h
  clear h
  have hcc := (own_cap HO.out.cown).1
  have hcr := (own_cap HO.out.rown).1
  have hcq := (own_cap HO.out.qown).1
  go_enter Try.func20, Try.ntmps20
  go_wp2_with fail
  go_loopw [3] (fun i wr => ∃ j : Nat, j ≤ cb.length ∧ i = .int .i64 j ∧ Hid (SameH w wr)) (fun i _ => cb.length - (intOf i).toNat)
  case atStart => exact ⟨0, Nat.zero_le _, rfl, SameH.refl _⟩
  case round =>
    obtain ⟨j0, hj0, rfl, HS0⟩ := hrel
    have o0 : wr.cell? ⟨O, 1, none⟩ = some (.slice ac cb.length capc) := (HS0.out.cell _).trans HC.out.1
    by_cases hlt0 : j0 < cb.length
    · obtain ⟨g, cap', hv, _, _⟩ := HO.out.cown.form (by omega)
      simp at hv
      obtain ⟨rfl, rfl⟩ := hv
      obtain ⟨a, n2, c, i0, i1, i2, i3, hn2, b0, b1, b2, b3, b4, hlist, hnc⟩ := book4 HO.out.cown HO.out.cbk j0 hlt0
      rw [← HS0.out.cell] at b0
      rw [← HS0.out.cell] at b1
      rw [← HS0.out.cell] at b2
      rw [← HS0.out.cell] at b3
      rw [← HS0.out.cell] at b4
      have HLI : Hid (_) := hlist
      clear hlist
      go_wp2_with fail
      go_loopw [4] (fun i wr2 => ∃ k : Nat, k ≤ n2 ∧ i = .int .i64 k ∧ Hid (SameH w wr2)) (fun i _ => n2 - (intOf i).toNat)
      case atStart => exact ⟨0, Nat.zero_le _, rfl, HS0⟩
      case round =>
        obtain ⟨k, hk, rfl, HT⟩ := hrel
        rw [HS0.out.cell, ← HT.out.cell] at o0 b0 b1 b2 b3 b4
        by_cases hk2 : k < n2
        · obtain ⟨l, rfl, hcl⟩ := HLI.out (by omega)
          obtain ⟨e0, e1, e2, e3⟩ := hcl k hk2
          rw [← HT.out.cell] at e0 e1 e2 e3
          clear hcl
          go_wp2_with fail
          go_region
          all_goals
            go_wp2_with fail
            go_roundw
            case rel => exact ⟨k + 1, by omega, by go_num, HT.out.drew⟩
            case measure => simp [intOf]; omega
        · go_wp2_with fail
          go_roundw
          case rel => exact ⟨j0 + 1, by omega, by go_num, HT⟩
          case measure => simp [intOf]; omega
    · go_wp2_with fail
      clear o0
      go_loopw [5] (fun i wr => ∃ j : Nat, j ≤ rb.length ∧ i = .int .i64 j ∧ Hid (SameH w wr)) (fun i _ => rb.length - (intOf i).toNat)
      case atStart => exact ⟨0, Nat.zero_le _, rfl, HS0⟩
      case round =>
        obtain ⟨j1, hj1, rfl, HS1⟩ := hrel
        have o1 : wr.cell? ⟨O, 2, none⟩ = some (.slice ar rb.length capr) := (HS1.out.cell _).trans HC.out.2.1
        by_cases hlt1 : j1 < rb.length
        · obtain ⟨g, cap', hv, _, _⟩ := HO.out.rown.form (by omega)
          simp at hv
          obtain ⟨rfl, rfl⟩ := hv
          obtain ⟨a, n2, c, i0, i1, i2, i3, i4, hn2, b0, b1, b2, b3, b4, b5, hlist, hnc⟩ := book5 HO.out.rown HO.out.rbk j1 hlt1
          rw [← HS1.out.cell] at b0
          rw [← HS1.out.cell] at b1
          rw [← HS1.out.cell] at b2
          rw [← HS1.out.cell] at b3
          rw [← HS1.out.cell] at b4
          rw [← HS1.out.cell] at b5
          have HLI : Hid (_) := hlist
          clear hlist
          go_wp2_with fail
          go_loopw [6] (fun i wr2 => ∃ k : Nat, k ≤ n2 ∧ i = .int .i64 k ∧ Hid (SameH w wr2)) (fun i _ => n2 - (intOf i).toNat)
          case atStart => exact ⟨0, Nat.zero_le _, rfl, HS1⟩
          case round =>
            obtain ⟨k, hk, rfl, HT⟩ := hrel
            rw [HS1.out.cell, ← HT.out.cell] at o1 b0 b1 b2 b3 b4 b5
            by_cases hk2 : k < n2
            · obtain ⟨l, rfl, hcl⟩ := HLI.out (by omega)
              obtain ⟨e0, e1, e2, e3, e4⟩ := hcl k hk2
              rw [← HT.out.cell] at e0 e1 e2 e3 e4
              clear hcl
              go_wp2_with fail
              go_region
              all_goals
                go_wp2_with fail
                go_roundw
                case rel => exact ⟨k + 1, by omega, by go_num, HT.out.drew⟩
                case measure => simp [intOf]; omega
            · go_wp2_with fail
              go_roundw
              case rel => exact ⟨j1 + 1, by omega, by go_num, HT⟩
              case measure => simp [intOf]; omega
        · go_wp2_with fail
          clear o1
          go_loopw [7] (fun i wr => ∃ j : Nat, j ≤ qb.length ∧ i = .int .i64 j ∧ Hid (SameH w wr)) (fun i _ => qb.length - (intOf i).toNat)
          case atStart => exact ⟨0, Nat.zero_le _, rfl, HS1⟩
          case round =>
            obtain ⟨j2, hj2, rfl, HS2⟩ := hrel
            have o2 : wr.cell? ⟨O, 3, none⟩ = some (.slice aq qb.length capq) := (HS2.out.cell _).trans HC.out.2.2
            by_cases hlt2 : j2 < qb.length
            · obtain ⟨g, cap', hv, _, _⟩ := HO.out.qown.form (by omega)
              simp at hv
              obtain ⟨rfl, rfl⟩ := hv
              obtain ⟨a, n2, c, i0, i1, i2, i3, hn2, b0, b1, b2, b3, b4, hlist, hnc⟩ := book4 HO.out.qown HO.out.qbk j2 hlt2
              rw [← HS2.out.cell] at b0
              rw [← HS2.out.cell] at b1
              rw [← HS2.out.cell] at b2
              rw [← HS2.out.cell] at b3
              rw [← HS2.out.cell] at b4
              have HLI : Hid (_) := hlist
              clear hlist
              go_wp2_with fail
              go_loopw [8] (fun i wr2 => ∃ k : Nat, k ≤ n2 ∧ i = .int .i64 k ∧ Hid (SameH w wr2)) (fun i _ => n2 - (intOf i).toNat)
              case atStart => exact ⟨0, Nat.zero_le _, rfl, HS2⟩
              case round =>
                obtain ⟨k, hk, rfl, HT⟩ := hrel
                rw [HS2.out.cell, ← HT.out.cell] at o2 b0 b1 b2 b3 b4
                by_cases hk2 : k < n2
                · obtain ⟨l, rfl, hcl⟩ := HLI.out (by omega)
                  obtain ⟨e0, e1, e2, e3⟩ := hcl k hk2
                  rw [← HT.out.cell] at e0 e1 e2 e3
                  clear hcl
                  go_wp2_with fail
                  go_region
                  all_goals
                    go_wp2_with fail
                    go_roundw
                    case rel => exact ⟨k + 1, by omega, by go_num, HT.out.drew⟩
                    case measure => simp [intOf]; omega
                · go_wp2_with fail
                  go_roundw
                  case rel => exact ⟨j2 + 1, by omega, by go_num, HT⟩
                  case measure => simp [intOf]; omega
            · go_wp2_with fail
              go_ret
              exact ⟨rfl, HS2.out⟩
end Go.Proofs.Ytmmmnghiegajmaa
/- The document's own herald in memory: one run, the queues; stop, queued. -/
namespace Go.Proofs.Ytmmmnghiegajmaa
open Go.RowKit Go.Proofs.Herald
def Msg.ins (m : Msg) : Ins := ⟨m.dev, m.run, m.num, m.key⟩
def msgsCells (q : List Msg) : List Value := codeCells (q.map Msg.ins)
def upd {α : Type} (f : Nat → α) (d : Nat) (v : α) (k : Nat) : α := if k = d then v else f k
theorem upd_same {α : Type} (f : Nat → α) (d : Nat) (v : α) : upd f d v d = v := if_pos rfl
theorem upd_other {α : Type} (f : Nat → α) {d k : Nat} (v : α) (h : k ≠ d) : upd f d v k = f k := if_neg h
theorem msgsCells_length (q : List Msg) : (msgsCells q).length = q.length * 4 := by unfold msgsCells; rw [codeCells_length, List.length_map]
/-- What is the same of a herald and one of its runs: is it of a text; the text's statements, the code; what the run is to do, answered or not. -/
structure Md where
  tx : Bool
  pg : Value
  code : Value
  yv : Value
  nv : Value
/-- Of code. -/
def cmd (v : Value) : Md := ⟨false, .slice none 0 0, v, .slice none 0 0, .slice none 0 0⟩
structure SimCore (w : World) (S Q P R : Nat) (cv : Md) (pv : Value) (rec : ByteArray) (now last : Int) (qv : Nat → Value) (qs : Nat → List Msg) (p : Pr) : Prop where
  sB : w.heap[S]? = some (.cells #[.bool cv.tx, cv.pg, cv.code, .int .i64 now, .int .i64 last, pv, .slice (some ⟨Q, 0, none⟩) 3 3, .string rec] 121 (0, 0))
  qB : w.heap[Q]? = some (.cells #[qv 0, qv 1, qv 2] 66 (0, 0))
  oB : ∀ d, d < 3 → w.ownsRow 0 83 4 (qv d) (qs d).length (msgsCells (qs d))
  dis : ∀ d e b, d < 3 → e < 3 → (qv d).ownBlock = some b → (qv e).ownBlock = some b → d = e
  pB : w.heap[P]? = some (.cells #[.int .i64 p.id, .int .i64 p.dev, .int .i64 p.sent, .int .i64 p.til, .int .i64 p.num, cv.yv, cv.nv, .slice (some ⟨R, 0, none⟩) 12 12, .int .i64 p.tow, .int .i64 p.els] 176 (0, 0))
  rB : w.heap[R]? = some (.cells (p.regs.map fun z => Value.int .i64 z).toArray 3 (0, 0))
  rl : p.regs.length = 12
/-- Nothing of it turned. -/
theorem SimCore.keep {w w' : World} {S Q P R : Nat} {cv : Md} {pv : Value} {rec : ByteArray} {now last : Int} {qv : Nat → Value} {qs : Nat → List Msg} {p : Pr} (h : SimCore w S Q P R cv pv rec now last qv qs p) (hk : ∀ k, k < w.heap.size → w'.heap[k]? = w.heap[k]?) :
    SimCore w' S Q P R cv pv rec now last qv qs p :=
  ⟨(hk S (heap_lt h.sB)).trans h.sB, (hk Q (heap_lt h.qB)).trans h.qB, fun d hd => own_keep (h.oB d hd) fun b hb => by obtain ⟨c, hc⟩ := own_block (h.oB d hd) hb; exact hk b (heap_lt hc), h.dis, (hk P (heap_lt h.pB)).trans h.pB, (hk R (heap_lt h.rB)).trans h.rB, h.rl⟩
theorem SimCore.below {w w' : World} {S Q P R : Nat} {cv : Md} {pv : Value} {rec : ByteArray} {now last : Int} {qv : Nat → Value} {qs : Nat → List Msg} {p : Pr} (h : SimCore w S Q P R cv pv rec now last qv qs p) (hb : Below w.heap.size w w') : SimCore w' S Q P R cv pv rec now last qv qs p :=
  h.keep fun k hk => hb.block k hk
/-- A cell of the run is written. -/
theorem SimCore.setP {w : World} {S Q P R : Nat} {cv : Md} {pv : Value} {rec : ByteArray} {now last : Int} {qv : Nat → Value} {qs : Nat → List Msg} {p p' : Pr} (h : SimCore w S Q P R cv pv rec now last qv qs p) (j : Nat) (u : Value) (hr : p'.regs = p.regs)
    (hc : (#[.int .i64 p.id, .int .i64 p.dev, .int .i64 p.sent, .int .i64 p.til, .int .i64 p.num, cv.yv, cv.nv, .slice (some ⟨R, 0, none⟩) 12 12, .int .i64 p.tow, .int .i64 p.els] : Array Value).setIfInBounds j u =
      #[.int .i64 p'.id, .int .i64 p'.dev, .int .i64 p'.sent, .int .i64 p'.til, .int .i64 p'.num, cv.yv, cv.nv, .slice (some ⟨R, 0, none⟩) 12 12, .int .i64 p'.tow, .int .i64 p'.els]) :
    SimCore (w.setCell ⟨P, j, none⟩ u) S Q P R cv pv rec now last qv qs p' := by
  refine ⟨?_, ?_, fun d hd => own_keep (h.oB d hd) fun b hb => ?_, h.dis, ?_, ?_, by rw [hr]; exact h.rl⟩
  · rw [Below.heap_setCell _ _ _ _ (ne_of_type h.sB h.pB (by decide))]; exact h.sB
  · rw [Below.heap_setCell _ _ _ _ (ne_of_type h.qB h.pB (by decide))]; exact h.qB
  · obtain ⟨c, hc⟩ := own_block (h.oB d hd) hb
    exact Below.heap_setCell _ _ _ _ (ne_of_type hc h.pB (by decide))
  · rw [heap_setCell_self _ h.pB, hc]
  · rw [Below.heap_setCell _ _ _ _ (ne_of_type h.rB h.pB (by decide)), hr]; exact h.rB
set_option maxHeartbeats 1000000 in
theorem s_stop (S Q P R : Nat) (cv : Md) (pv : Value) (rec : ByteArray) (now last : Int) (qv : Nat → Value) (qs : Nat → List Msg) (p : Pr) (n num : Int) (w : World) (h : SimCore w S Q P R cv pv rec now last qv qs p) (h1 : -1000000000000 ≤ now + n) (h2 : now + n ≤ 1000000000000) :
    Calls Try.prog 151 #[.pointer (some ⟨S, 0, none⟩), .pointer (some ⟨P, 0, none⟩), .int .i64 n, .int .i64 num] w fun e w' => e = .returned (.tuple #[]) ∧ SimCore w' S Q P R cv pv rec now last qv qs (stopP p now n num) ∧ Fr (fun k => k = P) w w' := by
  have c3 : w.cell? ⟨S, 3, none⟩ = some (.int .i64 now) := (cell_of_heap h.sB).trans rfl
  have p3 : w.cell? ⟨P, 3, none⟩ = some (.int .i64 p.til) := (cell_of_heap h.pB).trans rfl
  have p4 : w.cell? ⟨P, 4, none⟩ = some (.int .i64 p.num) := (cell_of_heap h.pB).trans rfl
  have z3 : w.frozen? ⟨P, 3, none⟩ = false := free_of_heap h.pB
  have z4 : w.frozen? ⟨P, 4, none⟩ = false := free_of_heap h.pB
  have HH : Hid (SimCore w S Q P R cv pv rec now last qv qs p) := h
  clear h
  go_enter Try.func151, Try.ntmps151
  go_wp2_with fail
  go_end0
  refine ⟨rfl, ?_, ((Fr.refl (fun k => k = P) _).setCell ⟨P, 3, none⟩ (Or.inl rfl) _).setCell ⟨P, 4, none⟩ (Or.inl rfl) _⟩
  exact (HH.out.setP (p' := { p with til := now + n }) 3 _ rfl rfl).setP (p' := stopP p now n num) 4 _ rfl rfl
theorem three {α : Type} (f : Nat → α) (d : Nat) (hd : d < 3) : #[f 0, f 1, f 2][d]? = some (f d) := by
  match d, hd with
  | 0, _ => rfl
  | 1, _ => rfl
  | 2, _ => rfl
theorem msg_get {w : World} {g cap k : Nat} {q : List Msg} (h : w.ownsRow 0 83 4 (.slice (some ⟨g, 0, none⟩) q.length cap) q.length (msgsCells q)) (hk : k < q.length) :
    w.cell? ⟨g, k * 4, none⟩ = some (.int .i64 q[k].dev) ∧ w.cell? ⟨g, k * 4 + 1, none⟩ = some (.int .i64 q[k].run) ∧ w.cell? ⟨g, k * 4 + 2, none⟩ = some (.int .i64 q[k].num) ∧ w.cell? ⟨g, k * 4 + 3, none⟩ = some (.int .i64 q[k].key) := by
  have hk2 : k < (q.map Msg.ins).length := by simpa using hk
  have get : ∀ j u, j < 4 → (insCells (Msg.ins q[k]))[j]? = some u → w.cell? ⟨g, k * 4 + j, none⟩ = some u := fun j u hj hu => (own_get h (k * 4 + j) u (by
    unfold msgsCells
    rw [codeCells_get (q.map Msg.ins) k hk2 j hj, List.getElem_map]
    exact hu)).1
  exact ⟨get 0 _ (by omega) rfl, get 1 _ (by omega) rfl, get 2 _ (by omega) rfl, get 3 _ (by omega) rfl⟩
set_option maxRecDepth 20000 in
set_option maxHeartbeats 4000000 in
theorem s_queued (S Q P R : Nat) (cv : Md) (pv : Value) (rec : ByteArray) (now last : Int) (qv : Nat → Value) (qs : Nat → List Msg) (p : Pr) (num : Int) (d : Nat) (w : World) (h : SimCore w S Q P R cv pv rec now last qv qs p) (hd : d < 3) (hdev : p.dev = (d : Nat)) (hl : (qs d).length ≤ 4) :
    Calls Try.prog 127 #[.pointer (some ⟨S, 0, none⟩), .pointer (some ⟨P, 0, none⟩), .int .i64 num] w fun e w' => e = .returned (.bool (hasQ (qs d) p.id num)) ∧ SameH w w' := by
  obtain ⟨a, cap, hv⟩ := ownsRow_slice (h.oB d hd)
  have c6 : w.cell? ⟨S, 6, none⟩ = some (.slice (some ⟨Q, 0, none⟩) 3 3) := (cell_of_heap h.sB).trans rfl
  have cq : w.cell? ⟨Q, d, none⟩ = some (.slice a (qs d).length cap) := by rw [cell_of_heap h.qB, three qv d hd, hv]
  have p0 : w.cell? ⟨P, 0, none⟩ = some (.int .i64 p.id) := (cell_of_heap h.pB).trans rfl
  have p1 : w.cell? ⟨P, 1, none⟩ = some (.int .i64 (d : Nat)) := by rw [← hdev]; exact (cell_of_heap h.pB).trans rfl
  have HO : Hid (w.ownsRow 0 83 4 (.slice a (qs d).length cap) (qs d).length (msgsCells (qs d))) := by rw [← hv]; exact h.oB d hd
  clear h hv hdev
  generalize qs d = q at *
  go_enter Try.func127, Try.ntmps127
  go_wp2_with fail
  go_loopw [8] (fun i wr => ∃ k : Nat, k ≤ q.length ∧ i = .int .i64 k ∧ Hid (SameH w wr) ∧ Hid ((q.take k).any (fun m => m.run == p.id && m.num == num) = false)) (fun i _ => q.length - (intOf i).toNat)
  case atStart => exact ⟨0, Nat.zero_le _, rfl, SameH.refl _, by show _ = _; simp⟩
  case round =>
    obtain ⟨k, hk, rfl, HS, HT⟩ := hrel
    rw [← HS.out.cell] at c6 cq p0 p1
    by_cases hlt : k < q.length
    · obtain ⟨g, cap', hv, _, _⟩ := HO.out.form (by omega)
      simp at hv
      obtain ⟨rfl, rfl⟩ := hv
      obtain ⟨e0, e1, e2, e3⟩ := msg_get HO.out hlt
      rw [← HS.out.cell] at e0 e1 e2 e3
      have HYES : Hid (q[k].run = p.id → q[k].num = num → hasQ q p.id num = true) := fun h1 h2 => by
        unfold hasQ
        rw [List.any_eq_true]
        exact ⟨q[k], List.getElem_mem hlt, by simp [h1, h2]⟩
      have HNO : Hid (¬ (q[k].run = p.id ∧ q[k].num = num) → (q.take (k + 1)).any (fun m => m.run == p.id && m.num == num) = false) := fun h1 => by
        rw [List.take_succ_eq_append_getElem hlt, List.any_append, HT.out]
        simp
        exact fun h2 h3 => h1 ⟨h2, h3⟩
      generalize q[k] = m at *
      by_cases hr : m.run = p.id
      · have b1 : (m.run == p.id) = true := by simpa using hr
        by_cases hn : m.num = num
        · have b2 : (m.num == num) = true := by simpa using hn
          have HY : Hid (_ = _) := HYES.out hr hn
          clear hr hn HYES HNO
          go_wp2_with fail
          go_region
          all_goals
            go_wp2_with fail
            go_ret
            exact ⟨ret_bool HY.out.symm, HS.out.drew⟩
        · have b2 : (m.num == num) = false := by simpa using hn
          have HN : Hid (_ = _) := HNO.out (fun h => hn h.2)
          clear hr hn HYES HNO
          go_wp2_with fail
          go_region
          all_goals
            go_wp2_with fail
            go_roundw
            case rel => exact ⟨k + 1, by omega, by go_num, HS.out.drew, HN⟩
            case measure => simp [intOf]; omega
      · have b1 : (m.run == p.id) = false := by simpa using hr
        have HN : Hid (_ = _) := HNO.out (fun h => hr h.1)
        clear hr HYES HNO
        go_wp2_with fail
        go_region
        all_goals
          go_wp2_with fail
          go_roundw
          case rel => exact ⟨k + 1, by omega, by go_num, HS.out.drew, HN⟩
          case measure => simp [intOf]; omega
    · have HE : Hid (q.take k = q) := List.take_of_length_le (by omega)
      go_wp2_with fail
      go_ret
      exact ⟨ret_bool (by unfold hasQ; have h := HT.out; rw [HE.out] at h; exact h.symm), HS.out⟩
end Go.Proofs.Ytmmmnghiegajmaa
/- Runs of a text as plain mathematics: what is left to do, and how a run does it. -/
namespace Go.Proofs.Herald
def pubP (p : Pr) : Rn := ⟨p.id, p.dev, p.sent, p.til, p.num⟩
def freshP (id dev : Int) : Pr := ⟨id, dev, 0, 0, 0, List.replicate 12 0, 0, 0⟩
/-- Runs of code. -/
def codeE (cs : List Ins) : Eng Pr := ⟨pubP, freshP, fun now q p => runP now cs 10000 0 q p, fun now yes q p => onP now cs yes q p⟩
end Go.Proofs.Herald
