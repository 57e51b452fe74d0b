/- Books of lists: what the harness keeps of each list that came out. -/
import Derived.Test.YtiaibigmbflpiaaNewF
import Derived.Test.YtiaibigmbflpiaaKitD
namespace Go.Proofs.Ytiaibigmbflpiaa
open Go.RowKit Go.Proofs.Herald

def bookCells (b : Value × List Value) : List Value := b.1 :: b.2
def booksCells (bs : List (Value × List Value)) : List Value := bs.flatMap bookCells

theorem booksCells_snoc (bs : List (Value × List Value)) (b : Value × List Value) : booksCells (bs ++ [b]) = booksCells bs ++ bookCells b := by simp [booksCells]

/-- x is laid in l's own row, or apart from it. -/
def KinTo (l x : Value) : Prop :=
  (∃ g cap n n', l = .slice (some ⟨g, 0, none⟩) n cap ∧ x = .slice (some ⟨g, 0, none⟩) n' cap) ∨ (∀ b, x.ownBlock = some b → l.ownBlock ≠ some b)

/-- A list is being booked: O: the owner's record, M: the mark, l: the list, kin: what has been put together of it. -/
structure BkAt (w0 w : World) (O M : Nat) (oc : Value → Array Value) (eT bT : TypeId) (k : Nat) (rv0 rv : Value) (bs : List (Value × List Value)) (l : Value) (nl : Nat) (mk : List Value) (kin : List (Value × Nat)) : Prop where
  o : w.heap[O]? = some (.cells (oc rv) 41 (0, 0))
  m : w.heap[M]? = some (.cells mk.toArray eT (0, 0))
  rown : w.ownsRow 0 bT (k + 1) rv bs.length (booksCells bs)
  rat : ∀ b, rv.ownBlock = some b → rv0.ownBlock = some b ∨ w0.heap.size ≤ b
  lown : w.ownsRow 0 eT k l nl (marks mk nl)
  kins : ∀ x ∈ kin, w.ownsRow 0 eT k x.1 x.2 (marks mk x.2) ∧ KinTo l x.1 ∧ (∀ b, x.1.ownBlock = some b → l.ownBlock = some b ∨ w0.heap.size ≤ b)
  fr : Fr (fun j => j = O ∨ rv0.ownBlock = some j ∨ l.ownBlock = some j) w0 w
  mnew : w0.heap.size ≤ M
  old : O < w0.heap.size ∧ ∀ b, l.ownBlock = some b → b < w0.heap.size

theorem Fr.wide {S : Nat → Prop} {w0 w w' : World} (h : Fr S w0 w) (k : Fr (fun j => S j ∨ w0.heap.size ≤ j) w w') : Fr S w0 w' :=
  ((h.mono (T := fun j => S j ∨ w0.heap.size ≤ j) fun _ _ hs => Or.inl hs).trans k).mono fun j hj hs => hs.elim id (fun h => by omega)

theorem BkAt.push {w0 w W w1 : World} {O M : Nat} {oc : Value → Array Value} {eT bT : TypeId} {k : Nat} {rv0 rv : Value} {bs : List (Value × List Value)} {l : Value} {nl : Nat} {mk : List Value} {kin : List (Value × Nat)} (h : BkAt w0 w O M oc eT bT k rv0 rv bs l nl mk kin)
    (hbo : bT ≠ 41) (hbe : bT ≠ eT) (heo : eT ≠ 41) (h0 : OneMore w W) {x : Value} {g cap idx : Nat}
    (hown1 : w1.ownsRow 0 bT (k + 1) (.slice (some ⟨g, 0, none⟩) (bs.length + 1) cap) (bs.length + 1) (booksCells bs ++ (x :: mk))) (hgrow : W.grownBy w1 rv.ownBlock) (hat : rv.ownBlock = some g ∨ g = W.heap.size)
    (hoc : (oc rv).setIfInBounds idx (.slice (some ⟨g, 0, none⟩) (bs.length + 1) cap) = oc (.slice (some ⟨g, 0, none⟩) (bs.length + 1) cap)) :
    BkAt w0 (w1.setCell ⟨O, idx, none⟩ (.slice (some ⟨g, 0, none⟩) (bs.length + 1) cap)) O M oc eT bT k rv0 (.slice (some ⟨g, 0, none⟩) (bs.length + 1) cap) (bs ++ [(x, mk)]) l nl mk kin := by
  have hsz := h0.size
  have hOl := heap_lt h.o
  have hw0 := h.fr.size
  have hvO : rv.ownBlock ≠ some O := fun e => by obtain ⟨cur, hc⟩ := own_block h.rown e; exact ne_of_type hc h.o hbo rfl
  have hO1 : w1.heap[O]? = w.heap[O]? := grown_same h0 hgrow hOl hvO
  have hMO : M ≠ O := ne_of_type h.m h.o heo
  have hgO : g ≠ O := by obtain ⟨cur, hc⟩ := own_block hown1 (k := g) rfl; exact ne_of_type hc (hO1.trans h.o) hbo
  have keep : ∀ {v : Value} {n : Nat} {xs : List Value}, w.ownsRow 0 eT k v n xs → (w1.setCell ⟨O, idx, none⟩ (.slice (some ⟨g, 0, none⟩) (bs.length + 1) cap)).ownsRow 0 eT k v n xs := fun {v n xs} hv => own_keep hv fun b hb => by
    obtain ⟨cur, hc⟩ := own_block hv hb
    rw [Below.heap_setCell _ _ _ _ (ne_of_type hc h.o heo)]
    exact grown_same h0 hgrow (heap_lt hc) (fun e => by obtain ⟨cur', hc'⟩ := own_block h.rown e; exact ne_of_type hc' hc hbe rfl)
  refine ⟨?_, ?_, ?_, ?_, keep h.lown, fun y hy => ⟨keep (h.kins y hy).1, (h.kins y hy).2⟩, ?_, h.mnew, h.old⟩
  · rw [heap_setCell_self _ (hO1.trans h.o), hoc]
  · rw [Below.heap_setCell _ _ _ _ hMO]
    exact grown_block h0 hgrow h.m (fun e => by obtain ⟨cur, hc⟩ := own_block h.rown e; exact ne_of_type hc h.m hbe rfl)
  · rw [booksCells_snoc, List.length_append]
    exact own_keep hown1 fun b hb => by
      simp [Value.ownBlock] at hb
      subst hb
      exact Below.heap_setCell _ _ _ _ hgO
  · intro b hb
    simp [Value.ownBlock] at hb
    subst hb
    rcases hat with h1 | h1
    · exact h.rat _ h1
    · right; omega
  · refine Fr.wide h.fr ?_
    have f1 : Fr (fun j => (j = O ∨ rv0.ownBlock = some j ∨ l.ownBlock = some j) ∨ w0.heap.size ≤ j) w w1 := Fr.of_push h0 hgrow fun j hj => by
      rcases h.rat j hj with h1 | h1
      · exact Or.inl (Or.inr (Or.inl h1))
      · exact Or.inr h1
    exact f1.setCell ⟨O, idx, none⟩ (Or.inl (Or.inl (Or.inl rfl))) _

theorem BkAt.app {w0 w w' : World} {O M : Nat} {oc : Value → Array Value} {eT bT : TypeId} {k : Nat} {rv0 rv : Value} {bs : List (Value × List Value)} {l : Value} {nl : Nat} {mk : List Value} {kin : List (Value × Nat)} (h : BkAt w0 w O M oc eT bT k rv0 rv bs l nl mk kin)
    (hbe : bT ≠ eT) (heo : eT ≠ 41) (hk : mk.length = k) {W : World} (h0 : OneMore w W) {v' : Value} {j : Nat} (hown' : w'.ownsRow 0 eT k v' (nl + j) (marks mk nl ++ marks mk j)) (ha : Appended W w' l nl j v') (hkin : ∀ x ∈ kin, x.2 ≤ nl + j) :
    BkAt w0 w' O M oc eT bT k rv0 rv bs l nl mk (kin ++ [(v', nl + j)]) := by
  rw [← marks_add] at hown'
  have hsz := h0.size
  have hw0 := h.fr.size
  rcases ha with ⟨g, cap, hl, hv, hgrow⟩ | ⟨hnew, hgrow⟩
  · have hlb : l.ownBlock = some g := by rw [hl]; rfl
    have hgl := h.old.2 g hlb
    obtain ⟨curl, hcl⟩ := own_block h.lown hlb
    have same : ∀ {b : Nat} {ob : Obj}, w.heap[b]? = some ob → b ≠ g → w'.heap[b]? = some ob := fun {b ob} hb hne => by
      rw [hgrow.block b (by have := heap_lt hb; omega) (by simpa using hne), h0.block b (heap_lt hb)]; exact hb
    have hown2 := hown'
    rw [hv] at hown2
    refine ⟨same h.o (fun e => ne_of_type hcl h.o heo e.symm), same h.m (fun e => by have := h.mnew; omega), ?_, h.rat, ?_, ?_, ?_, h.mnew, h.old⟩
    · exact own_keep h.rown fun b hb => by
        obtain ⟨cur, hc⟩ := own_block h.rown hb
        rw [same hc (ne_of_type hc hcl hbe), hc]
    · have h1 := own_prefix hown2 (n := nl) (by omega)
      rw [← hk, marks_take mk (by omega), hk, ← hl] at h1
      exact h1
    · intro x hx
      rw [List.mem_append, List.mem_singleton] at hx
      rcases hx with hx | rfl
      · obtain ⟨k1, k2, k3⟩ := h.kins x hx
        refine ⟨?_, k2, k3⟩
        rcases k2 with ⟨g2, cap2, n2, n3, e1, e2⟩ | k2
        · rw [hl] at e1
          simp at e1
          obtain ⟨rfl, _, rfl⟩ := e1
          have hn3 : n3 = x.2 := by
            have h5 := k1
            rw [e2] at h5
            exact (own_cap h5).2.1
          rw [e2, hn3]
          have h1 := own_prefix hown2 (n := x.2) (hkin x hx)
          rw [← hk, marks_take mk (hkin x hx), hk] at h1
          exact h1
        · exact own_keep k1 fun b hb => by
            obtain ⟨cur, hc⟩ := own_block k1 hb
            rw [same hc (fun e => by subst e; exact k2 _ hb hlb), hc]
      · refine ⟨hown', Or.inl ⟨g, cap, nl, nl + j, hl, hv⟩, fun b hb => Or.inl ?_⟩
        rw [hlb]
        rw [hv] at hb
        exact hb
    · refine Fr.wide h.fr ⟨hgrow.os.trans h0.os, hgrow.tape.trans h0.tape, hgrow.output.trans h0.output, by have := hgrow.size; omega, fun b hb hs => ?_⟩
      rw [hgrow.block b (by omega) (fun e => hs (Or.inl (Or.inr (Or.inr (by rw [hlb]; simpa using e.symm))))), h0.block b hb]
  · have same : ∀ {b : Nat} {ob : Obj}, w.heap[b]? = some ob → w'.heap[b]? = some ob := fun {b ob} hb => by
      rw [hgrow.block b (by have := heap_lt hb; omega) (by simp), h0.block b (heap_lt hb)]; exact hb
    have keep : ∀ {e : TypeId} {s : Nat} {v : Value} {n : Nat} {xs : List Value}, w.ownsRow 0 e s v n xs → w'.ownsRow 0 e s v n xs := fun {e s v n xs} hv => own_keep hv fun b hb => by
      obtain ⟨cur, hc⟩ := own_block hv hb
      rw [same hc, hc]
    refine ⟨same h.o, same h.m, keep h.rown, h.rat, keep h.lown, ?_, ?_, h.mnew, h.old⟩
    · intro x hx
      rw [List.mem_append, List.mem_singleton] at hx
      rcases hx with hx | rfl
      · exact ⟨keep (h.kins x hx).1, (h.kins x hx).2⟩
      · refine ⟨hown', Or.inr fun b hb e => ?_, fun b hb => Or.inr ?_⟩
        · have h1 := hnew b hb
          have h2 := h.old.2 b e
          omega
        · have h1 := hnew b hb
          omega
    · refine Fr.wide h.fr ⟨hgrow.os.trans h0.os, hgrow.tape.trans h0.tape, hgrow.output.trans h0.output, by have := hgrow.size; omega, fun b hb _ => ?_⟩
      rw [hgrow.block b (by omega) (by simp), h0.block b hb]

end Go.Proofs.Ytiaibigmbflpiaa
