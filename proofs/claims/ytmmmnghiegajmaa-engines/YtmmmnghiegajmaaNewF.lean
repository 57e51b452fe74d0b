/- The harness begins with code: a herald just where the code is sound. Books of lists: what the harness keeps of each list that came out. The owner's record of lists; messages. -/
import Derived.Test.YtmmmnghiegajmaaNewD
import Derived.Test.YtmmmnghiegajmaaNewC
import Derived.Test.YtmmmnghiegajmaaKit
import Derived.Deep.DeepCutAuto
namespace Go.Proofs.Ytmmmnghiegajmaa
open Go.RowKit Go.Proofs.Herald

theorem CodeIn.fr {w w' : World} {a : Option Addr} {b off S : Nat} {cs : List Ins} (h : CodeIn w a b off cs) (hb : Fr (fun k => k = S) w w') (hS : 0 < cs.length → b ≠ S) : CodeIn w' a b off cs := fun hp =>
  ⟨(h hp).1, Nat.lt_of_lt_of_le (h hp).2.1 hb.size, (h hp).2.2.keep (hb.block _ (h hp).2.1 (hS hp))⟩

set_option maxHeartbeats 2000000 in
theorem begun_no (a : Option Addr) (b off cap : Nat) (cs : List Ins) (w : World) (hc : CodeIn w a b off cs) (hm : cs.length ≤ 4398046511000) (hs : soundL cs = false) :
    Calls Try.prog 15 #[.slice a cs.length cap] w fun e w' => e = .returned (.tuple #[.pointer none, .bool true]) ∧ Below w.heap.size w w' := by
  have HC : Hid (CodeIn w a b off cs) := hc
  have HS : Hid (soundL cs = false) := hs
  clear hc hs
  go_enter Try.func15, Try.ntmps15
  go_wp2_with fail
  refine (handed_any a b off cap cs _ HC.out hm).mono ?_
  rintro e w1 ⟨S, hS, rfl, hg1, hb1⟩
  have H1 : Hid (w1.heap[S]? = some (.cells (codeCells (cs ++ [foreignI, foreignI])).toArray 128 (0, 0)) ∧ Below w.heap.size w w1 ∧ CodeIn w1 (some ⟨S, 0, none⟩) S 0 cs ∧ CodeIn w1 a b off cs) :=
    ⟨hg1, hb1, fun _ => ⟨rfl, heap_lt hg1, codeAt_of_heap (rest := codeCells [foreignI, foreignI]) (by rw [← codeCells_append]; exact hg1)⟩, HC.out.keep hb1⟩
  clear hg1 hb1
  go_wp2_with fail
  refine (c_New_no S 0 _ cs _ H1.out.2.2.1 HS.out).mono ?_
  rintro e w2 ⟨rfl, hb2⟩
  have H2 : Hid (w2.heap[S]? = some (.cells (codeCells (cs ++ [foreignI, foreignI])).toArray 128 (0, 0)) ∧ Below w.heap.size w w2 ∧ CodeIn w2 a b off cs) :=
    ⟨(hb2.block S (heap_lt H1.out.1)).trans H1.out.1, H1.out.2.1.trans (hb2.mono H1.out.2.1.size), H1.out.2.2.2.keep hb2⟩
  clear hb2 H1
  go_wp2_with fail
  refine (still_any a S b off cap cs _ hm H2.out.1 H2.out.2.2).mono ?_
  rintro e w3 ⟨rfl, hb3⟩
  have H3 : Hid (w3.heap[S]? = some (.cells (codeCells (cs ++ [foreignI, foreignI])).toArray 128 (0, 0)) ∧ Below w.heap.size w w3 ∧ CodeIn w3 a b off cs) :=
    ⟨(hb3.block S (heap_lt H2.out.1)).trans H2.out.1, H2.out.2.1.trans (hb3.mono H2.out.2.1.size), H2.out.2.2.keep hb3⟩
  clear hb3 H2
  go_wp2_with fail
  refine (spoil_any S cs.length _ (cs ++ [foreignI, foreignI]) _ (by simp) hm H3.out.1).mono ?_
  rintro e w4 ⟨rfl, hf4⟩
  have H4 : Hid (Below w.heap.size w w4 ∧ CodeIn w4 a b off cs) :=
    ⟨H3.out.2.1.trans ((hf4.mono (fun k _ hk => by show w.heap.size ≤ k; omega)).below H3.out.2.1.size), H3.out.2.2.fr hf4 (fun hp => by have := (HC.out hp).2.1; omega)⟩
  clear hf4 H3
  go_wp2_with fail
  refine (Sound_any a b off cap cs _ H4.out.2).mono ?_
  rw [HS.out]
  rintro e w5 ⟨rfl, hb5⟩
  have H5 : Hid (Below w.heap.size w w5) := H4.out.1.trans (hb5.mono H4.out.1.size)
  clear hb5 H4
  go_wp2_with fail
  go_ret2
  exact ⟨rfl, H5.out⟩

set_option maxHeartbeats 2000000 in
theorem begun_yes (a : Option Addr) (b off cap : Nat) (cs : List Ins) (w : World) (hc : CodeIn w a b off cs) (hs : soundL cs = true) :
    Calls Try.prog 15 #[.slice a cs.length cap] w fun e w' => ∃ H v, e = .returned (.tuple #[.pointer (some ⟨H, 0, none⟩), .bool true]) ∧ w.heap.size ≤ H ∧ w'.heap[H]? = some (.cells (newHd v) 150 (0, 0)) ∧ w'.ownsRow w.heap.size 128 4 v cs.length (codeCells cs) ∧ Below w.heap.size w w' := by
  have hm : cs.length ≤ 4398046511000 := by
    rcases Nat.lt_or_ge 1000 cs.length with h | h
    · rw [soundL_long h] at hs; cases hs
    · omega
  have HC : Hid (CodeIn w a b off cs) := hc
  have HS : Hid (soundL cs = true) := hs
  clear hc hs
  go_enter Try.func15, Try.ntmps15
  go_wp2_with fail
  refine (handed_any a b off cap cs _ HC.out hm).mono ?_
  rintro e w1 ⟨S, hS, rfl, hg1, hb1⟩
  have H1 : Hid (w1.heap[S]? = some (.cells (codeCells (cs ++ [foreignI, foreignI])).toArray 128 (0, 0)) ∧ Below w.heap.size w w1 ∧ CodeIn w1 (some ⟨S, 0, none⟩) S 0 cs ∧ CodeIn w1 a b off cs) :=
    ⟨hg1, hb1, fun _ => ⟨rfl, heap_lt hg1, codeAt_of_heap (rest := codeCells [foreignI, foreignI]) (by rw [← codeCells_append]; exact hg1)⟩, HC.out.keep hb1⟩
  clear hg1 hb1
  go_wp2_with fail
  refine (c_New_yes S 0 _ cs _ H1.out.2.2.1 HS.out).mono ?_
  rintro e w2 ⟨H, v, rfl, hH, hgH, ho2, hb2⟩
  have H2 : Hid (w2.heap[S]? = some (.cells (codeCells (cs ++ [foreignI, foreignI])).toArray 128 (0, 0)) ∧ Below w.heap.size w w2 ∧ CodeIn w2 a b off cs) :=
    ⟨(hb2.block S (heap_lt H1.out.1)).trans H1.out.1, H1.out.2.1.trans (hb2.mono H1.out.2.1.size), H1.out.2.2.2.keep hb2⟩
  have HH2 : Hid (w2.heap[H]? = some (.cells (newHd v) 150 (0, 0)) ∧ w2.ownsRow w1.heap.size 128 4 v cs.length (codeCells cs) ∧ w1.heap.size ≤ H ∧ S < w1.heap.size ∧ w.heap.size ≤ w1.heap.size) := ⟨hgH, ho2, hH, heap_lt H1.out.1, H1.out.2.1.size⟩
  clear hb2 H1 hgH ho2 hH
  go_wp2_with fail
  refine (still_any a S b off cap cs _ hm H2.out.1 H2.out.2.2).mono ?_
  rintro e w3 ⟨rfl, hb3⟩
  have H3 : Hid (w3.heap[S]? = some (.cells (codeCells (cs ++ [foreignI, foreignI])).toArray 128 (0, 0)) ∧ Below w.heap.size w w3 ∧ CodeIn w3 a b off cs) :=
    ⟨(hb3.block S (heap_lt H2.out.1)).trans H2.out.1, H2.out.2.1.trans (hb3.mono H2.out.2.1.size), H2.out.2.2.keep hb3⟩
  have HH3 : Hid (w3.heap[H]? = some (.cells (newHd v) 150 (0, 0)) ∧ w3.ownsRow w1.heap.size 128 4 v cs.length (codeCells cs)) :=
    ⟨(hb3.block H (heap_lt HH2.out.1)).trans HH2.out.1, own_stays HH2.out.2.1 (fun k hk => by obtain ⟨_, c, hc⟩ := ownsRow_lies HH2.out.2.1 hk; exact hb3.block k (heap_lt hc))⟩
  clear hb3 H2
  go_wp2_with fail
  refine (spoil_any S cs.length _ (cs ++ [foreignI, foreignI]) _ (by simp) hm H3.out.1).mono ?_
  rintro e w4 ⟨rfl, hf4⟩
  have H4 : Hid (Below w.heap.size w w4 ∧ CodeIn w4 a b off cs) :=
    ⟨H3.out.2.1.trans ((hf4.mono (fun k _ hk => by show w.heap.size ≤ k; omega)).below H3.out.2.1.size), H3.out.2.2.fr hf4 (fun hp => by have := (HC.out hp).2.1; omega)⟩
  have HH4 : Hid (w4.heap[H]? = some (.cells (newHd v) 150 (0, 0)) ∧ w4.ownsRow w1.heap.size 128 4 v cs.length (codeCells cs)) :=
    ⟨(hf4.block H (heap_lt HH3.out.1) (by have := HH2.out.2.2; omega)).trans HH3.out.1, own_stays HH3.out.2 (fun k hk => by obtain ⟨hle, c, hc⟩ := ownsRow_lies HH3.out.2 hk; exact hf4.block k (heap_lt hc) (by have := HH2.out.2.2; omega))⟩
  clear hf4 H3 HH3
  go_wp2_with fail
  refine (Sound_any a b off cap cs _ H4.out.2).mono ?_
  rw [HS.out]
  rintro e w5 ⟨rfl, hb5⟩
  have H5 : Hid (Below w.heap.size w w5) := H4.out.1.trans (hb5.mono H4.out.1.size)
  have HH5 : Hid (w5.heap[H]? = some (.cells (newHd v) 150 (0, 0)) ∧ w5.ownsRow w.heap.size 128 4 v cs.length (codeCells cs)) := by
    refine ⟨(hb5.block H (heap_lt HH4.out.1)).trans HH4.out.1, ?_⟩
    have h5 := own_stays (w' := w5) HH4.out.2 (fun k hk => by obtain ⟨hle, c, hc⟩ := ownsRow_lies HH4.out.2 hk; exact hb5.block k (heap_lt hc))
    refine ⟨h5.1, ?_⟩
    rcases h5.2 with h | ⟨g, cap, cur, hv, hb, r⟩
    · exact .inl h
    · exact .inr ⟨g, cap, cur, hv, Nat.le_trans HH2.out.2.2.2.2 hb, r⟩
  clear hb5 H4 HH4
  go_wp2_with fail
  go_ret2
  exact ⟨H, v, rfl, Nat.le_trans HH2.out.2.2.2.2 HH2.out.2.2.1, HH5.out.1, HH5.out.2, H5.out⟩

end Go.Proofs.Ytmmmnghiegajmaa

namespace Go.Proofs.Ytmmmnghiegajmaa
open Go.RowKit Go.Proofs.Herald

def bookCells (b : Value × List Value) : List Value := b.1 :: b.2
def booksCells (bs : List (Value × List Value)) : List Value := bs.flatMap bookCells

theorem booksCells_snoc (bs : List (Value × List Value)) (b : Value × List Value) : booksCells (bs ++ [b]) = booksCells bs ++ bookCells b := by simp [booksCells]

/-- x is laid in l's own row, or apart from it. -/
def KinTo (l x : Value) : Prop :=
  (∃ g cap n n', l = .slice (some ⟨g, 0, none⟩) n cap ∧ x = .slice (some ⟨g, 0, none⟩) n' cap) ∨ (∀ b, x.ownBlock = some b → l.ownBlock ≠ some b)

/-- A list is being booked: O: the owner's record, M: the mark, l: the list, kin: what has been put together of it. -/
structure BkAt (w0 w : World) (O M : Nat) (oc : Value → Array Value) (eT bT : TypeId) (k : Nat) (rv0 rv : Value) (bs : List (Value × List Value)) (l : Value) (nl : Nat) (mk : List Value) (kin : List (Value × Nat)) : Prop where
  o : w.heap[O]? = some (.cells (oc rv) 41 (0, 0))
  m : w.heap[M]? = some (.cells mk.toArray eT (0, 0))
  rown : w.ownsRow 0 bT (k + 1) rv bs.length (booksCells bs)
  rat : ∀ b, rv.ownBlock = some b → rv0.ownBlock = some b ∨ w0.heap.size ≤ b
  lown : w.ownsRow 0 eT k l nl (marks mk nl)
  kins : ∀ x ∈ kin, w.ownsRow 0 eT k x.1 x.2 (marks mk x.2) ∧ KinTo l x.1 ∧ (∀ b, x.1.ownBlock = some b → l.ownBlock = some b ∨ w0.heap.size ≤ b)
  fr : Fr (fun j => j = O ∨ rv0.ownBlock = some j ∨ l.ownBlock = some j) w0 w
  mnew : w0.heap.size ≤ M
  old : O < w0.heap.size ∧ ∀ b, l.ownBlock = some b → b < w0.heap.size

theorem Fr.wide {S : Nat → Prop} {w0 w w' : World} (h : Fr S w0 w) (k : Fr (fun j => S j ∨ w0.heap.size ≤ j) w w') : Fr S w0 w' :=
  ((h.mono (T := fun j => S j ∨ w0.heap.size ≤ j) fun _ _ hs => Or.inl hs).trans k).mono fun j hj hs => hs.elim id (fun h => by omega)

theorem BkAt.push {w0 w W w1 : World} {O M : Nat} {oc : Value → Array Value} {eT bT : TypeId} {k : Nat} {rv0 rv : Value} {bs : List (Value × List Value)} {l : Value} {nl : Nat} {mk : List Value} {kin : List (Value × Nat)} (h : BkAt w0 w O M oc eT bT k rv0 rv bs l nl mk kin)
    (hbo : bT ≠ 41) (hbe : bT ≠ eT) (heo : eT ≠ 41) (h0 : OneMore w W) {x : Value} {g cap idx : Nat}
    (hown1 : w1.ownsRow 0 bT (k + 1) (.slice (some ⟨g, 0, none⟩) (bs.length + 1) cap) (bs.length + 1) (booksCells bs ++ (x :: mk))) (hgrow : W.grownBy w1 rv.ownBlock) (hat : rv.ownBlock = some g ∨ g = W.heap.size)
    (hoc : (oc rv).setIfInBounds idx (.slice (some ⟨g, 0, none⟩) (bs.length + 1) cap) = oc (.slice (some ⟨g, 0, none⟩) (bs.length + 1) cap)) :
    BkAt w0 (w1.setCell ⟨O, idx, none⟩ (.slice (some ⟨g, 0, none⟩) (bs.length + 1) cap)) O M oc eT bT k rv0 (.slice (some ⟨g, 0, none⟩) (bs.length + 1) cap) (bs ++ [(x, mk)]) l nl mk kin := by
  have hsz := h0.size
  have hOl := heap_lt h.o
  have hw0 := h.fr.size
  have hvO : rv.ownBlock ≠ some O := fun e => by obtain ⟨cur, hc⟩ := own_block h.rown e; exact ne_of_type hc h.o hbo rfl
  have hO1 : w1.heap[O]? = w.heap[O]? := grown_same h0 hgrow hOl hvO
  have hMO : M ≠ O := ne_of_type h.m h.o heo
  have hgO : g ≠ O := by obtain ⟨cur, hc⟩ := own_block hown1 (k := g) rfl; exact ne_of_type hc (hO1.trans h.o) hbo
  have keep : ∀ {v : Value} {n : Nat} {xs : List Value}, w.ownsRow 0 eT k v n xs → (w1.setCell ⟨O, idx, none⟩ (.slice (some ⟨g, 0, none⟩) (bs.length + 1) cap)).ownsRow 0 eT k v n xs := fun {v n xs} hv => own_keep hv fun b hb => by
    obtain ⟨cur, hc⟩ := own_block hv hb
    rw [Below.heap_setCell _ _ _ _ (ne_of_type hc h.o heo)]
    exact grown_same h0 hgrow (heap_lt hc) (fun e => by obtain ⟨cur', hc'⟩ := own_block h.rown e; exact ne_of_type hc' hc hbe rfl)
  refine ⟨?_, ?_, ?_, ?_, keep h.lown, fun y hy => ⟨keep (h.kins y hy).1, (h.kins y hy).2⟩, ?_, h.mnew, h.old⟩
  · rw [heap_setCell_self _ (hO1.trans h.o), hoc]
  · rw [Below.heap_setCell _ _ _ _ hMO]
    exact grown_block h0 hgrow h.m (fun e => by obtain ⟨cur, hc⟩ := own_block h.rown e; exact ne_of_type hc h.m hbe rfl)
  · rw [booksCells_snoc, List.length_append]
    exact own_keep hown1 fun b hb => by
      simp [Value.ownBlock] at hb
      subst hb
      exact Below.heap_setCell _ _ _ _ hgO
  · intro b hb
    simp [Value.ownBlock] at hb
    subst hb
    rcases hat with h1 | h1
    · exact h.rat _ h1
    · right; omega
  · refine Fr.wide h.fr ?_
    have f1 : Fr (fun j => (j = O ∨ rv0.ownBlock = some j ∨ l.ownBlock = some j) ∨ w0.heap.size ≤ j) w w1 := Fr.of_push h0 hgrow fun j hj => by
      rcases h.rat j hj with h1 | h1
      · exact Or.inl (Or.inr (Or.inl h1))
      · exact Or.inr h1
    exact f1.setCell ⟨O, idx, none⟩ (Or.inl (Or.inl (Or.inl rfl))) _

theorem BkAt.app {w0 w w' : World} {O M : Nat} {oc : Value → Array Value} {eT bT : TypeId} {k : Nat} {rv0 rv : Value} {bs : List (Value × List Value)} {l : Value} {nl : Nat} {mk : List Value} {kin : List (Value × Nat)} (h : BkAt w0 w O M oc eT bT k rv0 rv bs l nl mk kin)
    (hbe : bT ≠ eT) (heo : eT ≠ 41) (hk : mk.length = k) {W : World} (h0 : OneMore w W) {v' : Value} {j : Nat} (hown' : w'.ownsRow 0 eT k v' (nl + j) (marks mk nl ++ marks mk j)) (ha : Appended W w' l nl j v') (hkin : ∀ x ∈ kin, x.2 ≤ nl + j) :
    BkAt w0 w' O M oc eT bT k rv0 rv bs l nl mk (kin ++ [(v', nl + j)]) := by
  rw [← marks_add] at hown'
  have hsz := h0.size
  have hw0 := h.fr.size
  rcases ha with ⟨g, cap, hl, hv, hgrow⟩ | ⟨hnew, hgrow⟩
  · have hlb : l.ownBlock = some g := by rw [hl]; rfl
    have hgl := h.old.2 g hlb
    obtain ⟨curl, hcl⟩ := own_block h.lown hlb
    have same : ∀ {b : Nat} {ob : Obj}, w.heap[b]? = some ob → b ≠ g → w'.heap[b]? = some ob := fun {b ob} hb hne => by
      rw [hgrow.block b (by have := heap_lt hb; omega) (by simpa using hne), h0.block b (heap_lt hb)]; exact hb
    have hown2 := hown'
    rw [hv] at hown2
    refine ⟨same h.o (fun e => ne_of_type hcl h.o heo e.symm), same h.m (fun e => by have := h.mnew; omega), ?_, h.rat, ?_, ?_, ?_, h.mnew, h.old⟩
    · exact own_keep h.rown fun b hb => by
        obtain ⟨cur, hc⟩ := own_block h.rown hb
        rw [same hc (ne_of_type hc hcl hbe), hc]
    · have h1 := own_prefix hown2 (n := nl) (by omega)
      rw [← hk, marks_take mk (by omega), hk, ← hl] at h1
      exact h1
    · intro x hx
      rw [List.mem_append, List.mem_singleton] at hx
      rcases hx with hx | rfl
      · obtain ⟨k1, k2, k3⟩ := h.kins x hx
        refine ⟨?_, k2, k3⟩
        rcases k2 with ⟨g2, cap2, n2, n3, e1, e2⟩ | k2
        · rw [hl] at e1
          simp at e1
          obtain ⟨rfl, _, rfl⟩ := e1
          have hn3 : n3 = x.2 := by
            have h5 := k1
            rw [e2] at h5
            exact (own_cap h5).2.1
          rw [e2, hn3]
          have h1 := own_prefix hown2 (n := x.2) (hkin x hx)
          rw [← hk, marks_take mk (hkin x hx), hk] at h1
          exact h1
        · exact own_keep k1 fun b hb => by
            obtain ⟨cur, hc⟩ := own_block k1 hb
            rw [same hc (fun e => by subst e; exact k2 _ hb hlb), hc]
      · refine ⟨hown', Or.inl ⟨g, cap, nl, nl + j, hl, hv⟩, fun b hb => Or.inl ?_⟩
        rw [hlb]
        rw [hv] at hb
        exact hb
    · refine Fr.wide h.fr ⟨hgrow.os.trans h0.os, hgrow.tape.trans h0.tape, hgrow.output.trans h0.output, by have := hgrow.size; omega, fun b hb hs => ?_⟩
      rw [hgrow.block b (by omega) (fun e => hs (Or.inl (Or.inr (Or.inr (by rw [hlb]; simpa using e.symm))))), h0.block b hb]
  · have same : ∀ {b : Nat} {ob : Obj}, w.heap[b]? = some ob → w'.heap[b]? = some ob := fun {b ob} hb => by
      rw [hgrow.block b (by have := heap_lt hb; omega) (by simp), h0.block b (heap_lt hb)]; exact hb
    have keep : ∀ {e : TypeId} {s : Nat} {v : Value} {n : Nat} {xs : List Value}, w.ownsRow 0 e s v n xs → w'.ownsRow 0 e s v n xs := fun {e s v n xs} hv => own_keep hv fun b hb => by
      obtain ⟨cur, hc⟩ := own_block hv hb
      rw [same hc, hc]
    refine ⟨same h.o, same h.m, keep h.rown, h.rat, keep h.lown, ?_, ?_, h.mnew, h.old⟩
    · intro x hx
      rw [List.mem_append, List.mem_singleton] at hx
      rcases hx with hx | rfl
      · exact ⟨keep (h.kins x hx).1, (h.kins x hx).2⟩
      · refine ⟨hown', Or.inr fun b hb e => ?_, fun b hb => Or.inr ?_⟩
        · have h1 := hnew b hb
          have h2 := h.old.2 b e
          omega
        · have h1 := hnew b hb
          omega
    · refine Fr.wide h.fr ⟨hgrow.os.trans h0.os, hgrow.tape.trans h0.tape, hgrow.output.trans h0.output, by have := hgrow.size; omega, fun b hb _ => ?_⟩
      rw [hgrow.block b (by omega) (by simp), h0.block b hb]

end Go.Proofs.Ytmmmnghiegajmaa

namespace Go.Proofs.Ytmmmnghiegajmaa
open Go.RowKit Go.Proofs.Herald

theorem Try.infoQB : (Try.prog.info? 134).map (fun i => (i.zero, i.size, i.bytes)) = some (some (.agg #[.slice none 0 0, .int .i64 0, .int .i64 0, .int .i64 0, .int .i64 0]), 5, 56) := by kernel_rfl
theorem Try.infoMsg : (Try.prog.info? 83).map (fun i => (i.zero, i.size, i.bytes)) = some (some (.agg #[.int .i64 0, .int .i64 0, .int .i64 0, .int .i64 0]), 4, 32) := by kernel_rfl

/-- A list that was booked reads as its owner wrote it. -/
def BookOk (w : World) (X : Nat → Prop) (eT : TypeId) (k : Nat) (b : Value × List Value) : Prop :=
  (∃ is : List Int, b.2 = is.map (fun z => Value.int .i64 z) ∧ is.length = k) ∧ ∃ n, n ≤ 100000000 ∧ w.ownsRow 0 eT k b.1 n (marks b.2 n) ∧ ∀ g, b.1.ownBlock = some g → X g

structure OwnAt (w : World) (X : Nat → Prop) (O : Nat) (n : Int) (cv rv qv : Value) (cb rb qb : List (Value × List Value)) : Prop where
  blk : w.heap[O]? = some (.cells #[.int .i64 n, cv, rv, qv] 41 (0, 0))
  inO : X O
  cown : w.ownsRow 0 130 5 cv cb.length (booksCells cb)
  rown : w.ownsRow 0 132 6 rv rb.length (booksCells rb)
  qown : w.ownsRow 0 134 5 qv qb.length (booksCells qb)
  cin : ∀ b, cv.ownBlock = some b → X b
  rin : ∀ b, rv.ownBlock = some b → X b
  qin : ∀ b, qv.ownBlock = some b → X b
  cbk : ∀ b ∈ cb, BookOk w X 128 4 b
  rbk : ∀ b ∈ rb, BookOk w X 90 5 b
  qbk : ∀ b ∈ qb, BookOk w X 83 4 b

theorem own_set {w : World} {B : Nat} {e : TypeId} {size n g cap : Nat} {xs : List Value} (h : w.ownsRow B e size (.slice (some ⟨g, 0, none⟩) n cap) n xs) (p : Nat) (v : Value) :
    (w.setCell ⟨g, p, none⟩ v).ownsRow B e size (.slice (some ⟨g, 0, none⟩) n cap) n (xs.set p v) := by
  refine ⟨by rw [List.length_set]; exact h.1, .inr ?_⟩
  rcases h.2 with ⟨h1, _⟩ | ⟨g', cap', cur, hv, hb, hg, hn, hm, hs, ht⟩
  · cases h1
  · simp at hv
    obtain ⟨rfl, rfl⟩ := hv
    refine ⟨g, cap, cur.setIfInBounds p v, rfl, hb, heap_setCell_self v hg, hn, hm, by simpa using hs, ?_⟩
    rw [Array.toList_setIfInBounds, List.take_set, ht]

theorem own_get {w : World} {B : Nat} {e : TypeId} {size n g cap : Nat} {xs : List Value} (h : w.ownsRow B e size (.slice (some ⟨g, 0, none⟩) n cap) n xs) (p : Nat) (u : Value) (hu : xs[p]? = some u) :
    w.cell? ⟨g, p, none⟩ = some u ∧ w.frozen? ⟨g, p, none⟩ = false := by
  have h1 := h.cells (g := g) rfl p u hu
  rw [Addr.add_lit, Nat.zero_add] at h1
  obtain ⟨_, cur, hc⟩ := ownsRow_lies h (k := g) rfl
  exact ⟨h1, free_of_heap hc⟩

/-- Four cells of an element are written. -/
theorem own_set4 {w : World} {B : Nat} {e : TypeId} {size n g cap p : Nat} {A rest : List Value} {r0 r1 r2 r3 : Value} (h : w.ownsRow B e size (.slice (some ⟨g, 0, none⟩) n cap) n (A ++ r0 :: r1 :: r2 :: r3 :: rest)) (hp : p = A.length) (u0 u1 u2 u3 : Value) :
    ((((w.setCell ⟨g, p, none⟩ u0).setCell ⟨g, p + 1, none⟩ u1).setCell ⟨g, p + 2, none⟩ u2).setCell ⟨g, p + 3, none⟩ u3).ownsRow B e size (.slice (some ⟨g, 0, none⟩) n cap) n (A ++ [u0, u1, u2, u3] ++ rest) := by
  have h4 := own_set (own_set (own_set (own_set h p u0) (p + 1) u1) (p + 2) u2) (p + 3) u3
  rw [set4 u0 u1 u2 u3 p hp] at h4
  exact h4

theorem own_get4 {w : World} {B : Nat} {e : TypeId} {size n g cap p : Nat} {A rest : List Value} {r0 r1 r2 r3 : Value} (h : w.ownsRow B e size (.slice (some ⟨g, 0, none⟩) n cap) n (A ++ r0 :: r1 :: r2 :: r3 :: rest)) (hp : p = A.length) :
    w.cell? ⟨g, p, none⟩ = some r0 ∧ w.cell? ⟨g, p + 1, none⟩ = some r1 ∧ w.cell? ⟨g, p + 2, none⟩ = some r2 ∧ w.cell? ⟨g, p + 3, none⟩ = some r3 ∧ w.frozen? ⟨g, p, none⟩ = false ∧ w.frozen? ⟨g, p + 1, none⟩ = false ∧ w.frozen? ⟨g, p + 2, none⟩ = false ∧ w.frozen? ⟨g, p + 3, none⟩ = false := by
  subst hp
  have k0 := own_get h A.length r0 (by simp)
  have k1 := own_get h (A.length + 1) r1 (by simp)
  have k2 := own_get h (A.length + 2) r2 (by simp)
  have k3 := own_get h (A.length + 3) r3 (by simp)
  exact ⟨k0.1, k1.1, k2.1, k3.1, k0.2, k1.2, k2.2, k3.2⟩

theorem four {l : List Value} {n : Nat} (h : l.length = n * 4) (hn : 0 < n) : ∃ r0 r1 r2 r3 rest, l = r0 :: r1 :: r2 :: r3 :: rest ∧ rest.length = (n - 1) * 4 := by
  match l, h with
  | r0 :: r1 :: r2 :: r3 :: rest, h => exact ⟨r0, r1, r2, r3, rest, rfl, by simp at h; omega⟩
  | [], h => simp at h; omega
  | [_], h => simp at h; omega
  | [_, _], h => simp at h; omega
  | [_, _, _], h => simp at h; omega

theorem mark4 {w : World} {M : Nat} {e : TypeId} {u0 u1 u2 u3 : Value} (h : w.heap[M]? = some (.cells [u0, u1, u2, u3].toArray e (0, 0))) :
    w.cell? ⟨M, 0, none⟩ = some u0 ∧ w.cell? ⟨M, 1, none⟩ = some u1 ∧ w.cell? ⟨M, 2, none⟩ = some u2 ∧ w.cell? ⟨M, 3, none⟩ = some u3 :=
  ⟨(cell_of_heap h).trans rfl, (cell_of_heap h).trans rfl, (cell_of_heap h).trans rfl, (cell_of_heap h).trans rfl⟩

theorem fr_one {S : Nat → Prop} {w0 w : World} (h : Fr S w0 w) {g : Nat} (hg : S g) (p : Nat) (u0 u1 u2 u3 : Value) : Fr S w0 ((((w.setCell ⟨g, p, none⟩ u0).setCell ⟨g, p + 1, none⟩ u1).setCell ⟨g, p + 2, none⟩ u2).setCell ⟨g, p + 3, none⟩ u3) :=
  (((h.setCell ⟨g, p, none⟩ (Or.inl hg) _).setCell ⟨g, p + 1, none⟩ (Or.inl hg) _).setCell ⟨g, p + 2, none⟩ (Or.inl hg) _).setCell ⟨g, p + 3, none⟩ (Or.inl hg) _


end Go.Proofs.Ytmmmnghiegajmaa
