/- Reader and acceptor side by side: faults as they are noted, and the small steps. -/
import Derived.Test.YtiaibigmbflpiaaPureM
namespace Go.Proofs.Herald

/-- How the acceptor ends: the place of the fault, or the numbers and their sorts. -/
def outF (t : ByteArray) (us : List (Nat × Nat)) (st : FSt) : Nat ⊕ (List (Nat × Nat) × List Int) :=
  match runF t us st with
  | .inr a => .inl a
  | .inl s => if 0 < s.elses.length ∨ 1 < s.want.headD 0 then .inl t.size else .inr (s.nums, s.sorts)

theorem outF_cons (t : ByteArray) (p : Nat × Nat) (r : List (Nat × Nat)) (st : FSt) :
    outF t (p :: r) st = if (readF (bytesOf t p) p st).2 = true then outF t r (readF (bytesOf t p) p st).1 else .inl p.1 := by
  unfold outF
  rw [runF]
  by_cases h : (readF (bytesOf t p) p st).2 = true
  · rw [if_pos h, if_pos h]
  · rw [if_neg h, if_neg h]

theorem outF_nil (t : ByteArray) (s : FSt) : outF t [] s = if 0 < s.elses.length ∨ 1 < s.want.headD 0 then .inl t.size else .inr (s.nums, s.sorts) := rfl

theorem formedL_out (t : ByteArray) : formedL t = match outF t (wordsL t.data.toList) initF with
    | .inl a => (2, (a : Int))
    | .inr x => numsF t x.1 x.2 := by
  unfold formedL outF
  cases runF t (wordsL t.data.toList) initF with
  | inr a => rfl
  | inl s =>
    simp only
    unfold endF
    split <;> rfl

/-- Which faults have been noted: of each kind the place of the first. -/
structure Gh where
  f3 : Option Int
  f4 : Option Int
  f5 : Option Int

def Gh.nil : Gh := ⟨none, none, none⟩
def Gh.add (a b : Gh) : Gh := ⟨a.f3.or b.f3, a.f4.or b.f4, a.f5.or b.f5⟩
def ev3 (p : Int) : Gh := ⟨some p, none, none⟩
def ev4 (p : Int) : Gh := ⟨none, some p, none⟩
def ev5 (p : Int) : Gh := ⟨none, none, some p⟩

theorem Gh.add_assoc (a b c : Gh) : (a.add b).add c = a.add (b.add c) := by simp [Gh.add, Option.or_assoc]
theorem Gh.add_nil (a : Gh) : a.add Gh.nil = a := by simp [Gh.add, Gh.nil]
theorem Gh.nil_add (a : Gh) : Gh.nil.add a = a := by simp [Gh.add, Gh.nil]

def encG (g : Gh) : Int × Int :=
  match g.f3 with
  | some p => (3, p)
  | none => match g.f4 with
    | some p => (4, p)
    | none => match g.f5 with
      | some p => (5, p)
      | none => (0, 0)

def Rel (st : RSt) (g : Gh) : Prop := (st.fault, st.place) = encG g

theorem Rel.note3 {st : RSt} {g : Gh} (h : Rel st g) (p : Int) : Rel (noteR st 3 p) (g.add (ev3 p)) := by
  obtain ⟨a, b, c⟩ := g
  unfold Rel at *
  cases a <;> cases b <;> cases c <;> simp [encG, Gh.add, ev3] at * <;> simp [noteR, h]
theorem Rel.note4 {st : RSt} {g : Gh} (h : Rel st g) (p : Int) : Rel (noteR st 4 p) (g.add (ev4 p)) := by
  obtain ⟨a, b, c⟩ := g
  unfold Rel at *
  cases a <;> cases b <;> cases c <;> simp [encG, Gh.add, ev4] at * <;> simp [noteR, h]
theorem Rel.note5 {st : RSt} {g : Gh} (h : Rel st g) (p : Int) : Rel (noteR st 5 p) (g.add (ev5 p)) := by
  obtain ⟨a, b, c⟩ := g
  unfold Rel at *
  cases a <;> cases b <;> cases c <;> simp [encG, Gh.add, ev5] at * <;> simp [noteR, h]

/-- From one reader to a later one just these faults are noted. -/
def Ev (a b : RSt) (e : Gh) : Prop := ∀ g, Rel a g → Rel b (g.add e)

theorem Ev.same {a b : RSt} (hf : b.fault = a.fault) (hp : b.place = a.place) : Ev a b Gh.nil := fun g h => by
  rw [Gh.add_nil]; unfold Rel at *; rw [hf, hp]; exact h
theorem Ev.trans {a b c : RSt} {e f : Gh} (h : Ev a b e) (k : Ev b c f) : Ev a c (e.add f) := fun g hg => by
  rw [← Gh.add_assoc]; exact k _ (h g hg)

/-- The first number that may not be. -/
def badO (t : ByteArray) (p : Nat × Nat) (s : Int) : Option Int := if numL (bytesOf t p) < 1 ∨ mostI s < numL (bytesOf t p) then some (p.1 : Int) else none
def numsO (t : ByteArray) : List (Nat × Nat) → List Int → Option Int
  | p :: r, s :: q => (badO t p s).or (numsO t r q)
  | _, _ => none

theorem numsF_O (t : ByteArray) : ∀ (a : List (Nat × Nat)) (b : List Int), numsF t a b = match numsO t a b with
    | some p => (3, p)
    | none => (0, 0) := by
  intro a
  induction a with
  | nil => intro b; rfl
  | cons p r ih =>
    intro b
    cases b with
    | nil => rfl
    | cons s q =>
      rw [numsF, numsO, badO]
      split
      · rfl
      · rw [ih q]; rfl

theorem numsO_append (t : ByteArray) : ∀ (a : List (Nat × Nat)) (b : List Int) (a' : List (Nat × Nat)) (b' : List Int), a.length = b.length → numsO t (a ++ a') (b ++ b') = (numsO t a b).or (numsO t a' b') := by
  intro a
  induction a with
  | nil => intro b a' b' h; cases b with | nil => simp [numsO] | cons s q => simp at h
  | cons p r ih =>
    intro b a' b' h
    cases b with
    | nil => simp at h
    | cons s q => simp at h; rw [List.cons_append, List.cons_append, numsO, numsO, ih q a' b' h, Option.or_assoc]

/-- The first brace too deep. -/
def deepO (t : ByteArray) : List (Nat × Nat) → Int → Option Int
  | [], _ => none
  | p :: r, n =>
    if bytesOf t p = [123] then (if 4 < n + 1 then some (p.1 : Int) else deepO t r (n + 1))
    else if bytesOf t p = [125] then deepO t r (n - 1)
    else deepO t r n

theorem deepL_O (t : ByteArray) : ∀ (l : List (Nat × Nat)) (n : Int), deepL t l n = (deepO t l n).getD (-1) := by
  intro l
  induction l with
  | nil => intro n; rfl
  | cons p r ih =>
    intro n
    rw [deepL, deepO]
    split
    · split
      · rfl
      · exact ih _
    · split <;> exact ih _

theorem deepO_pos (t : ByteArray) : ∀ (l : List (Nat × Nat)) (n p : Int), deepO t l n = some p → 0 ≤ p := by
  intro l
  induction l with
  | nil => intro n p h; simp [deepO] at h
  | cons q r ih =>
    intro n p h
    rw [deepO] at h
    split at h
    · split at h
      · simp at h; omega
      · exact ih _ _ h
    · split at h <;> exact ih _ _ h

/-- How many braces are open behind some words. -/
def dpt (t : ByteArray) : List (Nat × Nat) → Int → Int
  | [], n => n
  | p :: r, n => dpt t r (openB t p n)

theorem dpt_append (t : ByteArray) : ∀ (a b : List (Nat × Nat)) (n : Int), dpt t (a ++ b) n = dpt t b (dpt t a n) := by
  intro a
  induction a with
  | nil => intro b n; rfl
  | cons p r ih => intro b n; rw [List.cons_append, dpt, dpt, ih]

theorem deepO_append (t : ByteArray) : ∀ (a b : List (Nat × Nat)) (n : Int), deepO t (a ++ b) n = (deepO t a n).or (deepO t b (dpt t a n)) := by
  intro a
  induction a with
  | nil => intro b n; simp [deepO, dpt]
  | cons p r ih =>
    intro b n
    rw [List.cons_append, deepO, deepO, dpt, openB]
    split
    · split
      · rfl
      · exact ih _ _
    · split <;> exact ih _ _

/-- A part of the text was read: which words, which numbers of which sorts, which faults were noted. -/
structure Piece (t : ByteArray) (st st' : RSt) (ws a : List (Nat × Nat)) (b : List Int) (e : Gh) : Prop where
  us : st.us = ws ++ st'.us
  len : a.length = b.length
  ev : Ev st st' e
  e3 : e.f3 = numsO t a b
  e4 : e.f4 = deepO t ws st.deep
  dp : ∀ n, dpt t ws n = n
  deep : st'.deep = st.deep
  heavy : st'.heavy = st.heavy

theorem Piece.trans {t : ByteArray} {x y z : RSt} {w1 w2 a1 a2 : List (Nat × Nat)} {b1 b2 : List Int} {e1 e2 : Gh} (h : Piece t x y w1 a1 b1 e1) (k : Piece t y z w2 a2 b2 e2) :
    Piece t x z (w1 ++ w2) (a1 ++ a2) (b1 ++ b2) (e1.add e2) where
  us := by rw [h.us, k.us, List.append_assoc]
  len := by rw [List.length_append, List.length_append, h.len, k.len]
  ev := h.ev.trans k.ev
  e3 := by rw [numsO_append t _ _ _ _ h.len, ← h.e3, ← k.e3]; rfl
  e4 := by rw [deepO_append, h.dp, ← h.e4, ← h.deep, ← k.e4]; rfl
  dp := fun n => by rw [dpt_append, h.dp, k.dp]
  deep := k.deep.trans h.deep
  heavy := k.heavy.trans h.heavy

theorem deepO_plain {t : ByteArray} {p : Nat × Nat} (n : Int) (h : ¬ bytesOf t p = kOpen ∧ ¬ bytesOf t p = kShut) : deepO t [p] n = none := by
  rw [deepO]; exact (if_neg h.1).trans ((if_neg h.2).trans rfl)

theorem read_num (w : List UInt8) (p : Nat × Nat) {s : Int} (hs : s = 3 ∨ s = 4 ∨ s = 5) (r : List Int) (els : List Bool) (nx : Bool) (ns : List (Nat × Nat)) (ss : List Int) :
    readF w p ⟨s :: r, els, nx, ns, ss⟩ = (⟨r, els, nx, ns ++ [p], ss ++ [s]⟩, decide (0 ≤ numL w)) := by
  rcases hs with rfl | rfl | rfl <;> rfl
theorem read_key (w : List UInt8) (p : Nat × Nat) (r : List Int) (els : List Bool) (nx : Bool) (ns : List (Nat × Nat)) (ss : List Int) :
    readF w p ⟨2 :: r, els, nx, ns, ss⟩ = (⟨r, els, nx, ns, ss⟩, decide (0 ≤ keyL w)) := rfl

theorem Piece.refl (t : ByteArray) (x : RSt) : Piece t x x [] [] [] Gh.nil :=
  ⟨rfl, rfl, Ev.same rfl rfl, rfl, rfl, fun _ => rfl, rfl, rfl⟩

/-- The statements in the list count for nothing here. -/
theorem Piece.fl {t : ByteArray} {x y : RSt} {w a : List (Nat × Nat)} {b : List Int} {e : Gh} (h : Piece t x y w a b e) (l l' : List Nd) : Piece t { x with fl := l } { y with fl := l' } w a b e :=
  ⟨h.us, h.len, h.ev, h.e3, h.e4, h.dp, h.deep, h.heavy⟩

/-- One word that is no brace was passed. -/
theorem Piece.word {t : ByteArray} {x : RSt} {p : Nat × Nat} {r : List (Nat × Nat)} (h : x.us = p :: r) (hp : ¬ bytesOf t p = kOpen ∧ ¬ bytesOf t p = kShut) : Piece t x (advR x) [p] [] [] Gh.nil where
  us := by show x.us = [p] ++ x.us.tail; rw [h]; rfl
  len := rfl
  ev := Ev.same rfl rfl
  e3 := rfl
  e4 := (deepO_plain _ hp).symm
  dp := fun n => by rw [dpt, openB_other n hp]; rfl
  deep := rfl
  heavy := rfl

theorem num_plain {s : List UInt8} (h : 0 ≤ numL s) : ¬ s = kOpen ∧ ¬ s = kShut := by
  constructor <;> (intro e; rw [e] at h; exact absurd h (by decide))
theorem key_plain {s : List UInt8} (h : 0 ≤ keyL s) : ¬ s = kOpen ∧ ¬ s = kShut := by
  constructor <;> (intro e; rw [e] at h; exact absurd h (by decide))
theorem kind_plain {s : List UInt8} (h : ¬ kindI s = 0) : (¬ s = kOpen ∧ ¬ s = kShut) ∧ ¬ s = kElse := by
  refine ⟨⟨?_, ?_⟩, ?_⟩ <;> (intro e; rw [e] at h; exact absurd (by decide) h)

theorem bytesR_cons {t : ByteArray} {st : RSt} {p : Nat × Nat} {r : List (Nat × Nat)} (h : st.us = p :: r) : bytesR t st = bytesOf t p := by
  unfold bytesR; rw [h]; rfl
theorem bytesR_nil {t : ByteArray} {st : RSt} (h : st.us = []) : bytesR t st = [] := by
  unfold bytesR; rw [h]; rfl
theorem us_cons {t : ByteArray} {st : RSt} (h : ¬ bytesR t st = []) : ∃ p r, st.us = p :: r := by
  cases hu : st.us with
  | nil => exact absurd (bytesR_nil hu) h
  | cons p r => exact ⟨p, r, rfl⟩

/-- A number: how the acceptor goes along. -/
theorem number_ok {t : ByteArray} {st : RSt} {s most : Int} (hm : mostI s = most) (hs : s = 3 ∨ s = 4 ∨ s = 5) (h : (numberR t st most).2.1 = true) :
    ∃ p e, Piece t st (numberR t st most).2.2 [p] [p] [s] e ∧ 0 ≤ numL (bytesOf t p) ∧ (numberR t st most).1 = numL (bytesOf t p) ∧ (numberR t st most).2.2.fl = st.fl ∧ e.f5 = none ∧ (e.f3 = none → 1 ≤ numL (bytesOf t p) ∧ numL (bytesOf t p) ≤ most) ∧
      ∀ r els nx ns ss, outF t st.us ⟨s :: r, els, nx, ns, ss⟩ = outF t (numberR t st most).2.2.us ⟨r, els, nx, ns ++ [p], ss ++ [s]⟩ := by
  by_cases hb : nB (bytesR t st) = true
  · have h0 : 0 ≤ numL (bytesR t st) := by unfold nB at hb; exact of_decide_eq_true hb
    obtain ⟨p, r, hu⟩ := us_cons (t := t) (st := st) (by intro e; rw [e] at h0; exact absurd h0 (by decide))
    have hby := bytesR_cons (t := t) hu
    have hv : nV (bytesR t st) = numL (bytesOf t p) := by unfold nV; rw [if_pos h0, hby]
    rw [hby] at h0
    have hE : numberR t st most = (numL (bytesOf t p), true, advR (if numL (bytesOf t p) < 1 ∨ most < numL (bytesOf t p) then noteR st 3 (atR t st.us : Nat) else st)) := by
      unfold numberR; rw [if_pos hb, hv]
    have hat : (atR t st.us : Nat) = p.1 := by rw [hu]; rfl
    rw [hE, hat]
    have hacc : ∀ r' els nx ns ss, outF t st.us ⟨s :: r', els, nx, ns, ss⟩ = outF t r ⟨r', els, nx, ns ++ [p], ss ++ [s]⟩ := by
      intro r' els nx ns ss
      rw [hu, outF_cons, read_num _ _ hs, if_pos (decide_eq_true h0)]
    by_cases hbad : numL (bytesOf t p) < 1 ∨ most < numL (bytesOf t p)
    · rw [if_pos hbad]
      obtain ⟨k1, k2, k3, k4⟩ := noteR_keeps st 3 (p.1 : Nat)
      refine ⟨p, ev3 p.1, ⟨?_, rfl, ?_, ?_, ?_, ?_, k1, k2⟩, h0, rfl, k3, rfl, ?_, ?_⟩
      · show st.us = [p] ++ (noteR st 3 (p.1 : Nat)).us.tail; rw [k4, hu]; rfl
      · exact fun g hg => hg.note3 _
      · show some (p.1 : Int) = ((badO t p s).or (numsO t [] [])); rw [badO, hm, if_pos hbad]; rfl
      · exact (deepO_plain _ (num_plain h0)).symm
      · intro n; rw [dpt, openB_other n (num_plain h0)]; rfl
      · intro e; cases e
      · intro r' els nx ns ss; rw [hacc]; show _ = outF t (noteR st 3 (p.1 : Nat)).us.tail _; rw [k4, hu]; rfl
    · rw [if_neg hbad]
      refine ⟨p, Gh.nil, ⟨?_, rfl, Ev.same rfl rfl, ?_, ?_, ?_, rfl, rfl⟩, h0, rfl, rfl, rfl, fun _ => by omega, ?_⟩
      · show st.us = [p] ++ st.us.tail; rw [hu]; rfl
      · show none = ((badO t p s).or (numsO t [] [])); rw [badO, hm, if_neg hbad]; rfl
      · exact (deepO_plain _ (num_plain h0)).symm
      · intro n; rw [dpt, openB_other n (num_plain h0)]; rfl
      · intro r' els nx ns ss; rw [hacc]; show _ = outF t st.us.tail _; rw [hu]; rfl
  · unfold numberR at h; rw [if_neg hb] at h; exact absurd h (by simp)

theorem number_no {t : ByteArray} {st : RSt} {s most : Int} (hs : s = 3 ∨ s = 4 ∨ s = 5) (h : (numberR t st most).2.1 = false) :
    ∀ r els nx ns ss, outF t st.us ⟨s :: r, els, nx, ns, ss⟩ = .inl (atR t (numberR t st most).2.2.us) := by
  intro r els nx ns ss
  by_cases hb : nB (bytesR t st) = true
  · unfold numberR at h; rw [if_pos hb] at h; exact absurd h (by simp)
  · have hE : numberR t st most = (0, false, st) := by unfold numberR; rw [if_neg hb]
    rw [hE]
    cases hu : st.us with
    | nil => rw [outF_nil, if_pos (Or.inr (by simp; omega))]; rfl
    | cons p q =>
      have h0 : ¬ 0 ≤ numL (bytesOf t p) := by rw [← bytesR_cons hu]; unfold nB at hb; simpa using hb
      rw [outF_cons, read_num _ _ hs, if_neg (by simpa using h0)]; rfl

theorem key_ok {t : ByteArray} {st : RSt} {k : Int} (hk : k = 1 ∨ k = 4 ∨ k = 5) (h : (keyR t st k).2.1 = true) :
    ∃ p, Piece t st (keyR t st k).2.2 [p] [] [] Gh.nil ∧ 0 ≤ keyL (bytesOf t p) ∧ (keyR t st k).1 = keyL (bytesOf t p) ∧ (keyR t st k).2.2.fl = st.fl ∧
      ∀ r els nx ns ss, outF t st.us ⟨2 :: r, els, nx, ns, ss⟩ = outF t (keyR t st k).2.2.us ⟨r, els, nx, ns, ss⟩ := by
  have hE : keyR t st k = (kV (bytesR t st), kB (bytesR t st), if kB (bytesR t st) then advR st else st) := by unfold keyR; rw [if_pos hk]
  rw [hE] at h ⊢
  have hb : kB (bytesR t st) = true := h
  have h0 : 0 ≤ keyL (bytesR t st) := by unfold kB at hb; exact of_decide_eq_true hb
  obtain ⟨p, r, hu⟩ := us_cons (t := t) (st := st) (by intro e; rw [e] at h0; exact absurd h0 (by decide))
  have hby := bytesR_cons (t := t) hu
  have hv : kV (bytesR t st) = keyL (bytesOf t p) := by unfold kV; rw [if_pos h0, hby]
  rw [hby] at h0
  simp only [hb, if_true]
  refine ⟨p, Piece.word hu (key_plain h0), h0, hv, rfl, ?_⟩
  intro r' els nx ns ss
  rw [hu, outF_cons, read_key, if_pos (decide_eq_true h0)]; show _ = outF t st.us.tail _; rw [hu]; rfl

theorem key_no {t : ByteArray} {st : RSt} {k : Int} (hk : k = 1 ∨ k = 4 ∨ k = 5) (h : (keyR t st k).2.1 = false) :
    ∀ r els nx ns ss, outF t st.us ⟨2 :: r, els, nx, ns, ss⟩ = .inl (atR t (keyR t st k).2.2.us) := by
  intro r els nx ns ss
  have hE : keyR t st k = (kV (bytesR t st), kB (bytesR t st), if kB (bytesR t st) then advR st else st) := by unfold keyR; rw [if_pos hk]
  rw [hE] at h ⊢
  have hb : kB (bytesR t st) = false := h
  simp only [hb]
  show _ = Sum.inl (atR t st.us)
  cases hu : st.us with
  | nil => rw [outF_nil, if_pos (Or.inr (by simp))]; rfl
  | cons p q =>
    have h0 : ¬ 0 ≤ keyL (bytesOf t p) := by rw [← bytesR_cons hu]; unfold kB at hb; simpa using hb
    rw [outF_cons, read_key, if_neg (by simpa using h0)]; rfl

end Go.Proofs.Herald
