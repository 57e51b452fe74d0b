/- Reader and acceptor side by side: blocks in braces. -/
import Derived.Test.YtiaibigmbflpiaaPureN
namespace Go.Proofs.Herald

/-- The first repeat that is too much, in one statement. -/
def hv1 (t : ByteArray) {T : Type} (sub : T → Int → Option Int) (x : Hd × T × T) (n : Int) : Option Int :=
  if bytesOf t x.1.p = kRepeat then
    (if 64 < n * x.1.n then some (x.1.p.1 : Int) else (sub x.2.1 (n * x.1.n)).or (sub x.2.2 (n * x.1.n)))
  else (sub x.2.1 n).or (sub x.2.2 n)

def hvL (t : ByteArray) {T : Type} (sub : T → Int → Option Int) : List (Hd × T × T) → Int → Option Int
  | [], _ => none
  | x :: r, n => (hv1 t sub x n).or (hvL t sub r n)

def hvT (t : ByteArray) : (d : Nat) → Tree d → Int → Option Int
  | 0, _, _ => none
  | d + 1, l, n => hvL t (hvT t d) l n

theorem hv_step {a b : Int} {x y : Option Int} {c : Int} {z : Option Int} (h1 : a = x.getD (-1)) (p1 : ∀ p, x = some p → 0 ≤ p) (h2 : b = y.getD (-1)) (p2 : ∀ p, y = some p → 0 ≤ p) (h3 : c = z.getD (-1)) :
    (if 0 ≤ a then a else if 0 ≤ b then b else c) = ((x.or y).or z).getD (-1) := by
  subst h1 h2 h3
  cases x with
  | some p => have := p1 p rfl; simp [this]
  | none =>
    cases y with
    | some p => have := p2 p rfl; simp [this]
    | none => simp

theorem hvT_spec (t : ByteArray) : ∀ (d : Nat) (tr : Tree d) (n : Int), heavyT t d tr n = (hvT t d tr n).getD (-1) ∧ ∀ p, hvT t d tr n = some p → 0 ≤ p := by
  intro d
  induction d with
  | zero => intro tr n; exact ⟨rfl, fun p h => by cases h⟩
  | succ d ih =>
    intro tr n
    have key : ∀ (l : List (Hd × Tree d × Tree d)) (n : Int), heavyL t (heavyT t d) l n = (hvL t (hvT t d) l n).getD (-1) ∧ ∀ p, hvL t (hvT t d) l n = some p → 0 ≤ p := by
      intro l
      induction l with
      | nil => intro n; exact ⟨rfl, fun p h => by cases h⟩
      | cons x r ihr =>
        intro n
        rw [heavyL, hvL, hv1]
        by_cases hr : bytesOf t x.1.p = kRepeat
        · rw [if_pos hr, if_pos hr]
          by_cases h6 : 64 < n * x.1.n
          · rw [if_pos h6, if_pos h6]
            exact ⟨rfl, fun p h => by simp at h; omega⟩
          · rw [if_neg h6, if_neg h6]
            obtain ⟨a1, a2⟩ := ih x.2.1 (n * x.1.n)
            obtain ⟨b1, b2⟩ := ih x.2.2 (n * x.1.n)
            obtain ⟨c1, c2⟩ := ihr n
            refine ⟨hv_step a1 a2 b1 b2 c1, fun p h => ?_⟩
            rw [Option.or_eq_some_iff, Option.or_eq_some_iff] at h
            rcases h with (h | h) | h
            · exact a2 p h
            · exact b2 p h.2
            · exact c2 p h.2
        · rw [if_neg hr, if_neg hr]
          obtain ⟨a1, a2⟩ := ih x.2.1 n
          obtain ⟨b1, b2⟩ := ih x.2.2 n
          obtain ⟨c1, c2⟩ := ihr n
          refine ⟨hv_step a1 a2 b1 b2 c1, fun p h => ?_⟩
          rw [Option.or_eq_some_iff, Option.or_eq_some_iff] at h
          rcases h with (h | h) | h
          · exact a2 p h
          · exact b2 p h.2
          · exact c2 p h.2
    exact key tr n

/-- Reading a block went well: what it spells. -/
def BlkYes (t : ByteArray) (st st' : RSt) (behind : List UInt8) : Prop :=
  ∃ ws a b e, Piece t st st' ws a b e ∧ bytesR t st' = behind ∧
    (∀ els nx ns ss, ∃ nx', outF t st.us ⟨[0], els, nx, ns, ss⟩ = outF t st'.us ⟨[0], els, nx', ns ++ a, ss ++ b⟩) ∧
    (e.f4 = none → ∀ d : Nat, (d : Int) + 1 + st.deep = 5 → ∃ tr : Tree (d + 1), GT t (d + 1) ws tr ∧ st'.fl = st.fl ++ flatT t (d + 1) tr ∧
      (e.f3 = none → GoodT t (d + 1) tr ∧ (st.heavy ≤ 64 → e.f5 = hvT t (d + 1) tr st.heavy)))

def BlkIs (t : ByteArray) (blk : RSt → Bool × RSt) (n : Nat) : Prop := ∀ st, st.us.length < n →
  ((blk st).1 = true → BlkYes t st (blk st).2 kShut) ∧
  ((blk st).1 = false → ∀ els nx ns ss, els ≠ [] → outF t st.us ⟨[0], els, nx, ns, ss⟩ = .inl (atR t (blk st).2.us))

def BracedYes (t : ByteArray) (st st' : RSt) (cnt : Nat) : Prop :=
  ∃ o wa c a b e, Piece t st st' (o :: (wa ++ [c])) a b e ∧ bytesOf t o = kOpen ∧ bytesOf t c = kShut ∧
    (∀ els nx ns ss, ∃ nx', outF t st.us ⟨[6], els, nx, ns, ss⟩ = outF t st'.us ⟨if nx then [1] else [0], els, nx', ns ++ a, ss ++ b⟩) ∧
    (e.f4 = none → ∀ d : Nat, (d : Int) + 1 + st.deep = 5 → ∃ tr : Tree d, GT t d wa tr ∧ st'.fl = st.fl ++ flatT t d tr ∧ cnt = (flatT t d tr).length ∧
      (e.f3 = none → GoodT t d tr ∧ (st.heavy ≤ 64 → e.f5 = hvT t d tr st.heavy)))

theorem read_brace (w : List UInt8) (p : Nat × Nat) (els : List Bool) (nx : Bool) (ns : List (Nat × Nat)) (ss : List Int) :
    readF w p ⟨[6], els, nx, ns, ss⟩ = (⟨[0], nx :: els, nx, ns, ss⟩, w == kOpen) := rfl
theorem read_shut (p : Nat × Nat) (els : List Bool) (e nx : Bool) (ns : List (Nat × Nat)) (ss : List Int) :
    readF kShut p ⟨[0], e :: els, nx, ns, ss⟩ = (⟨if e then [1] else [0], els, nx, ns, ss⟩, true) := rfl
theorem read_else (p : Nat × Nat) (els : List Bool) (nx : Bool) (ns : List (Nat × Nat)) (ss : List Int) :
    readF kElse p ⟨[1], els, nx, ns, ss⟩ = (⟨[6], els, false, ns, ss⟩, true) := rfl

/-- What the brace itself brings. -/
theorem brace_note (t : ByteArray) (st : RSt) : ∃ st1 e0, st1 = (if 4 ≤ st.deep then noteR st 4 (atR t st.us : Nat) else st) ∧ Ev st st1 e0 ∧ e0.f3 = none ∧ e0.f5 = none ∧ e0.f4 = (if 4 ≤ st.deep then some (atR t st.us : Int) else none) ∧
    st1.us = st.us ∧ st1.fl = st.fl ∧ st1.deep = st.deep ∧ st1.heavy = st.heavy := by
  by_cases h : 4 ≤ st.deep
  · obtain ⟨k1, k2, k3, k4⟩ := noteR_keeps st 4 (atR t st.us : Nat)
    refine ⟨noteR st 4 (atR t st.us : Nat), ev4 (atR t st.us : Nat), (if_pos h).symm, fun g hg => hg.note4 _, rfl, rfl, ?_, k4, k3, k1, k2⟩
    rw [if_pos h]; rfl
  · refine ⟨st, Gh.nil, (if_neg h).symm, Ev.same rfl rfl, rfl, rfl, ?_, rfl, rfl, rfl, rfl⟩
    rw [if_neg h]; rfl

theorem bracedR_eq {t : ByteArray} {blk : RSt → Bool × RSt} {st : RSt} (h : bytesR t st = kOpen) {st1 : RSt} (h1 : st1 = (if 4 ≤ st.deep then noteR st 4 (atR t st.us : Nat) else st)) :
    bracedR t blk st = if (blk (advR { st1 with deep := st1.deep + 1 })).1 then ((blk (advR { st1 with deep := st1.deep + 1 })).2.fl.length - st.fl.length, true, advR { (blk (advR { st1 with deep := st1.deep + 1 })).2 with deep := (blk (advR { st1 with deep := st1.deep + 1 })).2.deep - 1 }) else (0, false, (blk (advR { st1 with deep := st1.deep + 1 })).2) := by
  unfold bracedR
  rw [if_neg (by rw [h]; simp), h1]

theorem braced_ok {t : ByteArray} {blk : RSt → Bool × RSt} {n : Nat} (hblk : BlkIs t blk n) {st : RSt} (hn : st.us.length ≤ n) (h : (bracedR t blk st).2.1 = true) :
    BracedYes t st (bracedR t blk st).2.2 (bracedR t blk st).1 := by
  by_cases ho : bytesR t st = kOpen
  · obtain ⟨st1, e0, h1, hev, z3, z5, z4, k1, k2, k3, k4⟩ := brace_note t st
    rw [bracedR_eq ho h1] at h ⊢
    obtain ⟨o, r, hu⟩ := us_cons (t := t) (st := st) (by rw [ho]; decide)
    have hby : bytesOf t o = kOpen := by rw [← bytesR_cons hu]; exact ho
    have hat : (atR t st.us : Int) = (o.1 : Int) := by rw [hu]; rfl
    obtain ⟨sb, hsb⟩ : ∃ sb, sb = advR { st1 with deep := st1.deep + 1 } := ⟨_, rfl⟩
    rw [← hsb] at h ⊢
    have u1 : sb.us = r := by rw [hsb]; show st1.us.tail = r; rw [k1, hu]; rfl
    have u2 : sb.deep = st.deep + 1 := by rw [hsb]; show st1.deep + 1 = _; rw [k3]
    have u3 : sb.heavy = st.heavy := by rw [hsb]; exact k4
    have u4 : sb.fl = st.fl := by rw [hsb]; exact k2
    have u5 : Ev st sb e0 := by
      have := hev.trans (Ev.same (a := st1) (b := sb) (by rw [hsb]; rfl) (by rw [hsb]; rfl))
      rwa [Gh.add_nil] at this
    cases hr : (blk sb).1 with
    | false => rw [hr] at h; exact absurd h (by simp)
    | true =>
      rw [if_pos rfl]
      obtain ⟨ws, a, b, e, hp, hbeh, hacc, htree⟩ := (hblk sb (by rw [u1]; rw [hu] at hn; simp at hn; omega)).1 hr
      obtain ⟨c, q, hc⟩ := us_cons (t := t) (st := (blk sb).2) (by rw [hbeh]; decide)
      have hcb : bytesOf t c = kShut := by rw [← bytesR_cons hc]; exact hbeh
      have hdc : ∀ m, deepO t [c] m = none := fun m => by rw [deepO, hcb]; rfl
      refine ⟨o, ws, c, a, b, e0.add e, ⟨?_, hp.len, ?_, ?_, ?_, ?_, ?_, ?_⟩, hby, hcb, ?_, ?_⟩
      · show st.us = o :: (ws ++ [c]) ++ (blk sb).2.us.tail
        rw [hu, hc, ← u1, hp.us, hc]; simp
      · have := (u5.trans hp.ev).trans (Ev.same (a := (blk sb).2) (b := advR { (blk sb).2 with deep := (blk sb).2.deep - 1 }) rfl rfl)
        rwa [Gh.add_nil] at this
      · show e0.f3.or e.f3 = _; rw [z3, hp.e3]; rfl
      · show e0.f4.or e.f4 = _
        have hd1 : deepO t (o :: (ws ++ [c])) st.deep = if 4 < st.deep + 1 then some (o.1 : Int) else deepO t (ws ++ [c]) (st.deep + 1) := by rw [deepO]; exact if_pos hby
        rw [z4, hd1, deepO_append, hdc, hp.e4, u2, hat]
        by_cases h4 : 4 ≤ st.deep
        · rw [if_pos h4, if_pos (by omega)]; rfl
        · rw [if_neg h4, if_neg (by omega)]; simp
      · intro m
        rw [dpt, openB_open m hby, dpt_append, hp.dp, dpt, openB_shut _ hcb, dpt]; omega
      · show (blk sb).2.deep - 1 = _; rw [hp.deep, u2]; omega
      · show (blk sb).2.heavy = _; rw [hp.heavy, u3]
      · intro els nx ns ss
        obtain ⟨nx', hx⟩ := hacc (nx :: els) nx ns ss
        refine ⟨nx', ?_⟩
        rw [hu, outF_cons, read_brace, if_pos (by rw [hby]; rfl), ← u1, hx, hc, outF_cons, hcb, read_shut, if_pos rfl]
        show _ = outF t (blk sb).2.us.tail _
        rw [hc]; rfl
      · intro h4 d hd
        have h40 : ¬ 4 ≤ st.deep := by
          intro hh
          have : (e0.add e).f4 = some (atR t st.us : Int) := by show e0.f4.or e.f4 = _; rw [z4, if_pos hh]; rfl
          rw [this] at h4; cases h4
        have h41 : e.f4 = none := by
          have : (e0.add e).f4 = e.f4 := by show e0.f4.or e.f4 = _; rw [z4, if_neg h40]; rfl
          rw [← this]; exact h4
        cases d with
        | zero => exfalso; apply h40; omega
        | succ d =>
          obtain ⟨tr, g1, g2, g3⟩ := htree h41 d (by rw [u2]; push_cast at hd; omega)
          refine ⟨tr, g1, ?_, ?_, ?_⟩
          · show (blk sb).2.fl = _; rw [g2, u4]
          · show (blk sb).2.fl.length - st.fl.length = _; rw [g2, u4, List.length_append]; omega
          · intro h3
            have h31 : e.f3 = none := by
              have : (e0.add e).f3 = e.f3 := by show e0.f3.or e.f3 = _; rw [z3]; rfl
              rw [← this]; exact h3
            obtain ⟨g4, g5⟩ := g3 h31
            refine ⟨g4, fun hh => ?_⟩
            show e0.f5.or e.f5 = _
            rw [z5, g5 (by rw [u3]; exact hh), u3]; rfl
  · unfold bracedR at h; rw [if_pos ho] at h; exact absurd h (by simp)

theorem braced_no {t : ByteArray} {blk : RSt → Bool × RSt} {n : Nat} (hblk : BlkIs t blk n) {st : RSt} (hn : st.us.length ≤ n) (h : (bracedR t blk st).2.1 = false) :
    ∀ els nx ns ss, outF t st.us ⟨[6], els, nx, ns, ss⟩ = .inl (atR t (bracedR t blk st).2.2.us) := by
  intro els nx ns ss
  by_cases ho : bytesR t st = kOpen
  · obtain ⟨st1, e0, h1, _, _, _, _, k1, _, _, _⟩ := brace_note t st
    rw [bracedR_eq ho h1] at h ⊢
    obtain ⟨o, r, hu⟩ := us_cons (t := t) (st := st) (by rw [ho]; decide)
    have hby : bytesOf t o = kOpen := by rw [← bytesR_cons hu]; exact ho
    obtain ⟨sb, hsb⟩ : ∃ sb, sb = advR { st1 with deep := st1.deep + 1 } := ⟨_, rfl⟩
    rw [← hsb] at h ⊢
    have u1 : sb.us = r := by rw [hsb]; show st1.us.tail = r; rw [k1, hu]; rfl
    cases hr : (blk sb).1 with
    | true => rw [hr] at h; exact absurd h (by simp)
    | false =>
      rw [if_neg (by simp)]
      have := (hblk sb (by rw [u1]; rw [hu] at hn; simp at hn; omega)).2 hr (nx :: els) nx ns ss (by simp)
      rw [hu, outF_cons, read_brace, if_pos (by rw [hby]; rfl), ← u1, this]
  · have hE : bracedR t blk st = (0, false, st) := by unfold bracedR; rw [if_pos ho]
    rw [hE]
    cases hu : st.us with
    | nil => rw [outF_nil, if_pos (Or.inr (by simp))]; rfl
    | cons p q =>
      have hby : ¬ bytesOf t p = kOpen := by rw [← bytesR_cons hu]; exact ho
      rw [outF_cons, read_brace, if_neg (by simpa using hby)]; rfl

theorem first10 {s : List UInt8} (h : ¬ s = kElse) (els : List Bool) (nx : Bool) (ns : List (Nat × Nat)) (ss : List Int) :
    (firstF s 1 ⟨[1], els, nx, ns, ss⟩).2 = (firstF s 0 ⟨[0], els, nx, ns, ss⟩).2 ∧
      ((firstF s 0 ⟨[0], els, nx, ns, ss⟩).2 = true → (firstF s 1 ⟨[1], els, nx, ns, ss⟩).1 = (firstF s 0 ⟨[0], els, nx, ns, ss⟩).1) := by
  by_cases h1 : s = kSend
  · subst h1; exact ⟨rfl, fun _ => rfl⟩
  by_cases h2 : s = kWait
  · subst h2; exact ⟨rfl, fun _ => rfl⟩
  by_cases h3 : s = kStop
  · subst h3; exact ⟨rfl, fun _ => rfl⟩
  by_cases h4 : s = kAsk
  · subst h4; exact ⟨rfl, fun _ => rfl⟩
  by_cases h5 : s = kRetry
  · subst h5; exact ⟨rfl, fun _ => rfl⟩
  by_cases h6 : s = kRepeat
  · subst h6; exact ⟨rfl, fun _ => rfl⟩
  by_cases h7 : s = kShut
  · subst h7
    cases els with
    | nil => exact ⟨rfl, fun h => by cases h⟩
    | cons e r => exact ⟨rfl, fun _ => rfl⟩
  · have e : ∀ m st, firstF s m st = (st, false) := by
      intro m st; unfold firstF; rw [if_neg h1, if_neg h2, if_neg h3, if_neg h4, if_neg h5, if_neg h6, if_neg h, if_neg h7]
    rw [e, e]; exact ⟨rfl, fun h => by cases h⟩

/-- Where no else follows, it counts for nothing whether one may. -/
theorem mode10 {t : ByteArray} {st : RSt} (h : ¬ bytesR t st = kElse) (els : List Bool) (nx : Bool) (ns : List (Nat × Nat)) (ss : List Int) :
    outF t st.us ⟨[1], els, nx, ns, ss⟩ = outF t st.us ⟨[0], els, nx, ns, ss⟩ := by
  cases hu : st.us with
  | nil =>
    rw [outF_nil, outF_nil]
    by_cases h0 : 0 < els.length
    · rw [if_pos (Or.inl h0), if_pos (Or.inl h0)]
    · rw [if_neg (fun h => h.elim h0 (fun h => absurd h (by show ¬ ((1 : Int) < 1); omega))), if_neg (fun h => h.elim h0 (fun h => absurd h (by show ¬ ((1 : Int) < 0); omega)))]
  | cons p q =>
    rw [bytesR_cons hu] at h
    obtain ⟨h1, h2⟩ := first10 h els nx ns ss
    rw [outF_cons, outF_cons]
    have e1 : readF (bytesOf t p) p ⟨[1], els, nx, ns, ss⟩ = firstF (bytesOf t p) 1 ⟨[1], els, nx, ns, ss⟩ := rfl
    have e0 : readF (bytesOf t p) p ⟨[0], els, nx, ns, ss⟩ = firstF (bytesOf t p) 0 ⟨[0], els, nx, ns, ss⟩ := rfl
    rw [e1, e0, h1]
    by_cases hb : (firstF (bytesOf t p) 0 ⟨[0], els, nx, ns, ss⟩).2 = true
    · rw [if_pos hb, if_pos hb, h2 hb]
    · rw [if_neg hb, if_neg hb]

theorem modify_at {α : Type} (f : α → α) : ∀ (a : List α) (x : α) (b : List α), (a ++ x :: b).modify a.length f = a ++ f x :: b := by
  intro a
  induction a with
  | nil => intro x b; rfl
  | cons y r ih => intro x b; rw [List.cons_append, List.length_cons, List.modify_succ_cons, ih]; rfl

theorem nilT_flat (t : ByteArray) (d : Nat) : flatT t d (nilT d) = [] := by cases d <;> rfl
theorem nilT_good (t : ByteArray) (d : Nat) : GoodT t d (nilT d) := by
  cases d with
  | zero => trivial
  | succ d => intro x hx; exact absurd hx (by simp [Tree.list, nilT])
theorem nilT_hv (t : ByteArray) (d : Nat) (n : Int) : hvT t d (nilT d) n = none := by cases d <;> rfl

/-- The words of one block, or of two with else between. -/
def BR (t : ByteArray) (d : Nat) (wb : List (Nat × Nat)) (x y : Tree d) : Prop :=
  (∃ o wa c, wb = o :: (wa ++ [c]) ∧ bytesOf t o = kOpen ∧ bytesOf t c = kShut ∧ GT t d wa x ∧ y = nilT d) ∨
  (∃ o wa c e o2 wa2 c2, wb = o :: (wa ++ c :: e :: o2 :: (wa2 ++ [c2])) ∧ bytesOf t o = kOpen ∧ bytesOf t c = kShut ∧ bytesOf t e = kElse ∧ bytesOf t o2 = kOpen ∧ bytesOf t c2 = kShut ∧ GT t d wa x ∧ GT t d wa2 y)

theorem or_none {a b : Option Int} (h : a.or b = none) : a = none ∧ b = none := by
  cases a with
  | some p => cases h
  | none => exact ⟨rfl, by simpa using h⟩

theorem branches_ok {t : ByteArray} {blk : RSt → Bool × RSt} {n : Nat} (hblk : BlkIs t blk n) {st : RSt} {fl0 : List Nd} {nd : Nd} (hfl : st.fl = fl0 ++ [nd]) (hel : nd.els = 0) (hn : st.us.length ≤ n) (h : (branchesR t blk st fl0.length).1 = true) :
    ∃ wb a b e, Piece t st (branchesR t blk st fl0.length).2 wb a b e ∧ (∀ els ns ss, ∃ nx', outF t st.us ⟨[6], els, true, ns, ss⟩ = outF t (branchesR t blk st fl0.length).2.us ⟨[0], els, nx', ns ++ a, ss ++ b⟩) ∧
      (e.f4 = none → ∀ d : Nat, (d : Int) + 1 + st.deep = 5 → ∃ x y : Tree d, BR t d wb x y ∧ (branchesR t blk st fl0.length).2.fl = fl0 ++ { nd with body := (flatT t d x).length, els := (flatT t d y).length } :: (flatT t d x ++ flatT t d y) ∧
        (e.f3 = none → GoodT t d x ∧ GoodT t d y ∧ (st.heavy ≤ 64 → e.f5 = (hvT t d x st.heavy).or (hvT t d y st.heavy)))) := by
  obtain ⟨A, hA⟩ : ∃ A, A = bracedR t blk st := ⟨_, rfl⟩
  have hE : branchesR t blk st fl0.length = if A.2.1 then (if bytesR t { A.2.2 with fl := setBody A.2.2.fl fl0.length A.1 } = kElse then ((bracedR t blk (advR { A.2.2 with fl := setBody A.2.2.fl fl0.length A.1 })).2.1, { (bracedR t blk (advR { A.2.2 with fl := setBody A.2.2.fl fl0.length A.1 })).2.2 with fl := setEls (bracedR t blk (advR { A.2.2 with fl := setBody A.2.2.fl fl0.length A.1 })).2.2.fl fl0.length (bracedR t blk (advR { A.2.2 with fl := setBody A.2.2.fl fl0.length A.1 })).1 }) else (true, { A.2.2 with fl := setBody A.2.2.fl fl0.length A.1 })) else (false, A.2.2) := by
    rw [hA]; rfl
  rw [hE] at h ⊢
  cases hA1 : A.2.1 with
  | false => rw [hA1] at h; exact absurd h (by simp)
  | true =>
    rw [hA1] at h
    simp only [if_true] at h ⊢
    have hb := braced_ok hblk hn (by rw [← hA]; exact hA1)
    rw [← hA] at hb
    obtain ⟨o, wa, c, a, b, e, hp, hby, hcb, hacc, htree⟩ := hb
    obtain ⟨s1, hs1⟩ : ∃ s1, s1 = { A.2.2 with fl := setBody A.2.2.fl fl0.length A.1 } := ⟨_, rfl⟩
    rw [← hs1] at h ⊢
    have hp1 : Piece t st s1 (o :: (wa ++ [c])) a b e := by rw [hs1]; exact hp.fl st.fl _
    have hus : s1.us = A.2.2.us := by rw [hs1]
    by_cases he : bytesR t s1 = kElse
    · rw [if_pos he] at h ⊢
      obtain ⟨w, q, hw⟩ := us_cons (t := t) (st := s1) (by rw [he]; decide)
      have hwb : bytesOf t w = kElse := by rw [← bytesR_cons hw]; exact he
      have hp2 := hp1.trans (Piece.word hw (plain_else hwb))
      have hlen : (advR s1).us.length ≤ n := by
        have := hp2.us
        have h2 := congrArg List.length this
        rw [List.length_append] at h2
        omega
      have hb2 := braced_ok hblk hlen h
      obtain ⟨o2, wa2, c2, a2, b2, e2, hq, hby2, hcb2, hacc2, htree2⟩ := hb2
      have hp3 := hp2.trans hq
      refine ⟨_, _, _, _, (hp3.fl st.fl _), ?_, ?_⟩
      · intro els ns ss
        obtain ⟨nx1, x1⟩ := hacc els true ns ss
        obtain ⟨nx2, x2⟩ := hacc2 els false (ns ++ a) (ss ++ b)
        refine ⟨nx2, ?_⟩
        rw [x1, ← hus, hw, if_pos rfl, outF_cons, hwb, read_else, if_pos rfl]
        have hq2 : (advR s1).us = q := by show s1.us.tail = q; rw [hw]; rfl
        rw [← hq2, x2]
        simp
      · intro h4 d hd
        have h4' : (e.f4.or none).or e2.f4 = none := h4
        obtain ⟨h41, h42⟩ := or_none h4'
        obtain ⟨h41, _⟩ := or_none h41
        obtain ⟨x, g1, g2, g3, g4⟩ := htree h41 d hd
        have hd2 : (advR s1).deep = st.deep := hp2.deep
        have hh2 : (advR s1).heavy = st.heavy := hp2.heavy
        obtain ⟨y, k1, k2, k3, k4⟩ := htree2 h42 d (by rw [hd2]; exact hd)
        refine ⟨x, y, Or.inr ⟨o, wa, c, w, o2, wa2, c2, by simp, hby, hcb, hwb, hby2, hcb2, g1, k1⟩, ?_, ?_⟩
        · show setEls _ fl0.length _ = _
          rw [k2, k3]
          have f1 : (advR s1).fl = fl0 ++ { nd with body := (flatT t d x).length } :: flatT t d x := by
            show s1.fl = _
            rw [hs1]
            show setBody A.2.2.fl fl0.length A.1 = _
            rw [g2, hfl, g3, List.append_assoc]
            exact modify_at _ fl0 nd _
          rw [f1, List.append_assoc]
          exact modify_at _ fl0 _ _
        · intro h3
          have h3' : (e.f3.or none).or e2.f3 = none := h3
          obtain ⟨h31, h32⟩ := or_none h3'
          obtain ⟨h31, _⟩ := or_none h31
          obtain ⟨g5, g6⟩ := g4 h31
          obtain ⟨k5, k6⟩ := k4 h32
          refine ⟨g5, k5, fun hh => ?_⟩
          show (e.f5.or none).or e2.f5 = _
          rw [g6 hh, k6 (by rw [hh2]; exact hh), hh2]; simp
    · rw [if_neg he] at h ⊢
      refine ⟨_, _, _, _, hp1, ?_, ?_⟩
      · intro els ns ss
        obtain ⟨nx1, x1⟩ := hacc els true ns ss
        refine ⟨nx1, ?_⟩
        rw [x1, ← hus, if_pos rfl]
        exact mode10 he _ _ _ _
      · intro h4 d hd
        obtain ⟨x, g1, g2, g3, g4⟩ := htree h4 d hd
        refine ⟨x, nilT d, Or.inl ⟨o, wa, c, rfl, hby, hcb, g1, rfl⟩, ?_, ?_⟩
        · show s1.fl = _
          rw [hs1, nilT_flat]
          show setBody A.2.2.fl fl0.length A.1 = _
          rw [g2, hfl, g3, List.append_assoc, List.append_nil]
          refine (modify_at _ fl0 nd _).trans ?_
          simp [hel]
        · intro h3
          obtain ⟨g5, g6⟩ := g4 h3
          refine ⟨g5, nilT_good t d, fun hh => ?_⟩
          rw [g6 hh, nilT_hv]; simp

theorem branches_no {t : ByteArray} {blk : RSt → Bool × RSt} {n : Nat} (hblk : BlkIs t blk n) {st : RSt} {i : Nat} (hn : st.us.length ≤ n) (h : (branchesR t blk st i).1 = false) :
    ∀ els ns ss, outF t st.us ⟨[6], els, true, ns, ss⟩ = .inl (atR t (branchesR t blk st i).2.us) := by
  intro els ns ss
  obtain ⟨A, hA⟩ : ∃ A, A = bracedR t blk st := ⟨_, rfl⟩
  have hE : branchesR t blk st i = if A.2.1 then (if bytesR t { A.2.2 with fl := setBody A.2.2.fl i A.1 } = kElse then ((bracedR t blk (advR { A.2.2 with fl := setBody A.2.2.fl i A.1 })).2.1, { (bracedR t blk (advR { A.2.2 with fl := setBody A.2.2.fl i A.1 })).2.2 with fl := setEls (bracedR t blk (advR { A.2.2 with fl := setBody A.2.2.fl i A.1 })).2.2.fl i (bracedR t blk (advR { A.2.2 with fl := setBody A.2.2.fl i A.1 })).1 }) else (true, { A.2.2 with fl := setBody A.2.2.fl i A.1 })) else (false, A.2.2) := by
    rw [hA]; rfl
  rw [hE] at h ⊢
  cases hA1 : A.2.1 with
  | false =>
    rw [if_neg (by simp)]
    have := braced_no hblk hn (by rw [← hA]; exact hA1) els true ns ss
    rw [← hA] at this
    exact this
  | true =>
    rw [hA1] at h
    simp only [if_true] at h ⊢
    have hb := braced_ok hblk hn (by rw [← hA]; exact hA1)
    rw [← hA] at hb
    obtain ⟨o, wa, c, a, b, e, hp, hby, hcb, hacc, htree⟩ := hb
    obtain ⟨s1, hs1⟩ : ∃ s1, s1 = { A.2.2 with fl := setBody A.2.2.fl i A.1 } := ⟨_, rfl⟩
    rw [← hs1] at h ⊢
    have hp1 : Piece t st s1 (o :: (wa ++ [c])) a b e := by rw [hs1]; exact hp.fl st.fl _
    have hus : s1.us = A.2.2.us := by rw [hs1]
    by_cases he : bytesR t s1 = kElse
    · rw [if_pos he] at h ⊢
      obtain ⟨w, q, hw⟩ := us_cons (t := t) (st := s1) (by rw [he]; decide)
      have hwb : bytesOf t w = kElse := by rw [← bytesR_cons hw]; exact he
      have hp2 := hp1.trans (Piece.word hw (plain_else hwb))
      have hlen : (advR s1).us.length ≤ n := by
        have := hp2.us
        have h2 := congrArg List.length this
        rw [List.length_append] at h2
        omega
      have hb2 := braced_no hblk hlen h els false (ns ++ a) (ss ++ b)
      obtain ⟨nx1, x1⟩ := hacc els true ns ss
      rw [x1, ← hus, hw, if_pos rfl, outF_cons, hwb, read_else, if_pos rfl]
      have hq2 : (advR s1).us = q := by show s1.us.tail = q; rw [hw]; rfl
      rw [← hq2, hb2]
    · rw [if_neg he] at h; exact absurd h (by simp)

theorem repeated_note (st : RSt) (times p : Int) : ∃ st2 e0, st2 = (if 64 < heavierI st.heavy times then noteR { st with heavy := heavierI st.heavy times } 5 p else { st with heavy := heavierI st.heavy times }) ∧ Ev st st2 e0 ∧ e0.f3 = none ∧ e0.f4 = none ∧ e0.f5 = (if 64 < heavierI st.heavy times then some p else none) ∧
    st2.us = st.us ∧ st2.fl = st.fl ∧ st2.deep = st.deep ∧ st2.heavy = heavierI st.heavy times := by
  by_cases h : 64 < heavierI st.heavy times
  · obtain ⟨k1, k2, k3, k4⟩ := noteR_keeps { st with heavy := heavierI st.heavy times } 5 p
    refine ⟨_, ev5 p, (if_pos h).symm, fun g hg => ?_, rfl, rfl, ?_, k4, k3, k1, k2⟩
    · exact Rel.note5 (st := { st with heavy := heavierI st.heavy times }) hg p
    · rw [if_pos h]; rfl
  · refine ⟨_, Gh.nil, (if_neg h).symm, Ev.same rfl rfl, rfl, rfl, ?_, rfl, rfl, rfl, rfl⟩
    rw [if_neg h]; rfl

theorem repeatedR_eq {t : ByteArray} {blk : RSt → Bool × RSt} {st : RSt} {i : Nat} {times p : Int} {st2 : RSt} (h2 : st2 = (if 64 < heavierI st.heavy times then noteR { st with heavy := heavierI st.heavy times } 5 p else { st with heavy := heavierI st.heavy times })) :
    repeatedR t blk st i times p = ((bracedR t blk st2).2.1, { (bracedR t blk st2).2.2 with fl := setBody (bracedR t blk st2).2.2.fl i (bracedR t blk st2).1, heavy := st.heavy }) := by
  rw [h2]; rfl

theorem repeated_ok {t : ByteArray} {blk : RSt → Bool × RSt} {n : Nat} (hblk : BlkIs t blk n) {st : RSt} {fl0 : List Nd} {nd : Nd} {times p : Int} (hfl : st.fl = fl0 ++ [nd]) (hn : st.us.length ≤ n) (h : (repeatedR t blk st fl0.length times p).1 = true) :
    ∃ wb a b e, Piece t st (repeatedR t blk st fl0.length times p).2 wb a b e ∧ (∀ els ns ss, ∃ nx', outF t st.us ⟨[6], els, false, ns, ss⟩ = outF t (repeatedR t blk st fl0.length times p).2.us ⟨[0], els, nx', ns ++ a, ss ++ b⟩) ∧
      (e.f4 = none → ∀ d : Nat, (d : Int) + 1 + st.deep = 5 → ∃ x : Tree d, (∃ o wa c, wb = o :: (wa ++ [c]) ∧ bytesOf t o = kOpen ∧ bytesOf t c = kShut ∧ GT t d wa x) ∧ (repeatedR t blk st fl0.length times p).2.fl = fl0 ++ { nd with body := (flatT t d x).length } :: flatT t d x ∧
        (e.f3 = none → GoodT t d x ∧ e.f5 = if 64 < st.heavy * times then some p else hvT t d x (st.heavy * times))) := by
  obtain ⟨st2, e0, h2, hev, z3, z4, z5, k1, k2, k3, k4⟩ := repeated_note st times p
  rw [repeatedR_eq h2] at h ⊢
  obtain ⟨o, wa, c, a, b, e, hp, hby, hcb, hacc, htree⟩ := braced_ok hblk (st := st2) (by rw [k1]; exact hn) h
  refine ⟨o :: (wa ++ [c]), a, b, e0.add e, ⟨?_, hp.len, ?_, ?_, ?_, hp.dp, ?_, rfl⟩, ?_, ?_⟩
  · rw [← k1]; exact hp.us
  · have := (hev.trans hp.ev).trans (Ev.same (a := (bracedR t blk st2).2.2) (b := { (bracedR t blk st2).2.2 with fl := setBody (bracedR t blk st2).2.2.fl fl0.length (bracedR t blk st2).1, heavy := st.heavy }) rfl rfl)
    rwa [Gh.add_nil] at this
  · show e0.f3.or e.f3 = _; rw [z3, hp.e3]; rfl
  · show e0.f4.or e.f4 = _; rw [z4, hp.e4, k3]; rfl
  · show (bracedR t blk st2).2.2.deep = _; rw [hp.deep, k3]
  · intro els ns ss
    obtain ⟨nx', hx⟩ := hacc els false ns ss
    refine ⟨nx', ?_⟩
    rw [← k1, hx]; rfl
  · intro h4 d hd
    have h4' : e0.f4.or e.f4 = none := h4
    obtain ⟨x, g1, g2, g3, g4⟩ := htree (or_none h4').2 d (by rw [k3]; exact hd)
    refine ⟨x, ⟨o, wa, c, rfl, hby, hcb, g1⟩, ?_, ?_⟩
    · show setBody _ fl0.length _ = _
      rw [g2, k2, hfl, g3, List.append_assoc]
      exact modify_at _ fl0 nd _
    · intro h3
      have h3' : e0.f3.or e.f3 = none := h3
      obtain ⟨g5, g6⟩ := g4 (or_none h3').2
      refine ⟨g5, ?_⟩
      show e0.f5.or e.f5 = _
      rw [z5]
      unfold heavierI
      by_cases h6 : 64 < st.heavy * times
      · rw [if_pos h6, if_pos h6, if_pos (by omega)]; rfl
      · have hh : st2.heavy = st.heavy * times := by rw [k4]; unfold heavierI; rw [if_neg h6]
        rw [if_neg h6, if_neg h6, if_neg h6, g6 (by rw [hh]; omega), hh]; rfl

theorem repeated_no {t : ByteArray} {blk : RSt → Bool × RSt} {n : Nat} (hblk : BlkIs t blk n) {st : RSt} {i : Nat} {times p : Int} (hn : st.us.length ≤ n) (h : (repeatedR t blk st i times p).1 = false) :
    ∀ els ns ss, outF t st.us ⟨[6], els, false, ns, ss⟩ = .inl (atR t (repeatedR t blk st i times p).2.us) := by
  intro els ns ss
  obtain ⟨st2, e0, h2, _, _, _, _, k1, _, _, _⟩ := repeated_note st times p
  rw [repeatedR_eq h2] at h ⊢
  have := braced_no hblk (st := st2) (by rw [k1]; exact hn) h els false ns ss
  rw [← k1]; exact this

end Go.Proofs.Herald
