/- Reader and acceptor side by side: statements, and whole texts. -/
import Derived.Test.YtiaibigmbflpiaaPureO
namespace Go.Proofs.Herald

def flat1 (t : ByteArray) (d : Nat) (x : Hd × Tree d × Tree d) : List Nd :=
  ndOf t x.1 (flatT t d x.2.1).length (flatT t d x.2.2).length :: (flatT t d x.2.1 ++ flatT t d x.2.2)

/-- The words of one statement, and what they spell. -/
def St1 (t : ByteArray) (d : Nat) (ws : List (Nat × Nat)) (x : Hd × Tree d × Tree d) : Prop :=
  ∃ wo wb f, ws = wo ++ wb ∧ HdOk t wo x.1 f ∧ plainW t wo ∧
    ((f = 0 ∧ wb = [] ∧ x.2.1 = nilT d ∧ x.2.2 = nilT d) ∨ (f = 2 ∧ BR t d wb x.2.1 x.2.2) ∨
     (f = 1 ∧ (∃ o wa c, wb = o :: (wa ++ [c]) ∧ bytesOf t o = kOpen ∧ bytesOf t c = kShut ∧ GT t d wa x.2.1) ∧ x.2.2 = nilT d))

def StYes (t : ByteArray) (st st' : RSt) : Prop :=
  ∃ ws a b e, Piece t st st' ws a b e ∧ ws ≠ [] ∧
    (∀ els nx ns ss, ∃ nx', outF t st.us ⟨[0], els, nx, ns, ss⟩ = outF t st'.us ⟨[0], els, nx', ns ++ a, ss ++ b⟩) ∧
    (e.f4 = none → ∀ d : Nat, (d : Int) + 1 + st.deep = 5 → ∃ x : Hd × Tree d × Tree d, St1 t d ws x ∧ st'.fl = st.fl ++ flat1 t d x ∧
      (e.f3 = none → (GoodHd t x.1 ∧ GoodT t d x.2.1 ∧ GoodT t d x.2.2) ∧ (st.heavy ≤ 64 → e.f5 = hv1 t (hvT t d) x st.heavy)))

def StNo (t : ByteArray) (st st' : RSt) : Prop :=
  ∀ els nx ns ss, (bytesR t st = kShut → els = []) → (st.us = [] → els ≠ []) → outF t st.us ⟨[0], els, nx, ns, ss⟩ = .inl (atR t st'.us)

def StIs (t : ByteArray) (st : RSt) (r : Bool × RSt) : Prop := (r.1 = true → StYes t st r.2) ∧ (r.1 = false → StNo t st r.2)

/-- One statement, by its kind. -/
def stmtK (t : ByteArray) (blk : RSt → Bool × RSt) (st : RSt) (kind : Int) : Bool × RSt :=
  if kind = 0 then (false, st)
  else
    let a := timesR t (advR st) kind
    if a.2.1 then
      let b := keyR t a.2.2 kind
      if b.2.1 then
        let c := ticksR t b.2.2 kind
        if c.2.1 then
          let st5 := { c.2.2 with fl := c.2.2.fl ++ [{ kind := kind, key := b.1, times := a.1, ticks := c.1, body := 0, els := 0 }] }
          if kind = 4 ∨ kind = 5 then branchesR t blk st5 c.2.2.fl.length
          else if kind = 6 then repeatedR t blk st5 c.2.2.fl.length a.1 (atR t st.us : Nat)
          else (true, st5)
        else (false, c.2.2)
      else (false, b.2.2)
    else (false, a.2.2)

theorem statementR_K (t : ByteArray) (blk : RSt → Bool × RSt) (st : RSt) : statementR t blk st = stmtK t blk st (kindI (bytesR t st)) := rfl

theorem kind_cases (s : List UInt8) : (s = kSend ∧ kindI s = 1) ∨ (s = kWait ∧ kindI s = 2) ∨ (s = kStop ∧ kindI s = 3) ∨ (s = kAsk ∧ kindI s = 4) ∨ (s = kRetry ∧ kindI s = 5) ∨ (s = kRepeat ∧ kindI s = 6) ∨
    (kindI s = 0 ∧ ¬ s = kSend ∧ ¬ s = kWait ∧ ¬ s = kStop ∧ ¬ s = kAsk ∧ ¬ s = kRetry ∧ ¬ s = kRepeat) := by
  by_cases h1 : s = kSend
  · exact Or.inl ⟨h1, by rw [h1]; rfl⟩
  by_cases h2 : s = kWait
  · exact Or.inr (Or.inl ⟨h2, by rw [h2]; rfl⟩)
  by_cases h3 : s = kStop
  · exact Or.inr (Or.inr (Or.inl ⟨h3, by rw [h3]; rfl⟩))
  by_cases h4 : s = kAsk
  · exact Or.inr (Or.inr (Or.inr (Or.inl ⟨h4, by rw [h4]; rfl⟩)))
  by_cases h5 : s = kRetry
  · exact Or.inr (Or.inr (Or.inr (Or.inr (Or.inl ⟨h5, by rw [h5]; rfl⟩))))
  by_cases h6 : s = kRepeat
  · exact Or.inr (Or.inr (Or.inr (Or.inr (Or.inr (Or.inl ⟨h6, by rw [h6]; rfl⟩)))))
  · refine Or.inr (Or.inr (Or.inr (Or.inr (Or.inr (Or.inr ⟨?_, h1, h2, h3, h4, h5, h6⟩)))))
    unfold kindI; rw [if_neg h1, if_neg h2, if_neg h3, if_neg h4, if_neg h5, if_neg h6]

theorem flat1_leaf (t : ByteArray) (d : Nat) (h : Hd) : flat1 t d (h, nilT d, nilT d) = [ndOf t h 0 0] := by
  unfold flat1; simp only [nilT_flat]; rfl
theorem hv1_leaf (t : ByteArray) (d : Nat) (h : Hd) (n : Int) (hk : ¬ bytesOf t h.p = kRepeat) : hv1 t (hvT t d) (h, nilT d, nilT d) n = none := by
  unfold hv1; rw [if_neg hk]; simp only [nilT_hv]; rfl

theorem adv_us {st : RSt} {p : Nat × Nat} {r : List (Nat × Nat)} (hu : st.us = p :: r) : (advR st).us = r := by show st.us.tail = r; rw [hu]; rfl

theorem stmt_send {t : ByteArray} {blk : RSt → Bool × RSt} {st : RSt} {p : Nat × Nat} {r : List (Nat × Nat)} (hu : st.us = p :: r) (hb : bytesOf t p = kSend) : StIs t st (stmtK t blk st 1) := by
  obtain ⟨K, hK⟩ : ∃ K, K = keyR t (advR st) 1 := ⟨_, rfl⟩
  have hE : stmtK t blk st 1 = if K.2.1 then (true, { K.2.2 with fl := K.2.2.fl ++ [{ kind := 1, key := K.1, times := 0, ticks := 0, body := 0, els := 0 }] }) else (false, K.2.2) := by rw [hK]; rfl
  have hfirst : ∀ els nx ns ss, outF t st.us ⟨[0], els, nx, ns, ss⟩ = outF t (advR st).us ⟨[2, 0], els, nx, ns, ss⟩ := by
    intro els nx ns ss; rw [adv_us hu, hu, outF_cons, hb]; rfl
  rw [hE]
  cases h : K.2.1 with
  | true =>
    refine ⟨fun _ => ?_, fun hh => absurd hh (by simp)⟩
    rw [if_pos rfl]
    have hk := key_ok (t := t) (st := advR st) (k := 1) (Or.inl rfl) (by rw [← hK]; exact h)
    rw [← hK] at hk
    obtain ⟨q, hp, h0, hv, hf, ha⟩ := hk
    have hw := (Piece.word hu (kind_plain (s := bytesOf t p) (by rw [hb]; decide)).1).trans hp
    simp only [Gh.nil_add, List.nil_append, List.cons_append] at hw
    refine ⟨_, _, _, _, hw.fl st.fl _, by simp, ?_, ?_⟩
    · intro els nx ns ss
      refine ⟨nx, ?_⟩
      rw [hfirst, ha]; simp
    · intro _ d _
      refine ⟨({ p := p, key := keyL (bytesOf t q), n := 0, m := 0 }, nilT d, nilT d), ⟨[p, q], [], 0, by simp, Or.inl ⟨p, q, rfl, rfl, hb, rfl⟩, ?_, Or.inl ⟨rfl, rfl, rfl, rfl⟩⟩, ?_, ?_⟩
      · intro x hx; simp at hx; rcases hx with rfl | rfl
        · rw [hb]; decide
        · exact key_plain h0
      · show K.2.2.fl ++ _ = _
        rw [hf, flat1_leaf, ndOf_send (h := ⟨p, keyL (bytesOf t q), 0, 0⟩) 0 0 hb, hv]; rfl
      · intro _
        refine ⟨⟨Or.inl ⟨hb, rfl, rfl⟩, nilT_good t d, nilT_good t d⟩, fun _ => ?_⟩
        rw [hv1_leaf t d _ _ (by rw [show (Hd.mk p _ _ _).p = p from rfl, hb]; decide)]; rfl
  | false =>
    refine ⟨fun hh => absurd hh (by simp), fun _ els nx ns ss _ _ => ?_⟩
    rw [if_neg (by simp)]
    have := key_no (t := t) (st := advR st) (k := 1) (Or.inl rfl) (by rw [← hK]; exact h) [0] els nx ns ss
    rw [← hK] at this
    rw [hfirst]; exact this

theorem stmt_wait {t : ByteArray} {blk : RSt → Bool × RSt} {st : RSt} {p : Nat × Nat} {r : List (Nat × Nat)} (hu : st.us = p :: r) (hb : bytesOf t p = kWait) : StIs t st (stmtK t blk st 2) := by
  obtain ⟨K, hK⟩ : ∃ K, K = numberR t (advR st) 999 := ⟨_, rfl⟩
  have hE : stmtK t blk st 2 = if K.2.1 then (true, { K.2.2 with fl := K.2.2.fl ++ [{ kind := 2, key := 0, times := 0, ticks := K.1, body := 0, els := 0 }] }) else (false, K.2.2) := by rw [hK]; rfl
  have hfirst : ∀ els nx ns ss, outF t st.us ⟨[0], els, nx, ns, ss⟩ = outF t (advR st).us ⟨[3, 0], els, nx, ns, ss⟩ := by
    intro els nx ns ss; rw [adv_us hu, hu, outF_cons, hb]; rfl
  rw [hE]
  cases h : K.2.1 with
  | true =>
    refine ⟨fun _ => ?_, fun hh => absurd hh (by simp)⟩
    rw [if_pos rfl]
    have hk := number_ok (t := t) (st := advR st) (s := 3) (most := 999) rfl (Or.inl rfl) (by rw [← hK]; exact h)
    rw [← hK] at hk
    obtain ⟨q, e, hp, h0, hv, hf, h5, h3, ha⟩ := hk
    have hw := (Piece.word hu (kind_plain (s := bytesOf t p) (by rw [hb]; decide)).1).trans hp
    simp only [Gh.nil_add, List.nil_append, List.cons_append] at hw
    refine ⟨_, _, _, _, hw.fl st.fl _, by simp, ?_, ?_⟩
    · intro els nx ns ss
      refine ⟨nx, ?_⟩
      rw [hfirst, ha]
    · intro _ d _
      refine ⟨({ p := p, key := 0, n := numL (bytesOf t q), m := 0 }, nilT d, nilT d), ⟨[p, q], [], 0, by simp, Or.inr (Or.inl ⟨p, q, rfl, rfl, hb, rfl⟩), ?_, Or.inl ⟨rfl, rfl, rfl, rfl⟩⟩, ?_, ?_⟩
      · intro x hx; simp at hx; rcases hx with rfl | rfl
        · rw [hb]; decide
        · exact num_plain h0
      · show K.2.2.fl ++ _ = _
        rw [hf, flat1_leaf, ndOf_wait (h := ⟨p, 0, numL (bytesOf t q), 0⟩) 0 0 hb, hv]; rfl
      · intro he
        obtain ⟨l1, l2⟩ := h3 he
        refine ⟨⟨Or.inr (Or.inl ⟨hb, l1, l2, rfl, rfl⟩), nilT_good t d, nilT_good t d⟩, fun _ => ?_⟩
        rw [hv1_leaf t d _ _ (by rw [show (Hd.mk p _ _ _).p = p from rfl, hb]; decide)]; exact h5
  | false =>
    refine ⟨fun hh => absurd hh (by simp), fun _ els nx ns ss _ _ => ?_⟩
    rw [if_neg (by simp)]
    have := number_no (t := t) (st := advR st) (s := 3) (most := 999) (Or.inl rfl) (by rw [← hK]; exact h) [0] els nx ns ss
    rw [← hK] at this
    rw [hfirst]; exact this

theorem stmt_stop {t : ByteArray} {blk : RSt → Bool × RSt} {st : RSt} {p : Nat × Nat} {r : List (Nat × Nat)} (hu : st.us = p :: r) (hb : bytesOf t p = kStop) : StIs t st (stmtK t blk st 3) := by
  have hE : stmtK t blk st 3 = (true, { advR st with fl := st.fl ++ [{ kind := 3, key := 0, times := 0, ticks := 0, body := 0, els := 0 }] }) := rfl
  have hfirst : ∀ els nx ns ss, outF t st.us ⟨[0], els, nx, ns, ss⟩ = outF t (advR st).us ⟨[0], els, nx, ns, ss⟩ := by
    intro els nx ns ss; rw [adv_us hu, hu, outF_cons, hb]; rfl
  rw [hE]
  refine ⟨fun _ => ?_, fun hh => absurd hh (by simp)⟩
  have hw := Piece.word hu (kind_plain (s := bytesOf t p) (by rw [hb]; decide)).1
  refine ⟨_, _, _, _, hw.fl st.fl _, by simp, ?_, ?_⟩
  · intro els nx ns ss
    refine ⟨nx, ?_⟩
    rw [hfirst]; simp
  · intro _ d _
    refine ⟨({ p := p, key := 0, n := 0, m := 0 }, nilT d, nilT d), ⟨[p], [], 0, by simp, Or.inr (Or.inr (Or.inl ⟨p, rfl, rfl, hb, rfl⟩)), ?_, Or.inl ⟨rfl, rfl, rfl, rfl⟩⟩, ?_, ?_⟩
    · intro x hx; simp at hx; subst hx
      rw [hb]; decide
    · show st.fl ++ _ = _
      rw [flat1_leaf, ndOf_stop (h := ⟨p, 0, 0, 0⟩) 0 0 hb]
    · intro _
      refine ⟨⟨Or.inr (Or.inr (Or.inl ⟨hb, rfl, rfl, rfl⟩)), nilT_good t d, nilT_good t d⟩, fun _ => ?_⟩
      rw [hv1_leaf t d _ _ (by rw [show (Hd.mk p _ _ _).p = p from rfl, hb]; decide)]; rfl

theorem stmt_ask {t : ByteArray} {blk : RSt → Bool × RSt} {st : RSt} {p : Nat × Nat} {r : List (Nat × Nat)} (hu : st.us = p :: r) {n : Nat} (hblk : BlkIs t blk n) (hn : st.us.length ≤ n + 1) (hb : bytesOf t p = kAsk) : StIs t st (stmtK t blk st 4) := by
  obtain ⟨K, hK⟩ : ∃ K, K = keyR t (advR st) 4 := ⟨_, rfl⟩
  obtain ⟨N, hN⟩ : ∃ N, N = numberR t K.2.2 999 := ⟨_, rfl⟩
  obtain ⟨s5, hs5⟩ : ∃ s5 : RSt, s5 = { N.2.2 with fl := N.2.2.fl ++ [Nd.mk 4 K.1 0 N.1 0 0] } := ⟨_, rfl⟩
  have hE : stmtK t blk st 4 = if K.2.1 then (if N.2.1 then branchesR t blk s5 N.2.2.fl.length else (false, N.2.2)) else (false, K.2.2) := by rw [hs5, hN, hK]; rfl
  have hfirst : ∀ els nx ns ss, outF t st.us ⟨[0], els, nx, ns, ss⟩ = outF t (advR st).us ⟨[2, 3, 6], els, true, ns, ss⟩ := by
    intro els nx ns ss; rw [adv_us hu, hu, outF_cons, hb]; rfl
  rw [hE]
  cases h : K.2.1 with
  | false =>
    refine ⟨fun hh => absurd hh (by simp), fun _ els nx ns ss _ _ => ?_⟩
    rw [if_neg (by simp)]
    have := key_no (t := t) (st := advR st) (k := 4) (Or.inr (Or.inl rfl)) (by rw [← hK]; exact h) [3, 6] els true ns ss
    rw [← hK] at this
    rw [hfirst]; exact this
  | true =>
    rw [if_pos rfl]
    have hk := key_ok (t := t) (st := advR st) (k := 4) (Or.inr (Or.inl rfl)) (by rw [← hK]; exact h)
    rw [← hK] at hk
    obtain ⟨q, hp, h0, hv, hf, ha⟩ := hk
    cases h2 : N.2.1 with
    | false =>
      refine ⟨fun hh => absurd hh (by simp), fun _ els nx ns ss _ _ => ?_⟩
      rw [if_neg (by simp)]
      have := number_no (t := t) (st := K.2.2) (s := 3) (most := 999) (Or.inl rfl) (by rw [← hN]; exact h2) [6] els true ns ss
      rw [← hN] at this
      rw [hfirst, ha]; exact this
    | true =>
      rw [if_pos rfl]
      have hk2 := number_ok (t := t) (st := K.2.2) (s := 3) (most := 999) rfl (Or.inl rfl) (by rw [← hN]; exact h2)
      rw [← hN] at hk2
      obtain ⟨z, e, hp2, h02, hv2, hf2, h5, h3, ha2⟩ := hk2
      have hw := ((Piece.word hu (kind_plain (s := bytesOf t p) (by rw [hb]; decide)).1).trans hp).trans hp2
      simp only [Gh.nil_add, List.nil_append, List.cons_append] at hw
      have hw5 : Piece t st s5 [p, q, z] [z] [3] e := by rw [hs5]; exact hw.fl st.fl _
      have hlen : s5.us.length ≤ n := by have := congrArg List.length hw5.us; simp at this; omega
      have hus : s5.us = N.2.2.us := by rw [hs5]
      have hfl : N.2.2.fl = st.fl := by rw [hf2, hf]; rfl
      refine ⟨fun hh => ?_, fun hh els nx ns ss _ _ => ?_⟩
      · obtain ⟨wb, a, b, e2, hp3, ha3, ht3⟩ := branches_ok hblk (st := s5) (fl0 := N.2.2.fl) (nd := Nd.mk 4 K.1 0 N.1 0 0) (by rw [hs5]) rfl hlen hh
        refine ⟨_, _, _, _, hw5.trans hp3, by simp, ?_, ?_⟩
        · intro els nx ns ss
          obtain ⟨nx', hx⟩ := ha3 els (ns ++ [z]) (ss ++ [3])
          refine ⟨nx', ?_⟩
          rw [hfirst, ha, ha2, ← hus, hx]; simp
        · intro h4 d hd
          have h4' : e.f4.or e2.f4 = none := h4
          obtain ⟨x, y, g1, g2, g3⟩ := ht3 (or_none h4').2 d (by rw [hw5.deep]; exact hd)
          refine ⟨({ p := p, key := keyL (bytesOf t q), n := numL (bytesOf t z), m := 0 }, x, y), ⟨[p, q, z], wb, 2, rfl, Or.inr (Or.inr (Or.inr (Or.inl ⟨p, q, z, rfl, rfl, hb, rfl⟩))), ?_, Or.inr (Or.inl ⟨rfl, g1⟩)⟩, ?_, ?_⟩
          · intro w hw; simp at hw; rcases hw with rfl | rfl | rfl
            · rw [hb]; decide
            · exact key_plain h0
            · exact num_plain h02
          · rw [g2, hfl]; unfold flat1; rw [ndOf_ask (h := ⟨p, keyL (bytesOf t q), numL (bytesOf t z), 0⟩) _ _ hb, hv, hv2]
          · intro he
            have he' : e.f3.or e2.f3 = none := he
            obtain ⟨l1, l2⟩ := h3 (or_none he').1
            obtain ⟨g4, g5, g6⟩ := g3 (or_none he').2
            refine ⟨⟨Or.inr (Or.inr (Or.inr (Or.inl ⟨hb, l1, l2, rfl⟩))), g4, g5⟩, fun hh => ?_⟩
            show e.f5.or e2.f5 = _
            rw [h5, g6 (by rw [hw5.heavy]; exact hh), hw5.heavy]
            unfold hv1
            rw [if_neg (by show ¬ bytesOf t p = kRepeat; rw [hb]; decide)]; rfl
      · have := branches_no hblk (st := s5) (i := N.2.2.fl.length) hlen hh els (ns ++ [z]) (ss ++ [3])
        rw [hfirst, ha, ha2, ← hus]; exact this

theorem stmt_retry {t : ByteArray} {blk : RSt → Bool × RSt} {st : RSt} {p : Nat × Nat} {r : List (Nat × Nat)} (hu : st.us = p :: r) {n : Nat} (hblk : BlkIs t blk n) (hn : st.us.length ≤ n + 1) (hb : bytesOf t p = kRetry) : StIs t st (stmtK t blk st 5) := by
  obtain ⟨M, hM⟩ : ∃ M, M = numberR t (advR st) 6 := ⟨_, rfl⟩
  obtain ⟨K, hK⟩ : ∃ K, K = keyR t M.2.2 5 := ⟨_, rfl⟩
  obtain ⟨N, hN⟩ : ∃ N, N = numberR t K.2.2 999 := ⟨_, rfl⟩
  obtain ⟨s5, hs5⟩ : ∃ s5 : RSt, s5 = { N.2.2 with fl := N.2.2.fl ++ [Nd.mk 5 K.1 M.1 N.1 0 0] } := ⟨_, rfl⟩
  have hE : stmtK t blk st 5 = if M.2.1 then (if K.2.1 then (if N.2.1 then branchesR t blk s5 N.2.2.fl.length else (false, N.2.2)) else (false, K.2.2)) else (false, M.2.2) := by rw [hs5, hN, hK, hM]; rfl
  have hfirst : ∀ els nx ns ss, outF t st.us ⟨[0], els, nx, ns, ss⟩ = outF t (advR st).us ⟨[4, 2, 3, 6], els, true, ns, ss⟩ := by
    intro els nx ns ss; rw [adv_us hu, hu, outF_cons, hb]; rfl
  rw [hE]
  cases h1 : M.2.1 with
  | false =>
    refine ⟨fun hh => absurd hh (by simp), fun _ els nx ns ss _ _ => ?_⟩
    rw [if_neg (by simp)]
    have := number_no (t := t) (st := advR st) (s := 4) (most := 6) (Or.inr (Or.inl rfl)) (by rw [← hM]; exact h1) [2, 3, 6] els true ns ss
    rw [← hM] at this
    rw [hfirst]; exact this
  | true =>
    rw [if_pos rfl]
    have hk1 := number_ok (t := t) (st := advR st) (s := 4) (most := 6) rfl (Or.inr (Or.inl rfl)) (by rw [← hM]; exact h1)
    rw [← hM] at hk1
    obtain ⟨y1, e1, hp1, h01, hv1, hf1, h51, h31, ha1⟩ := hk1
    cases h : K.2.1 with
    | false =>
      refine ⟨fun hh => absurd hh (by simp), fun _ els nx ns ss _ _ => ?_⟩
      rw [if_neg (by simp)]
      have := key_no (t := t) (st := M.2.2) (k := 5) (Or.inr (Or.inr rfl)) (by rw [← hK]; exact h) [3, 6] els true (ns ++ [y1]) (ss ++ [4])
      rw [← hK] at this
      rw [hfirst, ha1]; exact this
    | true =>
      rw [if_pos rfl]
      have hk := key_ok (t := t) (st := M.2.2) (k := 5) (Or.inr (Or.inr rfl)) (by rw [← hK]; exact h)
      rw [← hK] at hk
      obtain ⟨q, hp, h0, hv, hf, ha⟩ := hk
      cases h2 : N.2.1 with
      | false =>
        refine ⟨fun hh => absurd hh (by simp), fun _ els nx ns ss _ _ => ?_⟩
        rw [if_neg (by simp)]
        have := number_no (t := t) (st := K.2.2) (s := 3) (most := 999) (Or.inl rfl) (by rw [← hN]; exact h2) [6] els true (ns ++ [y1]) (ss ++ [4])
        rw [← hN] at this
        rw [hfirst, ha1, ha]; exact this
      | true =>
        rw [if_pos rfl]
        have hk2 := number_ok (t := t) (st := K.2.2) (s := 3) (most := 999) rfl (Or.inl rfl) (by rw [← hN]; exact h2)
        rw [← hN] at hk2
        obtain ⟨z, e, hp2, h02, hv2, hf2, h5, h3, ha2⟩ := hk2
        have hw := (((Piece.word hu (kind_plain (s := bytesOf t p) (by rw [hb]; decide)).1).trans hp1).trans hp).trans hp2
        simp only [Gh.nil_add, Gh.add_nil, List.nil_append, List.append_nil, List.cons_append] at hw
        have hw5 : Piece t st s5 [p, y1, q, z] [y1, z] [4, 3] (e1.add e) := by rw [hs5]; exact hw.fl st.fl _
        have hlen : s5.us.length ≤ n := by have := congrArg List.length hw5.us; simp at this; omega
        have hus : s5.us = N.2.2.us := by rw [hs5]
        have hfl : N.2.2.fl = st.fl := by rw [hf2, hf, hf1]; rfl
        refine ⟨fun hh => ?_, fun hh els nx ns ss _ _ => ?_⟩
        · obtain ⟨wb, a, b, e2, hp3, ha3, ht3⟩ := branches_ok hblk (st := s5) (fl0 := N.2.2.fl) (nd := Nd.mk 5 K.1 M.1 N.1 0 0) (by rw [hs5]) rfl hlen hh
          refine ⟨_, _, _, _, hw5.trans hp3, by simp, ?_, ?_⟩
          · intro els nx ns ss
            obtain ⟨nx', hx⟩ := ha3 els (ns ++ [y1] ++ [z]) (ss ++ [4] ++ [3])
            refine ⟨nx', ?_⟩
            rw [hfirst, ha1, ha, ha2, ← hus, hx]; simp
          · intro h4 d hd
            have h4' : (e1.add e).f4.or e2.f4 = none := h4
            obtain ⟨x, y, g1, g2, g3⟩ := ht3 (or_none h4').2 d (by rw [hw5.deep]; exact hd)
            refine ⟨({ p := p, key := keyL (bytesOf t q), n := numL (bytesOf t z), m := numL (bytesOf t y1) }, x, y), ⟨[p, y1, q, z], wb, 2, rfl, Or.inr (Or.inr (Or.inr (Or.inr (Or.inl ⟨p, y1, q, z, rfl, rfl, hb, rfl⟩)))), ?_, Or.inr (Or.inl ⟨rfl, g1⟩)⟩, ?_, ?_⟩
            · intro w hw; simp at hw; rcases hw with rfl | rfl | rfl | rfl
              · rw [hb]; decide
              · exact num_plain h01
              · exact key_plain h0
              · exact num_plain h02
            · rw [g2, hfl]; unfold flat1; rw [ndOf_retry (h := ⟨p, keyL (bytesOf t q), numL (bytesOf t z), numL (bytesOf t y1)⟩) _ _ hb, hv, hv2, hv1]
            · intro he
              have he' : (e1.f3.or e.f3).or e2.f3 = none := he
              obtain ⟨he1, he2⟩ := or_none he'
              obtain ⟨l1, l2⟩ := h3 (or_none he1).2
              obtain ⟨l3, l4⟩ := h31 (or_none he1).1
              obtain ⟨g4, g5, g6⟩ := g3 he2
              refine ⟨⟨Or.inr (Or.inr (Or.inr (Or.inr (Or.inl ⟨hb, l1, l2, l3, l4⟩)))), g4, g5⟩, fun hh => ?_⟩
              show (e1.f5.or e.f5).or e2.f5 = _
              rw [h51, h5, g6 (by rw [hw5.heavy]; exact hh), hw5.heavy]
              unfold Herald.hv1
              rw [if_neg (by show ¬ bytesOf t p = kRepeat; rw [hb]; decide)]; rfl
        · have := branches_no hblk (st := s5) (i := N.2.2.fl.length) hlen hh els (ns ++ [y1] ++ [z]) (ss ++ [4] ++ [3])
          rw [hfirst, ha1, ha, ha2, ← hus]; exact this

theorem stmt_repeat {t : ByteArray} {blk : RSt → Bool × RSt} {st : RSt} {p : Nat × Nat} {r : List (Nat × Nat)} (hu : st.us = p :: r) {n : Nat} (hblk : BlkIs t blk n) (hn : st.us.length ≤ n + 1) (hb : bytesOf t p = kRepeat) : StIs t st (stmtK t blk st 6) := by
  obtain ⟨N, hN⟩ : ∃ N, N = numberR t (advR st) 9 := ⟨_, rfl⟩
  obtain ⟨s5, hs5⟩ : ∃ s5 : RSt, s5 = { N.2.2 with fl := N.2.2.fl ++ [Nd.mk 6 0 N.1 0 0 0] } := ⟨_, rfl⟩
  have hE : stmtK t blk st 6 = if N.2.1 then repeatedR t blk s5 N.2.2.fl.length N.1 (atR t st.us : Nat) else (false, N.2.2) := by rw [hs5, hN]; rfl
  have hfirst : ∀ els nx ns ss, outF t st.us ⟨[0], els, nx, ns, ss⟩ = outF t (advR st).us ⟨[5, 6], els, false, ns, ss⟩ := by
    intro els nx ns ss; rw [adv_us hu, hu, outF_cons, hb]; rfl
  have hat : (atR t st.us : Nat) = p.1 := by rw [hu]; rfl
  rw [hE]
  cases h2 : N.2.1 with
  | false =>
    refine ⟨fun hh => absurd hh (by simp), fun _ els nx ns ss _ _ => ?_⟩
    rw [if_neg (by simp)]
    have := number_no (t := t) (st := advR st) (s := 5) (most := 9) (Or.inr (Or.inr rfl)) (by rw [← hN]; exact h2) [6] els false ns ss
    rw [← hN] at this
    rw [hfirst]; exact this
  | true =>
    rw [if_pos rfl]
    have hk2 := number_ok (t := t) (st := advR st) (s := 5) (most := 9) rfl (Or.inr (Or.inr rfl)) (by rw [← hN]; exact h2)
    rw [← hN] at hk2
    obtain ⟨z, e, hp2, h02, hv2, hf2, h5, h3, ha2⟩ := hk2
    have hw := (Piece.word hu (kind_plain (s := bytesOf t p) (by rw [hb]; decide)).1).trans hp2
    simp only [Gh.nil_add, List.nil_append, List.cons_append] at hw
    have hw5 : Piece t st s5 [p, z] [z] [5] e := by rw [hs5]; exact hw.fl st.fl _
    have hlen : s5.us.length ≤ n := by have := congrArg List.length hw5.us; simp at this; omega
    have hus : s5.us = N.2.2.us := by rw [hs5]
    have hfl : N.2.2.fl = st.fl := by rw [hf2]; rfl
    refine ⟨fun hh => ?_, fun hh els nx ns ss _ _ => ?_⟩
    · obtain ⟨wb, a, b, e2, hp3, ha3, ht3⟩ := repeated_ok hblk (st := s5) (fl0 := N.2.2.fl) (nd := Nd.mk 6 0 N.1 0 0 0) (by rw [hs5]) hlen hh
      refine ⟨_, _, _, _, hw5.trans hp3, by simp, ?_, ?_⟩
      · intro els nx ns ss
        obtain ⟨nx', hx⟩ := ha3 els (ns ++ [z]) (ss ++ [5])
        refine ⟨nx', ?_⟩
        rw [hfirst, ha2, ← hus, hx]; simp
      · intro h4 d hd
        have h4' : e.f4.or e2.f4 = none := h4
        obtain ⟨x, g1, g2, g3⟩ := ht3 (or_none h4').2 d (by rw [hw5.deep]; exact hd)
        refine ⟨({ p := p, key := 0, n := numL (bytesOf t z), m := 0 }, x, nilT d), ⟨[p, z], wb, 1, rfl, Or.inr (Or.inr (Or.inr (Or.inr (Or.inr ⟨p, z, rfl, rfl, hb, rfl⟩)))), ?_, Or.inr (Or.inr ⟨rfl, g1, rfl⟩)⟩, ?_, ?_⟩
        · intro w hw; simp at hw; rcases hw with rfl | rfl
          · rw [hb]; decide
          · exact num_plain h02
        · rw [g2, hfl]; unfold flat1; rw [ndOf_repeat (h := ⟨p, 0, numL (bytesOf t z), 0⟩) _ _ hb, hv2]; simp only [nilT_flat, List.append_nil]; rfl
        · intro he
          have he' : e.f3.or e2.f3 = none := he
          obtain ⟨l1, l2⟩ := h3 (or_none he').1
          obtain ⟨g4, g5⟩ := g3 (or_none he').2
          refine ⟨⟨Or.inr (Or.inr (Or.inr (Or.inr (Or.inr ⟨hb, l1, l2, rfl, rfl⟩)))), g4, nilT_good t d⟩, fun _ => ?_⟩
          show e.f5.or e2.f5 = _
          rw [h5, g5, hw5.heavy, hv2, hat]
          unfold hv1
          rw [if_pos (show bytesOf t p = kRepeat from hb)]
          simp only [nilT_hv, Option.or_none, Option.none_or]
    · have := repeated_no hblk (st := s5) (i := N.2.2.fl.length) (times := N.1) (p := (atR t st.us : Nat)) hlen hh els (ns ++ [z]) (ss ++ [5])
      rw [hfirst, ha2, ← hus]; exact this

theorem first_none {s : List UInt8} (hk : ¬ s = kSend ∧ ¬ s = kWait ∧ ¬ s = kStop ∧ ¬ s = kAsk ∧ ¬ s = kRetry ∧ ¬ s = kRepeat) (p : Nat × Nat) (els : List Bool) (nx : Bool) (ns : List (Nat × Nat)) (ss : List Int) (hs : s = kShut → els = []) :
    (readF s p ⟨[0], els, nx, ns, ss⟩).2 = false := by
  obtain ⟨h1, h2, h3, h4, h5, h6⟩ := hk
  have e0 : readF s p ⟨[0], els, nx, ns, ss⟩ = firstF s 0 ⟨[0], els, nx, ns, ss⟩ := rfl
  rw [e0]
  unfold firstF
  rw [if_neg h1, if_neg h2, if_neg h3, if_neg h4, if_neg h5, if_neg h6]
  by_cases h7 : s = kElse
  · rw [if_pos h7]; rfl
  rw [if_neg h7]
  by_cases h8 : s = kShut
  · rw [if_pos h8, hs h8]
  · rw [if_neg h8]

theorem statement_is {t : ByteArray} {blk : RSt → Bool × RSt} {n : Nat} (hblk : BlkIs t blk n) (st : RSt) (hn : st.us.length ≤ n + 1) : StIs t st (statementR t blk st) := by
  rw [statementR_K]
  have hz : kindI (bytesR t st) = 0 → (∀ p r, st.us = p :: r → ¬ bytesOf t p = kSend ∧ ¬ bytesOf t p = kWait ∧ ¬ bytesOf t p = kStop ∧ ¬ bytesOf t p = kAsk ∧ ¬ bytesOf t p = kRetry ∧ ¬ bytesOf t p = kRepeat) → StIs t st (stmtK t blk st (kindI (bytesR t st))) := by
    intro h0 hno
    rw [h0]
    have hE : stmtK t blk st 0 = (false, st) := rfl
    rw [hE]
    refine ⟨fun hh => absurd hh (by simp), fun _ els nx ns ss h1 h2 => ?_⟩
    cases hu : st.us with
    | nil =>
      have := h2 hu
      rw [outF_nil, if_pos (Or.inl ?_)]
      · rfl
      · cases els with
        | nil => exact absurd rfl this
        | cons a b => simp
    | cons p r =>
      rw [outF_cons, if_neg]
      · rfl
      · rw [first_none (hno p r hu) p els nx ns ss (by rw [← bytesR_cons hu]; exact h1)]; simp
  cases hu : st.us with
  | nil => exact hz (by rw [bytesR_nil hu]; rfl) (fun p r h => by rw [hu] at h; cases h)
  | cons p r =>
    have hby := bytesR_cons (t := t) hu
    rcases kind_cases (bytesOf t p) with ⟨h, k⟩ | ⟨h, k⟩ | ⟨h, k⟩ | ⟨h, k⟩ | ⟨h, k⟩ | ⟨h, k⟩ | ⟨k, h⟩
    · rw [hby, k]; exact stmt_send hu h
    · rw [hby, k]; exact stmt_wait hu h
    · rw [hby, k]; exact stmt_stop hu h
    · rw [hby, k]; exact stmt_ask hu hblk hn h
    · rw [hby, k]; exact stmt_retry hu hblk hn h
    · rw [hby, k]; exact stmt_repeat hu hblk hn h
    · exact hz (by rw [hby, k]) (fun p' r' h' => by rw [hu] at h'; cases h'; exact h)

theorem HdOk.head {t : ByteArray} {wo : List (Nat × Nat)} {h : Hd} {f : Nat} (hh : HdOk t wo h f) : ∃ p q, wo = p :: q ∧ ¬ bytesOf t p = kOpen ∧ ¬ bytesOf t p = kElse := by
  rcases hh with ⟨p, q, rfl, _, hb, _⟩ | ⟨p, q, rfl, _, hb, _⟩ | ⟨p, rfl, _, hb, _⟩ | ⟨p, q, r, rfl, _, hb, _⟩ | ⟨p, q, r, s, rfl, _, hb, _⟩ | ⟨p, q, rfl, _, hb, _⟩
  all_goals exact ⟨_, _, rfl, by rw [hb]; decide, by rw [hb]; decide⟩

theorem GL.head {t : ByteArray} {T : Type} {sub : List (Nat × Nat) → T → Prop} {nil : T} {ws : List (Nat × Nat)} {l : List (Hd × T × T)} (h : GL t sub nil ws l) : headIsnt t ws kOpen ∧ headIsnt t ws kElse := by
  cases l with
  | nil => rw [GL] at h; subst h; exact ⟨fun p hp => (by cases hp), fun p hp => (by cases hp)⟩
  | cons x r =>
    rw [GL] at h
    obtain ⟨wo, wb, wr, f, rfl, hh, _⟩ := h
    obtain ⟨p, q, rfl, h1, h2⟩ := hh.head
    refine ⟨fun z hz => ?_, fun z hz => ?_⟩
    · simp at hz; subst hz; exact h1
    · simp at hz; subst hz; exact h2

def consT {d : Nat} (x : Hd × Tree d × Tree d) (l : Tree (d + 1)) : Tree (d + 1) := (x :: l.list : List (Hd × Tree d × Tree d))

theorem St1.cons {t : ByteArray} {d : Nat} {ws wr : List (Nat × Nat)} {x : Hd × Tree d × Tree d} {l : Tree (d + 1)} (h : St1 t d ws x) (hl : GT t (d + 1) wr l) : GT t (d + 1) (ws ++ wr) (consT x l) := by
  have hl : GL t (GT t d) (nilT d) wr l.list := hl
  show GL t (GT t d) (nilT d) (ws ++ wr) (x :: l.list)
  rw [GL]
  have hd := hl.head
  obtain ⟨wo, wb, f, rfl, h1, h2, h3⟩ := h
  refine ⟨wo, wb, wr, f, by simp, h1, h2, hl, ?_⟩
  rcases h3 with ⟨rfl, rfl, h4, h5⟩ | ⟨rfl, h4 | h4⟩ | ⟨rfl, ⟨o, wa, c, rfl, h5, h6, h7⟩, h8⟩
  · exact Or.inl ⟨rfl, rfl, h4, h5, hd.1⟩
  · obtain ⟨o, wa, c, rfl, h5, h6, h7, h8⟩ := h4
    exact Or.inr (Or.inl ⟨o, wa, c, by omega, rfl, h5, h6, h7, h8, hd.2⟩)
  · obtain ⟨o, wa, c, e, o2, wa2, c2, rfl, h5, h6, h7, h8, h9, h10, h11⟩ := h4
    exact Or.inr (Or.inr ⟨o, wa, c, e, o2, wa2, c2, rfl, rfl, h5, h6, h7, h8, h9, h10, h11⟩)
  · exact Or.inr (Or.inl ⟨o, wa, c, by omega, rfl, h5, h6, h7, h8, hd.2⟩)

theorem flatT_cons (t : ByteArray) (d : Nat) (x : Hd × Tree d × Tree d) (l : Tree (d + 1)) : flatT t (d + 1) (consT x l) = flat1 t d x ++ flatT t (d + 1) l := by
  show (x :: l.list).flatMap (fun x => flat1 t d x) = flat1 t d x ++ l.list.flatMap (fun x => flat1 t d x)
  rw [List.flatMap_cons]

theorem loop_is {t : ByteArray} {stm : RSt → Bool × RSt} {n : Nat} (hst : ∀ st : RSt, st.us.length ≤ n → StIs t st (stm st)) (behind : List UInt8) (hbeh : behind = kShut ∨ behind = []) : ∀ (f : Nat) (st : RSt), st.us.length < f → st.us.length ≤ n →
    ((loopR t stm behind f st).1 = true → BlkYes t st (loopR t stm behind f st).2 behind) ∧
    ((loopR t stm behind f st).1 = false → ∀ els nx ns ss, (behind = kShut → els ≠ []) → (behind = [] → els = []) → outF t st.us ⟨[0], els, nx, ns, ss⟩ = .inl (atR t (loopR t stm behind f st).2.us)) := by
  intro f
  induction f with
  | zero => intro st h; omega
  | succ f ih =>
    intro st hf hn
    rw [loopR]
    by_cases hb : bytesR t st = behind
    · rw [if_pos hb]
      refine ⟨fun _ => ⟨[], [], [], Gh.nil, Piece.refl t st, hb, fun els nx ns ss => ⟨nx, by simp⟩, fun _ d _ => ⟨nilT (d + 1), ?_, ?_, fun _ => ⟨nilT_good t (d + 1), fun _ => rfl⟩⟩⟩, fun hh => absurd hh (by simp)⟩
      · show GL t (GT t d) (nilT d) [] ([] : List (Hd × Tree d × Tree d)); rw [GL]
      · show st.fl = st.fl ++ []; simp
    · rw [if_neg hb]
      obtain ⟨hy, hno⟩ := hst st hn
      cases hs : (stm st).1 with
      | false =>
        rw [if_neg (by simp)]
        refine ⟨fun hh => absurd hh (by simp), fun _ els nx ns ss h1 h2 => hno hs els nx ns ss ?_ ?_⟩
        · intro hk
          rcases hbeh with h | h
          · rw [h] at hb; exact absurd hk hb
          · exact h2 h
        · intro hu
          rcases hbeh with h | h
          · exact h1 h
          · rw [h] at hb; exact absurd (bytesR_nil hu) hb
      | true =>
        rw [if_pos rfl]
        obtain ⟨ws, a, b, e, hp, hne, hacc, htree⟩ := hy hs
        have hlen : (stm st).2.us.length < st.us.length := by
          have := congrArg List.length hp.us
          rw [List.length_append] at this
          have : 0 < ws.length := List.length_pos_iff.mpr hne
          omega
        obtain ⟨iy, ino⟩ := ih (stm st).2 (by omega) (by omega)
        refine ⟨fun hh => ?_, fun hh els nx ns ss h1 h2 => ?_⟩
        · obtain ⟨ws2, a2, b2, e2, hp2, hb2, hacc2, htree2⟩ := iy hh
          refine ⟨ws ++ ws2, a ++ a2, b ++ b2, e.add e2, hp.trans hp2, hb2, ?_, ?_⟩
          · intro els nx ns ss
            obtain ⟨nx1, x1⟩ := hacc els nx ns ss
            obtain ⟨nx2, x2⟩ := hacc2 els nx1 (ns ++ a) (ss ++ b)
            exact ⟨nx2, by rw [x1, x2]; simp⟩
          · intro h4 d hd
            have h4' : e.f4.or e2.f4 = none := h4
            obtain ⟨x, g1, g2, g3⟩ := htree (or_none h4').1 d hd
            obtain ⟨tr, k1, k2, k3⟩ := htree2 (or_none h4').2 d (by rw [hp.deep]; exact hd)
            refine ⟨consT x tr, g1.cons k1, ?_, ?_⟩
            · rw [k2, g2, flatT_cons, List.append_assoc]
            · intro h3
              have h3' : e.f3.or e2.f3 = none := h3
              obtain ⟨⟨m1, m2, m3⟩, m4⟩ := g3 (or_none h3').1
              obtain ⟨m5, m6⟩ := k3 (or_none h3').2
              refine ⟨?_, fun hh => ?_⟩
              · intro y hy
                have hy' : y ∈ (x :: tr.list) := hy
                rcases List.mem_cons.mp hy' with rfl | hy'
                · exact ⟨m1, m2, m3⟩
                · exact m5 y hy'
              · show e.f5.or e2.f5 = _
                rw [m4 hh, m6 (by rw [hp.heavy]; exact hh), hp.heavy]; rfl
        · obtain ⟨nx1, x1⟩ := hacc els nx ns ss
          rw [x1]
          exact ino hh els nx1 (ns ++ a) (ss ++ b) h1 h2

theorem block_is (t : ByteArray) : ∀ n : Nat, BlkIs t (blockR t n kShut) n := by
  intro n
  induction n with
  | zero => intro st h; omega
  | succ n ih =>
    intro st h
    obtain ⟨h1, h2⟩ := loop_is (t := t) (stm := statementR t (blockR t n kShut)) (n := n + 1) (fun st hn => statement_is ih st hn) kShut (Or.inl rfl) (st.us.length + 1) st (by omega) (by omega)
    exact ⟨h1, fun hh els nx ns ss he => h2 hh els nx ns ss (fun _ => he) (fun h => absurd h (by decide))⟩

/-- The reader as it begins. -/
def startR (t : ByteArray) : RSt := { us := wordsL t.data.toList, fl := [], deep := 0, heavy := 1, fault := 0, place := 0 }

/-- The reader as it ends. -/
def endR (t : ByteArray) : Bool × RSt := loopR t (statementR t (blockR t 401 kShut)) [] ((startR t).us.length + 1) (startR t)

theorem bytesOf_ne {t : ByteArray} {p : Nat × Nat} (h1 : p.1 < p.2) (h2 : p.2 ≤ t.size) : ¬ bytesOf t p = [] := by
  intro h
  have := congrArg List.length h
  unfold bytesOf at this
  simp at this
  omega

theorem tie_no (t : ByteArray) (ht : t.size ≤ 400) (h : (endR t).1 = false) : formedL t = (2, (atR t (endR t).2.us : Int)) := by
  have hw := wordsL_length t.data.toList
  have hsz : t.data.toList.length = t.size := by simp
  have := (loop_is (t := t) (stm := statementR t (blockR t 401 kShut)) (n := 401 + 1) (fun st hn => statement_is (block_is t 401) st hn) [] (Or.inr rfl) ((startR t).us.length + 1) (startR t) (by omega) (by show (wordsL t.data.toList).length ≤ _; omega)).2 h [] false [] [] (fun h => absurd h (by decide)) (fun _ => rfl)
  rw [formedL_out]
  have e : outF t (wordsL t.data.toList) initF = .inl (atR t (endR t).2.us) := this
  rw [e]

theorem tie_yes (t : ByteArray) (ht : t.size ≤ 400) (h : (endR t).1 = true) : ∃ e : Gh, ((endR t).2.fault, (endR t).2.place) = encG e ∧
    (formedL t = match e.f3 with
      | some p => (3, p)
      | none => (0, 0)) ∧ deepL t (wordsL t.data.toList) 0 = e.f4.getD (-1) ∧ (∀ p, e.f4 = some p → 0 ≤ p) ∧
    (e.f4 = none → ∃ tr : Tree 5, GT t 5 (wordsL t.data.toList) tr ∧ (endR t).2.fl = flatT t 5 tr ∧ (e.f3 = none → GoodT t 5 tr ∧ heavyT t 5 tr 1 = e.f5.getD (-1) ∧ (∀ p, e.f5 = some p → 0 ≤ p))) := by
  have hw := wordsL_length t.data.toList
  have hsz : t.data.toList.length = t.size := by simp
  obtain ⟨ws, a, b, e, hp, hb, hacc, htree⟩ := (loop_is (t := t) (stm := statementR t (blockR t 401 kShut)) (n := 401 + 1) (fun st hn => statement_is (block_is t 401) st hn) [] (Or.inr rfl) ((startR t).us.length + 1) (startR t) (by omega) (by show (wordsL t.data.toList).length ≤ _; omega)).1 h
  have hp' : Piece t (startR t) (endR t).2 ws a b e := hp
  have hend : (endR t).2.us = [] := by
    cases hu : (endR t).2.us with
    | nil => rfl
    | cons p q =>
      exfalso
      have hb' : bytesR t (endR t).2 = [] := hb
      rw [bytesR_cons hu] at hb'
      have hin : p ∈ wordsL t.data.toList := by
        have : wordsL t.data.toList = ws ++ (endR t).2.us := hp'.us
        rw [this, hu]; simp
      have hbd := wordsL_bounds t.data.toList p hin
      exact bytesOf_ne hbd.1 (by omega) hb'
  have hws : wordsL t.data.toList = ws := by
    have : wordsL t.data.toList = ws ++ (endR t).2.us := hp'.us
    rw [this, hend]; simp
  refine ⟨e, ?_, ?_, ?_, ?_, ?_⟩
  · have := hp'.ev Gh.nil rfl
    rw [Gh.nil_add] at this
    exact this
  · obtain ⟨nx, hx⟩ := hacc [] false [] []
    rw [formedL_out]
    have e1 : outF t (wordsL t.data.toList) initF = outF t (endR t).2.us ⟨[0], [], nx, [] ++ a, [] ++ b⟩ := hx
    rw [e1, hend, outF_nil, if_neg (by simp)]
    show numsF t ([] ++ a) ([] ++ b) = _
    rw [List.nil_append, List.nil_append, numsF_O, hp'.e3]
    cases numsO t a b <;> rfl
  · rw [deepL_O, hws, hp'.e4]; rfl
  · intro p hpp
    rw [hp'.e4] at hpp
    exact deepO_pos t _ _ p hpp
  · intro h4
    obtain ⟨tr, g1, g2, g3⟩ := htree h4 4 rfl
    refine ⟨tr, by rw [hws]; exact g1, ?_, ?_⟩
    · have : (endR t).2.fl = [] ++ flatT t 5 tr := g2
      rw [this]; simp
    · intro h3
      obtain ⟨k1, k2⟩ := g3 h3
      have k3 : e.f5 = hvT t 5 tr 1 := k2 (show (1 : Int) ≤ 64 by omega)
      have := hvT_spec t 5 tr 1
      rw [k3]
      exact ⟨k1, this.1, this.2⟩

end Go.Proofs.Herald
