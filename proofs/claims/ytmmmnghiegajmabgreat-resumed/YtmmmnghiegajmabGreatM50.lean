import Derived.Test.YtmmmnghiegajmabGreatM45
import Derived.Test.YtmmmnghiegajmabGreatM48
/- What was done can be done again: plain mathematics. -/
namespace Go.Proofs.YtmmmnghiegajmabGreat
open Go.RowKit Go.Proofs.Herald
def rec3 (q : Nat × Int × Int) : List Nat := recB q.1 q.2.1 q.2.2
/-- A call that can be written down. -/
def fineC (q : Nat × Int × Int) : Prop := q.1 < 256 ∧ isC q.1 q.2.2 = true ∧ (-9223372036854775808 ≤ q.2.1 ∧ q.2.1 ≤ 9223372036854775807) ∧ -9223372036854775808 ≤ q.2.2 ∧ q.2.2 ≤ 9223372036854775807
/-- The calls that were made, the herald behind them, its journal. -/
def Hist (cs : List Ins) (calls : List (Nat × Int × Int)) (h : Her Pr) (J : List Nat) : Prop :=
  ∀ P : List (Nat × Int × Int) → Her Pr → List Nat → Prop, P [] newH [] → (∀ (calls : List (Nat × Int × Int)) (h : Her Pr) (J : List Nat) (q : Nat × Int × Int), P calls h J → fineC q → (playH cs h (kindOf q.1) q.2.1 q.2.2).1.2.2 = 0 → P (calls ++ [q]) (playH cs h (kindOf q.1) q.2.1 q.2.2).2 (J ++ rec3 q)) → P calls h J
theorem Hist.nil {cs : List Ins} : Hist cs [] newH [] := fun _ a _ => a
theorem Hist.snoc {cs : List Ins} {calls : List (Nat × Int × Int)} {h : Her Pr} {J : List Nat} (q : Nat × Int × Int) (H : Hist cs calls h J) (hq : fineC q) (h0 : (playH cs h (kindOf q.1) q.2.1 q.2.2).1.2.2 = 0) : Hist cs (calls ++ [q]) (playH cs h (kindOf q.1) q.2.1 q.2.2).2 (J ++ rec3 q) :=
  fun P a b => b calls h J q (H P a b) hq h0
theorem Hist.ind {cs : List Ins} {motive : ∀ (calls : List (Nat × Int × Int)) (h : Her Pr) (J : List Nat), Hist cs calls h J → Prop} (nil : motive [] newH [] Hist.nil)
    (snoc : ∀ {calls : List (Nat × Int × Int)} {h : Her Pr} {J : List Nat} (q : Nat × Int × Int) (H : Hist cs calls h J) (hq : fineC q) (h0 : (playH cs h (kindOf q.1) q.2.1 q.2.2).1.2.2 = 0), motive calls h J H → motive (calls ++ [q]) (playH cs h (kindOf q.1) q.2.1 q.2.2).2 (J ++ rec3 q) (Hist.snoc q H hq h0))
    {calls : List (Nat × Int × Int)} {h : Her Pr} {J : List Nat} (H : Hist cs calls h J) : motive calls h J H :=
  (H (fun c h J => ∃ H : Hist cs c h J, motive c h J H) ⟨Hist.nil, nil⟩ (fun _ _ _ q g hq h0 => g.elim fun H m => ⟨Hist.snoc q H hq h0, snoc q H hq h0 m⟩)).elim fun _ m => m
theorem rec3_len (q : Nat × Int × Int) : (rec3 q).length = 19 := recB_len _ _ _
theorem Hist.len {cs : List Ins} {calls : List (Nat × Int × Int)} {h : Her Pr} {J : List Nat} (H : Hist cs calls h J) : J.length = 19 * calls.length := by
  induction H using Hist.ind with
  | nil => rfl
  | snoc q _ _ _ ih => rw [List.length_append, List.length_append, ih, rec3_len, List.length_singleton]; omega
theorem Hist.lt {cs : List Ins} {calls : List (Nat × Int × Int)} {h : Her Pr} {J : List Nat} (H : Hist cs calls h J) : ∀ x ∈ J, x < 256 := by
  induction H using Hist.ind with
  | nil => intro x hx; cases hx
  | snoc q _ hq _ ih =>
    intro x hx
    rcases List.mem_append.mp hx with hx | hx
    · exact ih x hx
    · exact recB_lt hq.1 _ _ x hx
theorem zero_of {b : Int} (h : (b == 0) = true) : 0 = b := by
  have hb0 : b = 0 := by simpa using h
  exact hb0.symm
theorem kind_J {cs : List Ins} {h : Her Pr} {J : List Nat} {q : Nat × Int × Int} (hq : fineC q) (h0 : (playH cs h (kindOf q.1) q.2.1 q.2.2).1.2.2 = 0) : playJ cs h J (kindOf q.1) q.2.1 q.2.2 = J ++ rec3 q := by
  obtain ⟨c, a, b⟩ := q
  obtain ⟨_, hi, _⟩ := hq
  simp only at h0 hi ⊢
  unfold isC at hi
  have key : ∀ {f : Int} (b' : Int), f = 0 → b' = b → noteJ f J c a b' = J ++ rec3 (c, a, b) := fun b' hf hb => by
    unfold noteJ
    rw [if_pos hf, hb]
    rfl
  by_cases h1 : c = 84
  · subst h1
    rw [if_pos (.inl rfl)] at hi
    exact key 0 h0 (zero_of hi)
  by_cases h2 : c = 75
  · subst h2
    rw [if_pos (.inr (.inl rfl))] at hi
    exact key 0 h0 (zero_of hi)
  by_cases h3 : c = 65
  · subst h3
    exact key b h0 rfl
  by_cases h4 : c = 67
  · subst h4
    rw [if_pos (.inr (.inr (.inl rfl)))] at hi
    exact key 0 h0 (zero_of hi)
  by_cases h5 : c = 68
  · subst h5
    rw [if_pos (.inr (.inr (.inr rfl)))] at hi
    exact key 0 h0 (zero_of hi)
  · rw [if_neg (by omega)] at hi
    simp at hi
    omega
/-- It is done again. -/
theorem Hist.opens {cs : List Ins} {calls : List (Nat × Int × Int)} {h : Her Pr} {J : List Nat} (H : Hist cs calls h J) : ∀ X, openS cs (calls.map rec3 ++ X) newH [] 0 = openS cs X h J calls.length := by
  induction H using Hist.ind with
  | nil => intro X; rfl
  | @snoc calls h J q _ hq h0 ih =>
    intro X
    rw [List.map_append, List.append_assoc, ih]
    show openS cs (rec3 q :: X) h J calls.length = _
    have hr : readB (rec3 q) = some (q.1, q.2.1, q.2.2) := readB_rec hq.2.1 hq.2.2.1.1 hq.2.2.1.2 hq.2.2.2.1 hq.2.2.2.2
    conv => lhs; unfold openS
    rw [hr]
    simp only
    rw [if_pos h0, kind_J hq h0, List.length_append, List.length_singleton]
/-- The calls up to one of them. -/
theorem Hist.pre {cs : List Ins} {calls : List (Nat × Int × Int)} {h : Her Pr} {J : List Nat} (H : Hist cs calls h J) : ∀ i, i ≤ calls.length → ∃ h', Hist cs (calls.take i) h' (J.take (i * 19)) := by
  induction H using Hist.ind with
  | nil =>
    intro i hi
    have : i = 0 := by simpa using hi
    subst this
    exact ⟨newH, Hist.nil⟩
  | @snoc calls h J q H hq h0 ih =>
    intro i hi
    have hl := H.len
    rw [List.length_append, List.length_singleton] at hi
    by_cases h1 : i ≤ calls.length
    · rw [List.take_append_of_le_length h1, List.take_append_of_le_length (by omega)]
      exact ih i h1
    · have e : i = calls.length + 1 := by omega
      have e1 : (calls ++ [q]).take i = calls ++ [q] := List.take_of_length_le (by rw [List.length_append, List.length_singleton]; omega)
      have e2 : (J ++ rec3 q).take (i * 19) = J ++ rec3 q := List.take_of_length_le (by rw [List.length_append, rec3_len]; omega)
      rw [e1, e2]
      exact ⟨_, Hist.snoc q H hq h0⟩
theorem Hist.flat {cs : List Ins} {calls : List (Nat × Int × Int)} {h : Her Pr} {J : List Nat} (H : Hist cs calls h J) : J = (calls.map rec3).flatten := by
  induction H using Hist.ind with
  | nil => rfl
  | snoc q _ _ _ ih => rw [List.map_append, List.flatten_append, ← ih]; simp
/-- A step that fails changes nothing. -/
theorem play_no {cs : List Ins} {h : Her Pr} {J : List Nat} {k a b : Int} (h0 : (playH cs h k a b).1.2.2 ≠ 0) : (playH cs h k a b).2 = h ∧ playJ cs h J k a b = J := by
  have nj : ∀ {f : Int} {c : Nat} {x y : Int}, f ≠ 0 → noteJ f J c x y = J := fun hf => if_neg hf
  unfold playH playJ at *
  by_cases h1 : k = 1
  · rw [if_pos h1] at h0 ⊢
    rw [if_pos h1]
    exact ⟨trig_no h0, nj h0⟩
  rw [if_neg h1] at h0 ⊢
  rw [if_neg h1]
  by_cases h2 : k = 2
  · rw [if_pos h2] at h0 ⊢
    rw [if_pos h2]
    refine ⟨?_, nj h0⟩
    show (tickH (machE cs) h a).2 = h
    have h3 : (tickH (machE cs) h a).1 ≠ 0 := h0
    unfold tickH at h3 ⊢
    split
    · rfl
    · rename_i hh
      rw [if_neg hh] at h3
      exact absurd rfl h3
  rw [if_neg h2] at h0 ⊢
  rw [if_neg h2]
  by_cases h3 : k = 3
  · rw [if_pos h3] at h0 ⊢
    rw [if_pos h3]
    refine ⟨?_, nj h0⟩
    show (ackH (machE cs) h a b).2 = h
    have h4 : (ackH (machE cs) h a b).1 ≠ 0 := h0
    unfold ackH at h4 ⊢
    cases hf : findR (machE cs) h.rs a with
    | none => rfl
    | some r =>
      rw [hf] at h4
      simp only at h4 ⊢
      split
      · rfl
      · rename_i hh
        rw [if_neg hh] at h4
        split
        · rfl
        · rename_i h5
          rw [if_neg h5] at h4
          exact absurd rfl h4
  rw [if_neg h3] at h0 ⊢
  rw [if_neg h3]
  by_cases h4 : k = 4
  · rw [if_pos h4] at h0 ⊢
    rw [if_pos h4]
    refine ⟨?_, nj h0⟩
    show (cancelH (machE cs) h a).2 = h
    have h5 : (cancelH (machE cs) h a).1 ≠ 0 := h0
    unfold cancelH at h5 ⊢
    cases hf : findR (machE cs) h.rs a with
    | none => rfl
    | some r =>
      rw [hf] at h5
      exact absurd rfl h5
  rw [if_neg h4] at h0 ⊢
  rw [if_neg h4]
  by_cases h5 : k = 5
  · rw [if_pos h5] at h0 ⊢
    rw [if_pos h5]
    exact ⟨drain_no h0, nj h0⟩
  rw [if_neg h5] at h0 ⊢
  rw [if_neg h5]
  exact ⟨rfl, rfl⟩
/-- A step is one call more, or none. -/
theorem Hist.play {cs : List Ins} {calls : List (Nat × Int × Int)} {h : Her Pr} {J : List Nat} (H : Hist cs calls h J) (k a b : Int) (ha : -9223372036854775808 ≤ a ∧ a ≤ 9223372036854775807) (hb : -9223372036854775808 ≤ b ∧ b ≤ 9223372036854775807) :
    ∃ calls', Hist cs calls' (playH cs h k a b).2 (playJ cs h J k a b) ∧ calls.length ≤ calls'.length := by
  by_cases h0 : (playH cs h k a b).1.2.2 = 0
  · have key : ∀ (c : Nat) (b' : Int), c < 256 → isC c b' = true → (-9223372036854775808 ≤ b' ∧ b' ≤ 9223372036854775807) → playH cs h (kindOf c) a b' = playH cs h k a b → playJ cs h J (kindOf c) a b' = playJ cs h J k a b → ∃ calls', Hist cs calls' (playH cs h k a b).2 (playJ cs h J k a b) ∧ calls.length ≤ calls'.length := fun c b' hc hi hb' e1 e2 => by
      have hq : fineC (c, a, b') := ⟨hc, hi, ha, hb'⟩
      have h1 : (playH cs h (kindOf c) a b').1.2.2 = 0 := by rw [e1]; exact h0
      have h2 := Hist.snoc (c, a, b') H hq h1
      have h3 := kind_J (J := J) hq h1
      simp only at h2 h3
      rw [← h3, e1, e2] at h2
      exact ⟨_, h2, by rw [List.length_append]; omega⟩
    by_cases h1 : k = 1
    · subst h1; exact key 84 0 (by decide) rfl (by omega) rfl rfl
    by_cases h2 : k = 2
    · subst h2; exact key 75 0 (by decide) rfl (by omega) rfl rfl
    by_cases h3 : k = 3
    · subst h3; exact key 65 b (by decide) rfl hb rfl rfl
    by_cases h4 : k = 4
    · subst h4; exact key 67 0 (by decide) rfl (by omega) rfl rfl
    by_cases h5 : k = 5
    · subst h5; exact key 68 0 (by decide) rfl (by omega) rfl rfl
    · exfalso
      unfold playH at h0
      rw [if_neg h1, if_neg h2, if_neg h3, if_neg h4, if_neg h5] at h0
      cases h0
  · obtain ⟨e1, e2⟩ := play_no (J := J) h0
    rw [e1, e2]
    exact ⟨calls, H, Nat.le_refl _⟩
end Go.Proofs.YtmmmnghiegajmabGreat
/- Two heralds with their journals beside one another. -/
namespace Go.Proofs.YtmmmnghiegajmabGreat
open Go.RowKit Go.Proofs.Herald
/-- Two heralds beside one another: neither owns what is the other's, or in F. -/
def KKJ (B : Nat) (cs : List Ins) (m n : Nat) (hg : Her Pr) (Jg : List Nat) (hf : Her Pr) (Jf : List Nat) (w0 : World) (Hg Hf : Nat) (F : Nat → Prop) (w : World) : Prop :=
  ∃ j t, j ≤ n ∧ GJ cs j hf Jf w Hf t ∧ (∀ k, t.own Hf k → B ≤ k ∧ ¬ F k) ∧ KJ B cs m hg Jg w0 Hg (fun k => F k ∨ t.own Hf k) w
theorem KKJ.swap {B : Nat} {cs : List Ins} {m n : Nat} {hg hf : Her Pr} {Jg Jf : List Nat} {w0 w : World} {Hg Hf : Nat} {F : Nat → Prop} (g : KKJ B cs m n hg Jg hf Jf w0 Hg Hf F w) : KKJ B cs n m hf Jf hg Jg w0 Hf Hg F w := by
  obtain ⟨j, t, hj, gf, of, i, s, hi, gg, og, lt, bl, hB⟩ := g
  exact ⟨i, s, hi, gg, fun k hk => ⟨(og k hk).1, fun h => (og k hk).2 (.inl h)⟩, j, t, hj, gf, fun k hk => ⟨(of k hk).1, fun h => h.elim (of k hk).2 (fun h => (og k h).2 (.inr hk))⟩, fun k hk => hk.elim (fun h => lt k (.inl h)) (fun h => gg.lt h), bl, hB⟩
theorem KKJ.ks {B : Nat} {cs : List Ins} {m n : Nat} {hg hf : Her Pr} {Jg Jf : List Nat} {w0 w : World} {Hg Hf : Nat} {F : Nat → Prop} (g : KKJ B cs m n hg Jg hf Jf w0 Hg Hf F w) : KJ B cs m hg Jg w0 Hg F w := by
  obtain ⟨j, t, _, _, _, ks⟩ := g
  exact ks.less fun k hk => .inl hk
theorem KKJ.back {B : Nat} {cs : List Ins} {m n : Nat} {hg hf : Her Pr} {Jg Jf : List Nat} {w0 w : World} {Hg Hf : Nat} {F : Nat → Prop} (g : KKJ B cs m n hg Jg hf Jf w0 Hg Hf F w) : Below B w0 w := g.ks.back
theorem KKJ.le {B : Nat} {cs : List Ins} {m m' n n' : Nat} {hg hf : Her Pr} {Jg Jf : List Nat} {w0 w : World} {Hg Hf : Nat} {F : Nat → Prop} (g : KKJ B cs m n hg Jg hf Jf w0 Hg Hf F w) (hm : m ≤ m') (hn : n ≤ n') : KKJ B cs m' n' hg Jg hf Jf w0 Hg Hf F w := by
  obtain ⟨j, t, hj, gf, of, ks⟩ := g
  exact ⟨j, t, by omega, gf, of, ks.le hm⟩
theorem KKJ.less {B : Nat} {cs : List Ins} {m n : Nat} {hg hf : Her Pr} {Jg Jf : List Nat} {w0 w : World} {Hg Hf : Nat} {F F' : Nat → Prop} (g : KKJ B cs m n hg Jg hf Jf w0 Hg Hf F w) (hF : ∀ k, F' k → F k) : KKJ B cs m n hg Jg hf Jf w0 Hg Hf F' w := by
  obtain ⟨j, t, hj, gf, of, ks⟩ := g
  exact ⟨j, t, hj, gf, fun k hk => ⟨(of k hk).1, fun h => (of k hk).2 (hF k h)⟩, ks.less fun k hk => hk.elim (fun h => .inl (hF k h)) .inr⟩
/-- What lies in F is written, or something new is made. -/
theorem KKJ.fr {B : Nat} {cs : List Ins} {m n : Nat} {hg hf : Her Pr} {Jg Jf : List Nat} {w0 w w' : World} {Hg Hf : Nat} {F S : Nat → Prop} (g : KKJ B cs m n hg Jg hf Jf w0 Hg Hf F w) (hfr : Fr S w w') (hS : ∀ k, S k → k < w.heap.size → F k ∧ B ≤ k) : KKJ B cs m n hg Jg hf Jf w0 Hg Hf (fun k => F k ∨ (w.heap.size ≤ k ∧ k < w'.heap.size)) w' := by
  obtain ⟨j, t, hj, gf, of, ks⟩ := g
  refine ⟨j, t, hj, gf.keep fun k hk => hfr.block k (gf.lt hk) fun hs => (of k hk).2 (hS k hs (gf.lt hk)).1, fun k hk => ⟨(of k hk).1, ?_⟩, (ks.fr hfr fun k hk hl => ⟨.inl (hS k hk hl).1, (hS k hk hl).2⟩).less ?_⟩
  · rintro (h | ⟨h, _⟩)
    · exact (of k hk).2 h
    · have := gf.lt hk
      omega
  · rintro k ((h | h) | h)
    · exact .inl (.inl h)
    · exact .inr h
    · exact .inl (.inr h)
theorem KKJ.more {B : Nat} {cs : List Ins} {m n : Nat} {hg hf : Her Pr} {Jg Jf : List Nat} {w0 w w' : World} {Hg Hf : Nat} {F : Nat → Prop} (g : KKJ B cs m n hg Jg hf Jf w0 Hg Hf F w) (hb : Below w.heap.size w w') : KKJ B cs m n hg Jg hf Jf w0 Hg Hf (fun k => F k ∨ (w.heap.size ≤ k ∧ k < w'.heap.size)) w' :=
  g.fr (Fr.of_below hb) fun _ hk hk2 => by omega
theorem KKJ.below {B : Nat} {cs : List Ins} {m n : Nat} {hg hf : Her Pr} {Jg Jf : List Nat} {w0 w w' : World} {Hg Hf : Nat} {F : Nat → Prop} (g : KKJ B cs m n hg Jg hf Jf w0 Hg Hf F w) (hb : Below w.heap.size w w') : KKJ B cs m n hg Jg hf Jf w0 Hg Hf F w' := (g.more hb).less fun _ hk => .inl hk
theorem KKJ.same {B : Nat} {cs : List Ins} {m n : Nat} {hg hf : Her Pr} {Jg Jf : List Nat} {w0 w w' : World} {Hg Hf : Nat} {F : Nat → Prop} (g : KKJ B cs m n hg Jg hf Jf w0 Hg Hf F w) (hs : SameH w w') : KKJ B cs m n hg Jg hf Jf w0 Hg Hf F w' := g.below (hs.below _)
/-- A step is played with the first of two. -/
theorem kkj_play {B : Nat} {cs : List Ins} {m n : Nat} {hg hf : Her Pr} {Jg Jf : List Nat} {w0 : World} {Hg Hf : Nat} {F : Nat → Prop} (k a b : Int) (w : World) (g : KKJ B cs m n hg Jg hf Jf w0 Hg Hf F w) (hm : m ≤ 1500000) :
    Calls Tryz.prog 6 #[.pointer (some ⟨Hg, 0, none⟩), .agg #[.int .i64 k, .int .i64 a, .int .i64 b]] w fun e w' => e = .returned (ansV (playH cs hg k a b).1) ∧ KKJ B cs (m + 1) n (playH cs hg k a b).2 (playJ cs hg Jg k a b) hf Jf w0 Hg Hf F w' ∧ ∀ x, F x → w'.heap[x]? = w.heap[x]? := by
  obtain ⟨j, t, hj, gf, of, ks⟩ := g
  refine (cj_play k a b w ks hm).mono ?_
  rintro e w' ⟨rfl, g1, g2⟩
  exact ⟨rfl, ⟨j, t, hj, gf.keep fun x hx => g2 x (.inr hx), of, g1⟩, fun x hx => g2 x (.inl hx)⟩
/-- Two heralds, and beside them the blocks of L. -/
structure KLJ (cs : List Ins) (m n : Nat) (hg : Her Pr) (Jg : List Nat) (hf : Her Pr) (Jf : List Nat) (w0 : World) (Hg Hf : Nat) (L : List Bk) (w : World) : Prop where
  kk : KKJ w0.heap.size cs m n hg Jg hf Jf w0 Hg Hf (bkIn L) w
  blk : ∀ x ∈ L, w.heap[x.at']? = some (.cells x.cs x.ty (0, 0)) ∧ w0.heap.size ≤ x.at'
theorem KLJ.swap {cs : List Ins} {m n : Nat} {hg hf : Her Pr} {Jg Jf : List Nat} {w0 w : World} {Hg Hf : Nat} {L : List Bk} (h : KLJ cs m n hg Jg hf Jf w0 Hg Hf L w) : KLJ cs n m hf Jf hg Jg w0 Hf Hg L w := ⟨h.kk.swap, h.blk⟩
theorem KLJ.back {cs : List Ins} {m n : Nat} {hg hf : Her Pr} {Jg Jf : List Nat} {w0 w : World} {Hg Hf : Nat} {L : List Bk} (h : KLJ cs m n hg Jg hf Jf w0 Hg Hf L w) : Below w0.heap.size w0 w := h.kk.back
theorem KLJ.sub {cs : List Ins} {m n : Nat} {hg hf : Her Pr} {Jg Jf : List Nat} {w0 w : World} {Hg Hf : Nat} {L L' : List Bk} (h : KLJ cs m n hg Jg hf Jf w0 Hg Hf L w) (hs : ∀ x ∈ L', x ∈ L) : KLJ cs m n hg Jg hf Jf w0 Hg Hf L' w :=
  ⟨h.kk.less fun _ ⟨x, hx, e⟩ => ⟨x, hs x hx, e⟩, fun x hx => h.blk x (hs x hx)⟩
theorem KLJ.le {cs : List Ins} {m m' n n' : Nat} {hg hf : Her Pr} {Jg Jf : List Nat} {w0 w : World} {Hg Hf : Nat} {L : List Bk} (h : KLJ cs m n hg Jg hf Jf w0 Hg Hf L w) (hm : m ≤ m') (hn : n ≤ n') : KLJ cs m' n' hg Jg hf Jf w0 Hg Hf L w := ⟨h.kk.le hm hn, h.blk⟩
theorem KLJ.below {cs : List Ins} {m n : Nat} {hg hf : Her Pr} {Jg Jf : List Nat} {w0 w w' : World} {Hg Hf : Nat} {L : List Bk} (h : KLJ cs m n hg Jg hf Jf w0 Hg Hf L w) (hb : Below w.heap.size w w') : KLJ cs m n hg Jg hf Jf w0 Hg Hf L w' :=
  ⟨h.kk.below hb, fun x hx => ⟨(hb.block _ (heap_lt (h.blk x hx).1)).trans (h.blk x hx).1, (h.blk x hx).2⟩⟩
theorem KLJ.same {cs : List Ins} {m n : Nat} {hg hf : Her Pr} {Jg Jf : List Nat} {w0 w w' : World} {Hg Hf : Nat} {L : List Bk} (h : KLJ cs m n hg Jg hf Jf w0 Hg Hf L w) (hs : SameH w w') : KLJ cs m n hg Jg hf Jf w0 Hg Hf L w' := h.below (hs.below _)
/-- A block is made. -/
theorem KLJ.new {cs : List Ins} {m n : Nat} {hg hf : Her Pr} {Jg Jf : List Nat} {w0 w : World} {Hg Hf : Nat} {L : List Bk} (h : KLJ cs m n hg Jg hf Jf w0 Hg Hf L w) (c : Array Value) (t : TypeId) : KLJ cs m n hg Jg hf Jf w0 Hg Hf (⟨w.heap.size, c, t⟩ :: L) (w.alloc (.cells c t)) := by
  have hb : Below w.heap.size w (w.alloc (.cells c t)) := (Below.refl _ _).alloc (Nat.le_refl _) _
  have hB := h.kk.ks.B
  refine ⟨(h.kk.more hb).less ?_, ?_⟩
  · rintro k ⟨x, hx, rfl⟩
    rcases List.mem_cons.mp hx with rfl | hx
    · exact .inr ⟨Nat.le_refl _, by simp⟩
    · exact .inl ⟨x, hx, rfl⟩
  · intro x hx
    rcases List.mem_cons.mp hx with rfl | hx
    · exact ⟨heap_alloc_new _ _, hB⟩
    · exact (h.below hb).blk x hx
/-- A block beside is written. -/
theorem KLJ.put {cs : List Ins} {m n : Nat} {hg hf : Her Pr} {Jg Jf : List Nat} {w0 w w' : World} {Hg Hf : Nat} {L : List Bk} {X : Nat} {c c' : Array Value} {t : TypeId} (h : KLJ cs m n hg Jg hf Jf w0 Hg Hf (⟨X, c, t⟩ :: L) w) (hfr : Fr (fun k => k = X) w w') (hX : w'.heap[X]? = some (.cells c' t (0, 0))) (hne : ∀ x ∈ L, x.at' ≠ X) : KLJ cs m n hg Jg hf Jf w0 Hg Hf (⟨X, c', t⟩ :: L) w' := by
  refine ⟨(h.kk.fr hfr ?_).less ?_, ?_⟩
  · intro k hk _
    rw [hk]
    exact ⟨⟨_, List.mem_cons_self .., rfl⟩, (h.blk _ (List.mem_cons_self ..)).2⟩
  · rintro k ⟨x, hx, rfl⟩
    rcases List.mem_cons.mp hx with rfl | hx
    · exact .inl ⟨_, List.mem_cons_self .., rfl⟩
    · exact .inl ⟨x, List.mem_cons_of_mem _ hx, rfl⟩
  · intro x hx
    rcases List.mem_cons.mp hx with rfl | hx
    · exact ⟨hX, (h.blk _ (List.mem_cons_self ..)).2⟩
    · have hb := h.blk x (List.mem_cons_of_mem _ hx)
      exact ⟨(hfr.block _ (heap_lt hb.1) (hne x hx)).trans hb.1, hb.2⟩
/-- A step is played with the first of two. -/
theorem klj_play {cs : List Ins} {m n : Nat} {hg hf : Her Pr} {Jg Jf : List Nat} {w0 w : World} {Hg Hf : Nat} {L : List Bk} (h : KLJ cs m n hg Jg hf Jf w0 Hg Hf L w) (k a b : Int) (hm : m ≤ 1500000) (W : World) (hs : SameH w W) :
    Calls Tryz.prog 6 #[.pointer (some ⟨Hg, 0, none⟩), .agg #[.int .i64 k, .int .i64 a, .int .i64 b]] W fun e w' => e = .returned (.agg #[.int .i64 (playH cs hg k a b).1.1, .int .i64 (playH cs hg k a b).1.2.1.dev, .int .i64 (playH cs hg k a b).1.2.1.run, .int .i64 (playH cs hg k a b).1.2.1.num, .int .i64 (playH cs hg k a b).1.2.1.key, .int .i64 (playH cs hg k a b).1.2.2]) ∧ KLJ cs (m + 1) n (playH cs hg k a b).2 (playJ cs hg Jg k a b) hf Jf w0 Hg Hf L w' := by
  have h1 := h.same hs
  refine (kkj_play k a b W h1.kk hm).mono ?_
  rintro e w' ⟨rfl, g1, g2⟩
  exact ⟨rfl, g1, fun x hx => ⟨(g2 x.at' ⟨x, hx, rfl⟩).trans (h1.blk x hx).1, (h1.blk x hx).2⟩⟩
/-- The same, where the block that takes the answer in was made ahead. -/
theorem klj_play2 {cs : List Ins} {m n : Nat} {hg hf : Her Pr} {Jg Jf : List Nat} {w0 w : World} {Hg Hf : Nat} {L : List Bk} (h : KLJ cs m n hg Jg hf Jf w0 Hg Hf L w) (k a b : Int) (hm : m ≤ 1500000) (W : World) (hs : SameH (w.alloc (.cells #[.int .i64 0, .int .i64 0, .int .i64 0, .int .i64 0, .int .i64 0, .int .i64 0] 32)) W) :
    Calls Tryz.prog 6 #[.pointer (some ⟨Hg, 0, none⟩), .agg #[.int .i64 k, .int .i64 a, .int .i64 b]] W fun e w' => e = .returned (.agg #[.int .i64 (playH cs hg k a b).1.1, .int .i64 (playH cs hg k a b).1.2.1.dev, .int .i64 (playH cs hg k a b).1.2.1.run, .int .i64 (playH cs hg k a b).1.2.1.num, .int .i64 (playH cs hg k a b).1.2.1.key, .int .i64 (playH cs hg k a b).1.2.2]) ∧
      w'.heap[w.heap.size]? = some (.cells #[.int .i64 0, .int .i64 0, .int .i64 0, .int .i64 0, .int .i64 0, .int .i64 0] 32 (0, 0)) ∧
      ∀ o1 o2 o3 o4 o5 o6, KLJ cs (m + 1) n (playH cs hg k a b).2 (playJ cs hg Jg k a b) hf Jf w0 Hg Hf (⟨w.heap.size, #[o1, o2, o3, o4, o5, o6], 32⟩ :: L) ((((((w'.setCell ⟨w.heap.size, 0, none⟩ o1).setCell ⟨w.heap.size, 1, none⟩ o2).setCell ⟨w.heap.size, 2, none⟩ o3).setCell ⟨w.heap.size, 3, none⟩ o4).setCell ⟨w.heap.size, 4, none⟩ o5).setCell ⟨w.heap.size, 5, none⟩ o6) := by
  refine (klj_play (h.new #[.int .i64 0, .int .i64 0, .int .i64 0, .int .i64 0, .int .i64 0, .int .i64 0] 32) k a b hm W hs).mono ?_
  rintro e w' ⟨rfl, g⟩
  have hz := (g.blk _ (List.mem_cons_self ..)).1
  refine ⟨rfl, hz, fun o1 o2 o3 o4 o5 o6 => ?_⟩
  have h6 := set6 (S := fun k => k = w.heap.size) (a := o1) (b := o2) (c := o3) (d := o4) (e := o5) (f := o6) hz rfl
  exact g.put h6.2 h6.1 fun x hx => by have := heap_lt (h.blk x hx).1; omega
end Go.Proofs.YtmmmnghiegajmabGreat
/- A script that is played from the beginning: what it leaves at each step. -/
namespace Go.Proofs.YtmmmnghiegajmabGreat
open Go.RowKit Go.Proofs.Herald
/-- A step's call, as it is written down. -/
def callOf (x : OpK) : Nat × Int × Int :=
  if x.k = 1 then (84, x.a, 0) else if x.k = 2 then (75, x.a, 0) else if x.k = 3 then (65, x.a, x.b) else if x.k = 4 then (67, x.a, 0) else (68, x.a, 0)
/-- The herald, its journal, the calls that were made. -/
def stepS (cs : List Ins) (s : Her Pr × List Nat × List (Nat × Int × Int)) (x : OpK) : Her Pr × List Nat × List (Nat × Int × Int) :=
  ((playH cs s.1 x.k x.a x.b).2, playJ cs s.1 s.2.1 x.k x.a x.b, if (playH cs s.1 x.k x.a x.b).1.2.2 = 0 then s.2.2 ++ [callOf x] else s.2.2)
def scr (cs : List Ins) (ops : List OpK) (s : Her Pr × List Nat × List (Nat × Int × Int)) (i : Nat) : Her Pr × List Nat × List (Nat × Int × Int) := (ops.take i).foldl (stepS cs) s
theorem scr_succ {cs : List Ins} {ops : List OpK} {s : Her Pr × List Nat × List (Nat × Int × Int)} {i : Nat} (hi : i < ops.length) : scr cs ops s (i + 1) = stepS cs (scr cs ops s i) ops[i] := by
  unfold scr
  rw [List.take_succ_eq_append_getElem hi, List.foldl_append, List.foldl_cons, List.foldl_nil]
def rangeO (x : OpK) : Prop := (-9223372036854775808 ≤ x.a ∧ x.a ≤ 9223372036854775807) ∧ -9223372036854775808 ≤ x.b ∧ x.b ≤ 9223372036854775807
theorem Hist.step {cs : List Ins} {s : Her Pr × List Nat × List (Nat × Int × Int)} (H : Hist cs s.2.2 s.1 s.2.1) (x : OpK) (hx : rangeO x) : Hist cs (stepS cs s x).2.2 (stepS cs s x).1 (stepS cs s x).2.1 := by
  obtain ⟨h, J, calls⟩ := s
  obtain ⟨k, a, b⟩ := x
  obtain ⟨ha, hb⟩ := hx
  simp only at H ha hb
  by_cases h0 : (playH cs h k a b).1.2.2 = 0
  · have key : ∀ (c : Nat) (b' : Int), c < 256 → isC c b' = true → (-9223372036854775808 ≤ b' ∧ b' ≤ 9223372036854775807) → playH cs h (kindOf c) a b' = playH cs h k a b → playJ cs h J (kindOf c) a b' = playJ cs h J k a b → callOf ⟨k, a, b⟩ = (c, a, b') → Hist cs (stepS cs (h, J, calls) ⟨k, a, b⟩).2.2 (stepS cs (h, J, calls) ⟨k, a, b⟩).1 (stepS cs (h, J, calls) ⟨k, a, b⟩).2.1 := fun c b' hc hi hb' e1 e2 e3 => by
      have hq : fineC (c, a, b') := ⟨hc, hi, ha, hb'⟩
      have h1 : (playH cs h (kindOf c) a b').1.2.2 = 0 := by rw [e1]; exact h0
      have h2 := Hist.snoc (c, a, b') H hq h1
      have h3 := kind_J (J := J) hq h1
      simp only at h2 h3
      rw [← h3, e1, e2] at h2
      show Hist cs (if (playH cs h k a b).1.2.2 = 0 then calls ++ [callOf ⟨k, a, b⟩] else calls) (playH cs h k a b).2 (playJ cs h J k a b)
      rw [if_pos h0, e3]
      exact h2
    by_cases h1 : k = 1
    · subst h1; exact key 84 0 (by decide) rfl (by omega) rfl rfl rfl
    by_cases h2 : k = 2
    · subst h2; exact key 75 0 (by decide) rfl (by omega) rfl rfl rfl
    by_cases h3 : k = 3
    · subst h3; exact key 65 b (by decide) rfl hb rfl rfl rfl
    by_cases h4 : k = 4
    · subst h4; exact key 67 0 (by decide) rfl (by omega) rfl rfl rfl
    by_cases h5 : k = 5
    · subst h5; exact key 68 0 (by decide) rfl (by omega) rfl rfl rfl
    · exfalso
      unfold playH at h0
      rw [if_neg h1, if_neg h2, if_neg h3, if_neg h4, if_neg h5] at h0
      cases h0
  · obtain ⟨e1, e2⟩ := play_no (J := J) h0
    show Hist cs (if (playH cs h k a b).1.2.2 = 0 then calls ++ [callOf ⟨k, a, b⟩] else calls) (playH cs h k a b).2 (playJ cs h J k a b)
    rw [if_neg h0, e1, e2]
    exact H
theorem Hist.scr {cs : List Ins} {ops : List OpK} {s : Her Pr × List Nat × List (Nat × Int × Int)} (H : Hist cs s.2.2 s.1 s.2.1) (hx : ∀ x ∈ ops, rangeO x) : ∀ i, i ≤ ops.length → Hist cs (scr cs ops s i).2.2 (scr cs ops s i).1 (scr cs ops s i).2.1 := by
  intro i
  induction i with
  | zero => intro _; exact H
  | succ i ih =>
    intro hi
    rw [scr_succ (by omega)]
    exact (ih (by omega)).step _ (hx _ (List.getElem_mem _))
theorem scr_pre {cs : List Ins} {ops : List OpK} {s : Her Pr × List Nat × List (Nat × Int × Int)} (i : Nat) : ∀ j, i + j ≤ ops.length → ∃ X, (scr cs ops s (i + j)).2.2 = (scr cs ops s i).2.2 ++ X := by
  intro j
  induction j with
  | zero => intro _; exact ⟨[], by rw [List.append_nil]; rfl⟩
  | succ j ih =>
    intro hj
    obtain ⟨X, hX⟩ := ih (by omega)
    rw [← Nat.add_assoc, scr_succ (by omega)]
    unfold stepS
    simp only
    split
    · exact ⟨X ++ [callOf _], by rw [hX, List.append_assoc]⟩
    · exact ⟨X, hX⟩
theorem Hist.det {cs : List Ins} {calls : List (Nat × Int × Int)} {h h' : Her Pr} {J J' : List Nat} (H : Hist cs calls h J) (H' : Hist cs calls h' J') : h = h' ∧ J = J' := by
  have e1 := H.opens []
  have e2 := H'.opens []
  rw [e1] at e2
  have e3 : (h, J, calls.length) = (h', J', calls.length) := e2
  simp only [Prod.mk.injEq, and_true] at e3
  exact e3
/-- The script, played till as many calls were made, is as the journal's head done again. -/
theorem scr_head {cs : List Ins} {ops : List OpK} {s : Her Pr × List Nat × List (Nat × Int × Int)} (H : Hist cs s.2.2 s.1 s.2.1) (hx : ∀ x ∈ ops, rangeO x) (i : Nat) (hi : i ≤ ops.length) (n : Nat) (hn : (scr cs ops s i).2.2.length = n) {h : Her Pr} (hh : Hist cs ((scr cs ops s ops.length).2.2.take n) h ((scr cs ops s ops.length).2.1.take (n * 19))) :
    (scr cs ops s i).1 = h ∧ (scr cs ops s i).2.1 = (scr cs ops s ops.length).2.1.take (n * 19) := by
  obtain ⟨X, hX⟩ := scr_pre (cs := cs) (ops := ops) (s := s) i (ops.length - i) (by omega)
  rw [show i + (ops.length - i) = ops.length by omega] at hX
  have e : (scr cs ops s ops.length).2.2.take n = (scr cs ops s i).2.2 := by rw [hX, List.take_left' hn]
  rw [e] at hh
  exact (H.scr hx i hi).det hh
/-- A journal, cut anywhere: its whole records are done again. -/
theorem Hist.cut {cs : List Ins} {calls : List (Nat × Int × Int)} {h : Her Pr} {J : List Nat} (H : Hist cs calls h J) (c : Nat) (hc : c ≤ J.length) : ∃ h', Hist cs (calls.take (c / 19)) h' (J.take (c / 19 * 19)) ∧ openS cs (chunks (J.take c) 0 ((J.take c).length / 19)) newH [] 0 = (h', J.take (c / 19 * 19), c / 19) := by
  have hl := H.len
  have hn : c / 19 ≤ calls.length := by omega
  obtain ⟨h', H'⟩ := H.pre (c / 19) hn
  refine ⟨h', H', ?_⟩
  have lc : (J.take c).length = c := by rw [List.length_take]; omega
  have ef := H'.flat
  have rl : ∀ r ∈ (calls.take (c / 19)).map rec3, r.length = 19 := fun r hr => by obtain ⟨q, _, rfl⟩ := List.mem_map.mp hr; exact rec3_len q
  have e1 : J.take c = ((calls.take (c / 19)).map rec3).flatten ++ (J.take c).drop (c / 19 * 19) := by
    rw [← ef]
    have e2 : (J.take c).take (c / 19 * 19) = J.take (c / 19 * 19) := by rw [List.take_take, Nat.min_eq_left (by omega)]
    rw [← e2, List.take_append_drop]
  have lr : ((calls.take (c / 19)).map rec3).length = c / 19 := by rw [List.length_map, List.length_take]; omega
  have e3 : chunks (J.take c) 0 (c / 19) = (calls.take (c / 19)).map rec3 := by
    have key : ∀ (Rs : List (List Nat)), (∀ r ∈ Rs, r.length = 19) → ∀ (A T : List Nat) (i : Nat), A.length = i * 19 → chunks (A ++ (Rs.flatten ++ T)) i Rs.length = Rs := by
      intro Rs
      induction Rs with
      | nil => intro _ A T i _; rfl
      | cons r Rs ih =>
        intro hR A T i hA
        have hr := hR r (List.mem_cons_self ..)
        have k1 : chunk (A ++ ((r :: Rs).flatten ++ T)) i = r := by
          unfold chunk
          rw [List.drop_left' hA, List.flatten_cons, List.append_assoc, List.take_left' hr]
        have k2 : A ++ ((r :: Rs).flatten ++ T) = (A ++ r) ++ (Rs.flatten ++ T) := by rw [List.flatten_cons, List.append_assoc, List.append_assoc]
        rw [List.length_cons]
        show chunk (A ++ ((r :: Rs).flatten ++ T)) i :: chunks (A ++ ((r :: Rs).flatten ++ T)) (i + 1) Rs.length = r :: Rs
        rw [k1, k2, ih (fun x hx => hR x (List.mem_cons_of_mem _ hx)) (A ++ r) T (i + 1) (by rw [List.length_append, hA, hr]; omega)]
    have k3 := key ((calls.take (c / 19)).map rec3) rl [] ((J.take c).drop (c / 19 * 19)) 0 rfl
    rw [List.nil_append, ← e1, lr] at k3
    exact k3
  rw [lc, e3]
  have e4 := H'.opens []
  rw [List.append_nil] at e4
  rw [e4, List.length_take]
  show (h', J.take (c / 19 * 19), _) = _
  rw [Nat.min_eq_left hn]
end Go.Proofs.YtmmmnghiegajmabGreat
/- Two games; one of their heralds is opened from a journal, or begun anew. -/
namespace Go.Proofs.YtmmmnghiegajmabGreat
open Go.RowKit Go.Proofs.Herald
def gmBk (G H : Nat) (cv : Value) : Bk := ⟨G, #[.pointer (some ⟨H, 0, none⟩), cv], 37⟩
def anBk (Y : Nat) (P : Int × Msg × Int) : Bk := ⟨Y, #[.int .i64 P.1, .int .i64 P.2.1.dev, .int .i64 P.2.1.run, .int .i64 P.2.1.num, .int .i64 P.2.1.key, .int .i64 P.2.2], 32⟩
/-- A row as blocks that are known. -/
theorem row_bk {w : World} {B k n : Nat} {e : TypeId} {v : Value} {xs : List Value} (h : w.ownsRow B e k v n xs) : ∃ Lc : List Bk, (∀ x ∈ Lc, w.heap[x.at']? = some (.cells x.cs x.ty (0, 0)) ∧ v.ownBlock = some x.at') ∧ ∀ w' : World, (∀ x ∈ Lc, w'.heap[x.at']? = some (.cells x.cs x.ty (0, 0))) → w'.ownsRow B e k v n xs := by
  rcases h with ⟨h0, h | ⟨g, c, cur, h1, h2, h3, h4⟩⟩
  · exact ⟨[], fun x hx => (by cases hx), fun w' _ => ⟨h0, .inl h⟩⟩
  · refine ⟨[⟨g, cur, e⟩], fun x hx => ?_, fun w' hw => ⟨h0, .inr ⟨g, c, cur, h1, h2, hw ⟨g, cur, e⟩ (List.mem_singleton.mpr rfl), h4⟩⟩⟩
    rw [List.mem_singleton.mp hx]
    exact ⟨h3, by rw [h1]; rfl⟩
theorem klj_two {cs : List Ins} {h1 : Her Pr} {J1 : List Nat} {w0 w1 w2 w3 w4 : World} {G1 H1 G2 H2 : Nat} {cv1 cv2 : Value} {s1 s2 : HS} (hg1 : Game w1.heap.size cs 1 h1 w2 G1 H1 cv1 s1) (gj1 : GJ cs 1 h1 J1 w2 H1 s1) (b2 : Below w1.heap.size w1 w2) (b3 : Below w2.heap.size w2 w3) (hg2 : Game w3.heap.size cs 1 h1 w4 G2 H2 cv2 s2) (gj2 : GJ cs 1 h1 J1 w4 H2 s2) (b4 : Below w3.heap.size w3 w4) (h0 : Below w0.heap.size w0 w1) :
    ∃ Lc : List Bk, KLJ cs 1 1 h1 J1 h1 J1 w0 H1 H2 (gmBk G1 H1 cv1 :: gmBk G2 H2 cv2 :: Lc) w4 ∧ (∀ w' : World, (∀ x ∈ Lc, w'.heap[x.at']? = some (.cells x.cs x.ty (0, 0))) → w'.ownsRow 0 117 4 cv1 cs.length (codeCells cs)) ∧ (∀ x ∈ gmBk G1 H1 cv1 :: Lc, x.at' ≠ G2) := by
  have z0 := h0.size
  have z2 := b2.size
  have z3 := b3.size
  have z4 := b4.size
  have b24 : Below w2.heap.size w2 w4 := b3.trans (b4.mono z3)
  have hG1l := heap_lt hg1.g
  have hG2l := heap_lt hg2.g
  have hB1 := hg1.B
  have hB2 := hg2.B
  have own1 : ∀ k, s1.own H1 k → k < w2.heap.size := fun k hk => gj1.lt hk
  obtain ⟨Lc, hLc, hrow⟩ := row_bk (own0 hg1.row)
  have lc1 : ∀ x ∈ Lc, x.at' < w2.heap.size := fun x hx => heap_lt (hLc x hx).1
  have lcB : ∀ x ∈ Lc, w1.heap.size ≤ x.at' := fun x hx => (hg1.row.lt x.at' (hLc x hx).2).1
  have hF : ∀ k, bkIn (gmBk G1 H1 cv1 :: gmBk G2 H2 cv2 :: Lc) k → k = G1 ∨ k = G2 ∨ ∃ x ∈ Lc, x.at' = k := by
    rintro k ⟨x, hx, rfl⟩
    rcases List.mem_cons.mp hx with rfl | hx
    · exact .inl rfl
    · rcases List.mem_cons.mp hx with rfl | hx
      · exact .inr (.inl rfl)
      · exact .inr (.inr ⟨x, hx, rfl⟩)
  refine ⟨Lc, ⟨⟨1, s2, Nat.le_refl _, gj2, fun k hk => ⟨by have := (hg2.own k hk).1; omega, fun hf => ?_⟩, 1, s1, Nat.le_refl _, gj1.keep fun k hk => b24.block k (own1 k hk), fun k hk => ⟨by have := (hg1.own k hk).1; omega, ?_⟩, ?_, (h0.trans (b2.mono z0)).trans (b24.mono (by omega)), by omega⟩, fun x hx => ?_⟩, hrow, fun x hx => ?_⟩
  · have hk2 := (hg2.own k hk).1
    rcases hF k hf with rfl | rfl | ⟨x, hx, rfl⟩
    · omega
    · exact (hg2.own _ hk).2 rfl
    · have := lc1 x hx; omega
  · rintro (hf | ho)
    · have hk2 := own1 k hk
      rcases hF k hf with rfl | rfl | ⟨x, hx, rfl⟩
      · exact (hg1.own _ hk).2 rfl
      · omega
      · exact hg1.cvo _ (hLc x hx).2 hk
    · have := own1 k hk
      have := (hg2.own k ho).1
      omega
  · rintro k (hf | ho)
    · rcases hF k hf with rfl | rfl | ⟨x, hx, rfl⟩
      · omega
      · exact hG2l
      · have := lc1 x hx; omega
    · exact gj2.lt ho
  · rcases List.mem_cons.mp hx with rfl | hx
    · exact ⟨(b24.block G1 hG1l).trans hg1.g, by show w0.heap.size ≤ G1; omega⟩
    · rcases List.mem_cons.mp hx with rfl | hx
      · exact ⟨hg2.g, by show w0.heap.size ≤ G2; omega⟩
      · exact ⟨(b24.block _ (lc1 x hx)).trans (hLc x hx).1, by have := lcB x hx; omega⟩
  · rcases List.mem_cons.mp hx with rfl | hx
    · show G1 ≠ G2
      omega
    · have := lc1 x hx
      omega
/-- A journal is opened, in the place of the first of two. -/
theorem klj_Open {cs : List Ins} {m n : Nat} {hg hf : Her Pr} {Jg Jf : List Nat} {w0 w : World} {Hg Hf : Nat} {L : List Bk} (kl : KLJ cs m n hg Jg hf Jf w0 Hg Hf L w) {ca : Option Addr} {ccap : Nat} (X : List Nat) (hX : ∀ x ∈ X, x < 256) (hl : X.length ≤ 20000000) (hrow : w.ownsRow 0 117 4 (.slice ca cs.length ccap) cs.length (codeCells cs)) (hs : soundL cs = true) :
    Calls Tryz.prog 9 #[.slice ca cs.length ccap, .string (strN X)] w fun e w' => ∃ (H : Nat) (m' : Nat), e = .returned (.tuple #[.pointer (some ⟨H, 0, none⟩), .int .i64 ((openS cs (chunks X 0 (X.length / 19)) newH [] 0).2.2 : Nat), .int .i64 0]) ∧ m' ≤ X.length / 19 ∧ KLJ cs m' n (openS cs (chunks X 0 (X.length / 19)) newH [] 0).1 (openS cs (chunks X 0 (X.length / 19)) newH [] 0).2.1 hf Jf w0 H Hf L w' := by
  obtain ⟨⟨j, t, hj, gf, of, kj⟩, blk⟩ := kl
  refine (x_Open X hX hl w w0 (fun k => bkIn L k ∨ t.own Hf k) hrow hs (fun k hk => kj.lt hk) kj.back).mono ?_
  rintro e w' ⟨H, m', rfl, hm, k2, p2⟩
  exact ⟨H, m', rfl, hm, ⟨j, t, hj, gf.keep fun k hk => p2 k (.inr hk), of, k2⟩, fun x hx => ⟨(p2 _ (.inl ⟨x, hx, rfl⟩)).trans (blk x hx).1, (blk x hx).2⟩⟩
/-- A herald is begun, in the place of the second of two. -/
theorem klj_New {cs : List Ins} {m n : Nat} {hg hf : Her Pr} {Jg Jf : List Nat} {w0 w : World} {Hg Hf : Nat} {L : List Bk} (kl : KLJ cs m n hg Jg hf Jf w0 Hg Hf L w) {ca : Option Addr} {ccap : Nat} (hrow : w.ownsRow 0 117 4 (.slice ca cs.length ccap) cs.length (codeCells cs)) (hs : soundL cs = true) :
    Calls Tryz.prog 10 #[.slice ca cs.length ccap] w fun e w' => ∃ H : Nat, e = .returned (.tuple #[.pointer (some ⟨H, 0, none⟩), .int .i64 0]) ∧ KLJ cs m 0 hg Jg newH [] w0 Hg H L w' := by
  obtain ⟨⟨j, t, hj, gf, of, kj⟩, blk⟩ := kl.swap
  refine (c_New_any hrow hs).mono ?_
  rintro e w1 ⟨H, v, rfl, hH, hHb, hvo, b1⟩
  have z := b1.size
  have zb := kj.back.size
  refine ⟨H, rfl, KLJ.swap ⟨⟨j, t, hj, gf.keep fun k hk => b1.block k (gf.lt hk), of, 0, _, Nat.le_refl _, GJ.new hs hHb (own0 hvo), fun k hk => ?_, fun k hk => by have := kj.lt hk; omega, kj.back.trans (b1.mono zb), by omega⟩, fun x hx => ⟨(b1.block _ (heap_lt (blk x hx).1)).trans (blk x hx).1, (blk x hx).2⟩⟩⟩
  have hge : w.heap.size ≤ k := by
    rcases hk with hk | hk | hk
    · rcases hk with rfl | ⟨d, hd⟩ | hk
      · exact hH
      · simp [Value.ownBlock] at hd
      · simp [Value.ownBlock] at hk
    · simp [Value.ownBlock] at hk
    · exact (hvo.lt k hk).1
  exact ⟨by omega, fun hf => by have := kj.lt hf; omega⟩
theorem KLJ.kj {cs : List Ins} {m n : Nat} {hg hf : Her Pr} {Jg Jf : List Nat} {w0 w : World} {Hg Hf : Nat} {L : List Bk} (kl : KLJ cs m n hg Jg hf Jf w0 Hg Hf L w) : KJ w0.heap.size cs m hg Jg w0 Hg (bkIn L) w := kl.kk.ks
theorem KLJ.game {cs : List Ins} {m n : Nat} {hg hf : Her Pr} {Jg Jf : List Nat} {w0 w : World} {Hg Hf : Nat} {L : List Bk} (h : KLJ cs m n hg Jg hf Jf w0 Hg Hf L w) {G H : Nat} {cv : Value} (hm : gmBk G H cv ∈ L) : w.cell? ⟨G, 0, none⟩ = some (.pointer (some ⟨H, 0, none⟩)) ∧ w.cell? ⟨G, 1, none⟩ = some cv ∧ w.frozen? ⟨G, 0, none⟩ = false ∧ G < w.heap.size :=
  ⟨(cell_of_heap (h.blk _ hm).1).trans rfl, (cell_of_heap (h.blk _ hm).1).trans rfl, free_of_heap (h.blk _ hm).1, heap_lt (h.blk _ hm).1⟩
theorem KLJ.ans {cs : List Ins} {m n : Nat} {hg hf : Her Pr} {Jg Jf : List Nat} {w0 w : World} {Hg Hf : Nat} {L : List Bk} (h : KLJ cs m n hg Jg hf Jf w0 Hg Hf L w) {Y : Nat} {P : Int × Msg × Int} (hm : anBk Y P ∈ L) : (w.cell? ⟨Y, 0, none⟩ = some (.int .i64 P.1) ∧ w.cell? ⟨Y, 1, none⟩ = some (.int .i64 P.2.1.dev) ∧ w.cell? ⟨Y, 2, none⟩ = some (.int .i64 P.2.1.run) ∧ w.cell? ⟨Y, 3, none⟩ = some (.int .i64 P.2.1.num) ∧ w.cell? ⟨Y, 4, none⟩ = some (.int .i64 P.2.1.key) ∧ w.cell? ⟨Y, 5, none⟩ = some (.int .i64 P.2.2)) ∧ Y < w.heap.size := by
  have h1 := cells_of6 (h.blk _ hm).1
  exact ⟨h1.1, h1.2.2⟩
end Go.Proofs.YtmmmnghiegajmabGreat
