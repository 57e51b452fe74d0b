import Derived.Test.YtmmmnghiegajmabGreatM10
/- Words, by their bytes alone, spell a tree over any other text that has the words of statements; a text of such words has no fault, and its tree is like that one. -/
namespace Go.Proofs.Herald
/-- How a statement's first words, by their bytes, spell its head; t: some text, where the head's word stands. -/
def HdW (t : ByteArray) (uo : List (List UInt8)) (h : Hd) (f : Nat) : Prop :=
  (∃ q, uo = [kSend, q] ∧ f = 0 ∧ bytesOf t h.p = kSend ∧ h.key = keyL q ∧ h.n = 0 ∧ h.m = 0 ∧ 0 ≤ keyL q) ∨
  (∃ q, uo = [kWait, q] ∧ f = 0 ∧ bytesOf t h.p = kWait ∧ h.key = 0 ∧ h.n = numL q ∧ h.m = 0 ∧ 1 ≤ numL q ∧ numL q ≤ 999) ∨
  (uo = [kStop] ∧ f = 0 ∧ bytesOf t h.p = kStop ∧ h.key = 0 ∧ h.n = 0 ∧ h.m = 0) ∨
  (∃ q r, uo = [kAsk, q, r] ∧ f = 2 ∧ bytesOf t h.p = kAsk ∧ h.key = keyL q ∧ h.n = numL r ∧ h.m = 0 ∧ 0 ≤ keyL q ∧ 1 ≤ numL r ∧ numL r ≤ 999) ∨
  (∃ q r s, uo = [kRetry, q, r, s] ∧ f = 2 ∧ bytesOf t h.p = kRetry ∧ h.key = keyL r ∧ h.n = numL s ∧ h.m = numL q ∧ 0 ≤ keyL r ∧ 1 ≤ numL s ∧ numL s ≤ 999 ∧ 1 ≤ numL q ∧ numL q ≤ 6) ∨
  (∃ q, uo = [kRepeat, q] ∧ f = 1 ∧ bytesOf t h.p = kRepeat ∧ h.key = 0 ∧ h.n = numL q ∧ h.m = 0 ∧ 1 ≤ numL q ∧ numL q ≤ 9)
def AL (t : ByteArray) {T : Type} (sub : List (List UInt8) → T → Prop) (nil : T) : List (List UInt8) → List (Hd × T × T) → Prop
  | us, [] => us = []
  | us, x :: r => ∃ uo ub ur f, us = uo ++ (ub ++ ur) ∧ HdW t uo x.1 f ∧ AL t sub nil ur r ∧
      ((f = 0 ∧ ub = [] ∧ x.2.1 = nil ∧ x.2.2 = nil) ∨
       (∃ ua, ¬ f = 0 ∧ ub = kOpen :: (ua ++ [kShut]) ∧ sub ua x.2.1 ∧ x.2.2 = nil) ∨
       (∃ ua ua2, f = 2 ∧ ub = kOpen :: (ua ++ kShut :: kElse :: kOpen :: (ua2 ++ [kShut])) ∧ sub ua x.2.1 ∧ sub ua2 x.2.2))
/-- The words' bytes spell the tree. -/
def AG (t : ByteArray) : (d : Nat) → List (List UInt8) → Tree d → Prop
  | 0, us, _ => us = []
  | d + 1, us, l => AL t (AG t d) (nilT d) us l
/-- Two heads are alike, each in its text. -/
def HdSh (t t' : ByteArray) (h h' : Hd) : Prop := bytesOf t h.p = bytesOf t' h'.p ∧ h.key = h'.key ∧ h.n = h'.n ∧ h.m = h'.m
def ShL {T : Type} (t t' : ByteArray) (sub : T → T → Prop) : List (Hd × T × T) → List (Hd × T × T) → Prop
  | [], [] => True
  | x :: l, y :: m => HdSh t t' x.1 y.1 ∧ sub x.2.1 y.2.1 ∧ sub x.2.2 y.2.2 ∧ ShL t t' sub l m
  | _, _ => False
/-- Two trees are alike. -/
def ShT (t t' : ByteArray) : (d : Nat) → Tree d → Tree d → Prop
  | 0, _, _ => True
  | d + 1, l, m => ShL t t' (ShT t t' d) l m
theorem ShT.nil (t t' : ByteArray) (d : Nat) : ShT t t' d (nilT d) (nilT d) := by
  cases d with
  | zero => trivial
  | succ d => trivial
theorem map_one {α β : Type} {f : α → β} {l : List α} {a : β} {r : List β} (h : l.map f = a :: r) : ∃ x m, l = x :: m ∧ f x = a ∧ m.map f = r := by
  cases l with
  | nil => simp at h
  | cons x m =>
    simp only [List.map_cons, List.cons.injEq] at h
    exact ⟨x, m, rfl, h.1, h.2⟩
theorem map_two {α β : Type} {f : α → β} {l : List α} {a b : List β} (h : l.map f = a ++ b) : ∃ x y, l = x ++ y ∧ x.map f = a ∧ y.map f = b := by
  obtain ⟨x, y, h1, h2, h3⟩ := List.map_eq_append_iff.mp h
  exact ⟨x, y, h1, h2, h3⟩
theorem map_end {α β : Type} {f : α → β} {l : List α} (h : l.map f = []) : l = [] := List.map_eq_nil_iff.mp h
/-- A head that is spelled, in the text itself. -/
theorem HdW.lift {t t' : ByteArray} {uo : List (List UInt8)} {h' : Hd} {f : Nat} (h : HdW t' uo h' f) {wo : List (Nat × Nat)} (hm : wo.map (bytesOf t) = uo) : ∃ x, HdOk t wo x f ∧ plainW t wo ∧ HdSh t t' x h' ∧ GoodHd t x ∧ 0 ≤ x.key ∧ x.key ≤ 7 := by
  have kb := fun q => (keyL_bound q).2
  rcases h with ⟨q, rfl, rfl, hb, h1, h2, h3, h4⟩ | ⟨q, rfl, rfl, hb, h1, h2, h3, h4, h5⟩ | ⟨rfl, rfl, hb, h1, h2, h3⟩ | ⟨q, r, rfl, rfl, hb, h1, h2, h3, h4, h5, h6⟩ | ⟨q, r, s, rfl, rfl, hb, h1, h2, h3, h4, h5, h6, h7, h8⟩ | ⟨q, rfl, rfl, hb, h1, h2, h3, h4, h5⟩
  · obtain ⟨p, m, rfl, e1, hm⟩ := map_one hm
    obtain ⟨p2, m, rfl, e2, hm⟩ := map_one hm
    obtain rfl := map_end hm
    refine ⟨⟨p, keyL (bytesOf t p2), 0, 0⟩, .inl ⟨p, p2, rfl, rfl, e1, rfl⟩, fun z hz => ?_, ⟨e1.trans hb.symm, by rw [e2, h1], h2.symm, h3.symm⟩, .inl ⟨e1, rfl, rfl⟩, by rw [e2]; exact h4, kb _⟩
    rcases List.mem_cons.mp hz with rfl | hz
    · rw [e1]; decide
    · rw [List.mem_singleton.mp hz, e2]; exact key_plain h4
  · obtain ⟨p, m, rfl, e1, hm⟩ := map_one hm
    obtain ⟨p2, m, rfl, e2, hm⟩ := map_one hm
    obtain rfl := map_end hm
    refine ⟨⟨p, 0, numL (bytesOf t p2), 0⟩, .inr (.inl ⟨p, p2, rfl, rfl, e1, rfl⟩), fun z hz => ?_, ⟨e1.trans hb.symm, h1.symm, by rw [e2, h2], h3.symm⟩, .inr (.inl ⟨e1, by rw [e2]; exact h4, by rw [e2]; exact h5, rfl, rfl⟩), Int.le_refl _, by show (0 : Int) ≤ 7; decide⟩
    rcases List.mem_cons.mp hz with rfl | hz
    · rw [e1]; decide
    · rw [List.mem_singleton.mp hz, e2]; exact num_plain (by omega)
  · obtain ⟨p, m, rfl, e1, hm⟩ := map_one hm
    obtain rfl := map_end hm
    refine ⟨⟨p, 0, 0, 0⟩, .inr (.inr (.inl ⟨p, rfl, rfl, e1, rfl⟩)), fun z hz => ?_, ⟨e1.trans hb.symm, h1.symm, h2.symm, h3.symm⟩, .inr (.inr (.inl ⟨e1, rfl, rfl, rfl⟩)), Int.le_refl _, by show (0 : Int) ≤ 7; decide⟩
    rw [List.mem_singleton.mp hz, e1]; decide
  · obtain ⟨p, m, rfl, e1, hm⟩ := map_one hm
    obtain ⟨p2, m, rfl, e2, hm⟩ := map_one hm
    obtain ⟨p3, m, rfl, e3, hm⟩ := map_one hm
    obtain rfl := map_end hm
    refine ⟨⟨p, keyL (bytesOf t p2), numL (bytesOf t p3), 0⟩, .inr (.inr (.inr (.inl ⟨p, p2, p3, rfl, rfl, e1, rfl⟩))), fun z hz => ?_, ⟨e1.trans hb.symm, by rw [e2, h1], by rw [e3, h2], h3.symm⟩, .inr (.inr (.inr (.inl ⟨e1, by rw [e3]; exact h5, by rw [e3]; exact h6, rfl⟩))), by rw [e2]; exact h4, kb _⟩
    rcases List.mem_cons.mp hz with rfl | hz
    · rw [e1]; decide
    · rcases List.mem_cons.mp hz with rfl | hz
      · rw [e2]; exact key_plain h4
      · rw [List.mem_singleton.mp hz, e3]; exact num_plain (by omega)
  · obtain ⟨p, m, rfl, e1, hm⟩ := map_one hm
    obtain ⟨p2, m, rfl, e2, hm⟩ := map_one hm
    obtain ⟨p3, m, rfl, e3, hm⟩ := map_one hm
    obtain ⟨p4, m, rfl, e4, hm⟩ := map_one hm
    obtain rfl := map_end hm
    refine ⟨⟨p, keyL (bytesOf t p3), numL (bytesOf t p4), numL (bytesOf t p2)⟩, .inr (.inr (.inr (.inr (.inl ⟨p, p2, p3, p4, rfl, rfl, e1, rfl⟩)))), fun z hz => ?_, ⟨e1.trans hb.symm, by rw [e3, h1], by rw [e4, h2], by rw [e2, h3]⟩, .inr (.inr (.inr (.inr (.inl ⟨e1, by rw [e4]; exact h5, by rw [e4]; exact h6, by rw [e2]; exact h7, by rw [e2]; exact h8⟩)))), by rw [e3]; exact h4, kb _⟩
    rcases List.mem_cons.mp hz with rfl | hz
    · rw [e1]; decide
    · rcases List.mem_cons.mp hz with rfl | hz
      · rw [e2]; exact num_plain (by omega)
      · rcases List.mem_cons.mp hz with rfl | hz
        · rw [e3]; exact key_plain h4
        · rw [List.mem_singleton.mp hz, e4]; exact num_plain (by omega)
  · obtain ⟨p, m, rfl, e1, hm⟩ := map_one hm
    obtain ⟨p2, m, rfl, e2, hm⟩ := map_one hm
    obtain rfl := map_end hm
    refine ⟨⟨p, 0, numL (bytesOf t p2), 0⟩, .inr (.inr (.inr (.inr (.inr ⟨p, p2, rfl, rfl, e1, rfl⟩)))), fun z hz => ?_, ⟨e1.trans hb.symm, h1.symm, by rw [e2, h2], h3.symm⟩, .inr (.inr (.inr (.inr (.inr ⟨e1, by rw [e2]; exact h4, by rw [e2]; exact h5, rfl, rfl⟩)))), Int.le_refl _, by show (0 : Int) ≤ 7; decide⟩
    rcases List.mem_cons.mp hz with rfl | hz
    · rw [e1]; decide
    · rw [List.mem_singleton.mp hz, e2]; exact num_plain (by omega)
/-- What the words of a text spell. -/
def Lifts (t t' : ByteArray) (d : Nat) (ws : List (Nat × Nat)) (y : Tree d) : Prop := ∃ x : Tree d, GT t d ws x ∧ ShT t t' d x y ∧ GoodT t d x ∧ KeysT t d x
theorem AL.lift {t t' : ByteArray} {d : Nat} (hs : ∀ us (y : Tree d), AG t' d us y → ∀ ws, ws.map (bytesOf t) = us → Lifts t t' d ws y) : ∀ (l : List (Hd × Tree d × Tree d)) (us : List (List UInt8)), AL t' (AG t' d) (nilT d) us l → ∀ ws : List (Nat × Nat), ws.map (bytesOf t) = us →
    ∃ l' : List (Hd × Tree d × Tree d), GL t (GT t d) (nilT d) ws l' ∧ ShL t t' (ShT t t' d) l' l ∧ (∀ x ∈ l', GoodHd t x.1 ∧ GoodT t d x.2.1 ∧ GoodT t d x.2.2) ∧ ∀ x ∈ l', (0 ≤ x.1.key ∧ x.1.key ≤ 7) ∧ KeysT t d x.2.1 ∧ KeysT t d x.2.2 := by
  intro l
  have gn : GoodT t d (nilT d) := by cases d with | zero => trivial | succ d => intro x hx; cases hx
  have kn : KeysT t d (nilT d) := by cases d with | zero => trivial | succ d => intro x hx; cases hx
  induction l with
  | nil =>
    intro us h ws hm
    have h' : us = [] := h
    subst h'
    obtain rfl := map_end hm
    exact ⟨[], rfl, trivial, fun x hx => (by cases hx), fun x hx => (by cases hx)⟩
  | cons y r ih =>
    intro us h ws hm
    obtain ⟨uo, ub, ur, f, rfl, hh, hr, hb⟩ := h
    obtain ⟨wo, w2, rfl, m1, hm⟩ := map_two hm
    obtain ⟨wb, wr, rfl, m2, m3⟩ := map_two hm
    obtain ⟨x, x1, x2, x3, x4, x5, x6⟩ := hh.lift m1
    obtain ⟨l', g1, g2, g3, g4⟩ := ih ur hr wr m3
    have hd := g1.head
    have fin : ∀ a b : Tree d, GL t (GT t d) (nilT d) (wo ++ (wb ++ wr)) ((x, a, b) :: l') → ShT t t' d a y.2.1 → ShT t t' d b y.2.2 → GoodT t d a → GoodT t d b → KeysT t d a → KeysT t d b →
        ∃ l' : List (Hd × Tree d × Tree d), GL t (GT t d) (nilT d) (wo ++ (wb ++ wr)) l' ∧ ShL t t' (ShT t t' d) l' (y :: r) ∧ (∀ x ∈ l', GoodHd t x.1 ∧ GoodT t d x.2.1 ∧ GoodT t d x.2.2) ∧ ∀ x ∈ l', (0 ≤ x.1.key ∧ x.1.key ≤ 7) ∧ KeysT t d x.2.1 ∧ KeysT t d x.2.2 := fun a b hg s1 s2 ga gb ka kb =>
      ⟨(x, a, b) :: l', hg, ⟨x3, s1, s2, g2⟩, fun z hz => by
        rcases List.mem_cons.mp hz with rfl | hz
        · exact ⟨x4, ga, gb⟩
        · exact g3 z hz, fun z hz => by
        rcases List.mem_cons.mp hz with rfl | hz
        · exact ⟨⟨x5, x6⟩, ka, kb⟩
        · exact g4 z hz⟩
    rcases hb with ⟨h0, rfl, e1, e2⟩ | ⟨ua, h0, rfl, ha, e2⟩ | ⟨ua, ua2, h0, rfl, ha, ha2⟩
    · obtain rfl := map_end m2
      refine fin (nilT d) (nilT d) ⟨wo, [], wr, f, rfl, x1, x2, g1, .inl ⟨h0, rfl, rfl, rfl, hd.1⟩⟩ ?_ ?_ gn gn kn kn
      · rw [e1]; exact ShT.nil _ _ _
      · rw [e2]; exact ShT.nil _ _ _
    · obtain ⟨o, m, rfl, o1, m2⟩ := map_one m2
      obtain ⟨wa, wc, rfl, m4, m2⟩ := map_two m2
      obtain ⟨c, m, rfl, c1, m2⟩ := map_one m2
      obtain rfl := map_end m2
      obtain ⟨a, a1, a2, a3, a4⟩ := hs ua _ ha wa m4
      refine fin a (nilT d) ⟨wo, _, wr, f, rfl, x1, x2, g1, .inr (.inl ⟨o, wa, c, h0, rfl, o1, c1, a1, rfl, hd.2⟩)⟩ a2 ?_ a3 gn a4 kn
      rw [e2]; exact ShT.nil _ _ _
    · obtain ⟨o, m, rfl, o1, m2⟩ := map_one m2
      obtain ⟨wa, wc, rfl, m4, m2⟩ := map_two m2
      obtain ⟨c, m, rfl, c1, m2⟩ := map_one m2
      obtain ⟨e, m, rfl, e1, m2⟩ := map_one m2
      obtain ⟨o2, m, rfl, o3, m2⟩ := map_one m2
      obtain ⟨wa2, wc2, rfl, m5, m2⟩ := map_two m2
      obtain ⟨c2, m, rfl, c3, m2⟩ := map_one m2
      obtain rfl := map_end m2
      obtain ⟨a, a1, a2, a3, a4⟩ := hs ua _ ha wa m4
      obtain ⟨b, b1, b2, b3, b4⟩ := hs ua2 _ ha2 wa2 m5
      exact fin a b ⟨wo, _, wr, f, rfl, x1, x2, g1, .inr (.inr ⟨o, wa, c, e, o2, wa2, c2, h0, rfl, o1, c1, e1, o3, c3, a1, b1⟩)⟩ a2 b2 a3 b3 a4 b4
theorem AG.lift {t t' : ByteArray} : ∀ (d : Nat) (us : List (List UInt8)) (y : Tree d), AG t' d us y → ∀ ws, ws.map (bytesOf t) = us → Lifts t t' d ws y := by
  intro d
  induction d with
  | zero =>
    intro us y h ws hm
    have h' : us = [] := h
    subst h'
    obtain rfl := map_end hm
    exact ⟨(), rfl, trivial, trivial, trivial⟩
  | succ d ih =>
    intro us y h ws hm
    obtain ⟨l', h1, h2, h3, h4⟩ := AL.lift ih y us h ws hm
    exact ⟨l', h1, h2, h3, h4⟩
/-- How deep the braces go. -/
theorem deep_one {t : ByteArray} {p : Nat × Nat} {u : List (Nat × Nat)} {n : Int} (h : ¬ bytesOf t p = kOpen ∧ ¬ bytesOf t p = kShut) : deepL t (p :: u) n = deepL t u n := by
  unfold kOpen kShut at h
  rw [deepL, if_neg h.1, if_neg h.2]
theorem deep_plain {t : ByteArray} {u : List (Nat × Nat)} {n : Int} : ∀ {wo : List (Nat × Nat)}, plainW t wo → deepL t (wo ++ u) n = deepL t u n := by
  intro wo
  induction wo with
  | nil => intro _; rfl
  | cons p r ih => intro h; exact (deep_one (h p (List.mem_cons_self ..))).trans (ih fun q hq => h q (List.mem_cons_of_mem _ hq))
theorem deep_open {t : ByteArray} {o : Nat × Nat} {u : List (Nat × Nat)} {n : Int} (h : bytesOf t o = kOpen) (hn : n < 4) : deepL t (o :: u) n = deepL t u (n + 1) := by
  unfold kOpen at h
  rw [deepL, if_pos h, if_neg (by omega)]
theorem deep_shut {t : ByteArray} {o : Nat × Nat} {u : List (Nat × Nat)} {n : Int} (h : bytesOf t o = kShut) : deepL t (o :: u) n = deepL t u (n - 1) := by
  unfold kShut at h
  rw [deepL, if_neg (by rw [h]; decide), if_pos h]
/-- No more than four blocks lie within one another. -/
def Dp (t : ByteArray) : (d : Nat) → Tree d → Nat → Prop
  | 0, _, _ => True
  | d + 1, l, k => ∀ x : Hd × Tree d × Tree d, x ∈ l.list → (k < 4 ∨ bytesOf t x.1.p = kSend ∨ bytesOf t x.1.p = kWait ∨ bytesOf t x.1.p = kStop) ∧ Dp t d x.2.1 (k + 1) ∧ Dp t d x.2.2 (k + 1)
theorem HdOk.none {t : ByteArray} {wo : List (Nat × Nat)} {h : Hd} {f : Nat} (hh : HdOk t wo h f) (hk : bytesOf t h.p = kSend ∨ bytesOf t h.p = kWait ∨ bytesOf t h.p = kStop) : f = 0 := by
  rcases hh with ⟨p, q, rfl, rfl, hb, rfl⟩ | ⟨p, q, rfl, rfl, hb, rfl⟩ | ⟨p, rfl, rfl, hb, rfl⟩ | ⟨p, q, r, rfl, rfl, hb, rfl⟩ | ⟨p, q, r, s, rfl, rfl, hb, rfl⟩ | ⟨p, q, rfl, rfl, hb, rfl⟩
  · rfl
  · rfl
  · rfl
  all_goals
    dsimp only at hk
    rw [hb] at hk
    exact absurd hk (by decide)
theorem GL.deep {t : ByteArray} {d : Nat} (hs : ∀ ws (x : Tree d) (k : Nat), GT t d ws x → Dp t d x k → ∀ u, deepL t (ws ++ u) (k : Nat) = deepL t u (k : Nat)) : ∀ (l : List (Hd × Tree d × Tree d)) (ws : List (Nat × Nat)) (k : Nat), GL t (GT t d) (nilT d) ws l →
    (∀ x ∈ l, (k < 4 ∨ bytesOf t x.1.p = kSend ∨ bytesOf t x.1.p = kWait ∨ bytesOf t x.1.p = kStop) ∧ Dp t d x.2.1 (k + 1) ∧ Dp t d x.2.2 (k + 1)) → ∀ u, deepL t (ws ++ u) (k : Nat) = deepL t u (k : Nat) := by
  intro l
  induction l with
  | nil =>
    intro ws k h _ u
    have h' : ws = [] := h
    subst h'
    rfl
  | cons x r ih =>
    intro ws k h hd u
    obtain ⟨wo, wb, wr, f, rfl, hh, hp, hr, hb⟩ := h
    obtain ⟨d1, d2, d3⟩ := hd x (List.mem_cons_self ..)
    have h1 := ih wr k hr (fun y hy => hd y (List.mem_cons_of_mem _ hy)) u
    have hk : ¬ f = 0 → (k : Int) < 4 := fun hf => by
      rcases d1 with d1 | d1
      · omega
      · exact absurd (HdOk.none hh d1) hf
    rw [List.append_assoc, List.append_assoc, deep_plain hp]
    rcases hb with ⟨_, rfl, _⟩ | ⟨o, wa, c, h0, rfl, ho, hc, ha, _⟩ | ⟨o, wa, c, e, o2, wa2, c2, h0, rfl, ho, hc, he, ho2, hc2, ha, ha2⟩
    · exact h1
    · have e1 : ((k : Int) + 1) = ((k + 1 : Nat) : Int) := by omega
      simp only [List.cons_append, List.append_assoc, List.nil_append]
      rw [deep_open ho (hk h0), e1, hs wa _ (k + 1) ha d2, deep_shut hc, show ((k + 1 : Nat) : Int) - 1 = (k : Nat) by omega]
      exact h1
    · have e1 : ((k : Int) + 1) = ((k + 1 : Nat) : Int) := by omega
      have hk4 := hk (by omega)
      have hel : ¬ bytesOf t e = kOpen ∧ ¬ bytesOf t e = kShut := by rw [he]; decide
      simp only [List.cons_append, List.append_assoc, List.nil_append]
      rw [deep_open ho hk4, e1, hs wa _ (k + 1) ha d2, deep_shut hc, show ((k + 1 : Nat) : Int) - 1 = (k : Nat) by omega, deep_one hel, deep_open ho2 hk4, e1, hs wa2 _ (k + 1) ha2 d3, deep_shut hc2, show ((k + 1 : Nat) : Int) - 1 = (k : Nat) by omega]
      exact h1
theorem GT.deep {t : ByteArray} : ∀ (d : Nat) (ws : List (Nat × Nat)) (x : Tree d) (k : Nat), GT t d ws x → Dp t d x k → ∀ u, deepL t (ws ++ u) (k : Nat) = deepL t u (k : Nat) := by
  intro d
  induction d with
  | zero =>
    intro ws x k h _ u
    have h' : ws = [] := h
    subst h'
    rfl
  | succ d ih => intro ws x k h hd u; exact GL.deep ih x ws k h hd u
/-- Trees that are alike: how deep, how heavy, how long, and the code. -/
theorem ShL.deep {t t' : ByteArray} {d : Nat} (hs : ∀ (x y : Tree d) (k : Nat), ShT t t' d x y → Dp t' d y k → Dp t d x k) (k : Nat) : ∀ (l m : List (Hd × Tree d × Tree d)), ShL t t' (ShT t t' d) l m →
    (∀ x ∈ m, (k < 4 ∨ bytesOf t' x.1.p = kSend ∨ bytesOf t' x.1.p = kWait ∨ bytesOf t' x.1.p = kStop) ∧ Dp t' d x.2.1 (k + 1) ∧ Dp t' d x.2.2 (k + 1)) → ∀ x ∈ l, (k < 4 ∨ bytesOf t x.1.p = kSend ∨ bytesOf t x.1.p = kWait ∨ bytesOf t x.1.p = kStop) ∧ Dp t d x.2.1 (k + 1) ∧ Dp t d x.2.2 (k + 1)
  | [], _, _, _ => fun x hx => (by cases hx)
  | z :: l, y :: m, h, hd => fun x hx => by
    rcases List.mem_cons.mp hx with rfl | hx
    · obtain ⟨d1, d2, d3⟩ := hd y (List.mem_cons_self ..)
      rw [h.1.1]
      exact ⟨d1, hs _ _ _ h.2.1 d2, hs _ _ _ h.2.2.1 d3⟩
    · exact ShL.deep hs k l m h.2.2.2 (fun w hw => hd w (List.mem_cons_of_mem _ hw)) x hx
  | _ :: _, [], h, _ => h.elim
theorem ShT.deep {t t' : ByteArray} : ∀ (d : Nat) (x y : Tree d) (k : Nat), ShT t t' d x y → Dp t' d y k → Dp t d x k := by
  intro d
  induction d with
  | zero => intro x y k _ _; trivial
  | succ d ih => intro x y k h hd; exact ShL.deep ih k x y h hd
theorem HdSh.one {t t' : ByteArray} {h h' : Hd} (hs : HdSh t t' h h') (a b : Int × Int) : oneI t h a b = oneI t' h' a b := by
  unfold oneI
  rw [hs.1, hs.2.2.1, hs.2.2.2]
theorem ShL.lasts {t t' : ByteArray} {d : Nat} (hs : ∀ x y : Tree d, ShT t t' d x y → lastsT t d x = lastsT t' d y) : ∀ (l m : List (Hd × Tree d × Tree d)), ShL t t' (ShT t t' d) l m → l.map (fun x => oneI t x.1 (lastsT t d x.2.1) (lastsT t d x.2.2)) = m.map (fun x => oneI t' x.1 (lastsT t' d x.2.1) (lastsT t' d x.2.2))
  | [], [], _ => rfl
  | x :: l, y :: m, h => by rw [List.map_cons, List.map_cons, ShL.lasts hs l m h.2.2.2, hs _ _ h.2.1, hs _ _ h.2.2.1, h.1.one]
  | [], _ :: _, h => h.elim
  | _ :: _, [], h => h.elim
theorem ShT.lasts {t t' : ByteArray} : ∀ (d : Nat) (x y : Tree d), ShT t t' d x y → lastsT t d x = lastsT t' d y := by
  intro d
  induction d with
  | zero => intro x y _; rfl
  | succ d ih => intro x y h; unfold lastsT; rw [ShL.lasts ih x y h]
theorem ShL.heavy {t t' : ByteArray} {d : Nat} (hs : ∀ (x y : Tree d) (n : Int), ShT t t' d x y → heavyT t' d y n = -1 → heavyT t d x n = -1) (hb : ∀ (y : Tree d) (n : Int), heavyT t' d y n = -1 ∨ 0 ≤ heavyT t' d y n) : ∀ (l m : List (Hd × Tree d × Tree d)) (n : Int), ShL t t' (ShT t t' d) l m → heavyL t' (heavyT t' d) m n = -1 → heavyL t (heavyT t d) l n = -1
  | [], _, _, _, _ => rfl
  | x :: l, y :: m, n, h, hv => by
    have key : ∀ k : Int, ¬ 0 ≤ heavyT t' d y.2.1 k → ¬ 0 ≤ heavyT t' d y.2.2 k → heavyT t d x.2.1 k = -1 ∧ heavyT t d x.2.2 k = -1 := fun k h1 h2 =>
      ⟨hs _ _ _ h.2.1 ((hb _ _).resolve_right h1), hs _ _ _ h.2.2.1 ((hb _ _).resolve_right h2)⟩
    rw [heavyL] at hv ⊢
    rw [h.1.1, h.1.2.2.1]
    split at hv
    · rename_i hk
      rw [if_pos hk]
      split at hv
      · omega
      · rename_i h6
        rw [if_neg h6]
        split at hv
        · omega
        · rename_i h7
          split at hv
          · omega
          · rename_i h8
            obtain ⟨e1, e2⟩ := key _ h7 h8
            rw [e1, e2, if_neg (by omega), if_neg (by omega)]
            exact ShL.heavy hs hb l m n h.2.2.2 hv
    · rename_i hk
      rw [if_neg hk]
      split at hv
      · omega
      · rename_i h7
        split at hv
        · omega
        · rename_i h8
          obtain ⟨e1, e2⟩ := key _ h7 h8
          rw [e1, e2, if_neg (by omega), if_neg (by omega)]
          exact ShL.heavy hs hb l m n h.2.2.2 hv
  | _ :: _, [], _, h, _ => h.elim
theorem heavyT_sign (t : ByteArray) : ∀ (d : Nat) (y : Tree d) (n : Int), heavyT t d y n = -1 ∨ 0 ≤ heavyT t d y n := by
  intro d
  induction d with
  | zero => intro y n; exact .inl rfl
  | succ d ih =>
    intro y
    have : ∀ (l : List (Hd × Tree d × Tree d)) (n : Int), heavyL t (heavyT t d) l n = -1 ∨ 0 ≤ heavyL t (heavyT t d) l n := by
      intro l
      induction l with
      | nil => intro n; exact .inl rfl
      | cons x l ihl =>
        intro n
        rw [heavyL]
        repeat' split
        all_goals first | exact .inr (by omega) | exact ihl n
    exact this y
theorem ShT.heavy {t t' : ByteArray} : ∀ (d : Nat) (x y : Tree d) (n : Int), ShT t t' d x y → heavyT t' d y n = -1 → heavyT t d x n = -1 := by
  intro d
  induction d with
  | zero => intro x y n _ _; rfl
  | succ d ih => intro x y n h hv; exact ShL.heavy ih (heavyT_sign t' d) x y n h hv
theorem ShL.code {t t' : ByteArray} {d : Nat} (hs : ∀ (x y : Tree d) (r b : Nat), ShT t t' d x y → compT t d x r b = compT t' d y r b) : ∀ (l m : List (Hd × Tree d × Tree d)) (r b : Nat), ShL t t' (ShT t t' d) l m → compL t (compT t d) l r b = compL t' (compT t' d) m r b
  | [], [], _, _, _ => rfl
  | x :: l, y :: m, r, b, h => by
    have e : stmC t (compT t d) x r b = stmC t' (compT t' d) y r b := by
      unfold stmC
      simp only [hs _ _ _ _ h.2.1, hs _ _ _ _ h.2.2.1, h.1.1, h.1.2.1, h.1.2.2.1, h.1.2.2.2]
    rw [compL, compL, e, ShL.code hs l m r _ h.2.2.2]
  | [], _ :: _, _, _, h => h.elim
  | _ :: _, [], _, _, h => h.elim
theorem ShT.code {t t' : ByteArray} : ∀ (d : Nat) (x y : Tree d) (r b : Nat), ShT t t' d x y → compT t d x r b = compT t' d y r b := by
  intro d
  induction d with
  | zero => intro x y r b _; rfl
  | succ d ih => intro x y r b h; exact ShL.code ih x y r b h
/-- A text of such words has no fault; its tree is alike. -/
theorem spelt_ok {t t' : ByteArray} {us : List (List UInt8)} {y : Tree 5} (ht : t.size ≤ 400) (hw : (wordsL t.data.toList).map (bytesOf t) = us) (h : AG t' 5 us y) (hd : Dp t' 5 y 0) (hv : heavyT t' 5 y 1 = -1) (hs : ¬ 100000 < maxI (lastsT t' 5 y).1 (lastsT t' 5 y).2) :
    ∃ tr, TextOk t tr ∧ ShT t t' 5 tr y := by
  obtain ⟨x, h1, h2, h3, h4⟩ := AG.lift 5 us y h _ hw
  have e := GT.deep 5 _ x 0 h1 (ShT.deep 5 x y 0 h2 hd) []
  rw [List.append_nil] at e
  exact ⟨x, text_ok ht h1 h3 h4 e (ShT.heavy 5 x y 1 h2 hv) (by rw [ShT.lasts 5 x y h2]; exact hs), h2⟩
end Go.Proofs.Herald
/- One text that has the words of all statements; trees over it, and the words that spell them. -/
namespace Go.Proofs.Herald
/-- send wait stop ask retry repeat -/
def dict : ByteArray := ⟨#[115, 101, 110, 100, 32, 119, 97, 105, 116, 32, 115, 116, 111, 112, 32, 97, 115, 107, 32, 114, 101, 116, 114, 121, 32, 114, 101, 112, 101, 97, 116]⟩
theorem dSend : bytesOf dict (0, 4) = kSend := by decide +kernel
theorem dWait : bytesOf dict (5, 9) = kWait := by decide +kernel
theorem dStop : bytesOf dict (10, 14) = kStop := by decide +kernel
theorem dAsk : bytesOf dict (15, 18) = kAsk := by decide +kernel
theorem dRetry : bytesOf dict (19, 24) = kRetry := by decide +kernel
theorem dRepeat : bytesOf dict (25, 31) = kRepeat := by decide +kernel
def hSend (k : Int) : Hd := ⟨(0, 4), k, 0, 0⟩
def hWait (n : Int) : Hd := ⟨(5, 9), 0, n, 0⟩
def hStop : Hd := ⟨(10, 14), 0, 0, 0⟩
def hAsk (k n : Int) : Hd := ⟨(15, 18), k, n, 0⟩
def hRetry (m k n : Int) : Hd := ⟨(19, 24), k, n, m⟩
def hRepeat (n : Int) : Hd := ⟨(25, 31), 0, n, 0⟩
theorem AL.send {T : Type} {sub : List (List UInt8) → T → Prop} {nil : T} {ur : List (List UInt8)} {r : List (Hd × T × T)} {q : List UInt8} (hk : 0 ≤ keyL q) (h : AL dict sub nil ur r) : AL dict sub nil (kSend :: q :: ur) ((hSend (keyL q), nil, nil) :: r) :=
  ⟨[kSend, q], [], ur, 0, rfl, .inl ⟨q, rfl, rfl, dSend, rfl, rfl, rfl, hk⟩, h, .inl ⟨rfl, rfl, rfl, rfl⟩⟩
theorem AL.wait {T : Type} {sub : List (List UInt8) → T → Prop} {nil : T} {ur : List (List UInt8)} {r : List (Hd × T × T)} {q : List UInt8} (h1 : 1 ≤ numL q) (h2 : numL q ≤ 999) (h : AL dict sub nil ur r) : AL dict sub nil (kWait :: q :: ur) ((hWait (numL q), nil, nil) :: r) :=
  ⟨[kWait, q], [], ur, 0, rfl, .inr (.inl ⟨q, rfl, rfl, dWait, rfl, rfl, rfl, h1, h2⟩), h, .inl ⟨rfl, rfl, rfl, rfl⟩⟩
theorem AL.stop {T : Type} {sub : List (List UInt8) → T → Prop} {nil : T} {ur : List (List UInt8)} {r : List (Hd × T × T)} (h : AL dict sub nil ur r) : AL dict sub nil (kStop :: ur) ((hStop, nil, nil) :: r) :=
  ⟨[kStop], [], ur, 0, rfl, .inr (.inr (.inl ⟨rfl, rfl, dStop, rfl, rfl, rfl⟩)), h, .inl ⟨rfl, rfl, rfl, rfl⟩⟩
theorem AL.ask {T : Type} {sub : List (List UInt8) → T → Prop} {nil : T} {ur ua : List (List UInt8)} {r : List (Hd × T × T)} {a : T} {q s : List UInt8} (hk : 0 ≤ keyL q) (h1 : 1 ≤ numL s) (h2 : numL s ≤ 999) (ha : sub ua a) (h : AL dict sub nil ur r) : AL dict sub nil ([kAsk, q, s] ++ (kOpen :: (ua ++ [kShut]) ++ ur)) ((hAsk (keyL q) (numL s), a, nil) :: r) :=
  ⟨[kAsk, q, s], kOpen :: (ua ++ [kShut]), ur, 2, rfl, .inr (.inr (.inr (.inl ⟨q, s, rfl, rfl, dAsk, rfl, rfl, rfl, hk, h1, h2⟩))), h, .inr (.inl ⟨ua, by decide, rfl, ha, rfl⟩)⟩
theorem AL.ask2 {T : Type} {sub : List (List UInt8) → T → Prop} {nil : T} {ur ua ua2 : List (List UInt8)} {r : List (Hd × T × T)} {a b : T} {q s : List UInt8} (hk : 0 ≤ keyL q) (h1 : 1 ≤ numL s) (h2 : numL s ≤ 999) (ha : sub ua a) (hb : sub ua2 b) (h : AL dict sub nil ur r) : AL dict sub nil ([kAsk, q, s] ++ (kOpen :: (ua ++ kShut :: kElse :: kOpen :: (ua2 ++ [kShut])) ++ ur)) ((hAsk (keyL q) (numL s), a, b) :: r) :=
  ⟨[kAsk, q, s], kOpen :: (ua ++ kShut :: kElse :: kOpen :: (ua2 ++ [kShut])), ur, 2, rfl, .inr (.inr (.inr (.inl ⟨q, s, rfl, rfl, dAsk, rfl, rfl, rfl, hk, h1, h2⟩))), h, .inr (.inr ⟨ua, ua2, rfl, rfl, ha, hb⟩)⟩
theorem AL.retry {T : Type} {sub : List (List UInt8) → T → Prop} {nil : T} {ur ua : List (List UInt8)} {r : List (Hd × T × T)} {a : T} {q s u : List UInt8} (hm : 1 ≤ numL u) (hm2 : numL u ≤ 6) (hk : 0 ≤ keyL q) (h1 : 1 ≤ numL s) (h2 : numL s ≤ 999) (ha : sub ua a) (h : AL dict sub nil ur r) : AL dict sub nil ([kRetry, u, q, s] ++ (kOpen :: (ua ++ [kShut]) ++ ur)) ((hRetry (numL u) (keyL q) (numL s), a, nil) :: r) :=
  ⟨[kRetry, u, q, s], kOpen :: (ua ++ [kShut]), ur, 2, rfl, .inr (.inr (.inr (.inr (.inl ⟨u, q, s, rfl, rfl, dRetry, rfl, rfl, rfl, hk, h1, h2, hm, hm2⟩)))), h, .inr (.inl ⟨ua, by decide, rfl, ha, rfl⟩)⟩
theorem AL.retry2 {T : Type} {sub : List (List UInt8) → T → Prop} {nil : T} {ur ua ua2 : List (List UInt8)} {r : List (Hd × T × T)} {a b : T} {q s u : List UInt8} (hm : 1 ≤ numL u) (hm2 : numL u ≤ 6) (hk : 0 ≤ keyL q) (h1 : 1 ≤ numL s) (h2 : numL s ≤ 999) (ha : sub ua a) (hb : sub ua2 b) (h : AL dict sub nil ur r) : AL dict sub nil ([kRetry, u, q, s] ++ (kOpen :: (ua ++ kShut :: kElse :: kOpen :: (ua2 ++ [kShut])) ++ ur)) ((hRetry (numL u) (keyL q) (numL s), a, b) :: r) :=
  ⟨[kRetry, u, q, s], kOpen :: (ua ++ kShut :: kElse :: kOpen :: (ua2 ++ [kShut])), ur, 2, rfl, .inr (.inr (.inr (.inr (.inl ⟨u, q, s, rfl, rfl, dRetry, rfl, rfl, rfl, hk, h1, h2, hm, hm2⟩)))), h, .inr (.inr ⟨ua, ua2, rfl, rfl, ha, hb⟩)⟩
theorem AL.repeat {T : Type} {sub : List (List UInt8) → T → Prop} {nil : T} {ur ua : List (List UInt8)} {r : List (Hd × T × T)} {a : T} {q : List UInt8} (h1 : 1 ≤ numL q) (h2 : numL q ≤ 9) (ha : sub ua a) (h : AL dict sub nil ur r) : AL dict sub nil ([kRepeat, q] ++ (kOpen :: (ua ++ [kShut]) ++ ur)) ((hRepeat (numL q), a, nil) :: r) :=
  ⟨[kRepeat, q], kOpen :: (ua ++ [kShut]), ur, 1, rfl, .inr (.inr (.inr (.inr (.inr ⟨q, rfl, rfl, dRepeat, rfl, rfl, rfl, h1, h2⟩)))), h, .inr (.inl ⟨ua, by decide, rfl, ha, rfl⟩)⟩
/-- A key's word, and a number's, as they are spelled. -/
def letterB (k : Nat) : List UInt8 := [UInt8.ofNat (97 + k % 8)]
def digitsB (n : Nat) : List UInt8 := if n < 10 then [UInt8.ofNat (48 + n)] else if n < 100 then [UInt8.ofNat (48 + n / 10), UInt8.ofNat (48 + n % 10)] else [UInt8.ofNat (48 + n / 100), UInt8.ofNat (48 + n / 10 % 10), UInt8.ofNat (48 + n % 10)]
theorem letter_all : ∀ k < 8, keyL (letterB k) = (k : Nat) ∧ (letterB k).all (fun c => !isBr c && !isGp c) = true := by decide +kernel
theorem digits_all : ∀ n < 1000, numL (digitsB n) = (n : Nat) ∧ (digitsB n).all (fun c => !isBr c && !isGp c) = true ∧ digitsB n ≠ [] ∧ (digitsB n).length ≤ 3 := by decide +kernel
theorem all_plain {u : List UInt8} (h : u.all (fun c => !isBr c && !isGp c) = true) : ∀ c ∈ u, isBr c = false ∧ isGp c = false := fun c hc => by
  have := List.all_eq_true.mp h c hc
  simpa using this
theorem letter_mod (k : Nat) : letterB k = letterB (k % 8) := by unfold letterB; rw [Nat.mod_mod]
theorem keyL_letter (k : Nat) : keyL (letterB k) = (k % 8 : Nat) := by rw [letter_mod]; exact (letter_all (k % 8) (by omega)).1
theorem word_letter (k : Nat) : WordB (letterB k) := by
  refine .inr (.inr ⟨by unfold letterB; simp, all_plain ?_⟩)
  rw [letter_mod]
  exact (letter_all (k % 8) (by omega)).2
theorem numL_digits {n : Nat} (h : n < 1000) : numL (digitsB n) = (n : Nat) := (digits_all n h).1
theorem word_digits {n : Nat} (h : n < 1000) : WordB (digitsB n) := .inr (.inr ⟨(digits_all n h).2.2.1, all_plain (digits_all n h).2.1⟩)
theorem word_kinds : WordB kSend ∧ WordB kWait ∧ WordB kStop ∧ WordB kAsk ∧ WordB kRetry ∧ WordB kRepeat ∧ WordB kElse ∧ WordB kOpen ∧ WordB kShut :=
  ⟨.inr (.inr (by decide)), .inr (.inr (by decide)), .inr (.inr (by decide)), .inr (.inr (by decide)), .inr (.inr (by decide)), .inr (.inr (by decide)), .inr (.inr (by decide)), .inl rfl, .inr (.inl rfl)⟩
end Go.Proofs.Herald
