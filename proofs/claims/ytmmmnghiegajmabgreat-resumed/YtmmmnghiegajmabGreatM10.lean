import Derived.Test.YtmmmnghiegajmabGreatM07
/- A text whose words spell a tree of good statements has no fault, and the tree is the only one. -/
namespace Go.Proofs.Herald
set_option maxHeartbeats 4000000 in
theorem HdOk.same {t : ByteArray} {wo wo' u u' : List (Nat × Nat)} {h h' : Hd} {f f' : Nat} (hh : HdOk t wo h f) (hk : HdOk t wo' h' f') (e : wo ++ u = wo' ++ u') : wo = wo' ∧ h = h' ∧ f = f' ∧ u = u' := by
  rcases hh with ⟨p, q, rfl, rfl, hb, rfl⟩ | ⟨p, q, rfl, rfl, hb, rfl⟩ | ⟨p, rfl, rfl, hb, rfl⟩ | ⟨p, q, r, rfl, rfl, hb, rfl⟩ | ⟨p, q, r, s, rfl, rfl, hb, rfl⟩ | ⟨p, q, rfl, rfl, hb, rfl⟩
  all_goals
    rcases hk with ⟨p', q', rfl, rfl, hb', rfl⟩ | ⟨p', q', rfl, rfl, hb', rfl⟩ | ⟨p', rfl, rfl, hb', rfl⟩ | ⟨p', q', r', rfl, rfl, hb', rfl⟩ | ⟨p', q', r', s', rfl, rfl, hb', rfl⟩ | ⟨p', q', rfl, rfl, hb', rfl⟩
  all_goals
    simp only [List.cons_append, List.nil_append, List.cons.injEq] at e
    first
      | (obtain ⟨rfl, rfl, rfl, rfl, rfl⟩ := e; exact ⟨rfl, rfl, rfl, rfl⟩)
      | (obtain ⟨rfl, rfl, rfl, rfl⟩ := e; exact ⟨rfl, rfl, rfl, rfl⟩)
      | (obtain ⟨rfl, rfl, rfl⟩ := e; exact ⟨rfl, rfl, rfl, rfl⟩)
      | (obtain ⟨rfl, rfl⟩ := e; exact ⟨rfl, rfl, rfl, rfl⟩)
      | (exfalso; obtain ⟨rfl, _⟩ := e; rw [hb] at hb'; revert hb'; decide)
/-- Two blocks at one place are one. -/
theorem block_same {t : ByteArray} {o c o' c' : Nat × Nat} {wa wa' u u' : List (Nat × Nat)} (ho : bytesOf t o = kOpen) (hc : bytesOf t c = kShut) (ho' : bytesOf t o' = kOpen) (hc' : bytesOf t c' = kShut) (ha : Passes t wa) (ha' : Passes t wa') (e : o :: (wa ++ c :: u) = o' :: (wa' ++ c' :: u')) : wa = wa' ∧ u = u' := by
  have h1 := shutL_block (u := u) ho hc ha
  have h2 := shutL_block (u := u') ho' hc' ha'
  rw [e, h2] at h1
  have hl : wa'.length = wa.length := by
    have := Option.some.inj h1
    omega
  have e2 := (List.cons.inj e).2
  have h3 := List.append_inj e2 hl.symm
  exact ⟨h3.1, (List.cons.inj h3.2).2⟩
theorem GL.uniq {t : ByteArray} {T : Type} {sub : List (Nat × Nat) → T → Prop} {nil : T} (hs : ∀ ws a b, sub ws a → sub ws b → a = b) (hp : ∀ ws x, sub ws x → Passes t ws) : ∀ (l m : List (Hd × T × T)) (ws : List (Nat × Nat)), GL t sub nil ws l → GL t sub nil ws m → l = m := by
  intro l
  induction l with
  | nil =>
    intro m ws h1 h2
    have h1' : ws = [] := h1
    subst h1'
    cases m with
    | nil => rfl
    | cons y m =>
      obtain ⟨wo, wb, wr, f, e, hh, _⟩ := h2
      obtain ⟨p, q, rfl, _⟩ := hh.head
      simp at e
  | cons x r ih =>
    intro m ws h1 h2
    cases m with
    | nil =>
      have h2' : ws = [] := h2
      subst h2'
      obtain ⟨wo, wb, wr, f, e, hh, _⟩ := h1
      obtain ⟨p, q, rfl, _⟩ := hh.head
      simp at e
    | cons y m =>
      obtain ⟨wo, wb, wr, f, rfl, hh, _, hr, hb⟩ := h1
      obtain ⟨wo', wb', wr', f', e, hh', _, hr', hb'⟩ := h2
      obtain ⟨_, eh, rfl, e2⟩ := HdOk.same hh hh' e
      have fin : x.2.1 = y.2.1 → x.2.2 = y.2.2 → wr = wr' → x :: r = y :: m := fun e3 e4 e5 => by
        subst e5
        rw [ih m wr hr hr']
        obtain ⟨x1, x2, x3⟩ := x
        obtain ⟨y1, y2, y3⟩ := y
        dsimp only at eh e3 e4
        rw [eh, e3, e4]
      rcases hb with ⟨h0, rfl, a1, a2, _⟩ | ⟨o, wa, c, h0, rfl, ho, hc, ha, a2, hn⟩ | ⟨o, wa, c, e1, o2, wa2, c2, h0, rfl, ho, hc, he, ho2, hc2, ha, ha2⟩
      · rcases hb' with ⟨_, rfl, b1, b2, _⟩ | ⟨o', wa', c', h0', _⟩ | ⟨o', wa', c', e1', o2', wa2', c2', h0', _⟩
        · exact fin (a1.trans b1.symm) (a2.trans b2.symm) e2
        · exact absurd h0 h0'
        · omega
      · rcases hb' with ⟨h0', _⟩ | ⟨o', wa', c', _, rfl, ho', hc', ha', b2, hn'⟩ | ⟨o', wa', c', e1', o2', wa2', c2', _, rfl, ho', hc', he', ho2', hc2', ha', ha2'⟩
        · exact absurd h0' h0
        · simp only [List.cons_append, List.append_assoc, List.nil_append] at e2
          obtain ⟨rfl, e3⟩ := block_same ho hc ho' hc' (hp _ _ ha) (hp _ _ ha') e2
          exact fin (hs _ _ _ ha ha') (a2.trans b2.symm) e3
        · simp only [List.cons_append, List.append_assoc, List.nil_append] at e2
          obtain ⟨rfl, e3⟩ := block_same ho hc ho' hc' (hp _ _ ha) (hp _ _ ha') e2
          exact absurd he' (hn e1' (by rw [e3]; rfl))
      · rcases hb' with ⟨h0', _⟩ | ⟨o', wa', c', _, rfl, ho', hc', ha', b2, hn'⟩ | ⟨o', wa', c', e1', o2', wa2', c2', _, rfl, ho', hc', he', ho2', hc2', ha', ha2'⟩
        · omega
        · simp only [List.cons_append, List.append_assoc, List.nil_append] at e2
          obtain ⟨rfl, e3⟩ := block_same ho hc ho' hc' (hp _ _ ha) (hp _ _ ha') e2
          exact absurd he (hn' e1 (by rw [← e3]; rfl))
        · simp only [List.cons_append, List.append_assoc, List.nil_append] at e2
          obtain ⟨rfl, e3⟩ := block_same ho hc ho' hc' (hp _ _ ha) (hp _ _ ha') e2
          obtain ⟨_, e4⟩ := List.cons.inj e3
          obtain ⟨rfl, e5⟩ := block_same ho2 hc2 ho2' hc2' (hp _ _ ha2) (hp _ _ ha2') e4
          exact fin (hs _ _ _ ha ha') (hs _ _ _ ha2 ha2') e5
/-- The words spell one tree at most. -/
theorem GT.uniq {t : ByteArray} : ∀ (d : Nat) (ws : List (Nat × Nat)) (a b : Tree d), GT t d ws a → GT t d ws b → a = b := by
  intro d
  induction d with
  | zero => intro ws a b _ _; rfl
  | succ d ih => intro ws a b h1 h2; exact GL.uniq ih (GT.passes d) a b ws h1 h2
theorem firstF_send (m : Int) (st : FSt) : firstF kSend m st = ({ st with want := [2, 0] }, true) := by unfold firstF; rw [if_pos rfl]
theorem firstF_wait (m : Int) (st : FSt) : firstF kWait m st = ({ st with want := [3, 0] }, true) := by unfold firstF; rw [if_neg (by decide), if_pos rfl]
theorem firstF_stop (m : Int) (st : FSt) : firstF kStop m st = ({ st with want := [0] }, true) := by unfold firstF; rw [if_neg (by decide), if_neg (by decide), if_pos rfl]
theorem firstF_ask (m : Int) (st : FSt) : firstF kAsk m st = ({ st with want := [2, 3, 6], next := true }, true) := by unfold firstF; rw [if_neg (by decide), if_neg (by decide), if_neg (by decide), if_pos rfl]
theorem firstF_retry (m : Int) (st : FSt) : firstF kRetry m st = ({ st with want := [4, 2, 3, 6], next := true }, true) := by unfold firstF; rw [if_neg (by decide), if_neg (by decide), if_neg (by decide), if_neg (by decide), if_pos rfl]
theorem firstF_repeat (m : Int) (st : FSt) : firstF kRepeat m st = ({ st with want := [5, 6], next := false }, true) := by unfold firstF; rw [if_neg (by decide), if_neg (by decide), if_neg (by decide), if_neg (by decide), if_neg (by decide), if_pos rfl]
theorem firstF_else (st : FSt) : firstF kElse 1 st = ({ st with want := [6], next := false }, true) := by unfold firstF; rw [if_neg (by decide), if_neg (by decide), if_neg (by decide), if_neg (by decide), if_neg (by decide), if_neg (by decide), if_pos rfl]; rfl
theorem firstF_shut (m : Int) (st : FSt) (e : Bool) (r : List Bool) (h : st.elses = e :: r) : firstF kShut m st = ({ st with want := if e then [1] else [0], elses := r }, true) := by
  unfold firstF
  rw [if_neg (by decide), if_neg (by decide), if_neg (by decide), if_neg (by decide), if_neg (by decide), if_neg (by decide), if_neg (by decide), if_pos rfl, h]
theorem readF_first {s : List UInt8} {p : Nat × Nat} {st : FSt} (h : st.want = [0] ∨ st.want = [1]) : readF s p st = firstF s (st.want.headD 0) st := by
  unfold readF
  rcases h with h | h
  · rw [h]; simp
  · rw [h]; simp
/-- A word that the acceptor takes. -/
theorem runF_one {t : ByteArray} {p : Nat × Nat} {r : List (Nat × Nat)} {st st' : FSt} (h : readF (bytesOf t p) p st = (st', true)) : runF t (p :: r) st = runF t r st' := by
  rw [runF, h, if_pos rfl]
/-- The numbers so far may be. -/
structure NumsOk (t : ByteArray) (st : FSt) : Prop where
  len : st.nums.length = st.sorts.length
  ok : numsF t st.nums st.sorts = (0, 0)
theorem numsF_snoc {t : ByteArray} {p : Nat × Nat} {s : Int} (h1 : 1 ≤ numL (bytesOf t p)) (h2 : numL (bytesOf t p) ≤ mostI s) : ∀ (a : List (Nat × Nat)) (b : List Int), a.length = b.length → numsF t a b = (0, 0) → numsF t (a ++ [p]) (b ++ [s]) = (0, 0) := by
  intro a
  induction a with
  | nil =>
    intro b hl h
    cases b with
    | nil => simp only [List.nil_append, numsF]; rw [if_neg (by omega)]
    | cons _ _ => simp at hl
  | cons x a ih =>
    intro b hl h
    cases b with
    | nil => simp at hl
    | cons y b =>
      simp only [List.cons_append, numsF] at h ⊢
      split at h
      · simp at h
      · rename_i hn
        rw [if_neg hn]
        exact ih b (by simpa using hl) h
theorem readF_key {s : List UInt8} {p : Nat × Nat} {st : FSt} {r : List Int} (h : st.want = 2 :: r) (hk : 0 ≤ keyL s) : readF s p st = ({ st with want := r }, true) := by
  unfold readF; rw [h]; simp [hk]
theorem readF_num {s : List UInt8} {p : Nat × Nat} {st : FSt} {m : Int} {r : List Int} (h : st.want = m :: r) (hm : m = 3 ∨ m = 4 ∨ m = 5) (hk : 0 ≤ numL s) : readF s p st = ({ st with want := r, nums := st.nums ++ [p], sorts := st.sorts ++ [m] }, true) := by
  unfold readF; rw [h]
  rcases hm with rfl | rfl | rfl
  all_goals simp [hk]
theorem readF_open {p : Nat × Nat} {st : FSt} (h : st.want = [6]) : readF kOpen p st = ({ st with elses := st.next :: st.elses, want := [0] }, true) := by
  unfold readF; rw [h]; simp
theorem NumsOk.snoc {t : ByteArray} {st : FSt} (h : NumsOk t st) {p : Nat × Nat} {s : Int} (h1 : 1 ≤ numL (bytesOf t p)) (h2 : numL (bytesOf t p) ≤ mostI s) (w : List Int) (e : List Bool) (n : Bool) : NumsOk t { want := w, elses := e, next := n, nums := st.nums ++ [p], sorts := st.sorts ++ [s] } :=
  ⟨by simp [h.len], numsF_snoc h1 h2 _ _ h.len h.ok⟩
/-- A statement's head is taken. -/
theorem head_run {t : ByteArray} {wo : List (Nat × Nat)} {h : Hd} {f : Nat} (hh : HdOk t wo h f) (g : GoodHd t h) (hk : 0 ≤ h.key) {st : FSt} (hw : st.want = [0] ∨ st.want = [1]) (hn : NumsOk t st) :
    ∃ st', (∀ u, runF t (wo ++ u) st = runF t u st') ∧ st'.want = (if f = 0 then [0] else [6]) ∧ (f ≠ 0 → st'.next = decide (f = 2)) ∧ st'.elses = st.elses ∧ NumsOk t st' := by
  have m1 : mostI 3 = 999 := rfl
  have m2 : mostI 4 = 6 := rfl
  have m3 : mostI 5 = 9 := rfl
  rcases hh with ⟨p, q, rfl, rfl, hb, rfl⟩ | ⟨p, q, rfl, rfl, hb, rfl⟩ | ⟨p, rfl, rfl, hb, rfl⟩ | ⟨p, q, r, rfl, rfl, hb, rfl⟩ | ⟨p, q, r, s, rfl, rfl, hb, rfl⟩ | ⟨p, q, rfl, rfl, hb, rfl⟩
  · have h1 := readF_first (s := bytesOf t p) (p := p) hw
    rw [hb, firstF_send] at h1
    rw [← hb] at h1
    dsimp only at hk
    refine ⟨_, fun u => (runF_one h1).trans (runF_one (readF_key rfl hk)), rfl, fun h => absurd rfl h, rfl, ⟨hn.len, hn.ok⟩⟩
  · have h1 := readF_first (s := bytesOf t p) (p := p) hw
    rw [hb, firstF_wait] at h1
    rw [← hb] at h1
    have hg : 1 ≤ numL (bytesOf t q) ∧ numL (bytesOf t q) ≤ 999 := by
      rcases g with ⟨k, _⟩ | ⟨_, a, b, _⟩ | ⟨k, _⟩ | ⟨k, _⟩ | ⟨k, _⟩ | ⟨k, _⟩
      · dsimp only at k; rw [hb] at k; exact absurd k (by decide)
      · exact ⟨a, b⟩
      all_goals (dsimp only at k; rw [hb] at k; exact absurd k (by decide))
    exact ⟨_, fun u => (runF_one h1).trans (runF_one (readF_num rfl (.inl rfl) (by omega))), rfl, fun h => absurd rfl h, rfl, NumsOk.snoc ⟨hn.len, hn.ok⟩ hg.1 (by omega) _ _ _⟩
  · have h1 := readF_first (s := bytesOf t p) (p := p) hw
    rw [hb, firstF_stop] at h1
    rw [← hb] at h1
    exact ⟨_, fun u => runF_one h1, rfl, fun h => absurd rfl h, rfl, ⟨hn.len, hn.ok⟩⟩
  · have h1 := readF_first (s := bytesOf t p) (p := p) hw
    rw [hb, firstF_ask] at h1
    rw [← hb] at h1
    dsimp only at hk
    have hg : 1 ≤ numL (bytesOf t r) ∧ numL (bytesOf t r) ≤ 999 := by
      rcases g with ⟨k, _⟩ | ⟨k, _⟩ | ⟨k, _⟩ | ⟨_, a, b, _⟩ | ⟨k, _⟩ | ⟨k, _⟩
      · dsimp only at k; rw [hb] at k; exact absurd k (by decide)
      · dsimp only at k; rw [hb] at k; exact absurd k (by decide)
      · dsimp only at k; rw [hb] at k; exact absurd k (by decide)
      · exact ⟨a, b⟩
      all_goals (dsimp only at k; rw [hb] at k; exact absurd k (by decide))
    exact ⟨_, fun u => ((runF_one h1).trans (runF_one (readF_key rfl hk))).trans (runF_one (readF_num rfl (.inl rfl) (by omega))), rfl, fun _ => rfl, rfl, NumsOk.snoc ⟨hn.len, hn.ok⟩ hg.1 (by omega) _ _ _⟩
  · have h1 := readF_first (s := bytesOf t p) (p := p) hw
    rw [hb, firstF_retry] at h1
    rw [← hb] at h1
    dsimp only at hk
    have hg : (1 ≤ numL (bytesOf t s) ∧ numL (bytesOf t s) ≤ 999) ∧ 1 ≤ numL (bytesOf t q) ∧ numL (bytesOf t q) ≤ 6 := by
      rcases g with ⟨k, _⟩ | ⟨k, _⟩ | ⟨k, _⟩ | ⟨k, _⟩ | ⟨_, a, b, c, d⟩ | ⟨k, _⟩
      · dsimp only at k; rw [hb] at k; exact absurd k (by decide)
      · dsimp only at k; rw [hb] at k; exact absurd k (by decide)
      · dsimp only at k; rw [hb] at k; exact absurd k (by decide)
      · dsimp only at k; rw [hb] at k; exact absurd k (by decide)
      · exact ⟨⟨a, b⟩, c, d⟩
      · dsimp only at k; rw [hb] at k; exact absurd k (by decide)
    exact ⟨_, fun u => (((runF_one h1).trans (runF_one (readF_num rfl (.inr (.inl rfl)) (by omega)))).trans (runF_one (readF_key rfl hk))).trans (runF_one (readF_num rfl (.inl rfl) (by omega))), rfl, fun _ => rfl, rfl, NumsOk.snoc (NumsOk.snoc ⟨hn.len, hn.ok⟩ hg.2.1 (by omega) [2, 3, 6] st.elses true) hg.1.1 (by omega) _ _ _⟩
  · have h1 := readF_first (s := bytesOf t p) (p := p) hw
    rw [hb, firstF_repeat] at h1
    rw [← hb] at h1
    have hg : 1 ≤ numL (bytesOf t q) ∧ numL (bytesOf t q) ≤ 9 := by
      rcases g with ⟨k, _⟩ | ⟨k, _⟩ | ⟨k, _⟩ | ⟨k, _⟩ | ⟨k, _⟩ | ⟨_, a, b, _⟩
      · dsimp only at k; rw [hb] at k; exact absurd k (by decide)
      · dsimp only at k; rw [hb] at k; exact absurd k (by decide)
      · dsimp only at k; rw [hb] at k; exact absurd k (by decide)
      · dsimp only at k; rw [hb] at k; exact absurd k (by decide)
      · dsimp only at k; rw [hb] at k; exact absurd k (by decide)
      · exact ⟨a, b⟩
    exact ⟨_, fun u => (runF_one h1).trans (runF_one (readF_num rfl (.inr (.inr rfl)) (by omega))), rfl, fun _ => rfl, rfl, NumsOk.snoc ⟨hn.len, hn.ok⟩ hg.1 (by omega) _ _ _⟩
/-- What is taken from a place where a statement may begin to another. -/
def Taken (t : ByteArray) (ws : List (Nat × Nat)) (st : FSt) : Prop :=
  ∃ st', (∀ u, runF t (ws ++ u) st = runF t u st') ∧ (st'.want = [0] ∨ st'.want = [1]) ∧ st'.elses = st.elses ∧ NumsOk t st'
theorem runF_shut {t : ByteArray} {c : Nat × Nat} {st : FSt} {e : Bool} {r : List Bool} (hc : bytesOf t c = kShut) (hw : st.want = [0] ∨ st.want = [1]) (he : st.elses = e :: r) (u : List (Nat × Nat)) : runF t (c :: u) st = runF t u { st with want := if e then [1] else [0], elses := r } := by
  refine runF_one ?_
  rw [readF_first hw, hc, firstF_shut _ st e r he]
/-- Statements are taken. -/
theorem GL.taken {t : ByteArray} {d : Nat} (hs : ∀ ws (x : Tree d), GT t d ws x → GoodT t d x → KeysT t d x → ∀ st : FSt, (st.want = [0] ∨ st.want = [1]) → NumsOk t st → Taken t ws st) : ∀ (l : List (Hd × Tree d × Tree d)) (ws : List (Nat × Nat)), GL t (GT t d) (nilT d) ws l →
    (∀ x ∈ l, GoodHd t x.1 ∧ GoodT t d x.2.1 ∧ GoodT t d x.2.2) → (∀ x ∈ l, (0 ≤ x.1.key ∧ x.1.key ≤ 7) ∧ KeysT t d x.2.1 ∧ KeysT t d x.2.2) → ∀ st : FSt, (st.want = [0] ∨ st.want = [1]) → NumsOk t st → Taken t ws st := by
  intro l
  induction l with
  | nil =>
    intro ws h _ _ st hw hn
    rw [GL] at h
    subst h
    exact ⟨st, fun u => rfl, hw, rfl, hn⟩
  | cons x r ih =>
    intro ws h hg hk st hw hn
    rw [GL] at h
    obtain ⟨wo, wb, wr, f, rfl, hh, _, hr, hb⟩ := h
    obtain ⟨g1, g2, g3⟩ := hg x (List.mem_cons_self ..)
    obtain ⟨k1, k2, k3⟩ := hk x (List.mem_cons_self ..)
    obtain ⟨s1, r1, w1, n1, e1, o1⟩ := head_run hh g1 k1.1 hw hn
    -- behind the blocks
    have fin : ∀ s2 : FSt, (∀ u, runF t (wo ++ (wb ++ u)) st = runF t u s2) → (s2.want = [0] ∨ s2.want = [1]) → s2.elses = st.elses → NumsOk t s2 → Taken t (wo ++ (wb ++ wr)) st := fun s2 r2 w2 e2 o2 => by
      obtain ⟨s3, r3, w3, e3, o3⟩ := ih wr hr (fun y hy => hg y (List.mem_cons_of_mem _ hy)) (fun y hy => hk y (List.mem_cons_of_mem _ hy)) s2 w2 o2
      refine ⟨s3, fun u => ?_, w3, e3.trans e2, o3⟩
      rw [List.append_assoc, List.append_assoc, r2, r3]
    rcases hb with ⟨rfl, rfl, _⟩ | ⟨o, wa, c, h0, rfl, ho, hc, ha, _⟩ | ⟨o, wa, c, e, o2, wa2, c2, rfl, rfl, ho, hc, he, ho2, hc2, ha, ha2⟩
    · refine fin s1 (fun u => ?_) (.inl (by rw [w1, if_pos rfl])) e1 o1
      rw [List.nil_append, r1]
    · rw [if_neg h0] at w1
      obtain ⟨s2, r2, w2, e2, q2⟩ := hs wa _ ha g2 k2 { s1 with elses := s1.next :: s1.elses, want := [0] } (.inl rfl) ⟨o1.len, o1.ok⟩
      refine fin { s2 with want := if s1.next then [1] else [0], elses := s1.elses } (fun u => ?_) ?_ e1 ⟨q2.len, q2.ok⟩
      · rw [r1, List.cons_append, runF_one (by rw [ho]; exact readF_open w1), List.append_assoc, r2, List.singleton_append, runF_shut hc w2 e2]
      · cases s1.next
        · exact .inl rfl
        · exact .inr rfl
    · rw [if_neg (by decide)] at w1
      have n1' : s1.next = true := n1 (by decide)
      obtain ⟨s2, r2, w2, e2, q2⟩ := hs wa _ ha g2 k2 { s1 with elses := s1.next :: s1.elses, want := [0] } (.inl rfl) ⟨o1.len, o1.ok⟩
      obtain ⟨s4, r4, w4, e4, q4⟩ := hs wa2 _ ha2 g3 k3 { s2 with elses := false :: s1.elses, want := [0], next := false } (.inl rfl) ⟨q2.len, q2.ok⟩
      refine fin { s4 with want := [0], elses := s1.elses } (fun u => ?_) (.inl rfl) e1 ⟨q4.len, q4.ok⟩
      have x1 : runF t (e :: o2 :: (wa2 ++ (c2 :: u))) { s2 with want := [1], elses := s1.elses } = runF t (wa2 ++ (c2 :: u)) { s2 with elses := false :: s1.elses, want := [0], next := false } := by
        rw [runF_one (st' := { s2 with want := [6], elses := s1.elses, next := false }) (by rw [readF_first (.inr rfl), he]; exact firstF_else _)]
        exact runF_one (by rw [ho2]; exact readF_open rfl)
      rw [r1, List.cons_append, runF_one (by rw [ho]; exact readF_open w1), List.append_assoc, r2]
      simp only [List.cons_append, List.append_assoc, List.nil_append]
      rw [runF_shut hc w2 e2, n1', if_pos rfl, x1, r4, runF_shut hc2 w4 e4]
      rfl
theorem GT.taken {t : ByteArray} : ∀ (d : Nat) (ws : List (Nat × Nat)) (x : Tree d), GT t d ws x → GoodT t d x → KeysT t d x → ∀ st : FSt, (st.want = [0] ∨ st.want = [1]) → NumsOk t st → Taken t ws st := by
  intro d
  induction d with
  | zero =>
    intro ws x h _ _ st hw hn
    rw [GT] at h
    subst h
    exact ⟨st, fun u => rfl, hw, rfl, hn⟩
  | succ d ih => intro ws x h hg hk; exact GL.taken ih x.list ws h hg hk
/-- A text that spells good statements has the form. -/
theorem formed_ok {t : ByteArray} {d : Nat} {tr : Tree d} (h : GT t d (wordsL t.data.toList) tr) (hg : GoodT t d tr) (hk : KeysT t d tr) : formedL t = (0, 0) := by
  obtain ⟨st', h1, h2, h3, h4⟩ := GT.taken d _ tr h hg hk initF (.inl rfl) ⟨rfl, rfl⟩
  have e := h1 []
  rw [List.append_nil] at e
  unfold formedL
  rw [e]
  show endF t st' = (0, 0)
  unfold endF
  rw [if_neg ?_]
  · exact h4.ok
  · rw [h3]
    rcases h2 with h2 | h2
    · rw [h2]; simp [initF]
    · rw [h2]; simp [initF]
/-- A text without a fault, by its tree. -/
theorem text_ok {t : ByteArray} {tr : Tree 5} (ht : t.size ≤ 400) (h : GT t 5 (wordsL t.data.toList) tr) (hg : GoodT t 5 tr) (hk : KeysT t 5 tr) (hd : deepL t (wordsL t.data.toList) 0 = -1) (hv : heavyT t 5 tr 1 = -1) (hs : ¬ 100000 < maxI (lastsT t 5 tr).1 (lastsT t 5 tr).2) : TextOk t tr := by
  have hf := formed_ok h hg hk
  obtain ⟨r, h1, _, h3⟩ := answers2 t ht
  have hr : r.2.1 = 0 := by
    rcases h1 with ⟨f, p, e, hf0, _⟩ | ⟨p, _, e, hp, _⟩ | ⟨tr', _, _, hg', _, _, h4⟩
    · rw [hf] at e
      exact absurd (congrArg Prod.fst e).symm hf0
    · omega
    · obtain rfl := GT.uniq 5 _ _ _ hg' h
      rcases h4 with ⟨p, e, hp, _⟩ | ⟨_, e, _⟩ | ⟨_, _, e⟩
      · omega
      · exact absurd e hs
      · rw [e]
  rcases h3 with ⟨tr', h4, _⟩ | h4
  · obtain rfl := GT.uniq 5 _ _ _ h4.words h
    exact h4
  · exact absurd hr h4
end Go.Proofs.Herald
/- A text that is spelled word by word, each with a blank behind it: its words are those. -/
namespace Go.Proofs.Herald
/-- A word of a text: a brace, or some bytes that are neither braces nor gaps. -/
def WordB (u : List UInt8) : Prop := u = kOpen ∨ u = kShut ∨ (u ≠ [] ∧ ∀ c ∈ u, isBr c = false ∧ isGp c = false)
def sp (us : List (List UInt8)) : List UInt8 := us.flatMap (· ++ [32])
def places : Nat → List (List UInt8) → List (Nat × Nat)
  | _, [] => []
  | i, u :: r => (i, i + u.length) :: places (i + u.length + 1) r
theorem sp_cons (u : List UInt8) (r : List (List UInt8)) : sp (u :: r) = u ++ 32 :: sp r := by simp [sp]
theorem sp_append (a b : List (List UInt8)) : sp (a ++ b) = sp a ++ sp b := by simp [sp]
theorem scan_mid {b : Nat} (r : List UInt8) : ∀ (u : List UInt8) (i : Nat), (∀ c ∈ u, isBr c = false ∧ isGp c = false) → scanW i (some b) (u ++ r) = scanW (i + u.length) (some b) r := by
  intro u
  induction u with
  | nil => intro i _; rfl
  | cons c u ih =>
    intro i h
    obtain ⟨h1, h2⟩ := h c (List.mem_cons_self ..)
    rw [List.cons_append, scanW, h1, h2]
    simp only [Bool.false_eq_true, if_false, Option.getD_some]
    rw [ih (i + 1) (fun x hx => h x (List.mem_cons_of_mem _ hx)), List.length_cons]
    congr 1
    omega
theorem scan_plain {u : List UInt8} (hn : u ≠ []) (h : ∀ c ∈ u, isBr c = false ∧ isGp c = false) (i : Nat) (r : List UInt8) : scanW i none (u ++ r) = scanW (i + u.length) (some i) r := by
  cases u with
  | nil => exact absurd rfl hn
  | cons c u =>
    obtain ⟨h1, h2⟩ := h c (List.mem_cons_self ..)
    rw [List.cons_append, scanW, h1, h2]
    simp only [Bool.false_eq_true, if_false, Option.getD_none]
    rw [scan_mid r u (i + 1) (fun x hx => h x (List.mem_cons_of_mem _ hx)), List.length_cons]
    congr 1
    omega
theorem scan_gap (i : Nat) (f : Option Nat) (r : List UInt8) : scanW i f (32 :: r) = shutW f i ++ scanW (i + 1) none r := by
  rw [scanW]
  rw [if_neg (by decide), if_pos (by decide)]
theorem scan_spelt {u : List UInt8} (h : WordB u) (i : Nat) (r : List UInt8) : scanW i none (u ++ 32 :: r) = (i, i + u.length) :: scanW (i + u.length + 1) none r := by
  rcases h with rfl | rfl | ⟨h1, h2⟩
  · show scanW i none (123 :: 32 :: r) = _
    rw [scanW, if_pos (by decide), scan_gap]
    rfl
  · show scanW i none (125 :: 32 :: r) = _
    rw [scanW, if_pos (by decide), scan_gap]
    rfl
  · rw [scan_plain h1 h2, scan_gap]
    rfl
theorem scan_sp : ∀ (us : List (List UInt8)) (i : Nat) (v : List UInt8), (∀ u ∈ us, WordB u) → scanW i none (sp us ++ v) = places i us ++ scanW (i + (sp us).length) none v := by
  intro us
  induction us with
  | nil => intro i v _; rfl
  | cons u r ih =>
    intro i v h
    have e : sp (u :: r) ++ v = u ++ 32 :: (sp r ++ v) := by rw [sp_cons]; simp
    rw [e, scan_spelt (h u (List.mem_cons_self ..)), ih _ _ (fun x hx => h x (List.mem_cons_of_mem _ hx)), places, List.cons_append, sp_cons]
    congr 3
    simp
    omega
/-- A part of a text, by what stands ahead of it. -/
theorem bytes_at {t : ByteArray} {a u b : List UInt8} (h : t.data.toList = a ++ (u ++ b)) : bytesOf t (a.length, a.length + u.length) = u := by
  unfold bytesOf
  rw [ByteArray.data_extract, Array.toList_extract, h]
  simp [List.extract]
theorem places_bytes {t : ByteArray} : ∀ (us : List (List UInt8)) (a v : List UInt8), t.data.toList = a ++ (sp us ++ v) → (places a.length us).map (bytesOf t) = us := by
  intro us
  induction us with
  | nil => intro a v _; rfl
  | cons u r ih =>
    intro a v h
    rw [sp_cons] at h
    have h1 : t.data.toList = a ++ (u ++ (32 :: (sp r ++ v))) := by rw [h]; simp
    have h2 : t.data.toList = (a ++ (u ++ [32])) ++ (sp r ++ v) := by rw [h]; simp
    have h3 := ih _ _ h2
    rw [places, List.map_cons, bytes_at h1]
    congr 1
    have e : (a ++ (u ++ [32])).length = a.length + u.length + 1 := by simp; omega
    rw [e] at h3
    exact h3
/-- The words of a text that ends with a blank. -/
theorem words_sp {t : ByteArray} {us : List (List UInt8)} (h : t.data.toList = sp us) (hw : ∀ u ∈ us, WordB u) : (wordsL t.data.toList).map (bytesOf t) = us := by
  have h1 := scan_sp us 0 [] hw
  rw [List.append_nil] at h1
  unfold wordsL
  rw [h, h1]
  have h2 : scanW (0 + (sp us).length) none [] = [] := rfl
  rw [h2, List.append_nil]
  exact places_bytes us [] [] (by rw [h]; simp)
end Go.Proofs.Herald
