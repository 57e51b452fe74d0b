import Derived.Test.YtmmmnghiegajmabGreatM04
import Derived.Test.YtmmmnghiegajmabGreatM05
import Derived.Test.YtmmmnghiegajmabGreatM06
import Derived.Deep.DeepCutAuto
/- Code of texts, as plain functions of trees: its length, and that it is sound. The program's writer of code: put and leadOn. -/
namespace Go.Proofs.Herald
/-- The code of one statement; sub: of its blocks, by the number of repeats around and the place where it begins. -/
def stmC (t : ByteArray) {T : Type} (sub : T → Nat → Nat → List Ins) (x : Hd × T × T) (rep base : Nat) : List Ins :=
  if bytesOf t x.1.p = kSend then [⟨1, x.1.key, 0, 0⟩]
  else if bytesOf t x.1.p = kWait then [⟨2, x.1.n, 0, 0⟩]
  else if bytesOf t x.1.p = kStop then [⟨0, 0, 0, 0⟩]
  else if bytesOf t x.1.p = kAsk then
    ⟨3, x.1.key, x.1.n, ((base + 2 + (sub x.2.1 rep (base + 1)).length : Nat) : Int)⟩ :: (sub x.2.1 rep (base + 1) ++
      ⟨8, 0, 0, ((base + 2 + (sub x.2.1 rep (base + 1)).length + (sub x.2.2 rep (base + 2 + (sub x.2.1 rep (base + 1)).length)).length : Nat) : Int)⟩ :: sub x.2.2 rep (base + 2 + (sub x.2.1 rep (base + 1)).length))
  else if bytesOf t x.1.p = kRetry then
    ⟨4, 4, x.1.m, 0⟩ :: ⟨4, 5, x.1.n, 0⟩ :: ⟨6, x.1.key, 5, ((base + 6 + (sub x.2.2 rep (base + 5)).length : Nat) : Int)⟩ :: ⟨5, 5, 0, 0⟩ :: ⟨7, 4, 0, ((base + 2 : Nat) : Int)⟩ :: (sub x.2.2 rep (base + 5) ++
      ⟨8, 0, 0, ((base + 6 + (sub x.2.2 rep (base + 5)).length + (sub x.2.1 rep (base + 6 + (sub x.2.2 rep (base + 5)).length)).length : Nat) : Int)⟩ :: sub x.2.1 rep (base + 6 + (sub x.2.2 rep (base + 5)).length))
  else if bytesOf t x.1.p = kRepeat then
    ⟨4, (rep : Nat), x.1.n, 0⟩ :: (sub x.2.1 (rep + 1) (base + 1) ++ [⟨7, (rep : Nat), 0, ((base + 1 : Nat) : Int)⟩])
  else []
/-- The code of statements, one behind the other. -/
def compL (t : ByteArray) {T : Type} (sub : T → Nat → Nat → List Ins) : List (Hd × T × T) → Nat → Nat → List Ins
  | [], _, _ => []
  | x :: r, rep, base => stmC t sub x rep base ++ compL t sub r rep (base + (stmC t sub x rep base).length)
def compT (t : ByteArray) : (d : Nat) → Tree d → Nat → Nat → List Ins
  | 0, _, _, _ => []
  | d + 1, l, rep, base => compL t (compT t d) l rep base
theorem compT_nil (t : ByteArray) (d rep base : Nat) : compT t d (nilT d) rep base = [] := by cases d <;> rfl
theorem stmC_send {t : ByteArray} {T : Type} (sub : T → Nat → Nat → List Ins) (x : Hd × T × T) (rep base : Nat) (h : bytesOf t x.1.p = kSend) : stmC t sub x rep base = [⟨1, x.1.key, 0, 0⟩] := by
  unfold stmC; rw [h]; rfl
theorem stmC_wait {t : ByteArray} {T : Type} (sub : T → Nat → Nat → List Ins) (x : Hd × T × T) (rep base : Nat) (h : bytesOf t x.1.p = kWait) : stmC t sub x rep base = [⟨2, x.1.n, 0, 0⟩] := by
  unfold stmC; rw [h]; rfl
theorem stmC_stop {t : ByteArray} {T : Type} (sub : T → Nat → Nat → List Ins) (x : Hd × T × T) (rep base : Nat) (h : bytesOf t x.1.p = kStop) : stmC t sub x rep base = [⟨0, 0, 0, 0⟩] := by
  unfold stmC; rw [h]; rfl
theorem stmC_ask {t : ByteArray} {T : Type} (sub : T → Nat → Nat → List Ins) (x : Hd × T × T) (rep base : Nat) (h : bytesOf t x.1.p = kAsk) : stmC t sub x rep base =
    ⟨3, x.1.key, x.1.n, ((base + 2 + (sub x.2.1 rep (base + 1)).length : Nat) : Int)⟩ :: (sub x.2.1 rep (base + 1) ++
      ⟨8, 0, 0, ((base + 2 + (sub x.2.1 rep (base + 1)).length + (sub x.2.2 rep (base + 2 + (sub x.2.1 rep (base + 1)).length)).length : Nat) : Int)⟩ :: sub x.2.2 rep (base + 2 + (sub x.2.1 rep (base + 1)).length)) := by
  unfold stmC; rw [h]; rfl
theorem stmC_retry {t : ByteArray} {T : Type} (sub : T → Nat → Nat → List Ins) (x : Hd × T × T) (rep base : Nat) (h : bytesOf t x.1.p = kRetry) : stmC t sub x rep base =
    ⟨4, 4, x.1.m, 0⟩ :: ⟨4, 5, x.1.n, 0⟩ :: ⟨6, x.1.key, 5, ((base + 6 + (sub x.2.2 rep (base + 5)).length : Nat) : Int)⟩ :: ⟨5, 5, 0, 0⟩ :: ⟨7, 4, 0, ((base + 2 : Nat) : Int)⟩ :: (sub x.2.2 rep (base + 5) ++
      ⟨8, 0, 0, ((base + 6 + (sub x.2.2 rep (base + 5)).length + (sub x.2.1 rep (base + 6 + (sub x.2.2 rep (base + 5)).length)).length : Nat) : Int)⟩ :: sub x.2.1 rep (base + 6 + (sub x.2.2 rep (base + 5)).length)) := by
  unfold stmC; rw [h]; rfl
theorem stmC_repeat {t : ByteArray} {T : Type} (sub : T → Nat → Nat → List Ins) (x : Hd × T × T) (rep base : Nat) (h : bytesOf t x.1.p = kRepeat) : stmC t sub x rep base =
    ⟨4, (rep : Nat), x.1.n, 0⟩ :: (sub x.2.1 (rep + 1) (base + 1) ++ [⟨7, (rep : Nat), 0, ((base + 1 : Nat) : Int)⟩]) := by
  unfold stmC; rw [h]; rfl
/-- No statement makes more instructions than it has words. -/
theorem GL.codeLen {t : ByteArray} {d : Nat} (hs : ∀ ws x rep base, GT t d ws x → (compT t d x rep base).length ≤ ws.length) : ∀ (l : List (Hd × Tree d × Tree d)) (ws : List (Nat × Nat)) (rep base : Nat), GL t (GT t d) (nilT d) ws l → (compL t (compT t d) l rep base).length ≤ ws.length := by
  intro l
  induction l with
  | nil => intro ws rep base _; simp [compL]
  | cons x r ih =>
    intro ws rep base h
    rw [GL] at h
    obtain ⟨wo, wb, wr, f, rfl, hh, _, hr, hb⟩ := h
    have h1 := ih wr rep (base + (stmC t (compT t d) x rep base).length) hr
    have h2 : (stmC t (compT t d) x rep base).length ≤ wo.length + wb.length := by
      have e0 := compT_nil t d
      rcases hh with ⟨p, q, rfl, rfl, hk, hx⟩ | ⟨p, q, rfl, rfl, hk, hx⟩ | ⟨p, rfl, rfl, hk, hx⟩ | ⟨p, q, u, rfl, rfl, hk, hx⟩ | ⟨p, q, u, v, rfl, rfl, hk, hx⟩ | ⟨p, q, rfl, rfl, hk, hx⟩
      · rw [stmC_send _ _ _ _ (by rw [hx]; exact hk)]; simp; omega
      · rw [stmC_wait _ _ _ _ (by rw [hx]; exact hk)]; simp; omega
      · rw [stmC_stop _ _ _ _ (by rw [hx]; exact hk)]; simp
      · rw [stmC_ask _ _ _ _ (by rw [hx]; exact hk)]
        rcases hb with ⟨h0, _⟩ | ⟨o, wa, c, _, rfl, _, _, ha, e2, _⟩ | ⟨o, wa, c, e, o2, wa2, c2, _, rfl, _, _, _, _, _, ha, ha2⟩
        · omega
        · have := hs _ _ rep (base + 1) ha
          rw [e2, e0]; simp; omega
        · have := hs _ _ rep (base + 1) ha
          have := hs _ _ rep (base + 2 + (compT t d x.2.1 rep (base + 1)).length) ha2
          simp; omega
      · rw [stmC_retry _ _ _ _ (by rw [hx]; exact hk)]
        rcases hb with ⟨h0, _⟩ | ⟨o, wa, c, _, rfl, _, _, ha, e2, _⟩ | ⟨o, wa, c, e, o2, wa2, c2, _, rfl, _, _, _, _, _, ha, ha2⟩
        · omega
        · have := hs _ _ rep (base + 6) ha
          rw [e2, e0]; simp; omega
        · have := hs _ _ rep (base + 5) ha2
          have := hs _ _ rep (base + 6 + (compT t d x.2.2 rep (base + 5)).length) ha
          simp; omega
      · rw [stmC_repeat _ _ _ _ (by rw [hx]; exact hk)]
        rcases hb with ⟨h0, _⟩ | ⟨o, wa, c, _, rfl, _, _, ha, e2, _⟩ | ⟨o, wa, c, e, o2, wa2, c2, h0, rfl, _, _, _, _, _, ha, ha2⟩
        · omega
        · have := hs _ _ (rep + 1) (base + 1) ha
          simp; omega
        · omega
    rw [compL, List.length_append]
    simp only [List.length_append]
    omega
theorem GT.codeLen {t : ByteArray} : ∀ (d : Nat) (ws : List (Nat × Nat)) (x : Tree d) (rep base : Nat), GT t d ws x → (compT t d x rep base).length ≤ ws.length := by
  intro d
  induction d with
  | zero => intro ws x rep base _; exact Nat.zero_le _
  | succ d ih => intro ws x rep base h; exact GL.codeLen (fun ws x rep base => ih ws x rep base) x.list ws rep base h
/-- All keys are keys. -/
def KeysT (t : ByteArray) : (d : Nat) → Tree d → Prop
  | 0, _ => True
  | d + 1, l => ∀ x : Hd × Tree d × Tree d, x ∈ l.list → (0 ≤ x.1.key ∧ x.1.key ≤ 7) ∧ KeysT t d x.2.1 ∧ KeysT t d x.2.2
def KeysF (l : List Nd) : Prop := ∀ x ∈ l, 0 ≤ x.key ∧ x.key ≤ 7
theorem KeysF.tree {t : ByteArray} : ∀ (d : Nat) (tr : Tree d), KeysF (flatT t d tr) → KeysT t d tr := by
  intro d
  induction d with
  | zero => intro tr _; trivial
  | succ d ih =>
    intro tr h x hx
    have hm : ∀ y, y ∈ ndOf t x.1 (flatT t d x.2.1).length (flatT t d x.2.2).length :: (flatT t d x.2.1 ++ flatT t d x.2.2) → 0 ≤ y.key ∧ y.key ≤ 7 := fun y hy => h y (List.mem_flatMap.mpr ⟨x, hx, hy⟩)
    refine ⟨hm _ List.mem_cons_self, ih _ fun y hy => hm y ?_, ih _ fun y hy => hm y ?_⟩
    · exact List.mem_cons_of_mem _ (List.mem_append.mpr (Or.inl hy))
    · exact List.mem_cons_of_mem _ (List.mem_append.mpr (Or.inr hy))
theorem kV_bound (l : List UInt8) : 0 ≤ kV l ∧ kV l ≤ 7 := by
  have := keyL_bound l
  unfold kV; split <;> omega
theorem KeysF.set {l : List Nd} (h : KeysF l) (i n : Nat) : KeysF (setBody l i n) ∧ KeysF (setEls l i n) := by
  constructor
  all_goals
    intro x hx
    simp only [setBody, setEls] at hx
    rw [List.mem_iff_getElem?] at hx
    obtain ⟨j, hj⟩ := hx
    rw [List.getElem?_modify] at hj
    cases hl : l[j]? with
    | none => rw [hl] at hj; simp at hj
    | some y =>
      rw [hl] at hj
      have hy := h y (List.mem_of_getElem? hl)
      by_cases hij : i = j
      · simp [hij] at hj
        subst hj
        exact hy
      · simp [hij] at hj
        subst hj
        exact hy
theorem KeysF.same {a b : RSt} (h : KeysF a.fl) (k : Same4 a b) : KeysF b.fl := by rw [k.fl]; exact h
theorem keys_braced (t : ByteArray) (blk : RSt → Bool × RSt) (hb : ∀ st, KeysF st.fl → KeysF (blk st).2.fl) (st : RSt) (h : KeysF st.fl) : KeysF (bracedR t blk st).2.2.fl := by
  unfold bracedR
  split
  · exact h
  · have h1 : KeysF (if 4 ≤ st.deep then noteR st 4 (atR t st.us : Nat) else st).fl := by
      split
      · exact h.same (Same4.note _ _ _)
      · exact h
    dsimp only
    generalize (if 4 ≤ st.deep then noteR st 4 (atR t st.us : Nat) else st) = s1 at h1 ⊢
    split
    · exact hb (advR { s1 with deep := s1.deep + 1 }) h1
    · exact hb (advR { s1 with deep := s1.deep + 1 }) h1
theorem keys_statement (t : ByteArray) (blk : RSt → Bool × RSt) (hb : ∀ st, KeysF st.fl → KeysF (blk st).2.fl) (st : RSt) (h : KeysF st.fl) : KeysF (statementR t blk st).2.fl := by
  unfold statementR
  simp only []
  split
  · exact h
  · have h1 : KeysF (timesR t (advR st) (kindI (bytesR t st))).2.2.fl := KeysF.same (a := advR st) h (timesR_same _ _ _).1
    split
    · have h2 : KeysF (keyR t (timesR t (advR st) (kindI (bytesR t st))).2.2 (kindI (bytesR t st))).2.2.fl := KeysF.same h1 (keyR_same _ _ _)
      split
      · have h3 : KeysF (ticksR t (keyR t (timesR t (advR st) (kindI (bytesR t st))).2.2 (kindI (bytesR t st))).2.2 (kindI (bytesR t st))).2.2.fl := KeysF.same h2 (ticksR_same _ _ _)
        have hk : 0 ≤ (keyR t (timesR t (advR st) (kindI (bytesR t st))).2.2 (kindI (bytesR t st))).1 ∧ (keyR t (timesR t (advR st) (kindI (bytesR t st))).2.2 (kindI (bytesR t st))).1 ≤ 7 := by
          unfold keyR
          split
          · exact kV_bound _
          · exact ⟨by simp, by simp⟩
        split
        · have h4 : KeysF ((ticksR t (keyR t (timesR t (advR st) (kindI (bytesR t st))).2.2 (kindI (bytesR t st))).2.2 (kindI (bytesR t st))).2.2.fl ++ [{ kind := kindI (bytesR t st), key := (keyR t (timesR t (advR st) (kindI (bytesR t st))).2.2 (kindI (bytesR t st))).1, times := (timesR t (advR st) (kindI (bytesR t st))).1, ticks := (ticksR t (keyR t (timesR t (advR st) (kindI (bytesR t st))).2.2 (kindI (bytesR t st))).2.2 (kindI (bytesR t st))).1, body := 0, els := 0 }]) := by
            intro x hx
            rw [List.mem_append, List.mem_singleton] at hx
            rcases hx with hx | rfl
            · exact h3 x hx
            · exact hk
          split
          · unfold branchesR
            simp only []
            split
            · split
              · exact ((keys_braced t blk hb _ (((keys_braced t blk hb _ h4).set _ _).1)).set _ _).2
              · exact ((keys_braced t blk hb _ h4).set _ _).1
            · exact keys_braced t blk hb _ h4
          · split
            · unfold repeatedR
              simp only []
              refine ((keys_braced t blk hb _ ?_).set _ _).1
              split
              · refine KeysF.same ?_ (Same4.note _ _ _)
                exact h4
              · exact h4
            · exact h4
        · exact h3
      · exact h2
    · exact h1
theorem keys_loop (t : ByteArray) (stm : RSt → Bool × RSt) (hs : ∀ st, KeysF st.fl → KeysF (stm st).2.fl) (behind : List UInt8) : ∀ (f : Nat) (st : RSt), KeysF st.fl → KeysF (loopR t stm behind f st).2.fl := by
  intro f
  induction f with
  | zero => intro st h; exact h
  | succ f ih =>
    intro st h
    rw [loopR]
    split
    · exact h
    · split
      · exact ih _ (hs _ h)
      · exact hs _ h
theorem keys_block (t : ByteArray) : ∀ (n : Nat) (behind : List UInt8) (st : RSt), KeysF st.fl → KeysF (blockR t n behind st).2.fl := by
  intro n
  induction n with
  | zero => intro behind st h; exact h
  | succ n ih => intro behind st h; exact keys_loop t _ (fun st h => keys_statement t _ (fun st h => ih kShut st h) st h) behind _ st h
theorem endR_keys (t : ByteArray) : KeysF (endR t).2.fl :=
  keys_loop t _ (fun st h => keys_statement t _ (fun st h => keys_block t 401 kShut st h) st h) [] _ (startR t) (fun x hx => by simp [startR] at hx)
theorem wB {n lo hi : Int} (h1 : lo ≤ n) (h2 : n ≤ hi) : withinB n lo hi = true := by unfold withinB; rw [decide_eq_true h1, decide_eq_true h2]; rfl
/-- Code is sound wherever it stands in code of N. -/
theorem compT_sound (t : ByteArray) (N : Nat) : ∀ (d : Nat) (tr : Tree d) (rep base : Nat), GoodT t d tr → KeysT t d tr → rep + d ≤ 12 → base + (compT t d tr rep base).length ≤ N → ∀ x ∈ compT t d tr rep base, soundI (N : Int) x = true := by
  intro d
  induction d with
  | zero => intro tr rep base _ _ _ _ x hx; cases hx
  | succ d ih =>
    intro tr rep base hg hk hr hN
    have key : ∀ (l : List (Hd × Tree d × Tree d)) (base : Nat), (∀ x ∈ l, GoodHd t x.1 ∧ GoodT t d x.2.1 ∧ GoodT t d x.2.2) → (∀ x ∈ l, (0 ≤ x.1.key ∧ x.1.key ≤ 7) ∧ KeysT t d x.2.1 ∧ KeysT t d x.2.2) → base + (compL t (compT t d) l rep base).length ≤ N →
        ∀ x ∈ compL t (compT t d) l rep base, soundI (N : Int) x = true := by
      intro l
      induction l with
      | nil => intro base _ _ _ x hx; cases hx
      | cons y r ihr =>
        intro base hg hk hN x hx
        rw [compL] at hx hN
        rw [List.length_append] at hN
        rw [List.mem_append] at hx
        rcases hx with hx | hx
        · obtain ⟨gh, ga, gb⟩ := hg y List.mem_cons_self
          obtain ⟨⟨k0, k1⟩, ka, kb⟩ := hk y List.mem_cons_self
          have hN1 : base + (stmC t (compT t d) y rep base).length ≤ N := by omega
          clear hN
          rcases gh with ⟨hk, _⟩ | ⟨hk, h1, h2, _⟩ | ⟨hk, _⟩ | ⟨hk, h1, h2, _⟩ | ⟨hk, h1, h2, h3, h4⟩ | ⟨hk, h1, h2, _⟩
          · rw [stmC_send _ _ _ _ hk] at hx
            simp only [List.mem_singleton] at hx
            subst hx
            simp [soundI, wB k0 k1]
          · rw [stmC_wait _ _ _ _ hk] at hx
            simp only [List.mem_singleton] at hx
            subst hx
            simp [soundI, wB h1 h2]
          · rw [stmC_stop _ _ _ _ hk] at hx
            simp only [List.mem_singleton] at hx
            subst hx
            simp [soundI]
          · rw [stmC_ask _ _ _ _ hk] at hx hN1
            simp only [List.length_cons, List.length_append] at hN1
            simp only [List.mem_cons, List.mem_append] at hx
            rcases hx with rfl | hx | rfl | hx
            · have := wB (n := ((base + 2 + (compT t d y.2.1 rep (base + 1)).length : Nat) : Int)) (lo := 0) (hi := (N : Int)) (by omega) (by omega)
              simp only [soundI, wB k0 k1, wB h1 h2, this]; rfl
            · exact ih _ _ _ ga ka (by omega) (by omega) x hx
            · have := wB (n := ((base + 2 + (compT t d y.2.1 rep (base + 1)).length + (compT t d y.2.2 rep (base + 2 + (compT t d y.2.1 rep (base + 1)).length)).length : Nat) : Int)) (lo := 0) (hi := (N : Int)) (by omega) (by omega)
              simp only [soundI, this]; rfl
            · exact ih _ _ _ gb kb (by omega) (by omega) x hx
          · rw [stmC_retry _ _ _ _ hk] at hx hN1
            simp only [List.length_cons, List.length_append] at hN1
            simp only [List.mem_cons, List.mem_append] at hx
            rcases hx with rfl | rfl | rfl | rfl | rfl | hx | rfl | hx
            · simp only [soundI, wB (show (0 : Int) ≤ y.1.m by omega) (show y.1.m ≤ 999 by omega)]; rfl
            · simp only [soundI, wB (show (0 : Int) ≤ y.1.n by omega) h2]; rfl
            · have := wB (n := ((base + 6 + (compT t d y.2.2 rep (base + 5)).length : Nat) : Int)) (lo := 0) (hi := (N : Int)) (by omega) (by omega)
              simp only [soundI, wB k0 k1, this]; rfl
            · rfl
            · have := wB (n := ((base + 2 : Nat) : Int)) (lo := 0) (hi := (N : Int)) (by omega) (by omega)
              simp only [soundI, this]; rfl
            · exact ih _ _ _ gb kb (by omega) (by omega) x hx
            · have := wB (n := ((base + 6 + (compT t d y.2.2 rep (base + 5)).length + (compT t d y.2.1 rep (base + 6 + (compT t d y.2.2 rep (base + 5)).length)).length : Nat) : Int)) (lo := 0) (hi := (N : Int)) (by omega) (by omega)
              simp only [soundI, this]; rfl
            · exact ih _ _ _ ga ka (by omega) (by omega) x hx
          · rw [stmC_repeat _ _ _ _ hk] at hx hN1
            simp only [List.length_cons, List.length_append, List.length_nil] at hN1
            simp only [List.mem_cons, List.mem_append, List.not_mem_nil, or_false] at hx
            have hrp := wB (n := (rep : Int)) (lo := 0) (hi := 11) (by omega) (by omega)
            rcases hx with rfl | hx | rfl
            · simp only [soundI, hrp, wB (show (0 : Int) ≤ y.1.n by omega) (show y.1.n ≤ 999 by omega)]; rfl
            · exact ih _ _ _ ga ka (by omega) (by omega) x hx
            · have := wB (n := ((base + 1 : Nat) : Int)) (lo := 0) (hi := (N : Int)) (by omega) (by omega)
              simp only [soundI, hrp, this]; rfl
        · exact ihr _ (fun z hz => hg z (List.mem_cons_of_mem _ hz)) (fun z hz => hk z (List.mem_cons_of_mem _ hz)) (by omega) x hx
    exact key tr base hg hk hN
/-- What Compile makes of a text without a fault. -/
structure TextOk (t : ByteArray) (tr : Tree 5) : Prop where
  ended : (endR t).1 = true
  fault : (endR t).2.fault = 0
  flat : (endR t).2.fl = flatT t 5 tr
  words : GT t 5 (wordsL t.data.toList) tr
  good : GoodT t 5 tr
  keys : KeysT t 5 tr
  size : sizeT 5 tr ≤ 400
  deep : deepL t (wordsL t.data.toList) 0 = -1
  short : ¬ 100000 < maxI (lastsT t 5 tr).1 (lastsT t 5 tr).2
  heavy : heavyT t 5 tr 1 = -1
def codeOf (t : ByteArray) (tr : Tree 5) : List Ins := compT t 5 tr 0 0
theorem TextOk.len {t : ByteArray} {tr : Tree 5} (h : TextOk t tr) (ht : t.size ≤ 400) : (codeOf t tr).length ≤ 400 := by
  have h1 := GT.codeLen 5 _ tr 0 0 h.words
  have h2 := wordsL_length t.data.toList
  have h3 : t.data.toList.length = t.size := by simp
  unfold codeOf
  omega
theorem TextOk.sound {t : ByteArray} {tr : Tree 5} (h : TextOk t tr) (ht : t.size ≤ 400) : soundL (codeOf t tr) = true := by
  have h1 := h.len ht
  unfold soundL
  rw [decide_eq_true (by omega), Bool.true_and, List.all_eq_true]
  intro x hx
  exact compT_sound t (codeOf t tr).length 5 tr 0 0 h.good h.keys (by omega) (by unfold codeOf; omega) x hx
/-- Both answers; where there is no fault, the tree. -/
theorem answers2 (t : ByteArray) (ht : t.size ≤ 400) : ∃ r, RefAns t r ∧ CodeAns t r ∧ ((∃ tr, TextOk t tr ∧ r = (maxI (lastsT t 5 tr).1 (lastsT t 5 tr).2, 0, 0)) ∨ r.2.1 ≠ 0) := by
  cases h : (endR t).1 with
  | false =>
    exact ⟨(0, 2, (atR t (endR t).2.us : Int)), Or.inl ⟨2, _, tie_no t ht h, by decide, rfl⟩, Or.inl ⟨h, rfl⟩, Or.inr (by simp)⟩
  | true =>
    obtain ⟨e, he, hf, hd, hdp, htree⟩ := tie_yes t ht h
    have hfst : (endR t).2.fault = (encG e).1 := congrArg Prod.fst he
    have hsnd : (endR t).2.place = (encG e).2 := congrArg Prod.snd he
    obtain ⟨f3, f4, f5⟩ := e
    cases f3 with
    | some p =>
      refine ⟨(0, 3, p), Or.inl ⟨3, p, hf, by decide, rfl⟩, Or.inr (Or.inl ⟨h, by rw [hfst]; show (3 : Int) ≠ 0; decide, ?_⟩), Or.inr (by simp)⟩
      rw [hfst, hsnd]; rfl
    | none =>
      cases f4 with
      | some p =>
        refine ⟨(0, 4, p), Or.inr (Or.inl ⟨p, hf, hd, hdp p rfl, rfl⟩), Or.inr (Or.inl ⟨h, by rw [hfst]; show (4 : Int) ≠ 0; decide, ?_⟩), Or.inr (by simp)⟩
        rw [hfst, hsnd]; rfl
      | none =>
        obtain ⟨tr, g1, g2, g3⟩ := htree rfl
        obtain ⟨g4, g5, g6⟩ := g3 rfl
        have hsz : sizeT 5 tr ≤ 400 := by
          have h1 := GT.size 5 _ tr g1
          have h2 := wordsL_length t.data.toList
          have h3 : t.data.toList.length = t.size := by simp
          omega
        cases f5 with
        | some p =>
          refine ⟨(0, 5, p), Or.inr (Or.inr ⟨tr, hf, hd, g1, g4, hsz, Or.inl ⟨p, g5, g6 p rfl, rfl⟩⟩), Or.inr (Or.inl ⟨h, by rw [hfst]; show (5 : Int) ≠ 0; decide, ?_⟩), Or.inr (by simp)⟩
          rw [hfst, hsnd]; rfl
        | none =>
          have h0 : (endR t).2.fault = 0 := by rw [hfst]; rfl
          by_cases hl : 100000 < maxI (lastsT t 5 tr).1 (lastsT t 5 tr).2
          · exact ⟨(0, 6, 0), Or.inr (Or.inr ⟨tr, hf, hd, g1, g4, hsz, Or.inr (Or.inl ⟨g5, hl, rfl⟩)⟩), Or.inr (Or.inr ⟨h, h0, tr, g2, g4, hsz, Or.inl ⟨hl, rfl⟩⟩), Or.inr (by simp)⟩
          · refine ⟨_, Or.inr (Or.inr ⟨tr, hf, hd, g1, g4, hsz, Or.inr (Or.inr ⟨g5, hl, rfl⟩)⟩), Or.inr (Or.inr ⟨h, h0, tr, g2, g4, hsz, Or.inr ⟨hl, rfl⟩⟩), Or.inl ⟨tr, ⟨h, h0, g2, g1, g4, ?_, hsz, hd, hl, g5⟩, rfl⟩⟩
            exact KeysF.tree 5 tr (by rw [← g2]; exact endR_keys t)
end Go.Proofs.Herald
namespace Go.Proofs.YtmmmnghiegajmabGreat
open Go.RowKit Go.Proofs.Herald
/-- The writer R has written the code cs. -/
structure WrAt (B : Nat) (w : World) (R : Nat) (sv : Value) (cs : List Ins) : Prop where
  le : B ≤ R
  blk : w.heap[R]? = some (.cells #[sv] 107 (0, 0))
  own : w.ownsRow 0 117 4 sv cs.length (codeCells cs)
  new : ∀ b, sv.ownBlock = some b → B ≤ b
theorem WrAt.keep {B : Nat} {w w' : World} {R : Nat} {sv : Value} {cs : List Ins} (h : WrAt B w R sv cs) (hk : ∀ k, k < w.heap.size → w'.heap[k]? = w.heap[k]?) : WrAt B w' R sv cs :=
  ⟨h.le, by rw [hk _ (heap_lt h.blk)]; exact h.blk, own_keep h.own fun b hb => by obtain ⟨cur, hc⟩ := own_block h.own hb; exact hk _ (heap_lt hc), h.new⟩
theorem WrAt.alloc {B : Nat} {w : World} {R : Nat} {sv : Value} {cs : List Ins} (h : WrAt B w R sv cs) (o : Obj) : WrAt B (w.alloc o) R sv cs := h.keep fun _ hk => Below.heap_alloc _ _ _ hk
theorem WrAt.push {B : Nat} {w W w1 : World} {R g cap : Nat} {sv : Value} {cs : List Ins} (x : Ins) (h : WrAt B w R sv cs) (h0 : OneMore w W)
    (hown1 : w1.ownsRow 0 117 4 (.slice (some ⟨g, 0, none⟩) (cs.length + 1) cap) (cs.length + 1) (codeCells cs ++ insCells x)) (hgrow : W.grownBy w1 sv.ownBlock) (hat : sv.ownBlock = some g ∨ g = W.heap.size) :
    WrAt B (w1.setCell ⟨R, 0, none⟩ (.slice (some ⟨g, 0, none⟩) (cs.length + 1) cap)) R (.slice (some ⟨g, 0, none⟩) (cs.length + 1) cap) (cs ++ [x]) ∧
      Below B w (w1.setCell ⟨R, 0, none⟩ (.slice (some ⟨g, 0, none⟩) (cs.length + 1) cap)) := by
  have hs := h0.size
  have hRl := heap_lt h.blk
  have hvR : sv.ownBlock ≠ some R := fun e => by obtain ⟨cur, hc⟩ := own_block h.own e; exact ne_of_type hc h.blk (by decide) rfl
  have hR1 : w1.heap[R]? = w.heap[R]? := grown_same h0 hgrow hRl hvR
  have hBg : B ≤ g := by
    rcases hat with h1 | h1
    · exact h.new _ h1
    · have := h.le; omega
  have hgR : g ≠ R := by
    obtain ⟨cur, hc⟩ := own_block hown1 (k := g) rfl
    exact ne_of_type hc (hR1.trans h.blk) (by decide)
  refine ⟨⟨h.le, ?_, ?_, ?_⟩, ?_⟩
  · rw [heap_setCell_self _ (hR1.trans h.blk)]; rfl
  · have e1 : codeCells (cs ++ [x]) = codeCells cs ++ insCells x := by rw [codeCells_append]; simp [codeCells]
    rw [e1, List.length_append]
    exact own_keep hown1 (fun k hk => by simp [Value.ownBlock] at hk; subst hk; exact Below.heap_setCell _ _ _ _ hgR)
  · intro b hb
    simp [Value.ownBlock] at hb
    omega
  · have hb : Below B w w1 := ⟨hgrow.os.trans h0.os, hgrow.tape.trans h0.tape, hgrow.output.trans h0.output, by have := grown_size h0 hgrow; omega, fun k hk => grown_same h0 hgrow (by have := h.le; omega) (fun e => by have := h.new _ e; omega)⟩
    exact hb.setCell (p := ⟨R, 0, none⟩) h.le _
/-- Blocks of statements stay. -/
def StKeep (w w' : World) : Prop := ∀ (k : Nat) (c : Array Value) (z : Nat × Nat), w.heap[k]? = some (.cells c 127 z) → w'.heap[k]? = some (.cells c 127 z)
set_option maxHeartbeats 2000000 in
theorem c_put0 (B R : Nat) (sv : Value) (cs : List Ins) (x : Ins) (w : World) (h : WrAt B w R sv cs) (hl : cs.length ≤ 1000) :
    Calls Tryz.prog 84 #[.pointer (some ⟨R, 0, none⟩), .agg (insCells x).toArray] w fun e w' => e = .returned (.int .i64 (cs.length : Nat)) ∧ (∃ sv', WrAt B w' R sv' (cs ++ [x])) ∧ Below B w w' ∧ Hid (StKeep w w') := by
  obtain ⟨a, cap, rfl⟩ := ownsRow_slice h.own
  have hcell : insCells x = [.int .i64 x.op, .int .i64 x.a, .int .i64 x.b, .int .i64 x.c] := rfl
  rw [hcell]
  have HC : Hid (insCells x = [.int .i64 x.op, .int .i64 x.a, .int .i64 x.b, .int .i64 x.c]) := hcell
  obtain ⟨w1, hw1⟩ : ∃ w1, w1 = w.alloc (.cells #[.int .i64 x.op, .int .i64 x.a, .int .i64 x.b, .int .i64 x.c] 117) := ⟨_, rfl⟩
  have h1 : WrAt B w1 R (.slice a cs.length cap) cs := by rw [hw1]; exact h.alloc _
  have hx1 : w1.heap[w.heap.size]? = some (.cells #[.int .i64 x.op, .int .i64 x.a, .int .i64 x.b, .int .i64 x.c] 117 (0, 0)) := by rw [hw1]; exact heap_alloc_new _ _
  have HW : Hid (w1 = w.alloc (.cells #[.int .i64 x.op, .int .i64 x.a, .int .i64 x.b, .int .i64 x.c] 117)) := hw1
  have HB1 : Hid (Below B w w1) := by
    show Below B w w1
    rw [hw1]; exact (Below.refl _ _).alloc (by have := heap_lt h.blk; have := h.le; omega) _
  have H1 : Hid (WrAt B w1 R (.slice a cs.length cap) cs) := h1
  have m0 : w1.cell? ⟨w.heap.size, 0, none⟩ = some (.int .i64 x.op) := (cell_of_heap hx1).trans rfl
  have m1 : w1.cell? ⟨w.heap.size, 1, none⟩ = some (.int .i64 x.a) := (cell_of_heap hx1).trans rfl
  have m2 : w1.cell? ⟨w.heap.size, 2, none⟩ = some (.int .i64 x.b) := (cell_of_heap hx1).trans rfl
  have m3 : w1.cell? ⟨w.heap.size, 3, none⟩ = some (.int .i64 x.c) := (cell_of_heap hx1).trans rfl
  have r0 : w1.cell? ⟨R, 0, none⟩ = some (.slice a cs.length cap) := (cell_of_heap h1.blk).trans rfl
  have y0 : w1.frozen? ⟨R, 0, none⟩ = false := free_of_heap h1.blk
  have hRl : R < w1.heap.size := heap_lt h1.blk
  have hXl : w.heap.size < w1.heap.size := heap_lt hx1
  have HK : Hid (StKeep w w1) := fun k c z hk => by rw [hw1, Below.heap_alloc _ _ _ (heap_lt hk)]; exact hk
  have HV : Hid ((Value.slice a cs.length cap).ownBlock ≠ some R) := fun e => by obtain ⟨cur, hc⟩ := own_block H1.out.own e; exact ne_of_type hc H1.out.blk (by decide) rfl
  clear h h1 hx1 hw1 hcell
  go_enter Tryz.func84, Tryz.ntmps84
  go_upto_region 1 with fail
  rw [← HW.out]
  clear HW
  go_upto_region 2 with fail
  go_region_law (refine step_push _ rfl (.tmp 15) (.tmp 17) 35 rfl 117 _ 4 32 Tryz.underlying35 Tryz.infoInstr rfl (by decide) (by decide) (.slice a cs.length cap) _ _ w1.heap.size [.int .i64 x.op, .int .i64 x.a, .int .i64 x.b, .int .i64 x.c] (by rfl) (by exact H1.out.own.alloc _) (by exact heap_alloc_new _ _) (by rfl) rfl (by simp [Value.oneCell']) (by omega) ?_; intro g1 cap1 w2 hown1 hgrow hat hlt; have hc1 : w2.cell? ⟨R, 0, none⟩ = some (.slice a cs.length cap) := (cell_of_heap (grown_block (OneMore.alloc _ _).drew hgrow H1.out.blk HV.out)).trans rfl; have hf1 : w2.frozen? ⟨R, 0, none⟩ = false := free_of_heap (grown_block (OneMore.alloc _ _).drew hgrow H1.out.blk HV.out))
  all_goals
    go_wp2_with fail
    go_ret
    rw [← HC.out] at hown1
    obtain ⟨k1, k2⟩ := H1.out.push x (OneMore.alloc _ _).drew hown1 hgrow hat
    refine ⟨rfl, ⟨_, k1⟩, HB1.out.trans k2, ?_⟩
    intro k c z hk
    have hk1 := HK.out k c z hk
    rw [Below.heap_setCell _ _ _ _ (ne_of_type hk1 H1.out.blk (by decide))]
    exact grown_block (OneMore.alloc _ _).drew hgrow hk1 (fun e => by obtain ⟨cur, hc⟩ := own_block H1.out.own e; exact ne_of_type hc hk1 (by decide) rfl)
theorem c_put (B R n : Nat) (sv : Value) (cs : List Ins) (x : Ins) (w : World) (h : WrAt B w R sv cs) (hn : n = cs.length) (hl : n ≤ 1000) :
    Calls Tryz.prog 84 #[.pointer (some ⟨R, 0, none⟩), .agg (insCells x).toArray] w fun e w' => e = .returned (.int .i64 (n : Nat)) ∧ (∃ sv', WrAt B w' R sv' (cs ++ [x])) ∧ Below B w w' ∧ Hid (StKeep w w') := by
  rw [hn]; exact c_put0 B R sv cs x w h (by omega)
theorem codeCells_lead (pre : List Ins) (x : Ins) (post : List Ins) (n : Int) : (codeCells (pre ++ x :: post)).set (pre.length * 4 + 3) (.int .i64 n) = codeCells (pre ++ { x with c := n } :: post) := by
  have e : ∀ y : Ins, codeCells (pre ++ y :: post) = codeCells pre ++ (insCells y ++ codeCells post) := fun y => by rw [codeCells_append]; simp [codeCells]
  rw [e, e, List.set_append_right _ _ (by rw [codeCells_length]; omega), codeCells_length, show pre.length * 4 + 3 - pre.length * 4 = 3 from by omega]
  rfl
theorem own_lead {w : World} {B : Nat} {e : TypeId} {size n g cap : Nat} {xs : List Value} (h : w.ownsRow B e size (.slice (some ⟨g, 0, none⟩) n cap) n xs) (p : Nat) (v : Value) :
    (w.setCell ⟨g, p, none⟩ v).ownsRow B e size (.slice (some ⟨g, 0, none⟩) n cap) n (xs.set p v) := by
  refine ⟨by rw [List.length_set]; exact h.1, .inr ?_⟩
  rcases h.2 with ⟨h1, _⟩ | ⟨g', cap', cur, hv, hb, hg, hn, hm, hs, ht⟩
  · cases h1
  · simp at hv
    obtain ⟨rfl, rfl⟩ := hv
    refine ⟨g, cap, cur.setIfInBounds p v, rfl, hb, heap_setCell_self v hg, hn, hm, by simpa using hs, ?_⟩
    rw [Array.toList_setIfInBounds, List.take_set, ht]
set_option maxHeartbeats 2000000 in
theorem c_leadOn0 (B R : Nat) (sv : Value) (pre : List Ins) (x : Ins) (post : List Ins) (w : World) (h : WrAt B w R sv (pre ++ x :: post)) (hl : (pre ++ x :: post).length ≤ 2000) :
    Calls Tryz.prog 98 #[.pointer (some ⟨R, 0, none⟩), .int .i64 (pre.length : Nat)] w fun e w' => e = .returned (.tuple #[]) ∧ (∃ sv', WrAt B w' R sv' (pre ++ { x with c := (((pre ++ x :: post).length : Nat) : Int) } :: post)) ∧ Below B w w' := by
  obtain ⟨n, hn⟩ : ∃ n, n = (pre ++ x :: post).length := ⟨_, rfl⟩
  obtain ⟨p, hp⟩ : ∃ p, p = pre.length := ⟨_, rfl⟩
  have hpn : p < n := by rw [hn, hp]; simp
  have hown := h.own
  rw [← hn] at hown hl ⊢
  rw [← hp]
  obtain ⟨g, cap, hv, _, hgl⟩ := hown.form (by omega)
  subst hv
  have hg0 : (codeCells (pre ++ x :: post))[p * 4 + 3]? = some (.int .i64 x.c) := by
    rw [codeCells_get _ p (by rw [← hn]; exact hpn) 3 (by omega)]
    simp [hp, insCells]
  have c0 : w.cell? ⟨g, p * 4 + 3, none⟩ = some (.int .i64 x.c) := by
    have h1 := hown.cells (g := g) rfl (p * 4 + 3) _ hg0
    rwa [Addr.add_lit, Nat.zero_add] at h1
  obtain ⟨cur, hc⟩ := own_block hown (k := g) rfl
  have f0 : w.frozen? ⟨g, p * 4 + 3, none⟩ = false := free_of_heap hc
  have hcap := own_cap hown
  obtain ⟨q1, _, q3⟩ := hcap
  unfold maxLen at q3
  have r0 : w.cell? ⟨R, 0, none⟩ = some (.slice (some ⟨g, 0, none⟩) n cap) := (cell_of_heap h.blk).trans rfl
  have hRl : R < w.heap.size := heap_lt h.blk
  have HS : Hid (WrAt B (w.setCell ⟨g, p * 4 + 3, none⟩ (.int .i64 n)) R (.slice (some ⟨g, 0, none⟩) n cap) (pre ++ { x with c := (n : Int) } :: post) ∧ Below B w (w.setCell ⟨g, p * 4 + 3, none⟩ (.int .i64 n))) := by
    refine ⟨⟨h.le, ?_, ?_, h.new⟩, (Below.refl _ _).setCell (p := ⟨g, p * 4 + 3, none⟩) (h.new g rfl) _⟩
    · rw [Below.heap_setCell _ _ _ _ (ne_of_type h.blk hc (by decide))]; exact h.blk
    · have h1 := own_lead hown (p * 4 + 3) (.int .i64 n)
      rw [hp, codeCells_lead] at h1
      have h2 : (pre ++ { x with c := (n : Int) } :: post).length = n := by rw [hn]; simp
      rw [h2, hp]
      exact h1
  clear hown h hn hp hg0 hc
  go_enter Tryz.func98, Tryz.ntmps98
  go_region
  all_goals
    go_wp2_with fail
    go_end0
    exact ⟨rfl, ⟨_, HS.out.1.keep fun _ _ => rfl⟩, HS.out.2.drew⟩
theorem c_leadOn (B R p n : Nat) (sv : Value) (pre : List Ins) (x : Ins) (post : List Ins) (w : World) (h : WrAt B w R sv (pre ++ x :: post)) (hp : p = pre.length) (hn : n = (pre ++ x :: post).length) (hl : n ≤ 2000) :
    Calls Tryz.prog 98 #[.pointer (some ⟨R, 0, none⟩), .int .i64 (p : Nat)] w fun e w' => e = .returned (.tuple #[]) ∧ (∃ sv', WrAt B w' R sv' (pre ++ { x with c := ((n : Nat) : Int) } :: post)) ∧ Below B w w' := by
  rw [hp, hn]; exact c_leadOn0 B R sv pre x post w h (by omega)
end Go.Proofs.YtmmmnghiegajmabGreat
/- Runs of a text as plain mathematics: what is left to do, and how a run does it. -/
namespace Go.Proofs.Herald
/-- A statement that is left to do (d: how deep its blocks can be); of a retry how many of its tries are behind it; of a repeat how often it was done. -/
structure It where
  d : Nat
  s : Hd × Tree d × Tree d
  i : Nat
def itsOf : (d : Nat) → Tree d → List It
  | 0, _ => []
  | d + 1, l => l.list.map fun x => ⟨d, x, 0⟩
/-- How long what is left to do can go on at most. -/
def msS {T : Type} (t : ByteArray) (sub : T → Nat) (x : Hd × T × T) (i : Nat) : Nat :=
  if bytesOf t x.1.p = kRepeat then 1 + (x.1.n.toNat - i) * (sub x.2.1 + 1) else 1 + sub x.2.2
def msT (t : ByteArray) : (d : Nat) → Tree d → Nat
  | 0, _ => 0
  | d + 1, l => (l.list.map fun x => msS t (msT t d) x 0).sum
def msI (t : ByteArray) (x : It) : Nat := msS t (msT t x.d) x.s x.i
def msL (t : ByteArray) (l : List It) : Nat := (l.map (msI t)).sum
theorem msL_cons (t : ByteArray) (x : It) (l : List It) : msL t (x :: l) = msI t x + msL t l := by unfold msL; simp
theorem msL_append (t : ByteArray) (l m : List It) : msL t (l ++ m) = msL t l + msL t m := by unfold msL; simp
theorem msL_its (t : ByteArray) (d : Nat) (x : Tree d) : msL t (itsOf d x) = msT t d x := by
  cases d with
  | zero => rfl
  | succ d => unfold msL itsOf msT; rw [List.map_map]; rfl
/-- A run of a text: what is told of it (its registers are none), what is to be done when it is answered, and when not. -/
structure TR where
  p : Pr
  yes : List It
  no : List It
/-- What is to be done is done, till the run stops or ends: the queue, the run, has it ended. -/
def doT (t : ByteArray) (now : Int) : Nat → List It → List Msg → TR → List Msg × TR × Bool
  | 0, _, q, r => (q, r, true)
  | _ + 1, [], q, r => (q, r, true)
  | f + 1, x :: l, q, r =>
    if bytesOf t x.s.1.p = kSend then doT t now f l (sendP q r.p x.s.1.key).1 { r with p := (sendP q r.p x.s.1.key).2.1 }
    else if bytesOf t x.s.1.p = kWait then (q, { r with p := stopP r.p now x.s.1.n 0, no := l }, false)
    else if bytesOf t x.s.1.p = kStop then (q, r, true)
    else if bytesOf t x.s.1.p = kAsk then
      (if (sendP q r.p x.s.1.key).2.2 = 0 then doT t now f (itsOf x.d x.s.2.2 ++ l) (sendP q r.p x.s.1.key).1 { r with p := (sendP q r.p x.s.1.key).2.1 }
       else ((sendP q r.p x.s.1.key).1, ⟨stopP (sendP q r.p x.s.1.key).2.1 now x.s.1.n (sendP q r.p x.s.1.key).2.2, itsOf x.d x.s.2.1 ++ l, itsOf x.d x.s.2.2 ++ l⟩, false))
    else if bytesOf t x.s.1.p = kRetry then
      (if (x.i : Int) = x.s.1.m then doT t now f (itsOf x.d x.s.2.2 ++ l) q r
       else ((sendP q r.p x.s.1.key).1, ⟨stopP (sendP q r.p x.s.1.key).2.1 now (x.s.1.n * 2 ^ x.i) (sendP q r.p x.s.1.key).2.2, itsOf x.d x.s.2.1 ++ l, ⟨x.d, x.s, x.i + 1⟩ :: l⟩, false))
    else if bytesOf t x.s.1.p = kRepeat then
      (if (x.i : Int) < x.s.1.n then doT t now f (itsOf x.d x.s.2.1 ++ ⟨x.d, x.s, x.i + 1⟩ :: l) q r
       else doT t now f l q r)
    else (q, r, true)
/-- A stopped run of a text goes on. -/
def onT (t : ByteArray) (now : Int) (yes : Bool) (q : List Msg) (r : TR) : List Msg × TR × Bool :=
  if yes then doT t now (msL t r.yes + 1) r.yes q { r with p := { r.p with num := 0 } }
  else if 0 < r.p.num then doT t now (msL t r.no + 1) r.no (takeQ q r.p.id r.p.num) { r with p := { r.p with num := 0 } }
  else doT t now (msL t r.no + 1) r.no q { r with p := { r.p with num := 0 } }
def pubP (p : Pr) : Rn := ⟨p.id, p.dev, p.sent, p.til, p.num⟩
def freshP (id dev : Int) : Pr := ⟨id, dev, 0, 0, 0, List.replicate 12 0, 0, 0⟩
/-- Runs of code. -/
def codeE (cs : List Ins) : Eng Pr := ⟨pubP, freshP, fun now q p => runP now cs 10000 0 q p, fun now yes q p => onP now cs yes q p⟩
/-- Runs of a text. -/
def textE (t : ByteArray) (tr : Tree 5) : Eng TR :=
  ⟨fun r => pubP r.p, fun id dev => ⟨freshP id dev, [], []⟩, fun now q r => doT t now (msT t 5 tr + 1) (itsOf 5 tr) q r, fun now yes q r => onT t now yes q r⟩
end Go.Proofs.Herald
/- Code of a text at a place, and what is left to do there: when the one stands for the other. -/
namespace Go.Proofs.Herald
/-- The code s stands at place b. -/
def Seg (cs : List Ins) (b : Nat) (s : List Ins) : Prop := ∀ i x, s[i]? = some x → cs[b + i]? = some x
theorem Seg.append {cs : List Ins} {b : Nat} {s u : List Ins} (h : Seg cs b (s ++ u)) : Seg cs b s ∧ Seg cs (b + s.length) u := by
  refine ⟨fun i x hx => h i x ?_, fun i x hx => ?_⟩
  · rw [List.getElem?_append_left (List.getElem?_eq_some_iff.mp hx).1]; exact hx
  · rw [Nat.add_assoc]
    exact h _ x (by rw [List.getElem?_append_right (Nat.le_add_right _ _), Nat.add_sub_cancel_left]; exact hx)
theorem Seg.cons {cs : List Ins} {b : Nat} {y : Ins} {u : List Ins} (h : Seg cs b (y :: u)) : cs[b]? = some y ∧ Seg cs (b + 1) u :=
  ⟨h 0 y rfl, fun i x hx => by rw [Nat.add_assoc, Nat.add_comm 1 i]; exact h (i + 1) x hx⟩
/-- Steps at most till the next stop, without the stop's own. -/
def wtS {T : Type} (t : ByteArray) (sub : T → Nat) (x : Hd × T × T) (i : Nat) : Nat :=
  if bytesOf t x.1.p = kSend then 1
  else if bytesOf t x.1.p = kAsk ∨ bytesOf t x.1.p = kRetry then 1 + max (sub x.2.1) (sub x.2.2)
  else if bytesOf t x.1.p = kRepeat then 1 + (x.1.n.toNat - i) * (sub x.2.1 + 1)
  else 1
def wtT (t : ByteArray) : (d : Nat) → Tree d → Nat
  | 0, _ => 0
  | d + 1, l => (l.list.map fun x => wtS t (wtT t d) x 0).sum
def wtI (t : ByteArray) (x : It) : Nat := wtS t (wtT t x.d) x.s x.i
def wtL (t : ByteArray) (l : List It) : Nat := (l.map (wtI t)).sum
theorem wtL_cons (t : ByteArray) (x : It) (l : List It) : wtL t (x :: l) = wtI t x + wtL t l := by unfold wtL; simp
theorem wtL_append (t : ByteArray) (l m : List It) : wtL t (l ++ m) = wtL t l + wtL t m := by unfold wtL; simp
theorem wtL_its (t : ByteArray) (d : Nat) (x : Tree d) : wtL t (itsOf d x) = wtT t d x := by
  cases d with
  | zero => rfl
  | succ d => unfold wtL itsOf wtT; rw [List.map_map]; rfl
/-- The statements' numbers may be; a repeat stands within at most three others. -/
def OkLv (t : ByteArray) : (d : Nat) → Tree d → Nat → Prop
  | 0, _, _ => True
  | d + 1, l, lv => ∀ x : Hd × Tree d × Tree d, x ∈ l.list → GoodHd t x.1 ∧ (bytesOf t x.1.p = kRepeat → lv < 4 ∧ OkLv t d x.2.1 (lv + 1)) ∧ (¬ bytesOf t x.1.p = kRepeat → OkLv t d x.2.1 lv ∧ OkLv t d x.2.2 lv)
/-- Of one statement. -/
def OkS (t : ByteArray) (d : Nat) (x : Hd × Tree d × Tree d) (lv : Nat) : Prop :=
  GoodHd t x.1 ∧ (bytesOf t x.1.p = kRepeat → lv < 4 ∧ OkLv t d x.2.1 (lv + 1)) ∧ (¬ bytesOf t x.1.p = kRepeat → OkLv t d x.2.1 lv ∧ OkLv t d x.2.2 lv)
/-- Code at pc, with these registers, within lv repeats, does l, with j jumps that are still to come. -/
def Rp (t : ByteArray) (cs : List Ins) (g : List Int) : Nat → Nat → Nat → Nat → List It → Prop
  | 0, _, _, _, _ => False
  | n + 1, j, lv, pc, l =>
    (l = [] ∧ cs.length ≤ pc ∧ lv ≤ 4) ∨
    (∃ (j' tgt : Nat), j = j' + 1 ∧ cs[pc]? = some ⟨8, 0, 0, (tgt : Nat)⟩ ∧ Rp t cs g n j' lv tgt l) ∨
    (∃ (d : Nat) (r : List (Hd × Tree d × Tree d)) (l' : List It), Seg cs pc (compL t (compT t d) r lv pc) ∧ OkLv t (d + 1) r lv ∧ l = itsOf (d + 1) r ++ l' ∧ Rp t cs g n j lv (pc + (compL t (compT t d) r lv pc).length) l') ∨
    (∃ (d : Nat) (x : Hd × Tree d × Tree d) (i rep base : Nat) (l' : List It), bytesOf t x.1.p = kRepeat ∧ lv = rep + 1 ∧ Seg cs base (stmC t (compT t d) x rep base) ∧ OkS t d x rep ∧ pc = base + 1 + (compT t d x.2.1 (rep + 1) (base + 1)).length ∧ 1 ≤ i ∧ (i : Int) ≤ x.1.n ∧
      g.getD rep 0 = x.1.n - i + 1 ∧ l = ⟨d, x, i⟩ :: l' ∧ Rp t cs g n j rep (pc + 1) l')
theorem Rp.lv4 {t : ByteArray} {cs : List Ins} {g : List Int} : ∀ {n j lv pc : Nat} {l : List It}, Rp t cs g n j lv pc l → lv ≤ 4 := by
  intro n
  induction n with
  | zero => intro j lv pc l h; exact h.elim
  | succ n ih =>
    intro j lv pc l h
    rcases h with ⟨_, _, h⟩ | ⟨j', tgt, _, _, h⟩ | ⟨d, r, l', _, _, _, h⟩ | ⟨d, x, i, rep, base, l', hk, rfl, _, hok, _⟩
    · exact h
    · exact ih h
    · exact ih h
    · have := (hok.2.1 hk).1; omega
/-- The registers from lv on are free. -/
theorem Rp.regs {t : ByteArray} {cs : List Ins} {g g' : List Int} : ∀ {n j lv pc : Nat} {l : List It}, (∀ k, k < lv → g'.getD k 0 = g.getD k 0) → Rp t cs g n j lv pc l → Rp t cs g' n j lv pc l := by
  intro n
  induction n with
  | zero => intro j lv pc l _ h; exact h.elim
  | succ n ih =>
    intro j lv pc l hg h
    rcases h with h | ⟨j', tgt, h1, h2, h⟩ | ⟨d, r, l', h1, h2, h3, h⟩ | ⟨d, x, i, rep, base, l', h1, h2, h3, h4, h5, h6, h7, h8, h9, h⟩
    · exact Or.inl h
    · exact Or.inr (Or.inl ⟨j', tgt, h1, h2, ih hg h⟩)
    · exact Or.inr (Or.inr (Or.inl ⟨d, r, l', h1, h2, h3, ih hg h⟩))
    · exact Or.inr (Or.inr (Or.inr ⟨d, x, i, rep, base, l', h1, h2, h3, h4, h5, h6, h7, (hg rep (by omega)).trans h8, h9, ih (fun k hk => hg k (by omega)) h⟩))
/-- Somewhere deep enough. -/
def RpE (t : ByteArray) (cs : List Ins) (g : List Int) (B lv pc : Nat) (l : List It) : Prop := ∃ n j, Rp t cs g n j lv pc l ∧ wtL t l + j ≤ B
/-- Code at pc, where a run goes on without an answer. -/
def RpNo (t : ByteArray) (cs : List Ins) (g : List Int) (B pc : Nat) (l : List It) : Prop :=
  (∃ lv, RpE t cs g B lv pc l) ∨
  (∃ (d : Nat) (x : Hd × Tree d × Tree d) (i lv base n j : Nat) (l' : List It), bytesOf t x.1.p = kRetry ∧ Seg cs base (stmC t (compT t d) x lv base) ∧ OkS t d x lv ∧ pc = base + 3 ∧ 1 ≤ i ∧ (i : Int) ≤ x.1.m ∧
    g.getD 4 0 = x.1.m - i + 1 ∧ g.getD 5 0 = x.1.n * 2 ^ (i - 1) ∧ l = ⟨d, x, i⟩ :: l' ∧ Rp t cs g n j lv (base + (stmC t (compT t d) x lv base).length) l' ∧ wtL t l + j ≤ B)
/-- The same is told of two runs. -/
structure SameP (p r : Pr) : Prop where
  id : p.id = r.id
  dev : p.dev = r.dev
  sent : p.sent = r.sent
  til : p.til = r.til
  num : p.num = r.num
theorem SameP.send {p r : Pr} (h : SameP p r) (q : List Msg) (key : Int) : (sendP q p key).1 = (sendP q r key).1 ∧ (sendP q p key).2.2 = (sendP q r key).2.2 ∧ SameP (sendP q p key).2.1 (sendP q r key).2.1 := by
  unfold sendP
  rw [h.dev, h.id, h.sent]
  split
  · exact ⟨rfl, rfl, rfl, rfl, rfl, h.til, h.num⟩
  · exact ⟨rfl, rfl, h⟩
theorem SameP.stop {p r : Pr} (h : SameP p r) (now n num : Int) : SameP (stopP p now n num) (stopP r now n num) := ⟨h.id, h.dev, h.sent, rfl, rfl⟩
/-- A run of code and a run of a text that stand for one another. -/
structure Tied (t : ByteArray) (cs : List Ins) (B : Nat) (p : Pr) (r : TR) : Prop where
  pub : SameP p r.p
  len : p.regs.length = 12
  no : ∃ e : Nat, p.els = (e : Nat) ∧ RpNo t cs p.regs B e r.no
  yes : p.num ≠ 0 → ∃ (e lv : Nat), p.tow = (e : Nat) ∧ RpE t cs p.regs B lv e r.yes
end Go.Proofs.Herald
