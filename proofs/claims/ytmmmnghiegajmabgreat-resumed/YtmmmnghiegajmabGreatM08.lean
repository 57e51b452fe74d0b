import Derived.Test.YtmmmnghiegajmabGreatM07
import Derived.Test.YtmmmnghiegajmabGreatM06
import Derived.Test.YtmmmnghiegajmabGreatM05
import Derived.Test.YtmmmnghiegajmabGreatM01
import Derived.Deep.DeepCutAuto
/- Code of a text does what the text's statements do, till the next stop. -/
namespace Go.Proofs.Herald
theorem runP_at {now : Int} {cs : List Ins} {f pc : Nat} {x : Ins} (h : cs[pc]? = some x) (q : List Msg) (p : Pr) :
    runP now cs (f + 1) (pc : Nat) q p = if (stepP now x (pc : Nat) q p).2.2.1 < 0 then ((stepP now x (pc : Nat) q p).1, (stepP now x (pc : Nat) q p).2.1, (stepP now x (pc : Nat) q p).2.2.2) else runP now cs f (stepP now x (pc : Nat) q p).2.2.1 (stepP now x (pc : Nat) q p).1 (stepP now x (pc : Nat) q p).2.1 := by
  obtain ⟨hlt, hx⟩ := List.getElem?_eq_some_iff.mp h
  rw [runP]
  have h1 : ((pc : Nat) : Int).toNat < cs.length := by simpa using hlt
  rw [dif_pos h1]
  have h2 : cs[((pc : Nat) : Int).toNat] = x := by simpa using hx
  rw [h2]
theorem runP_past {now : Int} {cs : List Ins} {f pc : Nat} (h : cs.length ≤ pc) (q : List Msg) (p : Pr) : runP now cs (f + 1) (pc : Nat) q p = (q, p, true) := runP_out (by simp; omega)
theorem run_jump {now : Int} {cs : List Ins} {f pc c : Nat} (h : cs[pc]? = some ⟨8, 0, 0, (c : Nat)⟩) (q : List Msg) (p : Pr) : runP now cs (f + 1) (pc : Nat) q p = runP now cs f (c : Nat) q p := by
  rw [runP_at h]
  have e : stepP now ⟨8, 0, 0, (c : Nat)⟩ (pc : Nat) q p = (q, p, ((c : Nat) : Int), false) := by simp [stepP]
  rw [e, if_neg (by first | omega | (simp; done) | (simp; omega))]
theorem run_send {now : Int} {cs : List Ins} {f pc : Nat} {k : Int} (h : cs[pc]? = some ⟨1, k, 0, 0⟩) (q : List Msg) (p : Pr) : runP now cs (f + 1) (pc : Nat) q p = runP now cs f ((pc + 1 : Nat) : Int) (sendP q p k).1 (sendP q p k).2.1 := by
  rw [runP_at h]
  have e : stepP now ⟨1, k, 0, 0⟩ (pc : Nat) q p = ((sendP q p k).1, (sendP q p k).2.1, ((pc + 1 : Nat) : Int), false) := by simp [stepP]
  rw [e, if_neg (by first | omega | (simp; done) | (simp; omega))]
theorem run_set {now : Int} {cs : List Ins} {f pc a : Nat} {b : Int} (h : cs[pc]? = some ⟨4, (a : Nat), b, 0⟩) (q : List Msg) (p : Pr) : runP now cs (f + 1) (pc : Nat) q p = runP now cs f ((pc + 1 : Nat) : Int) q { p with regs := p.regs.set a b } := by
  rw [runP_at h]
  have e : stepP now ⟨4, (a : Nat), b, 0⟩ (pc : Nat) q p = (q, { p with regs := p.regs.set a b }, ((pc + 1 : Nat) : Int), false) := by simp [stepP, setP]
  rw [e, if_neg (by first | omega | (simp; done) | (simp; omega))]
theorem run_twice {now : Int} {cs : List Ins} {f pc a : Nat} (h : cs[pc]? = some ⟨5, (a : Nat), 0, 0⟩) (q : List Msg) (p : Pr) (hr : 2 * p.regs.getD a 0 ≤ 1000000) : runP now cs (f + 1) (pc : Nat) q p = runP now cs f ((pc + 1 : Nat) : Int) q { p with regs := p.regs.set a (2 * p.regs.getD a 0) } := by
  rw [runP_at h]
  have e : stepP now ⟨5, (a : Nat), 0, 0⟩ (pc : Nat) q p = (q, { p with regs := p.regs.set a (2 * p.regs.getD a 0) }, ((pc + 1 : Nat) : Int), false) := by
    have h1 : regP p ((a : Nat) : Int) = p.regs.getD a 0 := rfl
    simp only [stepP]
    rw [h1, if_neg (show ¬ 1000000 < 2 * p.regs.getD a 0 by omega)]
    simp [setP]
  rw [e, if_neg (by first | omega | (simp; done) | (simp; omega))]
theorem run_loop_on {now : Int} {cs : List Ins} {f pc a c : Nat} (h : cs[pc]? = some ⟨7, (a : Nat), 0, (c : Nat)⟩) (q : List Msg) (p : Pr) (hr : 1 < p.regs.getD a 0) : runP now cs (f + 1) (pc : Nat) q p = runP now cs f (c : Nat) q { p with regs := p.regs.set a (p.regs.getD a 0 - 1) } := by
  rw [runP_at h]
  have e : stepP now ⟨7, (a : Nat), 0, (c : Nat)⟩ (pc : Nat) q p = (q, { p with regs := p.regs.set a (p.regs.getD a 0 - 1) }, ((c : Nat) : Int), false) := by
    have h1 : regP p ((a : Nat) : Int) = p.regs.getD a 0 := rfl
    simp only [stepP]
    rw [h1, if_pos (show 0 < p.regs.getD a 0 by omega), if_pos (show 0 < p.regs.getD a 0 - 1 by omega)]
    simp [setP]
  rw [e, if_neg (by first | omega | (simp; done) | (simp; omega))]
theorem run_loop_out {now : Int} {cs : List Ins} {f pc a c : Nat} (h : cs[pc]? = some ⟨7, (a : Nat), 0, (c : Nat)⟩) (q : List Msg) (p : Pr) (hr : p.regs.getD a 0 = 1) : runP now cs (f + 1) (pc : Nat) q p = runP now cs f ((pc + 1 : Nat) : Int) q { p with regs := p.regs.set a 0 } := by
  rw [runP_at h]
  have e : stepP now ⟨7, (a : Nat), 0, (c : Nat)⟩ (pc : Nat) q p = (q, { p with regs := p.regs.set a 0 }, ((pc + 1 : Nat) : Int), false) := by
    have h1 : regP p ((a : Nat) : Int) = 1 := hr
    simp only [stepP]
    rw [h1]
    simp [setP]
  rw [e, if_neg (by first | omega | (simp; done) | (simp; omega))]
theorem run_wait {now : Int} {cs : List Ins} {f pc : Nat} {n : Int} (h : cs[pc]? = some ⟨2, n, 0, 0⟩) (q : List Msg) (p : Pr) : runP now cs (f + 1) (pc : Nat) q p = (q, { stopP p now n 0 with els := ((pc + 1 : Nat) : Int) }, false) := by
  rw [runP_at h]
  simp [stepP]
theorem run_end {now : Int} {cs : List Ins} {f pc : Nat} (h : cs[pc]? = some ⟨0, 0, 0, 0⟩) (q : List Msg) (p : Pr) : runP now cs (f + 1) (pc : Nat) q p = (q, p, true) := by
  rw [runP_at h]
  simp [stepP]
theorem run_ask_no {now : Int} {cs : List Ins} {f pc c : Nat} {k n : Int} (h : cs[pc]? = some ⟨3, k, n, (c : Nat)⟩) (q : List Msg) (p : Pr) (h0 : (sendP q p k).2.2 = 0) : runP now cs (f + 1) (pc : Nat) q p = runP now cs f (c : Nat) (sendP q p k).1 (sendP q p k).2.1 := by
  rw [runP_at h]
  have e : stepP now ⟨3, k, n, (c : Nat)⟩ (pc : Nat) q p = ((sendP q p k).1, (sendP q p k).2.1, ((c : Nat) : Int), false) := by simp [stepP, h0]
  rw [e, if_neg (by first | omega | (simp; done) | (simp; omega))]
theorem run_ask_yes {now : Int} {cs : List Ins} {f pc c : Nat} {k n : Int} (h : cs[pc]? = some ⟨3, k, n, (c : Nat)⟩) (q : List Msg) (p : Pr) (h0 : ¬ (sendP q p k).2.2 = 0) :
    runP now cs (f + 1) (pc : Nat) q p = ((sendP q p k).1, { stopP (sendP q p k).2.1 now n (sendP q p k).2.2 with tow := ((pc + 1 : Nat) : Int), els := ((c : Nat) : Int) }, false) := by
  rw [runP_at h]
  simp [stepP, h0]
theorem run_hold {now : Int} {cs : List Ins} {f pc c b : Nat} {k : Int} (h : cs[pc]? = some ⟨6, k, (b : Nat), (c : Nat)⟩) (q : List Msg) (p : Pr) (hr : 1 ≤ p.regs.getD b 0) :
    runP now cs (f + 1) (pc : Nat) q p = ((sendP q p k).1, { stopP (sendP q p k).2.1 now (p.regs.getD b 0) (sendP q p k).2.2 with tow := ((c : Nat) : Int), els := ((pc + 1 : Nat) : Int) }, false) := by
  rw [runP_at h]
  have h1 : regP p ((b : Nat) : Int) = p.regs.getD b 0 := rfl
  have h2 : maxI 1 (p.regs.getD b 0) = p.regs.getD b 0 := by unfold maxI; split <;> omega
  have e : stepP now ⟨6, k, (b : Nat), (c : Nat)⟩ (pc : Nat) q p = ((sendP q p k).1, { stopP (sendP q p k).2.1 now (p.regs.getD b 0) (sendP q p k).2.2 with tow := ((c : Nat) : Int), els := ((pc + 1 : Nat) : Int) }, -1, false) := by
    simp only [stepP]
    rw [h1, h2]
    simp
  rw [e, if_pos (by simp)]
theorem getD_set_same {l : List Int} {k : Nat} {v : Int} (h : k < l.length) : (l.set k v).getD k 0 = v := by simp [List.getD, h]
theorem getD_set_other {l : List Int} {k j : Nat} {v : Int} (h : j ≠ k) : (l.set k v).getD j 0 = l.getD j 0 := by
  simp only [List.getD]
  rw [List.getElem?_set_ne (fun e => h e.symm)]
/-- A block's code ahead of what follows. -/
theorem Rp.block {t : ByteArray} {cs : List Ins} {g : List Int} {d n j lv pc : Nat} {x : Tree d} {l : List It} (hs : Seg cs pc (compT t d x lv pc)) (ho : OkLv t d x lv) (h : Rp t cs g n j lv (pc + (compT t d x lv pc).length) l) : ∃ m, Rp t cs g m j lv pc (itsOf d x ++ l) := by
  cases d with
  | zero => exact ⟨n, h⟩
  | succ d => exact ⟨n + 1, Or.inr (Or.inr (Or.inl ⟨d, x, l, hs, ho, rfl, h⟩))⟩
theorem Rp.jump {t : ByteArray} {cs : List Ins} {g : List Int} {n j lv pc c : Nat} {l : List It} (hc : cs[pc]? = some ⟨8, 0, 0, (c : Nat)⟩) (h : Rp t cs g n j lv c l) : Rp t cs g (n + 1) (j + 1) lv pc l := Or.inr (Or.inl ⟨j, c, rfl, hc, h⟩)
/-- What both leave. -/
structure Out (t : ByteArray) (cs : List Ins) (B : Nat) (c : List Msg × Pr × Bool) (d : List Msg × TR × Bool) : Prop where
  q : c.1 = d.1
  done : c.2.2 = d.2.2
  id : c.2.1.id = d.2.1.p.id
  tied : c.2.2 = false → Tied t cs B c.2.1 d.2.1
theorem GoodHd.kind {t : ByteArray} {h : Hd} (g : GoodHd t h) : bytesOf t h.p = kSend ∨ bytesOf t h.p = kWait ∨ bytesOf t h.p = kStop ∨ bytesOf t h.p = kAsk ∨ bytesOf t h.p = kRetry ∨ bytesOf t h.p = kRepeat := by
  rcases g with ⟨h, _⟩ | ⟨h, _⟩ | ⟨h, _⟩ | ⟨h, _⟩ | ⟨h, _⟩ | ⟨h, _⟩
  · exact Or.inl h
  · exact Or.inr (Or.inl h)
  · exact Or.inr (Or.inr (Or.inl h))
  · exact Or.inr (Or.inr (Or.inr (Or.inl h)))
  · exact Or.inr (Or.inr (Or.inr (Or.inr (Or.inl h))))
  · exact Or.inr (Or.inr (Or.inr (Or.inr (Or.inr h))))
theorem doT_nil (t : ByteArray) (now : Int) (g : Nat) (q : List Msg) (r : TR) : doT t now (g + 1) [] q r = (q, r, true) := rfl
theorem doT_send {t : ByteArray} {now : Int} {g : Nat} {x : It} {l : List It} {q : List Msg} {r : TR} (h : bytesOf t x.s.1.p = kSend) : doT t now (g + 1) (x :: l) q r = doT t now g l (sendP q r.p x.s.1.key).1 { r with p := (sendP q r.p x.s.1.key).2.1 } := by
  rw [doT, if_pos h]
theorem doT_wait {t : ByteArray} {now : Int} {g : Nat} {x : It} {l : List It} {q : List Msg} {r : TR} (h : bytesOf t x.s.1.p = kWait) : doT t now (g + 1) (x :: l) q r = (q, { r with p := stopP r.p now x.s.1.n 0, no := l }, false) := by
  rw [doT, h]; rfl
theorem doT_stop {t : ByteArray} {now : Int} {g : Nat} {x : It} {l : List It} {q : List Msg} {r : TR} (h : bytesOf t x.s.1.p = kStop) : doT t now (g + 1) (x :: l) q r = (q, r, true) := by
  rw [doT, h]; rfl
theorem doT_ask_no {t : ByteArray} {now : Int} {g : Nat} {x : It} {l : List It} {q : List Msg} {r : TR} (h : bytesOf t x.s.1.p = kAsk) (h0 : (sendP q r.p x.s.1.key).2.2 = 0) : doT t now (g + 1) (x :: l) q r = doT t now g (itsOf x.d x.s.2.2 ++ l) (sendP q r.p x.s.1.key).1 { r with p := (sendP q r.p x.s.1.key).2.1 } := by
  rw [doT, h]; simp only [h0]; rfl
theorem doT_ask_yes {t : ByteArray} {now : Int} {g : Nat} {x : It} {l : List It} {q : List Msg} {r : TR} (h : bytesOf t x.s.1.p = kAsk) (h0 : ¬ (sendP q r.p x.s.1.key).2.2 = 0) :
    doT t now (g + 1) (x :: l) q r = ((sendP q r.p x.s.1.key).1, ⟨stopP (sendP q r.p x.s.1.key).2.1 now x.s.1.n (sendP q r.p x.s.1.key).2.2, itsOf x.d x.s.2.1 ++ l, itsOf x.d x.s.2.2 ++ l⟩, false) := by
  rw [doT, h]; simp only [if_neg h0]; rfl
theorem doT_retry_out {t : ByteArray} {now : Int} {g : Nat} {x : It} {l : List It} {q : List Msg} {r : TR} (h : bytesOf t x.s.1.p = kRetry) (h0 : (x.i : Int) = x.s.1.m) : doT t now (g + 1) (x :: l) q r = doT t now g (itsOf x.d x.s.2.2 ++ l) q r := by
  rw [doT, h]; simp only [if_pos h0]; rfl
theorem doT_retry_on {t : ByteArray} {now : Int} {g : Nat} {x : It} {l : List It} {q : List Msg} {r : TR} (h : bytesOf t x.s.1.p = kRetry) (h0 : ¬ (x.i : Int) = x.s.1.m) :
    doT t now (g + 1) (x :: l) q r = ((sendP q r.p x.s.1.key).1, ⟨stopP (sendP q r.p x.s.1.key).2.1 now (x.s.1.n * 2 ^ x.i) (sendP q r.p x.s.1.key).2.2, itsOf x.d x.s.2.1 ++ l, ⟨x.d, x.s, x.i + 1⟩ :: l⟩, false) := by
  rw [doT, h]; simp only [if_neg h0]; rfl
theorem doT_repeat_on {t : ByteArray} {now : Int} {g : Nat} {x : It} {l : List It} {q : List Msg} {r : TR} (h : bytesOf t x.s.1.p = kRepeat) (h0 : (x.i : Int) < x.s.1.n) : doT t now (g + 1) (x :: l) q r = doT t now g (itsOf x.d x.s.2.1 ++ ⟨x.d, x.s, x.i + 1⟩ :: l) q r := by
  rw [doT, h]; simp only [if_pos h0]; rfl
theorem doT_repeat_out {t : ByteArray} {now : Int} {g : Nat} {x : It} {l : List It} {q : List Msg} {r : TR} (h : bytesOf t x.s.1.p = kRepeat) (h0 : ¬ (x.i : Int) < x.s.1.n) : doT t now (g + 1) (x :: l) q r = doT t now g l q r := by
  rw [doT, h]; simp only [if_neg h0]; rfl
end Go.Proofs.Herald
/- Code of a text does what the text's statements do, till the next stop: the whole. -/
namespace Go.Proofs.Herald
theorem wtI_ask {t : ByteArray} {x : It} (h : bytesOf t x.s.1.p = kAsk) : wtI t x = 1 + max (wtT t x.d x.s.2.1) (wtT t x.d x.s.2.2) := by
  unfold wtI wtS; rw [h]; rfl
theorem wtI_retry {t : ByteArray} {x : It} (h : bytesOf t x.s.1.p = kRetry) : wtI t x = 1 + max (wtT t x.d x.s.2.1) (wtT t x.d x.s.2.2) := by
  unfold wtI wtS; rw [h]; rfl
theorem wtI_repeat {t : ByteArray} {x : It} (h : bytesOf t x.s.1.p = kRepeat) : wtI t x = 1 + (x.s.1.n.toNat - x.i) * (wtT t x.d x.s.2.1 + 1) := by
  unfold wtI wtS; rw [h]; rfl
theorem wtI_send {t : ByteArray} {x : It} (h : bytesOf t x.s.1.p = kSend) : wtI t x = 1 := by
  unfold wtI wtS; rw [h]; rfl
theorem msI_other {t : ByteArray} {x : It} (h : ¬ bytesOf t x.s.1.p = kRepeat) : msI t x = 1 + msT t x.d x.s.2.2 := by
  unfold msI msS; rw [if_neg h]
theorem msI_repeat {t : ByteArray} {x : It} (h : bytesOf t x.s.1.p = kRepeat) : msI t x = 1 + (x.s.1.n.toNat - x.i) * (msT t x.d x.s.2.1 + 1) := by
  unfold msI msS; rw [if_pos h]
theorem nSR : ¬ kSend = kRepeat := by decide
theorem nAR : ¬ kAsk = kRepeat := by decide
theorem nTR : ¬ kRetry = kRepeat := by decide
/-- A repeat's round more. -/
theorem round_step {n i W : Nat} (h : i < n) : (n - i) * (W + 1) = W + 1 + (n - (i + 1)) * (W + 1) := by
  obtain ⟨k, rfl⟩ : ∃ k, n = i + 1 + k := ⟨n - i - 1, by omega⟩
  rw [show i + 1 + k - i = k + 1 from by omega, show i + 1 + k - (i + 1) = k from by omega, Nat.succ_mul, Nat.add_comm]
set_option maxHeartbeats 1000000 in
/-- Till the next stop. -/
theorem sim {t : ByteArray} {cs : List Ins} {now : Int} {B : Nat} : ∀ (M n : Nat) {j lv pc f g : Nat} {l : List It} {q : List Msg} {p : Pr} {r : TR}, Rp t cs p.regs n j lv pc l → wtL t l + j ≤ B → wtL t l + j + 3 < f → msL t l ≤ M → msL t l < g → p.regs.length = 12 → SameP p r.p →
    Out t cs B (runP now cs f (pc : Nat) q p) (doT t now g l q r) := by
  intro M
  induction M with
  | zero =>
    intro n
    induction n with
    | zero => intro j lv pc f g l q p r h; exact h.elim
    | succ n ihn =>
      intro j lv pc f g l q p r h hB hf hM hg hlen hp
      obtain ⟨f, rfl⟩ : ∃ k, f = k + 1 := ⟨f - 1, by omega⟩
      obtain ⟨g, rfl⟩ : ∃ k, g = k + 1 := ⟨g - 1, by omega⟩
      have hl0 : l = [] := by
        cases l with
        | nil => rfl
        | cons x l =>
          exfalso
          rw [msL_cons] at hM
          have : 1 ≤ msI t x := by unfold msI msS; split <;> omega
          omega
      subst hl0
      rw [doT_nil]
      rcases h with ⟨_, h2, _⟩ | ⟨j', tgt, rfl, h2, h⟩ | ⟨d, r', l', h1, h2, h3, h⟩ | ⟨d, x, i, rep, base, l', h1, h2, h3, h4, h5, h6, h7, h8, h9, h⟩
      · rw [runP_past h2]
        exact ⟨rfl, rfl, hp.id, fun hh => by cases hh⟩
      · rw [run_jump h2]
        have := ihn (f := f) (g := g + 1) (q := q) (r := r) h (by omega) (by omega) hM (by omega) hlen hp
        rw [doT_nil] at this
        exact this
      · have hr0 : r' = [] ∧ l' = [] := by
          have h4 : itsOf (d + 1) r' = [] ∧ l' = [] := by simpa using h3.symm
          refine ⟨?_, h4.2⟩
          have h5 : List.map (fun x => (⟨d, x, 0⟩ : It)) r' = [] := h4.1
          simpa using h5
        obtain ⟨rfl, rfl⟩ := hr0
        have := ihn (f := f + 1) (g := g + 1) (q := q) (r := r) h hB hf hM (by omega) hlen hp
        rw [doT_nil] at this
        exact this
      · cases h9
  | succ M ihM =>
    intro n
    induction n with
    | zero => intro j lv pc f g l q p r h; exact h.elim
    | succ n ihn =>
      intro j lv pc f g l q p r h hB hf hM hg hlen hp
      obtain ⟨f, rfl⟩ : ∃ k, f = k + 1 := ⟨f - 1, by omega⟩
      obtain ⟨g, rfl⟩ : ∃ k, g = k + 1 := ⟨g - 1, by omega⟩
      have hlv := Rp.lv4 h
      rcases h with ⟨rfl, h2, _⟩ | ⟨j', tgt, rfl, h2, h⟩ | ⟨d, r', l', h1, h2, h3, h⟩ | ⟨d, x, i, rep, base, l', hk, h2, h3, h4, h5, h6, h7, h8, h9, h⟩
      · rw [runP_past h2]
        exact ⟨rfl, rfl, hp.id, fun hh => by cases hh⟩
      · rw [run_jump h2]
        exact ihn h (by omega) (by omega) hM hg hlen hp
      · cases r' with
        | nil =>
          subst h3
          exact ihn h hB hf hM hg hlen hp
        | cons x r' =>
          -- the statement x, and what follows it
          obtain ⟨hok, hr'⟩ : OkS t d x lv ∧ OkLv t (d + 1) r' lv := ⟨h2 x (List.mem_cons_self ..), fun y hy => h2 y (List.mem_cons_of_mem _ hy)⟩
          have hcomp : compL t (compT t d) (x :: r') lv pc = stmC t (compT t d) x lv pc ++ compL t (compT t d) r' lv (pc + (stmC t (compT t d) x lv pc).length) := rfl
          rw [hcomp] at h1 h
          obtain ⟨hx, hrest⟩ := Seg.append h1
          obtain ⟨l1, hl1⟩ : ∃ l1, l1 = itsOf (d + 1) r' ++ l' := ⟨_, rfl⟩
          have hl : l = ⟨d, x, 0⟩ :: l1 := by rw [h3, hl1]; rfl
          obtain ⟨pc1, hpc1⟩ : ∃ pc1, pc1 = pc + (stmC t (compT t d) x lv pc).length := ⟨_, rfl⟩
          have hR : Rp t cs p.regs (n + 1) j lv pc1 l1 := by
            refine Or.inr (Or.inr (Or.inl ⟨d, r', l', ?_, hr', hl1, ?_⟩))
            · rw [hpc1]; exact hrest
            · rw [hpc1, Nat.add_assoc, ← List.length_append]; exact h
          clear h h1 h3 hrest hcomp hl1 h2 ihn
          subst hl
          rw [wtL_cons] at hB hf
          rw [msL_cons] at hM hg
          have hgood := hok.1
          rcases hok.1.kind with hk | hk | hk | hk | hk | hk
          · -- send
            rw [stmC_send _ _ _ _ hk] at hx hpc1
            rw [wtI_send (x := (⟨d, x, 0⟩ : It)) hk] at hB hf
            rw [msI_other (x := (⟨d, x, 0⟩ : It)) (by rw [hk]; exact nSR)] at hM hg
            rw [run_send (hx.cons).1, doT_send (x := (⟨d, x, 0⟩ : It)) hk]
            obtain ⟨s1, s2, s3⟩ := hp.send q x.1.key
            have hreg := (sendP_kept q p x.1.key).1
            obtain rfl : pc1 = pc + 1 := by rw [hpc1]; rfl
            show Out t cs B _ (doT t now g l1 (sendP q r.p x.1.key).1 _)
            rw [← s1]
            refine ihM (n + 1) (by rw [hreg]; exact hR) (by omega) (by omega) (by omega) (by omega) (by rw [hreg]; exact hlen) s3
          · -- wait
            rw [stmC_wait _ _ _ _ hk] at hx hpc1
            rw [run_wait (hx.cons).1, doT_wait (x := (⟨d, x, 0⟩ : It)) hk]
            obtain rfl : pc1 = pc + 1 := by rw [hpc1]; rfl
            exact ⟨rfl, rfl, hp.id, fun _ => ⟨⟨hp.id, hp.dev, hp.sent, rfl, rfl⟩, hlen, ⟨pc + 1, rfl, Or.inl ⟨lv, n + 1, j, hR, by show wtL t l1 + j ≤ B; omega⟩⟩, fun hh => absurd rfl hh⟩⟩
          · -- stop
            rw [stmC_stop _ _ _ _ hk] at hx
            rw [run_end (hx.cons).1, doT_stop (x := (⟨d, x, 0⟩ : It)) hk]
            exact ⟨rfl, rfl, hp.id, fun hh => by cases hh⟩
          · -- ask
            rw [stmC_ask _ _ _ _ hk] at hx hpc1
            have hnr : ¬ bytesOf t x.1.p = kRepeat := by rw [hk]; exact nAR
            have hoAB := hok.2.2 hnr
            rw [wtI_ask (x := (⟨d, x, 0⟩ : It)) hk] at hB hf
            rw [msI_other (x := (⟨d, x, 0⟩ : It)) hnr] at hM hg
            simp only at hB hf hM hg
            have hmA := Nat.le_max_left (wtT t d x.2.1) (wtT t d x.2.2)
            have hmB := Nat.le_max_right (wtT t d x.2.1) (wtT t d x.2.2)
            obtain ⟨s1, s2, s3⟩ := hp.send q x.1.key
            have hreg := (sendP_kept q p x.1.key).1
            obtain ⟨c0, hx1⟩ := hx.cons
            obtain ⟨hA, hx2⟩ := Seg.append hx1
            obtain ⟨c1, hBs⟩ := hx2.cons
            obtain ⟨a, ha⟩ : ∃ a, a = (compT t d x.2.1 lv (pc + 1)).length := ⟨_, rfl⟩
            rw [← ha] at c0 hx2 c1 hBs hpc1
            rw [show pc + 1 + a + 1 = pc + 2 + a from by omega] at hBs
            have hBl : pc + 2 + a + (compT t d x.2.2 lv (pc + 2 + a)).length = pc1 := by rw [hpc1]; simp [← ha]; omega
            have hRB : ∃ m, Rp t cs p.regs m j lv (pc + 2 + a) (itsOf d x.2.2 ++ l1) := Rp.block hBs hoAB.2 (by rw [hBl]; exact hR)
            have hRA : ∃ m, Rp t cs p.regs m (j + 1) lv (pc + 1) (itsOf d x.2.1 ++ l1) := by
              refine Rp.block hA hoAB.1 (n := n + 1 + 1) ?_
              rw [← ha]
              refine Rp.jump (c := pc1) ?_ hR
              rw [c1, ← hBl]
            obtain ⟨mB, hRB⟩ := hRB
            obtain ⟨mA, hRA⟩ := hRA
            by_cases h0 : (sendP q p x.1.key).2.2 = 0
            · rw [run_ask_no c0 q p h0, doT_ask_no (x := (⟨d, x, 0⟩ : It)) hk (by rw [← s2]; exact h0)]
              show Out t cs B _ (doT t now g (itsOf d x.2.2 ++ l1) (sendP q r.p x.1.key).1 _)
              rw [← s1]
              refine ihM mB (by rw [hreg]; exact hRB) ?_ ?_ ?_ ?_ (by rw [hreg]; exact hlen) s3
              · rw [wtL_append, wtL_its]; omega
              · rw [wtL_append, wtL_its]; omega
              · rw [msL_append, msL_its]; omega
              · rw [msL_append, msL_its]; omega
            · rw [run_ask_yes c0 q p h0, doT_ask_yes (x := (⟨d, x, 0⟩ : It)) hk (by rw [← s2]; exact h0)]
              refine ⟨s1, rfl, s3.id, fun _ => ⟨⟨s3.id, s3.dev, s3.sent, rfl, s2⟩, ?_, ?_, fun _ => ?_⟩⟩
              · show (sendP q p x.1.key).2.1.regs.length = 12
                rw [hreg]; exact hlen
              · refine ⟨pc + 2 + a, rfl, Or.inl ⟨lv, mB, j, ?_, ?_⟩⟩
                · show Rp t cs (sendP q p x.1.key).2.1.regs mB j lv (pc + 2 + a) (itsOf d x.2.2 ++ l1)
                  rw [hreg]; exact hRB
                · show wtL t (itsOf d x.2.2 ++ l1) + j ≤ B
                  rw [wtL_append, wtL_its]; omega
              · refine ⟨pc + 1, lv, rfl, mA, j + 1, ?_, ?_⟩
                · show Rp t cs (sendP q p x.1.key).2.1.regs mA (j + 1) lv (pc + 1) (itsOf d x.2.1 ++ l1)
                  rw [hreg]; exact hRA
                · show wtL t (itsOf d x.2.1 ++ l1) + (j + 1) ≤ B
                  rw [wtL_append, wtL_its]; omega
          · -- retry
            rw [stmC_retry _ _ _ _ hk] at hpc1
            have hx' := hx
            rw [stmC_retry _ _ _ _ hk] at hx
            have hnr : ¬ bytesOf t x.1.p = kRepeat := by rw [hk]; exact nTR
            have hoAB := hok.2.2 hnr
            have hmn : 1 ≤ x.1.n ∧ x.1.n ≤ 999 ∧ 1 ≤ x.1.m ∧ x.1.m ≤ 6 := by
              rcases hgood with ⟨h, _⟩ | ⟨h, _⟩ | ⟨h, _⟩ | ⟨h, _⟩ | ⟨_, h1, h2, h3, h4⟩ | ⟨h, _⟩
              · rw [hk] at h; cases h
              · rw [hk] at h; cases h
              · rw [hk] at h; cases h
              · rw [hk] at h; cases h
              · exact ⟨h1, h2, h3, h4⟩
              · rw [hk] at h; cases h
            have hwI : wtI t (⟨d, x, 1⟩ : It) = wtI t (⟨d, x, 0⟩ : It) := by rw [wtI_retry (x := (⟨d, x, 0⟩ : It)) hk, wtI_retry (x := (⟨d, x, 1⟩ : It)) hk]
            have hwI0 := wtI_retry (x := (⟨d, x, 0⟩ : It)) hk
            simp only at hwI0
            have hmA := Nat.le_max_left (wtT t d x.2.1) (wtT t d x.2.2)
            obtain ⟨c0, hx1⟩ := hx.cons
            obtain ⟨c1, hx2⟩ := hx1.cons
            obtain ⟨c2, hx3⟩ := hx2.cons
            obtain ⟨c3, hx4⟩ := hx3.cons
            obtain ⟨c4, hx5⟩ := hx4.cons
            obtain ⟨hBs, hx6⟩ := Seg.append hx5
            obtain ⟨c5, hA⟩ := hx6.cons
            obtain ⟨b, hb⟩ : ∃ b, b = (compT t d x.2.2 lv (pc + 5)).length := ⟨_, rfl⟩
            rw [← hb] at c2 c5 hA hpc1
            obtain ⟨f, rfl⟩ : ∃ k, f = k + 1 := ⟨f - 1, by omega⟩
            obtain ⟨f, rfl⟩ : ∃ k, f = k + 1 := ⟨f - 1, by omega⟩
            rw [run_set (a := 4) c0, run_set (a := 5) c1]
            obtain ⟨p2, hp2⟩ : ∃ p2 : Pr, p2 = { p with regs := (p.regs.set 4 x.1.m).set 5 x.1.n } := ⟨_, rfl⟩
            have hr5 : p2.regs.getD 5 0 = x.1.n := by rw [hp2]; exact getD_set_same (by simp; omega)
            have hr4 : p2.regs.getD 4 0 = x.1.m := by
              rw [hp2]
              show ((p.regs.set 4 x.1.m).set 5 x.1.n).getD 4 0 = x.1.m
              rw [getD_set_other (by decide)]; exact getD_set_same (by omega)
            have hrl : p2.regs.length = 12 := by rw [hp2]; simpa using hlen
            have hro : ∀ k, k < lv → p2.regs.getD k 0 = p.regs.getD k 0 := fun k hk => by
              rw [hp2]
              show ((p.regs.set 4 x.1.m).set 5 x.1.n).getD k 0 = _
              rw [getD_set_other (by omega), getD_set_other (by omega)]
            have hpp : SameP p2 r.p := by rw [hp2]; exact ⟨hp.id, hp.dev, hp.sent, hp.til, hp.num⟩
            show Out t cs B (runP now cs (f + 1) ((pc + 1 + 1 : Nat) : Int) q { p with regs := (p.regs.set 4 x.1.m).set 5 x.1.n }) _
            rw [← hp2, run_hold (b := 5) c2 q p2 (by rw [hr5]; omega), doT_retry_on (x := (⟨d, x, 0⟩ : It)) hk (by simp; omega), hr5]
            obtain ⟨s1, s2, s3⟩ := hpp.send q x.1.key
            have hreg := (sendP_kept q p2 x.1.key).1
            have hR2 := Rp.regs hro hR
            have hAl : pc + 6 + b + (compT t d x.2.1 lv (pc + 6 + b)).length = pc1 := by rw [hpc1]; simp [← hb]; omega
            rw [show pc + 1 + 1 + 1 + 1 + 1 + b + 1 = pc + 6 + b from by omega] at hA
            obtain ⟨mA, hRA⟩ := Rp.block hA hoAB.1 (by rw [hAl]; exact hR2)
            refine ⟨s1, rfl, s3.id, fun _ => ⟨⟨s3.id, s3.dev, s3.sent, ?_, s2⟩, ?_, ?_, fun _ => ?_⟩⟩
            · show now + x.1.n = now + x.1.n * 2 ^ 0
              simp
            · show (sendP q p2 x.1.key).2.1.regs.length = 12
              rw [hreg]; exact hrl
            · refine ⟨pc + 3, rfl, Or.inr ⟨d, x, 1, lv, pc, n + 1, j, l1, hk, hx', hok, rfl, by omega, by omega, ?_, ?_, rfl, ?_, ?_⟩⟩
              · show (sendP q p2 x.1.key).2.1.regs.getD 4 0 = _
                rw [hreg, hr4]; omega
              · show (sendP q p2 x.1.key).2.1.regs.getD 5 0 = _
                rw [hreg, hr5]; simp
              · show Rp t cs (sendP q p2 x.1.key).2.1.regs _ _ _ _ _
                rw [hreg]
                have e : pc + (stmC t (compT t d) x lv pc).length = pc1 := by rw [hpc1, stmC_retry _ _ _ _ hk, ← hb]
                rw [e]; exact hR2
              · show wtL t (⟨d, x, 1⟩ :: l1) + j ≤ B
                rw [wtL_cons, hwI]; exact hB
            · refine ⟨pc + 6 + b, lv, rfl, mA, j, ?_, ?_⟩
              · show Rp t cs (sendP q p2 x.1.key).2.1.regs _ _ _ _ _
                rw [hreg]; exact hRA
              · show wtL t (itsOf d x.2.1 ++ l1) + j ≤ B
                rw [wtL_append, wtL_its]; omega
          · -- repeat
            have hx' := hx
            rw [stmC_repeat _ _ _ _ hk] at hx hpc1
            obtain ⟨hlv4, hoA⟩ := hok.2.1 hk
            have hn9 : 1 ≤ x.1.n ∧ x.1.n ≤ 9 := by
              rcases hgood with ⟨h, _⟩ | ⟨h, _⟩ | ⟨h, _⟩ | ⟨h, _⟩ | ⟨h, _⟩ | ⟨_, h1, h2, _⟩
              · rw [hk] at h; cases h
              · rw [hk] at h; cases h
              · rw [hk] at h; cases h
              · rw [hk] at h; cases h
              · rw [hk] at h; cases h
              · exact ⟨h1, h2⟩
            rw [wtI_repeat (x := (⟨d, x, 0⟩ : It)) hk] at hB hf
            rw [msI_repeat (x := (⟨d, x, 0⟩ : It)) hk] at hM hg
            simp only at hB hf hM hg
            rw [round_step (show 0 < x.1.n.toNat by omega)] at hB hf hM hg
            obtain ⟨c0, hx1⟩ := hx.cons
            obtain ⟨hA, hx2⟩ := Seg.append hx1
            rw [run_set c0, doT_repeat_on (x := (⟨d, x, 0⟩ : It)) hk (by show ((0 : Nat) : Int) < x.1.n; omega)]
            obtain ⟨p2, hp2⟩ : ∃ p2 : Pr, p2 = { p with regs := p.regs.set lv x.1.n } := ⟨_, rfl⟩
            rw [← hp2]
            have hrv : p2.regs.getD lv 0 = x.1.n := by rw [hp2]; exact getD_set_same (by omega)
            have hrl : p2.regs.length = 12 := by rw [hp2]; simpa using hlen
            have hro : ∀ k, k < lv → p2.regs.getD k 0 = p.regs.getD k 0 := fun k hk => by rw [hp2]; exact getD_set_other (by omega)
            have hpp : SameP p2 r.p := by rw [hp2]; exact ⟨hp.id, hp.dev, hp.sent, hp.til, hp.num⟩
            have hL : Rp t cs p2.regs (n + 1 + 1) j (lv + 1) (pc + 1 + (compT t d x.2.1 (lv + 1) (pc + 1)).length) (⟨d, x, 1⟩ :: l1) := by
              refine Or.inr (Or.inr (Or.inr ⟨d, x, 1, lv, pc, l1, hk, rfl, hx', hok, rfl, by omega, by omega, ?_, rfl, ?_⟩))
              · rw [hrv]; omega
              · have e : pc + 1 + (compT t d x.2.1 (lv + 1) (pc + 1)).length + 1 = pc1 := by rw [hpc1]; simp; omega
                rw [e]; exact Rp.regs hro hR
            obtain ⟨mA, hRA⟩ := Rp.block hA hoA hL
            refine ihM mA hRA ?_ ?_ ?_ ?_ hrl hpp
            · show wtL t (itsOf d x.2.1 ++ ⟨d, x, 0 + 1⟩ :: l1) + j ≤ B
              rw [wtL_append, wtL_its, wtL_cons, wtI_repeat (x := (⟨d, x, 0 + 1⟩ : It)) hk]
              simp only
              omega
            · show wtL t (itsOf d x.2.1 ++ ⟨d, x, 0 + 1⟩ :: l1) + j + 3 < f
              rw [wtL_append, wtL_its, wtL_cons, wtI_repeat (x := (⟨d, x, 0 + 1⟩ : It)) hk]
              simp only
              omega
            · show msL t (itsOf d x.2.1 ++ ⟨d, x, 0 + 1⟩ :: l1) ≤ M
              rw [msL_append, msL_its, msL_cons, msI_repeat (x := (⟨d, x, 0 + 1⟩ : It)) hk]
              simp only
              omega
            · show msL t (itsOf d x.2.1 ++ ⟨d, x, 0 + 1⟩ :: l1) < g
              rw [msL_append, msL_its, msL_cons, msI_repeat (x := (⟨d, x, 0 + 1⟩ : It)) hk]
              simp only
              omega
      · -- at a repeat's end
        subst h9 h2
        have h3' := h3
        rw [stmC_repeat _ _ _ _ hk] at h3
        obtain ⟨_, hx1⟩ := h3.cons
        obtain ⟨hA, hx2⟩ := Seg.append hx1
        obtain ⟨c1, _⟩ := hx2.cons
        rw [← h5] at c1
        obtain ⟨hlv4, hoA⟩ := h4.2.1 hk
        have hn9 : 1 ≤ x.1.n ∧ x.1.n ≤ 9 := by
          rcases h4.1 with ⟨h, _⟩ | ⟨h, _⟩ | ⟨h, _⟩ | ⟨h, _⟩ | ⟨h, _⟩ | ⟨_, h1, h2, _⟩
          · rw [hk] at h; cases h
          · rw [hk] at h; cases h
          · rw [hk] at h; cases h
          · rw [hk] at h; cases h
          · rw [hk] at h; cases h
          · exact ⟨h1, h2⟩
        rw [wtL_cons, wtI_repeat (x := (⟨d, x, i⟩ : It)) hk] at hB hf
        rw [msL_cons, msI_repeat (x := (⟨d, x, i⟩ : It)) hk] at hM hg
        simp only at hB hf hM hg
        by_cases hi : (i : Int) < x.1.n
        · rw [round_step (show i < x.1.n.toNat by omega)] at hB hf hM hg
          rw [run_loop_on c1 q p (by rw [h8]; omega), doT_repeat_on (x := (⟨d, x, i⟩ : It)) hk hi]
          obtain ⟨p2, hp2⟩ : ∃ p2 : Pr, p2 = { p with regs := p.regs.set rep (p.regs.getD rep 0 - 1) } := ⟨_, rfl⟩
          rw [← hp2]
          have hrv : p2.regs.getD rep 0 = x.1.n - i := by rw [hp2]; show (p.regs.set rep _).getD rep 0 = _; rw [getD_set_same (by omega), h8]; omega
          have hrl : p2.regs.length = 12 := by rw [hp2]; simpa using hlen
          have hro : ∀ k, k < rep → p2.regs.getD k 0 = p.regs.getD k 0 := fun k hk => by rw [hp2]; exact getD_set_other (by omega)
          have hpp : SameP p2 r.p := by rw [hp2]; exact ⟨hp.id, hp.dev, hp.sent, hp.til, hp.num⟩
          have hL : Rp t cs p2.regs (n + 1) j (rep + 1) (base + 1 + (compT t d x.2.1 (rep + 1) (base + 1)).length) (⟨d, x, i + 1⟩ :: l') := by
            refine Or.inr (Or.inr (Or.inr ⟨d, x, i + 1, rep, base, l', hk, rfl, h3', h4, rfl, by omega, by omega, ?_, rfl, ?_⟩))
            · rw [hrv]; omega
            · rw [← h5]; exact Rp.regs hro h
          obtain ⟨mA, hRA⟩ := Rp.block hA hoA hL
          refine ihM mA hRA ?_ ?_ ?_ ?_ hrl hpp
          · show wtL t (itsOf d x.2.1 ++ ⟨d, x, i + 1⟩ :: l') + j ≤ B
            rw [wtL_append, wtL_its, wtL_cons, wtI_repeat (x := (⟨d, x, i + 1⟩ : It)) hk]
            simp only
            omega
          · show wtL t (itsOf d x.2.1 ++ ⟨d, x, i + 1⟩ :: l') + j + 3 < f
            rw [wtL_append, wtL_its, wtL_cons, wtI_repeat (x := (⟨d, x, i + 1⟩ : It)) hk]
            simp only
            omega
          · show msL t (itsOf d x.2.1 ++ ⟨d, x, i + 1⟩ :: l') ≤ M
            rw [msL_append, msL_its, msL_cons, msI_repeat (x := (⟨d, x, i + 1⟩ : It)) hk]
            simp only
            omega
          · show msL t (itsOf d x.2.1 ++ ⟨d, x, i + 1⟩ :: l') < g
            rw [msL_append, msL_its, msL_cons, msI_repeat (x := (⟨d, x, i + 1⟩ : It)) hk]
            simp only
            omega
        · rw [run_loop_out c1 q p (by rw [h8]; omega), doT_repeat_out (x := (⟨d, x, i⟩ : It)) hk hi]
          obtain ⟨p2, hp2⟩ : ∃ p2 : Pr, p2 = { p with regs := p.regs.set rep 0 } := ⟨_, rfl⟩
          rw [← hp2]
          have hrl : p2.regs.length = 12 := by rw [hp2]; simpa using hlen
          have hro : ∀ k, k < rep → p2.regs.getD k 0 = p.regs.getD k 0 := fun k hk => by rw [hp2]; exact getD_set_other (by omega)
          have hpp : SameP p2 r.p := by rw [hp2]; exact ⟨hp.id, hp.dev, hp.sent, hp.til, hp.num⟩
          exact ihM n (Rp.regs hro h) (by omega) (by omega) (by omega) (by omega) hrl hpp
end Go.Proofs.Herald
/- The harness begins with code: a herald just where the code is sound. Books of lists: what the harness keeps of each list that came out. The owner's record of lists; messages. -/
namespace Go.Proofs.YtmmmnghiegajmabGreat
open Go.RowKit Go.Proofs.Herald
theorem CodeIn.fr {w w' : World} {a : Option Addr} {b off S : Nat} {cs : List Ins} (h : CodeIn w a b off cs) (hb : Fr (fun k => k = S) w w') (hS : 0 < cs.length → b ≠ S) : CodeIn w' a b off cs := fun hp =>
  ⟨(h hp).1, Nat.lt_of_lt_of_le (h hp).2.1 hb.size, (h hp).2.2.keep (hb.block _ (h hp).2.1 (hS hp))⟩
open Go.RowKit Go.Proofs.Herald
theorem Fr.wide {S : Nat → Prop} {w0 w w' : World} (h : Fr S w0 w) (k : Fr (fun j => S j ∨ w0.heap.size ≤ j) w w') : Fr S w0 w' :=
  ((h.mono (T := fun j => S j ∨ w0.heap.size ≤ j) fun _ _ hs => Or.inl hs).trans k).mono fun j hj hs => hs.elim id (fun h => by omega)
open Go.RowKit Go.Proofs.Herald
theorem Tryz.infoMsg : (Tryz.prog.info? 29).map (fun i => (i.zero, i.size, i.bytes)) = some (some (.agg #[.int .i64 0, .int .i64 0, .int .i64 0, .int .i64 0]), 4, 32) := by kernel_rfl
theorem own_set {w : World} {B : Nat} {e : TypeId} {size n g cap : Nat} {xs : List Value} (h : w.ownsRow B e size (.slice (some ⟨g, 0, none⟩) n cap) n xs) (p : Nat) (v : Value) :
    (w.setCell ⟨g, p, none⟩ v).ownsRow B e size (.slice (some ⟨g, 0, none⟩) n cap) n (xs.set p v) := by
  refine ⟨by rw [List.length_set]; exact h.1, .inr ?_⟩
  rcases h.2 with ⟨h1, _⟩ | ⟨g', cap', cur, hv, hb, hg, hn, hm, hs, ht⟩
  · cases h1
  · simp at hv
    obtain ⟨rfl, rfl⟩ := hv
    refine ⟨g, cap, cur.setIfInBounds p v, rfl, hb, heap_setCell_self v hg, hn, hm, by simpa using hs, ?_⟩
    rw [Array.toList_setIfInBounds, List.take_set, ht]
theorem own_get {w : World} {B : Nat} {e : TypeId} {size n g cap : Nat} {xs : List Value} (h : w.ownsRow B e size (.slice (some ⟨g, 0, none⟩) n cap) n xs) (p : Nat) (u : Value) (hu : xs[p]? = some u) :
    w.cell? ⟨g, p, none⟩ = some u ∧ w.frozen? ⟨g, p, none⟩ = false := by
  have h1 := h.cells (g := g) rfl p u hu
  rw [Addr.add_lit, Nat.zero_add] at h1
  obtain ⟨_, cur, hc⟩ := ownsRow_lies h (k := g) rfl
  exact ⟨h1, free_of_heap hc⟩
/-- Four cells of an element are written. -/
theorem own_set4 {w : World} {B : Nat} {e : TypeId} {size n g cap p : Nat} {A rest : List Value} {r0 r1 r2 r3 : Value} (h : w.ownsRow B e size (.slice (some ⟨g, 0, none⟩) n cap) n (A ++ r0 :: r1 :: r2 :: r3 :: rest)) (hp : p = A.length) (u0 u1 u2 u3 : Value) :
    ((((w.setCell ⟨g, p, none⟩ u0).setCell ⟨g, p + 1, none⟩ u1).setCell ⟨g, p + 2, none⟩ u2).setCell ⟨g, p + 3, none⟩ u3).ownsRow B e size (.slice (some ⟨g, 0, none⟩) n cap) n (A ++ [u0, u1, u2, u3] ++ rest) := by
  have h4 := own_set (own_set (own_set (own_set h p u0) (p + 1) u1) (p + 2) u2) (p + 3) u3
  rw [set4 u0 u1 u2 u3 p hp] at h4
  exact h4
theorem mark4 {w : World} {M : Nat} {e : TypeId} {u0 u1 u2 u3 : Value} (h : w.heap[M]? = some (.cells [u0, u1, u2, u3].toArray e (0, 0))) :
    w.cell? ⟨M, 0, none⟩ = some u0 ∧ w.cell? ⟨M, 1, none⟩ = some u1 ∧ w.cell? ⟨M, 2, none⟩ = some u2 ∧ w.cell? ⟨M, 3, none⟩ = some u3 :=
  ⟨(cell_of_heap h).trans rfl, (cell_of_heap h).trans rfl, (cell_of_heap h).trans rfl, (cell_of_heap h).trans rfl⟩
end Go.Proofs.YtmmmnghiegajmabGreat
/- Every list reads as its owner wrote it: the harness finds so. -/
namespace Go.Proofs.YtmmmnghiegajmabGreat
open Go.RowKit Go.Proofs.Herald
/-- The memory is the same. -/
structure SameH (w w' : World) : Prop where
  heap : w'.heap = w.heap
  os : w'.os = w.os
  tape : w'.tape = w.tape
  output : w'.output = w.output
theorem SameH.refl (w : World) : SameH w w := ⟨rfl, rfl, rfl, rfl⟩
theorem SameH.drew {w w' : World} (h : SameH w w') : SameH w w'.drew := ⟨h.heap, h.os, h.tape, h.output⟩
theorem SameH.cell {w w' : World} (h : SameH w w') (p : Addr) : w'.cell? p = w.cell? p := World.cell?_of_block (by rw [h.heap])
theorem SameH.below {w w' : World} (h : SameH w w') (B : Nat) : Below B w w' := ⟨h.os, h.tape, h.output, by rw [h.heap]; exact Nat.le_refl _, fun k _ => by rw [h.heap]⟩
end Go.Proofs.YtmmmnghiegajmabGreat
/- The document's own herald in memory: one run, the queues; stop, queued. -/
namespace Go.Proofs.YtmmmnghiegajmabGreat
open Go.RowKit Go.Proofs.Herald
def Msg.ins (m : Msg) : Ins := ⟨m.dev, m.run, m.num, m.key⟩
def msgsCells (q : List Msg) : List Value := codeCells (q.map Msg.ins)
def upd {α : Type} (f : Nat → α) (d : Nat) (v : α) (k : Nat) : α := if k = d then v else f k
theorem upd_same {α : Type} (f : Nat → α) (d : Nat) (v : α) : upd f d v d = v := if_pos rfl
theorem upd_other {α : Type} (f : Nat → α) {d k : Nat} (v : α) (h : k ≠ d) : upd f d v k = f k := if_neg h
theorem msgsCells_length (q : List Msg) : (msgsCells q).length = q.length * 4 := by unfold msgsCells; rw [codeCells_length, List.length_map]
theorem three {α : Type} (f : Nat → α) (d : Nat) (hd : d < 3) : #[f 0, f 1, f 2][d]? = some (f d) := by
  match d, hd with
  | 0, _ => rfl
  | 1, _ => rfl
  | 2, _ => rfl
theorem msg_get {w : World} {g cap k : Nat} {q : List Msg} (h : w.ownsRow 0 29 4 (.slice (some ⟨g, 0, none⟩) q.length cap) q.length (msgsCells q)) (hk : k < q.length) :
    w.cell? ⟨g, k * 4, none⟩ = some (.int .i64 q[k].dev) ∧ w.cell? ⟨g, k * 4 + 1, none⟩ = some (.int .i64 q[k].run) ∧ w.cell? ⟨g, k * 4 + 2, none⟩ = some (.int .i64 q[k].num) ∧ w.cell? ⟨g, k * 4 + 3, none⟩ = some (.int .i64 q[k].key) := by
  have hk2 : k < (q.map Msg.ins).length := by simpa using hk
  have get : ∀ j u, j < 4 → (insCells (Msg.ins q[k]))[j]? = some u → w.cell? ⟨g, k * 4 + j, none⟩ = some u := fun j u hj hu => (own_get h (k * 4 + j) u (by
    unfold msgsCells
    rw [codeCells_get (q.map Msg.ins) k hk2 j hj, List.getElem_map]
    exact hu)).1
  exact ⟨get 0 _ (by omega) rfl, get 1 _ (by omega) rfl, get 2 _ (by omega) rfl, get 3 _ (by omega) rfl⟩
end Go.Proofs.YtmmmnghiegajmabGreat
/- The document's own herald: messages are taken out of a queue. -/
namespace Go.Proofs.YtmmmnghiegajmabGreat
open Go.RowKit Go.Proofs.Herald
theorem msgsCells_snoc (q : List Msg) (m : Msg) : msgsCells (q ++ [m]) = msgsCells q ++ [.int .i64 m.dev, .int .i64 m.run, .int .i64 m.num, .int .i64 m.key] := by
  unfold msgsCells; rw [List.map_append, codeCells_append]; rfl
theorem own0 {w : World} {B : Nat} {e : TypeId} {size : Nat} {v : Value} {n : Nat} {xs : List Value} (h : w.ownsRow B e size v n xs) : w.ownsRow 0 e size v n xs := by
  refine ⟨h.1, ?_⟩
  rcases h.2 with h2 | ⟨g, cap, cur, hv, _, r⟩
  · exact .inl h2
  · exact .inr ⟨g, cap, cur, hv, Nat.zero_le _, r⟩
theorem own_base {w : World} {B : Nat} {e : TypeId} {size : Nat} {v : Value} {n : Nat} {xs : List Value} (h : w.ownsRow 0 e size v n xs) (hB : ∀ b, v.ownBlock = some b → B ≤ b) : w.ownsRow B e size v n xs := by
  refine ⟨h.1, ?_⟩
  rcases h.2 with h2 | ⟨g, cap, cur, rfl, _, r⟩
  · exact .inl h2
  · exact .inr ⟨g, cap, cur, rfl, hB g rfl, r⟩
/-- An append onto what the call itself made. -/
theorem appended_below {w0 W w' : World} {B : Nat} {e : TypeId} {size n m : Nat} {v v' : Value} {xs ys : List Value} (hb : Below B w0 W) (hB : B ≤ W.heap.size) (hv : W.ownsRow B e size v n xs) (ho : w'.ownsRow 0 e size v' (n + m) ys) (ha : Appended W w' v n m v') :
    Below B w0 w' ∧ w'.ownsRow B e size v' (n + m) ys := by
  rcases ha with ⟨g, cap, h1, h2, hg⟩ | ⟨hnew, hg⟩
  · have hgB : B ≤ g := (ownsRow_lies hv (k := g) (by rw [h1]; rfl)).1
    refine ⟨hb.grown hg hB fun k hk => by cases hk; exact hgB, own_base ho fun b hb' => ?_⟩
    rw [h2] at hb'
    cases hb'
    exact hgB
  · exact ⟨hb.grown hg hB fun k hk => (by cases hk), own_base ho fun b hb' => Nat.le_trans hB (hnew b hb')⟩
theorem keepsM_run {id num : Int} {m : Msg} (h : ¬ m.run = id) : keepsM id num m = true := by unfold keepsM; simp [h]
theorem keepsM_all {id num : Int} {m : Msg} (h : m.run = id) (h0 : num = 0) : keepsM id num m = false := by unfold keepsM; simp [h, h0]
end Go.Proofs.YtmmmnghiegajmabGreat
/- The document's own herald: a run sends a key. -/
namespace Go.Proofs.YtmmmnghiegajmabGreat
open Go.RowKit Go.Proofs.Herald
theorem msgsCells_split (q : List Msg) (k : Nat) (h : k < q.length) : msgsCells q = msgsCells (q.take k) ++ .int .i64 q[k].dev :: .int .i64 q[k].run :: .int .i64 q[k].num :: .int .i64 q[k].key :: msgsCells (q.drop (k + 1)) := by
  unfold msgsCells
  have h2 : k < (q.map Msg.ins).length := by simpa using h
  rw [codeCells_split (q.map Msg.ins) k h2, List.getElem_map, ← List.map_take, ← List.map_drop]
  rfl
theorem msgsCells_set (q : List Msg) (k : Nat) (h : k < q.length) (m : Msg) : msgsCells (q.set k m) = msgsCells (q.take k) ++ [.int .i64 m.dev, .int .i64 m.run, .int .i64 m.num, .int .i64 m.key] ++ msgsCells (q.drop (k + 1)) := by
  have e : q.set k m = q.take k ++ m :: q.drop (k + 1) := List.set_eq_take_append_cons_drop.trans (if_pos h)
  rw [e]
  unfold msgsCells
  rw [List.map_append, codeCells_append, List.append_assoc]
  rfl
end Go.Proofs.YtmmmnghiegajmabGreat
/- The document's own herald, whole, in memory: its runs, and what one of them did. -/
namespace Go.Proofs.YtmmmnghiegajmabGreat
open Go.RowKit Go.Proofs.Herald
/-- A run in memory: itself, its registers, what it is to do (answered or not), what is told of it. -/
structure Rs where
  P : Nat
  R : Nat
  yv : Value
  nv : Value
  p : Pr
end Go.Proofs.YtmmmnghiegajmabGreat
/- The owner's record of lists: those of a state. -/
namespace Go.Proofs.YtmmmnghiegajmabGreat
open Go.RowKit Go.Proofs.Herald
theorem Tryz.infoRun : (Tryz.prog.info? 99).map (fun i => (i.zero, i.size, i.bytes)) = some (some (.agg #[.int .i64 0, .int .i64 0, .int .i64 0, .int .i64 0, .int .i64 0]), 5, 40) := by kernel_rfl
end Go.Proofs.YtmmmnghiegajmabGreat
