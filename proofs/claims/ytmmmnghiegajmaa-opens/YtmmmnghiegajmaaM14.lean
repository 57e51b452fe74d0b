import Derived.Test.YtmmmnghiegajmaaM08
import Derived.Test.YtmmmnghiegajmaaM13
import Derived.Test.YtmmmnghiegajmaaM09
/- Runs of code as the program does them, as plain mathematics; they do what the document's runs of code do. -/
namespace Go.Proofs.Herald
def incM (p : Pr) : Pr := { p with els := p.els + 1 }
def twiceM (p : Pr) (r : Int) : Pr := setP p r (if 1000000 < regP p r * 2 then 1000000 else regP p r * 2)
def askM (p : Pr) (c : Int) : Pr := { p with tow := p.els, els := c }
def holdM (p : Pr) (c : Int) : Pr := { p with tow := c }
def downM (p : Pr) (a : Int) : Pr := if 0 < regP p a then setP p a (regP p a - 1) else p
def loopM (p : Pr) (a c : Int) : Pr := if 0 < regP (downM p a) a then { downM p a with els := c } else downM p a
/-- One instruction, as the program does it: the queue, the run, what came of it (0: it goes on, 1: it stopped, 2: it ended). -/
def stepM (now : Int) (x : Ins) (q : List Msg) (p : Pr) : List Msg × Pr × Int :=
  if x.op = 0 then (q, incM p, 2)
  else if x.op = 1 then ((sendP q (incM p) x.a).1, (sendP q (incM p) x.a).2.1, 0)
  else if x.op = 2 then (q, stopP (incM p) now x.a 0, 1)
  else if x.op = 3 then
    (if (sendP q (askM (incM p) x.c) x.a).2.2 = 0 then ((sendP q (askM (incM p) x.c) x.a).1, (sendP q (askM (incM p) x.c) x.a).2.1, 0)
     else ((sendP q (askM (incM p) x.c) x.a).1, stopP (sendP q (askM (incM p) x.c) x.a).2.1 now x.b (sendP q (askM (incM p) x.c) x.a).2.2, 1))
  else if x.op = 4 then (q, setP (incM p) x.a x.b, 0)
  else if x.op = 5 then (q, twiceM (incM p) x.a, 0)
  else if x.op = 6 then ((sendP q (holdM (incM p) x.c) x.a).1, stopP (sendP q (holdM (incM p) x.c) x.a).2.1 now (if regP p x.b < 1 then 1 else regP p x.b) (sendP q (holdM (incM p) x.c) x.a).2.2, 1)
  else if x.op = 7 then (q, loopM (incM p) x.a x.c, 0)
  else if x.op = 8 then (q, { incM p with els := x.c }, 0)
  else (q, incM p, 0)
/-- Instructions till the run stops or ends: has it ended? -/
def runM (now : Int) (cs : List Ins) : Nat → List Msg → Pr → List Msg × Pr × Bool
  | 0, q, p => (q, p, true)
  | f + 1, q, p =>
    if h : p.els.toNat < cs.length then
      (if (stepM now cs[p.els.toNat] q p).2.2 = 0 then runM now cs f (stepM now cs[p.els.toNat] q p).1 (stepM now cs[p.els.toNat] q p).2.1
       else ((stepM now cs[p.els.toNat] q p).1, (stepM now cs[p.els.toNat] q p).2.1, (stepM now cs[p.els.toNat] q p).2.2 != 1))
    else (q, p, true)
def onM (now : Int) (cs : List Ins) (yes : Bool) (q : List Msg) (p : Pr) : List Msg × Pr × Bool :=
  if yes then runM now cs 10000 q { p with els := p.tow }
  else if p.num = 0 then runM now cs 10000 q p
  else runM now cs 10000 (takeQ q p.id p.num) p
/-- Runs of code, as the program does them. -/
def machE (cs : List Ins) : Eng Pr := ⟨pubP, freshP, fun now q p => runM now cs 10000 q p, fun now yes q p => onM now cs yes q p⟩
theorem sendP_pid (q : List Msg) (p : Pr) (key : Int) : (sendP q p key).2.1.id = p.id := (sendP_kept q p key).2.1
theorem stepM_id (now : Int) (x : Ins) (q : List Msg) (p : Pr) : (stepM now x q p).2.1.id = p.id := by
  unfold stepM
  repeat' split
  all_goals first | rfl | exact sendP_pid _ _ _ | skip
  unfold loopM downM
  repeat' split
  all_goals rfl
theorem runM_id (now : Int) (cs : List Ins) : ∀ (f : Nat) (q : List Msg) (p : Pr), (runM now cs f q p).2.1.id = p.id := by
  intro f
  induction f with
  | zero => intro q p; rfl
  | succ f ih =>
    intro q p
    rw [runM]
    split
    · split
      · exact (ih _ _).trans (stepM_id _ _ _ _)
      · exact stepM_id _ _ _ _
    · rfl
theorem onM_id (now : Int) (cs : List Ins) (yes : Bool) (q : List Msg) (p : Pr) : (onM now cs yes q p).2.1.id = p.id := by
  unfold onM
  split
  · exact runM_id _ _ _ _ _
  · split
    · exact runM_id _ _ _ _ _
    · exact runM_id _ _ _ _ _
theorem stepP_pid (now : Int) (x : Ins) (pc : Int) (q : List Msg) (p : Pr) : (stepP now x pc q p).2.1.id = p.id := by
  unfold stepP
  repeat' split
  all_goals first | rfl | exact sendP_pid _ _ _
theorem runP_pid (now : Int) (cs : List Ins) : ∀ (f : Nat) (pc : Int) (q : List Msg) (p : Pr), (runP now cs f pc q p).2.1.id = p.id := by
  intro f
  induction f with
  | zero => intro pc q p; rfl
  | succ f ih =>
    intro pc q p
    rw [runP]
    split
    · split
      · exact stepP_pid _ _ _ _ _
      · exact (ih _ _ _).trans (stepP_pid _ _ _ _ _)
    · rfl
theorem onP_pid (now : Int) (cs : List Ins) (yes : Bool) (q : List Msg) (p : Pr) : (onP now cs yes q p).2.1.id = p.id := by
  unfold onP
  split
  · exact runP_pid _ _ _ _ _ _
  · split
    · exact runP_pid _ _ _ _ _ _
    · exact runP_pid _ _ _ _ _ _
/-- A run of both kinds that goes on: all but what it waited for. -/
structure InR (pc : Int) (p m : Pr) : Prop where
  id : p.id = m.id
  dev : p.dev = m.dev
  sent : p.sent = m.sent
  til : p.til = m.til
  regs : p.regs = m.regs
  els : m.els = pc
  pc0 : 0 ≤ pc
  sent0 : 0 ≤ p.sent
  len : p.regs.length = 12
/-- A run of both kinds that is stopped. -/
structure StR (p m : Pr) : Prop where
  id : p.id = m.id
  dev : p.dev = m.dev
  sent : p.sent = m.sent
  til : p.til = m.til
  num : p.num = m.num
  regs : p.regs = m.regs
  els : p.els = m.els
  els0 : 0 ≤ p.els
  tow : p.num ≠ 0 → p.tow = m.tow ∧ 0 ≤ p.tow
  num0 : 0 ≤ p.num
  sent0 : 0 ≤ p.sent
  len : p.regs.length = 12
theorem sendP_in {pc : Int} {p m : Pr} (h : InR pc p m) (q : List Msg) (key : Int) :
    (sendP q p key).1 = (sendP q m key).1 ∧ (sendP q p key).2.2 = (sendP q m key).2.2 ∧ InR pc (sendP q p key).2.1 (sendP q m key).2.1 ∧ 0 ≤ (sendP q p key).2.2 := by
  have e : (⟨m.dev, m.id, m.sent + 1, key⟩ : Msg) = ⟨p.dev, p.id, p.sent + 1, key⟩ := by rw [h.id, h.dev, h.sent]
  have h0 := h.sent0
  have e2 : p.sent + 1 = m.sent + 1 := by rw [h.sent]
  unfold sendP
  rw [e]
  cases putQ q ⟨p.dev, p.id, p.sent + 1, key⟩ with
  | some q' =>
    simp only
    exact ⟨trivial, e2, ⟨h.id, h.dev, e2, h.til, h.regs, h.els, h.pc0, by show 0 ≤ p.sent + 1; omega, h.len⟩, by omega⟩
  | none => exact ⟨rfl, rfl, h, Int.le_refl 0⟩
theorem InR.inc {pc : Int} {p m : Pr} (h : InR pc p m) : InR (pc + 1) p (incM m) :=
  ⟨h.id, h.dev, h.sent, h.til, h.regs, by show m.els + 1 = _; rw [h.els], by have := h.pc0; omega, h.sent0, h.len⟩
theorem InR.setP {pc : Int} {p m : Pr} (h : InR pc p m) (r v : Int) : InR pc (setP p r v) (setP m r v) :=
  ⟨h.id, h.dev, h.sent, h.til, by show p.regs.set _ _ = m.regs.set _ _; rw [h.regs], h.els, h.pc0, h.sent0, by show (p.regs.set _ _).length = _; rw [List.length_set]; exact h.len⟩
theorem InR.reg {pc : Int} {p m : Pr} (h : InR pc p m) (r : Int) : regP m r = regP p r := by unfold regP; rw [h.regs]
theorem regP_set {p : Pr} {r v : Int} (h : r.toNat < p.regs.length) : regP (setP p r v) r = v := by
  unfold regP setP
  simp [h]
theorem InR.jump {pc c : Int} {p m : Pr} (h : InR pc p m) (h0 : 0 ≤ c) : InR c p { m with els := c } :=
  ⟨h.id, h.dev, h.sent, h.til, h.regs, rfl, h0, h.sent0, h.len⟩
/-- An instruction of both kinds. -/
structure StepSame (r : List Msg × Pr × Int × Bool) (o : List Msg × Pr × Int) : Prop where
  q : r.1 = o.1
  go : o.2.2 = 0 → 0 ≤ r.2.2.1 ∧ InR r.2.2.1 r.2.1 o.2.1
  stop : o.2.2 ≠ 0 → r.2.2.1 < 0 ∧ r.2.2.2 = (o.2.2 != 1) ∧ (o.2.2 = 1 → StR r.2.1 o.2.1)
set_option maxHeartbeats 1000000 in
theorem step_same {n now : Int} {x : Ins} {pc : Int} {q : List Msg} {p m : Pr} (hx : soundI n x = true) (h : InR pc p m) : StepSame (stepP now x pc q p) (stepM now x q m) := by
  have hi := h.inc
  have hpc := h.pc0
  have hlen := h.len
  have t20 : ¬ (2 : Int) = 0 := by decide
  have t21 : ¬ (2 : Int) = 1 := by decide
  have t10 : ¬ (1 : Int) = 0 := by decide
  have tm : (-1 : Int) < 0 := by decide
  unfold soundI at hx
  unfold stepP stepM
  by_cases g0 : x.op = 0
  · rw [if_neg (by omega), if_neg (by omega), if_neg (by omega), if_neg (by omega), if_neg (by omega), if_neg (by omega), if_neg (by omega), if_neg (by omega), if_pos g0]
    exact ⟨rfl, fun hh => absurd hh t20, fun _ => ⟨tm, rfl, fun hh => absurd hh t21⟩⟩
  rw [if_neg g0] at hx ⊢
  by_cases g1 : x.op = 1
  · rw [if_pos g1, if_pos g1]
    obtain ⟨k1, k2, k3, k4⟩ := sendP_in hi q x.a
    exact ⟨k1, fun _ => ⟨by show 0 ≤ pc + 1; omega, k3⟩, fun hh => absurd rfl hh⟩
  rw [if_neg g1] at hx ⊢
  rw [if_neg g1]
  by_cases g2 : x.op = 2
  · rw [if_pos g2, if_pos g2]
    exact ⟨rfl, fun hh => absurd hh t10, fun _ => ⟨tm, rfl, fun _ => ⟨h.id, h.dev, h.sent, rfl, rfl, h.regs, hi.els.symm, hi.pc0, fun hh => absurd rfl hh, Int.le_refl 0, h.sent0, h.len⟩⟩⟩
  rw [if_neg g2] at hx ⊢
  rw [if_neg g2]
  by_cases g3 : x.op = 3
  · rw [if_pos g3] at hx ⊢
    rw [if_pos g3]
    simp only [Bool.and_eq_true] at hx
    have hc := within_parts hx.2
    have ha : InR x.c p (askM (incM m) x.c) := ⟨h.id, h.dev, h.sent, h.til, h.regs, rfl, hc.1, h.sent0, h.len⟩
    obtain ⟨k1, k2, k3, k4⟩ := sendP_in ha q x.a
    have kto : (sendP q (askM (incM m) x.c) x.a).2.1.tow = pc + 1 ∧ (sendP q (askM (incM m) x.c) x.a).2.1.els = x.c := by
      refine ⟨?_, k3.els⟩
      unfold sendP
      split
      · exact hi.els
      · exact hi.els
    by_cases hz : (sendP q p x.a).2.2 = 0
    · rw [if_pos hz, if_pos (k2 ▸ hz)]
      exact ⟨k1, fun _ => ⟨hc.1, k3⟩, fun hh => absurd rfl hh⟩
    · rw [if_neg hz, if_neg (k2 ▸ hz)]
      exact ⟨k1, fun hh => absurd hh t10, fun _ => ⟨tm, rfl, fun _ => ⟨k3.id, k3.dev, k3.sent, rfl, k2, k3.regs, kto.2.symm, hc.1, fun _ => ⟨kto.1.symm, by show 0 ≤ pc + 1; omega⟩, k4, k3.sent0, k3.len⟩⟩⟩
  rw [if_neg g3] at hx ⊢
  rw [if_neg g3]
  by_cases g4 : x.op = 4
  · rw [if_pos g4, if_pos g4]
    exact ⟨rfl, fun _ => ⟨by show 0 ≤ pc + 1; omega, hi.setP _ _⟩, fun hh => absurd rfl hh⟩
  rw [if_neg g4] at hx ⊢
  rw [if_neg g4]
  by_cases g5 : x.op = 5
  · rw [if_pos g5, if_pos g5]
    have e : twiceM (incM m) x.a = setP (incM m) x.a (if 1000000 < 2 * regP p x.a then 1000000 else 2 * regP p x.a) := by
      unfold twiceM
      rw [hi.reg, Int.mul_comm]
    rw [e]
    exact ⟨rfl, fun _ => ⟨by show 0 ≤ pc + 1; omega, hi.setP _ _⟩, fun hh => absurd rfl hh⟩
  rw [if_neg g5] at hx ⊢
  rw [if_neg g5]
  by_cases g6 : x.op = 6
  · rw [if_pos g6] at hx ⊢
    rw [if_pos g6]
    simp only [Bool.and_eq_true] at hx
    have hc := within_parts hx.2
    have ha : InR (pc + 1) p (holdM (incM m) x.c) := ⟨h.id, h.dev, h.sent, h.til, h.regs, hi.els, hi.pc0, h.sent0, h.len⟩
    obtain ⟨k1, k2, k3, k4⟩ := sendP_in ha q x.a
    have kto : (sendP q (holdM (incM m) x.c) x.a).2.1.tow = x.c := by
      unfold sendP
      split
      · rfl
      · rfl
    have et : (if regP m x.b < 1 then 1 else regP m x.b) = maxI 1 (regP p x.b) := by unfold maxI; rw [h.reg]
    rw [et]
    exact ⟨k1, fun hh => absurd hh t10, fun _ => ⟨tm, rfl, fun _ => ⟨k3.id, k3.dev, k3.sent, rfl, k2, k3.regs, k3.els.symm, hi.pc0, fun _ => ⟨kto.symm, hc.1⟩, k4, k3.sent0, k3.len⟩⟩⟩
  rw [if_neg g6] at hx ⊢
  rw [if_neg g6]
  by_cases g7 : x.op = 7
  · rw [if_pos g7] at hx ⊢
    rw [if_pos g7]
    simp only [Bool.and_eq_true] at hx
    have ha := within_parts hx.1.1
    have hc := within_parts hx.2
    have hal : x.a.toNat < (incM m).regs.length := by rw [← hi.regs, hlen]; omega
    refine ⟨?_, fun _ => ?_, fun hh => absurd rfl hh⟩
    · split <;> rfl
    · unfold loopM downM
      rw [hi.reg]
      by_cases hp : 0 < regP p x.a
      · rw [if_pos hp, if_pos hp, regP_set hal]
        by_cases hp2 : 0 < regP p x.a - 1
        · rw [if_pos hp2, if_pos hp2]
          exact ⟨hc.1, (hi.setP _ _).jump hc.1⟩
        · rw [if_neg hp2, if_neg hp2]
          exact ⟨by show 0 ≤ pc + 1; omega, hi.setP _ _⟩
      · rw [if_neg hp, if_neg hp, hi.reg, if_neg hp]
        exact ⟨by show 0 ≤ pc + 1; omega, hi⟩
  rw [if_neg g7] at hx ⊢
  rw [if_neg g7]
  by_cases g8 : x.op = 8
  · rw [if_pos g8] at hx ⊢
    rw [if_pos g8]
    simp only [Bool.and_eq_true] at hx
    have hc := within_parts hx.2
    exact ⟨rfl, fun _ => ⟨hc.1, hi.jump hc.1⟩, fun hh => absurd rfl hh⟩
  rw [if_neg g8] at hx
  cases hx
theorem stepP_num {now : Int} {x : Ins} {pc : Int} {q : List Msg} {p : Pr} (h : 0 ≤ (stepP now x pc q p).2.2.1) (hn : p.num = 0) : (stepP now x pc q p).2.1.num = 0 := by
  have hs : ∀ key, (sendP q p key).2.1.num = 0 := fun key => by
    unfold sendP
    split
    · exact hn
    · exact hn
  unfold stepP at h ⊢
  repeat' split
  all_goals first | exact hn | exact hs _ | skip
  all_goals simp_all
theorem run_same {now : Int} {cs : List Ins} (hs : ∀ x ∈ cs, soundI cs.length x = true) : ∀ (f : Nat) (pc : Int) (q : List Msg) (p m : Pr), InR pc p m → p.num = 0 →
    (runP now cs f pc q p).1 = (runM now cs f q m).1 ∧ (runP now cs f pc q p).2.2 = (runM now cs f q m).2.2 ∧ ((runP now cs f pc q p).2.2 = false → StR (runP now cs f pc q p).2.1 (runM now cs f q m).2.1) := by
  intro f
  induction f with
  | zero => intro pc q p m h _; exact ⟨rfl, rfl, fun hh => by cases hh⟩
  | succ f ih =>
    intro pc q p m h hn
    rw [runP, runM, h.els]
    by_cases hlt : pc.toNat < cs.length
    · rw [dif_pos hlt, dif_pos hlt]
      have k := step_same (now := now) (q := q) (hs _ (List.getElem_mem hlt)) h
      by_cases hz : (stepM now cs[pc.toNat] q m).2.2 = 0
      · obtain ⟨h0, hin⟩ := k.go hz
        have hq := k.q
        rw [if_pos hz, if_neg (by omega), ← hq]
        exact ih _ _ _ _ hin (stepP_num h0 hn)
      · obtain ⟨h0, hd, hst⟩ := k.stop hz
        rw [if_neg hz, if_pos h0]
        refine ⟨k.q, hd, fun hf => hst ?_⟩
        simp only at hf
        rw [hd] at hf
        simpa using hf
    · rw [dif_neg hlt, dif_neg hlt]
      exact ⟨rfl, rfl, fun hh => by cases hh⟩
theorem mach_same {cs : List Ins} (hs : soundL cs = true) : SameEng (codeE cs) (machE cs) StR := by
  have hall : ∀ x ∈ cs, soundI cs.length x = true := by
    unfold soundL at hs
    simp only [Bool.and_eq_true, List.all_eq_true] at hs
    exact hs.2
  refine ⟨fun a b h => ?_, fun now q id dev => ?_, fun id dev => ⟨rfl, rfl⟩, fun a b h now yes q hy => ?_⟩
  · show pubP a = pubP b
    unfold pubP
    rw [h.id, h.dev, h.sent, h.til, h.num]
  · have hin : InR 0 (freshP id dev) (freshP id dev) := ⟨rfl, rfl, rfl, rfl, rfl, rfl, Int.le_refl 0, Int.le_refl 0, rfl⟩
    obtain ⟨k1, k2, k3⟩ := run_same (now := now) hall 10000 0 q _ _ hin rfl
    exact ⟨k1, k2, runP_pid _ _ _ _ _ _, runM_id _ _ _ _ _, k3⟩
  · have e1 : (codeE cs).on now yes q a = onP now cs yes q a := rfl
    have e2 : (machE cs).on now yes q b = onM now cs yes q b := rfl
    rw [e1, e2]
    have key : ∀ (pc : Int) (m : Pr) (q' : List Msg), InR pc { a with num := 0 } m → (runP now cs 10000 pc q' { a with num := 0 }).1 = (runM now cs 10000 q' m).1 ∧ (runP now cs 10000 pc q' { a with num := 0 }).2.2 = (runM now cs 10000 q' m).2.2 ∧ ((runP now cs 10000 pc q' { a with num := 0 }).2.2 = false → StR (runP now cs 10000 pc q' { a with num := 0 }).2.1 (runM now cs 10000 q' m).2.1) := fun pc m q' hin => run_same hall 10000 pc q' _ _ hin rfl
    have hid1 : ((codeE cs).pub (onP now cs yes q a).2.1).id = ((codeE cs).pub a).id := onP_pid now cs yes q a
    have hid2 : ((machE cs).pub (onM now cs yes q b).2.1).id = ((machE cs).pub b).id := onM_id now cs yes q b
    have fin : ((onP now cs yes q a).1 = (onM now cs yes q b).1 ∧ (onP now cs yes q a).2.2 = (onM now cs yes q b).2.2 ∧ ((onP now cs yes q a).2.2 = false → StR (onP now cs yes q a).2.1 (onM now cs yes q b).2.1)) := by
      unfold onP onM
      have n0 := h.num0
      cases yes with
      | true =>
        have hto := h.tow (hy rfl)
        exact key a.tow _ q ⟨h.id, h.dev, h.sent, h.til, h.regs, hto.1.symm, hto.2, h.sent0, h.len⟩
      | false =>
        simp only [Bool.false_eq_true, if_false]
        by_cases hz : a.num = 0
        · rw [if_neg (by omega), if_pos (h.num ▸ hz)]
          exact key a.els _ q ⟨h.id, h.dev, h.sent, h.til, h.regs, h.els.symm, h.els0, h.sent0, h.len⟩
        · rw [if_pos (by omega), if_neg (h.num ▸ hz), ← h.id, ← h.num]
          exact key a.els _ _ ⟨h.id, h.dev, h.sent, h.til, h.regs, h.els.symm, h.els0, h.sent0, h.len⟩
    exact ⟨fin.1, fin.2.1, hid1, hid2, fin.2.2⟩
end Go.Proofs.Herald
/- The document's own herald: a run ends. The document's own herald: one instruction of a run: end, send, wait, ask, jump. The document's own herald: one instruction of a run: ask, end. -/
namespace Go.Proofs.Ytmmmnghiegajmaa
open Go.RowKit Go.Proofs.Herald
theorem Try.infoProcP : (Try.prog.info? 177).map (fun i => (i.zero, i.size, i.bytes)) = some (some (.pointer none), 1, 8) := by kernel_rfl
def ptrs (L : List (Nat × Int)) : List Value := L.map fun x => Value.pointer (some ⟨x.1, 0, none⟩)
/-- The runs' list, and the number of each. -/
structure ProcsAt (w : World) (pv : Value) (L : List (Nat × Int)) : Prop where
  own : w.ownsRow 0 177 1 pv L.length (ptrs L)
  ids : ∀ x ∈ L, ∃ cs, w.heap[x.1]? = some (.cells cs 176 (0, 0)) ∧ cs[0]? = some (.int .i64 x.2)
/-- The list of runs is laid anew. -/
theorem SimCore.setPv {w : World} {S Q P R : Nat} {cv : Md} {pv : Value} {rec : ByteArray} {now last : Int} {qv : Nat → Value} {qs : Nat → List Msg} {p : Pr} (h : SimCore w S Q P R cv pv rec now last qv qs p) (v : Value) :
    SimCore (w.setCell ⟨S, 5, none⟩ v) S Q P R cv v rec now last qv qs p := by
  refine ⟨?_, ?_, fun d hd => own_keep (h.oB d hd) fun b hb => ?_, h.dis, ?_, ?_, h.rl⟩
  · rw [heap_setCell_self _ h.sB]; rfl
  · rw [Below.heap_setCell _ _ _ _ (ne_of_type h.qB h.sB (by decide))]; exact h.qB
  · obtain ⟨c, hc⟩ := own_block (h.oB d hd) hb
    exact Below.heap_setCell _ _ _ _ (ne_of_type hc h.sB (by decide))
  · rw [Below.heap_setCell _ _ _ _ (ne_of_type h.pB h.sB (by decide))]; exact h.pB
  · rw [Below.heap_setCell _ _ _ _ (ne_of_type h.rB h.sB (by decide))]; exact h.rB
set_option maxRecDepth 20000 in
set_option maxHeartbeats 4000000 in
theorem s_ended (S Q P R : Nat) (cv : Md) (pv : Value) (rec : ByteArray) (now last : Int) (qv : Nat → Value) (qs : Nat → List Msg) (p : Pr) (L : List (Nat × Int)) (w : World) (h : SimCore w S Q P R cv pv rec now last qv qs p) (hP : ProcsAt w pv L) (hl : L.length ≤ 1000) :
    Calls Try.prog 129 #[.pointer (some ⟨S, 0, none⟩), .pointer (some ⟨P, 0, none⟩)] w fun e w' => e = .returned (.tuple #[]) ∧
      ∃ v, SimCore w' S Q P R cv v rec now last qv qs p ∧ w'.ownsRow 0 177 1 v (L.filter (fun x => x.2 != p.id)).length (ptrs (L.filter (fun x => x.2 != p.id))) ∧ (∀ b, v.ownBlock = some b → w.heap.size ≤ b) ∧ Fr (fun k => k = S) w w' := by
  obtain ⟨a, cap, hv⟩ := ownsRow_slice hP.own
  subst hv
  have c5 : w.cell? ⟨S, 5, none⟩ = some (.slice a L.length cap) := (cell_of_heap h.sB).trans rfl
  have p0 : w.cell? ⟨P, 0, none⟩ = some (.int .i64 p.id) := (cell_of_heap h.pB).trans rfl
  have HO : Hid (w.ownsRow 0 177 1 (.slice a L.length cap) L.length (ptrs L)) := hP.own
  have HI : Hid (∀ x ∈ L, x.1 < w.heap.size ∧ w.cell? ⟨x.1, 0, none⟩ = some (.int .i64 x.2)) := fun x hx => by
    obtain ⟨cs, h1, h2⟩ := hP.ids x hx
    exact ⟨heap_lt h1, (cell_of_heap h1).trans h2⟩
  have HH : Hid (SimCore w S Q P R cv (.slice a L.length cap) rec now last qv qs p) := h
  have HLT : Hid (S < w.heap.size ∧ P < w.heap.size) := ⟨heap_lt h.sB, heap_lt h.pB⟩
  clear h hP
  obtain ⟨f, hf⟩ : ∃ f : Nat × Int → Bool, f = fun x => x.2 != p.id := ⟨_, rfl⟩
  rw [← hf]
  have HF : Hid (f = fun x => x.2 != p.id) := hf
  clear hf
  go_enter Try.func129, Try.ntmps129
  go_wp2_with fail
  go_loopw [4, 5] (fun v i wr => ∃ k : Nat, k ≤ L.length ∧ i = .int .i64 k ∧ Hid (wr.ownsRow w.heap.size 177 1 v ((L.take k).filter f).length (ptrs ((L.take k).filter f))) ∧ Hid (Below w.heap.size w wr)) (fun _ i _ => L.length - (intOf i).toNat)
  case atStart => exact ⟨0, Nat.zero_le _, rfl, World.ownsRow_nil _ _ _ _, Below.refl _ _⟩
  case round =>
    obtain ⟨k, hk, rfl, HV, HB⟩ := hrel
    rw [← HB.out.cell (p := ⟨S, 5, none⟩) HLT.out.1] at c5
    rw [← HB.out.cell (p := ⟨P, 0, none⟩) HLT.out.2] at p0
    obtain ⟨F, hF⟩ : ∃ F, F = (L.take k).filter f := ⟨_, rfl⟩
    rw [← hF] at HV
    have hFl : F.length ≤ 1000 := by rw [hF]; have := List.length_filter_le f (L.take k); simp at this; omega
    by_cases hlt : k < L.length
    · have HKEEP : Hid (f L[k] = true → (L.take (k + 1)).filter f = F ++ [L[k]]) := fun h => by
        rw [List.take_succ_eq_append_getElem hlt, List.filter_append, ← hF]; simp [h]
      have HDROP : Hid (f L[k] = false → (L.take (k + 1)).filter f = F) := fun h => by
        rw [List.take_succ_eq_append_getElem hlt, List.filter_append, ← hF]; simp [h]
      obtain ⟨g, cap', hv, _, hgl⟩ := HO.out.form (by omega)
      simp at hv
      obtain ⟨rfl, rfl⟩ := hv
      have e0 : w.cell? ⟨g, k, none⟩ = some (.pointer (some ⟨L[k].1, 0, none⟩)) := own_cell HO.out rfl (by unfold ptrs; simp [hlt])
      rw [← HB.out.cell (p := ⟨g, k, none⟩) hgl] at e0
      have hi := HI.out L[k] (List.getElem_mem hlt)
      have e1 := hi.2
      rw [← HB.out.cell (p := ⟨L[k].1, 0, none⟩) hi.1] at e1
      clear hF hgl hi
      have HFX : Hid (f L[k] = (L[k].2 != p.id)) := by show _ = _; rw [HF.out]
      generalize L[k] = x at *
      obtain ⟨x1, x2⟩ := x
      dsimp only at e0 e1
      by_cases hr : x2 = p.id
      · have b1 : (x2 != p.id) = false := by simpa using hr
        have HE : Hid ((L.take (k + 1)).filter f = F) := HDROP.out (HFX.out.trans b1)
        clear hr HKEEP HDROP
        go_wp2_with fail
        go_region
        all_goals
          go_wp2_with fail
          go_roundw
          case rel => exact ⟨k + 1, by omega, by go_num, by rw [HE.out]; exact HV.out, HB.out.drew⟩
          case measure => simp [intOf]; omega
      · have b1 : (x2 != p.id) = true := by simpa using hr
        have HE : Hid ((L.take (k + 1)).filter f = F ++ [(x1, x2)]) := HKEEP.out (HFX.out.trans b1)
        clear hr HKEEP HDROP
        go_wp2_with fail
        go_region
        all_goals
          go_wp2_with (at_builtin; refine wpList_append_keep _ rfl (.tmp 32) (.tmp 40) 118 rfl 177 _ 1 8 Try.underlying118 Try.infoProcP rfl (by decide) (by decide) u4 F.length 1 (ptrs F) wr.heap.size [.pointer (some ⟨x1, 0, none⟩)] (by rfl) (by exact (own0 HV.out).alloc _) (by exact heap_alloc_new _ _) (by rfl) rfl (by simp [Value.oneCell']) (by decide) (by omega) ?_)
          intro v2 w2 hown2 ha2
          have hab := appended_below (w0 := w) (B := w.heap.size) (HB.out.alloc HB.out.size _).drew (by have := HB.out.size; simp; omega) (HV.out.alloc _) hown2 ha2
          replace hown2 := hab.2
          have HV2 : Hid (w2.ownsRow w.heap.size 177 1 v2 ((L.take (k + 1)).filter f).length (ptrs ((L.take (k + 1)).filter f))) := by
            rw [HE.out, List.length_append]; unfold ptrs; rw [List.map_append]; exact hown2
          have HB2 : Hid (Below w.heap.size w w2) := hab.1
          clear hown2 ha2 hab
          go_wp2_with fail
          go_roundw
          case rel => exact ⟨k + 1, by omega, by go_num, HV2, HB2⟩
          case measure => simp [intOf]; omega
    · have HE : Hid (F = L.filter f) := by show _ = _; rw [hF, List.take_of_length_le (by omega)]
      have z : wr.frozen? ⟨S, 5, none⟩ = false := free_of_heap ((HH.out.below HB.out).sB)
      clear hF
      obtain ⟨av, cv2, hvv⟩ := ownsRow_slice HV.out
      subst hvv
      go_wp2_with fail
      go_end0
      refine ⟨rfl, _, (HH.out.below HB.out).setPv _, ?_, fun b hb => (ownsRow_lies HV.out hb).1, ?_⟩
      · rw [← HE.out]
        exact own_keep (own0 HV.out) fun b hb => by
          obtain ⟨c, hc⟩ := own_block (own0 HV.out) hb
          exact Below.heap_setCell _ _ _ _ (ne_of_type hc (HH.out.below HB.out).sB (by decide))
      · exact ((Fr.of_below HB.out).mono (T := fun k => k = S) fun j hj hs => by omega).setCell ⟨S, 5, none⟩ (Or.inl rfl) _
open Go.RowKit Go.Proofs.Herald
/-- What a run may write: itself, its registers, the queues, the list of runs. -/
def StepT (S Q P R : Nat) (v : Value) (k : Nat) : Prop := k = P ∨ k = Q ∨ k = R ∨ k = S ∨ v.ownBlock = some k
/-- Behind an instruction: the answer; the queue, the run, and if it has ended the list of the others. -/
def StepOut (S Q P R : Nat) (cv : Md) (pv : Value) (rec : ByteArray) (now last : Int) (qv : Nat → Value) (qs : Nat → List Msg) (d : Nat) (L : List (Nat × Int)) (w : World) (q : List Msg) (p' : Pr) (done : Bool) (w' : World) : Prop :=
  ∃ v pv', SimCore w' S Q P R cv pv' rec now last (upd qv d v) (upd qs d q) p' ∧ (∀ b, v.ownBlock = some b → (qv d).ownBlock = some b ∨ w.heap.size ≤ b) ∧ (done = false → pv' = pv) ∧
    (done = true → w'.ownsRow 0 177 1 pv' (L.filter (fun x => x.2 != p'.id)).length (ptrs (L.filter (fun x => x.2 != p'.id))) ∧ ∀ b, pv'.ownBlock = some b → w.heap.size ≤ b) ∧ Fr (StepT S Q P R (qv d)) w w'
theorem StepOut.plain {S Q P R : Nat} {cv : Md} {pv : Value} {rec : ByteArray} {now last : Int} {qv : Nat → Value} {qs : Nat → List Msg} {d : Nat} {L : List (Nat × Int)} {w w' : World} {p' : Pr} (h : SimCore w' S Q P R cv pv rec now last qv qs p') (hf : Fr (StepT S Q P R (qv d)) w w') :
    StepOut S Q P R cv pv rec now last qv qs d L w (qs d) p' false w' :=
  ⟨qv d, pv, by rw [upd_self, upd_self]; exact h, fun _ hb => .inl hb, fun _ => rfl, fun hh => (by cases hh), hf⟩
theorem StepOut.send {S Q P R : Nat} {cv : Md} {pv : Value} {rec : ByteArray} {now last : Int} {qv : Nat → Value} {qs : Nat → List Msg} {d : Nat} {L : List (Nat × Int)} {w W w' w2 : World} {q : List Msg} {p' : Pr} {v : Value} (hb : Below w.heap.size w W) (h2 : ∀ b, v.ownBlock = some b → (qv d).ownBlock = some b ∨ W.heap.size ≤ b) (h3 : Fr (fun k => k = P ∨ k = Q ∨ (qv d).ownBlock = some k) W w')
    (h : SimCore w2 S Q P R cv pv rec now last (upd qv d v) (upd qs d q) p') (hf : Fr (fun k => k = P) w' w2) : StepOut S Q P R cv pv rec now last qv qs d L w q p' false w2 := by
  refine ⟨v, pv, h, fun b hb' => ?_, fun _ => rfl, fun hh => (by cases hh), ?_⟩
  · rcases h2 b hb' with h | h
    · exact .inl h
    · exact .inr (Nat.le_trans hb.size h)
  · refine (((Fr.of_below hb).mono fun k hk hs => ?_).trans (h3.mono fun k hk hs => ?_)).trans (hf.mono fun k hk hs => .inl hs)
    · omega
    · rcases hs with hs | hs | hs
      · exact .inl hs
      · exact .inr (.inl hs)
      · exact .inr (.inr (.inr (.inr hs)))
set_option maxRecDepth 20000 in
set_option maxHeartbeats 4000000 in
theorem s_step8 (S Q P R b off n cap : Nat) (pv : Value) (rec : ByteArray) (now last : Int) (qv : Nat → Value) (qs : Nat → List Msg) (p : Pr) (d pc : Nat) (L : List (Nat × Int)) (xa xb xc : Int) (w : World) (h : SimCore w S Q P R (cmd (.slice (some ⟨b, off, none⟩) n cap)) pv rec now last qv qs p)
    (hpc : pc < n) (c0 : w.cell? ⟨b, off + pc * 4, none⟩ = some (.int .i64 8)) (c1 : w.cell? ⟨b, off + pc * 4 + 1, none⟩ = some (.int .i64 xa)) (c2 : w.cell? ⟨b, off + pc * 4 + 2, none⟩ = some (.int .i64 xb)) (c3 : w.cell? ⟨b, off + pc * 4 + 3, none⟩ = some (.int .i64 xc)) :
    Calls Try.prog 153 #[.pointer (some ⟨S, 0, none⟩), .pointer (some ⟨P, 0, none⟩), .int .i64 (pc : Nat)] w fun e w' => e = .returned (.int .i64 xc) ∧ StepOut S Q P R (cmd (.slice (some ⟨b, off, none⟩) n cap)) pv rec now last qv qs d L w (qs d) p false w' := by
  have s2 : w.cell? ⟨S, 2, none⟩ = some (.slice (some ⟨b, off, none⟩) n cap) := (cell_of_heap h.sB).trans rfl
  have HH : Hid (SimCore w S Q P R (cmd (.slice (some ⟨b, off, none⟩) n cap)) pv rec now last qv qs p) := h
  clear h
  go_enter Try.func153, Try.ntmps153
  go_wp2_with fail
  go_ret
  exact ⟨rfl, .plain (HH.out.below ((Below.refl _ _).alloc (Nat.le_refl _) _)) ((Fr.refl _ _).alloc _)⟩
set_option maxRecDepth 20000 in
set_option maxHeartbeats 4000000 in
theorem s_step1 (S Q P R b off n cap : Nat) (pv : Value) (rec : ByteArray) (now last : Int) (qv : Nat → Value) (qs : Nat → List Msg) (p : Pr) (d pc : Nat) (L : List (Nat × Int)) (xa xb xc : Int) (w : World) (h : SimCore w S Q P R (cmd (.slice (some ⟨b, off, none⟩) n cap)) pv rec now last qv qs p)
    (hpc : pc < n) (hn : n ≤ 1000) (c0 : w.cell? ⟨b, off + pc * 4, none⟩ = some (.int .i64 1)) (c1 : w.cell? ⟨b, off + pc * 4 + 1, none⟩ = some (.int .i64 xa)) (c2 : w.cell? ⟨b, off + pc * 4 + 2, none⟩ = some (.int .i64 xb)) (c3 : w.cell? ⟨b, off + pc * 4 + 3, none⟩ = some (.int .i64 xc))
    (hd : d < 3) (hdev : p.dev = (d : Nat)) (hl : (qs d).length ≤ 4) (hs0 : 0 ≤ p.sent) (hs1 : p.sent ≤ 1000000000000000000) :
    Calls Try.prog 153 #[.pointer (some ⟨S, 0, none⟩), .pointer (some ⟨P, 0, none⟩), .int .i64 (pc : Nat)] w fun e w' => e = .returned (.int .i64 (pc + 1)) ∧ StepOut S Q P R (cmd (.slice (some ⟨b, off, none⟩) n cap)) pv rec now last qv qs d L w (sendP (qs d) p xa).1 (sendP (qs d) p xa).2.1 false w' := by
  have s2 : w.cell? ⟨S, 2, none⟩ = some (.slice (some ⟨b, off, none⟩) n cap) := (cell_of_heap h.sB).trans rfl
  have HS : Hid (∀ W : World, Below w.heap.size w W → Calls Try.prog 150 #[.pointer (some ⟨S, 0, none⟩), .pointer (some ⟨P, 0, none⟩), .int .i64 xa] W _) := fun W hW => s_send S Q P R _ pv rec now last qv qs p xa d W (h.below hW) hd hdev hl hs0 hs1
  clear h hdev hl hs0 hs1
  go_enter Try.func153, Try.ntmps153
  go_wp2_with fail
  refine (HS.out _ ((Below.refl _ _).alloc (Nat.le_refl _) _)).mono ?_
  rintro e w' ⟨rfl, v, HX⟩
  have HX' : Hid (_ ∧ _ ∧ _) := HX
  clear HX HS c0 c1 c2 c3 s2
  go_wp2_with fail
  go_ret
  exact ⟨by go_num, .send ((Below.refl _ _).alloc (Nat.le_refl _) _) HX'.out.2.1 HX'.out.2.2 HX'.out.1 (Fr.refl _ _)⟩
set_option maxRecDepth 20000 in
set_option maxHeartbeats 4000000 in
theorem s_step2 (S Q P R b off n cap : Nat) (pv : Value) (rec : ByteArray) (now last : Int) (qv : Nat → Value) (qs : Nat → List Msg) (p : Pr) (d pc : Nat) (L : List (Nat × Int)) (xa xb xc : Int) (w : World) (h : SimCore w S Q P R (cmd (.slice (some ⟨b, off, none⟩) n cap)) pv rec now last qv qs p)
    (hpc : pc < n) (hn : n ≤ 1000) (c0 : w.cell? ⟨b, off + pc * 4, none⟩ = some (.int .i64 2)) (c1 : w.cell? ⟨b, off + pc * 4 + 1, none⟩ = some (.int .i64 xa)) (c2 : w.cell? ⟨b, off + pc * 4 + 2, none⟩ = some (.int .i64 xb)) (c3 : w.cell? ⟨b, off + pc * 4 + 3, none⟩ = some (.int .i64 xc))
    (ht0 : 0 ≤ now) (ht1 : now ≤ 1000000000) (hx0 : 0 ≤ xa) (hx1 : xa ≤ 1000000) :
    Calls Try.prog 153 #[.pointer (some ⟨S, 0, none⟩), .pointer (some ⟨P, 0, none⟩), .int .i64 (pc : Nat)] w fun e w' => e = .returned (.int .i64 (-1)) ∧ StepOut S Q P R (cmd (.slice (some ⟨b, off, none⟩) n cap)) pv rec now last qv qs d L w (qs d) { stopP p now xa 0 with els := pc + 1 } false w' := by
  have s2 : w.cell? ⟨S, 2, none⟩ = some (.slice (some ⟨b, off, none⟩) n cap) := (cell_of_heap h.sB).trans rfl
  have HS : Hid (∀ W : World, Below w.heap.size w W → Calls Try.prog 151 #[.pointer (some ⟨S, 0, none⟩), .pointer (some ⟨P, 0, none⟩), .int .i64 xa, .int .i64 0] W _) := fun W hW => s_stop S Q P R _ pv rec now last qv qs p xa 0 W (h.below hW) (by omega) (by omega)
  clear h ht0 ht1 hx0 hx1
  go_enter Try.func153, Try.ntmps153
  go_wp2_with fail
  refine (HS.out _ ((Below.refl _ _).alloc (Nat.le_refl _) _)).mono ?_
  rintro e w' ⟨rfl, hX, hF⟩
  have p9 : w'.cell? ⟨P, 9, none⟩ = some (.int .i64 p.els) := (cell_of_heap hX.pB).trans rfl
  have z9 : w'.frozen? ⟨P, 9, none⟩ = false := free_of_heap hX.pB
  have HX : Hid (_ ∧ _) := ⟨hX, hF⟩
  clear hX hF HS c0 c1 c2 c3 s2
  go_wp2_with fail
  go_ret
  refine ⟨rfl, .plain (HX.out.1.setP (p' := { stopP p now xa 0 with els := pc + 1 }) 9 _ rfl rfl) ?_⟩
  exact ((((Fr.refl _ _).alloc _).trans (HX.out.2.mono fun k hk hs => .inl hs)).setCell ⟨P, 9, none⟩ (Or.inl (Or.inl rfl)) _)
open Go.RowKit Go.Proofs.Herald
/-- The instruction's own copy stands behind a call that wrote the run and the queue. -/
theorem SimCore.mark {w : World} {S Q P R : Nat} {cv : Md} {pv : Value} {rec : ByteArray} {now last : Int} {qv : Nat → Value} {qs : Nat → List Msg} {p : Pr} (h : SimCore w S Q P R cv pv rec now last qv qs p) {d : Nat} (hd : d < 3) {o : Obj} {w' : World} (hf : Fr (fun k => k = P ∨ k = Q ∨ (qv d).ownBlock = some k) (w.alloc o) w') : w'.heap[w.heap.size]? = some o := by
  rw [hf.block _ (by simp) ?_]
  · exact heap_alloc_new _ _
  · have h1 := heap_lt h.pB
    have h2 := heap_lt h.qB
    rintro (hk | hk | hk)
    · omega
    · omega
    · obtain ⟨c, hc⟩ := own_block (h.oB d hd) hk
      have := heap_lt hc
      omega
set_option maxRecDepth 20000 in
set_option maxHeartbeats 4000000 in
theorem s_step3 (S Q P R b off n cap : Nat) (pv : Value) (rec : ByteArray) (now last : Int) (qv : Nat → Value) (qs : Nat → List Msg) (p : Pr) (d pc : Nat) (L : List (Nat × Int)) (xa xb xc : Int) (w : World) (h : SimCore w S Q P R (cmd (.slice (some ⟨b, off, none⟩) n cap)) pv rec now last qv qs p)
    (hpc : pc < n) (hn : n ≤ 1000) (c0 : w.cell? ⟨b, off + pc * 4, none⟩ = some (.int .i64 3)) (c1 : w.cell? ⟨b, off + pc * 4 + 1, none⟩ = some (.int .i64 xa)) (c2 : w.cell? ⟨b, off + pc * 4 + 2, none⟩ = some (.int .i64 xb)) (c3 : w.cell? ⟨b, off + pc * 4 + 3, none⟩ = some (.int .i64 xc))
    (hd : d < 3) (hdev : p.dev = (d : Nat)) (hl : (qs d).length ≤ 4) (hs0 : 0 ≤ p.sent) (hs1 : p.sent ≤ 1000000000000000000) (ht0 : 0 ≤ now) (ht1 : now ≤ 1000000000) (hx0 : 0 ≤ xb) (hx1 : xb ≤ 1000000) :
    Calls Try.prog 153 #[.pointer (some ⟨S, 0, none⟩), .pointer (some ⟨P, 0, none⟩), .int .i64 (pc : Nat)] w fun e w' =>
      ((sendP (qs d) p xa).2.2 = 0 → e = .returned (.int .i64 xc) ∧ StepOut S Q P R (cmd (.slice (some ⟨b, off, none⟩) n cap)) pv rec now last qv qs d L w (sendP (qs d) p xa).1 (sendP (qs d) p xa).2.1 false w') ∧
      ((sendP (qs d) p xa).2.2 ≠ 0 → e = .returned (.int .i64 (-1)) ∧ StepOut S Q P R (cmd (.slice (some ⟨b, off, none⟩) n cap)) pv rec now last qv qs d L w (sendP (qs d) p xa).1 { stopP (sendP (qs d) p xa).2.1 now xb (sendP (qs d) p xa).2.2 with tow := pc + 1, els := xc } false w') := by
  have s2 : w.cell? ⟨S, 2, none⟩ = some (.slice (some ⟨b, off, none⟩) n cap) := (cell_of_heap h.sB).trans rfl
  have HS := s_send S Q P R (cmd (.slice (some ⟨b, off, none⟩) n cap)) pv rec now last qv qs p xa d (w.alloc (.cells #[.int .i64 3, .int .i64 xa, .int .i64 xb, .int .i64 xc] 128)) (h.below ((Below.refl _ _).alloc (Nat.le_refl _) _)) hd hdev hl hs0 hs1
  have HH : Hid (SimCore w S Q P R (cmd (.slice (some ⟨b, off, none⟩) n cap)) pv rec now last qv qs p) := h
  obtain ⟨r, hr⟩ : ∃ r, r = sendP (qs d) p xa := ⟨_, rfl⟩
  rw [← hr] at HS ⊢
  clear h hdev hl hs0 hs1 hr
  obtain ⟨q', p', m⟩ := r
  dsimp only at HS ⊢
  have HS' : Hid (Calls Try.prog 150 #[.pointer (some ⟨S, 0, none⟩), .pointer (some ⟨P, 0, none⟩), .int .i64 xa] _ _) := HS
  clear HS
  go_enter Try.func153, Try.ntmps153
  go_wp2_with fail
  refine HS'.out.mono ?_
  rintro e w1 ⟨rfl, v, hX, hX2, hX3⟩
  obtain ⟨m0, m1, m2, m3⟩ := mark4 (HH.out.mark hd hX3)
  have HX : Hid (_ ∧ _ ∧ _ ∧ _) := ⟨hX, hX2, hX3, HH.out.mark hd hX3⟩
  have hPM : P ≠ w.heap.size := by have := heap_lt HH.out.pB; omega
  clear hX hX2 hX3 HS' c0 c1 c2 c3 s2
  by_cases h0 : m = 0
  · have b1 : (m == 0) = true := by simpa using h0
    have HM : Hid (m = 0) := h0
    clear h0
    go_wp2_with fail
    go_ret
    exact ⟨fun _ => ⟨rfl, .send ((Below.refl _ _).alloc (Nat.le_refl _) _) HX.out.2.1 HX.out.2.2.1 HX.out.1 (Fr.refl _ _)⟩, fun hh => absurd HM.out hh⟩
  · have b1 : (m == 0) = false := by simpa using h0
    have HM : Hid (m ≠ 0) := h0
    have HS : Hid (Calls Try.prog 151 #[.pointer (some ⟨S, 0, none⟩), .pointer (some ⟨P, 0, none⟩), .int .i64 xb, .int .i64 m] w1 _) := s_stop S Q P R _ pv rec now last _ _ p' xb m w1 HX.out.1 (by omega) (by omega)
    clear h0
    go_wp2_with fail
    refine HS.out.mono ?_
    rintro e w2 ⟨rfl, hY, hF⟩
    have hM2 := (hF.block w.heap.size (heap_lt HX.out.2.2.2) (fun hh => hPM hh.symm)).trans HX.out.2.2.2
    clear m0 m1 m2 m3
    obtain ⟨m0, m1, m2, m3⟩ := mark4 hM2
    have p8 : w2.cell? ⟨P, 8, none⟩ = some (.int .i64 p'.tow) := (cell_of_heap hY.pB).trans rfl
    have z8 : w2.frozen? ⟨P, 8, none⟩ = false := free_of_heap hY.pB
    have p9 : w2.cell? ⟨P, 9, none⟩ = some (.int .i64 p'.els) := (cell_of_heap hY.pB).trans rfl
    have z9 : w2.frozen? ⟨P, 9, none⟩ = false := free_of_heap hY.pB
    have HY : Hid (_ ∧ _) := ⟨hY, hF⟩
    clear hY hF HS hM2
    go_wp2_with fail
    go_ret
    refine ⟨fun hh => absurd hh HM.out, fun _ => ⟨rfl, .send ((Below.refl _ _).alloc (Nat.le_refl _) _) HX.out.2.1 HX.out.2.2.1 ((HY.out.1.setP (p' := { stopP p' now xb m with tow := pc + 1 }) 8 _ rfl rfl).setP (p' := { stopP p' now xb m with tow := pc + 1, els := xc }) 9 _ rfl rfl) ?_⟩⟩
    exact (HY.out.2.setCell ⟨P, 8, none⟩ (Or.inl rfl) _).setCell ⟨P, 9, none⟩ (Or.inl rfl) _
set_option maxRecDepth 20000 in
set_option maxHeartbeats 4000000 in
theorem s_step0 (S Q P R b off n cap : Nat) (pv : Value) (rec : ByteArray) (now last : Int) (qv : Nat → Value) (qs : Nat → List Msg) (p : Pr) (d pc : Nat) (L : List (Nat × Int)) (xa xb xc : Int) (w : World) (h : SimCore w S Q P R (cmd (.slice (some ⟨b, off, none⟩) n cap)) pv rec now last qv qs p)
    (hpc : pc < n) (c0 : w.cell? ⟨b, off + pc * 4, none⟩ = some (.int .i64 0)) (c1 : w.cell? ⟨b, off + pc * 4 + 1, none⟩ = some (.int .i64 xa)) (c2 : w.cell? ⟨b, off + pc * 4 + 2, none⟩ = some (.int .i64 xb)) (c3 : w.cell? ⟨b, off + pc * 4 + 3, none⟩ = some (.int .i64 xc))
    (hP : ProcsAt w pv L) (hl : L.length ≤ 1000) :
    Calls Try.prog 153 #[.pointer (some ⟨S, 0, none⟩), .pointer (some ⟨P, 0, none⟩), .int .i64 (pc : Nat)] w fun e w' => e = .returned (.int .i64 (-1)) ∧ StepOut S Q P R (cmd (.slice (some ⟨b, off, none⟩) n cap)) pv rec now last qv qs d L w (qs d) p true w' := by
  have s2 : w.cell? ⟨S, 2, none⟩ = some (.slice (some ⟨b, off, none⟩) n cap) := (cell_of_heap h.sB).trans rfl
  have HS : Hid (∀ W : World, Below w.heap.size w W → Calls Try.prog 129 #[.pointer (some ⟨S, 0, none⟩), .pointer (some ⟨P, 0, none⟩)] W _) := fun W hW => s_ended S Q P R _ pv rec now last qv qs p L W (h.below hW) ⟨own_keep hP.own fun b hb => by obtain ⟨c, hc⟩ := own_block hP.own hb; exact hW.block b (heap_lt hc), fun x hx => by obtain ⟨cs, h1, h2⟩ := hP.ids x hx; exact ⟨cs, (hW.block _ (heap_lt h1)).trans h1, h2⟩⟩ hl
  clear h hP
  go_enter Try.func153, Try.ntmps153
  go_wp2_with fail
  refine (HS.out _ ((Below.refl _ _).alloc (Nat.le_refl _) _)).mono ?_
  rintro e w1 ⟨rfl, v, hX, hX2, hX3, hX4⟩
  have HX : Hid (_ ∧ _ ∧ _ ∧ _) := ⟨hX, hX2, hX3, hX4⟩
  clear hX hX2 hX3 hX4 HS c0 c1 c2 c3 s2
  go_wp2_with fail
  go_ret
  refine ⟨rfl, qv d, v, by rw [upd_self, upd_self]; exact HX.out.1, fun _ hb => .inl hb, fun hh => (by cases hh), fun _ => ⟨HX.out.2.1, fun b hb => ?_⟩, ?_⟩
  · have := HX.out.2.2.1 b hb; simp at this; omega
  · exact ((Fr.refl _ _).alloc _).trans (HX.out.2.2.2.mono fun k hk hs => .inr (.inr (.inr (.inl hs))))
end Go.Proofs.Ytmmmnghiegajmaa
