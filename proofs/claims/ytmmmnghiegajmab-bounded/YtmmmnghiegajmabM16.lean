import Derived.Test.YtmmmnghiegajmabM07
import Derived.Test.YtmmmnghiegajmabM11
/- Runs of code as the program does them, as plain mathematics; they do what the document's runs of code do. -/
namespace Go.Proofs.Herald
def incM (p : Pr) : Pr := { p with els := p.els + 1 }
def twiceM (p : Pr) (r : Int) : Pr := setP p r (if 1000000 < regP p r * 2 then 1000000 else regP p r * 2)
def askM (p : Pr) (c : Int) : Pr := { p with tow := p.els, els := c }
def holdM (p : Pr) (c : Int) : Pr := { p with tow := c }
def downM (p : Pr) (a : Int) : Pr := if 0 < regP p a then setP p a (regP p a - 1) else p
def loopM (p : Pr) (a c : Int) : Pr := if 0 < regP (downM p a) a then { downM p a with els := c } else downM p a
/-- One instruction, as the program does it: the queue, the run, what came of it (0: it goes on, 1: it stopped, 2: it ended). -/
def stepM (now : Int) (x : Ins) (q : List Msg) (p : Pr) : List Msg × Pr × Int :=
  if x.op = 0 then (q, incM p, 2)
  else if x.op = 1 then ((sendP q (incM p) x.a).1, (sendP q (incM p) x.a).2.1, 0)
  else if x.op = 2 then (q, stopP (incM p) now x.a 0, 1)
  else if x.op = 3 then
    (if (sendP q (askM (incM p) x.c) x.a).2.2 = 0 then ((sendP q (askM (incM p) x.c) x.a).1, (sendP q (askM (incM p) x.c) x.a).2.1, 0)
     else ((sendP q (askM (incM p) x.c) x.a).1, stopP (sendP q (askM (incM p) x.c) x.a).2.1 now x.b (sendP q (askM (incM p) x.c) x.a).2.2, 1))
  else if x.op = 4 then (q, setP (incM p) x.a x.b, 0)
  else if x.op = 5 then (q, twiceM (incM p) x.a, 0)
  else if x.op = 6 then ((sendP q (holdM (incM p) x.c) x.a).1, stopP (sendP q (holdM (incM p) x.c) x.a).2.1 now (if regP p x.b < 1 then 1 else regP p x.b) (sendP q (holdM (incM p) x.c) x.a).2.2, 1)
  else if x.op = 7 then (q, loopM (incM p) x.a x.c, 0)
  else if x.op = 8 then (q, { incM p with els := x.c }, 0)
  else (q, incM p, 0)
/-- Instructions till the run stops or ends: has it ended? -/
def runM (now : Int) (cs : List Ins) : Nat → List Msg → Pr → List Msg × Pr × Bool
  | 0, q, p => (q, p, true)
  | f + 1, q, p =>
    if h : p.els.toNat < cs.length then
      (if (stepM now cs[p.els.toNat] q p).2.2 = 0 then runM now cs f (stepM now cs[p.els.toNat] q p).1 (stepM now cs[p.els.toNat] q p).2.1
       else ((stepM now cs[p.els.toNat] q p).1, (stepM now cs[p.els.toNat] q p).2.1, (stepM now cs[p.els.toNat] q p).2.2 != 1))
    else (q, p, true)
def onM (now : Int) (cs : List Ins) (yes : Bool) (q : List Msg) (p : Pr) : List Msg × Pr × Bool :=
  if yes then runM now cs 10000 q { p with els := p.tow }
  else if p.num = 0 then runM now cs 10000 q p
  else runM now cs 10000 (takeQ q p.id p.num) p
/-- Runs of code, as the program does them. -/
def machE (cs : List Ins) : Eng Pr := ⟨pubP, freshP, fun now q p => runM now cs 10000 q p, fun now yes q p => onM now cs yes q p⟩
theorem sendP_pid (q : List Msg) (p : Pr) (key : Int) : (sendP q p key).2.1.id = p.id := (sendP_kept q p key).2.1
theorem stepM_id (now : Int) (x : Ins) (q : List Msg) (p : Pr) : (stepM now x q p).2.1.id = p.id := by
  unfold stepM
  repeat' split
  all_goals first | rfl | exact sendP_pid _ _ _ | skip
  unfold loopM downM
  repeat' split
  all_goals rfl
theorem runM_id (now : Int) (cs : List Ins) : ∀ (f : Nat) (q : List Msg) (p : Pr), (runM now cs f q p).2.1.id = p.id := by
  intro f
  induction f with
  | zero => intro q p; rfl
  | succ f ih =>
    intro q p
    rw [runM]
    split
    · split
      · exact (ih _ _).trans (stepM_id _ _ _ _)
      · exact stepM_id _ _ _ _
    · rfl
theorem onM_id (now : Int) (cs : List Ins) (yes : Bool) (q : List Msg) (p : Pr) : (onM now cs yes q p).2.1.id = p.id := by
  unfold onM
  split
  · exact runM_id _ _ _ _ _
  · split
    · exact runM_id _ _ _ _ _
    · exact runM_id _ _ _ _ _
theorem stepP_pid (now : Int) (x : Ins) (pc : Int) (q : List Msg) (p : Pr) : (stepP now x pc q p).2.1.id = p.id := by
  unfold stepP
  repeat' split
  all_goals first | rfl | exact sendP_pid _ _ _
theorem runP_pid (now : Int) (cs : List Ins) : ∀ (f : Nat) (pc : Int) (q : List Msg) (p : Pr), (runP now cs f pc q p).2.1.id = p.id := by
  intro f
  induction f with
  | zero => intro pc q p; rfl
  | succ f ih =>
    intro pc q p
    rw [runP]
    split
    · split
      · exact stepP_pid _ _ _ _ _
      · exact (ih _ _ _).trans (stepP_pid _ _ _ _ _)
    · rfl
theorem onP_pid (now : Int) (cs : List Ins) (yes : Bool) (q : List Msg) (p : Pr) : (onP now cs yes q p).2.1.id = p.id := by
  unfold onP
  split
  · exact runP_pid _ _ _ _ _ _
  · split
    · exact runP_pid _ _ _ _ _ _
    · exact runP_pid _ _ _ _ _ _
/-- A run of both kinds that goes on: all but what it waited for. -/
structure InR (pc : Int) (p m : Pr) : Prop where
  id : p.id = m.id
  dev : p.dev = m.dev
  sent : p.sent = m.sent
  til : p.til = m.til
  regs : p.regs = m.regs
  els : m.els = pc
  pc0 : 0 ≤ pc
  sent0 : 0 ≤ p.sent
  len : p.regs.length = 12
/-- A run of both kinds that is stopped. -/
structure StR (p m : Pr) : Prop where
  id : p.id = m.id
  dev : p.dev = m.dev
  sent : p.sent = m.sent
  til : p.til = m.til
  num : p.num = m.num
  regs : p.regs = m.regs
  els : p.els = m.els
  els0 : 0 ≤ p.els
  tow : p.num ≠ 0 → p.tow = m.tow ∧ 0 ≤ p.tow
  num0 : 0 ≤ p.num
  sent0 : 0 ≤ p.sent
  len : p.regs.length = 12
theorem sendP_in {pc : Int} {p m : Pr} (h : InR pc p m) (q : List Msg) (key : Int) :
    (sendP q p key).1 = (sendP q m key).1 ∧ (sendP q p key).2.2 = (sendP q m key).2.2 ∧ InR pc (sendP q p key).2.1 (sendP q m key).2.1 ∧ 0 ≤ (sendP q p key).2.2 := by
  have e : (⟨m.dev, m.id, m.sent + 1, key⟩ : Msg) = ⟨p.dev, p.id, p.sent + 1, key⟩ := by rw [h.id, h.dev, h.sent]
  have h0 := h.sent0
  have e2 : p.sent + 1 = m.sent + 1 := by rw [h.sent]
  unfold sendP
  rw [e]
  cases putQ q ⟨p.dev, p.id, p.sent + 1, key⟩ with
  | some q' =>
    simp only
    exact ⟨trivial, e2, ⟨h.id, h.dev, e2, h.til, h.regs, h.els, h.pc0, by show 0 ≤ p.sent + 1; omega, h.len⟩, by omega⟩
  | none => exact ⟨rfl, rfl, h, Int.le_refl 0⟩
theorem InR.inc {pc : Int} {p m : Pr} (h : InR pc p m) : InR (pc + 1) p (incM m) :=
  ⟨h.id, h.dev, h.sent, h.til, h.regs, by show m.els + 1 = _; rw [h.els], by have := h.pc0; omega, h.sent0, h.len⟩
theorem InR.setP {pc : Int} {p m : Pr} (h : InR pc p m) (r v : Int) : InR pc (setP p r v) (setP m r v) :=
  ⟨h.id, h.dev, h.sent, h.til, by show p.regs.set _ _ = m.regs.set _ _; rw [h.regs], h.els, h.pc0, h.sent0, by show (p.regs.set _ _).length = _; rw [List.length_set]; exact h.len⟩
theorem InR.reg {pc : Int} {p m : Pr} (h : InR pc p m) (r : Int) : regP m r = regP p r := by unfold regP; rw [h.regs]
theorem regP_set {p : Pr} {r v : Int} (h : r.toNat < p.regs.length) : regP (setP p r v) r = v := by
  unfold regP setP
  simp [h]
theorem InR.jump {pc c : Int} {p m : Pr} (h : InR pc p m) (h0 : 0 ≤ c) : InR c p { m with els := c } :=
  ⟨h.id, h.dev, h.sent, h.til, h.regs, rfl, h0, h.sent0, h.len⟩
/-- An instruction of both kinds. -/
structure StepSame (r : List Msg × Pr × Int × Bool) (o : List Msg × Pr × Int) : Prop where
  q : r.1 = o.1
  go : o.2.2 = 0 → 0 ≤ r.2.2.1 ∧ InR r.2.2.1 r.2.1 o.2.1
  stop : o.2.2 ≠ 0 → r.2.2.1 < 0 ∧ r.2.2.2 = (o.2.2 != 1) ∧ (o.2.2 = 1 → StR r.2.1 o.2.1)
set_option maxHeartbeats 1000000 in
theorem step_same {n now : Int} {x : Ins} {pc : Int} {q : List Msg} {p m : Pr} (hx : soundI n x = true) (h : InR pc p m) : StepSame (stepP now x pc q p) (stepM now x q m) := by
  have hi := h.inc
  have hpc := h.pc0
  have hlen := h.len
  have t20 : ¬ (2 : Int) = 0 := by decide
  have t21 : ¬ (2 : Int) = 1 := by decide
  have t10 : ¬ (1 : Int) = 0 := by decide
  have tm : (-1 : Int) < 0 := by decide
  unfold soundI at hx
  unfold stepP stepM
  by_cases g0 : x.op = 0
  · rw [if_neg (by omega), if_neg (by omega), if_neg (by omega), if_neg (by omega), if_neg (by omega), if_neg (by omega), if_neg (by omega), if_neg (by omega), if_pos g0]
    exact ⟨rfl, fun hh => absurd hh t20, fun _ => ⟨tm, rfl, fun hh => absurd hh t21⟩⟩
  rw [if_neg g0] at hx ⊢
  by_cases g1 : x.op = 1
  · rw [if_pos g1, if_pos g1]
    obtain ⟨k1, k2, k3, k4⟩ := sendP_in hi q x.a
    exact ⟨k1, fun _ => ⟨by show 0 ≤ pc + 1; omega, k3⟩, fun hh => absurd rfl hh⟩
  rw [if_neg g1] at hx ⊢
  rw [if_neg g1]
  by_cases g2 : x.op = 2
  · rw [if_pos g2, if_pos g2]
    exact ⟨rfl, fun hh => absurd hh t10, fun _ => ⟨tm, rfl, fun _ => ⟨h.id, h.dev, h.sent, rfl, rfl, h.regs, hi.els.symm, hi.pc0, fun hh => absurd rfl hh, Int.le_refl 0, h.sent0, h.len⟩⟩⟩
  rw [if_neg g2] at hx ⊢
  rw [if_neg g2]
  by_cases g3 : x.op = 3
  · rw [if_pos g3] at hx ⊢
    rw [if_pos g3]
    simp only [Bool.and_eq_true] at hx
    have hc := within_parts hx.2
    have ha : InR x.c p (askM (incM m) x.c) := ⟨h.id, h.dev, h.sent, h.til, h.regs, rfl, hc.1, h.sent0, h.len⟩
    obtain ⟨k1, k2, k3, k4⟩ := sendP_in ha q x.a
    have kto : (sendP q (askM (incM m) x.c) x.a).2.1.tow = pc + 1 ∧ (sendP q (askM (incM m) x.c) x.a).2.1.els = x.c := by
      refine ⟨?_, k3.els⟩
      unfold sendP
      split
      · exact hi.els
      · exact hi.els
    by_cases hz : (sendP q p x.a).2.2 = 0
    · rw [if_pos hz, if_pos (k2 ▸ hz)]
      exact ⟨k1, fun _ => ⟨hc.1, k3⟩, fun hh => absurd rfl hh⟩
    · rw [if_neg hz, if_neg (k2 ▸ hz)]
      exact ⟨k1, fun hh => absurd hh t10, fun _ => ⟨tm, rfl, fun _ => ⟨k3.id, k3.dev, k3.sent, rfl, k2, k3.regs, kto.2.symm, hc.1, fun _ => ⟨kto.1.symm, by show 0 ≤ pc + 1; omega⟩, k4, k3.sent0, k3.len⟩⟩⟩
  rw [if_neg g3] at hx ⊢
  rw [if_neg g3]
  by_cases g4 : x.op = 4
  · rw [if_pos g4, if_pos g4]
    exact ⟨rfl, fun _ => ⟨by show 0 ≤ pc + 1; omega, hi.setP _ _⟩, fun hh => absurd rfl hh⟩
  rw [if_neg g4] at hx ⊢
  rw [if_neg g4]
  by_cases g5 : x.op = 5
  · rw [if_pos g5, if_pos g5]
    have e : twiceM (incM m) x.a = setP (incM m) x.a (if 1000000 < 2 * regP p x.a then 1000000 else 2 * regP p x.a) := by
      unfold twiceM
      rw [hi.reg, Int.mul_comm]
    rw [e]
    exact ⟨rfl, fun _ => ⟨by show 0 ≤ pc + 1; omega, hi.setP _ _⟩, fun hh => absurd rfl hh⟩
  rw [if_neg g5] at hx ⊢
  rw [if_neg g5]
  by_cases g6 : x.op = 6
  · rw [if_pos g6] at hx ⊢
    rw [if_pos g6]
    simp only [Bool.and_eq_true] at hx
    have hc := within_parts hx.2
    have ha : InR (pc + 1) p (holdM (incM m) x.c) := ⟨h.id, h.dev, h.sent, h.til, h.regs, hi.els, hi.pc0, h.sent0, h.len⟩
    obtain ⟨k1, k2, k3, k4⟩ := sendP_in ha q x.a
    have kto : (sendP q (holdM (incM m) x.c) x.a).2.1.tow = x.c := by
      unfold sendP
      split
      · rfl
      · rfl
    have et : (if regP m x.b < 1 then 1 else regP m x.b) = maxI 1 (regP p x.b) := by unfold maxI; rw [h.reg]
    rw [et]
    exact ⟨k1, fun hh => absurd hh t10, fun _ => ⟨tm, rfl, fun _ => ⟨k3.id, k3.dev, k3.sent, rfl, k2, k3.regs, k3.els.symm, hi.pc0, fun _ => ⟨kto.symm, hc.1⟩, k4, k3.sent0, k3.len⟩⟩⟩
  rw [if_neg g6] at hx ⊢
  rw [if_neg g6]
  by_cases g7 : x.op = 7
  · rw [if_pos g7] at hx ⊢
    rw [if_pos g7]
    simp only [Bool.and_eq_true] at hx
    have ha := within_parts hx.1.1
    have hc := within_parts hx.2
    have hal : x.a.toNat < (incM m).regs.length := by rw [← hi.regs, hlen]; omega
    refine ⟨?_, fun _ => ?_, fun hh => absurd rfl hh⟩
    · split <;> rfl
    · unfold loopM downM
      rw [hi.reg]
      by_cases hp : 0 < regP p x.a
      · rw [if_pos hp, if_pos hp, regP_set hal]
        by_cases hp2 : 0 < regP p x.a - 1
        · rw [if_pos hp2, if_pos hp2]
          exact ⟨hc.1, (hi.setP _ _).jump hc.1⟩
        · rw [if_neg hp2, if_neg hp2]
          exact ⟨by show 0 ≤ pc + 1; omega, hi.setP _ _⟩
      · rw [if_neg hp, if_neg hp, hi.reg, if_neg hp]
        exact ⟨by show 0 ≤ pc + 1; omega, hi⟩
  rw [if_neg g7] at hx ⊢
  rw [if_neg g7]
  by_cases g8 : x.op = 8
  · rw [if_pos g8] at hx ⊢
    rw [if_pos g8]
    simp only [Bool.and_eq_true] at hx
    have hc := within_parts hx.2
    exact ⟨rfl, fun _ => ⟨hc.1, hi.jump hc.1⟩, fun hh => absurd rfl hh⟩
  rw [if_neg g8] at hx
  cases hx
theorem stepP_num {now : Int} {x : Ins} {pc : Int} {q : List Msg} {p : Pr} (h : 0 ≤ (stepP now x pc q p).2.2.1) (hn : p.num = 0) : (stepP now x pc q p).2.1.num = 0 := by
  have hs : ∀ key, (sendP q p key).2.1.num = 0 := fun key => by
    unfold sendP
    split
    · exact hn
    · exact hn
  unfold stepP at h ⊢
  repeat' split
  all_goals first | exact hn | exact hs _ | skip
  all_goals simp_all
theorem run_same {now : Int} {cs : List Ins} (hs : ∀ x ∈ cs, soundI cs.length x = true) : ∀ (f : Nat) (pc : Int) (q : List Msg) (p m : Pr), InR pc p m → p.num = 0 →
    (runP now cs f pc q p).1 = (runM now cs f q m).1 ∧ (runP now cs f pc q p).2.2 = (runM now cs f q m).2.2 ∧ ((runP now cs f pc q p).2.2 = false → StR (runP now cs f pc q p).2.1 (runM now cs f q m).2.1) := by
  intro f
  induction f with
  | zero => intro pc q p m h _; exact ⟨rfl, rfl, fun hh => by cases hh⟩
  | succ f ih =>
    intro pc q p m h hn
    rw [runP, runM, h.els]
    by_cases hlt : pc.toNat < cs.length
    · rw [dif_pos hlt, dif_pos hlt]
      have k := step_same (now := now) (q := q) (hs _ (List.getElem_mem hlt)) h
      by_cases hz : (stepM now cs[pc.toNat] q m).2.2 = 0
      · obtain ⟨h0, hin⟩ := k.go hz
        have hq := k.q
        rw [if_pos hz, if_neg (by omega), ← hq]
        exact ih _ _ _ _ hin (stepP_num h0 hn)
      · obtain ⟨h0, hd, hst⟩ := k.stop hz
        rw [if_neg hz, if_pos h0]
        refine ⟨k.q, hd, fun hf => hst ?_⟩
        simp only at hf
        rw [hd] at hf
        simpa using hf
    · rw [dif_neg hlt, dif_neg hlt]
      exact ⟨rfl, rfl, fun hh => by cases hh⟩
theorem mach_same {cs : List Ins} (hs : soundL cs = true) : SameEng (codeE cs) (machE cs) StR := by
  have hall : ∀ x ∈ cs, soundI cs.length x = true := by
    unfold soundL at hs
    simp only [Bool.and_eq_true, List.all_eq_true] at hs
    exact hs.2
  refine ⟨fun a b h => ?_, fun now q id dev => ?_, fun id dev => ⟨rfl, rfl⟩, fun a b h now yes q hy => ?_⟩
  · show pubP a = pubP b
    unfold pubP
    rw [h.id, h.dev, h.sent, h.til, h.num]
  · have hin : InR 0 (freshP id dev) (freshP id dev) := ⟨rfl, rfl, rfl, rfl, rfl, rfl, Int.le_refl 0, Int.le_refl 0, rfl⟩
    obtain ⟨k1, k2, k3⟩ := run_same (now := now) hall 10000 0 q _ _ hin rfl
    exact ⟨k1, k2, runP_pid _ _ _ _ _ _, runM_id _ _ _ _ _, k3⟩
  · have e1 : (codeE cs).on now yes q a = onP now cs yes q a := rfl
    have e2 : (machE cs).on now yes q b = onM now cs yes q b := rfl
    rw [e1, e2]
    have key : ∀ (pc : Int) (m : Pr) (q' : List Msg), InR pc { a with num := 0 } m → (runP now cs 10000 pc q' { a with num := 0 }).1 = (runM now cs 10000 q' m).1 ∧ (runP now cs 10000 pc q' { a with num := 0 }).2.2 = (runM now cs 10000 q' m).2.2 ∧ ((runP now cs 10000 pc q' { a with num := 0 }).2.2 = false → StR (runP now cs 10000 pc q' { a with num := 0 }).2.1 (runM now cs 10000 q' m).2.1) := fun pc m q' hin => run_same hall 10000 pc q' _ _ hin rfl
    have hid1 : ((codeE cs).pub (onP now cs yes q a).2.1).id = ((codeE cs).pub a).id := onP_pid now cs yes q a
    have hid2 : ((machE cs).pub (onM now cs yes q b).2.1).id = ((machE cs).pub b).id := onM_id now cs yes q b
    have fin : ((onP now cs yes q a).1 = (onM now cs yes q b).1 ∧ (onP now cs yes q a).2.2 = (onM now cs yes q b).2.2 ∧ ((onP now cs yes q a).2.2 = false → StR (onP now cs yes q a).2.1 (onM now cs yes q b).2.1)) := by
      unfold onP onM
      have n0 := h.num0
      cases yes with
      | true =>
        have hto := h.tow (hy rfl)
        exact key a.tow _ q ⟨h.id, h.dev, h.sent, h.til, h.regs, hto.1.symm, hto.2, h.sent0, h.len⟩
      | false =>
        simp only [Bool.false_eq_true, if_false]
        by_cases hz : a.num = 0
        · rw [if_neg (by omega), if_pos (h.num ▸ hz)]
          exact key a.els _ q ⟨h.id, h.dev, h.sent, h.til, h.regs, h.els.symm, h.els0, h.sent0, h.len⟩
        · rw [if_pos (by omega), if_neg (h.num ▸ hz), ← h.id, ← h.num]
          exact key a.els _ _ ⟨h.id, h.dev, h.sent, h.til, h.regs, h.els.symm, h.els0, h.sent0, h.len⟩
    exact ⟨fin.1, fin.2.1, hid1, hid2, fin.2.2⟩
end Go.Proofs.Herald
