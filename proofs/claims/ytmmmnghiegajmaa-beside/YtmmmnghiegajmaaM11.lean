import Derived.Test.YtmmmnghiegajmaaM07
import Derived.Test.YtmmmnghiegajmaaM10
import Derived.Test.YtmmmnghiegajmaaM09
/- Runs of code as the program does them, as plain mathematics; they do what the document's runs of code do. -/
namespace Go.Proofs.Herald
def incM (p : Pr) : Pr := { p with els := p.els + 1 }
def twiceM (p : Pr) (r : Int) : Pr := setP p r (if 1000000 < regP p r * 2 then 1000000 else regP p r * 2)
def askM (p : Pr) (c : Int) : Pr := { p with tow := p.els, els := c }
def holdM (p : Pr) (c : Int) : Pr := { p with tow := c }
def downM (p : Pr) (a : Int) : Pr := if 0 < regP p a then setP p a (regP p a - 1) else p
def loopM (p : Pr) (a c : Int) : Pr := if 0 < regP (downM p a) a then { downM p a with els := c } else downM p a
/-- One instruction, as the program does it: the queue, the run, what came of it (0: it goes on, 1: it stopped, 2: it ended). -/
def stepM (now : Int) (x : Ins) (q : List Msg) (p : Pr) : List Msg × Pr × Int :=
  if x.op = 0 then (q, incM p, 2)
  else if x.op = 1 then ((sendP q (incM p) x.a).1, (sendP q (incM p) x.a).2.1, 0)
  else if x.op = 2 then (q, stopP (incM p) now x.a 0, 1)
  else if x.op = 3 then
    (if (sendP q (askM (incM p) x.c) x.a).2.2 = 0 then ((sendP q (askM (incM p) x.c) x.a).1, (sendP q (askM (incM p) x.c) x.a).2.1, 0)
     else ((sendP q (askM (incM p) x.c) x.a).1, stopP (sendP q (askM (incM p) x.c) x.a).2.1 now x.b (sendP q (askM (incM p) x.c) x.a).2.2, 1))
  else if x.op = 4 then (q, setP (incM p) x.a x.b, 0)
  else if x.op = 5 then (q, twiceM (incM p) x.a, 0)
  else if x.op = 6 then ((sendP q (holdM (incM p) x.c) x.a).1, stopP (sendP q (holdM (incM p) x.c) x.a).2.1 now (if regP p x.b < 1 then 1 else regP p x.b) (sendP q (holdM (incM p) x.c) x.a).2.2, 1)
  else if x.op = 7 then (q, loopM (incM p) x.a x.c, 0)
  else if x.op = 8 then (q, { incM p with els := x.c }, 0)
  else (q, incM p, 0)
/-- Instructions till the run stops or ends: has it ended? -/
def runM (now : Int) (cs : List Ins) : Nat → List Msg → Pr → List Msg × Pr × Bool
  | 0, q, p => (q, p, true)
  | f + 1, q, p =>
    if h : p.els.toNat < cs.length then
      (if (stepM now cs[p.els.toNat] q p).2.2 = 0 then runM now cs f (stepM now cs[p.els.toNat] q p).1 (stepM now cs[p.els.toNat] q p).2.1
       else ((stepM now cs[p.els.toNat] q p).1, (stepM now cs[p.els.toNat] q p).2.1, (stepM now cs[p.els.toNat] q p).2.2 != 1))
    else (q, p, true)
def onM (now : Int) (cs : List Ins) (yes : Bool) (q : List Msg) (p : Pr) : List Msg × Pr × Bool :=
  if yes then runM now cs 10000 q { p with els := p.tow }
  else if p.num = 0 then runM now cs 10000 q p
  else runM now cs 10000 (takeQ q p.id p.num) p
/-- Runs of code, as the program does them. -/
def machE (cs : List Ins) : Eng Pr := ⟨pubP, freshP, fun now q p => runM now cs 10000 q p, fun now yes q p => onM now cs yes q p⟩
theorem sendP_pid (q : List Msg) (p : Pr) (key : Int) : (sendP q p key).2.1.id = p.id := (sendP_kept q p key).2.1
theorem stepM_id (now : Int) (x : Ins) (q : List Msg) (p : Pr) : (stepM now x q p).2.1.id = p.id := by
  unfold stepM
  repeat' split
  all_goals first | rfl | exact sendP_pid _ _ _ | skip
  unfold loopM downM
  repeat' split
  all_goals rfl
theorem runM_id (now : Int) (cs : List Ins) : ∀ (f : Nat) (q : List Msg) (p : Pr), (runM now cs f q p).2.1.id = p.id := by
  intro f
  induction f with
  | zero => intro q p; rfl
  | succ f ih =>
    intro q p
    rw [runM]
    split
    · split
      · exact (ih _ _).trans (stepM_id _ _ _ _)
      · exact stepM_id _ _ _ _
    · rfl
theorem onM_id (now : Int) (cs : List Ins) (yes : Bool) (q : List Msg) (p : Pr) : (onM now cs yes q p).2.1.id = p.id := by
  unfold onM
  split
  · exact runM_id _ _ _ _ _
  · split
    · exact runM_id _ _ _ _ _
    · exact runM_id _ _ _ _ _
theorem stepP_pid (now : Int) (x : Ins) (pc : Int) (q : List Msg) (p : Pr) : (stepP now x pc q p).2.1.id = p.id := by
  unfold stepP
  repeat' split
  all_goals first | rfl | exact sendP_pid _ _ _
theorem runP_pid (now : Int) (cs : List Ins) : ∀ (f : Nat) (pc : Int) (q : List Msg) (p : Pr), (runP now cs f pc q p).2.1.id = p.id := by
  intro f
  induction f with
  | zero => intro pc q p; rfl
  | succ f ih =>
    intro pc q p
    rw [runP]
    split
    · split
      · exact stepP_pid _ _ _ _ _
      · exact (ih _ _ _).trans (stepP_pid _ _ _ _ _)
    · rfl
theorem onP_pid (now : Int) (cs : List Ins) (yes : Bool) (q : List Msg) (p : Pr) : (onP now cs yes q p).2.1.id = p.id := by
  unfold onP
  split
  · exact runP_pid _ _ _ _ _ _
  · split
    · exact runP_pid _ _ _ _ _ _
    · exact runP_pid _ _ _ _ _ _
/-- A run of both kinds that goes on: all but what it waited for. -/
structure InR (pc : Int) (p m : Pr) : Prop where
  id : p.id = m.id
  dev : p.dev = m.dev
  sent : p.sent = m.sent
  til : p.til = m.til
  regs : p.regs = m.regs
  els : m.els = pc
  pc0 : 0 ≤ pc
  sent0 : 0 ≤ p.sent
  len : p.regs.length = 12
/-- A run of both kinds that is stopped. -/
structure StR (p m : Pr) : Prop where
  id : p.id = m.id
  dev : p.dev = m.dev
  sent : p.sent = m.sent
  til : p.til = m.til
  num : p.num = m.num
  regs : p.regs = m.regs
  els : p.els = m.els
  els0 : 0 ≤ p.els
  tow : p.num ≠ 0 → p.tow = m.tow ∧ 0 ≤ p.tow
  num0 : 0 ≤ p.num
  sent0 : 0 ≤ p.sent
  len : p.regs.length = 12
theorem sendP_in {pc : Int} {p m : Pr} (h : InR pc p m) (q : List Msg) (key : Int) :
    (sendP q p key).1 = (sendP q m key).1 ∧ (sendP q p key).2.2 = (sendP q m key).2.2 ∧ InR pc (sendP q p key).2.1 (sendP q m key).2.1 ∧ 0 ≤ (sendP q p key).2.2 := by
  have e : (⟨m.dev, m.id, m.sent + 1, key⟩ : Msg) = ⟨p.dev, p.id, p.sent + 1, key⟩ := by rw [h.id, h.dev, h.sent]
  have h0 := h.sent0
  have e2 : p.sent + 1 = m.sent + 1 := by rw [h.sent]
  unfold sendP
  rw [e]
  cases putQ q ⟨p.dev, p.id, p.sent + 1, key⟩ with
  | some q' =>
    simp only
    exact ⟨trivial, e2, ⟨h.id, h.dev, e2, h.til, h.regs, h.els, h.pc0, by show 0 ≤ p.sent + 1; omega, h.len⟩, by omega⟩
  | none => exact ⟨rfl, rfl, h, Int.le_refl 0⟩
theorem InR.inc {pc : Int} {p m : Pr} (h : InR pc p m) : InR (pc + 1) p (incM m) :=
  ⟨h.id, h.dev, h.sent, h.til, h.regs, by show m.els + 1 = _; rw [h.els], by have := h.pc0; omega, h.sent0, h.len⟩
theorem InR.setP {pc : Int} {p m : Pr} (h : InR pc p m) (r v : Int) : InR pc (setP p r v) (setP m r v) :=
  ⟨h.id, h.dev, h.sent, h.til, by show p.regs.set _ _ = m.regs.set _ _; rw [h.regs], h.els, h.pc0, h.sent0, by show (p.regs.set _ _).length = _; rw [List.length_set]; exact h.len⟩
theorem InR.reg {pc : Int} {p m : Pr} (h : InR pc p m) (r : Int) : regP m r = regP p r := by unfold regP; rw [h.regs]
theorem regP_set {p : Pr} {r v : Int} (h : r.toNat < p.regs.length) : regP (setP p r v) r = v := by
  unfold regP setP
  simp [h]
theorem InR.jump {pc c : Int} {p m : Pr} (h : InR pc p m) (h0 : 0 ≤ c) : InR c p { m with els := c } :=
  ⟨h.id, h.dev, h.sent, h.til, h.regs, rfl, h0, h.sent0, h.len⟩
/-- An instruction of both kinds. -/
structure StepSame (r : List Msg × Pr × Int × Bool) (o : List Msg × Pr × Int) : Prop where
  q : r.1 = o.1
  go : o.2.2 = 0 → 0 ≤ r.2.2.1 ∧ InR r.2.2.1 r.2.1 o.2.1
  stop : o.2.2 ≠ 0 → r.2.2.1 < 0 ∧ r.2.2.2 = (o.2.2 != 1) ∧ (o.2.2 = 1 → StR r.2.1 o.2.1)
set_option maxHeartbeats 1000000 in
theorem step_same {n now : Int} {x : Ins} {pc : Int} {q : List Msg} {p m : Pr} (hx : soundI n x = true) (h : InR pc p m) : StepSame (stepP now x pc q p) (stepM now x q m) := by
  have hi := h.inc
  have hpc := h.pc0
  have hlen := h.len
  have t20 : ¬ (2 : Int) = 0 := by decide
  have t21 : ¬ (2 : Int) = 1 := by decide
  have t10 : ¬ (1 : Int) = 0 := by decide
  have tm : (-1 : Int) < 0 := by decide
  unfold soundI at hx
  unfold stepP stepM
  by_cases g0 : x.op = 0
  · rw [if_neg (by omega), if_neg (by omega), if_neg (by omega), if_neg (by omega), if_neg (by omega), if_neg (by omega), if_neg (by omega), if_neg (by omega), if_pos g0]
    exact ⟨rfl, fun hh => absurd hh t20, fun _ => ⟨tm, rfl, fun hh => absurd hh t21⟩⟩
  rw [if_neg g0] at hx ⊢
  by_cases g1 : x.op = 1
  · rw [if_pos g1, if_pos g1]
    obtain ⟨k1, k2, k3, k4⟩ := sendP_in hi q x.a
    exact ⟨k1, fun _ => ⟨by show 0 ≤ pc + 1; omega, k3⟩, fun hh => absurd rfl hh⟩
  rw [if_neg g1] at hx ⊢
  rw [if_neg g1]
  by_cases g2 : x.op = 2
  · rw [if_pos g2, if_pos g2]
    exact ⟨rfl, fun hh => absurd hh t10, fun _ => ⟨tm, rfl, fun _ => ⟨h.id, h.dev, h.sent, rfl, rfl, h.regs, hi.els.symm, hi.pc0, fun hh => absurd rfl hh, Int.le_refl 0, h.sent0, h.len⟩⟩⟩
  rw [if_neg g2] at hx ⊢
  rw [if_neg g2]
  by_cases g3 : x.op = 3
  · rw [if_pos g3] at hx ⊢
    rw [if_pos g3]
    simp only [Bool.and_eq_true] at hx
    have hc := within_parts hx.2
    have ha : InR x.c p (askM (incM m) x.c) := ⟨h.id, h.dev, h.sent, h.til, h.regs, rfl, hc.1, h.sent0, h.len⟩
    obtain ⟨k1, k2, k3, k4⟩ := sendP_in ha q x.a
    have kto : (sendP q (askM (incM m) x.c) x.a).2.1.tow = pc + 1 ∧ (sendP q (askM (incM m) x.c) x.a).2.1.els = x.c := by
      refine ⟨?_, k3.els⟩
      unfold sendP
      split
      · exact hi.els
      · exact hi.els
    by_cases hz : (sendP q p x.a).2.2 = 0
    · rw [if_pos hz, if_pos (k2 ▸ hz)]
      exact ⟨k1, fun _ => ⟨hc.1, k3⟩, fun hh => absurd rfl hh⟩
    · rw [if_neg hz, if_neg (k2 ▸ hz)]
      exact ⟨k1, fun hh => absurd hh t10, fun _ => ⟨tm, rfl, fun _ => ⟨k3.id, k3.dev, k3.sent, rfl, k2, k3.regs, kto.2.symm, hc.1, fun _ => ⟨kto.1.symm, by show 0 ≤ pc + 1; omega⟩, k4, k3.sent0, k3.len⟩⟩⟩
  rw [if_neg g3] at hx ⊢
  rw [if_neg g3]
  by_cases g4 : x.op = 4
  · rw [if_pos g4, if_pos g4]
    exact ⟨rfl, fun _ => ⟨by show 0 ≤ pc + 1; omega, hi.setP _ _⟩, fun hh => absurd rfl hh⟩
  rw [if_neg g4] at hx ⊢
  rw [if_neg g4]
  by_cases g5 : x.op = 5
  · rw [if_pos g5, if_pos g5]
    have e : twiceM (incM m) x.a = setP (incM m) x.a (if 1000000 < 2 * regP p x.a then 1000000 else 2 * regP p x.a) := by
      unfold twiceM
      rw [hi.reg, Int.mul_comm]
    rw [e]
    exact ⟨rfl, fun _ => ⟨by show 0 ≤ pc + 1; omega, hi.setP _ _⟩, fun hh => absurd rfl hh⟩
  rw [if_neg g5] at hx ⊢
  rw [if_neg g5]
  by_cases g6 : x.op = 6
  · rw [if_pos g6] at hx ⊢
    rw [if_pos g6]
    simp only [Bool.and_eq_true] at hx
    have hc := within_parts hx.2
    have ha : InR (pc + 1) p (holdM (incM m) x.c) := ⟨h.id, h.dev, h.sent, h.til, h.regs, hi.els, hi.pc0, h.sent0, h.len⟩
    obtain ⟨k1, k2, k3, k4⟩ := sendP_in ha q x.a
    have kto : (sendP q (holdM (incM m) x.c) x.a).2.1.tow = x.c := by
      unfold sendP
      split
      · rfl
      · rfl
    have et : (if regP m x.b < 1 then 1 else regP m x.b) = maxI 1 (regP p x.b) := by unfold maxI; rw [h.reg]
    rw [et]
    exact ⟨k1, fun hh => absurd hh t10, fun _ => ⟨tm, rfl, fun _ => ⟨k3.id, k3.dev, k3.sent, rfl, k2, k3.regs, k3.els.symm, hi.pc0, fun _ => ⟨kto.symm, hc.1⟩, k4, k3.sent0, k3.len⟩⟩⟩
  rw [if_neg g6] at hx ⊢
  rw [if_neg g6]
  by_cases g7 : x.op = 7
  · rw [if_pos g7] at hx ⊢
    rw [if_pos g7]
    simp only [Bool.and_eq_true] at hx
    have ha := within_parts hx.1.1
    have hc := within_parts hx.2
    have hal : x.a.toNat < (incM m).regs.length := by rw [← hi.regs, hlen]; omega
    refine ⟨?_, fun _ => ?_, fun hh => absurd rfl hh⟩
    · split <;> rfl
    · unfold loopM downM
      rw [hi.reg]
      by_cases hp : 0 < regP p x.a
      · rw [if_pos hp, if_pos hp, regP_set hal]
        by_cases hp2 : 0 < regP p x.a - 1
        · rw [if_pos hp2, if_pos hp2]
          exact ⟨hc.1, (hi.setP _ _).jump hc.1⟩
        · rw [if_neg hp2, if_neg hp2]
          exact ⟨by show 0 ≤ pc + 1; omega, hi.setP _ _⟩
      · rw [if_neg hp, if_neg hp, hi.reg, if_neg hp]
        exact ⟨by show 0 ≤ pc + 1; omega, hi⟩
  rw [if_neg g7] at hx ⊢
  rw [if_neg g7]
  by_cases g8 : x.op = 8
  · rw [if_pos g8] at hx ⊢
    rw [if_pos g8]
    simp only [Bool.and_eq_true] at hx
    have hc := within_parts hx.2
    exact ⟨rfl, fun _ => ⟨hc.1, hi.jump hc.1⟩, fun hh => absurd rfl hh⟩
  rw [if_neg g8] at hx
  cases hx
theorem stepP_num {now : Int} {x : Ins} {pc : Int} {q : List Msg} {p : Pr} (h : 0 ≤ (stepP now x pc q p).2.2.1) (hn : p.num = 0) : (stepP now x pc q p).2.1.num = 0 := by
  have hs : ∀ key, (sendP q p key).2.1.num = 0 := fun key => by
    unfold sendP
    split
    · exact hn
    · exact hn
  unfold stepP at h ⊢
  repeat' split
  all_goals first | exact hn | exact hs _ | skip
  all_goals simp_all
theorem run_same {now : Int} {cs : List Ins} (hs : ∀ x ∈ cs, soundI cs.length x = true) : ∀ (f : Nat) (pc : Int) (q : List Msg) (p m : Pr), InR pc p m → p.num = 0 →
    (runP now cs f pc q p).1 = (runM now cs f q m).1 ∧ (runP now cs f pc q p).2.2 = (runM now cs f q m).2.2 ∧ ((runP now cs f pc q p).2.2 = false → StR (runP now cs f pc q p).2.1 (runM now cs f q m).2.1) := by
  intro f
  induction f with
  | zero => intro pc q p m h _; exact ⟨rfl, rfl, fun hh => by cases hh⟩
  | succ f ih =>
    intro pc q p m h hn
    rw [runP, runM, h.els]
    by_cases hlt : pc.toNat < cs.length
    · rw [dif_pos hlt, dif_pos hlt]
      have k := step_same (now := now) (q := q) (hs _ (List.getElem_mem hlt)) h
      by_cases hz : (stepM now cs[pc.toNat] q m).2.2 = 0
      · obtain ⟨h0, hin⟩ := k.go hz
        have hq := k.q
        rw [if_pos hz, if_neg (by omega), ← hq]
        exact ih _ _ _ _ hin (stepP_num h0 hn)
      · obtain ⟨h0, hd, hst⟩ := k.stop hz
        rw [if_neg hz, if_pos h0]
        refine ⟨k.q, hd, fun hf => hst ?_⟩
        simp only at hf
        rw [hd] at hf
        simpa using hf
    · rw [dif_neg hlt, dif_neg hlt]
      exact ⟨rfl, rfl, fun hh => by cases hh⟩
theorem mach_same {cs : List Ins} (hs : soundL cs = true) : SameEng (codeE cs) (machE cs) StR := by
  have hall : ∀ x ∈ cs, soundI cs.length x = true := by
    unfold soundL at hs
    simp only [Bool.and_eq_true, List.all_eq_true] at hs
    exact hs.2
  refine ⟨fun a b h => ?_, fun now q id dev => ?_, fun id dev => ⟨rfl, rfl⟩, fun a b h now yes q hy => ?_⟩
  · show pubP a = pubP b
    unfold pubP
    rw [h.id, h.dev, h.sent, h.til, h.num]
  · have hin : InR 0 (freshP id dev) (freshP id dev) := ⟨rfl, rfl, rfl, rfl, rfl, rfl, Int.le_refl 0, Int.le_refl 0, rfl⟩
    obtain ⟨k1, k2, k3⟩ := run_same (now := now) hall 10000 0 q _ _ hin rfl
    exact ⟨k1, k2, runP_pid _ _ _ _ _ _, runM_id _ _ _ _ _, k3⟩
  · have e1 : (codeE cs).on now yes q a = onP now cs yes q a := rfl
    have e2 : (machE cs).on now yes q b = onM now cs yes q b := rfl
    rw [e1, e2]
    have key : ∀ (pc : Int) (m : Pr) (q' : List Msg), InR pc { a with num := 0 } m → (runP now cs 10000 pc q' { a with num := 0 }).1 = (runM now cs 10000 q' m).1 ∧ (runP now cs 10000 pc q' { a with num := 0 }).2.2 = (runM now cs 10000 q' m).2.2 ∧ ((runP now cs 10000 pc q' { a with num := 0 }).2.2 = false → StR (runP now cs 10000 pc q' { a with num := 0 }).2.1 (runM now cs 10000 q' m).2.1) := fun pc m q' hin => run_same hall 10000 pc q' _ _ hin rfl
    have hid1 : ((codeE cs).pub (onP now cs yes q a).2.1).id = ((codeE cs).pub a).id := onP_pid now cs yes q a
    have hid2 : ((machE cs).pub (onM now cs yes q b).2.1).id = ((machE cs).pub b).id := onM_id now cs yes q b
    have fin : ((onP now cs yes q a).1 = (onM now cs yes q b).1 ∧ (onP now cs yes q a).2.2 = (onM now cs yes q b).2.2 ∧ ((onP now cs yes q a).2.2 = false → StR (onP now cs yes q a).2.1 (onM now cs yes q b).2.1)) := by
      unfold onP onM
      have n0 := h.num0
      cases yes with
      | true =>
        have hto := h.tow (hy rfl)
        exact key a.tow _ q ⟨h.id, h.dev, h.sent, h.til, h.regs, hto.1.symm, hto.2, h.sent0, h.len⟩
      | false =>
        simp only [Bool.false_eq_true, if_false]
        by_cases hz : a.num = 0
        · rw [if_neg (by omega), if_pos (h.num ▸ hz)]
          exact key a.els _ q ⟨h.id, h.dev, h.sent, h.til, h.regs, h.els.symm, h.els0, h.sent0, h.len⟩
        · rw [if_pos (by omega), if_neg (h.num ▸ hz), ← h.id, ← h.num]
          exact key a.els _ _ ⟨h.id, h.dev, h.sent, h.til, h.regs, h.els.symm, h.els0, h.sent0, h.len⟩
    exact ⟨fin.1, fin.2.1, hid1, hid2, fin.2.2⟩
end Go.Proofs.Herald
/- The text of the law Asked: it has no fault, its code, and what a herald of that code does. -/
namespace Go.Proofs.Herald
theorem runM_next {now : Int} {cs : List Ins} {f : Nat} {q q' : List Msg} {p p' : Pr} {x : Ins} (hx : cs[p.els.toNat]? = some x) (h : stepM now x q p = (q', p', 0)) : runM now cs (f + 1) q p = runM now cs f q' p' := by
  obtain ⟨h1, h2⟩ := List.getElem?_eq_some_iff.mp hx
  rw [runM, dif_pos h1, h2, h]
  simp
theorem runM_halt {now : Int} {cs : List Ins} {f : Nat} {q q' : List Msg} {p p' : Pr} {x : Ins} (hx : cs[p.els.toNat]? = some x) (h : stepM now x q p = (q', p', 1)) : runM now cs (f + 1) q p = (q', p', false) := by
  obtain ⟨h1, h2⟩ := List.getElem?_eq_some_iff.mp hx
  rw [runM, dif_pos h1, h2, h]
  simp
theorem runM_end {now : Int} {cs : List Ins} {f : Nat} {q : List Msg} {p : Pr} (hx : cs.length ≤ p.els.toNat) : runM now cs (f + 1) q p = (q, p, true) := by
  rw [runM, dif_neg (by omega)]
theorem tickN_none {E : Eng Pr} {en : Int} {f : Nat} {h : Her Pr} (hd : dueR E en h.rs = none) : tickN E en (f + 1) h = h := by rw [tickN, hd]
theorem tickN_some {E : Eng Pr} {en : Int} {f : Nat} {h : Her Pr} {r : Pr} (hd : dueR E en h.rs = some r) : tickN E en (f + 1) h = tickN E en f (goH E { h with now := (E.pub r).til } r false) := by rw [tickN, hd]
/-- The tree of Asked's text. -/
def askY (k n : Nat) : Tree 5 := [(hAsk (k % 8 : Nat) n, [(hSend ((k + 1) % 8 : Nat), [], []), (hWait 2, [], [])], [(hSend ((k + 2) % 8 : Nat), [], []), (hWait 3, [], [])])]
def askU (k n : Nat) : List (List UInt8) := [kAsk, letterB k, digitsB n, kOpen, kSend, letterB (k + 1), kWait, digitsB 2, kShut, kElse, kOpen, kSend, letterB (k + 2), kWait, digitsB 3]
def askC (k n : Nat) : List Ins := [⟨3, (k % 8 : Nat), n, 4⟩, ⟨1, ((k + 1) % 8 : Nat), 0, 0⟩, ⟨2, 2, 0, 0⟩, ⟨8, 0, 0, 6⟩, ⟨1, ((k + 2) % 8 : Nat), 0, 0⟩, ⟨2, 3, 0, 0⟩]
theorem ask_words (k n : Nat) (h1 : 1 ≤ n) (h2 : n ≤ 999) : AG dict 5 (askU k n ++ [kShut]) (askY k n) := by
  have hd := numL_digits (n := n) (by omega)
  have hk := keyL_letter
  have h := AL.ask2 (sub := AG dict 4) (nil := nilT 4) (ur := []) (r := []) (q := letterB k) (s := digitsB n) (ua := [kSend, letterB (k + 1), kWait, digitsB 2]) (ua2 := [kSend, letterB (k + 2), kWait, digitsB 3])
    (a := [(hSend ((k + 1) % 8 : Nat), [], []), (hWait 2, [], [])]) (b := [(hSend ((k + 2) % 8 : Nat), [], []), (hWait 3, [], [])]) (by rw [hk]; omega) (by rw [hd]; omega) (by rw [hd]; omega) ?_ ?_ rfl
  · rw [hk, hd] at h
    exact h
  · have e := AL.send (sub := AG dict 3) (nil := nilT 3) (q := letterB (k + 1)) (by rw [hk]; omega) (AL.wait (q := digitsB 2) (ur := []) (r := []) (by rw [numL_digits (by omega)]; decide) (by rw [numL_digits (by omega)]; decide) rfl)
    rw [hk, numL_digits (by omega)] at e
    exact e
  · have e := AL.send (sub := AG dict 3) (nil := nilT 3) (q := letterB (k + 2)) (by rw [hk]; omega) (AL.wait (q := digitsB 3) (ur := []) (r := []) (by rw [numL_digits (by omega)]; decide) (by rw [numL_digits (by omega)]; decide) rfl)
    rw [hk, numL_digits (by omega)] at e
    exact e
theorem ask_code (k n : Nat) : compT dict 5 (askY k n) 0 0 = askC k n := by
  have key : ∀ a b c d e : Int, compT dict 5 ([(hAsk a b, [(hSend c, [], []), (hWait d, [], [])], [(hSend e, [], []), (hWait 3, [], [])])] : List (Hd × Tree 4 × Tree 4)) 0 0 = [⟨3, a, b, 4⟩, ⟨1, c, 0, 0⟩, ⟨2, d, 0, 0⟩, ⟨8, 0, 0, 6⟩, ⟨1, e, 0, 0⟩, ⟨2, 3, 0, 0⟩] := by
    intro a b c d e
    kernel_rfl
  exact key _ _ _ _ _
theorem ask_lasts (k n : Nat) (h : n ≤ 90) : ¬ 100000 < maxI (lastsT dict 5 (askY k n)).1 (lastsT dict 5 (askY k n)).2 := by
  unfold askY
  simp only [lastsT, List.map_cons, List.map_nil, oneI_ask (h := hAsk (k % 8 : Nat) n) _ _ dAsk rfl, oneI_send (h := hSend ((k + 1) % 8 : Nat)) _ _ dSend, oneI_send (h := hSend ((k + 2) % 8 : Nat)) _ _ dSend, oneI_wait (h := hWait 2) _ _ dWait, oneI_wait (h := hWait 3) _ _ dWait]
  simp only [foldI, behindI, maxI, hAsk, hWait]
  repeat' split
  all_goals omega
theorem ask_heavy (k n : Nat) : heavyT dict 5 (askY k n) 1 = -1 := by
  unfold askY
  have h1 : ¬ bytesOf dict (15, 18) = kRepeat := by rw [dAsk]; decide
  have h2 : ¬ bytesOf dict (0, 4) = kRepeat := by rw [dSend]; decide
  have h3 : ¬ bytesOf dict (5, 9) = kRepeat := by rw [dWait]; decide
  simp [heavyT, heavyL, hAsk, hSend, hWait, h1, h2, h3]
theorem ask_deep (k n : Nat) : Dp dict 5 (askY k n) 0 := by
  have one : ∀ {d : Nat} (x : Hd) (k : Nat), (bytesOf dict x.p = kSend ∨ bytesOf dict x.p = kWait) → (k < 4 ∨ bytesOf dict x.p = kSend ∨ bytesOf dict x.p = kWait ∨ bytesOf dict x.p = kStop) ∧ Dp dict (d + 1) ([] : List _) (k + 1) ∧ Dp dict (d + 1) ([] : List _) (k + 1) := fun x k h =>
    ⟨.inr (h.elim .inl fun h => .inr (.inl h)), fun y hy => (by cases hy), fun y hy => (by cases hy)⟩
  intro x hx
  rw [List.mem_singleton.mp (show x ∈ [_] from hx)]
  refine ⟨.inl (by omega), fun y hy => ?_, fun y hy => ?_⟩
  · rcases List.mem_cons.mp (show y ∈ [_, _] from hy) with rfl | hy
    · exact one _ _ (.inl dSend)
    · rw [List.mem_singleton.mp hy]; exact one _ _ (.inr dWait)
  · rcases List.mem_cons.mp (show y ∈ [_, _] from hy) with rfl | hy
    · exact one _ _ (.inl dSend)
    · rw [List.mem_singleton.mp hy]; exact one _ _ (.inr dWait)
/-- Asked's text has no fault, and its code is that. -/
theorem ask_text {t : ByteArray} {k n : Nat} (h1 : 1 ≤ n) (h2 : n ≤ 90) (ht : t.data.toList = sp (askU k n) ++ kShut) : t.size ≤ 400 ∧ ∃ tr, TextOk t tr ∧ codeOf t tr = askC k n := by
  have hsz : t.size ≤ 400 := by
    have e : t.data.toList.length = t.size := by simp
    have h3 := (digits_all n (by omega)).2.2.2
    have h4 := (digits_all 2 (by omega)).2.2.2
    have h5 := (digits_all 3 (by omega)).2.2.2
    rw [← e, ht]
    simp only [askU, sp_cons, List.length_append, List.length_cons, letterB]
    simp [sp, kAsk, kOpen, kSend, kWait, kShut, kElse]
    omega
  have hw : ∀ u ∈ askU k n, WordB u := by
    obtain ⟨w1, w2, w3, w4, w5, w6, w7, w8, w9⟩ := word_kinds
    intro u hu
    simp only [askU, List.mem_cons, List.not_mem_nil, or_false] at hu
    rcases hu with rfl | rfl | rfl | rfl | rfl | rfl | rfl | rfl | rfl | rfl | rfl | rfl | rfl | rfl | rfl
    all_goals first | assumption | exact word_letter _ | exact word_digits (by omega)
  obtain ⟨tr, h3, h4⟩ := spelt_ok hsz (words_sp_last ht hw word_kinds.2.2.2.2.2.2.2.2) (ask_words k n h1 (by omega)) (ask_deep k n) (ask_heavy k n) (ask_lasts k n h2)
  exact ⟨hsz, tr, h3, (ShT.code 5 tr (askY k n) 0 0 h4).trans (ask_code k n)⟩
/-- The run that asks, and the herald then; at what time, its queue. -/
def askP (n : Nat) : Pr := ⟨1, 0, 1, 0 + (n : Int), 1, List.replicate 12 0, 1, 4⟩
def askH (now : Int) (n : Nat) (q : List Msg) : Her Pr := ⟨now, 1, fun d => if d = 0 then q else [], [askP n]⟩
theorem upd0 (q q' : List Msg) : updQ (fun d => if d = 0 then q else []) 0 q' = fun d => if d = 0 then q' else [] := by
  funext d
  unfold updQ
  by_cases h : d = 0
  · simp [h]
  · simp [h]
theorem upd00 (q' : List Msg) : updQ (fun _ => []) 0 q' = fun d => if d = 0 then q' else [] := by
  funext d
  rfl
theorem ask_trig (k n : Nat) : trigH (machE (askC k n)) newH 0 = (1, 0, askH 0 n [⟨0, 1, 1, (k % 8 : Nat)⟩]) := by
  have hr : (machE (askC k n)).start 0 [] ((machE (askC k n)).fresh 1 0) = ([⟨0, 1, 1, (k % 8 : Nat)⟩], askP n, false) := by
    show runM 0 (askC k n) (9999 + 1) [] (freshP 1 0) = _
    exact runM_halt (x := ⟨3, (k % 8 : Nat), n, 4⟩) rfl rfl
  unfold trigH
  rw [if_neg (by decide), if_neg (by decide)]
  show (_, _, _) = _
  have e : (newH : Her Pr).last + 1 = 1 := rfl
  have e2 : (newH : Her Pr).qs (0 : Int).toNat = [] := rfl
  have e3 : (newH : Her Pr).now = 0 := rfl
  rw [e, e2, e3, hr]
  have e4 : updQ (newH : Her Pr).qs (0 : Int).toNat [⟨0, 1, 1, (k % 8 : Nat)⟩] = fun d => if d = 0 then [⟨0, 1, 1, (k % 8 : Nat)⟩] else [] := upd00 _
  rw [e4]
  rfl
theorem ask_early (k n : Nat) (now : Int) (key : Int) : ackH (machE (askC k n)) (askH now n [⟨0, 1, 1, key⟩]) 1 1 = (12, askH now n [⟨0, 1, 1, key⟩]) := rfl
theorem ask_drain (n : Nat) (now : Int) (m : Msg) : drainH (askH now n [m]) 0 = (m, 0, askH now n []) := by
  have e : (askH now n [m]).qs (0 : Int).toNat = [m] := rfl
  unfold drainH
  rw [if_neg (by decide), e]
  show ((m, (0 : Int), { askH now n [m] with qs := updQ (askH now n [m]).qs 0 [] }) : Msg × Int × Her Pr) = _
  have e2 : updQ (askH now n [m]).qs 0 [] = fun d => if d = 0 then [] else [] := upd0 _ _
  rw [e2]
  rfl
theorem ask_tick (k n d : Nat) (h1 : 1 ≤ d) (h2 : d < n) (h3 : n ≤ 90) : tickH (machE (askC k n)) (askH 0 n []) d = (0, askH d n []) := by
  have hd : dueR (machE (askC k n)) (0 + (d : Int)) [askP n] = none := by
    unfold dueR
    rw [List.foldl_cons, List.foldl_nil, dueF, if_neg]
    show ¬ (0 + (n : Int)) ≤ 0 + (d : Int)
    omega
  unfold tickH
  rw [if_neg (by show ¬ (¬ (1 ≤ (d : Int) ∧ (d : Int) ≤ 999) ∨ 1000000000 < 0 + (d : Int)); omega)]
  show (((0 : Int), { tickN (machE (askC k n)) (0 + (d : Int)) (4999 + 1) (askH 0 n []) with now := 0 + (d : Int) }) : Int × Her Pr) = _
  have e : tickN (machE (askC k n)) (0 + (d : Int)) (4999 + 1) (askH 0 n []) = askH 0 n [] := tickN_none hd
  rw [e, Int.zero_add]
  rfl
theorem ask_other (k n : Nat) (now : Int) : ackH (machE (askC k n)) (askH now n []) 1 2 = (11, askH now n []) := rfl
/-- The herald behind the answer, or behind the time. -/
def askE (now : Int) (w : Int) (key : Int) (tt ee : Int) : Her Pr := ⟨now, 1, fun d => if d = 0 then [⟨0, 1, 2, key⟩] else [], [⟨1, 0, 2, now + w, 0, List.replicate 12 0, tt, ee⟩]⟩
theorem ask_yes (k n : Nat) (now : Int) : ackH (machE (askC k n)) (askH now n []) 1 1 = (0, askE now 2 ((k + 1) % 8 : Nat) 1 3) := by
  have hr : (machE (askC k n)).on now true [] (askP n) = ([⟨0, 1, 2, ((k + 1) % 8 : Nat)⟩], ⟨1, 0, 2, now + 2, 0, List.replicate 12 0, 1, 3⟩, false) := by
    show runM now (askC k n) (9998 + 1 + 1) [] { askP n with els := 1 } = _
    rw [runM_next (x := ⟨1, ((k + 1) % 8 : Nat), 0, 0⟩) (q' := [⟨0, 1, 2, ((k + 1) % 8 : Nat)⟩]) (p' := ⟨1, 0, 2, 0 + (n : Int), 1, List.replicate 12 0, 1, 2⟩) rfl rfl]
    exact runM_halt (x := ⟨2, 2, 0, 0⟩) rfl rfl
  show (((0 : Int), goH (machE (askC k n)) (askH now n []) (askP n) true) : Int × Her Pr) = _
  have e1 : ((machE (askC k n)).pub (askP n)).dev.toNat = 0 := rfl
  have e2 : (askH now n []).qs 0 = [] := rfl
  have e3 : (askH now n []).now = now := rfl
  unfold goH
  rw [e1, e2, e3, hr]
  have e4 : updQ (askH now n []).qs 0 [⟨0, 1, 2, ((k + 1) % 8 : Nat)⟩] = fun d => if d = 0 then [⟨0, 1, 2, ((k + 1) % 8 : Nat)⟩] else [] := upd0 _ _
  rw [e4]
  rfl
theorem ask_no (k n : Nat) (h1 : 1 ≤ n) (h2 : n ≤ 90) : tickH (machE (askC k n)) (askH 0 n []) n = (0, askE n 3 ((k + 2) % 8 : Nat) 1 6) := by
  have hr : ∀ now : Int, (machE (askC k n)).on now false [] (askP n) = ([⟨0, 1, 2, ((k + 2) % 8 : Nat)⟩], ⟨1, 0, 2, now + 3, 0, List.replicate 12 0, 1, 6⟩, false) := fun now => by
    show runM now (askC k n) (9998 + 1 + 1) [] (askP n) = _
    rw [runM_next (x := ⟨1, ((k + 2) % 8 : Nat), 0, 0⟩) (q' := [⟨0, 1, 2, ((k + 2) % 8 : Nat)⟩]) (p' := ⟨1, 0, 2, 0 + (n : Int), 1, List.replicate 12 0, 1, 5⟩) rfl rfl]
    exact runM_halt (x := ⟨2, 3, 0, 0⟩) rfl rfl
  have hd : dueR (machE (askC k n)) (0 + (n : Int)) [askP n] = some (askP n) := by
    unfold dueR
    rw [List.foldl_cons, List.foldl_nil, dueF, if_pos]
    exact Int.le_refl _
  have hg : goH (machE (askC k n)) { askH 0 n [] with now := 0 + (n : Int) } (askP n) false = askE (0 + (n : Int)) 3 ((k + 2) % 8 : Nat) 1 6 := by
    have e1 : ((machE (askC k n)).pub (askP n)).dev.toNat = 0 := rfl
    unfold goH
    rw [e1]
    show { askH 0 n [] with now := 0 + (n : Int), qs := updQ (askH 0 n []).qs 0 ((machE (askC k n)).on (0 + (n : Int)) false [] (askP n)).1, rs := afterR (machE (askC k n)) [askP n] ((machE (askC k n)).on (0 + (n : Int)) false [] (askP n)).2.1 ((machE (askC k n)).on (0 + (n : Int)) false [] (askP n)).2.2 } = _
    rw [hr]
    have e4 : updQ (askH 0 n []).qs 0 [⟨0, 1, 2, ((k + 2) % 8 : Nat)⟩] = fun d => if d = 0 then [⟨0, 1, 2, ((k + 2) % 8 : Nat)⟩] else [] := upd0 _ _
    rw [e4]
    rfl
  have hn : dueR (machE (askC k n)) (0 + (n : Int)) (askE (0 + (n : Int)) 3 ((k + 2) % 8 : Nat) 1 6).rs = none := by
    unfold dueR askE
    rw [List.foldl_cons, List.foldl_nil, dueF, if_neg]
    show ¬ (0 + (n : Int) + 3) ≤ 0 + (n : Int)
    omega
  unfold tickH
  rw [if_neg (by show ¬ (¬ (1 ≤ (n : Int) ∧ (n : Int) ≤ 999) ∨ 1000000000 < 0 + (n : Int)); omega)]
  show (((0 : Int), { tickN (machE (askC k n)) (0 + (n : Int)) (4998 + 1 + 1) (askH 0 n []) with now := 0 + (n : Int) }) : Int × Her Pr) = _
  have e : tickN (machE (askC k n)) (0 + (n : Int)) (4998 + 1 + 1) (askH 0 n []) = askE (0 + (n : Int)) 3 ((k + 2) % 8 : Nat) 1 6 := by
    rw [tickN_some (r := askP n) hd]
    show tickN (machE (askC k n)) (0 + (n : Int)) (4998 + 1) (goH (machE (askC k n)) { askH 0 n [] with now := 0 + (n : Int) } (askP n) false) = _
    rw [hg]
    exact tickN_none hn
  rw [e, Int.zero_add]
  rfl
theorem ask_late (k n : Nat) (now w key tt ee : Int) : ackH (machE (askC k n)) (askE now w key tt ee) 1 1 = (11, askE now w key tt ee) := rfl
end Go.Proofs.Herald
/- The text of the law Beside: it has no fault, its code, and what a herald of that code does. -/
namespace Go.Proofs.Herald
def besY (k n : Nat) : Tree 5 := [(hSend (k % 8 : Nat), [], []), (hWait n, [], []), (hSend (k % 8 : Nat), [], []), (hWait 9, [], [])]
def besU (k n : Nat) : List (List UInt8) := [kSend, letterB k, kWait, digitsB n, kSend, letterB k, kWait]
def besC (k n : Nat) : List Ins := [⟨1, (k % 8 : Nat), 0, 0⟩, ⟨2, n, 0, 0⟩, ⟨1, (k % 8 : Nat), 0, 0⟩, ⟨2, 9, 0, 0⟩]
theorem bes_words (k n : Nat) (h1 : 1 ≤ n) (h2 : n ≤ 999) : AG dict 5 (besU k n ++ [digitsB 9]) (besY k n) := by
  have hd := numL_digits (n := n) (by omega)
  have h9 := numL_digits (n := 9) (by omega)
  have hk := keyL_letter k
  have e := AL.send (sub := AG dict 4) (nil := nilT 4) (q := letterB k) (by rw [hk]; omega) (AL.wait (q := digitsB n) (by rw [hd]; omega) (by rw [hd]; omega) (AL.send (q := letterB k) (by rw [hk]; omega) (AL.wait (q := digitsB 9) (ur := []) (r := []) (by rw [h9]; decide) (by rw [h9]; decide) rfl)))
  rw [hk, hd, h9] at e
  exact e
theorem bes_code (k n : Nat) : compT dict 5 (besY k n) 0 0 = besC k n := by
  have key : ∀ a b : Int, compT dict 5 ([(hSend a, [], []), (hWait b, [], []), (hSend a, [], []), (hWait 9, [], [])] : List (Hd × Tree 4 × Tree 4)) 0 0 = [⟨1, a, 0, 0⟩, ⟨2, b, 0, 0⟩, ⟨1, a, 0, 0⟩, ⟨2, 9, 0, 0⟩] := by
    intro a b
    kernel_rfl
  exact key _ _
/-- Statements that take a time each. -/
theorem fold_on (a c : Int) (ha : 0 ≤ a) (hc : 0 ≤ c) (r : List (Int × Int)) : foldI (a, -1) ((c, -1) :: r) = foldI (a + c, -1) r := by
  have e1 : behindI a c = a + c := by unfold behindI; rw [if_neg (by omega)]
  have e2 : behindI a (-1) = -1 := by unfold behindI; rw [if_pos (by omega)]
  rw [foldI]
  show foldI (behindI a c, maxI (-1) (behindI a (-1))) r = _
  rw [e1, e2]
  rfl
theorem bes_lasts (k n : Nat) (h : n ≤ 90) : ¬ 100000 < maxI (lastsT dict 5 (besY k n)).1 (lastsT dict 5 (besY k n)).2 := by
  have e : lastsT dict 5 (besY k n) = (0 + 0 + (n : Int) + 0 + 9, -1) := by
    unfold besY
    simp only [lastsT, List.map_cons, List.map_nil, oneI_send (h := hSend (k % 8 : Nat)) _ _ dSend, oneI_wait (h := hWait n) _ _ dWait, oneI_wait (h := hWait 9) _ _ dWait]
    show foldI (0, -1) [(0, -1), ((n : Int), -1), (0, -1), (9, -1)] = _
    rw [fold_on _ _ (by omega) (by omega), fold_on _ _ (by omega) (by omega), fold_on _ _ (by omega) (by omega), fold_on _ _ (by omega) (by omega)]
    rfl
  rw [e]
  unfold maxI
  split <;> omega
theorem bes_heavy (k n : Nat) : heavyT dict 5 (besY k n) 1 = -1 := by
  unfold besY
  have h2 : ¬ bytesOf dict (0, 4) = kRepeat := by rw [dSend]; decide
  have h3 : ¬ bytesOf dict (5, 9) = kRepeat := by rw [dWait]; decide
  simp [heavyT, heavyL, hSend, hWait, h2, h3]
theorem bes_deep (k n : Nat) : Dp dict 5 (besY k n) 0 := by
  have one : ∀ (x : Hd), (bytesOf dict x.p = kSend ∨ bytesOf dict x.p = kWait) → (0 < 4 ∨ bytesOf dict x.p = kSend ∨ bytesOf dict x.p = kWait ∨ bytesOf dict x.p = kStop) ∧ Dp dict 4 ([] : List _) (0 + 1) ∧ Dp dict 4 ([] : List _) (0 + 1) := fun x h =>
    ⟨.inl (by omega), fun y hy => (by cases hy), fun y hy => (by cases hy)⟩
  intro x hx
  rcases List.mem_cons.mp (show x ∈ [_, _, _, _] from hx) with rfl | hx
  · exact one _ (.inl dSend)
  rcases List.mem_cons.mp hx with rfl | hx
  · exact one _ (.inr dWait)
  rcases List.mem_cons.mp hx with rfl | hx
  · exact one _ (.inl dSend)
  · rw [List.mem_singleton.mp hx]; exact one _ (.inr dWait)
theorem bes_text {t : ByteArray} {k n : Nat} (h1 : 1 ≤ n) (h2 : n ≤ 90) (ht : t.data.toList = sp (besU k n) ++ digitsB 9) : t.size ≤ 400 ∧ ∃ tr, TextOk t tr ∧ codeOf t tr = besC k n := by
  have hsz : t.size ≤ 400 := by
    have e : t.data.toList.length = t.size := by simp
    have h3 := (digits_all n (by omega)).2.2.2
    have h4 := (digits_all 9 (by omega)).2.2.2
    rw [← e, ht]
    simp only [besU, sp_cons, List.length_append, List.length_cons, letterB]
    simp [sp, kSend, kWait]
    omega
  have hw : ∀ u ∈ besU k n, WordB u := by
    obtain ⟨w1, w2, w3, w4, w5, w6, w7, w8, w9⟩ := word_kinds
    intro u hu
    simp only [besU, List.mem_cons, List.not_mem_nil, or_false] at hu
    rcases hu with rfl | rfl | rfl | rfl | rfl | rfl | rfl
    all_goals first | assumption | exact word_letter _ | exact word_digits (by omega)
  obtain ⟨tr, h3, h4⟩ := spelt_ok hsz (words_sp_last ht hw (word_digits (by omega))) (bes_words k n h1 (by omega)) (bes_deep k n) (bes_heavy k n) (bes_lasts k n h2)
  exact ⟨hsz, tr, h3, (ShT.code 5 tr (besY k n) 0 0 h4).trans (bes_code k n)⟩
/-- Its runs, and the heralds one behind the other. -/
def besP (id sent til els : Int) : Pr := ⟨id, 0, sent, til, 0, List.replicate 12 0, 0, els⟩
def besH (now last : Int) (q : List Msg) (rs : List Pr) : Her Pr := ⟨now, last, fun d => if d = 0 then q else [], rs⟩
theorem bes_new : (newH : Her Pr) = besH 0 0 [] [] := by
  unfold newH besH
  congr 1
  funext d
  split <;> rfl
theorem bes_start (k n : Nat) (q : List Msg) (id : Int) (q' : List Msg) (hq : putQ q ⟨0, id, 1, (k % 8 : Nat)⟩ = some q') : (machE (besC k n)).start 0 q ((machE (besC k n)).fresh id 0) = (q', besP id 1 (0 + (n : Int)) 2, false) := by
  show runM 0 (besC k n) (9998 + 1 + 1) q (freshP id 0) = _
  have hs : stepM 0 ⟨1, (k % 8 : Nat), 0, 0⟩ q (freshP id 0) = (q', ⟨id, 0, 1, 0, 0, List.replicate 12 0, 0, 1⟩, 0) := by
    show ((sendP q (incM (freshP id 0)) (k % 8 : Nat)).1, (sendP q (incM (freshP id 0)) (k % 8 : Nat)).2.1, (0 : Int)) = _
    have e : sendP q (incM (freshP id 0)) (k % 8 : Nat) = (q', ⟨id, 0, 1, 0, 0, List.replicate 12 0, 0, 1⟩, 1) := by
      unfold sendP
      have e2 : putQ q ⟨(incM (freshP id 0)).dev, (incM (freshP id 0)).id, (incM (freshP id 0)).sent + 1, (k % 8 : Nat)⟩ = some q' := hq
      rw [e2]
      rfl
    rw [e]
  rw [runM_next (x := ⟨1, (k % 8 : Nat), 0, 0⟩) rfl hs]
  exact runM_halt (x := ⟨2, n, 0, 0⟩) rfl rfl
theorem bes_trig (k n : Nat) (last : Int) (q q' : List Msg) (rs : List Pr) (hl : rs.length < 5) (hid : ∀ r ∈ rs, r.id ≠ last + 1) (hq : putQ q ⟨0, last + 1, 1, (k % 8 : Nat)⟩ = some q') :
    trigH (machE (besC k n)) (besH 0 last q rs) 0 = (last + 1, 0, besH 0 (last + 1) q' (rs ++ [besP (last + 1) 1 (0 + (n : Int)) 2])) := by
  have hr := bes_start k n q (last + 1) q' hq
  unfold trigH
  rw [if_neg (by decide), if_neg (by show ¬ 5 ≤ rs.length; omega)]
  have e1 : (besH 0 last q rs).last = last := rfl
  have e2 : (besH 0 last q rs).qs (0 : Int).toNat = q := rfl
  have e3 : (besH 0 last q rs).now = 0 := rfl
  rw [e1, e2, e3, hr]
  have e4 : updQ (besH 0 last q rs).qs (0 : Int).toNat q' = fun d => if d = 0 then q' else [] := upd0 _ _
  rw [e4]
  have e5 : afterR (machE (besC k n)) ((besH 0 last q rs).rs ++ [(machE (besC k n)).fresh (last + 1) 0]) (besP (last + 1) 1 (0 + (n : Int)) 2) false = rs ++ [besP (last + 1) 1 (0 + (n : Int)) 2] := by
    unfold afterR
    rw [if_neg (by decide), List.map_append]
    congr 1
    · refine (List.map_congr_left fun y hy => ?_).trans (List.map_id _)
      exact if_neg (hid y hy)
    · simp [machE, freshP, pubP, besP]
  show ((_, _, _) : Int × Int × Her Pr) = _
  rw [e5]
  rfl
theorem bes_go (k n : Nat) (now : Int) (q q' : List Msg) (id : Int) (til : Int) (hq : putQ q ⟨0, id, 2, (k % 8 : Nat)⟩ = some q') : (machE (besC k n)).on now false q (besP id 1 til 2) = (q', besP id 2 (now + 9) 4, false) := by
  show runM now (besC k n) (9998 + 1 + 1) q (besP id 1 til 2) = _
  have hs : stepM now ⟨1, (k % 8 : Nat), 0, 0⟩ q (besP id 1 til 2) = (q', besP id 2 til 3, 0) := by
    show ((sendP q (incM (besP id 1 til 2)) (k % 8 : Nat)).1, (sendP q (incM (besP id 1 til 2)) (k % 8 : Nat)).2.1, (0 : Int)) = _
    have e : sendP q (incM (besP id 1 til 2)) (k % 8 : Nat) = (q', besP id 2 til 3, 2) := by
      unfold sendP
      have e2 : putQ q ⟨(incM (besP id 1 til 2)).dev, (incM (besP id 1 til 2)).id, (incM (besP id 1 til 2)).sent + 1, (k % 8 : Nat)⟩ = some q' := hq
      rw [e2]
      rfl
    rw [e]
  rw [runM_next (x := ⟨1, (k % 8 : Nat), 0, 0⟩) rfl hs]
  exact runM_halt (x := ⟨2, 9, 0, 0⟩) rfl rfl
theorem dueF_no {E : Eng Pr} {en : Int} {o : Option Pr} {x : Pr} (h : ¬ (E.pub x).til ≤ en) : dueF E en o x = o := if_neg h
theorem dueF_first {E : Eng Pr} {en : Int} {x : Pr} (h : (E.pub x).til ≤ en) : dueF E en none x = some x := if_pos h
theorem dueF_old {E : Eng Pr} {en : Int} {x b : Pr} (h : (E.pub x).til ≤ en) (h2 : ¬ (E.pub x).til < (E.pub b).til) : dueF E en (some b) x = some b := (if_pos h).trans (if_neg h2)
theorem bes_tick (k n : Nat) (h1 : 1 ≤ n) (h2 : n ≤ 90) : tickH (machE (besC k n)) (besH 0 2 [⟨0, 1, 1, (k % 8 : Nat)⟩, ⟨0, 2, 1, (k % 8 : Nat)⟩] [besP 1 1 (0 + (n : Int)) 2, besP 2 1 (0 + (n : Int)) 2]) n =
    (0, besH n 2 [⟨0, 1, 2, (k % 8 : Nat)⟩, ⟨0, 2, 2, (k % 8 : Nat)⟩] [besP 1 2 ((n : Int) + 9) 4, besP 2 2 ((n : Int) + 9) 4]) := by
  have d1 : dueR (machE (besC k n)) (0 + (n : Int)) [besP 1 1 (0 + (n : Int)) 2, besP 2 1 (0 + (n : Int)) 2] = some (besP 1 1 (0 + (n : Int)) 2) := by
    unfold dueR
    rw [List.foldl_cons, List.foldl_cons, List.foldl_nil, dueF_first (E := machE (besC k n)) (en := 0 + (n : Int)) (x := besP 1 1 (0 + (n : Int)) 2) (Int.le_refl _)]
    exact dueF_old (Int.le_refl _) (Int.lt_irrefl _)
  have d2 : dueR (machE (besC k n)) (0 + (n : Int)) [besP 1 2 (0 + (n : Int) + 9) 4, besP 2 1 (0 + (n : Int)) 2] = some (besP 2 1 (0 + (n : Int)) 2) := by
    unfold dueR
    rw [List.foldl_cons, List.foldl_cons, List.foldl_nil, dueF_no (E := machE (besC k n)) (en := 0 + (n : Int)) (x := besP 1 2 (0 + (n : Int) + 9) 4) (by show ¬ (0 + (n : Int) + 9 ≤ 0 + (n : Int)); omega)]
    exact dueF_first (Int.le_refl _)
  have d3 : dueR (machE (besC k n)) (0 + (n : Int)) [besP 1 2 (0 + (n : Int) + 9) 4, besP 2 2 (0 + (n : Int) + 9) 4] = none := by
    unfold dueR
    rw [List.foldl_cons, List.foldl_cons, List.foldl_nil, dueF_no (by show ¬ (0 + (n : Int) + 9 ≤ 0 + (n : Int)); omega), dueF_no (by show ¬ (0 + (n : Int) + 9 ≤ 0 + (n : Int)); omega)]
  have g1 : goH (machE (besC k n)) (besH (0 + (n : Int)) 2 [⟨0, 1, 1, (k % 8 : Nat)⟩, ⟨0, 2, 1, (k % 8 : Nat)⟩] [besP 1 1 (0 + (n : Int)) 2, besP 2 1 (0 + (n : Int)) 2]) (besP 1 1 (0 + (n : Int)) 2) false =
      besH (0 + (n : Int)) 2 [⟨0, 1, 2, (k % 8 : Nat)⟩, ⟨0, 2, 1, (k % 8 : Nat)⟩] [besP 1 2 (0 + (n : Int) + 9) 4, besP 2 1 (0 + (n : Int)) 2] := by
    have e1 : ((machE (besC k n)).pub (besP 1 1 (0 + (n : Int)) 2)).dev.toNat = 0 := rfl
    have e2 : ∀ now l q rs, (besH now l q rs).qs 0 = q := fun _ _ _ _ => rfl
    have e3 : ∀ now l q rs, (besH now l q rs).now = now := fun _ _ _ _ => rfl
    unfold goH
    rw [e1, e2, e3, bes_go k n _ _ [⟨0, 1, 2, (k % 8 : Nat)⟩, ⟨0, 2, 1, (k % 8 : Nat)⟩] 1 _ (by simp [putQ, putAt])]
    have e4 : updQ (besH (0 + (n : Int)) 2 [⟨0, 1, 1, (k % 8 : Nat)⟩, ⟨0, 2, 1, (k % 8 : Nat)⟩] [besP 1 1 (0 + (n : Int)) 2, besP 2 1 (0 + (n : Int)) 2]).qs 0 [⟨0, 1, 2, (k % 8 : Nat)⟩, ⟨0, 2, 1, (k % 8 : Nat)⟩] = fun d => if d = 0 then [⟨0, 1, 2, (k % 8 : Nat)⟩, ⟨0, 2, 1, (k % 8 : Nat)⟩] else [] := upd0 _ _
    rw [e4]
    rfl
  have g2 : goH (machE (besC k n)) (besH (0 + (n : Int)) 2 [⟨0, 1, 2, (k % 8 : Nat)⟩, ⟨0, 2, 1, (k % 8 : Nat)⟩] [besP 1 2 (0 + (n : Int) + 9) 4, besP 2 1 (0 + (n : Int)) 2]) (besP 2 1 (0 + (n : Int)) 2) false =
      besH (0 + (n : Int)) 2 [⟨0, 1, 2, (k % 8 : Nat)⟩, ⟨0, 2, 2, (k % 8 : Nat)⟩] [besP 1 2 (0 + (n : Int) + 9) 4, besP 2 2 (0 + (n : Int) + 9) 4] := by
    have e1 : ((machE (besC k n)).pub (besP 2 1 (0 + (n : Int)) 2)).dev.toNat = 0 := rfl
    have e2 : ∀ now l q rs, (besH now l q rs).qs 0 = q := fun _ _ _ _ => rfl
    have e3 : ∀ now l q rs, (besH now l q rs).now = now := fun _ _ _ _ => rfl
    unfold goH
    rw [e1, e2, e3, bes_go k n _ _ [⟨0, 1, 2, (k % 8 : Nat)⟩, ⟨0, 2, 2, (k % 8 : Nat)⟩] 2 _ (by simp [putQ, putAt])]
    have e4 : updQ (besH (0 + (n : Int)) 2 [⟨0, 1, 2, (k % 8 : Nat)⟩, ⟨0, 2, 1, (k % 8 : Nat)⟩] [besP 1 2 (0 + (n : Int) + 9) 4, besP 2 1 (0 + (n : Int)) 2]).qs 0 [⟨0, 1, 2, (k % 8 : Nat)⟩, ⟨0, 2, 2, (k % 8 : Nat)⟩] = fun d => if d = 0 then [⟨0, 1, 2, (k % 8 : Nat)⟩, ⟨0, 2, 2, (k % 8 : Nat)⟩] else [] := upd0 _ _
    rw [e4]
    rfl
  unfold tickH
  rw [if_neg (by show ¬ (¬ (1 ≤ (n : Int) ∧ (n : Int) ≤ 999) ∨ 1000000000 < 0 + (n : Int)); omega)]
  have e : tickN (machE (besC k n)) (0 + (n : Int)) (4997 + 1 + 1 + 1) (besH 0 2 [⟨0, 1, 1, (k % 8 : Nat)⟩, ⟨0, 2, 1, (k % 8 : Nat)⟩] [besP 1 1 (0 + (n : Int)) 2, besP 2 1 (0 + (n : Int)) 2]) = besH (0 + (n : Int)) 2 [⟨0, 1, 2, (k % 8 : Nat)⟩, ⟨0, 2, 2, (k % 8 : Nat)⟩] [besP 1 2 (0 + (n : Int) + 9) 4, besP 2 2 (0 + (n : Int) + 9) 4] := by
    rw [tickN_some d1]
    refine (congrArg (tickN (machE (besC k n)) (0 + (n : Int)) (4997 + 1 + 1)) g1).trans ?_
    rw [tickN_some d2]
    refine (congrArg (tickN (machE (besC k n)) (0 + (n : Int)) (4997 + 1)) g2).trans ?_
    exact tickN_none d3
  show (((0 : Int), { tickN (machE (besC k n)) (0 + (n : Int)) (4997 + 1 + 1 + 1) (besH 0 2 [⟨0, 1, 1, (k % 8 : Nat)⟩, ⟨0, 2, 1, (k % 8 : Nat)⟩] [besP 1 1 (0 + (n : Int)) 2, besP 2 1 (0 + (n : Int)) 2]) with now := 0 + (n : Int) }) : Int × Her Pr) = _
  rw [e, Int.zero_add]
  rfl
theorem bes_cancel (k n : Nat) (now til : Int) (key : Int) : cancelH (machE (besC k n)) (besH now 2 [⟨0, 1, 2, key⟩, ⟨0, 2, 2, key⟩] [besP 1 2 til 4, besP 2 2 til 4]) 1 = (0, besH now 2 [⟨0, 2, 2, key⟩] [besP 2 2 til 4]) ∧
    cancelH (machE (besC k n)) (besH now 2 [⟨0, 1, 2, key⟩, ⟨0, 2, 2, key⟩] [besP 1 2 til 4, besP 2 2 til 4]) 2 = (0, besH now 2 [⟨0, 1, 2, key⟩] [besP 1 2 til 4]) := by
  constructor
  · show (((0 : Int), { besH now 2 [⟨0, 1, 2, key⟩, ⟨0, 2, 2, key⟩] [besP 1 2 til 4, besP 2 2 til 4] with qs := updQ (besH now 2 [⟨0, 1, 2, key⟩, ⟨0, 2, 2, key⟩] [besP 1 2 til 4, besP 2 2 til 4]).qs 0 [⟨0, 2, 2, key⟩], rs := [besP 2 2 til 4] }) : Int × Her Pr) = _
    have e : updQ (besH now 2 [⟨0, 1, 2, key⟩, ⟨0, 2, 2, key⟩] [besP 1 2 til 4, besP 2 2 til 4]).qs 0 [⟨0, 2, 2, key⟩] = fun d => if d = 0 then [⟨0, 2, 2, key⟩] else [] := upd0 _ _
    rw [e]
    rfl
  · show (((0 : Int), { besH now 2 [⟨0, 1, 2, key⟩, ⟨0, 2, 2, key⟩] [besP 1 2 til 4, besP 2 2 til 4] with qs := updQ (besH now 2 [⟨0, 1, 2, key⟩, ⟨0, 2, 2, key⟩] [besP 1 2 til 4, besP 2 2 til 4]).qs 0 [⟨0, 1, 2, key⟩], rs := [besP 1 2 til 4] }) : Int × Her Pr) = _
    have e : updQ (besH now 2 [⟨0, 1, 2, key⟩, ⟨0, 2, 2, key⟩] [besP 1 2 til 4, besP 2 2 til 4]).qs 0 [⟨0, 1, 2, key⟩] = fun d => if d = 0 then [⟨0, 1, 2, key⟩] else [] := upd0 _ _
    rw [e]
    rfl
end Go.Proofs.Herald
