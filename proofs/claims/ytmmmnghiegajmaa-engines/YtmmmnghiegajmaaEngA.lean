/- A herald of code as plain mathematics: queues, runs, instructions. -/
import Derived.Test.YtmmmnghiegajmaaNewA
namespace Go.Proofs.Herald

structure Msg where
  dev : Int
  run : Int
  num : Int
  key : Int

/-- A run: what Show tells of it, its registers, where it goes on if answered, and if not. -/
structure Pr where
  id : Int
  dev : Int
  sent : Int
  til : Int
  num : Int
  regs : List Int
  tow : Int
  els : Int

/-- The message comes into the place of one of the same run and key. -/
def putAt : List Msg → Msg → Option (List Msg)
  | [], _ => none
  | x :: r, m => if x.run = m.run ∧ x.key = m.key then some (m :: r) else (putAt r m).map (x :: ·)

def putQ (q : List Msg) (m : Msg) : Option (List Msg) :=
  match putAt q m with
  | some q' => some q'
  | none => if 4 ≤ q.length then none else some (q ++ [m])

/-- A run sends a key: the queue, the run, the message's number (0: it failed). -/
def sendP (q : List Msg) (p : Pr) (key : Int) : List Msg × Pr × Int :=
  match putQ q ⟨p.dev, p.id, p.sent + 1, key⟩ with
  | some q' => (q', { p with sent := p.sent + 1 }, p.sent + 1)
  | none => (q, p, 0)

/-- The messages of a run that are left: number 0: none of them; else all but the one. -/
def keepsM (id num : Int) (m : Msg) : Bool := (m.run != id) || ((num != 0) && (m.num != num))
def takeQ (q : List Msg) (id num : Int) : List Msg := q.filter (keepsM id num)
def hasQ (q : List Msg) (id num : Int) : Bool := q.any fun m => m.run == id && m.num == num

def stopP (p : Pr) (now n num : Int) : Pr := { p with til := now + n, num := num }

def regP (p : Pr) (r : Int) : Int := p.regs.getD r.toNat 0
def setP (p : Pr) (r v : Int) : Pr := { p with regs := p.regs.set r.toNat v }

/-- One instruction of a run at pc: the queue, the run, where it goes on (-1: it stops or ends), has it ended. -/
def stepP (now : Int) (x : Ins) (pc : Int) (q : List Msg) (p : Pr) : List Msg × Pr × Int × Bool :=
  if x.op = 1 then ((sendP q p x.a).1, (sendP q p x.a).2.1, pc + 1, false)
  else if x.op = 2 then (q, { stopP p now x.a 0 with els := pc + 1 }, -1, false)
  else if x.op = 3 then
    (if (sendP q p x.a).2.2 = 0 then ((sendP q p x.a).1, (sendP q p x.a).2.1, x.c, false)
     else ((sendP q p x.a).1, { stopP (sendP q p x.a).2.1 now x.b (sendP q p x.a).2.2 with tow := pc + 1, els := x.c }, -1, false))
  else if x.op = 4 then (q, setP p x.a x.b, pc + 1, false)
  else if x.op = 5 then (q, setP p x.a (if 1000000 < 2 * regP p x.a then 1000000 else 2 * regP p x.a), pc + 1, false)
  else if x.op = 6 then ((sendP q p x.a).1, { stopP (sendP q p x.a).2.1 now (maxI 1 (regP p x.b)) (sendP q p x.a).2.2 with tow := x.c, els := pc + 1 }, -1, false)
  else if x.op = 7 then
    (if 0 < regP p x.a then (q, setP p x.a (regP p x.a - 1), if 0 < regP p x.a - 1 then x.c else pc + 1, false) else (q, p, pc + 1, false))
  else if x.op = 8 then (q, p, x.c, false)
  else (q, p, -1, true)

/-- A run of code goes on at pc, for so many instructions at most: has it ended? -/
def runP (now : Int) (cs : List Ins) : Nat → Int → List Msg → Pr → List Msg × Pr × Bool
  | 0, _, q, p => (q, p, true)
  | f + 1, pc, q, p =>
    if h : pc.toNat < cs.length then
      (if (stepP now cs[pc.toNat] pc q p).2.2.1 < 0 then ((stepP now cs[pc.toNat] pc q p).1, (stepP now cs[pc.toNat] pc q p).2.1, (stepP now cs[pc.toNat] pc q p).2.2.2)
       else runP now cs f (stepP now cs[pc.toNat] pc q p).2.2.1 (stepP now cs[pc.toNat] pc q p).1 (stepP now cs[pc.toNat] pc q p).2.1)
    else (q, p, true)

def matchM (m x : Msg) : Prop := x.run = m.run ∧ x.key = m.key

theorem putAt_none : ∀ (q : List Msg) (m : Msg), (∀ x ∈ q, ¬ matchM m x) → putAt q m = none := by
  intro q
  induction q with
  | nil => intro m _; rfl
  | cons x r ih =>
    intro m h
    have hx : ¬ (x.run = m.run ∧ x.key = m.key) := h x (by simp)
    rw [putAt, if_neg hx, ih m (fun y hy => h y (by simp [hy]))]; rfl

theorem putAt_at : ∀ (q : List Msg) (m : Msg) (k : Nat) (hk : k < q.length), (∀ x ∈ q.take k, ¬ matchM m x) → matchM m q[k] → putAt q m = some (q.set k m) := by
  intro q
  induction q with
  | nil => intro m k hk; simp at hk
  | cons x r ih =>
    intro m k hk h hm
    cases k with
    | zero =>
      have hx : x.run = m.run ∧ x.key = m.key := hm
      rw [putAt, if_pos hx]; rfl
    | succ k =>
      have hx : ¬ (x.run = m.run ∧ x.key = m.key) := h x (by simp)
      rw [putAt, if_neg hx, ih m k (by simpa using hk) (fun y hy => h y (by simp [hy])) (by simpa using hm)]
      rfl

theorem sendP_at {q : List Msg} {p : Pr} {key : Int} {k : Nat} (hk : k < q.length) (h : ∀ x ∈ q.take k, ¬ matchM ⟨p.dev, p.id, p.sent + 1, key⟩ x) (hm : matchM ⟨p.dev, p.id, p.sent + 1, key⟩ q[k]) :
    sendP q p key = (q.set k ⟨p.dev, p.id, p.sent + 1, key⟩, { p with sent := p.sent + 1 }, p.sent + 1) := by
  unfold sendP putQ; rw [putAt_at q _ k hk h hm]

theorem sendP_full {q : List Msg} {p : Pr} {key : Int} (h : ∀ x ∈ q, ¬ matchM ⟨p.dev, p.id, p.sent + 1, key⟩ x) (hl : 4 ≤ q.length) : sendP q p key = (q, p, 0) := by
  unfold sendP putQ; rw [putAt_none q _ h]; simp only [if_pos hl]

theorem sendP_new {q : List Msg} {p : Pr} {key : Int} (h : ∀ x ∈ q, ¬ matchM ⟨p.dev, p.id, p.sent + 1, key⟩ x) (hl : ¬ 4 ≤ q.length) :
    sendP q p key = (q ++ [⟨p.dev, p.id, p.sent + 1, key⟩], { p with sent := p.sent + 1 }, p.sent + 1) := by
  unfold sendP putQ; rw [putAt_none q _ h]; simp only [if_neg hl]

theorem sendP_len (q : List Msg) (p : Pr) (key : Int) (h : q.length ≤ 4) : (sendP q p key).1.length ≤ 4 := by
  have hset : ∀ (q : List Msg) (m : Msg) (q' : List Msg), putAt q m = some q' → q'.length = q.length := by
    intro q
    induction q with
    | nil => intro m q' h; cases h
    | cons x r ih =>
      intro m q' h
      rw [putAt] at h
      split at h
      · cases h; rfl
      · cases hr : putAt r m with
        | none => rw [hr] at h; cases h
        | some r' => rw [hr] at h; cases h; simp [ih m r' hr]
  unfold sendP putQ
  cases hp : putAt q ⟨p.dev, p.id, p.sent + 1, key⟩ with
  | some q' => simp only; rw [hset _ _ _ hp]; exact h
  | none =>
    simp only
    by_cases hl : 4 ≤ q.length
    · rw [if_pos hl]; exact h
    · rw [if_neg hl]; simp; omega

theorem sendP_kept (q : List Msg) (p : Pr) (key : Int) : (sendP q p key).2.1.regs = p.regs ∧ (sendP q p key).2.1.id = p.id ∧ (sendP q p key).2.1.dev = p.dev ∧ p.sent ≤ (sendP q p key).2.1.sent ∧ (sendP q p key).2.1.sent ≤ p.sent + 1 := by
  unfold sendP
  split
  · exact ⟨rfl, rfl, rfl, by simp only; omega, Int.le_refl _⟩
  · exact ⟨rfl, rfl, rfl, by simp only; omega, by simp only; omega⟩

/-- The registers of a run keep their bounds. -/
def RegsOk (p : Pr) : Prop := ∀ z ∈ p.regs, 0 ≤ z ∧ z ≤ 1000000

theorem RegsOk.get {p : Pr} (h : RegsOk p) (j : Int) : 0 ≤ regP p j ∧ regP p j ≤ 1000000 := by
  unfold regP
  by_cases hj : j.toNat < p.regs.length
  · have e : p.regs.getD j.toNat 0 = p.regs[j.toNat] := by simp [hj]
    rw [e]; exact h _ (List.getElem_mem hj)
  · have e : p.regs.getD j.toNat 0 = 0 := by simp [hj]
    rw [e]; decide

theorem RegsOk.set {p : Pr} (h : RegsOk p) (j v : Int) (h0 : 0 ≤ v) (h1 : v ≤ 1000000) : RegsOk (setP p j v) := fun z hz => by
  rcases List.mem_or_eq_of_mem_set hz with hz | hz
  · exact h z hz
  · rw [hz]; exact ⟨h0, h1⟩

theorem within_parts {n lo hi : Int} (h : withinB n lo hi = true) : lo ≤ n ∧ n ≤ hi := by
  unfold withinB at h
  simpa using h

/-- What an instruction leaves as it was, and what it keeps within bounds. -/
structure StepOk (n : Int) (q : List Msg) (p : Pr) (r : List Msg × Pr × Int × Bool) : Prop where
  regs : RegsOk r.2.1
  id : r.2.1.id = p.id
  dev : r.2.1.dev = p.dev
  sent0 : p.sent ≤ r.2.1.sent
  sent1 : r.2.1.sent ≤ p.sent + 1
  len : r.1.length ≤ 4
  pc : r.2.2.1 = -1 ∨ (0 ≤ r.2.2.1 ∧ r.2.2.1 ≤ n)
  done : r.2.2.2 = true → r.2.2.1 = -1

theorem stepOk_plain {n : Int} {q : List Msg} {p p' : Pr} {pc : Int} {f : Bool} (hq : q.length ≤ 4) (hr : RegsOk p') (hi : p'.id = p.id) (hd : p'.dev = p.dev) (hs : p'.sent = p.sent) (hpc : pc = -1 ∨ (0 ≤ pc ∧ pc ≤ n)) (hf : f = true → pc = -1) : StepOk n q p (q, p', pc, f) :=
  ⟨hr, hi, hd, by simp only; omega, by simp only; omega, hq, hpc, hf⟩

theorem stepOk_send {n : Int} {q : List Msg} {p p' : Pr} {key pc : Int} (hq : q.length ≤ 4) (hr : RegsOk p) (hp1 : p'.regs = (sendP q p key).2.1.regs) (hp2 : p'.id = (sendP q p key).2.1.id) (hp3 : p'.dev = (sendP q p key).2.1.dev) (hp4 : p'.sent = (sendP q p key).2.1.sent) (hpc : pc = -1 ∨ (0 ≤ pc ∧ pc ≤ n)) :
    StepOk n q p ((sendP q p key).1, p', pc, false) := by
  obtain ⟨h1, h2, h3, h4, h5⟩ := sendP_kept q p key
  refine ⟨fun z hz => hr z ?_, by rw [hp2]; exact h2, by rw [hp3]; exact h3, by rw [hp4]; exact h4, by rw [hp4]; exact h5, sendP_len q p key hq, hpc, fun h => by cases h⟩
  have : p'.regs = p.regs := hp1.trans h1
  rwa [← this]

theorem stepP_ok {n : Int} {now : Int} {x : Ins} {pc : Int} {q : List Msg} {p : Pr} (hx : soundI n x = true) (h0 : 0 ≤ pc) (h1 : pc < n) (hr : RegsOk p) (hq : q.length ≤ 4) : StepOk n q p (stepP now x pc q p) := by
  have hnext : pc + 1 = -1 ∨ (0 ≤ pc + 1 ∧ pc + 1 ≤ n) := .inr ⟨by omega, by omega⟩
  unfold soundI at hx
  unfold stepP
  by_cases g0 : x.op = 0
  · rw [if_neg (by omega), if_neg (by omega), if_neg (by omega), if_neg (by omega), if_neg (by omega), if_neg (by omega), if_neg (by omega), if_neg (by omega)]
    exact stepOk_plain hq hr rfl rfl rfl (.inl rfl) (fun _ => rfl)
  rw [if_neg g0] at hx
  by_cases g1 : x.op = 1
  · rw [if_pos g1]
    exact stepOk_send hq hr rfl rfl rfl rfl hnext
  rw [if_neg g1] at hx ⊢
  by_cases g2 : x.op = 2
  · rw [if_pos g2]
    exact stepOk_plain hq hr rfl rfl rfl (.inl rfl) (fun h => by cases h)
  rw [if_neg g2] at hx ⊢
  by_cases g3 : x.op = 3
  · rw [if_pos g3] at hx ⊢
    simp only [Bool.and_eq_true] at hx
    have hc := within_parts hx.2
    split
    · exact stepOk_send hq hr rfl rfl rfl rfl (.inr hc)
    · exact stepOk_send hq hr rfl rfl rfl rfl (.inl rfl)
  rw [if_neg g3] at hx ⊢
  by_cases g4 : x.op = 4
  · rw [if_pos g4] at hx ⊢
    simp only [Bool.and_eq_true] at hx
    have hb := within_parts hx.1.2
    exact stepOk_plain hq (hr.set _ _ hb.1 (by omega)) rfl rfl rfl hnext (fun h => by cases h)
  rw [if_neg g4] at hx ⊢
  by_cases g5 : x.op = 5
  · rw [if_pos g5]
    have hg := hr.get x.a
    exact stepOk_plain hq (hr.set _ _ (by split <;> omega) (by split <;> omega)) rfl rfl rfl hnext (fun h => by cases h)
  rw [if_neg g5] at hx ⊢
  by_cases g6 : x.op = 6
  · rw [if_pos g6]
    exact stepOk_send hq hr rfl rfl rfl rfl (.inl rfl)
  rw [if_neg g6] at hx ⊢
  by_cases g7 : x.op = 7
  · rw [if_pos g7] at hx ⊢
    simp only [Bool.and_eq_true] at hx
    have hc := within_parts hx.2
    have hg := hr.get x.a
    split
    · refine stepOk_plain hq (hr.set _ _ (by omega) (by omega)) rfl rfl rfl ?_ (fun h => by cases h)
      split
      · exact .inr hc
      · exact hnext
    · exact stepOk_plain hq hr rfl rfl rfl hnext (fun h => by cases h)
  rw [if_neg g7] at hx ⊢
  by_cases g8 : x.op = 8
  · rw [if_pos g8] at hx ⊢
    simp only [Bool.and_eq_true] at hx
    have hc := within_parts hx.2
    exact stepOk_plain hq hr rfl rfl rfl (.inr hc) (fun h => by cases h)
  rw [if_neg g8] at hx
  cases hx

/-- A stopped run goes on, answered or not. -/
def onP (now : Int) (cs : List Ins) (yes : Bool) (q : List Msg) (p : Pr) : List Msg × Pr × Bool :=
  if yes then runP now cs 10000 p.tow q { p with num := 0 }
  else if 0 < p.num then runP now cs 10000 p.els (takeQ q p.id p.num) { p with num := 0 }
  else runP now cs 10000 p.els q { p with num := 0 }

/-- The runs behind what one of them did. -/
def afterP (ps : List Pr) (p' : Pr) (done : Bool) : List Pr := if done then ps.filter (fun y => y.id != p'.id) else ps.map (fun y => if y.id = p'.id then p' else y)

theorem find_at : ∀ (L : List (Nat × Int)) (id : Int) (k : Nat) (hk : k < L.length), (∀ x ∈ L.take k, ¬ x.2 = id) → L[k].2 = id → L.find? (fun x => x.2 == id) = some L[k] := by
  intro L
  induction L with
  | nil => intro id k hk; simp at hk
  | cons y r ih =>
    intro id k hk h hm
    cases k with
    | zero =>
      have hy : y.2 = id := hm
      rw [List.find?_cons_of_pos (by simpa using hy)]; rfl
    | succ k =>
      have hy : ¬ y.2 = id := h y (by simp)
      rw [List.find?_cons_of_neg (by simpa using hy)]
      exact ih id k (by simpa using hk) (fun x hx => h x (by simp [hx])) (by simpa using hm)

/-- Of two runs the one that goes on first. -/
def dueStep (en : Int) (o : Option (Nat × Int)) (x : Nat × Int) : Option (Nat × Int) :=
  if x.2 ≤ en then (match o with | none => some x | some b => if x.2 < b.2 then some x else some b) else o

def dueL (en : Int) (L : List (Nat × Int)) : Option (Nat × Int) := L.foldl (dueStep en) none

theorem dueL_snoc {en : Int} {L : List (Nat × Int)} {k : Nat} (hk : k < L.length) : dueL en (L.take (k + 1)) = dueStep en (dueL en (L.take k)) L[k] := by
  unfold dueL
  rw [List.take_succ_eq_append_getElem hk, List.foldl_append]
  rfl

def PcsOk (n : Int) (p : Pr) : Prop := 0 ≤ p.tow ∧ p.tow ≤ n ∧ 0 ≤ p.els ∧ p.els ≤ n

/-- Where it goes on lies in the code; if it stopped, till a later time. -/
structure StepOk2 (n now : Int) (r : List Msg × Pr × Int × Bool) : Prop where
  pcs : PcsOk n r.2.1
  stop : r.2.2.1 = -1 → r.2.2.2 = false → now < r.2.1.til ∧ r.2.1.til ≤ now + 1000000

theorem sendP_pcs (q : List Msg) (p : Pr) (key n : Int) (h : PcsOk n p) : PcsOk n (sendP q p key).2.1 := by
  unfold sendP
  split
  · exact h
  · exact h

theorem stepP_ok2 {n : Int} {now : Int} {x : Ins} {pc : Int} {q : List Msg} {p : Pr} (hx : soundI n x = true) (h0 : 0 ≤ pc) (h1 : pc < n) (hr : RegsOk p) (hp : PcsOk n p) : StepOk2 n now (stepP now x pc q p) := by
  unfold soundI at hx
  unfold stepP
  by_cases g0 : x.op = 0
  · rw [if_neg (by omega), if_neg (by omega), if_neg (by omega), if_neg (by omega), if_neg (by omega), if_neg (by omega), if_neg (by omega), if_neg (by omega)]
    exact ⟨hp, fun _ h => by cases h⟩
  rw [if_neg g0] at hx
  by_cases g1 : x.op = 1
  · rw [if_pos g1]
    exact ⟨sendP_pcs _ _ _ _ hp, fun h => by simp only at h; omega⟩
  rw [if_neg g1] at hx ⊢
  by_cases g2 : x.op = 2
  · rw [if_pos g2] at hx ⊢
    simp only [Bool.and_eq_true] at hx
    have ha := within_parts hx.1.1
    exact ⟨⟨hp.1, hp.2.1, by simp only; omega, by simp only; omega⟩, fun _ _ => ⟨by simp only [stopP]; omega, by simp only [stopP]; omega⟩⟩
  rw [if_neg g2] at hx ⊢
  by_cases g3 : x.op = 3
  · rw [if_pos g3] at hx ⊢
    simp only [Bool.and_eq_true] at hx
    have hb := within_parts hx.1.2
    have hc := within_parts hx.2
    split
    · exact ⟨sendP_pcs _ _ _ _ hp, fun h => by simp only at h; omega⟩
    · exact ⟨⟨by simp only; omega, by simp only; omega, hc.1, hc.2⟩, fun _ _ => ⟨by simp only [stopP]; omega, by simp only [stopP]; omega⟩⟩
  rw [if_neg g3] at hx ⊢
  by_cases g4 : x.op = 4
  · rw [if_pos g4]
    exact ⟨hp, fun h => by simp only at h; omega⟩
  rw [if_neg g4] at hx ⊢
  by_cases g5 : x.op = 5
  · rw [if_pos g5]
    exact ⟨hp, fun h => by simp only at h; omega⟩
  rw [if_neg g5] at hx ⊢
  by_cases g6 : x.op = 6
  · rw [if_pos g6] at hx ⊢
    simp only [Bool.and_eq_true] at hx
    have hc := within_parts hx.2
    have hg := hr.get x.b
    have hm : 1 ≤ maxI 1 (regP p x.b) ∧ maxI 1 (regP p x.b) ≤ 1000000 := by
      unfold maxI
      split
      · omega
      · omega
    exact ⟨⟨hc.1, hc.2, by simp only; omega, by simp only; omega⟩, fun _ _ => ⟨by simp only [stopP]; omega, by simp only [stopP]; omega⟩⟩
  rw [if_neg g6] at hx ⊢
  by_cases g7 : x.op = 7
  · rw [if_pos g7] at hx ⊢
    simp only [Bool.and_eq_true] at hx
    have hc := within_parts hx.2
    split
    · refine ⟨hp, fun h => ?_⟩
      simp only at h
      split at h
      · omega
      · omega
    · exact ⟨hp, fun h => by simp only at h; omega⟩
  rw [if_neg g7] at hx ⊢
  by_cases g8 : x.op = 8
  · rw [if_pos g8] at hx ⊢
    simp only [Bool.and_eq_true] at hx
    have hc := within_parts hx.2
    exact ⟨hp, fun h => by simp only at h; omega⟩
  rw [if_neg g8] at hx
  cases hx

/-- What a run leaves, when it has stopped or ended. -/
structure RunOk (n now : Int) (f : Nat) (p : Pr) (r : List Msg × Pr × Bool) : Prop where
  regs : RegsOk r.2.1
  pcs : PcsOk n r.2.1
  id : r.2.1.id = p.id
  dev : r.2.1.dev = p.dev
  sent0 : p.sent ≤ r.2.1.sent
  sent1 : r.2.1.sent ≤ p.sent + f
  len : r.1.length ≤ 4
  stop : r.2.2 = false → now < r.2.1.til ∧ r.2.1.til ≤ now + 1000000

theorem runP_ok {now : Int} {cs : List Ins} (hall : ∀ x ∈ cs, soundI cs.length x = true) : ∀ (f : Nat) (pc : Int) (q : List Msg) (p : Pr), 0 ≤ pc → RegsOk p → PcsOk cs.length p → q.length ≤ 4 → RunOk cs.length now f p (runP now cs f pc q p) := by
  intro f
  induction f with
  | zero =>
    intro pc q p _ hr hp hq
    rw [runP]
    exact ⟨hr, hp, rfl, rfl, Int.le_refl _, by simp only; omega, hq, fun h => by cases h⟩
  | succ f ih =>
    intro pc q p h0 hr hp hq
    rw [runP]
    split
    · next hlt =>
      have k1 := stepP_ok (now := now) (hall _ (List.getElem_mem hlt)) h0 (by omega) hr hq
      have k2 := stepP_ok2 (now := now) (q := q) (hall _ (List.getElem_mem hlt)) h0 (by omega) hr hp
      have s0 := k1.sent0
      have s1 := k1.sent1
      split
      · next hneg =>
        refine ⟨k1.regs, k2.pcs, k1.id, k1.dev, s0, by simp only; omega, k1.len, fun hd => ?_⟩
        rcases k1.pc with h | h
        · exact k2.stop h hd
        · omega
      · next hneg =>
        have hpc : 0 ≤ (stepP now cs[pc.toNat] pc q p).2.2.1 := by omega
        have k3 := ih _ (stepP now cs[pc.toNat] pc q p).1 (stepP now cs[pc.toNat] pc q p).2.1 hpc k1.regs k2.pcs k1.len
        have t0 := k3.sent0
        have t1 := k3.sent1
        exact ⟨k3.regs, k3.pcs, k3.id.trans k1.id, k3.dev.trans k1.dev, by omega, by omega, k3.len, k3.stop⟩
    · exact ⟨hr, hp, rfl, rfl, Int.le_refl _, by simp only; omega, hq, fun h => by cases h⟩

theorem onP_ok {now : Int} {cs : List Ins} (hall : ∀ x ∈ cs, soundI cs.length x = true) (yes : Bool) (q : List Msg) (p : Pr) (hr : RegsOk p) (hp : PcsOk cs.length p) (hq : q.length ≤ 4) : RunOk cs.length now 10000 p (onP now cs yes q p) := by
  have key : ∀ (pc : Int) (q' : List Msg), 0 ≤ pc → q'.length ≤ 4 → RunOk cs.length now 10000 p (runP now cs 10000 pc q' { p with num := 0 }) := fun pc q' h0 hq' => by
    have k := runP_ok (now := now) hall 10000 pc q' { p with num := 0 } h0 hr hp hq'
    exact ⟨k.regs, k.pcs, k.id, k.dev, k.sent0, k.sent1, k.len, k.stop⟩
  unfold onP
  split
  · exact key _ _ hp.1 hq
  · split
    · exact key _ _ hp.2.2.1 (Nat.le_trans (List.length_filter_le _ _) hq)
    · exact key _ _ hp.2.2.1 hq

theorem runP_out {now : Int} {cs : List Ins} {f : Nat} {pc : Int} {q : List Msg} {p : Pr} (h : ¬ pc.toNat < cs.length) : runP now cs (f + 1) pc q p = (q, p, true) := by rw [runP, dif_neg h]

theorem runP_stop {now : Int} {cs : List Ins} {f : Nat} {pc : Nat} {q : List Msg} {p : Pr} (h : pc < cs.length) (hr : (stepP now cs[pc] (pc : Nat) q p).2.2.1 < 0) : runP now cs (f + 1) (pc : Nat) q p = ((stepP now cs[pc] (pc : Nat) q p).1, (stepP now cs[pc] (pc : Nat) q p).2.1, (stepP now cs[pc] (pc : Nat) q p).2.2.2) := by
  rw [runP, dif_pos (show (pc : Int).toNat < cs.length from h)]; exact if_pos hr

theorem runP_on {now : Int} {cs : List Ins} {f : Nat} {pc : Nat} {q : List Msg} {p : Pr} (h : pc < cs.length) (hr : ¬ (stepP now cs[pc] (pc : Nat) q p).2.2.1 < 0) : runP now cs (f + 1) (pc : Nat) q p = runP now cs f (stepP now cs[pc] (pc : Nat) q p).2.2.1 (stepP now cs[pc] (pc : Nat) q p).1 (stepP now cs[pc] (pc : Nat) q p).2.1 := by
  rw [runP, dif_pos (show (pc : Int).toNat < cs.length from h)]; exact if_neg hr

theorem takeQ_len (q : List Msg) (id num : Int) : (takeQ q id num).length ≤ q.length := List.length_filter_le _ _

end Go.Proofs.Herald
