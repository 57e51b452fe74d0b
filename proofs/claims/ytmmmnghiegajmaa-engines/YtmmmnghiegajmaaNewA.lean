/- Code, and what makes it sound: the program's check and the document's own. Is code sound: the program's answer. -/
import Derived.Test.YtmmmnghiegajmaaRefA
namespace Go.Proofs.Herald

/-- An instruction. -/
structure Ins where
  op : Int
  a : Int
  b : Int
  c : Int

def withinB (n lo hi : Int) : Bool := decide (lo ≤ n) && decide (n ≤ hi)

/-- Is an instruction sound, in code of so many? -/
def soundI (n : Int) (x : Ins) : Bool :=
  if x.op = 0 then (x.a == 0) && (x.b == 0) && (x.c == 0)
  else if x.op = 1 then withinB x.a 0 7 && (x.b == 0) && (x.c == 0)
  else if x.op = 2 then withinB x.a 1 999 && (x.b == 0) && (x.c == 0)
  else if x.op = 3 then withinB x.a 0 7 && withinB x.b 1 999 && withinB x.c 0 n
  else if x.op = 4 then withinB x.a 0 11 && withinB x.b 0 999 && (x.c == 0)
  else if x.op = 5 then withinB x.a 0 11 && (x.b == 0) && (x.c == 0)
  else if x.op = 6 then withinB x.a 0 7 && withinB x.b 0 11 && withinB x.c 0 n
  else if x.op = 7 then withinB x.a 0 11 && (x.b == 0) && withinB x.c 0 n
  else if x.op = 8 then (x.a == 0) && (x.b == 0) && withinB x.c 0 n
  else false

def soundL (cs : List Ins) : Bool := decide (cs.length ≤ 1000) && cs.all (soundI cs.length)

end Go.Proofs.Herald
namespace Go.Proofs.Ytmmmnghiegajmaa
open Go.RowKit Go.Proofs.Herald

theorem withinB_yes {n lo hi : Int} (h1 : lo ≤ n) (h2 : n ≤ hi) : withinB n lo hi = true := by unfold withinB; rw [decide_eq_true h1, decide_eq_true h2]; rfl
theorem withinB_lo {n lo hi : Int} (h1 : ¬ lo ≤ n) : withinB n lo hi = false := by unfold withinB; rw [decide_eq_false h1]; rfl
theorem withinB_hi {n lo hi : Int} (h1 : ¬ n ≤ hi) : withinB n lo hi = false := by unfold withinB; rw [decide_eq_false h1]; exact Bool.and_false _

theorem ret_bool {a b : Bool} (h : a = b) : Ending.returned (.bool a) = .returned (.bool b) := by rw [h]

set_option maxHeartbeats 400000 in
theorem within_any (v lo hi : Int) (w : World) : Calls Try.prog 86 #[.int .i64 v, .int .i64 lo, .int .i64 hi] w fun e w' => e = .returned (.bool (withinB v lo hi)) ∧ w' = w := by
  by_cases h1 : lo ≤ v
  · by_cases h2 : v ≤ hi
    · have e := withinB_yes h1 h2
      have HE : Hid (withinB v lo hi = true) := e
      clear e
      go_enter Try.func86, Try.ntmps86
      go_wp2
      go_ret
      exact ⟨ret_bool HE.out.symm, rfl⟩
    · have HE : Hid (withinB v lo hi = false) := withinB_hi h2
      go_enter Try.func86, Try.ntmps86
      go_wp2
      go_ret
      exact ⟨ret_bool HE.out.symm, rfl⟩
  · have HE : Hid (withinB v lo hi = false) := withinB_lo h1
    go_enter Try.func86, Try.ntmps86
    go_wp2
    go_ret
    exact ⟨ret_bool HE.out.symm, rfl⟩

set_option maxHeartbeats 400000 in
theorem isKey_any (v : Int) (w : World) : Calls Try.prog 161 #[.int .i64 v] w fun e w' => e = .returned (.bool (withinB v 0 7)) ∧ w' = w := by
  by_cases h1 : 0 ≤ v
  · by_cases h2 : v < 8
    · have e := withinB_yes h1 (show v ≤ 7 by omega)
      have HE : Hid (withinB v 0 7 = true) := e
      clear e
      go_enter Try.func161, Try.ntmps161
      go_wp2
      go_ret
      exact ⟨ret_bool HE.out.symm, rfl⟩
    · have HE : Hid (withinB v 0 7 = false) := withinB_hi (show ¬ v ≤ 7 by omega)
      go_enter Try.func161, Try.ntmps161
      go_wp2
      go_ret
      exact ⟨ret_bool HE.out.symm, rfl⟩
  · have HE : Hid (withinB v 0 7 = false) := withinB_lo h1
    go_enter Try.func161, Try.ntmps161
    go_wp2
    go_ret
    exact ⟨ret_bool HE.out.symm, rfl⟩

set_option maxHeartbeats 400000 in
theorem isPause_any (v : Int) (w : World) : Calls Try.prog 162 #[.int .i64 v] w fun e w' => e = .returned (.bool (withinB v 1 999)) ∧ w' = w := by
  by_cases h1 : 1 ≤ v
  · by_cases h2 : v ≤ 999
    · have e := withinB_yes h1 h2
      have HE : Hid (withinB v 1 999 = true) := e
      clear e
      go_enter Try.func162, Try.ntmps162
      go_wp2
      go_ret
      exact ⟨ret_bool HE.out.symm, rfl⟩
    · have HE : Hid (withinB v 1 999 = false) := withinB_hi h2
      go_enter Try.func162, Try.ntmps162
      go_wp2
      go_ret
      exact ⟨ret_bool HE.out.symm, rfl⟩
  · have HE : Hid (withinB v 1 999 = false) := withinB_lo h1
    go_enter Try.func162, Try.ntmps162
    go_wp2
    go_ret
    exact ⟨ret_bool HE.out.symm, rfl⟩

set_option maxHeartbeats 400000 in
theorem isRegister_any (v : Int) (w : World) : Calls Try.prog 164 #[.int .i64 v] w fun e w' => e = .returned (.bool (withinB v 0 11)) ∧ w' = w := by
  by_cases h1 : 0 ≤ v
  · by_cases h2 : v < 12
    · have e := withinB_yes h1 (show v ≤ 11 by omega)
      have HE : Hid (withinB v 0 11 = true) := e
      clear e
      go_enter Try.func164, Try.ntmps164
      go_wp2
      go_ret
      exact ⟨ret_bool HE.out.symm, rfl⟩
    · have HE : Hid (withinB v 0 11 = false) := withinB_hi (show ¬ v ≤ 11 by omega)
      go_enter Try.func164, Try.ntmps164
      go_wp2
      go_ret
      exact ⟨ret_bool HE.out.symm, rfl⟩
  · have HE : Hid (withinB v 0 11 = false) := withinB_lo h1
    go_enter Try.func164, Try.ntmps164
    go_wp2
    go_ret
    exact ⟨ret_bool HE.out.symm, rfl⟩

set_option maxHeartbeats 400000 in
theorem isNumber_any (v : Int) (w : World) : Calls Try.prog 165 #[.int .i64 v] w fun e w' => e = .returned (.bool (withinB v 0 999)) ∧ w' = w := by
  by_cases h1 : 0 ≤ v
  · by_cases h2 : v ≤ 999
    · have e := withinB_yes h1 h2
      have HE : Hid (withinB v 0 999 = true) := e
      clear e
      go_enter Try.func165, Try.ntmps165
      go_wp2
      go_ret
      exact ⟨ret_bool HE.out.symm, rfl⟩
    · have HE : Hid (withinB v 0 999 = false) := withinB_hi h2
      go_enter Try.func165, Try.ntmps165
      go_wp2
      go_ret
      exact ⟨ret_bool HE.out.symm, rfl⟩
  · have HE : Hid (withinB v 0 999 = false) := withinB_lo h1
    go_enter Try.func165, Try.ntmps165
    go_wp2
    go_ret
    exact ⟨ret_bool HE.out.symm, rfl⟩

set_option maxHeartbeats 400000 in
theorem isPlace_any (v n : Int) (w : World) : Calls Try.prog 163 #[.int .i64 v, .int .i64 n] w fun e w' => e = .returned (.bool (withinB v 0 n)) ∧ w' = w := by
  by_cases h1 : 0 ≤ v
  · by_cases h2 : v ≤ n
    · have e := withinB_yes h1 h2
      have HE : Hid (withinB v 0 n = true) := e
      clear e
      go_enter Try.func163, Try.ntmps163
      go_wp2
      go_ret
      exact ⟨ret_bool HE.out.symm, rfl⟩
    · have HE : Hid (withinB v 0 n = false) := withinB_hi h2
      go_enter Try.func163, Try.ntmps163
      go_wp2
      go_ret
      exact ⟨ret_bool HE.out.symm, rfl⟩
  · have HE : Hid (withinB v 0 n = false) := withinB_lo h1
    go_enter Try.func163, Try.ntmps163
    go_wp2
    go_ret
    exact ⟨ret_bool HE.out.symm, rfl⟩

def insCells (x : Ins) : List Value := [.int .i64 x.op, .int .i64 x.a, .int .i64 x.b, .int .i64 x.c]
def CodeAt (w : World) (b off : Nat) (l : List Ins) : Prop := ∀ (i : Nat) (hi : i < l.length) (j : Nat) (u : Value), (insCells l[i])[j]? = some u → w.cell? ⟨b, off + i * 4 + j, none⟩ = some u

theorem CodeAt.keep {w w' : World} {b off : Nat} {l : List Ins} (h : CodeAt w b off l) (hk : w'.heap[b]? = w.heap[b]?) : CodeAt w' b off l := fun i hi j u hj =>
  (World.cell?_of_block hk).trans (h i hi j u hj)

theorem CodeAt.get {w : World} {b off : Nat} {l : List Ins} (h : CodeAt w b off l) (i : Nat) (hi : i < l.length) :
    w.cell? ⟨b, off + i * 4, none⟩ = some (.int .i64 l[i].op) ∧ w.cell? ⟨b, off + i * 4 + 1, none⟩ = some (.int .i64 l[i].a) ∧ w.cell? ⟨b, off + i * 4 + 2, none⟩ = some (.int .i64 l[i].b) ∧ w.cell? ⟨b, off + i * 4 + 3, none⟩ = some (.int .i64 l[i].c) :=
  ⟨h i hi 0 _ rfl, h i hi 1 _ rfl, h i hi 2 _ rfl, h i hi 3 _ rfl⟩

theorem and3 (P Q R : Bool) : ((P && Q && R) = false ∧ P = false) ∨ ((P && Q && R) = false ∧ P = true ∧ Q = false) ∨ ((P && Q && R) = false ∧ P = true ∧ Q = true ∧ R = false) ∨ ((P && Q && R) = true ∧ P = true ∧ Q = true ∧ R = true) := by
  cases P <;> cases Q <;> cases R <;> simp

set_option maxHeartbeats 4000000 in
theorem c_soundInstr (x : Ins) (n : Int) (w : World) : Calls Try.prog 135 #[.agg (insCells x).toArray, .int .i64 n] w fun e w' => e = .returned (.bool (soundI n x)) ∧ Below w.heap.size w w' := by
  obtain ⟨op, a, b, c⟩ := x
  have hcell : insCells ⟨op, a, b, c⟩ = [.int .i64 op, .int .i64 a, .int .i64 b, .int .i64 c] := rfl
  rw [hcell]
  clear hcell
  have HB0 : Hid (∀ o, Below w.heap.size w (w.alloc o)) := fun o => (Below.refl _ _).alloc (Nat.le_refl _) _
  by_cases h0 : op = 0
  · subst h0
    have hs : soundI n ⟨0, a, b, c⟩ = ((a == 0) && (b == 0) && (c == 0)) := rfl
    rw [hs]
    rcases and3 (a == 0) (b == 0) (c == 0) with ⟨hr, g1⟩ | ⟨hr, g1, g2⟩ | ⟨hr, g1, g2, g3⟩ | ⟨hr, g1, g2, g3⟩ <;> rw [hr]
    all_goals
      clear hr hs
      go_enter Try.func135, Try.ntmps135
      go_wp2_with (first | (go_at_call 161; refine (isKey_any _ _).mono ?_; rintro e w' ⟨rfl, rfl⟩) | (go_at_call 162; refine (isPause_any _ _).mono ?_; rintro e w' ⟨rfl, rfl⟩) | (go_at_call 164; refine (isRegister_any _ _).mono ?_; rintro e w' ⟨rfl, rfl⟩) | (go_at_call 165; refine (isNumber_any _ _).mono ?_; rintro e w' ⟨rfl, rfl⟩) | (go_at_call 163; refine (isPlace_any _ _ _).mono ?_; rintro e w' ⟨rfl, rfl⟩))
      go_ret
      exact ⟨rfl, HB0.out _⟩
  by_cases h1 : op = 1
  · subst h1
    have hs : soundI n ⟨1, a, b, c⟩ = ((withinB a 0 7) && (b == 0) && (c == 0)) := rfl
    rw [hs]
    rcases and3 (withinB a 0 7) (b == 0) (c == 0) with ⟨hr, g1⟩ | ⟨hr, g1, g2⟩ | ⟨hr, g1, g2, g3⟩ | ⟨hr, g1, g2, g3⟩ <;> rw [hr]
    all_goals
      clear hr hs
      go_enter Try.func135, Try.ntmps135
      go_wp2_with (first | (go_at_call 161; refine (isKey_any _ _).mono ?_; rintro e w' ⟨rfl, rfl⟩) | (go_at_call 162; refine (isPause_any _ _).mono ?_; rintro e w' ⟨rfl, rfl⟩) | (go_at_call 164; refine (isRegister_any _ _).mono ?_; rintro e w' ⟨rfl, rfl⟩) | (go_at_call 165; refine (isNumber_any _ _).mono ?_; rintro e w' ⟨rfl, rfl⟩) | (go_at_call 163; refine (isPlace_any _ _ _).mono ?_; rintro e w' ⟨rfl, rfl⟩))
      go_ret
      exact ⟨rfl, HB0.out _⟩
  by_cases h2 : op = 2
  · subst h2
    have hs : soundI n ⟨2, a, b, c⟩ = ((withinB a 1 999) && (b == 0) && (c == 0)) := rfl
    rw [hs]
    rcases and3 (withinB a 1 999) (b == 0) (c == 0) with ⟨hr, g1⟩ | ⟨hr, g1, g2⟩ | ⟨hr, g1, g2, g3⟩ | ⟨hr, g1, g2, g3⟩ <;> rw [hr]
    all_goals
      clear hr hs
      go_enter Try.func135, Try.ntmps135
      go_wp2_with (first | (go_at_call 161; refine (isKey_any _ _).mono ?_; rintro e w' ⟨rfl, rfl⟩) | (go_at_call 162; refine (isPause_any _ _).mono ?_; rintro e w' ⟨rfl, rfl⟩) | (go_at_call 164; refine (isRegister_any _ _).mono ?_; rintro e w' ⟨rfl, rfl⟩) | (go_at_call 165; refine (isNumber_any _ _).mono ?_; rintro e w' ⟨rfl, rfl⟩) | (go_at_call 163; refine (isPlace_any _ _ _).mono ?_; rintro e w' ⟨rfl, rfl⟩))
      go_ret
      exact ⟨rfl, HB0.out _⟩
  by_cases h3 : op = 3
  · subst h3
    have hs : soundI n ⟨3, a, b, c⟩ = ((withinB a 0 7) && (withinB b 1 999) && (withinB c 0 n)) := rfl
    rw [hs]
    rcases and3 (withinB a 0 7) (withinB b 1 999) (withinB c 0 n) with ⟨hr, g1⟩ | ⟨hr, g1, g2⟩ | ⟨hr, g1, g2, g3⟩ | ⟨hr, g1, g2, g3⟩ <;> rw [hr]
    all_goals
      clear hr hs
      go_enter Try.func135, Try.ntmps135
      go_wp2_with (first | (go_at_call 161; refine (isKey_any _ _).mono ?_; rintro e w' ⟨rfl, rfl⟩) | (go_at_call 162; refine (isPause_any _ _).mono ?_; rintro e w' ⟨rfl, rfl⟩) | (go_at_call 164; refine (isRegister_any _ _).mono ?_; rintro e w' ⟨rfl, rfl⟩) | (go_at_call 165; refine (isNumber_any _ _).mono ?_; rintro e w' ⟨rfl, rfl⟩) | (go_at_call 163; refine (isPlace_any _ _ _).mono ?_; rintro e w' ⟨rfl, rfl⟩))
      go_ret
      exact ⟨rfl, HB0.out _⟩
  by_cases h4 : op = 4
  · subst h4
    have hs : soundI n ⟨4, a, b, c⟩ = ((withinB a 0 11) && (withinB b 0 999) && (c == 0)) := rfl
    rw [hs]
    rcases and3 (withinB a 0 11) (withinB b 0 999) (c == 0) with ⟨hr, g1⟩ | ⟨hr, g1, g2⟩ | ⟨hr, g1, g2, g3⟩ | ⟨hr, g1, g2, g3⟩ <;> rw [hr]
    all_goals
      clear hr hs
      go_enter Try.func135, Try.ntmps135
      go_wp2_with (first | (go_at_call 161; refine (isKey_any _ _).mono ?_; rintro e w' ⟨rfl, rfl⟩) | (go_at_call 162; refine (isPause_any _ _).mono ?_; rintro e w' ⟨rfl, rfl⟩) | (go_at_call 164; refine (isRegister_any _ _).mono ?_; rintro e w' ⟨rfl, rfl⟩) | (go_at_call 165; refine (isNumber_any _ _).mono ?_; rintro e w' ⟨rfl, rfl⟩) | (go_at_call 163; refine (isPlace_any _ _ _).mono ?_; rintro e w' ⟨rfl, rfl⟩))
      go_ret
      exact ⟨rfl, HB0.out _⟩
  by_cases h5 : op = 5
  · subst h5
    have hs : soundI n ⟨5, a, b, c⟩ = ((withinB a 0 11) && (b == 0) && (c == 0)) := rfl
    rw [hs]
    rcases and3 (withinB a 0 11) (b == 0) (c == 0) with ⟨hr, g1⟩ | ⟨hr, g1, g2⟩ | ⟨hr, g1, g2, g3⟩ | ⟨hr, g1, g2, g3⟩ <;> rw [hr]
    all_goals
      clear hr hs
      go_enter Try.func135, Try.ntmps135
      go_wp2_with (first | (go_at_call 161; refine (isKey_any _ _).mono ?_; rintro e w' ⟨rfl, rfl⟩) | (go_at_call 162; refine (isPause_any _ _).mono ?_; rintro e w' ⟨rfl, rfl⟩) | (go_at_call 164; refine (isRegister_any _ _).mono ?_; rintro e w' ⟨rfl, rfl⟩) | (go_at_call 165; refine (isNumber_any _ _).mono ?_; rintro e w' ⟨rfl, rfl⟩) | (go_at_call 163; refine (isPlace_any _ _ _).mono ?_; rintro e w' ⟨rfl, rfl⟩))
      go_ret
      exact ⟨rfl, HB0.out _⟩
  by_cases h6 : op = 6
  · subst h6
    have hs : soundI n ⟨6, a, b, c⟩ = ((withinB a 0 7) && (withinB b 0 11) && (withinB c 0 n)) := rfl
    rw [hs]
    rcases and3 (withinB a 0 7) (withinB b 0 11) (withinB c 0 n) with ⟨hr, g1⟩ | ⟨hr, g1, g2⟩ | ⟨hr, g1, g2, g3⟩ | ⟨hr, g1, g2, g3⟩ <;> rw [hr]
    all_goals
      clear hr hs
      go_enter Try.func135, Try.ntmps135
      go_wp2_with (first | (go_at_call 161; refine (isKey_any _ _).mono ?_; rintro e w' ⟨rfl, rfl⟩) | (go_at_call 162; refine (isPause_any _ _).mono ?_; rintro e w' ⟨rfl, rfl⟩) | (go_at_call 164; refine (isRegister_any _ _).mono ?_; rintro e w' ⟨rfl, rfl⟩) | (go_at_call 165; refine (isNumber_any _ _).mono ?_; rintro e w' ⟨rfl, rfl⟩) | (go_at_call 163; refine (isPlace_any _ _ _).mono ?_; rintro e w' ⟨rfl, rfl⟩))
      go_ret
      exact ⟨rfl, HB0.out _⟩
  by_cases h7 : op = 7
  · subst h7
    have hs : soundI n ⟨7, a, b, c⟩ = ((withinB a 0 11) && (b == 0) && (withinB c 0 n)) := rfl
    rw [hs]
    rcases and3 (withinB a 0 11) (b == 0) (withinB c 0 n) with ⟨hr, g1⟩ | ⟨hr, g1, g2⟩ | ⟨hr, g1, g2, g3⟩ | ⟨hr, g1, g2, g3⟩ <;> rw [hr]
    all_goals
      clear hr hs
      go_enter Try.func135, Try.ntmps135
      go_wp2_with (first | (go_at_call 161; refine (isKey_any _ _).mono ?_; rintro e w' ⟨rfl, rfl⟩) | (go_at_call 162; refine (isPause_any _ _).mono ?_; rintro e w' ⟨rfl, rfl⟩) | (go_at_call 164; refine (isRegister_any _ _).mono ?_; rintro e w' ⟨rfl, rfl⟩) | (go_at_call 165; refine (isNumber_any _ _).mono ?_; rintro e w' ⟨rfl, rfl⟩) | (go_at_call 163; refine (isPlace_any _ _ _).mono ?_; rintro e w' ⟨rfl, rfl⟩))
      go_ret
      exact ⟨rfl, HB0.out _⟩
  by_cases h8 : op = 8
  · subst h8
    have hs : soundI n ⟨8, a, b, c⟩ = ((a == 0) && (b == 0) && (withinB c 0 n)) := rfl
    rw [hs]
    rcases and3 (a == 0) (b == 0) (withinB c 0 n) with ⟨hr, g1⟩ | ⟨hr, g1, g2⟩ | ⟨hr, g1, g2, g3⟩ | ⟨hr, g1, g2, g3⟩ <;> rw [hr]
    all_goals
      clear hr hs
      go_enter Try.func135, Try.ntmps135
      go_wp2_with (first | (go_at_call 161; refine (isKey_any _ _).mono ?_; rintro e w' ⟨rfl, rfl⟩) | (go_at_call 162; refine (isPause_any _ _).mono ?_; rintro e w' ⟨rfl, rfl⟩) | (go_at_call 164; refine (isRegister_any _ _).mono ?_; rintro e w' ⟨rfl, rfl⟩) | (go_at_call 165; refine (isNumber_any _ _).mono ?_; rintro e w' ⟨rfl, rfl⟩) | (go_at_call 163; refine (isPlace_any _ _ _).mono ?_; rintro e w' ⟨rfl, rfl⟩))
      go_ret
      exact ⟨rfl, HB0.out _⟩
  have hs : soundI n ⟨op, a, b, c⟩ = false := by unfold soundI; simp only [h0, h1, h2, h3, h4, h5, h6, h7, h8, if_false]
  rw [hs]
  have e0 : (op == 0) = false := by simpa using h0
  have e1 : (op == 1) = false := by simpa using h1
  have e2 : (op == 2) = false := by simpa using h2
  have e3 : (op == 3) = false := by simpa using h3
  have e4 : (op == 4) = false := by simpa using h4
  have e5 : (op == 5) = false := by simpa using h5
  have e6 : (op == 6) = false := by simpa using h6
  have e7 : (op == 7) = false := by simpa using h7
  have e8 : (op == 8) = false := by simpa using h8
  clear h0 h1 h2 h3 h4 h5 h6 h7 h8 hs
  go_enter Try.func135, Try.ntmps135
  go_wp2_with fail
  go_ret
  exact ⟨rfl, HB0.out _⟩

end Go.Proofs.Ytmmmnghiegajmaa

namespace Go.Proofs.Ytmmmnghiegajmaa
open Go.RowKit Go.Proofs.Herald

theorem all_take_succ {α : Type} (p : α → Bool) (l : List α) (k : Nat) (h : k < l.length) (h1 : (l.take k).all p = true) (h2 : p l[k] = true) : (l.take (k + 1)).all p = true := by
  rw [List.take_succ_eq_append_getElem h, List.all_append, h1]; simp [h2]
theorem all_not {α : Type} (p : α → Bool) (l : List α) (k : Nat) (h : k < l.length) (h2 : p l[k] = false) : l.all p = false := by
  rw [List.all_eq_false]; exact ⟨l[k], List.getElem_mem h, by rw [h2]; simp⟩

theorem soundL_long {cs : List Ins} (h : 1000 < cs.length) : soundL cs = false := by unfold soundL; rw [decide_eq_false (by omega)]; rfl
theorem soundL_short {cs : List Ins} (h : cs.length ≤ 1000) : soundL cs = cs.all (soundI cs.length) := by unfold soundL; rw [decide_eq_true h]; rfl

/-- A slice that holds code. -/
def CodeIn (w : World) (a : Option Addr) (b off : Nat) (cs : List Ins) : Prop := 0 < cs.length → a = some ⟨b, off, none⟩ ∧ b < w.heap.size ∧ CodeAt w b off cs

theorem CodeIn.keep {w w' : World} {a : Option Addr} {b off : Nat} {cs : List Ins} (h : CodeIn w a b off cs) (hb : Below w.heap.size w w') : CodeIn w' a b off cs := fun hp =>
  ⟨(h hp).1, Nat.lt_of_lt_of_le (h hp).2.1 hb.size, (h hp).2.2.keep (hb.block _ (h hp).2.1)⟩

set_option maxHeartbeats 1000000 in
theorem c_sound (a : Option Addr) (b off cap : Nat) (cs : List Ins) (w : World) (hc : CodeIn w a b off cs) :
    Calls Try.prog 98 #[.slice a cs.length cap] w fun e w' => e = .returned (.bool (soundL cs)) ∧ Below w.heap.size w w' := by
  rcases Nat.lt_or_ge 1000 cs.length with hl | hl
  · have HS : Hid (soundL cs = false) := soundL_long hl
    go_enter Try.func98, Try.ntmps98
    go_wp2_with fail
    go_ret
    exact ⟨ret_bool HS.out.symm, Below.refl _ _⟩
  · have HS : Hid (soundL cs = cs.all (soundI cs.length)) := soundL_short hl
    have HC : Hid (CodeIn w a b off cs) := hc
    clear hc
    go_enter Try.func98, Try.ntmps98
    go_wp2_with fail
    go_loopw [10] (fun i wr => ∃ k : Nat, k ≤ cs.length ∧ i = .int .i64 k ∧ Hid (Below w.heap.size w wr) ∧ Hid ((cs.take k).all (soundI cs.length) = true)) (fun i _ => cs.length - (intOf i).toNat)
    case atStart => exact ⟨0, Nat.zero_le _, rfl, Below.refl _ _, by show _ = _; simp⟩
    case round =>
      obtain ⟨k, hk, rfl, HB, HT⟩ := hrel
      by_cases hlt : k < cs.length
      · obtain ⟨rfl, hblt, hca⟩ := HC.out (by omega)
        obtain ⟨c0, c1, c2, c3⟩ := (hca.keep (HB.out.block b hblt)).get k hlt
        have HI : Hid (∀ W : World, Calls Try.prog 135 #[.agg #[.int .i64 cs[k].op, .int .i64 cs[k].a, .int .i64 cs[k].b, .int .i64 cs[k].c], .int .i64 cs.length] W fun e w' => e = .returned (.bool (soundI cs.length cs[k])) ∧ Below W.heap.size W w') := fun W => c_soundInstr cs[k] cs.length W
        have HTT : Hid (soundI cs.length cs[k] = true → (cs.take (k + 1)).all (soundI cs.length) = true) := fun h => all_take_succ _ cs k hlt HT.out h
        have HFF : Hid (soundI cs.length cs[k] = false → cs.all (soundI cs.length) = false) := fun h => all_not _ cs k hlt h
        generalize cs[k].op = op at *
        generalize cs[k].a = xa at *
        generalize cs[k].b = xb at *
        generalize cs[k].c = xc at *
        generalize soundI cs.length cs[k] = S at *
        clear hca
        go_wp2_with fail
        refine (HI.out _).mono ?_
        rintro e w1 ⟨rfl, hb1⟩
        have HB1 : Hid (Below w.heap.size w w1) := (HB.out.alloc HB.out.size _).trans (hb1.mono (by have := HB.out.size; simp; omega))
        clear hb1
        cases S with
        | true =>
          go_wp2_with fail
          go_roundw
          case rel => exact ⟨k + 1, by omega, by go_num, HB1, HTT.out trivial⟩
          case measure => simp [intOf]; omega
        | false =>
          go_wp2_with fail
          go_ret
          exact ⟨ret_bool (by rw [HS.out]; exact (HFF.out trivial).symm), HB1.out⟩
      · have HE : Hid (cs.take k = cs) := List.take_of_length_le (by omega)
        go_wp2_with fail
        go_ret
        exact ⟨ret_bool (by rw [HS.out]; have h := HT.out; rw [HE.out] at h; exact h.symm), HB.out⟩

end Go.Proofs.Ytmmmnghiegajmaa
