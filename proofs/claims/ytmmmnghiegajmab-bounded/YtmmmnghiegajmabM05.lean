import Derived.Test.YtmmmnghiegajmabProg
import Derived.Test.YtmmmnghiegajmabM04
import Derived.WalkKit
import Derived.WalkSpells
import Derived.WalkLawsBesides
import Derived.Test.YtmmmnghiegajmabM01
/- What the small functions of the document's own answer give back: contracts of num, key, greater, behind, most. What Words of the document's own answer gives back: a fresh list of the text's words. What deep and shut of the document's own answer give back. -/
namespace Go.Proofs.Ytmmmnghiegajmab
open Go.RowKit Go.Proofs.Herald
theorem ret_int {k : IntKind} {a b : Int} (h : a = b) : Ending.returned (.int k a) = .returned (.int k b) := by rw [h]
open Go.RowKit Go.Proofs.Herald
open Go.RowKit Go.Proofs.Herald
theorem beq_yes {s : ByteArray} {l : List UInt8} (h : s.data.toList = l) : (s.toList == l) = true := by rw [ByteArray.toList_eq, h]; simp
theorem beq_no {s : ByteArray} {l : List UInt8} (h : ¬ s.data.toList = l) : (s.toList == l) = false := by rw [ByteArray.toList_eq]; simpa using h
end Go.Proofs.Ytmmmnghiegajmab
/- Code, and what makes it sound: the program's check and the document's own. Is code sound: the program's answer. -/
namespace Go.Proofs.Herald
/-- An instruction. -/
structure Ins where
  op : Int
  a : Int
  b : Int
  c : Int
def withinB (n lo hi : Int) : Bool := decide (lo ≤ n) && decide (n ≤ hi)
/-- Is an instruction sound, in code of so many? -/
def soundI (n : Int) (x : Ins) : Bool :=
  if x.op = 0 then (x.a == 0) && (x.b == 0) && (x.c == 0)
  else if x.op = 1 then withinB x.a 0 7 && (x.b == 0) && (x.c == 0)
  else if x.op = 2 then withinB x.a 1 999 && (x.b == 0) && (x.c == 0)
  else if x.op = 3 then withinB x.a 0 7 && withinB x.b 1 999 && withinB x.c 0 n
  else if x.op = 4 then withinB x.a 0 11 && withinB x.b 0 999 && (x.c == 0)
  else if x.op = 5 then withinB x.a 0 11 && (x.b == 0) && (x.c == 0)
  else if x.op = 6 then withinB x.a 0 7 && withinB x.b 0 11 && withinB x.c 0 n
  else if x.op = 7 then withinB x.a 0 11 && (x.b == 0) && withinB x.c 0 n
  else if x.op = 8 then (x.a == 0) && (x.b == 0) && withinB x.c 0 n
  else false
def soundL (cs : List Ins) : Bool := decide (cs.length ≤ 1000) && cs.all (soundI cs.length)
end Go.Proofs.Herald
namespace Go.Proofs.Ytmmmnghiegajmab
open Go.RowKit Go.Proofs.Herald
theorem withinB_yes {n lo hi : Int} (h1 : lo ≤ n) (h2 : n ≤ hi) : withinB n lo hi = true := by unfold withinB; rw [decide_eq_true h1, decide_eq_true h2]; rfl
theorem withinB_lo {n lo hi : Int} (h1 : ¬ lo ≤ n) : withinB n lo hi = false := by unfold withinB; rw [decide_eq_false h1]; rfl
theorem withinB_hi {n lo hi : Int} (h1 : ¬ n ≤ hi) : withinB n lo hi = false := by unfold withinB; rw [decide_eq_false h1]; exact Bool.and_false _
theorem ret_bool {a b : Bool} (h : a = b) : Ending.returned (.bool a) = .returned (.bool b) := by rw [h]
set_option maxHeartbeats 400000 in
theorem isKey_any (v : Int) (w : World) : Calls Try.prog 90 #[.int .i64 v] w fun e w' => e = .returned (.bool (withinB v 0 7)) ∧ w' = w := by
  by_cases h1 : 0 ≤ v
  · by_cases h2 : v < 8
    · have e := withinB_yes h1 (show v ≤ 7 by omega)
      have HE : Hid (withinB v 0 7 = true) := e
      clear e
      go_enter Try.func90, Try.ntmps90
      go_wp2
      go_ret
      exact ⟨ret_bool HE.out.symm, rfl⟩
    · have HE : Hid (withinB v 0 7 = false) := withinB_hi (show ¬ v ≤ 7 by omega)
      go_enter Try.func90, Try.ntmps90
      go_wp2
      go_ret
      exact ⟨ret_bool HE.out.symm, rfl⟩
  · have HE : Hid (withinB v 0 7 = false) := withinB_lo h1
    go_enter Try.func90, Try.ntmps90
    go_wp2
    go_ret
    exact ⟨ret_bool HE.out.symm, rfl⟩
set_option maxHeartbeats 400000 in
theorem isPause_any (v : Int) (w : World) : Calls Try.prog 91 #[.int .i64 v] w fun e w' => e = .returned (.bool (withinB v 1 999)) ∧ w' = w := by
  by_cases h1 : 1 ≤ v
  · by_cases h2 : v ≤ 999
    · have e := withinB_yes h1 h2
      have HE : Hid (withinB v 1 999 = true) := e
      clear e
      go_enter Try.func91, Try.ntmps91
      go_wp2
      go_ret
      exact ⟨ret_bool HE.out.symm, rfl⟩
    · have HE : Hid (withinB v 1 999 = false) := withinB_hi h2
      go_enter Try.func91, Try.ntmps91
      go_wp2
      go_ret
      exact ⟨ret_bool HE.out.symm, rfl⟩
  · have HE : Hid (withinB v 1 999 = false) := withinB_lo h1
    go_enter Try.func91, Try.ntmps91
    go_wp2
    go_ret
    exact ⟨ret_bool HE.out.symm, rfl⟩
set_option maxHeartbeats 400000 in
theorem isRegister_any (v : Int) (w : World) : Calls Try.prog 93 #[.int .i64 v] w fun e w' => e = .returned (.bool (withinB v 0 11)) ∧ w' = w := by
  by_cases h1 : 0 ≤ v
  · by_cases h2 : v < 12
    · have e := withinB_yes h1 (show v ≤ 11 by omega)
      have HE : Hid (withinB v 0 11 = true) := e
      clear e
      go_enter Try.func93, Try.ntmps93
      go_wp2
      go_ret
      exact ⟨ret_bool HE.out.symm, rfl⟩
    · have HE : Hid (withinB v 0 11 = false) := withinB_hi (show ¬ v ≤ 11 by omega)
      go_enter Try.func93, Try.ntmps93
      go_wp2
      go_ret
      exact ⟨ret_bool HE.out.symm, rfl⟩
  · have HE : Hid (withinB v 0 11 = false) := withinB_lo h1
    go_enter Try.func93, Try.ntmps93
    go_wp2
    go_ret
    exact ⟨ret_bool HE.out.symm, rfl⟩
set_option maxHeartbeats 400000 in
theorem isNumber_any (v : Int) (w : World) : Calls Try.prog 94 #[.int .i64 v] w fun e w' => e = .returned (.bool (withinB v 0 999)) ∧ w' = w := by
  by_cases h1 : 0 ≤ v
  · by_cases h2 : v ≤ 999
    · have e := withinB_yes h1 h2
      have HE : Hid (withinB v 0 999 = true) := e
      clear e
      go_enter Try.func94, Try.ntmps94
      go_wp2
      go_ret
      exact ⟨ret_bool HE.out.symm, rfl⟩
    · have HE : Hid (withinB v 0 999 = false) := withinB_hi h2
      go_enter Try.func94, Try.ntmps94
      go_wp2
      go_ret
      exact ⟨ret_bool HE.out.symm, rfl⟩
  · have HE : Hid (withinB v 0 999 = false) := withinB_lo h1
    go_enter Try.func94, Try.ntmps94
    go_wp2
    go_ret
    exact ⟨ret_bool HE.out.symm, rfl⟩
set_option maxHeartbeats 400000 in
theorem isPlace_any (v n : Int) (w : World) : Calls Try.prog 92 #[.int .i64 v, .int .i64 n] w fun e w' => e = .returned (.bool (withinB v 0 n)) ∧ w' = w := by
  by_cases h1 : 0 ≤ v
  · by_cases h2 : v ≤ n
    · have e := withinB_yes h1 h2
      have HE : Hid (withinB v 0 n = true) := e
      clear e
      go_enter Try.func92, Try.ntmps92
      go_wp2
      go_ret
      exact ⟨ret_bool HE.out.symm, rfl⟩
    · have HE : Hid (withinB v 0 n = false) := withinB_hi h2
      go_enter Try.func92, Try.ntmps92
      go_wp2
      go_ret
      exact ⟨ret_bool HE.out.symm, rfl⟩
  · have HE : Hid (withinB v 0 n = false) := withinB_lo h1
    go_enter Try.func92, Try.ntmps92
    go_wp2
    go_ret
    exact ⟨ret_bool HE.out.symm, rfl⟩
def insCells (x : Ins) : List Value := [.int .i64 x.op, .int .i64 x.a, .int .i64 x.b, .int .i64 x.c]
def CodeAt (w : World) (b off : Nat) (l : List Ins) : Prop := ∀ (i : Nat) (hi : i < l.length) (j : Nat) (u : Value), (insCells l[i])[j]? = some u → w.cell? ⟨b, off + i * 4 + j, none⟩ = some u
theorem CodeAt.keep {w w' : World} {b off : Nat} {l : List Ins} (h : CodeAt w b off l) (hk : w'.heap[b]? = w.heap[b]?) : CodeAt w' b off l := fun i hi j u hj =>
  (World.cell?_of_block hk).trans (h i hi j u hj)
theorem CodeAt.get {w : World} {b off : Nat} {l : List Ins} (h : CodeAt w b off l) (i : Nat) (hi : i < l.length) :
    w.cell? ⟨b, off + i * 4, none⟩ = some (.int .i64 l[i].op) ∧ w.cell? ⟨b, off + i * 4 + 1, none⟩ = some (.int .i64 l[i].a) ∧ w.cell? ⟨b, off + i * 4 + 2, none⟩ = some (.int .i64 l[i].b) ∧ w.cell? ⟨b, off + i * 4 + 3, none⟩ = some (.int .i64 l[i].c) :=
  ⟨h i hi 0 _ rfl, h i hi 1 _ rfl, h i hi 2 _ rfl, h i hi 3 _ rfl⟩
theorem and3 (P Q R : Bool) : ((P && Q && R) = false ∧ P = false) ∨ ((P && Q && R) = false ∧ P = true ∧ Q = false) ∨ ((P && Q && R) = false ∧ P = true ∧ Q = true ∧ R = false) ∨ ((P && Q && R) = true ∧ P = true ∧ Q = true ∧ R = true) := by
  cases P <;> cases Q <;> cases R <;> simp
set_option maxHeartbeats 4000000 in
theorem c_soundInstr (x : Ins) (n : Int) (w : World) : Calls Try.prog 74 #[.agg (insCells x).toArray, .int .i64 n] w fun e w' => e = .returned (.bool (soundI n x)) ∧ Below w.heap.size w w' := by
  obtain ⟨op, a, b, c⟩ := x
  have hcell : insCells ⟨op, a, b, c⟩ = [.int .i64 op, .int .i64 a, .int .i64 b, .int .i64 c] := rfl
  rw [hcell]
  clear hcell
  have HB0 : Hid (∀ o, Below w.heap.size w (w.alloc o)) := fun o => (Below.refl _ _).alloc (Nat.le_refl _) _
  by_cases h0 : op = 0
  · subst h0
    have hs : soundI n ⟨0, a, b, c⟩ = ((a == 0) && (b == 0) && (c == 0)) := rfl
    rw [hs]
    rcases and3 (a == 0) (b == 0) (c == 0) with ⟨hr, g1⟩ | ⟨hr, g1, g2⟩ | ⟨hr, g1, g2, g3⟩ | ⟨hr, g1, g2, g3⟩ <;> rw [hr]
    all_goals
      clear hr hs
      go_enter Try.func74, Try.ntmps74
      go_wp2_with (first | (go_at_call 90; refine (isKey_any _ _).mono ?_; rintro e w' ⟨rfl, rfl⟩) | (go_at_call 91; refine (isPause_any _ _).mono ?_; rintro e w' ⟨rfl, rfl⟩) | (go_at_call 93; refine (isRegister_any _ _).mono ?_; rintro e w' ⟨rfl, rfl⟩) | (go_at_call 94; refine (isNumber_any _ _).mono ?_; rintro e w' ⟨rfl, rfl⟩) | (go_at_call 92; refine (isPlace_any _ _ _).mono ?_; rintro e w' ⟨rfl, rfl⟩))
      go_ret
      exact ⟨rfl, HB0.out _⟩
  by_cases h1 : op = 1
  · subst h1
    have hs : soundI n ⟨1, a, b, c⟩ = ((withinB a 0 7) && (b == 0) && (c == 0)) := rfl
    rw [hs]
    rcases and3 (withinB a 0 7) (b == 0) (c == 0) with ⟨hr, g1⟩ | ⟨hr, g1, g2⟩ | ⟨hr, g1, g2, g3⟩ | ⟨hr, g1, g2, g3⟩ <;> rw [hr]
    all_goals
      clear hr hs
      go_enter Try.func74, Try.ntmps74
      go_wp2_with (first | (go_at_call 90; refine (isKey_any _ _).mono ?_; rintro e w' ⟨rfl, rfl⟩) | (go_at_call 91; refine (isPause_any _ _).mono ?_; rintro e w' ⟨rfl, rfl⟩) | (go_at_call 93; refine (isRegister_any _ _).mono ?_; rintro e w' ⟨rfl, rfl⟩) | (go_at_call 94; refine (isNumber_any _ _).mono ?_; rintro e w' ⟨rfl, rfl⟩) | (go_at_call 92; refine (isPlace_any _ _ _).mono ?_; rintro e w' ⟨rfl, rfl⟩))
      go_ret
      exact ⟨rfl, HB0.out _⟩
  by_cases h2 : op = 2
  · subst h2
    have hs : soundI n ⟨2, a, b, c⟩ = ((withinB a 1 999) && (b == 0) && (c == 0)) := rfl
    rw [hs]
    rcases and3 (withinB a 1 999) (b == 0) (c == 0) with ⟨hr, g1⟩ | ⟨hr, g1, g2⟩ | ⟨hr, g1, g2, g3⟩ | ⟨hr, g1, g2, g3⟩ <;> rw [hr]
    all_goals
      clear hr hs
      go_enter Try.func74, Try.ntmps74
      go_wp2_with (first | (go_at_call 90; refine (isKey_any _ _).mono ?_; rintro e w' ⟨rfl, rfl⟩) | (go_at_call 91; refine (isPause_any _ _).mono ?_; rintro e w' ⟨rfl, rfl⟩) | (go_at_call 93; refine (isRegister_any _ _).mono ?_; rintro e w' ⟨rfl, rfl⟩) | (go_at_call 94; refine (isNumber_any _ _).mono ?_; rintro e w' ⟨rfl, rfl⟩) | (go_at_call 92; refine (isPlace_any _ _ _).mono ?_; rintro e w' ⟨rfl, rfl⟩))
      go_ret
      exact ⟨rfl, HB0.out _⟩
  by_cases h3 : op = 3
  · subst h3
    have hs : soundI n ⟨3, a, b, c⟩ = ((withinB a 0 7) && (withinB b 1 999) && (withinB c 0 n)) := rfl
    rw [hs]
    rcases and3 (withinB a 0 7) (withinB b 1 999) (withinB c 0 n) with ⟨hr, g1⟩ | ⟨hr, g1, g2⟩ | ⟨hr, g1, g2, g3⟩ | ⟨hr, g1, g2, g3⟩ <;> rw [hr]
    all_goals
      clear hr hs
      go_enter Try.func74, Try.ntmps74
      go_wp2_with (first | (go_at_call 90; refine (isKey_any _ _).mono ?_; rintro e w' ⟨rfl, rfl⟩) | (go_at_call 91; refine (isPause_any _ _).mono ?_; rintro e w' ⟨rfl, rfl⟩) | (go_at_call 93; refine (isRegister_any _ _).mono ?_; rintro e w' ⟨rfl, rfl⟩) | (go_at_call 94; refine (isNumber_any _ _).mono ?_; rintro e w' ⟨rfl, rfl⟩) | (go_at_call 92; refine (isPlace_any _ _ _).mono ?_; rintro e w' ⟨rfl, rfl⟩))
      go_ret
      exact ⟨rfl, HB0.out _⟩
  by_cases h4 : op = 4
  · subst h4
    have hs : soundI n ⟨4, a, b, c⟩ = ((withinB a 0 11) && (withinB b 0 999) && (c == 0)) := rfl
    rw [hs]
    rcases and3 (withinB a 0 11) (withinB b 0 999) (c == 0) with ⟨hr, g1⟩ | ⟨hr, g1, g2⟩ | ⟨hr, g1, g2, g3⟩ | ⟨hr, g1, g2, g3⟩ <;> rw [hr]
    all_goals
      clear hr hs
      go_enter Try.func74, Try.ntmps74
      go_wp2_with (first | (go_at_call 90; refine (isKey_any _ _).mono ?_; rintro e w' ⟨rfl, rfl⟩) | (go_at_call 91; refine (isPause_any _ _).mono ?_; rintro e w' ⟨rfl, rfl⟩) | (go_at_call 93; refine (isRegister_any _ _).mono ?_; rintro e w' ⟨rfl, rfl⟩) | (go_at_call 94; refine (isNumber_any _ _).mono ?_; rintro e w' ⟨rfl, rfl⟩) | (go_at_call 92; refine (isPlace_any _ _ _).mono ?_; rintro e w' ⟨rfl, rfl⟩))
      go_ret
      exact ⟨rfl, HB0.out _⟩
  by_cases h5 : op = 5
  · subst h5
    have hs : soundI n ⟨5, a, b, c⟩ = ((withinB a 0 11) && (b == 0) && (c == 0)) := rfl
    rw [hs]
    rcases and3 (withinB a 0 11) (b == 0) (c == 0) with ⟨hr, g1⟩ | ⟨hr, g1, g2⟩ | ⟨hr, g1, g2, g3⟩ | ⟨hr, g1, g2, g3⟩ <;> rw [hr]
    all_goals
      clear hr hs
      go_enter Try.func74, Try.ntmps74
      go_wp2_with (first | (go_at_call 90; refine (isKey_any _ _).mono ?_; rintro e w' ⟨rfl, rfl⟩) | (go_at_call 91; refine (isPause_any _ _).mono ?_; rintro e w' ⟨rfl, rfl⟩) | (go_at_call 93; refine (isRegister_any _ _).mono ?_; rintro e w' ⟨rfl, rfl⟩) | (go_at_call 94; refine (isNumber_any _ _).mono ?_; rintro e w' ⟨rfl, rfl⟩) | (go_at_call 92; refine (isPlace_any _ _ _).mono ?_; rintro e w' ⟨rfl, rfl⟩))
      go_ret
      exact ⟨rfl, HB0.out _⟩
  by_cases h6 : op = 6
  · subst h6
    have hs : soundI n ⟨6, a, b, c⟩ = ((withinB a 0 7) && (withinB b 0 11) && (withinB c 0 n)) := rfl
    rw [hs]
    rcases and3 (withinB a 0 7) (withinB b 0 11) (withinB c 0 n) with ⟨hr, g1⟩ | ⟨hr, g1, g2⟩ | ⟨hr, g1, g2, g3⟩ | ⟨hr, g1, g2, g3⟩ <;> rw [hr]
    all_goals
      clear hr hs
      go_enter Try.func74, Try.ntmps74
      go_wp2_with (first | (go_at_call 90; refine (isKey_any _ _).mono ?_; rintro e w' ⟨rfl, rfl⟩) | (go_at_call 91; refine (isPause_any _ _).mono ?_; rintro e w' ⟨rfl, rfl⟩) | (go_at_call 93; refine (isRegister_any _ _).mono ?_; rintro e w' ⟨rfl, rfl⟩) | (go_at_call 94; refine (isNumber_any _ _).mono ?_; rintro e w' ⟨rfl, rfl⟩) | (go_at_call 92; refine (isPlace_any _ _ _).mono ?_; rintro e w' ⟨rfl, rfl⟩))
      go_ret
      exact ⟨rfl, HB0.out _⟩
  by_cases h7 : op = 7
  · subst h7
    have hs : soundI n ⟨7, a, b, c⟩ = ((withinB a 0 11) && (b == 0) && (withinB c 0 n)) := rfl
    rw [hs]
    rcases and3 (withinB a 0 11) (b == 0) (withinB c 0 n) with ⟨hr, g1⟩ | ⟨hr, g1, g2⟩ | ⟨hr, g1, g2, g3⟩ | ⟨hr, g1, g2, g3⟩ <;> rw [hr]
    all_goals
      clear hr hs
      go_enter Try.func74, Try.ntmps74
      go_wp2_with (first | (go_at_call 90; refine (isKey_any _ _).mono ?_; rintro e w' ⟨rfl, rfl⟩) | (go_at_call 91; refine (isPause_any _ _).mono ?_; rintro e w' ⟨rfl, rfl⟩) | (go_at_call 93; refine (isRegister_any _ _).mono ?_; rintro e w' ⟨rfl, rfl⟩) | (go_at_call 94; refine (isNumber_any _ _).mono ?_; rintro e w' ⟨rfl, rfl⟩) | (go_at_call 92; refine (isPlace_any _ _ _).mono ?_; rintro e w' ⟨rfl, rfl⟩))
      go_ret
      exact ⟨rfl, HB0.out _⟩
  by_cases h8 : op = 8
  · subst h8
    have hs : soundI n ⟨8, a, b, c⟩ = ((a == 0) && (b == 0) && (withinB c 0 n)) := rfl
    rw [hs]
    rcases and3 (a == 0) (b == 0) (withinB c 0 n) with ⟨hr, g1⟩ | ⟨hr, g1, g2⟩ | ⟨hr, g1, g2, g3⟩ | ⟨hr, g1, g2, g3⟩ <;> rw [hr]
    all_goals
      clear hr hs
      go_enter Try.func74, Try.ntmps74
      go_wp2_with (first | (go_at_call 90; refine (isKey_any _ _).mono ?_; rintro e w' ⟨rfl, rfl⟩) | (go_at_call 91; refine (isPause_any _ _).mono ?_; rintro e w' ⟨rfl, rfl⟩) | (go_at_call 93; refine (isRegister_any _ _).mono ?_; rintro e w' ⟨rfl, rfl⟩) | (go_at_call 94; refine (isNumber_any _ _).mono ?_; rintro e w' ⟨rfl, rfl⟩) | (go_at_call 92; refine (isPlace_any _ _ _).mono ?_; rintro e w' ⟨rfl, rfl⟩))
      go_ret
      exact ⟨rfl, HB0.out _⟩
  have hs : soundI n ⟨op, a, b, c⟩ = false := by unfold soundI; simp only [h0, h1, h2, h3, h4, h5, h6, h7, h8, if_false]
  rw [hs]
  have e0 : (op == 0) = false := by simpa using h0
  have e1 : (op == 1) = false := by simpa using h1
  have e2 : (op == 2) = false := by simpa using h2
  have e3 : (op == 3) = false := by simpa using h3
  have e4 : (op == 4) = false := by simpa using h4
  have e5 : (op == 5) = false := by simpa using h5
  have e6 : (op == 6) = false := by simpa using h6
  have e7 : (op == 7) = false := by simpa using h7
  have e8 : (op == 8) = false := by simpa using h8
  clear h0 h1 h2 h3 h4 h5 h6 h7 h8 hs
  go_enter Try.func74, Try.ntmps74
  go_wp2_with fail
  go_ret
  exact ⟨rfl, HB0.out _⟩
open Go.RowKit Go.Proofs.Herald
theorem all_take_succ {α : Type} (p : α → Bool) (l : List α) (k : Nat) (h : k < l.length) (h1 : (l.take k).all p = true) (h2 : p l[k] = true) : (l.take (k + 1)).all p = true := by
  rw [List.take_succ_eq_append_getElem h, List.all_append, h1]; simp [h2]
theorem all_not {α : Type} (p : α → Bool) (l : List α) (k : Nat) (h : k < l.length) (h2 : p l[k] = false) : l.all p = false := by
  rw [List.all_eq_false]; exact ⟨l[k], List.getElem_mem h, by rw [h2]; simp⟩
theorem soundL_long {cs : List Ins} (h : 1000 < cs.length) : soundL cs = false := by unfold soundL; rw [decide_eq_false (by omega)]; rfl
theorem soundL_short {cs : List Ins} (h : cs.length ≤ 1000) : soundL cs = cs.all (soundI cs.length) := by unfold soundL; rw [decide_eq_true h]; rfl
/-- A slice that holds code. -/
def CodeIn (w : World) (a : Option Addr) (b off : Nat) (cs : List Ins) : Prop := 0 < cs.length → a = some ⟨b, off, none⟩ ∧ b < w.heap.size ∧ CodeAt w b off cs
theorem CodeIn.keep {w w' : World} {a : Option Addr} {b off : Nat} {cs : List Ins} (h : CodeIn w a b off cs) (hb : Below w.heap.size w w') : CodeIn w' a b off cs := fun hp =>
  ⟨(h hp).1, Nat.lt_of_lt_of_le (h hp).2.1 hb.size, (h hp).2.2.keep (hb.block _ (h hp).2.1)⟩
set_option maxHeartbeats 1000000 in
theorem c_sound (a : Option Addr) (b off cap : Nat) (cs : List Ins) (w : World) (hc : CodeIn w a b off cs) :
    Calls Try.prog 55 #[.slice a cs.length cap] w fun e w' => e = .returned (.bool (soundL cs)) ∧ Below w.heap.size w w' := by
  rcases Nat.lt_or_ge 1000 cs.length with hl | hl
  · have HS : Hid (soundL cs = false) := soundL_long hl
    go_enter Try.func55, Try.ntmps55
    go_wp2_with fail
    go_ret
    exact ⟨ret_bool HS.out.symm, Below.refl _ _⟩
  · have HS : Hid (soundL cs = cs.all (soundI cs.length)) := soundL_short hl
    have HC : Hid (CodeIn w a b off cs) := hc
    clear hc
    go_enter Try.func55, Try.ntmps55
    go_wp2_with fail
    go_loopw [10] (fun i wr => ∃ k : Nat, k ≤ cs.length ∧ i = .int .i64 k ∧ Hid (Below w.heap.size w wr) ∧ Hid ((cs.take k).all (soundI cs.length) = true)) (fun i _ => cs.length - (intOf i).toNat)
    case atStart => exact ⟨0, Nat.zero_le _, rfl, Below.refl _ _, by show _ = _; simp⟩
    case round =>
      obtain ⟨k, hk, rfl, HB, HT⟩ := hrel
      by_cases hlt : k < cs.length
      · obtain ⟨rfl, hblt, hca⟩ := HC.out (by omega)
        obtain ⟨c0, c1, c2, c3⟩ := (hca.keep (HB.out.block b hblt)).get k hlt
        have HI : Hid (∀ W : World, Calls Try.prog 74 #[.agg #[.int .i64 cs[k].op, .int .i64 cs[k].a, .int .i64 cs[k].b, .int .i64 cs[k].c], .int .i64 cs.length] W fun e w' => e = .returned (.bool (soundI cs.length cs[k])) ∧ Below W.heap.size W w') := fun W => c_soundInstr cs[k] cs.length W
        have HTT : Hid (soundI cs.length cs[k] = true → (cs.take (k + 1)).all (soundI cs.length) = true) := fun h => all_take_succ _ cs k hlt HT.out h
        have HFF : Hid (soundI cs.length cs[k] = false → cs.all (soundI cs.length) = false) := fun h => all_not _ cs k hlt h
        generalize cs[k].op = op at *
        generalize cs[k].a = xa at *
        generalize cs[k].b = xb at *
        generalize cs[k].c = xc at *
        generalize soundI cs.length cs[k] = S at *
        clear hca
        go_wp2_with fail
        refine (HI.out _).mono ?_
        rintro e w1 ⟨rfl, hb1⟩
        have HB1 : Hid (Below w.heap.size w w1) := (HB.out.alloc HB.out.size _).trans (hb1.mono (by have := HB.out.size; simp; omega))
        clear hb1
        cases S with
        | true =>
          go_wp2_with fail
          go_roundw
          case rel => exact ⟨k + 1, by omega, by go_num, HB1, HTT.out trivial⟩
          case measure => simp [intOf]; omega
        | false =>
          go_wp2_with fail
          go_ret
          exact ⟨ret_bool (by rw [HS.out]; exact (HFF.out trivial).symm), HB1.out⟩
      · have HE : Hid (cs.take k = cs) := List.take_of_length_le (by omega)
        go_wp2_with fail
        go_ret
        exact ⟨ret_bool (by rw [HS.out]; have h := HT.out; rw [HE.out] at h; exact h.symm), HB.out⟩
end Go.Proofs.Ytmmmnghiegajmab
/- A herald of code as plain mathematics: queues, runs, instructions. -/
namespace Go.Proofs.Herald
structure Msg where
  dev : Int
  run : Int
  num : Int
  key : Int
/-- A run: what Show tells of it, its registers, where it goes on if answered, and if not. -/
structure Pr where
  id : Int
  dev : Int
  sent : Int
  til : Int
  num : Int
  regs : List Int
  tow : Int
  els : Int
/-- The message comes into the place of one of the same run and key. -/
def putAt : List Msg → Msg → Option (List Msg)
  | [], _ => none
  | x :: r, m => if x.run = m.run ∧ x.key = m.key then some (m :: r) else (putAt r m).map (x :: ·)
def putQ (q : List Msg) (m : Msg) : Option (List Msg) :=
  match putAt q m with
  | some q' => some q'
  | none => if 4 ≤ q.length then none else some (q ++ [m])
/-- A run sends a key: the queue, the run, the message's number (0: it failed). -/
def sendP (q : List Msg) (p : Pr) (key : Int) : List Msg × Pr × Int :=
  match putQ q ⟨p.dev, p.id, p.sent + 1, key⟩ with
  | some q' => (q', { p with sent := p.sent + 1 }, p.sent + 1)
  | none => (q, p, 0)
/-- The messages of a run that are left: number 0: none of them; else all but the one. -/
def keepsM (id num : Int) (m : Msg) : Bool := (m.run != id) || ((num != 0) && (m.num != num))
def takeQ (q : List Msg) (id num : Int) : List Msg := q.filter (keepsM id num)
def hasQ (q : List Msg) (id num : Int) : Bool := q.any fun m => m.run == id && m.num == num
def stopP (p : Pr) (now n num : Int) : Pr := { p with til := now + n, num := num }
def regP (p : Pr) (r : Int) : Int := p.regs.getD r.toNat 0
def setP (p : Pr) (r v : Int) : Pr := { p with regs := p.regs.set r.toNat v }
/-- One instruction of a run at pc: the queue, the run, where it goes on (-1: it stops or ends), has it ended. -/
def stepP (now : Int) (x : Ins) (pc : Int) (q : List Msg) (p : Pr) : List Msg × Pr × Int × Bool :=
  if x.op = 1 then ((sendP q p x.a).1, (sendP q p x.a).2.1, pc + 1, false)
  else if x.op = 2 then (q, { stopP p now x.a 0 with els := pc + 1 }, -1, false)
  else if x.op = 3 then
    (if (sendP q p x.a).2.2 = 0 then ((sendP q p x.a).1, (sendP q p x.a).2.1, x.c, false)
     else ((sendP q p x.a).1, { stopP (sendP q p x.a).2.1 now x.b (sendP q p x.a).2.2 with tow := pc + 1, els := x.c }, -1, false))
  else if x.op = 4 then (q, setP p x.a x.b, pc + 1, false)
  else if x.op = 5 then (q, setP p x.a (if 1000000 < 2 * regP p x.a then 1000000 else 2 * regP p x.a), pc + 1, false)
  else if x.op = 6 then ((sendP q p x.a).1, { stopP (sendP q p x.a).2.1 now (maxI 1 (regP p x.b)) (sendP q p x.a).2.2 with tow := x.c, els := pc + 1 }, -1, false)
  else if x.op = 7 then
    (if 0 < regP p x.a then (q, setP p x.a (regP p x.a - 1), if 0 < regP p x.a - 1 then x.c else pc + 1, false) else (q, p, pc + 1, false))
  else if x.op = 8 then (q, p, x.c, false)
  else (q, p, -1, true)
/-- A run of code goes on at pc, for so many instructions at most: has it ended? -/
def runP (now : Int) (cs : List Ins) : Nat → Int → List Msg → Pr → List Msg × Pr × Bool
  | 0, _, q, p => (q, p, true)
  | f + 1, pc, q, p =>
    if h : pc.toNat < cs.length then
      (if (stepP now cs[pc.toNat] pc q p).2.2.1 < 0 then ((stepP now cs[pc.toNat] pc q p).1, (stepP now cs[pc.toNat] pc q p).2.1, (stepP now cs[pc.toNat] pc q p).2.2.2)
       else runP now cs f (stepP now cs[pc.toNat] pc q p).2.2.1 (stepP now cs[pc.toNat] pc q p).1 (stepP now cs[pc.toNat] pc q p).2.1)
    else (q, p, true)
def matchM (m x : Msg) : Prop := x.run = m.run ∧ x.key = m.key
theorem putAt_none : ∀ (q : List Msg) (m : Msg), (∀ x ∈ q, ¬ matchM m x) → putAt q m = none := by
  intro q
  induction q with
  | nil => intro m _; rfl
  | cons x r ih =>
    intro m h
    have hx : ¬ (x.run = m.run ∧ x.key = m.key) := h x (by simp)
    rw [putAt, if_neg hx, ih m (fun y hy => h y (by simp [hy]))]; rfl
theorem putAt_at : ∀ (q : List Msg) (m : Msg) (k : Nat) (hk : k < q.length), (∀ x ∈ q.take k, ¬ matchM m x) → matchM m q[k] → putAt q m = some (q.set k m) := by
  intro q
  induction q with
  | nil => intro m k hk; simp at hk
  | cons x r ih =>
    intro m k hk h hm
    cases k with
    | zero =>
      have hx : x.run = m.run ∧ x.key = m.key := hm
      rw [putAt, if_pos hx]; rfl
    | succ k =>
      have hx : ¬ (x.run = m.run ∧ x.key = m.key) := h x (by simp)
      rw [putAt, if_neg hx, ih m k (by simpa using hk) (fun y hy => h y (by simp [hy])) (by simpa using hm)]
      rfl
theorem sendP_len (q : List Msg) (p : Pr) (key : Int) (h : q.length ≤ 4) : (sendP q p key).1.length ≤ 4 := by
  have hset : ∀ (q : List Msg) (m : Msg) (q' : List Msg), putAt q m = some q' → q'.length = q.length := by
    intro q
    induction q with
    | nil => intro m q' h; cases h
    | cons x r ih =>
      intro m q' h
      rw [putAt] at h
      split at h
      · cases h; rfl
      · cases hr : putAt r m with
        | none => rw [hr] at h; cases h
        | some r' => rw [hr] at h; cases h; simp [ih m r' hr]
  unfold sendP putQ
  cases hp : putAt q ⟨p.dev, p.id, p.sent + 1, key⟩ with
  | some q' => simp only; rw [hset _ _ _ hp]; exact h
  | none =>
    simp only
    by_cases hl : 4 ≤ q.length
    · rw [if_pos hl]; exact h
    · rw [if_neg hl]; simp; omega
theorem sendP_kept (q : List Msg) (p : Pr) (key : Int) : (sendP q p key).2.1.regs = p.regs ∧ (sendP q p key).2.1.id = p.id ∧ (sendP q p key).2.1.dev = p.dev ∧ p.sent ≤ (sendP q p key).2.1.sent ∧ (sendP q p key).2.1.sent ≤ p.sent + 1 := by
  unfold sendP
  split
  · exact ⟨rfl, rfl, rfl, by simp only; omega, Int.le_refl _⟩
  · exact ⟨rfl, rfl, rfl, by simp only; omega, by simp only; omega⟩
/-- The registers of a run keep their bounds. -/
def RegsOk (p : Pr) : Prop := ∀ z ∈ p.regs, 0 ≤ z ∧ z ≤ 1000000
theorem RegsOk.get {p : Pr} (h : RegsOk p) (j : Int) : 0 ≤ regP p j ∧ regP p j ≤ 1000000 := by
  unfold regP
  by_cases hj : j.toNat < p.regs.length
  · have e : p.regs.getD j.toNat 0 = p.regs[j.toNat] := by simp [hj]
    rw [e]; exact h _ (List.getElem_mem hj)
  · have e : p.regs.getD j.toNat 0 = 0 := by simp [hj]
    rw [e]; decide
theorem RegsOk.set {p : Pr} (h : RegsOk p) (j v : Int) (h0 : 0 ≤ v) (h1 : v ≤ 1000000) : RegsOk (setP p j v) := fun z hz => by
  rcases List.mem_or_eq_of_mem_set hz with hz | hz
  · exact h z hz
  · rw [hz]; exact ⟨h0, h1⟩
theorem within_parts {n lo hi : Int} (h : withinB n lo hi = true) : lo ≤ n ∧ n ≤ hi := by
  unfold withinB at h
  simpa using h
/-- What an instruction leaves as it was, and what it keeps within bounds. -/
structure StepOk (n : Int) (q : List Msg) (p : Pr) (r : List Msg × Pr × Int × Bool) : Prop where
  regs : RegsOk r.2.1
  id : r.2.1.id = p.id
  dev : r.2.1.dev = p.dev
  sent0 : p.sent ≤ r.2.1.sent
  sent1 : r.2.1.sent ≤ p.sent + 1
  len : r.1.length ≤ 4
  pc : r.2.2.1 = -1 ∨ (0 ≤ r.2.2.1 ∧ r.2.2.1 ≤ n)
  done : r.2.2.2 = true → r.2.2.1 = -1
theorem stepOk_plain {n : Int} {q : List Msg} {p p' : Pr} {pc : Int} {f : Bool} (hq : q.length ≤ 4) (hr : RegsOk p') (hi : p'.id = p.id) (hd : p'.dev = p.dev) (hs : p'.sent = p.sent) (hpc : pc = -1 ∨ (0 ≤ pc ∧ pc ≤ n)) (hf : f = true → pc = -1) : StepOk n q p (q, p', pc, f) :=
  ⟨hr, hi, hd, by simp only; omega, by simp only; omega, hq, hpc, hf⟩
theorem stepOk_send {n : Int} {q : List Msg} {p p' : Pr} {key pc : Int} (hq : q.length ≤ 4) (hr : RegsOk p) (hp1 : p'.regs = (sendP q p key).2.1.regs) (hp2 : p'.id = (sendP q p key).2.1.id) (hp3 : p'.dev = (sendP q p key).2.1.dev) (hp4 : p'.sent = (sendP q p key).2.1.sent) (hpc : pc = -1 ∨ (0 ≤ pc ∧ pc ≤ n)) :
    StepOk n q p ((sendP q p key).1, p', pc, false) := by
  obtain ⟨h1, h2, h3, h4, h5⟩ := sendP_kept q p key
  refine ⟨fun z hz => hr z ?_, by rw [hp2]; exact h2, by rw [hp3]; exact h3, by rw [hp4]; exact h4, by rw [hp4]; exact h5, sendP_len q p key hq, hpc, fun h => by cases h⟩
  have : p'.regs = p.regs := hp1.trans h1
  rwa [← this]
theorem stepP_ok {n : Int} {now : Int} {x : Ins} {pc : Int} {q : List Msg} {p : Pr} (hx : soundI n x = true) (h0 : 0 ≤ pc) (h1 : pc < n) (hr : RegsOk p) (hq : q.length ≤ 4) : StepOk n q p (stepP now x pc q p) := by
  have hnext : pc + 1 = -1 ∨ (0 ≤ pc + 1 ∧ pc + 1 ≤ n) := .inr ⟨by omega, by omega⟩
  unfold soundI at hx
  unfold stepP
  by_cases g0 : x.op = 0
  · rw [if_neg (by omega), if_neg (by omega), if_neg (by omega), if_neg (by omega), if_neg (by omega), if_neg (by omega), if_neg (by omega), if_neg (by omega)]
    exact stepOk_plain hq hr rfl rfl rfl (.inl rfl) (fun _ => rfl)
  rw [if_neg g0] at hx
  by_cases g1 : x.op = 1
  · rw [if_pos g1]
    exact stepOk_send hq hr rfl rfl rfl rfl hnext
  rw [if_neg g1] at hx ⊢
  by_cases g2 : x.op = 2
  · rw [if_pos g2]
    exact stepOk_plain hq hr rfl rfl rfl (.inl rfl) (fun h => by cases h)
  rw [if_neg g2] at hx ⊢
  by_cases g3 : x.op = 3
  · rw [if_pos g3] at hx ⊢
    simp only [Bool.and_eq_true] at hx
    have hc := within_parts hx.2
    split
    · exact stepOk_send hq hr rfl rfl rfl rfl (.inr hc)
    · exact stepOk_send hq hr rfl rfl rfl rfl (.inl rfl)
  rw [if_neg g3] at hx ⊢
  by_cases g4 : x.op = 4
  · rw [if_pos g4] at hx ⊢
    simp only [Bool.and_eq_true] at hx
    have hb := within_parts hx.1.2
    exact stepOk_plain hq (hr.set _ _ hb.1 (by omega)) rfl rfl rfl hnext (fun h => by cases h)
  rw [if_neg g4] at hx ⊢
  by_cases g5 : x.op = 5
  · rw [if_pos g5]
    have hg := hr.get x.a
    exact stepOk_plain hq (hr.set _ _ (by split <;> omega) (by split <;> omega)) rfl rfl rfl hnext (fun h => by cases h)
  rw [if_neg g5] at hx ⊢
  by_cases g6 : x.op = 6
  · rw [if_pos g6]
    exact stepOk_send hq hr rfl rfl rfl rfl (.inl rfl)
  rw [if_neg g6] at hx ⊢
  by_cases g7 : x.op = 7
  · rw [if_pos g7] at hx ⊢
    simp only [Bool.and_eq_true] at hx
    have hc := within_parts hx.2
    have hg := hr.get x.a
    split
    · refine stepOk_plain hq (hr.set _ _ (by omega) (by omega)) rfl rfl rfl ?_ (fun h => by cases h)
      split
      · exact .inr hc
      · exact hnext
    · exact stepOk_plain hq hr rfl rfl rfl hnext (fun h => by cases h)
  rw [if_neg g7] at hx ⊢
  by_cases g8 : x.op = 8
  · rw [if_pos g8] at hx ⊢
    simp only [Bool.and_eq_true] at hx
    have hc := within_parts hx.2
    exact stepOk_plain hq hr rfl rfl rfl (.inr hc) (fun h => by cases h)
  rw [if_neg g8] at hx
  cases hx
/-- A stopped run goes on, answered or not. -/
def onP (now : Int) (cs : List Ins) (yes : Bool) (q : List Msg) (p : Pr) : List Msg × Pr × Bool :=
  if yes then runP now cs 10000 p.tow q { p with num := 0 }
  else if 0 < p.num then runP now cs 10000 p.els (takeQ q p.id p.num) { p with num := 0 }
  else runP now cs 10000 p.els q { p with num := 0 }
def PcsOk (n : Int) (p : Pr) : Prop := 0 ≤ p.tow ∧ p.tow ≤ n ∧ 0 ≤ p.els ∧ p.els ≤ n
/-- Where it goes on lies in the code; if it stopped, till a later time. -/
structure StepOk2 (n now : Int) (r : List Msg × Pr × Int × Bool) : Prop where
  pcs : PcsOk n r.2.1
  stop : r.2.2.1 = -1 → r.2.2.2 = false → now < r.2.1.til ∧ r.2.1.til ≤ now + 1000000
theorem sendP_pcs (q : List Msg) (p : Pr) (key n : Int) (h : PcsOk n p) : PcsOk n (sendP q p key).2.1 := by
  unfold sendP
  split
  · exact h
  · exact h
theorem stepP_ok2 {n : Int} {now : Int} {x : Ins} {pc : Int} {q : List Msg} {p : Pr} (hx : soundI n x = true) (h0 : 0 ≤ pc) (h1 : pc < n) (hr : RegsOk p) (hp : PcsOk n p) : StepOk2 n now (stepP now x pc q p) := by
  unfold soundI at hx
  unfold stepP
  by_cases g0 : x.op = 0
  · rw [if_neg (by omega), if_neg (by omega), if_neg (by omega), if_neg (by omega), if_neg (by omega), if_neg (by omega), if_neg (by omega), if_neg (by omega)]
    exact ⟨hp, fun _ h => by cases h⟩
  rw [if_neg g0] at hx
  by_cases g1 : x.op = 1
  · rw [if_pos g1]
    exact ⟨sendP_pcs _ _ _ _ hp, fun h => by simp only at h; omega⟩
  rw [if_neg g1] at hx ⊢
  by_cases g2 : x.op = 2
  · rw [if_pos g2] at hx ⊢
    simp only [Bool.and_eq_true] at hx
    have ha := within_parts hx.1.1
    exact ⟨⟨hp.1, hp.2.1, by simp only; omega, by simp only; omega⟩, fun _ _ => ⟨by simp only [stopP]; omega, by simp only [stopP]; omega⟩⟩
  rw [if_neg g2] at hx ⊢
  by_cases g3 : x.op = 3
  · rw [if_pos g3] at hx ⊢
    simp only [Bool.and_eq_true] at hx
    have hb := within_parts hx.1.2
    have hc := within_parts hx.2
    split
    · exact ⟨sendP_pcs _ _ _ _ hp, fun h => by simp only at h; omega⟩
    · exact ⟨⟨by simp only; omega, by simp only; omega, hc.1, hc.2⟩, fun _ _ => ⟨by simp only [stopP]; omega, by simp only [stopP]; omega⟩⟩
  rw [if_neg g3] at hx ⊢
  by_cases g4 : x.op = 4
  · rw [if_pos g4]
    exact ⟨hp, fun h => by simp only at h; omega⟩
  rw [if_neg g4] at hx ⊢
  by_cases g5 : x.op = 5
  · rw [if_pos g5]
    exact ⟨hp, fun h => by simp only at h; omega⟩
  rw [if_neg g5] at hx ⊢
  by_cases g6 : x.op = 6
  · rw [if_pos g6] at hx ⊢
    simp only [Bool.and_eq_true] at hx
    have hc := within_parts hx.2
    have hg := hr.get x.b
    have hm : 1 ≤ maxI 1 (regP p x.b) ∧ maxI 1 (regP p x.b) ≤ 1000000 := by
      unfold maxI
      split
      · omega
      · omega
    exact ⟨⟨hc.1, hc.2, by simp only; omega, by simp only; omega⟩, fun _ _ => ⟨by simp only [stopP]; omega, by simp only [stopP]; omega⟩⟩
  rw [if_neg g6] at hx ⊢
  by_cases g7 : x.op = 7
  · rw [if_pos g7] at hx ⊢
    simp only [Bool.and_eq_true] at hx
    have hc := within_parts hx.2
    split
    · refine ⟨hp, fun h => ?_⟩
      simp only at h
      split at h
      · omega
      · omega
    · exact ⟨hp, fun h => by simp only at h; omega⟩
  rw [if_neg g7] at hx ⊢
  by_cases g8 : x.op = 8
  · rw [if_pos g8] at hx ⊢
    simp only [Bool.and_eq_true] at hx
    have hc := within_parts hx.2
    exact ⟨hp, fun h => by simp only at h; omega⟩
  rw [if_neg g8] at hx
  cases hx
/-- What a run leaves, when it has stopped or ended. -/
structure RunOk (n now : Int) (f : Nat) (p : Pr) (r : List Msg × Pr × Bool) : Prop where
  regs : RegsOk r.2.1
  pcs : PcsOk n r.2.1
  id : r.2.1.id = p.id
  dev : r.2.1.dev = p.dev
  sent0 : p.sent ≤ r.2.1.sent
  sent1 : r.2.1.sent ≤ p.sent + f
  len : r.1.length ≤ 4
  stop : r.2.2 = false → now < r.2.1.til ∧ r.2.1.til ≤ now + 1000000
theorem runP_ok {now : Int} {cs : List Ins} (hall : ∀ x ∈ cs, soundI cs.length x = true) : ∀ (f : Nat) (pc : Int) (q : List Msg) (p : Pr), 0 ≤ pc → RegsOk p → PcsOk cs.length p → q.length ≤ 4 → RunOk cs.length now f p (runP now cs f pc q p) := by
  intro f
  induction f with
  | zero =>
    intro pc q p _ hr hp hq
    rw [runP]
    exact ⟨hr, hp, rfl, rfl, Int.le_refl _, by simp only; omega, hq, fun h => by cases h⟩
  | succ f ih =>
    intro pc q p h0 hr hp hq
    rw [runP]
    split
    · next hlt =>
      have k1 := stepP_ok (now := now) (hall _ (List.getElem_mem hlt)) h0 (by omega) hr hq
      have k2 := stepP_ok2 (now := now) (q := q) (hall _ (List.getElem_mem hlt)) h0 (by omega) hr hp
      have s0 := k1.sent0
      have s1 := k1.sent1
      split
      · next hneg =>
        refine ⟨k1.regs, k2.pcs, k1.id, k1.dev, s0, by simp only; omega, k1.len, fun hd => ?_⟩
        rcases k1.pc with h | h
        · exact k2.stop h hd
        · omega
      · next hneg =>
        have hpc : 0 ≤ (stepP now cs[pc.toNat] pc q p).2.2.1 := by omega
        have k3 := ih _ (stepP now cs[pc.toNat] pc q p).1 (stepP now cs[pc.toNat] pc q p).2.1 hpc k1.regs k2.pcs k1.len
        have t0 := k3.sent0
        have t1 := k3.sent1
        exact ⟨k3.regs, k3.pcs, k3.id.trans k1.id, k3.dev.trans k1.dev, by omega, by omega, k3.len, k3.stop⟩
    · exact ⟨hr, hp, rfl, rfl, Int.le_refl _, by simp only; omega, hq, fun h => by cases h⟩
theorem onP_ok {now : Int} {cs : List Ins} (hall : ∀ x ∈ cs, soundI cs.length x = true) (yes : Bool) (q : List Msg) (p : Pr) (hr : RegsOk p) (hp : PcsOk cs.length p) (hq : q.length ≤ 4) : RunOk cs.length now 10000 p (onP now cs yes q p) := by
  have key : ∀ (pc : Int) (q' : List Msg), 0 ≤ pc → q'.length ≤ 4 → RunOk cs.length now 10000 p (runP now cs 10000 pc q' { p with num := 0 }) := fun pc q' h0 hq' => by
    have k := runP_ok (now := now) hall 10000 pc q' { p with num := 0 } h0 hr hp hq'
    exact ⟨k.regs, k.pcs, k.id, k.dev, k.sent0, k.sent1, k.len, k.stop⟩
  unfold onP
  split
  · exact key _ _ hp.1 hq
  · split
    · exact key _ _ hp.2.2.1 (Nat.le_trans (List.length_filter_le _ _) hq)
    · exact key _ _ hp.2.2.1 hq
end Go.Proofs.Herald
/- A herald as plain mathematics, over any kind of run; two heralds whose runs do the same. -/
namespace Go.Proofs.Herald
/-- What Show tells of a run. -/
structure Rn where
  id : Int
  dev : Int
  sent : Int
  til : Int
  num : Int
/-- A kind of runs: what is told of one; how one begins; how one goes on, at a time, answered or not: the queue, the run, has it ended. -/
structure Eng (R : Type) where
  pub : R → Rn
  fresh : Int → Int → R
  start : Int → List Msg → R → List Msg × R × Bool
  on : Int → Bool → List Msg → R → List Msg × R × Bool
structure Her (R : Type) where
  now : Int
  last : Int
  qs : Nat → List Msg
  rs : List R
def updQ (f : Nat → List Msg) (d : Nat) (v : List Msg) (k : Nat) : List Msg := if k = d then v else f k
def afterR {R : Type} (E : Eng R) (rs : List R) (r : R) (done : Bool) : List R :=
  if done then rs.filter (fun y => (E.pub y).id != (E.pub r).id) else rs.map (fun y => if (E.pub y).id = (E.pub r).id then r else y)
/-- Trigger: the run's number, the error, the herald. -/
def trigH {R : Type} (E : Eng R) (h : Her R) (dev : Int) : Int × Int × Her R :=
  if ¬ (0 ≤ dev ∧ dev ≤ 2) then (0, 8, h)
  else if 5 ≤ h.rs.length then (0, 9, h)
  else (h.last + 1, 0, { h with
    last := h.last + 1
    qs := updQ h.qs dev.toNat (E.start h.now (h.qs dev.toNat) (E.fresh (h.last + 1) dev)).1
    rs := afterR E (h.rs ++ [E.fresh (h.last + 1) dev]) (E.start h.now (h.qs dev.toNat) (E.fresh (h.last + 1) dev)).2.1 (E.start h.now (h.qs dev.toNat) (E.fresh (h.last + 1) dev)).2.2 })
/-- A run goes on. -/
def goH {R : Type} (E : Eng R) (h : Her R) (r : R) (yes : Bool) : Her R :=
  { h with
    qs := updQ h.qs (E.pub r).dev.toNat (E.on h.now yes (h.qs (E.pub r).dev.toNat) r).1
    rs := afterR E h.rs (E.on h.now yes (h.qs (E.pub r).dev.toNat) r).2.1 (E.on h.now yes (h.qs (E.pub r).dev.toNat) r).2.2 }
/-- Of two runs the one that goes on first, up to a time. -/
def dueF {R : Type} (E : Eng R) (en : Int) (o : Option R) (x : R) : Option R :=
  if (E.pub x).til ≤ en then (match o with | none => some x | some b => if (E.pub x).til < (E.pub b).til then some x else some b) else o
def dueR {R : Type} (E : Eng R) (en : Int) (l : List R) : Option R := l.foldl (dueF E en) none
def tickN {R : Type} (E : Eng R) (en : Int) : Nat → Her R → Her R
  | 0, h => h
  | f + 1, h => match dueR E en h.rs with
    | none => h
    | some r => tickN E en f (goH E { h with now := (E.pub r).til } r false)
/-- Tick: the error, the herald. -/
def tickH {R : Type} (E : Eng R) (h : Her R) (n : Int) : Int × Her R :=
  if ¬ (1 ≤ n ∧ n ≤ 999) ∨ 1000000000 < h.now + n then (14, h)
  else (0, { tickN E (h.now + n) 5000 h with now := h.now + n })
def findR {R : Type} (E : Eng R) (rs : List R) (id : Int) : Option R := rs.find? fun x => (E.pub x).id == id
def ackH {R : Type} (E : Eng R) (h : Her R) (id num : Int) : Int × Her R :=
  match findR E h.rs id with
  | none => (10, h)
  | some r =>
    if num = 0 ∨ (E.pub r).num ≠ num then (11, h)
    else if hasQ (h.qs (E.pub r).dev.toNat) id num then (12, h)
    else (0, goH E h r true)
def cancelH {R : Type} (E : Eng R) (h : Her R) (id : Int) : Int × Her R :=
  match findR E h.rs id with
  | none => (10, h)
  | some r => (0, { h with qs := updQ h.qs (E.pub r).dev.toNat (takeQ (h.qs (E.pub r).dev.toNat) id 0), rs := h.rs.filter (fun y => (E.pub y).id != id) })
def drainH {R : Type} (h : Her R) (dev : Int) : Msg × Int × Her R :=
  if ¬ (0 ≤ dev ∧ dev ≤ 2) then (⟨0, 0, 0, 0⟩, 8, h)
  else match h.qs dev.toNat with
    | [] => (⟨0, 0, 0, 0⟩, 13, h)
    | m :: r => (m, 0, { h with qs := updQ h.qs dev.toNat r })
def newH {R : Type} : Her R := ⟨0, 0, fun _ => [], []⟩
/-- What two kinds of runs have in common. -/
structure SameEng {R S : Type} (E : Eng R) (F : Eng S) (ρ : R → S → Prop) : Prop where
  pub : ∀ a b, ρ a b → E.pub a = F.pub b
  start : ∀ now q id dev, ((E.start now q (E.fresh id dev)).1 = (F.start now q (F.fresh id dev)).1) ∧ (E.start now q (E.fresh id dev)).2.2 = (F.start now q (F.fresh id dev)).2.2 ∧
    (E.pub (E.start now q (E.fresh id dev)).2.1).id = id ∧ (F.pub (F.start now q (F.fresh id dev)).2.1).id = id ∧ ((E.start now q (E.fresh id dev)).2.2 = false → ρ (E.start now q (E.fresh id dev)).2.1 (F.start now q (F.fresh id dev)).2.1)
  fresh : ∀ id dev, (E.pub (E.fresh id dev)).id = id ∧ (F.pub (F.fresh id dev)).id = id
  on : ∀ a b, ρ a b → ∀ now yes q, (yes = true → (E.pub a).num ≠ 0) → ((E.on now yes q a).1 = (F.on now yes q b).1) ∧ (E.on now yes q a).2.2 = (F.on now yes q b).2.2 ∧
    (E.pub (E.on now yes q a).2.1).id = (E.pub a).id ∧ (F.pub (F.on now yes q b).2.1).id = (F.pub b).id ∧ ((E.on now yes q a).2.2 = false → ρ (E.on now yes q a).2.1 (F.on now yes q b).2.1)
end Go.Proofs.Herald
