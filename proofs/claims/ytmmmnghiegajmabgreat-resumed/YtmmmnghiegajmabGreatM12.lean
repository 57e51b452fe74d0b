import Derived.Test.YtmmmnghiegajmabGreatM11
import Derived.Test.YtmmmnghiegajmabGreatM09
/- Texts that raw numbers spell, as plain mathematics: they have no fault. -/
namespace Go.Proofs.Herald
abbrev Wd := List UInt8
/-- A block that is spelled: its words, its statements, the numbers and the bytes that are left. -/
abbrev SpR (T : Type) := List Wd × T × List Nat × Int
/-- The blocks of ask and retry. -/
def ansS {T : Type} (sb : List Nat → Int → SpR T) (nil : T) (v : Nat) (vs : List Nat) (left : Int) : List Wd × (T × T) × List Nat × Int :=
  if v % 3 = 0 then (kOpen :: ((sb vs left).1 ++ [kShut]), ((sb vs left).2.1, nil), (sb vs left).2.2)
  else (kOpen :: ((sb vs left).1 ++ kShut :: kElse :: kOpen :: ((sb (sb vs left).2.2.1 (sb vs left).2.2.2).1 ++ [kShut])), ((sb vs left).2.1, (sb (sb vs left).2.2.1 (sb vs left).2.2.2).2.1), (sb (sb vs left).2.2.1 (sb vs left).2.2.2).2.2)
/-- What one number spells; none: the block is over. -/
def stepS {T : Type} (sub : Option (List Nat → Int → SpR T)) (nil : T) (top : Bool) (v : Nat) (vs : List Nat) (left : Int) : Option (SpR (List (Hd × T × T))) :=
  if v % 11 ≤ 2 then (if 7 ≤ left then some ([kSend, letterB (v / 11)], [(hSend (v / 11 % 8 : Nat), nil, nil)], vs, left - 7) else some ([], [], vs, left))
  else if v % 11 ≤ 4 then (if 7 ≤ left then some ([kWait, digitsB (1 + v / 88 % 9)], [(hWait (1 + v / 88 % 9 : Nat), nil, nil)], vs, left - 7) else some ([], [], vs, left))
  else if v % 11 ≤ 6 then
    (match sub with
    | none => some ([], [], vs, left)
    | some sb => if 24 ≤ left then some ([kAsk, letterB (v / 11), digitsB (1 + v / 88 % 9)] ++ (ansS sb nil (v / 792) vs (left - 24)).1, [(hAsk (v / 11 % 8 : Nat) (1 + v / 88 % 9 : Nat), (ansS sb nil (v / 792) vs (left - 24)).2.1.1, (ansS sb nil (v / 792) vs (left - 24)).2.1.2)], (ansS sb nil (v / 792) vs (left - 24)).2.2) else some ([], [], vs, left))
  else if v % 11 = 7 then
    (match sub with
    | none => some ([], [], vs, left)
    | some sb => if 28 ≤ left then some ([kRetry, digitsB (1 + v / 792 % 2), letterB (v / 11), digitsB (1 + v / 88 % 9)] ++ (ansS sb nil (v / 792) vs (left - 28)).1, [(hRetry (1 + v / 792 % 2 : Nat) (v / 11 % 8 : Nat) (1 + v / 88 % 9 : Nat), (ansS sb nil (v / 792) vs (left - 28)).2.1.1, (ansS sb nil (v / 792) vs (left - 28)).2.1.2)], (ansS sb nil (v / 792) vs (left - 28)).2.2) else some ([], [], vs, left))
  else if v % 11 = 8 then
    (match sub with
    | none => some ([], [], vs, left)
    | some sb => if 14 ≤ left then some ([kRepeat, digitsB (1 + v / 88 % 3)] ++ (kOpen :: ((sb vs (left - 14)).1 ++ [kShut])), [(hRepeat (1 + v / 88 % 3 : Nat), (sb vs (left - 14)).2.1, nil)], (sb vs (left - 14)).2.2) else some ([], [], vs, left))
  else if v % 11 = 9 then (if v / 11 % 4 = 0 ∧ 5 ≤ left then some ([kStop], [(hStop, nil, nil)], vs, left - 5) else some ([], [], vs, left))
  else if top then some ([], [], vs, left) else none
def blkS {T : Type} (sub : Option (List Nat → Int → SpR T)) (nil : T) (top : Bool) : Nat → List Nat → Int → SpR (List (Hd × T × T))
  | 0, vs, left => ([], [], vs, left)
  | _ + 1, [], left => ([], [], [], left)
  | f + 1, v :: vs, left => match stepS sub nil top v vs left with
    | none => ([], [], vs, left)
    | some p => (p.1 ++ (blkS sub nil top f p.2.2.1 p.2.2.2).1, p.2.1 ++ (blkS sub nil top f p.2.2.1 p.2.2.2).2.1, (blkS sub nil top f p.2.2.1 p.2.2.2).2.2)
/-- A block above which 3 - d lie. -/
def spT : (d : Nat) → Bool → List Nat → Int → SpR (Tree (d + 2))
  | 0, top, vs, left => blkS none (nilT 1) top vs.length vs left
  | d + 1, top, vs, left => blkS (some (spT d false)) (nilT (d + 2)) top vs.length vs left
def LB (b : Int) (x : Int × Int) : Prop := x.1 ≤ b ∧ x.2 ≤ b
def FL (b : Int) (l : List (Int × Int)) : Prop := ∀ (A : Int) (acc : Int × Int), 0 ≤ A → LB A acc → LB (A + b) (foldI acc l)
theorem behind_le {a b A B : Int} (ha : a ≤ A) (hb : b ≤ B) (hA : 0 ≤ A) (hB : 0 ≤ B) : behindI a b ≤ A + B := by
  unfold behindI
  split <;> omega
theorem max_le {a b B : Int} (ha : a ≤ B) (hb : b ≤ B) : maxI a b ≤ B := by
  unfold maxI
  split <;> omega
theorem FL.nil {b : Int} (hb : 0 ≤ b) : FL b [] := fun A acc _ h => ⟨by show acc.1 ≤ _; have := h.1; omega, by show acc.2 ≤ _; have := h.2; omega⟩
theorem FL.cons {b c : Int} {a : Int × Int} {l : List (Int × Int)} (hc : 0 ≤ c) (ha : LB c a) (hl : FL b l) : FL (c + b) (a :: l) := fun A acc hA h => by
  have h1 := hl (A + c) (behindI acc.1 a.1, maxI acc.2 (behindI acc.1 a.2)) (by omega) ⟨behind_le h.1 ha.1 hA hc, max_le (by have := h.2; omega) (behind_le h.1 ha.2 hA hc)⟩
  rw [foldI, ← Int.add_assoc]
  exact h1
theorem FL.mono {b c : Int} {l : List (Int × Int)} (h : FL b l) (hb : b ≤ c) : FL c l := fun A acc hA h2 => by
  have h3 := h A acc hA h2
  exact ⟨by have := h3.1; omega, by have := h3.2; omega⟩
theorem LB.mono {b c : Int} {x : Int × Int} (h : LB b x) (hb : b ≤ c) : LB c x := ⟨by have := h.1; omega, by have := h.2; omega⟩
/-- A spelled block has no fault: of its words, its size, its depth, its repeats, how long it lasts. -/
structure PG (e : Nat) (c m : Int) (kk : Nat) (vs : List Nat) (left : Int) (R : SpR (Tree e)) : Prop where
  ag : AG dict e R.1 R.2.1
  wd : ∀ u ∈ R.1, WordB u
  sz : ((sp R.1).length : Int) + R.2.2.2 ≤ left
  l0 : 0 ≤ R.2.2.2
  dp : ∀ k, k ≤ kk → Dp dict e R.2.1 k
  hv : ∀ n, 0 ≤ n → n * m ≤ 64 → heavyT dict e R.2.1 n = -1
  ls : LB (c * (left - R.2.2.2)) (lastsT dict e R.2.1)
  vs : R.2.2.1.length ≤ vs.length
/-- One statement. -/
structure PS (e : Nat) (c m : Int) (kk : Nat) (b : Int) (us : List Wd) (x : Hd × Tree e × Tree e) : Prop where
  ag : ∀ (ur : List Wd) (r : List (Hd × Tree e × Tree e)), AL dict (AG dict e) (nilT e) ur r → AL dict (AG dict e) (nilT e) (us ++ ur) (x :: r)
  wd : ∀ u ∈ us, WordB u
  sz : ((sp us).length : Int) ≤ b
  dp : ∀ k, k ≤ kk → (k < 4 ∨ bytesOf dict x.1.p = kSend ∨ bytesOf dict x.1.p = kWait ∨ bytesOf dict x.1.p = kStop) ∧ Dp dict e x.2.1 (k + 1) ∧ Dp dict e x.2.2 (k + 1)
  hv : ∀ (n : Int) (r : List (Hd × Tree e × Tree e)), 0 ≤ n → n * m ≤ 64 → heavyL dict (heavyT dict e) r n = -1 → heavyL dict (heavyT dict e) (x :: r) n = -1
  ls : LB (c * b) (oneI dict x.1 (lastsT dict e x.2.1) (lastsT dict e x.2.2))
theorem dp_nil (e k : Nat) : Dp dict e (nilT e) k := by
  cases e with
  | zero => trivial
  | succ e => intro x hx; cases hx
theorem hv_nil (e : Nat) (n : Int) : heavyT dict e (nilT e) n = -1 := by
  cases e with
  | zero => rfl
  | succ e => rfl
theorem ls_nil (e : Nat) : lastsT dict e (nilT e) = (0, -1) := by
  cases e with
  | zero => rfl
  | succ e => rfl
theorem heavy_plain {e : Nat} {x : Hd × Tree e × Tree e} {n : Int} {r : List (Hd × Tree e × Tree e)} (h : ¬ bytesOf dict x.1.p = kRepeat) (h1 : heavyT dict e x.2.1 n = -1) (h2 : heavyT dict e x.2.2 n = -1) (h3 : heavyL dict (heavyT dict e) r n = -1) : heavyL dict (heavyT dict e) (x :: r) n = -1 := by
  rw [heavyL, if_neg h, if_neg (by rw [h1]; decide), if_neg (by rw [h2]; decide), h3]
theorem heavy_rep {e : Nat} {x : Hd × Tree e × Tree e} {n : Int} {r : List (Hd × Tree e × Tree e)} (h : bytesOf dict x.1.p = kRepeat) (hn : n * x.1.n ≤ 64) (h1 : heavyT dict e x.2.1 (n * x.1.n) = -1) (h2 : heavyT dict e x.2.2 (n * x.1.n) = -1) (h3 : heavyL dict (heavyT dict e) r n = -1) : heavyL dict (heavyT dict e) (x :: r) n = -1 := by
  rw [heavyL, if_pos h, if_neg (by omega), if_neg (by rw [h1]; decide), if_neg (by rw [h2]; decide), h3]
/-- Three parts of the head's words. -/
theorem wd3 {a b c : Wd} {l : List Wd} (ha : WordB a) (hb : WordB b) (hc : WordB c) (hl : ∀ u ∈ l, WordB u) : ∀ u ∈ [a, b, c] ++ l, WordB u := by
  intro u hu
  simp only [List.cons_append, List.nil_append, List.mem_cons] at hu
  rcases hu with rfl | rfl | rfl | h
  · exact ha
  · exact hb
  · exact hc
  · exact hl u h
theorem sp_len_cons (u : Wd) (r : List Wd) : (sp (u :: r)).length = u.length + 1 + (sp r).length := by rw [sp_cons]; simp; omega
theorem sp_len_app (a b : List Wd) : (sp (a ++ b)).length = (sp a).length + (sp b).length := by rw [sp_append]; simp
theorem dig1 {n : Nat} (h : n < 10) : (digitsB n).length = 1 := by unfold digitsB; rw [if_pos h]; rfl
section
variable {e : Nat} {c m : Int} {kk : Nat}
theorem ps_send (v : Nat) (hc : 2 ≤ c) : PS e c m kk 7 [kSend, letterB v] (hSend (v % 8 : Nat), nilT e, nilT e) := by
  obtain ⟨w1, w2, w3, w4, w5, w6, w7, w8, w9⟩ := word_kinds
  have hk := keyL_letter v
  refine ⟨fun ur r h => ?_, ?_, ?_, fun k _ => ⟨.inr (.inl dSend), dp_nil _ _, dp_nil _ _⟩, fun n r _ _ h => heavy_plain (by rw [show bytesOf dict (hSend (v % 8 : Nat)).p = kSend from dSend]; decide) (hv_nil _ _) (hv_nil _ _) h, ?_⟩
  · have h2 := AL.send (sub := AG dict e) (nil := nilT e) (q := letterB v) (by rw [hk]; omega) h
    rw [hk] at h2
    exact h2
  · intro u hu
    simp only [List.mem_cons, List.not_mem_nil, or_false] at hu
    rcases hu with rfl | rfl
    · exact w1
    · exact word_letter _
  · simp [sp, kSend, letterB]
  · rw [oneI_send (h := hSend (v % 8 : Nat)) _ _ dSend]
    exact ⟨by show (0 : Int) ≤ _; omega, by show (-1 : Int) ≤ _; omega⟩
theorem ps_wait (n : Nat) (h1 : 1 ≤ n) (h2 : n ≤ 9) (hc : 2 ≤ c) : PS e c m kk 7 [kWait, digitsB n] (hWait n, nilT e, nilT e) := by
  obtain ⟨w1, w2, w3, w4, w5, w6, w7, w8, w9⟩ := word_kinds
  have hk := numL_digits (n := n) (by omega)
  refine ⟨fun ur r h => ?_, ?_, ?_, fun k _ => ⟨.inr (.inr (.inl dWait)), dp_nil _ _, dp_nil _ _⟩, fun n' r _ _ h => heavy_plain (by rw [show bytesOf dict (hWait n).p = kWait from dWait]; decide) (hv_nil _ _) (hv_nil _ _) h, ?_⟩
  · have h3 := AL.wait (sub := AG dict e) (nil := nilT e) (q := digitsB n) (by rw [hk]; omega) (by rw [hk]; omega) h
    rw [hk] at h3
    exact h3
  · intro u hu
    simp only [List.mem_cons, List.not_mem_nil, or_false] at hu
    rcases hu with rfl | rfl
    · exact w2
    · exact word_digits (by omega)
  · rw [sp_len_cons, sp_len_cons, dig1 (by omega)]
    simp [sp, kWait]
  · rw [oneI_wait (h := hWait n) _ _ dWait]
    exact ⟨by show (n : Int) ≤ _; omega, by show (-1 : Int) ≤ _; omega⟩
theorem ps_stop (hc : 2 ≤ c) : PS e c m kk 5 [kStop] (hStop, nilT e, nilT e) := by
  obtain ⟨w1, w2, w3, w4, w5, w6, w7, w8, w9⟩ := word_kinds
  refine ⟨fun ur r h => AL.stop h, ?_, ?_, fun k _ => ⟨.inr (.inr (.inr dStop)), dp_nil _ _, dp_nil _ _⟩, fun n' r _ _ h => heavy_plain (by rw [show bytesOf dict hStop.p = kStop from dStop]; decide) (hv_nil _ _) (hv_nil _ _) h, ?_⟩
  · intro u hu
    rw [List.mem_singleton.mp hu]
    exact w3
  · simp [sp, kStop]
  · rw [oneI_stop (h := hStop) _ _ dStop]
    exact ⟨by show (-1 : Int) ≤ _; omega, by show (0 : Int) ≤ _; omega⟩
end
/-- The blocks of an ask or a retry. -/
structure PA (e : Nat) (c m : Int) (kk : Nat) (vs : List Nat) (left : Int) (R : List Wd × (Tree e × Tree e) × List Nat × Int) : Prop where
  ag : (∃ ua, R.1 = kOpen :: (ua ++ [kShut]) ∧ AG dict e ua R.2.1.1 ∧ R.2.1.2 = nilT e) ∨ (∃ ua ub, R.1 = kOpen :: (ua ++ kShut :: kElse :: kOpen :: (ub ++ [kShut])) ∧ AG dict e ua R.2.1.1 ∧ AG dict e ub R.2.1.2)
  wd : ∀ u ∈ R.1, WordB u
  sz : ((sp R.1).length : Int) + R.2.2.2 ≤ left + 13
  l0 : 0 ≤ R.2.2.2
  le : R.2.2.2 ≤ left
  dp : ∀ k, k ≤ kk → Dp dict e R.2.1.1 k ∧ Dp dict e R.2.1.2 k
  hv : ∀ n, 0 ≤ n → n * m ≤ 64 → heavyT dict e R.2.1.1 n = -1 ∧ heavyT dict e R.2.1.2 n = -1
  ls : LB (c * (left - R.2.2.2)) (lastsT dict e R.2.1.1) ∧ LB (c * (left - R.2.2.2)) (lastsT dict e R.2.1.2)
  vs : R.2.2.1.length ≤ vs.length
theorem mul_mono {c a b : Int} (hc : 0 ≤ c) (h : a ≤ b) : c * a ≤ c * b := Int.mul_le_mul_of_nonneg_left h hc
theorem pa_ans {e : Nat} {c m : Int} {kk : Nat} {sb : List Nat → Int → SpR (Tree e)} (hc : 0 ≤ c) (hs : ∀ vs left, 0 ≤ left → PG e c m kk vs left (sb vs left)) (v : Nat) (vs : List Nat) (left : Int) (h0 : 0 ≤ left) : PA e c m kk vs left (ansS sb (nilT e) v vs left) := by
  obtain ⟨w1, w2, w3, w4, w5, w6, w7, w8, w9⟩ := word_kinds
  have A := hs vs left h0
  unfold ansS
  generalize sb vs left = RA at *
  have hA := A.sz
  by_cases hv : v % 3 = 0
  · rw [if_pos hv]
    refine ⟨.inl ⟨_, rfl, A.ag, rfl⟩, ?_, ?_, A.l0, by show RA.2.2.2 ≤ left; omega, fun k hk => ⟨A.dp k hk, dp_nil _ _⟩, fun n hn hn2 => ⟨A.hv n hn hn2, hv_nil _ _⟩, ⟨A.ls, ?_⟩, A.vs⟩
    · intro u hu
      simp only [List.mem_cons, List.mem_append, List.not_mem_nil, or_false] at hu
      rcases hu with rfl | h | rfl
      · exact w8
      · exact A.wd u h
      · exact w9
    · show ((sp (kOpen :: (RA.1 ++ [kShut]))).length : Int) + RA.2.2.2 ≤ left + 13
      rw [sp_len_cons, sp_len_app, sp_len_cons]
      simp only [kOpen, kShut, sp, List.length_cons, List.length_nil, List.flatMap_nil]
      simp only [sp] at hA
      omega
    · show LB _ (lastsT dict e (nilT e))
      rw [ls_nil]
      have h1 := mul_mono hc (show 0 ≤ left - RA.2.2.2 by omega)
      rw [Int.mul_zero] at h1
      exact ⟨h1, by show (-1 : Int) ≤ c * (left - RA.2.2.2); omega⟩
  · rw [if_neg hv]
    have B := hs RA.2.2.1 RA.2.2.2 A.l0
    generalize sb RA.2.2.1 RA.2.2.2 = RB at *
    have hB := B.sz
    refine ⟨.inr ⟨_, _, rfl, A.ag, B.ag⟩, ?_, ?_, B.l0, by show RB.2.2.2 ≤ left; omega, fun k hk => ⟨A.dp k hk, B.dp k hk⟩, fun n hn hn2 => ⟨A.hv n hn hn2, B.hv n hn hn2⟩, ⟨A.ls.mono (mul_mono hc ?_), B.ls.mono (mul_mono hc ?_)⟩, Nat.le_trans B.vs A.vs⟩
    · intro u hu
      simp only [List.mem_cons, List.mem_append, List.not_mem_nil, or_false] at hu
      rcases hu with rfl | h | rfl | rfl | rfl | h | rfl
      · exact w8
      · exact A.wd u h
      · exact w9
      · exact w7
      · exact w8
      · exact B.wd u h
      · exact w9
    · show ((sp (kOpen :: (RA.1 ++ kShut :: kElse :: kOpen :: (RB.1 ++ [kShut])))).length : Int) + RB.2.2.2 ≤ left + 13
      rw [sp_len_cons, sp_len_app, sp_len_cons, sp_len_cons, sp_len_cons, sp_len_app, sp_len_cons]
      simp only [kOpen, kShut, kElse, sp, List.length_cons, List.length_nil, List.flatMap_nil]
      simp only [sp] at hA hB
      omega
    · show left - RA.2.2.2 ≤ left - RB.2.2.2
      omega
    · show RA.2.2.2 - RB.2.2.2 ≤ left - RB.2.2.2
      omega
theorem two_le {T a b A : Int} (hT0 : 0 ≤ T) (ha : a ≤ A) (hb : b ≤ A) (hA : 0 ≤ A) : maxI (behindI (T - 1) a) (behindI T b) ≤ T + A := by
  refine max_le ?_ (behind_le (Int.le_refl _) hb hT0 hA)
  unfold behindI
  split <;> omega
theorem more_le {c x : Int} (hc : 2 ≤ c) (hx : 0 ≤ x) {T k : Int} (hT : T ≤ 2 * k) (hk : 0 ≤ k) : T + c * x ≤ 3 * c * (k + x) := by
  have e : 3 * c * (k + x) = 3 * (c * k) + 3 * (c * x) := by rw [Int.mul_add, Int.mul_assoc 3 c x, Int.mul_assoc 3 c k]
  have h1 := mul_mono (show 0 ≤ c by omega) hx
  rw [Int.mul_zero] at h1
  have h2 : 2 * k ≤ c * k := Int.mul_le_mul_of_nonneg_right hc hk
  rw [e]
  omega
theorem times3 {n m : Int} : n * (3 * m) = 3 * (n * m) := by rw [Int.mul_left_comm]
theorem heavy_sub {n m : Int} (hn : 0 ≤ n) (hm : 0 ≤ m) (h : n * (3 * m) ≤ 64) : n * m ≤ 64 := by
  rw [times3] at h
  have : 0 ≤ n * m := Int.mul_nonneg hn hm
  omega
theorem ps_ask {e : Nat} {c m : Int} {kk : Nat} (k n : Nat) (h1 : 1 ≤ n) (h2 : n ≤ 9) (hc : 2 ≤ c) (hm : 0 ≤ m) (hk4 : kk ≤ 3) {vs : List Nat} {left : Int} {R : List Wd × (Tree e × Tree e) × List Nat × Int} (P : PA e c m (kk + 1) vs left R) :
    PS e (3 * c) (3 * m) kk (24 + (left - R.2.2.2)) ([kAsk, letterB k, digitsB n] ++ R.1) (hAsk (k % 8 : Nat) n, R.2.1.1, R.2.1.2) := by
  obtain ⟨w1, w2, w3, w4, w5, w6, w7, w8, w9⟩ := word_kinds
  have hk := keyL_letter k
  have hn := numL_digits (n := n) (by omega)
  have hle := P.le
  refine ⟨fun ur r h => ?_, wd3 w4 (word_letter _) (word_digits (by omega)) P.wd, ?_, fun k' hk' => ⟨.inl (by omega), P.dp (k' + 1) (by omega)⟩, fun n' r hn' hm' h => ?_, ?_⟩
  · rcases P.ag with ⟨ua, e1, e2, e3⟩ | ⟨ua, ub, e1, e2, e3⟩
    · have h3 := AL.ask (sub := AG dict e) (nil := nilT e) (q := letterB k) (s := digitsB n) (by rw [hk]; omega) (by rw [hn]; omega) (by rw [hn]; omega) e2 h
      rw [hk, hn] at h3
      rw [e1, e3]
      simpa using h3
    · have h3 := AL.ask2 (sub := AG dict e) (nil := nilT e) (q := letterB k) (s := digitsB n) (by rw [hk]; omega) (by rw [hn]; omega) (by rw [hn]; omega) e2 e3 h
      rw [hk, hn] at h3
      rw [e1]
      simpa using h3
  · have := P.sz
    have e1 : (sp [kAsk, letterB k, digitsB n]).length = 8 := by rw [sp_len_cons, sp_len_cons, sp_len_cons, dig1 (by omega)]; rfl
    rw [sp_len_app, e1]
    omega
  · have h3 := P.hv n' hn' (heavy_sub hn' hm hm')
    exact heavy_plain (by rw [show bytesOf dict (hAsk (k % 8 : Nat) n).p = kAsk from dAsk]; decide) h3.1 h3.2 h
  · rw [oneI_ask (h := hAsk (k % 8 : Nat) n) _ _ dAsk rfl]
    have hA := mul_mono (show 0 ≤ c by omega) (show 0 ≤ left - R.2.2.2 by omega)
    rw [Int.mul_zero] at hA
    have h3 := more_le hc (show 0 ≤ left - R.2.2.2 by omega) (T := (n : Nat)) (k := 24) (by omega) (by omega)
    exact ⟨Int.le_trans (two_le (T := (n : Nat)) (by omega) P.ls.1.1 P.ls.2.1 hA) h3, Int.le_trans (two_le (T := (n : Nat)) (by omega) P.ls.1.2 P.ls.2.2 hA) h3⟩
theorem ps_retry {e : Nat} {c m : Int} {kk : Nat} (k n j : Nat) (h1 : 1 ≤ n) (h2 : n ≤ 9) (j1 : 1 ≤ j) (j2 : j ≤ 2) (hc : 2 ≤ c) (hm : 0 ≤ m) (hk4 : kk ≤ 3) {vs : List Nat} {left : Int} {R : List Wd × (Tree e × Tree e) × List Nat × Int} (P : PA e c m (kk + 1) vs left R) :
    PS e (3 * c) (3 * m) kk (28 + (left - R.2.2.2)) ([kRetry, digitsB j, letterB k, digitsB n] ++ R.1) (hRetry j (k % 8 : Nat) n, R.2.1.1, R.2.1.2) := by
  obtain ⟨w1, w2, w3, w4, w5, w6, w7, w8, w9⟩ := word_kinds
  have hk := keyL_letter k
  have hn := numL_digits (n := n) (by omega)
  have hj := numL_digits (n := j) (by omega)
  have hle := P.le
  refine ⟨fun ur r h => ?_, ?_, ?_, fun k' hk' => ⟨.inl (by omega), P.dp (k' + 1) (by omega)⟩, fun n' r hn' hm' h => ?_, ?_⟩
  · rcases P.ag with ⟨ua, e1, e2, e3⟩ | ⟨ua, ub, e1, e2, e3⟩
    · have h3 := AL.retry (sub := AG dict e) (nil := nilT e) (u := digitsB j) (q := letterB k) (s := digitsB n) (by rw [hj]; omega) (by rw [hj]; omega) (by rw [hk]; omega) (by rw [hn]; omega) (by rw [hn]; omega) e2 h
      rw [hk, hn, hj] at h3
      rw [e1, e3]
      simpa using h3
    · have h3 := AL.retry2 (sub := AG dict e) (nil := nilT e) (u := digitsB j) (q := letterB k) (s := digitsB n) (by rw [hj]; omega) (by rw [hj]; omega) (by rw [hk]; omega) (by rw [hn]; omega) (by rw [hn]; omega) e2 e3 h
      rw [hk, hn, hj] at h3
      rw [e1]
      simpa using h3
  · intro u hu
    rcases List.mem_cons.mp (show u ∈ kRetry :: ([digitsB j, letterB k, digitsB n] ++ R.1) from hu) with rfl | hu
    · exact w5
    · exact wd3 (word_digits (by omega)) (word_letter _) (word_digits (by omega)) P.wd u hu
  · have := P.sz
    have e1 : (sp [kRetry, digitsB j, letterB k, digitsB n]).length = 12 := by rw [sp_len_cons, sp_len_cons, sp_len_cons, sp_len_cons, dig1 (by omega), dig1 (by omega)]; rfl
    rw [sp_len_app, e1]
    omega
  · have h3 := P.hv n' hn' (heavy_sub hn' hm hm')
    exact heavy_plain (by rw [show bytesOf dict (hRetry j (k % 8 : Nat) n).p = kRetry from dRetry]; decide) h3.1 h3.2 h
  · rw [oneI_retry (h := hRetry j (k % 8 : Nat) n) _ _ dRetry]
    have e1 : (hRetry j (k % 8 : Nat) n).n = (n : Nat) := rfl
    have e2 : (hRetry j (k % 8 : Nat) n).m = (j : Nat) := rfl
    have hT : 0 ≤ triesI (n : Nat) ((j : Int) - 1).toNat ∧ triesI (n : Nat) ((j : Int) - 1).toNat ≤ 27 := by
      have h4 : j = 1 ∨ j = 2 := by omega
      rcases h4 with rfl | rfl
      · show 0 ≤ (n : Int) ∧ (n : Int) ≤ 27
        omega
      · show 0 ≤ 2 * (n : Int) + n ∧ 2 * (n : Int) + n ≤ 27
        omega
    rw [e1, e2]
    have hA := mul_mono (show 0 ≤ c by omega) (show 0 ≤ left - R.2.2.2 by omega)
    rw [Int.mul_zero] at hA
    have h3 := more_le hc (show 0 ≤ left - R.2.2.2 by omega) (T := triesI (n : Nat) ((j : Int) - 1).toNat) (k := 28) (by omega) (by omega)
    exact ⟨Int.le_trans (two_le hT.1 P.ls.1.1 P.ls.2.1 hA) h3, Int.le_trans (two_le hT.1 P.ls.1.2 P.ls.2.2 hA) h3⟩
theorem rounds_le {a : Int × Int} {A : Int} (hA : 0 ≤ A) (ha : LB A a) : ∀ (n : Nat) (acc : Int × Int) (B : Int), 0 ≤ B → LB B acc → LB (B + n * A) (rounds n acc a)
  | 0, acc, B, hB, h => by
    rw [rounds]
    simpa using h
  | n + 1, acc, B, hB, h => by
    have h1 := rounds_le hA ha n (behindI acc.1 a.1, maxI acc.2 (behindI acc.1 a.2)) (B + A) (by omega) ⟨behind_le h.1 ha.1 hB hA, max_le (by have := h.2; omega) (behind_le h.1 ha.2 hB hA)⟩
    rw [rounds]
    refine h1.mono ?_
    rw [Int.natCast_add, Int.add_mul]
    omega
theorem ps_repeat {e : Nat} {c m : Int} {kk : Nat} (n : Nat) (h1 : 1 ≤ n) (h2 : n ≤ 3) (hc : 2 ≤ c) (hm : 1 ≤ m) (hk4 : kk ≤ 3) {vs : List Nat} {left : Int} {R : SpR (Tree e)} (P : PG e c m (kk + 1) vs left R) :
    PS e (3 * c) (3 * m) kk (14 + (left - R.2.2.2)) ([kRepeat, digitsB n] ++ (kOpen :: (R.1 ++ [kShut]))) (hRepeat n, R.2.1, nilT e) := by
  obtain ⟨w1, w2, w3, w4, w5, w6, w7, w8, w9⟩ := word_kinds
  have hn := numL_digits (n := n) (by omega)
  have hs := P.sz
  refine ⟨fun ur r h => ?_, ?_, ?_, fun k' hk' => ⟨.inl (by omega), P.dp (k' + 1) (by omega), dp_nil _ _⟩, fun n' r hn' hm' h => ?_, ?_⟩
  · have h3 := AL.repeat (sub := AG dict e) (nil := nilT e) (q := digitsB n) (by rw [hn]; omega) (by rw [hn]; omega) P.ag h
    rw [hn] at h3
    simpa using h3
  · intro u hu
    simp only [List.cons_append, List.nil_append, List.mem_cons, List.mem_append, List.not_mem_nil, or_false] at hu
    rcases hu with rfl | rfl | rfl | h | rfl
    · exact w6
    · exact word_digits (by omega)
    · exact w8
    · exact P.wd u h
    · exact w9
  · have e1 : (sp [kRepeat, digitsB n]).length = 9 := by rw [sp_len_cons, sp_len_cons, dig1 (by omega)]; rfl
    rw [sp_len_app, e1, sp_len_cons, sp_len_app, sp_len_cons]
    simp only [kOpen, kShut, sp, List.length_cons, List.length_nil, List.flatMap_nil]
    simp only [sp] at hs
    omega
  · have h0 : n' * n ≤ 3 * n' := by
      have h4 := mul_mono hn' (show (n : Int) ≤ 3 by omega)
      omega
    have hb : n' * n * m ≤ 64 := by
      have h4 : n' * n * m ≤ 3 * n' * m := Int.mul_le_mul_of_nonneg_right h0 (by omega)
      have e5 : 3 * n' * m = 3 * (n' * m) := Int.mul_assoc _ _ _
      rw [e5] at h4
      rw [times3] at hm'
      omega
    have hp : 0 ≤ n' * n := Int.mul_nonneg hn' (by omega)
    have hb2 : n' * n ≤ 64 := by
      have h4 := mul_mono hp hm
      omega
    exact heavy_rep (x := (hRepeat n, R.2.1, nilT e)) dRepeat hb2 (P.hv _ hp hb) (hv_nil _ _) h
  · rw [oneI_repeat (h := hRepeat n) _ _ dRepeat]
    have hA := mul_mono (show 0 ≤ c by omega) (show 0 ≤ left - R.2.2.2 by omega)
    rw [Int.mul_zero] at hA
    have h3 := rounds_le hA P.ls n (0, -1) 0 (by omega) ⟨Int.le_refl _, by show (-1 : Int) ≤ 0; omega⟩
    refine h3.mono ?_
    have e2 : 3 * c * (14 + (left - R.2.2.2)) = 42 * c + 3 * (c * (left - R.2.2.2)) := by rw [Int.mul_add, Int.mul_assoc 3 c (left - R.2.2.2)]; omega
    have h4 : (n : Int) * (c * (left - R.2.2.2)) ≤ 3 * (c * (left - R.2.2.2)) := Int.mul_le_mul_of_nonneg_right (by omega) hA
    rw [e2]
    omega
/-- The statements one behind the other. -/
structure PL (e : Nat) (c m : Int) (kk : Nat) (vs : List Nat) (left : Int) (R : SpR (List (Hd × Tree e × Tree e))) : Prop where
  ag : AL dict (AG dict e) (nilT e) R.1 R.2.1
  wd : ∀ u ∈ R.1, WordB u
  sz : ((sp R.1).length : Int) + R.2.2.2 ≤ left
  l0 : 0 ≤ R.2.2.2
  dp : ∀ k, k ≤ kk → ∀ x ∈ R.2.1, (k < 4 ∨ bytesOf dict x.1.p = kSend ∨ bytesOf dict x.1.p = kWait ∨ bytesOf dict x.1.p = kStop) ∧ Dp dict e x.2.1 (k + 1) ∧ Dp dict e x.2.2 (k + 1)
  hv : ∀ n, 0 ≤ n → n * m ≤ 64 → heavyL dict (heavyT dict e) R.2.1 n = -1
  ls : FL (c * (left - R.2.2.2)) (R.2.1.map fun x => oneI dict x.1 (lastsT dict e x.2.1) (lastsT dict e x.2.2))
  vs : R.2.2.1.length ≤ vs.length
theorem PL.pg {e : Nat} {c m : Int} {kk : Nat} {vs : List Nat} {left : Int} {R : SpR (List (Hd × Tree e × Tree e))} (P : PL e c m kk vs left R) : PG (e + 1) c m kk vs left R :=
  ⟨P.ag, P.wd, P.sz, P.l0, P.dp, P.hv, by have h := P.ls 0 (0, -1) (Int.le_refl _) ⟨Int.le_refl _, by show (-1 : Int) ≤ 0; omega⟩; rw [Int.zero_add] at h; exact h, P.vs⟩
theorem PL.none {e : Nat} {c m : Int} {kk : Nat} {vs vs' : List Nat} {left : Int} (h0 : 0 ≤ left) (hv : vs'.length ≤ vs.length) : PL e c m kk vs left ([], [], vs', left) :=
  ⟨rfl, fun u hu => (by cases hu), by simp [sp], h0, fun k _ x hx => (by cases hx), fun n _ _ => rfl, by
    have e : left - (([], [], vs', left) : SpR (List (Hd × Tree e × Tree e))).2.2.2 = 0 := by show left - left = 0; omega
    rw [e, Int.mul_zero]
    exact FL.nil (Int.le_refl _), hv⟩
theorem PL.cons {e : Nat} {c m : Int} {kk : Nat} {vs vs1 : List Nat} {left left1 b : Int} {us : List Wd} {x : Hd × Tree e × Tree e} {R : SpR (List (Hd × Tree e × Tree e))} (hc : 0 ≤ c) (hb : b = left - left1) (hb0 : 0 ≤ b) (S : PS e c m kk b us x) (P : PL e c m kk vs1 left1 R) (hv : vs1.length ≤ vs.length) : PL e c m kk vs left (us ++ R.1, [x] ++ R.2.1, R.2.2) := by
  have hs := P.sz
  refine ⟨S.ag _ _ P.ag, fun u hu => ?_, ?_, P.l0, fun k hk y hy => ?_, fun n hn hn2 => S.hv n _ hn hn2 (P.hv n hn hn2), ?_, Nat.le_trans P.vs hv⟩
  · rcases List.mem_append.mp hu with h | h
    · exact S.wd u h
    · exact P.wd u h
  · show ((sp (us ++ R.1)).length : Int) + R.2.2.2 ≤ left
    have := S.sz
    rw [sp_len_app]
    omega
  · rcases List.mem_cons.mp (show y ∈ x :: R.2.1 from hy) with rfl | h
    · exact S.dp k hk
    · exact P.dp k hk y h
  · have h1 := mul_mono hc hb0
    rw [Int.mul_zero] at h1
    have e1 : c * (left - R.2.2.2) = c * b + c * (left1 - R.2.2.2) := by rw [← Int.mul_add]; congr 1; omega
    show FL (c * (left - R.2.2.2)) ((x :: R.2.1).map _)
    rw [e1]
    exact FL.cons h1 S.ls P.ls
/-- One number, and the rest. -/
theorem step_ok {e : Nat} {c m M : Int} {kk : Nat} {sub : Option (List Nat → Int → SpR (Tree e))} (hc : 2 ≤ c) (hm : 1 ≤ m) (hM : ∀ sb, sub = some sb → M = 3 * m) (hk4 : kk ≤ 3) (hs : ∀ sb, sub = some sb → ∀ vs left, 0 ≤ left → PG e c m (kk + 1) vs left (sb vs left)) (top : Bool) (v : Nat) (vs : List Nat) (left : Int) (h0 : 0 ≤ left) :
    ∀ p, stepS sub (nilT e) top v vs left = some p → 0 ≤ p.2.2.2 ∧ p.2.2.1.length ≤ vs.length ∧ ∀ R, PL e (3 * c) M kk p.2.2.1 p.2.2.2 R → PL e (3 * c) M kk vs left (p.1 ++ R.1, p.2.1 ++ R.2.1, R.2.2) := by
  have skip : ∀ p : SpR (List (Hd × Tree e × Tree e)), some (([], [], vs, left) : SpR (List (Hd × Tree e × Tree e))) = some p → 0 ≤ p.2.2.2 ∧ p.2.2.1.length ≤ vs.length ∧ ∀ R, PL e (3 * c) M kk p.2.2.1 p.2.2.2 R → PL e (3 * c) M kk vs left (p.1 ++ R.1, p.2.1 ++ R.2.1, R.2.2) := by
    rintro p hp
    cases hp
    exact ⟨h0, Nat.le_refl _, fun R P => P⟩
  intro p hp
  unfold stepS at hp
  split at hp
  · split at hp
    · cases hp
      exact ⟨by show 0 ≤ left - 7; omega, Nat.le_refl _, fun R P => PL.cons (by omega) (by show (7 : Int) = left - (left - 7); omega) (by omega) (ps_send _ (by omega)) P (Nat.le_refl _)⟩
    · exact skip p hp
  split at hp
  · split at hp
    · cases hp
      exact ⟨by show 0 ≤ left - 7; omega, Nat.le_refl _, fun R P => PL.cons (by omega) (by show (7 : Int) = left - (left - 7); omega) (by omega) (ps_wait _ (by omega) (by omega) (by omega)) P (Nat.le_refl _)⟩
    · exact skip p hp
  split at hp
  · cases sub with
    | none => exact skip p hp
    | some sb =>
      obtain rfl := hM sb rfl
      simp only at hp
      split at hp
      · have A := pa_ans (by omega) (hs sb rfl) (v / 792) vs (left - 24) (by omega)
        have hle := A.le
        generalize ansS sb (nilT e) (v / 792) vs (left - 24) = A0 at *
        cases hp
        exact ⟨A.l0, A.vs, fun R P => PL.cons (by omega) (by show 24 + ((left - 24) - A0.2.2.2) = left - A0.2.2.2; omega) (by omega) (ps_ask _ _ (by omega) (by omega) hc (by omega) hk4 A) P A.vs⟩
      · exact skip p hp
  split at hp
  · cases sub with
    | none => exact skip p hp
    | some sb =>
      obtain rfl := hM sb rfl
      simp only at hp
      split at hp
      · have A := pa_ans (by omega) (hs sb rfl) (v / 792) vs (left - 28) (by omega)
        have hle := A.le
        generalize ansS sb (nilT e) (v / 792) vs (left - 28) = A0 at *
        cases hp
        exact ⟨A.l0, A.vs, fun R P => PL.cons (by omega) (by show 28 + ((left - 28) - A0.2.2.2) = left - A0.2.2.2; omega) (by omega) (ps_retry _ _ _ (by omega) (by omega) (by omega) (by omega) hc (by omega) hk4 A) P A.vs⟩
      · exact skip p hp
  split at hp
  · cases sub with
    | none => exact skip p hp
    | some sb =>
      obtain rfl := hM sb rfl
      simp only at hp
      split at hp
      · have A := hs sb rfl vs (left - 14) (by omega)
        have hsz := A.sz
        generalize sb vs (left - 14) = A0 at *
        cases hp
        exact ⟨A.l0, A.vs, fun R P => PL.cons (by omega) (by show 14 + ((left - 14) - A0.2.2.2) = left - A0.2.2.2; omega) (by omega) (ps_repeat _ (by omega) (by omega) hc hm hk4 A) P A.vs⟩
      · exact skip p hp
  split at hp
  · split at hp
    · cases hp
      exact ⟨by show 0 ≤ left - 5; omega, Nat.le_refl _, fun R P => PL.cons (by omega) (by show (5 : Int) = left - (left - 5); omega) (by omega) (ps_stop (by omega)) P (Nat.le_refl _)⟩
    · exact skip p hp
  split at hp
  · exact skip p hp
  · cases hp
theorem blk_ok {e : Nat} {c m M : Int} {kk : Nat} {sub : Option (List Nat → Int → SpR (Tree e))} (hc : 2 ≤ c) (hm : 1 ≤ m) (hM : ∀ sb, sub = some sb → M = 3 * m) (hk4 : kk ≤ 3) (hs : ∀ sb, sub = some sb → ∀ vs left, 0 ≤ left → PG e c m (kk + 1) vs left (sb vs left)) (top : Bool) :
    ∀ (f : Nat) (vs : List Nat) (left : Int), 0 ≤ left → PL e (3 * c) M kk vs left (blkS sub (nilT e) top f vs left)
  | 0, vs, left, h0 => PL.none h0 (Nat.le_refl _)
  | _ + 1, [], left, h0 => PL.none h0 (Nat.le_refl _)
  | f + 1, v :: vs, left, h0 => by
    have h1 := step_ok hc hm hM hk4 hs top v vs left h0
    rw [blkS]
    cases hp : stepS sub (nilT e) top v vs left with
    | none => exact PL.none h0 (by simp)
    | some p =>
      obtain ⟨h2, h3, h4⟩ := h1 p hp
      have h5 := h4 _ (blk_ok hc hm hM hk4 hs top f p.2.2.1 p.2.2.2 h2)
      exact ⟨h5.ag, h5.wd, h5.sz, h5.l0, h5.dp, h5.hv, h5.ls, Nat.le_trans h5.vs (by simp)⟩
theorem spT_ok : ∀ (d : Nat), d ≤ 3 → ∀ (top : Bool) (vs : List Nat) (left : Int), 0 ≤ left → PG (d + 2) (6 * 3 ^ d) (3 ^ d) (3 - d) vs left (spT d top vs left)
  | 0, _, top, vs, left, h0 => (blk_ok (c := 2) (m := 1) (kk := 3) (by omega) (by omega) (fun sb h => by cases h) (by omega) (fun sb h => by cases h) top vs.length vs left h0).pg
  | d + 1, hd, top, vs, left, h0 => by
    have ih := spT_ok d (by omega) false
    have e1 : 3 - d = 3 - (d + 1) + 1 := by omega
    rw [e1] at ih
    have hp : (1 : Int) ≤ 3 ^ d := Int.pow_pos (by omega)
    have e2 : (6 * 3 ^ (d + 1) : Int) = 3 * (6 * 3 ^ d) := by rw [Int.pow_succ]; omega
    have e3 : (3 ^ (d + 1) : Int) = 3 * 3 ^ d := by rw [Int.pow_succ]; omega
    rw [e2, e3]
    exact (blk_ok (by omega) (by omega) (fun sb _ => rfl) (by omega) (fun sb h vs left h1 => by cases h; exact ih vs left h1) top vs.length vs left h0).pg
/-- The text that raw numbers spell. -/
theorem spelt_text {t : ByteArray} {vs : List Nat} (ht : t.data.toList = sp (spT 3 true vs 330).1) : t.size ≤ 400 ∧ ∃ tr, TextOk t tr := by
  have P := spT_ok 3 (by omega) true vs 330 (by omega)
  have e : t.data.toList.length = t.size := by simp
  have hs := P.sz
  have h0 := P.l0
  rw [← ht, e] at hs
  have hsz : t.size ≤ 400 := by omega
  have hl := P.ls
  obtain ⟨tr, h3, _⟩ := spelt_ok hsz (words_sp ht P.wd) P.ag (P.dp 0 (by omega)) (P.hv 1 (by omega) (by decide)) (by
    have h1 := hl.1
    have h2 := hl.2
    have h3 : (6 * 3 ^ 3 : Int) * (330 - (spT 3 true vs 330).2.2.2) ≤ 53460 := by
      have e4 : (6 * 3 ^ 3 : Int) = 162 := by decide
      rw [e4]
      omega
    exact Int.not_lt.mpr (Int.le_trans (max_le (Int.le_trans h1 h3) (Int.le_trans h2 h3)) (by omega)))
  exact ⟨hsz, tr, h3⟩
end Go.Proofs.Herald
/- Every run of a text ends when its longest way has gone by. -/
namespace Go.Proofs.Herald
def orI (a b : Int × Int) : Int × Int := (maxI a.1 b.1, maxI a.2 b.2)
structure Nm (a : Int × Int) : Prop where
  l1 : -1 ≤ a.1
  l2 : -1 ≤ a.2
  pos : 0 ≤ a.1 ∨ 0 ≤ a.2
theorem max_cases (a b : Int) : (b < a ∧ maxI a b = a) ∨ (a ≤ b ∧ maxI a b = b) := by
  unfold maxI
  split
  · rename_i h; exact .inl ⟨h, rfl⟩
  · rename_i h; exact .inr ⟨by omega, rfl⟩
theorem Nm.or {a b : Int × Int} (ha : Nm a) (hb : Nm b) : Nm (orI a b) := by
  obtain ⟨a1, a2⟩ := a
  obtain ⟨b1, b2⟩ := b
  obtain ⟨h1, h2, h3⟩ := ha
  obtain ⟨h4, h5, h6⟩ := hb
  have h7 := max_cases a1 b1
  have h8 := max_cases a2 b2
  simp only at *
  refine ⟨?_, ?_, ?_⟩ <;> simp only [orI] <;> omega
theorem LB.or {b : Int} {p q : Int × Int} (h : LB b (orI p q)) : LB b p ∧ LB b q := by
  obtain ⟨p1, p2⟩ := p
  obtain ⟨q1, q2⟩ := q
  obtain ⟨h4, h5⟩ := h
  have h7 := max_cases p1 q1
  have h8 := max_cases p2 q2
  simp only [orI] at *
  refine ⟨⟨?_, ?_⟩, ?_, ?_⟩ <;> simp only <;> omega
theorem LB.le {b : Int} {p : Int × Int} (h : LB b p) (hp : Nm p) : 0 ≤ b := by
  obtain ⟨h1, h2, h3⟩ := hp
  obtain ⟨h4, h5⟩ := h
  omega
end Go.Proofs.Herald
