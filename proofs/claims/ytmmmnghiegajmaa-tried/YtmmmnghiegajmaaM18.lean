import Derived.Test.YtmmmnghiegajmaaM11
import Derived.Test.YtmmmnghiegajmaaM10
/- The text of the law Tried: it has no fault, its code, and what a herald of that code does. -/
namespace Go.Proofs.Herald
def triY (k m n : Nat) : Tree 5 := [(hRetry m (k % 8 : Nat) n, [(hSend ((k + 1) % 8 : Nat), [], [])], [(hSend ((k + 2) % 8 : Nat), [], [])])]
def triU (k m n : Nat) : List (List UInt8) := [kRetry, digitsB m, letterB k, digitsB n, kOpen, kSend, letterB (k + 1), kShut, kElse, kOpen, kSend, letterB (k + 2)]
def triC (k m n : Nat) : List Ins := [⟨4, 4, m, 0⟩, ⟨4, 5, n, 0⟩, ⟨6, (k % 8 : Nat), 5, 7⟩, ⟨5, 5, 0, 0⟩, ⟨7, 4, 0, 2⟩, ⟨1, ((k + 2) % 8 : Nat), 0, 0⟩, ⟨8, 0, 0, 8⟩, ⟨1, ((k + 1) % 8 : Nat), 0, 0⟩]
theorem tri_words (k m n : Nat) (m1 : 1 ≤ m) (m2 : m ≤ 6) (h1 : 1 ≤ n) (h2 : n ≤ 999) : AG dict 5 (triU k m n ++ [kShut]) (triY k m n) := by
  have hd := numL_digits (n := n) (by omega)
  have hm := numL_digits (n := m) (by omega)
  have hk := keyL_letter
  have h := AL.retry2 (sub := AG dict 4) (nil := nilT 4) (ur := []) (r := []) (u := digitsB m) (q := letterB k) (s := digitsB n) (ua := [kSend, letterB (k + 1)]) (ua2 := [kSend, letterB (k + 2)])
    (a := [(hSend ((k + 1) % 8 : Nat), [], [])]) (b := [(hSend ((k + 2) % 8 : Nat), [], [])]) (by rw [hm]; omega) (by rw [hm]; omega) (by rw [hk]; omega) (by rw [hd]; omega) (by rw [hd]; omega) ?_ ?_ rfl
  · rw [hk, hd, hm] at h
    exact h
  · have e := AL.send (sub := AG dict 3) (nil := nilT 3) (q := letterB (k + 1)) (ur := []) (r := []) (by rw [hk]; omega) rfl
    rw [hk] at e
    exact e
  · have e := AL.send (sub := AG dict 3) (nil := nilT 3) (q := letterB (k + 2)) (ur := []) (r := []) (by rw [hk]; omega) rfl
    rw [hk] at e
    exact e
theorem tri_code (k m n : Nat) : compT dict 5 (triY k m n) 0 0 = triC k m n := by
  have key : ∀ a b c d e : Int, compT dict 5 ([(hRetry a b c, [(hSend d, [], [])], [(hSend e, [], [])])] : List (Hd × Tree 4 × Tree 4)) 0 0 = [⟨4, 4, a, 0⟩, ⟨4, 5, c, 0⟩, ⟨6, b, 5, 7⟩, ⟨5, 5, 0, 0⟩, ⟨7, 4, 0, 2⟩, ⟨1, e, 0, 0⟩, ⟨8, 0, 0, 8⟩, ⟨1, d, 0, 0⟩] := by
    intro a b c d e
    kernel_rfl
  exact key _ _ _ _ _
theorem two_ways (T : Int) (hT : 1 ≤ T) : (maxI (behindI (T - 1) 0) (behindI T 0), maxI (behindI (T - 1) (-1)) (behindI T (-1))) = (T, -1) := by
  have a1 : behindI (T - 1) 0 = T - 1 := by unfold behindI; rw [if_neg (by omega)]; omega
  have a2 : behindI T 0 = T := by unfold behindI; rw [if_neg (by omega)]; omega
  have a3 : behindI (T - 1) (-1) = -1 := by unfold behindI; rw [if_pos (by omega)]
  have a4 : behindI T (-1) = -1 := by unfold behindI; rw [if_pos (by omega)]
  have a5 : maxI (T - 1) T = T := by unfold maxI; rw [if_neg (by omega)]
  rw [a1, a2, a3, a4, a5]
  rfl
theorem fold_one (T : Int) (hT : 1 ≤ T) : foldI (0, -1) [(T, -1)] = (T, -1) := by
  have b1 : behindI 0 T = T := by unfold behindI; rw [if_neg (by omega)]; omega
  have b2 : behindI 0 (-1) = -1 := rfl
  rw [foldI, foldI, b1, b2]
  rfl
theorem tries_pos (n : Nat) (h : 1 ≤ n) : ∀ i : Nat, 1 ≤ triesI n i := by
  intro i
  induction i with
  | zero => rw [triesI]; omega
  | succ i ih => rw [triesI]; omega
theorem tri_pair (k m n : Nat) (h1 : 1 ≤ n) : lastsT dict 5 (triY k m n) = (triesI n ((m : Int) - 1).toNat, -1) := by
  have f0 : foldI (0, -1) [(0, -1)] = (0, -1) := rfl
  have e1 : (hRetry m (k % 8 : Nat) n).m = (m : Nat) := rfl
  have e2 : (hRetry m (k % 8 : Nat) n).n = (n : Nat) := rfl
  unfold triY
  simp only [lastsT, List.map_cons, List.map_nil, oneI_send (h := hSend ((k + 1) % 8 : Nat)) _ _ dSend, oneI_send (h := hSend ((k + 2) % 8 : Nat)) _ _ dSend, f0, oneI_retry (h := hRetry m (k % 8 : Nat) n) _ _ dRetry, e1, e2]
  rw [two_ways _ (tries_pos n h1 _), fold_one _ (tries_pos n h1 _)]
theorem tri_lastsT (k m n : Nat) (m1 : 1 ≤ m) (h1 : 1 ≤ n) : maxI (lastsT dict 5 (triY k m n)).1 (lastsT dict 5 (triY k m n)).2 = triesI n (m - 1) := by
  have e : ((m : Int) - 1).toNat = m - 1 := by omega
  have hp := tries_pos n h1 (m - 1)
  rw [tri_pair k m n h1, e]
  show maxI (triesI n (m - 1)) (-1) = _
  unfold maxI
  rw [if_pos (by omega)]
theorem tri_heavy (k m n : Nat) : heavyT dict 5 (triY k m n) 1 = -1 := by
  unfold triY
  have h1 : ¬ bytesOf dict (19, 24) = kRepeat := by rw [dRetry]; decide
  have h2 : ¬ bytesOf dict (0, 4) = kRepeat := by rw [dSend]; decide
  simp [heavyT, heavyL, hRetry, hSend, h1, h2]
theorem tri_deep (k m n : Nat) : Dp dict 5 (triY k m n) 0 := by
  have one : ∀ {d : Nat} (x : Hd) (k : Nat), bytesOf dict x.p = kSend → (k < 4 ∨ bytesOf dict x.p = kSend ∨ bytesOf dict x.p = kWait ∨ bytesOf dict x.p = kStop) ∧ Dp dict (d + 1) ([] : List _) (k + 1) ∧ Dp dict (d + 1) ([] : List _) (k + 1) := fun x k h =>
    ⟨.inr (.inl h), fun y hy => (by cases hy), fun y hy => (by cases hy)⟩
  intro x hx
  rw [List.mem_singleton.mp (show x ∈ [_] from hx)]
  refine ⟨.inl (by omega), fun y hy => ?_, fun y hy => ?_⟩
  · rw [List.mem_singleton.mp (show y ∈ [_] from hy)]; exact one _ _ dSend
  · rw [List.mem_singleton.mp (show y ∈ [_] from hy)]; exact one _ _ dSend
theorem tri_text {t : ByteArray} {k m n : Nat} (m1 : 1 ≤ m) (m2 : m ≤ 6) (h1 : 1 ≤ n) (h2 : n ≤ 90) (ht : t.data.toList = sp (triU k m n) ++ kShut) : t.size ≤ 400 ∧ ∃ tr, TextOk t tr ∧ codeOf t tr = triC k m n ∧ maxI (lastsT t 5 tr).1 (lastsT t 5 tr).2 = triesI n (m - 1) := by
  have hsz : t.size ≤ 400 := by
    have e : t.data.toList.length = t.size := by simp
    have h3 := (digits_all n (by omega)).2.2.2
    have h4 := (digits_all m (by omega)).2.2.2
    rw [← e, ht]
    simp only [triU, sp_cons, List.length_append, List.length_cons, letterB]
    simp [sp, kRetry, kOpen, kSend, kShut, kElse]
    omega
  have hw : ∀ u ∈ triU k m n, WordB u := by
    obtain ⟨w1, w2, w3, w4, w5, w6, w7, w8, w9⟩ := word_kinds
    intro u hu
    simp only [triU, List.mem_cons, List.not_mem_nil, or_false] at hu
    rcases hu with rfl | rfl | rfl | rfl | rfl | rfl | rfl | rfl | rfl | rfl | rfl | rfl
    all_goals first | assumption | exact word_letter _ | exact word_digits (by omega)
  have hl := tri_lastsT k m n m1 h1
  have hb := triesI_bound (n : Nat) (by omega) (by omega) (m - 1) (by omega)
  obtain ⟨tr, h3, h4⟩ := spelt_ok hsz (words_sp_last ht hw word_kinds.2.2.2.2.2.2.2.2) (tri_words k m n m1 m2 h1 (by omega)) (tri_deep k m n) (tri_heavy k m n) (by rw [hl]; omega)
  exact ⟨hsz, tr, h3, (ShT.code 5 tr (triY k m n) 0 0 h4).trans (tri_code k m n), by rw [ShT.lasts 5 tr (triY k m n) h4]; exact hl⟩
/-- Its run: how many tries are left, how long it is stopped, until when, how many it has sent. -/
def triR (a b : Int) : List Int := [0, 0, 0, 0, a, b, 0, 0, 0, 0, 0, 0]
def triP (a b til s : Int) : Pr := ⟨1, 0, s, til, s, triR a b, 7, 3⟩
theorem tri_hold (key : Int) (now sent til num a b tt : Int) (hb : 1 ≤ b) : stepM now ⟨6, key, 5, 7⟩ [] ⟨1, 0, sent, til, num, triR a b, tt, 2⟩ = ([⟨0, 1, sent + 1, key⟩], triP a b (now + b) (sent + 1), 1) := by
  show ([(⟨0, 1, sent + 1, key⟩ : Msg)], (⟨1, 0, sent + 1, now + (if b < 1 then 1 else b), sent + 1, triR a b, 7, 2 + 1⟩ : Pr), (1 : Int)) = _
  rw [if_neg (by omega)]
  rfl
theorem tri_twice (now : Int) (q : List Msg) (sent til num a b tt : Int) (hb : b * 2 ≤ 1000000) : stepM now ⟨5, 5, 0, 0⟩ q ⟨1, 0, sent, til, num, triR a b, tt, 3⟩ = (q, ⟨1, 0, sent, til, num, triR a (b * 2), tt, 4⟩, 0) := by
  show (q, (⟨1, 0, sent, til, num, triR a (if 1000000 < b * 2 then 1000000 else b * 2), tt, 3 + 1⟩ : Pr), (0 : Int)) = _
  rw [if_neg (by omega)]
  rfl
theorem tri_loop (now : Int) (q : List Msg) (sent til num a b tt : Int) (ha : 1 ≤ a) : stepM now ⟨7, 4, 0, 2⟩ q ⟨1, 0, sent, til, num, triR a b, tt, 4⟩ = (q, ⟨1, 0, sent, til, num, triR (a - 1) b, tt, if 1 < a then 2 else 5⟩, 0) := by
  have e1 : downM (incM ⟨1, 0, sent, til, num, triR a b, tt, 4⟩) 4 = ⟨1, 0, sent, til, num, triR (a - 1) b, tt, 5⟩ := by
    show (if 0 < a then (⟨1, 0, sent, til, num, triR (a - 1) b, tt, 4 + 1⟩ : Pr) else _) = _
    rw [if_pos (by omega)]
    rfl
  show (q, loopM (incM ⟨1, 0, sent, til, num, triR a b, tt, 4⟩) 4 2, (0 : Int)) = _
  unfold loopM
  rw [e1]
  show (q, (if 0 < a - 1 then (⟨1, 0, sent, til, num, triR (a - 1) b, tt, 2⟩ : Pr) else ⟨1, 0, sent, til, num, triR (a - 1) b, tt, 5⟩), (0 : Int)) = _
  by_cases h : 1 < a
  · rw [if_pos (by omega), if_pos h]
  · rw [if_neg (by omega), if_neg h]
theorem tri_start (k m n : Nat) (h1 : 1 ≤ n) : (machE (triC k m n)).start 0 [] ((machE (triC k m n)).fresh 1 0) = ([⟨0, 1, 1, (k % 8 : Nat)⟩], triP m n (0 + (n : Int)) 1, false) := by
  show runM 0 (triC k m n) (9997 + 1 + 1 + 1) [] (freshP 1 0) = _
  rw [runM_next (x := ⟨4, 4, m, 0⟩) (q' := []) (p' := ⟨1, 0, 0, 0, 0, triR m 0, 0, 1⟩) rfl rfl]
  rw [runM_next (x := ⟨4, 5, n, 0⟩) (q' := []) (p' := ⟨1, 0, 0, 0, 0, triR m n, 0, 2⟩) rfl rfl]
  exact runM_halt (x := ⟨6, (k % 8 : Nat), 5, 7⟩) rfl (tri_hold _ _ _ _ _ _ _ _ (by omega))
theorem tri_first (k m n : Nat) (h1 : 1 ≤ n) : trigH (machE (triC k m n)) newH 0 = (1, 0, oneH 0 0 1 [⟨0, 1, 1, (k % 8 : Nat)⟩] [triP m n (0 + (n : Int)) 1]) :=
  one_trig (dv := 0) (by omega) (tri_start k m n h1) rfl rfl
theorem tri_take (s key : Int) : takeQ [⟨0, 1, s, key⟩] 1 s = [] := by simp [takeQ, keepsM]
/-- Not answered: the next try, or the second block. -/
theorem tri_no (k m n : Nat) (now a b til s : Int) (ha : 1 < a) (hb : 1 ≤ b) (hb2 : b * 2 ≤ 1000000) (hs : s ≠ 0) : (machE (triC k m n)).on now false [⟨0, 1, s, (k % 8 : Nat)⟩] (triP a b til s) = ([⟨0, 1, s + 1, (k % 8 : Nat)⟩], triP (a - 1) (b * 2) (now + b * 2) (s + 1), false) := by
  show (if s = 0 then _ else runM now (triC k m n) (9997 + 1 + 1 + 1) (takeQ [⟨0, 1, s, (k % 8 : Nat)⟩] 1 s) (triP a b til s)) = _
  rw [if_neg hs, tri_take _ _]
  show runM now (triC k m n) (9997 + 1 + 1 + 1) [] ⟨1, 0, s, til, s, triR a b, 7, 3⟩ = _
  rw [runM_next (x := ⟨5, 5, 0, 0⟩) rfl (tri_twice now [] s til s a b 7 hb2)]
  rw [runM_next (x := ⟨7, 4, 0, 2⟩) rfl (tri_loop now [] s til s a (b * 2) 7 (by omega)), if_pos ha]
  exact runM_halt (x := ⟨6, (k % 8 : Nat), 5, 7⟩) rfl (tri_hold _ _ _ _ _ _ _ _ (by omega))
theorem tri_last (k m n : Nat) (now b til s : Int) (hb2 : b * 2 ≤ 1000000) (hs : s ≠ 0) : (machE (triC k m n)).on now false [⟨0, 1, s, (k % 8 : Nat)⟩] (triP 1 b til s) = ([⟨0, 1, s + 1, ((k + 2) % 8 : Nat)⟩], ⟨1, 0, s + 1, til, s, triR 0 (b * 2), 7, 8⟩, true) := by
  show (if s = 0 then _ else runM now (triC k m n) (9995 + 1 + 1 + 1 + 1 + 1) (takeQ [⟨0, 1, s, (k % 8 : Nat)⟩] 1 s) (triP 1 b til s)) = _
  rw [if_neg hs, tri_take _ _]
  show runM now (triC k m n) (9995 + 1 + 1 + 1 + 1 + 1) [] ⟨1, 0, s, til, s, triR 1 b, 7, 3⟩ = _
  rw [runM_next (x := ⟨5, 5, 0, 0⟩) rfl (tri_twice now [] s til s 1 b 7 hb2)]
  rw [runM_next (x := ⟨7, 4, 0, 2⟩) rfl (tri_loop now [] s til s 1 (b * 2) 7 (by omega)), if_neg (by omega)]
  rw [runM_next (x := ⟨1, ((k + 2) % 8 : Nat), 0, 0⟩) (q' := [⟨0, 1, s + 1, ((k + 2) % 8 : Nat)⟩]) (p' := ⟨1, 0, s + 1, til, s, triR 0 (b * 2), 7, 6⟩) rfl rfl]
  rw [runM_next (x := ⟨8, 0, 0, 8⟩) (q' := [⟨0, 1, s + 1, ((k + 2) % 8 : Nat)⟩]) (p' := ⟨1, 0, s + 1, til, s, triR 0 (b * 2), 7, 8⟩) rfl rfl]
  exact runM_end (Nat.le_refl 8)
/-- Answered: the first block. -/
theorem tri_yes (k m n : Nat) (now a b til s : Int) : (machE (triC k m n)).on now true [] (triP a b til s) = ([⟨0, 1, s + 1, ((k + 1) % 8 : Nat)⟩], ⟨1, 0, s + 1, til, s, triR a b, 7, 8⟩, true) := by
  show runM now (triC k m n) (9998 + 1 + 1) [] (⟨1, 0, s, til, s, triR a b, 7, 7⟩ : Pr) = _
  rw [runM_next (x := ⟨1, ((k + 1) % 8 : Nat), 0, 0⟩) (q' := [⟨0, 1, s + 1, ((k + 1) % 8 : Nat)⟩]) (p' := ⟨1, 0, s + 1, til, s, triR a b, 7, 8⟩) rfl rfl]
  exact runM_end (Nat.le_refl 8)
def triH (k : Nat) (now a b til s : Int) : Her Pr := oneH 0 now 1 [⟨0, 1, s, (k % 8 : Nat)⟩] [triP a b til s]
def triD (now a b til s : Int) : Her Pr := oneH 0 now 1 [] [triP a b til s]
def triE (now s key : Int) : Her Pr := oneH 0 now 1 [⟨0, 1, s, key⟩] []
theorem tri_show (k : Nat) (now a b til s : Int) : (triH k now a b til s).qs 0 ++ (triH k now a b til s).qs 1 ++ (triH k now a b til s).qs 2 = [⟨0, 1, s, (k % 8 : Nat)⟩] := one_show (dv := 0) (by omega) _ _ _ _
theorem tri_rs (k : Nat) (now a b til s : Int) : (triH k now a b til s).rs = [triP a b til s] := rfl
theorem tri_now (k : Nat) (now a b til s : Int) : (triH k now a b til s).now = now := rfl
theorem tri_pub (a b til s : Int) : [triP a b til s].map pubP = [⟨1, 0, s, til, s⟩] := rfl
theorem triE_show (now s key : Int) : (triE now s key).qs 0 ++ (triE now s key).qs 1 ++ (triE now s key).qs 2 = [⟨0, 1, s, key⟩] := one_show (dv := 0) (by omega) _ _ _ _
theorem triE_rs (now s key : Int) : (triE now s key).rs = [] := rfl
theorem triE_now (now s key : Int) : (triE now s key).now = now := rfl
theorem tri_tick (k m n : Nat) (now a b s : Int) (ha : 1 < a) (hb : 1 ≤ b) (hb2 : b ≤ 999) (hs : s ≠ 0) (hn : now + b ≤ 1000000000) : tickH (machE (triC k m n)) (triH k now a b (now + b) s) b = (0, triH k (now + b) (a - 1) (b * 2) (now + b + b * 2) (s + 1)) :=
  one_tick_go (done := false) hb hb2 hn rfl rfl (tri_no k m n (now + b) a b (now + b) s ha hb (by omega) hs) rfl (fun _ => by show now + b < now + b + b * 2; omega)
theorem tri_tick_end (k m n : Nat) (now b s : Int) (hb : 1 ≤ b) (hb2 : b ≤ 999) (hs : s ≠ 0) (hn : now + b ≤ 1000000000) : tickH (machE (triC k m n)) (triH k now 1 b (now + b) s) b = (0, triE (now + b) (s + 1) ((k + 2) % 8 : Nat)) :=
  one_tick_go (done := true) hb hb2 hn rfl rfl (tri_last k m n (now + b) b (now + b) s (by omega) hs) rfl (fun h => by cases h)
theorem tri_early (k m n : Nat) (now a b til s : Int) (hs : s ≠ 0) : ackH (machE (triC k m n)) (triH k now a b til s) 1 s = (12, triH k now a b til s) := by
  unfold triH
  rw [one_ack (dv := 0) rfl rfl, if_neg (by rintro (h | h); exact hs h; exact h rfl), if_pos (by simp [hasQ])]
theorem tri_drain (k : Nat) (now a b til s : Int) : drainH (triH k now a b til s) 0 = (⟨0, 1, s, (k % 8 : Nat)⟩, 0, triD now a b til s) := one_drain (dv := 0) (by omega) _ _ _ _ _
theorem tri_wait (k m n : Nat) (now a b til s d : Int) (h1 : 1 ≤ d) (h2 : d ≤ 999) (h3 : now + d ≤ 1000000000) (h4 : now + d < til) : tickH (machE (triC k m n)) (triD now a b til s) d = (0, triD (now + d) a b til s) := one_tick_none h1 h2 h3 h4
theorem tri_other (k m n : Nat) (now a b til s : Int) : ackH (machE (triC k m n)) (triD now a b til s) 1 (s + 1) = (11, triD now a b til s) := by
  unfold triD
  rw [one_ack (dv := 0) rfl rfl, if_pos (.inr (by show s ≠ s + 1; omega))]
theorem tri_ack (k m n : Nat) (now a b til s : Int) (hs : s ≠ 0) : ackH (machE (triC k m n)) (triD now a b til s) 1 s = (0, triE now (s + 1) ((k + 1) % 8 : Nat)) := by
  unfold triD
  rw [one_ack (dv := 0) rfl rfl, if_neg (by rintro (h | h); exact hs h; exact h rfl), if_neg (by simp [hasQ])]
  rw [one_go (dv := 0) (done := true) rfl (tri_yes k m n now a b til s) rfl]
  rfl
end Go.Proofs.Herald
