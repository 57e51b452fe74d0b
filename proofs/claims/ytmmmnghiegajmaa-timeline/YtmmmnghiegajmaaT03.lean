import Derived.Test.YtmmmnghiegajmaaM01
import Derived.Test.YtmmmnghiegajmaaM04
import Derived.Test.YtmmmnghiegajmaaM05
import Derived.Test.YtmmmnghiegajmaaM06
import Derived.Test.YtmmmnghiegajmaaM07
import Derived.Test.YtmmmnghiegajmaaM08
import Derived.Test.YtmmmnghiegajmaaM09
import Derived.Test.YtmmmnghiegajmaaM10
import Derived.Test.YtmmmnghiegajmaaM11
import Derived.Test.YtmmmnghiegajmaaM12
import Derived.Test.YtmmmnghiegajmaaM15
import Derived.Test.YtmmmnghiegajmaaM19
import Derived.Test.YtmmmnghiegajmaaM21
import Derived.Test.YtmmmnghiegajmaaM23
import Derived.Test.YtmmmnghiegajmaaM24
import Derived.Test.YtmmmnghiegajmaaM25
import Derived.Test.YtmmmnghiegajmaaM26
import Derived.Test.YtmmmnghiegajmaaM27
import Derived.Test.YtmmmnghiegajmaaM28
import Derived.Test.YtmmmnghiegajmaaM29
import Derived.Test.YtmmmnghiegajmaaM32
import Derived.Test.YtmmmnghiegajmaaM33
import Derived.Test.YtmmmnghiegajmaaM34
import Derived.Test.YtmmmnghiegajmaaT01
namespace Go.Proofs.Herald
def timW (v : Nat) : List Wd := if v % 2 = 0 then [kSend, letterB (v / 2)] else [kWait, digitsB (1 + v / 2 % 9)]
def timS (v : Nat) : Hd × Tree 4 × Tree 4 := if v % 2 = 0 then (hSend (v / 2 % 8 : Nat), nilT 4, nilT 4) else (hWait (1 + v / 2 % 9 : Nat), nilT 4, nilT 4)
def timI (v : Nat) : Ins := if v % 2 = 0 then ⟨1, (v / 2 % 8 : Nat), 0, 0⟩ else ⟨2, (1 + v / 2 % 9 : Nat), 0, 0⟩
theorem tim_ps (v : Nat) : PS 4 2 1 3 7 (timW v) (timS v) := by
  unfold timW timS
  by_cases h : v % 2 = 0
  · rw [if_pos h, if_pos h]
    exact ps_send _ (by omega)
  · rw [if_neg h, if_neg h]
    exact ps_wait _ (by omega) (by omega) (by omega)
/-- The statements one behind the other. -/
theorem tim_pl : ∀ (vs : List Nat) (left : Int), 7 * (vs.length : Int) ≤ left → PL 4 2 1 3 [] left (vs.flatMap timW, vs.map timS, [], left - 7 * vs.length)
  | [], left, h => by
    have e : left - 7 * (([] : List Nat).length : Int) = left := by simp
    rw [e]
    exact PL.none (by simpa using h) (Nat.le_refl _)
  | v :: r, left, h => by
    have hl : ((v :: r).length : Int) = r.length + 1 := by simp
    rw [hl] at h
    have ih := tim_pl r (left - 7) (by omega)
    have e : left - 7 * ((v :: r).length : Int) = left - 7 - 7 * (r.length : Int) := by rw [hl]; omega
    rw [e]
    exact PL.cons (by omega) (by show (7 : Int) = left - (left - 7); omega) (by omega) (tim_ps v) ih (Nat.le_refl _)
theorem tim_comp : ∀ (vs : List Nat) (base : Nat), compL dict (compT dict 4) (vs.map timS) 0 base = vs.map timI := by
  intro vs
  induction vs with
  | nil => intro base; rfl
  | cons v r ih =>
    intro base
    have e : stmC dict (compT dict 4) (timS v) 0 base = [timI v] := by
      unfold timS timI
      by_cases h : v % 2 = 0
      · rw [if_pos h, if_pos h, stm_send]
      · rw [if_neg h, if_neg h, stm_wait]
    rw [List.map_cons, compL, e, ih]
    rfl
theorem tim_text {t : ByteArray} {vs : List Nat} (h : vs.length ≤ 40) (ht : t.data.toList = sp (vs.flatMap timW)) : t.size ≤ 400 ∧ ∃ tr, TextOk t tr ∧ codeOf t tr = vs.map timI := by
  have P := (tim_pl vs 280 (by omega)).pg
  have e : t.data.toList.length = t.size := by simp
  have hs := P.sz
  rw [← ht, e] at hs
  have hsz : t.size ≤ 400 := by
    have h2 : (t.size : Int) + (280 - 7 * vs.length) ≤ 280 := hs
    omega
  obtain ⟨tr, h3, h4⟩ := spelt_ok hsz (words_sp ht P.wd) P.ag (P.dp 0 (by omega)) (P.hv 1 (by omega) (by decide)) (by
    have h1 := P.ls.1
    have h2 := P.ls.2
    have h5 : (2 : Int) * (280 - (280 - 7 * vs.length)) ≤ 560 := by omega
    exact Int.not_lt.mpr (Int.le_trans (max_le (Int.le_trans h1 h5) (Int.le_trans h2 h5)) (by omega)))
  exact ⟨hsz, tr, h3, (ShT.code 5 tr _ 0 0 h4).trans (tim_comp vs 0)⟩
/-- What a run does up to its next wait. -/
def timT (now : Int) : List Nat → List Msg → Pr → List Msg × Pr × Bool
  | [], q, p => (q, p, true)
  | v :: r, q, p => if v % 2 = 0 then timT now r (sendP q (incM p) (v / 2 % 8 : Nat)).1 (sendP q (incM p) (v / 2 % 8 : Nat)).2.1 else (q, stopP (incM p) now (1 + v / 2 % 9 : Nat) 0, false)
theorem tim_run (now : Int) (vs : List Nat) : ∀ (r : List Nat) (f i : Nat) (q : List Msg) (p : Pr), p.els = (i : Nat) → vs.drop i = r → r.length < f → runM now (vs.map timI) f q p = timT now r q p := by
  intro r
  induction r with
  | nil =>
    intro f i q p hp hr hf
    obtain ⟨g, rfl⟩ : ∃ g, f = g + 1 := ⟨f - 1, by simp at hf; omega⟩
    have hl : vs.length ≤ i := List.drop_eq_nil_iff.mp hr
    exact runM_end (by rw [List.length_map, hp]; exact hl)
  | cons v r ih =>
    intro f i q p hp hr hf
    obtain ⟨g, rfl⟩ : ∃ g, f = g + 1 := ⟨f - 1, by simp at hf; omega⟩
    have hi : i < vs.length := by
      rcases Nat.lt_or_ge i vs.length with h | h
      · exact h
      · rw [List.drop_eq_nil_iff.mpr h] at hr; cases hr
    have hx : (vs.map timI)[p.els.toNat]? = some (timI v) := by
      rw [hp, Int.toNat_natCast, List.getElem?_map]
      have h1 : vs[i]? = some v := by
        rw [List.drop_eq_getElem_cons hi] at hr
        rw [List.getElem?_eq_getElem hi]
        simp only [List.cons.injEq] at hr
        rw [hr.1]
      rw [h1]
      rfl
    have hr2 : vs.drop (i + 1) = r := by
      rw [List.drop_eq_getElem_cons hi] at hr
      simp only [List.cons.injEq] at hr
      exact hr.2
    rw [timT]
    by_cases h : v % 2 = 0
    · rw [if_pos h]
      have ex : timI v = ⟨1, (v / 2 % 8 : Nat), 0, 0⟩ := if_pos h
      rw [ex] at hx
      rw [runM_next hx (show stepM now ⟨1, (v / 2 % 8 : Nat), 0, 0⟩ q p = ((sendP q (incM p) (v / 2 % 8 : Nat)).1, (sendP q (incM p) (v / 2 % 8 : Nat)).2.1, 0) from rfl)]
      refine ih g (i + 1) _ _ ?_ hr2 (by simp at hf; omega)
      have h4 : (sendP q (incM p) (v / 2 % 8 : Nat)).2.1.els = (incM p).els := by
        unfold sendP
        split <;> rfl
      rw [h4]
      show p.els + 1 = _
      rw [hp]
      rfl
    · rw [if_neg h]
      have ex : timI v = ⟨2, (1 + v / 2 % 9 : Nat), 0, 0⟩ := if_neg h
      rw [ex] at hx
      exact runM_halt hx rfl
theorem timT_til {now : Int} : ∀ (r : List Nat) (q : List Msg) (p : Pr), (timT now r q p).2.2 = false → now < (timT now r q p).2.1.til := by
  intro r
  induction r with
  | nil => intro q p h; cases h
  | cons v r ih =>
    intro q p h
    rw [timT] at h ⊢
    by_cases hv : v % 2 = 0
    · rw [if_pos hv] at h ⊢
      exact ih _ _ h
    · rw [if_neg hv]
      show now < now + ((1 + v / 2 % 9 : Nat) : Int)
      omega
theorem timT_id {now : Int} : ∀ (r : List Nat) (q : List Msg) (p : Pr), (timT now r q p).2.1.id = p.id := by
  intro r
  induction r with
  | nil => intro q p; rfl
  | cons v r ih =>
    intro q p
    rw [timT]
    by_cases hv : v % 2 = 0
    · rw [if_pos hv, ih]
      exact sendP_pid q (incM p) _
    · rw [if_neg hv]
      rfl
/-- A line: numbers and keys; the queue that it is. -/
def lineQ (dv : Nat) (l : List (Int × Int)) : List Msg := l.map fun x => ⟨(dv : Nat), 1, x.1, x.2⟩
/-- A key is sent: in the place of the same key, or at the end, or not at all. -/
def lputL (n key : Int) : List (Int × Int) → Option (List (Int × Int))
  | [] => none
  | x :: r => if x.2 = key then some ((n, key) :: r) else (lputL n key r).map (x :: ·)
def lsend (l : List (Int × Int)) (sent key : Int) : List (Int × Int) × Int :=
  match lputL (sent + 1) key l with
  | some l' => (l', sent + 1)
  | none => if l.length < 4 then (l ++ [(sent + 1, key)], sent + 1) else (l, sent)
theorem lput_at (dv : Nat) (n key : Int) : ∀ l, putAt (lineQ dv l) ⟨(dv : Nat), 1, n, key⟩ = (lputL n key l).map (lineQ dv) := by
  intro l
  induction l with
  | nil => rfl
  | cons x r ih =>
    have e : lineQ dv (x :: r) = ⟨(dv : Nat), 1, x.1, x.2⟩ :: lineQ dv r := rfl
    rw [e, putAt, lputL]
    by_cases h : x.2 = key
    · rw [if_pos h, if_pos ⟨rfl, h⟩]
      rfl
    · rw [if_neg h, if_neg (fun hh => h hh.2), ih]
      cases lputL n key r with
      | none => rfl
      | some l' => rfl
theorem lsend_q (dv : Nat) (l : List (Int × Int)) (p : Pr) (key : Int) (hid : p.id = 1) (hdv : p.dev = (dv : Nat)) : (sendP (lineQ dv l) p key).1 = lineQ dv (lsend l p.sent key).1 ∧ (sendP (lineQ dv l) p key).2.1 = { p with sent := (lsend l p.sent key).2 } := by
  obtain ⟨id, dev, sent, til, num, regs, tt, els⟩ := p
  simp only at hid hdv
  subst hid hdv
  unfold sendP putQ lsend
  simp only [lput_at]
  cases h : lputL (sent + 1) key l with
  | some l' => exact ⟨rfl, rfl⟩
  | none =>
    have hl : (lineQ dv l).length = l.length := by unfold lineQ; rw [List.length_map]
    simp only [Option.map_none, hl]
    by_cases h4 : 4 ≤ l.length
    · rw [if_pos h4, if_neg (by omega)]
      exact ⟨rfl, rfl⟩
    · rw [if_neg h4, if_pos (by omega)]
      refine ⟨?_, rfl⟩
      unfold lineQ
      rw [List.map_append]
      rfl
/-- The run that is at the step i, and the herald of a line then. -/
def timP (dv : Nat) (sent til : Int) (i : Nat) : Pr := ⟨1, (dv : Nat), sent, til, 0, List.replicate 12 0, 0, (i : Nat)⟩
def timH (vs : List Nat) (dv : Nat) (now sent til : Int) (i : Nat) (l : List (Int × Int)) : Her Pr :=
  oneH dv now 1 (timT now (vs.drop i) (lineQ dv l) (timP dv sent til i)).1 (if (timT now (vs.drop i) (lineQ dv l) (timP dv sent til i)).2.2 then [] else [(timT now (vs.drop i) (lineQ dv l) (timP dv sent til i)).2.1])
/-- It waits. -/
def timV (dv : Nat) (now sent til : Int) (i : Nat) (l : List (Int × Int)) : Her Pr := oneH dv now 1 (lineQ dv l) [timP dv sent til i]
theorem tim_first (vs : List Nat) (dv : Nat) (hd : dv ≤ 2) (hl : vs.length ≤ 40) : trigH (machE (vs.map timI)) newH (dv : Nat) = (1, 0, timH vs dv 0 0 0 0 []) := by
  have hr := tim_run 0 vs (vs.drop 0) 10000 0 [] (freshP 1 (dv : Nat)) rfl rfl (by rw [List.drop_zero]; omega)
  exact one_trig hd (done := (timT 0 (vs.drop 0) [] (timP dv 0 0 0)).2.2) (show runM 0 (vs.map timI) 10000 [] (freshP 1 (dv : Nat)) = _ from hr) rfl (timT_id _ _ _)
theorem tim_send (vs : List Nat) (dv : Nat) (now sent til : Int) (i : Nat) (l : List (Int × Int)) (hi : i < vs.length) (h : vs[i] % 2 = 0) : timH vs dv now sent til i l = timH vs dv now (lsend l sent (vs[i] / 2 % 8 : Nat)).2 til (i + 1) (lsend l sent (vs[i] / 2 % 8 : Nat)).1 := by
  have e : timT now (vs.drop i) (lineQ dv l) (timP dv sent til i) = timT now (vs.drop (i + 1)) (lineQ dv (lsend l sent (vs[i] / 2 % 8 : Nat)).1) (timP dv (lsend l sent (vs[i] / 2 % 8 : Nat)).2 til (i + 1)) := by
    obtain ⟨h1, h2⟩ := lsend_q dv l (incM (timP dv sent til i)) (vs[i] / 2 % 8 : Nat) rfl rfl
    rw [List.drop_eq_getElem_cons hi, timT, if_pos h, h1, h2]
    rfl
  unfold timH
  rw [e]
theorem tim_wait (vs : List Nat) (dv : Nat) (now sent til : Int) (i : Nat) (l : List (Int × Int)) (hi : i < vs.length) (h : ¬ vs[i] % 2 = 0) : timH vs dv now sent til i l = timV dv now sent (now + (1 + vs[i] / 2 % 9 : Nat)) (i + 1) l := by
  have e : timT now (vs.drop i) (lineQ dv l) (timP dv sent til i) = (lineQ dv l, timP dv sent (now + (1 + vs[i] / 2 % 9 : Nat)) (i + 1), false) := by
    rw [List.drop_eq_getElem_cons hi, timT, if_neg h]
    rfl
  unfold timH
  rw [e]
  rfl
theorem tim_over (vs : List Nat) (dv : Nat) (now sent til : Int) (i : Nat) (l : List (Int × Int)) (hi : ¬ i < vs.length) : timH vs dv now sent til i l = oneH dv now 1 (lineQ dv l) [] := by
  have e : timT now (vs.drop i) (lineQ dv l) (timP dv sent til i) = (lineQ dv l, timP dv sent til i, true) := by
    rw [List.drop_eq_nil_iff.mpr (by omega), timT]
  unfold timH
  rw [e]
  rfl
theorem tim_tick (vs : List Nat) (dv : Nat) (now sent til : Int) (i : Nat) (l : List (Int × Int)) (hn : now + 1 ≤ 1000000000) (ht : now + 1 < til) : tickH (machE (vs.map timI)) (timV dv now sent til i l) 1 = (0, timV dv (now + 1) sent til i l) :=
  one_tick_none (by omega) (by omega) hn ht
theorem tim_go (vs : List Nat) (dv : Nat) (now sent til : Int) (i : Nat) (l : List (Int × Int)) (hl : vs.length ≤ 40) (hn : now + 1 ≤ 1000000000) (ht : til = now + 1) : tickH (machE (vs.map timI)) (timV dv now sent til i l) 1 = (0, timH vs dv (now + 1) sent til i l) := by
  have hr := tim_run (now + 1) vs (vs.drop i) 10000 i (lineQ dv l) (timP dv sent til i) rfl rfl (by rw [List.length_drop]; omega)
  have ho : (machE (vs.map timI)).on (now + 1) false (lineQ dv l) (timP dv sent til i) = timT (now + 1) (vs.drop i) (lineQ dv l) (timP dv sent til i) := by
    show (if (timP dv sent til i).num = 0 then runM (now + 1) (vs.map timI) 10000 (lineQ dv l) (timP dv sent til i) else runM (now + 1) (vs.map timI) 10000 (takeQ (lineQ dv l) 1 0) (timP dv sent til i)) = _
    exact (if_pos (show (timP dv sent til i).num = 0 from rfl)).trans hr
  exact one_tick_go (done := (timT (now + 1) (vs.drop i) (lineQ dv l) (timP dv sent til i)).2.2) (by omega) (by omega) hn ht rfl ho (timT_id _ _ _) (fun h => timT_til _ _ _ h)
theorem tim_drain (dv : Nat) (hd : dv ≤ 2) (now sent til : Int) (i : Nat) (x : Int × Int) (l : List (Int × Int)) : drainH (timV dv now sent til i (x :: l)) (dv : Nat) = (⟨(dv : Nat), 1, x.1, x.2⟩, 0, timV dv now sent til i l) := one_drain hd _ _ _ _ _
theorem tim_drain_no (dv : Nat) (hd : dv ≤ 2) (now sent til : Int) (i : Nat) : drainH (timV dv now sent til i []) (dv : Nat) = (⟨0, 0, 0, 0⟩, 13, timV dv now sent til i []) := one_drain_no hd _ _ _
end Go.Proofs.Herald
