import Derived.Test.YtmmmnghiegajmaaM01
import Derived.Test.YtmmmnghiegajmaaM02
import Derived.Test.YtmmmnghiegajmaaM03
import Derived.Test.YtmmmnghiegajmaaM04
import Derived.Test.YtmmmnghiegajmaaM05
import Derived.Test.YtmmmnghiegajmaaM06
import Derived.Test.YtmmmnghiegajmaaM07
import Derived.Test.YtmmmnghiegajmaaM08
import Derived.Test.YtmmmnghiegajmaaM09
import Derived.Test.YtmmmnghiegajmaaM10
import Derived.Test.YtmmmnghiegajmaaM11
import Derived.Test.YtmmmnghiegajmaaM12
import Derived.Test.YtmmmnghiegajmaaM13
import Derived.Test.YtmmmnghiegajmaaM14
import Derived.Test.YtmmmnghiegajmaaM15
import Derived.Test.YtmmmnghiegajmaaM16
import Derived.Test.YtmmmnghiegajmaaM17
import Derived.Test.YtmmmnghiegajmaaM19
import Derived.Test.YtmmmnghiegajmaaM20
import Derived.Test.YtmmmnghiegajmaaM21
import Derived.Test.YtmmmnghiegajmaaM22
import Derived.Test.YtmmmnghiegajmaaM23
import Derived.Test.YtmmmnghiegajmaaM24
import Derived.Test.YtmmmnghiegajmaaM25
import Derived.Test.YtmmmnghiegajmaaM26
import Derived.Test.YtmmmnghiegajmaaM27
import Derived.Test.YtmmmnghiegajmaaM28
import Derived.Test.YtmmmnghiegajmaaM29
import Derived.Test.YtmmmnghiegajmaaM30
import Derived.Test.YtmmmnghiegajmaaM31
import Derived.Test.YtmmmnghiegajmaaM32
import Derived.Test.YtmmmnghiegajmaaM33
import Derived.Test.YtmmmnghiegajmaaM34
import Derived.Test.YtmmmnghiegajmaaE01
namespace Go.Proofs.Herald
theorem wtI_ask {t : ByteArray} {x : It} (h : bytesOf t x.s.1.p = kAsk) : wtI t x = 1 + max (wtT t x.d x.s.2.1) (wtT t x.d x.s.2.2) := by
  unfold wtI wtS; rw [h]; rfl
theorem wtI_retry {t : ByteArray} {x : It} (h : bytesOf t x.s.1.p = kRetry) : wtI t x = 1 + max (wtT t x.d x.s.2.1) (wtT t x.d x.s.2.2) := by
  unfold wtI wtS; rw [h]; rfl
theorem wtI_repeat {t : ByteArray} {x : It} (h : bytesOf t x.s.1.p = kRepeat) : wtI t x = 1 + (x.s.1.n.toNat - x.i) * (wtT t x.d x.s.2.1 + 1) := by
  unfold wtI wtS; rw [h]; rfl
theorem wtI_send {t : ByteArray} {x : It} (h : bytesOf t x.s.1.p = kSend) : wtI t x = 1 := by
  unfold wtI wtS; rw [h]; rfl
theorem msI_other {t : ByteArray} {x : It} (h : ¬ bytesOf t x.s.1.p = kRepeat) : msI t x = 1 + msT t x.d x.s.2.2 := by
  unfold msI msS; rw [if_neg h]
theorem msI_repeat {t : ByteArray} {x : It} (h : bytesOf t x.s.1.p = kRepeat) : msI t x = 1 + (x.s.1.n.toNat - x.i) * (msT t x.d x.s.2.1 + 1) := by
  unfold msI msS; rw [if_pos h]
theorem nSR : ¬ kSend = kRepeat := by decide
theorem nAR : ¬ kAsk = kRepeat := by decide
theorem nTR : ¬ kRetry = kRepeat := by decide
/-- A repeat's round more. -/
theorem round_step {n i W : Nat} (h : i < n) : (n - i) * (W + 1) = W + 1 + (n - (i + 1)) * (W + 1) := by
  obtain ⟨k, rfl⟩ : ∃ k, n = i + 1 + k := ⟨n - i - 1, by omega⟩
  rw [show i + 1 + k - i = k + 1 from by omega, show i + 1 + k - (i + 1) = k from by omega, Nat.succ_mul, Nat.add_comm]
set_option maxHeartbeats 1000000 in
/-- Till the next stop. -/
theorem sim {t : ByteArray} {cs : List Ins} {now : Int} {B : Nat} : ∀ (M n : Nat) {j lv pc f g : Nat} {l : List It} {q : List Msg} {p : Pr} {r : TR}, Rp t cs p.regs n j lv pc l → wtL t l + j ≤ B → wtL t l + j + 3 < f → msL t l ≤ M → msL t l < g → p.regs.length = 12 → SameP p r.p →
    Out t cs B (runP now cs f (pc : Nat) q p) (doT t now g l q r) := by
  intro M
  induction M with
  | zero =>
    intro n
    induction n with
    | zero => intro j lv pc f g l q p r h; exact h.elim
    | succ n ihn =>
      intro j lv pc f g l q p r h hB hf hM hg hlen hp
      obtain ⟨f, rfl⟩ : ∃ k, f = k + 1 := ⟨f - 1, by omega⟩
      obtain ⟨g, rfl⟩ : ∃ k, g = k + 1 := ⟨g - 1, by omega⟩
      have hl0 : l = [] := by
        cases l with
        | nil => rfl
        | cons x l =>
          exfalso
          rw [msL_cons] at hM
          have : 1 ≤ msI t x := by unfold msI msS; split <;> omega
          omega
      subst hl0
      rw [doT_nil]
      rcases h with ⟨_, h2, _⟩ | ⟨j', tgt, rfl, h2, h⟩ | ⟨d, r', l', h1, h2, h3, h⟩ | ⟨d, x, i, rep, base, l', h1, h2, h3, h4, h5, h6, h7, h8, h9, h⟩
      · rw [runP_past h2]
        exact ⟨rfl, rfl, hp.id, fun hh => by cases hh⟩
      · rw [run_jump h2]
        have := ihn (f := f) (g := g + 1) (q := q) (r := r) h (by omega) (by omega) hM (by omega) hlen hp
        rw [doT_nil] at this
        exact this
      · have hr0 : r' = [] ∧ l' = [] := by
          have h4 : itsOf (d + 1) r' = [] ∧ l' = [] := by simpa using h3.symm
          refine ⟨?_, h4.2⟩
          have h5 : List.map (fun x => (⟨d, x, 0⟩ : It)) r' = [] := h4.1
          simpa using h5
        obtain ⟨rfl, rfl⟩ := hr0
        have := ihn (f := f + 1) (g := g + 1) (q := q) (r := r) h hB hf hM (by omega) hlen hp
        rw [doT_nil] at this
        exact this
      · cases h9
  | succ M ihM =>
    intro n
    induction n with
    | zero => intro j lv pc f g l q p r h; exact h.elim
    | succ n ihn =>
      intro j lv pc f g l q p r h hB hf hM hg hlen hp
      obtain ⟨f, rfl⟩ : ∃ k, f = k + 1 := ⟨f - 1, by omega⟩
      obtain ⟨g, rfl⟩ : ∃ k, g = k + 1 := ⟨g - 1, by omega⟩
      have hlv := Rp.lv4 h
      rcases h with ⟨rfl, h2, _⟩ | ⟨j', tgt, rfl, h2, h⟩ | ⟨d, r', l', h1, h2, h3, h⟩ | ⟨d, x, i, rep, base, l', hk, h2, h3, h4, h5, h6, h7, h8, h9, h⟩
      · rw [runP_past h2]
        exact ⟨rfl, rfl, hp.id, fun hh => by cases hh⟩
      · rw [run_jump h2]
        exact ihn h (by omega) (by omega) hM hg hlen hp
      · cases r' with
        | nil =>
          subst h3
          exact ihn h hB hf hM hg hlen hp
        | cons x r' =>
          -- the statement x, and what follows it
          obtain ⟨hok, hr'⟩ : OkS t d x lv ∧ OkLv t (d + 1) r' lv := ⟨h2 x (List.mem_cons_self ..), fun y hy => h2 y (List.mem_cons_of_mem _ hy)⟩
          have hcomp : compL t (compT t d) (x :: r') lv pc = stmC t (compT t d) x lv pc ++ compL t (compT t d) r' lv (pc + (stmC t (compT t d) x lv pc).length) := rfl
          rw [hcomp] at h1 h
          obtain ⟨hx, hrest⟩ := Seg.append h1
          obtain ⟨l1, hl1⟩ : ∃ l1, l1 = itsOf (d + 1) r' ++ l' := ⟨_, rfl⟩
          have hl : l = ⟨d, x, 0⟩ :: l1 := by rw [h3, hl1]; rfl
          obtain ⟨pc1, hpc1⟩ : ∃ pc1, pc1 = pc + (stmC t (compT t d) x lv pc).length := ⟨_, rfl⟩
          have hR : Rp t cs p.regs (n + 1) j lv pc1 l1 := by
            refine Or.inr (Or.inr (Or.inl ⟨d, r', l', ?_, hr', hl1, ?_⟩))
            · rw [hpc1]; exact hrest
            · rw [hpc1, Nat.add_assoc, ← List.length_append]; exact h
          clear h h1 h3 hrest hcomp hl1 h2 ihn
          subst hl
          rw [wtL_cons] at hB hf
          rw [msL_cons] at hM hg
          have hgood := hok.1
          rcases hok.1.kind with hk | hk | hk | hk | hk | hk
          · -- send
            rw [stmC_send _ _ _ _ hk] at hx hpc1
            rw [wtI_send (x := (⟨d, x, 0⟩ : It)) hk] at hB hf
            rw [msI_other (x := (⟨d, x, 0⟩ : It)) (by rw [hk]; exact nSR)] at hM hg
            rw [run_send (hx.cons).1, doT_send (x := (⟨d, x, 0⟩ : It)) hk]
            obtain ⟨s1, s2, s3⟩ := hp.send q x.1.key
            have hreg := (sendP_kept q p x.1.key).1
            obtain rfl : pc1 = pc + 1 := by rw [hpc1]; rfl
            show Out t cs B _ (doT t now g l1 (sendP q r.p x.1.key).1 _)
            rw [← s1]
            refine ihM (n + 1) (by rw [hreg]; exact hR) (by omega) (by omega) (by omega) (by omega) (by rw [hreg]; exact hlen) s3
          · -- wait
            rw [stmC_wait _ _ _ _ hk] at hx hpc1
            rw [run_wait (hx.cons).1, doT_wait (x := (⟨d, x, 0⟩ : It)) hk]
            obtain rfl : pc1 = pc + 1 := by rw [hpc1]; rfl
            exact ⟨rfl, rfl, hp.id, fun _ => ⟨⟨hp.id, hp.dev, hp.sent, rfl, rfl⟩, hlen, ⟨pc + 1, rfl, Or.inl ⟨lv, n + 1, j, hR, by show wtL t l1 + j ≤ B; omega⟩⟩, fun hh => absurd rfl hh⟩⟩
          · -- stop
            rw [stmC_stop _ _ _ _ hk] at hx
            rw [run_end (hx.cons).1, doT_stop (x := (⟨d, x, 0⟩ : It)) hk]
            exact ⟨rfl, rfl, hp.id, fun hh => by cases hh⟩
          · -- ask
            rw [stmC_ask _ _ _ _ hk] at hx hpc1
            have hnr : ¬ bytesOf t x.1.p = kRepeat := by rw [hk]; exact nAR
            have hoAB := hok.2.2 hnr
            rw [wtI_ask (x := (⟨d, x, 0⟩ : It)) hk] at hB hf
            rw [msI_other (x := (⟨d, x, 0⟩ : It)) hnr] at hM hg
            simp only at hB hf hM hg
            have hmA := Nat.le_max_left (wtT t d x.2.1) (wtT t d x.2.2)
            have hmB := Nat.le_max_right (wtT t d x.2.1) (wtT t d x.2.2)
            obtain ⟨s1, s2, s3⟩ := hp.send q x.1.key
            have hreg := (sendP_kept q p x.1.key).1
            obtain ⟨c0, hx1⟩ := hx.cons
            obtain ⟨hA, hx2⟩ := Seg.append hx1
            obtain ⟨c1, hBs⟩ := hx2.cons
            obtain ⟨a, ha⟩ : ∃ a, a = (compT t d x.2.1 lv (pc + 1)).length := ⟨_, rfl⟩
            rw [← ha] at c0 hx2 c1 hBs hpc1
            rw [show pc + 1 + a + 1 = pc + 2 + a from by omega] at hBs
            have hBl : pc + 2 + a + (compT t d x.2.2 lv (pc + 2 + a)).length = pc1 := by rw [hpc1]; simp [← ha]; omega
            have hRB : ∃ m, Rp t cs p.regs m j lv (pc + 2 + a) (itsOf d x.2.2 ++ l1) := Rp.block hBs hoAB.2 (by rw [hBl]; exact hR)
            have hRA : ∃ m, Rp t cs p.regs m (j + 1) lv (pc + 1) (itsOf d x.2.1 ++ l1) := by
              refine Rp.block hA hoAB.1 (n := n + 1 + 1) ?_
              rw [← ha]
              refine Rp.jump (c := pc1) ?_ hR
              rw [c1, ← hBl]
            obtain ⟨mB, hRB⟩ := hRB
            obtain ⟨mA, hRA⟩ := hRA
            by_cases h0 : (sendP q p x.1.key).2.2 = 0
            · rw [run_ask_no c0 q p h0, doT_ask_no (x := (⟨d, x, 0⟩ : It)) hk (by rw [← s2]; exact h0)]
              show Out t cs B _ (doT t now g (itsOf d x.2.2 ++ l1) (sendP q r.p x.1.key).1 _)
              rw [← s1]
              refine ihM mB (by rw [hreg]; exact hRB) ?_ ?_ ?_ ?_ (by rw [hreg]; exact hlen) s3
              · rw [wtL_append, wtL_its]; omega
              · rw [wtL_append, wtL_its]; omega
              · rw [msL_append, msL_its]; omega
              · rw [msL_append, msL_its]; omega
            · rw [run_ask_yes c0 q p h0, doT_ask_yes (x := (⟨d, x, 0⟩ : It)) hk (by rw [← s2]; exact h0)]
              refine ⟨s1, rfl, s3.id, fun _ => ⟨⟨s3.id, s3.dev, s3.sent, rfl, s2⟩, ?_, ?_, fun _ => ?_⟩⟩
              · show (sendP q p x.1.key).2.1.regs.length = 12
                rw [hreg]; exact hlen
              · refine ⟨pc + 2 + a, rfl, Or.inl ⟨lv, mB, j, ?_, ?_⟩⟩
                · show Rp t cs (sendP q p x.1.key).2.1.regs mB j lv (pc + 2 + a) (itsOf d x.2.2 ++ l1)
                  rw [hreg]; exact hRB
                · show wtL t (itsOf d x.2.2 ++ l1) + j ≤ B
                  rw [wtL_append, wtL_its]; omega
              · refine ⟨pc + 1, lv, rfl, mA, j + 1, ?_, ?_⟩
                · show Rp t cs (sendP q p x.1.key).2.1.regs mA (j + 1) lv (pc + 1) (itsOf d x.2.1 ++ l1)
                  rw [hreg]; exact hRA
                · show wtL t (itsOf d x.2.1 ++ l1) + (j + 1) ≤ B
                  rw [wtL_append, wtL_its]; omega
          · -- retry
            rw [stmC_retry _ _ _ _ hk] at hpc1
            have hx' := hx
            rw [stmC_retry _ _ _ _ hk] at hx
            have hnr : ¬ bytesOf t x.1.p = kRepeat := by rw [hk]; exact nTR
            have hoAB := hok.2.2 hnr
            have hmn : 1 ≤ x.1.n ∧ x.1.n ≤ 999 ∧ 1 ≤ x.1.m ∧ x.1.m ≤ 6 := by
              rcases hgood with ⟨h, _⟩ | ⟨h, _⟩ | ⟨h, _⟩ | ⟨h, _⟩ | ⟨_, h1, h2, h3, h4⟩ | ⟨h, _⟩
              · rw [hk] at h; cases h
              · rw [hk] at h; cases h
              · rw [hk] at h; cases h
              · rw [hk] at h; cases h
              · exact ⟨h1, h2, h3, h4⟩
              · rw [hk] at h; cases h
            have hwI : wtI t (⟨d, x, 1⟩ : It) = wtI t (⟨d, x, 0⟩ : It) := by rw [wtI_retry (x := (⟨d, x, 0⟩ : It)) hk, wtI_retry (x := (⟨d, x, 1⟩ : It)) hk]
            have hwI0 := wtI_retry (x := (⟨d, x, 0⟩ : It)) hk
            simp only at hwI0
            have hmA := Nat.le_max_left (wtT t d x.2.1) (wtT t d x.2.2)
            obtain ⟨c0, hx1⟩ := hx.cons
            obtain ⟨c1, hx2⟩ := hx1.cons
            obtain ⟨c2, hx3⟩ := hx2.cons
            obtain ⟨c3, hx4⟩ := hx3.cons
            obtain ⟨c4, hx5⟩ := hx4.cons
            obtain ⟨hBs, hx6⟩ := Seg.append hx5
            obtain ⟨c5, hA⟩ := hx6.cons
            obtain ⟨b, hb⟩ : ∃ b, b = (compT t d x.2.2 lv (pc + 5)).length := ⟨_, rfl⟩
            rw [← hb] at c2 c5 hA hpc1
            obtain ⟨f, rfl⟩ : ∃ k, f = k + 1 := ⟨f - 1, by omega⟩
            obtain ⟨f, rfl⟩ : ∃ k, f = k + 1 := ⟨f - 1, by omega⟩
            rw [run_set (a := 4) c0, run_set (a := 5) c1]
            obtain ⟨p2, hp2⟩ : ∃ p2 : Pr, p2 = { p with regs := (p.regs.set 4 x.1.m).set 5 x.1.n } := ⟨_, rfl⟩
            have hr5 : p2.regs.getD 5 0 = x.1.n := by rw [hp2]; exact getD_set_same (by simp; omega)
            have hr4 : p2.regs.getD 4 0 = x.1.m := by
              rw [hp2]
              show ((p.regs.set 4 x.1.m).set 5 x.1.n).getD 4 0 = x.1.m
              rw [getD_set_other (by decide)]; exact getD_set_same (by omega)
            have hrl : p2.regs.length = 12 := by rw [hp2]; simpa using hlen
            have hro : ∀ k, k < lv → p2.regs.getD k 0 = p.regs.getD k 0 := fun k hk => by
              rw [hp2]
              show ((p.regs.set 4 x.1.m).set 5 x.1.n).getD k 0 = _
              rw [getD_set_other (by omega), getD_set_other (by omega)]
            have hpp : SameP p2 r.p := by rw [hp2]; exact ⟨hp.id, hp.dev, hp.sent, hp.til, hp.num⟩
            show Out t cs B (runP now cs (f + 1) ((pc + 1 + 1 : Nat) : Int) q { p with regs := (p.regs.set 4 x.1.m).set 5 x.1.n }) _
            rw [← hp2, run_hold (b := 5) c2 q p2 (by rw [hr5]; omega), doT_retry_on (x := (⟨d, x, 0⟩ : It)) hk (by simp; omega), hr5]
            obtain ⟨s1, s2, s3⟩ := hpp.send q x.1.key
            have hreg := (sendP_kept q p2 x.1.key).1
            have hR2 := Rp.regs hro hR
            have hAl : pc + 6 + b + (compT t d x.2.1 lv (pc + 6 + b)).length = pc1 := by rw [hpc1]; simp [← hb]; omega
            rw [show pc + 1 + 1 + 1 + 1 + 1 + b + 1 = pc + 6 + b from by omega] at hA
            obtain ⟨mA, hRA⟩ := Rp.block hA hoAB.1 (by rw [hAl]; exact hR2)
            refine ⟨s1, rfl, s3.id, fun _ => ⟨⟨s3.id, s3.dev, s3.sent, ?_, s2⟩, ?_, ?_, fun _ => ?_⟩⟩
            · show now + x.1.n = now + x.1.n * 2 ^ 0
              simp
            · show (sendP q p2 x.1.key).2.1.regs.length = 12
              rw [hreg]; exact hrl
            · refine ⟨pc + 3, rfl, Or.inr ⟨d, x, 1, lv, pc, n + 1, j, l1, hk, hx', hok, rfl, by omega, by omega, ?_, ?_, rfl, ?_, ?_⟩⟩
              · show (sendP q p2 x.1.key).2.1.regs.getD 4 0 = _
                rw [hreg, hr4]; omega
              · show (sendP q p2 x.1.key).2.1.regs.getD 5 0 = _
                rw [hreg, hr5]; simp
              · show Rp t cs (sendP q p2 x.1.key).2.1.regs _ _ _ _ _
                rw [hreg]
                have e : pc + (stmC t (compT t d) x lv pc).length = pc1 := by rw [hpc1, stmC_retry _ _ _ _ hk, ← hb]
                rw [e]; exact hR2
              · show wtL t (⟨d, x, 1⟩ :: l1) + j ≤ B
                rw [wtL_cons, hwI]; exact hB
            · refine ⟨pc + 6 + b, lv, rfl, mA, j, ?_, ?_⟩
              · show Rp t cs (sendP q p2 x.1.key).2.1.regs _ _ _ _ _
                rw [hreg]; exact hRA
              · show wtL t (itsOf d x.2.1 ++ l1) + j ≤ B
                rw [wtL_append, wtL_its]; omega
          · -- repeat
            have hx' := hx
            rw [stmC_repeat _ _ _ _ hk] at hx hpc1
            obtain ⟨hlv4, hoA⟩ := hok.2.1 hk
            have hn9 : 1 ≤ x.1.n ∧ x.1.n ≤ 9 := by
              rcases hgood with ⟨h, _⟩ | ⟨h, _⟩ | ⟨h, _⟩ | ⟨h, _⟩ | ⟨h, _⟩ | ⟨_, h1, h2, _⟩
              · rw [hk] at h; cases h
              · rw [hk] at h; cases h
              · rw [hk] at h; cases h
              · rw [hk] at h; cases h
              · rw [hk] at h; cases h
              · exact ⟨h1, h2⟩
            rw [wtI_repeat (x := (⟨d, x, 0⟩ : It)) hk] at hB hf
            rw [msI_repeat (x := (⟨d, x, 0⟩ : It)) hk] at hM hg
            simp only at hB hf hM hg
            rw [round_step (show 0 < x.1.n.toNat by omega)] at hB hf hM hg
            obtain ⟨c0, hx1⟩ := hx.cons
            obtain ⟨hA, hx2⟩ := Seg.append hx1
            rw [run_set c0, doT_repeat_on (x := (⟨d, x, 0⟩ : It)) hk (by show ((0 : Nat) : Int) < x.1.n; omega)]
            obtain ⟨p2, hp2⟩ : ∃ p2 : Pr, p2 = { p with regs := p.regs.set lv x.1.n } := ⟨_, rfl⟩
            rw [← hp2]
            have hrv : p2.regs.getD lv 0 = x.1.n := by rw [hp2]; exact getD_set_same (by omega)
            have hrl : p2.regs.length = 12 := by rw [hp2]; simpa using hlen
            have hro : ∀ k, k < lv → p2.regs.getD k 0 = p.regs.getD k 0 := fun k hk => by rw [hp2]; exact getD_set_other (by omega)
            have hpp : SameP p2 r.p := by rw [hp2]; exact ⟨hp.id, hp.dev, hp.sent, hp.til, hp.num⟩
            have hL : Rp t cs p2.regs (n + 1 + 1) j (lv + 1) (pc + 1 + (compT t d x.2.1 (lv + 1) (pc + 1)).length) (⟨d, x, 1⟩ :: l1) := by
              refine Or.inr (Or.inr (Or.inr ⟨d, x, 1, lv, pc, l1, hk, rfl, hx', hok, rfl, by omega, by omega, ?_, rfl, ?_⟩))
              · rw [hrv]; omega
              · have e : pc + 1 + (compT t d x.2.1 (lv + 1) (pc + 1)).length + 1 = pc1 := by rw [hpc1]; simp; omega
                rw [e]; exact Rp.regs hro hR
            obtain ⟨mA, hRA⟩ := Rp.block hA hoA hL
            refine ihM mA hRA ?_ ?_ ?_ ?_ hrl hpp
            · show wtL t (itsOf d x.2.1 ++ ⟨d, x, 0 + 1⟩ :: l1) + j ≤ B
              rw [wtL_append, wtL_its, wtL_cons, wtI_repeat (x := (⟨d, x, 0 + 1⟩ : It)) hk]
              simp only
              omega
            · show wtL t (itsOf d x.2.1 ++ ⟨d, x, 0 + 1⟩ :: l1) + j + 3 < f
              rw [wtL_append, wtL_its, wtL_cons, wtI_repeat (x := (⟨d, x, 0 + 1⟩ : It)) hk]
              simp only
              omega
            · show msL t (itsOf d x.2.1 ++ ⟨d, x, 0 + 1⟩ :: l1) ≤ M
              rw [msL_append, msL_its, msL_cons, msI_repeat (x := (⟨d, x, 0 + 1⟩ : It)) hk]
              simp only
              omega
            · show msL t (itsOf d x.2.1 ++ ⟨d, x, 0 + 1⟩ :: l1) < g
              rw [msL_append, msL_its, msL_cons, msI_repeat (x := (⟨d, x, 0 + 1⟩ : It)) hk]
              simp only
              omega
      · -- at a repeat's end
        subst h9 h2
        have h3' := h3
        rw [stmC_repeat _ _ _ _ hk] at h3
        obtain ⟨_, hx1⟩ := h3.cons
        obtain ⟨hA, hx2⟩ := Seg.append hx1
        obtain ⟨c1, _⟩ := hx2.cons
        rw [← h5] at c1
        obtain ⟨hlv4, hoA⟩ := h4.2.1 hk
        have hn9 : 1 ≤ x.1.n ∧ x.1.n ≤ 9 := by
          rcases h4.1 with ⟨h, _⟩ | ⟨h, _⟩ | ⟨h, _⟩ | ⟨h, _⟩ | ⟨h, _⟩ | ⟨_, h1, h2, _⟩
          · rw [hk] at h; cases h
          · rw [hk] at h; cases h
          · rw [hk] at h; cases h
          · rw [hk] at h; cases h
          · rw [hk] at h; cases h
          · exact ⟨h1, h2⟩
        rw [wtL_cons, wtI_repeat (x := (⟨d, x, i⟩ : It)) hk] at hB hf
        rw [msL_cons, msI_repeat (x := (⟨d, x, i⟩ : It)) hk] at hM hg
        simp only at hB hf hM hg
        by_cases hi : (i : Int) < x.1.n
        · rw [round_step (show i < x.1.n.toNat by omega)] at hB hf hM hg
          rw [run_loop_on c1 q p (by rw [h8]; omega), doT_repeat_on (x := (⟨d, x, i⟩ : It)) hk hi]
          obtain ⟨p2, hp2⟩ : ∃ p2 : Pr, p2 = { p with regs := p.regs.set rep (p.regs.getD rep 0 - 1) } := ⟨_, rfl⟩
          rw [← hp2]
          have hrv : p2.regs.getD rep 0 = x.1.n - i := by rw [hp2]; show (p.regs.set rep _).getD rep 0 = _; rw [getD_set_same (by omega), h8]; omega
          have hrl : p2.regs.length = 12 := by rw [hp2]; simpa using hlen
          have hro : ∀ k, k < rep → p2.regs.getD k 0 = p.regs.getD k 0 := fun k hk => by rw [hp2]; exact getD_set_other (by omega)
          have hpp : SameP p2 r.p := by rw [hp2]; exact ⟨hp.id, hp.dev, hp.sent, hp.til, hp.num⟩
          have hL : Rp t cs p2.regs (n + 1) j (rep + 1) (base + 1 + (compT t d x.2.1 (rep + 1) (base + 1)).length) (⟨d, x, i + 1⟩ :: l') := by
            refine Or.inr (Or.inr (Or.inr ⟨d, x, i + 1, rep, base, l', hk, rfl, h3', h4, rfl, by omega, by omega, ?_, rfl, ?_⟩))
            · rw [hrv]; omega
            · rw [← h5]; exact Rp.regs hro h
          obtain ⟨mA, hRA⟩ := Rp.block hA hoA hL
          refine ihM mA hRA ?_ ?_ ?_ ?_ hrl hpp
          · show wtL t (itsOf d x.2.1 ++ ⟨d, x, i + 1⟩ :: l') + j ≤ B
            rw [wtL_append, wtL_its, wtL_cons, wtI_repeat (x := (⟨d, x, i + 1⟩ : It)) hk]
            simp only
            omega
          · show wtL t (itsOf d x.2.1 ++ ⟨d, x, i + 1⟩ :: l') + j + 3 < f
            rw [wtL_append, wtL_its, wtL_cons, wtI_repeat (x := (⟨d, x, i + 1⟩ : It)) hk]
            simp only
            omega
          · show msL t (itsOf d x.2.1 ++ ⟨d, x, i + 1⟩ :: l') ≤ M
            rw [msL_append, msL_its, msL_cons, msI_repeat (x := (⟨d, x, i + 1⟩ : It)) hk]
            simp only
            omega
          · show msL t (itsOf d x.2.1 ++ ⟨d, x, i + 1⟩ :: l') < g
            rw [msL_append, msL_its, msL_cons, msI_repeat (x := (⟨d, x, i + 1⟩ : It)) hk]
            simp only
            omega
        · rw [run_loop_out c1 q p (by rw [h8]; omega), doT_repeat_out (x := (⟨d, x, i⟩ : It)) hk hi]
          obtain ⟨p2, hp2⟩ : ∃ p2 : Pr, p2 = { p with regs := p.regs.set rep 0 } := ⟨_, rfl⟩
          rw [← hp2]
          have hrl : p2.regs.length = 12 := by rw [hp2]; simpa using hlen
          have hro : ∀ k, k < rep → p2.regs.getD k 0 = p.regs.getD k 0 := fun k hk => by rw [hp2]; exact getD_set_other (by omega)
          have hpp : SameP p2 r.p := by rw [hp2]; exact ⟨hp.id, hp.dev, hp.sent, hp.til, hp.num⟩
          exact ihM n (Rp.regs hro h) (by omega) (by omega) (by omega) (by omega) hrl hpp
theorem pow_small {i : Nat} (h : i ≤ 6) : (2 : Int) ^ i ≤ 64 := by
  have h1 : 2 ^ i ≤ 2 ^ 6 := Nat.pow_le_pow_right (by decide) h
  have h2 : ((2 ^ i : Nat) : Int) ≤ ((2 ^ 6 : Nat) : Int) := Int.ofNat_le.mpr h1
  simpa using h2
theorem pow_pos {i : Nat} : (1 : Int) ≤ 2 ^ i := by
  have h1 : 1 ≤ 2 ^ i := Nat.one_le_two_pow
  have h2 : ((1 : Nat) : Int) ≤ ((2 ^ i : Nat) : Int) := Int.ofNat_le.mpr h1
  simpa using h2
set_option maxHeartbeats 1000000 in
/-- A run goes on without an answer. -/
theorem sim_no {t : ByteArray} {cs : List Ins} {now : Int} {B f e g : Nat} {l : List It} {q : List Msg} {p : Pr} {r : TR} (h : RpNo t cs p.regs B e l) (hf : B + 6 < f) (hg : msL t l < g) (hlen : p.regs.length = 12) (hp : SameP p r.p) :
    Out t cs B (runP now cs f (e : Nat) q p) (doT t now g l q r) := by
  rcases h with ⟨lv, n, j, h, hB⟩ | ⟨d, x, i, lv, base, n, j, l', hk, hx, hok, rfl, hi1, him, hr4, hr5, rfl, hR, hB⟩
  · exact sim (msL t l) n h hB (by omega) (Nat.le_refl _) hg hlen hp
  · have hx' := hx
    obtain ⟨pc1, hpc1⟩ : ∃ pc1, pc1 = base + (stmC t (compT t d) x lv base).length := ⟨_, rfl⟩
    have hR' := hR
    rw [← hpc1] at hR
    rw [stmC_retry _ _ _ _ hk] at hx hpc1
    have hnr : ¬ bytesOf t x.1.p = kRepeat := by rw [hk]; exact nTR
    have hoAB := hok.2.2 hnr
    have hlv := Rp.lv4 hR
    have hmn : 1 ≤ x.1.n ∧ x.1.n ≤ 999 ∧ 1 ≤ x.1.m ∧ x.1.m ≤ 6 := by
      rcases hok.1 with ⟨h, _⟩ | ⟨h, _⟩ | ⟨h, _⟩ | ⟨h, _⟩ | ⟨_, h1, h2, h3, h4⟩ | ⟨h, _⟩
      · rw [hk] at h; cases h
      · rw [hk] at h; cases h
      · rw [hk] at h; cases h
      · rw [hk] at h; cases h
      · exact ⟨h1, h2, h3, h4⟩
      · rw [hk] at h; cases h
    rw [wtL_cons] at hB
    have hwI := wtI_retry (x := (⟨d, x, i⟩ : It)) hk
    have hwI2 : wtI t (⟨d, x, i + 1⟩ : It) = wtI t (⟨d, x, i⟩ : It) := by rw [wtI_retry (x := (⟨d, x, i + 1⟩ : It)) hk, wtI_retry (x := (⟨d, x, i⟩ : It)) hk]
    simp only at hwI
    rw [hwI] at hB
    have hmA := Nat.le_max_left (wtT t d x.2.1) (wtT t d x.2.2)
    have hmB := Nat.le_max_right (wtT t d x.2.1) (wtT t d x.2.2)
    rw [msL_cons, msI_other (x := (⟨d, x, i⟩ : It)) hnr] at hg
    simp only at hg
    obtain ⟨_, hx1⟩ := hx.cons
    obtain ⟨_, hx2⟩ := hx1.cons
    obtain ⟨c2, hx3⟩ := hx2.cons
    obtain ⟨c3, hx4⟩ := hx3.cons
    obtain ⟨c4, hx5⟩ := hx4.cons
    obtain ⟨hBs, hx6⟩ := Seg.append hx5
    obtain ⟨c5, hA⟩ := hx6.cons
    obtain ⟨b, hb⟩ : ∃ b, b = (compT t d x.2.2 lv (base + 5)).length := ⟨_, rfl⟩
    rw [← hb] at c2 c5 hA hpc1
    obtain ⟨f, rfl⟩ : ∃ k, f = k + 1 := ⟨f - 1, by omega⟩
    obtain ⟨f, rfl⟩ : ∃ k, f = k + 1 := ⟨f - 1, by omega⟩
    obtain ⟨f, rfl⟩ : ∃ k, f = k + 1 := ⟨f - 1, by omega⟩
    obtain ⟨g, rfl⟩ : ∃ k, g = k + 1 := ⟨g - 1, by omega⟩
    obtain ⟨ii, rfl⟩ : ∃ ii, i = ii + 1 := ⟨i - 1, by omega⟩
    rw [Nat.add_sub_cancel] at hr5
    have hp2 := pow_small (i := ii) (by omega)
    have hp1 := pow_pos (i := ii)
    have hmul : x.1.n * 2 ^ ii ≤ 999 * 64 := Int.mul_le_mul hmn.2.1 hp2 (by omega) (by omega)
    have hmul1 : 1 ≤ x.1.n * 2 ^ (ii + 1) := by
      have h1 : 1 * 1 ≤ x.1.n * 2 ^ (ii + 1) := Int.mul_le_mul hmn.1 (pow_pos (i := ii + 1)) (by omega) (by omega)
      omega
    have hdbl : 2 * (x.1.n * 2 ^ ii) = x.1.n * 2 ^ (ii + 1) := by rw [Int.pow_succ]; generalize (2 : Int) ^ ii = z; rw [Int.mul_comm z 2, ← Int.mul_assoc, ← Int.mul_assoc, Int.mul_comm 2 x.1.n]
    rw [run_twice (a := 5) c3 q p (by rw [hr5]; omega), hr5, hdbl]
    obtain ⟨p2, hp2e⟩ : ∃ p2 : Pr, p2 = { p with regs := p.regs.set 5 (x.1.n * 2 ^ (ii + 1)) } := ⟨_, rfl⟩
    rw [← hp2e]
    have h24 : p2.regs.getD 4 0 = x.1.m - (ii + 1 : Nat) + 1 := by
      rw [hp2e]
      show (p.regs.set 5 _).getD 4 0 = _
      rw [getD_set_other (by decide)]; exact hr4
    have h25 : p2.regs.getD 5 0 = x.1.n * 2 ^ (ii + 1) := by rw [hp2e]; exact getD_set_same (by omega)
    have h2l : p2.regs.length = 12 := by rw [hp2e]; simpa using hlen
    have h2o : ∀ k, k < lv → p2.regs.getD k 0 = p.regs.getD k 0 := fun k hk => by
      rw [hp2e]; exact getD_set_other (by omega)
    have h2p : SameP p2 r.p := by rw [hp2e]; exact ⟨hp.id, hp.dev, hp.sent, hp.til, hp.num⟩
    by_cases him2 : ((ii + 1 : Nat) : Int) = x.1.m
    · rw [show base + 3 + 1 = base + 1 + 1 + 1 + 1 from by omega, run_loop_out (a := 4) (c := base + 2) c4 q p2 (by rw [h24]; omega), doT_retry_out (x := (⟨d, x, ii + 1⟩ : It)) hk him2]
      obtain ⟨p3, hp3e⟩ : ∃ p3 : Pr, p3 = { p2 with regs := p2.regs.set 4 0 } := ⟨_, rfl⟩
      rw [← hp3e]
      have h3l : p3.regs.length = 12 := by rw [hp3e]; simpa using h2l
      have h3o : ∀ k, k < lv → p3.regs.getD k 0 = p.regs.getD k 0 := fun k hk => by
        rw [hp3e]
        show (p2.regs.set 4 0).getD k 0 = _
        rw [getD_set_other (by omega)]; exact h2o k hk
      have h3p : SameP p3 r.p := by rw [hp3e]; exact ⟨h2p.id, h2p.dev, h2p.sent, h2p.til, h2p.num⟩
      have hR3 := Rp.regs h3o hR
      have hBj : ∃ m, Rp t cs p3.regs m (j + 1) lv (base + 5) (itsOf d x.2.2 ++ l') := by
        refine Rp.block hBs hoAB.2 (n := n + 1) (Rp.jump (c := pc1) ?_ hR3)
        rw [← hb]
        rw [show base + 1 + 1 + 1 + 1 + 1 + b = base + 5 + b from by omega] at c5
        rw [c5, hpc1]
        simp [← hb]
        omega
      obtain ⟨m, hBj⟩ := hBj
      refine sim (msL t (itsOf d x.2.2 ++ l')) m hBj ?_ ?_ (Nat.le_refl _) ?_ h3l h3p
      · show wtL t (itsOf d x.2.2 ++ l') + (j + 1) ≤ B
        rw [wtL_append, wtL_its]; omega
      · show wtL t (itsOf d x.2.2 ++ l') + (j + 1) + 3 < f + 1
        rw [wtL_append, wtL_its]; omega
      · show msL t (itsOf d x.2.2 ++ l') < g
        rw [msL_append, msL_its]; omega
    · rw [show base + 3 + 1 = base + 1 + 1 + 1 + 1 from by omega, run_loop_on (a := 4) (c := base + 2) c4 q p2 (by rw [h24]; omega), doT_retry_on (x := (⟨d, x, ii + 1⟩ : It)) hk him2]
      obtain ⟨p3, hp3e⟩ : ∃ p3 : Pr, p3 = { p2 with regs := p2.regs.set 4 (p2.regs.getD 4 0 - 1) } := ⟨_, rfl⟩
      rw [← hp3e]
      have h34 : p3.regs.getD 4 0 = x.1.m - (ii + 1 : Nat) := by
        rw [hp3e]
        show (p2.regs.set 4 _).getD 4 0 = _
        rw [getD_set_same (by omega), h24]; omega
      have h35 : p3.regs.getD 5 0 = x.1.n * 2 ^ (ii + 1) := by
        rw [hp3e]
        show (p2.regs.set 4 _).getD 5 0 = _
        rw [getD_set_other (by decide)]; exact h25
      have h3l : p3.regs.length = 12 := by rw [hp3e]; simpa using h2l
      have h3o : ∀ k, k < lv → p3.regs.getD k 0 = p.regs.getD k 0 := fun k hk => by
        rw [hp3e]
        show (p2.regs.set 4 _).getD k 0 = _
        rw [getD_set_other (by omega)]; exact h2o k hk
      have h3p : SameP p3 r.p := by rw [hp3e]; exact ⟨h2p.id, h2p.dev, h2p.sent, h2p.til, h2p.num⟩
      have hR3 := Rp.regs h3o hR
      rw [run_hold (b := 5) c2 q p3 (by rw [h35]; exact hmul1), h35]
      obtain ⟨s1, s2, s3⟩ := h3p.send q x.1.key
      have hreg := (sendP_kept q p3 x.1.key).1
      have hAl : base + 6 + b + (compT t d x.2.1 lv (base + 6 + b)).length = pc1 := by rw [hpc1]; simp [← hb]; omega
      rw [show base + 1 + 1 + 1 + 1 + 1 + b + 1 = base + 6 + b from by omega] at hA
      obtain ⟨mA, hRA⟩ := Rp.block hA hoAB.1 (by rw [hAl]; exact hR3)
      refine ⟨s1, rfl, s3.id, fun _ => ⟨⟨s3.id, s3.dev, s3.sent, rfl, s2⟩, ?_, ?_, fun _ => ?_⟩⟩
      · show (sendP q p3 x.1.key).2.1.regs.length = 12
        rw [hreg]; exact h3l
      · refine ⟨base + 3, rfl, Or.inr ⟨d, x, ii + 1 + 1, lv, base, n, j, l', hk, hx', hok, rfl, by omega, by omega, ?_, ?_, rfl, ?_, ?_⟩⟩
        · show (sendP q p3 x.1.key).2.1.regs.getD 4 0 = _
          rw [hreg, h34]; omega
        · show (sendP q p3 x.1.key).2.1.regs.getD 5 0 = _
          rw [hreg, h35]; rfl
        · show Rp t cs (sendP q p3 x.1.key).2.1.regs _ _ _ _ _
          rw [hreg]; exact Rp.regs h3o hR'
        · show wtL t (⟨d, x, ii + 1 + 1⟩ :: l') + j ≤ B
          rw [wtL_cons, hwI2, hwI]; exact hB
      · refine ⟨base + 6 + b, lv, rfl, mA, j, ?_, ?_⟩
        · show Rp t cs (sendP q p3 x.1.key).2.1.regs _ _ _ _ _
          rw [hreg]; exact hRA
        · show wtL t (itsOf d x.2.1 ++ l') + j ≤ B
          rw [wtL_append, wtL_its]; omega
theorem onP_yes (now : Int) (cs : List Ins) (q : List Msg) (p : Pr) : onP now cs true q p = runP now cs 10000 p.tow q { p with num := 0 } := rfl
theorem onP_no (now : Int) (cs : List Ins) (q : List Msg) (p : Pr) : onP now cs false q p = runP now cs 10000 p.els (if 0 < p.num then takeQ q p.id p.num else q) { p with num := 0 } := by
  unfold onP
  rw [if_neg (by simp)]
  split <;> rfl
theorem onT_yes (t : ByteArray) (now : Int) (q : List Msg) (r : TR) : onT t now true q r = doT t now (msL t r.yes + 1) r.yes q { r with p := { r.p with num := 0 } } := rfl
theorem onT_no (t : ByteArray) (now : Int) (q : List Msg) (r : TR) : onT t now false q r = doT t now (msL t r.no + 1) r.no (if 0 < r.p.num then takeQ q r.p.id r.p.num else q) { r with p := { r.p with num := 0 } } := by
  unfold onT
  rw [if_neg (by simp)]
  split <;> rfl
theorem runP_pc {now : Int} {cs : List Ins} {F : Nat} {a b : Int} (h : a = b) (q : List Msg) (p : Pr) : runP now cs F a q p = runP now cs F b q p := by rw [h]
theorem Tied.on {t : ByteArray} {cs : List Ins} {B : Nat} {p : Pr} {r : TR} (h : Tied t cs B p r) (hB : B + 6 < 10000) (now : Int) (yes : Bool) (q : List Msg) (hy : yes = true → p.num ≠ 0) : Out t cs B (onP now cs yes q p) (onT t now yes q r) := by
  obtain ⟨F, hF⟩ : ∃ F, F = 10000 := ⟨_, rfl⟩
  have hp0 : SameP { p with num := 0 } { r.p with num := 0 } := ⟨h.pub.id, h.pub.dev, h.pub.sent, h.pub.til, rfl⟩
  cases yes with
  | true =>
    obtain ⟨e, lv, he, n, j, hR, hw⟩ := h.yes (hy rfl)
    rw [onP_yes, onT_yes, ← hF, runP_pc he]
    exact sim (r := { r with p := { r.p with num := 0 } }) (msL t r.yes) n hR hw (by omega) (Nat.le_refl _) (Nat.lt_succ_self _) h.len hp0
  | false =>
    obtain ⟨e, he, hR⟩ := h.no
    have eq : (if 0 < p.num then takeQ q p.id p.num else q) = (if 0 < r.p.num then takeQ q r.p.id r.p.num else q) := by rw [h.pub.num, h.pub.id]
    rw [onP_no, onT_no, ← hF, eq, runP_pc he]
    exact sim_no (p := { p with num := 0 }) (r := { r with p := { r.p with num := 0 } }) hR (by omega) (Nat.lt_succ_self _) h.len hp0
theorem sendT_id (q : List Msg) (p : Pr) (key : Int) : (sendP q p key).2.1.id = p.id := by
  unfold sendP; split <;> rfl
theorem doT_id {t : ByteArray} {now : Int} : ∀ (g : Nat) (l : List It) (q : List Msg) (r : TR), (doT t now g l q r).2.1.p.id = r.p.id := by
  intro g
  induction g with
  | zero => intro l q r; rfl
  | succ g ih =>
    intro l q r
    cases l with
    | nil => rfl
    | cons x l =>
      rw [doT]
      split
      · rw [ih]; exact sendT_id _ _ _
      · split
        · rfl
        · split
          · rfl
          · split
            · split
              · rw [ih]; exact sendT_id _ _ _
              · exact sendT_id _ _ _
            · split
              · split
                · rw [ih]
                · exact sendT_id _ _ _
              · split
                · split
                  · rw [ih]
                  · rw [ih]
                · rfl
theorem onT_id {t : ByteArray} {now : Int} (yes : Bool) (q : List Msg) (r : TR) : (onT t now yes q r).2.1.p.id = r.p.id := by
  unfold onT
  split
  · rw [doT_id]
  · split
    · rw [doT_id]
    · rw [doT_id]
/-- Runs of a text's code do what runs of the text do. -/
theorem sameEng {t : ByteArray} {tr : Tree 5} {B : Nat} (hB : B + 6 < 10000) (hw : wtT t 5 tr ≤ B) (ho : OkLv t 5 tr 0) : SameEng (codeE (codeOf t tr)) (textE t tr) (Tied t (codeOf t tr) B) := by
  have hseg : Seg (codeOf t tr) 0 (compT t 5 tr 0 0) := fun i x hx => by rw [Nat.zero_add]; exact hx
  have hst : ∀ now q id dev, Out t (codeOf t tr) B (runP now (codeOf t tr) 10000 ((0 : Nat) : Int) q (freshP id dev)) (doT t now (msT t 5 tr + 1) (itsOf 5 tr) q ⟨freshP id dev, [], []⟩) := by
    intro now q id dev
    obtain ⟨m, hm⟩ : ∃ m, Rp t (codeOf t tr) (freshP id dev).regs m 0 0 0 (itsOf 5 tr ++ []) := Rp.block hseg ho (n := 1) (Or.inl ⟨rfl, by unfold codeOf; simp, by omega⟩)
    rw [List.append_nil] at hm
    have h1 : wtL t (itsOf 5 tr) = wtT t 5 tr := wtL_its t 5 tr
    have h2 : msL t (itsOf 5 tr) = msT t 5 tr := msL_its t 5 tr
    exact sim (msT t 5 tr) m hm (by omega) (by omega) (by omega) (by omega) (by simp [freshP]) ⟨rfl, rfl, rfl, rfl, rfl⟩
  refine ⟨fun a b h => ?_, fun now q id dev => ?_, fun id dev => ⟨rfl, rfl⟩, fun a b h now yes q hy => ?_⟩
  · show pubP a = pubP b.p
    unfold pubP
    rw [h.pub.id, h.pub.dev, h.pub.sent, h.pub.til, h.pub.num]
  · have h := hst now q id dev
    have hid := doT_id (t := t) (now := now) (msT t 5 tr + 1) (itsOf 5 tr) q ⟨freshP id dev, [], []⟩
    exact ⟨h.q, h.done, h.id.trans hid, hid, h.tied⟩
  · have ho := h.on hB now yes q hy
    have hid := onT_id (t := t) (now := now) yes q b
    exact ⟨ho.q, ho.done, (ho.id.trans hid).trans h.pub.id.symm, hid, ho.tied⟩
theorem dStop : bytesOf dict (10, 14) = kStop := by decide +kernel
theorem dRepeat : bytesOf dict (25, 31) = kRepeat := by decide +kernel
def hStop : Hd := ⟨(10, 14), 0, 0, 0⟩
def hRepeat (n : Int) : Hd := ⟨(25, 31), 0, n, 0⟩
theorem AL.stop {T : Type} {sub : List (List UInt8) → T → Prop} {nil : T} {ur : List (List UInt8)} {r : List (Hd × T × T)} (h : AL dict sub nil ur r) : AL dict sub nil (kStop :: ur) ((hStop, nil, nil) :: r) :=
  ⟨[kStop], [], ur, 0, rfl, .inr (.inr (.inl ⟨rfl, rfl, dStop, rfl, rfl, rfl⟩)), h, .inl ⟨rfl, rfl, rfl, rfl⟩⟩
theorem AL.ask {T : Type} {sub : List (List UInt8) → T → Prop} {nil : T} {ur ua : List (List UInt8)} {r : List (Hd × T × T)} {a : T} {q s : List UInt8} (hk : 0 ≤ keyL q) (h1 : 1 ≤ numL s) (h2 : numL s ≤ 999) (ha : sub ua a) (h : AL dict sub nil ur r) : AL dict sub nil ([kAsk, q, s] ++ (kOpen :: (ua ++ [kShut]) ++ ur)) ((hAsk (keyL q) (numL s), a, nil) :: r) :=
  ⟨[kAsk, q, s], kOpen :: (ua ++ [kShut]), ur, 2, rfl, .inr (.inr (.inr (.inl ⟨q, s, rfl, rfl, dAsk, rfl, rfl, rfl, hk, h1, h2⟩))), h, .inr (.inl ⟨ua, by decide, rfl, ha, rfl⟩)⟩
theorem AL.retry {T : Type} {sub : List (List UInt8) → T → Prop} {nil : T} {ur ua : List (List UInt8)} {r : List (Hd × T × T)} {a : T} {q s u : List UInt8} (hm : 1 ≤ numL u) (hm2 : numL u ≤ 6) (hk : 0 ≤ keyL q) (h1 : 1 ≤ numL s) (h2 : numL s ≤ 999) (ha : sub ua a) (h : AL dict sub nil ur r) : AL dict sub nil ([kRetry, u, q, s] ++ (kOpen :: (ua ++ [kShut]) ++ ur)) ((hRetry (numL u) (keyL q) (numL s), a, nil) :: r) :=
  ⟨[kRetry, u, q, s], kOpen :: (ua ++ [kShut]), ur, 2, rfl, .inr (.inr (.inr (.inr (.inl ⟨u, q, s, rfl, rfl, dRetry, rfl, rfl, rfl, hk, h1, h2, hm, hm2⟩)))), h, .inr (.inl ⟨ua, by decide, rfl, ha, rfl⟩)⟩
theorem AL.repeat {T : Type} {sub : List (List UInt8) → T → Prop} {nil : T} {ur ua : List (List UInt8)} {r : List (Hd × T × T)} {a : T} {q : List UInt8} (h1 : 1 ≤ numL q) (h2 : numL q ≤ 9) (ha : sub ua a) (h : AL dict sub nil ur r) : AL dict sub nil ([kRepeat, q] ++ (kOpen :: (ua ++ [kShut]) ++ ur)) ((hRepeat (numL q), a, nil) :: r) :=
  ⟨[kRepeat, q], kOpen :: (ua ++ [kShut]), ur, 1, rfl, .inr (.inr (.inr (.inr (.inr ⟨q, rfl, rfl, dRepeat, rfl, rfl, rfl, h1, h2⟩)))), h, .inr (.inl ⟨ua, by decide, rfl, ha, rfl⟩)⟩
end Go.Proofs.Herald
namespace Go.Proofs.Ytmmmnghiegajmaa
open Go.RowKit Go.Proofs.Herald
theorem KS.new {B : Nat} {cs : List Ins} {m : Nat} {h : Her Pr} {w0 w : World} {H : Nat} {F : Nat → Prop} (g : KS B cs m h w0 H F w) (o : Obj) : KS B cs m h w0 H (fun k => k = w.heap.size ∨ F k) (w.alloc o) :=
  (g.more ((Below.refl _ _).alloc (Nat.le_refl _) o)).less fun k hk => by
    rcases hk with rfl | hk
    · exact .inr ⟨Nat.le_refl _, by simp⟩
    · exact .inl hk
theorem ks_Ack {B : Nat} {cs : List Ins} {m : Nat} {h : Her Pr} {w0 : World} {H : Nat} {F : Nat → Prop} (id num : Int) (w : World) (g : KS B cs m h w0 H F w) (hm : m ≤ 2000000) :
    Calls Try.prog 38 #[.pointer (some ⟨H, 0, none⟩), .int .i64 id, .int .i64 num] w fun e w' => e = .returned (.int .i64 (ackH (machE cs) h id num).1) ∧ KS B cs (m + 1) (ackH (machE cs) h id num).2 w0 H F w' ∧ ∀ k, F k → w'.heap[k]? = w.heap[k]? := by
  obtain ⟨i, s, h1, h2, h3, h4, h5, h6⟩ := g
  exact (g_Ack id num w h2 (by omega)).mono fun e w' hh => ⟨hh.1, KS.next h1 h3 h4 h5 h6 hh.2⟩
theorem ks_Drain {B : Nat} {cs : List Ins} {m : Nat} {h : Her Pr} {w0 : World} {H : Nat} {F : Nat → Prop} (dev : Int) (w : World) (g : KS B cs m h w0 H F w) (hm : m ≤ 2000000) :
    Calls Try.prog 37 #[.pointer (some ⟨H, 0, none⟩), .int .i64 dev] w fun e w' => e = .returned (.tuple #[msgV (drainH h dev).1, .int .i64 (drainH h dev).2.1]) ∧ KS B cs (m + 1) (drainH h dev).2.2 w0 H F w' ∧ ∀ k, F k → w'.heap[k]? = w.heap[k]? := by
  obtain ⟨i, s, h1, h2, h3, h4, h5, h6⟩ := g
  exact (g_Drain dev w h2 (by omega)).mono fun e w' hh => ⟨hh.1, KS.next h1 h3 h4 h5 h6 hh.2⟩
end Go.Proofs.Ytmmmnghiegajmaa
