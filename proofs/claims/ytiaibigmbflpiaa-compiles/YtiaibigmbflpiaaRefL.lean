/- What Block gives back, of trees of whatever depth. -/
import Derived.Test.YtiaibigmbflpiaaRefI
namespace Go.Proofs.Ytiaibigmbflpiaa
open Go.RowKit Go.Proofs.Herald

set_option maxRecDepth 100000 in
set_option maxHeartbeats 1000000 in
theorem Block_none (a : Option Addr) (cap : Nat) (w : World) :
    Calls Try.prog 45 #[.slice a 0 cap] w fun e w' => e = .returned (.slice none 0 0) ∧ w' = w := by
  go_enter Try.func45, Try.ntmps45
  go_wp2_with fail
  go_loop [3, 4] (fun v i => v = .slice none 0 0 ∧ i = .int .i64 0) (fun _ _ => 0)
  case atStart => exact ⟨rfl, rfl⟩
  case round =>
    obtain ⟨rfl, rfl⟩ := hrel
    go_wp2_with fail
    go_ret
    exact ⟨rfl, rfl⟩

theorem GT.empty {t : ByteArray} : ∀ (d : Nat) (tr : Tree d), GT t d [] tr → tr = nilT d := by
  intro d tr h
  cases d with
  | zero => rfl
  | succ d =>
    cases tr with
    | nil => rfl
    | cons x r =>
      change GL t (GT t d) (nilT d) [] (x :: r) at h
      rw [GL] at h
      obtain ⟨wo, wb, wr2, f, hu, hh, _⟩ := h
      rcases hh with ⟨p, q, rfl, _⟩ | ⟨p, q, rfl, _⟩ | ⟨p, rfl, _⟩ | ⟨p, q, r, rfl, _⟩ | ⟨p, q, r, z, rfl, _⟩ | ⟨p, q, rfl, _⟩ <;> simp at hu

theorem Block_any (t : ByteArray) (ht : t.size ≤ 400) (d : Nat) : BlockSaid t d := by
  have hempty : ∀ (d : Nat) (tr : Tree d) (a : Option Addr) (cap : Nat) (w : World), GT t d [] tr →
      Calls Try.prog 45 #[.slice a 0 cap] w fun e w' => ∃ aa na ca, e = .returned (.slice aa na ca) ∧ TreeAt t w' (fun k => w.heap.size ≤ k) d (.slice aa na ca) tr ∧ Below w.heap.size w w' := by
    intro d tr a cap w hg
    rw [GT.empty d tr hg]
    refine (Block_none a cap w).mono fun e w' h => ⟨none, 0, 0, h.1, TreeAt.nil _ _ _ _, ?_⟩
    rw [h.2]; exact Below.refl _ _
  induction d with
  | zero =>
    intro ws tr a b off cap n w hn hg _ _ _
    have hws : ws = [] := hg
    subst hws
    subst hn
    exact hempty 0 tr a cap w hg
  | succ d ih =>
    intro ws tr a b off cap n w hn hg hlen hcap hws
    subst hn
    cases hc : ws with
    | nil => rw [hc] at hg; exact hempty (d + 1) tr a cap w hg
    | cons p r =>
      rw [← hc]
      obtain ⟨rfl, hb, hwa⟩ := hws (by rw [hc]; simp)
      exact Block_succ t ht d ih ws tr b off cap w hg hlen hcap hb hwa

end Go.Proofs.Ytiaibigmbflpiaa
