import Derived.Test.YtmmmnghiegajmabGreatM08
import Derived.Test.YtmmmnghiegajmabGreatM15
import Derived.Test.YtmmmnghiegajmabGreatM07
import Derived.Test.YtmmmnghiegajmabGreatM13
import Derived.Test.YtmmmnghiegajmabGreatM19
/- The document's own herald of code is as the plain one: its runs go on as plain runs of code. -/
namespace Go.Proofs.Herald
theorem sound_all {cs : List Ins} (h : soundL cs = true) : ∀ x ∈ cs, soundI cs.length x = true := by
  unfold soundL at h
  simp only [Bool.and_eq_true, List.all_eq_true] at h
  exact h.2
/-- What a run of code keeps. -/
def goodP (cs : List Ins) (p : Pr) : Prop := RegsOk p ∧ PcsOk cs.length p
/-- Runs of sound code keep the bounds. -/
theorem codeE_ok {cs : List Ins} (hs : soundL cs = true) : EngOk (codeE cs) (goodP cs) := by
  have out : ∀ {now : Int} {p : Pr} {r : List Msg × Pr × Bool}, RunOk cs.length now 10000 p r → EOut (codeE cs) (goodP cs) now p r := fun h =>
    ⟨h.len, h.id, fun _ => h.dev, fun _ => h.sent0, fun _ => h.sent1, fun hd => ⟨⟨h.regs, h.pcs⟩, h.stop hd⟩⟩
  refine ⟨fun now yes q r hg hq _ => out (onP_ok (sound_all hs) yes q r hg.1 hg.2 hq), fun now q id dev hq => out (runP_ok (sound_all hs) 10000 0 q (freshP id dev) (Int.le_refl 0) ?_ ?_ hq), fun id dev => rfl⟩
  · intro z hz
    obtain rfl := (List.mem_replicate.mp hz).2
    omega
  · unfold PcsOk freshP
    simp only
    omega
end Go.Proofs.Herald
namespace Go.Proofs.YtmmmnghiegajmabGreat
open Go.RowKit Go.Proofs.Herald
end Go.Proofs.YtmmmnghiegajmabGreat
