/- The document's own herald of code is as the plain one: its runs go on as plain runs of code. -/
import Derived.Test.YtmmmnghiegajmaaSimB
import Derived.Test.YtmmmnghiegajmaaHerB
import Derived.Test.YtmmmnghiegajmaaEngK
namespace Go.Proofs.Herald

theorem sendP_id (q : List Msg) (p : Pr) (key : Int) : (sendP q p key).2.1.id = p.id := by
  unfold sendP
  split
  · rfl
  · rfl

theorem stepP_id (now : Int) (x : Ins) (pc : Int) (q : List Msg) (p : Pr) : (stepP now x pc q p).2.1.id = p.id := by
  unfold stepP
  repeat' split
  all_goals first | rfl | exact sendP_id _ _ _

theorem runP_id (now : Int) (cs : List Ins) : ∀ (f : Nat) (pc : Int) (q : List Msg) (p : Pr), (runP now cs f pc q p).2.1.id = p.id := by
  intro f
  induction f with
  | zero => intro pc q p; rfl
  | succ f ih =>
    intro pc q p
    rw [runP]
    split
    · split
      · exact stepP_id _ _ _ _ _
      · exact (ih _ _ _).trans (stepP_id _ _ _ _ _)
    · rfl

theorem onP_id (now : Int) (cs : List Ins) (yes : Bool) (q : List Msg) (p : Pr) : (onP now cs yes q p).2.1.id = p.id := by
  unfold onP
  split
  · exact runP_id _ _ _ _ _ _
  · split
    · exact runP_id _ _ _ _ _ _
    · exact runP_id _ _ _ _ _ _

theorem sound_all {cs : List Ins} (h : soundL cs = true) : ∀ x ∈ cs, soundI cs.length x = true := by
  unfold soundL at h
  simp only [Bool.and_eq_true, List.all_eq_true] at h
  exact h.2

/-- What a run of code keeps. -/
def goodP (cs : List Ins) (p : Pr) : Prop := RegsOk p ∧ PcsOk cs.length p

/-- Runs of sound code keep the bounds. -/
theorem codeE_ok {cs : List Ins} (hs : soundL cs = true) : EngOk (codeE cs) (goodP cs) := by
  have out : ∀ {now : Int} {p : Pr} {r : List Msg × Pr × Bool}, RunOk cs.length now 10000 p r → EOut (codeE cs) (goodP cs) now p r := fun h =>
    ⟨h.len, h.id, fun _ => h.dev, fun _ => h.sent0, fun _ => h.sent1, fun hd => ⟨⟨h.regs, h.pcs⟩, h.stop hd⟩⟩
  refine ⟨fun now yes q r hg hq _ => out (onP_ok (sound_all hs) yes q r hg.1 hg.2 hq), fun now q id dev hq => out (runP_ok (sound_all hs) 10000 0 q (freshP id dev) (Int.le_refl 0) ?_ ?_ hq), fun id dev => rfl⟩
  · intro z hz
    obtain rfl := (List.mem_replicate.mp hz).2
    omega
  · unfold PcsOk freshP
    simp only
    omega

end Go.Proofs.Herald
namespace Go.Proofs.Ytmmmnghiegajmaa
open Go.RowKit Go.Proofs.Herald

/-- The code lies where it lay. -/
def CodeLies (w : World) (B0 : Nat) (a : Option Addr) (b off : Nat) (cs : List Ins) : Prop := 0 < cs.length → a = some ⟨b, off, none⟩ ∧ b < B0 ∧ b < w.heap.size ∧ CodeAt w b off cs

theorem CodeLies.keep {w w' : World} {B0 : Nat} {a : Option Addr} {b off : Nat} {cs : List Ins} (h : CodeLies w B0 a b off cs) (hk : b < B0 → b < w.heap.size → w'.heap[b]? = w.heap[b]?) : CodeLies w' B0 a b off cs := fun hp => by
  obtain ⟨h1, h2, h3, h4⟩ := h hp
  have e := hk h2 h3
  refine ⟨h1, h2, ?_, h4.keep e⟩
  rw [Array.getElem?_eq_getElem h3] at e
  exact (Array.getElem?_eq_some_iff.mp e).1

/-- A herald of code, in the document's own memory. -/
def codeM (cs : List Ins) (a : Option Addr) (b off cap B0 : Nat) : Mode Pr :=
  ⟨codeE cs, ⟨false, .slice none 0 0, .slice a cs.length cap⟩, B0, fun w x p => x.p = p ∧ goodP cs p ∧ x.yv = .slice none 0 0 ∧ x.nv = .slice none 0 0 ∧ CodeLies w B0 a b off cs⟩

theorem codeM_ok {cs : List Ins} (hs : soundL cs = true) (a : Option Addr) (b off cap B0 : Nat) : ModeOk (codeM cs a b off cap B0) := by
  refine ⟨fun w x r h => by rw [h.1]; rfl, fun w w' x r h hst => ⟨h.1, h.2.1, h.2.2.1, h.2.2.2.1, h.2.2.2.2.keep fun h1 h2 => hst b h2 (.inl h1)⟩, fun now yes q r => onP_id now cs yes q r, ?_⟩
  intro S Q pv rec now last qv qs rs w x r d yes H hB hx hl hd hdev hq hs0 hs1 ht0 ht1 hlen _
  obtain ⟨rfl, hg, hy, hn, hcl⟩ := hl
  have hcore : SimCore w S Q x.P x.R (cmd (.slice a cs.length cap)) pv rec now last qv qs x.p := by
    have h := H.core hx
    rw [hy, hn] at h
    exact h
  have hT : ∀ k, StepT S Q x.P x.R (qv d) k → ownS S Q pv qv rs k := fun k hk => by
    rcases hk with rfl | rfl | rfl | rfl | hk
    · exact .inr (.inr (.inr (.inr ⟨x, hx, .inl rfl⟩)))
    · exact .inr (.inl rfl)
    · exact .inr (.inr (.inr (.inr ⟨x, hx, .inr rfl⟩)))
    · exact .inl rfl
    · exact .inr (.inr (.inl ⟨d, hd, hk⟩))
  have hbT : b < B0 → ¬ StepT S Q x.P x.R (qv d) b := fun h1 h2 => by
    have := hB b (hT b h2)
    have e : (codeM cs a b off cap B0).B0 = B0 := rfl
    omega
  have hready : Ready S Q x.P x.R b off cap a pv rec now last qv qs x.p d (idsOf rs) cs w :=
    ⟨hcore, fun hp => ⟨(hcl hp).1, (hcl hp).2.2.1, (hcl hp).2.2.2, hbT (hcl hp).2.1⟩, ⟨hd, hdev, hq, hs0, by omega, ht0, ht1, hg.1⟩, hs1, H.procs⟩
  have hL : (idsOf rs).length ≤ 1000 := by unfold idsOf; rw [List.length_map]; exact hlen
  have hok := onP_ok (now := now) (sound_all hs) yes (qs d) x.p hg.1 hg.2 hq
  have key : Calls Try.prog 125 #[.pointer (some ⟨S, 0, none⟩), .pointer (some ⟨x.P, 0, none⟩), .bool yes] w fun e w' => e = .returned (.tuple #[]) ∧ StepOut S Q x.P x.R (cmd (.slice a cs.length cap)) pv rec now last qv qs d (idsOf rs) w (onP now cs yes (qs d) x.p).1 (onP now cs yes (qs d) x.p).2.1 (onP now cs yes (qs d) x.p).2.2 w' := by
    obtain ⟨g1, g2, g3, g4⟩ := hg.2
    cases yes with
    | true => exact s_on_yes S Q x.P x.R b off cap a pv rec now last qv qs x.p d x.p.tow.toNat (idsOf rs) cs w hready hs (by omega) hL (by omega)
    | false => exact s_on_no S Q x.P x.R b off cap a pv rec now last qv qs x.p d x.p.els.toNat (idsOf rs) cs w hready hs (by omega) hL (by omega)
  refine key.mono ?_
  rintro e w' ⟨rfl, ho⟩
  refine ⟨rfl, ?_⟩
  have hF : Fr (StepT S Q x.P x.R (qv d)) w w' := by
    obtain ⟨_, _, _, _, _, _, hF⟩ := ho
    exact hF
  have ho2 : StepOut S Q x.P x.R ((codeM cs a b off cap B0).s.md x.yv x.nv) pv rec now last qv qs d (idsOf rs) w (onP now cs yes (qs d) x.p).1 (onP now cs yes (qs d) x.p).2.1 (onP now cs yes (qs d) x.p).2.2 w' := by
    rw [hy, hn]
    exact ho
  obtain ⟨v, pv', hr⟩ := RunOut.of_step ho2 hok.id
  exact ⟨_, v, pv', hr, fun _ => ⟨rfl, ⟨hok.regs, hok.pcs⟩, hy, hn, hcl.keep fun h1 h2 => hF.block b h2 (hbT h1)⟩⟩

end Go.Proofs.Ytmmmnghiegajmaa
