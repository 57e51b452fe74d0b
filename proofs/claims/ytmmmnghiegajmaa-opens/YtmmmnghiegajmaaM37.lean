import Derived.Test.YtmmmnghiegajmaaM36
import Derived.Deep.LoopGhost
import Derived.OwnWalk
import Derived.Deep.DeepCutAuto
import Derived.Deep.CutBlock
import Derived.Test.YtmmmnghiegajmaaM10
import Derived.Test.YtmmmnghiegajmaaM04
import Derived.Test.YtmmmnghiegajmaaM05
import Derived.Test.YtmmmnghiegajmaaM06
import Derived.Test.YtmmmnghiegajmaaM09
import Derived.Test.YtmmmnghiegajmaaM07
import Derived.Test.YtmmmnghiegajmaaM34
import Derived.Test.YtmmmnghiegajmaaM35
import Derived.Test.YtmmmnghiegajmaaM33
/- What Show tells of one run and one message; a message is answered. -/
namespace Go.Proofs.Ytmmmnghiegajmaa
open Go.RowKit Go.Proofs.Herald
theorem GTo.same {cs : List Ins} {m : Nat} {h : Her Pr} {w0 : World} {H : Nat} {s0 : HS} {w : World} (g : GTo cs m h w0 H s0 w) {k : Nat} (hk : k < w0.heap.size) (ho : ¬ s0.own H k) : w.heap[k]? = w0.heap[k]? := by
  obtain ⟨_, _, _, _, _, hf⟩ := g
  exact hf.block k hk ho
end Go.Proofs.Ytmmmnghiegajmaa
/- A herald and what lies beside it, from call to call. -/
namespace Go.Proofs.Ytmmmnghiegajmaa
open Go.RowKit Go.Proofs.Herald
/-- The three cells of a state are written. -/
theorem state_set {w : World} {X : Nat} {x0 x1 x2 a b c : Value} {e : TypeId} (h : w.heap[X]? = some (.cells #[x0, x1, x2] e (0, 0))) : (((w.setCell ⟨X, 0, none⟩ a).setCell ⟨X, 1, none⟩ b).setCell ⟨X, 2, none⟩ c).heap[X]? = some (.cells #[a, b, c] e (0, 0)) := by
  rw [heap_setCell_self c (heap_setCell_self b (heap_setCell_self a h))]
  rfl
end Go.Proofs.Ytmmmnghiegajmaa
/- The program's herald with its journal in a game: what it keeps from call to call. -/
namespace Go.Proofs.Ytmmmnghiegajmaa
open Go.RowKit Go.Proofs.Herald
/-- A herald of sound code, behind i calls; J: its journal. -/
structure GJ (cs : List Ins) (i : Nat) (h : Her Pr) (J : List Nat) (w : World) (H : Nat) (s : HS) : Prop where
  ga : GA cs i h w H s
  r : w.ownsRow 0 5 1 s.jr J.length (bytesV (natsI J))
  len : J.length ≤ 19 * i
theorem GJ.fj {cs : List Ins} {i : Nat} {h : Her Pr} {J : List Nat} {w : World} {H : Nat} {s : HS} (g : GJ cs i h J w H s) : FJ w H cs h s.code s.jr s.rv s.qv J := ⟨g.ga.fh.m, g.r⟩
/-- Behind one call more. -/
def GJNext (cs : List Ins) (i : Nat) (h' : Her Pr) (J' : List Nat) (w : World) (H : Nat) (s : HS) (w' : World) : Prop :=
  ∃ s', GJ cs (i + 1) h' J' w' H s' ∧ (∀ k, s'.own H k → s.own H k ∨ w.heap.size ≤ k) ∧ Fr (s.own H) w w'
theorem GJ.keep {cs : List Ins} {i : Nat} {h : Her Pr} {J : List Nat} {w w' : World} {H : Nat} {s : HS} (g : GJ cs i h J w H s) (hk : ∀ k, s.own H k → w'.heap[k]? = w.heap[k]?) : GJ cs i h J w' H s := ⟨g.ga.keep hk, own_keep g.r fun b hb => hk b (.inr (.inl hb)), g.len⟩
theorem GJ.lt {cs : List Ins} {i : Nat} {h : Her Pr} {J : List Nat} {w : World} {H : Nat} {s : HS} (g : GJ cs i h J w H s) {k : Nat} (hk : s.own H k) : k < w.heap.size := g.ga.lt hk
theorem noteJ_len (f : Int) (J : List Nat) (c : Nat) (a b : Int) : (noteJ f J c a b).length ≤ J.length + 19 := by
  unfold noteJ
  split
  · rw [List.length_append, recB_len]
    exact Nat.le_refl _
  · omega
theorem GJNext.of {cs : List Ins} {i : Nat} {h h' : Her Pr} {J J' : List Nat} {w w' : World} {H : Nat} {s : HS} (g : GJ cs i h J w H s) (ho : FJOut w w' H cs h' s.code s.jr s.rv s.qv J') (hj : J'.length ≤ J.length + 19) (hk : HOk (machE cs) (goodM cs) (50000000 * (i + 1 : Nat)) h') (hq : QsOk h') (hl : h'.last ≤ (i + 1 : Nat)) : GJNext cs i h' J' w H s w' := by
  obtain ⟨⟨jr', rv', qv', h2, h3⟩, h4⟩ := ho
  have := g.len
  exact ⟨⟨s.code, jr', rv', qv', J'.length⟩, ⟨⟨h2.fh, by show J'.length ≤ _; omega, g.ga.snd, hk, hq, hl⟩, h2.r, by omega⟩, h3, h4⟩
theorem GJ.new {cs : List Ins} {w : World} {H : Nat} {v : Value} (hs : soundL cs = true) (hH : w.heap[H]? = some (.cells (newHd v) 150 (0, 0))) (hv : w.ownsRow 0 128 4 v cs.length (codeCells cs)) : GJ cs 0 newH [] w H ⟨v, .slice none 0 0, .slice none 0 0, fun _ => .slice none 0 0, 0⟩ :=
  ⟨GA.new hs hH hv, World.ownsRow_nil _ _ _ _, Nat.zero_le _⟩
theorem gj_Trigger {cs : List Ins} {i : Nat} {h : Her Pr} {J : List Nat} {H : Nat} {s : HS} (dev : Int) (w : World) (g : GJ cs i h J w H s) (hi : i ≤ 2000000) :
    Calls Try.prog 28 #[.pointer (some ⟨H, 0, none⟩), .int .i64 dev] w fun e w' => e = .returned (.tuple #[.int .i64 (trigH (machE cs) h dev).1, .int .i64 (trigH (machE cs) h dev).2.1]) ∧ GJNext cs i (trigH (machE cs) h dev).2.2 (noteJ (trigH (machE cs) h dev).2.1 J 84 dev 0) w H s w' := by
  refine (j_Trigger H cs h s.code s.jr s.rv s.qv J dev (50000000 * i) w g.fj (g.ga.mok hi) (by have := g.len; omega)).mono ?_
  rintro e w' ⟨rfl, ho⟩
  have hl := trig_last (E := machE cs) (h := h) dev
  have := g.ga.last
  exact ⟨rfl, GJNext.of g ho (noteJ_len _ _ _ _ _) ((HOk.trig g.ga.eng g.ga.ok (by omega) dev).mono (by push_cast; omega)) (g.ga.qs.trig (fun r hr => g.ga.ok.id r hr) dev) (by push_cast; omega)⟩
theorem gj_Tick {cs : List Ins} {i : Nat} {h : Her Pr} {J : List Nat} {H : Nat} {s : HS} (n : Int) (w : World) (g : GJ cs i h J w H s) (hi : i ≤ 2000000) :
    Calls Try.prog 33 #[.pointer (some ⟨H, 0, none⟩), .int .i64 n] w fun e w' => e = .returned (.int .i64 (tickH (machE cs) h n).1) ∧ GJNext cs i (tickH (machE cs) h n).2 (noteJ (tickH (machE cs) h n).1 J 75 n 0) w H s w' := by
  refine (j_Tick H cs h s.code s.jr s.rv s.qv J n (50000000 * i) w g.fj (g.ga.mok hi) (by have := g.len; omega)).mono ?_
  rintro e w' ⟨rfl, ho⟩
  have k2 := HOk.tick g.ga.eng g.ga.ok n
  have := g.ga.last
  exact ⟨rfl, GJNext.of g ho (noteJ_len _ _ _ _ _) (k2.1.mono (by push_cast; omega)) (g.ga.qs.tick g.ga.eng g.ga.ok n) (by rw [k2.2]; push_cast; omega)⟩
theorem gj_Ack {cs : List Ins} {i : Nat} {h : Her Pr} {J : List Nat} {H : Nat} {s : HS} (id num : Int) (w : World) (g : GJ cs i h J w H s) (hi : i ≤ 2000000) :
    Calls Try.prog 38 #[.pointer (some ⟨H, 0, none⟩), .int .i64 id, .int .i64 num] w fun e w' => e = .returned (.int .i64 (ackH (machE cs) h id num).1) ∧ GJNext cs i (ackH (machE cs) h id num).2 (noteJ (ackH (machE cs) h id num).1 J 65 id num) w H s w' := by
  refine (j_Ack H cs h s.code s.jr s.rv s.qv J id num (50000000 * i) w g.fj (g.ga.mok hi) (by have := g.len; omega)).mono ?_
  rintro e w' ⟨rfl, ho⟩
  have := g.ga.last
  exact ⟨rfl, GJNext.of g ho (noteJ_len _ _ _ _ _) ((HOk.ack g.ga.eng g.ga.ok id num).mono (by push_cast; omega)) (g.ga.qs.ack g.ga.ok id num) (by rw [ack_last]; push_cast; omega)⟩
theorem gj_Cancel {cs : List Ins} {i : Nat} {h : Her Pr} {J : List Nat} {H : Nat} {s : HS} (id : Int) (w : World) (g : GJ cs i h J w H s) (hi : i ≤ 2000000) :
    Calls Try.prog 40 #[.pointer (some ⟨H, 0, none⟩), .int .i64 id] w fun e w' => e = .returned (.int .i64 (cancelH (machE cs) h id).1) ∧ GJNext cs i (cancelH (machE cs) h id).2 (noteJ (cancelH (machE cs) h id).1 J 67 id 0) w H s w' := by
  refine (j_Cancel H cs h s.code s.jr s.rv s.qv J id (50000000 * i) w g.fj (g.ga.mok hi) (by have := g.len; omega)).mono ?_
  rintro e w' ⟨rfl, ho⟩
  have := g.ga.last
  exact ⟨rfl, GJNext.of g ho (noteJ_len _ _ _ _ _) ((HOk.cancel g.ga.ok id).mono (by push_cast; omega)) (g.ga.qs.cancel id) (by rw [cancel_last]; push_cast; omega)⟩
theorem gj_Drain {cs : List Ins} {i : Nat} {h : Her Pr} {J : List Nat} {H : Nat} {s : HS} (dev : Int) (w : World) (g : GJ cs i h J w H s) (hi : i ≤ 2000000) :
    Calls Try.prog 37 #[.pointer (some ⟨H, 0, none⟩), .int .i64 dev] w fun e w' => e = .returned (.tuple #[msgV (drainH h dev).1, .int .i64 (drainH h dev).2.1]) ∧ GJNext cs i (drainH h dev).2.2 (noteJ (drainH h dev).2.1 J 68 dev 0) w H s w' := by
  refine (j_Drain H cs h s.code s.jr s.rv s.qv J dev (50000000 * i) w g.fj (g.ga.mok hi) (by have := g.len; omega)).mono ?_
  rintro e w' ⟨rfl, ho⟩
  have := g.ga.last
  exact ⟨rfl, GJNext.of g ho (noteJ_len _ _ _ _ _) ((HOk.drain g.ga.ok dev).mono (by push_cast; omega)) (g.ga.qs.drain dev) (by rw [drain_last]; push_cast; omega)⟩
/-- A herald behind at most m calls; what it owns is not older than B and not in F; nothing older than B has changed since w0. -/
def KJ (B : Nat) (cs : List Ins) (m : Nat) (h : Her Pr) (J : List Nat) (w0 : World) (H : Nat) (F : Nat → Prop) (w : World) : Prop :=
  ∃ i s, i ≤ m ∧ GJ cs i h J w H s ∧ (∀ k, s.own H k → B ≤ k ∧ ¬ F k) ∧ (∀ k, F k → k < w.heap.size) ∧ Below B w0 w ∧ B ≤ w.heap.size
theorem KJ.less {B : Nat} {cs : List Ins} {m : Nat} {h : Her Pr} {J : List Nat} {w0 w : World} {H : Nat} {F F' : Nat → Prop} (g : KJ B cs m h J w0 H F w) (hF : ∀ k, F' k → F k) : KJ B cs m h J w0 H F' w := by
  obtain ⟨i, s, h1, h2, h3, h4, h5, h6⟩ := g
  exact ⟨i, s, h1, h2, fun k hk => ⟨(h3 k hk).1, fun hf => (h3 k hk).2 (hF k hf)⟩, fun k hk => h4 k (hF k hk), h5, h6⟩
theorem KJ.le {B : Nat} {cs : List Ins} {m m' : Nat} {h : Her Pr} {J : List Nat} {w0 w : World} {H : Nat} {F : Nat → Prop} (g : KJ B cs m h J w0 H F w) (hm : m ≤ m') : KJ B cs m' h J w0 H F w := by
  obtain ⟨i, s, h1, h2⟩ := g
  exact ⟨i, s, by omega, h2⟩
theorem KJ.back {B : Nat} {cs : List Ins} {m : Nat} {h : Her Pr} {J : List Nat} {w0 w : World} {H : Nat} {F : Nat → Prop} (g : KJ B cs m h J w0 H F w) : Below B w0 w := by
  obtain ⟨i, s, h1, h2, h3, h4, h5, h6⟩ := g
  exact h5
theorem KJ.lt {B : Nat} {cs : List Ins} {m : Nat} {h : Her Pr} {J : List Nat} {w0 w : World} {H : Nat} {F : Nat → Prop} (g : KJ B cs m h J w0 H F w) {k : Nat} (hk : F k) : k < w.heap.size := by
  obtain ⟨i, s, h1, h2, h3, h4, h5, h6⟩ := g
  exact h4 k hk
theorem KJ.B {B : Nat} {cs : List Ins} {m : Nat} {h : Her Pr} {J : List Nat} {w0 w : World} {H : Nat} {F : Nat → Prop} (g : KJ B cs m h J w0 H F w) : B ≤ w.heap.size := by
  obtain ⟨i, s, h1, h2, h3, h4, h5, h6⟩ := g
  exact h6
/-- What lies in F is written, or something new is made: that lies beside the herald too. -/
theorem KJ.fr {B : Nat} {cs : List Ins} {m : Nat} {h : Her Pr} {J : List Nat} {w0 w w' : World} {H : Nat} {F S : Nat → Prop} (g : KJ B cs m h J w0 H F w) (hf : Fr S w w') (hS : ∀ k, S k → k < w.heap.size → F k ∧ B ≤ k) : KJ B cs m h J w0 H (fun k => F k ∨ (w.heap.size ≤ k ∧ k < w'.heap.size)) w' := by
  obtain ⟨i, s, h1, h2, h3, h4, h5, h6⟩ := g
  have hz := hf.size
  refine ⟨i, s, h1, h2.keep fun k hk => hf.block k (h2.lt hk) fun hs => (h3 k hk).2 (hS k hs (h2.lt hk)).1, fun k hk => ⟨(h3 k hk).1, ?_⟩, ?_, ?_, by omega⟩
  · rintro (hF | ⟨hF, _⟩)
    · exact (h3 k hk).2 hF
    · have := h2.lt hk
      omega
  · rintro k (hF | ⟨_, hF⟩)
    · have := h4 k hF
      omega
    · exact hF
  · exact h5.trans ⟨hf.os, hf.tape, hf.output, hf.size, fun k hk => hf.block k (by omega) fun hs => by have := (hS k hs (by omega)).2; omega⟩
theorem KJ.more {B : Nat} {cs : List Ins} {m : Nat} {h : Her Pr} {J : List Nat} {w0 w w' : World} {H : Nat} {F : Nat → Prop} (g : KJ B cs m h J w0 H F w) (hb : Below w.heap.size w w') : KJ B cs m h J w0 H (fun k => F k ∨ (w.heap.size ≤ k ∧ k < w'.heap.size)) w' :=
  g.fr (Fr.of_below hb) fun _ hk hk2 => by omega
theorem KJ.below {B : Nat} {cs : List Ins} {m : Nat} {h : Her Pr} {J : List Nat} {w0 w w' : World} {H : Nat} {F : Nat → Prop} (g : KJ B cs m h J w0 H F w) (hb : Below w.heap.size w w') : KJ B cs m h J w0 H F w' := (g.more hb).less fun _ hk => .inl hk
theorem KJ.new {B : Nat} {cs : List Ins} {m : Nat} {h : Her Pr} {J : List Nat} {w0 w : World} {H : Nat} {F : Nat → Prop} (g : KJ B cs m h J w0 H F w) (o : Obj) : KJ B cs m h J w0 H (fun k => k = w.heap.size ∨ F k) (w.alloc o) :=
  (g.more ((Below.refl _ _).alloc (Nat.le_refl _) o)).less fun k hk => by
    rcases hk with rfl | hk
    · exact .inr ⟨Nat.le_refl _, by simp⟩
    · exact .inl hk
theorem KJ.same {B : Nat} {cs : List Ins} {m : Nat} {h : Her Pr} {J : List Nat} {w0 w w' : World} {H : Nat} {F : Nat → Prop} (g : KJ B cs m h J w0 H F w) (hs : SameH w w') : KJ B cs m h J w0 H F w' :=
  g.below ⟨hs.os, hs.tape, hs.output, by rw [hs.heap]; exact Nat.le_refl _, fun k _ => by rw [hs.heap]⟩
theorem KJ.next {B : Nat} {cs : List Ins} {m i : Nat} {h' : Her Pr} {J' : List Nat} {w0 w w' : World} {H : Nat} {F : Nat → Prop} {s : HS} (h1 : i ≤ m) (h3 : ∀ k, s.own H k → B ≤ k ∧ ¬ F k) (h4 : ∀ k, F k → k < w.heap.size) (h5 : Below B w0 w) (h6 : B ≤ w.heap.size) (n : GJNext cs i h' J' w H s w') : KJ B cs (m + 1) h' J' w0 H F w' ∧ ∀ k, F k → w'.heap[k]? = w.heap[k]? := by
  obtain ⟨s', g', o', f'⟩ := n
  have hz := f'.size
  refine ⟨⟨i + 1, s', by omega, g', fun k hk => ?_, fun k hk => by have := h4 k hk; omega, ?_, by omega⟩, fun k hk => f'.block k (h4 k hk) fun ho => (h3 k ho).2 hk⟩
  · rcases o' k hk with h7 | h7
    · exact h3 k h7
    · exact ⟨by omega, fun hF => by have := h4 k hF; omega⟩
  · exact h5.trans ⟨f'.os, f'.tape, f'.output, f'.size, fun k hk => f'.block k (by omega) fun ho => by have := (h3 k ho).1; omega⟩
theorem kj_Trigger {B : Nat} {cs : List Ins} {m : Nat} {h : Her Pr} {J : List Nat} {w0 : World} {H : Nat} {F : Nat → Prop} (dev : Int) (w : World) (g : KJ B cs m h J w0 H F w) (hm : m ≤ 2000000) :
    Calls Try.prog 28 #[.pointer (some ⟨H, 0, none⟩), .int .i64 dev] w fun e w' => e = .returned (.tuple #[.int .i64 (trigH (machE cs) h dev).1, .int .i64 (trigH (machE cs) h dev).2.1]) ∧ KJ B cs (m + 1) (trigH (machE cs) h dev).2.2 (noteJ (trigH (machE cs) h dev).2.1 J 84 dev 0) w0 H F w' ∧ ∀ k, F k → w'.heap[k]? = w.heap[k]? := by
  obtain ⟨i, s, h1, h2, h3, h4, h5, h6⟩ := g
  exact (gj_Trigger dev w h2 (by omega)).mono fun e w' hh => ⟨hh.1, KJ.next h1 h3 h4 h5 h6 hh.2⟩
theorem kj_Tick {B : Nat} {cs : List Ins} {m : Nat} {h : Her Pr} {J : List Nat} {w0 : World} {H : Nat} {F : Nat → Prop} (n : Int) (w : World) (g : KJ B cs m h J w0 H F w) (hm : m ≤ 2000000) :
    Calls Try.prog 33 #[.pointer (some ⟨H, 0, none⟩), .int .i64 n] w fun e w' => e = .returned (.int .i64 (tickH (machE cs) h n).1) ∧ KJ B cs (m + 1) (tickH (machE cs) h n).2 (noteJ (tickH (machE cs) h n).1 J 75 n 0) w0 H F w' ∧ ∀ k, F k → w'.heap[k]? = w.heap[k]? := by
  obtain ⟨i, s, h1, h2, h3, h4, h5, h6⟩ := g
  exact (gj_Tick n w h2 (by omega)).mono fun e w' hh => ⟨hh.1, KJ.next h1 h3 h4 h5 h6 hh.2⟩
theorem kj_Ack {B : Nat} {cs : List Ins} {m : Nat} {h : Her Pr} {J : List Nat} {w0 : World} {H : Nat} {F : Nat → Prop} (id num : Int) (w : World) (g : KJ B cs m h J w0 H F w) (hm : m ≤ 2000000) :
    Calls Try.prog 38 #[.pointer (some ⟨H, 0, none⟩), .int .i64 id, .int .i64 num] w fun e w' => e = .returned (.int .i64 (ackH (machE cs) h id num).1) ∧ KJ B cs (m + 1) (ackH (machE cs) h id num).2 (noteJ (ackH (machE cs) h id num).1 J 65 id num) w0 H F w' ∧ ∀ k, F k → w'.heap[k]? = w.heap[k]? := by
  obtain ⟨i, s, h1, h2, h3, h4, h5, h6⟩ := g
  exact (gj_Ack id num w h2 (by omega)).mono fun e w' hh => ⟨hh.1, KJ.next h1 h3 h4 h5 h6 hh.2⟩
theorem kj_Cancel {B : Nat} {cs : List Ins} {m : Nat} {h : Her Pr} {J : List Nat} {w0 : World} {H : Nat} {F : Nat → Prop} (id : Int) (w : World) (g : KJ B cs m h J w0 H F w) (hm : m ≤ 2000000) :
    Calls Try.prog 40 #[.pointer (some ⟨H, 0, none⟩), .int .i64 id] w fun e w' => e = .returned (.int .i64 (cancelH (machE cs) h id).1) ∧ KJ B cs (m + 1) (cancelH (machE cs) h id).2 (noteJ (cancelH (machE cs) h id).1 J 67 id 0) w0 H F w' ∧ ∀ k, F k → w'.heap[k]? = w.heap[k]? := by
  obtain ⟨i, s, h1, h2, h3, h4, h5, h6⟩ := g
  exact (gj_Cancel id w h2 (by omega)).mono fun e w' hh => ⟨hh.1, KJ.next h1 h3 h4 h5 h6 hh.2⟩
theorem kj_Drain {B : Nat} {cs : List Ins} {m : Nat} {h : Her Pr} {J : List Nat} {w0 : World} {H : Nat} {F : Nat → Prop} (dev : Int) (w : World) (g : KJ B cs m h J w0 H F w) (hm : m ≤ 2000000) :
    Calls Try.prog 37 #[.pointer (some ⟨H, 0, none⟩), .int .i64 dev] w fun e w' => e = .returned (.tuple #[msgV (drainH h dev).1, .int .i64 (drainH h dev).2.1]) ∧ KJ B cs (m + 1) (drainH h dev).2.2 (noteJ (drainH h dev).2.1 J 68 dev 0) w0 H F w' ∧ ∀ k, F k → w'.heap[k]? = w.heap[k]? := by
  obtain ⟨i, s, h1, h2, h3, h4, h5, h6⟩ := g
  exact (gj_Drain dev w h2 (by omega)).mono fun e w' hh => ⟨hh.1, KJ.next h1 h3 h4 h5 h6 hh.2⟩
theorem KJ.len {B : Nat} {cs : List Ins} {m : Nat} {h : Her Pr} {J : List Nat} {w0 w : World} {H : Nat} {F : Nat → Prop} (g : KJ B cs m h J w0 H F w) : J.length ≤ 19 * m := by
  obtain ⟨i, s, h1, h2, _⟩ := g
  have := h2.len
  omega
end Go.Proofs.Ytmmmnghiegajmaa
/- The document's herald with its journal, exactly: what it keeps from call to call. -/
namespace Go.Proofs.Ytmmmnghiegajmaa
open Go.RowKit Go.Proofs.Herald
/-- The document's Trigger, exactly. -/
def DocTrigX {RT : Type} (M : Mode RT) (G : RT → Prop) (CB : World → Prop) : Prop :=
  ∀ (S Q : Nat) (rec : ByteArray) (h : Her RT) (pv : Value) (qv : Nat → Value) (rs : List Rs) (dev C : Int) (w : World), SimH M w S Q rec h pv qv rs → CB w → HOk M.E G C h → C ≤ 900000000000000000 → rec.size ≤ 1000000000000 → h.last ≤ 1000000000000000000 →
    Calls Try.prog 90 #[.pointer (some ⟨S, 0, none⟩), .int .i64 dev] w fun e w' => e = .returned (.tuple #[.int .i64 (trigH M.E h dev).1, .int .i64 (trigH M.E h dev).2.1]) ∧ SimOut M w S Q pv qv rs (recAfter rec (trigH M.E h dev).2.1 84 dev 0) (trigH M.E h dev).2.2 w'
theorem recAfter_yes (rec : ByteArray) (c a b : Int) : recAfter rec 0 c a b = rec ++ recS c a b := if_pos rfl
theorem recAfter_no {f : Int} (h : f ≠ 0) (rec : ByteArray) (c a b : Int) : recAfter rec f c a b = rec := if_neg h
/-- What a kind of runs has. -/
structure KindJ {RT : Type} (M : Mode RT) (G : RT → Prop) (CB : World → Prop) : Prop where
  hM : ModeOk M
  hCB : ∀ w w', CB w → Still M.B0 w w' → CB w'
  eng : EngOk M.E G
  trig : DocTrigX M G CB
structure DS where
  pv : Value
  qv : Nat → Value
  rs : List Rs
def DS.own (s : DS) (S Q k : Nat) : Prop := ownS S Q s.pv s.qv s.rs k
/-- The document's herald, behind i calls; J: its journal. -/
structure GD {RT : Type} (M : Mode RT) (G : RT → Prop) (CB : World → Prop) (i : Nat) (h : Her RT) (J : List Nat) (w : World) (S Q : Nat) (s : DS) : Prop where
  sim : SimH M w S Q (strN J) h s.pv s.qv s.rs
  cb : CB w
  ok : HOk M.E G (50000000 * i) h
  last : h.last ≤ i
  len : J.length ≤ 19 * i
section
variable {RT : Type} {M : Mode RT} {G : RT → Prop} {CB : World → Prop} {i : Nat} {h h' : Her RT} {J J' : List Nat} {w w' : World} {S Q : Nat} {s : DS}
/-- Behind one call more. -/
def GDNext (M : Mode RT) (G : RT → Prop) (CB : World → Prop) (i : Nat) (h' : Her RT) (J' : List Nat) (w : World) (S Q : Nat) (s : DS) (w' : World) : Prop :=
  ∃ s' : DS, GD M G CB (i + 1) h' J' w' S Q s' ∧ (∀ k, s'.own S Q k → s.own S Q k ∨ w.heap.size ≤ k) ∧ Fr (s.own S Q) w w'
theorem GD.lt (g : GD M G CB i h J w S Q s) {k : Nat} (hk : s.own S Q k) : k < w.heap.size := g.sim.at'.lt hk
theorem GD.keep (K : KindJ M G CB) (g : GD M G CB i h J w S Q s) (hk : ∀ k, s.own S Q k → w'.heap[k]? = w.heap[k]?) (hst : Still M.B0 w w') : GD M G CB i h J w' S Q s :=
  ⟨⟨g.sim.at'.keep hk, g.sim.base, relL_imp (fun a b hab => K.hM.keep _ _ a b hab hst) g.sim.rel⟩, K.hCB _ _ g.cb hst, g.ok, g.last, g.len⟩
theorem GD.below (K : KindJ M G CB) (g : GD M G CB i h J w S Q s) (hb : Below w.heap.size w w') : GD M G CB i h J w' S Q s := g.keep K (fun k hk => hb.block k (g.lt hk)) (still_below hb)
theorem GD.le (g : GD M G CB i h J w S Q s) {j : Nat} (hj : i ≤ j) : GD M G CB j h J w S Q s :=
  ⟨g.sim, g.cb, g.ok.mono (by omega), by have := g.last; omega, by have := g.len; omega⟩
theorem GDNext.of (K : KindJ M G CB) (g : GD M G CB i h J w S Q s) (ho : SimOut M w S Q s.pv s.qv s.rs (strN J') h' w') (hj : J'.length ≤ J.length + 19) (hk : HOk M.E G (50000000 * (i + 1 : Nat)) h') (hl : h'.last ≤ (i + 1 : Nat)) : GDNext M G CB i h' J' w S Q s w' := by
  obtain ⟨⟨pv', qv', rs', h1, h2⟩, h3⟩ := ho
  exact ⟨⟨pv', qv', rs'⟩, ⟨h1, K.hCB _ _ g.cb (g.sim.at'.still g.sim.base h3), hk, hl, by have := g.len; omega⟩, h2, h3⟩
theorem gd_Trigger (K : KindJ M G CB) (dev : Int) (w : World) (g : GD M G CB i h J w S Q s) (hi : i ≤ 2000000) :
    Calls Try.prog 90 #[.pointer (some ⟨S, 0, none⟩), .int .i64 dev] w fun e w' => e = .returned (.tuple #[.int .i64 (trigH M.E h dev).1, .int .i64 (trigH M.E h dev).2.1]) ∧ GDNext M G CB i (trigH M.E h dev).2.2 (noteJ (trigH M.E h dev).2.1 J 84 dev 0) w S Q s w' := by
  have h1 := g.len
  have h2 := g.last
  refine (K.trig S Q (strN J) h s.pv s.qv s.rs dev (50000000 * i) w g.sim g.cb g.ok (by omega) (by rw [strN_size]; omega) (by omega)).mono ?_
  rintro e w' ⟨rfl, ho⟩
  have e : recAfter (strN J) (trigH M.E h dev).2.1 84 dev 0 = strN (noteJ (trigH M.E h dev).2.1 J 84 dev 0) := recAfter_N (c := 84) (by decide) J _ _ _
  rw [e] at ho
  have hl := trig_last (E := M.E) (h := h) dev
  exact ⟨rfl, GDNext.of K g ho (noteJ_len _ _ _ _ _) ((HOk.trig K.eng g.ok (by omega) dev).mono (by push_cast; omega)) (by push_cast; omega)⟩
theorem gd_Tick (K : KindJ M G CB) (n : Int) (w : World) (g : GD M G CB i h J w S Q s) (hi : i ≤ 2000000) :
    Calls Try.prog 91 #[.pointer (some ⟨S, 0, none⟩), .int .i64 n] w fun e w' => e = .returned (.int .i64 (tickH M.E h n).1) ∧ GDNext M G CB i (tickH M.E h n).2 (noteJ (tickH M.E h n).1 J 75 n 0) w S Q s w' := by
  have h1 := g.len
  have h2 := g.last
  have hc : Calls Try.prog 91 #[.pointer (some ⟨S, 0, none⟩), .int .i64 n] w fun e w' => e = .returned (.int .i64 (tickH M.E h n).1) ∧ SimOut M w S Q s.pv s.qv s.rs (recAfter (strN J) (tickH M.E h n).1 75 n 0) (tickH M.E h n).2 w' := by
    unfold tickH
    by_cases hn : ¬ (1 ≤ n ∧ n ≤ 999) ∨ 1000000000 < h.now + n
    · rw [if_pos hn, recAfter_no (by simp)]
      exact sim_tick_no S Q (strN J) h s.pv s.qv s.rs n _ w g.sim g.ok hn
    · rw [if_neg hn, recAfter_yes]
      exact sim_tick_yes K.hM K.eng S Q (strN J) h s.pv s.qv s.rs n _ w g.sim g.ok (by omega) (by rw [strN_size]; omega) (by omega) (by omega) (by omega)
  refine hc.mono ?_
  rintro e w' ⟨rfl, ho⟩
  have e : recAfter (strN J) (tickH M.E h n).1 75 n 0 = strN (noteJ (tickH M.E h n).1 J 75 n 0) := recAfter_N (c := 75) (by decide) J _ _ _
  rw [e] at ho
  have k2 := HOk.tick K.eng g.ok n
  exact ⟨rfl, GDNext.of K g ho (noteJ_len _ _ _ _ _) (k2.1.mono (by push_cast; omega)) (by rw [k2.2]; push_cast; omega)⟩
theorem gd_Ack (K : KindJ M G CB) (id num : Int) (w : World) (g : GD M G CB i h J w S Q s) (hi : i ≤ 2000000) :
    Calls Try.prog 92 #[.pointer (some ⟨S, 0, none⟩), .int .i64 id, .int .i64 num] w fun e w' => e = .returned (.int .i64 (ackH M.E h id num).1) ∧ GDNext M G CB i (ackH M.E h id num).2 (noteJ (ackH M.E h id num).1 J 65 id num) w S Q s w' := by
  have h1 := g.len
  have h2 := g.last
  refine (sim_ack K.hM S Q (strN J) h s.pv s.qv s.rs id num (50000000 * i) w g.sim g.ok (by omega) (by rw [strN_size]; omega)).mono ?_
  rintro e w' ⟨rfl, ho⟩
  have e : recAfter (strN J) (ackH M.E h id num).1 65 id num = strN (noteJ (ackH M.E h id num).1 J 65 id num) := recAfter_N (c := 65) (by decide) J _ _ _
  rw [e] at ho
  exact ⟨rfl, GDNext.of K g ho (noteJ_len _ _ _ _ _) ((HOk.ack K.eng g.ok id num).mono (by push_cast; omega)) (by rw [ack_last]; push_cast; omega)⟩
theorem gd_Cancel (K : KindJ M G CB) (id : Int) (w : World) (g : GD M G CB i h J w S Q s) (hi : i ≤ 2000000) :
    Calls Try.prog 93 #[.pointer (some ⟨S, 0, none⟩), .int .i64 id] w fun e w' => e = .returned (.int .i64 (cancelH M.E h id).1) ∧ GDNext M G CB i (cancelH M.E h id).2 (noteJ (cancelH M.E h id).1 J 67 id 0) w S Q s w' := by
  have h1 := g.len
  have h2 := g.last
  refine (sim_cancel K.hM S Q (strN J) h s.pv s.qv s.rs id (50000000 * i) w g.sim g.ok (by rw [strN_size]; omega)).mono ?_
  rintro e w' ⟨rfl, ho⟩
  have e : recAfter (strN J) (cancelH M.E h id).1 67 id 0 = strN (noteJ (cancelH M.E h id).1 J 67 id 0) := recAfter_N (c := 67) (by decide) J _ _ _
  rw [e] at ho
  exact ⟨rfl, GDNext.of K g ho (noteJ_len _ _ _ _ _) ((HOk.cancel g.ok id).mono (by push_cast; omega)) (by rw [cancel_last]; push_cast; omega)⟩
theorem gd_Drain (K : KindJ M G CB) (dev : Int) (w : World) (g : GD M G CB i h J w S Q s) (hi : i ≤ 2000000) :
    Calls Try.prog 94 #[.pointer (some ⟨S, 0, none⟩), .int .i64 dev] w fun e w' => e = .returned (.tuple #[msgV (drainH h dev).1, .int .i64 (drainH h dev).2.1]) ∧ GDNext M G CB i (drainH h dev).2.2 (noteJ (drainH h dev).2.1 J 68 dev 0) w S Q s w' := by
  have h1 := g.len
  have h2 := g.last
  have hc : Calls Try.prog 94 #[.pointer (some ⟨S, 0, none⟩), .int .i64 dev] w fun e w' => e = .returned (.tuple #[msgV (drainH h dev).1, .int .i64 (drainH h dev).2.1]) ∧ SimOut M w S Q s.pv s.qv s.rs (recAfter (strN J) (drainH h dev).2.1 68 dev 0) (drainH h dev).2.2 w' := by
    unfold drainH
    by_cases hd : 0 ≤ dev ∧ dev ≤ 2
    · rw [if_neg (by simpa using hd)]
      obtain ⟨d, hdd⟩ : ∃ d : Nat, dev = (d : Nat) := ⟨dev.toNat, by omega⟩
      subst hdd
      have e : ((d : Nat) : Int).toNat = d := by simp
      rw [e]
      cases hq : h.qs d with
      | nil =>
        rw [recAfter_no (by simp)]
        exact sim_drain_empty K.hM S Q (strN J) h s.pv s.qv s.rs d w g.sim (by omega) hq
      | cons m r =>
        have := g.ok.qlen d
        rw [hq] at this
        simp at this
        rw [recAfter_yes]
        exact sim_drain_yes K.hM S Q (strN J) h s.pv s.qv s.rs d m r w g.sim (by omega) hq (by omega) (by rw [strN_size]; omega)
    · rw [if_pos (by simpa using hd), recAfter_no (by simp)]
      exact sim_drain_no K.hM S Q (strN J) h s.pv s.qv s.rs dev w g.sim hd
  refine hc.mono ?_
  rintro e w' ⟨rfl, ho⟩
  have e : recAfter (strN J) (drainH h dev).2.1 68 dev 0 = strN (noteJ (drainH h dev).2.1 J 68 dev 0) := recAfter_N (c := 68) (by decide) J _ _ _
  rw [e] at ho
  exact ⟨rfl, GDNext.of K g ho (noteJ_len _ _ _ _ _) ((HOk.drain g.ok dev).mono (by push_cast; omega)) (by rw [drain_last]; push_cast; omega)⟩
end
theorem code_trigX {cs : List Ins} (hs : soundL cs = true) (a : Option Addr) (b off cap B0 : Nat) : DocTrigX (codeM cs a b off cap B0) (goodP cs) (fun w => CodeLies w B0 a b off cs) := by
  intro S Q rec h pv qv rs dev C w H hcl hI hC hr hlast
  have hE : (codeM cs a b off cap B0).E = codeE cs := rfl
  unfold trigH
  by_cases hd : 0 ≤ dev ∧ dev ≤ 2
  · rw [if_neg (by simpa using hd)]
    by_cases hl : 5 ≤ h.rs.length
    · rw [if_pos hl, recAfter_no (by simp)]
      exact sim_trig_full S Q rec h pv qv rs dev w H hd hl
    · rw [if_neg hl, recAfter_yes]
      have h1 := sim_trig_code hs a b off cap B0 S Q rec h pv qv rs dev C w H hcl hI hr hlast hd hl
      unfold trigH at h1
      rw [if_neg (by simpa using hd), if_neg hl] at h1
      exact h1
  · rw [if_pos (by simpa using hd), recAfter_no (by simp)]
    exact sim_trig_dev S Q rec h pv qv rs dev w H hd
end Go.Proofs.Ytmmmnghiegajmaa
/- A step of a script is played. -/
namespace Go.Proofs.Ytmmmnghiegajmaa
open Go.RowKit Go.Proofs.Herald
/-- What a step answers, and the herald behind it. -/
def playH (cs : List Ins) (h : Her Pr) (k a b : Int) : (Int × Msg × Int) × Her Pr :=
  if k = 1 then (((trigH (machE cs) h a).1, ⟨0, 0, 0, 0⟩, (trigH (machE cs) h a).2.1), (trigH (machE cs) h a).2.2)
  else if k = 2 then ((0, ⟨0, 0, 0, 0⟩, (tickH (machE cs) h a).1), (tickH (machE cs) h a).2)
  else if k = 3 then ((0, ⟨0, 0, 0, 0⟩, (ackH (machE cs) h a b).1), (ackH (machE cs) h a b).2)
  else if k = 4 then ((0, ⟨0, 0, 0, 0⟩, (cancelH (machE cs) h a).1), (cancelH (machE cs) h a).2)
  else if k = 5 then ((0, (drainH h a).1, (drainH h a).2.1), (drainH h a).2.2)
  else ((0, ⟨0, 0, 0, 0⟩, 10), h)
end Go.Proofs.Ytmmmnghiegajmaa
/- A step of a script is played; the journal behind it. -/
namespace Go.Proofs.Ytmmmnghiegajmaa
open Go.RowKit Go.Proofs.Herald
/-- The journal behind a step. -/
def playJ (cs : List Ins) (h : Her Pr) (J : List Nat) (k a b : Int) : List Nat :=
  if k = 1 then noteJ (trigH (machE cs) h a).2.1 J 84 a 0
  else if k = 2 then noteJ (tickH (machE cs) h a).1 J 75 a 0
  else if k = 3 then noteJ (ackH (machE cs) h a b).1 J 65 a b
  else if k = 4 then noteJ (cancelH (machE cs) h a).1 J 67 a 0
  else if k = 5 then noteJ (drainH h a).2.1 J 68 a 0
  else J
end Go.Proofs.Ytmmmnghiegajmaa
/- A record is read: just those bytes that would be written. -/
namespace Go.Proofs.Herald
open Go
/-- Is there such a call? -/
def isC (c : Nat) (b : Int) : Bool := if c = 84 ∨ c = 75 ∨ c = 67 ∨ c = 68 then b == 0 else c == 65
def nameL (L : List Nat) : Nat := L.getD 0 0
def firstL (L : List Nat) : Int := w64 (valB ((L.drop 1).take 8))
def secondL (L : List Nat) : Int := w64 (valB ((L.drop 9).take 8))
/-- The call of a record of 19 bytes. -/
def readB (L : List Nat) : Option (Nat × Int × Int) :=
  if recB (nameL L) (firstL L) (secondL L) = L ∧ isC (nameL L) (secondL L) = true then some (nameL L, firstL L, secondL L) else none
theorem readB_some {L : List Nat} {c : Nat} {a b : Int} (h : readB L = some (c, a, b)) : L = recB c a b ∧ isC c b = true := by
  unfold readB at h
  split at h
  · rename_i hh
    simp only [Option.some.injEq, Prod.mk.injEq] at h
    obtain ⟨rfl, rfl, rfl⟩ := h
    exact ⟨hh.1.symm, hh.2⟩
  · cases h
end Go.Proofs.Herald
namespace Go.Proofs.Ytmmmnghiegajmaa
open Go.RowKit Go.Proofs.Herald
set_option maxRecDepth 20000 in
set_option maxHeartbeats 4000000 in
theorem x_isCall (c : Nat) (_hc : c < 256) (a b : Int) (w : World) :
    Calls Try.prog 155 #[.agg #[.int .u8 (c : Nat), .int .i64 a, .int .i64 b]] w fun e w' => e = .returned (.bool (isC c b)) ∧ Below w.heap.size w w' := by
  have HB : Hid (∀ o, Below w.heap.size w (w.alloc o)) := fun o => (Below.refl _ _).alloc (Nat.le_refl _) o
  by_cases h1 : c = 84
  · have HI : Hid (isC c b = (b == 0)) := by show isC c b = _; unfold isC; rw [if_pos (.inl h1)]
    have b1 : (((c : Nat) : Int) == 84) = true := by simp [h1]
    clear h1
    go_enter Try.func155, Try.ntmps155
    go_wp2_with fail
    go_ret
    refine ⟨?_, HB.out _⟩
    rw [HI.out]
    rfl
  have b1 : (((c : Nat) : Int) == 84) = false := by simp; omega
  by_cases h2 : c = 75
  · have HI : Hid (isC c b = (b == 0)) := by show isC c b = _; unfold isC; rw [if_pos (.inr (.inl h2))]
    have b2 : (((c : Nat) : Int) == 75) = true := by simp [h2]
    clear h1 h2
    go_enter Try.func155, Try.ntmps155
    go_wp2_with fail
    go_ret
    refine ⟨?_, HB.out _⟩
    rw [HI.out]
    rfl
  have b2 : (((c : Nat) : Int) == 75) = false := by simp; omega
  by_cases h3 : c = 67
  · have HI : Hid (isC c b = (b == 0)) := by show isC c b = _; unfold isC; rw [if_pos (.inr (.inr (.inl h3)))]
    have b3 : (((c : Nat) : Int) == 67) = true := by simp [h3]
    clear h1 h2 h3
    go_enter Try.func155, Try.ntmps155
    go_wp2_with fail
    go_ret
    refine ⟨?_, HB.out _⟩
    rw [HI.out]
    rfl
  have b3 : (((c : Nat) : Int) == 67) = false := by simp; omega
  by_cases h4 : c = 68
  · have HI : Hid (isC c b = (b == 0)) := by show isC c b = _; unfold isC; rw [if_pos (.inr (.inr (.inr h4)))]
    have b4 : (((c : Nat) : Int) == 68) = true := by simp [h4]
    clear h1 h2 h3 h4
    go_enter Try.func155, Try.ntmps155
    go_wp2_with fail
    go_ret
    refine ⟨?_, HB.out _⟩
    rw [HI.out]
    rfl
  have b4 : (((c : Nat) : Int) == 68) = false := by simp; omega
  have HI : Hid (isC c b = (c == 65)) := by
    show isC c b = _
    unfold isC
    rw [if_neg (by omega)]
  by_cases h5 : c = 65
  · have b5 : (((c : Nat) : Int) == 65) = true := by simp [h5]
    have HI2 : Hid (isC c b = true) := HI.out.trans (by simp [h5])
    clear h1 h2 h3 h4 h5
    go_enter Try.func155, Try.ntmps155
    go_wp2_with fail
    go_ret
    refine ⟨?_, HB.out _⟩
    rw [HI2.out]
    rfl
  · have b5 : (((c : Nat) : Int) == 65) = false := by simp; omega
    have HI2 : Hid (isC c b = false) := HI.out.trans (by simp [h5])
    clear h1 h2 h3 h4 h5
    go_enter Try.func155, Try.ntmps155
    go_wp2_with fail
    go_ret
    refine ⟨?_, HB.out _⟩
    rw [HI2.out]
    rfl
/-- Bytes that a slice holds are made a string. -/
theorem str_of_row {w : World} {a : Option Addr} {cap : Nat} {L : List Nat} (h : w.ownsRow 0 5 1 (.slice a L.length cap) L.length (bytesV (natsI L))) (hp : 0 < L.length) : (convert 139 9 (.slice a L.length cap)).run Try.prog w = .ok (.string (strN L)) w := by
  obtain ⟨g, c, hv, _, _⟩ := h.form hp
  simp at hv
  obtain ⟨rfl, rfl⟩ := hv
  rw [← strN_nums]
  have hl : (natsI L).length = L.length := natsI_len L
  refine run_convert_bytes_arg (w := w) 139 5 Try.underlying139 Try.underlying5 g 0 L.length cap (natsI L) hl (fun i hi => ?_) 9 Try.underlying9
  have hi2 : i < L.length := by omega
  have h1 := own_get h i (.int .u8 ((natsI L).getD i 0)) (by simp [bytesV, natsI, hi2])
  rw [Nat.zero_add]
  exact h1.1
/-- The answer of Read. -/
def readV (o : Option (Nat × Int × Int)) : Value :=
  match o with
  | some (c, a, b) => .tuple #[.agg #[.int .u8 (c : Nat), .int .i64 a, .int .i64 b], .bool true]
  | none => .tuple #[.agg #[.int .u8 0, .int .i64 0, .int .i64 0], .bool false]
theorem cells3_of {w : World} {R : Nat} {a b c : Value} {t : TypeId} (h : w.heap[R]? = some (.cells #[a, b, c] t (0, 0))) : (w.cell? ⟨R, 0, none⟩ = some a ∧ w.cell? ⟨R, 1, none⟩ = some b ∧ w.cell? ⟨R, 2, none⟩ = some c) ∧ (w.frozen? ⟨R, 0, none⟩ = false ∧ w.frozen? ⟨R, 1, none⟩ = false ∧ w.frozen? ⟨R, 2, none⟩ = false) ∧ R < w.heap.size :=
  ⟨⟨(cell_of_heap h).trans rfl, (cell_of_heap h).trans rfl, (cell_of_heap h).trans rfl⟩, ⟨free_of_heap h, free_of_heap h, free_of_heap h⟩, heap_lt h⟩
theorem sub_lt {L : List Nat} (hL : ∀ x ∈ L, x < 256) (a n : Nat) : ∀ x ∈ (L.drop a).take n, x < 256 := fun x hx => hL x (List.mem_of_mem_drop (List.mem_of_mem_take hx))
set_option maxRecDepth 20000 in
set_option maxHeartbeats 4000000 in
theorem x_Read (L : List Nat) (hL : ∀ x ∈ L, x < 256) (hl : L.length = 19) (w : World) :
    Calls Try.prog 130 #[.string (strN L)] w fun e w' => e = .returned (readV (readB L)) ∧ Below w.heap.size w w' := by
  have hz : (strN L).size = 19 := by rw [strN_size, hl]
  have HX1 : Hid (∀ W : World, Calls Try.prog 154 #[.string ((strN L).extract 1 9)] W fun e w' => e = .returned (.int .i64 (firstL L)) ∧ w' = W) := fun W => by
    rw [strN_extract]
    exact x_numberOf _ (sub_lt hL 1 8) (by rw [List.length_take]; omega) W
  have HX2 : Hid (∀ W : World, Calls Try.prog 154 #[.string ((strN L).extract 9 17)] W fun e w' => e = .returned (.int .i64 (secondL L)) ∧ w' = W) := fun W => by
    rw [strN_extract]
    exact x_numberOf _ (sub_lt hL 9 8) (by rw [List.length_take]; omega) W
  have h0 : 0 < (strN L).size := by omega
  have hn : (((strN L)[0]).toNat : Int) = ((nameL L : Nat) : Int) := by
    have h1 : 0 < L.length := by omega
    rw [strN_get h0 h1 (hL _ (List.getElem_mem h1))]
    unfold nameL
    simp [h1]
  have hc : nameL L < 256 := by
    unfold nameL
    have h1 : 0 < L.length := by omega
    rw [List.getD_eq_getElem?_getD, List.getElem?_eq_getElem h1]
    exact hL _ (List.getElem_mem h1)
  have HRB : Hid (readB L = if recB (nameL L) (firstL L) (secondL L) = L ∧ isC (nameL L) (secondL L) = true then some (nameL L, firstL L, secondL L) else none) := rfl
  generalize nameL L = c at *
  generalize firstL L = a at *
  generalize secondL L = b at *
  have HW : Hid (∀ W : World, Calls Try.prog 101 #[.agg #[.int .u8 (c : Nat), .int .i64 a, .int .i64 b]] W fun e w' => ∃ v, e = .returned v ∧ w'.ownsRow W.heap.size 5 1 v 19 (bytesV (natsI (recB c a b))) ∧ Below W.heap.size W w') := fun W => x_write c hc a b W
  have HC : Hid (∀ W : World, Calls Try.prog 155 #[.agg #[.int .u8 (c : Nat), .int .i64 a, .int .i64 b]] W fun e w' => e = .returned (.bool (isC c b)) ∧ Below W.heap.size W w') := fun W => x_isCall c hc a b W
  have HNE : Hid (strN (recB c a b) = strN L ↔ recB c a b = L) := by
    refine ⟨fun h => strN_inj (fun x hx => ?_) hL h, fun h => by rw [h]⟩
    rcases List.mem_append.mp hx with h1 | h1
    · exact bodyB_lt hc a b x h1
    · have := crcL_lt (bodyB c a b) (r := 65535) (by decide) (bodyB_lt hc a b)
      have e : crcL (bodyB c a b) = (bodyB c a b).foldl crcByte 65535 := rfl
      rw [← e] at this
      simp at h1
      omega
  clear hL hl hc
  go_enter Try.func130, Try.ntmps130
  go_wp2_with fail
  refine (HX1.out _).mono ?_
  rintro e w1 ⟨rfl, hw1⟩
  rw [hw1]
  clear hw1
  go_wp2_with fail
  refine (HX2.out _).mono ?_
  rintro e w2 ⟨rfl, hw2⟩
  rw [hw2]
  clear hw2
  go_wp2_with fail
  obtain ⟨W0, hW0⟩ : ∃ W0, W0 = (w.alloc (.cells #[.int .u8 0, .int .i64 0, .int .i64 0] 153)).alloc (.cells #[.int .u8 (c : Nat), .int .i64 a, .int .i64 b] 153) := ⟨_, rfl⟩
  have HB0 : Hid (Below w.heap.size w W0 ∧ W0.heap[w.heap.size]? = some (.cells #[.int .u8 0, .int .i64 0, .int .i64 0] 153 (0, 0)) ∧ W0.heap[w.heap.size + 1]? = some (.cells #[.int .u8 (c : Nat), .int .i64 a, .int .i64 b] 153 (0, 0))) := by
    rw [hW0]
    refine ⟨((Below.refl _ _).alloc (Nat.le_refl _) _).alloc (by simp) _, ?_, heap_alloc2 _ _ _⟩
    rw [Below.heap_alloc _ _ _ (by simp)]
    exact heap_alloc_new _ _
  rw [← hW0]
  clear hW0
  refine (HW.out W0).mono ?_
  rintro e w3 ⟨v, rfl, hown, hb3⟩
  obtain ⟨va, vc, hv⟩ := ownsRow_slice hown
  subst hv
  have HB3 : Hid (Below w.heap.size w w3 ∧ w3.heap[w.heap.size]? = some (.cells #[.int .u8 0, .int .i64 0, .int .i64 0] 153 (0, 0)) ∧ w3.heap[w.heap.size + 1]? = some (.cells #[.int .u8 (c : Nat), .int .i64 a, .int .i64 b] 153 (0, 0))) := ⟨HB0.out.1.trans (hb3.mono HB0.out.1.size), (hb3.block _ (heap_lt HB0.out.2.1)).trans HB0.out.2.1, (hb3.block _ (heap_lt HB0.out.2.2)).trans HB0.out.2.2⟩
  have hcv : (convert 139 9 (.slice va 19 vc)).run Try.prog w3 = .ok (.string (strN (recB c a b))) w3 := by
    have h1 := recB_len c a b
    have h2 := str_of_row (w := w3) (a := va) (cap := vc) (L := recB c a b) (by rw [h1]; exact own0 hown) (by omega)
    rwa [h1] at h2
  clear hown hb3 HB0 HW HX1 HX2
  obtain ⟨⟨r0, r1, r2⟩, ⟨f0, f1, f2⟩, hRl⟩ := cells3_of HB3.out.2.1
  obtain ⟨⟨k0, k1, k2⟩, _, hKl⟩ := cells3_of HB3.out.2.2
  have HFIN : Hid (∀ (w4 : World) (x y z : Value), Below w3.heap.size w3 w4 → (((w4.setCell ⟨w.heap.size, 0, none⟩ x).setCell ⟨w.heap.size, 1, none⟩ y).setCell ⟨w.heap.size, 2, none⟩ z).heap[w.heap.size]? = some (.cells #[x, y, z] 153 (0, 0)) ∧ Below w.heap.size w (((w4.setCell ⟨w.heap.size, 0, none⟩ x).setCell ⟨w.heap.size, 1, none⟩ y).setCell ⟨w.heap.size, 2, none⟩ z)) := fun w4 x y z hb => by
    have hr : w4.heap[w.heap.size]? = some (.cells #[.int .u8 0, .int .i64 0, .int .i64 0] 153 (0, 0)) := (hb.block _ hRl).trans HB3.out.2.1
    refine ⟨state_set hr, ?_⟩
    have hb2 : Below w.heap.size w w4 := HB3.out.1.trans (hb.mono HB3.out.1.size)
    exact ((hb2.setCell (p := ⟨w.heap.size, 0, none⟩) (Nat.le_refl _) _).setCell (p := ⟨w.heap.size, 1, none⟩) (Nat.le_refl _) _).setCell (p := ⟨w.heap.size, 2, none⟩) (Nat.le_refl _) _
  by_cases heq : recB c a b = L
  · rw [heq] at hcv
    have HEQ : Hid (recB c a b = L) := heq
    clear heq
    go_wp2_with fail
    refine (HC.out _).mono ?_
    rintro e w4 ⟨rfl, hb4⟩
    have HB4 : Hid (Below w3.heap.size w3 w4) := hb4
    have hr4 := (hb4.block _ hRl).trans HB3.out.2.1
    have hk4 := (hb4.block _ hKl).trans HB3.out.2.2
    clear r0 r1 r2 f0 f1 f2 k0 k1 k2 hb4 hcv
    obtain ⟨⟨r0, r1, r2⟩, ⟨f0, f1, f2⟩, hRl4⟩ := cells3_of hr4
    obtain ⟨⟨k0, k1, k2⟩, _, hKl4⟩ := cells3_of hk4
    clear hr4 hk4
    cases hi : isC c b with
    | true =>
      have HRD : Hid (readB L = some (c, a, b)) := HRB.out.trans (if_pos ⟨HEQ.out, hi⟩)
      go_wp2_with fail
      obtain ⟨h3, hb⟩ := HFIN.out w4 (.int .u8 (c : Nat)) (.int .i64 a) (.int .i64 b) HB4.out
      generalize ((w4.setCell ⟨w.heap.size, 0, none⟩ (.int .u8 (c : Nat))).setCell ⟨w.heap.size, 1, none⟩ (.int .i64 a)).setCell ⟨w.heap.size, 2, none⟩ (.int .i64 b) = U at *
      obtain ⟨⟨u0, u1, u2⟩, _, hU⟩ := cells3_of h3
      refine bodyPost_ret (v := readV (some (c, a, b))) (by simp [results, Try.results130, go_sem, readV, u0, u1, u2]) rfl ⟨by rw [HRD.out], hb⟩
    | false =>
      have HRD : Hid (readB L = none) := HRB.out.trans (if_neg (by rintro ⟨_, h⟩; rw [hi] at h; cases h))
      go_wp2_with fail
      obtain ⟨h3, hb⟩ := HFIN.out w4 (.int .u8 0) (.int .i64 0) (.int .i64 0) HB4.out
      generalize ((w4.setCell ⟨w.heap.size, 0, none⟩ (.int .u8 0)).setCell ⟨w.heap.size, 1, none⟩ (.int .i64 0)).setCell ⟨w.heap.size, 2, none⟩ (.int .i64 0) = U at *
      obtain ⟨⟨u0, u1, u2⟩, _, hU⟩ := cells3_of h3
      refine bodyPost_ret (v := readV none) (by simp [results, Try.results130, go_sem, readV, u0, u1, u2]) rfl ⟨by rw [HRD.out], hb⟩
  · have HRD : Hid (readB L = none) := HRB.out.trans (if_neg (by rintro ⟨h, _⟩; exact heq h))
    have hne : ¬ strN (recB c a b) = strN L := fun h => heq (HNE.out.mp h)
    have hnb : (strN (recB c a b)).toList ≠ (strN L).toList := fun h => hne (byteArray_eq (by rw [← ByteArray.toList_eq, ← ByteArray.toList_eq]; exact h))
    have hnc : ((strN (recB c a b)).toList == (strN L).toList) = false := by simpa using hnb
    clear heq
    generalize strN (recB c a b) = S at *
    go_wp2_with fail
    obtain ⟨h3, hb⟩ := HFIN.out w3 (.int .u8 0) (.int .i64 0) (.int .i64 0) (Below.refl _ _)
    generalize ((w3.setCell ⟨w.heap.size, 0, none⟩ (.int .u8 0)).setCell ⟨w.heap.size, 1, none⟩ (.int .i64 0)).setCell ⟨w.heap.size, 2, none⟩ (.int .i64 0) = U at *
    obtain ⟨⟨u0, u1, u2⟩, _, hU⟩ := cells3_of h3
    refine bodyPost_ret (v := readV none) (by simp [results, Try.results130, go_sem, readV, u0, u1, u2]) rfl ⟨by rw [HRD.out], hb⟩
end Go.Proofs.Ytmmmnghiegajmaa
