import Derived.Test.YtmmmnghiegajmabGreatM30
import Derived.Test.YtmmmnghiegajmabGreatM39
import Derived.Test.YtmmmnghiegajmabGreatM40
import Derived.Test.YtmmmnghiegajmabGreatM06
import Derived.Test.YtmmmnghiegajmabGreatM08
import Derived.Test.YtmmmnghiegajmabGreatM05
import Derived.Test.YtmmmnghiegajmabGreatM31
import Derived.Test.YtmmmnghiegajmabGreatM11
import Derived.Test.YtmmmnghiegajmabGreatM18
import Derived.Test.YtmmmnghiegajmabGreatM22
/- A game is opened: a herald of a text's code, and a first run. -/
namespace Go.Proofs.YtmmmnghiegajmabGreat
open Go.RowKit Go.Proofs.Herald
theorem trig_first (cs : List Ins) : (trigH (machE cs) newH 0).1 = 1 ∧ (trigH (machE cs) newH 0).2.1 = 0 := by
  unfold trigH
  rw [if_neg (by decide), if_neg (by decide)]
  exact ⟨rfl, rfl⟩
/-- A game: its herald, its code; what it owns is not older than B. -/
structure Game (B : Nat) (cs : List Ins) (i : Nat) (h : Her Pr) (w : World) (G H : Nat) (cv : Value) (s : HS) : Prop where
  g : w.heap[G]? = some (.cells #[.pointer (some ⟨H, 0, none⟩), cv] 37 (0, 0))
  ga : GA cs i h w H s
  own : ∀ k, s.own H k → B ≤ k ∧ k ≠ G
  row : w.ownsRow B 117 4 cv cs.length (codeCells cs)
  cvo : ∀ k, cv.ownBlock = some k → ¬ s.own H k
  B : B ≤ G
theorem own_codeAt {w : World} {B : Nat} {a : Option Addr} {n cap : Nat} {cs : List Ins} (h : w.ownsRow B 117 4 (.slice a n cap) n (codeCells cs)) (hn : n = cs.length) : ∃ b, CodeIn w a b 0 cs := by
  rcases h.2 with ⟨h1, h2⟩ | ⟨g, c, cur, hv, hb, hg, h1, h2, h3, h4⟩
  · refine ⟨0, fun hp => ?_⟩
    omega
  · simp at hv
    obtain ⟨rfl, rfl⟩ := hv
    refine ⟨g, fun _ => ⟨rfl, heap_lt hg, fun i hi j u hj => ?_⟩⟩
    have hj4 : j < 4 := by have := (List.getElem?_eq_some_iff.mp hj).1; simpa [insCells] using this
    have h5 := h.cells (g := g) rfl (i * 4 + j) u (by rw [codeCells_get cs i hi j hj4]; exact hj)
    rw [Addr.add_lit] at h5
    rw [show 0 + i * 4 + j = 0 + (i * 4 + j) from by omega]
    exact h5
end Go.Proofs.YtmmmnghiegajmabGreat
/- What Show tells of one run and one message; a message is answered. -/
namespace Go.Proofs.YtmmmnghiegajmabGreat
open Go.RowKit Go.Proofs.Herald
theorem Game.cell {B : Nat} {cs cs' : List Ins} {i m : Nat} {h h' : Her Pr} {w0 w : World} {G H : Nat} {cv : Value} {s : HS} (g : Game B cs i h w0 G H cv s) (t : GTo cs' m h' w0 H s w) : w.heap[G]? = some (.cells #[.pointer (some ⟨H, 0, none⟩), cv] 37 (0, 0)) := by
  obtain ⟨_, _, _, _, _, hf⟩ := t
  exact (hf.block G (heap_lt g.g) fun ho => (g.own G ho).2 rfl).trans g.g
theorem Game.back {B : Nat} {cs cs' : List Ins} {i m : Nat} {h h' : Her Pr} {w0 w : World} {G H : Nat} {cv : Value} {s : HS} (g : Game B cs i h w0 G H cv s) (t : GTo cs' m h' w0 H s w) : Below B w0 w := by
  obtain ⟨_, _, _, _, _, hf⟩ := t
  have h1 := g.B
  have h2 := heap_lt g.g
  exact ⟨hf.os, hf.tape, hf.output, hf.size, fun k hk => hf.block k (by omega) fun ho => by have := (g.own k ho).1; omega⟩
theorem GTo.same {cs : List Ins} {m : Nat} {h : Her Pr} {w0 : World} {H : Nat} {s0 : HS} {w : World} (g : GTo cs m h w0 H s0 w) {k : Nat} (hk : k < w0.heap.size) (ho : ¬ s0.own H k) : w.heap[k]? = w0.heap[k]? := by
  obtain ⟨_, _, _, _, _, hf⟩ := g
  exact hf.block k hk ho
end Go.Proofs.YtmmmnghiegajmabGreat
/- A herald and what lies beside it, from call to call. -/
namespace Go.Proofs.YtmmmnghiegajmabGreat
open Go.RowKit Go.Proofs.Herald
/-- A herald behind at most m calls; what it owns is not older than B and not in F; nothing older than B has changed since w0. -/
def KS (B : Nat) (cs : List Ins) (m : Nat) (h : Her Pr) (w0 : World) (H : Nat) (F : Nat → Prop) (w : World) : Prop :=
  ∃ i s, i ≤ m ∧ GA cs i h w H s ∧ (∀ k, s.own H k → B ≤ k ∧ ¬ F k) ∧ (∀ k, F k → k < w.heap.size) ∧ Below B w0 w ∧ B ≤ w.heap.size
theorem KS.of {B : Nat} {cs : List Ins} {i : Nat} {h : Her Pr} {w0 w : World} {G H : Nat} {cv : Value} {s : HS} (g : Game B cs i h w G H cv s) (hb : Below B w0 w) : KS B cs i h w0 H (fun k => k = G) w :=
  ⟨i, s, Nat.le_refl _, g.ga, fun k hk => g.own k hk, fun k hk => by rw [hk]; exact heap_lt g.g, hb, by have := heap_lt g.g; have := g.B; omega⟩
theorem KS.less {B : Nat} {cs : List Ins} {m : Nat} {h : Her Pr} {w0 w : World} {H : Nat} {F F' : Nat → Prop} (g : KS B cs m h w0 H F w) (hF : ∀ k, F' k → F k) : KS B cs m h w0 H F' w := by
  obtain ⟨i, s, h1, h2, h3, h4, h5, h6⟩ := g
  exact ⟨i, s, h1, h2, fun k hk => ⟨(h3 k hk).1, fun hf => (h3 k hk).2 (hF k hf)⟩, fun k hk => h4 k (hF k hk), h5, h6⟩
theorem KS.le {B : Nat} {cs : List Ins} {m m' : Nat} {h : Her Pr} {w0 w : World} {H : Nat} {F : Nat → Prop} (g : KS B cs m h w0 H F w) (hm : m ≤ m') : KS B cs m' h w0 H F w := by
  obtain ⟨i, s, h1, h2⟩ := g
  exact ⟨i, s, by omega, h2⟩
theorem KS.back {B : Nat} {cs : List Ins} {m : Nat} {h : Her Pr} {w0 w : World} {H : Nat} {F : Nat → Prop} (g : KS B cs m h w0 H F w) : Below B w0 w := by
  obtain ⟨i, s, h1, h2, h3, h4, h5, h6⟩ := g
  exact h5
theorem KS.lt {B : Nat} {cs : List Ins} {m : Nat} {h : Her Pr} {w0 w : World} {H : Nat} {F : Nat → Prop} (g : KS B cs m h w0 H F w) {k : Nat} (hk : F k) : k < w.heap.size := by
  obtain ⟨i, s, h1, h2, h3, h4, h5, h6⟩ := g
  exact h4 k hk
theorem KS.B {B : Nat} {cs : List Ins} {m : Nat} {h : Her Pr} {w0 w : World} {H : Nat} {F : Nat → Prop} (g : KS B cs m h w0 H F w) : B ≤ w.heap.size := by
  obtain ⟨i, s, h1, h2, h3, h4, h5, h6⟩ := g
  exact h6
/-- What lies in F is written, or something new is made: that lies beside the herald too. -/
theorem KS.fr {B : Nat} {cs : List Ins} {m : Nat} {h : Her Pr} {w0 w w' : World} {H : Nat} {F S : Nat → Prop} (g : KS B cs m h w0 H F w) (hf : Fr S w w') (hS : ∀ k, S k → k < w.heap.size → F k ∧ B ≤ k) : KS B cs m h w0 H (fun k => F k ∨ (w.heap.size ≤ k ∧ k < w'.heap.size)) w' := by
  obtain ⟨i, s, h1, h2, h3, h4, h5, h6⟩ := g
  have hz := hf.size
  refine ⟨i, s, h1, h2.keep fun k hk => hf.block k (h2.lt hk) fun hs => (h3 k hk).2 (hS k hs (h2.lt hk)).1, fun k hk => ⟨(h3 k hk).1, ?_⟩, ?_, ?_, by omega⟩
  · rintro (hF | ⟨hF, _⟩)
    · exact (h3 k hk).2 hF
    · have := h2.lt hk
      omega
  · rintro k (hF | ⟨_, hF⟩)
    · have := h4 k hF
      omega
    · exact hF
  · exact h5.trans ⟨hf.os, hf.tape, hf.output, hf.size, fun k hk => hf.block k (by omega) fun hs => by have := (hS k hs (by omega)).2; omega⟩
theorem KS.more {B : Nat} {cs : List Ins} {m : Nat} {h : Her Pr} {w0 w w' : World} {H : Nat} {F : Nat → Prop} (g : KS B cs m h w0 H F w) (hb : Below w.heap.size w w') : KS B cs m h w0 H (fun k => F k ∨ (w.heap.size ≤ k ∧ k < w'.heap.size)) w' :=
  g.fr (Fr.of_below hb) fun _ hk hk2 => by omega
theorem KS.below {B : Nat} {cs : List Ins} {m : Nat} {h : Her Pr} {w0 w w' : World} {H : Nat} {F : Nat → Prop} (g : KS B cs m h w0 H F w) (hb : Below w.heap.size w w') : KS B cs m h w0 H F w' := (g.more hb).less fun _ hk => .inl hk
theorem KS.new {B : Nat} {cs : List Ins} {m : Nat} {h : Her Pr} {w0 w : World} {H : Nat} {F : Nat → Prop} (g : KS B cs m h w0 H F w) (o : Obj) : KS B cs m h w0 H (fun k => k = w.heap.size ∨ F k) (w.alloc o) :=
  (g.more ((Below.refl _ _).alloc (Nat.le_refl _) o)).less fun k hk => by
    rcases hk with rfl | hk
    · exact .inr ⟨Nat.le_refl _, by simp⟩
    · exact .inl hk
theorem KS.same {B : Nat} {cs : List Ins} {m : Nat} {h : Her Pr} {w0 w w' : World} {H : Nat} {F : Nat → Prop} (g : KS B cs m h w0 H F w) (hs : SameH w w') : KS B cs m h w0 H F w' :=
  g.below ⟨hs.os, hs.tape, hs.output, by rw [hs.heap]; exact Nat.le_refl _, fun k _ => by rw [hs.heap]⟩
theorem KS.next {B : Nat} {cs : List Ins} {m i : Nat} {h' : Her Pr} {w0 w w' : World} {H : Nat} {F : Nat → Prop} {s : HS} (h1 : i ≤ m) (h3 : ∀ k, s.own H k → B ≤ k ∧ ¬ F k) (h4 : ∀ k, F k → k < w.heap.size) (h5 : Below B w0 w) (h6 : B ≤ w.heap.size) (n : GNext cs i h' w H s w') : KS B cs (m + 1) h' w0 H F w' ∧ ∀ k, F k → w'.heap[k]? = w.heap[k]? := by
  obtain ⟨s', g', o', f'⟩ := n
  have hz := f'.size
  refine ⟨⟨i + 1, s', by omega, g', fun k hk => ?_, fun k hk => by have := h4 k hk; omega, ?_, by omega⟩, fun k hk => f'.block k (h4 k hk) fun ho => (h3 k ho).2 hk⟩
  · rcases o' k hk with h7 | h7
    · exact h3 k h7
    · exact ⟨by omega, fun hF => by have := h4 k hF; omega⟩
  · exact h5.trans ⟨f'.os, f'.tape, f'.output, f'.size, fun k hk => f'.block k (by omega) fun ho => by have := (h3 k ho).1; omega⟩
theorem ks_Show {B : Nat} {cs : List Ins} {m : Nat} {h : Her Pr} {w0 : World} {H : Nat} {F : Nat → Prop} (w : World) (g : KS B cs m h w0 H F w) :
    Calls Tryz.prog 11 #[.pointer (some ⟨H, 0, none⟩)] w fun e w' => ∃ sv uv, e = .returned (.agg #[.int .i64 h.now, sv, uv]) ∧ w'.ownsRow w.heap.size 99 5 sv h.rs.length (rnsCells (h.rs.map pubP)) ∧ w'.ownsRow w.heap.size 29 4 uv (h.qs 0 ++ h.qs 1 ++ h.qs 2).length (msgsCells (h.qs 0 ++ h.qs 1 ++ h.qs 2)) ∧ Below w.heap.size w w' := by
  obtain ⟨i, s, h1, h2, h3, h4, h5, h6⟩ := g
  exact t_Show w h2.tow
/-- Seen by the laws that take a herald's calls from one world on. -/
theorem KS.tow {B : Nat} {cs : List Ins} {m : Nat} {h : Her Pr} {w0 w : World} {H : Nat} {F : Nat → Prop} (g : KS B cs m h w0 H F w) : ∃ s, GTo cs m h w H s w ∧ ∀ {m' : Nat} {h' : Her Pr} {w' : World}, GTo cs m' h' w H s w' → KS B cs m' h' w0 H F w' ∧ ∀ k, F k → w'.heap[k]? = w.heap[k]? := by
  obtain ⟨i, s, h1, h2, h3, h4, h5, h6⟩ := g
  refine ⟨s, ⟨i, s, h1, h2, fun k hk => .inl hk, Fr.refl _ _⟩, ?_⟩
  rintro m' h' w' ⟨i', s', g1, g2, g3, g4⟩
  have hz := g4.size
  refine ⟨⟨i', s', g1, g2, fun k hk => ?_, fun k hk => by have := h4 k hk; omega, ?_, by omega⟩, fun k hk => g4.block k (h4 k hk) fun ho => (h3 k ho).2 hk⟩
  · rcases g3 k hk with h7 | h7
    · exact h3 k h7
    · exact ⟨by omega, fun hF => by have := h4 k hF; omega⟩
  · exact h5.trans ⟨g4.os, g4.tape, g4.output, g4.size, fun k hk => g4.block k (by omega) fun ho => by have := (h3 k ho).1; omega⟩
/-- The three cells of a state are written. -/
theorem state_set {w : World} {X : Nat} {x0 x1 x2 a b c : Value} {e : TypeId} (h : w.heap[X]? = some (.cells #[x0, x1, x2] e (0, 0))) : (((w.setCell ⟨X, 0, none⟩ a).setCell ⟨X, 1, none⟩ b).setCell ⟨X, 2, none⟩ c).heap[X]? = some (.cells #[a, b, c] e (0, 0)) := by
  rw [heap_setCell_self c (heap_setCell_self b (heap_setCell_self a h))]
  rfl
end Go.Proofs.YtmmmnghiegajmabGreat
/- A step of a script is played. -/
namespace Go.Proofs.YtmmmnghiegajmabGreat
open Go.RowKit Go.Proofs.Herald
/-- What a step answers, and the herald behind it. -/
def playH (cs : List Ins) (h : Her Pr) (k a b : Int) : (Int × Msg × Int) × Her Pr :=
  if k = 1 then (((trigH (machE cs) h a).1, ⟨0, 0, 0, 0⟩, (trigH (machE cs) h a).2.1), (trigH (machE cs) h a).2.2)
  else if k = 2 then ((0, ⟨0, 0, 0, 0⟩, (tickH (machE cs) h a).1), (tickH (machE cs) h a).2)
  else if k = 3 then ((0, ⟨0, 0, 0, 0⟩, (ackH (machE cs) h a b).1), (ackH (machE cs) h a b).2)
  else if k = 4 then ((0, ⟨0, 0, 0, 0⟩, (cancelH (machE cs) h a).1), (cancelH (machE cs) h a).2)
  else if k = 5 then ((0, (drainH h a).1, (drainH h a).2.1), (drainH h a).2.2)
  else ((0, ⟨0, 0, 0, 0⟩, 10), h)
def ansV (x : Int × Msg × Int) : Value := .agg #[.int .i64 x.1, .int .i64 x.2.1.dev, .int .i64 x.2.1.run, .int .i64 x.2.1.num, .int .i64 x.2.1.key, .int .i64 x.2.2]
/-- All six cells of a block are written. -/
theorem set6 {w : World} {R : Nat} {S : Nat → Prop} {x0 x1 x2 x3 x4 x5 a b c d e f : Value} {t : TypeId} (h : w.heap[R]? = some (.cells #[x0, x1, x2, x3, x4, x5] t (0, 0))) (hS : S R) :
    ((((((w.setCell ⟨R, 0, none⟩ a).setCell ⟨R, 1, none⟩ b).setCell ⟨R, 2, none⟩ c).setCell ⟨R, 3, none⟩ d).setCell ⟨R, 4, none⟩ e).setCell ⟨R, 5, none⟩ f).heap[R]? = some (.cells #[a, b, c, d, e, f] t (0, 0)) ∧ Fr S w ((((((w.setCell ⟨R, 0, none⟩ a).setCell ⟨R, 1, none⟩ b).setCell ⟨R, 2, none⟩ c).setCell ⟨R, 3, none⟩ d).setCell ⟨R, 4, none⟩ e).setCell ⟨R, 5, none⟩ f) := by
  constructor
  · rw [heap_setCell_self f (heap_setCell_self e (heap_setCell_self d (heap_setCell_self c (heap_setCell_self b (heap_setCell_self a h)))))]
    rfl
  · exact (((((((Fr.refl S w).setCell ⟨R, 0, none⟩ (.inl hS) a).setCell ⟨R, 1, none⟩ (.inl hS) b).setCell ⟨R, 2, none⟩ (.inl hS) c).setCell ⟨R, 3, none⟩ (.inl hS) d).setCell ⟨R, 4, none⟩ (.inl hS) e).setCell ⟨R, 5, none⟩ (.inl hS) f)
theorem cells_of6 {w : World} {R : Nat} {a b c d e f : Value} {t : TypeId} (h : w.heap[R]? = some (.cells #[a, b, c, d, e, f] t (0, 0))) : (w.cell? ⟨R, 0, none⟩ = some a ∧ w.cell? ⟨R, 1, none⟩ = some b ∧ w.cell? ⟨R, 2, none⟩ = some c ∧ w.cell? ⟨R, 3, none⟩ = some d ∧ w.cell? ⟨R, 4, none⟩ = some e ∧ w.cell? ⟨R, 5, none⟩ = some f) ∧ (w.frozen? ⟨R, 0, none⟩ = false ∧ w.frozen? ⟨R, 1, none⟩ = false ∧ w.frozen? ⟨R, 2, none⟩ = false ∧ w.frozen? ⟨R, 3, none⟩ = false ∧ w.frozen? ⟨R, 4, none⟩ = false ∧ w.frozen? ⟨R, 5, none⟩ = false) ∧ R < w.heap.size :=
  ⟨⟨(cell_of_heap h).trans rfl, (cell_of_heap h).trans rfl, (cell_of_heap h).trans rfl, (cell_of_heap h).trans rfl, (cell_of_heap h).trans rfl, (cell_of_heap h).trans rfl⟩, ⟨free_of_heap h, free_of_heap h, free_of_heap h, free_of_heap h, free_of_heap h, free_of_heap h⟩, heap_lt h⟩
end Go.Proofs.YtmmmnghiegajmabGreat
/- A game is opened with whatever text, the empty one too. -/
namespace Go.Proofs.YtmmmnghiegajmabGreat
open Go.RowKit Go.Proofs.Herald
set_option maxRecDepth 20000 in
set_option maxHeartbeats 4000000 in
theorem c_mNew_nil (w : World) (hs : soundL [] = true) :
    Calls Tryz.prog 22 #[.slice none 0 0] w fun e w' => ∃ v, e = .returned (.tuple #[.agg #[v, .int .i64 0, .int .i64 0, .slice none 0 0, .slice none 0 0, .slice none 0 0, .slice none 0 0], .int .i64 0]) ∧ w'.ownsRow w.heap.size 117 4 v 0 [] ∧ Below w.heap.size w w' := by
  have HC : Hid (∀ W : World, Calls Tryz.prog 42 #[.slice none 0 0] W fun e w' => e = .returned (.bool true) ∧ Below W.heap.size W w') := fun W => by
    have := c_sound none 0 0 0 [] W (fun hp => absurd hp (by simp))
    rw [hs] at this
    exact this
  clear hs
  obtain ⟨i0, hi, hz0, hz1, hz2⟩ := info_parts Tryz.infoInstr
  go_enter Tryz.func22, Tryz.ntmps22
  go_wp2_with fail
  refine (HC.out _).mono ?_
  rintro e w1 ⟨rfl, hb1⟩
  have g1 : w1.heap[w.heap.size]? = some (.cells (newM (.slice none 0 0)) 72 (0, 0)) := (hb1.block _ (by simp)).trans (heap_alloc_new _ _)
  have HG1 : Hid (_ = _) := g1
  have HB1 : Hid (Below w.heap.size w w1) := ((Below.refl _ _).alloc (Nat.le_refl _) _).trans (hb1.mono (by simp))
  clear hb1 g1 HC
  have HOWN : Hid ((w1.alloc (.cells #[] 117)).ownsRow w.heap.size 117 4 (.slice (some ⟨w1.heap.size, 0, none⟩) 0 0) 0 []) :=
    ⟨rfl, .inr ⟨w1.heap.size, 0, #[], rfl, HB1.out.size, heap_alloc_new _ _, Nat.le_refl _, Nat.zero_le _, rfl, rfl⟩⟩
  have HBA : Hid (Below w.heap.size w (w1.alloc (.cells #[] 117))) := HB1.out.alloc HB1.out.size _
  have HGA : Hid ((w1.alloc (.cells #[] 117)).heap[w.heap.size]? = some (.cells (newM (.slice none 0 0)) 72 (0, 0))) := by
    show _ = _
    rw [Below.heap_alloc _ _ _ (heap_lt HG1.out)]; exact HG1.out
  have HG2 : (w1.alloc (.cells #[] 117)).heap[w.heap.size]? = some (.cells (newM (.slice none 0 0)) 72 (0, 0)) := HGA.out
  have HO2 : Hid ((w1.alloc (.cells #[] 117)).ownsRow w.heap.size 117 4 (.slice (some ⟨w1.heap.size, 0, none⟩) 0 0) 0 []) := HOWN.out
  have HB2 : Hid (Below w.heap.size w (w1.alloc (.cells #[] 117))) := HBA.out
  obtain ⟨d0, d1, d2, d3, d4, d5, d6, hz⟩ := cells7 HG2
  have z0 := hz 0
  have z1 := hz 1
  have z2 := hz 2
  have z3 := hz 3
  have z4 := hz 4
  have z5 := hz 5
  have z6 := hz 6
  have HNE : Hid (∀ k, (Value.slice (some ⟨w1.heap.size, 0, none⟩) 0 0).ownBlock = some k → k ≠ w.heap.size) := fun k hk => by
    obtain ⟨_, cur, hc⟩ := ownsRow_lies HO2.out hk
    exact ne_of_type hc HG2 (by decide)
  have HBK : Hid (_ = _) := HG2
  clear hz HG2
  go_wp2_with (at_builtin; refine wpList_append_own_none rfl _ _ 35 rfl w.heap.size 117 i0 4 Tryz.underlying35 hi (.slice (some ⟨w1.heap.size, 0, none⟩) 0 0) 0 [] rfl HOWN.out rfl ?_)
  refine bodyPost_ret (v := .tuple #[.agg #[.slice (some ⟨w1.heap.size, 0, none⟩) 0 0, .int .i64 0, .int .i64 0, .slice none 0 0, .slice none 0 0, .slice none 0 0, .slice none 0 0], .int .i64 0]) (by simp [results, Tryz.results22, go_sem, d0, d1, d2, d3, d4, d5, d6]) rfl ⟨_, rfl, ?_, ?_⟩
  · refine own_stays HO2.out (fun k hk => ?_)
    have hne := HNE.out k hk
    rw [Below.heap_setCell _ _ _ _ hne, Below.heap_setCell _ _ _ _ hne, Below.heap_setCell _ _ _ _ hne, Below.heap_setCell _ _ _ _ hne, Below.heap_setCell _ _ _ _ hne, Below.heap_setCell _ _ _ _ hne, Below.heap_setCell _ _ _ _ hne]
  · exact below7 HB2.out (Nat.le_refl _) _ _ _ _ _ _ _
set_option maxRecDepth 20000 in
set_option maxHeartbeats 4000000 in
theorem c_New_nil (w : World) (hs : soundL [] = true) :
    Calls Tryz.prog 10 #[.slice none 0 0] w fun e w' => ∃ H v, e = .returned (.tuple #[.pointer (some ⟨H, 0, none⟩), .int .i64 0]) ∧ w.heap.size ≤ H ∧ w'.heap[H]? = some (.cells (newHd v) 75 (0, 0)) ∧ w'.ownsRow w.heap.size 117 4 v 0 [] ∧ Below w.heap.size w w' := by
  have HC : Hid (Calls Tryz.prog 22 #[.slice none 0 0] w fun e w' => ∃ v, e = .returned (.tuple #[.agg #[v, .int .i64 0, .int .i64 0, .slice none 0 0, .slice none 0 0, .slice none 0 0, .slice none 0 0], .int .i64 0]) ∧ w'.ownsRow w.heap.size 117 4 v 0 [] ∧ Below w.heap.size w w') := c_mNew_nil w hs
  clear hs
  go_enter Tryz.func10, Tryz.ntmps10
  go_wp2_with fail
  refine HC.out.mono ?_
  rintro e w1 ⟨v, rfl, ho1, hb1⟩
  obtain ⟨a2, cap2, hv2⟩ := ownsRow_slice ho1
  subst hv2
  have HO : Hid (_ ∧ _) := And.intro ho1 hb1
  clear ho1 hb1
  go_wp2_with fail
  go_ret2
  refine ⟨w1.heap.size + 1, _, rfl, by have := HO.out.2.size; omega, heap_alloc2 _ _ _, (HO.out.1.alloc _).alloc _, (HO.out.2.alloc HO.out.2.size _).alloc (by have := HO.out.2.size; simp; omega) _⟩
theorem c_New_any {w : World} {B : Nat} {a : Option Addr} {cap : Nat} {cs : List Ins} (h : w.ownsRow B 117 4 (.slice a cs.length cap) cs.length (codeCells cs)) (hs : soundL cs = true) :
    Calls Tryz.prog 10 #[.slice a cs.length cap] w fun e w' => ∃ H v, e = .returned (.tuple #[.pointer (some ⟨H, 0, none⟩), .int .i64 0]) ∧ w.heap.size ≤ H ∧ w'.heap[H]? = some (.cells (newHd v) 75 (0, 0)) ∧ w'.ownsRow w.heap.size 117 4 v cs.length (codeCells cs) ∧ Below w.heap.size w w' := by
  obtain ⟨b, hb⟩ := own_codeAt h rfl
  rcases h.2 with ⟨h1, h2⟩ | ⟨g, c, cur, hv, _⟩
  · have hn : cs = [] := List.eq_nil_of_length_eq_zero h2
    subst hn
    simp only [Value.slice.injEq] at h1
    obtain ⟨rfl, _, rfl⟩ := h1
    exact c_New_nil w hs
  · simp only [Value.slice.injEq, true_and] at hv
    obtain ⟨rfl, rfl⟩ := hv
    refine c_New_yes g 0 cap cs w (fun hp => ?_) hs
    obtain ⟨e1, e2, e3⟩ := hb hp
    simp only [Option.some.injEq, Addr.mk.injEq, and_true] at e1
    exact ⟨rfl, by rw [e1]; exact e2, by rw [e1]; exact e3⟩
end Go.Proofs.YtmmmnghiegajmabGreat
/- The program's herald with its journal in a game: what it keeps from call to call. -/
namespace Go.Proofs.YtmmmnghiegajmabGreat
open Go.RowKit Go.Proofs.Herald
/-- A herald of sound code, behind i calls; J: its journal. -/
structure GJ (cs : List Ins) (i : Nat) (h : Her Pr) (J : List Nat) (w : World) (H : Nat) (s : HS) : Prop where
  ga : GA cs i h w H s
  r : w.ownsRow 0 5 1 s.jr J.length (bytesV (natsI J))
  len : J.length ≤ 19 * i
theorem GJ.fj {cs : List Ins} {i : Nat} {h : Her Pr} {J : List Nat} {w : World} {H : Nat} {s : HS} (g : GJ cs i h J w H s) : FJ w H cs h s.code s.jr s.rv s.qv J := ⟨g.ga.fh.m, g.r⟩
/-- Behind one call more. -/
def GJNext (cs : List Ins) (i : Nat) (h' : Her Pr) (J' : List Nat) (w : World) (H : Nat) (s : HS) (w' : World) : Prop :=
  ∃ s', GJ cs (i + 1) h' J' w' H s' ∧ (∀ k, s'.own H k → s.own H k ∨ w.heap.size ≤ k) ∧ Fr (s.own H) w w'
theorem GJ.keep {cs : List Ins} {i : Nat} {h : Her Pr} {J : List Nat} {w w' : World} {H : Nat} {s : HS} (g : GJ cs i h J w H s) (hk : ∀ k, s.own H k → w'.heap[k]? = w.heap[k]?) : GJ cs i h J w' H s := ⟨g.ga.keep hk, own_keep g.r fun b hb => hk b (.inr (.inl hb)), g.len⟩
theorem GJ.lt {cs : List Ins} {i : Nat} {h : Her Pr} {J : List Nat} {w : World} {H : Nat} {s : HS} (g : GJ cs i h J w H s) {k : Nat} (hk : s.own H k) : k < w.heap.size := g.ga.lt hk
theorem noteJ_len (f : Int) (J : List Nat) (c : Nat) (a b : Int) : (noteJ f J c a b).length ≤ J.length + 19 := by
  unfold noteJ
  split
  · rw [List.length_append, recB_len]
    exact Nat.le_refl _
  · omega
theorem GJNext.of {cs : List Ins} {i : Nat} {h h' : Her Pr} {J J' : List Nat} {w w' : World} {H : Nat} {s : HS} (g : GJ cs i h J w H s) (ho : FJOut w w' H cs h' s.code s.jr s.rv s.qv J') (hj : J'.length ≤ J.length + 19) (hk : HOk (machE cs) (goodM cs) (50000000 * (i + 1 : Nat)) h') (hq : QsOk h') (hl : h'.last ≤ (i + 1 : Nat)) : GJNext cs i h' J' w H s w' := by
  obtain ⟨⟨jr', rv', qv', h2, h3⟩, h4⟩ := ho
  have := g.len
  exact ⟨⟨s.code, jr', rv', qv', J'.length⟩, ⟨⟨h2.fh, by show J'.length ≤ _; omega, g.ga.snd, hk, hq, hl⟩, h2.r, by omega⟩, h3, h4⟩
theorem GJ.new {cs : List Ins} {w : World} {H : Nat} {v : Value} (hs : soundL cs = true) (hH : w.heap[H]? = some (.cells (newHd v) 75 (0, 0))) (hv : w.ownsRow 0 117 4 v cs.length (codeCells cs)) : GJ cs 0 newH [] w H ⟨v, .slice none 0 0, .slice none 0 0, fun _ => .slice none 0 0, 0⟩ :=
  ⟨GA.new hs hH hv, World.ownsRow_nil _ _ _ _, Nat.zero_le _⟩
theorem gj_Trigger {cs : List Ins} {i : Nat} {h : Her Pr} {J : List Nat} {H : Nat} {s : HS} (dev : Int) (w : World) (g : GJ cs i h J w H s) (hi : i ≤ 2000000) :
    Calls Tryz.prog 15 #[.pointer (some ⟨H, 0, none⟩), .int .i64 dev] w fun e w' => e = .returned (.tuple #[.int .i64 (trigH (machE cs) h dev).1, .int .i64 (trigH (machE cs) h dev).2.1]) ∧ GJNext cs i (trigH (machE cs) h dev).2.2 (noteJ (trigH (machE cs) h dev).2.1 J 84 dev 0) w H s w' := by
  refine (j_Trigger H cs h s.code s.jr s.rv s.qv J dev (50000000 * i) w g.fj (g.ga.mok hi) (by have := g.len; omega)).mono ?_
  rintro e w' ⟨rfl, ho⟩
  have hl := trig_last (E := machE cs) (h := h) dev
  have := g.ga.last
  exact ⟨rfl, GJNext.of g ho (noteJ_len _ _ _ _ _) ((HOk.trig g.ga.eng g.ga.ok (by omega) dev).mono (by push_cast; omega)) (g.ga.qs.trig (fun r hr => g.ga.ok.id r hr) dev) (by push_cast; omega)⟩
theorem gj_Tick {cs : List Ins} {i : Nat} {h : Her Pr} {J : List Nat} {H : Nat} {s : HS} (n : Int) (w : World) (g : GJ cs i h J w H s) (hi : i ≤ 2000000) :
    Calls Tryz.prog 17 #[.pointer (some ⟨H, 0, none⟩), .int .i64 n] w fun e w' => e = .returned (.int .i64 (tickH (machE cs) h n).1) ∧ GJNext cs i (tickH (machE cs) h n).2 (noteJ (tickH (machE cs) h n).1 J 75 n 0) w H s w' := by
  refine (j_Tick H cs h s.code s.jr s.rv s.qv J n (50000000 * i) w g.fj (g.ga.mok hi) (by have := g.len; omega)).mono ?_
  rintro e w' ⟨rfl, ho⟩
  have k2 := HOk.tick g.ga.eng g.ga.ok n
  have := g.ga.last
  exact ⟨rfl, GJNext.of g ho (noteJ_len _ _ _ _ _) (k2.1.mono (by push_cast; omega)) (g.ga.qs.tick g.ga.eng g.ga.ok n) (by rw [k2.2]; push_cast; omega)⟩
theorem gj_Ack {cs : List Ins} {i : Nat} {h : Her Pr} {J : List Nat} {H : Nat} {s : HS} (id num : Int) (w : World) (g : GJ cs i h J w H s) (hi : i ≤ 2000000) :
    Calls Tryz.prog 18 #[.pointer (some ⟨H, 0, none⟩), .int .i64 id, .int .i64 num] w fun e w' => e = .returned (.int .i64 (ackH (machE cs) h id num).1) ∧ GJNext cs i (ackH (machE cs) h id num).2 (noteJ (ackH (machE cs) h id num).1 J 65 id num) w H s w' := by
  refine (j_Ack H cs h s.code s.jr s.rv s.qv J id num (50000000 * i) w g.fj (g.ga.mok hi) (by have := g.len; omega)).mono ?_
  rintro e w' ⟨rfl, ho⟩
  have := g.ga.last
  exact ⟨rfl, GJNext.of g ho (noteJ_len _ _ _ _ _) ((HOk.ack g.ga.eng g.ga.ok id num).mono (by push_cast; omega)) (g.ga.qs.ack g.ga.ok id num) (by rw [ack_last]; push_cast; omega)⟩
theorem gj_Cancel {cs : List Ins} {i : Nat} {h : Her Pr} {J : List Nat} {H : Nat} {s : HS} (id : Int) (w : World) (g : GJ cs i h J w H s) (hi : i ≤ 2000000) :
    Calls Tryz.prog 19 #[.pointer (some ⟨H, 0, none⟩), .int .i64 id] w fun e w' => e = .returned (.int .i64 (cancelH (machE cs) h id).1) ∧ GJNext cs i (cancelH (machE cs) h id).2 (noteJ (cancelH (machE cs) h id).1 J 67 id 0) w H s w' := by
  refine (j_Cancel H cs h s.code s.jr s.rv s.qv J id (50000000 * i) w g.fj (g.ga.mok hi) (by have := g.len; omega)).mono ?_
  rintro e w' ⟨rfl, ho⟩
  have := g.ga.last
  exact ⟨rfl, GJNext.of g ho (noteJ_len _ _ _ _ _) ((HOk.cancel g.ga.ok id).mono (by push_cast; omega)) (g.ga.qs.cancel id) (by rw [cancel_last]; push_cast; omega)⟩
theorem gj_Drain {cs : List Ins} {i : Nat} {h : Her Pr} {J : List Nat} {H : Nat} {s : HS} (dev : Int) (w : World) (g : GJ cs i h J w H s) (hi : i ≤ 2000000) :
    Calls Tryz.prog 20 #[.pointer (some ⟨H, 0, none⟩), .int .i64 dev] w fun e w' => e = .returned (.tuple #[msgV (drainH h dev).1, .int .i64 (drainH h dev).2.1]) ∧ GJNext cs i (drainH h dev).2.2 (noteJ (drainH h dev).2.1 J 68 dev 0) w H s w' := by
  refine (j_Drain H cs h s.code s.jr s.rv s.qv J dev (50000000 * i) w g.fj (g.ga.mok hi) (by have := g.len; omega)).mono ?_
  rintro e w' ⟨rfl, ho⟩
  have := g.ga.last
  exact ⟨rfl, GJNext.of g ho (noteJ_len _ _ _ _ _) ((HOk.drain g.ga.ok dev).mono (by push_cast; omega)) (g.ga.qs.drain dev) (by rw [drain_last]; push_cast; omega)⟩
/-- A herald behind at most m calls; what it owns is not older than B and not in F; nothing older than B has changed since w0. -/
def KJ (B : Nat) (cs : List Ins) (m : Nat) (h : Her Pr) (J : List Nat) (w0 : World) (H : Nat) (F : Nat → Prop) (w : World) : Prop :=
  ∃ i s, i ≤ m ∧ GJ cs i h J w H s ∧ (∀ k, s.own H k → B ≤ k ∧ ¬ F k) ∧ (∀ k, F k → k < w.heap.size) ∧ Below B w0 w ∧ B ≤ w.heap.size
theorem KJ.less {B : Nat} {cs : List Ins} {m : Nat} {h : Her Pr} {J : List Nat} {w0 w : World} {H : Nat} {F F' : Nat → Prop} (g : KJ B cs m h J w0 H F w) (hF : ∀ k, F' k → F k) : KJ B cs m h J w0 H F' w := by
  obtain ⟨i, s, h1, h2, h3, h4, h5, h6⟩ := g
  exact ⟨i, s, h1, h2, fun k hk => ⟨(h3 k hk).1, fun hf => (h3 k hk).2 (hF k hf)⟩, fun k hk => h4 k (hF k hk), h5, h6⟩
theorem KJ.le {B : Nat} {cs : List Ins} {m m' : Nat} {h : Her Pr} {J : List Nat} {w0 w : World} {H : Nat} {F : Nat → Prop} (g : KJ B cs m h J w0 H F w) (hm : m ≤ m') : KJ B cs m' h J w0 H F w := by
  obtain ⟨i, s, h1, h2⟩ := g
  exact ⟨i, s, by omega, h2⟩
theorem KJ.back {B : Nat} {cs : List Ins} {m : Nat} {h : Her Pr} {J : List Nat} {w0 w : World} {H : Nat} {F : Nat → Prop} (g : KJ B cs m h J w0 H F w) : Below B w0 w := by
  obtain ⟨i, s, h1, h2, h3, h4, h5, h6⟩ := g
  exact h5
theorem KJ.lt {B : Nat} {cs : List Ins} {m : Nat} {h : Her Pr} {J : List Nat} {w0 w : World} {H : Nat} {F : Nat → Prop} (g : KJ B cs m h J w0 H F w) {k : Nat} (hk : F k) : k < w.heap.size := by
  obtain ⟨i, s, h1, h2, h3, h4, h5, h6⟩ := g
  exact h4 k hk
theorem KJ.B {B : Nat} {cs : List Ins} {m : Nat} {h : Her Pr} {J : List Nat} {w0 w : World} {H : Nat} {F : Nat → Prop} (g : KJ B cs m h J w0 H F w) : B ≤ w.heap.size := by
  obtain ⟨i, s, h1, h2, h3, h4, h5, h6⟩ := g
  exact h6
/-- What lies in F is written, or something new is made: that lies beside the herald too. -/
theorem KJ.fr {B : Nat} {cs : List Ins} {m : Nat} {h : Her Pr} {J : List Nat} {w0 w w' : World} {H : Nat} {F S : Nat → Prop} (g : KJ B cs m h J w0 H F w) (hf : Fr S w w') (hS : ∀ k, S k → k < w.heap.size → F k ∧ B ≤ k) : KJ B cs m h J w0 H (fun k => F k ∨ (w.heap.size ≤ k ∧ k < w'.heap.size)) w' := by
  obtain ⟨i, s, h1, h2, h3, h4, h5, h6⟩ := g
  have hz := hf.size
  refine ⟨i, s, h1, h2.keep fun k hk => hf.block k (h2.lt hk) fun hs => (h3 k hk).2 (hS k hs (h2.lt hk)).1, fun k hk => ⟨(h3 k hk).1, ?_⟩, ?_, ?_, by omega⟩
  · rintro (hF | ⟨hF, _⟩)
    · exact (h3 k hk).2 hF
    · have := h2.lt hk
      omega
  · rintro k (hF | ⟨_, hF⟩)
    · have := h4 k hF
      omega
    · exact hF
  · exact h5.trans ⟨hf.os, hf.tape, hf.output, hf.size, fun k hk => hf.block k (by omega) fun hs => by have := (hS k hs (by omega)).2; omega⟩
theorem KJ.more {B : Nat} {cs : List Ins} {m : Nat} {h : Her Pr} {J : List Nat} {w0 w w' : World} {H : Nat} {F : Nat → Prop} (g : KJ B cs m h J w0 H F w) (hb : Below w.heap.size w w') : KJ B cs m h J w0 H (fun k => F k ∨ (w.heap.size ≤ k ∧ k < w'.heap.size)) w' :=
  g.fr (Fr.of_below hb) fun _ hk hk2 => by omega
theorem KJ.below {B : Nat} {cs : List Ins} {m : Nat} {h : Her Pr} {J : List Nat} {w0 w w' : World} {H : Nat} {F : Nat → Prop} (g : KJ B cs m h J w0 H F w) (hb : Below w.heap.size w w') : KJ B cs m h J w0 H F w' := (g.more hb).less fun _ hk => .inl hk
theorem KJ.new {B : Nat} {cs : List Ins} {m : Nat} {h : Her Pr} {J : List Nat} {w0 w : World} {H : Nat} {F : Nat → Prop} (g : KJ B cs m h J w0 H F w) (o : Obj) : KJ B cs m h J w0 H (fun k => k = w.heap.size ∨ F k) (w.alloc o) :=
  (g.more ((Below.refl _ _).alloc (Nat.le_refl _) o)).less fun k hk => by
    rcases hk with rfl | hk
    · exact .inr ⟨Nat.le_refl _, by simp⟩
    · exact .inl hk
theorem KJ.same {B : Nat} {cs : List Ins} {m : Nat} {h : Her Pr} {J : List Nat} {w0 w w' : World} {H : Nat} {F : Nat → Prop} (g : KJ B cs m h J w0 H F w) (hs : SameH w w') : KJ B cs m h J w0 H F w' :=
  g.below ⟨hs.os, hs.tape, hs.output, by rw [hs.heap]; exact Nat.le_refl _, fun k _ => by rw [hs.heap]⟩
theorem KJ.next {B : Nat} {cs : List Ins} {m i : Nat} {h' : Her Pr} {J' : List Nat} {w0 w w' : World} {H : Nat} {F : Nat → Prop} {s : HS} (h1 : i ≤ m) (h3 : ∀ k, s.own H k → B ≤ k ∧ ¬ F k) (h4 : ∀ k, F k → k < w.heap.size) (h5 : Below B w0 w) (h6 : B ≤ w.heap.size) (n : GJNext cs i h' J' w H s w') : KJ B cs (m + 1) h' J' w0 H F w' ∧ ∀ k, F k → w'.heap[k]? = w.heap[k]? := by
  obtain ⟨s', g', o', f'⟩ := n
  have hz := f'.size
  refine ⟨⟨i + 1, s', by omega, g', fun k hk => ?_, fun k hk => by have := h4 k hk; omega, ?_, by omega⟩, fun k hk => f'.block k (h4 k hk) fun ho => (h3 k ho).2 hk⟩
  · rcases o' k hk with h7 | h7
    · exact h3 k h7
    · exact ⟨by omega, fun hF => by have := h4 k hF; omega⟩
  · exact h5.trans ⟨f'.os, f'.tape, f'.output, f'.size, fun k hk => f'.block k (by omega) fun ho => by have := (h3 k ho).1; omega⟩
theorem kj_Trigger {B : Nat} {cs : List Ins} {m : Nat} {h : Her Pr} {J : List Nat} {w0 : World} {H : Nat} {F : Nat → Prop} (dev : Int) (w : World) (g : KJ B cs m h J w0 H F w) (hm : m ≤ 2000000) :
    Calls Tryz.prog 15 #[.pointer (some ⟨H, 0, none⟩), .int .i64 dev] w fun e w' => e = .returned (.tuple #[.int .i64 (trigH (machE cs) h dev).1, .int .i64 (trigH (machE cs) h dev).2.1]) ∧ KJ B cs (m + 1) (trigH (machE cs) h dev).2.2 (noteJ (trigH (machE cs) h dev).2.1 J 84 dev 0) w0 H F w' ∧ ∀ k, F k → w'.heap[k]? = w.heap[k]? := by
  obtain ⟨i, s, h1, h2, h3, h4, h5, h6⟩ := g
  exact (gj_Trigger dev w h2 (by omega)).mono fun e w' hh => ⟨hh.1, KJ.next h1 h3 h4 h5 h6 hh.2⟩
theorem kj_Tick {B : Nat} {cs : List Ins} {m : Nat} {h : Her Pr} {J : List Nat} {w0 : World} {H : Nat} {F : Nat → Prop} (n : Int) (w : World) (g : KJ B cs m h J w0 H F w) (hm : m ≤ 2000000) :
    Calls Tryz.prog 17 #[.pointer (some ⟨H, 0, none⟩), .int .i64 n] w fun e w' => e = .returned (.int .i64 (tickH (machE cs) h n).1) ∧ KJ B cs (m + 1) (tickH (machE cs) h n).2 (noteJ (tickH (machE cs) h n).1 J 75 n 0) w0 H F w' ∧ ∀ k, F k → w'.heap[k]? = w.heap[k]? := by
  obtain ⟨i, s, h1, h2, h3, h4, h5, h6⟩ := g
  exact (gj_Tick n w h2 (by omega)).mono fun e w' hh => ⟨hh.1, KJ.next h1 h3 h4 h5 h6 hh.2⟩
theorem kj_Ack {B : Nat} {cs : List Ins} {m : Nat} {h : Her Pr} {J : List Nat} {w0 : World} {H : Nat} {F : Nat → Prop} (id num : Int) (w : World) (g : KJ B cs m h J w0 H F w) (hm : m ≤ 2000000) :
    Calls Tryz.prog 18 #[.pointer (some ⟨H, 0, none⟩), .int .i64 id, .int .i64 num] w fun e w' => e = .returned (.int .i64 (ackH (machE cs) h id num).1) ∧ KJ B cs (m + 1) (ackH (machE cs) h id num).2 (noteJ (ackH (machE cs) h id num).1 J 65 id num) w0 H F w' ∧ ∀ k, F k → w'.heap[k]? = w.heap[k]? := by
  obtain ⟨i, s, h1, h2, h3, h4, h5, h6⟩ := g
  exact (gj_Ack id num w h2 (by omega)).mono fun e w' hh => ⟨hh.1, KJ.next h1 h3 h4 h5 h6 hh.2⟩
theorem kj_Cancel {B : Nat} {cs : List Ins} {m : Nat} {h : Her Pr} {J : List Nat} {w0 : World} {H : Nat} {F : Nat → Prop} (id : Int) (w : World) (g : KJ B cs m h J w0 H F w) (hm : m ≤ 2000000) :
    Calls Tryz.prog 19 #[.pointer (some ⟨H, 0, none⟩), .int .i64 id] w fun e w' => e = .returned (.int .i64 (cancelH (machE cs) h id).1) ∧ KJ B cs (m + 1) (cancelH (machE cs) h id).2 (noteJ (cancelH (machE cs) h id).1 J 67 id 0) w0 H F w' ∧ ∀ k, F k → w'.heap[k]? = w.heap[k]? := by
  obtain ⟨i, s, h1, h2, h3, h4, h5, h6⟩ := g
  exact (gj_Cancel id w h2 (by omega)).mono fun e w' hh => ⟨hh.1, KJ.next h1 h3 h4 h5 h6 hh.2⟩
theorem kj_Drain {B : Nat} {cs : List Ins} {m : Nat} {h : Her Pr} {J : List Nat} {w0 : World} {H : Nat} {F : Nat → Prop} (dev : Int) (w : World) (g : KJ B cs m h J w0 H F w) (hm : m ≤ 2000000) :
    Calls Tryz.prog 20 #[.pointer (some ⟨H, 0, none⟩), .int .i64 dev] w fun e w' => e = .returned (.tuple #[msgV (drainH h dev).1, .int .i64 (drainH h dev).2.1]) ∧ KJ B cs (m + 1) (drainH h dev).2.2 (noteJ (drainH h dev).2.1 J 68 dev 0) w0 H F w' ∧ ∀ k, F k → w'.heap[k]? = w.heap[k]? := by
  obtain ⟨i, s, h1, h2, h3, h4, h5, h6⟩ := g
  exact (gj_Drain dev w h2 (by omega)).mono fun e w' hh => ⟨hh.1, KJ.next h1 h3 h4 h5 h6 hh.2⟩
theorem KJ.ks {B : Nat} {cs : List Ins} {m : Nat} {h : Her Pr} {J : List Nat} {w0 w : World} {H : Nat} {F : Nat → Prop} (g : KJ B cs m h J w0 H F w) : KS B cs m h w0 H F w := by
  obtain ⟨i, s, h1, h2, h3⟩ := g
  exact ⟨i, s, h1, h2.ga, h3⟩
theorem KJ.len {B : Nat} {cs : List Ins} {m : Nat} {h : Her Pr} {J : List Nat} {w0 w : World} {H : Nat} {F : Nat → Prop} (g : KJ B cs m h J w0 H F w) : J.length ≤ 19 * m := by
  obtain ⟨i, s, h1, h2, _⟩ := g
  have := h2.len
  omega
end Go.Proofs.YtmmmnghiegajmabGreat
/- Two queues that are alike, to the laws without the document's answer. -/
namespace Go.Proofs.YtmmmnghiegajmabGreat
open Go.RowKit Go.Proofs.Herald
set_option maxRecDepth 20000 in
set_option maxHeartbeats 4000000 in
theorem k_sameQueue (l : List Msg) (a b : Option Addr) (ca cb : Nat) (w : World) (ha : w.ownsRow 0 29 4 (.slice a l.length ca) l.length (msgsCells l)) (hb : w.ownsRow 0 29 4 (.slice b l.length cb) l.length (msgsCells l)) (hl : l.length ≤ 100000) :
    Calls Tryz.prog 25 #[.slice a l.length ca, .slice b l.length cb] w fun e w' => e = .returned (.bool true) ∧ SameH w w' := by
  have HA : Hid (w.ownsRow 0 29 4 (.slice a l.length ca) l.length (msgsCells l) ∧ w.ownsRow 0 29 4 (.slice b l.length cb) l.length (msgsCells l)) := ⟨ha, hb⟩
  clear ha hb
  go_enter Tryz.func25, Tryz.ntmps25
  go_wp2_with fail
  go_loopw [5] (fun i wr => ∃ k : Nat, k ≤ l.length ∧ i = .int .i64 k ∧ Hid (SameH w wr)) (fun i _ => l.length - (intOf i).toNat)
  case atStart => exact ⟨0, Nat.zero_le _, rfl, SameH.refl _⟩
  case round =>
    obtain ⟨k, hk, rfl, HS⟩ := hrel
    by_cases hlt : k < l.length
    · obtain ⟨g, ca', hv, _, _⟩ := HA.out.1.form (by omega)
      simp at hv
      obtain ⟨rfl, rfl⟩ := hv
      obtain ⟨g', cb', hv, _, _⟩ := HA.out.2.form (by omega)
      simp at hv
      obtain ⟨rfl, rfl⟩ := hv
      obtain ⟨e0, e1, e2, e3⟩ := msg_get HA.out.1 hlt
      obtain ⟨f0, f1, f2, f3⟩ := msg_get HA.out.2 hlt
      rw [← HS.out.cell] at e0 e1 e2 e3 f0 f1 f2 f3
      generalize l[k] = m at *
      go_wp2_with fail
      go_region
      all_goals
        go_wp2_with fail
        go_roundw
        case rel => exact ⟨k + 1, by omega, by go_num, HS.out.drew⟩
        case measure => simp [intOf]; omega
    · go_wp2_with fail
      go_ret
      exact ⟨rfl, HS.out⟩
end Go.Proofs.YtmmmnghiegajmabGreat
