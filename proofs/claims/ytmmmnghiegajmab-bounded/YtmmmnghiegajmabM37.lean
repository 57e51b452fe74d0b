import Derived.Test.YtmmmnghiegajmabM29
import Derived.Test.YtmmmnghiegajmabM35
import Derived.Test.YtmmmnghiegajmabM36
import Derived.Test.YtmmmnghiegajmabM06
import Derived.Test.YtmmmnghiegajmabM07
import Derived.Test.YtmmmnghiegajmabM05
/- A game is opened: a herald of a text's code, and a first run. -/
namespace Go.Proofs.Ytmmmnghiegajmab
open Go.RowKit Go.Proofs.Herald
theorem trig_first (cs : List Ins) : (trigH (machE cs) newH 0).1 = 1 ∧ (trigH (machE cs) newH 0).2.1 = 0 := by
  unfold trigH
  rw [if_neg (by decide), if_neg (by decide)]
  exact ⟨rfl, rfl⟩
/-- A game: its herald, its code; what it owns is not older than B. -/
structure Game (B : Nat) (cs : List Ins) (i : Nat) (h : Her Pr) (w : World) (G H : Nat) (cv : Value) (s : HS) : Prop where
  g : w.heap[G]? = some (.cells #[.pointer (some ⟨H, 0, none⟩), cv] 38 (0, 0))
  ga : GA cs i h w H s
  own : ∀ k, s.own H k → B ≤ k ∧ k ≠ G
  row : w.ownsRow B 137 4 cv cs.length (codeCells cs)
  cvo : ∀ k, cv.ownBlock = some k → ¬ s.own H k
  B : B ≤ G
theorem own_codeAt {w : World} {B : Nat} {a : Option Addr} {n cap : Nat} {cs : List Ins} (h : w.ownsRow B 137 4 (.slice a n cap) n (codeCells cs)) (hn : n = cs.length) : ∃ b, CodeIn w a b 0 cs := by
  rcases h.2 with ⟨h1, h2⟩ | ⟨g, c, cur, hv, hb, hg, h1, h2, h3, h4⟩
  · refine ⟨0, fun hp => ?_⟩
    omega
  · simp at hv
    obtain ⟨rfl, rfl⟩ := hv
    refine ⟨g, fun _ => ⟨rfl, heap_lt hg, fun i hi j u hj => ?_⟩⟩
    have hj4 : j < 4 := by have := (List.getElem?_eq_some_iff.mp hj).1; simpa [insCells] using this
    have h5 := h.cells (g := g) rfl (i * 4 + j) u (by rw [codeCells_get cs i hi j hj4]; exact hj)
    rw [Addr.add_lit] at h5
    rw [show 0 + i * 4 + j = 0 + (i * 4 + j) from by omega]
    exact h5
end Go.Proofs.Ytmmmnghiegajmab
/- A herald and what lies beside it, from call to call. -/
namespace Go.Proofs.Ytmmmnghiegajmab
open Go.RowKit Go.Proofs.Herald
/-- A herald behind at most m calls; what it owns is not older than B and not in F; nothing older than B has changed since w0. -/
def KS (B : Nat) (cs : List Ins) (m : Nat) (h : Her Pr) (w0 : World) (H : Nat) (F : Nat → Prop) (w : World) : Prop :=
  ∃ i s, i ≤ m ∧ GA cs i h w H s ∧ (∀ k, s.own H k → B ≤ k ∧ ¬ F k) ∧ (∀ k, F k → k < w.heap.size) ∧ Below B w0 w ∧ B ≤ w.heap.size
theorem KS.less {B : Nat} {cs : List Ins} {m : Nat} {h : Her Pr} {w0 w : World} {H : Nat} {F F' : Nat → Prop} (g : KS B cs m h w0 H F w) (hF : ∀ k, F' k → F k) : KS B cs m h w0 H F' w := by
  obtain ⟨i, s, h1, h2, h3, h4, h5, h6⟩ := g
  exact ⟨i, s, h1, h2, fun k hk => ⟨(h3 k hk).1, fun hf => (h3 k hk).2 (hF k hf)⟩, fun k hk => h4 k (hF k hk), h5, h6⟩
theorem KS.le {B : Nat} {cs : List Ins} {m m' : Nat} {h : Her Pr} {w0 w : World} {H : Nat} {F : Nat → Prop} (g : KS B cs m h w0 H F w) (hm : m ≤ m') : KS B cs m' h w0 H F w := by
  obtain ⟨i, s, h1, h2⟩ := g
  exact ⟨i, s, by omega, h2⟩
theorem KS.back {B : Nat} {cs : List Ins} {m : Nat} {h : Her Pr} {w0 w : World} {H : Nat} {F : Nat → Prop} (g : KS B cs m h w0 H F w) : Below B w0 w := by
  obtain ⟨i, s, h1, h2, h3, h4, h5, h6⟩ := g
  exact h5
theorem KS.lt {B : Nat} {cs : List Ins} {m : Nat} {h : Her Pr} {w0 w : World} {H : Nat} {F : Nat → Prop} (g : KS B cs m h w0 H F w) {k : Nat} (hk : F k) : k < w.heap.size := by
  obtain ⟨i, s, h1, h2, h3, h4, h5, h6⟩ := g
  exact h4 k hk
theorem KS.B {B : Nat} {cs : List Ins} {m : Nat} {h : Her Pr} {w0 w : World} {H : Nat} {F : Nat → Prop} (g : KS B cs m h w0 H F w) : B ≤ w.heap.size := by
  obtain ⟨i, s, h1, h2, h3, h4, h5, h6⟩ := g
  exact h6
/-- What lies in F is written, or something new is made: that lies beside the herald too. -/
theorem KS.fr {B : Nat} {cs : List Ins} {m : Nat} {h : Her Pr} {w0 w w' : World} {H : Nat} {F S : Nat → Prop} (g : KS B cs m h w0 H F w) (hf : Fr S w w') (hS : ∀ k, S k → k < w.heap.size → F k ∧ B ≤ k) : KS B cs m h w0 H (fun k => F k ∨ (w.heap.size ≤ k ∧ k < w'.heap.size)) w' := by
  obtain ⟨i, s, h1, h2, h3, h4, h5, h6⟩ := g
  have hz := hf.size
  refine ⟨i, s, h1, h2.keep fun k hk => hf.block k (h2.lt hk) fun hs => (h3 k hk).2 (hS k hs (h2.lt hk)).1, fun k hk => ⟨(h3 k hk).1, ?_⟩, ?_, ?_, by omega⟩
  · rintro (hF | ⟨hF, _⟩)
    · exact (h3 k hk).2 hF
    · have := h2.lt hk
      omega
  · rintro k (hF | ⟨_, hF⟩)
    · have := h4 k hF
      omega
    · exact hF
  · exact h5.trans ⟨hf.os, hf.tape, hf.output, hf.size, fun k hk => hf.block k (by omega) fun hs => by have := (hS k hs (by omega)).2; omega⟩
theorem KS.more {B : Nat} {cs : List Ins} {m : Nat} {h : Her Pr} {w0 w w' : World} {H : Nat} {F : Nat → Prop} (g : KS B cs m h w0 H F w) (hb : Below w.heap.size w w') : KS B cs m h w0 H (fun k => F k ∨ (w.heap.size ≤ k ∧ k < w'.heap.size)) w' :=
  g.fr (Fr.of_below hb) fun _ hk hk2 => by omega
theorem KS.below {B : Nat} {cs : List Ins} {m : Nat} {h : Her Pr} {w0 w w' : World} {H : Nat} {F : Nat → Prop} (g : KS B cs m h w0 H F w) (hb : Below w.heap.size w w') : KS B cs m h w0 H F w' := (g.more hb).less fun _ hk => .inl hk
theorem KS.new {B : Nat} {cs : List Ins} {m : Nat} {h : Her Pr} {w0 w : World} {H : Nat} {F : Nat → Prop} (g : KS B cs m h w0 H F w) (o : Obj) : KS B cs m h w0 H (fun k => k = w.heap.size ∨ F k) (w.alloc o) :=
  (g.more ((Below.refl _ _).alloc (Nat.le_refl _) o)).less fun k hk => by
    rcases hk with rfl | hk
    · exact .inr ⟨Nat.le_refl _, by simp⟩
    · exact .inl hk
theorem KS.same {B : Nat} {cs : List Ins} {m : Nat} {h : Her Pr} {w0 w w' : World} {H : Nat} {F : Nat → Prop} (g : KS B cs m h w0 H F w) (hs : SameH w w') : KS B cs m h w0 H F w' :=
  g.below ⟨hs.os, hs.tape, hs.output, by rw [hs.heap]; exact Nat.le_refl _, fun k _ => by rw [hs.heap]⟩
theorem KS.next {B : Nat} {cs : List Ins} {m i : Nat} {h' : Her Pr} {w0 w w' : World} {H : Nat} {F : Nat → Prop} {s : HS} (h1 : i ≤ m) (h3 : ∀ k, s.own H k → B ≤ k ∧ ¬ F k) (h4 : ∀ k, F k → k < w.heap.size) (h5 : Below B w0 w) (h6 : B ≤ w.heap.size) (n : GNext cs i h' w H s w') : KS B cs (m + 1) h' w0 H F w' ∧ ∀ k, F k → w'.heap[k]? = w.heap[k]? := by
  obtain ⟨s', g', o', f'⟩ := n
  have hz := f'.size
  refine ⟨⟨i + 1, s', by omega, g', fun k hk => ?_, fun k hk => by have := h4 k hk; omega, ?_, by omega⟩, fun k hk => f'.block k (h4 k hk) fun ho => (h3 k ho).2 hk⟩
  · rcases o' k hk with h7 | h7
    · exact h3 k h7
    · exact ⟨by omega, fun hF => by have := h4 k hF; omega⟩
  · exact h5.trans ⟨f'.os, f'.tape, f'.output, f'.size, fun k hk => f'.block k (by omega) fun ho => by have := (h3 k ho).1; omega⟩
theorem ks_Trigger {B : Nat} {cs : List Ins} {m : Nat} {h : Her Pr} {w0 : World} {H : Nat} {F : Nat → Prop} (dev : Int) (w : World) (g : KS B cs m h w0 H F w) (hm : m ≤ 2000000) :
    Calls Try.prog 12 #[.pointer (some ⟨H, 0, none⟩), .int .i64 dev] w fun e w' => e = .returned (.tuple #[.int .i64 (trigH (machE cs) h dev).1, .int .i64 (trigH (machE cs) h dev).2.1]) ∧ KS B cs (m + 1) (trigH (machE cs) h dev).2.2 w0 H F w' ∧ ∀ k, F k → w'.heap[k]? = w.heap[k]? := by
  obtain ⟨i, s, h1, h2, h3, h4, h5, h6⟩ := g
  exact (g_Trigger dev w h2 (by omega)).mono fun e w' hh => ⟨hh.1, KS.next h1 h3 h4 h5 h6 hh.2⟩
theorem ks_Tick {B : Nat} {cs : List Ins} {m : Nat} {h : Her Pr} {w0 : World} {H : Nat} {F : Nat → Prop} (n : Int) (w : World) (g : KS B cs m h w0 H F w) (hm : m ≤ 2000000) :
    Calls Try.prog 23 #[.pointer (some ⟨H, 0, none⟩), .int .i64 n] w fun e w' => e = .returned (.int .i64 (tickH (machE cs) h n).1) ∧ KS B cs (m + 1) (tickH (machE cs) h n).2 w0 H F w' ∧ ∀ k, F k → w'.heap[k]? = w.heap[k]? := by
  obtain ⟨i, s, h1, h2, h3, h4, h5, h6⟩ := g
  exact (g_Tick n w h2 (by omega)).mono fun e w' hh => ⟨hh.1, KS.next h1 h3 h4 h5 h6 hh.2⟩
theorem ks_Ack {B : Nat} {cs : List Ins} {m : Nat} {h : Her Pr} {w0 : World} {H : Nat} {F : Nat → Prop} (id num : Int) (w : World) (g : KS B cs m h w0 H F w) (hm : m ≤ 2000000) :
    Calls Try.prog 24 #[.pointer (some ⟨H, 0, none⟩), .int .i64 id, .int .i64 num] w fun e w' => e = .returned (.int .i64 (ackH (machE cs) h id num).1) ∧ KS B cs (m + 1) (ackH (machE cs) h id num).2 w0 H F w' ∧ ∀ k, F k → w'.heap[k]? = w.heap[k]? := by
  obtain ⟨i, s, h1, h2, h3, h4, h5, h6⟩ := g
  exact (g_Ack id num w h2 (by omega)).mono fun e w' hh => ⟨hh.1, KS.next h1 h3 h4 h5 h6 hh.2⟩
theorem ks_Cancel {B : Nat} {cs : List Ins} {m : Nat} {h : Her Pr} {w0 : World} {H : Nat} {F : Nat → Prop} (id : Int) (w : World) (g : KS B cs m h w0 H F w) (hm : m ≤ 2000000) :
    Calls Try.prog 25 #[.pointer (some ⟨H, 0, none⟩), .int .i64 id] w fun e w' => e = .returned (.int .i64 (cancelH (machE cs) h id).1) ∧ KS B cs (m + 1) (cancelH (machE cs) h id).2 w0 H F w' ∧ ∀ k, F k → w'.heap[k]? = w.heap[k]? := by
  obtain ⟨i, s, h1, h2, h3, h4, h5, h6⟩ := g
  exact (g_Cancel id w h2 (by omega)).mono fun e w' hh => ⟨hh.1, KS.next h1 h3 h4 h5 h6 hh.2⟩
theorem ks_Drain {B : Nat} {cs : List Ins} {m : Nat} {h : Her Pr} {w0 : World} {H : Nat} {F : Nat → Prop} (dev : Int) (w : World) (g : KS B cs m h w0 H F w) (hm : m ≤ 2000000) :
    Calls Try.prog 26 #[.pointer (some ⟨H, 0, none⟩), .int .i64 dev] w fun e w' => e = .returned (.tuple #[msgV (drainH h dev).1, .int .i64 (drainH h dev).2.1]) ∧ KS B cs (m + 1) (drainH h dev).2.2 w0 H F w' ∧ ∀ k, F k → w'.heap[k]? = w.heap[k]? := by
  obtain ⟨i, s, h1, h2, h3, h4, h5, h6⟩ := g
  exact (g_Drain dev w h2 (by omega)).mono fun e w' hh => ⟨hh.1, KS.next h1 h3 h4 h5 h6 hh.2⟩
theorem ks_Show {B : Nat} {cs : List Ins} {m : Nat} {h : Her Pr} {w0 : World} {H : Nat} {F : Nat → Prop} (w : World) (g : KS B cs m h w0 H F w) :
    Calls Try.prog 10 #[.pointer (some ⟨H, 0, none⟩)] w fun e w' => ∃ sv uv, e = .returned (.agg #[.int .i64 h.now, sv, uv]) ∧ w'.ownsRow w.heap.size 82 5 sv h.rs.length (rnsCells (h.rs.map pubP)) ∧ w'.ownsRow w.heap.size 30 4 uv (h.qs 0 ++ h.qs 1 ++ h.qs 2).length (msgsCells (h.qs 0 ++ h.qs 1 ++ h.qs 2)) ∧ Below w.heap.size w w' := by
  obtain ⟨i, s, h1, h2, h3, h4, h5, h6⟩ := g
  exact t_Show w h2.tow
end Go.Proofs.Ytmmmnghiegajmab
/- A step of a script is played. -/
namespace Go.Proofs.Ytmmmnghiegajmab
open Go.RowKit Go.Proofs.Herald
/-- What a step answers, and the herald behind it. -/
def playH (cs : List Ins) (h : Her Pr) (k a b : Int) : (Int × Msg × Int) × Her Pr :=
  if k = 1 then (((trigH (machE cs) h a).1, ⟨0, 0, 0, 0⟩, (trigH (machE cs) h a).2.1), (trigH (machE cs) h a).2.2)
  else if k = 2 then ((0, ⟨0, 0, 0, 0⟩, (tickH (machE cs) h a).1), (tickH (machE cs) h a).2)
  else if k = 3 then ((0, ⟨0, 0, 0, 0⟩, (ackH (machE cs) h a b).1), (ackH (machE cs) h a b).2)
  else if k = 4 then ((0, ⟨0, 0, 0, 0⟩, (cancelH (machE cs) h a).1), (cancelH (machE cs) h a).2)
  else if k = 5 then ((0, (drainH h a).1, (drainH h a).2.1), (drainH h a).2.2)
  else ((0, ⟨0, 0, 0, 0⟩, 10), h)
def ansV (x : Int × Msg × Int) : Value := .agg #[.int .i64 x.1, .int .i64 x.2.1.dev, .int .i64 x.2.1.run, .int .i64 x.2.1.num, .int .i64 x.2.1.key, .int .i64 x.2.2]
def PlayOut (B : Nat) (cs : List Ins) (m : Nat) (h' : Her Pr) (w0 : World) (H : Nat) (F : Nat → Prop) (x : Int × Msg × Int) (w : World) (e : Ending) (w' : World) : Prop :=
  e = .returned (ansV x) ∧ KS B cs (m + 1) h' w0 H F w' ∧ ∀ k, F k → w'.heap[k]? = w.heap[k]?
/-- The blocks that a step makes ahead of the call. -/
structure PlayIn (B : Nat) (cs : List Ins) (m : Nat) (h : Her Pr) (w0 : World) (H : Nat) (F : Nat → Prop) (w : World) (k a b : Int) (W : World) : Prop where
  ks : KS B cs m h w0 H (fun x => F x ∨ (w.heap.size ≤ x ∧ x < w.heap.size + 3)) W
  op : W.heap[w.heap.size]? = some (.cells #[.int .i64 k, .int .i64 a, .int .i64 b] 40 (0, 0))
  res : W.heap[w.heap.size + 1]? = some (.cells #[.int .i64 0, .int .i64 0, .int .i64 0, .int .i64 0, .int .i64 0, .int .i64 0] 33 (0, 0))
  var : W.heap[w.heap.size + 1 + 1]? = some (.cells #[.int .i64 0, .int .i64 0, .int .i64 0, .int .i64 0, .int .i64 0, .int .i64 10] 33 (0, 0))
  old : ∀ x, F x → W.heap[x]? = w.heap[x]?
  b0 : B ≤ w.heap.size
theorem kp_in {B : Nat} {cs : List Ins} {m : Nat} {h : Her Pr} {w0 w : World} {H : Nat} {F : Nat → Prop} (g : KS B cs m h w0 H F w) (k a b : Int) : PlayIn B cs m h w0 H F w k a b (((w.alloc (.cells #[.int .i64 k, .int .i64 a, .int .i64 b] 40)).alloc (.cells #[.int .i64 0, .int .i64 0, .int .i64 0, .int .i64 0, .int .i64 0, .int .i64 0] 33)).alloc (.cells #[.int .i64 0, .int .i64 0, .int .i64 0, .int .i64 0, .int .i64 0, .int .i64 10] 33)) := by
  have hb : Below w.heap.size w (((w.alloc (.cells #[.int .i64 k, .int .i64 a, .int .i64 b] 40)).alloc (.cells #[.int .i64 0, .int .i64 0, .int .i64 0, .int .i64 0, .int .i64 0, .int .i64 0] 33)).alloc (.cells #[.int .i64 0, .int .i64 0, .int .i64 0, .int .i64 0, .int .i64 0, .int .i64 10] 33)) := (((Below.refl _ _).alloc (Nat.le_refl _) _).alloc (by simp) _).alloc (by simp; omega) _
  refine ⟨(g.more hb).less fun x hx => ?_, ?_, ?_, ?_, fun x hx => hb.block x (g.lt hx), g.B⟩
  · rcases hx with hx | ⟨h1, h2⟩
    · exact .inl hx
    · exact .inr ⟨h1, by simp; omega⟩
  · rw [Below.heap_alloc _ _ _ (by simp; omega), Below.heap_alloc _ _ _ (by simp)]
    exact heap_alloc_new _ _
  · rw [Below.heap_alloc _ _ _ (by simp)]
    exact heap_alloc2 _ _ _
  · have e : w.heap.size + 1 + 1 = ((w.alloc (.cells #[.int .i64 k, .int .i64 a, .int .i64 b] 40)).alloc (.cells #[.int .i64 0, .int .i64 0, .int .i64 0, .int .i64 0, .int .i64 0, .int .i64 0] 33)).heap.size := by simp
    rw [e]
    exact heap_alloc_new _ _
theorem PlayIn.after {B : Nat} {cs : List Ins} {m m' : Nat} {h h' : Her Pr} {w0 w : World} {H : Nat} {F : Nat → Prop} {k a b : Int} {W w1 : World} (p : PlayIn B cs m h w0 H F w k a b W) (hk : KS B cs m' h' w0 H (fun x => F x ∨ (w.heap.size ≤ x ∧ x < w.heap.size + 3)) w1) (hs : ∀ x, (F x ∨ (w.heap.size ≤ x ∧ x < w.heap.size + 3)) → w1.heap[x]? = W.heap[x]?) : PlayIn B cs m' h' w0 H F w k a b w1 :=
  ⟨hk, (hs _ (.inr ⟨Nat.le_refl _, by omega⟩)).trans p.op, (hs _ (.inr ⟨by omega, by omega⟩)).trans p.res, (hs _ (.inr ⟨by omega, by omega⟩)).trans p.var, fun x hx => (hs x (.inl hx)).trans (p.old x hx), p.b0⟩
theorem PlayIn.out {B : Nat} {cs : List Ins} {m : Nat} {h : Her Pr} {w0 w : World} {H : Nat} {F : Nat → Prop} {k a b : Int} {W w' : World} (p : PlayIn B cs m h w0 H F w k a b W) (hf : Fr (fun x => w.heap.size ≤ x ∧ x < w.heap.size + 3) W w') (hF : ∀ x, F x → x < w.heap.size) : KS B cs m h w0 H F w' ∧ ∀ x, F x → w'.heap[x]? = w.heap[x]? :=
  ⟨(p.ks.fr hf fun x hx _ => ⟨.inr hx, by have := p.b0; omega⟩).less fun x hx => .inl (.inl hx), fun x hx => (hf.block x (p.ks.lt (.inl hx)) fun h => by have := hF x hx; omega).trans (p.old x hx)⟩
/-- All six cells of a block are written. -/
theorem set6 {w : World} {R : Nat} {S : Nat → Prop} {x0 x1 x2 x3 x4 x5 a b c d e f : Value} {t : TypeId} (h : w.heap[R]? = some (.cells #[x0, x1, x2, x3, x4, x5] t (0, 0))) (hS : S R) :
    ((((((w.setCell ⟨R, 0, none⟩ a).setCell ⟨R, 1, none⟩ b).setCell ⟨R, 2, none⟩ c).setCell ⟨R, 3, none⟩ d).setCell ⟨R, 4, none⟩ e).setCell ⟨R, 5, none⟩ f).heap[R]? = some (.cells #[a, b, c, d, e, f] t (0, 0)) ∧ Fr S w ((((((w.setCell ⟨R, 0, none⟩ a).setCell ⟨R, 1, none⟩ b).setCell ⟨R, 2, none⟩ c).setCell ⟨R, 3, none⟩ d).setCell ⟨R, 4, none⟩ e).setCell ⟨R, 5, none⟩ f) := by
  constructor
  · rw [heap_setCell_self f (heap_setCell_self e (heap_setCell_self d (heap_setCell_self c (heap_setCell_self b (heap_setCell_self a h)))))]
    rfl
  · exact (((((((Fr.refl S w).setCell ⟨R, 0, none⟩ (.inl hS) a).setCell ⟨R, 1, none⟩ (.inl hS) b).setCell ⟨R, 2, none⟩ (.inl hS) c).setCell ⟨R, 3, none⟩ (.inl hS) d).setCell ⟨R, 4, none⟩ (.inl hS) e).setCell ⟨R, 5, none⟩ (.inl hS) f)
theorem cells_of6 {w : World} {R : Nat} {a b c d e f : Value} {t : TypeId} (h : w.heap[R]? = some (.cells #[a, b, c, d, e, f] t (0, 0))) : (w.cell? ⟨R, 0, none⟩ = some a ∧ w.cell? ⟨R, 1, none⟩ = some b ∧ w.cell? ⟨R, 2, none⟩ = some c ∧ w.cell? ⟨R, 3, none⟩ = some d ∧ w.cell? ⟨R, 4, none⟩ = some e ∧ w.cell? ⟨R, 5, none⟩ = some f) ∧ (w.frozen? ⟨R, 0, none⟩ = false ∧ w.frozen? ⟨R, 1, none⟩ = false ∧ w.frozen? ⟨R, 2, none⟩ = false ∧ w.frozen? ⟨R, 3, none⟩ = false ∧ w.frozen? ⟨R, 4, none⟩ = false ∧ w.frozen? ⟨R, 5, none⟩ = false) ∧ R < w.heap.size :=
  ⟨⟨(cell_of_heap h).trans rfl, (cell_of_heap h).trans rfl, (cell_of_heap h).trans rfl, (cell_of_heap h).trans rfl, (cell_of_heap h).trans rfl, (cell_of_heap h).trans rfl⟩, ⟨free_of_heap h, free_of_heap h, free_of_heap h, free_of_heap h, free_of_heap h, free_of_heap h⟩, heap_lt h⟩
set_option maxRecDepth 20000 in
set_option maxHeartbeats 4000000 in
theorem kp_trigger {B : Nat} {cs : List Ins} {m : Nat} {h : Her Pr} {w0 : World} {H : Nat} {F : Nat → Prop} (a b : Int) (w : World) (g : KS B cs m h w0 H F w) (hm : m ≤ 1500000) :
    Calls Try.prog 8 #[.pointer (some ⟨H, 0, none⟩), .agg #[.int .i64 1, .int .i64 a, .int .i64 b]] w (PlayOut B cs m (trigH (machE cs) h a).2.2 w0 H F ((trigH (machE cs) h a).1, ⟨0, 0, 0, 0⟩, (trigH (machE cs) h a).2.1) w) := by
  have HF : Hid (∀ x, F x → x < w.heap.size) := fun x hx => g.lt hx
  have HP := kp_in g 1 a b
  have HC : Hid (Calls Try.prog 12 #[.pointer (some ⟨H, 0, none⟩), .int .i64 a] (((w.alloc (.cells #[.int .i64 1, .int .i64 a, .int .i64 b] 40)).alloc (.cells #[.int .i64 0, .int .i64 0, .int .i64 0, .int .i64 0, .int .i64 0, .int .i64 0] 33)).alloc (.cells #[.int .i64 0, .int .i64 0, .int .i64 0, .int .i64 0, .int .i64 0, .int .i64 10] 33)) fun e w' => e = .returned (.tuple #[.int .i64 (trigH (machE cs) h a).1, .int .i64 (trigH (machE cs) h a).2.1]) ∧ PlayIn B cs (m + 1) (trigH (machE cs) h a).2.2 w0 H F w 1 a b w') :=
    (ks_Trigger a _ HP.ks (by omega)).mono fun e w' hh => ⟨hh.1, HP.after hh.2.1 hh.2.2⟩
  clear HP g
  generalize trigH (machE cs) h a = T at *
  go_enter Try.func8, Try.ntmps8
  go_wp2_with fail
  refine HC.out.mono ?_
  rintro e w1 ⟨rfl, p1⟩
  have HP1 : Hid (PlayIn B cs (m + 1) T.2.2 w0 H F w 1 a b w1) := p1
  obtain ⟨⟨r0, r1, r2, r3, r4, r5⟩, ⟨f0, f1, f2, f3, f4, f5⟩, hR⟩ := cells_of6 p1.res
  obtain ⟨⟨v0, v1, v2, v3, v4, v5⟩, ⟨g0, g1, g2, g3, g4, g5⟩, hV⟩ := cells_of6 p1.var
  clear p1 HC
  go_upto_region 18 with fail
  obtain ⟨V, hV⟩ : ∃ V, V = (w1.setCell ⟨w.heap.size + 1 + 1, 0, none⟩ (.int .i64 T.1)).setCell ⟨w.heap.size + 1 + 1, 5, none⟩ (.int .i64 T.2.1) := ⟨_, rfl⟩
  rw [← hV]
  have HVF : Hid (Fr (fun x => w.heap.size ≤ x ∧ x < w.heap.size + 3) w1 V ∧ V.heap[w.heap.size + 1]? = some (.cells #[.int .i64 0, .int .i64 0, .int .i64 0, .int .i64 0, .int .i64 0, .int .i64 0] 33 (0, 0)) ∧ V.heap[w.heap.size + 1 + 1]? = some (.cells #[.int .i64 T.1, .int .i64 0, .int .i64 0, .int .i64 0, .int .i64 0, .int .i64 T.2.1] 33 (0, 0))) := by
    rw [hV]
    refine ⟨Fr.setCell (Fr.setCell (Fr.refl _ _) _ (.inl ⟨by show w.heap.size ≤ w.heap.size + 1 + 1; omega, by show w.heap.size + 1 + 1 < w.heap.size + 3; omega⟩) _) _ (.inl ⟨by show w.heap.size ≤ w.heap.size + 1 + 1; omega, by show w.heap.size + 1 + 1 < w.heap.size + 3; omega⟩) _, ?_, ?_⟩
    · rw [Below.heap_setCell _ _ _ _ (by show w.heap.size + 1 ≠ w.heap.size + 1 + 1; omega), Below.heap_setCell _ _ _ _ (by show w.heap.size + 1 ≠ w.heap.size + 1 + 1; omega)]
      exact HP1.out.res
    · rw [heap_setCell_self _ (heap_setCell_self _ HP1.out.var)]
      rfl
  clear hV r0 r1 r2 r3 r4 r5 f0 f1 f2 f3 f4 f5 v0 v1 v2 v3 v4 v5 g0 g1 g2 g3 g4 g5 hR
  obtain ⟨⟨r0, r1, r2, r3, r4, r5⟩, ⟨f0, f1, f2, f3, f4, f5⟩, hR⟩ := cells_of6 HVF.out.2.1
  obtain ⟨⟨v0, v1, v2, v3, v4, v5⟩, _, hV⟩ := cells_of6 HVF.out.2.2
  go_wp2_with fail
  have h6 := set6 (S := (fun x => w.heap.size ≤ x ∧ x < w.heap.size + 3)) (a := .int .i64 T.1) (b := .int .i64 0) (c := .int .i64 0) (d := .int .i64 0) (e := .int .i64 0) (f := .int .i64 T.2.1) HVF.out.2.1 ⟨by omega, by omega⟩
  generalize (((((V.setCell ⟨w.heap.size + 1, 0, none⟩ (.int .i64 T.1)).setCell ⟨w.heap.size + 1, 1, none⟩ (.int .i64 0)).setCell ⟨w.heap.size + 1, 2, none⟩ (.int .i64 0)).setCell ⟨w.heap.size + 1, 3, none⟩ (.int .i64 0)).setCell ⟨w.heap.size + 1, 4, none⟩ (.int .i64 0)).setCell ⟨w.heap.size + 1, 5, none⟩ (.int .i64 T.2.1) = U at h6 ⊢
  obtain ⟨⟨u0, u1, u2, u3, u4, u5⟩, _, hU⟩ := cells_of6 h6.1
  refine bodyPost_ret (v := ansV (T.1, ⟨0, 0, 0, 0⟩, T.2.1)) (by simp [results, Try.results8, go_sem, ansV, u0, u1, u2, u3, u4, u5]) rfl ⟨rfl, HP1.out.out (HVF.out.1.trans (h6.2.mono fun _ _ hx => hx)) HF.out⟩
set_option maxRecDepth 20000 in
set_option maxHeartbeats 4000000 in
theorem kp_tick {B : Nat} {cs : List Ins} {m : Nat} {h : Her Pr} {w0 : World} {H : Nat} {F : Nat → Prop} (a b : Int) (w : World) (g : KS B cs m h w0 H F w) (hm : m ≤ 1500000) :
    Calls Try.prog 8 #[.pointer (some ⟨H, 0, none⟩), .agg #[.int .i64 2, .int .i64 a, .int .i64 b]] w (PlayOut B cs m (tickH (machE cs) h a).2 w0 H F (0, ⟨0, 0, 0, 0⟩, (tickH (machE cs) h a).1) w) := by
  have HF : Hid (∀ x, F x → x < w.heap.size) := fun x hx => g.lt hx
  have HP := kp_in g 2 a b
  have HC : Hid (Calls Try.prog 23 #[.pointer (some ⟨H, 0, none⟩), .int .i64 a] (((w.alloc (.cells #[.int .i64 2, .int .i64 a, .int .i64 b] 40)).alloc (.cells #[.int .i64 0, .int .i64 0, .int .i64 0, .int .i64 0, .int .i64 0, .int .i64 0] 33)).alloc (.cells #[.int .i64 0, .int .i64 0, .int .i64 0, .int .i64 0, .int .i64 0, .int .i64 10] 33)) fun e w' => e = .returned (.int .i64 (tickH (machE cs) h a).1) ∧ PlayIn B cs (m + 1) (tickH (machE cs) h a).2 w0 H F w 2 a b w') :=
    (ks_Tick a _ HP.ks (by omega)).mono fun e w' hh => ⟨hh.1, HP.after hh.2.1 hh.2.2⟩
  clear HP g
  generalize tickH (machE cs) h a = T at *
  go_enter Try.func8, Try.ntmps8
  go_wp2_with fail
  refine HC.out.mono ?_
  rintro e w1 ⟨rfl, p1⟩
  have HP1 : Hid (PlayIn B cs (m + 1) T.2 w0 H F w 2 a b w1) := p1
  obtain ⟨⟨r0, r1, r2, r3, r4, r5⟩, ⟨f0, f1, f2, f3, f4, f5⟩, hR⟩ := cells_of6 p1.res
  obtain ⟨⟨v0, v1, v2, v3, v4, v5⟩, ⟨g0, g1, g2, g3, g4, g5⟩, hV⟩ := cells_of6 p1.var
  clear p1 HC
  go_upto_region 18 with fail
  obtain ⟨V, hV⟩ : ∃ V, V = w1.setCell ⟨w.heap.size + 1 + 1, 5, none⟩ (.int .i64 T.1) := ⟨_, rfl⟩
  rw [← hV]
  have HVF : Hid (Fr (fun x => w.heap.size ≤ x ∧ x < w.heap.size + 3) w1 V ∧ V.heap[w.heap.size + 1]? = some (.cells #[.int .i64 0, .int .i64 0, .int .i64 0, .int .i64 0, .int .i64 0, .int .i64 0] 33 (0, 0)) ∧ V.heap[w.heap.size + 1 + 1]? = some (.cells #[.int .i64 0, .int .i64 0, .int .i64 0, .int .i64 0, .int .i64 0, .int .i64 T.1] 33 (0, 0))) := by
    rw [hV]
    refine ⟨Fr.setCell (Fr.refl _ _) _ (.inl ⟨by show w.heap.size ≤ w.heap.size + 1 + 1; omega, by show w.heap.size + 1 + 1 < w.heap.size + 3; omega⟩) _, ?_, ?_⟩
    · rw [Below.heap_setCell _ _ _ _ (by show w.heap.size + 1 ≠ w.heap.size + 1 + 1; omega)]
      exact HP1.out.res
    · rw [heap_setCell_self _ HP1.out.var]
      rfl
  clear hV r0 r1 r2 r3 r4 r5 f0 f1 f2 f3 f4 f5 v0 v1 v2 v3 v4 v5 g0 g1 g2 g3 g4 g5 hR
  obtain ⟨⟨r0, r1, r2, r3, r4, r5⟩, ⟨f0, f1, f2, f3, f4, f5⟩, hR⟩ := cells_of6 HVF.out.2.1
  obtain ⟨⟨v0, v1, v2, v3, v4, v5⟩, _, hV⟩ := cells_of6 HVF.out.2.2
  go_wp2_with fail
  have h6 := set6 (S := (fun x => w.heap.size ≤ x ∧ x < w.heap.size + 3)) (a := (.int .i64 0)) (b := (.int .i64 0)) (c := (.int .i64 0)) (d := (.int .i64 0)) (e := (.int .i64 0)) (f := (.int .i64 T.1)) HVF.out.2.1 ⟨by omega, by omega⟩
  generalize (((((V.setCell ⟨w.heap.size + 1, 0, none⟩ (.int .i64 0)).setCell ⟨w.heap.size + 1, 1, none⟩ (.int .i64 0)).setCell ⟨w.heap.size + 1, 2, none⟩ (.int .i64 0)).setCell ⟨w.heap.size + 1, 3, none⟩ (.int .i64 0)).setCell ⟨w.heap.size + 1, 4, none⟩ (.int .i64 0)).setCell ⟨w.heap.size + 1, 5, none⟩ (.int .i64 T.1) = U at h6 ⊢
  obtain ⟨⟨u0, u1, u2, u3, u4, u5⟩, _, hU⟩ := cells_of6 h6.1
  refine bodyPost_ret (v := ansV (0, ⟨0, 0, 0, 0⟩, T.1)) (by simp [results, Try.results8, go_sem, ansV, u0, u1, u2, u3, u4, u5]) rfl ⟨rfl, HP1.out.out (HVF.out.1.trans (h6.2.mono fun _ _ hx => hx)) HF.out⟩
set_option maxRecDepth 20000 in
set_option maxHeartbeats 4000000 in
theorem kp_ack {B : Nat} {cs : List Ins} {m : Nat} {h : Her Pr} {w0 : World} {H : Nat} {F : Nat → Prop} (a b : Int) (w : World) (g : KS B cs m h w0 H F w) (hm : m ≤ 1500000) :
    Calls Try.prog 8 #[.pointer (some ⟨H, 0, none⟩), .agg #[.int .i64 3, .int .i64 a, .int .i64 b]] w (PlayOut B cs m (ackH (machE cs) h a b).2 w0 H F (0, ⟨0, 0, 0, 0⟩, (ackH (machE cs) h a b).1) w) := by
  have HF : Hid (∀ x, F x → x < w.heap.size) := fun x hx => g.lt hx
  have HP := kp_in g 3 a b
  have HC : Hid (Calls Try.prog 24 #[.pointer (some ⟨H, 0, none⟩), .int .i64 a, .int .i64 b] (((w.alloc (.cells #[.int .i64 3, .int .i64 a, .int .i64 b] 40)).alloc (.cells #[.int .i64 0, .int .i64 0, .int .i64 0, .int .i64 0, .int .i64 0, .int .i64 0] 33)).alloc (.cells #[.int .i64 0, .int .i64 0, .int .i64 0, .int .i64 0, .int .i64 0, .int .i64 10] 33)) fun e w' => e = .returned (.int .i64 (ackH (machE cs) h a b).1) ∧ PlayIn B cs (m + 1) (ackH (machE cs) h a b).2 w0 H F w 3 a b w') :=
    (ks_Ack a b _ HP.ks (by omega)).mono fun e w' hh => ⟨hh.1, HP.after hh.2.1 hh.2.2⟩
  clear HP g
  generalize ackH (machE cs) h a b = T at *
  go_enter Try.func8, Try.ntmps8
  go_wp2_with fail
  refine HC.out.mono ?_
  rintro e w1 ⟨rfl, p1⟩
  have HP1 : Hid (PlayIn B cs (m + 1) T.2 w0 H F w 3 a b w1) := p1
  obtain ⟨⟨r0, r1, r2, r3, r4, r5⟩, ⟨f0, f1, f2, f3, f4, f5⟩, hR⟩ := cells_of6 p1.res
  obtain ⟨⟨v0, v1, v2, v3, v4, v5⟩, ⟨g0, g1, g2, g3, g4, g5⟩, hV⟩ := cells_of6 p1.var
  clear p1 HC
  go_upto_region 18 with fail
  obtain ⟨V, hV⟩ : ∃ V, V = w1.setCell ⟨w.heap.size + 1 + 1, 5, none⟩ (.int .i64 T.1) := ⟨_, rfl⟩
  rw [← hV]
  have HVF : Hid (Fr (fun x => w.heap.size ≤ x ∧ x < w.heap.size + 3) w1 V ∧ V.heap[w.heap.size + 1]? = some (.cells #[.int .i64 0, .int .i64 0, .int .i64 0, .int .i64 0, .int .i64 0, .int .i64 0] 33 (0, 0)) ∧ V.heap[w.heap.size + 1 + 1]? = some (.cells #[.int .i64 0, .int .i64 0, .int .i64 0, .int .i64 0, .int .i64 0, .int .i64 T.1] 33 (0, 0))) := by
    rw [hV]
    refine ⟨Fr.setCell (Fr.refl _ _) _ (.inl ⟨by show w.heap.size ≤ w.heap.size + 1 + 1; omega, by show w.heap.size + 1 + 1 < w.heap.size + 3; omega⟩) _, ?_, ?_⟩
    · rw [Below.heap_setCell _ _ _ _ (by show w.heap.size + 1 ≠ w.heap.size + 1 + 1; omega)]
      exact HP1.out.res
    · rw [heap_setCell_self _ HP1.out.var]
      rfl
  clear hV r0 r1 r2 r3 r4 r5 f0 f1 f2 f3 f4 f5 v0 v1 v2 v3 v4 v5 g0 g1 g2 g3 g4 g5 hR
  obtain ⟨⟨r0, r1, r2, r3, r4, r5⟩, ⟨f0, f1, f2, f3, f4, f5⟩, hR⟩ := cells_of6 HVF.out.2.1
  obtain ⟨⟨v0, v1, v2, v3, v4, v5⟩, _, hV⟩ := cells_of6 HVF.out.2.2
  go_wp2_with fail
  have h6 := set6 (S := (fun x => w.heap.size ≤ x ∧ x < w.heap.size + 3)) (a := (.int .i64 0)) (b := (.int .i64 0)) (c := (.int .i64 0)) (d := (.int .i64 0)) (e := (.int .i64 0)) (f := (.int .i64 T.1)) HVF.out.2.1 ⟨by omega, by omega⟩
  generalize (((((V.setCell ⟨w.heap.size + 1, 0, none⟩ (.int .i64 0)).setCell ⟨w.heap.size + 1, 1, none⟩ (.int .i64 0)).setCell ⟨w.heap.size + 1, 2, none⟩ (.int .i64 0)).setCell ⟨w.heap.size + 1, 3, none⟩ (.int .i64 0)).setCell ⟨w.heap.size + 1, 4, none⟩ (.int .i64 0)).setCell ⟨w.heap.size + 1, 5, none⟩ (.int .i64 T.1) = U at h6 ⊢
  obtain ⟨⟨u0, u1, u2, u3, u4, u5⟩, _, hU⟩ := cells_of6 h6.1
  refine bodyPost_ret (v := ansV (0, ⟨0, 0, 0, 0⟩, T.1)) (by simp [results, Try.results8, go_sem, ansV, u0, u1, u2, u3, u4, u5]) rfl ⟨rfl, HP1.out.out (HVF.out.1.trans (h6.2.mono fun _ _ hx => hx)) HF.out⟩
set_option maxRecDepth 20000 in
set_option maxHeartbeats 4000000 in
theorem kp_cancel {B : Nat} {cs : List Ins} {m : Nat} {h : Her Pr} {w0 : World} {H : Nat} {F : Nat → Prop} (a b : Int) (w : World) (g : KS B cs m h w0 H F w) (hm : m ≤ 1500000) :
    Calls Try.prog 8 #[.pointer (some ⟨H, 0, none⟩), .agg #[.int .i64 4, .int .i64 a, .int .i64 b]] w (PlayOut B cs m (cancelH (machE cs) h a).2 w0 H F (0, ⟨0, 0, 0, 0⟩, (cancelH (machE cs) h a).1) w) := by
  have HF : Hid (∀ x, F x → x < w.heap.size) := fun x hx => g.lt hx
  have HP := kp_in g 4 a b
  have HC : Hid (Calls Try.prog 25 #[.pointer (some ⟨H, 0, none⟩), .int .i64 a] (((w.alloc (.cells #[.int .i64 4, .int .i64 a, .int .i64 b] 40)).alloc (.cells #[.int .i64 0, .int .i64 0, .int .i64 0, .int .i64 0, .int .i64 0, .int .i64 0] 33)).alloc (.cells #[.int .i64 0, .int .i64 0, .int .i64 0, .int .i64 0, .int .i64 0, .int .i64 10] 33)) fun e w' => e = .returned (.int .i64 (cancelH (machE cs) h a).1) ∧ PlayIn B cs (m + 1) (cancelH (machE cs) h a).2 w0 H F w 4 a b w') :=
    (ks_Cancel a _ HP.ks (by omega)).mono fun e w' hh => ⟨hh.1, HP.after hh.2.1 hh.2.2⟩
  clear HP g
  generalize cancelH (machE cs) h a = T at *
  go_enter Try.func8, Try.ntmps8
  go_wp2_with fail
  refine HC.out.mono ?_
  rintro e w1 ⟨rfl, p1⟩
  have HP1 : Hid (PlayIn B cs (m + 1) T.2 w0 H F w 4 a b w1) := p1
  obtain ⟨⟨r0, r1, r2, r3, r4, r5⟩, ⟨f0, f1, f2, f3, f4, f5⟩, hR⟩ := cells_of6 p1.res
  obtain ⟨⟨v0, v1, v2, v3, v4, v5⟩, ⟨g0, g1, g2, g3, g4, g5⟩, hV⟩ := cells_of6 p1.var
  clear p1 HC
  go_upto_region 18 with fail
  obtain ⟨V, hV⟩ : ∃ V, V = w1.setCell ⟨w.heap.size + 1 + 1, 5, none⟩ (.int .i64 T.1) := ⟨_, rfl⟩
  rw [← hV]
  have HVF : Hid (Fr (fun x => w.heap.size ≤ x ∧ x < w.heap.size + 3) w1 V ∧ V.heap[w.heap.size + 1]? = some (.cells #[.int .i64 0, .int .i64 0, .int .i64 0, .int .i64 0, .int .i64 0, .int .i64 0] 33 (0, 0)) ∧ V.heap[w.heap.size + 1 + 1]? = some (.cells #[.int .i64 0, .int .i64 0, .int .i64 0, .int .i64 0, .int .i64 0, .int .i64 T.1] 33 (0, 0))) := by
    rw [hV]
    refine ⟨Fr.setCell (Fr.refl _ _) _ (.inl ⟨by show w.heap.size ≤ w.heap.size + 1 + 1; omega, by show w.heap.size + 1 + 1 < w.heap.size + 3; omega⟩) _, ?_, ?_⟩
    · rw [Below.heap_setCell _ _ _ _ (by show w.heap.size + 1 ≠ w.heap.size + 1 + 1; omega)]
      exact HP1.out.res
    · rw [heap_setCell_self _ HP1.out.var]
      rfl
  clear hV r0 r1 r2 r3 r4 r5 f0 f1 f2 f3 f4 f5 v0 v1 v2 v3 v4 v5 g0 g1 g2 g3 g4 g5 hR
  obtain ⟨⟨r0, r1, r2, r3, r4, r5⟩, ⟨f0, f1, f2, f3, f4, f5⟩, hR⟩ := cells_of6 HVF.out.2.1
  obtain ⟨⟨v0, v1, v2, v3, v4, v5⟩, _, hV⟩ := cells_of6 HVF.out.2.2
  go_wp2_with fail
  have h6 := set6 (S := (fun x => w.heap.size ≤ x ∧ x < w.heap.size + 3)) (a := (.int .i64 0)) (b := (.int .i64 0)) (c := (.int .i64 0)) (d := (.int .i64 0)) (e := (.int .i64 0)) (f := (.int .i64 T.1)) HVF.out.2.1 ⟨by omega, by omega⟩
  generalize (((((V.setCell ⟨w.heap.size + 1, 0, none⟩ (.int .i64 0)).setCell ⟨w.heap.size + 1, 1, none⟩ (.int .i64 0)).setCell ⟨w.heap.size + 1, 2, none⟩ (.int .i64 0)).setCell ⟨w.heap.size + 1, 3, none⟩ (.int .i64 0)).setCell ⟨w.heap.size + 1, 4, none⟩ (.int .i64 0)).setCell ⟨w.heap.size + 1, 5, none⟩ (.int .i64 T.1) = U at h6 ⊢
  obtain ⟨⟨u0, u1, u2, u3, u4, u5⟩, _, hU⟩ := cells_of6 h6.1
  refine bodyPost_ret (v := ansV (0, ⟨0, 0, 0, 0⟩, T.1)) (by simp [results, Try.results8, go_sem, ansV, u0, u1, u2, u3, u4, u5]) rfl ⟨rfl, HP1.out.out (HVF.out.1.trans (h6.2.mono fun _ _ hx => hx)) HF.out⟩
set_option maxRecDepth 20000 in
set_option maxHeartbeats 4000000 in
theorem kp_drain {B : Nat} {cs : List Ins} {m : Nat} {h : Her Pr} {w0 : World} {H : Nat} {F : Nat → Prop} (a b : Int) (w : World) (g : KS B cs m h w0 H F w) (hm : m ≤ 1500000) :
    Calls Try.prog 8 #[.pointer (some ⟨H, 0, none⟩), .agg #[.int .i64 5, .int .i64 a, .int .i64 b]] w (PlayOut B cs m (drainH h a).2.2 w0 H F (0, (drainH h a).1, (drainH h a).2.1) w) := by
  have HF : Hid (∀ x, F x → x < w.heap.size) := fun x hx => g.lt hx
  have HP := kp_in g 5 a b
  have HC : Hid (Calls Try.prog 26 #[.pointer (some ⟨H, 0, none⟩), .int .i64 a] (((w.alloc (.cells #[.int .i64 5, .int .i64 a, .int .i64 b] 40)).alloc (.cells #[.int .i64 0, .int .i64 0, .int .i64 0, .int .i64 0, .int .i64 0, .int .i64 0] 33)).alloc (.cells #[.int .i64 0, .int .i64 0, .int .i64 0, .int .i64 0, .int .i64 0, .int .i64 10] 33)) fun e w' => e = .returned (.tuple #[.agg #[.int .i64 (drainH h a).1.dev, .int .i64 (drainH h a).1.run, .int .i64 (drainH h a).1.num, .int .i64 (drainH h a).1.key], .int .i64 (drainH h a).2.1]) ∧ PlayIn B cs (m + 1) (drainH h a).2.2 w0 H F w 5 a b w') :=
    (ks_Drain a _ HP.ks (by omega)).mono fun e w' hh => ⟨hh.1, HP.after hh.2.1 hh.2.2⟩
  clear HP g
  generalize drainH h a = T at *
  go_enter Try.func8, Try.ntmps8
  go_wp2_with fail
  refine HC.out.mono ?_
  rintro e w1 ⟨rfl, p1⟩
  have HP1 : Hid (PlayIn B cs (m + 1) T.2.2 w0 H F w 5 a b w1) := p1
  obtain ⟨⟨r0, r1, r2, r3, r4, r5⟩, ⟨f0, f1, f2, f3, f4, f5⟩, hR⟩ := cells_of6 p1.res
  obtain ⟨⟨v0, v1, v2, v3, v4, v5⟩, ⟨g0, g1, g2, g3, g4, g5⟩, hV⟩ := cells_of6 p1.var
  clear p1 HC
  go_upto_region 18 with fail
  obtain ⟨V, hV⟩ : ∃ V, V = (((((w1.setCell ⟨w.heap.size + 1 + 1, 1, none⟩ (.int .i64 T.1.dev)).setCell ⟨w.heap.size + 1 + 1, 2, none⟩ (.int .i64 T.1.run)).setCell ⟨w.heap.size + 1 + 1, 3, none⟩ (.int .i64 T.1.num)).setCell ⟨w.heap.size + 1 + 1, 4, none⟩ (.int .i64 T.1.key)).setCell ⟨w.heap.size + 1 + 1, 5, none⟩ (.int .i64 T.2.1)).alloc (.cells #[.int .i64 T.1.dev, .int .i64 T.1.run, .int .i64 T.1.num, .int .i64 T.1.key] 30) := ⟨_, rfl⟩
  rw [← hV]
  have HVF : Hid (Fr (fun x => w.heap.size ≤ x ∧ x < w.heap.size + 3) w1 V ∧ V.heap[w.heap.size + 1]? = some (.cells #[.int .i64 0, .int .i64 0, .int .i64 0, .int .i64 0, .int .i64 0, .int .i64 0] 33 (0, 0)) ∧ V.heap[w.heap.size + 1 + 1]? = some (.cells #[.int .i64 0, .int .i64 T.1.dev, .int .i64 T.1.run, .int .i64 T.1.num, .int .i64 T.1.key, .int .i64 T.2.1] 33 (0, 0))) := by
    rw [hV]
    have hi : (fun x => w.heap.size ≤ x ∧ x < w.heap.size + 3) (w.heap.size + 1 + 1) := ⟨by show w.heap.size ≤ w.heap.size + 1 + 1; omega, by show w.heap.size + 1 + 1 < w.heap.size + 3; omega⟩
    refine ⟨Fr.alloc (Fr.setCell (Fr.setCell (Fr.setCell (Fr.setCell (Fr.setCell (Fr.refl _ _) _ (.inl hi) _) _ (.inl hi) _) _ (.inl hi) _) _ (.inl hi) _) _ (.inl hi) _) _, ?_, ?_⟩
    · rw [Below.heap_alloc _ _ _ (by simp only [size_setCell]; exact heap_lt HP1.out.res), Below.heap_setCell _ _ _ _ (by show w.heap.size + 1 ≠ w.heap.size + 1 + 1; omega), Below.heap_setCell _ _ _ _ (by show w.heap.size + 1 ≠ w.heap.size + 1 + 1; omega), Below.heap_setCell _ _ _ _ (by show w.heap.size + 1 ≠ w.heap.size + 1 + 1; omega), Below.heap_setCell _ _ _ _ (by show w.heap.size + 1 ≠ w.heap.size + 1 + 1; omega), Below.heap_setCell _ _ _ _ (by show w.heap.size + 1 ≠ w.heap.size + 1 + 1; omega)]
      exact HP1.out.res
    · rw [Below.heap_alloc _ _ _ (by simp only [size_setCell]; exact heap_lt HP1.out.var), heap_setCell_self _ (heap_setCell_self _ (heap_setCell_self _ (heap_setCell_self _ (heap_setCell_self _ HP1.out.var))))]
      rfl
  clear hV r0 r1 r2 r3 r4 r5 f0 f1 f2 f3 f4 f5 v0 v1 v2 v3 v4 v5 g0 g1 g2 g3 g4 g5 hR
  obtain ⟨⟨r0, r1, r2, r3, r4, r5⟩, ⟨f0, f1, f2, f3, f4, f5⟩, hR⟩ := cells_of6 HVF.out.2.1
  obtain ⟨⟨v0, v1, v2, v3, v4, v5⟩, _, hV⟩ := cells_of6 HVF.out.2.2
  go_wp2_with fail
  have h6 := set6 (S := (fun x => w.heap.size ≤ x ∧ x < w.heap.size + 3)) (a := (.int .i64 0)) (b := (.int .i64 T.1.dev)) (c := (.int .i64 T.1.run)) (d := (.int .i64 T.1.num)) (e := (.int .i64 T.1.key)) (f := (.int .i64 T.2.1)) HVF.out.2.1 ⟨by omega, by omega⟩
  generalize (((((V.setCell ⟨w.heap.size + 1, 0, none⟩ (.int .i64 0)).setCell ⟨w.heap.size + 1, 1, none⟩ (.int .i64 T.1.dev)).setCell ⟨w.heap.size + 1, 2, none⟩ (.int .i64 T.1.run)).setCell ⟨w.heap.size + 1, 3, none⟩ (.int .i64 T.1.num)).setCell ⟨w.heap.size + 1, 4, none⟩ (.int .i64 T.1.key)).setCell ⟨w.heap.size + 1, 5, none⟩ (.int .i64 T.2.1) = U at h6 ⊢
  obtain ⟨⟨u0, u1, u2, u3, u4, u5⟩, _, hU⟩ := cells_of6 h6.1
  refine bodyPost_ret (v := ansV (0, T.1, T.2.1)) (by simp [results, Try.results8, go_sem, ansV, u0, u1, u2, u3, u4, u5]) rfl ⟨rfl, HP1.out.out (HVF.out.1.trans (h6.2.mono fun _ _ hx => hx)) HF.out⟩
set_option maxRecDepth 20000 in
set_option maxHeartbeats 4000000 in
theorem kp_none {B : Nat} {cs : List Ins} {m : Nat} {h : Her Pr} {w0 : World} {H : Nat} {F : Nat → Prop} (k a b : Int) (w : World) (g : KS B cs m h w0 H F w) (hk : ¬ (1 ≤ k ∧ k ≤ 5)) :
    Calls Try.prog 8 #[.pointer (some ⟨H, 0, none⟩), .agg #[.int .i64 k, .int .i64 a, .int .i64 b]] w (PlayOut B cs m h w0 H F (0, ⟨0, 0, 0, 0⟩, 10) w) := by
  have HF : Hid (∀ x, F x → x < w.heap.size) := fun x hx => g.lt hx
  have hp := kp_in g k a b
  have HP1 : Hid (PlayIn B cs (m + 1) h w0 H F w k a b (((w.alloc (.cells #[.int .i64 k, .int .i64 a, .int .i64 b] 40)).alloc (.cells #[.int .i64 0, .int .i64 0, .int .i64 0, .int .i64 0, .int .i64 0, .int .i64 0] 33)).alloc (.cells #[.int .i64 0, .int .i64 0, .int .i64 0, .int .i64 0, .int .i64 0, .int .i64 10] 33))) := ⟨hp.ks.le (by omega), hp.op, hp.res, hp.var, hp.old, hp.b0⟩
  clear hp g
  have k1 : (k == 1) = false := by simp; omega
  have k2 : (k == 2) = false := by simp; omega
  have k3 : (k == 3) = false := by simp; omega
  have k4 : (k == 4) = false := by simp; omega
  have k5 : (k == 5) = false := by simp; omega
  go_enter Try.func8, Try.ntmps8
  go_upto_region 18 with fail
  obtain ⟨V, hV⟩ : ∃ V, V = (((w.alloc (.cells #[.int .i64 k, .int .i64 a, .int .i64 b] 40)).alloc (.cells #[.int .i64 0, .int .i64 0, .int .i64 0, .int .i64 0, .int .i64 0, .int .i64 0] 33)).alloc (.cells #[.int .i64 0, .int .i64 0, .int .i64 0, .int .i64 0, .int .i64 0, .int .i64 10] 33)) := ⟨_, rfl⟩
  rw [← hV] at HP1 ⊢
  have HVF : Hid (Fr (fun x => w.heap.size ≤ x ∧ x < w.heap.size + 3) V V ∧ V.heap[w.heap.size + 1]? = some (.cells #[.int .i64 0, .int .i64 0, .int .i64 0, .int .i64 0, .int .i64 0, .int .i64 0] 33 (0, 0)) ∧ V.heap[w.heap.size + 1 + 1]? = some (.cells #[.int .i64 0, .int .i64 0, .int .i64 0, .int .i64 0, .int .i64 0, .int .i64 10] 33 (0, 0))) := ⟨Fr.refl _ _, HP1.out.res, HP1.out.var⟩
  clear hV
  obtain ⟨⟨r0, r1, r2, r3, r4, r5⟩, ⟨f0, f1, f2, f3, f4, f5⟩, hR⟩ := cells_of6 HVF.out.2.1
  obtain ⟨⟨v0, v1, v2, v3, v4, v5⟩, _, hV⟩ := cells_of6 HVF.out.2.2
  go_wp2_with fail
  have h6 := set6 (S := (fun x => w.heap.size ≤ x ∧ x < w.heap.size + 3)) (a := (.int .i64 0)) (b := (.int .i64 0)) (c := (.int .i64 0)) (d := (.int .i64 0)) (e := (.int .i64 0)) (f := (.int .i64 10)) HVF.out.2.1 ⟨by omega, by omega⟩
  generalize (((((V.setCell ⟨w.heap.size + 1, 0, none⟩ (.int .i64 0)).setCell ⟨w.heap.size + 1, 1, none⟩ (.int .i64 0)).setCell ⟨w.heap.size + 1, 2, none⟩ (.int .i64 0)).setCell ⟨w.heap.size + 1, 3, none⟩ (.int .i64 0)).setCell ⟨w.heap.size + 1, 4, none⟩ (.int .i64 0)).setCell ⟨w.heap.size + 1, 5, none⟩ (.int .i64 10) = U at h6 ⊢
  obtain ⟨⟨u0, u1, u2, u3, u4, u5⟩, _, hU⟩ := cells_of6 h6.1
  refine bodyPost_ret (v := ansV (0, ⟨0, 0, 0, 0⟩, 10)) (by simp [results, Try.results8, go_sem, ansV, u0, u1, u2, u3, u4, u5]) rfl ⟨rfl, HP1.out.out (HVF.out.1.trans (h6.2.mono fun _ _ hx => hx)) HF.out⟩
/-- A step is played. -/
theorem c_play {B : Nat} {cs : List Ins} {m : Nat} {h : Her Pr} {w0 : World} {H : Nat} {F : Nat → Prop} (k a b : Int) (w : World) (g : KS B cs m h w0 H F w) (hm : m ≤ 1500000) :
    Calls Try.prog 8 #[.pointer (some ⟨H, 0, none⟩), .agg #[.int .i64 k, .int .i64 a, .int .i64 b]] w (PlayOut B cs m (playH cs h k a b).2 w0 H F (playH cs h k a b).1 w) := by
  unfold playH
  by_cases h1 : k = 1
  · rw [if_pos h1]
    subst h1
    exact kp_trigger a b w g hm
  rw [if_neg h1]
  by_cases h2 : k = 2
  · rw [if_pos h2]
    subst h2
    exact kp_tick a b w g hm
  rw [if_neg h2]
  by_cases h3 : k = 3
  · rw [if_pos h3]
    subst h3
    exact kp_ack a b w g hm
  rw [if_neg h3]
  by_cases h4 : k = 4
  · rw [if_pos h4]
    subst h4
    exact kp_cancel a b w g hm
  rw [if_neg h4]
  by_cases h5 : k = 5
  · rw [if_pos h5]
    subst h5
    exact kp_drain a b w g hm
  rw [if_neg h5]
  exact kp_none k a b w g (by omega)
end Go.Proofs.Ytmmmnghiegajmab
