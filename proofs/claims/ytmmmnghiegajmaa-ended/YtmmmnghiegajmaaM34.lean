import Derived.Test.YtmmmnghiegajmaaM11
import Derived.Test.YtmmmnghiegajmaaM12
import Derived.Test.YtmmmnghiegajmaaM33
/- Two queues that are alike, to the laws without the document's answer. -/
namespace Go.Proofs.Ytmmmnghiegajmaa
open Go.RowKit Go.Proofs.Herald
set_option maxRecDepth 20000 in
set_option maxHeartbeats 4000000 in
theorem k_sameQueue (l : List Msg) (a b : Option Addr) (ca cb : Nat) (w : World) (ha : w.ownsRow 0 83 4 (.slice a l.length ca) l.length (msgsCells l)) (hb : w.ownsRow 0 83 4 (.slice b l.length cb) l.length (msgsCells l)) (hl : l.length ≤ 100000) :
    Calls Try.prog 39 #[.slice a l.length ca, .slice b l.length cb] w fun e w' => e = .returned (.bool true) ∧ SameH w w' := by
  have HA : Hid (w.ownsRow 0 83 4 (.slice a l.length ca) l.length (msgsCells l) ∧ w.ownsRow 0 83 4 (.slice b l.length cb) l.length (msgsCells l)) := ⟨ha, hb⟩
  clear ha hb
  go_enter Try.func39, Try.ntmps39
  go_wp2_with fail
  go_loopw [5] (fun i wr => ∃ k : Nat, k ≤ l.length ∧ i = .int .i64 k ∧ Hid (SameH w wr)) (fun i _ => l.length - (intOf i).toNat)
  case atStart => exact ⟨0, Nat.zero_le _, rfl, SameH.refl _⟩
  case round =>
    obtain ⟨k, hk, rfl, HS⟩ := hrel
    by_cases hlt : k < l.length
    · obtain ⟨g, ca', hv, _, _⟩ := HA.out.1.form (by omega)
      simp at hv
      obtain ⟨rfl, rfl⟩ := hv
      obtain ⟨g', cb', hv, _, _⟩ := HA.out.2.form (by omega)
      simp at hv
      obtain ⟨rfl, rfl⟩ := hv
      obtain ⟨e0, e1, e2, e3⟩ := msg_get HA.out.1 hlt
      obtain ⟨f0, f1, f2, f3⟩ := msg_get HA.out.2 hlt
      rw [← HS.out.cell] at e0 e1 e2 e3 f0 f1 f2 f3
      generalize l[k] = m at *
      go_wp2_with fail
      go_region
      all_goals
        go_wp2_with fail
        go_roundw
        case rel => exact ⟨k + 1, by omega, by go_num, HS.out.drew⟩
        case measure => simp [intOf]; omega
    · go_wp2_with fail
      go_ret
      exact ⟨rfl, HS.out⟩
/-- The text's bytes. -/
theorem bes_bytes {a0 a1 d x1 x2 x3 x4 : ByteArray} {K N : Nat} (h0 : a0.data.toList = letterB K) (h1 : a1.data.toList = letterB K) (hd : d.data.toList = digitsB N)
    (e1 : x1.data.toList = [115, 101, 110, 100, 32]) (e2 : x2.data.toList = [32, 119, 97, 105, 116, 32]) (e3 : x3.data.toList = [32, 115, 101, 110, 100, 32]) (e4 : x4.data.toList = [32, 119, 97, 105, 116, 32, 57]) :
    (x1 ++ a0 ++ x2 ++ d ++ x3 ++ a1 ++ x4).data.toList = sp (besU K N) ++ digitsB 9 := by
  have ap : ∀ a b : ByteArray, (a ++ b).data.toList = a.data.toList ++ b.data.toList := fun a b => by rw [ByteArray.data_append, Array.toList_append]
  have hd9 : digitsB 9 = [57] := by decide
  simp only [ap, h0, h1, hd, e1, e2, e3, e4, besU, sp_cons, hd9]
  simp [sp, kSend, kWait]
theorem bes_first (K N : Nat) : trigH (machE (besC K N)) newH 0 = (1, 0, besH 0 1 [⟨0, 1, 1, (K % 8 : Nat)⟩] [besP 1 1 (0 + (N : Int)) 2]) := by
  rw [bes_new]
  exact bes_trig K N 0 [] [⟨0, 1, 1, (K % 8 : Nat)⟩] [] (by simp) (fun r hr => by cases hr) rfl
theorem bes_second (K N : Nat) : trigH (machE (besC K N)) (besH 0 1 [⟨0, 1, 1, (K % 8 : Nat)⟩] [besP 1 1 (0 + (N : Int)) 2]) 0 = (2, 0, besH 0 2 [⟨0, 1, 1, (K % 8 : Nat)⟩, ⟨0, 2, 1, (K % 8 : Nat)⟩] [besP 1 1 (0 + (N : Int)) 2, besP 2 1 (0 + (N : Int)) 2]) :=
  bes_trig K N 1 [⟨0, 1, 1, (K % 8 : Nat)⟩] [⟨0, 1, 1, (K % 8 : Nat)⟩, ⟨0, 2, 1, (K % 8 : Nat)⟩] [besP 1 1 (0 + (N : Int)) 2] (by simp) (fun r hr => by rw [List.mem_singleton.mp hr]; show (1 : Int) ≠ 1 + 1; decide) (by simp [putQ, putAt])
/-- A list of messages that was just made. -/
theorem made_row {w : World} {g : Nat} {l : List Msg} (h : w.heap[g]? = some (.cells (msgsCells l).toArray 83 (0, 0))) (hl : l.length ≤ 1000) : w.ownsRow 0 83 4 (.slice (some ⟨g, 0, none⟩) l.length l.length) l.length (msgsCells l) := by
  have hc : (msgsCells l).length = l.length * 4 := by
    unfold msgsCells
    rw [codeCells_length, List.length_map]
  refine ⟨hc, .inr ⟨g, l.length, _, rfl, Nat.zero_le _, h, Nat.le_refl _, by unfold maxLen; omega, by simp [hc], ?_⟩⟩
  rw [List.toList_toArray, List.take_of_length_le (by omega)]
end Go.Proofs.Ytmmmnghiegajmaa
/- A herald and what lies beside it, from call to call. -/
namespace Go.Proofs.Ytmmmnghiegajmaa
open Go.RowKit Go.Proofs.Herald
/-- A herald behind at most m calls; what it owns is not older than B and not in F; nothing older than B has changed since w0. -/
def KS (B : Nat) (cs : List Ins) (m : Nat) (h : Her Pr) (w0 : World) (H : Nat) (F : Nat → Prop) (w : World) : Prop :=
  ∃ i s, i ≤ m ∧ GA cs i h w H s ∧ (∀ k, s.own H k → B ≤ k ∧ ¬ F k) ∧ (∀ k, F k → k < w.heap.size) ∧ Below B w0 w ∧ B ≤ w.heap.size
theorem KS.less {B : Nat} {cs : List Ins} {m : Nat} {h : Her Pr} {w0 w : World} {H : Nat} {F F' : Nat → Prop} (g : KS B cs m h w0 H F w) (hF : ∀ k, F' k → F k) : KS B cs m h w0 H F' w := by
  obtain ⟨i, s, h1, h2, h3, h4, h5, h6⟩ := g
  exact ⟨i, s, h1, h2, fun k hk => ⟨(h3 k hk).1, fun hf => (h3 k hk).2 (hF k hf)⟩, fun k hk => h4 k (hF k hk), h5, h6⟩
theorem KS.le {B : Nat} {cs : List Ins} {m m' : Nat} {h : Her Pr} {w0 w : World} {H : Nat} {F : Nat → Prop} (g : KS B cs m h w0 H F w) (hm : m ≤ m') : KS B cs m' h w0 H F w := by
  obtain ⟨i, s, h1, h2⟩ := g
  exact ⟨i, s, by omega, h2⟩
theorem KS.back {B : Nat} {cs : List Ins} {m : Nat} {h : Her Pr} {w0 w : World} {H : Nat} {F : Nat → Prop} (g : KS B cs m h w0 H F w) : Below B w0 w := by
  obtain ⟨i, s, h1, h2, h3, h4, h5, h6⟩ := g
  exact h5
theorem KS.lt {B : Nat} {cs : List Ins} {m : Nat} {h : Her Pr} {w0 w : World} {H : Nat} {F : Nat → Prop} (g : KS B cs m h w0 H F w) {k : Nat} (hk : F k) : k < w.heap.size := by
  obtain ⟨i, s, h1, h2, h3, h4, h5, h6⟩ := g
  exact h4 k hk
theorem KS.B {B : Nat} {cs : List Ins} {m : Nat} {h : Her Pr} {w0 w : World} {H : Nat} {F : Nat → Prop} (g : KS B cs m h w0 H F w) : B ≤ w.heap.size := by
  obtain ⟨i, s, h1, h2, h3, h4, h5, h6⟩ := g
  exact h6
/-- What lies in F is written, or something new is made: that lies beside the herald too. -/
theorem KS.fr {B : Nat} {cs : List Ins} {m : Nat} {h : Her Pr} {w0 w w' : World} {H : Nat} {F S : Nat → Prop} (g : KS B cs m h w0 H F w) (hf : Fr S w w') (hS : ∀ k, S k → k < w.heap.size → F k ∧ B ≤ k) : KS B cs m h w0 H (fun k => F k ∨ (w.heap.size ≤ k ∧ k < w'.heap.size)) w' := by
  obtain ⟨i, s, h1, h2, h3, h4, h5, h6⟩ := g
  have hz := hf.size
  refine ⟨i, s, h1, h2.keep fun k hk => hf.block k (h2.lt hk) fun hs => (h3 k hk).2 (hS k hs (h2.lt hk)).1, fun k hk => ⟨(h3 k hk).1, ?_⟩, ?_, ?_, by omega⟩
  · rintro (hF | ⟨hF, _⟩)
    · exact (h3 k hk).2 hF
    · have := h2.lt hk
      omega
  · rintro k (hF | ⟨_, hF⟩)
    · have := h4 k hF
      omega
    · exact hF
  · exact h5.trans ⟨hf.os, hf.tape, hf.output, hf.size, fun k hk => hf.block k (by omega) fun hs => by have := (hS k hs (by omega)).2; omega⟩
theorem KS.more {B : Nat} {cs : List Ins} {m : Nat} {h : Her Pr} {w0 w w' : World} {H : Nat} {F : Nat → Prop} (g : KS B cs m h w0 H F w) (hb : Below w.heap.size w w') : KS B cs m h w0 H (fun k => F k ∨ (w.heap.size ≤ k ∧ k < w'.heap.size)) w' :=
  g.fr (Fr.of_below hb) fun _ hk hk2 => by omega
theorem KS.below {B : Nat} {cs : List Ins} {m : Nat} {h : Her Pr} {w0 w w' : World} {H : Nat} {F : Nat → Prop} (g : KS B cs m h w0 H F w) (hb : Below w.heap.size w w') : KS B cs m h w0 H F w' := (g.more hb).less fun _ hk => .inl hk
theorem KS.set {B : Nat} {cs : List Ins} {m : Nat} {h : Her Pr} {w0 w : World} {H : Nat} {F : Nat → Prop} (g : KS B cs m h w0 H F w) (p : Addr) (v : Value) (hp : F p.block) (hB : B ≤ p.block) : KS B cs m h w0 H F (w.setCell p v) :=
  (g.fr (S := fun k => k = p.block) (Fr.setCell (S := fun k => k = p.block) (Fr.refl _ _) p (.inl rfl) v) fun k hk _ => by rw [hk]; exact ⟨hp, hB⟩).less fun k hk => .inl hk
theorem KS.same {B : Nat} {cs : List Ins} {m : Nat} {h : Her Pr} {w0 w w' : World} {H : Nat} {F : Nat → Prop} (g : KS B cs m h w0 H F w) (hs : SameH w w') : KS B cs m h w0 H F w' :=
  g.below ⟨hs.os, hs.tape, hs.output, by rw [hs.heap]; exact Nat.le_refl _, fun k _ => by rw [hs.heap]⟩
theorem KS.next {B : Nat} {cs : List Ins} {m i : Nat} {h' : Her Pr} {w0 w w' : World} {H : Nat} {F : Nat → Prop} {s : HS} (h1 : i ≤ m) (h3 : ∀ k, s.own H k → B ≤ k ∧ ¬ F k) (h4 : ∀ k, F k → k < w.heap.size) (h5 : Below B w0 w) (h6 : B ≤ w.heap.size) (n : GNext cs i h' w H s w') : KS B cs (m + 1) h' w0 H F w' ∧ ∀ k, F k → w'.heap[k]? = w.heap[k]? := by
  obtain ⟨s', g', o', f'⟩ := n
  have hz := f'.size
  refine ⟨⟨i + 1, s', by omega, g', fun k hk => ?_, fun k hk => by have := h4 k hk; omega, ?_, by omega⟩, fun k hk => f'.block k (h4 k hk) fun ho => (h3 k ho).2 hk⟩
  · rcases o' k hk with h7 | h7
    · exact h3 k h7
    · exact ⟨by omega, fun hF => by have := h4 k hF; omega⟩
  · exact h5.trans ⟨f'.os, f'.tape, f'.output, f'.size, fun k hk => f'.block k (by omega) fun ho => by have := (h3 k ho).1; omega⟩
theorem ks_Trigger {B : Nat} {cs : List Ins} {m : Nat} {h : Her Pr} {w0 : World} {H : Nat} {F : Nat → Prop} (dev : Int) (w : World) (g : KS B cs m h w0 H F w) (hm : m ≤ 2000000) :
    Calls Try.prog 28 #[.pointer (some ⟨H, 0, none⟩), .int .i64 dev] w fun e w' => e = .returned (.tuple #[.int .i64 (trigH (machE cs) h dev).1, .int .i64 (trigH (machE cs) h dev).2.1]) ∧ KS B cs (m + 1) (trigH (machE cs) h dev).2.2 w0 H F w' ∧ ∀ k, F k → w'.heap[k]? = w.heap[k]? := by
  obtain ⟨i, s, h1, h2, h3, h4, h5, h6⟩ := g
  exact (g_Trigger dev w h2 (by omega)).mono fun e w' hh => ⟨hh.1, KS.next h1 h3 h4 h5 h6 hh.2⟩
theorem ks_Tick {B : Nat} {cs : List Ins} {m : Nat} {h : Her Pr} {w0 : World} {H : Nat} {F : Nat → Prop} (n : Int) (w : World) (g : KS B cs m h w0 H F w) (hm : m ≤ 2000000) :
    Calls Try.prog 33 #[.pointer (some ⟨H, 0, none⟩), .int .i64 n] w fun e w' => e = .returned (.int .i64 (tickH (machE cs) h n).1) ∧ KS B cs (m + 1) (tickH (machE cs) h n).2 w0 H F w' ∧ ∀ k, F k → w'.heap[k]? = w.heap[k]? := by
  obtain ⟨i, s, h1, h2, h3, h4, h5, h6⟩ := g
  exact (g_Tick n w h2 (by omega)).mono fun e w' hh => ⟨hh.1, KS.next h1 h3 h4 h5 h6 hh.2⟩
theorem ks_Cancel {B : Nat} {cs : List Ins} {m : Nat} {h : Her Pr} {w0 : World} {H : Nat} {F : Nat → Prop} (id : Int) (w : World) (g : KS B cs m h w0 H F w) (hm : m ≤ 2000000) :
    Calls Try.prog 40 #[.pointer (some ⟨H, 0, none⟩), .int .i64 id] w fun e w' => e = .returned (.int .i64 (cancelH (machE cs) h id).1) ∧ KS B cs (m + 1) (cancelH (machE cs) h id).2 w0 H F w' ∧ ∀ k, F k → w'.heap[k]? = w.heap[k]? := by
  obtain ⟨i, s, h1, h2, h3, h4, h5, h6⟩ := g
  exact (g_Cancel id w h2 (by omega)).mono fun e w' hh => ⟨hh.1, KS.next h1 h3 h4 h5 h6 hh.2⟩
theorem ks_Show {B : Nat} {cs : List Ins} {m : Nat} {h : Her Pr} {w0 : World} {H : Nat} {F : Nat → Prop} (w : World) (g : KS B cs m h w0 H F w) :
    Calls Try.prog 30 #[.pointer (some ⟨H, 0, none⟩)] w fun e w' => ∃ sv uv, e = .returned (.agg #[.int .i64 h.now, sv, uv]) ∧ w'.ownsRow w.heap.size 90 5 sv h.rs.length (rnsCells (h.rs.map pubP)) ∧ w'.ownsRow w.heap.size 83 4 uv (h.qs 0 ++ h.qs 1 ++ h.qs 2).length (msgsCells (h.qs 0 ++ h.qs 1 ++ h.qs 2)) ∧ Below w.heap.size w w' := by
  obtain ⟨i, s, h1, h2, h3, h4, h5, h6⟩ := g
  exact t_Show w h2.tow
/-- Seen by the laws that take a herald's calls from one world on. -/
theorem KS.tow {B : Nat} {cs : List Ins} {m : Nat} {h : Her Pr} {w0 w : World} {H : Nat} {F : Nat → Prop} (g : KS B cs m h w0 H F w) : ∃ s, GTo cs m h w H s w ∧ ∀ {m' : Nat} {h' : Her Pr} {w' : World}, GTo cs m' h' w H s w' → KS B cs m' h' w0 H F w' ∧ ∀ k, F k → w'.heap[k]? = w.heap[k]? := by
  obtain ⟨i, s, h1, h2, h3, h4, h5, h6⟩ := g
  refine ⟨s, ⟨i, s, h1, h2, fun k hk => .inl hk, Fr.refl _ _⟩, ?_⟩
  rintro m' h' w' ⟨i', s', g1, g2, g3, g4⟩
  have hz := g4.size
  refine ⟨⟨i', s', g1, g2, fun k hk => ?_, fun k hk => by have := h4 k hk; omega, ?_, by omega⟩, fun k hk => g4.block k (h4 k hk) fun ho => (h3 k ho).2 hk⟩
  · rcases g3 k hk with h7 | h7
    · exact h3 k h7
    · exact ⟨by omega, fun hF => by have := h4 k hF; omega⟩
  · exact h5.trans ⟨g4.os, g4.tape, g4.output, g4.size, fun k hk => g4.block k (by omega) fun ho => by have := (h3 k ho).1; omega⟩
/-- The three cells of a state are written. -/
theorem state_set {w : World} {X : Nat} {x0 x1 x2 a b c : Value} {e : TypeId} (h : w.heap[X]? = some (.cells #[x0, x1, x2] e (0, 0))) : (((w.setCell ⟨X, 0, none⟩ a).setCell ⟨X, 1, none⟩ b).setCell ⟨X, 2, none⟩ c).heap[X]? = some (.cells #[a, b, c] e (0, 0)) := by
  rw [heap_setCell_self c (heap_setCell_self b (heap_setCell_self a h))]
  rfl
theorem KS.set3 {B : Nat} {cs : List Ins} {m : Nat} {h : Her Pr} {w0 w : World} {H : Nat} {F : Nat → Prop} (g : KS B cs m h w0 H F w) (X : Nat) (a b c : Value) (hp : F X) (hB : B ≤ X) : KS B cs m h w0 H F (((w.setCell ⟨X, 0, none⟩ a).setCell ⟨X, 1, none⟩ b).setCell ⟨X, 2, none⟩ c) :=
  ((g.set ⟨X, 0, none⟩ a hp hB).set ⟨X, 1, none⟩ b hp hB).set ⟨X, 2, none⟩ c hp hB
theorem set3_other {w : World} {X k : Nat} {a b c : Value} (hne : k ≠ X) : (((w.setCell ⟨X, 0, none⟩ a).setCell ⟨X, 1, none⟩ b).setCell ⟨X, 2, none⟩ c).heap[k]? = w.heap[k]? := by
  rw [Below.heap_setCell _ _ _ _ hne, Below.heap_setCell _ _ _ _ hne, Below.heap_setCell _ _ _ _ hne]
end Go.Proofs.Ytmmmnghiegajmaa
