import Derived.Test.YtmmmnghiegajmaaM25
import Derived.Test.YtmmmnghiegajmaaM31
import Derived.Test.YtmmmnghiegajmaaM32
import Derived.Test.YtmmmnghiegajmaaM06
import Derived.Test.YtmmmnghiegajmaaM08
import Derived.Test.YtmmmnghiegajmaaM11
import Derived.Test.YtmmmnghiegajmaaM12
/- A game is opened: a herald of a text's code, and a first run. -/
namespace Go.Proofs.Ytmmmnghiegajmaa
open Go.RowKit Go.Proofs.Herald
theorem trig_first (cs : List Ins) : (trigH (machE cs) newH 0).1 = 1 ∧ (trigH (machE cs) newH 0).2.1 = 0 := by
  unfold trigH
  rw [if_neg (by decide), if_neg (by decide)]
  exact ⟨rfl, rfl⟩
/-- A game: its herald, its code; what it owns is not older than B. -/
structure Game (B : Nat) (cs : List Ins) (i : Nat) (h : Her Pr) (w : World) (G H : Nat) (cv : Value) (s : HS) : Prop where
  g : w.heap[G]? = some (.cells #[.pointer (some ⟨H, 0, none⟩), cv] 78 (0, 0))
  ga : GA cs i h w H s
  own : ∀ k, s.own H k → B ≤ k ∧ k ≠ G
  row : w.ownsRow B 128 4 cv cs.length (codeCells cs)
  cvo : ∀ k, cv.ownBlock = some k → ¬ s.own H k
  B : B ≤ G
theorem own_codeAt {w : World} {B : Nat} {a : Option Addr} {n cap : Nat} {cs : List Ins} (h : w.ownsRow B 128 4 (.slice a n cap) n (codeCells cs)) (hn : n = cs.length) : ∃ b, CodeIn w a b 0 cs := by
  rcases h.2 with ⟨h1, h2⟩ | ⟨g, c, cur, hv, hb, hg, h1, h2, h3, h4⟩
  · refine ⟨0, fun hp => ?_⟩
    omega
  · simp at hv
    obtain ⟨rfl, rfl⟩ := hv
    refine ⟨g, fun _ => ⟨rfl, heap_lt hg, fun i hi j u hj => ?_⟩⟩
    have hj4 : j < 4 := by have := (List.getElem?_eq_some_iff.mp hj).1; simpa [insCells] using this
    have h5 := h.cells (g := g) rfl (i * 4 + j) u (by rw [codeCells_get cs i hi j hj4]; exact hj)
    rw [Addr.add_lit] at h5
    rw [show 0 + i * 4 + j = 0 + (i * 4 + j) from by omega]
    exact h5
set_option maxHeartbeats 4000000 in
theorem opened_ok {t : ByteArray} {tr : Tree 5} (ht : t.size ≤ 400) (hT : TextOk t tr) (hne : 0 < (codeOf t tr).length) (w : World) :
    Calls Try.prog 34 #[.string t] w fun e w' => ∃ G H cv s, e = .returned (.tuple #[.pointer (some ⟨G, 0, none⟩), .bool true]) ∧ Game w.heap.size (codeOf t tr) 1 (trigH (machE (codeOf t tr)) newH 0).2.2 w' G H cv s ∧ Below w.heap.size w w' := by
  have HL : Hid (∀ w : World, Calls Try.prog 13 #[.string t] w fun e w' => e = .returned (.tuple #[.int .i64 (maxI (lastsT t 5 tr).1 (lastsT t 5 tr).2), .int .i64 0, .int .i64 0]) ∧ Below w.heap.size w w') := fun w => c_Longest_ok ht hT w
  have HC : Hid (∀ w : World, Calls Try.prog 26 #[.string t] w fun e w' => ∃ sv, e = .returned (.tuple #[sv, .int .i64 0, .int .i64 0]) ∧ w'.ownsRow w.heap.size 128 4 sv (codeOf t tr).length (codeCells (codeOf t tr)) ∧ Below w.heap.size w w') := fun w => c_Compile_ok t ht tr hT w
  have HSN : Hid (soundL (codeOf t tr) = true) := hT.sound ht
  generalize maxI (lastsT t 5 tr).1 (lastsT t 5 tr).2 = LM at *
  generalize codeOf t tr = C at *
  obtain ⟨q1, q2⟩ := trig_first C
  clear hT
  go_enter Try.func34, Try.ntmps34
  go_wp2_with fail
  refine (HL.out _).mono ?_
  rintro e w1 ⟨rfl, hb1⟩
  have HB1 : Hid (Below w.heap.size w w1) := hb1
  clear hb1 HL
  go_wp2_with fail
  refine (HC.out _).mono ?_
  rintro e w2 ⟨sv, rfl, hsv, hb2⟩
  obtain ⟨g, cap, rfl, _, hgl⟩ := hsv.form (by omega)
  have H2 : Hid (w2.ownsRow w1.heap.size 128 4 (.slice (some ⟨g, 0, none⟩) C.length cap) C.length (codeCells C) ∧ Below w1.heap.size w1 w2) := ⟨hsv, hb2⟩
  have HCI : Hid (CodeIn w2 (some ⟨g, 0, none⟩) g 0 C) := by
    obtain ⟨b, hb⟩ := own_codeAt hsv rfl
    obtain ⟨e1, e2, e3⟩ := hb (by omega)
    simp only [Option.some.injEq, Addr.mk.injEq, and_true] at e1
    exact fun _ => ⟨rfl, by rw [e1]; exact e2, by rw [e1]; exact e3⟩
  clear hsv hb2 HC hgl
  go_wp2_with fail
  refine (c_New_yes g 0 cap C _ HCI.out HSN.out).mono ?_
  rintro e w3 ⟨H, v, rfl, hH, hgH, hvo, hb3⟩
  have H3 : Hid (w2.heap.size ≤ H ∧ w3.heap[H]? = some (.cells (newHd v) 150 (0, 0)) ∧ w3.ownsRow w2.heap.size 128 4 v C.length (codeCells C) ∧ Below w2.heap.size w2 w3) := ⟨hH, hgH, hvo, hb3⟩
  have HGA : Hid (GA C 0 newH w3 H ⟨v, .slice none 0 0, .slice none 0 0, fun _ => .slice none 0 0, 0⟩) := GA.new HSN.out hgH (own0 hvo)
  clear hH hgH hvo hb3 HCI
  go_wp2_with fail
  refine (g_Trigger 0 _ HGA.out (by omega)).mono ?_
  rintro e w4 ⟨rfl, s', hg4, hs4, hf4⟩
  rw [q1, q2]
  have HFIN : Hid (∀ W : World, Below w4.heap.size w4 W → W.heap[w4.heap.size]? = some (.cells #[.pointer (some ⟨H, 0, none⟩), .slice (some ⟨g, 0, none⟩) C.length cap] 78 (0, 0)) → Game w.heap.size C 1 (trigH (machE C) newH 0).2.2 W w4.heap.size H (.slice (some ⟨g, 0, none⟩) C.length cap) s' ∧ Below w.heap.size w W) := by
    intro W hW hG
    have z1 := HB1.out.size
    have z2 := H2.out.2.size
    have z3 := H3.out.2.2.2.size
    have z4 := hf4.size
    have hown0 : ∀ k, HS.own ⟨v, .slice none 0 0, .slice none 0 0, fun _ => .slice none 0 0, 0⟩ H k → w2.heap.size ≤ k := fun k hk => by
      rcases hk with (hk | ⟨d, _, hk⟩ | hk) | hk | hk
      · subst hk; exact H3.out.1
      · cases hk
      · cases hk
      · cases hk
      · exact (ownsRow_lies H3.out.2.2.1 hk).1
    have hown : ∀ k, s'.own H k → w2.heap.size ≤ k := fun k hk => by
      rcases hs4 k hk with h1 | h1
      · exact hown0 k h1
      · omega
    have hgb : w1.heap.size ≤ g ∧ g < w2.heap.size := by
      obtain ⟨h1, cur, h2⟩ := ownsRow_lies H2.out.1 (k := g) rfl
      exact ⟨h1, heap_lt h2⟩
    have hb24 : ∀ k, k < w2.heap.size → W.heap[k]? = w2.heap[k]? := fun k hk => by
      rw [hW.block k (by omega), hf4.block k (by omega) (fun ho => by have := hown0 k ho; omega), H3.out.2.2.2.block k hk]
    refine ⟨⟨hG, hg4.below hW, fun k hk => ⟨by have := hown k hk; omega, by have := hg4.lt hk; omega⟩, ?_, fun k hk ho => ?_, by omega⟩, ?_⟩
    · exact own_base (own0 (own_stays H2.out.1 fun k hk => hb24 k (by simp [Value.ownBlock] at hk; omega))) fun b hb => by have := (ownsRow_lies H2.out.1 hb).1; omega
    · have h1 := hown k ho
      simp [Value.ownBlock] at hk
      omega
    · refine ⟨hW.os.trans (hf4.os.trans (H3.out.2.2.2.os.trans (H2.out.2.os.trans HB1.out.os))), hW.tape.trans (hf4.tape.trans (H3.out.2.2.2.tape.trans (H2.out.2.tape.trans HB1.out.tape))), hW.output.trans (hf4.output.trans (H3.out.2.2.2.output.trans (H2.out.2.output.trans HB1.out.output))), by have := hW.size; omega, fun k hk => ?_⟩
      rw [hb24 k (by omega), H2.out.2.block k (by omega), HB1.out.block k hk]
  clear hg4 hs4 hf4 HGA H2 H3 HB1
  go_wp2_with fail
  go_ret2
  obtain ⟨h1, h2⟩ := HFIN.out _ ((Below.refl _ _).alloc (Nat.le_refl _) _) (heap_alloc_new _ _)
  exact ⟨_, _, _, _, rfl, h1, h2⟩
end Go.Proofs.Ytmmmnghiegajmaa
/- What Show tells of one run and one message; a message is answered. -/
namespace Go.Proofs.Ytmmmnghiegajmaa
open Go.RowKit Go.Proofs.Herald
theorem Game.cell {B : Nat} {cs cs' : List Ins} {i m : Nat} {h h' : Her Pr} {w0 w : World} {G H : Nat} {cv : Value} {s : HS} (g : Game B cs i h w0 G H cv s) (t : GTo cs' m h' w0 H s w) : w.heap[G]? = some (.cells #[.pointer (some ⟨H, 0, none⟩), cv] 78 (0, 0)) := by
  obtain ⟨_, _, _, _, _, hf⟩ := t
  exact (hf.block G (heap_lt g.g) fun ho => (g.own G ho).2 rfl).trans g.g
theorem GTo.same {cs : List Ins} {m : Nat} {h : Her Pr} {w0 : World} {H : Nat} {s0 : HS} {w : World} (g : GTo cs m h w0 H s0 w) {k : Nat} (hk : k < w0.heap.size) (ho : ¬ s0.own H k) : w.heap[k]? = w0.heap[k]? := by
  obtain ⟨_, _, _, _, _, hf⟩ := g
  exact hf.block k hk ho
theorem run_row {w : World} {B : Nat} {sv : Value} {r : Rn} (h : w.ownsRow B 90 5 sv 1 (rnsCells [r])) : ∃ g c, sv = .slice (some ⟨g, 0, none⟩) 1 c ∧ g < w.heap.size ∧ w.cell? ⟨g, 0, none⟩ = some (.int .i64 r.id) ∧ w.cell? ⟨g, 1, none⟩ = some (.int .i64 r.dev) ∧ w.cell? ⟨g, 2, none⟩ = some (.int .i64 r.sent) ∧ w.cell? ⟨g, 3, none⟩ = some (.int .i64 r.til) ∧ w.cell? ⟨g, 4, none⟩ = some (.int .i64 r.num) := by
  obtain ⟨g, c, rfl, _, hgl⟩ := h.form (by omega)
  have hc : ∀ j u, (rnsCells [r])[j]? = some u → w.cell? ⟨g, j, none⟩ = some u := fun j u hu => by
    have h1 := h.cells (g := g) rfl j u hu
    rwa [Addr.add_lit, Nat.zero_add] at h1
  exact ⟨g, c, rfl, hgl, hc 0 _ rfl, hc 1 _ rfl, hc 2 _ rfl, hc 3 _ rfl, hc 4 _ rfl⟩
theorem msg_row {w : World} {B : Nat} {uv : Value} {m : Msg} (h : w.ownsRow B 83 4 uv 1 (msgsCells [m])) : ∃ g c, uv = .slice (some ⟨g, 0, none⟩) 1 c ∧ g < w.heap.size ∧ w.cell? ⟨g, 0, none⟩ = some (.int .i64 m.dev) ∧ w.cell? ⟨g, 1, none⟩ = some (.int .i64 m.run) ∧ w.cell? ⟨g, 2, none⟩ = some (.int .i64 m.num) ∧ w.cell? ⟨g, 3, none⟩ = some (.int .i64 m.key) := by
  obtain ⟨g, c, rfl, _, hgl⟩ := h.form (by omega)
  have hc : ∀ j u, (msgsCells [m])[j]? = some u → w.cell? ⟨g, j, none⟩ = some u := fun j u hu => by
    have h1 := h.cells (g := g) rfl j u hu
    rwa [Addr.add_lit, Nat.zero_add] at h1
  exact ⟨g, c, rfl, hgl, hc 0 _ rfl, hc 1 _ rfl, hc 2 _ rfl, hc 3 _ rfl⟩
/-- The look at one run and one message, in whatever memory behind it. -/
theorem look_run {w : World} {B1 B2 : Nat} {sv uv : Value} (now num key til wt : Int) (hsv : w.ownsRow B1 90 5 sv 1 (rnsCells [⟨1, 0, num, til, wt⟩])) (huv : w.ownsRow B2 83 4 uv 1 (msgsCells [⟨0, 1, num, key⟩])) (ht : til ≠ 0) :
    ∃ gr cr gq cq, sv = .slice (some ⟨gr, 0, none⟩) 1 cr ∧ uv = .slice (some ⟨gq, 0, none⟩) 1 cq ∧ ∀ W, Below w.heap.size w W → Calls Try.prog 35 #[.agg #[.int .i64 now, .slice (some ⟨gr, 0, none⟩) 1 cr, .slice (some ⟨gq, 0, none⟩) 1 cq], .int .i64 now, .int .i64 num, .int .i64 key, .int .i64 til, .int .i64 wt] W fun e w' => e = .returned (.bool true) ∧ Below W.heap.size W w' := by
  obtain ⟨gr, cr, rfl, hgr, r0, r1, r2, r3, r4⟩ := run_row hsv
  obtain ⟨gq, cq, rfl, hgq, q0, q1, q2, q3⟩ := msg_row huv
  refine ⟨gr, cr, gq, cq, rfl, rfl, fun W hb => ?_⟩
  have er : ∀ j, W.cell? ⟨gr, j, none⟩ = w.cell? ⟨gr, j, none⟩ := fun j => hb.cell (p := ⟨gr, j, none⟩) hgr
  have eq : ∀ j, W.cell? ⟨gq, j, none⟩ = w.cell? ⟨gq, j, none⟩ := fun j => hb.cell (p := ⟨gq, j, none⟩) hgq
  exact c_alone_run now num key til wt gr gq cr cq W ht (Nat.lt_of_lt_of_le hgr hb.size) (Nat.lt_of_lt_of_le hgq hb.size) ((eq 0).trans q0) ((eq 1).trans q1) ((eq 2).trans q2) ((eq 3).trans q3) ((er 0).trans r0) ((er 1).trans r1) ((er 2).trans r2) ((er 3).trans r3) ((er 4).trans r4)
theorem look_none {w : World} {B1 B2 : Nat} {sv uv : Value} (now num key wt : Int) (hsv : w.ownsRow B1 90 5 sv 0 (rnsCells [])) (huv : w.ownsRow B2 83 4 uv 1 (msgsCells [⟨0, 1, num, key⟩])) :
    ∃ ra cr gq cq, sv = .slice ra 0 cr ∧ uv = .slice (some ⟨gq, 0, none⟩) 1 cq ∧ ∀ W, Below w.heap.size w W → Calls Try.prog 35 #[.agg #[.int .i64 now, .slice ra 0 cr, .slice (some ⟨gq, 0, none⟩) 1 cq], .int .i64 now, .int .i64 num, .int .i64 key, .int .i64 0, .int .i64 wt] W fun e w' => e = .returned (.bool true) ∧ Below W.heap.size W w' := by
  obtain ⟨ra, cr, rfl⟩ := ownsRow_slice hsv
  obtain ⟨gq, cq, rfl, hgq, q0, q1, q2, q3⟩ := msg_row huv
  refine ⟨ra, cr, gq, cq, rfl, rfl, fun W hb => ?_⟩
  have eq : ∀ j, W.cell? ⟨gq, j, none⟩ = w.cell? ⟨gq, j, none⟩ := fun j => hb.cell (p := ⟨gq, j, none⟩) hgq
  exact c_alone_none now num key wt ra gq cr cq W (Nat.lt_of_lt_of_le hgq hb.size) ((eq 0).trans q0) ((eq 1).trans q1) ((eq 2).trans q2) ((eq 3).trans q3)
set_option maxRecDepth 20000 in
set_option maxHeartbeats 4000000 in
theorem c_answered {cs : List Ins} {m : Nat} {h h2 h3 h4 : Her Pr} {w0 : World} {H : Nat} {s0 : HS} (num key d : Int) (w : World) (g : GTo cs m h w0 H s0 w) (hm : m ≤ 1000000) (hn0 : 0 ≤ num) (hn1 : num ≤ 1000000)
    (e1 : ackH (machE cs) h 1 num = (12, h)) (e2 : drainH h 0 = (⟨0, 1, num, key⟩, 0, h2)) (e3 : (0 < d ∧ tickH (machE cs) h2 d = (0, h3)) ∨ (d = 0 ∧ h3 = h2)) (e4 : ackH (machE cs) h3 1 (num + 1) = (11, h3)) (e5 : ackH (machE cs) h3 1 num = (0, h4)) :
    Calls Try.prog 36 #[.pointer (some ⟨H, 0, none⟩), .int .i64 num, .int .i64 key, .int .i64 d] w fun e w' => e = .returned (.bool true) ∧ GTo cs (m + 5) h4 w0 H s0 w' := by
  have HG : Hid (GTo cs m h w0 H s0 w) := g
  clear g
  have A1 : Hid (∀ W, GTo cs m h w0 H s0 W → Calls Try.prog 38 #[.pointer (some ⟨H, 0, none⟩), .int .i64 1, .int .i64 num] W fun e w' => e = .returned (.int .i64 12) ∧ GTo cs (m + 1) h w0 H s0 w') := fun W g => by
    have := t_Ack 1 num W g (by omega)
    rw [e1] at this
    exact this
  have A2 : Hid (∀ W, GTo cs (m + 1) h w0 H s0 W → Calls Try.prog 37 #[.pointer (some ⟨H, 0, none⟩), .int .i64 0] W fun e w' => e = .returned (.tuple #[.agg #[.int .i64 0, .int .i64 1, .int .i64 num, .int .i64 key], .int .i64 0]) ∧ GTo cs (m + 2) h2 w0 H s0 w') := fun W g => by
    have := t_Drain 0 W g (by omega)
    rw [e2] at this
    exact this
  have A4 : Hid (∀ k W, k ≤ m + 3 → GTo cs k h3 w0 H s0 W → Calls Try.prog 38 #[.pointer (some ⟨H, 0, none⟩), .int .i64 1, .int .i64 (num + 1)] W fun e w' => e = .returned (.int .i64 11) ∧ GTo cs (k + 1) h3 w0 H s0 w') := fun k W hk g => by
    have := t_Ack 1 (num + 1) W g (by omega)
    rw [e4] at this
    exact this
  have A5 : Hid (∀ k W, k ≤ m + 4 → GTo cs k h3 w0 H s0 W → Calls Try.prog 38 #[.pointer (some ⟨H, 0, none⟩), .int .i64 1, .int .i64 num] W fun e w' => e = .returned (.int .i64 0) ∧ GTo cs (k + 1) h4 w0 H s0 w') := fun k W hk g => by
    have := t_Ack 1 num W g (by omega)
    rw [e5] at this
    exact this
  have HLE : Hid (∀ {k l : Nat} {h : Her Pr} {W : World}, k ≤ l → GTo cs k h w0 H s0 W → GTo cs l h w0 H s0 W) := fun hkl g => by
    obtain ⟨i, s, h1, h2⟩ := g
    exact ⟨i, s, by omega, h2⟩
  rcases e3 with ⟨hd, e3⟩ | ⟨rfl, rfl⟩
  · have A3 : Hid (∀ W, GTo cs (m + 2) h2 w0 H s0 W → Calls Try.prog 33 #[.pointer (some ⟨H, 0, none⟩), .int .i64 d] W fun e w' => e = .returned (.int .i64 0) ∧ GTo cs (m + 3) h3 w0 H s0 w') := fun W g => by
      have := t_Tick d W g (by omega)
      rw [e3] at this
      exact this
    clear e1 e2 e3 e4 e5
    go_enter Try.func36, Try.ntmps36
    go_wp2_with fail
    refine (A1.out _ HG.out).mono ?_
    rintro e w1 ⟨rfl, g1⟩
    have G1 : Hid (∀ W, Below w1.heap.size w1 W → GTo cs (m + 1) h w0 H s0 W) := fun W hb => g1.below hb
    clear g1
    go_wp2_with fail
    refine (A2.out _ (G1.out _ (by first | exact Below.refl _ _ | exact (Below.refl _ _).alloc (Nat.le_refl _) _))).mono ?_
    rintro e w2 ⟨rfl, g2⟩
    have G2 : Hid (∀ W, Below w2.heap.size w2 W → GTo cs (m + 2) h2 w0 H s0 W) := fun W hb => g2.below hb
    clear g2
    go_wp2_with fail
    refine (A3.out _ (G2.out _ (by first | exact Below.refl _ _ | exact (Below.refl _ _).alloc (Nat.le_refl _) _))).mono ?_
    rintro e w3 ⟨rfl, g3⟩
    have G3 : Hid (GTo cs (m + 3) h3 w0 H s0 w3) := g3
    clear g3
    go_wp2_with fail
    refine (A4.out _ _ (Nat.le_refl _) G3.out).mono ?_
    rintro e w4 ⟨rfl, g4⟩
    have G4 : Hid (GTo cs (m + 3 + 1) h3 w0 H s0 w4) := g4
    clear g4
    go_wp2_with fail
    refine (A5.out _ _ (Nat.le_refl _) G4.out).mono ?_
    rintro e w5 ⟨rfl, g5⟩
    have G5 : Hid (GTo cs (m + 5) h4 w0 H s0 w5) := g5
    clear g5
    go_wp2_with fail
    go_ret
    exact ⟨rfl, G5.out⟩
  · clear e1 e2 e4 e5
    go_enter Try.func36, Try.ntmps36
    go_wp2_with fail
    refine (A1.out _ HG.out).mono ?_
    rintro e w1 ⟨rfl, g1⟩
    have G1 : Hid (∀ W, Below w1.heap.size w1 W → GTo cs (m + 1) h w0 H s0 W) := fun W hb => g1.below hb
    clear g1
    go_wp2_with fail
    refine (A2.out _ (G1.out _ (by first | exact Below.refl _ _ | exact (Below.refl _ _).alloc (Nat.le_refl _) _))).mono ?_
    rintro e w2 ⟨rfl, g2⟩
    have G2 : Hid (∀ W, Below w2.heap.size w2 W → GTo cs (m + 2) h3 w0 H s0 W) := fun W hb => g2.below hb
    clear g2
    go_wp2_with fail
    refine (A4.out _ _ (by omega) (G2.out _ (by first | exact Below.refl _ _ | exact (Below.refl _ _).alloc (Nat.le_refl _) _))).mono ?_
    rintro e w4 ⟨rfl, g4⟩
    have G4 : Hid (GTo cs (m + 2 + 1) h3 w0 H s0 w4) := g4
    clear g4
    go_wp2_with fail
    refine (A5.out _ _ (by omega) G4.out).mono ?_
    rintro e w5 ⟨rfl, g5⟩
    have G5 : Hid (GTo cs (m + 5) h4 w0 H s0 w5) := HLE.out (by omega) g5
    clear g5
    go_wp2_with fail
    go_ret
    exact ⟨rfl, G5.out⟩
end Go.Proofs.Ytmmmnghiegajmaa
/- The law Asked is walked. -/
namespace Go.Proofs.Ytmmmnghiegajmaa
open Go.RowKit Go.Proofs.Herald
theorem toList_append (a b : ByteArray) : (a ++ b).data.toList = a.data.toList ++ b.data.toList := by rw [ByteArray.data_append, Array.toList_append]
/-- The text's bytes. -/
theorem ask_bytes {a0 a1 a2 d x1 x2 x3 x4 x5 : ByteArray} {K N : Nat} (h0 : a0.data.toList = letterB K) (h1 : a1.data.toList = letterB (K + 1)) (h2 : a2.data.toList = letterB (K + 2)) (hd : d.data.toList = digitsB N)
    (e1 : x1.data.toList = [97, 115, 107, 32]) (e2 : x2.data.toList = [32]) (e3 : x3.data.toList = [32, 123, 32, 115, 101, 110, 100, 32]) (e4 : x4.data.toList = [32, 119, 97, 105, 116, 32, 50, 32, 125, 32, 101, 108, 115, 101, 32, 123, 32, 115, 101, 110, 100, 32]) (e5 : x5.data.toList = [32, 119, 97, 105, 116, 32, 51, 32, 125]) :
    (x1 ++ a0 ++ x2 ++ d ++ x3 ++ a1 ++ x4 ++ a2 ++ x5).data.toList = sp (askU K N) ++ kShut := by
  have hd2 : digitsB 2 = [50] := by decide
  have hd3 : digitsB 3 = [51] := by decide
  simp only [toList_append, h0, h1, h2, hd, e1, e2, e3, e4, e5, askU, sp_cons, hd2, hd3]
  simp [sp, kAsk, kOpen, kSend, kWait, kShut, kElse]
theorem pick_letter (k j : Nat) (hk : k < 8) : letterB (pickI ((k : Int) + j) 8).toNat = letterB (k + j) := by
  have e : (pickI ((k : Int) + j) 8).toNat = (k + j) % 8 := by unfold pickI; rw [if_neg (by omega)]; omega
  rw [e, ← letter_mod]
set_option maxRecDepth 40000 in
set_option maxHeartbeats 8000000 in
theorem asked_walk (ticks key delay : Int) (yes : Bool) (w : World) (t1 : -9223372036854775808 ≤ ticks) (t2 : ticks ≤ 9223372036854775807) (k1 : -9223372036854775808 ≤ key) (k2 : key ≤ 9223372036854775807) (d1 : -9223372036854775808 ≤ delay) (d2 : delay ≤ 9223372036854775807) :
    Calls Try.prog 10 #[.int .i64 ticks, .int .i64 key, .bool yes, .int .i64 delay] w fun e w' => e = .returned (.bool true) ∧ Below w.heap.size w w' := by
  obtain ⟨p1, p2⟩ := pickI_bound ticks 90 (by omega)
  obtain ⟨p3, p4⟩ := pickI_bound key 8 (by omega)
  obtain ⟨N, hN⟩ : ∃ N : Nat, 1 + pickI ticks 90 = (N : Nat) := ⟨(1 + pickI ticks 90).toNat, by omega⟩
  obtain ⟨K, hK⟩ : ∃ K : Nat, pickI key 8 = (K : Nat) := ⟨(pickI key 8).toNat, by omega⟩
  have hN1 : 1 ≤ N := by omega
  have hN2 : N ≤ 90 := by omega
  have hK8 : K < 8 := by omega
  have HTK : Hid (∀ W, Calls Try.prog 23 #[.int .i64 ticks, .int .i64 90] W _) := fun W => c_pick ticks 90 W (by omega) t1 t2
  have HKY : Hid (∀ W, Calls Try.prog 23 #[.int .i64 key, .int .i64 8] W _) := fun W => c_pick key 8 W (by omega) k1 k2
  have HDL : Hid (∀ W, Calls Try.prog 23 #[.int .i64 delay, .int .i64 (N : Nat)] W _) := fun W => c_pick delay (N : Nat) W (by omega) d1 d2
  have hpn : pickI ticks 90 = (N : Int) - 1 := by omega
  rw [hpn] at HTK
  rw [hK] at HKY
  have HL0 : Hid (∀ W, Calls Try.prog 24 #[.int .i64 (K : Nat)] W fun e w' => ∃ s : ByteArray, e = .returned (.string s) ∧ s.data.toList = letterB K ∧ Below W.heap.size W w') := fun W => by
    have h1 := c_letter (K : Nat) W (by omega) (by omega)
    have h2 := pick_letter K 0 hK8
    rw [Nat.add_zero, Int.ofNat_zero, Int.add_zero] at h2
    rw [h2] at h1
    exact h1
  have HL1 : Hid (∀ W, Calls Try.prog 24 #[.int .i64 ((K : Nat) + 1)] W fun e w' => ∃ s : ByteArray, e = .returned (.string s) ∧ s.data.toList = letterB (K + 1) ∧ Below W.heap.size W w') := fun W => by
    have h1 := c_letter ((K : Nat) + 1) W (by omega) (by omega)
    have h2 := pick_letter K 1 hK8
    have e : ((1 : Nat) : Int) = 1 := rfl
    rw [e] at h2
    rw [h2] at h1
    exact h1
  have HL2 : Hid (∀ W, Calls Try.prog 24 #[.int .i64 ((K : Nat) + 2)] W fun e w' => ∃ s : ByteArray, e = .returned (.string s) ∧ s.data.toList = letterB (K + 2) ∧ Below W.heap.size W w') := fun W => by
    have h1 := c_letter ((K : Nat) + 2) W (by omega) (by omega)
    have h2 := pick_letter K 2 hK8
    have e : ((2 : Nat) : Int) = 2 := rfl
    rw [e] at h2
    rw [h2] at h1
    exact h1
  have HDG : Hid (∀ W, Calls Try.prog 25 #[.int .i64 (N : Nat)] W fun e w' => ∃ s : ByteArray, e = .returned (.string s) ∧ s.data.toList = digitsB N ∧ Below W.heap.size W w') := fun W => by
    have h1 := c_digits (N : Nat) W (by omega) (by omega)
    rw [Int.toNat_natCast] at h1
    exact h1
  have HSZ : Hid (∀ s : ByteArray, s.data.toList.length = s.size) := fun s => by simp
  have HDZ : Hid ((digitsB N).length ≤ 3) := (digits_all N (by omega)).2.2.2
  clear hN hK p1 p2 p3 p4 t1 t2 k1 k2 d1 d2
  go_enter Try.func10, Try.ntmps10
  go_wp2_with fail
  refine (HTK.out _).mono ?_
  rintro e w1 ⟨rfl, rfl⟩
  have hn' : 1 + ((N : Int) - 1) = N := by omega
  go_wp2_with fail
  refine (HKY.out _).mono ?_
  rintro e w2 ⟨rfl, rfl⟩
  clear hn' hpn HTK HKY
  go_wp2_with fail
  refine (HL0.out _).mono ?_
  rintro e w3 ⟨a0, rfl, h0, b3⟩
  have z0 : a0.size = 1 := by rw [← HSZ.out, h0]; rfl
  have H0 : Hid (a0.data.toList = letterB K ∧ Below w2.heap.size w2 w3) := ⟨h0, b3⟩
  clear h0 b3 HL0
  go_wp2_with fail
  refine (HDG.out _).mono ?_
  rintro e w4 ⟨dg, rfl, hdg, b4⟩
  have zd : dg.size ≤ 3 := by rw [← HSZ.out, hdg]; exact HDZ.out
  have H1 : Hid (dg.data.toList = digitsB N ∧ Below w2.heap.size w2 w4) := ⟨hdg, H0.out.2.trans (b4.mono H0.out.2.size)⟩
  clear hdg b4 HDG
  go_wp2_with fail
  refine (HL1.out _).mono ?_
  rintro e w5 ⟨a1, rfl, h1, b5⟩
  have z1 : a1.size = 1 := by rw [← HSZ.out, h1]; rfl
  have H2 : Hid (a1.data.toList = letterB (K + 1) ∧ Below w2.heap.size w2 w5) := ⟨h1, H1.out.2.trans (b5.mono H1.out.2.size)⟩
  clear h1 b5 HL1
  go_wp2_with fail
  refine (HL2.out _).mono ?_
  rintro e w6 ⟨a2, rfl, h2, b6⟩
  have z2 : a2.size = 1 := by rw [← HSZ.out, h2]; rfl
  have H3 : Hid (a2.data.toList = letterB (K + 2) ∧ Below w2.heap.size w2 w6) := ⟨h2, H2.out.2.trans (b6.mono H2.out.2.size)⟩
  clear h2 b6 HL2
  go_wp2_with fail
  generalize hT : ((⟨#[97, 115, 107, 32]⟩ : ByteArray) ++ a0 ++ ⟨#[32]⟩ ++ dg ++ ⟨#[32, 123, 32, 115, 101, 110, 100, 32]⟩ ++ a1 ++ ⟨#[32, 119, 97, 105, 116, 32, 50, 32, 125, 32, 101, 108, 115, 101, 32, 123, 32, 115, 101, 110, 100, 32]⟩ ++ a2 ++ ⟨#[32, 119, 97, 105, 116, 32, 51, 32, 125]⟩) = T
  obtain ⟨hsz, tr, hok, hcode⟩ := ask_text (t := T) hN1 hN2 (by rw [← hT]; exact ask_bytes H0.out.1 H2.out.1 H3.out.1 H1.out.1 rfl rfl rfl rfl rfl)
  have HOP := opened_ok hsz hok (by rw [hcode]; show 0 < 6; omega) w6
  rw [hcode, ask_trig] at HOP
  have HB6 : Hid (Below w2.heap.size w2 w6) := H3.out.2
  clear hT hsz hok hcode H0 H1 H2 H3 z0 z1 z2 zd HSZ HDZ
  refine HOP.mono ?_
  rintro e w7 ⟨G, H, cv, s, rfl, hg, b7⟩
  have HGM : Hid (Game w6.heap.size (askC K N) 1 (askH 0 N [⟨0, 1, 1, (K % 8 : Nat)⟩]) w7 G H cv s ∧ Below w2.heap.size w2 w7) := ⟨hg, HB6.out.trans (b7.mono HB6.out.size)⟩
  have hG7 : w7.cell? ⟨G, 0, none⟩ = some (.pointer (some ⟨H, 0, none⟩)) := (cell_of_heap hg.g).trans rfl
  have hGl : G < w7.heap.size := heap_lt hg.g
  clear hg b7 HOP
  have HT0 : Hid (GTo (askC K N) 1 (askH 0 N [⟨0, 1, 1, (K % 8 : Nat)⟩]) w7 H s w7) := HGM.out.1.ga.tow
  have HKM : Hid ((K % 8 : Nat) = K) := Nat.mod_eq_of_lt hK8
  go_wp2_with fail
  refine (t_Show _ HT0.out).mono ?_
  rintro e w8 ⟨sv, uv, rfl, hsv, huv, b8⟩
  rw [show (askH 0 N [⟨0, 1, 1, (K % 8 : Nat)⟩]).now = 0 from rfl]
  obtain ⟨gr, cr, gq, cq, rfl, rfl, hal⟩ := look_run 0 1 (K : Nat) (N : Nat) 1 (w := w8) (by have h := hsv; rw [show rnsCells ((askH 0 N [⟨0, 1, 1, (K % 8 : Nat)⟩]).rs.map pubP) = rnsCells [⟨1, 0, 1, (N : Nat), 1⟩] by rw [← Int.zero_add (N : Int)]; rfl] at h; exact h) (by have h := huv; rw [show (askH 0 N [⟨0, 1, 1, (K % 8 : Nat)⟩]).qs 0 ++ (askH 0 N [⟨0, 1, 1, (K % 8 : Nat)⟩]).qs 1 ++ (askH 0 N [⟨0, 1, 1, (K % 8 : Nat)⟩]).qs 2 = [⟨0, 1, 1, (K : Nat)⟩] by rw [← HKM.out]; simp [askH]] at h; exact h) (by omega)
  have HA : Hid (∀ W, Below w8.heap.size w8 W → Calls Try.prog 35 #[.agg #[.int .i64 0, .slice (some ⟨gr, 0, none⟩) 1 cr, .slice (some ⟨gq, 0, none⟩) 1 cq], .int .i64 0, .int .i64 1, .int .i64 (K : Nat), .int .i64 (N : Nat), .int .i64 1] W fun e w' => e = .returned (.bool true) ∧ Below W.heap.size W w') := hal
  have HT8 : Hid (∀ W, Below w8.heap.size w8 W → GTo (askC K N) 1 (askH 0 N [⟨0, 1, 1, (K % 8 : Nat)⟩]) w7 H s W) := fun W hb => (HT0.out.below b8).below hb
  have HB8 : Hid (Below w7.heap.size w7 w8) := b8
  clear hsv huv b8 hal
  go_wp2_with fail
  refine (HA.out _ ((Below.refl _ _).alloc (Nat.le_refl _) _)).mono ?_
  rintro e w9 ⟨rfl, b9⟩
  have HG9 : Hid (GA (askC K N) 1 (askH 0 N [⟨0, 1, 1, (K % 8 : Nat)⟩]) w9 H s ∧ Below w7.heap.size w7 w9 ∧ w9.heap[w8.heap.size]? = some (.cells #[.int .i64 0, .slice (some ⟨gr, 0, none⟩) 1 cr, .slice (some ⟨gq, 0, none⟩) 1 cq] 68 (0, 0)) ∧ ¬ s.own H w8.heap.size ∧ ¬ s.own H G) := by
    have hb8 : Below w8.heap.size w8 (w8.alloc (.cells #[.int .i64 0, .slice (some ⟨gr, 0, none⟩) 1 cr, .slice (some ⟨gq, 0, none⟩) 1 cq] 68)) := (Below.refl _ _).alloc (Nat.le_refl _) _
    have h89 := hb8.trans (b9.mono hb8.size)
    have h79 := HB8.out.trans (h89.mono HB8.out.size)
    have hs := HB8.out.size
    refine ⟨HGM.out.1.ga.below h79, h79, (b9.block _ (by simp)).trans (heap_alloc_new _ _), fun ho => ?_, fun ho => (HGM.out.1.own G ho).2 rfl⟩
    have := HGM.out.1.ga.lt ho
    omega
  clear b9 HA HT8 hG7
  have hG9 : w9.cell? ⟨G, 0, none⟩ = some (.pointer (some ⟨H, 0, none⟩)) := (cell_of_heap ((HG9.out.2.1.block G hGl).trans HGM.out.1.g)).trans rfl
  have hGl9 : G < w9.heap.size := Nat.lt_of_lt_of_le hGl HG9.out.2.1.size
  cases yes with
  | true =>
    obtain ⟨p1, p2⟩ := pickI_bound delay (N : Nat) (by omega)
    obtain ⟨D, hD⟩ : ∃ D : Nat, pickI delay (N : Nat) = (D : Nat) := ⟨(pickI delay (N : Nat)).toNat, by omega⟩
    rw [hD] at HDL p1 p2
    have HANS : Hid (Calls Try.prog 36 #[.pointer (some ⟨H, 0, none⟩), .int .i64 1, .int .i64 (K : Nat), .int .i64 (D : Nat)] w9 fun e w' => e = .returned (.bool true) ∧ GTo (askC K N) (1 + 5) (askE D 2 ((K + 1) % 8 : Nat) 1 3) w9 H s w') := by
      refine c_answered (h2 := askH 0 N []) (h3 := askH D N []) 1 (K : Nat) (D : Nat) w9 HG9.out.1.tow (by omega) (by omega) (by omega) (ask_early K N 0 _) ?_ ?_ (ask_other K N D) (ask_yes K N D)
      · have e := ask_drain N 0 ⟨0, 1, 1, (K % 8 : Nat)⟩
        rw [HKM.out] at e ⊢
        exact e
      · by_cases h0 : D = 0
        · subst h0; exact .inr ⟨rfl, rfl⟩
        · exact .inl ⟨by omega, ask_tick K N D (by omega) (by omega) hN2⟩
    clear hD
    go_wp2_with fail
    refine (HDL.out _).mono ?_
    rintro e w10 ⟨rfl, rfl⟩
    go_wp2_with fail
    refine HANS.out.mono ?_
    rintro e w11 ⟨rfl, g11⟩
    have HG11 : Hid (GTo (askC K N) (1 + 5) (askE D 2 ((K + 1) % 8 : Nat) 1 3) w10 H s w11) := g11
    have hG11 : w11.cell? ⟨G, 0, none⟩ = some (.pointer (some ⟨H, 0, none⟩)) := (cell_of_heap ((g11.same hGl9 HG9.out.2.2.2.2).trans ((HG9.out.2.1.block G hGl).trans HGM.out.1.g))).trans rfl
    clear g11 HANS HDL
    go_wp2_with fail
    refine (t_Show _ HG11.out).mono ?_
    rintro e w12 ⟨sv, uv, rfl, hsv, huv, b12⟩
    rw [show (askE D 2 ((K + 1) % 8 : Nat) 1 3).now = (D : Nat) from rfl]
    have hsv2 : w12.ownsRow w11.heap.size 90 5 sv 1 (rnsCells [⟨1, 0, 2, (D : Nat) + 2, 0⟩]) := hsv
    have huv2 : w12.ownsRow w11.heap.size 83 4 uv 1 (msgsCells [⟨0, 1, 2, ((K + 1) % 8 : Nat)⟩]) := huv
    obtain ⟨g2, c2, gq2, cq2, rfl, rfl, _⟩ := look_run (D : Nat) 2 ((K + 1) % 8 : Nat) ((D : Nat) + 2) 0 hsv2 huv2 (by omega)
    have HR2 : Hid (w12.ownsRow w11.heap.size 90 5 (.slice (some ⟨g2, 0, none⟩) 1 c2) 1 (rnsCells [⟨1, 0, 2, (D : Nat) + 2, 0⟩]) ∧ w12.ownsRow w11.heap.size 83 4 (.slice (some ⟨gq2, 0, none⟩) 1 cq2) 1 (msgsCells [⟨0, 1, 2, ((K + 1) % 8 : Nat)⟩]) ∧ Below w11.heap.size w11 w12) := ⟨hsv2, huv2, b12⟩
    have hX9 : w8.heap.size < w10.heap.size := heap_lt HG9.out.2.2.1
    have hX11 := (HG11.out.same hX9 HG9.out.2.2.2.1).trans HG9.out.2.2.1
    have hX12 := (b12.block _ (heap_lt hX11)).trans hX11
    have x0 : w12.cell? ⟨w8.heap.size, 0, none⟩ = some (.int .i64 0) := (cell_of_heap hX12).trans rfl
    have x1 : w12.cell? ⟨w8.heap.size, 1, none⟩ = some (.slice (some ⟨gr, 0, none⟩) 1 cr) := (cell_of_heap hX12).trans rfl
    have x2 : w12.cell? ⟨w8.heap.size, 2, none⟩ = some (.slice (some ⟨gq, 0, none⟩) 1 cq) := (cell_of_heap hX12).trans rfl
    have y0 : w12.frozen? ⟨w8.heap.size, 0, none⟩ = false := free_of_heap hX12
    have y1 : w12.frozen? ⟨w8.heap.size, 1, none⟩ = false := free_of_heap hX12
    have y2 : w12.frozen? ⟨w8.heap.size, 2, none⟩ = false := free_of_heap hX12
    have hXl : w8.heap.size < w12.heap.size := heap_lt hX12
    clear hsv huv hsv2 huv2 b12
    obtain ⟨k1, hk1⟩ : ∃ k1 : Int, ((K : Int) + 1) % 8 = k1 := ⟨_, rfl⟩
    have hk2 : (((K + 1) % 8 : Nat) : Int) = k1 := by omega
    rw [hk2] at HR2 HG11
    clear hk2
    go_wp2_with fail
    have HAL : Hid (Calls Try.prog 35 #[.agg #[.int .i64 (D : Nat), .slice (some ⟨g2, 0, none⟩) 1 c2, .slice (some ⟨gq2, 0, none⟩) 1 cq2], .int .i64 (D : Nat), .int .i64 2, .int .i64 k1, .int .i64 ((D : Nat) + 2), .int .i64 0] (((w12.setCell ⟨w8.heap.size, 0, none⟩ (.int .i64 (D : Nat))).setCell ⟨w8.heap.size, 1, none⟩ (.slice (some ⟨g2, 0, none⟩) 1 c2)).setCell ⟨w8.heap.size, 2, none⟩ (.slice (some ⟨gq2, 0, none⟩) 1 cq2)) fun e w' => e = .returned (.bool true) ∧ Below w2.heap.size w2 w') := by
      have hlt : w8.heap.size < w11.heap.size := heap_lt hX11
      have hk : ∀ k, w11.heap.size ≤ k → (((w12.setCell ⟨w8.heap.size, 0, none⟩ (.int .i64 (D : Nat))).setCell ⟨w8.heap.size, 1, none⟩ (.slice (some ⟨g2, 0, none⟩) 1 c2)).setCell ⟨w8.heap.size, 2, none⟩ (.slice (some ⟨gq2, 0, none⟩) 1 cq2)).heap[k]? = w12.heap[k]? := fun k hk => by
        have hne : k ≠ w8.heap.size := by omega
        rw [Below.heap_setCell _ _ _ _ hne, Below.heap_setCell _ _ _ _ hne, Below.heap_setCell _ _ _ _ hne]
      obtain ⟨a1, a2, a3, a4, e1, e2, hal⟩ := look_run (D : Nat) 2 k1 ((D : Nat) + 2) 0 (own_stays HR2.out.1 fun k hk' => hk k (ownsRow_lies HR2.out.1 hk').1) (own_stays HR2.out.2.1 fun k hk' => hk k (ownsRow_lies HR2.out.2.1 hk').1) (by omega)
      simp only [Value.slice.injEq, Option.some.injEq, Addr.mk.injEq, true_and, and_true] at e1 e2
      obtain ⟨rfl, rfl⟩ := e1
      obtain ⟨rfl, rfl⟩ := e2
      refine (hal _ (Below.refl _ _)).mono ?_
      rintro e w' ⟨rfl, hb⟩
      refine ⟨rfl, ?_⟩
      have s6 := HB6.out.size
      have s7 := HGM.out.2.size
      have s9 := HG9.out.2.1.size
      have f11 : Below w2.heap.size w10 w11 := by
        obtain ⟨_, _, _, _, _, hf⟩ := HG11.out
        exact ⟨hf.os, hf.tape, hf.output, hf.size, fun k hk => hf.block k (by omega) fun ho => by have := (HGM.out.1.own k ho).1; omega⟩
      have c1 := HGM.out.2.trans (HG9.out.2.1.mono s7)
      have c2' := c1.trans f11
      have c3 := c2'.trans (HR2.out.2.2.mono c2'.size)
      have hX2 : w2.heap.size ≤ w8.heap.size := Nat.le_trans s7 HB8.out.size
      have c4 := ((c3.setCell (p := ⟨w8.heap.size, 0, none⟩) hX2 (.int .i64 (D : Nat))).setCell (p := ⟨w8.heap.size, 1, none⟩) hX2 (.slice (some ⟨g2, 0, none⟩) 1 c2)).setCell (p := ⟨w8.heap.size, 2, none⟩) hX2 (.slice (some ⟨gq2, 0, none⟩) 1 cq2)
      exact c4.trans (hb.mono c4.size)
    refine HAL.out.mono ?_
    rintro e w13 ⟨rfl, b13⟩
    have HB13 : Hid (Below w2.heap.size w2 w13) := b13
    clear b13 HAL HR2 x0 x1 x2 y0 y1 y2 hX11 hX12
    go_wp2_with fail
    go_ret
    exact ⟨rfl, HB13.out⟩
  | false =>
    have A1 : Hid (∀ W, GTo (askC K N) 1 (askH 0 N [⟨0, 1, 1, (K % 8 : Nat)⟩]) w9 H s W → Calls Try.prog 37 #[.pointer (some ⟨H, 0, none⟩), .int .i64 0] W fun e w' => e = .returned (.tuple #[.agg #[.int .i64 0, .int .i64 1, .int .i64 1, .int .i64 (K : Nat)], .int .i64 0]) ∧ GTo (askC K N) 2 (askH 0 N []) w9 H s w') := fun W g => by
      have h := t_Drain 0 W g (by omega)
      rw [ask_drain, HKM.out] at h
      exact h
    have A2 : Hid (∀ m w0 s0 W, m ≤ 10 → GTo (askC K N) m (askH 0 N []) w0 H s0 W → Calls Try.prog 33 #[.pointer (some ⟨H, 0, none⟩), .int .i64 (N : Nat)] W fun e w' => e = .returned (.int .i64 0) ∧ GTo (askC K N) (m + 1) (askE N 3 ((K + 2) % 8 : Nat) 1 6) w0 H s0 w') := fun m w0 s0 W hm g => by
      have h := t_Tick (N : Nat) W g (by omega)
      rw [ask_no K N hN1 hN2] at h
      exact h
    have A3 : Hid (∀ m w0 s0 W, m ≤ 10 → GTo (askC K N) m (askE N 3 ((K + 2) % 8 : Nat) 1 6) w0 H s0 W → Calls Try.prog 38 #[.pointer (some ⟨H, 0, none⟩), .int .i64 1, .int .i64 1] W fun e w' => e = .returned (.int .i64 11) ∧ GTo (askC K N) (m + 1) (askE N 3 ((K + 2) % 8 : Nat) 1 6) w0 H s0 w') := fun m w0 s0 W hm g => by
      have h := t_Ack 1 1 W g (by omega)
      rw [ask_late] at h
      exact h
    have HT9 : Hid (GTo (askC K N) 1 (askH 0 N [⟨0, 1, 1, (K % 8 : Nat)⟩]) w9 H s w9) := HG9.out.1.tow
    go_wp2_with fail
    refine (A1.out _ HT9.out).mono ?_
    rintro e w10 ⟨rfl, g10⟩
    have hG10 : w10.heap[G]? = _ := (g10.same hGl9 HG9.out.2.2.2.2).trans ((HG9.out.2.1.block G hGl).trans HGM.out.1.g)
    have hX9 : w8.heap.size < w9.heap.size := heap_lt HG9.out.2.2.1
    have hX10 := (g10.same hX9 HG9.out.2.2.2.1).trans HG9.out.2.2.1
    obtain ⟨i10, s10, hi10, ga10, own10, fr10⟩ := g10
    have H10 : Hid (GA (askC K N) i10 (askH 0 N []) w10 H s10 ∧ (∀ k, s10.own H k → w6.heap.size ≤ k) ∧ ¬ s10.own H w8.heap.size ∧ ¬ s10.own H G ∧ Fr (s.own H) w9 w10 ∧ w10.heap[G]? = some (.cells #[.pointer (some ⟨H, 0, none⟩), cv] 78 (0, 0)) ∧ w10.heap[w8.heap.size]? = some (.cells #[.int .i64 0, .slice (some ⟨gr, 0, none⟩) 1 cr, .slice (some ⟨gq, 0, none⟩) 1 cq] 68 (0, 0))) := by
      have s7 := HGM.out.1.B
      have s9 := HG9.out.2.1.size
      refine ⟨ga10, fun k hk => ?_, fun ho => ?_, fun ho => ?_, fr10, hG10, hX10⟩
      · rcases own10 k hk with h | h
        · exact (HGM.out.1.own k h).1
        · omega
      · rcases own10 _ ho with h | h
        · exact HG9.out.2.2.2.1 h
        · omega
      · rcases own10 _ ho with h | h
        · exact HG9.out.2.2.2.2 h
        · omega
    have hGc : w10.cell? ⟨G, 0, none⟩ = some (.pointer (some ⟨H, 0, none⟩)) := (cell_of_heap hG10).trans rfl
    have hGl10 : G < w10.heap.size := heap_lt hG10
    clear A1 HT9 ga10 own10 fr10 hG10 hX10
    obtain ⟨M, hM⟩ : ∃ M, M = Obj.cells #[.int .i64 0, .int .i64 1, .int .i64 1, .int .i64 (K : Nat)] 83 (0, 0) := ⟨_, rfl⟩
    have HTM : Hid (GTo (askC K N) i10 (askH 0 N []) (w10.alloc M) H s10 (w10.alloc M)) := (H10.out.1.below ((Below.refl _ _).alloc (Nat.le_refl _) _)).tow
    rw [hM] at HTM
    have HKP : Hid (∀ m h W, GTo (askC K N) m h (w10.alloc (.cells #[.int .i64 0, .int .i64 1, .int .i64 1, .int .i64 (K : Nat)] 83)) H s10 W → W.heap[G]? = some (.cells #[.pointer (some ⟨H, 0, none⟩), cv] 78 (0, 0)) ∧ W.heap[w8.heap.size]? = some (.cells #[.int .i64 0, .slice (some ⟨gr, 0, none⟩) 1 cr, .slice (some ⟨gq, 0, none⟩) 1 cq] 68 (0, 0)) ∧ W.heap[w10.heap.size]? = some (.cells #[.int .i64 0, .int .i64 1, .int .i64 1, .int .i64 (K : Nat)] 83 (0, 0))) := fun m h W g => by
      have hGl' := heap_lt H10.out.2.2.2.2.2.1
      have hXl' := heap_lt H10.out.2.2.2.2.2.2
      refine ⟨(g.same (by simp; omega) H10.out.2.2.2.1).trans ((Below.heap_alloc _ _ _ hGl').trans H10.out.2.2.2.2.2.1), (g.same (by simp; omega) H10.out.2.2.1).trans ((Below.heap_alloc _ _ _ hXl').trans H10.out.2.2.2.2.2.2), (g.same (by simp) fun ho => ?_).trans (heap_alloc_new _ _)⟩
      have := H10.out.1.lt ho
      omega
    clear hM
    go_wp2_with fail
    refine (A2.out _ _ _ _ (by omega) HTM.out).mono ?_
    rintro e w11 ⟨rfl, g11⟩
    have HG11 := Hid.out (p := GTo _ _ _ _ _ _ _) g11
    have hGc11 : w11.cell? ⟨G, 0, none⟩ = some (.pointer (some ⟨H, 0, none⟩)) := (cell_of_heap (HKP.out _ _ _ g11).1).trans rfl
    have HT11 : Hid (GTo _ _ _ _ _ _ w11) := g11
    clear g11 HG11 A2 HTM
    go_wp2_with fail
    refine (A3.out _ _ _ _ (by omega) HT11.out).mono ?_
    rintro e w12 ⟨rfl, g12⟩
    have hGc12 : w12.cell? ⟨G, 0, none⟩ = some (.pointer (some ⟨H, 0, none⟩)) := (cell_of_heap (HKP.out _ _ _ g12).1).trans rfl
    have HT12 : Hid (GTo _ _ _ _ _ _ w12) := g12
    clear g12 A3 HT11
    go_wp2_with fail
    refine (t_Show _ HT12.out).mono ?_
    rintro e w13 ⟨sv, uv, rfl, hsv, huv, b13⟩
    rw [show (askE N 3 ((K + 2) % 8 : Nat) 1 6).now = (N : Nat) from rfl]
    have hsv2 : w13.ownsRow w12.heap.size 90 5 sv 1 (rnsCells [⟨1, 0, 2, (N : Nat) + 3, 0⟩]) := hsv
    have huv2 : w13.ownsRow w12.heap.size 83 4 uv 1 (msgsCells [⟨0, 1, 2, ((K + 2) % 8 : Nat)⟩]) := huv
    obtain ⟨g2, c2, gq2, cq2, rfl, rfl, _⟩ := look_run (N : Nat) 2 ((K + 2) % 8 : Nat) ((N : Nat) + 3) 0 hsv2 huv2 (by omega)
    have HR2 : Hid (w13.ownsRow w12.heap.size 90 5 (.slice (some ⟨g2, 0, none⟩) 1 c2) 1 (rnsCells [⟨1, 0, 2, (N : Nat) + 3, 0⟩]) ∧ w13.ownsRow w12.heap.size 83 4 (.slice (some ⟨gq2, 0, none⟩) 1 cq2) 1 (msgsCells [⟨0, 1, 2, ((K + 2) % 8 : Nat)⟩]) ∧ Below w12.heap.size w12 w13) := ⟨hsv2, huv2, b13⟩
    have hX12 := (HKP.out _ _ _ HT12.out).2.1
    have hY12 := (HKP.out _ _ _ HT12.out).2.2
    have hX13 := (b13.block _ (heap_lt hX12)).trans hX12
    have hY13 := (b13.block _ (heap_lt hY12)).trans hY12
    have HXY : Hid (w8.heap.size < w12.heap.size ∧ w10.heap.size < w12.heap.size ∧ w8.heap.size < w10.heap.size ∧ w13.heap[w10.heap.size]? = some (.cells #[.int .i64 0, .int .i64 1, .int .i64 1, .int .i64 (K : Nat)] 83 (0, 0))) := ⟨heap_lt hX12, heap_lt hY12, heap_lt H10.out.2.2.2.2.2.2, hY13⟩
    have x0 : w13.cell? ⟨w8.heap.size, 0, none⟩ = some (.int .i64 0) := (cell_of_heap hX13).trans rfl
    have x1 : w13.cell? ⟨w8.heap.size, 1, none⟩ = some (.slice (some ⟨gr, 0, none⟩) 1 cr) := (cell_of_heap hX13).trans rfl
    have x2 : w13.cell? ⟨w8.heap.size, 2, none⟩ = some (.slice (some ⟨gq, 0, none⟩) 1 cq) := (cell_of_heap hX13).trans rfl
    have y0 : w13.frozen? ⟨w8.heap.size, 0, none⟩ = false := free_of_heap hX13
    have y1 : w13.frozen? ⟨w8.heap.size, 1, none⟩ = false := free_of_heap hX13
    have y2 : w13.frozen? ⟨w8.heap.size, 2, none⟩ = false := free_of_heap hX13
    have hXl : w8.heap.size < w13.heap.size := heap_lt hX13
    clear hsv huv hsv2 huv2 b13 hX12 hY12 hX13 hY13
    obtain ⟨k1, hk1⟩ : ∃ k1 : Int, ((K : Int) + 2) % 8 = k1 := ⟨_, rfl⟩
    have hk2 : (((K + 2) % 8 : Nat) : Int) = k1 := by omega
    rw [hk2] at HR2 HT12
    clear hk2
    go_wp2_with fail
    have HAL : Hid (Calls Try.prog 35 #[.agg #[.int .i64 (N : Nat), .slice (some ⟨g2, 0, none⟩) 1 c2, .slice (some ⟨gq2, 0, none⟩) 1 cq2], .int .i64 (N : Nat), .int .i64 2, .int .i64 k1, .int .i64 ((N : Nat) + 3), .int .i64 0] (((w13.setCell ⟨w8.heap.size, 0, none⟩ (.int .i64 (N : Nat))).setCell ⟨w8.heap.size, 1, none⟩ (.slice (some ⟨g2, 0, none⟩) 1 c2)).setCell ⟨w8.heap.size, 2, none⟩ (.slice (some ⟨gq2, 0, none⟩) 1 cq2)) fun e w' => e = .returned (.bool true) ∧ Below w2.heap.size w2 w' ∧ w'.heap[w10.heap.size]? = some (.cells #[.int .i64 0, .int .i64 1, .int .i64 1, .int .i64 (K : Nat)] 83 (0, 0))) := by
      have hk : ∀ k, k ≠ w8.heap.size → (((w13.setCell ⟨w8.heap.size, 0, none⟩ (.int .i64 (N : Nat))).setCell ⟨w8.heap.size, 1, none⟩ (.slice (some ⟨g2, 0, none⟩) 1 c2)).setCell ⟨w8.heap.size, 2, none⟩ (.slice (some ⟨gq2, 0, none⟩) 1 cq2)).heap[k]? = w13.heap[k]? := fun k hne => by
        rw [Below.heap_setCell _ _ _ _ hne, Below.heap_setCell _ _ _ _ hne, Below.heap_setCell _ _ _ _ hne]
      have hlt := HXY.out.1
      have hxy := HXY.out.2.2.1
      obtain ⟨a1, a2, a3, a4, e1, e2, hal⟩ := look_run (N : Nat) 2 k1 ((N : Nat) + 3) 0 (own_stays HR2.out.1 fun k hk' => hk k (by have := (ownsRow_lies HR2.out.1 hk').1; omega)) (own_stays HR2.out.2.1 fun k hk' => hk k (by have := (ownsRow_lies HR2.out.2.1 hk').1; omega)) (by omega)
      simp only [Value.slice.injEq, Option.some.injEq, Addr.mk.injEq, true_and, and_true] at e1 e2
      obtain ⟨rfl, rfl⟩ := e1
      obtain ⟨rfl, rfl⟩ := e2
      refine (hal _ (Below.refl _ _)).mono ?_
      rintro e w' ⟨rfl, hb⟩
      have hY := (hk w10.heap.size (by omega)).trans HXY.out.2.2.2
      refine ⟨rfl, ?_, (hb.block _ (heap_lt hY)).trans hY⟩
      have s6 := HB6.out.size
      have s7 := HGM.out.2.size
      have s9 := HG9.out.2.1.size
      have s10 := H10.out.2.2.2.2.1.size
      have f10 : Below w2.heap.size w9 w10 := ⟨H10.out.2.2.2.2.1.os, H10.out.2.2.2.2.1.tape, H10.out.2.2.2.2.1.output, s10, fun k hk => H10.out.2.2.2.2.1.block k (by omega) fun ho => by have := (HGM.out.1.own k ho).1; omega⟩
      have f12 : Below w2.heap.size (w10.alloc (.cells #[.int .i64 0, .int .i64 1, .int .i64 1, .int .i64 (K : Nat)] 83)) w12 := by
        obtain ⟨_, _, _, _, _, hf⟩ := HT12.out
        exact ⟨hf.os, hf.tape, hf.output, hf.size, fun k hk => hf.block k (by simp; omega) fun ho => by have := H10.out.2.1 k ho; omega⟩
      have c1 := (HGM.out.2.trans (HG9.out.2.1.mono s7)).trans f10
      have c2' := (c1.alloc c1.size (.cells #[.int .i64 0, .int .i64 1, .int .i64 1, .int .i64 (K : Nat)] 83)).trans f12
      have c3 := c2'.trans (HR2.out.2.2.mono c2'.size)
      have hX2 : w2.heap.size ≤ w8.heap.size := Nat.le_trans s7 HB8.out.size
      have c4 := ((c3.setCell (p := ⟨w8.heap.size, 0, none⟩) hX2 (.int .i64 (N : Nat))).setCell (p := ⟨w8.heap.size, 1, none⟩) hX2 (.slice (some ⟨g2, 0, none⟩) 1 c2)).setCell (p := ⟨w8.heap.size, 2, none⟩) hX2 (.slice (some ⟨gq2, 0, none⟩) 1 cq2)
      exact c4.trans (hb.mono c4.size)
    refine HAL.out.mono ?_
    rintro e w14 ⟨rfl, b14, hY⟩
    have HB14 : Hid (Below w2.heap.size w2 w14) := b14
    have v0 : w14.cell? ⟨w10.heap.size, 0, none⟩ = some (.int .i64 0) := (cell_of_heap hY).trans rfl
    have v1 : w14.cell? ⟨w10.heap.size, 1, none⟩ = some (.int .i64 1) := (cell_of_heap hY).trans rfl
    have v2 : w14.cell? ⟨w10.heap.size, 2, none⟩ = some (.int .i64 1) := (cell_of_heap hY).trans rfl
    have v3 : w14.cell? ⟨w10.heap.size, 3, none⟩ = some (.int .i64 (K : Nat)) := (cell_of_heap hY).trans rfl
    clear b14 hY HAL HR2 x0 x1 x2 y0 y1 y2
    go_wp2_with fail
    go_ret
    exact ⟨rfl, HB14.out⟩
end Go.Proofs.Ytmmmnghiegajmaa
