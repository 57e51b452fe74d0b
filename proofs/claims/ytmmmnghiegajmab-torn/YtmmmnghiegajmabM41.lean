import Derived.Test.YtmmmnghiegajmabM07
import Derived.Test.YtmmmnghiegajmabM10
import Derived.Test.YtmmmnghiegajmabM29
import Derived.Test.YtmmmnghiegajmabM37
import Derived.Test.YtmmmnghiegajmabM40
import Derived.Test.YtmmmnghiegajmabM38
/- The law Ended is walked. -/
namespace Go.Proofs.Ytmmmnghiegajmab
open Go.RowKit Go.Proofs.Herald
/-- A step of a script. -/
structure OpK where
  k : Int
  a : Int
  b : Int
/-- A script that lies in memory. -/
def OpsIn (w : World) (a : Option Addr) (b off : Nat) (ops : List OpK) : Prop := 0 < ops.length → a = some ⟨b, off, none⟩ ∧ b < w.heap.size ∧ ∀ i (h : i < ops.length), w.cell? ⟨b, off + i * 3, none⟩ = some (.int .i64 ops[i].k) ∧ w.cell? ⟨b, off + i * 3 + 1, none⟩ = some (.int .i64 ops[i].a) ∧ w.cell? ⟨b, off + i * 3 + 2, none⟩ = some (.int .i64 ops[i].b)
/-- From an older time on. -/
theorem KS.of_game {B : Nat} {cs : List Ins} {i : Nat} {h : Her Pr} {w0 w1 w : World} {G H : Nat} {cv : Value} {s : HS} (g : Game w1.heap.size cs i h w G H cv s) (h01 : Below B w0 w1) (hb : Below w1.heap.size w1 w) (hB : B ≤ w1.heap.size) : KS B cs i h w0 H (fun k => k = G) w :=
  ⟨i, s, Nat.le_refl _, g.ga, fun k hk => ⟨by have := (g.own k hk).1; omega, (g.own k hk).2⟩, fun k hk => by rw [hk]; exact heap_lt g.g, h01.trans (hb.mono hB), by have := hb.size; omega⟩
end Go.Proofs.Ytmmmnghiegajmab
/- A herald that is played with, and the messages that it handed out, from step to step. -/
namespace Go.Proofs.Herald
theorem drain_no {h : Her Pr} {dev : Int} (hk : (drainH h dev).2.1 ≠ 0) : (drainH h dev).2.2 = h := by
  unfold drainH at hk ⊢
  split
  · rfl
  · rename_i hd
    rw [if_neg hd] at hk
    cases hq : h.qs dev.toNat with
    | nil => rfl
    | cons m r => rw [hq] at hk; exact absurd rfl hk
theorem trig_ok {R : Type} {E : Eng R} {h : Her R} {dev : Int} (hk : (trigH E h dev).2.1 = 0) : (trigH E h dev).1 = h.last + 1 ∧ (trigH E h dev).2.2.last = h.last + 1 := by
  unfold trigH at hk ⊢
  split at hk
  · cases hk
  · rename_i h1
    rw [if_neg h1]
    split at hk
    · cases hk
    · rename_i h2
      rw [if_neg h2]
      exact ⟨rfl, rfl⟩
theorem trig_no {R : Type} {E : Eng R} {h : Her R} {dev : Int} (hk : (trigH E h dev).2.1 ≠ 0) : (trigH E h dev).2.2 = h := by
  unfold trigH at hk ⊢
  split
  · rfl
  · rename_i h1
    rw [if_neg h1] at hk
    split
    · rfl
    · rename_i h2
      rw [if_neg h2] at hk
      exact absurd rfl hk
end Go.Proofs.Herald
namespace Go.Proofs.Ytmmmnghiegajmab
open Go.RowKit Go.Proofs.Herald
/-- What was handed out, and the herald. -/
structure BS (O : List Msg) (last : Int) (h : Her Pr) : Prop where
  hb : HB O h
  ht : HT h
  last : h.last = last
/-- What a step leaves. -/
structure PlayB (O : List Msg) (last k a : Int) (P : (Int × Msg × Int) × Her Pr) : Prop where
  bs : BS (if k = 5 ∧ P.1.2.2 = 0 then O ++ [P.1.2.1] else O) (if k = 1 ∧ P.1.2.2 = 0 then last + 1 else last) P.2
  trig : k = 1 → P.1.2.2 = 0 → P.1.1 = last + 1
  drain : k = 5 → P.1.2.2 = 0 → fineM a P.1.2.1 ∧ P.1.2.1.run ≤ last ∧ ∀ o ∈ O, olderM o P.1.2.1
theorem ks_ok {B : Nat} {cs : List Ins} {m : Nat} {h : Her Pr} {w0 w : World} {H : Nat} {F : Nat → Prop} (g : KS B cs m h w0 H F w) : ∃ C, HOk (machE cs) (goodM cs) C h ∧ EngOk (machE cs) (goodM cs) ∧ (∀ x ∈ cs, soundI cs.length x = true) := by
  obtain ⟨i, s, h1, h2, _⟩ := g
  have hs := h2.snd
  refine ⟨_, h2.ok, h2.eng, ?_⟩
  unfold soundL at hs
  rw [Bool.and_eq_true] at hs
  exact List.all_eq_true.mp hs.2
theorem BS.play {cs : List Ins} {C : Int} {O : List Msg} {last : Int} {h : Her Pr} (hk : HOk (machE cs) (goodM cs) C h) (hE : EngOk (machE cs) (goodM cs)) (hall : ∀ x ∈ cs, soundI cs.length x = true) (b : BS O last h) (k a c : Int) : PlayB O last k a (playH cs h k a c) := by
  have ids : ∀ r ∈ h.rs, r.id ≤ h.last := fun r hr => hk.id r hr
  unfold playH
  by_cases h1 : k = 1
  · rw [if_pos h1]
    by_cases he : (trigH (machE cs) h a).2.1 = 0
    · have ht := trig_ok he
      refine ⟨?_, fun _ _ => by rw [← b.last]; exact ht.1, fun h5 => by omega⟩
      rw [if_neg (by rintro ⟨h5, _⟩; omega), if_pos ⟨h1, he⟩]
      exact ⟨b.hb.trig hall ids hk.last0 a, b.ht.trig hE hk a, by rw [← b.last]; exact ht.2⟩
    · refine ⟨?_, fun _ h0 => absurd h0 he, fun h5 => by omega⟩
      rw [if_neg (by rintro ⟨h5, _⟩; omega), if_neg (by rintro ⟨_, h0⟩; exact he h0)]
      show BS O last (trigH (machE cs) h a).2.2
      rw [trig_no he]
      exact b
  rw [if_neg h1]
  by_cases h2 : k = 2
  · rw [if_pos h2]
    refine ⟨?_, fun h => absurd h h1, fun h5 => by omega⟩
    rw [if_neg (by rintro ⟨h5, _⟩; omega), if_neg (by rintro ⟨h5, _⟩; exact h1 h5)]
    refine ⟨b.hb.tick hall hE hk a, b.ht.tick (fun n hn => ?_) a, by rw [← b.last]; exact (HOk.tick hE hk a).2⟩
    have h3 : h.now + n ≤ 1000000000 := by omega
    have h0 := hk.now0
    have hms : msR (machE cs) (h.now + n) h.rs ≤ 5000 := by
      have h1 := msR_small (E := machE cs) (en := h.now + n) (t := h.now) 1000 (by omega) h.rs (fun r hr => (hk.til r hr).1)
      have h2 := hk.len
      have : h.rs.length * 1000 ≤ 5 * 1000 := Nat.mul_le_mul_right _ h2
      omega
    obtain ⟨k1, k2, k3⟩ := HOk.tickN hE (h.now + n) h3 5000 hk (by omega) hms
    exact k2
  rw [if_neg h2]
  by_cases h3 : k = 3
  · rw [if_pos h3]
    refine ⟨?_, fun h => absurd h h1, fun h5 => by omega⟩
    rw [if_neg (by rintro ⟨h5, _⟩; omega), if_neg (by rintro ⟨h5, _⟩; exact h1 h5)]
    exact ⟨b.hb.ack hall hk a c, b.ht.ack hE hk a c, by rw [← b.last]; exact ack_last _ _⟩
  rw [if_neg h3]
  by_cases h4 : k = 4
  · rw [if_pos h4]
    refine ⟨?_, fun h => absurd h h1, fun h5 => by omega⟩
    rw [if_neg (by rintro ⟨h5, _⟩; omega), if_neg (by rintro ⟨h5, _⟩; exact h1 h5)]
    exact ⟨b.hb.cancel a, b.ht.cancel a, by rw [← b.last]; exact cancel_last _⟩
  rw [if_neg h4]
  by_cases h5 : k = 5
  · rw [if_pos h5]
    by_cases he : (drainH h a).2.1 = 0
    · obtain ⟨d1, d2, d3, d4⟩ := b.hb.drain a he
      refine ⟨?_, fun h => absurd h h1, fun _ _ => ⟨d2, by rw [← b.last]; exact d3, d4⟩⟩
      rw [if_pos ⟨h5, he⟩, if_neg (by rintro ⟨h5, _⟩; exact h1 h5)]
      exact ⟨d1, b.ht.drain a, by rw [← b.last]; exact drain_last _⟩
    · refine ⟨?_, fun h => absurd h h1, fun _ h0 => absurd h0 he⟩
      rw [if_neg (by rintro ⟨_, h0⟩; exact he h0), if_neg (by rintro ⟨h5, _⟩; exact h1 h5)]
      show BS O last (drainH h a).2.2
      rw [drain_no he]
      exact b
  rw [if_neg h5]
  refine ⟨?_, fun h => absurd h h1, fun h => absurd h h5⟩
  rw [if_neg (by rintro ⟨h, _⟩; exact h5 h), if_neg (by rintro ⟨h, _⟩; exact h1 h)]
  exact b
/-- A herald's state is sane. -/
theorem BS.sane {cs : List Ins} {C : Int} {O : List Msg} {last : Int} {h : Her Pr} (hk : HOk (machE cs) (goodM cs) C h) (b : BS O last h) : SaneOk h.now (h.rs.map pubP) (h.qs 0 ++ h.qs 1 ++ h.qs 2) := by
  refine ⟨by rw [List.length_map]; exact hk.len, ?_, fun r hr => ?_, ?_, b.hb.all.1, b.hb.all.2, fun d => b.hb.cnt hk.qlen d⟩
  · have h0 := hk.qlen 0
    have h1 := hk.qlen 1
    have h2 := hk.qlen 2
    simp only [List.length_append]
    omega
  · obtain ⟨p, hp, rfl⟩ := List.mem_map.mp hr
    exact ⟨b.ht p hp, (b.hb.num p hp).2⟩
  · rw [List.pairwise_map]
    exact b.hb.ids
/-- In memory, behind m calls: the herald, and beside it the messages that it handed out. -/
def BW (w0 : World) (cs : List Ins) (m : Nat) (G H : Nat) (cv : Value) (last : Int) (n : Nat) (ov : Value) (W : World) : Prop :=
  ∃ h O, KS w0.heap.size cs m h w0 H (fun k => k = G ∨ ov.ownBlock = some k) W ∧ W.heap[G]? = some (.cells #[.pointer (some ⟨H, 0, none⟩), cv] 38 (0, 0)) ∧ BS O last h ∧ W.ownsRow w0.heap.size 30 4 ov n (msgsCells O) ∧ O.length = n ∧ n ≤ m ∧ ov.ownBlock ≠ some G
theorem own_slice {w : World} {B k n : Nat} {e : TypeId} {v : Value} {xs : List Value} (h : w.ownsRow B e k v n xs) : ∃ a c, v = .slice a n c := by
  rcases h.2 with ⟨rfl, rfl⟩ | ⟨g, c, _, rfl, _⟩
  · exact ⟨none, 0, rfl⟩
  · exact ⟨_, c, rfl⟩
theorem own_zero {w : World} {B k n : Nat} {e : TypeId} {v : Value} {xs : List Value} (h : w.ownsRow B e k v n xs) : w.ownsRow 0 e k v n xs := by
  rcases h with ⟨h0, h | ⟨g, c, cur, h1, h2, h3⟩⟩
  · exact ⟨h0, .inl h⟩
  · exact ⟨h0, .inr ⟨g, c, cur, h1, Nat.zero_le _, h3⟩⟩
theorem own_keepB {w w' : World} {B k n : Nat} {e : TypeId} {v : Value} {xs : List Value} (h : w.ownsRow B e k v n xs) (hk : ∀ b, v.ownBlock = some b → w'.heap[b]? = w.heap[b]?) : w'.ownsRow B e k v n xs := by
  rcases h with ⟨h0, h | ⟨g, c, cur, h1, h2, h3, h4⟩⟩
  · exact ⟨h0, .inl h⟩
  · refine ⟨h0, .inr ⟨g, c, cur, h1, h2, ?_, h4⟩⟩
    rw [hk g (by rw [h1]; rfl)]
    exact h3
/-- Show, of such a herald: what it hands out is sane. -/
theorem bw_Show {w0 : World} {cs : List Ins} {m G H : Nat} {cv : Value} {last : Int} {n : Nat} {ov : Value} (W : World) (b : BW w0 cs m G H cv last n ov W) :
    Calls Try.prog 10 #[.pointer (some ⟨H, 0, none⟩)] W fun e w' => ∃ (now : Int) (rs : List Rn) (Q : List Msg) (ra qa : Option Addr) (rc qc : Nat), e = .returned (.agg #[.int .i64 now, .slice ra rs.length rc, .slice qa Q.length qc]) ∧ SaneOk now rs Q ∧ w'.ownsRow 0 82 5 (.slice ra rs.length rc) rs.length (rnsCells rs) ∧ w'.ownsRow 0 30 4 (.slice qa Q.length qc) Q.length (msgsCells Q) ∧ Below W.heap.size W w' := by
  obtain ⟨h, O, ks, _, bs, _⟩ := b
  obtain ⟨C, hk, _, _⟩ := ks_ok ks
  refine (ks_Show W ks).mono ?_
  rintro e w' ⟨sv, uv, rfl, h1, h2, h3⟩
  obtain ⟨ra, rc, rfl⟩ := own_slice h1
  obtain ⟨qa, qc, rfl⟩ := own_slice h2
  have el : (h.rs.map pubP).length = h.rs.length := List.length_map ..
  exact ⟨h.now, h.rs.map pubP, h.qs 0 ++ h.qs 1 ++ h.qs 2, ra, qa, rc, qc, by rw [el], bs.sane hk, by rw [el]; exact own_zero h1, own_zero h2, h3⟩
theorem BW.below {w0 : World} {cs : List Ins} {m G H : Nat} {cv : Value} {last : Int} {n : Nat} {ov : Value} {W W' : World} (b : BW w0 cs m G H cv last n ov W) (hb : Below W.heap.size W W') : BW w0 cs m G H cv last n ov W' := by
  obtain ⟨h, O, ks, hG, bs, row, ho⟩ := b
  refine ⟨h, O, ks.below hb, (hb.block G (heap_lt hG)).trans hG, bs, own_keepB row fun k hk => ?_, ho⟩
  obtain ⟨c, hc⟩ := own_block (own_zero row) hk
  exact hb.block k (heap_lt hc)
end Go.Proofs.Ytmmmnghiegajmab
/- A step is played beside the messages that were handed out. -/
namespace Go.Proofs.Herald
open Go.RowKit
/-- One element is appended to a long row of the call's own; the element lies in a block that was just made. -/
theorem wpList_push_big {P : Program} {ops : Array Oper} {rest : List Oper} {o : Oper} {a : Act} {Q : Exit → Act → World → Prop} (w : World)
    (hgd : o.guard = none) (s x : Operand) (t : TypeId)
    (ho : o.op = .call { callee := .builtin .append, args := #[s, x], argTypes := #[t, t] })
    (e : TypeId) (z : Value) (size bytes : Nat) (ht : P.underlying t = some (.slice e))
    (hinfo : (P.info? e).map (fun i => (i.zero, i.size, i.bytes)) = some (some z, size, bytes))
    (hzs : z.cells.size = size) (hsz : 0 < size) (hby : bytes ≤ 1000)
    (B : Nat) (v : Value) (n : Nat) (xs : List Value) (hs : a.eval s = v) (hown : w.ownsRow B e size v n xs)
    (cs : List Value) (hx : a.eval x = .slice (some ⟨w.heap.size, 0, none⟩) 1 1) (hl : cs.length = size) (h1 : ∀ u ∈ cs, u.oneCell' = true)
    (hn : n ≤ 100000000) (hB : B ≤ w.heap.size)
    (h : ∀ g cap w', w'.ownsRow B e size (.slice (some ⟨g, 0, none⟩) (n + 1) cap) (n + 1) (xs ++ cs) → w.grownBy w' v.ownBlock → (v.ownBlock = some g ∨ w.heap.size ≤ g) → wpList P ops Q rest (a.put o.dst (.slice (some ⟨g, 0, none⟩) (n + 1) cap)) w') :
    wpList P ops Q (o :: rest) a (w.alloc (.cells cs.toArray e)) := by
  obtain ⟨i0, hi, hz0, hz1, hz2⟩ := info_parts hinfo
  have hz : (w.alloc (.cells cs.toArray e)).heap.size = w.heap.size + 1 := by simp
  refine wpList_append_lies _ hgd s x t ho B e i0 z size bytes ht hi hz0 hz1 hz2 hzs hsz v n xs hs (hown.alloc _) ⟨w.heap.size, 0, none⟩ 1 1 cs hx (by omega) (fun j u hj => World.news_of_block (heap_alloc_new w (.cells cs.toArray e)) j u (by simpa using hj)) h1 (by omega) ?_ ?_ (by omega) _ rfl ?_
  · unfold maxLen; omega
  · have : (n + 1) * bytes ≤ 100000001 * 1000 := Nat.mul_le_mul (by omega) hby
    omega
  · intro g cap w' h2 h3 h4 _
    refine h g cap w' h2 ⟨h3.os, h3.tape, h3.output, by have := h3.size; omega, fun k hk hr => ?_⟩ ?_
    · rw [h3.block k (by omega) hr]
      exact Below.heap_alloc _ _ _ hk
    · rcases h4 with h4 | h4
      · exact .inl h4
      · exact .inr (by omega)
end Go.Proofs.Herald
namespace Go.Proofs.Ytmmmnghiegajmab
open Go.RowKit Go.Proofs.Herald
/-- Behind a step: what it answered, P; the messages that were handed out ahead of it, beside. -/
def BP (w0 : World) (cs : List Ins) (m : Nat) (G H : Nat) (cv : Value) (last : Int) (n : Nat) (ov : Value) (k a : Int) (P : Int × Msg × Int) (W : World) : Prop :=
  ∃ h O, KS w0.heap.size cs m h w0 H (fun k => k = G ∨ ov.ownBlock = some k) W ∧ W.heap[G]? = some (.cells #[.pointer (some ⟨H, 0, none⟩), cv] 38 (0, 0)) ∧ PlayB O last k a (P, h) ∧ W.ownsRow w0.heap.size 30 4 ov n (msgsCells O) ∧ O.length = n ∧ n + 1 ≤ m ∧ ov.ownBlock ≠ some G
theorem BP.below {w0 : World} {cs : List Ins} {m G H : Nat} {cv : Value} {last : Int} {n : Nat} {ov : Value} {k a : Int} {P : Int × Msg × Int} {W W' : World} (b : BP w0 cs m G H cv last n ov k a P W) (hb : Below W.heap.size W W') : BP w0 cs m G H cv last n ov k a P W' := by
  obtain ⟨h, O, ks, hG, bs, row, ho⟩ := b
  refine ⟨h, O, ks.below hb, (hb.block G (heap_lt hG)).trans hG, bs, own_keepB row fun k hk => ?_, ho⟩
  obtain ⟨c, hc⟩ := own_block (own_zero row) hk
  exact hb.block k (heap_lt hc)
theorem BP.no {w0 : World} {cs : List Ins} {m G H : Nat} {cv : Value} {last : Int} {n : Nat} {ov : Value} {k a : Int} {P : Int × Msg × Int} {W : World} (b : BP w0 cs m G H cv last n ov k a P W) (h5 : ¬ (k = 5 ∧ P.2.2 = 0)) (h1 : ¬ (k = 1 ∧ P.2.2 = 0)) : BW w0 cs m G H cv last n ov W := by
  obtain ⟨h, O, ks, hG, bs, row, hn, hm, ho⟩ := b
  have := bs.bs
  rw [if_neg h5, if_neg h1] at this
  exact ⟨h, O, ks, hG, this, row, hn, by omega, ho⟩
theorem BP.trig {w0 : World} {cs : List Ins} {m G H : Nat} {cv : Value} {last : Int} {n : Nat} {ov : Value} {k a : Int} {P : Int × Msg × Int} {W : World} (b : BP w0 cs m G H cv last n ov k a P W) (h1 : k = 1) (h0 : P.2.2 = 0) : BW w0 cs m G H cv (last + 1) n ov W ∧ P.1 = last + 1 := by
  obtain ⟨h, O, ks, hG, bs, row, hn, hm, ho⟩ := b
  have h2 := bs.bs
  rw [if_neg (by rintro ⟨h5, _⟩; omega), if_pos ⟨h1, h0⟩] at h2
  exact ⟨⟨h, O, ks, hG, h2, row, hn, by omega, ho⟩, bs.trig h1 h0⟩
/-- A step is played. -/
theorem bw_play {w0 : World} {cs : List Ins} {m G H : Nat} {cv : Value} {last : Int} {n : Nat} {ov : Value} {w : World} (b : BW w0 cs m G H cv last n ov w) (k a c : Int) (hm : m ≤ 1500000) (W : World) (hs : SameH w W) :
    Calls Try.prog 8 #[.pointer (some ⟨H, 0, none⟩), .agg #[.int .i64 k, .int .i64 a, .int .i64 c]] W fun e w' => ∃ P : Int × Msg × Int, e = .returned (.agg #[.int .i64 P.1, .int .i64 P.2.1.dev, .int .i64 P.2.1.run, .int .i64 P.2.1.num, .int .i64 P.2.1.key, .int .i64 P.2.2]) ∧ BP w0 cs (m + 1) G H cv last n ov k a P w' := by
  obtain ⟨h, O, ks, hG, bs, row, hn, hm2, ho⟩ := b
  obtain ⟨C, hk, hE, hall⟩ := ks_ok ks
  refine (c_play k a c W (ks.same hs) hm).mono ?_
  rintro e w' ⟨rfl, g1, g2⟩
  refine ⟨(playH cs h k a c).1, rfl, (playH cs h k a c).2, O, g1, ?_, bs.play hk hE hall k a c, own_keepB row fun b hb => ?_, hn, by omega, ho⟩
  · rw [g2 G (.inl rfl), hs.heap]
    exact hG
  · rw [g2 b (.inr hb), hs.heap]
/-- The same, where the block that takes the answer in was made ahead. -/
theorem bw_play2 {w0 : World} {cs : List Ins} {m G H : Nat} {cv : Value} {last : Int} {n : Nat} {ov : Value} {w : World} (b : BW w0 cs m G H cv last n ov w) (k a c : Int) (hm : m ≤ 1500000) (W : World) (hs : SameH (w.alloc (.cells #[.int .i64 0, .int .i64 0, .int .i64 0, .int .i64 0, .int .i64 0, .int .i64 0] 33)) W) :
    Calls Try.prog 8 #[.pointer (some ⟨H, 0, none⟩), .agg #[.int .i64 k, .int .i64 a, .int .i64 c]] W fun e w' => ∃ P : Int × Msg × Int, e = .returned (.agg #[.int .i64 P.1, .int .i64 P.2.1.dev, .int .i64 P.2.1.run, .int .i64 P.2.1.num, .int .i64 P.2.1.key, .int .i64 P.2.2]) ∧
      w'.heap[w.heap.size]? = some (.cells #[.int .i64 0, .int .i64 0, .int .i64 0, .int .i64 0, .int .i64 0, .int .i64 0] 33 (0, 0)) ∧ ∀ o1 o2 o3 o4 o5 o6, BP w0 cs (m + 1) G H cv last n ov k a P ((((((w'.setCell ⟨w.heap.size, 0, none⟩ o1).setCell ⟨w.heap.size, 1, none⟩ o2).setCell ⟨w.heap.size, 2, none⟩ o3).setCell ⟨w.heap.size, 3, none⟩ o4).setCell ⟨w.heap.size, 4, none⟩ o5).setCell ⟨w.heap.size, 5, none⟩ o6) := by
  obtain ⟨h, O, ks, hG, bs, row, hn, hm2, ho⟩ := b
  obtain ⟨C, hk, hE, hall⟩ := ks_ok ks
  have kz := (ks.new (.cells #[.int .i64 0, .int .i64 0, .int .i64 0, .int .i64 0, .int .i64 0, .int .i64 0] 33)).same hs
  have hB := ks.B
  have hGl := heap_lt hG
  refine (c_play k a c W kz hm).mono ?_
  rintro e w' ⟨rfl, g1, g2⟩
  have hz : w'.heap[w.heap.size]? = some (.cells #[.int .i64 0, .int .i64 0, .int .i64 0, .int .i64 0, .int .i64 0, .int .i64 0] 33 (0, 0)) := (g2 _ (.inl rfl)).trans (by rw [hs.heap]; exact heap_alloc_new _ _)
  have hg : w'.heap[G]? = some (.cells #[.pointer (some ⟨H, 0, none⟩), cv] 38 (0, 0)) := (g2 G (.inr (.inl rfl))).trans (by rw [hs.heap, Below.heap_alloc _ _ _ hGl]; exact hG)
  refine ⟨(playH cs h k a c).1, rfl, hz, fun o1 o2 o3 o4 o5 o6 => ?_⟩
  have h6 := set6 (S := fun k => k = w.heap.size) (a := o1) (b := o2) (c := o3) (d := o4) (e := o5) (f := o6) hz rfl
  refine ⟨(playH cs h k a c).2, O, (g1.fr h6.2 fun k hk _ => ⟨.inl hk, by omega⟩).less fun k hk => .inl (.inr hk), (h6.2.block G (heap_lt hg) (fun he => by omega)).trans hg, bs.play hk hE hall k a c, own_keepB row fun b hb => ?_, hn, by omega, ho⟩
  obtain ⟨c, hc⟩ := own_block (own_zero row) hb
  have hbl := heap_lt hc
  have e1 : w'.heap[b]? = w.heap[b]? := (g2 b (.inr (.inr hb))).trans (by rw [hs.heap, Below.heap_alloc _ _ _ hbl])
  rw [h6.2.block b (by rw [hc] at e1; exact heap_lt e1) (fun he => by omega), e1]
/-- Of a message that is drained: it is newer than all before. -/
theorem bp_newer {w0 : World} {cs : List Ins} {m G H : Nat} {cv : Value} {last : Int} {n : Nat} {oa : Option Addr} {oc : Nat} {k a : Int} {P : Int × Msg × Int} {w : World} (b : BP w0 cs m G H cv last n (.slice oa n oc) k a P w) (h5 : k = 5) (h0 : P.2.2 = 0) (hm : m ≤ 2000000) (W : World) (hs : SameH w W) :
    Calls Try.prog 9 #[.agg #[.int .i64 P.2.1.dev, .int .i64 P.2.1.run, .int .i64 P.2.1.num, .int .i64 P.2.1.key], .int .i64 a, .slice oa n oc] W fun e w' => e = .returned (.bool true) ∧ Below w.heap.size w w' := by
  obtain ⟨h, O, ks, hG, bs, row, hn, hm2, ho⟩ := b
  obtain ⟨d1, d2, d3⟩ := bs.drain h5 h0
  subst hn
  have hr : W.ownsRow 0 30 4 (.slice oa O.length oc) O.length (msgsCells O) := row_below (own_zero row) (hs.below _)
  refine (c_newer P.2.1 a O oa oc W hr (by omega) d3 d1).mono ?_
  rintro e w' ⟨rfl, hb⟩
  refine ⟨rfl, (hs.below _).trans ?_⟩
  rwa [← show W.heap.size = w.heap.size by rw [hs.heap]]
/-- It is laid to those that were handed out. -/
theorem bp_push {w0 : World} {cs : List Ins} {m G H : Nat} {cv : Value} {last : Int} {n : Nat} {ov ov' : Value} {k a : Int} {P : Int × Msg × Int} {w w' : World} {h : Her Pr} {O : List Msg}
    (b : KS w0.heap.size cs m h w0 H (fun k => k = G ∨ ov.ownBlock = some k) w ∧ w.heap[G]? = some (.cells #[.pointer (some ⟨H, 0, none⟩), cv] 38 (0, 0)) ∧ PlayB O last k a (P, h) ∧ w.ownsRow w0.heap.size 30 4 ov n (msgsCells O) ∧ O.length = n ∧ n + 1 ≤ m ∧ ov.ownBlock ≠ some G) (h5 : k = 5) (h0 : P.2.2 = 0)
    (row' : w'.ownsRow w0.heap.size 30 4 ov' (n + 1) (msgsCells O ++ [.int .i64 P.2.1.dev, .int .i64 P.2.1.run, .int .i64 P.2.1.num, .int .i64 P.2.1.key])) (hg : w.grownBy w' ov.ownBlock) (hat : ∀ k, ov'.ownBlock = some k → ov.ownBlock = some k ∨ w.heap.size ≤ k) :
    BW w0 cs m G H cv last (n + 1) ov' w' := by
  obtain ⟨ks, hG, bs, row, hn, hm2, ho⟩ := b
  have h2 := bs.bs
  rw [if_pos ⟨h5, h0⟩, if_neg (by rintro ⟨h1, _⟩; omega)] at h2
  have hGl := heap_lt hG
  have hf : Fr (fun k => ov.ownBlock = some k) w w' := ⟨hg.os, hg.tape, hg.output, hg.size, fun k hk hs => hg.block k hk (fun hh => hs hh.symm)⟩
  have hG' : w'.heap[G]? = some (.cells #[.pointer (some ⟨H, 0, none⟩), cv] 38 (0, 0)) := (hf.block G hGl (fun he => ho he)).trans hG
  refine ⟨h, O ++ [P.2.1], (ks.fr hf fun k hk _ => ⟨.inr hk, ?_⟩).less ?_, hG', h2, ?_, by rw [List.length_append, hn]; rfl, by omega, fun he => ?_⟩
  · exact (row.lt k hk).1
  · rintro k (rfl | hk)
    · exact .inl (.inl rfl)
    · rcases hat k hk with h3 | h3
      · exact .inl (.inr h3)
      · obtain ⟨c, hc⟩ := own_block (own_zero row') hk
        exact .inr ⟨h3, heap_lt hc⟩
  · rw [msgsCells_snoc]
    exact row'
  · rcases hat G he with h3 | h3
    · exact ho h3
    · omega
/-- Show, and what it hands out is sane. -/
theorem bw_sane {w0 : World} {cs : List Ins} {m G H : Nat} {cv : Value} {last : Int} {n : Nat} {ov : Value} (W : World) (b : BW w0 cs m G H cv last n ov W) :
    Calls Try.prog 10 #[.pointer (some ⟨H, 0, none⟩)] W fun e w' => ∃ (now : Int) (rs : List Rn) (Q : List Msg) (ra qa : Option Addr) (rc qc : Nat), e = .returned (.agg #[.int .i64 now, .slice ra rs.length rc, .slice qa Q.length qc]) ∧
      Hid (∀ W', Below w'.heap.size w' W' → Calls Try.prog 11 #[.agg #[.int .i64 now, .slice ra rs.length rc, .slice qa Q.length qc]] W' fun e w2 => e = .returned (.bool true) ∧ BW w0 cs m G H cv last n ov w2) := by
  refine (bw_Show W b).mono ?_
  rintro e w' ⟨now, rs, Q, ra, qa, rc, qc, rfl, hok, hR, hQ, b3⟩
  refine ⟨now, rs, Q, ra, qa, rc, qc, rfl, fun W' hb => ?_⟩
  refine (c_sane now rs Q ra qa rc qc W' (row_below hR hb) (row_below hQ hb) hok).mono ?_
  rintro e w2 ⟨rfl, h3⟩
  have s2 := b3.size
  have s3 := hb.size
  exact ⟨rfl, b.below ((b3.trans (hb.mono s2)).trans (h3.mono (by omega)))⟩
theorem BW.back {w0 : World} {cs : List Ins} {m G H : Nat} {cv : Value} {last : Int} {n : Nat} {ov : Value} {W : World} (b : BW w0 cs m G H cv last n ov W) : Below w0.heap.size w0 W := by
  obtain ⟨h, O, ks, _⟩ := b
  exact ks.back
end Go.Proofs.Ytmmmnghiegajmab
/- The law Bounded is walked. -/
namespace Go.Proofs.Ytmmmnghiegajmab
open Go.RowKit Go.Proofs.Herald
set_option maxRecDepth 40000 in
set_option maxHeartbeats 16000000 in
theorem bounded_walk (xs : List Int) (a : Option Addr) (b off cap : Nat) (ops : List OpK) (sa : Option Addr) (sb soff scap : Nat) (w : World) (hx : IntsIn w a b off xs) (hr : ∀ x ∈ xs, -9223372036854775808 ≤ x ∧ x ≤ 9223372036854775807) (hl : xs.length ≤ 1048576) (hsc : OpsIn w sa sb soff ops) (hsl : ops.length ≤ 1048576) :
    Calls Try.prog 3 #[.slice a xs.length cap, .slice sa ops.length scap] w fun e w' => e = .returned (.bool true) ∧ Below w.heap.size w w' := by
  have HSP : Hid (Calls Try.prog 7 #[.slice a xs.length cap] w _) := c_Spelt xs a b off cap w hx hr (by omega)
  have HSC : Hid (OpsIn w sa sb soff ops) := hsc
  clear hx hr hsc
  go_enter Try.func3, Try.ntmps3
  go_wp2_with fail
  refine HSP.out.mono ?_
  rintro e w1 ⟨t, rfl, ht, b1⟩
  obtain ⟨hz, tr, hT⟩ := spelt_text ht
  have HTX : Hid (t.size ≤ 400 ∧ TextOk t tr) := ⟨hz, hT⟩
  have HOP : Hid (Calls Try.prog 6 #[.string t] w1 _) := opened_any hz hT w1
  have HB1 : Hid (Below w.heap.size w w1) := b1
  clear hz hT ht b1 HSP
  go_wp2_with fail
  refine HOP.out.mono ?_
  rintro e w2 ⟨G, H, cv, s, rfl, hg, b2⟩
  have HK2 : Hid (BW w (codeOf t tr) 1 G H cv 1 0 (.slice none 0 0) w2) := by
    have ks : KS w.heap.size (codeOf t tr) 1 (trigH (machE (codeOf t tr)) newH 0).2.2 w H (fun k => k = G) w2 := KS.of_game hg HB1.out b2 HB1.out.size
    obtain ⟨C, hk, hE, hall⟩ := ks_ok ks
    refine ⟨_, [], ks.less ?_, hg.g, ⟨HB.new.trig hall (fun r hr => by cases hr) (Int.le_refl 0) 0, HT.trig hE (HOk.new _ _) (fun r hr => by cases hr) 0, ?_⟩, World.ownsRow_nil _ _ _ _, rfl, by omega, by simp [Value.ownBlock]⟩
    · rintro k (rfl | hk)
      · rfl
      · simp [Value.ownBlock] at hk
    · unfold trigH
      rw [if_neg (by decide), if_neg (by decide)]
      rfl
  clear hg b2 HOP HB1
  go_wp2_with fail
  go_loopw [7, 8, 9] (fun ov lv iv wr => ∃ (i n : Nat) (la : Int) (oa : Option Addr) (oc : Nat), i ≤ ops.length ∧ n ≤ i ∧ 1 ≤ la ∧ la ≤ i + 1 ∧ iv = .int .i64 (i : Nat) ∧ lv = .int .i64 la ∧ ov = .slice oa n oc ∧ Hid (BW w (codeOf t tr) (1 + i) G H cv la n (.slice oa n oc) wr)) (fun _ _ iv _ => ops.length - (intOf iv).toNat)
  case atStart => exact ⟨0, 0, 1, none, 0, by omega, by omega, by omega, by omega, rfl, rfl, rfl, HK2.out⟩
  case round =>
    clear HK2
    obtain ⟨i, n, la, oa, oc, hi, hn, hl0, hl1, rfl, rfl, rfl, HB⟩ := hrel
    obtain ⟨hGc, hGl, HBK⟩ : wr.cell? ⟨G, 0, none⟩ = some (.pointer (some ⟨H, 0, none⟩)) ∧ G < wr.heap.size ∧ Hid (Below w.heap.size w wr) := by
      obtain ⟨h, O, ks, hG, _⟩ := HB.out
      exact ⟨(cell_of_heap hG).trans rfl, heap_lt hG, ks.back⟩
    by_cases hlt : i < ops.length
    · obtain ⟨rfl, hsw, hcell⟩ := HSC.out (by omega)
      obtain ⟨c0, c1, c2⟩ := hcell i hlt
      have HCL : Hid (∀ W, Below w.heap.size w W → W.cell? ⟨sb, soff + i * 3, none⟩ = some (.int .i64 ops[i].k) ∧ W.cell? ⟨sb, soff + i * 3 + 1, none⟩ = some (.int .i64 ops[i].a) ∧ W.cell? ⟨sb, soff + i * 3 + 2, none⟩ = some (.int .i64 ops[i].b) ∧ sb < W.heap.size) := fun W hb => ⟨(hb.cell (p := ⟨sb, soff + i * 3, none⟩) hsw).trans c0, (hb.cell (p := ⟨sb, soff + i * 3 + 1, none⟩) hsw).trans c1, (hb.cell (p := ⟨sb, soff + i * 3 + 2, none⟩) hsw).trans c2, Nat.lt_of_lt_of_le hsw hb.size⟩
      obtain ⟨e0, e1, e2, hsl'⟩ := HCL.out _ HBK.out
      clear c0 c1 c2 hcell
      generalize ops[i] = x at *
      have HP1 := (show Hid _ from bw_play HB.out x.k x.a x.b (by omega) wr.drew (SameH.refl _).drew : Hid (Calls Try.prog 8 #[.pointer (some ⟨H, 0, none⟩), .agg #[.int .i64 x.k, .int .i64 x.a, .int .i64 x.b]] wr.drew _))
      have HP2 := (show Hid _ from bw_play2 HB.out x.k x.a x.b (by omega) (wr.alloc (.cells #[.int .i64 0, .int .i64 0, .int .i64 0, .int .i64 0, .int .i64 0, .int .i64 0] 33)).drew (SameH.refl _).drew : Hid (Calls Try.prog 8 #[.pointer (some ⟨H, 0, none⟩), .agg #[.int .i64 x.k, .int .i64 x.a, .int .i64 x.b]] (wr.alloc (.cells #[.int .i64 0, .int .i64 0, .int .i64 0, .int .i64 0, .int .i64 0, .int .i64 0] 33)).drew _))
      go_upto_region 9 with fail
      go_cut [10] (fun y wx => ∃ (X : Nat) (P : Int × Msg × Int), y = .pointer (some ⟨X, 0, none⟩) ∧ Hid (BP w (codeOf t tr) (1 + i + 1) G H cv la n (.slice oa n oc) x.k x.a P wx ∧ wx.heap[X]? = some (.cells #[.int .i64 P.1, .int .i64 P.2.1.dev, .int .i64 P.2.1.run, .int .i64 P.2.1.num, .int .i64 P.2.1.key, .int .i64 P.2.2] 33 (0, 0))))
      case first =>
        go_region_with (go_at_call 8; first | (with_reducible refine HP1.out.mono ?_; rintro e w6 ⟨P, rfl, ho⟩) | (with_reducible refine HP2.out.mono ?_; rintro e w6 ⟨P, rfl, hz, ho⟩; obtain ⟨⟨r0, r1, r2, r3, r4, r5⟩, ⟨f0, f1, f2, f3, f4, f5⟩, hR⟩ := cells_of6 hz))
        all_goals
          go_wp2_with fail
          go_meet
          case rel =>
            first
              | exact ⟨_, P, rfl, ho _ _ _ _ _ _, (set6 (S := fun _ => True) hz trivial).1⟩
              | exact ⟨_, P, rfl, ho.below ((Below.refl _ _).alloc (Nat.le_refl _) _), heap_alloc_new _ _⟩
      case rest =>
        clear HP1 HP2 HB HBK hGc hGl e0 e1 e2 hsl'
        obtain ⟨X, P, rfl, HX⟩ := hcut
        obtain ⟨⟨x0, x1, x2, x3, x4, x5⟩, _, hXl⟩ := cells_of6 HX.out.2
        obtain ⟨hGc, hGl, HBK⟩ : wc.cell? ⟨G, 0, none⟩ = some (.pointer (some ⟨H, 0, none⟩)) ∧ G < wc.heap.size ∧ Hid (Below w.heap.size w wc) := by
          obtain ⟨h, O, ks, hG, _⟩ := HX.out.1
          exact ⟨(cell_of_heap hG).trans rfl, heap_lt hG, ks.back⟩
        obtain ⟨e0, e1, e2, hsl'⟩ := HCL.out _ HBK.out
        by_cases hk1 : x.k = 1
        · have b1 : (x.k == 1) = true := by simpa using hk1
          have b5 : (x.k == 5) = false := by simp [hk1]
          by_cases he : P.2.2 = 0
          · have b2 : (P.2.2 == 0) = true := by simpa using he
            obtain ⟨hbw, hp⟩ := HX.out.1.trig hk1 he
            have b3 : (P.1 != la + 1) = false := by simpa using hp
            have HN : Hid (BW w (codeOf t tr) (1 + (i + 1)) G H cv (la + 1) n (.slice oa n oc) wc) := hbw
            clear hbw hp
            go_upto_region 19 with fail
            go_wp2_with fail
            · refine (bw_sane _ HN.out).mono ?_
              rintro e w3 ⟨now, rs, Q, ra, qa, rc, qc, rfl, HSA⟩
              clear HCL HX
              go_wp2_with fail
              refine (HSA.out _ ((Below.refl _ _).alloc (Nat.le_refl _) _)).mono ?_
              rintro e w4 ⟨rfl, hb4⟩
              have HN4 : Hid (BW w (codeOf t tr) (1 + (i + 1)) G H cv (la + 1) n (.slice oa n oc) w4) := hb4
              clear hb4 HSA HN
              go_wp2_with fail
              go_roundw
              case rel => exact ⟨i + 1, n, (la + 1), oa, oc, by omega, by omega, by omega, by push_cast; omega, by go_num, by go_num, rfl, HN4⟩
              case measure => simp [intOf]; omega
            · go_roundw
              case rel => exact ⟨i + 1, n, (la + 1), oa, oc, by omega, by omega, by omega, by push_cast; omega, by go_num, by go_num, rfl, HN⟩
              case measure => simp [intOf]; omega
          · have b2 : (P.2.2 == 0) = false := by simpa using he
            have HN : Hid (BW w (codeOf t tr) (1 + (i + 1)) G H cv la n (.slice oa n oc) wc) := HX.out.1.no (fun h => he h.2) (fun h => he h.2)
            go_upto_region 19 with fail
            go_wp2_with fail
            · refine (bw_sane _ HN.out).mono ?_
              rintro e w3 ⟨now, rs, Q, ra, qa, rc, qc, rfl, HSA⟩
              clear HCL HX
              go_wp2_with fail
              refine (HSA.out _ ((Below.refl _ _).alloc (Nat.le_refl _) _)).mono ?_
              rintro e w4 ⟨rfl, hb4⟩
              have HN4 : Hid (BW w (codeOf t tr) (1 + (i + 1)) G H cv la n (.slice oa n oc) w4) := hb4
              clear hb4 HSA HN
              go_wp2_with fail
              go_roundw
              case rel => exact ⟨i + 1, n, la, oa, oc, by omega, by omega, by omega, by push_cast; omega, by go_num, rfl, rfl, HN4⟩
              case measure => simp [intOf]; omega
            · go_roundw
              case rel => exact ⟨i + 1, n, la, oa, oc, by omega, by omega, by omega, by push_cast; omega, by go_num, rfl, rfl, HN⟩
              case measure => simp [intOf]; omega
        · have b1 : (x.k == 1) = false := by simpa using hk1
          by_cases hk5 : x.k = 5
          · have b5 : (x.k == 5) = true := by simpa using hk5
            by_cases he : P.2.2 = 0
            · have b2 : (P.2.2 == 0) = true := by simpa using he
              have HNW := (show Hid _ from bp_newer HX.out.1 hk5 he (by omega) wc.drew (SameH.refl _).drew : Hid (Calls Try.prog 9 #[.agg #[.int .i64 P.2.1.dev, .int .i64 P.2.1.run, .int .i64 P.2.1.num, .int .i64 P.2.1.key], .int .i64 x.a, .slice oa n oc] wc.drew _))
              have b6 : decide (la < P.2.1.run) = false := by
                obtain ⟨h, O, _, _, hb, _⟩ := HX.out.1
                exact decide_eq_false (by have := (hb.drain hk5 he).2.1; have e3 : ((P, h) : (Int × Msg × Int) × Her Pr).1.2.1.run = P.2.1.run := rfl; omega)
              go_upto_region 15 with fail
              go_cut [11] (fun y wx => y = .bool true ∧ Hid (BP w (codeOf t tr) (1 + i + 1) G H cv la n (.slice oa n oc) x.k x.a P wx ∧ wx.heap[X]? = some (.cells #[.int .i64 P.1, .int .i64 P.2.1.dev, .int .i64 P.2.1.run, .int .i64 P.2.1.num, .int .i64 P.2.1.key, .int .i64 P.2.2] 33 (0, 0))))
              case first =>
                go_region_with (go_at_call 9; with_reducible refine HNW.out.mono ?_; rintro e w6 ⟨rfl, hb6⟩)
                all_goals
                  go_wp2_with fail
                  go_meet
                  case rel => exact ⟨rfl, HX.out.1.below hb6, (hb6.block X hXl).trans HX.out.2⟩
              case rest =>
                clear HNW HX HBK hGc hGl e0 e1 e2 hsl' x0 x1 x2 x3 x4 x5 hXl
                obtain ⟨rfl, HY⟩ := hcut
                obtain ⟨⟨x0, x1, x2, x3, x4, x5⟩, _, hXl⟩ := cells_of6 HY.out.2
                obtain ⟨h, O, hbp⟩ := HY.out.1
                have hGc : wc.cell? ⟨G, 0, none⟩ = some (.pointer (some ⟨H, 0, none⟩)) := (cell_of_heap hbp.2.1).trans rfl
                have hGl : G < wc.heap.size := heap_lt hbp.2.1
                have HBP := (show Hid _ from hbp : Hid (KS w.heap.size (codeOf t tr) (1 + i + 1) h w H (fun k => k = G ∨ (Value.slice oa n oc).ownBlock = some k) wc ∧ _))
                clear hbp
                go_wp2_with (at_builtin; refine wpList_push_big wc rfl (.tmp 83) (.tmp 86) 28 rfl 30 _ 4 32 Try.underlying28 Try.infoMsg rfl (by decide) (by decide) w.heap.size (.slice oa n oc) n (msgsCells O) (by rfl) (by exact HBP.out.2.2.2.1) [.int .i64 P.2.1.dev, .int .i64 P.2.1.run, .int .i64 P.2.1.num, .int .i64 P.2.1.key] (by rfl) rfl (by simp [Value.oneCell']) (by omega) (by exact HBP.out.1.B) ?_)
                intro g1 oc1 w8 hrow hgrow hat
                have HN : Hid (BW w (codeOf t tr) (1 + (i + 1)) G H cv la (n + 1) (.slice (some ⟨g1, 0, none⟩) (n + 1) oc1) w8) := bp_push HBP.out hk5 he hrow hgrow (fun k hk => by
                  have e4 : g1 = k := by simpa [Value.ownBlock] using hk
                  rw [← e4]
                  exact hat)
                obtain ⟨hGc8, hGl8⟩ : w8.cell? ⟨G, 0, none⟩ = some (.pointer (some ⟨H, 0, none⟩)) ∧ G < w8.heap.size := by
                  obtain ⟨_, _, _, hG, _⟩ := HN.out
                  exact ⟨(cell_of_heap hG).trans rfl, heap_lt hG⟩
                clear hrow hgrow hat HBP
                go_upto_region 19 with fail
                go_wp2_with fail
                · refine (bw_sane _ HN.out).mono ?_
                  rintro e w3 ⟨now, rs, Q, ra, qa, rc, qc, rfl, HSA⟩
                  clear HCL HY
                  go_wp2_with fail
                  refine (HSA.out _ ((Below.refl _ _).alloc (Nat.le_refl _) _)).mono ?_
                  rintro e w4 ⟨rfl, hb4⟩
                  have HN4 : Hid (BW w (codeOf t tr) (1 + (i + 1)) G H cv la (n + 1) (.slice (some ⟨g1, 0, none⟩) (n + 1) oc1) w4) := hb4
                  clear hb4 HSA HN
                  go_wp2_with fail
                  go_roundw
                  case rel => exact ⟨i + 1, (n + 1), la, (some ⟨g1, 0, none⟩), oc1, by omega, by omega, by omega, by push_cast; omega, by go_num, rfl, rfl, HN4⟩
                  case measure => simp [intOf]; omega
                · go_roundw
                  case rel => exact ⟨i + 1, (n + 1), la, (some ⟨g1, 0, none⟩), oc1, by omega, by omega, by omega, by push_cast; omega, by go_num, rfl, rfl, HN⟩
                  case measure => simp [intOf]; omega
            · have b2 : (P.2.2 == 0) = false := by simpa using he
              have HN : Hid (BW w (codeOf t tr) (1 + (i + 1)) G H cv la n (.slice oa n oc) wc) := HX.out.1.no (fun h => he h.2) (fun h => he h.2)
              go_upto_region 19 with fail
              go_wp2_with fail
              · refine (bw_sane _ HN.out).mono ?_
                rintro e w3 ⟨now, rs, Q, ra, qa, rc, qc, rfl, HSA⟩
                clear HCL HX
                go_wp2_with fail
                refine (HSA.out _ ((Below.refl _ _).alloc (Nat.le_refl _) _)).mono ?_
                rintro e w4 ⟨rfl, hb4⟩
                have HN4 : Hid (BW w (codeOf t tr) (1 + (i + 1)) G H cv la n (.slice oa n oc) w4) := hb4
                clear hb4 HSA HN
                go_wp2_with fail
                go_roundw
                case rel => exact ⟨i + 1, n, la, oa, oc, by omega, by omega, by omega, by push_cast; omega, by go_num, rfl, rfl, HN4⟩
                case measure => simp [intOf]; omega
              · go_roundw
                case rel => exact ⟨i + 1, n, la, oa, oc, by omega, by omega, by omega, by push_cast; omega, by go_num, rfl, rfl, HN⟩
                case measure => simp [intOf]; omega
          · have b5 : (x.k == 5) = false := by simpa using hk5
            have HN : Hid (BW w (codeOf t tr) (1 + (i + 1)) G H cv la n (.slice oa n oc) wc) := HX.out.1.no (fun h => hk5 h.1) (fun h => hk1 h.1)
            go_upto_region 19 with fail
            go_wp2_with fail
            · refine (bw_sane _ HN.out).mono ?_
              rintro e w3 ⟨now, rs, Q, ra, qa, rc, qc, rfl, HSA⟩
              clear HCL HX
              go_wp2_with fail
              refine (HSA.out _ ((Below.refl _ _).alloc (Nat.le_refl _) _)).mono ?_
              rintro e w4 ⟨rfl, hb4⟩
              have HN4 : Hid (BW w (codeOf t tr) (1 + (i + 1)) G H cv la n (.slice oa n oc) w4) := hb4
              clear hb4 HSA HN
              go_wp2_with fail
              go_roundw
              case rel => exact ⟨i + 1, n, la, oa, oc, by omega, by omega, by omega, by push_cast; omega, by go_num, rfl, rfl, HN4⟩
              case measure => simp [intOf]; omega
            · go_roundw
              case rel => exact ⟨i + 1, n, la, oa, oc, by omega, by omega, by omega, by push_cast; omega, by go_num, rfl, rfl, HN⟩
              case measure => simp [intOf]; omega
    · go_wp2_with fail
      refine (bw_sane _ HB.out).mono ?_
      rintro e w3 ⟨now, rs, Q, ra, qa, rc, qc, rfl, HSA⟩
      go_wp2_with fail
      refine (HSA.out _ ((Below.refl _ _).alloc (Nat.le_refl _) _)).mono ?_
      rintro e w4 ⟨rfl, hb4⟩
      have HB4 : Hid (Below w.heap.size w w4) := hb4.back
      clear hb4 HSA
      go_wp2_with fail
      go_ret
      exact ⟨rfl, HB4.out⟩
end Go.Proofs.Ytmmmnghiegajmab
