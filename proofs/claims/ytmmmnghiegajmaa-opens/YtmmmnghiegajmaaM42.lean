import Derived.Test.YtmmmnghiegajmaaM40
import Derived.Test.YtmmmnghiegajmaaM41
import Derived.Test.YtmmmnghiegajmaaM22
/- A pair with its journals beside the owner's books: every step; a script is played. -/
namespace Go.Proofs.Ytmmmnghiegajmaa
open Go.RowKit Go.Proofs.Herald
/-- The owner's books, behind n steps. -/
structure BK (w : World) (O : Nat) (o : OSt) (B0 n : Nat) : Prop where
  oa : OA w O o
  base : ∀ k, ownX O o k → B0 ≤ k
  n0 : 0 ≤ o.n
  n1 : o.n ≤ 3 * n + 100
  cb : o.cb.length ≤ 4 * n
  rb : o.rb.length ≤ 8 * n
  qb : o.qb.length ≤ 8 * n
theorem BK.lt {w : World} {O : Nat} {o : OSt} {B0 n : Nat} (b : BK w O o B0 n) {k : Nat} (hk : ownX O o k) : k < w.heap.size := (b.oa.sort hk).lt
theorem BK.keep {w w' : World} {O : Nat} {o : OSt} {B0 n : Nat} (b : BK w O o B0 n) (hk : ∀ k, ownX O o k → w'.heap[k]? = w.heap[k]?) {n' : Nat} (hn : n ≤ n') : BK w' O o B0 n' :=
  ⟨b.oa.keep hk, b.base, b.n0, by have := b.n1; omega, by have := b.cb; omega, by have := b.rb; omega, by have := b.qb; omega⟩
/-- A pair and the books. -/
structure PB {RT : Type} (M : Mode RT) (G : RT → Prop) (ρ : RT → Pr → Prop) (CB : World → Prop) (cs : List Ins) (i : Nat) (hm : Her Pr) (hd : Her RT) (J : List Nat) (w : World) (Pb H S Q : Nat) (u tv : Value) (s : HS) (d : DS) (O : Nat) (o : OSt) (n : Nat) : Prop where
  q : QP M G ρ CB cs i hm hd J w Pb H S Q u tv s d
  b : BK w O o M.B0 n
  dj : ∀ k, ownQ Pb H S Q s d k → ¬ ownX O o k
/-- Where a step leads. -/
def PNext {RT : Type} (M : Mode RT) (G : RT → Prop) (ρ : RT → Pr → Prop) (CB : World → Prop) (cs : List Ins) (i : Nat) (w : World) (Pb H S Q : Nat) (u tv : Value) (s : HS) (d : DS) (O : Nat) (o : OSt) (n : Nat) (w' : World) : Prop :=
  ∃ hm hd J s1 d1 o1, PB M G ρ CB cs (i + 1) hm hd J w' Pb H S Q u tv s1 d1 O o1 (n + 1) ∧ (∀ k, ownQ Pb H S Q s1 d1 k → ownQ Pb H S Q s d k ∨ w.heap.size ≤ k) ∧ (∀ k, ownX O o1 k → ownX O o k ∨ w.heap.size ≤ k) ∧ Fr (fun k => ownQ Pb H S Q s d k ∨ ownX O o k) w w'
section
variable {RT : Type} {M : Mode RT} {G : RT → Prop} {ρ : RT → Pr → Prop} {CB : World → Prop} {cs : List Ins} {i : Nat} {hm : Her Pr} {hd : Her RT} {J : List Nat} {w w' : World} {Pb H S Q : Nat} {u tv : Value} {s : HS} {d : DS} {O : Nat} {o : OSt} {n : Nat}
theorem PB.next (h : PB M G ρ CB cs i hm hd J w Pb H S Q u tv s d O o n) (hq : QNext M G ρ CB cs i w Pb H S Q u tv s d w') : PNext M G ρ CB cs i w Pb H S Q u tv s d O o n w' := by
  obtain ⟨hm1, hd1, J1, s1, d1, q1, g1⟩ := hq
  refine ⟨hm1, hd1, J1, s1, d1, o, ⟨q1, h.b.keep (fun k hk => g1.fr.block k (h.b.lt hk) fun hz => h.dj k hz hk) (by omega), fun k hk hx => ?_⟩, g1.own, fun k hk => .inl hk, g1.fr.mono fun k _ hk => .inl hk⟩
  rcases g1.own k hk with hh | hh
  · exact h.dj k hh hx
  · have := h.b.lt hx; omega
theorem pb_looked (K : KindP M G ρ CB cs) (h : PB M G ρ CB cs i hm hd J w Pb H S Q u tv s d O o n) (hn : n ≤ 1100000) (w0 : World) (hb : Below w.heap.size w w0) :
    Calls Try.prog 17 #[.pointer (some ⟨Pb, 0, none⟩), .pointer (some ⟨O, 0, none⟩)] w0 fun e w' => e = .returned (.bool true) ∧ PNext M G ρ CB cs i w Pb H S Q u tv s d O o n w' := by
  have h1 := h.b.n1
  have h2 := h.b.cb
  have h3 := h.b.rb
  have h4 := h.b.qb
  have q0 : QP M G ρ CB cs i hm hd J w0 Pb H S Q u tv s d := ⟨h.q.q.below K.k hb, h.q.same⟩
  have b0 : OA w0 O o := h.b.oa.below hb
  have L : LK M CB w0 Pb H S Q O u tv cs hm hd ⟨s.code, s.jr, s.rv, s.qv, s.n, strN J, d.pv, d.qv, d.rs⟩ o := ⟨q0.pp, b0, h.dj, h.b.base⟩
  refine (looked_any K.k.hM K.k.hCB Pb H S Q O u tv cs hm hd _ o w0 K.hE h.q.same L h.q.q.gj.ga.ok.len h.q.q.gj.ga.ok.qlen h.b.n0 (by omega) (by omega) (by omega) (by omega)).mono ?_
  rintro e w' ⟨rfl, o', l1, l2, l3, l4, l5, l6, l7⟩
  have hz := hb.size
  have hst : Still M.B0 w0 w' := still_of l7 fun k hk hx => ⟨h.b.base k hx, b0.sort hx⟩
  have q1 : QP M G ρ CB cs (i + 1) hm hd J w' Pb H S Q u tv s d := ⟨(q0.q.keep K.k (fun k hk => l7.block k (q0.q.lt hk) fun hx => h.dj k hk hx) hst).le (by omega) (by omega), h.q.same⟩
  have hX : ∀ k, ownX O o' k → ownX O o k ∨ w.heap.size ≤ k := fun k hk => (l6 k hk).imp id fun hh => by omega
  refine ⟨rfl, hm, hd, J, s, d, o', ⟨q1, ⟨l1.oa, l1.ob, by have := h.b.n0; omega, by rw [l2]; push_cast; omega, by omega, by omega, by omega⟩, l1.dj⟩, fun k hk => .inl hk, hX, ?_⟩
  have f1 : Fr (fun k => ownQ Pb H S Q s d k ∨ ownX O o k) w w0 := (Fr.of_below hb).mono fun k hk hs => by omega
  exact f1.trans (l7.mono fun k _ hk => .inr hk)
theorem pb_journal (K : KindP M G ρ CB cs) (a b c : Int) (str : ByteArray) (h : PB M G ρ CB cs i hm hd J w Pb H S Q u tv s d O o n) :
    Calls Try.prog 59 #[.pointer (some ⟨Pb, 0, none⟩), .agg #[.int .i64 7, .int .i64 a, .int .i64 b, .int .i64 c, .string str], .pointer (some ⟨O, 0, none⟩)] w fun e w' => e = .returned (.bool true) ∧ PNext M G ρ CB cs i w Pb H S Q u tv s d O o n w' := by
  have hst : ∀ {w1 : World}, Below w.heap.size w w1 → PNext M G ρ CB cs i w Pb H S Q u tv s d O o n w1 := fun hb => h.next (h.q.stay K hb)
  refine (walk_journal Pb H S O a b c str (strN J) (fun w1 => Below w.heap.size w w1) w ((cell_of_heap h.q.q.p).trans rfl) (heap_lt h.q.q.p) (fun ob => ?_)).mono ?_
  · have hb : Below w.heap.size w (w.alloc ob) := (Below.refl _ _).alloc (Nat.le_refl _) _
    have q1 := h.q.q.below K.k hb
    refine (kj_Journal (B := 0) (m := i) (w0 := w.alloc ob) (F := fun _ => False) _ ⟨i, s, Nat.le_refl _, q1.gj, fun k _ => ⟨Nat.zero_le _, id⟩, fun k hk => hk.elim, Below.refl _ _, Nat.zero_le _⟩).mono ?_
    rintro e w1 ⟨rfl, rfl⟩
    exact ⟨rfl, (cell_of_heap q1.p).trans rfl, (cell_of_heap q1.gd.sim.at'.sB).trans rfl, hb⟩
  · rintro e w1 ⟨rfl, hb⟩
    exact ⟨rfl, hst hb⟩
/-- A step of any kind. -/
theorem pb_play (K : KindP M G ρ CB cs) (x : OpI) (h : PB M G ρ CB cs i hm hd J w Pb H S Q u tv s d O o n) (hi : i ≤ 2000000) (hn : n ≤ 1100000) :
    Calls Try.prog 59 #[.pointer (some ⟨Pb, 0, none⟩), .agg #[.int .i64 x.k, .int .i64 x.a, .int .i64 x.b, .int .i64 x.c, .string x.str], .pointer (some ⟨O, 0, none⟩)] w fun e w' => e = .returned (.bool true) ∧ PNext M G ρ CB cs i w Pb H S Q u tv s d O o n w' := by
  obtain ⟨k, a, b, c, str⟩ := x
  simp only
  by_cases h0 : k ≤ 0 ∨ 8 ≤ k
  · exact walk_none Pb O k a b c str _ w h0 fun ob => h.next (h.q.stay K ((Below.refl _ _).alloc (Nat.le_refl _) _))
  · have nx : ∀ {e : Ending} {w' : World}, (e = .returned (.bool true) ∧ QNext M G ρ CB cs i w Pb H S Q u tv s d w') → (e = .returned (.bool true) ∧ PNext M G ρ CB cs i w Pb H S Q u tv s d O o n w') := fun hh => ⟨hh.1, h.next hh.2⟩
    rcases (show k = 1 ∨ k = 2 ∨ k = 3 ∨ k = 4 ∨ k = 5 ∨ k = 6 ∨ k = 7 by omega) with rfl | rfl | rfl | rfl | rfl | rfl | rfl
    · exact (qp_trig K O a b c str h.q hi).mono fun _ _ => nx
    · exact (qp_tick K O a b c str h.q hi).mono fun _ _ => nx
    · exact (qp_ack K O a b c str h.q hi).mono fun _ _ => nx
    · exact (qp_cancel K O a b c str h.q hi).mono fun _ _ => nx
    · exact (qp_drain K O a b c str h.q hi).mono fun _ _ => nx
    · exact walk_show Pb O a b c str _ w fun ob => pb_looked K h hn _ ((Below.refl _ _).alloc (Nat.le_refl _) _)
    · exact pb_journal K a b c str h
/-- New books. -/
theorem bk_new (w : World) (B0 : Nat) (hB : B0 ≤ w.heap.size) : BK (w.alloc (.cells #[.int .i64 0, .slice none 0 0, .slice none 0 0, .slice none 0 0] 41)) w.heap.size ⟨0, .slice none 0 0, .slice none 0 0, .slice none 0 0, [], [], []⟩ B0 0 ∧ ∀ k, ownX w.heap.size ⟨0, .slice none 0 0, .slice none 0 0, .slice none 0 0, [], [], []⟩ k → k = w.heap.size := by
  have hX : ∀ k, ownX w.heap.size ⟨0, .slice none 0 0, .slice none 0 0, .slice none 0 0, [], [], []⟩ k → k = w.heap.size := fun k hk => by
    rcases hk with hk | hk | hk | hk | ⟨b, hb, _⟩ | ⟨b, hb, _⟩ | ⟨b, hb, _⟩
    · exact hk
    · cases hk
    · cases hk
    · cases hk
    · cases hb
    · cases hb
    · cases hb
  exact ⟨⟨⟨heap_alloc_new _ _, .inl rfl, World.ownsRow_nil _ _ _ _, World.ownsRow_nil _ _ _ _, World.ownsRow_nil _ _ _ _, fun b hb => (by cases hb), fun b hb => (by cases hb), fun b hb => (by cases hb), fun b hb => (by cases hb), fun b hb => (by cases hb), fun b hb => (by cases hb)⟩, fun k hk => by rw [hX k hk]; exact hB, by simp, by simp, by simp, by simp, by simp⟩, hX⟩
theorem PNext.back (h : PB M G ρ CB cs i hm hd J w Pb H S Q u tv s d O o n) (hp : PNext M G ρ CB cs i w Pb H S Q u tv s d O o n w') : Below M.B0 w w' := by
  obtain ⟨_, _, _, _, _, _, _, _, _, hf⟩ := hp
  exact fr_above hf (fun k _ hk => by
    rcases hk with hk | hk
    · exact h.q.q.base hk
    · exact h.b.base k hk) h.q.q.B
end
end Go.Proofs.Ytmmmnghiegajmaa
/- A script is played on a pair with its journals; the law Opens is walked. -/
namespace Go.Proofs.Ytmmmnghiegajmaa
open Go.RowKit Go.Proofs.Herald
set_option maxRecDepth 20000 in
set_option maxHeartbeats 8000000 in
theorem plays7 {RT : Type} {M : Mode RT} {G : RT → Prop} {ρ : RT → Pr → Prop} {CB : World → Prop} {cs : List Ins} (K : KindP M G ρ CB cs) (N : Nat) (hm : Her Pr) (hd : Her RT) (J : List Nat) (Pb H S Q : Nat) (u tv : Value) (s : HS) (d : DS) (sa : Option Addr) (sb soff scap : Nat) (ops : List OpI) (w : World) (hp : QP M G ρ CB cs N hm hd J w Pb H S Q u tv s d) (hN : N ≤ 100000) (hsc : ScrIn w sa sb soff ops) (hsb : 0 < ops.length → sb < M.B0) (hlen : ops.length ≤ 1048576) :
    Calls Try.prog 18 #[.pointer (some ⟨Pb, 0, none⟩), .slice sa ops.length scap, .int .i64 7] w fun e w' => e = .returned (.bool true) ∧ Below M.B0 w w' := by
  have hB0 : M.B0 ≤ w.heap.size := hp.q.B
  have HST : Hid (∃ o, PB M G ρ CB cs N hm hd J (w.alloc (.cells #[.int .i64 0, .slice none 0 0, .slice none 0 0, .slice none 0 0] 41)) Pb H S Q u tv s d w.heap.size o 0) := by
    obtain ⟨h1, h2⟩ := bk_new w M.B0 hB0
    exact ⟨_, ⟨hp.q.below K.k ((Below.refl _ _).alloc (Nat.le_refl _) _), hp.same⟩, h1, fun k hk hx => by have := hp.q.lt hk; have := h2 k hx; omega⟩
  have HSC : Hid (ScrIn w sa sb soff ops ∧ (0 < ops.length → sb < M.B0)) := ⟨hsc, hsb⟩
  have HK : Hid (KindP M G ρ CB cs) := K
  clear hp hsc hsb K
  go_enter Try.func18, Try.ntmps18
  go_wp2_with fail
  go_loopw [8] (fun i wr => ∃ k : Nat, k ≤ ops.length ∧ i = .int .i64 k ∧ Hid (∃ hm hd J s d o, PB M G ρ CB cs (N + k) hm hd J wr Pb H S Q u tv s d w.heap.size o k) ∧ Hid (Below M.B0 w wr)) (fun i _ => ops.length - (intOf i).toNat)
  case atStart =>
    obtain ⟨o, ho⟩ := HST.out
    exact ⟨0, Nat.zero_le _, rfl, ⟨_, _, _, _, _, o, ho⟩, ((Below.refl _ _).alloc (Nat.le_refl _) _).mono hB0⟩
  case round =>
    obtain ⟨k, hk, rfl, HS, HB⟩ := hrel
    obtain ⟨hm1, hd1, J1, s1, d1, o1, hS⟩ := HS.out
    by_cases hlt : k < ops.length
    · obtain ⟨rfl, hsw, hcell⟩ := HSC.out.1 (by omega)
      have hsb := HSC.out.2 (by omega)
      have cell : ∀ j v, (opCells ops[k])[j]? = some v → wr.cell? ⟨sb, soff + k * 5 + j, none⟩ = some v := fun j v hj => (HB.out.cell (p := ⟨sb, soff + k * 5 + j, none⟩) hsb).trans (hcell k hlt j v hj)
      have e0 : wr.cell? ⟨sb, soff + k * 5, none⟩ = some (.int .i64 ops[k].k) := cell 0 _ rfl
      have e1 : wr.cell? ⟨sb, soff + k * 5 + 1, none⟩ = some (.int .i64 ops[k].a) := cell 1 _ rfl
      have e2 : wr.cell? ⟨sb, soff + k * 5 + 2, none⟩ = some (.int .i64 ops[k].b) := cell 2 _ rfl
      have e3 : wr.cell? ⟨sb, soff + k * 5 + 3, none⟩ = some (.int .i64 ops[k].c) := cell 3 _ rfl
      have e4 : wr.cell? ⟨sb, soff + k * 5 + 4, none⟩ = some (.string ops[k].str) := cell 4 _ rfl
      generalize ops[k] = x at *
      by_cases hx : 7 < x.k
      · have HN : Hid (∃ hm hd J s d o, PB M G ρ CB cs (N + (k + 1)) hm hd J wr Pb H S Q u tv s d w.heap.size o (k + 1)) := by
          obtain ⟨m1, m2, m3, m4, m5, m6, q1, _⟩ := hS.next (hS.q.stay HK.out (Below.refl _ _))
          exact ⟨m1, m2, m3, m4, m5, m6, q1⟩
        clear hS cell hcell HS
        go_wp2_with fail
        go_roundw
        case rel => exact ⟨k + 1, by omega, by go_num, HN, HB⟩
        case measure => simp [intOf]; omega
      · have HC : Hid (Calls Try.prog 59 #[.pointer (some ⟨Pb, 0, none⟩), .agg #[.int .i64 x.k, .int .i64 x.a, .int .i64 x.b, .int .i64 x.c, .string x.str], .pointer (some ⟨w.heap.size, 0, none⟩)] wr fun e w' => e = .returned (.bool true) ∧ (∃ hm hd J s d o, PB M G ρ CB cs (N + (k + 1)) hm hd J w' Pb H S Q u tv s d w.heap.size o (k + 1)) ∧ Below M.B0 wr w') := by
          refine (pb_play HK.out x hS (by omega) (by omega)).mono ?_
          rintro e w' ⟨rfl, hN⟩
          have hb := PNext.back hS hN
          obtain ⟨m1, m2, m3, m4, m5, m6, q1, _⟩ := hN
          exact ⟨rfl, ⟨m1, m2, m3, m4, m5, m6, q1⟩, hb⟩
        have hx7 : x.k ≤ 7 := by omega
        clear hS cell hcell HS
        go_wp2_with fail
        refine HC.out.mono ?_
        rintro e w1 ⟨rfl, hN, hb⟩
        have HN : Hid (∃ hm hd J s d o, PB M G ρ CB cs (N + (k + 1)) hm hd J w1 Pb H S Q u tv s d w.heap.size o (k + 1)) := hN
        have HB1 : Hid (Below M.B0 w w1) := HB.out.trans hb
        clear hN hb HC e0 e1 e2 e3 e4
        go_wp2_with fail
        go_roundw
        case rel => exact ⟨k + 1, by omega, by go_num, HN, HB1⟩
        case measure => simp [intOf]; omega
    · have hlk : Hid (Calls Try.prog 17 #[.pointer (some ⟨Pb, 0, none⟩), .pointer (some ⟨w.heap.size, 0, none⟩)] wr fun e w' => e = .returned (.bool true) ∧ Below M.B0 w w') := by
        refine (pb_looked HK.out hS (by omega) wr (Below.refl _ _)).mono ?_
        rintro e w' ⟨rfl, hN⟩
        exact ⟨rfl, HB.out.trans (PNext.back hS hN)⟩
      clear hS HS
      go_wp2_with fail
      refine hlk.out.mono ?_
      rintro e w1 ⟨rfl, hb⟩
      have HB1 : Hid (Below M.B0 w w1) := hb
      clear hb hlk
      go_wp2_with fail
      go_ret
      exact ⟨rfl, HB1.out⟩
def newD : DS := ⟨.slice none 0 0, fun _ => .slice none 0 0, []⟩
theorem newD_own {S Q k : Nat} (h : newD.own S Q k) : k = S ∨ k = Q := by
  rcases h with hk | hk | ⟨d, _, hk⟩ | hk | ⟨x, hx, _⟩
  · exact .inl hk
  · exact .inr hk
  · cases hk
  · cases hk
  · cases hx
/-- The document's herald has just begun. -/
theorem gd_new {RT : Type} {M : Mode RT} {G : RT → Prop} {CB : World → Prop} {w : World} {S Q : Nat} (hS : w.heap[S]? = some (.cells #[.bool M.s.tx, M.s.pg, M.s.code, .int .i64 0, .int .i64 0, .slice none 0 0, .slice (some ⟨Q, 0, none⟩) 3 3, .string ⟨#[]⟩] 121 (0, 0)) ∧ w.heap[Q]? = some (.cells #[.slice none 0 0, .slice none 0 0, .slice none 0 0] 66 (0, 0))) (hcb : CB w) (h1 : M.B0 ≤ S) (h2 : M.B0 ≤ Q) : GD M G CB 0 newH [] w S Q newD :=
  ⟨⟨⟨hS.1, hS.2, fun d _ => World.ownsRow_nil _ _ _ _, fun d e b _ _ hb => (by cases hb), World.ownsRow_nil _ _ _ _, fun x hx => (by cases hx), List.Pairwise.nil⟩, fun k hk => by
    rcases newD_own hk with rfl | rfl
    · exact h1
    · exact h2, trivial⟩, hcb, (HOk.new _ _).mono (by simp), by simp [newH], by simp⟩
theorem code_kindP {cs : List Ins} (hs : soundL cs = true) (a : Option Addr) (b off cap B0 : Nat) : KindP (codeM cs a b off cap B0) (goodP cs) StR (fun w => CodeLies w B0 a b off cs) cs :=
  ⟨⟨codeM_ok hs a b off cap B0, fun _ _ hc hst => hc.keep fun h1 h2 => hst b h2 (.inl h1), codeE_ok hs, code_trigX hs a b off cap B0⟩, mach_same hs⟩
/-- The opened pair, with its own block behind it. -/
theorem Opened.pair {RT : Type} {M : Mode RT} {G : RT → Prop} {ρ : RT → Pr → Prop} {CB : World → Prop} {cs : List Ins} {N : Nat} {w w' : World} {S Q : Nat} {d : DS} {H : Nat} (K : KindJ M G CB) (h : Opened M G ρ CB cs N w S Q d H w') (hB : M.B0 ≤ w.heap.size) (u tv : Value) :
    ∃ hm hd J s1 d1, QP M G ρ CB cs N hm hd J (w'.alloc (.cells #[.pointer (some ⟨H, 0, none⟩), .pointer (some ⟨S, 0, none⟩), u, tv] 34)) w'.heap.size H S Q u tv s1 d1 ∧ ∀ k, ownQ w'.heap.size H S Q s1 d1 k → d.own S Q k ∨ w.heap.size ≤ k := by
  obtain ⟨hm, hd, J, s1, d1, h1, h2, h3, h4, h5, h6, h7⟩ := h
  have hb : Below w'.heap.size w' (w'.alloc (.cells #[.pointer (some ⟨H, 0, none⟩), .pointer (some ⟨S, 0, none⟩), u, tv] 34)) := (Below.refl _ _).alloc (Nat.le_refl _) _
  have hz := h7.size
  refine ⟨hm, hd, J, s1, d1, ⟨⟨heap_alloc_new _ _, h1.keep fun k hk => hb.block k (h1.lt hk), h2.below K hb, h5, fun hk => ?_, fun hk => ?_, fun k hk => ?_, by omega⟩, h3⟩, fun k hk => ?_⟩
  · have := h1.lt hk; omega
  · have := h2.lt hk; omega
  · have := h4 k hk; omega
  · rcases hk with rfl | hk | hk
    · exact .inr hz
    · exact .inr (h4 k hk)
    · exact h6 k hk
set_option maxRecDepth 20000 in
set_option maxHeartbeats 4000000 in
theorem opens_walk (a : Option Addr) (b off cap : Nat) (cs : List Ins) (j : ByteArray) (sa : Option Addr) (sb soff scap : Nat) (ops : List OpI) (w : World) (hc : CodeIn w a b off cs) (hm : cs.length ≤ 4398046511000) (hj : j.size ≤ 1048576) (hsc : ScrIn w sa sb soff ops) (hlen : ops.length ≤ 1048576) :
    Calls Try.prog 7 #[.slice a cs.length cap, .string j, .slice sa ops.length scap] w fun e w' => e = .returned (.bool true) ∧ Below w.heap.size w w' := by
  have HC : Hid (CodeIn w a b off cs) := hc
  have HSC : Hid (ScrIn w sa sb soff ops) := hsc
  obtain ⟨L, hjL, hL⟩ := strN_all j
  have hl : L.length ≤ 1048576 := by rw [hjL, strN_size] at hj; exact hj
  clear hc hsc hj
  cases hs : soundL cs with
  | false =>
    have HS : Hid (soundL cs = false) := hs
    clear hs hjL
    go_enter Try.func7, Try.ntmps7
    go_wp2_with fail
    refine (OfCode_any _ a cs.length cap).mono ?_
    rintro e w1 ⟨S, Q, rfl, hS, hQ, hsn, hb1⟩
    have HB1 : Hid (Below w.heap.size w w1) := hb1
    clear hsn hb1
    go_wp2_with fail
    refine (opened_no a b off cap cs j S _ (HC.out.keep HB1.out) hm HS.out).mono ?_
    rintro e w2 ⟨rfl, hb2⟩
    have HB2 : Hid (Below w.heap.size w w2) := HB1.out.trans (hb2.mono HB1.out.size)
    clear hb2 HB1
    go_wp2_with fail
    go_ret
    exact ⟨rfl, HB2.out⟩
  | true =>
    have HS : Hid (soundL cs = true) := hs
    have HL : Hid ((∀ x ∈ L, x < 256) ∧ j = strN L) := ⟨hL, hjL⟩
    clear hs hL hjL
    go_enter Try.func7, Try.ntmps7
    go_wp2_with fail
    refine (OfCode_any _ a cs.length cap).mono ?_
    rintro e w1 ⟨S, Q, rfl, hS, hQ, hsn, hb1⟩
    have HOP : Hid (Calls Try.prog 22 #[.slice a cs.length cap, .string j, .pointer (some ⟨S, 0, none⟩)] w1 fun e w' => ∃ H, e = .returned (.tuple #[.pointer (some ⟨H, 0, none⟩), .bool true]) ∧ w1.heap.size ≤ H ∧ Opened (codeM cs a b off cap w.heap.size) (goodP cs) StR (fun w' => CodeLies w' w.heap.size a b off cs) cs (L.length / 19) w1 S Q newD H w') := by
      rw [HL.out.2]
      refine opened_yes (code_kindP HS.out a b off cap w.heap.size) a b off cap L HL.out.1 (by omega) S Q newD w1 (HC.out.keep hb1) HS.out (gd_new hsn ?_ hS hQ) fun hp hk => ?_
      · intro hp
        obtain ⟨e1, e2, e3⟩ := HC.out hp
        exact ⟨e1, e2, Nat.lt_of_lt_of_le e2 hb1.size, e3.keep (hb1.block b e2)⟩
      · have := (HC.out hp).2.1
        rcases newD_own hk with rfl | rfl <;> omega
    have HB1 : Hid (Below w.heap.size w w1 ∧ w.heap.size ≤ S ∧ w.heap.size ≤ Q) := ⟨hb1, hS, hQ⟩
    clear hsn hb1 hS hQ
    go_wp2_with fail
    refine HOP.out.mono ?_
    rintro e w2 ⟨H, rfl, hH, hop⟩
    have hz1 := HB1.out.1.size
    obtain ⟨hm1, hd1, J1, s1, d1, q1, o1⟩ := hop.pair (code_kindP HS.out a b off cap w.heap.size).k hz1 (.slice none 0 0) (.string ⟨#[]⟩)
    have hb2 : Below w.heap.size w (w2.alloc (.cells #[.pointer (some ⟨H, 0, none⟩), .pointer (some ⟨S, 0, none⟩), .slice none 0 0, .string ⟨#[]⟩] 34)) := by
      obtain ⟨_, _, _, _, _, _, _, _, _, _, _, h7⟩ := hop
      have h8 : Below w.heap.size w1 w2 := fr_above h7 (fun k _ hk => by rcases newD_own hk with rfl | rfl; exact HB1.out.2.1; exact HB1.out.2.2) hz1
      exact (HB1.out.1.trans h8).alloc (by have := h8.size; omega) _
    have HPL : Hid (Calls Try.prog 18 #[.pointer (some ⟨w2.heap.size, 0, none⟩), .slice sa ops.length scap, .int .i64 7] (w2.alloc (.cells #[.pointer (some ⟨H, 0, none⟩), .pointer (some ⟨S, 0, none⟩), .slice none 0 0, .string ⟨#[]⟩] 34)) fun e w' => e = .returned (.bool true) ∧ Below w.heap.size w w') := by
      refine (plays7 (code_kindP HS.out a b off cap w.heap.size) (L.length / 19) hm1 hd1 J1 w2.heap.size H S Q (.slice none 0 0) (.string ⟨#[]⟩) s1 d1 sa sb soff scap ops _ q1 (by omega) ?_ ?_ hlen).mono ?_
      · intro hp
        obtain ⟨e1, e2, e3⟩ := HSC.out hp
        exact ⟨e1, Nat.lt_of_lt_of_le e2 hb2.size, fun i hi j u hu => (hb2.cell (p := ⟨sb, soff + i * 5 + j, none⟩) e2).trans (e3 i hi j u hu)⟩
      · intro hp
        exact (HSC.out hp).2.1
      · rintro e w' ⟨rfl, hb⟩
        exact ⟨rfl, hb2.trans hb⟩
    clear hop q1 o1 hb2 HOP hH
    go_wp2_with fail
    refine HPL.out.mono ?_
    rintro e w3 ⟨rfl, hb3⟩
    have HB3 : Hid (Below w.heap.size w w3) := hb3
    clear hb3 HPL
    go_wp2_with fail
    go_ret
    exact ⟨rfl, HB3.out⟩
end Go.Proofs.Ytmmmnghiegajmaa
