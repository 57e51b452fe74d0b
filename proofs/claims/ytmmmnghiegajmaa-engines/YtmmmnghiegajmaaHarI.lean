/- The harness: a script is played; the law Engines is walked; a script that came in. -/
import Derived.Test.YtmmmnghiegajmaaHarF
import Derived.Test.YtmmmnghiegajmaaHarA
import Derived.Test.YtmmmnghiegajmaaHarH
import Derived.Test.YtmmmnghiegajmaaRows
import Derived.ProofKit
import Derived.OpenShut
import Derived.HandedShaped
import Derived.Carry
import Derived.Test.YtmmmnghiegajmaaLawNews
namespace Go.Proofs.Ytmmmnghiegajmaa
open Go.RowKit Go.Proofs.Herald

/-- A step of a script. -/
structure OpI where
  k : Int
  a : Int
  b : Int
  c : Int
  str : ByteArray

def opCells (x : OpI) : List Value := [.int .i64 x.k, .int .i64 x.a, .int .i64 x.b, .int .i64 x.c, .string x.str]

/-- A script that lies where it lay. -/
def ScrIn (W : World) (sa : Option Addr) (sb soff : Nat) (ops : List OpI) : Prop := 0 < ops.length → sa = some ⟨sb, soff, none⟩ ∧ sb < W.heap.size ∧ ∀ (i : Nat) (hi : i < ops.length) (j : Nat) (u : Value), (opCells ops[i])[j]? = some u → W.cell? ⟨sb, soff + i * 5 + j, none⟩ = some u

theorem play_any {RT : Type} {M : Mode RT} {G : RT → Prop} {ρ : RT → Pr → Prop} {CB : World → Prop} {cs : List Ins} (K : Kinds M G ρ CB cs) (Pb H S Q O : Nat) (u tv : Value) (i : Nat) (hm : Her Pr) (hd : Her RT) (s : PSt) (o : OSt) (x : OpI) (w : World) (h : ST M G ρ CB w Pb H S Q O u tv cs i hm hd s o) (hi : i ≤ 1100000) (hk : x.k ≤ 6) :
    Calls Try.prog 59 #[.pointer (some ⟨Pb, 0, none⟩), .agg #[.int .i64 x.k, .int .i64 x.a, .int .i64 x.b, .int .i64 x.c, .string x.str], .pointer (some ⟨O, 0, none⟩)] w fun e w' => e = .returned (.bool true) ∧ Next M G ρ CB w Pb H S Q O u tv cs i w' := by
  obtain ⟨k, a, b, c, str⟩ := x
  simp only at hk ⊢
  by_cases h0 : k ≤ 0
  · exact play_none K Pb H S Q O u tv i hm hd s o k a b c str w h (.inl h0)
  · rcases (show k = 1 ∨ k = 2 ∨ k = 3 ∨ k = 4 ∨ k = 5 ∨ k = 6 by omega) with rfl | rfl | rfl | rfl | rfl | rfl
    · exact play_trig K Pb H S Q O u tv i hm hd s o a b c str w h hi
    · exact play_tick K Pb H S Q O u tv i hm hd s o a b c str w h hi
    · exact play_ack K Pb H S Q O u tv i hm hd s o a b c str w h hi
    · exact play_cancel K Pb H S Q O u tv i hm hd s o a b c str w h hi
    · exact play_drain K Pb H S Q O u tv i hm hd s o a b c str w h hi
    · exact play_show K Pb H S Q O u tv i hm hd s o a b c str w h hi

set_option maxRecDepth 20000 in
set_option maxHeartbeats 8000000 in
theorem plays_any {RT : Type} {M : Mode RT} {G : RT → Prop} {ρ : RT → Pr → Prop} {CB : World → Prop} {cs : List Ins} (K : Kinds M G ρ CB cs) (Pb H S Q : Nat) (u tv : Value) (s : PSt) (sa : Option Addr) (sb soff scap : Nat) (ops : List OpI) (w : World) (hp : PP M CB w Pb H S Q u tv cs newH newH s) (hn : s.n = 0) (hdr : s.drec.size = 0) (hsc : ScrIn w sa sb soff ops) (hsb : 0 < ops.length → sb < M.B0) (hlen : ops.length ≤ 1048576) :
    Calls Try.prog 18 #[.pointer (some ⟨Pb, 0, none⟩), .slice sa ops.length scap, .int .i64 6] w fun e w' => e = .returned (.bool true) ∧ Below M.B0 w w' := by
  have hB0 : M.B0 ≤ w.heap.size := by have h1 := hp.pb; have h2 := heap_lt hp.p; omega
  have HST : Hid (ST M G ρ CB (w.alloc (.cells #[.int .i64 0, .slice none 0 0, .slice none 0 0, .slice none 0 0] 41)) Pb H S Q w.heap.size u tv cs 0 newH newH s ⟨0, .slice none 0 0, .slice none 0 0, .slice none 0 0, [], [], []⟩) := by
    have hb : Below w.heap.size w (w.alloc (.cells #[.int .i64 0, .slice none 0 0, .slice none 0 0, .slice none 0 0] 41)) := (Below.refl _ _).alloc (Nat.le_refl _) _
    have hX : ∀ k, ownX w.heap.size ⟨0, .slice none 0 0, .slice none 0 0, .slice none 0 0, [], [], []⟩ k → k = w.heap.size := fun k hk => by
      rcases hk with hk | hk | hk | hk | ⟨b, hb, _⟩ | ⟨b, hb, _⟩ | ⟨b, hb, _⟩
      · exact hk
      · cases hk
      · cases hk
      · cases hk
      · cases hb
      · cases hb
      · cases hb
    refine ⟨⟨hp.below K.hM K.hCB hb, ⟨heap_alloc_new _ _, .inl rfl, World.ownsRow_nil _ _ _ _, World.ownsRow_nil _ _ _ _, World.ownsRow_nil _ _ _ _, fun b hb => (by cases hb), fun b hb => (by cases hb), fun b hb => (by cases hb), fun b hb => (by cases hb), fun b hb => (by cases hb), fun b hb => (by cases hb)⟩, fun k hk hx => ?_, fun k hk => ?_⟩, SameHer.new ρ, (HOk.new _ _).mono (by simp), (HOk.new _ _).mono (by simp), QsOk.new, by simp [newH], by omega, by omega, by simp, by simp, by simp, by simp, by simp⟩
    · have := hp.lt hk
      have := hX k hx
      omega
    · have := hX k hk
      omega
  have HSC : Hid (ScrIn w sa sb soff ops ∧ (0 < ops.length → sb < M.B0)) := ⟨hsc, hsb⟩
  clear hp hn hdr hsc hsb
  go_enter Try.func18, Try.ntmps18
  go_wp2_with fail
  go_loopw [8] (fun i wr => ∃ k : Nat, k ≤ ops.length ∧ i = .int .i64 k ∧ Hid (∃ hm hd s o, ST M G ρ CB wr Pb H S Q w.heap.size u tv cs k hm hd s o) ∧ Hid (Below M.B0 w wr)) (fun i _ => ops.length - (intOf i).toNat)
  case atStart => exact ⟨0, Nat.zero_le _, rfl, ⟨_, _, _, _, HST.out⟩, ((Below.refl _ _).alloc (Nat.le_refl _) _).mono hB0⟩
  case round =>
    obtain ⟨k, hk, rfl, HS, HB⟩ := hrel
    obtain ⟨hm, hd, s', o', hS⟩ := HS.out
    by_cases hlt : k < ops.length
    · obtain ⟨rfl, hsw, hcell⟩ := HSC.out.1 (by omega)
      have hsb := HSC.out.2 (by omega)
      have cell : ∀ j v, (opCells ops[k])[j]? = some v → wr.cell? ⟨sb, soff + k * 5 + j, none⟩ = some v := fun j v hj => (HB.out.cell (p := ⟨sb, soff + k * 5 + j, none⟩) hsb).trans (hcell k hlt j v hj)
      have e0 : wr.cell? ⟨sb, soff + k * 5, none⟩ = some (.int .i64 ops[k].k) := cell 0 _ rfl
      have e1 : wr.cell? ⟨sb, soff + k * 5 + 1, none⟩ = some (.int .i64 ops[k].a) := cell 1 _ rfl
      have e2 : wr.cell? ⟨sb, soff + k * 5 + 2, none⟩ = some (.int .i64 ops[k].b) := cell 2 _ rfl
      have e3 : wr.cell? ⟨sb, soff + k * 5 + 3, none⟩ = some (.int .i64 ops[k].c) := cell 3 _ rfl
      have e4 : wr.cell? ⟨sb, soff + k * 5 + 4, none⟩ = some (.string ops[k].str) := cell 4 _ rfl
      generalize ops[k] = x at *
      by_cases hx : 6 < x.k
      · have HN : Hid (Next M G ρ CB wr Pb H S Q w.heap.size u tv cs k wr) := hS.stay K (Below.refl _ _)
        clear hS cell hcell HS
        go_wp2_with fail
        go_roundw
        case rel =>
          obtain ⟨hm2, hd2, s2, o2, h2, _⟩ := HN.out
          exact ⟨k + 1, by omega, by go_num, ⟨hm2, hd2, s2, o2, h2⟩, HB⟩
        case measure => simp [intOf]; omega
      · have hx6 : x.k ≤ 6 := by omega
        have HC : Hid (Calls Try.prog 59 #[.pointer (some ⟨Pb, 0, none⟩), .agg #[.int .i64 x.k, .int .i64 x.a, .int .i64 x.b, .int .i64 x.c, .string x.str], .pointer (some ⟨w.heap.size, 0, none⟩)] wr fun e w' => e = .returned (.bool true) ∧ Next M G ρ CB wr Pb H S Q w.heap.size u tv cs k w') := play_any K Pb H S Q w.heap.size u tv k hm hd s' o' x wr hS (by omega) hx6
        clear hS cell hcell HS
        go_wp2_with fail
        refine HC.out.mono ?_
        rintro e w1 ⟨rfl, hN⟩
        have HN : Hid (Next M G ρ CB wr Pb H S Q w.heap.size u tv cs k w1) := hN
        clear hN HC e0 e1 e2 e3 e4
        go_wp2_with fail
        go_roundw
        case rel =>
          obtain ⟨hm2, hd2, s2, o2, h2, h3⟩ := HN.out
          exact ⟨k + 1, by omega, by go_num, ⟨hm2, hd2, s2, o2, h2⟩, HB.out.trans h3⟩
        case measure => simp [intOf]; omega
    · have hlk : Hid (Calls Try.prog 17 #[.pointer (some ⟨Pb, 0, none⟩), .pointer (some ⟨w.heap.size, 0, none⟩)] wr fun e w' => e = .returned (.bool true) ∧ Below M.B0 w w') := by
        have h3 := hS.on1
        have h4 := hS.rb
        have h5 := hS.qb
        have h7 := hS.cb
        have h8 := hS.on0
        refine (looked_any K.hM K.hCB Pb H S Q w.heap.size u tv cs hm hd s' o' wr K.hE hS.same hS.lk hS.okm.len hS.okm.qlen h8 (by omega) (by omega) (by omega) (by omega)).mono ?_
        rintro e w' ⟨rfl, o2, _, _, _, _, _, _, l7⟩
        exact ⟨rfl, HB.out.trans (fr_above l7 (fun k _ hz => hS.lk.ob k hz) (by have := HB.out.size; omega))⟩
      clear hS HS
      go_wp2_with fail
      refine hlk.out.mono ?_
      rintro e w1 ⟨rfl, hb⟩
      have HB1 : Hid (Below M.B0 w w1) := hb
      clear hb hlk
      go_wp2_with fail
      go_ret
      exact ⟨rfl, HB1.out⟩

end Go.Proofs.Ytmmmnghiegajmaa

namespace Go.Proofs.Ytmmmnghiegajmaa
open Go.RowKit Go.Proofs.Herald

theorem code_kinds {cs : List Ins} (hs : soundL cs = true) (a : Option Addr) (b off cap B0 : Nat) : Kinds (codeM cs a b off cap B0) (goodP cs) StR (fun w => CodeLies w B0 a b off cs) cs :=
  ⟨codeM_ok hs a b off cap B0, fun _ _ hc hst => hc.keep fun h1 h2 => hst b h2 (.inl h1), mach_same hs, hs, codeE_ok hs, (codeE_ok hs).same (mach_same hs) (fun _ _ => rfl), code_trig hs a b off cap B0⟩

/-- The parts of a pair that has just begun. -/
def newSt (v : Value) : PSt := ⟨v, .slice none 0 0, .slice none 0 0, fun _ => .slice none 0 0, 0, ⟨#[]⟩, .slice none 0 0, fun _ => .slice none 0 0, []⟩

theorem pp_new {cs : List Ins} {a : Option Addr} {b off cap B0 : Nat} {w : World} {Pb H S Q : Nat} {v u tv : Value} (hP : w.heap[Pb]? = some (.cells #[.pointer (some ⟨H, 0, none⟩), .pointer (some ⟨S, 0, none⟩), u, tv] 34 (0, 0))) (hH : w.heap[H]? = some (.cells (newHd v) 150 (0, 0))) (hv : w.ownsRow B0 128 4 v cs.length (codeCells cs)) (hS : SimNew w S Q (.slice a cs.length cap)) (hcl : CodeLies w B0 a b off cs)
    (h1 : B0 ≤ Pb) (h2 : B0 ≤ H) (h3 : B0 ≤ S) (h4 : B0 ≤ Q) : PP (codeM cs a b off cap B0) (fun w => CodeLies w B0 a b off cs) w Pb H S Q u tv cs newH newH (newSt v) := by
  have hF : ∀ k, ownF H (newSt v).code (newSt v).jr (newSt v).rv (newSt v).qv k → k = H ∨ v.ownBlock = some k := fun k hk => by
    rcases hk with (hk | ⟨d, _, hk⟩ | hk) | hk | hk
    · exact .inl hk
    · cases hk
    · cases hk
    · cases hk
    · exact .inr hk
  have hD : ∀ k, ownS S Q (newSt v).pv (newSt v).dqv (newSt v).rs k → k = S ∨ k = Q := fun k hk => by
    rcases hk with hk | hk | ⟨d, _, hk⟩ | hk | ⟨x, hx, _⟩
    · exact .inl hk
    · exact .inr hk
    · cases hk
    · cases hk
    · cases hx
  have hty : ∀ k, ownF H (newSt v).code (newSt v).jr (newSt v).rv (newSt v).qv k → ∃ c t, w.heap[k]? = some (.cells c t (0, 0)) ∧ (t = 150 ∨ t = 128) := fun k hk => by
    rcases hF k hk with rfl | hk
    · exact ⟨_, _, hH, .inl rfl⟩
    · obtain ⟨c, hc⟩ := own_block (own0 hv) hk
      exact ⟨_, _, hc, .inr rfl⟩
  refine ⟨hP, ⟨⟨⟨hH, fun d _ => World.ownsRow_nil _ _ _ _, fun d _ => by simp [newH], fun d e b _ _ hb => (by cases hb), World.ownsRow_nil _ _ _ _, fun p hp => (by simp [newH] at hp)⟩, own0 hv⟩, [], rfl, World.ownsRow_nil _ _ _ _⟩, ⟨⟨hS.1, hS.2, fun d _ => World.ownsRow_nil _ _ _ _, fun d e b _ _ hb => (by cases hb), World.ownsRow_nil _ _ _ _, fun x hx => (by cases hx), List.Pairwise.nil⟩, fun k hk => ?_, trivial⟩, hcl, fun k hk hk2 => ?_, fun hk => ?_, fun hk => ?_, fun k hk => ?_, h1⟩
  · show B0 ≤ k
    rcases hD k hk with rfl | rfl
    · exact h3
    · exact h4
  · obtain ⟨c, t, hc, ht⟩ := hty k hk
    rcases hD k hk2 with rfl | rfl
    · rcases ht with rfl | rfl
      · exact ne_of_type hc hS.1 (by decide) rfl
      · exact ne_of_type hc hS.1 (by decide) rfl
    · rcases ht with rfl | rfl
      · exact ne_of_type hc hS.2 (by decide) rfl
      · exact ne_of_type hc hS.2 (by decide) rfl
  · obtain ⟨c, t, hc, ht⟩ := hty Pb hk
    rcases ht with rfl | rfl
    · exact ne_of_type hc hP (by decide) rfl
    · exact ne_of_type hc hP (by decide) rfl
  · rcases hD Pb hk with h | h
    · exact ne_of_type hP hS.1 (by decide) h
    · exact ne_of_type hP hS.2 (by decide) h
  · show B0 ≤ k
    rcases hF k hk with rfl | hk
    · exact h2
    · exact (ownsRow_lies hv hk).1

set_option maxRecDepth 20000 in
set_option maxHeartbeats 2000000 in
theorem engines_walk (a : Option Addr) (b off cap : Nat) (cs : List Ins) (sa : Option Addr) (sb soff scap : Nat) (ops : List OpI) (w : World) (hc : CodeIn w a b off cs) (hm : cs.length ≤ 4398046511000) (hsc : ScrIn w sa sb soff ops) (hlen : ops.length ≤ 1048576) :
    Calls Try.prog 5 #[.slice a cs.length cap, .slice sa ops.length scap] w fun e w' => e = .returned (.bool true) ∧ Below w.heap.size w w' := by
  have HC : Hid (CodeIn w a b off cs) := hc
  have HSC : Hid (ScrIn w sa sb soff ops) := hsc
  clear hc hsc
  cases hs : soundL cs with
  | false =>
    have HS : Hid (soundL cs = false) := hs
    clear hs
    go_enter Try.func5, Try.ntmps5
    go_wp2_with fail
    refine (begun_no a b off cap cs _ HC.out hm HS.out).mono ?_
    rintro e w1 ⟨rfl, hb1⟩
    go_wp2_with fail
    go_ret
    exact ⟨rfl, hb1⟩
  | true =>
    have HS : Hid (soundL cs = true) := hs
    clear hs
    go_enter Try.func5, Try.ntmps5
    go_wp2_with fail
    refine (begun_yes a b off cap cs _ HC.out HS.out).mono ?_
    rintro e w1 ⟨H, v, rfl, hH, hgH, hvo, hb1⟩
    have H1 : Hid (w1.heap[H]? = some (.cells (newHd v) 150 (0, 0)) ∧ w1.ownsRow w.heap.size 128 4 v cs.length (codeCells cs) ∧ Below w.heap.size w w1) := ⟨hgH, hvo, hb1⟩
    clear hgH hb1 hvo
    go_wp2_with fail
    refine (OfCode_any _ a cs.length cap).mono ?_
    rintro e w2 ⟨S, Q, rfl, hS, hQ, hsn, hb2⟩
    have HPP : Hid (PP (codeM cs a b off cap w.heap.size) (fun w' => CodeLies w' w.heap.size a b off cs) (w2.alloc (.cells #[.pointer (some ⟨H, 0, none⟩), .pointer (some ⟨S, 0, none⟩), .slice none 0 0, .string ⟨#[]⟩] 34)) w2.heap.size H S Q (.slice none 0 0) (.string ⟨#[]⟩) cs newH newH (newSt v) ∧ Below w.heap.size w (w2.alloc (.cells #[.pointer (some ⟨H, 0, none⟩), .pointer (some ⟨S, 0, none⟩), .slice none 0 0, .string ⟨#[]⟩] 34))) := by
      have hs1 := H1.out.2.2.size
      have hs2 := hb2.size
      have hbA : Below w2.heap.size w2 (w2.alloc (.cells #[.pointer (some ⟨H, 0, none⟩), .pointer (some ⟨S, 0, none⟩), .slice none 0 0, .string ⟨#[]⟩] 34)) := (Below.refl _ _).alloc (Nat.le_refl _) _
      have hb12 : Below w1.heap.size w1 (w2.alloc (.cells #[.pointer (some ⟨H, 0, none⟩), .pointer (some ⟨S, 0, none⟩), .slice none 0 0, .string ⟨#[]⟩] 34)) := hb2.trans (hbA.mono hs2)
      have hbw : Below w.heap.size w (w2.alloc (.cells #[.pointer (some ⟨H, 0, none⟩), .pointer (some ⟨S, 0, none⟩), .slice none 0 0, .string ⟨#[]⟩] 34)) := H1.out.2.2.trans (hb12.mono hs1)
      refine ⟨pp_new (heap_alloc_new _ _) ((hb12.block H (heap_lt H1.out.1)).trans H1.out.1) (own_stays H1.out.2.1 fun k hk => hb12.block k (by obtain ⟨_, cur, hc⟩ := ownsRow_lies H1.out.2.1 hk; exact heap_lt hc)) (hsn.keep fun k hk => hbA.block k ?_) ?_ (by omega) hH (by omega) (by omega), hbw⟩
      · rcases hk with rfl | rfl
        · exact heap_lt hsn.1
        · exact heap_lt hsn.2
      · intro hp
        obtain ⟨e1, e2, e3⟩ := HC.out hp
        exact ⟨e1, e2, Nat.lt_of_lt_of_le e2 hbw.size, e3.keep (hbw.block b e2)⟩
    clear hsn hb2 H1
    have HPL : Hid (Calls Try.prog 18 #[.pointer (some ⟨w2.heap.size, 0, none⟩), .slice sa ops.length scap, .int .i64 6] (w2.alloc (.cells #[.pointer (some ⟨H, 0, none⟩), .pointer (some ⟨S, 0, none⟩), .slice none 0 0, .string ⟨#[]⟩] 34)) fun e w' => e = .returned (.bool true) ∧ Below w.heap.size w w') := by
      refine (plays_any (code_kinds HS.out a b off cap w.heap.size) w2.heap.size H S Q (.slice none 0 0) (.string ⟨#[]⟩) (newSt v) sa sb soff scap ops _ HPP.out.1 rfl rfl ?_ ?_ hlen).mono ?_
      · intro hp
        obtain ⟨e1, e2, e3⟩ := HSC.out hp
        exact ⟨e1, Nat.lt_of_lt_of_le e2 HPP.out.2.size, fun i hi j u hu => (HPP.out.2.cell (p := ⟨sb, soff + i * 5 + j, none⟩) e2).trans (e3 i hi j u hu)⟩
      · intro hp
        exact (HSC.out hp).2.1
      · rintro e w' ⟨rfl, hb⟩
        exact ⟨rfl, HPP.out.2.trans hb⟩
    clear HPP
    go_wp2_with fail
    refine HPL.out.mono ?_
    rintro e w3 ⟨rfl, hb3⟩
    have HB3 : Hid (Below w.heap.size w w3) := hb3
    clear hb3 HPL
    go_wp2_with fail
    go_ret
    exact ⟨rfl, HB3.out⟩

end Go.Proofs.Ytmmmnghiegajmaa

namespace Go.Proofs.Ytmmmnghiegajmaa
open Go.ChangeShapes Go.WideShapes Go.ChangeAt Go.RowKit Go.Proofs.Herald

theorem Try.cellsOp : Try.prog.cellsOf 125 = 5 := by kernel_rfl
theorem Try.cellsStr : Try.prog.cellsOf 9 = 1 := by kernel_rfl

theorem bulk_one {H : Type} (d : DataW H) : 1 ≤ Rows.uptoBulk d := by
  cases d with
  | lit l => cases l <;> simp [Rows.uptoBulk]
  | nil => simp [Rows.uptoBulk]
  | ptr d => simp [Rows.uptoBulk]
  | slice a b => simp [Rows.uptoBulk]
  | agg p => simp [Rows.uptoBulk]
  | iface t d => simp [Rows.uptoBulk]
  | map e => simp [Rows.uptoBulk]
  | held h => simp [Rows.uptoBulk]

theorem bulk_len {H : Type} : ∀ (l : List (DataW H)), l.length ≤ Rows.uptoBulkAll l
  | [] => Nat.zero_le _
  | d :: r => by
    have h1 := bulk_one d
    have h2 := bulk_len r
    simp only [Rows.uptoBulkAll, List.length_cons]
    omega

theorem bulk_slice {H : Type} (a b : List (DataW H)) : a.length ≤ Rows.uptoBulk (.slice a b) := by
  have h1 := bulk_len a
  simp only [Rows.uptoBulk]
  omega

set_option maxRecDepth 100000 in
/-- A script that came in. -/
theorem open_script {H : Type} {enc : TypeId × Value → H} {W : World} {sp : Nat → Bool} {held : Bool} {r : Reach} {b0 : Nat} {v : Value} {d : DataW H} {ps : List MemPlace} (hval : Value.okWide Try.prog W r b0 43 v) (hd : DataW.Trod enc Try.prog W 0 sp held 43 v d ps) (_ : True) :
    ∃ a cap b off cs, v = .slice a (List.length cs) cap ∧ ScrIn W a b off cs ∧ List.length cs ≤ Rows.uptoBulk d := by
  obtain ⟨a0, len, cap, rfl⟩ := okWide_slice Try.underlying43 hval
  obtain ⟨fuel, hf⟩ := hd
  rcases DataW.trod_slice Try.underlying43 hf with ⟨h, hx⟩ | ⟨ad, len', cap', elems, rest, m, _, h, hx, _, hle, _, hlen, hel, _, _⟩
  · simp [Value.cells] at h
    obtain ⟨rfl, rfl, rfl⟩ := h
    exact ⟨none, 0, 0, 0, [], rfl, fun h => absurd h (by simp), Nat.zero_le _⟩
  · simp [Value.cells] at h
    obtain ⟨rfl, rfl, rfl⟩ := h
    simp only [Prod.mk.injEq] at hx
    obtain ⟨rfl, _⟩ := hx
    rw [Try.cellsOp] at hel
    have each : ∀ i, i < len → ∃ x : OpI, ∀ j u, (opCells x)[j]? = some u → W.cell? ((ad.add (i * 5)).add j) = some u := by
      intro i hi
      obtain ⟨y, hy⟩ : ∃ y, elems[i]? = some y := ⟨elems[i], List.getElem?_eq_getElem (by omega)⟩
      have h1 := hel i hi
      rw [hy, Option.bind_eq_some_iff] at h1
      obtain ⟨cs5, hc5, ht⟩ := h1
      obtain ⟨_, hl5, hcell⟩ := World.cells?_some hc5
      obtain ⟨xs, k, _, _, _, hxs, hfield⟩ := DataW.trod_struct Try.underlying125 ht
      have fld : ∀ (j : Nat) (f : Field), j < 4 → (#[{ name := "Kind", type := 3, offset := 0, embedded := false, tag := "", pkgPath := "", byteOffset := 0 }, { name := "A", type := 3, offset := 1, embedded := false, tag := "", pkgPath := "", byteOffset := 8 }, { name := "B", type := 3, offset := 2, embedded := false, tag := "", pkgPath := "", byteOffset := 16 }, { name := "C", type := 3, offset := 3, embedded := false, tag := "", pkgPath := "", byteOffset := 24 }, { name := "S", type := 9, offset := 4, embedded := false, tag := "", pkgPath := "", byteOffset := 32 }] : Array Field)[j]? = some f → f.type = 3 → f.offset = j → ∃ z : Int, cs5[j]? = some (.int .i64 z) := by
        intro j f hj hf1 hf2 hf3
        have h2 := hfield j f hf1
        have hxj : xs[j]? = some (xs[j]'(by rw [hxs]; exact Nat.lt_trans hj (by decide))) := List.getElem?_eq_getElem _
        rw [hxj, hf2, hf3, Try.cells3] at h2
        exact one_int h2
      obtain ⟨z0, e0⟩ := fld 0 _ (by omega) rfl rfl rfl
      obtain ⟨z1, e1⟩ := fld 1 _ (by omega) rfl rfl rfl
      obtain ⟨z2, e2⟩ := fld 2 _ (by omega) rfl rfl rfl
      obtain ⟨z3, e3⟩ := fld 3 _ (by omega) rfl rfl rfl
      obtain ⟨z4, e4⟩ : ∃ z : ByteArray, cs5[4]? = some (.string z) := by
        have h2 := hfield 4 { name := "S", type := 9, offset := 4, embedded := false, tag := "", pkgPath := "", byteOffset := 32 } rfl
        have hxj : xs[4]? = some (xs[4]'(by rw [hxs]; decide)) := List.getElem?_eq_getElem _
        rw [hxj] at h2
        simp only [Try.cellsStr] at h2
        obtain ⟨z, hz, _⟩ := DataW.trod_string Try.underlying9 h2
        refine ⟨z, ?_⟩
        have h0 : ((cs5.drop 4).take 1)[0]? = some (.string z) := by rw [hz]; rfl
        rw [List.getElem?_take_of_lt (by omega), List.getElem?_drop] at h0
        simpa using h0
      refine ⟨⟨z0, z1, z2, z3, z4⟩, fun j u hj => ?_⟩
      have hj5 : j < 5 := by have := (List.getElem?_eq_some_iff.mp hj).1; simpa [opCells] using this
      rw [hcell j hj5]
      match j, hj5 with
      | 0, _ => rw [e0]; exact hj
      | 1, _ => rw [e1]; exact hj
      | 2, _ => rw [e2]; exact hj
      | 3, _ => rw [e3]; exact hj
      | 4, _ => rw [e4]; exact hj
    by_cases hpos : 0 < len
    · obtain ⟨x0, hx0⟩ := each 0 hpos
      obtain ⟨b, off, spot⟩ := ad
      have g0 := hx0 0 _ rfl
      have hspot : spot = none := by simpa [Addr.add] using World.cell?_spot g0
      subst hspot
      have hblk : b < W.heap.size := by
        rcases Nat.lt_or_ge b W.heap.size with h | h
        · exact h
        · exfalso
          have h2 : W.heap[b]? = none := Array.getElem?_eq_none h
          have g1 := g0
          rw [Addr.add_lit, Addr.add_lit] at g1
          simp [World.cell?, h2] at g1
      refine ⟨_, cap, b, off, List.ofFn (fun i : Fin len => Classical.choose (each i.1 i.2)), by rw [List.length_ofFn], fun _ => ⟨rfl, hblk, fun i hi j u hj => ?_⟩, by rw [List.length_ofFn]; exact Nat.le_trans (by rw [List.length_map]; omega) (bulk_slice _ _)⟩
      rw [List.length_ofFn] at hi
      rw [List.getElem_ofFn] at hj
      have h1 := Classical.choose_spec (each i hi) j u hj
      rw [Addr.add_lit, Addr.add_lit] at h1
      exact h1
    · obtain rfl : len = 0 := by omega
      exact ⟨_, cap, 0, 0, [], rfl, fun h => absurd h (by simp), Nat.zero_le _⟩

end Go.Proofs.Ytmmmnghiegajmaa
