import Derived.Test.YtmmmnghiegajmaaM01
import Derived.Test.YtmmmnghiegajmaaM02
import Derived.Test.YtmmmnghiegajmaaM03
import Derived.Test.YtmmmnghiegajmaaM04
import Derived.Test.YtmmmnghiegajmaaM05
import Derived.Test.YtmmmnghiegajmaaM06
import Derived.Test.YtmmmnghiegajmaaM07
import Derived.Test.YtmmmnghiegajmaaM08
import Derived.Test.YtmmmnghiegajmaaM09
import Derived.Test.YtmmmnghiegajmaaM10
import Derived.Test.YtmmmnghiegajmaaM11
import Derived.Test.YtmmmnghiegajmaaM12
import Derived.Test.YtmmmnghiegajmaaM13
import Derived.Test.YtmmmnghiegajmaaM14
import Derived.Test.YtmmmnghiegajmaaM15
import Derived.Test.YtmmmnghiegajmaaM16
import Derived.Test.YtmmmnghiegajmaaM17
import Derived.Test.YtmmmnghiegajmaaM19
import Derived.Test.YtmmmnghiegajmaaM20
import Derived.Test.YtmmmnghiegajmaaM21
import Derived.Test.YtmmmnghiegajmaaM22
import Derived.Test.YtmmmnghiegajmaaM23
import Derived.Test.YtmmmnghiegajmaaM24
import Derived.Test.YtmmmnghiegajmaaM25
import Derived.Test.YtmmmnghiegajmaaM26
import Derived.Test.YtmmmnghiegajmaaM27
import Derived.Test.YtmmmnghiegajmaaM28
import Derived.Test.YtmmmnghiegajmaaM29
import Derived.Test.YtmmmnghiegajmaaM30
import Derived.Test.YtmmmnghiegajmaaM31
import Derived.Test.YtmmmnghiegajmaaM32
import Derived.Test.YtmmmnghiegajmaaM33
import Derived.Test.YtmmmnghiegajmaaM34
import Derived.Test.YtmmmnghiegajmaaE01
import Derived.Test.YtmmmnghiegajmaaE02
import Derived.Test.YtmmmnghiegajmaaE04
import Derived.Test.YtmmmnghiegajmaaE07
import Derived.Test.YtmmmnghiegajmaaE08
import Derived.Test.YtmmmnghiegajmaaE03
import Derived.Test.YtmmmnghiegajmaaE05
import Derived.Test.YtmmmnghiegajmaaE06
namespace Go.Proofs.Ytmmmnghiegajmaa
open Go.RowKit Go.Proofs.Herald
theorem subK_of {xs : List Int} {a : Option Addr} {b off cap S d : Nat} (hd : d ≤ 2) (hB : BlkK xs a b off cap S d) (hbS : 0 < xs.length → b ≠ S) : SubK xs a b off cap S (2 - (d : Int)) (spT d false) (nilT (d + 2)) where
  ans := fun v i left w hv hi h0 h1 hS hx => sp_answers xs a b off cap S d hd hB hbS v i left w hv hi h0 h1 hS hx
  brc := fun i left w hi h0 h1 hS hx => sp_braced xs a b off cap S d hd hB i left w hi h0 h1 hS hx
  szA := fun v vs left h0 => by
    have P := pa_ans (c := 6 * 3 ^ d) (m := 3 ^ d) (kk := 3 - d) (Int.mul_nonneg (by omega) (Int.le_of_lt (Int.pow_pos (by omega)))) (spT_ok d (by omega) false) v vs left h0
    exact ⟨P.sz, P.l0, P.vs⟩
  szB := fun vs left h0 => by
    have P := spT_ok d (by omega) false vs left h0
    exact ⟨P.sz, P.l0, P.vs⟩
theorem blkK_all {xs : List Int} {a : Option Addr} {b off cap S : Nat} (hbS : 0 < xs.length → b ≠ S) (hr : ∀ x ∈ xs, -9223372036854775808 ≤ x ∧ x ≤ 9223372036854775807) (hl : xs.length ≤ 4000000000) : ∀ d : Nat, d ≤ 3 → BlkK xs a b off cap S d
  | 0, _ => fun i left w hi h0 h1 hS hx => by
    have h := sp_block_on (T := Tree 1) xs a b off cap S 3 none (nilT 1) i left w (by omega) (by omega) (.inl ⟨rfl, rfl⟩) hbS hr hl hi h0 h1 hS hx
    have e : spT 0 (0 == 3) (vsAt xs i) left = blkS none (nilT 1) ((3 : Int) == 0) (xs.length - i) (vsAt xs i) left := by
      show blkS none (nilT 1) (0 == 3) (vsAt xs i).length (vsAt xs i) left = _
      rw [vsAt_len]
      rfl
    rw [e]
    exact h
  | d + 1, hd => fun i left w hi h0 h1 hS hx => by
    have ih := blkK_all (a := a) (b := b) (off := off) (cap := cap) hbS hr hl d (by omega)
    have h := sp_block_on (T := Tree (d + 2)) xs a b off cap S (2 - (d : Int)) (some (spT d false)) (nilT (d + 2)) i left w (by omega) (by omega) (.inr ⟨by omega, _, rfl, subK_of (by omega) ih hbS⟩) hbS hr hl hi h0 h1 hS hx
    have e2 : ((2 : Int) - (d : Int) == 0) = (d + 1 == 3) := by
      by_cases hz : d = 2
      · subst hz; rfl
      · have b1 : ((2 : Int) - (d : Int) == 0) = false := by simp; omega
        have b2 : (d + 1 == 3) = false := by simp; omega
        rw [b1, b2]
    have e : spT (d + 1) (d + 1 == 3) (vsAt xs i) left = blkS (some (spT d false)) (nilT (d + 2)) ((2 : Int) - (d : Int) == 0) (xs.length - i) (vsAt xs i) left := by
      show blkS (some (spT d false)) (nilT (d + 2)) (d + 1 == 3) (vsAt xs i).length (vsAt xs i) left = _
      rw [vsAt_len, e2]
    have e3 : 3 - ((d + 1 : Nat) : Int) = 2 - (d : Int) := by omega
    rw [e, e3]
    exact h
set_option maxRecDepth 20000 in
set_option maxHeartbeats 2000000 in
theorem c_Spelt (xs : List Int) (a : Option Addr) (b off cap : Nat) (w : World) (hx : IntsIn w a b off xs) (hr : ∀ x ∈ xs, -9223372036854775808 ≤ x ∧ x ≤ 9223372036854775807) (hl : xs.length ≤ 4000000000) :
    Calls Try.prog 41 #[.slice a xs.length cap] w fun e w' => ∃ s : ByteArray, e = .returned (.string s) ∧ s.data.toList = sp (spT 3 true (vsAt xs 0) 330).1 ∧ Below w.heap.size w w' := by
  have hbS : 0 < xs.length → b ≠ w.heap.size := fun hp => by have := (hx hp).2.1; omega
  have HB : Hid (Calls Try.prog 74 #[.pointer (some ⟨w.heap.size, 0, none⟩), .int .i64 0] (w.alloc (.cells #[.slice a xs.length cap, .int .i64 0, .int .i64 330] 156)) fun e w' => ∃ s : ByteArray, e = .returned (.string s) ∧ s.data.toList = sp (spT 3 true (vsAt xs 0) 330).1 ∧ Below w.heap.size w w') := by
    have hb : Below w.heap.size w (w.alloc (.cells #[.slice a xs.length cap, .int .i64 0, .int .i64 330] 156)) := (Below.refl _ _).alloc (Nat.le_refl _) _
    have h := blkK_all (a := a) (b := b) (off := off) (cap := cap) (S := w.heap.size) hbS hr hl 3 (by omega) 0 330 _ (Nat.zero_le _) (by omega) (by omega) (heap_alloc_new w _) (fun hp => by
      obtain ⟨g1, g2, g3⟩ := hx hp
      exact ⟨g1, by simp; omega, fun i hi => (hb.cell (p := ⟨b, off + i, none⟩) g2).trans (g3 i hi)⟩)
    refine h.mono ?_
    rintro e w' ⟨s, j, rfl, h1, _, _, h2⟩
    refine ⟨s, rfl, h1, hb.trans ⟨h2.fr.os, h2.fr.tape, h2.fr.output, h2.fr.size, fun k hk => h2.fr.block k (by simp; omega) (by omega)⟩⟩
  clear hx hr hbS
  generalize sp (spT 3 true (vsAt xs 0) 330).1 = L at *
  go_enter Try.func41, Try.ntmps41
  go_wp2_with fail
  refine HB.out.mono ?_
  rintro e w1 ⟨s, rfl, hs, hb⟩
  have HO : Hid (s.data.toList = L ∧ Below w.heap.size w w1) := ⟨hs, hb⟩
  clear hs hb HB
  go_wp2_with fail
  go_ret
  exact ⟨s, rfl, HO.out⟩
open Go.RowKit Go.Proofs.Herald
/-- A step of a script. -/
structure OpK where
  k : Int
  a : Int
  b : Int
/-- A script that lies in memory. -/
def OpsIn (w : World) (a : Option Addr) (b off : Nat) (ops : List OpK) : Prop := 0 < ops.length → a = some ⟨b, off, none⟩ ∧ b < w.heap.size ∧ ∀ i (h : i < ops.length), w.cell? ⟨b, off + i * 3, none⟩ = some (.int .i64 ops[i].k) ∧ w.cell? ⟨b, off + i * 3 + 1, none⟩ = some (.int .i64 ops[i].a) ∧ w.cell? ⟨b, off + i * 3 + 2, none⟩ = some (.int .i64 ops[i].b)
theorem KS.now {B : Nat} {cs : List Ins} {m : Nat} {h : Her Pr} {w0 w : World} {H : Nat} {F : Nat → Prop} (g : KS B cs m h w0 H F w) : 0 ≤ h.now ∧ h.now ≤ 1000000000 := by
  obtain ⟨i, s, h1, h2, _⟩ := g
  exact ⟨h2.ok.now0, h2.ok.now1⟩
/-- From an older time on. -/
theorem KS.of_game {B : Nat} {cs : List Ins} {i : Nat} {h : Her Pr} {w0 w1 w : World} {G H : Nat} {cv : Value} {s : HS} (g : Game w1.heap.size cs i h w G H cv s) (h01 : Below B w0 w1) (hb : Below w1.heap.size w1 w) (hB : B ≤ w1.heap.size) : KS B cs i h w0 H (fun k => k = G) w :=
  ⟨i, s, Nat.le_refl _, g.ga, fun k hk => ⟨by have := (g.own k hk).1; omega, (g.own k hk).2⟩, fun k hk => by rw [hk]; exact heap_lt g.g, h01.trans (hb.mono hB), by have := hb.size; omega⟩
set_option maxRecDepth 40000 in
set_option maxHeartbeats 16000000 in
theorem ended_walk (xs : List Int) (a : Option Addr) (b off cap : Nat) (ops : List OpK) (sa : Option Addr) (sb soff scap : Nat) (w : World) (hx : IntsIn w a b off xs) (hr : ∀ x ∈ xs, -9223372036854775808 ≤ x ∧ x ≤ 9223372036854775807) (hl : xs.length ≤ 1048576) (hsc : OpsIn w sa sb soff ops) (hsl : ops.length ≤ 1048576) :
    Calls Try.prog 12 #[.slice a xs.length cap, .slice sa ops.length scap] w fun e w' => e = .returned (.bool true) ∧ Below w.heap.size w w' := by
  have HSP : Hid (Calls Try.prog 41 #[.slice a xs.length cap] w _) := c_Spelt xs a b off cap w hx hr (by omega)
  have HSC : Hid (OpsIn w sa sb soff ops) := hsc
  clear hx hr hsc
  go_enter Try.func12, Try.ntmps12
  go_wp2_with fail
  refine HSP.out.mono ?_
  rintro e w1 ⟨t, rfl, ht, b1⟩
  obtain ⟨hz, tr, hT⟩ := spelt_text ht
  have HTX : Hid (t.size ≤ 400 ∧ TextOk t tr) := ⟨hz, hT⟩
  have HOP : Hid (Calls Try.prog 34 #[.string t] w1 _) := opened_any hz hT w1
  obtain ⟨LM, hLM⟩ : ∃ LM, LM = maxI (lastsT t 5 tr).1 (lastsT t 5 tr).2 := ⟨_, rfl⟩
  have HLG : Hid (∀ W, Calls Try.prog 13 #[.string t] W fun e w' => e = .returned (.tuple #[.int .i64 LM, .int .i64 0, .int .i64 0]) ∧ Below W.heap.size W w') := fun W => by
    rw [hLM]
    exact c_Longest_ok hz hT W
  have hLM2 : LM ≤ 100000 := by have := hT.short; rw [← hLM] at this; omega
  have HB1 : Hid (Below w.heap.size w w1) := b1
  have HLM : Hid (LM = maxI (lastsT t 5 tr).1 (lastsT t 5 tr).2) := hLM
  clear hz hT ht b1 HSP hLM
  go_wp2_with fail
  refine HOP.out.mono ?_
  rintro e w2 ⟨G, H, cv, s, rfl, hg, b2⟩
  have HK2 : Hid (KS w.heap.size (codeOf t tr) 1 (trigH (machE (codeOf t tr)) newH 0).2.2 w H (fun k => k = G) w2 ∧ w2.heap[G]? = some (.cells #[.pointer (some ⟨H, 0, none⟩), cv] 78 (0, 0)) ∧ ED t tr LM (trigH (machE (codeOf t tr)) newH 0).2.2 ∧ (trigH (machE (codeOf t tr)) newH 0).2.2.now = 0) := by
    refine ⟨KS.of_game hg HB1.out b2 HB1.out.size, hg.g, ED.new.trig HTX.out.2 HTX.out.1 (by rw [HLM.out]; show 0 + _ ≤ _; omega) 0, ?_⟩
    unfold trigH
    rw [if_neg (by decide), if_neg (by decide)]
    rfl
  have hGc2 : w2.cell? ⟨G, 0, none⟩ = some (.pointer (some ⟨H, 0, none⟩)) := (cell_of_heap hg.g).trans rfl
  have hGl2 : G < w2.heap.size := heap_lt hg.g
  generalize (trigH (machE (codeOf t tr)) newH 0).2.2 = h1 at *
  clear hg b2 HOP HB1
  have trig_now : ∀ (h : Her Pr) (dev : Int), (trigH (machE (codeOf t tr)) h dev).2.2.now = h.now := fun h dev => by
    unfold trigH
    split
    · rfl
    · split <;> rfl
  have HTN : Hid (∀ (h : Her Pr) (dev : Int), (trigH (machE (codeOf t tr)) h dev).2.2.now = h.now) := trig_now
  clear trig_now
  go_wp2_with fail
  refine (ks_Trigger 1 _ HK2.out.1 (by omega)).mono ?_
  rintro e w3 ⟨rfl, k3, p3⟩
  have hG3 := (p3 G rfl).trans HK2.out.2.1
  have HK3 : Hid (KS w.heap.size (codeOf t tr) 2 (trigH (machE (codeOf t tr)) h1 1).2.2 w H (fun k => k = G) w3 ∧ w3.heap[G]? = some (.cells #[.pointer (some ⟨H, 0, none⟩), cv] 78 (0, 0)) ∧ ED t tr LM (trigH (machE (codeOf t tr)) h1 1).2.2 ∧ (trigH (machE (codeOf t tr)) h1 1).2.2.now = 0) :=
    ⟨k3, hG3, HK2.out.2.2.1.trig HTX.out.2 HTX.out.1 (by rw [HK2.out.2.2.2, HLM.out]; omega) 1, (HTN.out h1 1).trans HK2.out.2.2.2⟩
  have hGc3 : w3.cell? ⟨G, 0, none⟩ = some (.pointer (some ⟨H, 0, none⟩)) := (cell_of_heap hG3).trans rfl
  have hGl3 : G < w3.heap.size := heap_lt hG3
  clear k3 p3 hG3 hGc2 hGl2 HK2
  generalize trigH (machE (codeOf t tr)) h1 1 = T3 at *
  go_wp2_with fail
  refine (ks_Trigger 2 _ HK3.out.1 (by omega)).mono ?_
  rintro e w4 ⟨rfl, k4, p4⟩
  have hG4 := (p4 G rfl).trans HK3.out.2.1
  have HK4 : Hid (KS w.heap.size (codeOf t tr) 3 (trigH (machE (codeOf t tr)) T3.2.2 2).2.2 w H (fun k => k = G) w4 ∧ w4.heap[G]? = some (.cells #[.pointer (some ⟨H, 0, none⟩), cv] 78 (0, 0)) ∧ ED t tr LM (trigH (machE (codeOf t tr)) T3.2.2 2).2.2 ∧ (trigH (machE (codeOf t tr)) T3.2.2 2).2.2.now = 0) :=
    ⟨k4, hG4, HK3.out.2.2.1.trig HTX.out.2 HTX.out.1 (by rw [HK3.out.2.2.2, HLM.out]; omega) 2, (HTN.out _ 2).trans HK3.out.2.2.2⟩
  clear k4 p4 hG4 hGc3 hGl3 HK3 HTN
  generalize trigH (machE (codeOf t tr)) T3.2.2 2 = T4 at *
  go_wp2_with fail
  refine (HLG.out _).mono ?_
  rintro e w5 ⟨rfl, b5⟩
  have HK5 : Hid (KS w.heap.size (codeOf t tr) 3 T4.2.2 w H (fun k => k = G) w5 ∧ w5.heap[G]? = some (.cells #[.pointer (some ⟨H, 0, none⟩), cv] 78 (0, 0)) ∧ ED t tr LM T4.2.2 ∧ T4.2.2.now = 0) := ⟨HK4.out.1.below b5, (b5.block G (heap_lt HK4.out.2.1)).trans HK4.out.2.1, HK4.out.2.2⟩
  clear b5 HK4 HLG
  go_wp2_with fail
  go_loopw [11, 12] (fun nv iv wr => ∃ (i : Nat) (nw : Int), i ≤ ops.length ∧ 0 ≤ nw ∧ nw ≤ 1000000000 ∧ iv = .int .i64 (i : Nat) ∧ nv = .int .i64 nw ∧ Hid (∃ h, KS w.heap.size (codeOf t tr) (3 + i) h w H (fun k => k = G) wr ∧ wr.heap[G]? = some (.cells #[.pointer (some ⟨H, 0, none⟩), cv] 78 (0, 0)) ∧ ED t tr LM h ∧ h.now = nw)) (fun _ iv _ => ops.length - (intOf iv).toNat)
  case atStart => exact ⟨0, 0, by omega, by omega, by omega, rfl, rfl, _, HK5.out⟩
  case round =>
    obtain ⟨i, nw, hi, hn0, hn1, rfl, rfl, HKS⟩ := hrel
    obtain ⟨h, hks⟩ := HKS.out
    have HK : Hid (KS w.heap.size (codeOf t tr) (3 + i) h w H (fun k => k = G) wr ∧ wr.heap[G]? = some (.cells #[.pointer (some ⟨H, 0, none⟩), cv] 78 (0, 0)) ∧ ED t tr LM h ∧ h.now = nw) := hks
    have hGc : wr.cell? ⟨G, 0, none⟩ = some (.pointer (some ⟨H, 0, none⟩)) := (cell_of_heap hks.2.1).trans rfl
    have hGl : G < wr.heap.size := heap_lt hks.2.1
    clear hks HKS HK5
    by_cases hlt : i < ops.length
    · obtain ⟨rfl, hsw, hcell⟩ := HSC.out (by omega)
      obtain ⟨c0, c1, c2⟩ := hcell i hlt
      have hbk := HK.out.1.back
      have e0 : wr.cell? ⟨sb, soff + i * 3, none⟩ = some (.int .i64 ops[i].k) := (hbk.cell (p := ⟨sb, soff + i * 3, none⟩) hsw).trans c0
      have e1 : wr.cell? ⟨sb, soff + i * 3 + 1, none⟩ = some (.int .i64 ops[i].a) := (hbk.cell (p := ⟨sb, soff + i * 3 + 1, none⟩) hsw).trans c1
      have e2 : wr.cell? ⟨sb, soff + i * 3 + 2, none⟩ = some (.int .i64 ops[i].b) := (hbk.cell (p := ⟨sb, soff + i * 3 + 2, none⟩) hsw).trans c2
      have hsl' : sb < wr.heap.size := Nat.lt_of_lt_of_le hsw hbk.size
      have HCL : Hid (∀ W, Below w.heap.size w W → W.cell? ⟨sb, soff + i * 3, none⟩ = some (.int .i64 ops[i].k) ∧ W.cell? ⟨sb, soff + i * 3 + 1, none⟩ = some (.int .i64 ops[i].a) ∧ sb < W.heap.size) := fun W hb => ⟨(hb.cell (p := ⟨sb, soff + i * 3, none⟩) hsw).trans c0, (hb.cell (p := ⟨sb, soff + i * 3 + 1, none⟩) hsw).trans c1, Nat.lt_of_lt_of_le hsw hb.size⟩
      clear c0 c1 c2 hbk hcell
      generalize ops[i] = x at *
      by_cases hk1 : x.k = 1
      · go_wp2_with fail
        go_roundw
        case rel => exact ⟨i + 1, nw, by omega, hn0, hn1, by go_num, rfl, h, HK.out.1.le (by omega), HK.out.2⟩
        case measure => simp [intOf]; omega
      · have b1 : (x.k == 1) = false := by simpa using hk1
        have HPL : Hid (∀ W, W = wr.drew → Calls Try.prog 42 #[.pointer (some ⟨H, 0, none⟩), .agg #[.int .i64 x.k, .int .i64 x.a, .int .i64 x.b]] W fun e w' => e = .returned (.agg #[.int .i64 (playH (codeOf t tr) h x.k x.a x.b).1.1, .int .i64 (playH (codeOf t tr) h x.k x.a x.b).1.2.1.dev, .int .i64 (playH (codeOf t tr) h x.k x.a x.b).1.2.1.run, .int .i64 (playH (codeOf t tr) h x.k x.a x.b).1.2.1.num, .int .i64 (playH (codeOf t tr) h x.k x.a x.b).1.2.1.key, .int .i64 (playH (codeOf t tr) h x.k x.a x.b).1.2.2]) ∧ KS w.heap.size (codeOf t tr) (3 + i + 1) (playH (codeOf t tr) h x.k x.a x.b).2 w H (fun k => k = G) w' ∧ w'.heap[G]? = some (.cells #[.pointer (some ⟨H, 0, none⟩), cv] 78 (0, 0))) := fun W hW => by
          have hs : SameH wr W := by rw [hW]; exact (SameH.refl _).drew
          refine (c_play x.k x.a x.b W (HK.out.1.same hs) (by omega)).mono ?_
          rintro e w' ⟨rfl, g1, g2⟩
          exact ⟨rfl, g1, (g2 G rfl).trans (by rw [hs.heap]; exact HK.out.2.1)⟩
        have HPZ : Hid (∀ W, W = (wr.alloc (.cells #[.int .i64 0, .int .i64 0, .int .i64 0, .int .i64 0, .int .i64 0, .int .i64 0] 97)).drew → Calls Try.prog 42 #[.pointer (some ⟨H, 0, none⟩), .agg #[.int .i64 x.k, .int .i64 x.a, .int .i64 x.b]] W fun e w' => e = .returned (.agg #[.int .i64 (playH (codeOf t tr) h x.k x.a x.b).1.1, .int .i64 (playH (codeOf t tr) h x.k x.a x.b).1.2.1.dev, .int .i64 (playH (codeOf t tr) h x.k x.a x.b).1.2.1.run, .int .i64 (playH (codeOf t tr) h x.k x.a x.b).1.2.1.num, .int .i64 (playH (codeOf t tr) h x.k x.a x.b).1.2.1.key, .int .i64 (playH (codeOf t tr) h x.k x.a x.b).1.2.2]) ∧ w'.heap[wr.heap.size]? = some (.cells #[.int .i64 0, .int .i64 0, .int .i64 0, .int .i64 0, .int .i64 0, .int .i64 0] 97 (0, 0)) ∧ ∀ o1 o2 o3 o4 o5 o6, KS w.heap.size (codeOf t tr) (3 + i + 1) (playH (codeOf t tr) h x.k x.a x.b).2 w H (fun k => k = G) ((((((w'.setCell ⟨wr.heap.size, 0, none⟩ o1).setCell ⟨wr.heap.size, 1, none⟩ o2).setCell ⟨wr.heap.size, 2, none⟩ o3).setCell ⟨wr.heap.size, 3, none⟩ o4).setCell ⟨wr.heap.size, 4, none⟩ o5).setCell ⟨wr.heap.size, 5, none⟩ o6) ∧ ((((((w'.setCell ⟨wr.heap.size, 0, none⟩ o1).setCell ⟨wr.heap.size, 1, none⟩ o2).setCell ⟨wr.heap.size, 2, none⟩ o3).setCell ⟨wr.heap.size, 3, none⟩ o4).setCell ⟨wr.heap.size, 4, none⟩ o5).setCell ⟨wr.heap.size, 5, none⟩ o6).heap[G]? = some (.cells #[.pointer (some ⟨H, 0, none⟩), cv] 78 (0, 0))) := fun W hW => by
          have hs : SameH (wr.alloc (.cells #[.int .i64 0, .int .i64 0, .int .i64 0, .int .i64 0, .int .i64 0, .int .i64 0] 97)) W := by rw [hW]; exact (SameH.refl _).drew
          have kz := (HK.out.1.new (.cells #[.int .i64 0, .int .i64 0, .int .i64 0, .int .i64 0, .int .i64 0, .int .i64 0] 97)).same hs
          have hB := HK.out.1.B
          refine (c_play x.k x.a x.b W kz (by omega)).mono ?_
          rintro e w' ⟨rfl, g1, g2⟩
          have hz : w'.heap[wr.heap.size]? = some (.cells #[.int .i64 0, .int .i64 0, .int .i64 0, .int .i64 0, .int .i64 0, .int .i64 0] 97 (0, 0)) := (g2 _ (.inl rfl)).trans (by rw [hs.heap]; exact heap_alloc_new _ _)
          have hg : w'.heap[G]? = some (.cells #[.pointer (some ⟨H, 0, none⟩), cv] 78 (0, 0)) := (g2 G (.inr rfl)).trans (by rw [hs.heap, Below.heap_alloc _ _ _ (heap_lt HK.out.2.1)]; exact HK.out.2.1)
          refine ⟨rfl, hz, fun o1 o2 o3 o4 o5 o6 => ?_⟩
          have h6 := set6 (S := fun k => k = wr.heap.size) (a := o1) (b := o2) (c := o3) (d := o4) (e := o5) (f := o6) hz rfl
          refine ⟨(g1.fr h6.2 fun k hk _ => ⟨.inl hk, by omega⟩).less fun k hk => .inl (.inr hk), (h6.2.block G (heap_lt hg) (fun he => ?_)).trans hg⟩
          have := heap_lt HK.out.2.1
          omega
        have HED : Hid (ED t tr LM (playH (codeOf t tr) h x.k x.a x.b).2 ∧ (playH (codeOf t tr) h x.k x.a x.b).2.now = if x.k = 2 ∧ (playH (codeOf t tr) h x.k x.a x.b).1.2.2 = 0 then nw + x.a else nw) := by
          have h3 := play_now (cs := codeOf t tr) (h := h) x.k x.a x.b
          rw [HK.out.2.2.2] at h3
          exact ⟨HK.out.2.2.1.play HTX.out.2 HTX.out.1 x.k x.a x.b hk1, h3⟩
        generalize playH (codeOf t tr) h x.k x.a x.b = P at *
        have HP1 := (show Hid _ from HPL.out _ rfl : Hid (Calls Try.prog 42 #[.pointer (some ⟨H, 0, none⟩), .agg #[.int .i64 x.k, .int .i64 x.a, .int .i64 x.b]] wr.drew _))
        have HP2 := (show Hid _ from HPZ.out _ rfl : Hid (Calls Try.prog 42 #[.pointer (some ⟨H, 0, none⟩), .agg #[.int .i64 x.k, .int .i64 x.a, .int .i64 x.b]] (wr.alloc (.cells #[.int .i64 0, .int .i64 0, .int .i64 0, .int .i64 0, .int .i64 0, .int .i64 0] 97)).drew _))
        clear HPL HPZ
        go_upto_region 13 with fail
        go_cut [13] (fun y wx => ∃ X : Nat, y = .pointer (some ⟨X, 0, none⟩) ∧ Hid (KS w.heap.size (codeOf t tr) (3 + i + 1) P.2 w H (fun k => k = G) wx ∧ wx.heap[G]? = some (.cells #[.pointer (some ⟨H, 0, none⟩), cv] 78 (0, 0)) ∧ wx.heap[X]? = some (.cells #[.int .i64 P.1.1, .int .i64 P.1.2.1.dev, .int .i64 P.1.2.1.run, .int .i64 P.1.2.1.num, .int .i64 P.1.2.1.key, .int .i64 P.1.2.2] 97 (0, 0))))
        case first =>
          go_region_with (go_at_call 42; first | (with_reducible refine HP1.out.mono ?_; rintro e w6 ⟨rfl, ho⟩) | (with_reducible refine HP2.out.mono ?_; rintro e w6 ⟨rfl, hz, ho⟩; obtain ⟨⟨r0, r1, r2, r3, r4, r5⟩, ⟨f0, f1, f2, f3, f4, f5⟩, hR⟩ := cells_of6 hz))
          all_goals
            go_wp2_with fail
            go_meet
            case rel =>
              first
                | exact ⟨_, rfl, (ho _ _ _ _ _ _).1, (ho _ _ _ _ _ _).2, (set6 (S := fun _ => True) hz trivial).1⟩
                | exact ⟨_, rfl, ho.1.below ((Below.refl _ _).alloc (Nat.le_refl _) _), (Below.heap_alloc _ _ _ (heap_lt ho.2)).trans ho.2, heap_alloc_new _ _⟩
        case rest =>
          obtain ⟨X, rfl, HX⟩ := hcut
          obtain ⟨q0, q1, hsl2⟩ := HCL.out _ HX.out.1.back
          have x5 : wc.cell? ⟨X, 5, none⟩ = some (.int .i64 P.1.2.2) := (cell_of_heap HX.out.2.2).trans rfl
          have hXl : X < wc.heap.size := heap_lt HX.out.2.2
          have hnn := HX.out.1.now
          clear HP1 HP2 hGc hGl e0 e1 e2 hsl'
          by_cases hk2 : x.k = 2
          · have b2 : (x.k == 2) = true := by simpa using hk2
            by_cases he : P.1.2.2 = 0
            · have b3 : (P.1.2.2 == 0) = true := by simpa using he
              have hnow : P.2.now = nw + x.a := by rw [HED.out.2, if_pos ⟨hk2, he⟩]
              rw [hnow] at hnn
              have HNW : Hid (P.2.now = nw + x.a) := hnow
              clear hk2 he hnow
              go_wp2_with fail
              go_roundw
              case rel => exact ⟨i + 1, nw + x.a, by omega, hnn.1, hnn.2, by go_num, rfl, P.2, HX.out.1.le (by omega), HX.out.2.1, HED.out.1, HNW.out⟩
              case measure => simp [intOf]; omega
            · have b3 : (P.1.2.2 == 0) = false := by simpa using he
              have HNW : Hid (P.2.now = nw) := by
                have h3 := HED.out.2
                rw [if_neg (fun h => he h.2)] at h3
                exact h3
              clear hk2 he hnn
              go_wp2_with fail
              go_roundw
              case rel => exact ⟨i + 1, nw, by omega, hn0, hn1, by go_num, rfl, P.2, HX.out.1.le (by omega), HX.out.2.1, HED.out.1, HNW.out⟩
              case measure => simp [intOf]; omega
          · have b2 : (x.k == 2) = false := by simpa using hk2
            have HNW : Hid (P.2.now = nw) := by
              have h3 := HED.out.2
              rw [if_neg (fun h => hk2 h.1)] at h3
              exact h3
            clear hk2 hnn
            go_wp2_with fail
            go_roundw
            case rel => exact ⟨i + 1, nw, by omega, hn0, hn1, by go_num, rfl, P.2, HX.out.1.le (by omega), HX.out.2.1, HED.out.1, HNW.out⟩
            case measure => simp [intOf]; omega
    · obtain rfl : i = ops.length := by omega
      clear hlt hi
      go_wp2_with fail
      go_loopw [11] (fun nv wr => ∃ (m : Nat) (nw : Int), 0 ≤ nw ∧ nw ≤ 1000000000 ∧ m + (LM - nw).toNat ≤ 1300000 ∧ nv = .int .i64 nw ∧ Hid (∃ h, KS w.heap.size (codeOf t tr) m h w H (fun k => k = G) wr ∧ wr.heap[G]? = some (.cells #[.pointer (some ⟨H, 0, none⟩), cv] 78 (0, 0)) ∧ ED t tr LM h ∧ h.now = nw)) (fun nv _ => (LM - intOf nv).toNat)
      case atStart => exact ⟨3 + ops.length, nw, hn0, hn1, by omega, rfl, h, HK.out⟩
      case round =>
        obtain ⟨m, nx, hx0, hx1, hm, rfl, HKS⟩ := hrel
        obtain ⟨h2, hks⟩ := HKS.out
        have HK2 : Hid (KS w.heap.size (codeOf t tr) m h2 w H (fun k => k = G) wr ∧ wr.heap[G]? = some (.cells #[.pointer (some ⟨H, 0, none⟩), cv] 78 (0, 0)) ∧ ED t tr LM h2 ∧ h2.now = nx) := hks
        have hGc2 : wr.cell? ⟨G, 0, none⟩ = some (.pointer (some ⟨H, 0, none⟩)) := (cell_of_heap hks.2.1).trans rfl
        have hGl2 : G < wr.heap.size := heap_lt hks.2.1
        clear hks HKS HK hGc hGl
        by_cases hlt : nx < LM
        · obtain ⟨d, hd⟩ : ∃ d : Int, (999 < LM - nx ∧ d = 999) ∨ (LM - nx ≤ 999 ∧ d = LM - nx) := by
            by_cases h9 : 999 < LM - nx
            · exact ⟨999, .inl ⟨h9, rfl⟩⟩
            · exact ⟨LM - nx, .inr ⟨by omega, rfl⟩⟩
          have HTK : Hid (Calls Try.prog 33 #[.pointer (some ⟨H, 0, none⟩), .int .i64 d] wr fun e w' => e = .returned (.int .i64 0) ∧ ∃ h3, KS w.heap.size (codeOf t tr) (m + 1) h3 w H (fun k => k = G) w' ∧ w'.heap[G]? = some (.cells #[.pointer (some ⟨H, 0, none⟩), cv] 78 (0, 0)) ∧ ED t tr LM h3 ∧ h3.now = nx + d) := by
            have hy := tick_yes (cs := codeOf t tr) (h := h2) (n := d) (by omega) (by omega) (by rw [HK2.out.2.2.2]; omega)
            refine (ks_Tick d wr HK2.out.1 (by omega)).mono ?_
            rintro e w' ⟨rfl, g1, g2⟩
            refine ⟨by rw [hy.1], _, g1, (g2 G rfl).trans HK2.out.2.1, HK2.out.2.2.1.tick HTX.out.2 HTX.out.1 d, ?_⟩
            rw [hy.2, HK2.out.2.2.2]
          rcases hd with ⟨h9, rfl⟩ | ⟨h9, rfl⟩
          all_goals
            go_wp2_with fail
            refine HTK.out.mono ?_
            rintro e w7 ⟨rfl, ho⟩
            have HO := (show Hid _ from ho : Hid (∃ h3, KS w.heap.size (codeOf t tr) (m + 1) h3 w H (fun k => k = G) w7 ∧ w7.heap[G]? = some (.cells #[.pointer (some ⟨H, 0, none⟩), cv] 78 (0, 0)) ∧ ED t tr LM h3 ∧ h3.now = _))
            clear ho HTK hGc2 hGl2
            go_wp2_with fail
            go_roundw
            case rel => exact ⟨m + 1, _, by omega, by omega, by omega, rfl, HO.out⟩
            case measure => simp [intOf]; omega
        · have HN : Hid (h2.rs = []) := HK2.out.2.2.1.none (by rw [HK2.out.2.2.2]; omega)
          go_wp2_with fail
          refine (ks_Show _ HK2.out.1).mono ?_
          rintro e w7 ⟨sv, uv, rfl, hsv, huv, b7⟩
          rw [HK2.out.2.2.2]
          rw [HN.out] at hsv
          obtain ⟨ra, rc, rfl⟩ := ownsRow_slice hsv
          rw [show ([] : List Pr).length = 0 from rfl]
          obtain ⟨ua, uc, rfl⟩ := ownsRow_slice huv
          have HB7 : Hid (Below w.heap.size w w7 ∧ w.heap.size ≤ w7.heap.size) := ⟨(HK2.out.1.below b7).back, (HK2.out.1.below b7).B⟩
          generalize (h2.qs 0 ++ h2.qs 1 ++ h2.qs 2).length = NQ at *
          clear hsv huv b7
          go_wp2_with fail
          go_ret
          exact ⟨rfl, HB7.out.1.alloc HB7.out.2 _⟩
end Go.Proofs.Ytmmmnghiegajmaa
