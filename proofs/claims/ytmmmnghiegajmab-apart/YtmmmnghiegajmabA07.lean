import Derived.Test.YtmmmnghiegajmabM01
import Derived.Test.YtmmmnghiegajmabM04
import Derived.Test.YtmmmnghiegajmabM05
import Derived.Test.YtmmmnghiegajmabM06
import Derived.Test.YtmmmnghiegajmabM07
import Derived.Test.YtmmmnghiegajmabM08
import Derived.Test.YtmmmnghiegajmabM09
import Derived.Test.YtmmmnghiegajmabM10
import Derived.Test.YtmmmnghiegajmabM11
import Derived.Test.YtmmmnghiegajmabM14
import Derived.Test.YtmmmnghiegajmabM16
import Derived.Test.YtmmmnghiegajmabM20
import Derived.Test.YtmmmnghiegajmabM21
import Derived.Test.YtmmmnghiegajmabM22
import Derived.Test.YtmmmnghiegajmabM24
import Derived.Test.YtmmmnghiegajmabM26
import Derived.Test.YtmmmnghiegajmabM27
import Derived.Test.YtmmmnghiegajmabM28
import Derived.Test.YtmmmnghiegajmabM29
import Derived.Test.YtmmmnghiegajmabM30
import Derived.Test.YtmmmnghiegajmabM31
import Derived.Test.YtmmmnghiegajmabM32
import Derived.Test.YtmmmnghiegajmabM33
import Derived.Test.YtmmmnghiegajmabM34
import Derived.Test.YtmmmnghiegajmabM37
import Derived.Test.YtmmmnghiegajmabM38
import Derived.Test.YtmmmnghiegajmabM40
import Derived.Test.YtmmmnghiegajmabM41
import Derived.Test.YtmmmnghiegajmabM42
import Derived.Test.YtmmmnghiegajmabA01
import Derived.Test.YtmmmnghiegajmabA02
import Derived.Test.YtmmmnghiegajmabA03
import Derived.Test.YtmmmnghiegajmabA04
import Derived.Test.YtmmmnghiegajmabA05
import Derived.Test.YtmmmnghiegajmabA06
namespace Go.Proofs.Ytmmmnghiegajmab
open Go.RowKit Go.Proofs.Herald
/-- What is told of run 1 and device 0 is the same of both. -/
theorem AB.told {hg hf : Her Pr} (h : AB hg hf) : oneR (hg.rs.map pubP) = oneR (hf.rs.map pubP) ∧ zeroM (hg.qs 0 ++ hg.qs 1 ++ hg.qs 2) = zeroM (hf.qs 0 ++ hf.qs 1 ++ hf.qs 2) := by
  have key : ∀ {h : Her Pr}, (∃ O l, BS O l h) → zeroM (h.qs 0 ++ h.qs 1 ++ h.qs 2) = h.qs 0 := fun {h} hb => by
    obtain ⟨O, l, b⟩ := hb
    have dv : ∀ (d : Nat), ∀ m ∈ h.qs d, m.dev = (d : Nat) := fun d m hm => (b.hb.fine d m hm).2.2.2.2
    unfold zeroM
    rw [List.filter_append, List.filter_append]
    have e0 : (h.qs 0).filter (fun m => m.dev == 0) = h.qs 0 := List.filter_eq_self.mpr fun m hm => by rw [dv 0 m hm]; rfl
    have e1 : (h.qs 1).filter (fun m => m.dev == 0) = [] := List.filter_eq_nil_iff.mpr fun m hm => by rw [dv 1 m hm]; decide
    have e2 : (h.qs 2).filter (fun m => m.dev == 0) = [] := List.filter_eq_nil_iff.mpr fun m hm => by rw [dv 2 m hm]; decide
    rw [e0, e1, e2, List.append_nil, List.append_nil]
  refine ⟨?_, by rw [key h.g, key h.f, h.ar.q]⟩
  unfold oneR
  rw [List.filter_map, List.filter_map, h.ar.rs, List.filter_filter]
  congr 1
  refine List.filter_congr fun y _ => ?_
  show (y.id == 1) = ((y.id == 1) && (y.id == 1))
  rw [Bool.and_self]
theorem AB.new {cs : List Ins} {C : Int} {h : Her Pr} (hk : HOk (machE cs) (goodM cs) C h) (hE : EngOk (machE cs) (goodM cs)) (hall : ∀ x ∈ cs, soundI cs.length x = true) (b : ∃ O l, BS O l h) (hl : h.last = 1) (hr : ∀ p ∈ h.rs, p.id = 1 ∧ p.dev = 0) (hn : h.rs.length ≤ 1) : (trigH (machE cs) h 1).1 = 2 ∧ (trigH (machE cs) h 1).2.1 = 0 ∧ AB (trigH (machE cs) h 1).2.2 h := by
  obtain ⟨t1, t2, t3, t4⟩ := AR.trig (cs := cs) hl hr hn
  have hb := bs_play hk hE hall b 1 1 0
  have e : (playH cs h 1 1 0).2 = (trigH (machE cs) h 1).2.2 := by
    unfold playH
    rw [if_pos rfl]
  rw [e] at hb
  exact ⟨t1, t2, t3, t4, hb, b⟩
/-- The herald with which both begin. -/
theorem first_run {cs : List Ins} : (trigH (machE cs) newH 0).2.2.last = 1 ∧ (∀ p ∈ (trigH (machE cs) newH 0).2.2.rs, p.id = 1 ∧ p.dev = 0) ∧ (trigH (machE cs) newH 0).2.2.rs.length ≤ 1 := by
  unfold trigH
  rw [if_neg (by decide), if_neg (by decide)]
  refine ⟨rfl, fun p hp => ?_, Nat.le_trans (after_len _ _ _) (Nat.le_refl _)⟩
  rcases mem_after hp with ⟨_, rfl⟩ | ⟨hp, hne⟩
  · refine ⟨?_, ?_⟩
    · show (runM _ _ _ _ (freshP (0 + 1) 0)).2.1.id = 1
      rw [runM_id]
      rfl
    · show (runM _ _ _ _ (freshP (0 + 1) 0)).2.1.dev = 0
      rw [runM_dev]
      rfl
  · have e : p = freshP (0 + 1) 0 := by
      have : p ∈ ([] : List Pr) ++ [freshP (0 + 1) 0] := hp
      simpa using this
    rw [e]
    exact ⟨rfl, rfl⟩
def gameBk (G H : Nat) (cv : Value) : Bk := ⟨G, #[.pointer (some ⟨H, 0, none⟩), cv], 38⟩
def opBk (X : Nat) (k a b : Int) : Bk := ⟨X, #[.int .i64 k, .int .i64 a, .int .i64 b], 40⟩
def ansBk (Y : Nat) (P : Int × Msg × Int) : Bk := ⟨Y, #[.int .i64 P.1, .int .i64 P.2.1.dev, .int .i64 P.2.1.run, .int .i64 P.2.1.num, .int .i64 P.2.1.key, .int .i64 P.2.2], 33⟩
/-- Both games. -/
def AW (w0 : World) (cs : List Ins) (m n G1 H1 : Nat) (cv1 : Value) (G2 H2 : Nat) (cv2 : Value) (W : World) : Prop :=
  ∃ hg hf, KL cs m n hg hf w0 H1 H2 [gameBk G1 H1 cv1, gameBk G2 H2 cv2] W ∧ AB hg hf
theorem KL.game {cs : List Ins} {m n : Nat} {hg hf : Her Pr} {w0 w : World} {Hg Hf : Nat} {L : List Bk} (h : KL cs m n hg hf w0 Hg Hf L w) {G H : Nat} {cv : Value} (hm : gameBk G H cv ∈ L) : w.cell? ⟨G, 0, none⟩ = some (.pointer (some ⟨H, 0, none⟩)) ∧ G < w.heap.size :=
  ⟨(cell_of_heap (h.blk _ hm).1).trans rfl, heap_lt (h.blk _ hm).1⟩
/-- A step's number is written. -/
theorem KL.setA {cs : List Ins} {m n : Nat} {hg hf : Her Pr} {w0 w : World} {Hg Hf : Nat} {L : List Bk} {X : Nat} {k a b : Int} (h : KL cs m n hg hf w0 Hg Hf (opBk X k a b :: L) w) (hne : ∀ x ∈ L, x.at' ≠ X) (v : Int) : KL cs m n hg hf w0 Hg Hf (opBk X k v b :: L) (w.setCell ⟨X, 1, none⟩ (.int .i64 v)) := by
  have hX : w.heap[X]? = some (.cells #[.int .i64 k, .int .i64 a, .int .i64 b] 40 (0, 0)) := (h.blk _ (List.mem_cons_self ..)).1
  refine KL.put h ((Fr.refl (fun k => k = X) w).setCell ⟨X, 1, none⟩ (.inl rfl) _) ?_ hne
  rw [heap_setCell_self _ hX]
  rfl
theorem KL.op {cs : List Ins} {m n : Nat} {hg hf : Her Pr} {w0 w : World} {Hg Hf : Nat} {L : List Bk} (h : KL cs m n hg hf w0 Hg Hf L w) {X : Nat} {k a b : Int} (hm : opBk X k a b ∈ L) : w.cell? ⟨X, 0, none⟩ = some (.int .i64 k) ∧ w.cell? ⟨X, 1, none⟩ = some (.int .i64 a) ∧ w.cell? ⟨X, 2, none⟩ = some (.int .i64 b) ∧ X < w.heap.size := cells_of3 (h.blk _ hm).1
theorem KL.ans {cs : List Ins} {m n : Nat} {hg hf : Her Pr} {w0 w : World} {Hg Hf : Nat} {L : List Bk} (h : KL cs m n hg hf w0 Hg Hf L w) {Y : Nat} {P : Int × Msg × Int} (hm : ansBk Y P ∈ L) : (w.cell? ⟨Y, 0, none⟩ = some (.int .i64 P.1) ∧ w.cell? ⟨Y, 1, none⟩ = some (.int .i64 P.2.1.dev) ∧ w.cell? ⟨Y, 2, none⟩ = some (.int .i64 P.2.1.run) ∧ w.cell? ⟨Y, 3, none⟩ = some (.int .i64 P.2.1.num) ∧ w.cell? ⟨Y, 4, none⟩ = some (.int .i64 P.2.1.key) ∧ w.cell? ⟨Y, 5, none⟩ = some (.int .i64 P.2.2)) ∧ Y < w.heap.size := by
  have h1 := cells_of6 (h.blk _ hm).1
  exact ⟨h1.1, h1.2.2⟩
/-- Show, of the first of two. -/
theorem kl_Show {cs : List Ins} {m n : Nat} {hg hf : Her Pr} {w0 : World} {Hg Hf : Nat} {L : List Bk} (w : World) (h : KL cs m n hg hf w0 Hg Hf L w) :
    Calls Try.prog 10 #[.pointer (some ⟨Hg, 0, none⟩)] w fun e w' => ∃ (rs : List Rn) (Q : List Msg) (ra qa : Option Addr) (rc qc : Nat), e = .returned (.agg #[.int .i64 hg.now, .slice ra rs.length rc, .slice qa Q.length qc]) ∧
      Hid ((rs = hg.rs.map pubP ∧ Q = hg.qs 0 ++ hg.qs 1 ++ hg.qs 2 ∧ rs.length ≤ 1000 ∧ Q.length ≤ 1000) ∧ w'.ownsRow 0 82 5 (.slice ra rs.length rc) rs.length (rnsCells rs) ∧ w'.ownsRow 0 30 4 (.slice qa Q.length qc) Q.length (msgsCells Q) ∧ Below w.heap.size w w') := by
  obtain ⟨C, hk, _, _⟩ := ks_ok h.kk.ks
  refine (ks_Show w h.kk.ks).mono ?_
  rintro e w' ⟨sv, uv, rfl, h1, h2, h3⟩
  obtain ⟨ra, rc, rfl⟩ := own_slice h1
  obtain ⟨qa, qc, rfl⟩ := own_slice h2
  have el : (hg.rs.map pubP).length = hg.rs.length := List.length_map ..
  have l0 := hk.qlen 0
  have l1 := hk.qlen 1
  have l2 := hk.qlen 2
  have l3 := hk.len
  refine ⟨hg.rs.map pubP, hg.qs 0 ++ hg.qs 1 ++ hg.qs 2, ra, qa, rc, qc, by rw [el], ⟨rfl, rfl, by rw [el]; omega, ?_⟩, by rw [el]; exact own_zero h1, own_zero h2, h3⟩
  simp only [List.length_append]
  omega
set_option maxRecDepth 40000 in
set_option maxHeartbeats 16000000 in
theorem apart_walk (xs : List Int) (a : Option Addr) (b off cap : Nat) (ops : List OpK) (sa : Option Addr) (sb soff scap : Nat) (w : World) (hx : IntsIn w a b off xs) (hr : ∀ x ∈ xs, -9223372036854775808 ≤ x ∧ x ≤ 9223372036854775807) (hl : xs.length ≤ 1048576) (hsc : OpsIn w sa sb soff ops) (hso : ∀ x ∈ ops, -9223372036854775808 ≤ x.a ∧ x.a ≤ 9223372036854775807) (hsl : ops.length ≤ 1048576) :
    Calls Try.prog 4 #[.slice a xs.length cap, .slice sa ops.length scap] w fun e w' => e = .returned (.bool true) ∧ Below w.heap.size w w' := by
  have HSP : Hid (Calls Try.prog 7 #[.slice a xs.length cap] w _) := c_Spelt xs a b off cap w hx hr (by omega)
  have HSC : Hid (OpsIn w sa sb soff ops) := hsc
  have HSO : Hid (∀ x ∈ ops, -9223372036854775808 ≤ x.a ∧ x.a ≤ 9223372036854775807) := hso
  clear hx hr hsc hso
  go_enter Try.func4, Try.ntmps4
  go_wp2_with fail
  refine HSP.out.mono ?_
  rintro e w1 ⟨t, rfl, ht, b1⟩
  obtain ⟨hz, tr, hT⟩ := spelt_text ht
  have HOP : Hid (∀ W, Calls Try.prog 6 #[.string t] W _) := fun W => opened_any hz hT W
  have HB1 : Hid (Below w.heap.size w w1) := b1
  clear hz hT ht b1 HSP
  go_wp2_with fail
  refine (HOP.out _).mono ?_
  rintro e w2 ⟨G1, H1, cv1, s1, rfl, hg1, b2⟩
  have HG1 := (show Hid _ from And.intro hg1 b2 : Hid (Game w1.heap.size (codeOf t tr) 1 (trigH (machE (codeOf t tr)) newH 0).2.2 w2 G1 H1 cv1 s1 ∧ Below w1.heap.size w1 w2))
  clear hg1 b2
  go_wp2_with fail
  refine (HOP.out _).mono ?_
  rintro e w3 ⟨G2, H2, cv2, s2, rfl, hg2, b3⟩
  have HK3 : Hid (KL (codeOf t tr) 1 1 (trigH (machE (codeOf t tr)) newH 0).2.2 (trigH (machE (codeOf t tr)) newH 0).2.2 w H1 H2 [gameBk G1 H1 cv1, gameBk G2 H2 cv2] w3) := by
    obtain ⟨hg1, b2⟩ := HG1.out
    have z1 := HB1.out.size
    have z2 := b2.size
    have z3 := b3.size
    have hG1l := heap_lt hg1.g
    have own1 : ∀ k, s1.own H1 k → k < w2.heap.size := fun k hk => hg1.ga.lt hk
    have hG1' : w3.heap[G1]? = some (.cells #[.pointer (some ⟨H1, 0, none⟩), cv1] 38 (0, 0)) := (b3.block G1 hG1l).trans hg1.g
    have hg1B := hg1.B
    have hg2B := hg2.B
    have hG2l := heap_lt hg2.g
    refine ⟨⟨1, s2, Nat.le_refl _, hg2.ga, fun k hk => ⟨by have := (hg2.own k hk).1; omega, ?_⟩, 1, s1, Nat.le_refl _, hg1.ga.below b3, fun k hk => ⟨by have := (hg1.own k hk).1; omega, ?_⟩, ?_, (HB1.out.trans (b2.mono z1)).trans (b3.mono (by omega)), by omega⟩, ?_⟩
    · rintro ⟨x, hx, rfl⟩
      rcases List.mem_cons.mp hx with rfl | hx
      · have := (hg2.own _ hk).1
        have e : (gameBk G1 H1 cv1).at' = G1 := rfl
        omega
      · rw [List.mem_singleton] at hx
        subst hx
        exact (hg2.own _ hk).2 rfl
    · rintro (⟨x, hx, rfl⟩ | ho)
      · rcases List.mem_cons.mp hx with rfl | hx
        · exact (hg1.own _ hk).2 rfl
        · rw [List.mem_singleton] at hx
          subst hx
          have := own1 _ hk
          have e : (gameBk G2 H2 cv2).at' = G2 := rfl
          omega
      · have := own1 _ hk
        have := (hg2.own _ ho).1
        omega
    · rintro k (⟨x, hx, rfl⟩ | ho)
      · rcases List.mem_cons.mp hx with rfl | hx
        · show G1 < _
          omega
        · rw [List.mem_singleton] at hx
          subst hx
          exact hG2l
      · exact hg2.ga.lt ho
    · intro x hx
      rcases List.mem_cons.mp hx with rfl | hx
      · exact ⟨hG1', by show w.heap.size ≤ G1; omega⟩
      · rw [List.mem_singleton] at hx
        subst hx
        exact ⟨hg2.g, by show w.heap.size ≤ G2; omega⟩
  have HF : Hid ((trigH (machE (codeOf t tr)) (trigH (machE (codeOf t tr)) newH 0).2.2 1).1 = 2 ∧ (trigH (machE (codeOf t tr)) (trigH (machE (codeOf t tr)) newH 0).2.2 1).2.1 = 0 ∧ AB (trigH (machE (codeOf t tr)) (trigH (machE (codeOf t tr)) newH 0).2.2 1).2.2 (trigH (machE (codeOf t tr)) newH 0).2.2) := by
    obtain ⟨C, hk, hE, hall⟩ := ks_ok HK3.out.kk.ks
    obtain ⟨f1, f2, f3⟩ := first_run (cs := codeOf t tr)
    exact AB.new hk hE hall ⟨[], 1, HB.new.trig hall (fun r hr => by cases hr) (Int.le_refl 0) 0, HT.trig hE (HOk.new _ _) (fun r hr => by cases hr) 0, f1⟩ f1 f2 f3
  clear hg2 b3 HG1 HB1 HOP
  generalize (trigH (machE (codeOf t tr)) newH 0).2.2 = h1 at *
  obtain ⟨hGc, hGl⟩ := HK3.out.game (G := G1) (H := H1) (cv := cv1) (by simp)
  have HTR := (show Hid _ from kk_Trigger 1 w3 HK3.out.kk (by omega) : Hid (Calls Try.prog 12 #[.pointer (some ⟨H1, 0, none⟩), .int .i64 1] w3 _))
  generalize trigH (machE (codeOf t tr)) h1 1 = T1 at *
  obtain ⟨t1, t2⟩ : T1.1 = 2 ∧ T1.2.1 = 0 := ⟨HF.out.1, HF.out.2.1⟩
  rw [t1, t2] at HTR
  go_wp2_with fail
  refine HTR.out.mono ?_
  rintro e w4 ⟨rfl, k4, p4⟩
  have HK4 : Hid (AW w (codeOf t tr) 2 1 G1 H1 cv1 G2 H2 cv2 w4) := ⟨_, _, ⟨k4, fun x hx => ⟨(p4 x.at' ⟨x, hx, rfl⟩).trans (HK3.out.blk x hx).1, (HK3.out.blk x hx).2⟩⟩, HF.out.2.2⟩
  clear k4 p4 HTR HK3 HF hGc hGl t1 t2
  go_wp2_with fail
  go_loopw [11] (fun iv wr => ∃ i : Nat, i ≤ ops.length ∧ iv = .int .i64 (i : Nat) ∧ Hid (AW w (codeOf t tr) (2 + i) (1 + i) G1 H1 cv1 G2 H2 cv2 wr)) (fun iv _ => ops.length - (intOf iv).toNat)
  case atStart => exact ⟨0, by omega, rfl, HK4.out⟩
  case round =>
    clear HK4
    obtain ⟨i, hi, rfl, HA⟩ := hrel
    obtain ⟨hg, hf, kl, ab⟩ := HA.out
    have HKL : Hid (KL (codeOf t tr) (2 + i) (1 + i) hg hf w H1 H2 [gameBk G1 H1 cv1, gameBk G2 H2 cv2] wr) := kl
    have HAB : Hid (AB hg hf) := ab
    clear kl ab HA
    obtain ⟨hGc, hGl⟩ := HKL.out.game (G := G1) (H := H1) (cv := cv1) (by simp)
    obtain ⟨hGd, hGm⟩ := HKL.out.game (G := G2) (H := H2) (cv := cv2) (by simp)
    by_cases hlt : i < ops.length
    · obtain ⟨rfl, hsw, hcell⟩ := HSC.out (by omega)
      obtain ⟨c0, c1, c2⟩ := hcell i hlt
      have hbk := HKL.out.back
      have e0 : wr.cell? ⟨sb, soff + i * 3, none⟩ = some (.int .i64 ops[i].k) := (hbk.cell (p := ⟨sb, soff + i * 3, none⟩) hsw).trans c0
      have e1 : wr.cell? ⟨sb, soff + i * 3 + 1, none⟩ = some (.int .i64 ops[i].a) := (hbk.cell (p := ⟨sb, soff + i * 3 + 1, none⟩) hsw).trans c1
      have e2 : wr.cell? ⟨sb, soff + i * 3 + 2, none⟩ = some (.int .i64 ops[i].b) := (hbk.cell (p := ⟨sb, soff + i * 3 + 2, none⟩) hsw).trans c2
      have hsl' : sb < wr.heap.size := Nat.lt_of_lt_of_le hsw hbk.size
      have hrg := HSO.out _ (List.getElem_mem hlt)
      clear c0 c1 c2 hcell hbk
      generalize ops[i] = x at *
      have HK1 : Hid (KL (codeOf t tr) (2 + i) (1 + i) hg hf w H1 H2 (opBk wr.heap.size x.k x.a x.b :: [gameBk G1 H1 cv1, gameBk G2 H2 cv2]) (wr.alloc (.cells #[.int .i64 x.k, .int .i64 x.a, .int .i64 x.b] 40))) := HKL.out.new _ _
      by_cases hk1 : x.k = 1
      · have b1 : (x.k == 1) = true := by simpa using hk1
        clear hk1
        go_wp2_with fail
        go_roundw
        case rel => exact ⟨i + 1, by omega, by go_num, hg, hf, (HK1.out.sub fun y hy => List.mem_cons_of_mem _ hy).le (by omega) (by omega), HAB.out⟩
        case measure => simp [intOf]; omega
      · have b1 : (x.k == 1) = false := by simpa using hk1
        go_wp2_with fail
        refine (c_pick x.a 2 _ (by omega) hrg.1 hrg.2).mono ?_
        rintro e w' ⟨rfl, hw'⟩
        have hX : w'.heap[wr.heap.size]? = some (.cells #[.int .i64 x.k, .int .i64 x.a, .int .i64 x.b] 40 (0, 0)) := by rw [hw']; exact heap_alloc_new _ _
        rw [← hw'] at HK1
        obtain ⟨X, hXe⟩ : ∃ X, X = wr.heap.size := ⟨_, rfl⟩
        have HNE : Hid (∀ y ∈ [gameBk G1 H1 cv1, gameBk G2 H2 cv2], y.at' ≠ X) := fun y hy => by
          have := heap_lt (HKL.out.blk y hy).1
          omega
        rw [← hXe] at HK1 hX ⊢
        clear hw' hXe e0 e1 e2 hsl' HKL hGc hGl hGd hGm
        obtain ⟨x0, x1, x2, hXl⟩ := cells_of3 hX
        have fX : w'.frozen? ⟨X, 1, none⟩ = false := free_of_heap hX
        obtain ⟨hGc, hGl⟩ := HK1.out.game (G := G1) (H := H1) (cv := cv1) (by simp)
        obtain ⟨hGd, hGm⟩ := HK1.out.game (G := G2) (H := H2) (cv := cv2) (by simp)
        generalize pickI x.a 2 = pk at *
        by_cases hk2 : x.k = 2
        · have b2 : (x.k == 2) = true := by simpa using hk2
          have HONE : Hid ((playH (codeOf t tr) hg x.k x.a x.b).1 = (playH (codeOf t tr) hf x.k x.a x.b).1 ∧ AB (playH (codeOf t tr) hg x.k x.a x.b).2 (playH (codeOf t tr) hf x.k x.a x.b).2) := HAB.out.one HK1.out ⟨hk1, fun h => by omega, fun h => by omega, fun h => by omega⟩ x.b
          have HP1 := (show Hid _ from kl_play HK1.out x.k x.a x.b (by omega) w'.drew (SameH.refl _).drew : Hid (Calls Try.prog 8 #[.pointer (some ⟨H1, 0, none⟩), .agg #[.int .i64 x.k, .int .i64 x.a, .int .i64 x.b]] w'.drew _))
          have HP2 := (show Hid _ from kl_play2 HK1.out x.k x.a x.b (by omega) (w'.alloc (.cells #[.int .i64 0, .int .i64 0, .int .i64 0, .int .i64 0, .int .i64 0, .int .i64 0] 33)).drew (SameH.refl _).drew : Hid (Calls Try.prog 8 #[.pointer (some ⟨H1, 0, none⟩), .agg #[.int .i64 x.k, .int .i64 x.a, .int .i64 x.b]] (w'.alloc (.cells #[.int .i64 0, .int .i64 0, .int .i64 0, .int .i64 0, .int .i64 0, .int .i64 0] 33)).drew _))
          generalize playH (codeOf t tr) hg x.k x.a x.b = P at *
          obtain ⟨R, hR⟩ : ∃ R, R = playH (codeOf t tr) hf x.k x.a x.b := ⟨_, rfl⟩
          rw [← hR] at HONE
          have HRE : Hid (R = playH (codeOf t tr) hf x.k x.a x.b) := hR
          clear hR
          clear hk2
          go_upto_region 16 with fail
          go_cut [14] (fun y wx => ∃ Y : Nat, y = .pointer (some ⟨Y, 0, none⟩) ∧ Hid (KL (codeOf t tr) (2 + i + 1) (1 + i) P.2 hf w H1 H2 (ansBk Y P.1 :: opBk X x.k x.a x.b :: [gameBk G1 H1 cv1, gameBk G2 H2 cv2]) wx))
          case first =>
            go_region_with (go_at_call 8; first | (with_reducible refine HP1.out.mono ?_; rintro e w6 ⟨rfl, ho⟩) | (with_reducible refine HP2.out.mono ?_; rintro e w6 ⟨rfl, hz, ho⟩; obtain ⟨⟨r0, r1, r2, r3, r4, r5⟩, ⟨f0, f1, f2, f3, f4, f5⟩, hRl⟩ := cells_of6 hz))
            all_goals
              go_wp2_with fail
              go_meet
              case rel =>
                first
                  | exact ⟨_, rfl, ho _ _ _ _ _ _⟩
                  | exact ⟨_, rfl, ho.new _ _⟩
          case rest =>
            clear HP1 HP2 HK1 hGc hGl hGd hGm x0 x1 x2 hXl
            obtain ⟨Y, rfl, HY⟩ := hcut
            obtain ⟨x0, x1, x2, hXl⟩ := HY.out.op (X := X) (k := x.k) (a := x.a) (b := x.b) (by simp)
            obtain ⟨hGd, hGm⟩ := HY.out.game (G := G2) (H := H2) (cv := cv2) (by simp)
            have HP3 := (show Hid _ from kl_play HY.out.swap x.k x.a x.b (by omega) wc.drew (SameH.refl _).drew : Hid (Calls Try.prog 8 #[.pointer (some ⟨H2, 0, none⟩), .agg #[.int .i64 x.k, .int .i64 x.a, .int .i64 x.b]] wc.drew _))
            have HP4 := (show Hid _ from kl_play2 HY.out.swap x.k x.a x.b (by omega) (wc.alloc (.cells #[.int .i64 0, .int .i64 0, .int .i64 0, .int .i64 0, .int .i64 0, .int .i64 0] 33)).drew (SameH.refl _).drew : Hid (Calls Try.prog 8 #[.pointer (some ⟨H2, 0, none⟩), .agg #[.int .i64 x.k, .int .i64 x.a, .int .i64 x.b]] (wc.alloc (.cells #[.int .i64 0, .int .i64 0, .int .i64 0, .int .i64 0, .int .i64 0, .int .i64 0] 33)).drew _))
            rw [← HRE.out, ← HONE.out.1] at HP3 HP4
            go_upto_region 17 with fail
            go_cut [15] (fun y wx => ∃ Z : Nat, y = .pointer (some ⟨Z, 0, none⟩) ∧ Hid (KL (codeOf t tr) (1 + i + 1) (2 + i + 1) R.2 P.2 w H2 H1 (ansBk Z P.1 :: ansBk Y P.1 :: opBk X x.k x.a x.b :: [gameBk G1 H1 cv1, gameBk G2 H2 cv2]) wx))
            case first =>
              go_region_with (go_at_call 8; first | (with_reducible refine HP3.out.mono ?_; rintro e w6 ⟨rfl, ho⟩) | (with_reducible refine HP4.out.mono ?_; rintro e w6 ⟨rfl, hz, ho⟩; obtain ⟨⟨r0, r1, r2, r3, r4, r5⟩, ⟨f0, f1, f2, f3, f4, f5⟩, hRl⟩ := cells_of6 hz))
              all_goals
                go_wp2_with fail
                go_meet
                case rel =>
                  first
                    | exact ⟨_, rfl, ho _ _ _ _ _ _⟩
                    | exact ⟨_, rfl, ho.new _ _⟩
            case rest =>
              clear HP3 HP4 HY hGd hGm x0 x1 x2 hXl
              obtain ⟨Z, rfl, HZ⟩ := hcut
              obtain ⟨⟨y0, y1, y2, y3, y4, y5⟩, hYl⟩ := HZ.out.ans (Y := Y) (P := P.1) (by simp)
              obtain ⟨⟨z0, z1, z2, z3, z4, z5⟩, hZl⟩ := HZ.out.ans (Y := Z) (P := P.1) (by simp)
              go_wp2_with fail
              go_roundw
              case rel => exact ⟨i + 1, by omega, by go_num, P.2, R.2, (HZ.out.swap.sub fun y hy => List.mem_cons_of_mem _ (List.mem_cons_of_mem _ (List.mem_cons_of_mem _ hy))).le (by omega) (by omega), HONE.out.2⟩
              case measure => simp [intOf]; omega
        · have b2 : (x.k == 2) = false := by simpa using hk2
          by_cases hk5 : x.k = 5
          · have b5 : (x.k == 5) = true := by simpa using hk5
            have HK5 : Hid (x.k = 5) := hk5
            clear hk5
            by_cases ho : pk = 1
            · have bo : (pk == 1) = true := by simpa using ho
              clear ho
              go_upto_region 25 with fail
              have HV : Hid (KL (codeOf t tr) (2 + i) (1 + i) hg hf w H1 H2 (opBk X x.k 1 x.b :: [gameBk G1 H1 cv1, gameBk G2 H2 cv2]) (((w'.setCell ⟨X, 1, none⟩ (.int .i64 1)).setCell ⟨X, 1, none⟩ (.int .i64 0)).setCell ⟨X, 1, none⟩ (.int .i64 1))) := ((HK1.out.setA HNE.out 1).setA HNE.out 0).setA HNE.out 1
              generalize ((w'.setCell ⟨X, 1, none⟩ (.int .i64 1)).setCell ⟨X, 1, none⟩ (.int .i64 0)).setCell ⟨X, 1, none⟩ (.int .i64 1) = V at *
              clear hGc hGl hGd hGm x0 x1 x2 hXl HK1 fX hX
              obtain ⟨x0, x1, x2, hXl⟩ := HV.out.op (X := X) (k := x.k) (a := 1) (b := x.b) (by simp)
              obtain ⟨hGc, hGl⟩ := HV.out.game (G := G1) (H := H1) (cv := cv1) (by simp)
              obtain ⟨hGd, hGm⟩ := HV.out.game (G := G2) (H := H2) (cv := cv2) (by simp)
              have HTWO : Hid (AB (playH (codeOf t tr) hg x.k 1 x.b).2 hf) := HAB.out.two HV.out ⟨hk1, hk2, fun h => by have := HK5.out; omega, fun h => by have := HK5.out; omega, fun _ => rfl⟩ x.b
              have HP1 := (show Hid _ from kl_play HV.out x.k 1 x.b (by omega) V.drew (SameH.refl _).drew : Hid (Calls Try.prog 8 #[.pointer (some ⟨H1, 0, none⟩), .agg #[.int .i64 x.k, .int .i64 1, .int .i64 x.b]] V.drew _))
              generalize playH (codeOf t tr) hg x.k 1 x.b = P at *
              go_region_with (go_at_call 8; with_reducible refine HP1.out.mono ?_; rintro e w6 ⟨rfl, ho⟩)
              all_goals
                have HN : Hid (KL (codeOf t tr) (2 + i + 1) (1 + i) P.2 hf w H1 H2 (opBk X x.k 1 x.b :: [gameBk G1 H1 cv1, gameBk G2 H2 cv2]) w6) := ho
                clear ho HP1
                go_wp2_with fail
                go_roundw
                case rel => exact ⟨i + 1, by omega, by go_num, P.2, hf, (HN.out.sub fun y hy => List.mem_cons_of_mem _ hy).le (by omega) (by omega), HTWO.out⟩
                case measure => simp [intOf]; omega
            · have bo : (pk == 1) = false := by simpa using ho
              clear ho
              go_upto_region 26 with fail
              have HV : Hid (KL (codeOf t tr) (2 + i) (1 + i) hg hf w H1 H2 (opBk X x.k 0 x.b :: [gameBk G1 H1 cv1, gameBk G2 H2 cv2]) ((w'.setCell ⟨X, 1, none⟩ (.int .i64 1)).setCell ⟨X, 1, none⟩ (.int .i64 0))) := (HK1.out.setA HNE.out 1).setA HNE.out 0
              generalize (w'.setCell ⟨X, 1, none⟩ (.int .i64 1)).setCell ⟨X, 1, none⟩ (.int .i64 0) = V at *
              clear hGc hGl hGd hGm x0 x1 x2 hXl HK1 fX hX
              obtain ⟨x0, x1, x2, hXl⟩ := HV.out.op (X := X) (k := x.k) (a := 0) (b := x.b) (by simp)
              obtain ⟨hGc, hGl⟩ := HV.out.game (G := G1) (H := H1) (cv := cv1) (by simp)
              obtain ⟨hGd, hGm⟩ := HV.out.game (G := G2) (H := H2) (cv := cv2) (by simp)
              have HONE : Hid ((playH (codeOf t tr) hg x.k 0 x.b).1 = (playH (codeOf t tr) hf x.k 0 x.b).1 ∧ AB (playH (codeOf t tr) hg x.k 0 x.b).2 (playH (codeOf t tr) hf x.k 0 x.b).2) := HAB.out.one HV.out ⟨hk1, fun h => by have := HK5.out; omega, fun h => by have := HK5.out; omega, fun _ => rfl⟩ x.b
              have HP1 := (show Hid _ from kl_play HV.out x.k 0 x.b (by omega) V.drew (SameH.refl _).drew : Hid (Calls Try.prog 8 #[.pointer (some ⟨H1, 0, none⟩), .agg #[.int .i64 x.k, .int .i64 0, .int .i64 x.b]] V.drew _))
              have HP2 := (show Hid _ from kl_play2 HV.out x.k 0 x.b (by omega) (V.alloc (.cells #[.int .i64 0, .int .i64 0, .int .i64 0, .int .i64 0, .int .i64 0, .int .i64 0] 33)).drew (SameH.refl _).drew : Hid (Calls Try.prog 8 #[.pointer (some ⟨H1, 0, none⟩), .agg #[.int .i64 x.k, .int .i64 0, .int .i64 x.b]] (V.alloc (.cells #[.int .i64 0, .int .i64 0, .int .i64 0, .int .i64 0, .int .i64 0, .int .i64 0] 33)).drew _))
              generalize playH (codeOf t tr) hg x.k 0 x.b = P at *
              obtain ⟨R, hR⟩ : ∃ R, R = playH (codeOf t tr) hf x.k 0 x.b := ⟨_, rfl⟩
              rw [← hR] at HONE
              have HRE : Hid (R = playH (codeOf t tr) hf x.k 0 x.b) := hR
              clear hR
              go_upto_region 26 with fail
              go_cut [16] (fun y wx => ∃ Y : Nat, y = .pointer (some ⟨Y, 0, none⟩) ∧ Hid (KL (codeOf t tr) (2 + i + 1) (1 + i) P.2 hf w H1 H2 (ansBk Y P.1 :: opBk X x.k 0 x.b :: [gameBk G1 H1 cv1, gameBk G2 H2 cv2]) wx))
              case first =>
                go_region_with (go_at_call 8; first | (with_reducible refine HP1.out.mono ?_; rintro e w6 ⟨rfl, ho⟩) | (with_reducible refine HP2.out.mono ?_; rintro e w6 ⟨rfl, hz, ho⟩; obtain ⟨⟨r0, r1, r2, r3, r4, r5⟩, ⟨f0, f1, f2, f3, f4, f5⟩, hRl⟩ := cells_of6 hz))
                all_goals
                  go_wp2_with fail
                  go_meet
                  case rel =>
                    first
                      | exact ⟨_, rfl, ho _ _ _ _ _ _⟩
                      | exact ⟨_, rfl, ho.new _ _⟩
              case rest =>
                clear HP1 HP2 HV hGc hGl hGd hGm x0 x1 x2 hXl
                obtain ⟨Y, rfl, HY⟩ := hcut
                obtain ⟨x0, x1, x2, hXl⟩ := HY.out.op (X := X) (k := x.k) (a := 0) (b := x.b) (by simp)
                obtain ⟨hGd, hGm⟩ := HY.out.game (G := G2) (H := H2) (cv := cv2) (by simp)
                have HP3 := (show Hid _ from kl_play HY.out.swap x.k 0 x.b (by omega) wc.drew (SameH.refl _).drew : Hid (Calls Try.prog 8 #[.pointer (some ⟨H2, 0, none⟩), .agg #[.int .i64 x.k, .int .i64 0, .int .i64 x.b]] wc.drew _))
                have HP4 := (show Hid _ from kl_play2 HY.out.swap x.k 0 x.b (by omega) (wc.alloc (.cells #[.int .i64 0, .int .i64 0, .int .i64 0, .int .i64 0, .int .i64 0, .int .i64 0] 33)).drew (SameH.refl _).drew : Hid (Calls Try.prog 8 #[.pointer (some ⟨H2, 0, none⟩), .agg #[.int .i64 x.k, .int .i64 0, .int .i64 x.b]] (wc.alloc (.cells #[.int .i64 0, .int .i64 0, .int .i64 0, .int .i64 0, .int .i64 0, .int .i64 0] 33)).drew _))
                rw [← HRE.out, ← HONE.out.1] at HP3 HP4
                go_upto_region 27 with fail
                go_cut [17] (fun y wx => ∃ Z : Nat, y = .pointer (some ⟨Z, 0, none⟩) ∧ Hid (KL (codeOf t tr) (1 + i + 1) (2 + i + 1) R.2 P.2 w H2 H1 (ansBk Z P.1 :: ansBk Y P.1 :: opBk X x.k 0 x.b :: [gameBk G1 H1 cv1, gameBk G2 H2 cv2]) wx))
                case first =>
                  go_region_with (go_at_call 8; first | (with_reducible refine HP3.out.mono ?_; rintro e w6 ⟨rfl, ho⟩) | (with_reducible refine HP4.out.mono ?_; rintro e w6 ⟨rfl, hz, ho⟩; obtain ⟨⟨r0, r1, r2, r3, r4, r5⟩, ⟨f0, f1, f2, f3, f4, f5⟩, hRl⟩ := cells_of6 hz))
                  all_goals
                    go_wp2_with fail
                    go_meet
                    case rel =>
                      first
                        | exact ⟨_, rfl, ho _ _ _ _ _ _⟩
                        | exact ⟨_, rfl, ho.new _ _⟩
                case rest =>
                  clear HP3 HP4 HY hGd hGm x0 x1 x2 hXl
                  obtain ⟨Z, rfl, HZ⟩ := hcut
                  obtain ⟨⟨y0, y1, y2, y3, y4, y5⟩, hYl⟩ := HZ.out.ans (Y := Y) (P := P.1) (by simp)
                  obtain ⟨⟨z0, z1, z2, z3, z4, z5⟩, hZl⟩ := HZ.out.ans (Y := Z) (P := P.1) (by simp)
                  go_wp2_with fail
                  go_roundw
                  case rel => exact ⟨i + 1, by omega, by go_num, P.2, R.2, (HZ.out.swap.sub fun y hy => List.mem_cons_of_mem _ (List.mem_cons_of_mem _ (List.mem_cons_of_mem _ hy))).le (by omega) (by omega), HONE.out.2⟩
                  case measure => simp [intOf]; omega
          · have b5 : (x.k == 5) = false := by simpa using hk5
            by_cases ho : pk = 1
            · have bo : (pk == 1) = true := by simpa using ho
              clear ho
              go_upto_region 25 with fail
              have HV : Hid (KL (codeOf t tr) (2 + i) (1 + i) hg hf w H1 H2 (opBk X x.k 2 x.b :: [gameBk G1 H1 cv1, gameBk G2 H2 cv2]) ((w'.setCell ⟨X, 1, none⟩ (.int .i64 1)).setCell ⟨X, 1, none⟩ (.int .i64 2))) := (HK1.out.setA HNE.out 1).setA HNE.out 2
              generalize (w'.setCell ⟨X, 1, none⟩ (.int .i64 1)).setCell ⟨X, 1, none⟩ (.int .i64 2) = V at *
              clear hGc hGl hGd hGm x0 x1 x2 hXl HK1 fX hX
              obtain ⟨x0, x1, x2, hXl⟩ := HV.out.op (X := X) (k := x.k) (a := 2) (b := x.b) (by simp)
              obtain ⟨hGc, hGl⟩ := HV.out.game (G := G1) (H := H1) (cv := cv1) (by simp)
              obtain ⟨hGd, hGm⟩ := HV.out.game (G := G2) (H := H2) (cv := cv2) (by simp)
              have HTWO : Hid (AB (playH (codeOf t tr) hg x.k 2 x.b).2 hf) := HAB.out.two HV.out ⟨hk1, hk2, fun _ => rfl, fun _ => rfl, fun h => absurd h hk5⟩ x.b
              have HP1 := (show Hid _ from kl_play HV.out x.k 2 x.b (by omega) V.drew (SameH.refl _).drew : Hid (Calls Try.prog 8 #[.pointer (some ⟨H1, 0, none⟩), .agg #[.int .i64 x.k, .int .i64 2, .int .i64 x.b]] V.drew _))
              generalize playH (codeOf t tr) hg x.k 2 x.b = P at *
              go_region_with (go_at_call 8; with_reducible refine HP1.out.mono ?_; rintro e w6 ⟨rfl, ho⟩)
              all_goals
                have HN : Hid (KL (codeOf t tr) (2 + i + 1) (1 + i) P.2 hf w H1 H2 (opBk X x.k 2 x.b :: [gameBk G1 H1 cv1, gameBk G2 H2 cv2]) w6) := ho
                clear ho HP1
                go_wp2_with fail
                go_roundw
                case rel => exact ⟨i + 1, by omega, by go_num, P.2, hf, (HN.out.sub fun y hy => List.mem_cons_of_mem _ hy).le (by omega) (by omega), HTWO.out⟩
                case measure => simp [intOf]; omega
            · have bo : (pk == 1) = false := by simpa using ho
              clear ho
              go_upto_region 26 with fail
              have HV : Hid (KL (codeOf t tr) (2 + i) (1 + i) hg hf w H1 H2 (opBk X x.k 1 x.b :: [gameBk G1 H1 cv1, gameBk G2 H2 cv2]) (w'.setCell ⟨X, 1, none⟩ (.int .i64 1))) := HK1.out.setA HNE.out 1
              generalize w'.setCell ⟨X, 1, none⟩ (.int .i64 1) = V at *
              clear hGc hGl hGd hGm x0 x1 x2 hXl HK1 fX hX
              obtain ⟨x0, x1, x2, hXl⟩ := HV.out.op (X := X) (k := x.k) (a := 1) (b := x.b) (by simp)
              obtain ⟨hGc, hGl⟩ := HV.out.game (G := G1) (H := H1) (cv := cv1) (by simp)
              obtain ⟨hGd, hGm⟩ := HV.out.game (G := G2) (H := H2) (cv := cv2) (by simp)
              have HONE : Hid ((playH (codeOf t tr) hg x.k 1 x.b).1 = (playH (codeOf t tr) hf x.k 1 x.b).1 ∧ AB (playH (codeOf t tr) hg x.k 1 x.b).2 (playH (codeOf t tr) hf x.k 1 x.b).2) := HAB.out.one HV.out ⟨hk1, fun _ => rfl, fun _ => rfl, fun h => absurd h hk5⟩ x.b
              have HP1 := (show Hid _ from kl_play HV.out x.k 1 x.b (by omega) V.drew (SameH.refl _).drew : Hid (Calls Try.prog 8 #[.pointer (some ⟨H1, 0, none⟩), .agg #[.int .i64 x.k, .int .i64 1, .int .i64 x.b]] V.drew _))
              have HP2 := (show Hid _ from kl_play2 HV.out x.k 1 x.b (by omega) (V.alloc (.cells #[.int .i64 0, .int .i64 0, .int .i64 0, .int .i64 0, .int .i64 0, .int .i64 0] 33)).drew (SameH.refl _).drew : Hid (Calls Try.prog 8 #[.pointer (some ⟨H1, 0, none⟩), .agg #[.int .i64 x.k, .int .i64 1, .int .i64 x.b]] (V.alloc (.cells #[.int .i64 0, .int .i64 0, .int .i64 0, .int .i64 0, .int .i64 0, .int .i64 0] 33)).drew _))
              generalize playH (codeOf t tr) hg x.k 1 x.b = P at *
              obtain ⟨R, hR⟩ : ∃ R, R = playH (codeOf t tr) hf x.k 1 x.b := ⟨_, rfl⟩
              rw [← hR] at HONE
              have HRE : Hid (R = playH (codeOf t tr) hf x.k 1 x.b) := hR
              clear hR
              go_upto_region 26 with fail
              go_cut [16] (fun y wx => ∃ Y : Nat, y = .pointer (some ⟨Y, 0, none⟩) ∧ Hid (KL (codeOf t tr) (2 + i + 1) (1 + i) P.2 hf w H1 H2 (ansBk Y P.1 :: opBk X x.k 1 x.b :: [gameBk G1 H1 cv1, gameBk G2 H2 cv2]) wx))
              case first =>
                go_region_with (go_at_call 8; first | (with_reducible refine HP1.out.mono ?_; rintro e w6 ⟨rfl, ho⟩) | (with_reducible refine HP2.out.mono ?_; rintro e w6 ⟨rfl, hz, ho⟩; obtain ⟨⟨r0, r1, r2, r3, r4, r5⟩, ⟨f0, f1, f2, f3, f4, f5⟩, hRl⟩ := cells_of6 hz))
                all_goals
                  go_wp2_with fail
                  go_meet
                  case rel =>
                    first
                      | exact ⟨_, rfl, ho _ _ _ _ _ _⟩
                      | exact ⟨_, rfl, ho.new _ _⟩
              case rest =>
                clear HP1 HP2 HV hGc hGl hGd hGm x0 x1 x2 hXl
                obtain ⟨Y, rfl, HY⟩ := hcut
                obtain ⟨x0, x1, x2, hXl⟩ := HY.out.op (X := X) (k := x.k) (a := 1) (b := x.b) (by simp)
                obtain ⟨hGd, hGm⟩ := HY.out.game (G := G2) (H := H2) (cv := cv2) (by simp)
                have HP3 := (show Hid _ from kl_play HY.out.swap x.k 1 x.b (by omega) wc.drew (SameH.refl _).drew : Hid (Calls Try.prog 8 #[.pointer (some ⟨H2, 0, none⟩), .agg #[.int .i64 x.k, .int .i64 1, .int .i64 x.b]] wc.drew _))
                have HP4 := (show Hid _ from kl_play2 HY.out.swap x.k 1 x.b (by omega) (wc.alloc (.cells #[.int .i64 0, .int .i64 0, .int .i64 0, .int .i64 0, .int .i64 0, .int .i64 0] 33)).drew (SameH.refl _).drew : Hid (Calls Try.prog 8 #[.pointer (some ⟨H2, 0, none⟩), .agg #[.int .i64 x.k, .int .i64 1, .int .i64 x.b]] (wc.alloc (.cells #[.int .i64 0, .int .i64 0, .int .i64 0, .int .i64 0, .int .i64 0, .int .i64 0] 33)).drew _))
                rw [← HRE.out, ← HONE.out.1] at HP3 HP4
                go_upto_region 27 with fail
                go_cut [17] (fun y wx => ∃ Z : Nat, y = .pointer (some ⟨Z, 0, none⟩) ∧ Hid (KL (codeOf t tr) (1 + i + 1) (2 + i + 1) R.2 P.2 w H2 H1 (ansBk Z P.1 :: ansBk Y P.1 :: opBk X x.k 1 x.b :: [gameBk G1 H1 cv1, gameBk G2 H2 cv2]) wx))
                case first =>
                  go_region_with (go_at_call 8; first | (with_reducible refine HP3.out.mono ?_; rintro e w6 ⟨rfl, ho⟩) | (with_reducible refine HP4.out.mono ?_; rintro e w6 ⟨rfl, hz, ho⟩; obtain ⟨⟨r0, r1, r2, r3, r4, r5⟩, ⟨f0, f1, f2, f3, f4, f5⟩, hRl⟩ := cells_of6 hz))
                  all_goals
                    go_wp2_with fail
                    go_meet
                    case rel =>
                      first
                        | exact ⟨_, rfl, ho _ _ _ _ _ _⟩
                        | exact ⟨_, rfl, ho.new _ _⟩
                case rest =>
                  clear HP3 HP4 HY hGd hGm x0 x1 x2 hXl
                  obtain ⟨Z, rfl, HZ⟩ := hcut
                  obtain ⟨⟨y0, y1, y2, y3, y4, y5⟩, hYl⟩ := HZ.out.ans (Y := Y) (P := P.1) (by simp)
                  obtain ⟨⟨z0, z1, z2, z3, z4, z5⟩, hZl⟩ := HZ.out.ans (Y := Z) (P := P.1) (by simp)
                  go_wp2_with fail
                  go_roundw
                  case rel => exact ⟨i + 1, by omega, by go_num, P.2, R.2, (HZ.out.swap.sub fun y hy => List.mem_cons_of_mem _ (List.mem_cons_of_mem _ (List.mem_cons_of_mem _ hy))).le (by omega) (by omega), HONE.out.2⟩
                  case measure => simp [intOf]; omega
    · go_wp2_with fail
      refine (kl_Show _ HKL.out).mono ?_
      rintro e w5 ⟨rs1, Q1, ra1, qa1, rc1, qc1, rfl, HS1⟩
      obtain ⟨S1, hS1⟩ : ∃ S1, S1 = w5.heap.size := ⟨_, rfl⟩
      have HK5 : Hid (KL (codeOf t tr) (2 + i) (1 + i) hg hf w H1 H2 [⟨S1, #[.int .i64 hg.now, .slice ra1 rs1.length rc1, .slice qa1 Q1.length qc1], 44⟩, gameBk G1 H1 cv1, gameBk G2 H2 cv2] (w5.alloc (.cells #[.int .i64 hg.now, .slice ra1 rs1.length rc1, .slice qa1 Q1.length qc1] 44))) := by
        rw [hS1]
        exact (HKL.out.below HS1.out.2.2.2).new _ _
      have HR5 : Hid ((w5.alloc (.cells #[.int .i64 hg.now, .slice ra1 rs1.length rc1, .slice qa1 Q1.length qc1] 44)).ownsRow 0 82 5 (.slice ra1 rs1.length rc1) rs1.length (rnsCells rs1) ∧ (w5.alloc (.cells #[.int .i64 hg.now, .slice ra1 rs1.length rc1, .slice qa1 Q1.length qc1] 44)).ownsRow 0 30 4 (.slice qa1 Q1.length qc1) Q1.length (msgsCells Q1)) := ⟨row_below HS1.out.2.1 ((Below.refl _ _).alloc (Nat.le_refl _) _), row_below HS1.out.2.2.1 ((Below.refl _ _).alloc (Nat.le_refl _) _)⟩
      have HE1 : Hid (rs1 = hg.rs.map pubP ∧ Q1 = hg.qs 0 ++ hg.qs 1 ++ hg.qs 2 ∧ rs1.length ≤ 1000 ∧ Q1.length ≤ 1000) := HS1.out.1
      go_upto_region 31 with fail
      rw [← hS1]
      generalize w5.alloc (.cells #[.int .i64 hg.now, .slice ra1 rs1.length rc1, .slice qa1 Q1.length qc1] 44) = W5 at *
      clear hS1 HS1 hGc hGl hGd hGm
      obtain ⟨hGd, hGm⟩ := HK5.out.game (G := G2) (H := H2) (cv := cv2) (by simp)
      go_wp2_with fail
      refine (kl_Show _ HK5.out.swap).mono ?_
      rintro e w6 ⟨rs2, Q2, ra2, qa2, rc2, qc2, rfl, HS2⟩
      obtain ⟨S2, hS2⟩ : ∃ S2, S2 = w6.heap.size := ⟨_, rfl⟩
      have HK6 : Hid (KL (codeOf t tr) (1 + i) (2 + i) hf hg w H2 H1 [⟨S2, #[.int .i64 hf.now, .slice ra2 rs2.length rc2, .slice qa2 Q2.length qc2], 44⟩, ⟨S1, #[.int .i64 hg.now, .slice ra1 rs1.length rc1, .slice qa1 Q1.length qc1], 44⟩, gameBk G1 H1 cv1, gameBk G2 H2 cv2] (w6.alloc (.cells #[.int .i64 hf.now, .slice ra2 rs2.length rc2, .slice qa2 Q2.length qc2] 44))) := by
        rw [hS2]
        exact (HK5.out.swap.below HS2.out.2.2.2).new _ _
      have HR6 : Hid (((w6.alloc (.cells #[.int .i64 hf.now, .slice ra2 rs2.length rc2, .slice qa2 Q2.length qc2] 44)).ownsRow 0 82 5 (.slice ra2 rs2.length rc2) rs2.length (rnsCells rs2) ∧ (w6.alloc (.cells #[.int .i64 hf.now, .slice ra2 rs2.length rc2, .slice qa2 Q2.length qc2] 44)).ownsRow 0 30 4 (.slice qa2 Q2.length qc2) Q2.length (msgsCells Q2)) ∧ (w6.alloc (.cells #[.int .i64 hf.now, .slice ra2 rs2.length rc2, .slice qa2 Q2.length qc2] 44)).ownsRow 0 82 5 (.slice ra1 rs1.length rc1) rs1.length (rnsCells rs1) ∧ (w6.alloc (.cells #[.int .i64 hf.now, .slice ra2 rs2.length rc2, .slice qa2 Q2.length qc2] 44)).ownsRow 0 30 4 (.slice qa1 Q1.length qc1) Q1.length (msgsCells Q1)) := by
        have hb : Below w6.heap.size w6 (w6.alloc (.cells #[.int .i64 hf.now, .slice ra2 rs2.length rc2, .slice qa2 Q2.length qc2] 44)) := (Below.refl _ _).alloc (Nat.le_refl _) _
        exact ⟨⟨row_below HS2.out.2.1 hb, row_below HS2.out.2.2.1 hb⟩, row_below (row_below HR5.out.1 HS2.out.2.2.2) hb, row_below (row_below HR5.out.2 HS2.out.2.2.2) hb⟩
      have HE2 : Hid (rs2 = hf.rs.map pubP ∧ Q2 = hf.qs 0 ++ hf.qs 1 ++ hf.qs 2 ∧ rs2.length ≤ 1000 ∧ Q2.length ≤ 1000) := HS2.out.1
      go_upto_region 32 with fail
      rw [← hS2]
      generalize w6.alloc (.cells #[.int .i64 hf.now, .slice ra2 rs2.length rc2, .slice qa2 Q2.length qc2] 44) = W6 at *
      clear hS2 HS2 hGd hGm HK5 HR5
      obtain ⟨m0, m1, m2, hM1⟩ : W6.cell? ⟨S1, 0, none⟩ = some (.int .i64 hg.now) ∧ W6.cell? ⟨S1, 1, none⟩ = some (.slice ra1 rs1.length rc1) ∧ W6.cell? ⟨S1, 2, none⟩ = some (.slice qa1 Q1.length qc1) ∧ S1 < W6.heap.size := cells_of3 (HK6.out.blk ⟨S1, #[.int .i64 hg.now, .slice ra1 rs1.length rc1, .slice qa1 Q1.length qc1], 44⟩ (by simp)).1
      obtain ⟨n0, n1, n2, hM2⟩ : W6.cell? ⟨S2, 0, none⟩ = some (.int .i64 hf.now) ∧ W6.cell? ⟨S2, 1, none⟩ = some (.slice ra2 rs2.length rc2) ∧ W6.cell? ⟨S2, 2, none⟩ = some (.slice qa2 Q2.length qc2) ∧ S2 < W6.heap.size := cells_of3 (HK6.out.blk ⟨S2, #[.int .i64 hf.now, .slice ra2 rs2.length rc2, .slice qa2 Q2.length qc2], 44⟩ (by simp)).1
      have HBK : Hid (Below w.heap.size w W6) := HK6.out.back
      obtain ⟨NW, R1, M1, HEQ⟩ : ∃ NW R1 M1, Hid (hg.now = NW ∧ hf.now = NW ∧ oneR rs1 = R1 ∧ zeroM Q1 = M1 ∧ oneR rs2 = R1 ∧ zeroM Q2 = M1 ∧ R1.length ≤ 1000 ∧ M1.length ≤ 1000) := by
        obtain ⟨e1, e2, e3, e4⟩ := HE1.out
        obtain ⟨e5, e6, _, _⟩ := HE2.out
        obtain ⟨a1, a2⟩ := HAB.out.told
        refine ⟨hg.now, oneR rs1, zeroM Q1, rfl, HAB.out.now.symm, rfl, rfl, ?_, ?_, Nat.le_trans (List.length_filter_le _ _) e3, Nat.le_trans (List.length_filter_le _ _) e4⟩
        · rw [e1, e5, a1]
        · rw [e2, e6, a2]
      have HM1 : Hid (∀ W, Below W6.heap.size W6 W → Calls Try.prog 15 #[.agg #[.int .i64 NW, .slice ra1 rs1.length rc1, .slice qa1 Q1.length qc1]] W fun e w' => ∃ (ra' qa' : Option Addr) (rc' qc' : Nat), e = .returned (.agg #[.int .i64 NW, .slice ra' R1.length rc', .slice qa' M1.length qc']) ∧ Hid (w'.ownsRow 0 82 5 (.slice ra' R1.length rc') R1.length (rnsCells R1) ∧ w'.ownsRow 0 30 4 (.slice qa' M1.length qc') M1.length (msgsCells M1) ∧ Below W.heap.size W w' ∧ Below W6.heap.size W6 w')) := fun W hb => by
        obtain ⟨_, _, q3, q4, _⟩ := HEQ.out
        refine (c_mine NW rs1 Q1 ra1 qa1 rc1 qc1 W (row_below HR6.out.2.1 hb) (row_below HR6.out.2.2 hb) HE1.out.2.2.1 HE1.out.2.2.2).mono ?_
        rw [q3, q4]
        rintro e w' ⟨ra', qa', rc', qc', rfl, g1, g2, g3⟩
        exact ⟨ra', qa', rc', qc', rfl, g1, g2, g3, hb.trans (g3.mono hb.size)⟩
      have HM2 : Hid (∀ W, Below W6.heap.size W6 W → Calls Try.prog 15 #[.agg #[.int .i64 NW, .slice ra2 rs2.length rc2, .slice qa2 Q2.length qc2]] W fun e w' => ∃ (ra' qa' : Option Addr) (rc' qc' : Nat), e = .returned (.agg #[.int .i64 NW, .slice ra' R1.length rc', .slice qa' M1.length qc']) ∧ Hid (w'.ownsRow 0 82 5 (.slice ra' R1.length rc') R1.length (rnsCells R1) ∧ w'.ownsRow 0 30 4 (.slice qa' M1.length qc') M1.length (msgsCells M1) ∧ Below W.heap.size W w' ∧ Below W6.heap.size W6 w')) := fun W hb => by
        obtain ⟨_, _, _, _, q3, q4, _⟩ := HEQ.out
        refine (c_mine NW rs2 Q2 ra2 qa2 rc2 qc2 W (row_below HR6.out.1.1 hb) (row_below HR6.out.1.2 hb) HE2.out.2.2.1 HE2.out.2.2.2).mono ?_
        rw [q3, q4]
        rintro e w' ⟨ra', qa', rc', qc', rfl, g1, g2, g3⟩
        exact ⟨ra', qa', rc', qc', rfl, g1, g2, g3, hb.trans (g3.mono hb.size)⟩
      rw [HEQ.out.1] at m0
      rw [HEQ.out.2.1] at n0
      clear HR6 HE1 HE2 HK6 HKL HAB
      have HMA := (show Hid _ from HM1.out W6.drew ((SameH.refl _).drew.below _) : Hid (Calls Try.prog 15 #[.agg #[.int .i64 NW, .slice ra1 rs1.length rc1, .slice qa1 Q1.length qc1]] W6.drew _))
      have HSS : Hid (∀ (W : World) (a b c d : Option Addr) (e f g h : Nat), W.ownsRow 0 82 5 (.slice a R1.length e) R1.length (rnsCells R1) → W.ownsRow 0 82 5 (.slice b R1.length f) R1.length (rnsCells R1) → W.ownsRow 0 30 4 (.slice c M1.length g) M1.length (msgsCells M1) → W.ownsRow 0 30 4 (.slice d M1.length h) M1.length (msgsCells M1) → Calls Try.prog 14 #[.agg #[.int .i64 NW, .slice a R1.length e, .slice c M1.length g], .agg #[.int .i64 NW, .slice b R1.length f, .slice d M1.length h]] W fun e w' => e = .returned (.bool true) ∧ Below W.heap.size W w') := fun W a b c d e f g h h1 h2 h3 h4 => k_sameState NW R1 M1 a b e f c d g h W h1 h2 (by have := HEQ.out.2.2.2.2.2.2.1; omega) h3 h4 (by have := HEQ.out.2.2.2.2.2.2.2; omega)
      clear HM1
      go_region_with (first | (go_at_call 15; with_reducible refine HMA.out.mono ?_; rintro e w8 ⟨ra8, qa8, rc8, qc8, rfl, HR8⟩; obtain ⟨n0, n1, n2, hM8⟩ : w8.cell? ⟨S2, 0, none⟩ = some (.int .i64 NW) ∧ w8.cell? ⟨S2, 1, none⟩ = some (.slice ra2 rs2.length rc2) ∧ w8.cell? ⟨S2, 2, none⟩ = some (.slice qa2 Q2.length qc2) ∧ S2 < w8.heap.size := ⟨(HR8.out.2.2.2.cell (p := ⟨S2, 0, none⟩) hM2).trans n0, (HR8.out.2.2.2.cell (p := ⟨S2, 1, none⟩) hM2).trans n1, (HR8.out.2.2.2.cell (p := ⟨S2, 2, none⟩) hM2).trans n2, Nat.lt_of_lt_of_le hM2 HR8.out.2.2.2.size⟩) | (go_at_call 15; with_reducible refine (HM2.out w8 HR8.out.2.2.2).mono ?_; rintro e w9 ⟨ra9, qa9, rc9, qc9, rfl, HR9⟩) | (go_at_call 14; with_reducible refine (HSS.out w9 ra8 ra9 qa8 qa9 rc8 rc9 qc8 qc9 (row_below HR8.out.1 HR9.out.2.2.1) HR9.out.1 (row_below HR8.out.2.1 HR9.out.2.2.1) HR9.out.2.1).mono ?_; rintro e w10 ⟨rfl, hb10⟩))
      all_goals
        have HBE : Hid (Below w.heap.size w w10) := by
          have s1 := HBK.out.size
          have s2 := HR9.out.2.2.2.size
          exact (HBK.out.trans (HR9.out.2.2.2.mono s1)).trans (hb10.mono (by omega))
        clear hb10
        go_wp2_with fail
        go_ret
        exact ⟨rfl, HBE.out⟩
end Go.Proofs.Ytmmmnghiegajmab
