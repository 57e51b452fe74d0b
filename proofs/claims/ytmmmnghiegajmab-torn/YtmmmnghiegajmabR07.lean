import Derived.Test.YtmmmnghiegajmabM01
import Derived.Test.YtmmmnghiegajmabM02
import Derived.Test.YtmmmnghiegajmabM03
import Derived.Test.YtmmmnghiegajmabM04
import Derived.Test.YtmmmnghiegajmabM05
import Derived.Test.YtmmmnghiegajmabM06
import Derived.Test.YtmmmnghiegajmabM07
import Derived.Test.YtmmmnghiegajmabM08
import Derived.Test.YtmmmnghiegajmabM09
import Derived.Test.YtmmmnghiegajmabM10
import Derived.Test.YtmmmnghiegajmabM11
import Derived.Test.YtmmmnghiegajmabM12
import Derived.Test.YtmmmnghiegajmabM14
import Derived.Test.YtmmmnghiegajmabM15
import Derived.Test.YtmmmnghiegajmabM16
import Derived.Test.YtmmmnghiegajmabM20
import Derived.Test.YtmmmnghiegajmabM21
import Derived.Test.YtmmmnghiegajmabM22
import Derived.Test.YtmmmnghiegajmabM24
import Derived.Test.YtmmmnghiegajmabM26
import Derived.Test.YtmmmnghiegajmabM27
import Derived.Test.YtmmmnghiegajmabM28
import Derived.Test.YtmmmnghiegajmabM29
import Derived.Test.YtmmmnghiegajmabM30
import Derived.Test.YtmmmnghiegajmabM31
import Derived.Test.YtmmmnghiegajmabM32
import Derived.Test.YtmmmnghiegajmabM33
import Derived.Test.YtmmmnghiegajmabM34
import Derived.Test.YtmmmnghiegajmabM35
import Derived.Test.YtmmmnghiegajmabM36
import Derived.Test.YtmmmnghiegajmabM37
import Derived.Test.YtmmmnghiegajmabM38
import Derived.Test.YtmmmnghiegajmabM40
import Derived.Test.YtmmmnghiegajmabM41
import Derived.Test.YtmmmnghiegajmabM42
import Derived.Test.YtmmmnghiegajmabR01
import Derived.Test.YtmmmnghiegajmabR02
import Derived.Test.YtmmmnghiegajmabR03
import Derived.Test.YtmmmnghiegajmabR04
import Derived.Test.YtmmmnghiegajmabR05
import Derived.Test.YtmmmnghiegajmabR06
namespace Go.Proofs.Ytmmmnghiegajmab
open Go.RowKit Go.Proofs.Herald
/-- A game, its journal, what was done. -/
def TW (w0 : World) (cs : List Ins) (m G H : Nat) (cv : Value) (W : World) : Prop :=
  ∃ h J calls, KJ w0.heap.size cs m h J w0 H (fun k => k = G ∨ cv.ownBlock = some k) W ∧ W.heap[G]? = some (.cells #[.pointer (some ⟨H, 0, none⟩), cv] 38 (0, 0)) ∧ Hist cs calls h J ∧ 1 ≤ calls.length ∧ W.ownsRow 0 137 4 cv cs.length (codeCells cs) ∧ soundL cs = true
theorem tw_play {w0 : World} {cs : List Ins} {m G H : Nat} {cv : Value} {w : World} (b : TW w0 cs m G H cv w) (k a c : Int) (ha : -9223372036854775808 ≤ a ∧ a ≤ 9223372036854775807) (hc : -9223372036854775808 ≤ c ∧ c ≤ 9223372036854775807) (hm : m ≤ 1500000) (W : World) (hs : SameH w W) :
    Calls Try.prog 8 #[.pointer (some ⟨H, 0, none⟩), .agg #[.int .i64 k, .int .i64 a, .int .i64 c]] W fun e w' => (∃ v, e = .returned v) ∧ TW w0 cs (m + 1) G H cv w' := by
  obtain ⟨h, J, calls, kj, hG, hi, h1, row, snd⟩ := b
  refine (cj_play k a c W (kj.same hs) hm).mono ?_
  rintro e w' ⟨rfl, g1, g2⟩
  obtain ⟨calls', hi', hl⟩ := hi.play k a c ha hc
  refine ⟨⟨_, rfl⟩, _, _, calls', g1, ?_, hi', by omega, own_keep row fun b hb => ?_, snd⟩
  · rw [g2 G (.inl rfl), hs.heap]
    exact hG
  · rw [g2 b (.inr hb), hs.heap]
theorem tw_open {t : ByteArray} {tr : Tree 5} {w0 w w' : World} {G H : Nat} {cv : Value} {s : HS} (hg : Game w.heap.size (codeOf t tr) 1 (trigH (machE (codeOf t tr)) newH 0).2.2 w' G H cv s) (gj : GJ (codeOf t tr) 1 (trigH (machE (codeOf t tr)) newH 0).2.2 (recB 84 0 0) w' H s) (hb : Below w.heap.size w w') (h0 : Below w0.heap.size w0 w) : TW w0 (codeOf t tr) 1 G H cv w' := by
  have z := h0.size
  have z2 := hb.size
  have hgo : (playH (codeOf t tr) newH (kindOf 84) 0 0).1.2.2 = 0 := by
    show (trigH (machE (codeOf t tr)) newH 0).2.1 = 0
    unfold trigH
    rw [if_neg (by decide), if_neg (by decide)]
  have hist : Hist (codeOf t tr) [(84, 0, 0)] (trigH (machE (codeOf t tr)) newH 0).2.2 (recB 84 0 0) := by
    have hq : fineC (84, 0, 0) := ⟨by decide, rfl, ⟨by decide, by decide⟩, by decide, by decide⟩
    have h1 := Hist.snoc (cs := codeOf t tr) (84, 0, 0) Hist.nil hq hgo
    rw [List.nil_append, List.nil_append] at h1
    exact h1
  refine ⟨_, _, _, ⟨1, s, Nat.le_refl _, gj, fun k hk => ⟨by have := (hg.own k hk).1; omega, ?_⟩, ?_, h0.trans (hb.mono z), by omega⟩, hg.g, hist, Nat.le_refl _, own0 hg.row, gj.ga.snd⟩
  · rintro (rfl | h)
    · exact (hg.own _ hk).2 rfl
    · exact hg.cvo k h hk
  · rintro k (rfl | h)
    · exact heap_lt hg.g
    · obtain ⟨c, hc⟩ := own_block (own0 hg.row) h
      exact heap_lt hc
theorem pick_nat (x : Int) (n : Nat) (hn : 0 < n) : ∃ i : Nat, pickI x (n : Int) = (i : Int) ∧ i < n := by
  have h := pickI_bound x (n : Int) (by omega)
  exact ⟨(pickI x (n : Int)).toNat, by omega, by omega⟩
set_option maxRecDepth 40000 in
set_option maxHeartbeats 16000000 in
theorem torn_walk (xs : List Int) (a : Option Addr) (b off cap : Nat) (ops : List OpK) (sa : Option Addr) (sb soff scap : Nat) (which at' mask : Int) (w : World) (hx : IntsIn w a b off xs) (hr : ∀ x ∈ xs, -9223372036854775808 ≤ x ∧ x ≤ 9223372036854775807) (hl : xs.length ≤ 1048576) (hsc : OpsIn w sa sb soff ops) (hso : ∀ x ∈ ops, (-9223372036854775808 ≤ x.a ∧ x.a ≤ 9223372036854775807) ∧ -9223372036854775808 ≤ x.b ∧ x.b ≤ 9223372036854775807) (hsl : ops.length ≤ 1048576)
    (hw : -9223372036854775808 ≤ which ∧ which ≤ 9223372036854775807) (hat : -9223372036854775808 ≤ at' ∧ at' ≤ 9223372036854775807) :
    Calls Try.prog 5 #[.slice a xs.length cap, .slice sa ops.length scap, .int .i64 which, .int .i64 at', .int .i64 mask] w fun e w' => e = .returned (.bool true) ∧ Below w.heap.size w w' := by
  have HSP : Hid (Calls Try.prog 7 #[.slice a xs.length cap] w _) := c_Spelt xs a b off cap w hx hr (by omega)
  have HSC : Hid (OpsIn w sa sb soff ops) := hsc
  have HSO : Hid (∀ x ∈ ops, (-9223372036854775808 ≤ x.a ∧ x.a ≤ 9223372036854775807) ∧ -9223372036854775808 ≤ x.b ∧ x.b ≤ 9223372036854775807) := hso
  clear hx hr hsc hso
  go_enter Try.func5, Try.ntmps5
  go_wp2_with fail
  refine HSP.out.mono ?_
  rintro e w1 ⟨t, rfl, ht, b1⟩
  obtain ⟨hz, tr, hT⟩ := spelt_text ht
  have HOP : Hid (Calls Try.prog 6 #[.string t] w1 _) := opened_J hz hT w1
  have HB1 : Hid (Below w.heap.size w w1) := b1
  clear hz hT ht b1 HSP
  go_wp2_with fail
  refine HOP.out.mono ?_
  rintro e w2 ⟨G, H, cv, s, rfl, hg, gj, b2⟩
  have HK2 : Hid (TW w (codeOf t tr) 1 G H cv w2) := tw_open hg gj b2 HB1.out
  clear hg gj b2 HOP HB1
  go_wp2_with fail
  go_loopw [13] (fun iv wr => ∃ i : Nat, i ≤ ops.length ∧ iv = .int .i64 (i : Nat) ∧ Hid (TW w (codeOf t tr) (1 + i) G H cv wr)) (fun iv _ => ops.length - (intOf iv).toNat)
  case atStart => exact ⟨0, by omega, rfl, HK2.out⟩
  case round =>
    clear HK2
    obtain ⟨i, hi, rfl, HA⟩ := hrel
    obtain ⟨hGc, hGc1, hGl, HBK⟩ : wr.cell? ⟨G, 0, none⟩ = some (.pointer (some ⟨H, 0, none⟩)) ∧ wr.cell? ⟨G, 1, none⟩ = some cv ∧ G < wr.heap.size ∧ Hid (Below w.heap.size w wr) := by
      obtain ⟨h, J, calls, kj, hG, _⟩ := HA.out
      exact ⟨(cell_of_heap hG).trans rfl, (cell_of_heap hG).trans rfl, heap_lt hG, kj.back⟩
    by_cases hlt : i < ops.length
    · obtain ⟨rfl, hsw, hcell⟩ := HSC.out (by omega)
      obtain ⟨c0, c1, c2⟩ := hcell i hlt
      have hbk := HBK.out
      have e0 : wr.cell? ⟨sb, soff + i * 3, none⟩ = some (.int .i64 ops[i].k) := (hbk.cell (p := ⟨sb, soff + i * 3, none⟩) hsw).trans c0
      have e1 : wr.cell? ⟨sb, soff + i * 3 + 1, none⟩ = some (.int .i64 ops[i].a) := (hbk.cell (p := ⟨sb, soff + i * 3 + 1, none⟩) hsw).trans c1
      have e2 : wr.cell? ⟨sb, soff + i * 3 + 2, none⟩ = some (.int .i64 ops[i].b) := (hbk.cell (p := ⟨sb, soff + i * 3 + 2, none⟩) hsw).trans c2
      have hsl' : sb < wr.heap.size := Nat.lt_of_lt_of_le hsw hbk.size
      have hrg := HSO.out _ (List.getElem_mem hlt)
      clear c0 c1 c2 hcell hbk
      generalize ops[i] = x at *
      have HP1 := (show Hid _ from tw_play HA.out x.k x.a x.b hrg.1 hrg.2 (by omega) wr.drew (SameH.refl _).drew : Hid (Calls Try.prog 8 #[.pointer (some ⟨H, 0, none⟩), .agg #[.int .i64 x.k, .int .i64 x.a, .int .i64 x.b]] wr.drew _))
      clear hrg
      go_upto_region 7 with fail
      go_region_with (go_at_call 8; with_reducible refine HP1.out.mono ?_; rintro e w6 ⟨⟨v, rfl⟩, ho⟩)
      all_goals
        have HN : Hid (TW w (codeOf t tr) (1 + i + 1) G H cv w6) := ho
        clear ho HP1
        go_wp2_with fail
        go_roundw
        case rel => exact ⟨i + 1, by omega, by go_num, HN.out⟩
        case measure => simp [intOf]; omega
    · obtain ⟨h, J, calls, kj, hG, hi', h1, row, snd⟩ := HA.out
      have HT := (show Hid _ from And.intro kj (And.intro hG (And.intro hi' (And.intro h1 (And.intro row snd)))) : Hid (KJ w.heap.size (codeOf t tr) (1 + i) h J w H (fun k => k = G ∨ cv.ownBlock = some k) wr ∧ _))
      have HJ := (show Hid _ from kj_Journal wr kj : Hid (Calls Try.prog 16 #[.pointer (some ⟨H, 0, none⟩)] wr _))
      obtain ⟨n, hn⟩ : ∃ n, n = calls.length := ⟨_, rfl⟩
      have hjl : (strN J).size = 19 * n := by rw [strN_size, hi'.len, hn]
      have hn1 : 1 ≤ n := by omega
      have hnb : n ≤ 1 + i := by
        have := kj.len
        rw [hi'.len] at this
        omega
      have HN : Hid (n = calls.length) := hn
      clear kj hG hi' h1 row snd hn HA
      obtain ⟨S, hS⟩ : ∃ S, S = strN J := ⟨_, rfl⟩
      rw [← hS] at HJ hjl
      have HS : Hid (S = strN J) := hS
      clear hS
      have b1 : decide (((S.size : Nat) : Int) < 19) = false := decide_eq_false (by omega)
      have b2 : ((S.size : Nat) : Int) % 19 = 0 := by omega
      have b3 : ((S.size : Nat) : Int) / 19 = ((n : Nat) : Int) := by omega
      obtain ⟨q, hq, hqn⟩ := pick_nat which n (by omega)
      have HPK := (show Hid _ from c_pick which (n : Int) wr (by omega) hw.1 hw.2 : Hid (Calls Try.prog 13 #[.int .i64 which, .int .i64 (n : Int)] wr _))
      rw [hq] at HPK
      clear hq
      go_wp2_with fail
      refine HJ.out.mono ?_
      rintro e w3 ⟨rfl, hw3⟩
      rw [hw3]
      clear hw3 HJ
      go_wp2_with fail
      refine HPK.out.mono ?_
      rintro e w4 ⟨rfl, hw4⟩
      rw [hw4]
      clear hw4 HPK
      have hC : q * 19 + 19 ≤ S.size := by omega
      obtain ⟨p, hp, hpn⟩ := pick_nat at' 152 (by omega)
      have HPK2 := (show Hid _ from c_pick at' ((152 : Nat) : Int) wr (by omega) hat.1 hat.2 : Hid (Calls Try.prog 13 #[.int .i64 at', .int .i64 ((152 : Nat) : Int)] wr _))
      rw [hp] at HPK2
      clear hp
      go_wp2_with fail
      refine HPK2.out.mono ?_
      rintro e w5 ⟨rfl, hw5⟩
      rw [hw5]
      clear hw5 HPK2
      have HQC : Hid (q < calls.length) := by have := HN.out; show q < calls.length; omega
      have HEX : Hid (S.extract (q * 19) ((q + 1) * 19) = strN (rec3 (calls[q]'HQC.out))) := by
        show _ = _
        rw [HS.out, strN_extract, show (q + 1) * 19 - q * 19 = 19 by omega, ← HT.out.2.2.1.get q HQC.out]
        rfl
      have HTU := (show Hid _ from x_turned (rec3 (calls[q]'HQC.out)) (recB_lt (HT.out.2.2.1.fine _ (List.getElem_mem HQC.out)).1 _ _) (rec3_len _) p hpn mask wr : Hid (Calls Try.prog 17 #[.string (strN (rec3 (calls[q]'HQC.out))), .int .i64 (p : Nat), .int .i64 mask] wr _))
      rw [← HEX.out] at HTU
      go_wp2_with fail
      refine HTU.out.mono ?_
      rintro e w6 ⟨M, rfl, hM1, hM2, hM3, hb6⟩
      have hM1' := hM1
      obtain ⟨kj, hG, hist, h1, row, snd⟩ := HT.out
      have kj6 := kj.below hb6
      have hG6 := (hb6.block G (heap_lt hG)).trans hG
      have row6 := row_below row hb6
      obtain ⟨ca, ccap, hcv⟩ := own_slice row
      have hGd : w6.cell? ⟨G, 1, none⟩ = some (.slice ca (codeOf t tr).length ccap) := by rw [← hcv]; exact (cell_of_heap hG6).trans rfl
      have hGe : G < w6.heap.size := heap_lt hG6
      have HOP := (show Hid _ from x_Open (cs := codeOf t tr) (B := 0) (ca := ca) (ccap := ccap) (J.take (q * 19) ++ M ++ J.drop ((q + 1) * 19)) (fun x hx => by
        rcases List.mem_append.mp hx with hx | hx
        · rcases List.mem_append.mp hx with hx | hx
          · exact hist.lt x (List.mem_of_mem_take hx)
          · exact hM2 x hx
        · exact hist.lt x (List.mem_of_mem_drop hx)) (by
        have hjl2 := hist.len
        have hnn := HN.out
        rw [List.length_append, List.length_append, List.length_take, List.length_drop, hM1]
        omega) w6.drew w (fun k => k = G) (by rw [← hcv]; exact row_below row6 ((SameH.refl _).drew.below _)) snd (fun k hk => by rw [hk]; exact hGe) (kj6.back.trans ((SameH.refl _).drew.below _)) : Hid (Calls Try.prog 18 #[.slice ca (codeOf t tr).length ccap, .string (strN (J.take (q * 19) ++ M ++ J.drop ((q + 1) * 19)))] w6.drew _))
      have HTO : Hid ((openS (codeOf t tr) (chunks (J.take (q * 19) ++ M ++ J.drop ((q + 1) * 19)) 0 ((J.take (q * 19) ++ M ++ J.drop ((q + 1) * 19)).length / 19)) newH [] 0).2 = (if M = rec3 (calls[q]'HQC.out) then (J, calls.length) else (J.take (q * 19), q))) := hist.torn q HQC.out M hM1 fun hne => torn_none (hist.fine _ (List.getElem_mem HQC.out)).1 _ _ hM2 hM1 p hM3 hne
      have HME : Hid ((strN M = S.extract (q * 19) ((q + 1) * 19)) ↔ M = rec3 (calls[q]'HQC.out)) := by
        rw [HEX.out]
        exact ⟨fun h => strN_inj hM2 (recB_lt (hist.fine _ (List.getElem_mem HQC.out)).1 _ _) h, fun h => by rw [h]⟩
      generalize openS (codeOf t tr) (chunks (J.take (q * 19) ++ M ++ J.drop ((q + 1) * 19)) 0 ((J.take (q * 19) ++ M ++ J.drop ((q + 1) * 19)).length / 19)) newH [] 0 = R at *
      have HXS : Hid ((S.extract 0 (q * 19) ++ strN M) ++ S.extract ((q + 1) * 19) S.size = strN (J.take (q * 19) ++ M ++ J.drop ((q + 1) * 19))) := by
        show _ = _
        rw [HS.out, strN_extract, strN_extract, strN_append, strN_append, strN_size]
        congr 2
        exact List.take_of_length_le (by rw [List.length_drop]; omega)
      have HJT : Hid (∀ k : Nat, strN (J.take k) = S.extract 0 k) := fun k => by
        rw [HS.out, strN_extract]
        rfl
      rw [← HXS.out] at HOP
      have HJL : Hid (J.length = 19 * n) := by have h2 := hist.len; have h3 := HN.out; show J.length = 19 * n; omega
      have HB6 : Hid (Below w.heap.size w w6) := kj6.back
      clear hb6 kj hG hist h1 row snd kj6 hG6 row6 hM1 hM2 hM3 HTU HXS HEX hGc hGc1 hGl hcv
      have hSM : (strN M).size = 19 := by rw [strN_size, hM1']
      generalize strN M = SM at *
      have hD0 : (0 : Int) ≤ (q : Int) * 19 := by omega
      have hD1 : (q : Int) * 19 ≤ ((S.size : Nat) : Int) := by omega
      have hD2 : ((q : Int) + 1) * 19 ≤ ((S.size : Nat) : Int) := by omega
      have hD3 : (0 : Int) ≤ ((q : Int) + 1) * 19 := by omega
      have hD4 : q * 19 ≤ S.size := by omega
      have hD5 : (q + 1) * 19 ≤ S.size := by omega
      have HJZ : Hid (S.size = 19 * n) := hjl
      have hW1 : IntKind.i64.wrap ((q : Int) * 19) = (q : Int) * 19 := by rw [IntKind.wrap_i64]; omega
      have hW2 : IntKind.i64.wrap ((q : Int) + 1) = (q : Int) + 1 := by rw [IntKind.wrap_i64]; omega
      have hW3 : IntKind.i64.wrap (((q : Int) + 1) * 19) = ((q : Int) + 1) * 19 := by rw [IntKind.wrap_i64]; omega
      have hL1 : ¬ 9223372036854775807 < q * 19 + SM.size := by omega
      have hL2 : ¬ 9223372036854775807 < q * 19 + SM.size + (S.size - (q + 1) * 19) := by omega
      clear hSM hM1'
      have hT1 : ((q : Int) * 19).toNat = q * 19 := by omega
      have hT2 : (((q : Int) + 1) * 19).toNat = (q + 1) * 19 := by omega
      go_upto_region 14 with fail
      clear hjl
      go_cut [18, 19, 20] (fun hv nv ev wx => ∃ H' m' : Nat, hv = .pointer (some ⟨H', 0, none⟩) ∧ nv = .int .i64 ((R.2.2 : Nat) : Int) ∧ ev = .int .i64 0 ∧ Hid (KJ w.heap.size (codeOf t tr) m' R.1 R.2.1 w H' (fun k => k = G) wx))
      case first =>
        go_region_with (go_at_call 18; with_reducible refine HOP.out.mono ?_; rintro e w7 ⟨H', m', rfl, _, kj7, _⟩)
        all_goals
          have HK7 : Hid (KJ w.heap.size (codeOf t tr) m' R.1 R.2.1 w H' (fun k => k = G) w7) := kj7
          clear kj7
          go_wp2_with fail
          go_meet
          case rel => exact ⟨H', m', rfl, rfl, rfl, HK7.out⟩
      case rest =>
        clear HOP hGd hGe
        have hjl : S.size = 19 * n := HJZ.out
        obtain ⟨H', m', rfl, rfl, rfl, HK⟩ := hcut
        have HJ2 := (show Hid _ from kj_Journal wc HK.out : Hid (Calls Try.prog 16 #[.pointer (some ⟨H', 0, none⟩)] wc _))
        have HBE : Hid (Below w.heap.size w wc) := HK.out.back
        by_cases hme : M = rec3 (calls[q]'HQC.out)
        · have hR : R.2 = (J, calls.length) := by have := HTO.out; rw [if_pos hme] at this; exact this
          have hR1 : R.2.1 = J := by rw [hR]
          have hR2 : ((R.2.2 : Nat) : Int) = ((n : Nat) : Int) := by rw [hR, HN.out]
          have hsm : SM = S.extract (q * 19) ((q + 1) * 19) := HME.out.mpr hme
          rw [hR1, ← HS.out] at HJ2
          rw [hR2]
          have bsm : (SM.toList == (S.extract (q * 19) ((q + 1) * 19)).toList) = true := by rw [hsm]; simp
          have HSE : Hid (S.extract 0 (n * 19) = S) := by
            have h1 := HJT.out (n * 19)
            show _ = _
            rw [← h1, HS.out, List.take_of_length_le (by have := HJL.out; omega)]
          clear hR hR1 hR2 hsm hme HTO HME
          go_wp2_with fail
          refine HJ2.out.mono ?_
          rintro e w8 ⟨rfl, hw8⟩
          rw [hw8]
          clear hw8
          go_wp2_with fail
          go_ret
          refine ⟨?_, HBE.out⟩
          rw [HSE.out]
          exact ret_bool (by simp)
        · have hR : R.2 = (J.take (q * 19), q) := by have := HTO.out; rw [if_neg hme] at this; exact this
          have hR1 : R.2.1 = J.take (q * 19) := by rw [hR]
          have hR2 : ((R.2.2 : Nat) : Int) = ((q : Nat) : Int) := by rw [hR]
          have hsm : ¬ SM = S.extract (q * 19) ((q + 1) * 19) := fun h => hme (HME.out.mp h)
          rw [hR1, HJT.out] at HJ2
          rw [hR2]
          have bsm : (SM.toList == (S.extract (q * 19) ((q + 1) * 19)).toList) = false := by
            have h2 : ¬ SM.toList = (S.extract (q * 19) ((q + 1) * 19)).toList := fun h => hsm (byteArray_eq (by rw [← ByteArray.toList_eq, ← ByteArray.toList_eq]; exact h))
            simpa using h2
          clear hR hR1 hR2 hsm hme HTO HME
          go_wp2_with fail
          refine HJ2.out.mono ?_
          rintro e w8 ⟨rfl, hw8⟩
          rw [hw8]
          clear hw8
          go_wp2_with fail
          go_ret
          refine ⟨?_, HBE.out⟩
          exact ret_bool (by simp)
end Go.Proofs.Ytmmmnghiegajmab
