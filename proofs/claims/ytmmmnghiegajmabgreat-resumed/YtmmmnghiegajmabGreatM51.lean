import Derived.Test.YtmmmnghiegajmabGreatM50
import Derived.Test.YtmmmnghiegajmabGreatM49
import Derived.Test.YtmmmnghiegajmabGreatM47
import Derived.Test.YtmmmnghiegajmabGreatM22
import Derived.Test.YtmmmnghiegajmabGreatM48
/- The law Resumed is walked. -/
namespace Go.Proofs.YtmmmnghiegajmabGreat
open Go.RowKit Go.Proofs.Herald
theorem ks_len {B : Nat} {cs : List Ins} {m : Nat} {h : Her Pr} {w0 w : World} {H : Nat} {F : Nat → Prop} (g : KS B cs m h w0 H F w) : (∀ d, (h.qs d).length ≤ 4) ∧ h.rs.length ≤ 5 := by
  obtain ⟨i, s, h1, h2, _⟩ := g
  exact ⟨h2.ok.qlen, h2.ok.len⟩
theorem pick_in (x : Int) (n : Nat) (hn : 0 < n) : ∃ i : Nat, pickI x (n : Int) = (i : Int) ∧ i < n := by
  have h := pickI_bound x (n : Int) (by omega)
  exact ⟨(pickI x (n : Int)).toNat, by omega, by omega⟩
theorem hist_one {cs : List Ins} : Hist cs [(84, 0, 0)] (trigH (machE cs) newH 0).2.2 (recB 84 0 0) := by
  have hgo : (playH cs newH (kindOf 84) 0 0).1.2.2 = 0 := by
    show (trigH (machE cs) newH 0).2.1 = 0
    unfold trigH
    rw [if_neg (by decide), if_neg (by decide)]
  have hq : fineC (84, 0, 0) := ⟨by decide, rfl, ⟨by decide, by decide⟩, by decide, by decide⟩
  have h1 := Hist.snoc (cs := cs) (84, 0, 0) Hist.nil hq hgo
  rw [List.nil_append, List.nil_append] at h1
  exact h1
/-- Show, of the first of two. -/
theorem klj_Show {cs : List Ins} {m n : Nat} {hg hf : Her Pr} {Jg Jf : List Nat} {w0 : World} {Hg Hf : Nat} {L : List Bk} (w : World) (h : KLJ cs m n hg Jg hf Jf w0 Hg Hf L w) :
    Calls Tryz.prog 11 #[.pointer (some ⟨Hg, 0, none⟩)] w fun e w' => ∃ (ra qa : Option Addr) (rc qc : Nat), e = .returned (.agg #[.int .i64 hg.now, .slice ra (hg.rs.map pubP).length rc, .slice qa (hg.qs 0 ++ hg.qs 1 ++ hg.qs 2).length qc]) ∧
      Hid (w'.ownsRow 0 99 5 (.slice ra (hg.rs.map pubP).length rc) (hg.rs.map pubP).length (rnsCells (hg.rs.map pubP)) ∧ w'.ownsRow 0 29 4 (.slice qa (hg.qs 0 ++ hg.qs 1 ++ hg.qs 2).length qc) (hg.qs 0 ++ hg.qs 1 ++ hg.qs 2).length (msgsCells (hg.qs 0 ++ hg.qs 1 ++ hg.qs 2)) ∧ ((hg.rs.map pubP).length ≤ 1000 ∧ (hg.qs 0 ++ hg.qs 1 ++ hg.qs 2).length ≤ 1000) ∧ Below w.heap.size w w') := by
  have ks := h.kj.ks
  obtain ⟨hkq, l3⟩ := ks_len ks
  obtain ⟨i0, s0, _, g0, _⟩ := ks
  refine (f_Show Hg cs hg s0.code s0.jr s0.rv s0.qv s0.n w g0.fh (by omega)).mono ?_
  rintro e w' ⟨sv, uv, rfl, h1, h2, h3⟩
  obtain ⟨ra, rc, rfl⟩ := own_slice h1
  obtain ⟨qa, qc, rfl⟩ := own_slice h2
  have el : (hg.rs.map pubP).length = hg.rs.length := List.length_map ..
  have l0 := hkq 0
  have l1 := hkq 1
  have l2 := hkq 2
  refine ⟨ra, qa, rc, qc, by rw [el], by rw [el]; exact own_zero h1, own_zero h2, ⟨by rw [el]; omega, ?_⟩, h3⟩
  simp only [List.length_append]
  omega
set_option maxRecDepth 40000 in
set_option maxHeartbeats 32000000 in
theorem resumed_walk (xs : List Int) (a : Option Addr) (b off cap : Nat) (ops : List OpK) (sa : Option Addr) (sb soff scap : Nat) (cut : Int) (pps : List OpK) (ta : Option Addr) (tb toff tcap : Nat) (w : World) (hx : IntsIn w a b off xs) (hr : ∀ x ∈ xs, -9223372036854775808 ≤ x ∧ x ≤ 9223372036854775807) (hl : xs.length ≤ 1048576) (hsc : OpsIn w sa sb soff ops) (hso : ∀ x ∈ ops, rangeO x) (hsl : ops.length ≤ 1048576) (hc : -9223372036854775808 ≤ cut ∧ cut ≤ 9223372036854775807)
    (htc : OpsIn w ta tb toff pps) (htl : ops.length + pps.length ≤ 1048576) :
    Calls Tryz.prog 3 #[.slice a xs.length cap, .slice sa ops.length scap, .int .i64 cut, .slice ta pps.length tcap] w fun e w' => e = .returned (.bool true) ∧ Below w.heap.size w w' := by
  have HSP : Hid (∀ W, Below w.heap.size w W → Calls Tryz.prog 5 #[.slice a xs.length cap] W fun e w' => ∃ s : ByteArray, e = .returned (.string s) ∧ s.data.toList = sp (spT 3 true (vsAt xs 0) 330).1 ∧ Below W.heap.size W w') := fun W hb => c_Spelt xs a b off cap W (fun hp => by
    obtain ⟨h1, h2, h3⟩ := hx hp
    exact ⟨h1, Nat.lt_of_lt_of_le h2 hb.size, fun i hi => (hb.cell (p := ⟨b, off + i, none⟩) h2).trans (h3 i hi)⟩) hr (by omega)
  have HSC : Hid (OpsIn w sa sb soff ops ∧ OpsIn w ta tb toff pps) := ⟨hsc, htc⟩
  have HSO : Hid (∀ x ∈ ops, rangeO x) := hso
  clear hx hr hsc hso htc
  go_enter Tryz.func3, Tryz.ntmps3
  go_wp2_with fail
  refine (HSP.out w (Below.refl _ _)).mono ?_
  rintro e w1 ⟨t, rfl, ht, b1⟩
  obtain ⟨hz, tr, hT⟩ := spelt_text ht
  have HOP : Hid (∀ W, Calls Tryz.prog 4 #[.string t] W _) := fun W => opened_J hz hT W
  have HTX : Hid (t.data.toList = sp (spT 3 true (vsAt xs 0) 330).1 ∧ soundL (codeOf t tr) = true) := ⟨ht, hT.sound hz⟩
  have HB1 : Hid (Below w.heap.size w w1) := b1
  clear hz hT ht b1
  go_wp2_with fail
  refine (HOP.out _).mono ?_
  rintro e w2 ⟨G1, H1, cv1, s1, rfl, hg1, gj1, b2⟩
  have HG1 := (show Hid _ from And.intro hg1 (And.intro gj1 b2) : Hid (Game w1.heap.size (codeOf t tr) 1 (trigH (machE (codeOf t tr)) newH 0).2.2 w2 G1 H1 cv1 s1 ∧ GJ (codeOf t tr) 1 (trigH (machE (codeOf t tr)) newH 0).2.2 (recB 84 0 0) w2 H1 s1 ∧ Below w1.heap.size w1 w2))
  have HS2 := (show Hid _ from HSP.out w2 (HB1.out.trans (b2.mono HB1.out.size)) : Hid (Calls Tryz.prog 5 #[.slice a xs.length cap] w2 _))
  clear hg1 gj1 b2 HSP
  go_wp2_with fail
  refine HS2.out.mono ?_
  rintro e w3 ⟨t', rfl, ht', b3⟩
  obtain rfl : t' = t := byteArray_eq (by rw [ht', HTX.out.1])
  have HB3 : Hid (Below w2.heap.size w2 w3) := b3
  clear ht' b3 HS2
  go_wp2_with fail
  refine (HOP.out _).mono ?_
  rintro e w4 ⟨G2, H2, cv2, s2, rfl, hg2, gj2, b4⟩
  obtain ⟨Lc, klc, hrow, hne⟩ := klj_two HG1.out.1 HG1.out.2.1 HG1.out.2.2 HB3.out hg2 gj2 b4 HB1.out
  have hist : Hist (codeOf t' tr) [(84, 0, 0)] (trigH (machE (codeOf t' tr)) newH 0).2.2 (recB 84 0 0) := hist_one
  generalize (trigH (machE (codeOf t' tr)) newH 0).2.2 = h1 at *
  generalize hJ1 : recB 84 0 0 = J1 at *
  obtain ⟨s0, hs0⟩ : ∃ s0 : Her Pr × List Nat × List (Nat × Int × Int), s0 = (h1, J1, [(84, 0, 0)]) := ⟨_, rfl⟩
  have HIST : Hid (Hist (codeOf t' tr) s0.2.2 s0.1 s0.2.1 ∧ s0.2.2.length = 1) := by rw [hs0]; exact ⟨hist, rfl⟩
  have HK4 : Hid (KLJ (codeOf t' tr) 1 1 s0.1 s0.2.1 s0.1 s0.2.1 w H1 H2 (gmBk G1 H1 cv1 :: gmBk G2 H2 cv2 :: Lc) w4) := by rw [hs0]; exact klc
  have HROW := (show Hid _ from And.intro hrow hne : Hid ((∀ w' : World, (∀ x ∈ Lc, w'.heap[x.at']? = some (.cells x.cs x.ty (0, 0))) → w'.ownsRow 0 117 4 cv1 (codeOf t' tr).length (codeCells (codeOf t' tr))) ∧ _))
  clear hg2 gj2 b4 HG1 HB3 HB1 HOP klc hrow hne hist hs0 hJ1
  go_wp2_with fail
  generalize hcs : codeOf t' tr = cs at *
  clear hcs
  go_loopw [12, 13] (fun dv iv wr => ∃ i : Nat, i ≤ ops.length ∧ iv = .int .i64 (i : Nat) ∧ dv = .int .i64 (((scr cs ops s0 i).2.2.length : Nat) : Int) ∧ Hid (KLJ cs (1 + i) 1 (scr cs ops s0 i).1 (scr cs ops s0 i).2.1 s0.1 s0.2.1 w H1 H2 (gmBk G1 H1 cv1 :: gmBk G2 H2 cv2 :: Lc) wr)) (fun _ iv _ => ops.length - (intOf iv).toNat)
  case atStart => exact ⟨0, by omega, rfl, by rw [show (scr cs ops s0 0).2.2.length = 1 from HIST.out.2]; rfl, HK4.out⟩
  case round =>
    clear HK4
    obtain ⟨i, hi, rfl, rfl, HKL⟩ := hrel
    obtain ⟨hGc, hGv, hGf, hGl⟩ := HKL.out.game (G := G1) (H := H1) (cv := cv1) (by simp)
    have hdb : (scr cs ops s0 i).2.2.length ≤ 1 + i := by
      have h2 := HKL.out.kj.len
      rw [(HIST.out.1.scr HSO.out i hi).len] at h2
      omega
    by_cases hlt : i < ops.length
    · obtain ⟨rfl, hsw, hcell⟩ := HSC.out.1 (by omega)
      obtain ⟨c0, c1, c2⟩ := hcell i hlt
      have hbk := HKL.out.back
      have e0 : wr.cell? ⟨sb, soff + i * 3, none⟩ = some (.int .i64 ops[i].k) := (hbk.cell (p := ⟨sb, soff + i * 3, none⟩) hsw).trans c0
      have e1 : wr.cell? ⟨sb, soff + i * 3 + 1, none⟩ = some (.int .i64 ops[i].a) := (hbk.cell (p := ⟨sb, soff + i * 3 + 1, none⟩) hsw).trans c1
      have e2 : wr.cell? ⟨sb, soff + i * 3 + 2, none⟩ = some (.int .i64 ops[i].b) := (hbk.cell (p := ⟨sb, soff + i * 3 + 2, none⟩) hsw).trans c2
      have hsl' : sb < wr.heap.size := Nat.lt_of_lt_of_le hsw hbk.size
      clear c0 c1 c2 hcell hbk
      have HSU : Hid (scr cs ops s0 (i + 1) = stepS cs (scr cs ops s0 i) ops[i]) := scr_succ hlt
      generalize ops[i] = x at *
      generalize scr cs ops s0 i = S at *
      have HP1 := (show Hid _ from klj_play HKL.out x.k x.a x.b (by omega) wr.drew (SameH.refl _).drew : Hid (Calls Tryz.prog 6 #[.pointer (some ⟨H1, 0, none⟩), .agg #[.int .i64 x.k, .int .i64 x.a, .int .i64 x.b]] wr.drew _))
      have HP2 := (show Hid _ from klj_play2 HKL.out x.k x.a x.b (by omega) (wr.alloc (.cells #[.int .i64 0, .int .i64 0, .int .i64 0, .int .i64 0, .int .i64 0, .int .i64 0] 32)).drew (SameH.refl _).drew : Hid (Calls Tryz.prog 6 #[.pointer (some ⟨H1, 0, none⟩), .agg #[.int .i64 x.k, .int .i64 x.a, .int .i64 x.b]] (wr.alloc (.cells #[.int .i64 0, .int .i64 0, .int .i64 0, .int .i64 0, .int .i64 0, .int .i64 0] 32)).drew _))
      have HST : Hid (scr cs ops s0 (i + 1) = ((playH cs S.1 x.k x.a x.b).2, playJ cs S.1 S.2.1 x.k x.a x.b, if (playH cs S.1 x.k x.a x.b).1.2.2 = 0 then S.2.2 ++ [callOf x] else S.2.2)) := HSU.out
      generalize playH cs S.1 x.k x.a x.b = P at *
      generalize playJ cs S.1 S.2.1 x.k x.a x.b = J' at *
      clear HSU HKL
      go_upto_region 9 with fail
      go_cut [14] (fun y wx => ∃ Y : Nat, y = .pointer (some ⟨Y, 0, none⟩) ∧ Hid (KLJ cs (1 + i + 1) 1 P.2 J' s0.1 s0.2.1 w H1 H2 (anBk Y P.1 :: (gmBk G1 H1 cv1 :: gmBk G2 H2 cv2 :: Lc)) wx))
      case first =>
        go_region_with (go_at_call 6; first | (with_reducible refine HP1.out.mono ?_; rintro e w6 ⟨rfl, ho⟩) | (with_reducible refine HP2.out.mono ?_; rintro e w6 ⟨rfl, hz, ho⟩; obtain ⟨⟨r0, r1, r2, r3, r4, r5⟩, ⟨f0, f1, f2, f3, f4, f5⟩, hRl⟩ := cells_of6 hz))
        all_goals
          go_wp2_with fail
          go_meet
          case rel =>
            first
              | exact ⟨_, rfl, ho _ _ _ _ _ _⟩
              | exact ⟨_, rfl, ho.new _ _⟩
      case rest =>
        clear HP1 HP2 hGc hGv hGf hGl e0 e1 e2 hsl'
        obtain ⟨Y, rfl, HY⟩ := hcut
        obtain ⟨⟨y0, y1, y2, y3, y4, y5⟩, hYl⟩ := HY.out.ans (Y := Y) (P := P.1) (by simp)
        by_cases he : P.1.2.2 = 0
        · have be : (P.1.2.2 == 0) = true := by simpa using he
          have HS1 : Hid (scr cs ops s0 (i + 1) = (P.2, J', S.2.2 ++ [callOf x])) := by have := HST.out; rw [if_pos he] at this; exact this
          clear he HST
          go_wp2_with fail
          go_roundw
          case rel => exact ⟨i + 1, by omega, by go_num, by rw [HS1.out, List.length_append]; go_num, by rw [HS1.out]; exact (HY.out.sub fun y hy => List.mem_cons_of_mem _ hy).le (by omega) (by omega)⟩
          case measure => simp [intOf]; omega
        · have be : (P.1.2.2 == 0) = false := by simpa using he
          have HS1 : Hid (scr cs ops s0 (i + 1) = (P.2, J', S.2.2)) := by have := HST.out; rw [if_neg he] at this; exact this
          clear he HST
          go_wp2_with fail
          go_roundw
          case rel => exact ⟨i + 1, by omega, by go_num, by rw [HS1.out], by rw [HS1.out]; exact (HY.out.sub fun y hy => List.mem_cons_of_mem _ hy).le (by omega) (by omega)⟩
          case measure => simp [intOf]; omega
    · obtain rfl : i = ops.length := by omega
      have HHG : Hid (Hist cs (scr cs ops s0 ops.length).2.2 (scr cs ops s0 ops.length).1 (scr cs ops s0 ops.length).2.1) := HIST.out.1.scr HSO.out _ (Nat.le_refl _)
      obtain ⟨SG, hSG⟩ : ∃ SG, SG = scr cs ops s0 ops.length := ⟨_, rfl⟩
      rw [← hSG] at HKL HHG hdb ⊢
      have HSG : Hid (SG = scr cs ops s0 ops.length) := hSG
      clear hSG
      have HJ := (show Hid _ from kj_Journal wr HKL.out.kj : Hid (Calls Tryz.prog 7 #[.pointer (some ⟨H1, 0, none⟩)] wr _))
      obtain ⟨ng, hng⟩ : ∃ ng, ng = SG.2.2.length := ⟨_, rfl⟩
      have hjl : (strN SG.2.1).size = 19 * ng := by rw [strN_size, HHG.out.len, hng]
      rw [← hng] at hdb ⊢
      have HNG : Hid (ng = SG.2.2.length) := hng
      clear hng
      obtain ⟨S, hS⟩ : ∃ S, S = strN SG.2.1 := ⟨_, rfl⟩
      rw [← hS] at HJ hjl
      have HS : Hid (S = strN SG.2.1) := hS
      clear hS
      have b1 : (((S.size : Nat) : Int) != ((ng : Nat) : Int) * 19) = false := by
        have h1 : ((S.size : Nat) : Int) = ((ng : Nat) : Int) * 19 := by omega
        simpa using h1
      obtain ⟨c, hcq, hcn⟩ := pick_in cut (19 * ng + 1) (by omega)
      have hce : ((19 * ng + 1 : Nat) : Int) = 19 * ((ng : Nat) : Int) + 1 := by push_cast; rfl
      rw [hce] at hcq
      have HPK := (show Hid _ from c_pick cut (19 * ((ng : Nat) : Int) + 1) wr (by omega) hc.1 hc.2 : Hid (Calls Tryz.prog 8 #[.int .i64 cut, .int .i64 (19 * ((ng : Nat) : Int) + 1)] wr _))
      rw [hcq] at HPK
      clear hce
      clear hcq
      go_wp2_with fail
      refine HJ.out.mono ?_
      rintro e w5 ⟨rfl, hw5⟩
      rw [hw5]
      clear hw5 HJ
      go_wp2_with fail
      refine HPK.out.mono ?_
      rintro e w5 ⟨rfl, hw5⟩
      rw [hw5]
      clear hw5 HPK
      obtain ⟨ca, ccap, hcv⟩ := own_slice (HROW.out.1 wr fun x hx => (HKL.out.blk x (List.mem_cons_of_mem _ (List.mem_cons_of_mem _ hx))).1)
      subst hcv
      have HJL : Hid (SG.2.1.length = 19 * ng) := by have h2 := HHG.out.len; have h3 := HNG.out; show SG.2.1.length = 19 * ng; omega
      obtain ⟨h', hist', hop⟩ := HHG.out.cut c (by have := HJL.out; omega)
      have HTK : Hid (∀ k : Nat, strN (SG.2.1.take k) = S.extract 0 k) := fun k => by
        rw [HS.out, strN_extract]
        rfl
      have HOP := (show Hid _ from klj_Open HKL.out (SG.2.1.take c) (fun x hx => HHG.out.lt x (List.mem_of_mem_take hx)) (by have := HJL.out; rw [List.length_take]; omega) (HROW.out.1 wr fun x hx => (HKL.out.blk x (List.mem_cons_of_mem _ (List.mem_cons_of_mem _ hx))).1) HTX.out.2 : Hid (Calls Tryz.prog 9 #[.slice ca cs.length ccap, .string (strN (SG.2.1.take c))] wr _))
      rw [hop, HTK.out] at HOP
      have HH' : Hid (Hist cs (SG.2.2.take (c / 19)) h' (SG.2.1.take (c / 19 * 19))) := hist'
      clear hop hist'
      have hcs2 : (S.extract 0 c).size = c := by rw [← HTK.out, strN_size, List.length_take]; have := HJL.out; omega
      have HEX : Hid ((S.extract 0 c).extract 0 (c / 19 * 19) = strN (SG.2.1.take (c / 19 * 19))) := by
        show _ = _
        rw [← HTK.out, strN_extract, List.drop_zero, List.take_take, Nat.sub_zero, Nat.min_eq_left (by omega)]
      obtain ⟨S2, hS2⟩ : ∃ S2, S2 = S.extract 0 c := ⟨_, rfl⟩
      rw [← hS2] at HOP hcs2 HEX
      have HS2 : Hid (S2 = S.extract 0 c) := hS2
      obtain ⟨n, hn⟩ : ∃ n, n = c / 19 := ⟨_, rfl⟩
      rw [← hn] at HOP HEX HH'
      have hnn : ((c : Nat) : Int) / 19 = ((n : Nat) : Int) := by omega
      have hnc : n * 19 ≤ c := by omega
      have hng : n ≤ ng := by omega
      obtain ⟨JN, hJN⟩ : ∃ JN, JN = SG.2.1.take (n * 19) := ⟨_, rfl⟩
      rw [← hJN] at HOP HEX HH'
      have HJN : Hid (JN = SG.2.1.take (n * 19)) := hJN
      clear hJN hn
      clear hGc hGv hGf hGl
      obtain ⟨hGc, hGv, hGf, hGl⟩ := HKL.out.game (G := G1) (H := H1) (cv := .slice ca cs.length ccap) (by simp)
      go_upto_region 16 with fail
      rw [← hS2]
      clear hS2
      go_wp2_with fail
      refine HOP.out.mono ?_
      rintro e w6 ⟨H3, m3, rfl, hm3, kl6⟩
      have HK6 : Hid (KLJ cs m3 1 h' JN s0.1 s0.2.1 w H3 H2 (gmBk G1 H1 (.slice ca cs.length ccap) :: gmBk G2 H2 cv2 :: Lc) w6) := kl6
      have HM3 : Hid (m3 ≤ ng) := by have := HJL.out; rw [List.length_take] at hm3; show m3 ≤ ng; omega
      have HJ6 := (show Hid _ from kj_Journal w6 kl6.kj : Hid (Calls Tryz.prog 7 #[.pointer (some ⟨H3, 0, none⟩)] w6 _))
      clear kl6 hm3 HOP hGc hGv hGf hGl HKL
      obtain ⟨hGc, hGv, hGf, hGl⟩ := HK6.out.game (G := G1) (H := H1) (cv := .slice ca cs.length ccap) (by simp)
      obtain ⟨hFc, hFv, hFf, hFl⟩ := HK6.out.game (G := G2) (H := H2) (cv := cv2) (by simp)
      rw [← HEX.out] at HJ6
      have hD1 : (n : Int) * 19 ≤ ((S2.size : Nat) : Int) := by omega
      go_wp2_with fail
      refine HJ6.out.mono ?_
      rintro e w7 ⟨rfl, hw7⟩
      rw [hw7]
      clear hw7 HJ6
      have HN1 : Hid (n = 0 → newH = h' ∧ [] = JN) := fun h0 => by
        have h2 := HH'.out
        rw [h0, List.take_zero] at h2
        exact Hist.nil.det h2
      have HDB : Hid (ng ≤ 1 + ops.length) := hdb
      go_upto_if 117 with fail
      clear HEX hD1 hcs2 hcn hjl b1 hdb
      go_cut [18] (fun _ wx => ∃ (H4 : Nat) (hf : Her Pr) (Jf : List Nat), Hid ((n = 0 ∧ hf = h' ∧ Jf = JN) ∨ (n ≠ 0 ∧ hf = s0.1 ∧ Jf = s0.2.1)) ∧ Hid (KLJ cs m3 1 h' JN hf Jf w H3 H4 (gmBk G2 H4 cv2 :: gmBk G1 H1 (.slice ca cs.length ccap) :: Lc) wx))
      case first =>
        by_cases hn0 : n = 0
        · have bn0 : (((n : Nat) : Int) == 0) = true := by simp [hn0]
          have HN0 : Hid (n = 0) := hn0
          clear hn0
          have HNW := (show Hid _ from klj_New HK6.out (HROW.out.1 w6 fun x hx => (HK6.out.blk x (List.mem_cons_of_mem _ (List.mem_cons_of_mem _ hx))).1) HTX.out.2 : Hid (Calls Tryz.prog 10 #[.slice ca cs.length ccap] w6 _))
          go_wp2_with fail
          refine HNW.out.mono ?_
          rintro e w8 ⟨H4, rfl, k8⟩
          have HK8 : Hid (KLJ cs m3 0 h' JN newH [] w H3 H4 (gmBk G1 H1 (.slice ca cs.length ccap) :: gmBk G2 H2 cv2 :: Lc) w8) := k8
          clear k8 HNW hGc hGv hGf hGl hFc hFv hFf hFl
          obtain ⟨hFc, hFv, hFf, hFl⟩ := HK8.out.game (G := G2) (H := H2) (cv := cv2) (by simp)
          go_wp2_with fail
          go_meet
          case rel =>
            refine ⟨H4, newH, [], .inl ⟨HN0.out, HN1.out HN0.out⟩, ?_⟩
            have h8 := HK8.out.sub (L' := gmBk G2 H2 cv2 :: gmBk G1 H1 (.slice ca cs.length ccap) :: Lc) (fun x hx => by
              rcases List.mem_cons.mp hx with rfl | hx
              · exact List.mem_cons_of_mem _ (List.mem_cons_self ..)
              · rcases List.mem_cons.mp hx with rfl | hx
                · exact List.mem_cons_self ..
                · exact List.mem_cons_of_mem _ (List.mem_cons_of_mem _ hx))
            have h9 : w8.heap[G2]? = some (.cells #[.pointer (some ⟨H2, 0, none⟩), cv2] 37 (0, 0)) := (h8.blk _ (List.mem_cons_self ..)).1
            refine (KLJ.put (X := G2) (c := #[.pointer (some ⟨H2, 0, none⟩), cv2]) (c' := #[.pointer (some ⟨H4, 0, none⟩), cv2]) h8 ((Fr.refl (fun k => k = G2) w8).setCell ⟨G2, 0, none⟩ (.inl rfl) (.pointer (some ⟨H4, 0, none⟩))) ?_ ?_).le (Nat.le_refl _) (by omega)
            · rw [heap_setCell_self _ h9]
              rfl
            · exact HROW.out.2
        · have bn0 : (((n : Nat) : Int) == 0) = false := by simp [hn0]
          go_wp2_with fail
          go_meet
          case rel =>
            refine ⟨H2, s0.1, s0.2.1, .inr ⟨hn0, rfl, rfl⟩, HK6.out.sub fun x hx => ?_⟩
            rcases List.mem_cons.mp hx with rfl | hx
            · exact List.mem_cons_of_mem _ (List.mem_cons_self ..)
            · rcases List.mem_cons.mp hx with rfl | hx
              · exact List.mem_cons_self ..
              · exact List.mem_cons_of_mem _ (List.mem_cons_of_mem _ hx)
      case rest =>
        clear hGc hGv hGf hGl hFc hFv hFf hFl HK6 HN1 HROW HTX
        obtain ⟨H4, hf0, Jf0, HAL, HK6⟩ := hcut
        go_wp2_with fail
        go_loopw [12, 20] (fun dv iv wr => ∃ (i : Nat) (hf : Her Pr) (Jf : List Nat), i ≤ ops.length ∧ iv = .int .i64 (i : Nat) ∧ dv = .int .i64 (((scr cs ops s0 i).2.2.length : Nat) : Int) ∧ Hid ((n = 0 ∧ hf = h' ∧ Jf = JN ∧ i = 0) ∨ (n ≠ 0 ∧ hf = (scr cs ops s0 i).1 ∧ Jf = (scr cs ops s0 i).2.1 ∧ (scr cs ops s0 i).2.2.length ≤ n)) ∧ Hid (KLJ cs m3 (1 + i) h' JN hf Jf w H3 H4 (gmBk G2 H4 cv2 :: gmBk G1 H1 (.slice ca cs.length ccap) :: Lc) wr)) (fun _ iv _ => ops.length - (intOf iv).toNat)
        case atStart =>
          refine ⟨0, hf0, Jf0, by omega, rfl, by rw [show (scr cs ops s0 0).2.2.length = 1 from HIST.out.2]; rfl, ?_, HK6.out⟩
          rcases HAL.out with ⟨h0, h1, h2⟩ | ⟨h0, h1, h2⟩
          · exact .inl ⟨h0, h1, h2, rfl⟩
          · exact .inr ⟨h0, h1, h2, by rw [show (scr cs ops s0 0).2.2.length = 1 from HIST.out.2]; omega⟩
        case round =>
          clear HAL HK6
          obtain ⟨i, hf, Jf, hi, rfl, rfl, HAL, HKL⟩ := hrel
          obtain ⟨hFc, hFv, hFf, hFl⟩ := HKL.out.game (G := G2) (H := H4) (cv := cv2) (by simp)
          by_cases hlt : i < ops.length ∧ (scr cs ops s0 i).2.2.length < n
          · obtain ⟨hlt, hdl⟩ := hlt
            obtain ⟨rfl, rfl⟩ : hf = (scr cs ops s0 i).1 ∧ Jf = (scr cs ops s0 i).2.1 := by
              rcases HAL.out with ⟨h0, _⟩ | ⟨_, h1, h2, _⟩
              · omega
              · exact ⟨h1, h2⟩
            have hn0 : n ≠ 0 := by omega
            have hsn : (scr cs ops s0 i).2.2.length ≤ 1048576 := by have := HDB.out; omega
            clear HAL
            obtain ⟨rfl, hsw, hcell⟩ := HSC.out.1 (by omega)
            obtain ⟨c0, c1, c2⟩ := hcell i hlt
            have hbk := HKL.out.back
            have e0 : wr.cell? ⟨sb, soff + i * 3, none⟩ = some (.int .i64 ops[i].k) := (hbk.cell (p := ⟨sb, soff + i * 3, none⟩) hsw).trans c0
            have e1 : wr.cell? ⟨sb, soff + i * 3 + 1, none⟩ = some (.int .i64 ops[i].a) := (hbk.cell (p := ⟨sb, soff + i * 3 + 1, none⟩) hsw).trans c1
            have e2 : wr.cell? ⟨sb, soff + i * 3 + 2, none⟩ = some (.int .i64 ops[i].b) := (hbk.cell (p := ⟨sb, soff + i * 3 + 2, none⟩) hsw).trans c2
            have hsl' : sb < wr.heap.size := Nat.lt_of_lt_of_le hsw hbk.size
            clear c0 c1 c2 hcell hbk
            have HSU : Hid (scr cs ops s0 (i + 1) = stepS cs (scr cs ops s0 i) ops[i]) := scr_succ hlt
            generalize ops[i] = x at *
            generalize scr cs ops s0 i = S at *
            have HP1 := (show Hid _ from klj_play HKL.out.swap x.k x.a x.b (by omega) wr.drew (SameH.refl _).drew : Hid (Calls Tryz.prog 6 #[.pointer (some ⟨H4, 0, none⟩), .agg #[.int .i64 x.k, .int .i64 x.a, .int .i64 x.b]] wr.drew _))
            have HP2 := (show Hid _ from klj_play2 HKL.out.swap x.k x.a x.b (by omega) (wr.alloc (.cells #[.int .i64 0, .int .i64 0, .int .i64 0, .int .i64 0, .int .i64 0, .int .i64 0] 32)).drew (SameH.refl _).drew : Hid (Calls Tryz.prog 6 #[.pointer (some ⟨H4, 0, none⟩), .agg #[.int .i64 x.k, .int .i64 x.a, .int .i64 x.b]] (wr.alloc (.cells #[.int .i64 0, .int .i64 0, .int .i64 0, .int .i64 0, .int .i64 0, .int .i64 0] 32)).drew _))
            have HST : Hid (scr cs ops s0 (i + 1) = ((playH cs S.1 x.k x.a x.b).2, playJ cs S.1 S.2.1 x.k x.a x.b, if (playH cs S.1 x.k x.a x.b).1.2.2 = 0 then S.2.2 ++ [callOf x] else S.2.2)) := HSU.out
            generalize playH cs S.1 x.k x.a x.b = P at *
            generalize playJ cs S.1 S.2.1 x.k x.a x.b = J' at *
            clear HSU HKL
            go_upto_region 30 with fail
            go_cut [21] (fun y wx => ∃ Y : Nat, y = .pointer (some ⟨Y, 0, none⟩) ∧ Hid (KLJ cs (1 + i + 1) m3 P.2 J' h' JN w H4 H3 (anBk Y P.1 :: (gmBk G2 H4 cv2 :: gmBk G1 H1 (.slice ca cs.length ccap) :: Lc)) wx))
            case first =>
              go_region_with (go_at_call 6; first | (with_reducible refine HP1.out.mono ?_; rintro e w6 ⟨rfl, ho⟩) | (with_reducible refine HP2.out.mono ?_; rintro e w6 ⟨rfl, hz, ho⟩; obtain ⟨⟨r0, r1, r2, r3, r4, r5⟩, ⟨f0, f1, f2, f3, f4, f5⟩, hRl⟩ := cells_of6 hz))
              all_goals
                go_wp2_with fail
                go_meet
                case rel =>
                  first
                    | exact ⟨_, rfl, ho _ _ _ _ _ _⟩
                    | exact ⟨_, rfl, ho.new _ _⟩
            case rest =>
              clear HP1 HP2 hFc hFv hFf hFl e0 e1 e2 hsl'
              obtain ⟨Y, rfl, HY⟩ := hcut
              obtain ⟨⟨y0, y1, y2, y3, y4, y5⟩, hYl⟩ := HY.out.ans (Y := Y) (P := P.1) (by simp)
              by_cases he : P.1.2.2 = 0
              · have be : (P.1.2.2 == 0) = true := by simpa using he
                have HS1 : Hid (scr cs ops s0 (i + 1) = (P.2, J', S.2.2 ++ [callOf x])) := by have := HST.out; rw [if_pos he] at this; exact this
                clear he HST
                go_wp2_with fail
                go_roundw
                case rel => exact ⟨i + 1, P.2, J', by omega, by go_num, by rw [HS1.out, List.length_append]; go_num, .inr ⟨hn0, by rw [HS1.out], by rw [HS1.out], by rw [HS1.out, List.length_append, List.length_singleton]; omega⟩, ((HY.out.sub fun y hy => List.mem_cons_of_mem _ hy).le (by omega) (by omega)).swap⟩
                case measure => simp [intOf]; omega
              · have be : (P.1.2.2 == 0) = false := by simpa using he
                have HS1 : Hid (scr cs ops s0 (i + 1) = (P.2, J', S.2.2)) := by have := HST.out; rw [if_neg he] at this; exact this
                clear he HST
                go_wp2_with fail
                go_roundw
                case rel => exact ⟨i + 1, P.2, J', by omega, by go_num, by rw [HS1.out], .inr ⟨hn0, by rw [HS1.out], by rw [HS1.out], by rw [HS1.out]; show S.2.2.length ≤ n; omega⟩, ((HY.out.sub fun y hy => List.mem_cons_of_mem _ hy).le (by omega) (by omega)).swap⟩
                case measure => simp [intOf]; omega
          · have HHE : Hid (hf = h' ∧ Jf = JN) := by
              rcases HAL.out with ⟨_, h1, h2, _⟩ | ⟨_, h1, h2, h3⟩
              · exact ⟨h1, h2⟩
              · have hdone : (scr cs ops s0 i).2.2.length = n := by
                  by_cases hie : i < ops.length
                  · omega
                  · obtain rfl : i = ops.length := by omega
                    have h2 := HNG.out
                    rw [HSG.out] at h2
                    omega
                obtain ⟨q1, q2⟩ := scr_head HIST.out.1 HSO.out i hi n hdone (by have h2 := HH'.out; rw [HJN.out, HSG.out] at h2; exact h2)
                exact ⟨h1.trans q1, (h2.trans q2).trans (by rw [HJN.out, HSG.out])⟩
            have HKE : Hid (KLJ cs m3 (1 + i) h' JN h' JN w H3 H4 (gmBk G2 H4 cv2 :: gmBk G1 H1 (.slice ca cs.length ccap) :: Lc) wr) := by
              have h2 := HKL.out
              rw [HHE.out.1, HHE.out.2] at h2
              exact h2
            have hnl : i < ops.length → ¬ (scr cs ops s0 i).2.2.length < n := fun h1 h2 => hlt ⟨h1, h2⟩
            clear HHE HAL hlt
            obtain ⟨B0, hB0⟩ : ∃ B0, B0 = 1 + i := ⟨_, rfl⟩
            rw [← hB0] at HKE
            have hB1 : B0 ≤ 1 + ops.length := by omega
            have hm3 : m3 ≤ 1 + ops.length := by have h2 := HM3.out; have h3 := HDB.out; omega
            clear HKL hB0
            go_upto_region 28 with fail
            go_cut [146] (fun c wx => c = .bool false ∧ wx = wr)
            case first =>
              by_cases hie : i < ops.length
              · have hnl2 := hnl hie
                go_wp2_with fail
                go_meet
                case rel => exact ⟨rfl, rfl⟩
              · go_wp2_with fail
                go_meet
                case rel => exact ⟨rfl, rfl⟩
            case rest =>
              obtain ⟨rfl, rfl⟩ := hcut
              go_wp2_with fail
              go_loopw [22] (fun iv wr => ∃ (i : Nat) (hq : Her Pr) (Jq : List Nat), i ≤ pps.length ∧ iv = .int .i64 (i : Nat) ∧ Hid (KLJ cs (m3 + i) (B0 + i) hq Jq hq Jq w H3 H4 (gmBk G2 H4 cv2 :: gmBk G1 H1 (.slice ca cs.length ccap) :: Lc) wr)) (fun iv _ => pps.length - (intOf iv).toNat)
              case atStart => exact ⟨0, h', JN, by omega, rfl, HKE.out⟩
              case round =>
                clear HKE hFc hFv hFf hFl
                obtain ⟨i, hq, Jq, hi, rfl, HKL⟩ := hrel
                obtain ⟨hFc, hFv, hFf, hFl⟩ := HKL.out.game (G := G2) (H := H4) (cv := cv2) (by simp)
                by_cases hlt : i < pps.length
                · obtain ⟨rfl, hsw, hcell⟩ := HSC.out.2 (by omega)
                  obtain ⟨c0, c1, c2⟩ := hcell i hlt
                  have HCL : Hid (∀ W, Below w.heap.size w W → W.cell? ⟨tb, toff + i * 3, none⟩ = some (.int .i64 pps[i].k) ∧ W.cell? ⟨tb, toff + i * 3 + 1, none⟩ = some (.int .i64 pps[i].a) ∧ W.cell? ⟨tb, toff + i * 3 + 2, none⟩ = some (.int .i64 pps[i].b) ∧ tb < W.heap.size) := fun W hb => ⟨(hb.cell (p := ⟨tb, toff + i * 3, none⟩) hsw).trans c0, (hb.cell (p := ⟨tb, toff + i * 3 + 1, none⟩) hsw).trans c1, (hb.cell (p := ⟨tb, toff + i * 3 + 2, none⟩) hsw).trans c2, Nat.lt_of_lt_of_le hsw hb.size⟩
                  obtain ⟨e0, e1, e2, hsl'⟩ := HCL.out _ HKL.out.back
                  clear c0 c1 c2 hcell
                  generalize pps[i] = x at *
                  have HP0 := (show Hid _ from klj_play HKL.out x.k x.a x.b (by omega) wr (SameH.refl _) : Hid (Calls Tryz.prog 6 #[.pointer (some ⟨H3, 0, none⟩), .agg #[.int .i64 x.k, .int .i64 x.a, .int .i64 x.b]] wr _))
                  obtain ⟨P, hP⟩ : ∃ P, P = playH cs hq x.k x.a x.b := ⟨_, rfl⟩
                  obtain ⟨J', hJ'⟩ : ∃ J', J' = playJ cs hq Jq x.k x.a x.b := ⟨_, rfl⟩
                  rw [← hP, ← hJ'] at HP0
                  have HPE : Hid (P = playH cs hq x.k x.a x.b ∧ J' = playJ cs hq Jq x.k x.a x.b) := ⟨hP, hJ'⟩
                  clear hP hJ'
                  go_wp2_with fail
                  refine HP0.out.mono ?_
                  rintro e w8 ⟨rfl, k8⟩
                  have HV : Hid (KLJ cs (m3 + i + 1) (B0 + i) P.2 J' hq Jq w H3 H4 (anBk w8.heap.size P.1 :: (gmBk G2 H4 cv2 :: gmBk G1 H1 (.slice ca cs.length ccap) :: Lc)) (w8.alloc (.cells #[.int .i64 P.1.1, .int .i64 P.1.2.1.dev, .int .i64 P.1.2.1.run, .int .i64 P.1.2.1.num, .int .i64 P.1.2.1.key, .int .i64 P.1.2.2] 32))) := k8.new _ _
                  clear k8 HP0 hFc hFv hFf hFl e0 e1 e2 hsl' HKL
                  go_upto_region 37 with fail
                  generalize w8.alloc (.cells #[.int .i64 P.1.1, .int .i64 P.1.2.1.dev, .int .i64 P.1.2.1.run, .int .i64 P.1.2.1.num, .int .i64 P.1.2.1.key, .int .i64 P.1.2.2] 32) = V at *
                  obtain ⟨Y, hY⟩ : ∃ Y, Y = w8.heap.size := ⟨_, rfl⟩
                  rw [← hY] at HV ⊢
                  clear hY
                  obtain ⟨hFc, hFv, hFf, hFl⟩ := HV.out.game (G := G2) (H := H4) (cv := cv2) (by simp)
                  obtain ⟨e0, e1, e2, hsl'⟩ := HCL.out _ HV.out.back
                  have HP1 := (show Hid _ from klj_play HV.out.swap x.k x.a x.b (by omega) V.drew (SameH.refl _).drew : Hid (Calls Tryz.prog 6 #[.pointer (some ⟨H4, 0, none⟩), .agg #[.int .i64 x.k, .int .i64 x.a, .int .i64 x.b]] V.drew _))
                  have HP2 := (show Hid _ from klj_play2 HV.out.swap x.k x.a x.b (by omega) (V.alloc (.cells #[.int .i64 0, .int .i64 0, .int .i64 0, .int .i64 0, .int .i64 0, .int .i64 0] 32)).drew (SameH.refl _).drew : Hid (Calls Tryz.prog 6 #[.pointer (some ⟨H4, 0, none⟩), .agg #[.int .i64 x.k, .int .i64 x.a, .int .i64 x.b]] (V.alloc (.cells #[.int .i64 0, .int .i64 0, .int .i64 0, .int .i64 0, .int .i64 0, .int .i64 0] 32)).drew _))
                  rw [← HPE.out.1, ← HPE.out.2] at HP1 HP2
                  go_cut [24] (fun y wx => ∃ Zb : Nat, y = .pointer (some ⟨Zb, 0, none⟩) ∧ Hid (KLJ cs (B0 + i + 1) (m3 + i + 1) P.2 J' P.2 J' w H4 H3 (anBk Zb P.1 :: anBk Y P.1 :: (gmBk G2 H4 cv2 :: gmBk G1 H1 (.slice ca cs.length ccap) :: Lc)) wx))
                  case first =>
                    go_region_with (go_at_call 6; first | (with_reducible refine HP1.out.mono ?_; rintro e w6 ⟨rfl, ho⟩) | (with_reducible refine HP2.out.mono ?_; rintro e w6 ⟨rfl, hz, ho⟩; obtain ⟨⟨r0, r1, r2, r3, r4, r5⟩, ⟨f0, f1, f2, f3, f4, f5⟩, hRl⟩ := cells_of6 hz))
                    all_goals
                      go_wp2_with fail
                      go_meet
                      case rel =>
                        first
                          | exact ⟨_, rfl, ho _ _ _ _ _ _⟩
                          | exact ⟨_, rfl, ho.new _ _⟩
                  case rest =>
                    clear HP1 HP2 HV hFc hFv hFf hFl e0 e1 e2 hsl'
                    obtain ⟨Zb, rfl, HZ⟩ := hcut
                    obtain ⟨⟨y0, y1, y2, y3, y4, y5⟩, hYl⟩ := HZ.out.ans (Y := Y) (P := P.1) (by simp)
                    obtain ⟨⟨z0, z1, z2, z3, z4, z5⟩, hZl⟩ := HZ.out.ans (Y := Zb) (P := P.1) (by simp)
                    go_wp2_with fail
                    go_roundw
                    case rel => exact ⟨i + 1, P.2, J', by omega, by go_num, (HZ.out.swap.sub fun y hy => List.mem_cons_of_mem _ (List.mem_cons_of_mem _ hy)).le (by omega) (by omega)⟩
                    case measure => simp [intOf]; omega
                · obtain ⟨NW, RS, QS, HSH⟩ : ∃ (NW : Int) (RS : List Rn) (QS : List Msg), Hid (∀ (m n : Nat) (hf : Her Pr) (Jf : List Nat) (Hg Hf : Nat) (L : List Bk) (W : World), KLJ cs m n hq Jq hf Jf w Hg Hf L W → Calls Tryz.prog 11 #[.pointer (some ⟨Hg, 0, none⟩)] W fun e w' => ∃ (ra qa : Option Addr) (rc qc : Nat), e = .returned (.agg #[.int .i64 NW, .slice ra RS.length rc, .slice qa QS.length qc]) ∧ Hid (w'.ownsRow 0 99 5 (.slice ra RS.length rc) RS.length (rnsCells RS) ∧ w'.ownsRow 0 29 4 (.slice qa QS.length qc) QS.length (msgsCells QS) ∧ (RS.length ≤ 1000 ∧ QS.length ≤ 1000) ∧ Below W.heap.size W w')) := ⟨hq.now, hq.rs.map pubP, hq.qs 0 ++ hq.qs 1 ++ hq.qs 2, fun m n hf Jf Hg Hf L W h => klj_Show W h⟩
                  clear hFc hFv hFf hFl
                  go_wp2_with fail
                  refine (HSH.out _ _ _ _ _ _ _ _ HKL.out).mono ?_
                  rintro e w5 ⟨ra1, qa1, rc1, qc1, rfl, HS1⟩
                  obtain ⟨S1, hS1⟩ : ∃ S1, S1 = w5.heap.size := ⟨_, rfl⟩
                  have HK5 : Hid (KLJ cs (m3 + i) (B0 + i) hq Jq hq Jq w H3 H4 (⟨S1, #[.int .i64 NW, .slice ra1 RS.length rc1, .slice qa1 QS.length qc1], 49⟩ :: gmBk G2 H4 cv2 :: gmBk G1 H1 (.slice ca cs.length ccap) :: Lc) (w5.alloc (.cells #[.int .i64 NW, .slice ra1 RS.length rc1, .slice qa1 QS.length qc1] 49))) := by
                    rw [hS1]
                    exact (HKL.out.below HS1.out.2.2.2).new _ _
                  have HR5 : Hid ((w5.alloc (.cells #[.int .i64 NW, .slice ra1 RS.length rc1, .slice qa1 QS.length qc1] 49)).ownsRow 0 99 5 (.slice ra1 RS.length rc1) RS.length (rnsCells RS) ∧ (w5.alloc (.cells #[.int .i64 NW, .slice ra1 RS.length rc1, .slice qa1 QS.length qc1] 49)).ownsRow 0 29 4 (.slice qa1 QS.length qc1) QS.length (msgsCells QS)) := ⟨row_below HS1.out.1 ((Below.refl _ _).alloc (Nat.le_refl _) _), row_below HS1.out.2.1 ((Below.refl _ _).alloc (Nat.le_refl _) _)⟩
                  have HLE : Hid (RS.length ≤ 1000 ∧ QS.length ≤ 1000) := HS1.out.2.2.1
                  clear HKL
                  go_upto_region 41 with fail
                  rw [← hS1]
                  generalize w5.alloc (.cells #[.int .i64 NW, .slice ra1 RS.length rc1, .slice qa1 QS.length qc1] 49) = W5 at *
                  clear hS1 HS1
                  obtain ⟨hFc, hFv, hFf, hFl⟩ := HK5.out.game (G := G2) (H := H4) (cv := cv2) (by simp)
                  go_wp2_with fail
                  refine (HSH.out _ _ _ _ _ _ _ _ HK5.out.swap).mono ?_
                  rintro e w6' ⟨ra2, qa2, rc2, qc2, rfl, HS2⟩
                  obtain ⟨S2', hS2⟩ : ∃ S2', S2' = w6'.heap.size := ⟨_, rfl⟩
                  have HK6 : Hid (KLJ cs (B0 + i) (m3 + i) hq Jq hq Jq w H4 H3 (⟨S2', #[.int .i64 NW, .slice ra2 RS.length rc2, .slice qa2 QS.length qc2], 49⟩ :: ⟨S1, #[.int .i64 NW, .slice ra1 RS.length rc1, .slice qa1 QS.length qc1], 49⟩ :: gmBk G2 H4 cv2 :: gmBk G1 H1 (.slice ca cs.length ccap) :: Lc) (w6'.alloc (.cells #[.int .i64 NW, .slice ra2 RS.length rc2, .slice qa2 QS.length qc2] 49))) := by
                    rw [hS2]
                    exact (HK5.out.swap.below HS2.out.2.2.2).new _ _
                  have HR6 : Hid (((w6'.alloc (.cells #[.int .i64 NW, .slice ra2 RS.length rc2, .slice qa2 QS.length qc2] 49)).ownsRow 0 99 5 (.slice ra2 RS.length rc2) RS.length (rnsCells RS) ∧ (w6'.alloc (.cells #[.int .i64 NW, .slice ra2 RS.length rc2, .slice qa2 QS.length qc2] 49)).ownsRow 0 29 4 (.slice qa2 QS.length qc2) QS.length (msgsCells QS)) ∧ (w6'.alloc (.cells #[.int .i64 NW, .slice ra2 RS.length rc2, .slice qa2 QS.length qc2] 49)).ownsRow 0 99 5 (.slice ra1 RS.length rc1) RS.length (rnsCells RS) ∧ (w6'.alloc (.cells #[.int .i64 NW, .slice ra2 RS.length rc2, .slice qa2 QS.length qc2] 49)).ownsRow 0 29 4 (.slice qa1 QS.length qc1) QS.length (msgsCells QS)) := by
                    have hb : Below w6'.heap.size w6' (w6'.alloc (.cells #[.int .i64 NW, .slice ra2 RS.length rc2, .slice qa2 QS.length qc2] 49)) := (Below.refl _ _).alloc (Nat.le_refl _) _
                    exact ⟨⟨row_below HS2.out.1 hb, row_below HS2.out.2.1 hb⟩, row_below (row_below HR5.out.1 HS2.out.2.2.2) hb, row_below (row_below HR5.out.2 HS2.out.2.2.2) hb⟩
                  clear HSH hFc hFv hFf hFl
                  go_upto_region 42 with fail
                  rw [← hS2]
                  generalize w6'.alloc (.cells #[.int .i64 NW, .slice ra2 RS.length rc2, .slice qa2 QS.length qc2] 49) = W6 at *
                  clear hS2 HS2 HK5 HR5
                  obtain ⟨a0, a1, a2, hA⟩ := cells_of3 (HK6.out.blk ⟨S1, #[.int .i64 NW, .slice ra1 RS.length rc1, .slice qa1 QS.length qc1], 49⟩ (by simp)).1
                  obtain ⟨b0, b1, b2, hB⟩ := cells_of3 (HK6.out.blk ⟨S2', #[.int .i64 NW, .slice ra2 RS.length rc2, .slice qa2 QS.length qc2], 49⟩ (by simp)).1
                  have HSS := (show Hid _ from k_sameState NW RS QS ra1 ra2 rc1 rc2 qa1 qa2 qc1 qc2 W6 HR6.out.2.1 HR6.out.1.1 (by have := HLE.out.1; omega) HR6.out.2.2 HR6.out.1.2 (by have := HLE.out.2; omega) : Hid (Calls Tryz.prog 12 #[.agg #[.int .i64 NW, .slice ra1 RS.length rc1, .slice qa1 QS.length qc1], .agg #[.int .i64 NW, .slice ra2 RS.length rc2, .slice qa2 QS.length qc2]] W6 _))
                  clear HR6 HLE
                  go_wp2_with fail
                  refine HSS.out.mono ?_
                  rintro e w9 ⟨rfl, hb9⟩
                  have HK9 : Hid (KLJ cs (B0 + i) (m3 + i) hq Jq hq Jq w H4 H3 (gmBk G2 H4 cv2 :: gmBk G1 H1 (.slice ca cs.length ccap) :: Lc) w9) := (HK6.out.below hb9).sub fun x hx => List.mem_cons_of_mem _ (List.mem_cons_of_mem _ hx)
                  clear hb9 HSS HK6 a0 a1 a2 hA b0 b1 b2 hB
                  obtain ⟨hFc, hFv, hFf, hFl⟩ := HK9.out.game (G := G2) (H := H4) (cv := cv2) (by simp)
                  have HJ8 := (show Hid _ from kj_Journal w9 HK9.out.swap.kj : Hid (Calls Tryz.prog 7 #[.pointer (some ⟨H3, 0, none⟩)] w9 _))
                  have HJ9 := (show Hid _ from kj_Journal w9 HK9.out.kj : Hid (Calls Tryz.prog 7 #[.pointer (some ⟨H4, 0, none⟩)] w9 _))
                  have HBK : Hid (Below w.heap.size w w9) := HK9.out.back
                  clear HK9
                  generalize strN Jq = JS at *
                  go_wp2_with fail
                  refine HJ8.out.mono ?_
                  rintro e w10 ⟨rfl, hw⟩
                  rw [hw]
                  clear hw HJ8
                  go_wp2_with fail
                  refine HJ9.out.mono ?_
                  rintro e w11 ⟨rfl, hw⟩
                  rw [hw]
                  clear hw HJ9
                  go_wp2_with fail
                  go_ret
                  exact ⟨rfl, HBK.out⟩
end Go.Proofs.YtmmmnghiegajmabGreat
