import Derived.Test.YtmmmnghiegajmaaM01
import Derived.Test.YtmmmnghiegajmaaM04
import Derived.Test.YtmmmnghiegajmaaM05
import Derived.Test.YtmmmnghiegajmaaM06
import Derived.Test.YtmmmnghiegajmaaM07
import Derived.Test.YtmmmnghiegajmaaM08
import Derived.Test.YtmmmnghiegajmaaM09
import Derived.Test.YtmmmnghiegajmaaM10
import Derived.Test.YtmmmnghiegajmaaM11
import Derived.Test.YtmmmnghiegajmaaM12
import Derived.Test.YtmmmnghiegajmaaM15
import Derived.Test.YtmmmnghiegajmaaM19
import Derived.Test.YtmmmnghiegajmaaM21
import Derived.Test.YtmmmnghiegajmaaM23
import Derived.Test.YtmmmnghiegajmaaM24
import Derived.Test.YtmmmnghiegajmaaM25
import Derived.Test.YtmmmnghiegajmaaM26
import Derived.Test.YtmmmnghiegajmaaM27
import Derived.Test.YtmmmnghiegajmaaM28
import Derived.Test.YtmmmnghiegajmaaM29
import Derived.Test.YtmmmnghiegajmaaM32
import Derived.Test.YtmmmnghiegajmaaM33
import Derived.Test.YtmmmnghiegajmaaM34
import Derived.Test.YtmmmnghiegajmaaT01
import Derived.Test.YtmmmnghiegajmaaT03
import Derived.Test.YtmmmnghiegajmaaT04
import Derived.Test.YtmmmnghiegajmaaT05
namespace Go.Proofs.Ytmmmnghiegajmaa
open Go.RowKit Go.Proofs.Herald
/-- The numbers of the first forty steps. -/
def timVs (xs : List Int) : List Nat := (xs.take 40).map pickN
theorem timVs_len (xs : List Int) : (timVs xs).length = min 40 xs.length := by unfold timVs; simp
theorem timVs_get {xs : List Int} {i : Nat} (h : i < (timVs xs).length) : ∃ hx : i < xs.length, (timVs xs)[i] = pickN xs[i] ∧ i < 40 := by
  have h1 := timVs_len xs
  refine ⟨by omega, ?_, by omega⟩
  simp only [timVs, List.getElem_map, List.getElem_take]
theorem take_flat (vs : List Nat) (i : Nat) (hi : i < vs.length) : (vs.take (i + 1)).flatMap timW = (vs.take i).flatMap timW ++ timW vs[i] := by
  rw [← List.take_append_getElem hi, List.flatMap_append]
  simp
theorem lputL_len (n key : Int) : ∀ (l l' : List (Int × Int)), lputL n key l = some l' → l'.length = l.length := by
  intro l
  induction l with
  | nil => intro l' h; cases h
  | cons x r ih =>
    intro l' h
    rw [lputL] at h
    split at h
    · cases h; rfl
    · cases hr : lputL n key r with
      | none => rw [hr] at h; cases h
      | some r' =>
        rw [hr] at h
        cases h
        simp [ih r' hr]
theorem lsend_len (l : List (Int × Int)) (sent key : Int) (h : l.length ≤ 4) : (lsend l sent key).1.length ≤ 4 ∧ sent ≤ (lsend l sent key).2 ∧ (lsend l sent key).2 ≤ sent + 1 := by
  unfold lsend
  cases hp : lputL (sent + 1) key l with
  | some l' =>
    have := lputL_len _ _ _ _ hp
    exact ⟨by show l'.length ≤ 4; omega, by show sent ≤ sent + 1; omega, by show sent + 1 ≤ sent + 1; omega⟩
  | none =>
    simp only
    split
    · exact ⟨by simp; omega, by show sent ≤ sent + 1; omega, by show sent + 1 ≤ sent + 1; omega⟩
    · exact ⟨h, by show sent ≤ sent; omega, by show sent ≤ sent + 1; omega⟩
theorem LG.back {B : Nat} {cs : List Ins} {m : Nat} {h : Her Pr} {w0 : World} {H L : Nat} {l : List (Int × Int)} {sent : Int} {w : World} (g : LG B cs m h w0 H L l sent w) : Below B w0 w := by
  obtain ⟨s, _, h2, _⟩ := g
  exact h2.back
theorem LG.lt {B : Nat} {cs : List Ins} {m : Nat} {h : Her Pr} {w0 : World} {H L : Nat} {l : List (Int × Int)} {sent : Int} {w : World} (g : LG B cs m h w0 H L l sent w) : L < w.heap.size := by
  obtain ⟨s, h1, _⟩ := g
  exact heap_lt h1.blk
theorem lg_tick {B : Nat} {cs : List Ins} {m : Nat} {h : Her Pr} {w0 : World} {H L : Nat} {l : List (Int × Int)} {sent : Int} (n : Int) (w : World) (g : LG B cs m h w0 H L l sent w) (hm : m ≤ 1000000) :
    Calls Try.prog 33 #[.pointer (some ⟨H, 0, none⟩), .int .i64 n] w fun e w' => e = .returned (.int .i64 (tickH (machE cs) h n).1) ∧ LG B cs (m + 1) (tickH (machE cs) h n).2 w0 H L l sent w' := by
  obtain ⟨s, g1, g2, g3⟩ := g
  exact (ks_Tick n w g2 (by omega)).mono fun e w' hh => ⟨hh.1, s, g1.keep hh.2.2, hh.2.1, g3⟩
/-- Show, and the look at what it tells: a run that waits, or none. -/
theorem lg_look {B : Nat} {cs : List Ins} {m : Nat} {w0 : World} {H L dv : Nat} {l : List (Int × Int)} {sent now til : Int} {rs : List Pr} (hd : dv ≤ 2) (w : World) (g : LG B cs m (oneH dv now 1 (lineQ dv l) rs) w0 H L l sent w) (hl : l.length ≤ 4) (hc : (til ≤ now ∧ rs = []) ∨ (now < til ∧ rs.map pubP = [⟨1, (dv : Nat), sent, til, 0⟩])) :
    Calls Try.prog 30 #[.pointer (some ⟨H, 0, none⟩)] w fun e w' => ∃ ra rn rc ua uc, e = .returned (.agg #[.int .i64 now, .slice ra rn rc, .slice ua l.length uc]) ∧ LG B cs m (oneH dv now 1 (lineQ dv l) rs) w0 H L l sent w' ∧ ∀ W, Below w'.heap.size w' W →
      Calls Try.prog 31 #[.pointer (some ⟨L, 0, none⟩), .agg #[.int .i64 now, .slice ra rn rc, .slice ua l.length uc], .int .i64 (dv : Nat), .int .i64 now, .int .i64 til] W fun e w'' => e = .returned (.bool true) ∧ LG B cs m (oneH dv now 1 (lineQ dv l) rs) w0 H L l sent w'' := by
  obtain ⟨s, g1, g2, g3⟩ := g
  refine (ks_Show w g2).mono ?_
  rintro e w' ⟨sv, uv, rfl, hsv, huv, b'⟩
  have hrs : (oneH dv now 1 (lineQ dv l) rs).rs = rs := rfl
  have hnow : (oneH dv now 1 (lineQ dv l) rs).now = now := rfl
  have hq : (lineQ dv l).length = l.length := by unfold lineQ; rw [List.length_map]
  rw [hrs] at hsv
  rw [one_show hd, hq] at huv
  have hlen : rs.length = (rs.map pubP).length := by rw [List.length_map]
  rw [hlen] at hsv
  obtain ⟨ra, rc, rfl⟩ := ownsRow_slice hsv
  obtain ⟨ua, uc, rfl⟩ := ownsRow_slice huv
  refine ⟨ra, _, rc, ua, uc, by rw [hnow], ⟨s, g1.keep fun k hk => b'.block k (g1.lt hk), g2.below b', g3⟩, fun W hb => ?_⟩
  have hbW : Below w.heap.size w W := b'.trans (hb.mono b'.size)
  have hbk : ∀ k, k < w'.heap.size → W.heap[k]? = w'.heap[k]? := fun k hk => hb.block k hk
  refine (c_like L dv l sent now til s (rs.map pubP) ra ua rc uc w.heap.size w.heap.size W (g1.keep fun k hk => hbW.block k (g1.lt hk)) hl (own_stays hsv fun k hk => hbk k (by obtain ⟨_, cur, hc⟩ := ownsRow_lies hsv hk; exact heap_lt hc)) (own_stays huv fun k hk => hbk k (by obtain ⟨_, cur, hc⟩ := ownsRow_lies huv hk; exact heap_lt hc)) (by
    rcases hc with ⟨h1, h2⟩ | ⟨h1, h2⟩
    · exact .inl ⟨h1, by rw [h2]; rfl⟩
    · exact .inr ⟨h1, h2⟩)).mono ?_
  rintro e w'' ⟨rfl, b''⟩
  have hbw : Below w.heap.size w w'' := hbW.trans (b''.mono hbW.size)
  exact ⟨rfl, s, g1.keep fun k hk => hbw.block k (g1.lt hk), g2.below hbw, g3⟩
set_option maxRecDepth 40000 in
set_option maxHeartbeats 16000000 in
theorem timeline_walk (xs : List Int) (a : Option Addr) (b off cap : Nat) (dev : Int) (ys : List Int) (ya : Option Addr) (yb yoff ycap : Nat) (w : World) (hx : IntsIn w a b off xs) (hr : ∀ x ∈ xs, -9223372036854775808 ≤ x ∧ x ≤ 9223372036854775807) (hl : xs.length ≤ 17592186044416) (d1 : -9223372036854775808 ≤ dev) (d2 : dev ≤ 9223372036854775807)
    (hy : IntsIn w ya yb yoff ys) (hyr : ∀ x ∈ ys, -9223372036854775808 ≤ x ∧ x ≤ 9223372036854775807) (hyl : ys.length ≤ 17592186044416) :
    Calls Try.prog 8 #[.slice a xs.length cap, .int .i64 dev, .slice ya ys.length ycap] w fun e w' => e = .returned (.bool true) ∧ Below w.heap.size w w' := by
  obtain ⟨p1, p2⟩ := pickI_bound dev 3 (by omega)
  obtain ⟨D, hD⟩ : ∃ D : Nat, pickI dev 3 = (D : Nat) := ⟨(pickI dev 3).toNat, by omega⟩
  have hD2 : D ≤ 2 := by omega
  have HDV : Hid (∀ W, Calls Try.prog 23 #[.int .i64 dev, .int .i64 3] W fun e w' => e = .returned (.int .i64 (D : Nat)) ∧ w' = W) := fun W => by
    have h := c_pick dev 3 W (by omega) d1 d2
    rw [hD] at h
    exact h
  have HX : Hid (IntsIn w a b off xs ∧ (∀ x ∈ xs, -9223372036854775808 ≤ x ∧ x ≤ 9223372036854775807) ∧ IntsIn w ya yb yoff ys ∧ (∀ x ∈ ys, -9223372036854775808 ≤ x ∧ x ≤ 9223372036854775807)) := ⟨hx, hr, hy, hyr⟩
  have hvl := timVs_len xs
  obtain ⟨vs, hvs⟩ : ∃ vs, vs = timVs xs := ⟨_, rfl⟩
  rw [← hvs] at hvl
  have HV : Hid (vs = timVs xs) := hvs
  have hv40 : vs.length ≤ 40 := by omega
  have hvx : vs.length ≤ xs.length := by omega
  have hvm : ¬ vs.length < xs.length ∨ ¬ vs.length < 40 := by omega
  -- what the step i says
  have HST : Hid (∀ i (hi : i < vs.length) W, Below w.heap.size w W → ∃ x, a = some ⟨b, off, none⟩ ∧ b < W.heap.size ∧ W.cell? ⟨b, off + i, none⟩ = some (.int .i64 x) ∧ i < xs.length ∧ i < 40 ∧ vs[i] < 1099511627776 ∧ ∀ W', Calls Try.prog 23 #[.int .i64 x, .int .i64 1099511627776] W' fun e w' => e = .returned (.int .i64 (vs[i] : Nat)) ∧ w' = W') := fun i hi W hb => by
    have hi' : i < (timVs xs).length := by rw [← HV.out]; exact hi
    obtain ⟨h1, h2, h3⟩ := timVs_get hi'
    obtain ⟨g1, g2, g3⟩ := HX.out.1 (by omega)
    have e : vs[i] = pickN xs[i] := by rw [← h2]; congr 1
    obtain ⟨r1, r2⟩ := HX.out.2.1 xs[i] (List.getElem_mem h1)
    refine ⟨xs[i], g1, Nat.lt_of_lt_of_le g2 hb.size, (hb.cell (p := ⟨b, off + i, none⟩) g2).trans (g3 i h1), h1, h3, by rw [e]; exact pickN_lt _, fun W' => ?_⟩
    have h4 := c_pick xs[i] 1099511627776 W' (by omega) r1 r2
    rw [pickN_eq] at h4
    rw [e]
    exact h4
  clear hx hr hy hyr hvs hvl p1 p2 hD d1 d2
  go_enter Try.func8, Try.ntmps8
  go_wp2_with fail
  refine (HDV.out _).mono ?_
  rintro e w1 ⟨rfl, rfl⟩
  clear HDV
  go_wp2_with fail
  go_loopw [8, 9] (fun tv iv wr => ∃ (t : ByteArray) (i : Nat), i ≤ vs.length ∧ tv = .string t ∧ iv = .int .i64 (i : Nat) ∧ t.size = 7 * i ∧ Hid (t.data.toList = sp ((vs.take i).flatMap timW)) ∧ Hid (Below w1.heap.size w1 wr)) (fun _ iv _ => vs.length - (intOf iv).toNat)
  case atStart => exact ⟨⟨#[]⟩, 0, by omega, rfl, rfl, rfl, (by show _ = _; rfl), Below.refl _ _⟩
  case round =>
    obtain ⟨t, i, hi, rfl, rfl, hts, HT, HB⟩ := hrel
    by_cases hlt : i < vs.length
    · obtain ⟨x, ha, hbl, hc, hix, hi40, hv2, hpk⟩ := HST.out i hlt wr HB.out
      have HPK : Hid (∀ W', Calls Try.prog 23 #[.int .i64 x, .int .i64 1099511627776] W' fun e w' => e = .returned (.int .i64 (vs[i] : Nat)) ∧ w' = W') := hpk
      have HTK : Hid ((vs.take (i + 1)).flatMap timW = (vs.take i).flatMap timW ++ timW vs[i]) := take_flat vs i hlt
      clear hpk
      obtain ⟨v, hv⟩ : ∃ v, v = vs[i] := ⟨_, rfl⟩
      rw [← hv] at HPK HTK hv2
      clear hv
      subst ha
      go_wp2_with fail
      refine (HPK.out _).mono ?_
      rintro e w2 ⟨rfl, rfl⟩
      by_cases he : v % 2 = 0
      · have hei : (v : Int) % 2 = 0 := by omega
        have HLT : Hid (∀ W, Calls Try.prog 24 #[.int .i64 ((v : Int) / 2)] W fun e w' => ∃ s : ByteArray, e = .returned (.string s) ∧ s.data.toList = letterB (v / 2) ∧ Below W.heap.size W w') := fun W => by
          have h := c_letter ((v : Int) / 2) W (by omega) (by omega)
          have e : (pickI ((v : Int) / 2) 8).toNat = v / 2 % 8 := by
            unfold pickI
            rw [if_neg (by omega)]
            omega
          rw [e, ← letter_mod] at h
          exact h
        go_wp2_with fail
        refine (HLT.out _).mono ?_
        rintro e w3 ⟨kb, rfl, hk, b3⟩
        have zk : kb.size = 1 := by rw [bytes_len hk]; rfl
        have HO : Hid (kb.data.toList = letterB (v / 2) ∧ Below w1.heap.size w1 w3) := ⟨hk, HB.out.trans (b3.mono HB.out.size)⟩
        clear hk b3 HLT HPK
        go_wp2_with fail
        go_roundw
        case rel =>
          refine ⟨_, i + 1, by omega, rfl, by go_num, ?_, ?_, HO.out.2⟩
          · simp only [ByteArray.size_append, zk, hts]
            show 7 * i + 5 + 1 + 1 = _
            omega
          · show _ = _
            rw [HTK.out, sp_append]
            have e1 : timW v = [kSend, letterB (v / 2)] := if_pos he
            rw [e1]
            simp only [ByteArray.data_append, Array.toList_append, HT.out, HO.out.1, List.append_assoc]
            congr 1
        case measure => simp [intOf]; omega
      · have hei : ((v : Int) % 2 == 0) = false := by simp; omega
        have HDG : Hid (∀ W, Calls Try.prog 25 #[.int .i64 (1 + (v : Int) / 2 % 9)] W fun e w' => ∃ s : ByteArray, e = .returned (.string s) ∧ s.data.toList = digitsB (1 + v / 2 % 9) ∧ Below W.heap.size W w') := fun W => digits_int _ (1 + v / 2 % 9) (by omega) (by omega) W
        go_wp2_with fail
        refine (HDG.out _).mono ?_
        rintro e w3 ⟨kb, rfl, hk, b3⟩
        have zk : kb.size = 1 := by rw [bytes_len hk]; exact dig1 (by omega)
        have HO : Hid (kb.data.toList = digitsB (1 + v / 2 % 9) ∧ Below w1.heap.size w1 w3) := ⟨hk, HB.out.trans (b3.mono HB.out.size)⟩
        clear hk b3 HDG HPK
        go_wp2_with fail
        go_roundw
        case rel =>
          refine ⟨_, i + 1, by omega, rfl, by go_num, ?_, ?_, HO.out.2⟩
          · simp only [ByteArray.size_append, zk, hts]
            show 7 * i + 5 + 1 + 1 = _
            omega
          · show _ = _
            rw [HTK.out, sp_append]
            have e1 : timW v = [kWait, digitsB (1 + v / 2 % 9)] := if_neg he
            rw [e1]
            simp only [ByteArray.data_append, Array.toList_append, HT.out, HO.out.1, List.append_assoc]
            congr 1
            simp [sp, kWait]
        case measure => simp [intOf]; omega
    · have hin : i = vs.length := by omega
      have HTX : Hid (t.data.toList = sp (vs.flatMap timW)) := by
        have h := HT.out
        rw [hin, List.take_length] at h
        exact h
      obtain ⟨hsz, tr, hok, hcode⟩ := tim_text hv40 HTX.out
      have HCP : Hid (∀ W, Calls Try.prog 26 #[.string t] W fun e w' => ∃ sv, e = .returned (.tuple #[sv, .int .i64 0, .int .i64 0]) ∧ w'.ownsRow W.heap.size 128 4 sv (vs.map timI).length (codeCells (vs.map timI)) ∧ Below W.heap.size W w') := fun W => by
        have h := c_Compile_ok t hsz tr hok W
        rw [hcode] at h
        exact h
      have HSN : Hid (soundL (vs.map timI) = true) := by
        have h := hok.sound hsz
        rw [hcode] at h
        exact h
      have hvm2 : ¬ i < xs.length ∨ (i < xs.length ∧ ¬ i < 40) := by omega
      clear hin hsz hok hcode HT HTX hts hi hlt
      rcases hvm2 with hA | ⟨hA, hA2⟩
      all_goals
        go_wp2_with fail
        refine (HCP.out _).mono ?_
        rintro e w2 ⟨sv, rfl, hsv, b2⟩
        obtain ⟨ga, gc, rfl⟩ := ownsRow_slice hsv
        have HNW : Hid (Calls Try.prog 27 #[.slice ga (vs.map timI).length gc] w2 fun e w' => ∃ H v, e = .returned (.tuple #[.pointer (some ⟨H, 0, none⟩), .int .i64 0]) ∧ w2.heap.size ≤ H ∧ w'.heap[H]? = some (.cells (newHd v) 150 (0, 0)) ∧ w'.ownsRow w2.heap.size 128 4 v (vs.map timI).length (codeCells (vs.map timI)) ∧ Below w2.heap.size w2 w') := c_New_any hsv HSN.out
        have HB2 : Hid (Below w1.heap.size w1 w2) := HB.out.trans (b2.mono HB.out.size)
        generalize hcl : (vs.map timI).length = CL at HNW
        clear hsv b2 HCP
        go_wp2_with fail
        refine HNW.out.mono ?_
        rintro e w3 ⟨H, cv, rfl, hH, hgH, hvo, b3⟩
        have HTR : Hid (Calls Try.prog 28 #[.pointer (some ⟨H, 0, none⟩), .int .i64 (D : Nat)] w3 fun e w' => e = .returned (.tuple #[.int .i64 1, .int .i64 0]) ∧ KS w1.heap.size (vs.map timI) 1 (timH vs D 0 0 0 0 []) w1 H (fun _ => False) w') := by
          have z2 := HB2.out.size
          have z3 := b3.size
          rw [← hcl] at hvo
          have k3 : KS w1.heap.size (vs.map timI) 0 newH w1 H (fun _ => False) w3 := by
            refine ⟨0, _, Nat.le_refl _, GA.new HSN.out hgH (own0 hvo), fun k hk => ⟨?_, fun h => h⟩, fun k hk => hk.elim, HB2.out.trans (b3.mono z2), by omega⟩
            rcases hk with (hk | ⟨d, _, hk⟩ | hk) | hk | hk
            · omega
            · cases hk
            · cases hk
            · cases hk
            · have := (ownsRow_lies hvo hk).1
              omega
          have h := ks_Trigger (D : Nat) w3 k3 (by omega)
          rw [tim_first vs D hD2 hv40] at h
          exact h.mono fun e w' hh => ⟨hh.1, hh.2.1⟩
        clear hH hgH hvo b3 HNW
        go_wp2_with fail
        refine HTR.out.mono ?_
        rintro e w4 ⟨rfl, k4⟩
        have HLG : Hid (LG w1.heap.size (vs.map timI) 1 (timH vs D 0 0 0 0 []) w1 H w4.heap.size [] 0 (w4.alloc (.cells #[.slice none 0 0, .slice none 0 0, .int .i64 0] 63))) := by
          have hb := k4.B
          refine ⟨⟨none, 0, 0, 0, none, 0, 0, 0⟩, ⟨heap_alloc_new _ _, LnAt.empty _, LnAt.empty _, fun h => absurd h (by simp), fun h => absurd h (by simp), fun h => absurd h (by simp)⟩, (k4.new _).less fun k hk => ?_, fun k hk => ?_⟩
          · rcases hk with hk | ⟨h, _⟩ | ⟨h, _⟩
            · exact .inl hk
            · exact absurd h (by simp)
            · exact absurd h (by simp)
          · rcases hk with hk | ⟨h, _⟩ | ⟨h, _⟩
            · omega
            · exact absurd h (by simp)
            · exact absurd h (by simp)
        clear k4 HTR HB2 HB hcl
        go_wp2_with fail
        go_loopw [18, 19, 20] (fun nv kv iv wr => ∃ (p : Nat) (nw : Int) (kk : Nat) (l : List (Int × Int)) (sent til : Int) (m : Nat), p ≤ vs.length ∧ 0 ≤ nw ∧ nw ≤ 9 * p ∧ (kk : Int) ≤ nw ∧ nv = .int .i64 nw ∧ kv = .int .i64 (kk : Nat) ∧ iv = .int .i64 (p : Nat) ∧ l.length ≤ 4 ∧ 0 ≤ sent ∧ sent ≤ p ∧ (m : Int) ≤ 1 + 4 * nw ∧ Hid (LG w1.heap.size (vs.map timI) m (timH vs D nw sent til p l) w1 H w4.heap.size l sent wr)) (fun _ _ iv _ => vs.length - (intOf iv).toNat)
        case atStart => exact ⟨0, 0, 0, [], 0, 0, 1, by omega, by omega, by omega, by omega, rfl, rfl, rfl, by simp, by omega, by omega, by omega, HLG.out⟩
        case round =>
          obtain ⟨p, nw, kk, l, sent, til, m, hp, hn0, hn1, hk1, rfl, rfl, rfl, hl4, hs0, hs1, hm, HG⟩ := hrel
          clear HLG
          by_cases hlt : p < vs.length
          · obtain ⟨x, ha, hbl, hc, hix, hi40, hv2, hpk⟩ := HST.out p hlt wr HG.out.back
            have HPK : Hid (∀ W', Calls Try.prog 23 #[.int .i64 x, .int .i64 1099511627776] W' fun e w' => e = .returned (.int .i64 (vs[p] : Nat)) ∧ w' = W') := hpk
            have HSEND : Hid (vs[p] % 2 = 0 → timH vs D nw sent til p l = timH vs D nw (lsend l sent (vs[p] / 2 % 8 : Nat)).2 til (p + 1) (lsend l sent (vs[p] / 2 % 8 : Nat)).1) := fun he => tim_send vs D nw sent til p l hlt he
            have HWAIT : Hid (¬ vs[p] % 2 = 0 → timH vs D nw sent til p l = timV D nw sent (nw + (1 + vs[p] / 2 % 9 : Nat)) (p + 1) l) := fun he => tim_wait vs D nw sent til p l hlt he
            clear hpk
            obtain ⟨v, hv⟩ : ∃ v, v = vs[p] := ⟨_, rfl⟩
            rw [← hv] at HPK HSEND HWAIT hv2
            clear hv
            subst ha
            go_wp2_with fail
            refine (HPK.out _).mono ?_
            rintro e w5 ⟨rfl, rfl⟩
            by_cases he : v % 2 = 0
            · have hei : (v : Int) % 2 = 0 := by omega
              obtain ⟨K8, hK8⟩ : ∃ K8 : Nat, K8 = v / 2 % 8 := ⟨_, rfl⟩
              have HP8 : Hid (∀ W, Calls Try.prog 23 #[.int .i64 ((v : Int) / 2), .int .i64 8] W fun e w' => e = .returned (.int .i64 (K8 : Nat)) ∧ w' = W) := fun W => by
                have h := c_pick ((v : Int) / 2) 8 W (by omega) (by omega) (by omega)
                have e : pickI ((v : Int) / 2) 8 = (K8 : Nat) := by
                  unfold pickI
                  rw [if_neg (by omega)]
                  omega
                rw [e] at h
                exact h
              have HEQ := HSEND.out he
              rw [← hK8] at HEQ
              have HSD : Hid (Calls Try.prog 29 #[.pointer (some ⟨w4.heap.size, 0, none⟩), .int .i64 (K8 : Nat)] w5 fun e w' => e = .returned (.tuple #[]) ∧ LG w1.heap.size (vs.map timI) m (timH vs D nw (lsend l sent (K8 : Nat)).2 til (p + 1) (lsend l sent (K8 : Nat)).1) w1 H w4.heap.size (lsend l sent (K8 : Nat)).1 (lsend l sent (K8 : Nat)).2 w') := by
                have h := lg_send (K8 : Nat) w5 HG.out hl4 hs0 (by omega)
                rw [HEQ] at h
                exact h
              have hln := lsend_len l sent (K8 : Nat) hl4
              clear HEQ hK8 HSEND HWAIT
              generalize lsend l sent (K8 : Nat) = R at *
              go_wp2_with fail
              refine (HP8.out _).mono ?_
              rintro e w6 ⟨rfl, rfl⟩
              go_wp2_with fail
              refine HSD.out.mono ?_
              rintro e w7 ⟨rfl, g7⟩
              have H7 := (show Hid _ from g7 : Hid (LG w1.heap.size (vs.map timI) m (timH vs D nw R.2 til (p + 1) R.1) w1 H w4.heap.size R.1 R.2 w7))
              clear g7 HSD HP8 HPK
              go_wp2_with fail
              go_roundw
              case rel => exact ⟨p + 1, nw, kk, R.1, R.2, til, m, by omega, hn0, by omega, hk1, rfl, rfl, by go_num, hln.1, by omega, by omega, hm, H7.out⟩
              case measure => simp [intOf]; omega
            · have hei : ((v : Int) % 2 == 0) = false := by simp; omega
              obtain ⟨T2, hT2⟩ : ∃ T2 : Int, nw + 1 + (v : Int) / 2 % 9 = T2 := ⟨_, rfl⟩
              have HGV : Hid (LG w1.heap.size (vs.map timI) m (timV D nw sent T2 (p + 1) l) w1 H w4.heap.size l sent w5) := by
                have h := HG.out
                have e9 : nw + ((1 + v / 2 % 9 : Nat) : Int) = T2 := by omega
                rw [HWAIT.out he, e9] at h
                exact h
              have hTa : nw + 1 ≤ T2 := by omega
              have hTb : T2 ≤ nw + 9 := by omega
              clear HSEND HWAIT HPK HG
              go_wp2_with fail
              go_loopw [18, 19] (fun nv kv wr => ∃ (t : Int) (k2 : Nat) (l2 : List (Int × Int)) (m2 : Nat), nw ≤ t ∧ t ≤ T2 ∧ (k2 : Int) ≤ t ∧ nv = .int .i64 t ∧ kv = .int .i64 (k2 : Nat) ∧ l2.length ≤ 4 ∧ (m2 : Int) ≤ 1 + 4 * t ∧ Hid (LG w1.heap.size (vs.map timI) m2 (if t < T2 then timV D t sent T2 (p + 1) l2 else timH vs D t sent T2 (p + 1) l2) w1 H w4.heap.size l2 sent wr)) (fun nv _ _ => (T2 - intOf nv).toNat)
              case atStart => exact ⟨nw, kk, l, m, by omega, by omega, hk1, rfl, rfl, hl4, hm, by show LG _ _ _ _ _ _ _ _ _ _; rw [if_pos (by omega)]; exact HGV.out⟩
              case round =>
                obtain ⟨t, k2, l2, m2, ht1, ht2, hk21, rfl, rfl, hl24, hm2, HG2⟩ := hrel
                clear HGV
                by_cases htl : t < T2
                · have HGV2 : Hid (LG w1.heap.size (vs.map timI) m2 (timV D t sent T2 (p + 1) l2) w1 H w4.heap.size l2 sent wr) := by
                    have h := HG2.out
                    rw [if_pos htl] at h
                    exact h
                  have HLK : Hid (Calls Try.prog 30 #[.pointer (some ⟨H, 0, none⟩)] wr fun e w' => ∃ ra rn rc ua uc, e = .returned (.agg #[.int .i64 t, .slice ra rn rc, .slice ua l2.length uc]) ∧ LG w1.heap.size (vs.map timI) m2 (timV D t sent T2 (p + 1) l2) w1 H w4.heap.size l2 sent w' ∧ ∀ W, Below w'.heap.size w' W → Calls Try.prog 31 #[.pointer (some ⟨w4.heap.size, 0, none⟩), .agg #[.int .i64 t, .slice ra rn rc, .slice ua l2.length uc], .int .i64 (D : Nat), .int .i64 t, .int .i64 T2] W fun e w'' => e = .returned (.bool true) ∧ LG w1.heap.size (vs.map timI) m2 (timV D t sent T2 (p + 1) l2) w1 H w4.heap.size l2 sent w'') := lg_look (rs := [timP D sent T2 (p + 1)]) (til := T2) hD2 wr HGV2.out hl24 (.inr ⟨htl, rfl⟩)
                  clear HG2 HGV2
                  go_wp2_with fail
                  refine HLK.out.mono ?_
                  rintro e w6 ⟨ra, rn, rc, ua, uc, rfl, _, hlk⟩
                  have HL6 : Hid (∀ W, Below w6.heap.size w6 W → Calls Try.prog 31 #[.pointer (some ⟨w4.heap.size, 0, none⟩), .agg #[.int .i64 t, .slice ra rn rc, .slice ua l2.length uc], .int .i64 (D : Nat), .int .i64 t, .int .i64 T2] W fun e w'' => e = .returned (.bool true) ∧ LG w1.heap.size (vs.map timI) m2 (timV D t sent T2 (p + 1) l2) w1 H w4.heap.size l2 sent w'') := hlk
                  clear hlk HLK
                  go_wp2_with fail
                  refine (HL6.out _ ((Below.refl _ _).alloc (Nat.le_refl _) _)).mono ?_
                  rintro e w7 ⟨rfl, g7⟩
                  have H7 : Hid (LG w1.heap.size (vs.map timI) m2 (timV D t sent T2 (p + 1) l2) w1 H w4.heap.size l2 sent w7) := g7
                  clear g7 HL6
                  by_cases hy0 : 0 < ys.length
                  · obtain ⟨y1, y2, y3⟩ := HX.out.2.2.1 hy0
                    obtain ⟨J, hJ⟩ : ∃ J : Nat, J = k2 % ys.length := ⟨_, rfl⟩
                    have hJl : J < ys.length := by rw [hJ]; exact Nat.mod_lt _ hy0
                    have hJi : (k2 : Int) % (ys.length : Nat) = (J : Nat) := by rw [hJ]; omega
                    have hyc : w7.cell? ⟨yb, yoff + J, none⟩ = some (.int .i64 ys[J]) := (H7.out.back.cell (p := ⟨yb, yoff + J, none⟩) y2).trans (y3 J hJl)
                    have hyb : yb < w7.heap.size := Nat.lt_of_lt_of_le y2 H7.out.back.size
                    obtain ⟨q1, q2⟩ := HX.out.2.2.2 ys[J] (List.getElem_mem hJl)
                    obtain ⟨r1, r2⟩ := pickI_bound ys[J] 4 (by omega)
                    obtain ⟨Q, hQ⟩ : ∃ Q : Nat, pickI ys[J] 4 = (Q : Nat) := ⟨(pickI ys[J] 4).toNat, by omega⟩
                    have HP4 : Hid (∀ W, Calls Try.prog 23 #[.int .i64 ys[J], .int .i64 4] W fun e w' => e = .returned (.int .i64 (Q : Nat)) ∧ w' = W) := fun W => by
                      have h := c_pick ys[J] 4 W (by omega) q1 q2
                      rw [hQ] at h
                      exact h
                    have hQ3 : Q ≤ 3 := by omega
                    generalize ys[J] = yy at *
                    clear hQ r1 r2 q1 q2 y3 hJ
                    subst y1
                    go_wp2_with fail
                    refine (HP4.out _).mono ?_
                    rintro e w9 ⟨rfl, rfl⟩
                    clear HP4
                    go_wp2_with fail
                    go_loopw [26] (fun jv wr => ∃ (j : Nat) (l3 : List (Int × Int)) (m3 : Nat), j ≤ Q ∧ jv = .int .i64 (j : Nat) ∧ l3.length ≤ 4 ∧ m3 ≤ m2 + j ∧ Hid (LG w1.heap.size (vs.map timI) m3 (timV D t sent T2 (p + 1) l3) w1 H w4.heap.size l3 sent wr)) (fun jv _ => Q - (intOf jv).toNat)
                    case atStart => exact ⟨0, l2, m2, by omega, rfl, hl24, by omega, H7.out⟩
                    case round =>
                      obtain ⟨j, l3, m3, hj, rfl, hl3, hm3, HG3⟩ := hrel
                      clear H7
                      by_cases hjq : j < Q
                      · have HDR : Hid (Calls Try.prog 32 #[.pointer (some ⟨w4.heap.size, 0, none⟩), .pointer (some ⟨H, 0, none⟩), .int .i64 (D : Nat)] wr fun e w' => e = .returned (.bool true) ∧ ∃ l4 : List (Int × Int), l4.length ≤ 4 ∧ LG w1.heap.size (vs.map timI) (m3 + 1) (timV D t sent T2 (p + 1) l4) w1 H w4.heap.size l4 sent w') := by
                          cases l3 with
                          | nil => exact (lg_drained_no hD2 wr HG3.out (by omega)).mono fun e w' hh => ⟨hh.1, [], by simp, hh.2⟩
                          | cons y l4 =>
                            have h4 : l4.length + 1 ≤ 4 := hl3
                            exact (lg_drained y l4 hD2 wr HG3.out (by omega) (by omega)).mono fun e w' hh => ⟨hh.1, l4, by omega, hh.2⟩
                        go_wp2_with fail
                        refine HDR.out.mono ?_
                        rintro e w8 ⟨rfl, l4, h4, g8⟩
                        have H8 : Hid (LG w1.heap.size (vs.map timI) (m3 + 1) (timV D t sent T2 (p + 1) l4) w1 H w4.heap.size l4 sent w8) := g8
                        clear g8 HDR HG3
                        go_wp2_with fail
                        go_roundw
                        case rel => exact ⟨j + 1, l4, m3 + 1, by omega, by go_num, h4, by omega, H8.out⟩
                        case measure => simp [intOf]; omega
                      · have HTC : Hid (Calls Try.prog 33 #[.pointer (some ⟨H, 0, none⟩), .int .i64 1] wr fun e w' => e = .returned (.int .i64 0) ∧ LG w1.heap.size (vs.map timI) (m3 + 1) (if t + 1 < T2 then timV D (t + 1) sent T2 (p + 1) l3 else timH vs D (t + 1) sent T2 (p + 1) l3) w1 H w4.heap.size l3 sent w') := by
                          have h := lg_tick 1 wr HG3.out (by omega)
                          by_cases htt : t + 1 < T2
                          · rw [if_pos htt]
                            rw [tim_tick vs D t sent T2 (p + 1) l3 (by omega) htt] at h
                            exact h
                          · rw [if_neg htt]
                            rw [tim_go vs D t sent T2 (p + 1) l3 hv40 (by omega) (by omega)] at h
                            exact h
                        go_wp2_with fail
                        refine HTC.out.mono ?_
                        rintro e w8 ⟨rfl, g8⟩
                        have H8 : Hid (LG w1.heap.size (vs.map timI) (m3 + 1) (if t + 1 < T2 then timV D (t + 1) sent T2 (p + 1) l3 else timH vs D (t + 1) sent T2 (p + 1) l3) w1 H w4.heap.size l3 sent w8) := g8
                        clear g8 HTC HG3
                        go_wp2_with fail
                        go_roundw
                        case rel => exact ⟨t + 1, k2 + 1, l3, m3 + 1, by omega, by omega, by omega, rfl, by go_num, hl3, by omega, H8.out⟩
                        case measure => simp [intOf]; omega
                  · go_wp2_with fail
                    go_loopw [26] (fun jv wr => ∃ (j : Nat) (l3 : List (Int × Int)) (m3 : Nat), j ≤ 0 ∧ jv = .int .i64 (j : Nat) ∧ l3.length ≤ 4 ∧ m3 ≤ m2 + j ∧ Hid (LG w1.heap.size (vs.map timI) m3 (timV D t sent T2 (p + 1) l3) w1 H w4.heap.size l3 sent wr)) (fun jv _ => 0 - (intOf jv).toNat)
                    case atStart => exact ⟨0, l2, m2, by omega, rfl, hl24, by omega, H7.out⟩
                    case round =>
                      obtain ⟨j, l3, m3, hj, rfl, hl3, hm3, HG3⟩ := hrel
                      clear H7
                      have HTC : Hid (Calls Try.prog 33 #[.pointer (some ⟨H, 0, none⟩), .int .i64 1] wr fun e w' => e = .returned (.int .i64 0) ∧ LG w1.heap.size (vs.map timI) (m3 + 1) (if t + 1 < T2 then timV D (t + 1) sent T2 (p + 1) l3 else timH vs D (t + 1) sent T2 (p + 1) l3) w1 H w4.heap.size l3 sent w') := by
                        have h := lg_tick 1 wr HG3.out (by omega)
                        by_cases htt : t + 1 < T2
                        · rw [if_pos htt]
                          rw [tim_tick vs D t sent T2 (p + 1) l3 (by omega) htt] at h
                          exact h
                        · rw [if_neg htt]
                          rw [tim_go vs D t sent T2 (p + 1) l3 hv40 (by omega) (by omega)] at h
                          exact h
                      go_wp2_with fail
                      refine HTC.out.mono ?_
                      rintro e w8 ⟨rfl, g8⟩
                      have H8 : Hid (LG w1.heap.size (vs.map timI) (m3 + 1) (if t + 1 < T2 then timV D (t + 1) sent T2 (p + 1) l3 else timH vs D (t + 1) sent T2 (p + 1) l3) w1 H w4.heap.size l3 sent w8) := g8
                      clear g8 HTC HG3
                      go_wp2_with fail
                      go_roundw
                      case rel => exact ⟨t + 1, k2 + 1, l3, m3 + 1, by omega, by omega, by omega, rfl, by go_num, hl3, by omega, H8.out⟩
                      case measure => simp [intOf]; omega
                · have HGE : Hid (LG w1.heap.size (vs.map timI) m2 (timH vs D t sent T2 (p + 1) l2) w1 H w4.heap.size l2 sent wr) := by
                    have h := HG2.out
                    rw [if_neg htl] at h
                    exact h
                  clear HG2
                  go_wp2_with fail
                  go_roundw
                  case rel => exact ⟨p + 1, t, k2, l2, sent, T2, m2, by omega, by omega, by omega, hk21, rfl, rfl, by go_num, hl24, hs0, by omega, hm2, HGE.out⟩
                  case measure => simp [intOf]; omega
          · have HGO : Hid (LG w1.heap.size (vs.map timI) m (oneH D nw 1 (lineQ D l) []) w1 H w4.heap.size l sent wr) := by
              have h := HG.out
              rw [tim_over vs D nw sent til p l hlt] at h
              exact h
            have HLK : Hid (Calls Try.prog 30 #[.pointer (some ⟨H, 0, none⟩)] wr fun e w' => ∃ ra rn rc ua uc, e = .returned (.agg #[.int .i64 nw, .slice ra rn rc, .slice ua l.length uc]) ∧ LG w1.heap.size (vs.map timI) m (oneH D nw 1 (lineQ D l) []) w1 H w4.heap.size l sent w' ∧ ∀ W, Below w'.heap.size w' W → Calls Try.prog 31 #[.pointer (some ⟨w4.heap.size, 0, none⟩), .agg #[.int .i64 nw, .slice ra rn rc, .slice ua l.length uc], .int .i64 (D : Nat), .int .i64 nw, .int .i64 nw] W fun e w'' => e = .returned (.bool true) ∧ LG w1.heap.size (vs.map timI) m (oneH D nw 1 (lineQ D l) []) w1 H w4.heap.size l sent w'') := lg_look (rs := []) (til := nw) hD2 wr HGO.out hl4 (.inl ⟨Int.le_refl _, rfl⟩)
            have hvm3 : ¬ p < xs.length ∨ (p < xs.length ∧ ¬ p < 40) := by omega
            clear HG HGO hlt
            rcases hvm3 with hC | ⟨hC, hC2⟩
            all_goals try (exfalso; omega)
            all_goals
              go_wp2_with fail
              refine HLK.out.mono ?_
              rintro e w6 ⟨ra, rn, rc, ua, uc, rfl, _, hlk⟩
              have HL6 : Hid (∀ W, Below w6.heap.size w6 W → Calls Try.prog 31 #[.pointer (some ⟨w4.heap.size, 0, none⟩), .agg #[.int .i64 nw, .slice ra rn rc, .slice ua l.length uc], .int .i64 (D : Nat), .int .i64 nw, .int .i64 nw] W fun e w'' => e = .returned (.bool true) ∧ LG w1.heap.size (vs.map timI) m (oneH D nw 1 (lineQ D l) []) w1 H w4.heap.size l sent w'') := hlk
              clear hlk HLK
              go_wp2_with fail
              refine (HL6.out _ ((Below.refl _ _).alloc (Nat.le_refl _) _)).mono ?_
              rintro e w7 ⟨rfl, g7⟩
              have HB7 : Hid (Below w1.heap.size w1 w7) := g7.back
              clear g7 HL6
              go_wp2_with fail
              go_ret
              exact ⟨rfl, HB7.out⟩
end Go.Proofs.Ytmmmnghiegajmaa
