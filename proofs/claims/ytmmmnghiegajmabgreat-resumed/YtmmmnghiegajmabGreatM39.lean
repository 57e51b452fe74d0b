import Derived.Test.YtmmmnghiegajmabGreatM38
import Derived.Deep.LoopGhost
import Derived.Test.YtmmmnghiegajmabGreatM04
import Derived.OwnWalk
import Derived.Test.YtmmmnghiegajmabGreatM07
/- The program's reader: its method statement. The program's reader: its method block. The program: Read, and Longest. -/
namespace Go.Proofs.YtmmmnghiegajmabGreat
open Go.RowKit Go.Proofs.Herald
theorem Tryz.infoStat : (Tryz.prog.info? 127).map (fun i => (i.zero, i.size, i.bytes)) = some (some (.agg #[.int .i64 0, .int .i64 0, .int .i64 0, .int .i64 0, .int .i64 0, .int .i64 0]), 6, 48) := by kernel_rfl
theorem ownsRow_zero {w : World} {B : Nat} {e : TypeId} {size : Nat} {v : Value} {n : Nat} {xs : List Value} (h : w.ownsRow B e size v n xs) : w.ownsRow 0 e size v n xs := by
  refine ⟨h.1, ?_⟩
  rcases h.2 with h2 | ⟨g, cap, cur, hv, _, r⟩
  · exact .inl h2
  · exact .inr ⟨g, cap, cur, hv, Nat.zero_le _, r⟩
theorem ownsRow_base {w : World} {B : Nat} {e : TypeId} {size n g cap : Nat} {xs : List Value} (h : w.ownsRow 0 e size (.slice (some ⟨g, 0, none⟩) n cap) n xs) (hB : B ≤ g) : w.ownsRow B e size (.slice (some ⟨g, 0, none⟩) n cap) n xs := by
  refine ⟨h.1, ?_⟩
  rcases h.2 with ⟨h1, _⟩ | ⟨g', cap', cur, hv, _, r⟩
  · cases h1
  · simp at hv
    obtain ⟨rfl, rfl⟩ := hv
    exact .inr ⟨g, cap, cur, rfl, hB, r⟩
theorem RdAt.push {t : ByteArray} {B : Nat} {w W w1 : World} {R g cap : Nat} {sv : Value} {st : RSt} (x : Nd) (h : RdAt t B w R sv st) (h0 : OneMore w W)
    (hown1 : w1.ownsRow 0 127 6 (.slice (some ⟨g, 0, none⟩) (st.fl.length + 1) cap) (st.fl.length + 1) (ndsCells st.fl ++ ndCells x)) (hgrow : W.grownBy w1 sv.ownBlock) (hat : sv.ownBlock = some g ∨ g = W.heap.size) :
    RdAt t B (w1.setCell ⟨R, 3, none⟩ (.slice (some ⟨g, 0, none⟩) (st.fl.length + 1) cap)) R (.slice (some ⟨g, 0, none⟩) (st.fl.length + 1) cap) { st with fl := st.fl ++ [x] } ∧
      Below B w (w1.setCell ⟨R, 3, none⟩ (.slice (some ⟨g, 0, none⟩) (st.fl.length + 1) cap)) ∧ w1.heap[R]? = w.heap[R]? := by
  have hs := h0.size
  have hRl := heap_lt h.blk
  have hvR : sv.ownBlock ≠ some R := fun e => by obtain ⟨_, cur, hc⟩ := ownsRow_block h.own e; exact ne_of_type hc h.blk (by decide) rfl
  have hR1 : w1.heap[R]? = w.heap[R]? := grown_same h0 hgrow hRl hvR
  have hBg : B ≤ g := by
    rcases hat with h1 | h1
    · exact (ownsRow_block h.own h1).1
    · have := h.le; omega
  have hgR : g ≠ R := by
    obtain ⟨cur, hc⟩ := own_block hown1 (k := g) rfl
    exact ne_of_type hc (hR1.trans h.blk) (by decide)
  refine ⟨⟨h.le, ?_, ?_, h.suf⟩, ?_, hR1⟩
  · rw [heap_setCell_self _ (hR1.trans h.blk)]; rfl
  · have e1 : ndsCells (st.fl ++ [x]) = ndsCells st.fl ++ ndCells x := by simp [ndsCells]
    show World.ownsRow _ B _ 6 _ (st.fl ++ [x]).length (ndsCells (st.fl ++ [x]))
    rw [e1, List.length_append]
    exact ownsRow_keep (ownsRow_base hown1 hBg) (fun k hk => by simp [Value.ownBlock] at hk; subst hk; exact Below.heap_setCell _ _ _ _ hgR)
  · have hb : Below B w w1 := ⟨hgrow.os.trans h0.os, hgrow.tape.trans h0.tape, hgrow.output.trans h0.output, by have := grown_size h0 hgrow; omega, fun k hk => grown_same h0 hgrow (by have := h.le; omega) (fun e => by have := (ownsRow_block h.own e).1; omega)⟩
    exact hb.setCell (p := ⟨R, 3, none⟩) h.le _
set_option maxHeartbeats 4000000 in
theorem c_statement (t : ByteArray) (ht : t.size ≤ 400) (n : Nat) (blk : RSt → Bool × RSt) (hblk : BlkSaid t n blk) (B R : Nat) (sv : Value) (st : RSt) (w : World) (h : RdAt t B w R sv st)
    (hn : st.us.length ≤ n + 1) (hd0 : 0 ≤ st.deep) (hd : st.deep + (st.us.length : Int) ≤ 900) (hm : st.fl.length + st.us.length ≤ 400) (hh0 : 0 ≤ st.heavy) (hh : st.heavy ≤ 65) :
    Calls Tryz.prog 62 #[.pointer (some ⟨R, 0, none⟩)] w fun e w' =>
      e = .returned (.bool (statementR t blk st).1) ∧ (∃ sv', RdAt t B w' R sv' (statementR t blk st).2) ∧ Below B w w' ∧ ((statementR t blk st).1 = true → Keeps st (statementR t blk st).2 ∧ (statementR t blk st).2.us.length < st.us.length) ∧ Grows st (statementR t blk st).2 := by
  have c1 : w.cell? ⟨R, 1, none⟩ = some (.string (wordR t st.us)) := by rw [cell_of_heap h.blk]; rfl
  have c2 : w.cell? ⟨R, 2, none⟩ = some (.int .i64 (atR t st.us : Nat)) := by rw [cell_of_heap h.blk]; rfl
  obtain ⟨s, hs⟩ : ∃ s, s = wordR t st.us := ⟨_, rfl⟩
  have hby : bytesR t st = s.data.toList := by rw [hs]; rfl
  rw [← hs] at c1
  obtain ⟨kind, hkd⟩ : ∃ k, k = kindI s.data.toList := ⟨_, rfl⟩
  have hrg := kindI_range s.data.toList
  rw [← hkd] at hrg
  have HK : Hid (∀ W, Calls Tryz.prog 76 #[.string s] W fun e w' => e = .returned (.int .i64 kind) ∧ w' = W) := fun W => by rw [hkd]; exact c_kindOf s W
  have HH : Hid (RdAt t B w R sv st) := h
  have hpos : ¬ kind = 0 → 0 < st.us.length := fun hk => by
    cases hu : st.us with
    | nil =>
      exfalso
      apply hk
      rw [hkd, hs, hu]
      have he : (wordR t []).data.toList = [] := rfl
      rw [he]; decide
    | cons p q => simp
  have hst0 : statementR t blk st = if kind = 0 then (false, st) else
      if (timesR t (advR st) kind).2.1 then
        if (keyR t (timesR t (advR st) kind).2.2 kind).2.1 then
          if (ticksR t (keyR t (timesR t (advR st) kind).2.2 kind).2.2 kind).2.1 then
            if kind = 4 ∨ kind = 5 then branchesR t blk { (ticksR t (keyR t (timesR t (advR st) kind).2.2 kind).2.2 kind).2.2 with fl := (ticksR t (keyR t (timesR t (advR st) kind).2.2 kind).2.2 kind).2.2.fl ++ [{ kind := kind, key := (keyR t (timesR t (advR st) kind).2.2 kind).1, times := (timesR t (advR st) kind).1, ticks := (ticksR t (keyR t (timesR t (advR st) kind).2.2 kind).2.2 kind).1, body := 0, els := 0 }] } (ticksR t (keyR t (timesR t (advR st) kind).2.2 kind).2.2 kind).2.2.fl.length
            else if kind = 6 then repeatedR t blk { (ticksR t (keyR t (timesR t (advR st) kind).2.2 kind).2.2 kind).2.2 with fl := (ticksR t (keyR t (timesR t (advR st) kind).2.2 kind).2.2 kind).2.2.fl ++ [{ kind := kind, key := (keyR t (timesR t (advR st) kind).2.2 kind).1, times := (timesR t (advR st) kind).1, ticks := (ticksR t (keyR t (timesR t (advR st) kind).2.2 kind).2.2 kind).1, body := 0, els := 0 }] } (ticksR t (keyR t (timesR t (advR st) kind).2.2 kind).2.2 kind).2.2.fl.length (timesR t (advR st) kind).1 (atR t st.us : Nat)
            else (true, { (ticksR t (keyR t (timesR t (advR st) kind).2.2 kind).2.2 kind).2.2 with fl := (ticksR t (keyR t (timesR t (advR st) kind).2.2 kind).2.2 kind).2.2.fl ++ [{ kind := kind, key := (keyR t (timesR t (advR st) kind).2.2 kind).1, times := (timesR t (advR st) kind).1, ticks := (ticksR t (keyR t (timesR t (advR st) kind).2.2 kind).2.2 kind).1, body := 0, els := 0 }] })
          else (false, (ticksR t (keyR t (timesR t (advR st) kind).2.2 kind).2.2 kind).2.2)
        else (false, (keyR t (timesR t (advR st) kind).2.2 kind).2.2)
      else (false, (timesR t (advR st) kind).2.2) := by
    unfold statementR
    rw [hby, ← hkd]
  obtain ⟨P, hP⟩ : ∃ P, P = atR t st.us := ⟨_, rfl⟩
  rw [← hP] at hst0 c2
  obtain ⟨a, hA⟩ : ∃ a, a = timesR t (advR st) kind := ⟨_, rfl⟩
  rw [← hA] at hst0
  obtain ⟨b, hB⟩ : ∃ b, b = keyR t a.2.2 kind := ⟨_, rfl⟩
  rw [← hB] at hst0
  obtain ⟨c, hC⟩ : ∃ c, c = ticksR t b.2.2 kind := ⟨_, rfl⟩
  rw [← hC] at hst0
  have HN0 : Hid (_ = _) := hst0
  have HSa : Hid (Same4 (advR st) a.2.2 ∧ 0 ≤ a.1 ∧ a.1 ≤ 9999) := by rw [hA]; exact timesR_same t (advR st) kind
  have HSb : Hid (Same4 a.2.2 b.2.2) := by rw [hB]; exact keyR_same t a.2.2 kind
  have HSc : Hid (Same4 b.2.2 c.2.2) := by rw [hC]; exact ticksR_same t b.2.2 kind
  have HCa : Hid (∀ W, RdAt t B W R sv (advR st) → Calls Tryz.prog 77 #[.pointer (some ⟨R, 0, none⟩), .int .i64 kind] W fun e w' => e = .returned (.tuple #[.int .i64 a.1, .bool a.2.1]) ∧ RdAt t B w' R sv a.2.2 ∧ Below B W w') := fun W hW => by rw [hA]; exact c_times t ht B R sv (advR st) kind W hW
  have HCb : Hid (∀ W, RdAt t B W R sv a.2.2 → Calls Tryz.prog 78 #[.pointer (some ⟨R, 0, none⟩), .int .i64 kind] W fun e w' => e = .returned (.tuple #[.int .i64 b.1, .bool b.2.1]) ∧ RdAt t B w' R sv b.2.2 ∧ Below B W w') := fun W hW => by rw [hB]; exact c_key t ht B R sv a.2.2 kind W hW
  have HCc : Hid (∀ W, RdAt t B W R sv b.2.2 → Calls Tryz.prog 79 #[.pointer (some ⟨R, 0, none⟩), .int .i64 kind] W fun e w' => e = .returned (.tuple #[.int .i64 c.1, .bool c.2.1]) ∧ RdAt t B w' R sv c.2.2 ∧ Below B W w') := fun W hW => by rw [hC]; exact c_ticks t ht B R sv b.2.2 kind W hW
  have gr : ∀ x, Same4 (advR st) x → Grows st x := fun x hx => ⟨by rw [hx.fl]; exact Nat.le_refl _, by have := hx.less; have e : (advR st).us.length = st.us.length - 1 := List.length_tail; have e2 : (advR st).fl = st.fl := rfl; rw [hx.fl, e2]; omega⟩
  have HGR : Hid (∀ x, Same4 (advR st) x → Grows st x) := gr
  clear hs hby hkd h hst0 hP hA hB hC gr
  by_cases hk0 : kind = 0
  · have HN : Hid (statementR t blk st = (false, st)) := HN0.out.trans (if_pos hk0)
    have e0 : (kind == 0) = true := by simp [hk0]
    clear hk0 hrg hpos
    go_enter Tryz.func62, Tryz.ntmps62
    go_wp2_with fail
    refine (HK.out _).mono ?_
    rintro e w' ⟨rfl, hw'⟩
    rw [hw']
    clear hw' w'
    go_wp2_with fail
    go_ret
    rw [HN.out]
    exact ⟨rfl, ⟨_, HH.out⟩, Below.refl _ _, fun h => absurd h (by simp), Grows.refl _⟩
  · have HN1 : Hid (_ = _) := HN0.out.trans (if_neg hk0)
    have e0 : (kind == 0) = false := by simp [hk0]
    have hup := hpos hk0
    clear hpos HN0
    go_enter Tryz.func62, Tryz.ntmps62
    go_wp2_with fail
    refine (HK.out _).mono ?_
    rintro e w' ⟨rfl, hw'⟩
    rw [hw']
    clear hw' w'
    go_wp2_with fail
    refine (c_advance t ht B R sv st _ HH.out).mono ?_
    rintro e w1 ⟨rfl, h1, b1⟩
    have H1 : Hid (RdAt t B w1 R sv (advR st) ∧ Below B w w1) := ⟨h1, b1⟩
    clear h1 b1
    go_wp2_with fail
    refine (HCa.out _ H1.out.1).mono ?_
    rintro e w2 ⟨rfl, h2, b2⟩
    have H2 : Hid (RdAt t B w2 R sv a.2.2 ∧ Below B w w2) := ⟨h2, H1.out.2.trans b2⟩
    clear h2 b2 H1
    cases ha1 : a.2.1 with
    | false =>
      have HN2 : Hid (_ = _) := HN1.out.trans (if_neg (by rw [ha1]; simp))
      clear ha1
      go_wp2_with fail
      go_ret
      rw [HN2.out]
      exact ⟨rfl, ⟨_, H2.out.1⟩, H2.out.2, fun h => absurd h (by simp), HGR.out _ HSa.out.1⟩
    | true =>
      have HN2 : Hid (_ = _) := HN1.out.trans (if_pos ha1)
      clear ha1 HN1
      go_wp2_with fail
      refine (HCb.out _ H2.out.1).mono ?_
      rintro e w3 ⟨rfl, h3, b3⟩
      have H3 : Hid (RdAt t B w3 R sv b.2.2 ∧ Below B w w3) := ⟨h3, H2.out.2.trans b3⟩
      clear h3 b3 H2
      cases hb1 : b.2.1 with
      | false =>
        have HN3 : Hid (_ = _) := HN2.out.trans (if_neg (by rw [hb1]; simp))
        clear hb1
        go_wp2_with fail
        go_ret
        rw [HN3.out]
        exact ⟨rfl, ⟨_, H3.out.1⟩, H3.out.2, fun h => absurd h (by simp), HGR.out _ (HSa.out.1.trans HSb.out)⟩
      | true =>
        have HN3 : Hid (_ = _) := HN2.out.trans (if_pos hb1)
        clear hb1 HN2
        go_wp2_with fail
        refine (HCc.out _ H3.out.1).mono ?_
        rintro e w4 ⟨rfl, h4, b4⟩
        have H4 : Hid (RdAt t B w4 R sv c.2.2 ∧ Below B w w4) := ⟨h4, H3.out.2.trans b4⟩
        clear h4 b4 H3
        cases hc1 : c.2.1 with
        | false =>
          have HN4 : Hid (_ = _) := HN3.out.trans (if_neg (by rw [hc1]; simp))
          clear hc1
          go_wp2_with fail
          go_ret
          rw [HN4.out]
          exact ⟨rfl, ⟨_, H4.out.1⟩, H4.out.2, fun h => absurd h (by simp), HGR.out _ ((HSa.out.1.trans HSb.out).trans HSc.out)⟩
        | true =>
          have HN4 : Hid (_ = _) := HN3.out.trans (if_pos hc1)
          clear hc1 HN3
          obtain ⟨a0, cap0, hsv⟩ := own_value H4.out.1.own
          have hrd := H4.out.1
          rw [hsv] at hrd
          have d3 : w4.cell? ⟨R, 3, none⟩ = some (.slice a0 c.2.2.fl.length cap0) := by rw [cell_of_heap hrd.blk]; rfl
          have hflc : c.2.2.fl = st.fl := ((HSa.out.1.trans HSb.out).trans HSc.out).fl
          have hlc : c.2.2.fl.length ≤ 400 := by rw [hflc]; omega
          have huc : c.2.2.us.length ≤ st.us.length - 1 := by have h0 := ((HSa.out.1.trans HSb.out).trans HSc.out).less; have e : (advR st).us.length = st.us.length - 1 := List.length_tail; omega
          have hdc : c.2.2.deep = st.deep := ((HSa.out.1.trans HSb.out).trans HSc.out).deep
          have hhc : c.2.2.heavy = st.heavy := ((HSa.out.1.trans HSb.out).trans HSc.out).heavy
          have ta := HSa.out.2
          have hown := ownsRow_zero hrd.own
          have HRD : Hid (RdAt t B w4 R (.slice a0 c.2.2.fl.length cap0) c.2.2) := hrd
          have HFL : Hid (c.2.2.fl = st.fl ∧ c.2.2.deep = st.deep ∧ c.2.2.heavy = st.heavy) := ⟨hflc, hdc, hhc⟩
          have hvR : Value.ownBlock (.slice a0 c.2.2.fl.length cap0) ≠ some R := fun e => by obtain ⟨_, cur, hc⟩ := ownsRow_block hrd.own e; exact ne_of_type hc hrd.blk (by decide) rfl
          have HVR : Hid (_ ≠ _) := hvR
          obtain ⟨ta0, ta1⟩ := ta
          clear hrd hsv hflc hdc hhc hvR
          go_wp2_with (at_builtin; refine wpList_push_at _ rfl (.tmp 56) (.tmp 62) 81 rfl 127 _ 6 48 Tryz.underlying81 Tryz.infoStat rfl (by decide) (by decide) (.slice a0 c.2.2.fl.length cap0) _ _ w4.heap.size [.int .i64 kind, .int .i64 b.1, .int .i64 a.1, .int .i64 c.1, .int .i64 0, .int .i64 0] (by rfl) (by exact hown.alloc _) (by exact heap_alloc_new _ _) (by rfl) rfl (by simp [Value.oneCell']) (by omega) ?_)
          intro g cap w5 hown5 hgrow hat hlt5
          obtain ⟨p1, p2, p3⟩ := HRD.out.push { kind := kind, key := b.1, times := a.1, ticks := c.1, body := 0, els := 0 } (OneMore.alloc _ _) hown5 hgrow (by simpa using hat)
          have y3 : w5.cell? ⟨R, 3, none⟩ = some (.slice a0 c.2.2.fl.length cap0) := (World.cell?_of_block p3).trans d3
          have y3z : w5.frozen? ⟨R, 3, none⟩ = false := (World.frozen?_of_block p3).trans (free_of_heap HRD.out.blk)
          have H5 : Hid (RdAt t B (w5.setCell ⟨R, 3, none⟩ (.slice (some ⟨g, 0, none⟩) (c.2.2.fl.length + 1) cap)) R (.slice (some ⟨g, 0, none⟩) (c.2.2.fl.length + 1) cap) { c.2.2 with fl := c.2.2.fl ++ [{ kind := kind, key := b.1, times := a.1, ticks := c.1, body := 0, els := 0 }] } ∧ Below B w (w5.setCell ⟨R, 3, none⟩ (.slice (some ⟨g, 0, none⟩) (c.2.2.fl.length + 1) cap))) := ⟨p1, H4.out.2.trans p2⟩
          have hl5 : ({ c.2.2 with fl := c.2.2.fl ++ [{ kind := kind, key := b.1, times := a.1, ticks := c.1, body := 0, els := 0 }] } : RSt).fl.length = st.fl.length + 1 := by show (c.2.2.fl ++ [_]).length = _; rw [List.length_append, HFL.out.1]; rfl
          have HK5 : Hid (Keeps st { c.2.2 with fl := c.2.2.fl ++ [{ kind := kind, key := b.1, times := a.1, ticks := c.1, body := 0, els := 0 }] } ∧ ({ c.2.2 with fl := c.2.2.fl ++ [{ kind := kind, key := b.1, times := a.1, ticks := c.1, body := 0, els := 0 }] } : RSt).us.length < st.us.length) := ⟨⟨HFL.out.2.1, HFL.out.2.2, by rw [hl5]; omega, by rw [hl5]; show _ + c.2.2.us.length ≤ _; omega, by show c.2.2.us.length ≤ _; omega⟩, by show c.2.2.us.length < _; omega⟩
          have HL5 : Hid (({ c.2.2 with fl := c.2.2.fl ++ [{ kind := kind, key := b.1, times := a.1, ticks := c.1, body := 0, els := 0 }] } : RSt).fl.length = st.fl.length + 1) := hl5
          clear p1 p2 p3 hown5 hgrow hat hown hl5
          by_cases h45 : kind = 4 ∨ kind = 5
          · have HN5 : Hid (_ = _) := HN4.out.trans (if_pos h45)
            have hcase : ((kind == 4) = true) ∨ ((kind == 4) = false ∧ (kind == 5) = true) := by
              rcases h45 with h45 | h45
              · exact .inl (by simp [h45])
              · exact .inr ⟨by simp [h45], by simp [h45]⟩
            clear h45 hrg hk0
            rcases hcase with e4 | ⟨e4, e5⟩
            all_goals
              go_wp2_with fail
              refine (c_branches t ht n blk hblk B R _ _ c.2.2.fl.length _ H5.out.1 (by show c.2.2.us.length ≤ n; omega) (by show 0 ≤ c.2.2.deep; rw [HFL.out.2.1]; exact hd0) (by show c.2.2.deep + (c.2.2.us.length : Int) ≤ 900; rw [HFL.out.2.1]; omega) (by rw [HL5.out]; show _ + c.2.2.us.length ≤ 400; omega) (by show 0 ≤ c.2.2.heavy; rw [HFL.out.2.2]; exact hh0) (by show c.2.2.heavy ≤ 65; rw [HFL.out.2.2]; exact hh) (by show _ < (c.2.2.fl ++ [_]).length; simp)).mono ?_
              rintro e w6 ⟨rfl, h6, b6, k6, g6⟩
              go_wp2_with fail
              go_ret
              rw [HN5.out]
              refine ⟨rfl, h6, H5.out.2.trans b6, fun hh => ?_, HK5.out.1.grown.trans g6⟩
              exact ⟨HK5.out.1.trans (k6 hh), Nat.lt_of_le_of_lt (k6 hh).less HK5.out.2⟩
          · have e4 : (kind == 4) = false := by simp; omega
            have e5 : (kind == 5) = false := by simp; omega
            by_cases h6 : kind = 6
            · have HN5 : Hid (_ = _) := (HN4.out.trans (if_neg h45)).trans (if_pos h6)
              have e6 : (kind == 6) = true := by simp [h6]
              clear h45 h6 hrg hk0
              go_wp2_with fail
              refine (c_repeated t ht n blk hblk B R _ _ c.2.2.fl.length a.1 (P : Nat) _ H5.out.1 (by show c.2.2.us.length ≤ n; omega) (by show 0 ≤ c.2.2.deep; rw [HFL.out.2.1]; exact hd0) (by show c.2.2.deep + (c.2.2.us.length : Int) ≤ 900; rw [HFL.out.2.1]; omega) (by rw [HL5.out]; show _ + c.2.2.us.length ≤ 400; omega) (by show 0 ≤ c.2.2.heavy; rw [HFL.out.2.2]; exact hh0) (by show c.2.2.heavy ≤ 65; rw [HFL.out.2.2]; exact hh) (by show _ < (c.2.2.fl ++ [_]).length; simp) ta0 ta1).mono ?_
              rintro e w6 ⟨rfl, h6, b6, k6, g6⟩
              go_wp2_with fail
              go_ret
              rw [HN5.out]
              refine ⟨rfl, h6, H5.out.2.trans b6, fun hh => ?_, HK5.out.1.grown.trans g6⟩
              exact ⟨HK5.out.1.trans (k6 hh), Nat.lt_of_le_of_lt (k6 hh).less HK5.out.2⟩
            · have HN5 : Hid (_ = _) := (HN4.out.trans (if_neg h45)).trans (if_neg h6)
              have e6 : (kind == 6) = false := by simp [h6]
              clear h45 h6 hrg hk0
              go_wp2_with fail
              go_ret
              rw [HN5.out]
              exact ⟨rfl, ⟨_, H5.out.1⟩, H5.out.2, fun _ => HK5.out, HK5.out.1.grown⟩
open Go.RowKit Go.Proofs.Herald
set_option maxHeartbeats 2000000 in
theorem c_block (t : ByteArray) (ht : t.size ≤ 400) (n : Nat) (blk : RSt → Bool × RSt) (hblk : BlkSaid t n blk) (behind : ByteArray) (B R : Nat) (sv : Value) (st : RSt) (w : World) (h : RdAt t B w R sv st)
    (hn : st.us.length ≤ n + 1) (hd0 : 0 ≤ st.deep) (hd : st.deep + (st.us.length : Int) ≤ 900) (hm : st.fl.length + st.us.length ≤ 400) (hh0 : 0 ≤ st.heavy) (hh : st.heavy ≤ 65) :
    Calls Tryz.prog 44 #[.pointer (some ⟨R, 0, none⟩), .string behind] w fun e w' =>
      e = .returned (.bool (loopR t (statementR t blk) behind.data.toList (st.us.length + 1) st).1) ∧ (∃ sv', RdAt t B w' R sv' (loopR t (statementR t blk) behind.data.toList (st.us.length + 1) st).2) ∧ Below B w w' ∧
        ((loopR t (statementR t blk) behind.data.toList (st.us.length + 1) st).1 = true → Keeps st (loopR t (statementR t blk) behind.data.toList (st.us.length + 1) st).2) ∧ Grows st (loopR t (statementR t blk) behind.data.toList (st.us.length + 1) st).2 := by
  obtain ⟨Z, hZ⟩ : ∃ Z, Z = loopR t (statementR t blk) behind.data.toList (st.us.length + 1) st := ⟨_, rfl⟩
  rw [← hZ]
  have HZ : Hid (Z = loopR t (statementR t blk) behind.data.toList (st.us.length + 1) st) := hZ
  have HH : Hid (RdAt t B w R sv st) := h
  clear hZ h
  go_enter Tryz.func44, Tryz.ntmps44
  go_wp2_with fail
  go_loopg [5] st.us.length (fun g _ wr => ∃ (x : RSt) (sx : Value) (f : Nat), g = x.us.length ∧ x.us.length < f ∧ RdAt t B wr R sx x ∧ Below B w wr ∧ Keeps st x ∧ Z = loopR t (statementR t blk) behind.data.toList f x)
  case atStart => exact ⟨st, sv, st.us.length + 1, rfl, by omega, HH.out, Below.refl _ _, ⟨rfl, rfl, Nat.le_refl _, Nat.le_refl _, Nat.le_refl _⟩, HZ.out⟩
  case round =>
    obtain ⟨x, sx, f, rfl, hf, hx, hb, hk, hz⟩ := hrel
    have c1 : wr.cell? ⟨R, 1, none⟩ = some (.string (wordR t x.us)) := by rw [cell_of_heap hx.blk]; rfl
    obtain ⟨s, hs⟩ : ∃ s, s = wordR t x.us := ⟨_, rfl⟩
    have hby : bytesR t x = s.data.toList := by rw [hs]; rfl
    rw [← hs] at c1
    obtain ⟨f', rfl⟩ : ∃ f', f = f' + 1 := ⟨f - 1, by omega⟩
    rw [loopR, hby] at hz
    have HX : Hid (RdAt t B wr R sx x ∧ Below B w wr ∧ Keeps st x) := ⟨hx, hb, hk⟩
    by_cases he : s.data.toList = behind.data.toList
    · rw [if_pos he] at hz
      have HE : Hid (Z = (true, x)) := hz
      have e0 : (s.toList == behind.toList) = true := by rw [ByteArray.toList_eq, ByteArray.toList_eq, he]; simp
      have e1 : (s.toList != behind.toList) = false := by simp [bne, e0]
      clear hs hby he hz hx hb hk HZ
      go_wp2_with fail
      go_ret
      rw [HE.out]
      exact ⟨rfl, ⟨_, HX.out.1⟩, HX.out.2.1, fun _ => HX.out.2.2, HX.out.2.2.grown⟩
    · rw [if_neg he] at hz
      have e0 : (s.toList == behind.toList) = false := by rw [ByteArray.toList_eq, ByteArray.toList_eq]; simpa using he
      have e1 : (s.toList != behind.toList) = true := by simp [bne, e0]
      have hkm := hk.mass
      have hkl := hk.less
      have hkd := hk.deep
      have hkh := hk.heavy
      have hcs := c_statement t ht n blk hblk B R sx x wr hx (by omega) (by omega) (by omega) (by omega) (by omega) (by omega)
      obtain ⟨q, hq⟩ : ∃ q, q = statementR t blk x := ⟨_, rfl⟩
      rw [← hq] at hcs hz
      have HCS : Hid (Calls _ _ _ _ _) := hcs
      have HZ2 : Hid (Z = if q.1 = true then loopR t (statementR t blk) behind.data.toList f' q.2 else (false, q.2)) := hz
      clear hs hby he hz hx hb hk HZ hcs hq hkm hkl hkd hkh
      go_wp2_with fail
      refine HCS.out.mono ?_
      rintro e w2 ⟨rfl, ⟨sv2, h2⟩, b2, k2, g2⟩
      have H2 : Hid (RdAt t B w2 R sv2 q.2 ∧ Below B w w2 ∧ (q.1 = true → Keeps x q.2 ∧ q.2.us.length < x.us.length) ∧ Grows x q.2) := ⟨h2, HX.out.2.1.trans b2, k2, g2⟩
      clear h2 b2 k2 g2 HCS
      cases hq1 : q.1 with
      | true =>
        have HZ3 : Hid (_ = _) := HZ2.out.trans (if_pos hq1)
        have hlt := (H2.out.2.2.1 hq1).2
        have HQ : Hid (Keeps x q.2) := (H2.out.2.2.1 hq1).1
        clear hq1 HZ2
        go_wp2_with fail
        go_roundg q.2.us.length
        case measure => exact hlt
        case rel => exact ⟨q.2, sv2, f', rfl, by omega, H2.out.1, H2.out.2.1, HX.out.2.2.trans HQ.out, HZ3.out⟩
      | false =>
        have HZ3 : Hid (_ = _) := HZ2.out.trans (if_neg (by rw [hq1]; simp))
        clear hq1 HZ2
        go_wp2_with fail
        go_ret
        rw [HZ3.out]
        exact ⟨rfl, ⟨_, H2.out.1⟩, H2.out.2.1, fun h => absurd h (by simp), HX.out.2.2.grown.trans H2.out.2.2.2⟩
theorem blkSaid (t : ByteArray) (ht : t.size ≤ 400) : ∀ n : Nat, n ≤ 401 → BlkSaid t n (blockR t n kShut) := by
  intro n
  induction n with
  | zero => intro _ B R sv st w h; exact absurd h (by omega)
  | succ n ih =>
    intro hn B R sv st w hl hd0 hd hm hh0 hh h
    exact c_block t ht n (blockR t n kShut) (ih (by omega)) ⟨#[125]⟩ B R sv st w h (by omega) hd0 hd hm hh0 hh
open Go.RowKit Go.Proofs.Herald
/-- The reader ahead of its first word. -/
def preR (t : ByteArray) : RSt := { us := (0, 0) :: wordsFrom t 0, fl := [], deep := 0, heavy := 1, fault := 0, place := 0 }
theorem preR_adv (t : ByteArray) : advR (preR t) = startR t := rfl
theorem preR_at (t : ByteArray) (w : World) (o : Obj) (R : Nat) (hR : R = w.heap.size + 1) :
    RdAt t R ((w.alloc o).alloc (.cells #[.string t, .string ⟨#[]⟩, .int .i64 0, .slice none 0 0, .int .i64 0, .int .i64 1, .int .i64 0, .int .i64 0] 104)) R (.slice none 0 0) (preR t) := by
  subst hR
  refine ⟨Nat.le_refl _, ?_, World.ownsRow_nil _ _ _ _, ?_⟩
  · rw [heap_alloc2]
    have e : wordR t (preR t).us = ⟨#[]⟩ := by show t.extract 0 0 = _; apply ByteArray.ext; simp
    rw [e]; rfl
  · intro p r h
    have h' : (0, 0) :: wordsFrom t 0 = p :: r := h
    simp only [List.cons.injEq] at h'
    obtain ⟨rfl, rfl⟩ := h'
    exact ⟨rfl, Nat.le_refl _, Nat.zero_le _⟩
theorem RdAt.nds {t : ByteArray} {B : Nat} {w : World} {R : Nat} {a : Option Addr} {n cap : Nat} {st : RSt} (h : RdAt t B w R (.slice a n cap) st) :
    n = st.fl.length ∧ n ≤ cap ∧ cap ≤ maxLen ∧ ∃ g, (0 < n → a = some ⟨g, 0, none⟩ ∧ g < w.heap.size ∧ NdsAt w g 0 st.fl) := by
  rcases h.own.2 with ⟨hv, h0⟩ | ⟨g, c, cur, hv, hb, hg, hn, hm, _⟩
  · simp at hv
    obtain ⟨_, rfl, rfl⟩ := hv
    exact ⟨by omega, by omega, by unfold maxLen; omega, 0, by omega⟩
  · have hv' := hv
    simp at hv
    obtain ⟨rfl, rfl, rfl⟩ := hv
    refine ⟨rfl, hn, hm, g, fun _ => ⟨rfl, heap_lt hg, fun i hi j u hj => ?_⟩⟩
    have hc := h.own.cells (g := g) rfl
    have hj6 : j < 6 := by
      have := (List.getElem?_eq_some_iff.mp hj).1
      simpa [ndCells] using this
    have k := hc (i * 6 + j) u (by rw [ndsCells_get _ i hi j hj6]; exact hj)
    rw [Addr.add_lit, Nat.zero_add] at k
    rw [Nat.zero_add]; exact k
set_option maxHeartbeats 1000000 in
theorem c_Read_long (t : ByteArray) (ht : 400 < t.size) (w : World) :
    Calls Tryz.prog 26 #[.string t] w fun e w' => (∃ a n cap, e = .returned (.tuple #[.agg #[.slice a n cap, .int .i64 0], .int .i64 1, .int .i64 0])) ∧ Below w.heap.size w w' := by
  go_enter Tryz.func26, Tryz.ntmps26
  go_wp2_with fail
  refine bodyPost_ret (v := .tuple #[.agg #[.slice none 0 0, .int .i64 0], .int .i64 1, .int .i64 0]) (by simp [results, Tryz.results26, go_sem]) rfl ⟨⟨_, _, _, rfl⟩, ?_⟩
  exact (Below.refl _ _).alloc (Nat.le_refl _) _
set_option maxHeartbeats 4000000 in
theorem c_Read (t : ByteArray) (ht : t.size ≤ 400) (r : Int × Int × Int) (hr : CodeAns t r) (w : World) :
    Calls Tryz.prog 26 #[.string t] w fun e w' => (∃ a n cap, e = .returned (.tuple #[.agg #[.slice a n cap, .int .i64 r.1], .int .i64 r.2.1, .int .i64 r.2.2])) ∧ Below w.heap.size w w' := by
  have hwl : (startR t).us.length ≤ 400 := by
    have h2 := wordsL_length t.data.toList
    have h3 : t.data.toList.length = t.size := by simp
    show (wordsL t.data.toList).length ≤ 400
    omega
  obtain ⟨E, hE⟩ : ∃ E, E = endR t := ⟨_, rfl⟩
  have HPRE : Hid (∀ o, RdAt t (w.heap.size + 1) ((w.alloc o).alloc (.cells #[.string t, .string ⟨#[]⟩, .int .i64 0, .slice none 0 0, .int .i64 0, .int .i64 1, .int .i64 0, .int .i64 0] 104)) (w.heap.size + 1) (.slice none 0 0) (preR t)) := fun o => preR_at t w o _ rfl
  have HBLK : Hid (∀ W, RdAt t (w.heap.size + 1) W (w.heap.size + 1) (.slice none 0 0) (startR t) → Calls Tryz.prog 44 #[.pointer (some ⟨w.heap.size + 1, 0, none⟩), .string ⟨#[]⟩] W fun e w' =>
      e = .returned (.bool E.1) ∧ (∃ sv', RdAt t (w.heap.size + 1) w' (w.heap.size + 1) sv' E.2) ∧ Below (w.heap.size + 1) W w') := fun W hW => by
    rw [hE]
    refine (c_block t ht 401 (blockR t 401 kShut) (blkSaid t ht 401 (by omega)) ⟨#[]⟩ (w.heap.size + 1) (w.heap.size + 1) _ (startR t) W hW (by omega) (by show (0 : Int) ≤ 0; omega) (by show (0 : Int) + _ ≤ 900; omega) (by show 0 + _ ≤ 400; omega) (by show (0 : Int) ≤ 1; omega) (by show (1 : Int) ≤ 65; omega)).mono ?_
    rintro e w' ⟨h1, h2, h3, _⟩
    exact ⟨h1, h2, h3⟩
  have HR : Hid (CodeAns t r) := hr
  have HE : Hid (E = endR t) := hE
  clear hr hE hwl
  have HBW : Hid (∀ o1 o2, Below w.heap.size w ((w.alloc o1).alloc o2)) := fun o1 o2 => ((Below.refl _ _).alloc (Nat.le_refl _) _).alloc (by simp) _
  go_enter Tryz.func26, Tryz.ntmps26
  go_wp2_with fail
  refine (c_advance t ht _ _ _ (preR t) _ (HPRE.out _)).mono ?_
  rintro e w1 ⟨rfl, h1, hb1⟩
  rw [preR_adv] at h1
  have HB1 : Hid (Below w.heap.size w w1) := (HBW.out _ _).trans (hb1.mono (by simp))
  have H1 : Hid (RdAt t (w.heap.size + 1) w1 (w.heap.size + 1) (.slice none 0 0) (startR t)) := h1
  have HG1 : Hid (w1.heap[w.heap.size]? = some (.cells #[.slice none 0 0, .int .i64 0] 83 (0, 0))) := by
    show _ = _
    rw [hb1.block w.heap.size (by omega), Below.heap_alloc _ _ _ (by simp)]
    exact heap_alloc_new _ _
  clear h1 hb1
  go_wp2_with fail
  refine (HBLK.out _ H1.out).mono ?_
  rintro e w2 ⟨rfl, ⟨sv, h2⟩, hb2⟩
  obtain ⟨a, cap, hsv⟩ := own_value h2.own
  subst hsv
  have HB2 : Hid (Below w.heap.size w w2) := HB1.out.trans (hb2.mono (by omega))
  have H2 : Hid (RdAt t (w.heap.size + 1) w2 (w.heap.size + 1) (.slice a E.2.fl.length cap) E.2) := h2
  have c2 : w2.cell? ⟨w.heap.size + 1, 2, none⟩ = some (.int .i64 (atR t E.2.us : Nat)) := (cell_of_heap h2.blk).trans rfl
  have c3 : w2.cell? ⟨w.heap.size + 1, 3, none⟩ = some (.slice a E.2.fl.length cap) := (cell_of_heap h2.blk).trans rfl
  have c6 : w2.cell? ⟨w.heap.size + 1, 6, none⟩ = some (.int .i64 E.2.fault) := (cell_of_heap h2.blk).trans rfl
  have c7 : w2.cell? ⟨w.heap.size + 1, 7, none⟩ = some (.int .i64 E.2.place) := (cell_of_heap h2.blk).trans rfl
  have g2 : w2.heap[w.heap.size]? = some (.cells #[.slice none 0 0, .int .i64 0] 83 (0, 0)) := (hb2.block _ (by omega)).trans HG1.out
  have HG2 : Hid (_ = _) := g2
  have d0 : w2.cell? ⟨w.heap.size, 0, none⟩ = some (.slice none 0 0) := (cell_of_heap g2).trans rfl
  have d1 : w2.cell? ⟨w.heap.size, 1, none⟩ = some (.int .i64 0) := (cell_of_heap g2).trans rfl
  have y0 : w2.frozen? ⟨w.heap.size, 0, none⟩ = false := free_of_heap g2
  have y1 : w2.frozen? ⟨w.heap.size, 1, none⟩ = false := free_of_heap g2
  clear h2 hb2 HBLK H1 HPRE g2 HG1
  have hr := HR.out
  unfold CodeAns at hr
  rw [← HE.out] at hr
  clear HR HE
  rcases hr with ⟨hf, rfl⟩ | ⟨hf, hne, rfl⟩ | ⟨hf, h0, tr, hfl, hgood, hsz, hr⟩
  · rw [hf]
    go_wp2_with fail
    go_region
    all_goals
      go_wp2_with fail
      refine bodyPost_ret (v := .tuple #[.agg #[.slice none 0 0, .int .i64 0], .int .i64 2, .int .i64 (atR t E.2.us : Nat)]) (by simp [results, Tryz.results26, go_sem, d0, d1]) rfl ⟨⟨_, _, _, rfl⟩, ?_⟩
      exact ((HB2.out.setCell (p := ⟨w.heap.size, 0, none⟩) (Nat.le_refl _) _).setCell (p := ⟨w.heap.size, 1, none⟩) (Nat.le_refl _) _).drew
  · rw [hf]
    have e0 : (E.2.fault == 0) = false := by simpa using hne
    have e1 : (E.2.fault != 0) = true := by simpa using hne
    clear hne hf
    go_wp2_with fail
    go_region
    all_goals
      go_wp2_with fail
      refine bodyPost_ret (v := .tuple #[.agg #[.slice none 0 0, .int .i64 0], .int .i64 E.2.fault, .int .i64 E.2.place]) (by simp [results, Tryz.results26, go_sem, d0, d1]) rfl ⟨⟨_, _, _, rfl⟩, ?_⟩
      exact ((HB2.out.setCell (p := ⟨w.heap.size, 0, none⟩) (Nat.le_refl _) _).setCell (p := ⟨w.heap.size, 1, none⟩) (Nat.le_refl _) _).drew
  · rw [hf]
    obtain ⟨n1, n2, n3, g, n4⟩ := H2.out.nds
    have HL : Hid (Calls Tryz.prog 45 #[.slice a E.2.fl.length cap] w2 fun e w' => e = .returned (.int .i64 (maxI (lastsT t 5 tr).1 (lastsT t 5 tr).2)) ∧ Below w2.heap.size w2 w') :=
      c_longestOf t 5 tr a g 0 cap E.2.fl.length w2 (by rw [hfl]) hgood hsz (by omega) n2 n3 (fun h => ⟨(n4 h).1, (n4 h).2.1, by rw [← hfl]; exact (n4 h).2.2⟩)
    rw [h0] at c6
    clear n1 n2 n3 n4 hfl hgood hsz h0 hf
    generalize maxI (lastsT t 5 tr).1 (lastsT t 5 tr).2 = M at *
    go_wp2_with fail
    refine HL.out.mono ?_
    rintro e w3 ⟨rfl, hb3⟩
    have c3' : w3.cell? ⟨w.heap.size + 1, 3, none⟩ = some (.slice a E.2.fl.length cap) := by
      rw [World.cell?_of_block (hb3.block (w.heap.size + 1) (heap_lt H2.out.blk))]; exact c3
    have HB3 : Hid (Below w.heap.size w w3) := HB2.out.trans (hb3.mono HB2.out.size)
    have g3 : w3.heap[w.heap.size]? = some (.cells #[.slice none 0 0, .int .i64 0] 83 (0, 0)) := (hb3.block _ (heap_lt HG2.out)).trans HG2.out
    clear d0 d1 y0 y1 hb3 c2 c3 c6 c7
    have d0 : w3.cell? ⟨w.heap.size, 0, none⟩ = some (.slice none 0 0) := (cell_of_heap g3).trans rfl
    have d1 : w3.cell? ⟨w.heap.size, 1, none⟩ = some (.int .i64 0) := (cell_of_heap g3).trans rfl
    have y0 : w3.frozen? ⟨w.heap.size, 0, none⟩ = false := free_of_heap g3
    have y1 : w3.frozen? ⟨w.heap.size, 1, none⟩ = false := free_of_heap g3
    clear g3 HG2
    rcases hr with ⟨hl, rfl⟩ | ⟨hl, rfl⟩
    · go_wp2_with fail
      refine bodyPost_ret (v := .tuple #[.agg #[.slice none 0 0, .int .i64 0], .int .i64 6, .int .i64 0]) (by simp [results, Tryz.results26, go_sem, d0, d1]) rfl ⟨⟨_, _, _, rfl⟩, ?_⟩
      exact (HB3.out.setCell (p := ⟨w.heap.size, 0, none⟩) (Nat.le_refl _) _).setCell (p := ⟨w.heap.size, 1, none⟩) (Nat.le_refl _) _
    · go_wp2_with fail
      refine bodyPost_ret (v := .tuple #[.agg #[.slice a E.2.fl.length cap, .int .i64 M], .int .i64 0, .int .i64 0]) (by simp [results, Tryz.results26, go_sem, d0, d1]) rfl ⟨⟨_, _, _, rfl⟩, ?_⟩
      exact (HB3.out.setCell (p := ⟨w.heap.size, 0, none⟩) (Nat.le_refl _) _).setCell (p := ⟨w.heap.size, 1, none⟩) (Nat.le_refl _) _
end Go.Proofs.YtmmmnghiegajmabGreat
/- The program's Longest. -/
namespace Go.Proofs.YtmmmnghiegajmabGreat
open Go.RowKit Go.Proofs.Herald
set_option maxHeartbeats 1000000 in
theorem c_Longest (t : ByteArray) (r : Int × Int × Int) (hr : (400 < t.size ∧ r = (0, 1, 0)) ∨ (t.size ≤ 400 ∧ CodeAns t r)) (w : World) :
    Calls Tryz.prog 13 #[.string t] w fun e w' => e = .returned (.tuple #[.int .i64 r.1, .int .i64 r.2.1, .int .i64 r.2.2]) ∧ Below w.heap.size w w' := by
  have HC : Hid (∀ W : World, Calls Tryz.prog 26 #[.string t] W fun e w' => (∃ a n cap, e = .returned (.tuple #[.agg #[.slice a n cap, .int .i64 r.1], .int .i64 r.2.1, .int .i64 r.2.2])) ∧ Below W.heap.size W w') := fun W => by
    rcases hr with ⟨ht, rfl⟩ | ⟨ht, hr⟩
    · exact c_Read_long t ht W
    · exact c_Read t ht r hr W
  clear hr
  go_enter Tryz.func13, Tryz.ntmps13
  go_wp2_with fail
  refine (HC.out _).mono ?_
  rintro e w1 ⟨⟨a, n, cap, rfl⟩, hb1⟩
  go_wp2_with fail
  go_ret3
  exact ⟨rfl, hb1.alloc hb1.size _⟩
/-- Of a text without a fault. -/
theorem c_Longest_ok {t : ByteArray} {tr : Tree 5} (ht : t.size ≤ 400) (hT : TextOk t tr) (w : World) :
    Calls Tryz.prog 13 #[.string t] w fun e w' => e = .returned (.tuple #[.int .i64 (maxI (lastsT t 5 tr).1 (lastsT t 5 tr).2), .int .i64 0, .int .i64 0]) ∧ Below w.heap.size w w' :=
  c_Longest t (maxI (lastsT t 5 tr).1 (lastsT t 5 tr).2, 0, 0) (.inr ⟨ht, .inr (.inr ⟨hT.ended, hT.fault, tr, hT.flat, hT.good, hT.size, .inr ⟨hT.short, rfl⟩⟩)⟩) w
end Go.Proofs.YtmmmnghiegajmabGreat
