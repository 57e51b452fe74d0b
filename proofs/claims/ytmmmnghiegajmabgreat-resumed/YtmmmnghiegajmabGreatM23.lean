import Derived.Test.YtmmmnghiegajmabGreatM12
import Derived.Test.YtmmmnghiegajmabGreatM22
import Derived.Test.YtmmmnghiegajmabGreatM03
import Derived.Test.YtmmmnghiegajmabGreatM08
/- Raw numbers spell a text: the small parts of the speller. -/
namespace Go.Proofs.YtmmmnghiegajmabGreat
open Go.RowKit Go.Proofs.Herald
def pickN (x : Int) : Nat := (pickI x 1099511627776).toNat
theorem pickN_eq (x : Int) : pickI x 1099511627776 = (pickN x : Nat) := by
  have := (pickI_bound x 1099511627776 (by omega)).1
  unfold pickN
  omega
theorem pickN_lt (x : Int) : pickN x < 1099511627776 := by
  have := (pickI_bound x 1099511627776 (by omega)).2
  have := pickN_eq x
  omega
def vsAt (xs : List Int) (i : Nat) : List Nat := (xs.drop i).map pickN
theorem vsAt_cons {xs : List Int} {i : Nat} (h : i < xs.length) : vsAt xs i = pickN xs[i] :: vsAt xs (i + 1) := by
  unfold vsAt
  rw [List.drop_eq_getElem_cons h]
  rfl
theorem vsAt_end {xs : List Int} {i : Nat} (h : ¬ i < xs.length) : vsAt xs i = [] := by
  unfold vsAt
  rw [List.drop_eq_nil_of_le (by omega)]
  rfl
theorem vsAt_len {xs : List Int} {i : Nat} : (vsAt xs i).length = xs.length - i := by
  unfold vsAt
  simp
/-- Numbers that lie in memory. -/
def IntsIn (w : World) (a : Option Addr) (b off : Nat) (xs : List Int) : Prop := 0 < xs.length → a = some ⟨b, off, none⟩ ∧ b < w.heap.size ∧ ∀ i (h : i < xs.length), w.cell? ⟨b, off + i, none⟩ = some (.int .i64 xs[i])
def SpS (w : World) (S : Nat) (cv : Value) (i : Nat) (left : Int) : Prop := w.heap[S]? = some (.cells #[cv, .int .i64 (i : Nat), .int .i64 left] 61 (0, 0))
structure SpOut (w w' : World) (S : Nat) (cv : Value) (i : Nat) (left : Int) : Prop where
  st : SpS w' S cv i left
  fr : Fr (fun k => k = S) w w'
theorem IntsIn.fr {w w' : World} {a : Option Addr} {b off : Nat} {xs : List Int} {S : Nat} (h : IntsIn w a b off xs) (hf : Fr (fun k => k = S) w w') (hb : b ≠ S) : IntsIn w' a b off xs := fun hp => by
  obtain ⟨h1, h2, h3⟩ := h hp
  exact ⟨h1, Nat.lt_of_lt_of_le h2 hf.size, fun i hi => (hf.cell (p := ⟨b, off + i, none⟩) h2 hb).trans (h3 i hi)⟩
theorem SpOut.trans {w w1 w2 : World} {S i j : Nat} {cv : Value} {l m : Int} (h : SpOut w w1 S cv i l) (k : SpOut w1 w2 S cv j m) : SpOut w w2 S cv j m := ⟨k.st, h.fr.trans (k.fr.mono fun _ _ hk => hk)⟩
theorem SpOut.below {w w1 w2 : World} {S i : Nat} {cv : Value} {l : Int} (h : SpOut w w1 S cv i l) (hb : Below w1.heap.size w1 w2) : SpOut w w2 S cv i l :=
  ⟨(hb.block S (heap_lt h.st)).trans h.st, h.fr.trans ((Fr.of_below hb).mono fun k hk hs => by omega)⟩
set_option maxRecDepth 20000 in
set_option maxHeartbeats 2000000 in
theorem sp_next (xs : List Int) (a : Option Addr) (b off cap S i : Nat) (left : Int) (w : World) (hS : SpS w S (.slice a xs.length cap) i left) (hx : IntsIn w a b off xs) (hr : ∀ x ∈ xs, -9223372036854775808 ≤ x ∧ x ≤ 9223372036854775807) (hi : i < xs.length) (hl : xs.length ≤ 4000000000) :
    Calls Tryz.prog 30 #[.pointer (some ⟨S, 0, none⟩)] w fun e w' => e = .returned (.int .i64 (pickN xs[i] : Nat)) ∧ SpOut w w' S (.slice a xs.length cap) (i + 1) left := by
  obtain ⟨rfl, hb, hc⟩ := hx (by omega)
  have s0 : w.cell? ⟨S, 0, none⟩ = some (.slice (some ⟨b, off, none⟩) xs.length cap) := (cell_of_heap hS).trans rfl
  have s1 : w.cell? ⟨S, 1, none⟩ = some (.int .i64 (i : Nat)) := (cell_of_heap hS).trans rfl
  have f1 : w.frozen? ⟨S, 1, none⟩ = false := free_of_heap hS
  have hSl : S < w.heap.size := heap_lt hS
  have x1 := hc i hi
  obtain ⟨r1, r2⟩ := hr xs[i] (List.getElem_mem hi)
  generalize xs[i] = x at *
  have HP : Hid (∀ W, Calls Tryz.prog 8 #[.int .i64 x, .int .i64 1099511627776] W fun e w' => e = .returned (.int .i64 (pickN x : Nat)) ∧ w' = W) := fun W => by
    have h := c_pick x 1099511627776 W (by omega) r1 r2
    rw [pickN_eq] at h
    exact h
  have HS : Hid (SpS w S (.slice (some ⟨b, off, none⟩) xs.length cap) i left) := hS
  have hpl := pickN_lt x
  clear hS hx hr hc
  go_enter Tryz.func30, Tryz.ntmps30
  go_wp2_with fail
  go_region
  all_goals
    go_upto_region 3 with fail
    go_cut [3] (fun y wx => y = .int .i64 (pickN x : Nat) ∧ Hid (SameH w wx))
    case first =>
      go_region_with (go_at_call 8; refine (HP.out _).mono ?_; rintro e w1 ⟨rfl, rfl⟩)
      all_goals
        go_wp2_with fail
        go_meet
        case rel => exact ⟨rfl, by first | exact SameH.refl _ | exact (SameH.refl _).drew | exact (SameH.refl _).drew.drew⟩
    case rest =>
      obtain ⟨rfl, HX⟩ := hcut
      have t1 : wc.cell? ⟨S, 1, none⟩ = some (.int .i64 (i : Nat)) := by rw [HX.out.cell]; exact s1
      have g1 : wc.frozen? ⟨S, 1, none⟩ = false := free_of_heap (by rw [HX.out.heap]; exact HS.out)
      have hSl' : S < wc.heap.size := by rw [HX.out.heap]; exact hSl
      clear s0 s1 f1 x1
      go_wp2_with fail
      go_ret
      have hS' : SpS wc S (.slice (some ⟨b, off, none⟩) xs.length cap) i left := by
        unfold SpS
        rw [HX.out.heap]
        exact HS.out
      refine ⟨rfl, ?_, ?_⟩
      · exact (heap_setCell_self _ hS').trans rfl
      · refine Fr.setCell (S := fun k => k = S) ?_ ⟨S, 1, none⟩ (.inl rfl) _
        exact ⟨HX.out.os, HX.out.tape, HX.out.output, by rw [HX.out.heap]; exact Nat.le_refl _, fun k _ _ => by rw [HX.out.heap]⟩
set_option maxRecDepth 20000 in
set_option maxHeartbeats 2000000 in
theorem sp_room (S i : Nat) (cv : Value) (left n : Int) (w : World) (hS : SpS w S cv i left) (h0 : 0 ≤ left) (h1 : left ≤ 330) (hn : 0 ≤ n) (hn2 : n ≤ 100) :
    Calls Tryz.prog 33 #[.pointer (some ⟨S, 0, none⟩), .int .i64 n] w fun e w' => e = .returned (.bool (decide (n ≤ left))) ∧ SpOut w w' S cv i (if n ≤ left then left - n else left) := by
  have s2 : w.cell? ⟨S, 2, none⟩ = some (.int .i64 left) := (cell_of_heap hS).trans rfl
  have f2 : w.frozen? ⟨S, 2, none⟩ = false := free_of_heap hS
  have hSl : S < w.heap.size := heap_lt hS
  have HS : Hid (SpS w S cv i left) := hS
  clear hS
  by_cases h : n ≤ left
  · have hd : decide (n ≤ left) = true := by simpa using h
    rw [hd, if_pos h]
    clear hd
    go_enter Tryz.func33, Tryz.ntmps33
    go_wp2_with fail
    go_ret
    exact ⟨rfl, (heap_setCell_self _ HS.out).trans rfl, Fr.setCell (S := fun k => k = S) (Fr.refl _ _) ⟨S, 2, none⟩ (.inl rfl) _⟩
  · have hd : decide (n ≤ left) = false := by simpa using h
    rw [hd, if_neg h]
    clear hd
    go_enter Tryz.func33, Tryz.ntmps33
    go_wp2_with fail
    go_ret
    exact ⟨rfl, HS.out, Fr.refl _ _⟩
/-- What a block spells, in memory: d: how many blocks may still lie in it. -/
def BlkK (xs : List Int) (a : Option Addr) (b off cap S d : Nat) : Prop :=
  ∀ (i : Nat) (left : Int) (w : World), i ≤ xs.length → 0 ≤ left → left ≤ 330 → SpS w S (.slice a xs.length cap) i left → IntsIn w a b off xs →
    Calls Tryz.prog 16 #[.pointer (some ⟨S, 0, none⟩), .int .i64 (3 - (d : Int))] w fun e w' => ∃ (s : ByteArray) (j : Nat), e = .returned (.string s) ∧ s.data.toList = sp (spT d (d == 3) (vsAt xs i) left).1 ∧ (spT d (d == 3) (vsAt xs i) left).2.2.1 = vsAt xs j ∧ j ≤ xs.length ∧ SpOut w w' S (.slice a xs.length cap) j (spT d (d == 3) (vsAt xs i) left).2.2.2
theorem brace_bytes {s x y : ByteArray} {us : List Wd} (h : s.data.toList = sp us) (ex : x.data.toList = [123, 32]) (ey : y.data.toList = [125, 32]) : (x ++ s ++ y).data.toList = sp (kOpen :: (us ++ [kShut])) := by
  rw [ByteArray.data_append, ByteArray.data_append, Array.toList_append, Array.toList_append, h, ex, ey, sp_cons, sp_append]
  simp [sp, kOpen, kShut]
set_option maxRecDepth 20000 in
set_option maxHeartbeats 2000000 in
theorem sp_braced (xs : List Int) (a : Option Addr) (b off cap S d : Nat) (hd : d ≤ 2) (hB : BlkK xs a b off cap S d) (i : Nat) (left : Int) (w : World) (hi : i ≤ xs.length) (h0 : 0 ≤ left) (h1 : left ≤ 330) (hS : SpS w S (.slice a xs.length cap) i left) (hx : IntsIn w a b off xs) :
    Calls Tryz.prog 35 #[.pointer (some ⟨S, 0, none⟩), .int .i64 (2 - (d : Int))] w fun e w' => ∃ (s : ByteArray) (j : Nat), e = .returned (.string s) ∧ s.data.toList = sp (kOpen :: ((spT d false (vsAt xs i) left).1 ++ [kShut])) ∧ (spT d false (vsAt xs i) left).2.2.1 = vsAt xs j ∧ j ≤ xs.length ∧ SpOut w w' S (.slice a xs.length cap) j (spT d false (vsAt xs i) left).2.2.2 := by
  have P := spT_ok d (by omega) false (vsAt xs i) left h0
  have hsz := P.sz
  have hl0 := P.l0
  have HB : Hid (Calls Tryz.prog 16 #[.pointer (some ⟨S, 0, none⟩), .int .i64 (2 - (d : Int) + 1)] w fun e w' => ∃ (s : ByteArray) (j : Nat), e = .returned (.string s) ∧ s.data.toList = sp (spT d false (vsAt xs i) left).1 ∧ (spT d false (vsAt xs i) left).2.2.1 = vsAt xs j ∧ j ≤ xs.length ∧ SpOut w w' S (.slice a xs.length cap) j (spT d false (vsAt xs i) left).2.2.2) := by
    have h := hB i left w hi h0 h1 hS hx
    have e1 : (d == 3) = false := by simp; omega
    have e2 : 3 - (d : Int) = 2 - (d : Int) + 1 := by omega
    rw [e1, e2] at h
    exact h
  clear hB hS hx P
  generalize spT d false (vsAt xs i) left = R at *
  go_enter Tryz.func35, Tryz.ntmps35
  go_wp2_with fail
  refine HB.out.mono ?_
  rintro e w1 ⟨s, j, rfl, hs, hv, hj, ho⟩
  have hz : s.size ≤ 330 := by
    have e : s.data.toList.length = s.size := by simp
    rw [← e, hs]
    omega
  have HO : Hid (s.data.toList = sp R.1 ∧ R.2.2.1 = vsAt xs j ∧ j ≤ xs.length ∧ SpOut w w1 S (.slice a xs.length cap) j R.2.2.2) := ⟨hs, hv, hj, ho⟩
  clear hs hv hj ho HB
  go_wp2_with fail
  go_ret
  exact ⟨_, j, rfl, brace_bytes HO.out.1 rfl rfl, HO.out.2⟩
theorem else_bytes {s r x : ByteArray} {us vs : List Wd} (h : s.data.toList = sp (kOpen :: (us ++ [kShut]))) (hr : r.data.toList = sp (kOpen :: (vs ++ [kShut]))) (ex : x.data.toList = [101, 108, 115, 101, 32]) : (s ++ x ++ r).data.toList = sp (kOpen :: (us ++ kShut :: kElse :: kOpen :: (vs ++ [kShut]))) := by
  rw [ByteArray.data_append, ByteArray.data_append, Array.toList_append, Array.toList_append, h, hr, ex]
  simp only [sp_cons, sp_append]
  simp [sp, kOpen, kShut, kElse]
set_option maxRecDepth 20000 in
set_option maxHeartbeats 4000000 in
theorem sp_answers (xs : List Int) (a : Option Addr) (b off cap S d : Nat) (hd : d ≤ 2) (hB : BlkK xs a b off cap S d) (hbS : 0 < xs.length → b ≠ S) (v i : Nat) (left : Int) (w : World) (hv : v < 1099511627776) (hi : i ≤ xs.length) (h0 : 0 ≤ left) (h1 : left ≤ 330) (hS : SpS w S (.slice a xs.length cap) i left) (hx : IntsIn w a b off xs) :
    Calls Tryz.prog 34 #[.pointer (some ⟨S, 0, none⟩), .int .i64 (2 - (d : Int)), .int .i64 (v : Nat)] w fun e w' => ∃ (s : ByteArray) (j : Nat), e = .returned (.string s) ∧ s.data.toList = sp (ansS (spT d false) (nilT (d + 2)) v (vsAt xs i) left).1 ∧ (ansS (spT d false) (nilT (d + 2)) v (vsAt xs i) left).2.2.1 = vsAt xs j ∧ j ≤ xs.length ∧ SpOut w w' S (.slice a xs.length cap) j (ansS (spT d false) (nilT (d + 2)) v (vsAt xs i) left).2.2.2 := by
  have PA := spT_ok d (by omega) false (vsAt xs i) left h0
  have hsA := PA.sz
  have hlA := PA.l0
  have HA : Hid (Calls Tryz.prog 35 _ w _) := sp_braced xs a b off cap S d hd hB i left w hi h0 h1 hS hx
  have HX : Hid (IntsIn w a b off xs) := hx
  have HBK : Hid (BlkK xs a b off cap S d ∧ (0 < xs.length → b ≠ S)) := ⟨hB, hbS⟩
  clear hS hx hB PA hbS
  unfold ansS
  by_cases h3 : v % 3 = 0
  · rw [if_pos h3]
    have b3 : ((v : Int) % 3 == 0) = true := by simp; omega
    generalize spT d false (vsAt xs i) left = R at *
    clear HBK HX
    go_enter Tryz.func34, Tryz.ntmps34
    go_wp2_with fail
    refine HA.out.mono ?_
    rintro e w1 ⟨s, j, rfl, ho⟩
    have HO : Hid _ := ho
    clear ho HA
    go_wp2_with fail
    go_ret
    exact ⟨s, j, rfl, HO.out⟩
  · rw [if_neg h3]
    have b3 : ((v : Int) % 3 == 0) = false := by simp; omega
    have HSB : Hid (∀ (j : Nat) W, (spT d false (vsAt xs i) left).2.2.1 = vsAt xs j → j ≤ xs.length → SpOut w W S (.slice a xs.length cap) j (spT d false (vsAt xs i) left).2.2.2 → Calls Tryz.prog 35 #[.pointer (some ⟨S, 0, none⟩), .int .i64 (2 - (d : Int))] W fun e w' => ∃ (s : ByteArray) (j' : Nat), e = .returned (.string s) ∧ s.size ≤ 340 ∧ s.data.toList = sp (kOpen :: ((spT d false (spT d false (vsAt xs i) left).2.2.1 (spT d false (vsAt xs i) left).2.2.2).1 ++ [kShut])) ∧ (spT d false (spT d false (vsAt xs i) left).2.2.1 (spT d false (vsAt xs i) left).2.2.2).2.2.1 = vsAt xs j' ∧ j' ≤ xs.length ∧ SpOut w w' S (.slice a xs.length cap) j' (spT d false (spT d false (vsAt xs i) left).2.2.1 (spT d false (vsAt xs i) left).2.2.2).2.2.2) := fun j W hv hj ho => by
      have hxx : IntsIn W a b off xs := fun hp => HX.out.fr ho.fr (HBK.out.2 hp) hp
      have h := sp_braced xs a b off cap S d hd HBK.out.1 j (spT d false (vsAt xs i) left).2.2.2 W hj hlA (by omega) ho.st hxx
      have P2 := spT_ok d (by omega) false (vsAt xs j) (spT d false (vsAt xs i) left).2.2.2 hlA
      have hs2 := P2.sz
      have hl2 := P2.l0
      rw [hv]
      generalize spT d false (vsAt xs j) (spT d false (vsAt xs i) left).2.2.2 = R2 at *
      refine h.mono ?_
      rintro e w' ⟨s, j', rfl, g1, g2, g3, g4⟩
      refine ⟨s, j', rfl, ?_, g1, g2, g3, ho.trans g4⟩
      have e : s.data.toList.length = s.size := by simp
      rw [← e, g1, sp_len_cons, sp_len_app, sp_len_cons]
      simp only [kOpen, kShut, sp, List.length_cons, List.length_nil, List.flatMap_nil]
      simp only [sp] at hs2
      omega
    generalize spT d false (spT d false (vsAt xs i) left).2.2.1 (spT d false (vsAt xs i) left).2.2.2 = R2 at *
    generalize spT d false (vsAt xs i) left = R at *
    clear HBK HX
    go_enter Tryz.func34, Tryz.ntmps34
    go_wp2_with fail
    refine HA.out.mono ?_
    rintro e w1 ⟨s, j, rfl, g1, g2, g3, g4⟩
    have hz : s.size ≤ 340 := by
      have e : s.data.toList.length = s.size := by simp
      rw [← e, g1, sp_len_cons, sp_len_app, sp_len_cons]
      simp only [kOpen, kShut, sp, List.length_cons, List.length_nil, List.flatMap_nil]
      simp only [sp] at hsA
      omega
    have HO : Hid (s.data.toList = sp (kOpen :: (R.1 ++ [kShut]))) := g1
    have HC := HSB.out j w1 g2 g3 g4
    clear g1 g2 g3 g4 HA HSB
    have HCC := (show Hid _ from HC : Hid (Calls Tryz.prog 35 #[.pointer (some ⟨S, 0, none⟩), .int .i64 (2 - (d : Int))] w1 _))
    clear HC
    go_wp2_with fail
    refine HCC.out.mono ?_
    rintro e w2 ⟨r, j', rfl, hz2, g1, g2⟩
    have HO2 : Hid (r.data.toList = sp (kOpen :: (R2.1 ++ [kShut])) ∧ _) := ⟨g1, g2⟩
    clear g1 g2 HCC
    go_wp2_with fail
    go_ret
    exact ⟨_, j', rfl, else_bytes HO.out HO2.out.1 rfl, HO2.out.2⟩
end Go.Proofs.YtmmmnghiegajmabGreat
