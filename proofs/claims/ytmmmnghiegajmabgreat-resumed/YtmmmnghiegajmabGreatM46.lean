import Derived.Test.YtmmmnghiegajmabGreatM23
/- Raw numbers spell a text: the block. -/
namespace Go.Proofs.YtmmmnghiegajmabGreat
open Go.RowKit Go.Proofs.Herald
/-- The blocks that lie in a block: what spells them, in memory. -/
structure SubK (xs : List Int) (a : Option Addr) (b off cap S : Nat) (depth : Int) {T : Type} (sb : List Nat → Int → SpR T) (nil : T) : Prop where
  ans : ∀ (v i : Nat) (left : Int) (w : World), v < 1099511627776 → i ≤ xs.length → 0 ≤ left → left ≤ 330 → SpS w S (.slice a xs.length cap) i left → IntsIn w a b off xs →
    Calls Tryz.prog 34 #[.pointer (some ⟨S, 0, none⟩), .int .i64 depth, .int .i64 (v : Nat)] w fun e w' => ∃ (s : ByteArray) (j : Nat), e = .returned (.string s) ∧ s.data.toList = sp (ansS sb nil v (vsAt xs i) left).1 ∧ (ansS sb nil v (vsAt xs i) left).2.2.1 = vsAt xs j ∧ j ≤ xs.length ∧ SpOut w w' S (.slice a xs.length cap) j (ansS sb nil v (vsAt xs i) left).2.2.2
  brc : ∀ (i : Nat) (left : Int) (w : World), i ≤ xs.length → 0 ≤ left → left ≤ 330 → SpS w S (.slice a xs.length cap) i left → IntsIn w a b off xs →
    Calls Tryz.prog 35 #[.pointer (some ⟨S, 0, none⟩), .int .i64 depth] w fun e w' => ∃ (s : ByteArray) (j : Nat), e = .returned (.string s) ∧ s.data.toList = sp (kOpen :: ((sb (vsAt xs i) left).1 ++ [kShut])) ∧ (sb (vsAt xs i) left).2.2.1 = vsAt xs j ∧ j ≤ xs.length ∧ SpOut w w' S (.slice a xs.length cap) j (sb (vsAt xs i) left).2.2.2
  szA : ∀ v vs left, 0 ≤ left → ((sp (ansS sb nil v vs left).1).length : Int) + (ansS sb nil v vs left).2.2.2 ≤ left + 13 ∧ 0 ≤ (ansS sb nil v vs left).2.2.2 ∧ (ansS sb nil v vs left).2.2.1.length ≤ vs.length
  szB : ∀ vs left, 0 ≤ left → ((sp (sb vs left).1).length : Int) + (sb vs left).2.2.2 ≤ left ∧ 0 ≤ (sb vs left).2.2.2 ∧ (sb vs left).2.2.1.length ≤ vs.length
/-- Where the speller is in a block. -/
structure SpIn {T : Type} (xs : List Int) (cv : Value) (S : Nat) (sub : Option (List Nat → Int → SpR T)) (nil : T) (top : Bool) (R0 : SpR (List (Hd × T × T))) (left0 : Int) (w : World) (s : ByteArray) (i : Nat) (left : Int) (f : Nat) (pre : List Wd) (wr : World) : Prop where
  bytes : s.data.toList = sp pre
  size : (s.size : Int) + left ≤ left0
  ile : i ≤ xs.length
  l0 : 0 ≤ left
  fuel : xs.length - i ≤ f
  us : R0.1 = pre ++ (blkS sub nil top f (vsAt xs i) left).1
  rest : R0.2.2 = (blkS sub nil top f (vsAt xs i) left).2.2
  out : SpOut w wr S cv i left
theorem blkS_some {T : Type} {sub : Option (List Nat → Int → SpR T)} {nil : T} {top : Bool} {f v : Nat} {vs : List Nat} {left : Int} {p : SpR (List (Hd × T × T))} (h : stepS sub nil top v vs left = some p) : blkS sub nil top (f + 1) (v :: vs) left = (p.1 ++ (blkS sub nil top f p.2.2.1 p.2.2.2).1, p.2.1 ++ (blkS sub nil top f p.2.2.1 p.2.2.2).2.1, (blkS sub nil top f p.2.2.1 p.2.2.2).2.2) := by
  rw [blkS, h]
theorem blkS_none {T : Type} {sub : Option (List Nat → Int → SpR T)} {nil : T} {top : Bool} {f v : Nat} {vs : List Nat} {left : Int} (h : stepS sub nil top v vs left = none) : blkS sub nil top (f + 1) (v :: vs) left = ([], [], vs, left) := by
  rw [blkS, h]
theorem blkS_nil {T : Type} {sub : Option (List Nat → Int → SpR T)} {nil : T} {top : Bool} {left : Int} : ∀ f : Nat, blkS sub nil top f [] left = ([], [], [], left)
  | 0 => rfl
  | _ + 1 => rfl
theorem SpIn.next {T : Type} {xs : List Int} {cv : Value} {S : Nat} {sub : Option (List Nat → Int → SpR T)} {nil : T} {top : Bool} {R0 : SpR (List (Hd × T × T))} {left0 : Int} {w : World} {s : ByteArray} {i : Nat} {left : Int} {f : Nat} {pre : List Wd} {wr : World} (I : SpIn xs cv S sub nil top R0 left0 w s i left f pre wr) (hi : i < xs.length) {p : SpR (List (Hd × T × T))}
    (hp : stepS sub nil top (pickN xs[i]) (vsAt xs (i + 1)) left = some p) {part : ByteArray} (hb : part.data.toList = sp p.1) {j : Nat} (hv : p.2.2.1 = vsAt xs j) (hl : p.2.2.1.length ≤ (vsAt xs (i + 1)).length) (hjn : j ≤ xs.length) (h0 : 0 ≤ p.2.2.2) (hz : ((sp p.1).length : Int) + p.2.2.2 ≤ left) {wr' : World} (ho : SpOut w wr' S cv j p.2.2.2) :
    i < j ∧ SpIn xs cv S sub nil top R0 left0 w (s ++ part) j p.2.2.2 (f - 1) (pre ++ p.1) wr' := by
  have hij : i < j := by
    rw [hv, vsAt_len, vsAt_len] at hl
    omega
  have hf := I.fuel
  obtain ⟨g, rfl⟩ : ∃ g, f = g + 1 := ⟨f - 1, by omega⟩
  have e := I.us
  have e2 := I.rest
  rw [vsAt_cons hi, blkS_some hp, hv] at e e2
  have es : part.data.toList.length = part.size := by simp
  refine ⟨hij, ?_, ?_, hjn, h0, by omega, ?_, ?_, ho⟩
  · rw [ByteArray.data_append, Array.toList_append, I.bytes, hb, sp_append]
  · have := I.size
    rw [ByteArray.size_append, ← es, hb]
    omega
  · rw [e, List.append_assoc]
    rfl
  · exact e2
def atOf (S : Nat) (w : World) : Nat := match w.cell? ⟨S, 1, none⟩ with
  | some (.int _ n) => n.toNat
  | _ => 0
theorem atOf_eq {S : Nat} {w : World} {cv : Value} {i : Nat} {left : Int} (h : SpS w S cv i left) : atOf S w = i := by
  unfold atOf
  rw [show w.cell? ⟨S, 1, none⟩ = some (.int .i64 (i : Nat)) from (cell_of_heap h).trans rfl]
  rfl
theorem byte_empty (s : ByteArray) : s ++ (⟨#[]⟩ : ByteArray) = s := by
  apply ByteArray.ext
  rw [ByteArray.data_append]
  simp
theorem two_bytes {x q y : ByteArray} {k u : Wd} (hx : x.data.toList = k ++ [32]) (hq : q.data.toList = u) (hy : y.data.toList = [32]) : (x ++ q ++ y).data.toList = sp [k, u] := by
  rw [ByteArray.data_append, ByteArray.data_append, Array.toList_append, Array.toList_append, hx, hq, hy]
  simp [sp]
theorem ask_part {x q y n r : ByteArray} {k u v : Wd} {us : List Wd} (hx : x.data.toList = k ++ [32]) (hq : q.data.toList = u) (hn : n.data.toList = v) (hy : y.data.toList = [32]) (hr : r.data.toList = sp us) : (x ++ q ++ y ++ n ++ y ++ r).data.toList = sp ([k, u, v] ++ us) := by
  simp only [ByteArray.data_append, Array.toList_append, hx, hq, hy, hn, hr, sp_append]
  simp [sp]
theorem retry_part {x m q y n r : ByteArray} {k t u v : Wd} {us : List Wd} (hx : x.data.toList = k ++ [32]) (hm : m.data.toList = t) (hq : q.data.toList = u) (hn : n.data.toList = v) (hy : y.data.toList = [32]) (hr : r.data.toList = sp us) : (x ++ m ++ y ++ q ++ y ++ n ++ y ++ r).data.toList = sp ([k, t, u, v] ++ us) := by
  simp only [ByteArray.data_append, Array.toList_append, hx, hm, hq, hy, hn, hr, sp_append]
  simp [sp]
theorem repeat_part {x q y r : ByteArray} {k u : Wd} {us : List Wd} (hx : x.data.toList = k ++ [32]) (hq : q.data.toList = u) (hy : y.data.toList = [32]) (hr : r.data.toList = sp us) : (x ++ q ++ y ++ r).data.toList = sp ([k, u] ++ us) := by
  simp only [ByteArray.data_append, Array.toList_append, hx, hq, hy, hr, sp_append]
  simp [sp]
theorem bytes_len {s : ByteArray} {l : List UInt8} (h : s.data.toList = l) : s.size = l.length := by
  rw [← h]
  simp
theorem letter_int (v : Nat) (hv : v < 1099511627776) (W : World) : Calls Tryz.prog 31 #[.int .i64 ((v : Int) / 11)] W fun e w' => ∃ s : ByteArray, e = .returned (.string s) ∧ s.data.toList = letterB (v / 11) ∧ Below W.heap.size W w' := by
  have h := c_letter ((v : Int) / 11) W (by omega) (by omega)
  have e : (pickI ((v : Int) / 11) 8).toNat = v / 11 % 8 := by
    unfold pickI
    rw [if_neg (by omega)]
    omega
  rw [e, ← letter_mod] at h
  exact h
theorem digits_int (n : Int) (k : Nat) (hk : n = (k : Nat)) (hn : k < 1000) (W : World) : Calls Tryz.prog 32 #[.int .i64 n] W fun e w' => ∃ s : ByteArray, e = .returned (.string s) ∧ s.data.toList = digitsB k ∧ Below W.heap.size W w' := by
  have h := c_digits n W (by omega) (by omega)
  have e : n.toNat = k := by omega
  rw [e] at h
  exact h
theorem SpIn.stop {T : Type} {xs : List Int} {cv : Value} {S : Nat} {sub : Option (List Nat → Int → SpR T)} {nil : T} {top : Bool} {R0 : SpR (List (Hd × T × T))} {left0 : Int} {w : World} {s : ByteArray} {i : Nat} {left : Int} {f : Nat} {pre : List Wd} {wr : World} (I : SpIn xs cv S sub nil top R0 left0 w s i left f pre wr) (hi : i < xs.length) (hp : stepS sub nil top (pickN xs[i]) (vsAt xs (i + 1)) left = none) : s.data.toList = sp R0.1 ∧ R0.2.2.1 = vsAt xs (i + 1) ∧ R0.2.2.2 = left := by
  have hf := I.fuel
  obtain ⟨g, rfl⟩ : ∃ g, f = g + 1 := ⟨f - 1, by omega⟩
  have e := I.us
  have e2 := I.rest
  rw [vsAt_cons hi, blkS_none hp] at e e2
  simp only [List.append_nil] at e
  rw [e, e2]
  exact ⟨I.bytes, rfl, rfl⟩
theorem SpIn.fin {T : Type} {xs : List Int} {cv : Value} {S : Nat} {sub : Option (List Nat → Int → SpR T)} {nil : T} {top : Bool} {R0 : SpR (List (Hd × T × T))} {left0 : Int} {w : World} {s : ByteArray} {i : Nat} {left : Int} {f : Nat} {pre : List Wd} {wr : World} (I : SpIn xs cv S sub nil top R0 left0 w s i left f pre wr) (hi : ¬ i < xs.length) : s.data.toList = sp R0.1 ∧ R0.2.2.1 = vsAt xs i ∧ R0.2.2.2 = left := by
  have e := I.us
  have e2 := I.rest
  rw [vsAt_end hi, blkS_nil] at e e2
  simp only [List.append_nil] at e
  rw [e, e2, vsAt_end hi]
  exact ⟨I.bytes, rfl, rfl⟩
theorem SpOut.sameH {w w1 w2 : World} {S i : Nat} {cv : Value} {l : Int} (h : SpOut w w1 S cv i l) (hs : SameH w1 w2) : SpOut w w2 S cv i l := h.below ⟨hs.os, hs.tape, hs.output, by rw [hs.heap]; exact Nat.le_refl _, fun k _ => by rw [hs.heap]⟩
theorem room_yes (w : World) (S i : Nat) (cv : Value) (left n : Int) (W : World) (ho : SpOut w W S cv i left) (h0 : 0 ≤ left) (h1 : left ≤ 330) (hn : 0 ≤ n) (hn2 : n ≤ 100) (h : n ≤ left) : Calls Tryz.prog 33 #[.pointer (some ⟨S, 0, none⟩), .int .i64 n] W fun e w' => e = .returned (.bool true) ∧ SpOut w w' S cv i (left - n) := by
  have g := sp_room S i cv left n W ho.st h0 h1 hn hn2
  rw [if_pos h, show decide (n ≤ left) = true by simpa using h] at g
  exact g.mono fun e w' hh => ⟨hh.1, ho.trans hh.2⟩
theorem room_no (w : World) (S i : Nat) (cv : Value) (left n : Int) (W : World) (ho : SpOut w W S cv i left) (h0 : 0 ≤ left) (h1 : left ≤ 330) (hn : 0 ≤ n) (hn2 : n ≤ 100) (h : ¬ n ≤ left) : Calls Tryz.prog 33 #[.pointer (some ⟨S, 0, none⟩), .int .i64 n] W fun e w' => e = .returned (.bool false) ∧ SpOut w w' S cv i left := by
  have g := sp_room S i cv left n W ho.st h0 h1 hn hn2
  rw [if_neg h, show decide (n ≤ left) = false by simpa using h] at g
  exact g.mono fun e w' hh => ⟨hh.1, ho.trans hh.2⟩
set_option maxRecDepth 40000 in
set_option maxHeartbeats 40000000 in
theorem sp_block_on {T : Type} (xs : List Int) (a : Option Addr) (b off cap S : Nat) (depth : Int) (sub : Option (List Nat → Int → SpR T)) (nil : T) (i0 : Nat) (left0 : Int) (w : World) (hd0 : 0 ≤ depth) (hd3 : depth ≤ 3) (hsub : (depth = 3 ∧ sub = none) ∨ (depth < 3 ∧ ∃ sb, sub = some sb ∧ SubK xs a b off cap S depth sb nil))
    (hbS : 0 < xs.length → b ≠ S) (hr : ∀ x ∈ xs, -9223372036854775808 ≤ x ∧ x ≤ 9223372036854775807) (hl : xs.length ≤ 4000000000) (hi : i0 ≤ xs.length) (h0 : 0 ≤ left0) (h1 : left0 ≤ 330) (hS : SpS w S (.slice a xs.length cap) i0 left0) (hx : IntsIn w a b off xs) :
    Calls Tryz.prog 16 #[.pointer (some ⟨S, 0, none⟩), .int .i64 depth] w fun e w' => ∃ (s : ByteArray) (j : Nat), e = .returned (.string s) ∧ s.data.toList = sp (blkS sub nil (depth == 0) (xs.length - i0) (vsAt xs i0) left0).1 ∧ (blkS sub nil (depth == 0) (xs.length - i0) (vsAt xs i0) left0).2.2.1 = vsAt xs j ∧ j ≤ xs.length ∧ SpOut w w' S (.slice a xs.length cap) j (blkS sub nil (depth == 0) (xs.length - i0) (vsAt xs i0) left0).2.2.2 := by
  obtain ⟨R0, hR0⟩ : ∃ R, R = blkS sub nil (depth == 0) (xs.length - i0) (vsAt xs i0) left0 := ⟨_, rfl⟩
  rw [← hR0]
  have HI0 : Hid (SpIn xs (.slice a xs.length cap) S sub nil (depth == 0) R0 left0 w ⟨#[]⟩ i0 left0 (xs.length - i0) [] w) := ⟨rfl, by show ((0 : Nat) : Int) + left0 ≤ left0; omega, hi, h0, Nat.le_refl _, by rw [hR0]; rfl, by rw [hR0], hS, Fr.refl _ _⟩
  have HALL : Hid ((∀ x ∈ xs, -9223372036854775808 ≤ x ∧ x ≤ 9223372036854775807) ∧ (0 < xs.length → b ≠ S) ∧ IntsIn w a b off xs) := ⟨hr, hbS, hx⟩
  have HSUB : Hid ((depth = 3 ∧ sub = none) ∨ (depth < 3 ∧ ∃ sb, sub = some sb ∧ SubK xs a b off cap S depth sb nil)) := hsub
  clear hR0 hr hbS hx hS hi hsub
  go_enter Tryz.func16, Tryz.ntmps16
  go_wp2_with fail
  go_loopw [5] (fun out wr => ∃ (s : ByteArray) (i : Nat) (left : Int) (f : Nat) (pre : List Wd), out = .string s ∧ Hid (SpIn xs (.slice a xs.length cap) S sub nil (depth == 0) R0 left0 w s i left f pre wr)) (fun _ wr => xs.length - atOf S wr)
  case atStart => exact ⟨_, _, _, _, _, rfl, HI0.out⟩
  case round =>
    obtain ⟨s, i, left, f, pre, rfl, HI⟩ := hrel
    have s0 : wr.cell? ⟨S, 0, none⟩ = some (.slice a xs.length cap) := (cell_of_heap HI.out.out.st).trans rfl
    have s1 : wr.cell? ⟨S, 1, none⟩ = some (.int .i64 (i : Nat)) := (cell_of_heap HI.out.out.st).trans rfl
    have hSl : S < wr.heap.size := heap_lt HI.out.out.st
    have hile := HI.out.ile
    have hl0 := HI.out.l0
    have hsz := HI.out.size
    clear HI0
    by_cases hlt : i < xs.length
    · obtain ⟨v, hv⟩ : ∃ v, v = pickN xs[i] := ⟨_, rfl⟩
      have HN : Hid (∀ W, SameH wr W → Calls Tryz.prog 30 #[.pointer (some ⟨S, 0, none⟩)] W fun e w' => e = .returned (.int .i64 (v : Nat)) ∧ SpOut w w' S (.slice a xs.length cap) (i + 1) left) := fun W hs => by
        have ho := HI.out.out.sameH hs
        have hxx : IntsIn W a b off xs := fun hp => HALL.out.2.2.fr ho.fr (HALL.out.2.1 hp) hp
        rw [hv]
        exact (sp_next xs a b off cap S i left W ho.st hxx HALL.out.1 hlt hl).mono fun e w' hh => ⟨hh.1, ho.trans hh.2⟩
      have HV : Hid (v = pickN xs[i]) := hv
      have hv2 : v < 1099511627776 := by rw [hv]; exact pickN_lt _
      have HLT : Hid (∀ W, Calls Tryz.prog 31 #[.int .i64 ((v : Int) / 11)] W fun e w' => ∃ s : ByteArray, e = .returned (.string s) ∧ s.data.toList = letterB (v / 11) ∧ Below W.heap.size W w') := fun W => letter_int v hv2 W
      have HDG : Hid (∀ W, Calls Tryz.prog 32 #[.int .i64 (1 + (v : Int) / 88 % 9)] W fun e w' => ∃ s : ByteArray, e = .returned (.string s) ∧ s.data.toList = digitsB (1 + v / 88 % 9) ∧ Below W.heap.size W w') := fun W => digits_int _ (1 + v / 88 % 9) (by omega) (by omega) W
      clear hv
      go_wp2_with fail
      go_region
      all_goals
        go_wp2_with fail
        refine (HN.out _ (by first | exact SameH.refl _ | exact (SameH.refl _).drew)).mono ?_
        rintro e w1 ⟨rfl, ho1⟩
        have HO1 : Hid (SpOut w w1 S (.slice a xs.length cap) (i + 1) left) := ho1
        clear ho1 s0 s1 hSl HN
        go_wp2_with fail
        refine (HLT.out _).mono ?_
        rintro e w2 ⟨kb, rfl, hk, b2⟩
        have HO2 : Hid (SpOut w w2 S (.slice a xs.length cap) (i + 1) left ∧ kb.data.toList = letterB (v / 11)) := ⟨HO1.out.below b2, hk⟩
        have zk : kb.size = 1 := by rw [bytes_len hk]; rfl
        clear hk b2 HO1 HLT
        go_wp2_with fail
        refine (HDG.out _).mono ?_
        rintro e w3 ⟨nb, rfl, hn, b3⟩
        have HO3 : Hid (SpOut w w3 S (.slice a xs.length cap) (i + 1) left ∧ kb.data.toList = letterB (v / 11) ∧ nb.data.toList = digitsB (1 + v / 88 % 9)) := ⟨HO2.out.1.below b3, HO2.out.2, hn⟩
        have zn : nb.size = 1 := by rw [bytes_len hn]; exact dig1 (by omega)
        clear hn b3 HO2 HDG
        have hcases : v % 11 = 0 ∨ v % 11 = 1 ∨ v % 11 = 2 ∨ v % 11 = 3 ∨ v % 11 = 4 ∨ v % 11 = 5 ∨ v % 11 = 6 ∨ v % 11 = 7 ∨ v % 11 = 8 ∨ v % 11 = 9 ∨ v % 11 = 10 := by omega
        rcases hcases with hc | hc | hc | hc | hc | hc | hc | hc | hc | hc | hc
        · have hci : (v : Int) % 11 = 0 := by omega
          by_cases hroom : (7 : Int) ≤ left
          · have HST : Hid (stepS sub nil (depth == 0) (pickN xs[i]) (vsAt xs (i + 1)) left = some ([kSend, letterB (v / 11)], [(hSend (v / 11 % 8 : Nat), nil, nil)], vsAt xs (i + 1), left - 7)) := by
              show stepS sub nil (depth == 0) (pickN xs[i]) (vsAt xs (i + 1)) left = some ([kSend, letterB (v / 11)], [(hSend (v / 11 % 8 : Nat), nil, nil)], vsAt xs (i + 1), left - 7)
              rw [← HV.out]
              unfold stepS
              rw [if_pos (by omega), if_pos hroom]
            go_wp2_with fail
            refine (room_yes w S (i + 1) _ left 7 _ HO3.out.1 hl0 (by omega) (by omega) (by omega) (by omega)).mono ?_
            rintro e w4 ⟨rfl, ho4⟩
            have HO4 : Hid (SpOut w w4 S (.slice a xs.length cap) (i + 1) (left - 7)) := ho4
            clear ho4
            go_wp2_with fail
            go_roundw
            case rel =>
              obtain ⟨hij, I'⟩ := HI.out.next hlt HST.out (two_bytes (x := ⟨#[115, 101, 110, 100, 32]⟩) (y := ⟨#[32]⟩) rfl HO3.out.2.1 rfl) rfl (Nat.le_refl _) (by omega) (by show 0 ≤ left - 7; omega) (by show ((sp [kSend, letterB (v / 11)]).length : Int) + (left - 7) ≤ left; simp [sp, kSend, letterB]; omega) HO4.out
              exact ⟨_, _, _, _, _, rfl, I'⟩
            case measure =>
              obtain ⟨hij, I'⟩ := HI.out.next hlt HST.out (two_bytes (x := ⟨#[115, 101, 110, 100, 32]⟩) (y := ⟨#[32]⟩) rfl HO3.out.2.1 rfl) rfl (Nat.le_refl _) (by omega) (by show 0 ≤ left - 7; omega) (by show ((sp [kSend, letterB (v / 11)]).length : Int) + (left - 7) ≤ left; simp [sp, kSend, letterB]; omega) HO4.out
              rw [atOf_eq HO4.out.st, atOf_eq HI.out.out.st]
              omega
          · have HST : Hid (stepS sub nil (depth == 0) (pickN xs[i]) (vsAt xs (i + 1)) left = some (([], [], vsAt xs (i + 1), left) : SpR (List (Hd × T × T)))) := by
              show stepS sub nil (depth == 0) (pickN xs[i]) (vsAt xs (i + 1)) left = some (([], [], vsAt xs (i + 1), left) : SpR (List (Hd × T × T)))
              rw [← HV.out]
              unfold stepS
              rw [if_pos (by omega), if_neg hroom]
            go_wp2_with fail
            refine (room_no w S (i + 1) _ left 7 _ HO3.out.1 hl0 (by omega) (by omega) (by omega) (by omega)).mono ?_
            rintro e w4 ⟨rfl, ho4⟩
            have HO4 : Hid (SpOut w w4 S (.slice a xs.length cap) (i + 1) left) := ho4
            clear ho4
            go_wp2_with fail
            go_roundw
            case rel =>
              obtain ⟨hij, I'⟩ := HI.out.next hlt HST.out (part := ⟨#[]⟩) rfl rfl (Nat.le_refl _) (by omega) (by show 0 ≤ left; omega) (by show ((sp ([] : List Wd)).length : Int) + left ≤ left; simp [sp]) HO4.out
              first | exact ⟨_, _, _, _, _, rfl, I'⟩ | (rw [byte_empty] at I'; exact ⟨_, _, _, _, _, rfl, I'⟩) | trace_state
            case measure =>
              rw [atOf_eq HO4.out.st, atOf_eq HI.out.out.st]
              omega
        · have hci : (v : Int) % 11 = 1 := by omega
          by_cases hroom : (7 : Int) ≤ left
          · have HST : Hid (stepS sub nil (depth == 0) (pickN xs[i]) (vsAt xs (i + 1)) left = some ([kSend, letterB (v / 11)], [(hSend (v / 11 % 8 : Nat), nil, nil)], vsAt xs (i + 1), left - 7)) := by
              show stepS sub nil (depth == 0) (pickN xs[i]) (vsAt xs (i + 1)) left = some ([kSend, letterB (v / 11)], [(hSend (v / 11 % 8 : Nat), nil, nil)], vsAt xs (i + 1), left - 7)
              rw [← HV.out]
              unfold stepS
              rw [if_pos (by omega), if_pos hroom]
            go_wp2_with fail
            refine (room_yes w S (i + 1) _ left 7 _ HO3.out.1 hl0 (by omega) (by omega) (by omega) (by omega)).mono ?_
            rintro e w4 ⟨rfl, ho4⟩
            have HO4 : Hid (SpOut w w4 S (.slice a xs.length cap) (i + 1) (left - 7)) := ho4
            clear ho4
            go_wp2_with fail
            go_roundw
            case rel =>
              obtain ⟨hij, I'⟩ := HI.out.next hlt HST.out (two_bytes (x := ⟨#[115, 101, 110, 100, 32]⟩) (y := ⟨#[32]⟩) rfl HO3.out.2.1 rfl) rfl (Nat.le_refl _) (by omega) (by show 0 ≤ left - 7; omega) (by show ((sp [kSend, letterB (v / 11)]).length : Int) + (left - 7) ≤ left; simp [sp, kSend, letterB]; omega) HO4.out
              exact ⟨_, _, _, _, _, rfl, I'⟩
            case measure =>
              obtain ⟨hij, I'⟩ := HI.out.next hlt HST.out (two_bytes (x := ⟨#[115, 101, 110, 100, 32]⟩) (y := ⟨#[32]⟩) rfl HO3.out.2.1 rfl) rfl (Nat.le_refl _) (by omega) (by show 0 ≤ left - 7; omega) (by show ((sp [kSend, letterB (v / 11)]).length : Int) + (left - 7) ≤ left; simp [sp, kSend, letterB]; omega) HO4.out
              rw [atOf_eq HO4.out.st, atOf_eq HI.out.out.st]
              omega
          · have HST : Hid (stepS sub nil (depth == 0) (pickN xs[i]) (vsAt xs (i + 1)) left = some (([], [], vsAt xs (i + 1), left) : SpR (List (Hd × T × T)))) := by
              show stepS sub nil (depth == 0) (pickN xs[i]) (vsAt xs (i + 1)) left = some (([], [], vsAt xs (i + 1), left) : SpR (List (Hd × T × T)))
              rw [← HV.out]
              unfold stepS
              rw [if_pos (by omega), if_neg hroom]
            go_wp2_with fail
            refine (room_no w S (i + 1) _ left 7 _ HO3.out.1 hl0 (by omega) (by omega) (by omega) (by omega)).mono ?_
            rintro e w4 ⟨rfl, ho4⟩
            have HO4 : Hid (SpOut w w4 S (.slice a xs.length cap) (i + 1) left) := ho4
            clear ho4
            go_wp2_with fail
            go_roundw
            case rel =>
              obtain ⟨hij, I'⟩ := HI.out.next hlt HST.out (part := ⟨#[]⟩) rfl rfl (Nat.le_refl _) (by omega) (by show 0 ≤ left; omega) (by show ((sp ([] : List Wd)).length : Int) + left ≤ left; simp [sp]) HO4.out
              first | exact ⟨_, _, _, _, _, rfl, I'⟩ | (rw [byte_empty] at I'; exact ⟨_, _, _, _, _, rfl, I'⟩) | trace_state
            case measure =>
              rw [atOf_eq HO4.out.st, atOf_eq HI.out.out.st]
              omega
        · have hci : (v : Int) % 11 = 2 := by omega
          by_cases hroom : (7 : Int) ≤ left
          · have HST : Hid (stepS sub nil (depth == 0) (pickN xs[i]) (vsAt xs (i + 1)) left = some ([kSend, letterB (v / 11)], [(hSend (v / 11 % 8 : Nat), nil, nil)], vsAt xs (i + 1), left - 7)) := by
              show stepS sub nil (depth == 0) (pickN xs[i]) (vsAt xs (i + 1)) left = some ([kSend, letterB (v / 11)], [(hSend (v / 11 % 8 : Nat), nil, nil)], vsAt xs (i + 1), left - 7)
              rw [← HV.out]
              unfold stepS
              rw [if_pos (by omega), if_pos hroom]
            go_wp2_with fail
            refine (room_yes w S (i + 1) _ left 7 _ HO3.out.1 hl0 (by omega) (by omega) (by omega) (by omega)).mono ?_
            rintro e w4 ⟨rfl, ho4⟩
            have HO4 : Hid (SpOut w w4 S (.slice a xs.length cap) (i + 1) (left - 7)) := ho4
            clear ho4
            go_wp2_with fail
            go_roundw
            case rel =>
              obtain ⟨hij, I'⟩ := HI.out.next hlt HST.out (two_bytes (x := ⟨#[115, 101, 110, 100, 32]⟩) (y := ⟨#[32]⟩) rfl HO3.out.2.1 rfl) rfl (Nat.le_refl _) (by omega) (by show 0 ≤ left - 7; omega) (by show ((sp [kSend, letterB (v / 11)]).length : Int) + (left - 7) ≤ left; simp [sp, kSend, letterB]; omega) HO4.out
              exact ⟨_, _, _, _, _, rfl, I'⟩
            case measure =>
              obtain ⟨hij, I'⟩ := HI.out.next hlt HST.out (two_bytes (x := ⟨#[115, 101, 110, 100, 32]⟩) (y := ⟨#[32]⟩) rfl HO3.out.2.1 rfl) rfl (Nat.le_refl _) (by omega) (by show 0 ≤ left - 7; omega) (by show ((sp [kSend, letterB (v / 11)]).length : Int) + (left - 7) ≤ left; simp [sp, kSend, letterB]; omega) HO4.out
              rw [atOf_eq HO4.out.st, atOf_eq HI.out.out.st]
              omega
          · have HST : Hid (stepS sub nil (depth == 0) (pickN xs[i]) (vsAt xs (i + 1)) left = some (([], [], vsAt xs (i + 1), left) : SpR (List (Hd × T × T)))) := by
              show stepS sub nil (depth == 0) (pickN xs[i]) (vsAt xs (i + 1)) left = some (([], [], vsAt xs (i + 1), left) : SpR (List (Hd × T × T)))
              rw [← HV.out]
              unfold stepS
              rw [if_pos (by omega), if_neg hroom]
            go_wp2_with fail
            refine (room_no w S (i + 1) _ left 7 _ HO3.out.1 hl0 (by omega) (by omega) (by omega) (by omega)).mono ?_
            rintro e w4 ⟨rfl, ho4⟩
            have HO4 : Hid (SpOut w w4 S (.slice a xs.length cap) (i + 1) left) := ho4
            clear ho4
            go_wp2_with fail
            go_roundw
            case rel =>
              obtain ⟨hij, I'⟩ := HI.out.next hlt HST.out (part := ⟨#[]⟩) rfl rfl (Nat.le_refl _) (by omega) (by show 0 ≤ left; omega) (by show ((sp ([] : List Wd)).length : Int) + left ≤ left; simp [sp]) HO4.out
              first | exact ⟨_, _, _, _, _, rfl, I'⟩ | (rw [byte_empty] at I'; exact ⟨_, _, _, _, _, rfl, I'⟩) | trace_state
            case measure =>
              rw [atOf_eq HO4.out.st, atOf_eq HI.out.out.st]
              omega
        · have hci : (v : Int) % 11 = 3 := by omega
          by_cases hroom : (7 : Int) ≤ left
          · have HST : Hid (stepS sub nil (depth == 0) (pickN xs[i]) (vsAt xs (i + 1)) left = some ([kWait, digitsB (1 + v / 88 % 9)], [(hWait (1 + v / 88 % 9 : Nat), nil, nil)], vsAt xs (i + 1), left - 7)) := by
              show stepS sub nil (depth == 0) (pickN xs[i]) (vsAt xs (i + 1)) left = some ([kWait, digitsB (1 + v / 88 % 9)], [(hWait (1 + v / 88 % 9 : Nat), nil, nil)], vsAt xs (i + 1), left - 7)
              rw [← HV.out]
              unfold stepS
              rw [if_neg (by omega), if_pos (by omega), if_pos hroom]
            go_wp2_with fail
            refine (room_yes w S (i + 1) _ left 7 _ HO3.out.1 hl0 (by omega) (by omega) (by omega) (by omega)).mono ?_
            rintro e w4 ⟨rfl, ho4⟩
            have HO4 : Hid (SpOut w w4 S (.slice a xs.length cap) (i + 1) (left - 7)) := ho4
            clear ho4
            go_wp2_with fail
            go_roundw
            case rel =>
              obtain ⟨hij, I'⟩ := HI.out.next hlt HST.out (two_bytes (x := ⟨#[119, 97, 105, 116, 32]⟩) (y := ⟨#[32]⟩) rfl HO3.out.2.2 rfl) rfl (Nat.le_refl _) (by omega) (by show 0 ≤ left - 7; omega) (by show ((sp [kWait, digitsB (1 + v / 88 % 9)]).length : Int) + (left - 7) ≤ left; rw [sp_len_cons, sp_len_cons, dig1 (by omega)]; simp [sp, kWait]; omega) HO4.out
              exact ⟨_, _, _, _, _, rfl, I'⟩
            case measure =>
              obtain ⟨hij, I'⟩ := HI.out.next hlt HST.out (two_bytes (x := ⟨#[119, 97, 105, 116, 32]⟩) (y := ⟨#[32]⟩) rfl HO3.out.2.2 rfl) rfl (Nat.le_refl _) (by omega) (by show 0 ≤ left - 7; omega) (by show ((sp [kWait, digitsB (1 + v / 88 % 9)]).length : Int) + (left - 7) ≤ left; rw [sp_len_cons, sp_len_cons, dig1 (by omega)]; simp [sp, kWait]; omega) HO4.out
              rw [atOf_eq HO4.out.st, atOf_eq HI.out.out.st]
              omega
          · have HST : Hid (stepS sub nil (depth == 0) (pickN xs[i]) (vsAt xs (i + 1)) left = some (([], [], vsAt xs (i + 1), left) : SpR (List (Hd × T × T)))) := by
              show stepS sub nil (depth == 0) (pickN xs[i]) (vsAt xs (i + 1)) left = some (([], [], vsAt xs (i + 1), left) : SpR (List (Hd × T × T)))
              rw [← HV.out]
              unfold stepS
              rw [if_neg (by omega), if_pos (by omega), if_neg hroom]
            go_wp2_with fail
            refine (room_no w S (i + 1) _ left 7 _ HO3.out.1 hl0 (by omega) (by omega) (by omega) (by omega)).mono ?_
            rintro e w4 ⟨rfl, ho4⟩
            have HO4 : Hid (SpOut w w4 S (.slice a xs.length cap) (i + 1) left) := ho4
            clear ho4
            go_wp2_with fail
            go_roundw
            case rel =>
              obtain ⟨hij, I'⟩ := HI.out.next hlt HST.out (part := ⟨#[]⟩) rfl rfl (Nat.le_refl _) (by omega) (by show 0 ≤ left; omega) (by show ((sp ([] : List Wd)).length : Int) + left ≤ left; simp [sp]) HO4.out
              first | exact ⟨_, _, _, _, _, rfl, I'⟩ | (rw [byte_empty] at I'; exact ⟨_, _, _, _, _, rfl, I'⟩) | trace_state
            case measure =>
              rw [atOf_eq HO4.out.st, atOf_eq HI.out.out.st]
              omega
        · have hci : (v : Int) % 11 = 4 := by omega
          by_cases hroom : (7 : Int) ≤ left
          · have HST : Hid (stepS sub nil (depth == 0) (pickN xs[i]) (vsAt xs (i + 1)) left = some ([kWait, digitsB (1 + v / 88 % 9)], [(hWait (1 + v / 88 % 9 : Nat), nil, nil)], vsAt xs (i + 1), left - 7)) := by
              show stepS sub nil (depth == 0) (pickN xs[i]) (vsAt xs (i + 1)) left = some ([kWait, digitsB (1 + v / 88 % 9)], [(hWait (1 + v / 88 % 9 : Nat), nil, nil)], vsAt xs (i + 1), left - 7)
              rw [← HV.out]
              unfold stepS
              rw [if_neg (by omega), if_pos (by omega), if_pos hroom]
            go_wp2_with fail
            refine (room_yes w S (i + 1) _ left 7 _ HO3.out.1 hl0 (by omega) (by omega) (by omega) (by omega)).mono ?_
            rintro e w4 ⟨rfl, ho4⟩
            have HO4 : Hid (SpOut w w4 S (.slice a xs.length cap) (i + 1) (left - 7)) := ho4
            clear ho4
            go_wp2_with fail
            go_roundw
            case rel =>
              obtain ⟨hij, I'⟩ := HI.out.next hlt HST.out (two_bytes (x := ⟨#[119, 97, 105, 116, 32]⟩) (y := ⟨#[32]⟩) rfl HO3.out.2.2 rfl) rfl (Nat.le_refl _) (by omega) (by show 0 ≤ left - 7; omega) (by show ((sp [kWait, digitsB (1 + v / 88 % 9)]).length : Int) + (left - 7) ≤ left; rw [sp_len_cons, sp_len_cons, dig1 (by omega)]; simp [sp, kWait]; omega) HO4.out
              exact ⟨_, _, _, _, _, rfl, I'⟩
            case measure =>
              obtain ⟨hij, I'⟩ := HI.out.next hlt HST.out (two_bytes (x := ⟨#[119, 97, 105, 116, 32]⟩) (y := ⟨#[32]⟩) rfl HO3.out.2.2 rfl) rfl (Nat.le_refl _) (by omega) (by show 0 ≤ left - 7; omega) (by show ((sp [kWait, digitsB (1 + v / 88 % 9)]).length : Int) + (left - 7) ≤ left; rw [sp_len_cons, sp_len_cons, dig1 (by omega)]; simp [sp, kWait]; omega) HO4.out
              rw [atOf_eq HO4.out.st, atOf_eq HI.out.out.st]
              omega
          · have HST : Hid (stepS sub nil (depth == 0) (pickN xs[i]) (vsAt xs (i + 1)) left = some (([], [], vsAt xs (i + 1), left) : SpR (List (Hd × T × T)))) := by
              show stepS sub nil (depth == 0) (pickN xs[i]) (vsAt xs (i + 1)) left = some (([], [], vsAt xs (i + 1), left) : SpR (List (Hd × T × T)))
              rw [← HV.out]
              unfold stepS
              rw [if_neg (by omega), if_pos (by omega), if_neg hroom]
            go_wp2_with fail
            refine (room_no w S (i + 1) _ left 7 _ HO3.out.1 hl0 (by omega) (by omega) (by omega) (by omega)).mono ?_
            rintro e w4 ⟨rfl, ho4⟩
            have HO4 : Hid (SpOut w w4 S (.slice a xs.length cap) (i + 1) left) := ho4
            clear ho4
            go_wp2_with fail
            go_roundw
            case rel =>
              obtain ⟨hij, I'⟩ := HI.out.next hlt HST.out (part := ⟨#[]⟩) rfl rfl (Nat.le_refl _) (by omega) (by show 0 ≤ left; omega) (by show ((sp ([] : List Wd)).length : Int) + left ≤ left; simp [sp]) HO4.out
              first | exact ⟨_, _, _, _, _, rfl, I'⟩ | (rw [byte_empty] at I'; exact ⟨_, _, _, _, _, rfl, I'⟩) | trace_state
            case measure =>
              rw [atOf_eq HO4.out.st, atOf_eq HI.out.out.st]
              omega
        · have hci : (v : Int) % 11 = 5 := by omega
          rcases HSUB.out with ⟨hdep, hsn⟩ | ⟨hdep, sb, hsn, HK⟩
          · have hdep2 : 3 ≤ depth := by omega
            clear hdep
            subst hsn
            have HST : Hid (stepS none nil (depth == 0) (pickN xs[i]) (vsAt xs (i + 1)) left = some (([], [], vsAt xs (i + 1), left) : SpR (List (Hd × T × T)))) := by
              show stepS none nil (depth == 0) (pickN xs[i]) (vsAt xs (i + 1)) left = some (([], [], vsAt xs (i + 1), left) : SpR (List (Hd × T × T)))
              rw [← HV.out]
              unfold stepS
              rw [if_neg (by omega), if_neg (by omega), if_pos (by omega)]
            clear HSUB
            go_wp2_with fail
            go_roundw
            case rel =>
              obtain ⟨hij, I'⟩ := HI.out.next hlt HST.out (part := ⟨#[]⟩) rfl rfl (Nat.le_refl _) (by omega) (by show 0 ≤ left; omega) (by show ((sp ([] : List Wd)).length : Int) + left ≤ left; simp [sp]) HO3.out.1
              first | exact ⟨_, _, _, _, _, rfl, I'⟩ | (rw [byte_empty] at I'; exact ⟨_, _, _, _, _, rfl, I'⟩) | trace_state
            case measure =>
              rw [atOf_eq HO3.out.1.st, atOf_eq HI.out.out.st]
              omega
          · subst hsn
            have HKK : Hid (SubK xs a b off cap S depth sb nil) := HK
            clear HK HSUB
            by_cases hroom : (24 : Int) ≤ left
            · have HST : Hid (stepS (some sb) nil (depth == 0) (pickN xs[i]) (vsAt xs (i + 1)) left = some ([kAsk, letterB (v / 11), digitsB (1 + v / 88 % 9)] ++ (ansS sb nil (v / 792) (vsAt xs (i + 1)) (left - 24)).1, [(hAsk (v / 11 % 8 : Nat) (1 + v / 88 % 9 : Nat), (ansS sb nil (v / 792) (vsAt xs (i + 1)) (left - 24)).2.1.1, (ansS sb nil (v / 792) (vsAt xs (i + 1)) (left - 24)).2.1.2)], (ansS sb nil (v / 792) (vsAt xs (i + 1)) (left - 24)).2.2)) := by
                show stepS (some sb) nil (depth == 0) (pickN xs[i]) (vsAt xs (i + 1)) left = some ([kAsk, letterB (v / 11), digitsB (1 + v / 88 % 9)] ++ (ansS sb nil (v / 792) (vsAt xs (i + 1)) (left - 24)).1, [(hAsk (v / 11 % 8 : Nat) (1 + v / 88 % 9 : Nat), (ansS sb nil (v / 792) (vsAt xs (i + 1)) (left - 24)).2.1.1, (ansS sb nil (v / 792) (vsAt xs (i + 1)) (left - 24)).2.1.2)], (ansS sb nil (v / 792) (vsAt xs (i + 1)) (left - 24)).2.2)
                rw [← HV.out]
                unfold stepS
                rw [if_neg (by omega), if_neg (by omega), if_pos (by omega)]
                exact if_pos hroom
              have HAN := HKK.out.ans (v / 792) (i + 1) (left - 24)
              have hsA := HKK.out.szA (v / 792) (vsAt xs (i + 1)) (left - 24) (by omega)
              have hvc : (((v / 792 : Nat)) : Int) = (v : Int) / 792 := by omega
              rw [hvc] at HAN
              generalize ansS sb nil (v / 792) (vsAt xs (i + 1)) (left - 24) = A0 at *
              have HANS : Hid (∀ W, SpOut w W S (.slice a xs.length cap) (i + 1) (left - 24) → Calls Tryz.prog 34 #[.pointer (some ⟨S, 0, none⟩), .int .i64 depth, .int .i64 ((v : Int) / 792)] W fun e w' => ∃ (s : ByteArray) (j : Nat), e = .returned (.string s) ∧ s.data.toList = sp A0.1 ∧ A0.2.2.1 = vsAt xs j ∧ j ≤ xs.length ∧ SpOut w w' S (.slice a xs.length cap) j A0.2.2.2) := fun W ho =>
                (HAN W (by omega) (by omega) (by omega) (by omega) ho.st (fun hp => HALL.out.2.2.fr ho.fr (HALL.out.2.1 hp) hp)).mono fun e w' ⟨s, j, g1, g2, g3, g4, g5⟩ => ⟨s, j, g1, g2, g3, g4, ho.trans g5⟩
              clear HAN hvc
              go_wp2_with fail
              refine (room_yes w S (i + 1) _ left 24 _ HO3.out.1 hl0 (by omega) (by omega) (by omega) (by omega)).mono ?_
              rintro e w4 ⟨rfl, ho4⟩
              have HO4 : Hid (SpOut w w4 S (.slice a xs.length cap) (i + 1) (left - 24)) := ho4
              clear ho4
              go_wp2_with fail
              refine (HANS.out _ HO4.out).mono ?_
              rintro e w5 ⟨rb, j, rfl, g1, g2, g3, g4⟩
              have zr : rb.size ≤ 360 := by
                rw [bytes_len g1]
                omega
              have HO5 : Hid (rb.data.toList = sp A0.1 ∧ A0.2.2.1 = vsAt xs j ∧ j ≤ xs.length ∧ SpOut w w5 S (.slice a xs.length cap) j A0.2.2.2) := ⟨g1, g2, g3, g4⟩
              clear g1 g2 g3 g4 HANS HO4
              go_wp2_with fail
              go_roundw
              case rel =>
                obtain ⟨hij, I'⟩ := HI.out.next hlt HST.out (ask_part (x := ⟨#[97, 115, 107, 32]⟩) (y := ⟨#[32]⟩) rfl HO3.out.2.1 HO3.out.2.2 rfl HO5.out.1) HO5.out.2.1 hsA.2.2 HO5.out.2.2.1 hsA.2.1 (by show ((sp ([kAsk, letterB (v / 11), digitsB (1 + v / 88 % 9)] ++ A0.1)).length : Int) + A0.2.2.2 ≤ left; rw [sp_len_app, sp_len_cons, sp_len_cons, sp_len_cons, dig1 (by omega)]; simp only [kAsk, letterB, sp, List.length_cons, List.length_nil, List.flatMap_nil]; simp only [sp] at hsA; omega) HO5.out.2.2.2
                exact ⟨_, _, _, _, _, rfl, I'⟩
              case measure =>
                obtain ⟨hij, I'⟩ := HI.out.next hlt HST.out (ask_part (x := ⟨#[97, 115, 107, 32]⟩) (y := ⟨#[32]⟩) rfl HO3.out.2.1 HO3.out.2.2 rfl HO5.out.1) HO5.out.2.1 hsA.2.2 HO5.out.2.2.1 hsA.2.1 (by show ((sp ([kAsk, letterB (v / 11), digitsB (1 + v / 88 % 9)] ++ A0.1)).length : Int) + A0.2.2.2 ≤ left; rw [sp_len_app, sp_len_cons, sp_len_cons, sp_len_cons, dig1 (by omega)]; simp only [kAsk, letterB, sp, List.length_cons, List.length_nil, List.flatMap_nil]; simp only [sp] at hsA; omega) HO5.out.2.2.2
                rw [atOf_eq HO5.out.2.2.2.st, atOf_eq HI.out.out.st]
                omega
            · have HST : Hid (stepS (some sb) nil (depth == 0) (pickN xs[i]) (vsAt xs (i + 1)) left = some (([], [], vsAt xs (i + 1), left) : SpR (List (Hd × T × T)))) := by
                show stepS (some sb) nil (depth == 0) (pickN xs[i]) (vsAt xs (i + 1)) left = some (([], [], vsAt xs (i + 1), left) : SpR (List (Hd × T × T)))
                rw [← HV.out]
                unfold stepS
                rw [if_neg (by omega), if_neg (by omega), if_pos (by omega)]
                exact if_neg hroom
              clear HKK
              go_wp2_with fail
              refine (room_no w S (i + 1) _ left 24 _ HO3.out.1 hl0 (by omega) (by omega) (by omega) (by omega)).mono ?_
              rintro e w4 ⟨rfl, ho4⟩
              have HO4 : Hid (SpOut w w4 S (.slice a xs.length cap) (i + 1) left) := ho4
              clear ho4
              go_wp2_with fail
              go_roundw
              case rel =>
                obtain ⟨hij, I'⟩ := HI.out.next hlt HST.out (part := ⟨#[]⟩) rfl rfl (Nat.le_refl _) (by omega) (by show 0 ≤ left; omega) (by show ((sp ([] : List Wd)).length : Int) + left ≤ left; simp [sp]) HO4.out
                first | exact ⟨_, _, _, _, _, rfl, I'⟩ | (rw [byte_empty] at I'; exact ⟨_, _, _, _, _, rfl, I'⟩) | trace_state
              case measure =>
                rw [atOf_eq HO4.out.st, atOf_eq HI.out.out.st]
                omega
        · have hci : (v : Int) % 11 = 6 := by omega
          rcases HSUB.out with ⟨hdep, hsn⟩ | ⟨hdep, sb, hsn, HK⟩
          · have hdep2 : 3 ≤ depth := by omega
            clear hdep
            subst hsn
            have HST : Hid (stepS none nil (depth == 0) (pickN xs[i]) (vsAt xs (i + 1)) left = some (([], [], vsAt xs (i + 1), left) : SpR (List (Hd × T × T)))) := by
              show stepS none nil (depth == 0) (pickN xs[i]) (vsAt xs (i + 1)) left = some (([], [], vsAt xs (i + 1), left) : SpR (List (Hd × T × T)))
              rw [← HV.out]
              unfold stepS
              rw [if_neg (by omega), if_neg (by omega), if_pos (by omega)]
            clear HSUB
            go_wp2_with fail
            go_roundw
            case rel =>
              obtain ⟨hij, I'⟩ := HI.out.next hlt HST.out (part := ⟨#[]⟩) rfl rfl (Nat.le_refl _) (by omega) (by show 0 ≤ left; omega) (by show ((sp ([] : List Wd)).length : Int) + left ≤ left; simp [sp]) HO3.out.1
              first | exact ⟨_, _, _, _, _, rfl, I'⟩ | (rw [byte_empty] at I'; exact ⟨_, _, _, _, _, rfl, I'⟩) | trace_state
            case measure =>
              rw [atOf_eq HO3.out.1.st, atOf_eq HI.out.out.st]
              omega
          · subst hsn
            have HKK : Hid (SubK xs a b off cap S depth sb nil) := HK
            clear HK HSUB
            by_cases hroom : (24 : Int) ≤ left
            · have HST : Hid (stepS (some sb) nil (depth == 0) (pickN xs[i]) (vsAt xs (i + 1)) left = some ([kAsk, letterB (v / 11), digitsB (1 + v / 88 % 9)] ++ (ansS sb nil (v / 792) (vsAt xs (i + 1)) (left - 24)).1, [(hAsk (v / 11 % 8 : Nat) (1 + v / 88 % 9 : Nat), (ansS sb nil (v / 792) (vsAt xs (i + 1)) (left - 24)).2.1.1, (ansS sb nil (v / 792) (vsAt xs (i + 1)) (left - 24)).2.1.2)], (ansS sb nil (v / 792) (vsAt xs (i + 1)) (left - 24)).2.2)) := by
                show stepS (some sb) nil (depth == 0) (pickN xs[i]) (vsAt xs (i + 1)) left = some ([kAsk, letterB (v / 11), digitsB (1 + v / 88 % 9)] ++ (ansS sb nil (v / 792) (vsAt xs (i + 1)) (left - 24)).1, [(hAsk (v / 11 % 8 : Nat) (1 + v / 88 % 9 : Nat), (ansS sb nil (v / 792) (vsAt xs (i + 1)) (left - 24)).2.1.1, (ansS sb nil (v / 792) (vsAt xs (i + 1)) (left - 24)).2.1.2)], (ansS sb nil (v / 792) (vsAt xs (i + 1)) (left - 24)).2.2)
                rw [← HV.out]
                unfold stepS
                rw [if_neg (by omega), if_neg (by omega), if_pos (by omega)]
                exact if_pos hroom
              have HAN := HKK.out.ans (v / 792) (i + 1) (left - 24)
              have hsA := HKK.out.szA (v / 792) (vsAt xs (i + 1)) (left - 24) (by omega)
              have hvc : (((v / 792 : Nat)) : Int) = (v : Int) / 792 := by omega
              rw [hvc] at HAN
              generalize ansS sb nil (v / 792) (vsAt xs (i + 1)) (left - 24) = A0 at *
              have HANS : Hid (∀ W, SpOut w W S (.slice a xs.length cap) (i + 1) (left - 24) → Calls Tryz.prog 34 #[.pointer (some ⟨S, 0, none⟩), .int .i64 depth, .int .i64 ((v : Int) / 792)] W fun e w' => ∃ (s : ByteArray) (j : Nat), e = .returned (.string s) ∧ s.data.toList = sp A0.1 ∧ A0.2.2.1 = vsAt xs j ∧ j ≤ xs.length ∧ SpOut w w' S (.slice a xs.length cap) j A0.2.2.2) := fun W ho =>
                (HAN W (by omega) (by omega) (by omega) (by omega) ho.st (fun hp => HALL.out.2.2.fr ho.fr (HALL.out.2.1 hp) hp)).mono fun e w' ⟨s, j, g1, g2, g3, g4, g5⟩ => ⟨s, j, g1, g2, g3, g4, ho.trans g5⟩
              clear HAN hvc
              go_wp2_with fail
              refine (room_yes w S (i + 1) _ left 24 _ HO3.out.1 hl0 (by omega) (by omega) (by omega) (by omega)).mono ?_
              rintro e w4 ⟨rfl, ho4⟩
              have HO4 : Hid (SpOut w w4 S (.slice a xs.length cap) (i + 1) (left - 24)) := ho4
              clear ho4
              go_wp2_with fail
              refine (HANS.out _ HO4.out).mono ?_
              rintro e w5 ⟨rb, j, rfl, g1, g2, g3, g4⟩
              have zr : rb.size ≤ 360 := by
                rw [bytes_len g1]
                omega
              have HO5 : Hid (rb.data.toList = sp A0.1 ∧ A0.2.2.1 = vsAt xs j ∧ j ≤ xs.length ∧ SpOut w w5 S (.slice a xs.length cap) j A0.2.2.2) := ⟨g1, g2, g3, g4⟩
              clear g1 g2 g3 g4 HANS HO4
              go_wp2_with fail
              go_roundw
              case rel =>
                obtain ⟨hij, I'⟩ := HI.out.next hlt HST.out (ask_part (x := ⟨#[97, 115, 107, 32]⟩) (y := ⟨#[32]⟩) rfl HO3.out.2.1 HO3.out.2.2 rfl HO5.out.1) HO5.out.2.1 hsA.2.2 HO5.out.2.2.1 hsA.2.1 (by show ((sp ([kAsk, letterB (v / 11), digitsB (1 + v / 88 % 9)] ++ A0.1)).length : Int) + A0.2.2.2 ≤ left; rw [sp_len_app, sp_len_cons, sp_len_cons, sp_len_cons, dig1 (by omega)]; simp only [kAsk, letterB, sp, List.length_cons, List.length_nil, List.flatMap_nil]; simp only [sp] at hsA; omega) HO5.out.2.2.2
                exact ⟨_, _, _, _, _, rfl, I'⟩
              case measure =>
                obtain ⟨hij, I'⟩ := HI.out.next hlt HST.out (ask_part (x := ⟨#[97, 115, 107, 32]⟩) (y := ⟨#[32]⟩) rfl HO3.out.2.1 HO3.out.2.2 rfl HO5.out.1) HO5.out.2.1 hsA.2.2 HO5.out.2.2.1 hsA.2.1 (by show ((sp ([kAsk, letterB (v / 11), digitsB (1 + v / 88 % 9)] ++ A0.1)).length : Int) + A0.2.2.2 ≤ left; rw [sp_len_app, sp_len_cons, sp_len_cons, sp_len_cons, dig1 (by omega)]; simp only [kAsk, letterB, sp, List.length_cons, List.length_nil, List.flatMap_nil]; simp only [sp] at hsA; omega) HO5.out.2.2.2
                rw [atOf_eq HO5.out.2.2.2.st, atOf_eq HI.out.out.st]
                omega
            · have HST : Hid (stepS (some sb) nil (depth == 0) (pickN xs[i]) (vsAt xs (i + 1)) left = some (([], [], vsAt xs (i + 1), left) : SpR (List (Hd × T × T)))) := by
                show stepS (some sb) nil (depth == 0) (pickN xs[i]) (vsAt xs (i + 1)) left = some (([], [], vsAt xs (i + 1), left) : SpR (List (Hd × T × T)))
                rw [← HV.out]
                unfold stepS
                rw [if_neg (by omega), if_neg (by omega), if_pos (by omega)]
                exact if_neg hroom
              clear HKK
              go_wp2_with fail
              refine (room_no w S (i + 1) _ left 24 _ HO3.out.1 hl0 (by omega) (by omega) (by omega) (by omega)).mono ?_
              rintro e w4 ⟨rfl, ho4⟩
              have HO4 : Hid (SpOut w w4 S (.slice a xs.length cap) (i + 1) left) := ho4
              clear ho4
              go_wp2_with fail
              go_roundw
              case rel =>
                obtain ⟨hij, I'⟩ := HI.out.next hlt HST.out (part := ⟨#[]⟩) rfl rfl (Nat.le_refl _) (by omega) (by show 0 ≤ left; omega) (by show ((sp ([] : List Wd)).length : Int) + left ≤ left; simp [sp]) HO4.out
                first | exact ⟨_, _, _, _, _, rfl, I'⟩ | (rw [byte_empty] at I'; exact ⟨_, _, _, _, _, rfl, I'⟩) | trace_state
              case measure =>
                rw [atOf_eq HO4.out.st, atOf_eq HI.out.out.st]
                omega
        · have hci : (v : Int) % 11 = 7 := by omega
          rcases HSUB.out with ⟨hdep, hsn⟩ | ⟨hdep, sb, hsn, HK⟩
          · have hdep2 : 3 ≤ depth := by omega
            clear hdep
            subst hsn
            have HST : Hid (stepS none nil (depth == 0) (pickN xs[i]) (vsAt xs (i + 1)) left = some (([], [], vsAt xs (i + 1), left) : SpR (List (Hd × T × T)))) := by
              show stepS none nil (depth == 0) (pickN xs[i]) (vsAt xs (i + 1)) left = some (([], [], vsAt xs (i + 1), left) : SpR (List (Hd × T × T)))
              rw [← HV.out]
              unfold stepS
              rw [if_neg (by omega), if_neg (by omega), if_neg (by omega), if_pos (by omega)]
            clear HSUB
            go_wp2_with fail
            go_roundw
            case rel =>
              obtain ⟨hij, I'⟩ := HI.out.next hlt HST.out (part := ⟨#[]⟩) rfl rfl (Nat.le_refl _) (by omega) (by show 0 ≤ left; omega) (by show ((sp ([] : List Wd)).length : Int) + left ≤ left; simp [sp]) HO3.out.1
              first | exact ⟨_, _, _, _, _, rfl, I'⟩ | (rw [byte_empty] at I'; exact ⟨_, _, _, _, _, rfl, I'⟩) | trace_state
            case measure =>
              rw [atOf_eq HO3.out.1.st, atOf_eq HI.out.out.st]
              omega
          · subst hsn
            have HKK : Hid (SubK xs a b off cap S depth sb nil) := HK
            clear HK HSUB
            by_cases hroom : (28 : Int) ≤ left
            · have HST : Hid (stepS (some sb) nil (depth == 0) (pickN xs[i]) (vsAt xs (i + 1)) left = some ([kRetry, digitsB (1 + v / 792 % 2), letterB (v / 11), digitsB (1 + v / 88 % 9)] ++ (ansS sb nil (v / 792) (vsAt xs (i + 1)) (left - 28)).1, [(hRetry (1 + v / 792 % 2 : Nat) (v / 11 % 8 : Nat) (1 + v / 88 % 9 : Nat), (ansS sb nil (v / 792) (vsAt xs (i + 1)) (left - 28)).2.1.1, (ansS sb nil (v / 792) (vsAt xs (i + 1)) (left - 28)).2.1.2)], (ansS sb nil (v / 792) (vsAt xs (i + 1)) (left - 28)).2.2)) := by
                show stepS (some sb) nil (depth == 0) (pickN xs[i]) (vsAt xs (i + 1)) left = some ([kRetry, digitsB (1 + v / 792 % 2), letterB (v / 11), digitsB (1 + v / 88 % 9)] ++ (ansS sb nil (v / 792) (vsAt xs (i + 1)) (left - 28)).1, [(hRetry (1 + v / 792 % 2 : Nat) (v / 11 % 8 : Nat) (1 + v / 88 % 9 : Nat), (ansS sb nil (v / 792) (vsAt xs (i + 1)) (left - 28)).2.1.1, (ansS sb nil (v / 792) (vsAt xs (i + 1)) (left - 28)).2.1.2)], (ansS sb nil (v / 792) (vsAt xs (i + 1)) (left - 28)).2.2)
                rw [← HV.out]
                unfold stepS
                rw [if_neg (by omega), if_neg (by omega), if_neg (by omega), if_pos (by omega)]
                exact if_pos hroom
              have HAN := HKK.out.ans (v / 792) (i + 1) (left - 28)
              have hsA := HKK.out.szA (v / 792) (vsAt xs (i + 1)) (left - 28) (by omega)
              have hvc : (((v / 792 : Nat)) : Int) = (v : Int) / 792 := by omega
              rw [hvc] at HAN
              generalize ansS sb nil (v / 792) (vsAt xs (i + 1)) (left - 28) = A0 at *
              have HANS : Hid (∀ W, SpOut w W S (.slice a xs.length cap) (i + 1) (left - 28) → Calls Tryz.prog 34 #[.pointer (some ⟨S, 0, none⟩), .int .i64 depth, .int .i64 ((v : Int) / 792)] W fun e w' => ∃ (s : ByteArray) (j : Nat), e = .returned (.string s) ∧ s.data.toList = sp A0.1 ∧ A0.2.2.1 = vsAt xs j ∧ j ≤ xs.length ∧ SpOut w w' S (.slice a xs.length cap) j A0.2.2.2) := fun W ho =>
                (HAN W (by omega) (by omega) (by omega) (by omega) ho.st (fun hp => HALL.out.2.2.fr ho.fr (HALL.out.2.1 hp) hp)).mono fun e w' ⟨s, j, g1, g2, g3, g4, g5⟩ => ⟨s, j, g1, g2, g3, g4, ho.trans g5⟩
              clear HAN hvc
              go_wp2_with fail
              refine (room_yes w S (i + 1) _ left 28 _ HO3.out.1 hl0 (by omega) (by omega) (by omega) (by omega)).mono ?_
              rintro e w4 ⟨rfl, ho4⟩
              have HO4 : Hid (SpOut w w4 S (.slice a xs.length cap) (i + 1) (left - 28)) := ho4
              clear ho4
              go_wp2_with fail
              refine (HANS.out _ HO4.out).mono ?_
              rintro e w5 ⟨rb, j, rfl, g1, g2, g3, g4⟩
              have zr : rb.size ≤ 360 := by
                rw [bytes_len g1]
                omega
              have HO5 : Hid (rb.data.toList = sp A0.1 ∧ A0.2.2.1 = vsAt xs j ∧ j ≤ xs.length ∧ SpOut w w5 S (.slice a xs.length cap) j A0.2.2.2) := ⟨g1, g2, g3, g4⟩
              clear g1 g2 g3 g4 HANS HO4
              have HDM : Hid (∀ W, Calls Tryz.prog 32 #[.int .i64 (1 + (v : Int) / 792 % 2)] W fun e w' => ∃ s : ByteArray, e = .returned (.string s) ∧ s.data.toList = digitsB (1 + v / 792 % 2) ∧ Below W.heap.size W w') := fun W => digits_int _ (1 + v / 792 % 2) (by omega) (by omega) W
              go_wp2_with fail
              refine (HDM.out _).mono ?_
              rintro e w6 ⟨mb, rfl, hm, b6⟩
              have HO6 : Hid (mb.data.toList = digitsB (1 + v / 792 % 2) ∧ SpOut w w6 S (.slice a xs.length cap) j A0.2.2.2) := ⟨hm, HO5.out.2.2.2.below b6⟩
              have zm : mb.size = 1 := by rw [bytes_len hm]; exact dig1 (by omega)
              clear hm b6 HDM
              go_wp2_with fail
              go_roundw
              case rel =>
                obtain ⟨hij, I'⟩ := HI.out.next hlt HST.out (retry_part (x := ⟨#[114, 101, 116, 114, 121, 32]⟩) (y := ⟨#[32]⟩) rfl HO6.out.1 HO3.out.2.1 HO3.out.2.2 rfl HO5.out.1) HO5.out.2.1 hsA.2.2 HO5.out.2.2.1 hsA.2.1 (by show ((sp ([kRetry, digitsB (1 + v / 792 % 2), letterB (v / 11), digitsB (1 + v / 88 % 9)] ++ A0.1)).length : Int) + A0.2.2.2 ≤ left; rw [sp_len_app, sp_len_cons, sp_len_cons, sp_len_cons, sp_len_cons, dig1 (by omega), dig1 (by omega)]; simp only [kRetry, letterB, sp, List.length_cons, List.length_nil, List.flatMap_nil]; simp only [sp] at hsA; omega) HO6.out.2
                exact ⟨_, _, _, _, _, rfl, I'⟩
              case measure =>
                obtain ⟨hij, I'⟩ := HI.out.next hlt HST.out (retry_part (x := ⟨#[114, 101, 116, 114, 121, 32]⟩) (y := ⟨#[32]⟩) rfl HO6.out.1 HO3.out.2.1 HO3.out.2.2 rfl HO5.out.1) HO5.out.2.1 hsA.2.2 HO5.out.2.2.1 hsA.2.1 (by show ((sp ([kRetry, digitsB (1 + v / 792 % 2), letterB (v / 11), digitsB (1 + v / 88 % 9)] ++ A0.1)).length : Int) + A0.2.2.2 ≤ left; rw [sp_len_app, sp_len_cons, sp_len_cons, sp_len_cons, sp_len_cons, dig1 (by omega), dig1 (by omega)]; simp only [kRetry, letterB, sp, List.length_cons, List.length_nil, List.flatMap_nil]; simp only [sp] at hsA; omega) HO6.out.2
                rw [atOf_eq HO6.out.2.st, atOf_eq HI.out.out.st]
                omega
            · have HST : Hid (stepS (some sb) nil (depth == 0) (pickN xs[i]) (vsAt xs (i + 1)) left = some (([], [], vsAt xs (i + 1), left) : SpR (List (Hd × T × T)))) := by
                show stepS (some sb) nil (depth == 0) (pickN xs[i]) (vsAt xs (i + 1)) left = some (([], [], vsAt xs (i + 1), left) : SpR (List (Hd × T × T)))
                rw [← HV.out]
                unfold stepS
                rw [if_neg (by omega), if_neg (by omega), if_neg (by omega), if_pos (by omega)]
                exact if_neg hroom
              clear HKK
              go_wp2_with fail
              refine (room_no w S (i + 1) _ left 28 _ HO3.out.1 hl0 (by omega) (by omega) (by omega) (by omega)).mono ?_
              rintro e w4 ⟨rfl, ho4⟩
              have HO4 : Hid (SpOut w w4 S (.slice a xs.length cap) (i + 1) left) := ho4
              clear ho4
              go_wp2_with fail
              go_roundw
              case rel =>
                obtain ⟨hij, I'⟩ := HI.out.next hlt HST.out (part := ⟨#[]⟩) rfl rfl (Nat.le_refl _) (by omega) (by show 0 ≤ left; omega) (by show ((sp ([] : List Wd)).length : Int) + left ≤ left; simp [sp]) HO4.out
                first | exact ⟨_, _, _, _, _, rfl, I'⟩ | (rw [byte_empty] at I'; exact ⟨_, _, _, _, _, rfl, I'⟩) | trace_state
              case measure =>
                rw [atOf_eq HO4.out.st, atOf_eq HI.out.out.st]
                omega
        · have hci : (v : Int) % 11 = 8 := by omega
          rcases HSUB.out with ⟨hdep, hsn⟩ | ⟨hdep, sb, hsn, HK⟩
          · have hdep2 : 3 ≤ depth := by omega
            clear hdep
            subst hsn
            have HST : Hid (stepS none nil (depth == 0) (pickN xs[i]) (vsAt xs (i + 1)) left = some (([], [], vsAt xs (i + 1), left) : SpR (List (Hd × T × T)))) := by
              show stepS none nil (depth == 0) (pickN xs[i]) (vsAt xs (i + 1)) left = some (([], [], vsAt xs (i + 1), left) : SpR (List (Hd × T × T)))
              rw [← HV.out]
              unfold stepS
              rw [if_neg (by omega), if_neg (by omega), if_neg (by omega), if_neg (by omega), if_pos (by omega)]
            clear HSUB
            go_wp2_with fail
            go_roundw
            case rel =>
              obtain ⟨hij, I'⟩ := HI.out.next hlt HST.out (part := ⟨#[]⟩) rfl rfl (Nat.le_refl _) (by omega) (by show 0 ≤ left; omega) (by show ((sp ([] : List Wd)).length : Int) + left ≤ left; simp [sp]) HO3.out.1
              first | exact ⟨_, _, _, _, _, rfl, I'⟩ | (rw [byte_empty] at I'; exact ⟨_, _, _, _, _, rfl, I'⟩) | trace_state
            case measure =>
              rw [atOf_eq HO3.out.1.st, atOf_eq HI.out.out.st]
              omega
          · subst hsn
            have HKK : Hid (SubK xs a b off cap S depth sb nil) := HK
            clear HK HSUB
            by_cases hroom : (14 : Int) ≤ left
            · have HST : Hid (stepS (some sb) nil (depth == 0) (pickN xs[i]) (vsAt xs (i + 1)) left = some ([kRepeat, digitsB (1 + v / 88 % 3)] ++ (kOpen :: ((sb (vsAt xs (i + 1)) (left - 14)).1 ++ [kShut])), [(hRepeat (1 + v / 88 % 3 : Nat), (sb (vsAt xs (i + 1)) (left - 14)).2.1, nil)], (sb (vsAt xs (i + 1)) (left - 14)).2.2)) := by
                show stepS (some sb) nil (depth == 0) (pickN xs[i]) (vsAt xs (i + 1)) left = some ([kRepeat, digitsB (1 + v / 88 % 3)] ++ (kOpen :: ((sb (vsAt xs (i + 1)) (left - 14)).1 ++ [kShut])), [(hRepeat (1 + v / 88 % 3 : Nat), (sb (vsAt xs (i + 1)) (left - 14)).2.1, nil)], (sb (vsAt xs (i + 1)) (left - 14)).2.2)
                rw [← HV.out]
                unfold stepS
                rw [if_neg (by omega), if_neg (by omega), if_neg (by omega), if_neg (by omega), if_pos (by omega)]
                exact if_pos hroom
              have HAN := HKK.out.brc (i + 1) (left - 14)
              have hsA := HKK.out.szB (vsAt xs (i + 1)) (left - 14) (by omega)
              generalize sb (vsAt xs (i + 1)) (left - 14) = A0 at *
              have HANS : Hid (∀ W, SpOut w W S (.slice a xs.length cap) (i + 1) (left - 14) → Calls Tryz.prog 35 #[.pointer (some ⟨S, 0, none⟩), .int .i64 depth] W fun e w' => ∃ (s : ByteArray) (j : Nat), e = .returned (.string s) ∧ s.data.toList = sp (kOpen :: (A0.1 ++ [kShut])) ∧ A0.2.2.1 = vsAt xs j ∧ j ≤ xs.length ∧ SpOut w w' S (.slice a xs.length cap) j A0.2.2.2) := fun W ho =>
                (HAN W (by omega) (by omega) (by omega) ho.st (fun hp => HALL.out.2.2.fr ho.fr (HALL.out.2.1 hp) hp)).mono fun e w' ⟨s, j, g1, g2, g3, g4, g5⟩ => ⟨s, j, g1, g2, g3, g4, ho.trans g5⟩
              clear HAN
              go_wp2_with fail
              refine (room_yes w S (i + 1) _ left 14 _ HO3.out.1 hl0 (by omega) (by omega) (by omega) (by omega)).mono ?_
              rintro e w4 ⟨rfl, ho4⟩
              have HO4 : Hid (SpOut w w4 S (.slice a xs.length cap) (i + 1) (left - 14)) := ho4
              clear ho4
              go_wp2_with fail
              refine (HANS.out _ HO4.out).mono ?_
              rintro e w5 ⟨rb, j, rfl, g1, g2, g3, g4⟩
              have zr : rb.size ≤ 360 := by
                rw [bytes_len g1]
                rw [sp_len_cons, sp_len_app, sp_len_cons]; simp only [kOpen, kShut, sp, List.length_cons, List.length_nil, List.flatMap_nil]; simp only [sp] at hsA; omega
              have HO5 : Hid (rb.data.toList = sp (kOpen :: (A0.1 ++ [kShut])) ∧ A0.2.2.1 = vsAt xs j ∧ j ≤ xs.length ∧ SpOut w w5 S (.slice a xs.length cap) j A0.2.2.2) := ⟨g1, g2, g3, g4⟩
              clear g1 g2 g3 g4 HANS HO4
              have HDM : Hid (∀ W, Calls Tryz.prog 32 #[.int .i64 (1 + (v : Int) / 88 % 3)] W fun e w' => ∃ s : ByteArray, e = .returned (.string s) ∧ s.data.toList = digitsB (1 + v / 88 % 3) ∧ Below W.heap.size W w') := fun W => digits_int _ (1 + v / 88 % 3) (by omega) (by omega) W
              go_wp2_with fail
              refine (HDM.out _).mono ?_
              rintro e w6 ⟨mb, rfl, hm, b6⟩
              have HO6 : Hid (mb.data.toList = digitsB (1 + v / 88 % 3) ∧ SpOut w w6 S (.slice a xs.length cap) j A0.2.2.2) := ⟨hm, HO5.out.2.2.2.below b6⟩
              have zm : mb.size = 1 := by rw [bytes_len hm]; exact dig1 (by omega)
              clear hm b6 HDM
              go_wp2_with fail
              go_roundw
              case rel =>
                obtain ⟨hij, I'⟩ := HI.out.next hlt HST.out (repeat_part (x := ⟨#[114, 101, 112, 101, 97, 116, 32]⟩) (y := ⟨#[32]⟩) rfl HO6.out.1 rfl HO5.out.1) HO5.out.2.1 hsA.2.2 HO5.out.2.2.1 hsA.2.1 (by show ((sp ([kRepeat, digitsB (1 + v / 88 % 3)] ++ (kOpen :: (A0.1 ++ [kShut])))).length : Int) + A0.2.2.2 ≤ left; rw [sp_len_app, sp_len_cons, sp_len_cons, dig1 (by omega), sp_len_cons, sp_len_app, sp_len_cons]; simp only [kRepeat, kOpen, kShut, sp, List.length_cons, List.length_nil, List.flatMap_nil]; simp only [sp] at hsA; omega) HO6.out.2
                exact ⟨_, _, _, _, _, rfl, I'⟩
              case measure =>
                obtain ⟨hij, I'⟩ := HI.out.next hlt HST.out (repeat_part (x := ⟨#[114, 101, 112, 101, 97, 116, 32]⟩) (y := ⟨#[32]⟩) rfl HO6.out.1 rfl HO5.out.1) HO5.out.2.1 hsA.2.2 HO5.out.2.2.1 hsA.2.1 (by show ((sp ([kRepeat, digitsB (1 + v / 88 % 3)] ++ (kOpen :: (A0.1 ++ [kShut])))).length : Int) + A0.2.2.2 ≤ left; rw [sp_len_app, sp_len_cons, sp_len_cons, dig1 (by omega), sp_len_cons, sp_len_app, sp_len_cons]; simp only [kRepeat, kOpen, kShut, sp, List.length_cons, List.length_nil, List.flatMap_nil]; simp only [sp] at hsA; omega) HO6.out.2
                rw [atOf_eq HO6.out.2.st, atOf_eq HI.out.out.st]
                omega
            · have HST : Hid (stepS (some sb) nil (depth == 0) (pickN xs[i]) (vsAt xs (i + 1)) left = some (([], [], vsAt xs (i + 1), left) : SpR (List (Hd × T × T)))) := by
                show stepS (some sb) nil (depth == 0) (pickN xs[i]) (vsAt xs (i + 1)) left = some (([], [], vsAt xs (i + 1), left) : SpR (List (Hd × T × T)))
                rw [← HV.out]
                unfold stepS
                rw [if_neg (by omega), if_neg (by omega), if_neg (by omega), if_neg (by omega), if_pos (by omega)]
                exact if_neg hroom
              clear HKK
              go_wp2_with fail
              refine (room_no w S (i + 1) _ left 14 _ HO3.out.1 hl0 (by omega) (by omega) (by omega) (by omega)).mono ?_
              rintro e w4 ⟨rfl, ho4⟩
              have HO4 : Hid (SpOut w w4 S (.slice a xs.length cap) (i + 1) left) := ho4
              clear ho4
              go_wp2_with fail
              go_roundw
              case rel =>
                obtain ⟨hij, I'⟩ := HI.out.next hlt HST.out (part := ⟨#[]⟩) rfl rfl (Nat.le_refl _) (by omega) (by show 0 ≤ left; omega) (by show ((sp ([] : List Wd)).length : Int) + left ≤ left; simp [sp]) HO4.out
                first | exact ⟨_, _, _, _, _, rfl, I'⟩ | (rw [byte_empty] at I'; exact ⟨_, _, _, _, _, rfl, I'⟩) | trace_state
              case measure =>
                rw [atOf_eq HO4.out.st, atOf_eq HI.out.out.st]
                omega
        · have hci : (v : Int) % 11 = 9 := by omega
          by_cases hq : v / 11 % 4 = 0
          · have hqi : (v : Int) / 11 % 4 = 0 := by omega
            by_cases hroom : (5 : Int) ≤ left
            · have HST : Hid (stepS sub nil (depth == 0) (pickN xs[i]) (vsAt xs (i + 1)) left = some ([kStop], [(hStop, nil, nil)], vsAt xs (i + 1), left - 5)) := by
                show stepS sub nil (depth == 0) (pickN xs[i]) (vsAt xs (i + 1)) left = some ([kStop], [(hStop, nil, nil)], vsAt xs (i + 1), left - 5)
                rw [← HV.out]
                unfold stepS
                rw [if_neg (by omega), if_neg (by omega), if_neg (by omega), if_neg (by omega), if_neg (by omega), if_pos (by omega), if_pos ⟨hq, hroom⟩]
              go_wp2_with fail
              refine (room_yes w S (i + 1) _ left 5 _ HO3.out.1 hl0 (by omega) (by omega) (by omega) (by omega)).mono ?_
              rintro e w4 ⟨rfl, ho4⟩
              have HO4 : Hid (SpOut w w4 S (.slice a xs.length cap) (i + 1) (left - 5)) := ho4
              clear ho4
              go_wp2_with fail
              go_roundw
              case rel =>
                obtain ⟨hij, I'⟩ := HI.out.next hlt HST.out (part := ⟨#[115, 116, 111, 112, 32]⟩) rfl rfl (Nat.le_refl _) (by omega) (by show 0 ≤ left - 5; omega) (by show ((sp [kStop]).length : Int) + (left - 5) ≤ left; simp [sp, kStop]; omega) HO4.out
                exact ⟨_, _, _, _, _, rfl, I'⟩
              case measure =>
                obtain ⟨hij, I'⟩ := HI.out.next hlt HST.out (part := ⟨#[115, 116, 111, 112, 32]⟩) rfl rfl (Nat.le_refl _) (by omega) (by show 0 ≤ left - 5; omega) (by show ((sp [kStop]).length : Int) + (left - 5) ≤ left; simp [sp, kStop]; omega) HO4.out
                rw [atOf_eq HO4.out.st, atOf_eq HI.out.out.st]
                omega
            · have HST : Hid (stepS sub nil (depth == 0) (pickN xs[i]) (vsAt xs (i + 1)) left = some (([], [], vsAt xs (i + 1), left) : SpR (List (Hd × T × T)))) := by
                show stepS sub nil (depth == 0) (pickN xs[i]) (vsAt xs (i + 1)) left = some (([], [], vsAt xs (i + 1), left) : SpR (List (Hd × T × T)))
                rw [← HV.out]
                unfold stepS
                rw [if_neg (by omega), if_neg (by omega), if_neg (by omega), if_neg (by omega), if_neg (by omega), if_pos (by omega), if_neg (fun h => hroom h.2)]
              go_wp2_with fail
              refine (room_no w S (i + 1) _ left 5 _ HO3.out.1 hl0 (by omega) (by omega) (by omega) (by omega)).mono ?_
              rintro e w4 ⟨rfl, ho4⟩
              have HO4 : Hid (SpOut w w4 S (.slice a xs.length cap) (i + 1) left) := ho4
              clear ho4
              go_wp2_with fail
              go_roundw
              case rel =>
                obtain ⟨hij, I'⟩ := HI.out.next hlt HST.out (part := ⟨#[]⟩) rfl rfl (Nat.le_refl _) (by omega) (by show 0 ≤ left; omega) (by show ((sp ([] : List Wd)).length : Int) + left ≤ left; simp [sp]) HO4.out
                first | exact ⟨_, _, _, _, _, rfl, I'⟩ | (rw [byte_empty] at I'; exact ⟨_, _, _, _, _, rfl, I'⟩) | trace_state
              case measure =>
                rw [atOf_eq HO4.out.st, atOf_eq HI.out.out.st]
                omega
          · have hqi : ((v : Int) / 11 % 4 == 0) = false := by simp; omega
            have HST : Hid (stepS sub nil (depth == 0) (pickN xs[i]) (vsAt xs (i + 1)) left = some (([], [], vsAt xs (i + 1), left) : SpR (List (Hd × T × T)))) := by
              show stepS sub nil (depth == 0) (pickN xs[i]) (vsAt xs (i + 1)) left = some (([], [], vsAt xs (i + 1), left) : SpR (List (Hd × T × T)))
              rw [← HV.out]
              unfold stepS
              rw [if_neg (by omega), if_neg (by omega), if_neg (by omega), if_neg (by omega), if_neg (by omega), if_pos (by omega), if_neg (fun h => hq h.1)]
            go_wp2_with fail
            go_roundw
            case rel =>
              obtain ⟨hij, I'⟩ := HI.out.next hlt HST.out (part := ⟨#[]⟩) rfl rfl (Nat.le_refl _) (by omega) (by show 0 ≤ left; omega) (by show ((sp ([] : List Wd)).length : Int) + left ≤ left; simp [sp]) HO3.out.1
              first | exact ⟨_, _, _, _, _, rfl, I'⟩ | (rw [byte_empty] at I'; exact ⟨_, _, _, _, _, rfl, I'⟩) | trace_state
            case measure =>
              rw [atOf_eq HO3.out.1.st, atOf_eq HI.out.out.st]
              omega
        · have hci : (v : Int) % 11 = 10 := by omega
          by_cases hz : depth ≤ 0
          · have htop : Hid ((depth == 0) = true) := by show (depth == 0) = true; simp; omega
            have HST : Hid (stepS sub nil (depth == 0) (pickN xs[i]) (vsAt xs (i + 1)) left = some (([], [], vsAt xs (i + 1), left) : SpR (List (Hd × T × T)))) := by
              show stepS sub nil (depth == 0) (pickN xs[i]) (vsAt xs (i + 1)) left = some (([], [], vsAt xs (i + 1), left) : SpR (List (Hd × T × T)))
              rw [← HV.out]
              unfold stepS
              rw [if_neg (by omega), if_neg (by omega), if_neg (by omega), if_neg (by omega), if_neg (by omega), if_neg (by omega), htop.out, if_pos rfl]
            go_wp2_with fail
            go_roundw
            case rel =>
              obtain ⟨hij, I'⟩ := HI.out.next hlt HST.out (part := ⟨#[]⟩) rfl rfl (Nat.le_refl _) (by omega) (by show 0 ≤ left; omega) (by show ((sp ([] : List Wd)).length : Int) + left ≤ left; simp [sp]) HO3.out.1
              first | exact ⟨_, _, _, _, _, rfl, I'⟩ | (rw [byte_empty] at I'; exact ⟨_, _, _, _, _, rfl, I'⟩) | trace_state
            case measure =>
              rw [atOf_eq HO3.out.1.st, atOf_eq HI.out.out.st]
              omega
          · have htop : Hid ((depth == 0) = false) := by show (depth == 0) = false; simp; omega
            have HST : Hid (stepS sub nil (depth == 0) (pickN xs[i]) (vsAt xs (i + 1)) left = none) := by
              show stepS sub nil (depth == 0) (pickN xs[i]) (vsAt xs (i + 1)) left = none
              rw [← HV.out]
              unfold stepS
              rw [if_neg (by omega), if_neg (by omega), if_neg (by omega), if_neg (by omega), if_neg (by omega), if_neg (by omega), htop.out]
              rfl
            go_wp2_with fail
            go_ret
            obtain ⟨g1, g2, g3⟩ := HI.out.stop hlt HST.out
            exact ⟨s, i + 1, rfl, g1, g2, by omega, by rw [g3]; exact HO3.out.1⟩
    · go_wp2_with fail
      go_region
      all_goals
        go_wp2_with fail
        go_ret
        obtain ⟨g1, g2, g3⟩ := HI.out.fin hlt
        exact ⟨s, i, rfl, g1, g2, hile, by rw [g3]; exact HI.out.out.sameH (by first | exact SameH.refl _ | exact (SameH.refl _).drew)⟩
end Go.Proofs.YtmmmnghiegajmabGreat
