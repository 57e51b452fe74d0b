/- The program's writer of code: block. -/
import Derived.Test.YtmmmnghiegajmaaCmpC
namespace Go.Proofs.Ytmmmnghiegajmaa
open Go.RowKit Go.Proofs.Herald

theorem compL_append (t : ByteArray) {T : Type} (sub : T → Nat → Nat → List Ins) (l r : List (Hd × T × T)) (rep base : Nat) : compL t sub (l ++ r) rep base = compL t sub l rep base ++ compL t sub r rep (base + (compL t sub l rep base).length) := by
  induction l generalizing base with
  | nil => simp [compL]
  | cons x l ih =>
    simp only [List.cons_append, compL]
    rw [ih]
    simp [List.append_assoc, Nat.add_assoc]

theorem addr_eq {b o o' : Nat} (h : o = o') : some (⟨b, o, none⟩ : Addr) = some ⟨b, o', none⟩ := by rw [h]

theorem slice_eq {a : Option Addr} {n n' c : Nat} (h : n = n') : Value.slice a n c = Value.slice a n' c := by rw [h]

theorem compL_one (t : ByteArray) {T : Type} (sub : T → Nat → Nat → List Ins) (x : Hd × T × T) (rep base : Nat) : compL t sub [x] rep base = stmC t sub x rep base := by
  simp [compL]

set_option maxRecDepth 20000 in
set_option maxHeartbeats 8000000 in
theorem w_block_succ (t : ByteArray) (d : Nat) (hblk : BlkC t d) (l : List (Hd × Tree d × Tree d)) (a0 : Option Addr) (n cap off b rep B R : Nat) (sv : Value) (cs : List Ins) (w : World) (hn : n = (flatL t d l).length) (hcap : n ≤ cap) (hmax : cap ≤ maxLen) (hnd : 0 < n → a0 = some ⟨b, off, none⟩ ∧ NdsAt w b off (flatL t d l))
    (hg : GoodT t (d + 1) l) (hrep : rep + (d + 1) ≤ 9) (hsz : sizeT (d + 1) l ≤ 400) (hlen : cs.length + (compL t (compT t d) l rep cs.length).length ≤ 900) (hb : b < B) (hW : WrAt B w R sv cs) :
    Calls Try.prog 97 #[.pointer (some ⟨R, 0, none⟩), .slice a0 n cap, .int .i64 (rep : Nat)] w fun e w' => e = .returned (.tuple #[]) ∧ (∃ sv', WrAt B w' R sv' (cs ++ compL t (compT t d) l rep cs.length)) ∧ Below B w w' := by
  unfold maxLen at hmax
  have hn400 : n ≤ 400 := by rw [hn]; have e : (flatL t d l).length = sizeT (d + 1) l := flatT_size t (d + 1) l; omega
  have e2 : sizeT (d + 1) l = (l.map fun x : Hd × Tree d × Tree d => 1 + sizeT d x.2.1 + sizeT d x.2.2).sum := rfl
  have HX : Hid (∀ (k : Nat) (hk : k < l.length), GoodHd t l[k].1 ∧ GoodT t d l[k].2.1 ∧ GoodT t d l[k].2.2 ∧ sizeT d l[k].2.1 ≤ 400 ∧ sizeT d l[k].2.2 ≤ 400) := by
    intro k hk
    have hm : l[k] ∈ l := List.getElem_mem hk
    obtain ⟨h1, h2, h3⟩ := hg l[k] hm
    have h4 := sum_le (fun x : Hd × Tree d × Tree d => 1 + sizeT d x.2.1 + sizeT d x.2.2) l _ hm
    exact ⟨h1, h2, h3, by omega, by omega⟩
  have HC : Hid (∀ (k : Nat) (hk : k < l.length), (cs ++ compL t (compT t d) (l.take k) rep cs.length) ++ stmC t (compT t d) l[k] rep (cs ++ compL t (compT t d) (l.take k) rep cs.length).length = cs ++ compL t (compT t d) (l.take (k + 1)) rep cs.length ∧
      (cs ++ compL t (compT t d) (l.take k) rep cs.length).length + (stmC t (compT t d) l[k] rep (cs ++ compL t (compT t d) (l.take k) rep cs.length).length).length ≤ 900) := by
    intro k hk
    have h1 : compL t (compT t d) (l.take (k + 1)) rep cs.length = compL t (compT t d) (l.take k) rep cs.length ++ stmC t (compT t d) l[k] rep (cs.length + (compL t (compT t d) (l.take k) rep cs.length).length) := by
      rw [List.take_succ_eq_append_getElem hk, compL_append, compL_one]
    have h2 : compL t (compT t d) l rep cs.length = compL t (compT t d) (l.take (k + 1)) rep cs.length ++ compL t (compT t d) (l.drop (k + 1)) rep (cs.length + (compL t (compT t d) (l.take (k + 1)) rep cs.length).length) := by
      rw [← compL_append, List.take_append_drop]
    rw [List.length_append]
    refine ⟨by rw [h1, List.append_assoc], ?_⟩
    have h3 := congrArg List.length h2
    rw [h1] at h3
    simp only [List.length_append] at h3
    omega
  have HN : Hid (0 < n → NdsAt w b off (flatL t d l)) := fun h => (hnd h).2
  have HA0 : Hid (0 < n → a0 = some ⟨b, off, none⟩) := fun h => (hnd h).1
  have HNN : Hid (n = (flatL t d l).length) := hn
  have HW : Hid (WrAt B w R sv cs) := hW
  have HK : Hid (BlkC t d) := hblk
  clear hn hg hsz e2 hnd hW hlen hblk
  go_enter Try.func97, Try.ntmps97
  go_wp2_with fail
  go_loopw [1] (fun v wr => ∃ (k K m c : Nat) (a : Option Addr), k ≤ l.length ∧ (flatL t d l).drop K = flatL t d (l.drop k) ∧ m = (flatL t d (l.drop k)).length ∧ K + m = n ∧ v = .slice a m c ∧ m ≤ c ∧ c ≤ 9223372036854775807 ∧ (0 < m → a = some ⟨b, off + K * 6, none⟩) ∧
      Hid (∃ sv', WrAt B wr R sv' (cs ++ compL t (compT t d) (l.take k) rep cs.length)) ∧ Hid (Below B w wr)) (fun v _ => match v with | .slice _ m _ => m | _ => 0)
  case atStart =>
    refine ⟨0, 0, n, cap, _, Nat.zero_le _, rfl, HNN.out, by omega, rfl, hcap, by omega, fun h => by simpa using HA0.out h, ⟨sv, HW.out.eq ?_⟩, Below.refl _ _⟩
    simp [compL]
  case round =>
    obtain ⟨k, K, m, c, a, hk, hdr, hm, hKm, rfl, hmc, hc, ha, HWR, HB⟩ := hrel
    by_cases hlt : k < l.length
    · obtain ⟨gh, ga, gb, za, zb⟩ := HX.out k hlt
      have hck := flatL_cons t d l[k] (l.drop (k + 1))
      rw [← drop_cons_of l k hlt] at hck
      obtain ⟨A, hA⟩ : ∃ A, A = flatT t d l[k].2.1 := ⟨_, rfl⟩
      obtain ⟨E, hE⟩ : ∃ E, E = flatT t d l[k].2.2 := ⟨_, rfl⟩
      rw [← hA, ← hE] at hck
      obtain ⟨x, hx⟩ : ∃ x, x = A.length := ⟨_, rfl⟩
      obtain ⟨y, hy⟩ : ∃ y, y = E.length := ⟨_, rfl⟩
      obtain ⟨N, hN⟩ : ∃ N, N = ndOf t l[k].1 x y := ⟨_, rfl⟩
      rw [← hx, ← hy, ← hN] at hck
      have hm2 : m = 1 + x + y + (flatL t d (l.drop (k + 1))).length := by rw [hm, hck]; simp [hx, hy]; omega
      have hNb : N.body = x ∧ N.els = y := by rw [hN]; exact ⟨rfl, rfl⟩
      have hbw : b < w.heap.size := by have := heap_lt HW.out.blk; have := HW.out.le; omega
      have hnr : NdsAt wr b off (flatL t d l) := (HN.out (by omega)).keep (HB.out.block b hb)
      have hn1 : NdsAt wr b (off + K * 6) (flatL t d (l.drop k)) := hnr.sub K (flatL t d (l.drop k)).length _ (by rw [hdr, List.take_length])
      rw [hck] at hn1
      have hnA : NdsAt wr b (off + K * 6 + 1 * 6) A := hn1.sub 1 x A (by simp [hx])
      have hnB : NdsAt wr b (off + K * 6 + (1 + x) * 6) E := hn1.sub (1 + x) y E (by rw [show 1 + x = x + 1 from by omega]; simp [hx, hy])
      have hcl : ∀ (j : Nat) (u : Value), (ndCells N)[j]? = some u → wr.cell? ⟨b, off + K * 6 + j, none⟩ = some u := fun j u hj => by
        have := hn1 0 (by simp) j u hj; simpa using this
      have c0 := hcl 0 (.int .i64 N.kind) rfl
      have c1 := hcl 1 (.int .i64 N.key) rfl
      have c2 := hcl 2 (.int .i64 N.times) rfl
      have c3 := hcl 3 (.int .i64 N.ticks) rfl
      have c4 := hcl 4 (.int .i64 x) (by rw [← hNb.1]; rfl)
      have c5 := hcl 5 (.int .i64 y) (by rw [← hNb.2]; rfl)
      simp only [Nat.add_zero] at c0
      have hdr2 : (flatL t d l).drop (K + (1 + x + y)) = flatL t d (l.drop (k + 1)) := by
        rw [← List.drop_drop, hdr, hck, show 1 + x + y = (x + y) + 1 from by omega, List.drop_succ_cons, hx, hy, ← List.append_assoc, ← List.length_append]
        exact List.drop_left
      have ha' := ha (by omega)
      have hbr : b < wr.heap.size := by have := HB.out.size; omega
      have HNA : Hid (NdsAt wr b (off + K * 6 + 1 * 6) (flatT t d l[k].2.1) ∧ NdsAt wr b (off + K * 6 + (1 + x) * 6) (flatT t d l[k].2.2)) := by rw [← hA, ← hE]; exact ⟨hnA, hnB⟩
      have HXY : Hid (x = (flatT t d l[k].2.1).length ∧ y = (flatT t d l[k].2.2).length) := ⟨by rw [hx, hA], by rw [hy, hE]⟩
      obtain ⟨K2, hK2⟩ : ∃ K2, K2 = K + (1 + x + y) := ⟨_, rfl⟩
      obtain ⟨m2, hm2'⟩ : ∃ m2, m2 = m - (1 + x + y) := ⟨_, rfl⟩
      have HDR : Hid ((flatL t d l).drop K2 = flatL t d (l.drop (k + 1))) := by show _ = _; rw [hK2]; exact hdr2
      have HM2 : Hid (m = 1 + x + y + (flatL t d (l.drop (k + 1))).length) := hm2
      have hxm : 1 + x + y ≤ m := by omega
      have hRw : B ≤ wr.heap.size := by have := HB.out.size; have := heap_lt HW.out.blk; have := HW.out.le; omega
      have HST : Hid (∀ (X Y : Int) (W : World) (a1 a2 : Option Addr) (n1 c1 n2 c2 : Nat), X = (x : Nat) → Y = (y : Nat) → W.os = wr.os → W.tape = wr.tape → W.output = wr.output →
          (∀ j : Nat, W.heap[j]? = (wr.alloc (.cells #[.int .i64 N.kind, .int .i64 N.key, .int .i64 N.times, .int .i64 N.ticks, .int .i64 X, .int .i64 Y] 214)).heap[j]?) → W.heap.size = wr.heap.size + 1 →
          (n1 = x ∧ n1 ≤ c1 ∧ c1 ≤ 9223372036854775807) → (0 < x → a1 = some ⟨b, off + K * 6 + 1 * 6, none⟩) → (n2 = y ∧ n2 ≤ c2 ∧ c2 ≤ 9223372036854775807) → (0 < y → a2 = some ⟨b, off + K * 6 + (1 + x) * 6, none⟩) →
          Calls Try.prog 134 #[.pointer (some ⟨R, 0, none⟩), .agg #[.int .i64 N.kind, .int .i64 N.key, .int .i64 N.times, .int .i64 N.ticks, .int .i64 X, .int .i64 Y], .slice a1 n1 c1, .slice a2 n2 c2, .int .i64 (rep : Nat)] W fun e w' =>
            e = .returned (.tuple #[]) ∧ (∃ sv', WrAt B w' R sv' (cs ++ compL t (compT t d) (l.take (k + 1)) rep cs.length)) ∧ Below B w w') := by
        intro X Y W a1 a2 n1 c1 n2 c2 hX hY ho1 ho2 ho3 hWh hWs f1 f2 f3 f4
        have h1 : SlT t d wr b (.slice a1 n1 c1) l[k].2.1 := ⟨a1, n1, c1, _, rfl, by rw [f1.1, HXY.out.1], f1.2.1, f1.2.2, fun hp => ⟨f2 (by omega), HNA.out.1⟩⟩
        have h2 : SlT t d wr b (.slice a2 n2 c2) l[k].2.2 := ⟨a2, n2, c2, _, rfl, by rw [f3.1, HXY.out.2], f3.2.1, f3.2.2, fun hp => ⟨f4 (by omega), HNA.out.2⟩⟩
        obtain ⟨s1, hs1⟩ := HWR.out
        have hkb : ∀ j, j < wr.heap.size → W.heap[j]? = wr.heap[j]? := fun j hj => by rw [hWh j, Below.heap_alloc _ _ _ hj]
        have h0 := w_statement t d HK.out l[k] x y rep B R b _ _ s1 _ W gh (h1.keep (hkb b hbr)) (h2.keep (hkb b hbr)) ga gb (by omega) za zb (HC.out k hlt).2 hb (hs1.keep hkb)
        rw [(HC.out k hlt).1, ← hN] at h0
        have hcells : (ndCells N).toArray = #[.int .i64 N.kind, .int .i64 N.key, .int .i64 N.times, .int .i64 N.ticks, .int .i64 X, .int .i64 Y] := by
          have h3 : ndCells N = [.int .i64 N.kind, .int .i64 N.key, .int .i64 N.times, .int .i64 N.ticks, .int .i64 (N.body : Nat), .int .i64 (N.els : Nat)] := rfl
          rw [h3, hNb.1, hNb.2, hX, hY]
        rw [hcells] at h0
        refine h0.mono ?_
        rintro e w' ⟨he, hw', hb'⟩
        exact ⟨he, hw', (HB.out.trans ⟨ho1, ho2, ho3, by omega, fun j hj => hkb j (by omega)⟩).trans hb'⟩
      clear gh ga gb hck hA hE hx hy hN hNb hnr hn1 hnA hnB hcl hdr2 hm2 hdr hm ha
      subst ha'
      have hRl : R < wr.heap.size := by obtain ⟨s1, hs1⟩ := HWR.out; exact heap_lt hs1.blk
      rcases (show c = 1 ∨ (¬ c = 1 ∧ c = 1 + x) ∨ (¬ c = 1 ∧ ¬ c = 1 + x ∧ c = 1 + x + y) ∨ (¬ c = 1 ∧ ¬ c = 1 + x ∧ ¬ c = 1 + x + y) from by omega) with h1 | ⟨h1, h2⟩ | ⟨h1, h2, h3⟩ | ⟨h1, h2, h3⟩
      all_goals first | (subst h1; obtain rfl : x = 0 := (by omega); obtain rfl : y = 0 := (by omega)) | (subst h2; obtain rfl : y = 0 := (by omega)) | subst h3 | skip
      all_goals
        go_wp2_with fail
        go_region_with (go_at_call 134; refine (HST.out _ _ _ _ _ _ _ _ _ (by first | rfl | omega | simp) (by first | rfl | omega | simp) (by rfl) (by rfl) (by rfl) (by intro _; rfl) (by simp) ⟨by first | rfl | omega, by omega, by omega⟩ (fun hp => by first | (exfalso; omega) | exact addr_eq (by omega)) ⟨by first | rfl | omega, by omega, by omega⟩ (fun hp => by first | (exfalso; omega) | exact addr_eq (by omega))).mono ?_; rintro e w2 ⟨rfl, hw2, hb2⟩)
        all_goals
          have HW2 : Hid (_ ∧ _) := ⟨hw2, hb2⟩
          clear hw2 hb2
          go_wp2_with fail
          go_roundw
          case rel =>
            refine ⟨k + 1, K2, m2, _, _, by omega, HDR.out, ?_, by omega, slice_eq (by omega), ?_, ?_, ?_, HW2.out.1, HW2.out.2⟩
            · have := HM2.out; omega
            · omega
            · omega
            · intro hpos; first | (exfalso; omega) | exact addr_eq (by omega)
          case measure => simp; omega
    · obtain rfl : k = l.length := by omega
      have hm0 : m = 0 := by rw [hm, List.drop_length]; rfl
      rw [List.take_length] at HWR
      clear hdr hm ha hlt
      subst hm0
      go_wp2_with fail
      go_end0
      exact ⟨rfl, HWR.out, HB.out⟩

theorem w_block_empty (a0 : Option Addr) (cap rep B R : Nat) (sv : Value) (cs : List Ins) (w : World) (hW : WrAt B w R sv cs) :
    Calls Try.prog 97 #[.pointer (some ⟨R, 0, none⟩), .slice a0 0 cap, .int .i64 (rep : Nat)] w fun e w' => e = .returned (.tuple #[]) ∧ (∃ sv', WrAt B w' R sv' cs) ∧ Below B w w' := by
  have HW : Hid (WrAt B w R sv cs) := hW
  clear hW
  go_enter Try.func97, Try.ntmps97
  go_wp2_with fail
  go_loopw [1] (fun v wr => v = .slice a0 0 cap ∧ wr = w) (fun _ _ => 0)
  case atStart => exact ⟨rfl, rfl⟩
  case round =>
    obtain ⟨rfl, rfl⟩ := hrel
    go_wp2_with fail
    go_end0
    exact ⟨rfl, ⟨_, HW.out⟩, Below.refl _ _⟩

theorem blkC (t : ByteArray) : ∀ d, BlkC t d := by
  intro d
  induction d with
  | zero =>
    intro tr v b rep B R sv cs w hS _ _ _ _ _ hW
    obtain ⟨a, n, cap, off, rfl, hn, _, _, _⟩ := hS
    have hn0 : n = 0 := hn
    subst hn0
    have e : compT t 0 tr rep cs.length = [] := rfl
    rw [e, List.append_nil]
    exact w_block_empty a cap rep B R sv cs w hW
  | succ d ih =>
    intro tr v b rep B R sv cs w hS hg hrep hsz hlen hb hW
    obtain ⟨a, n, cap, off, rfl, hn, hcap, hmax, hnd⟩ := hS
    exact w_block_succ t d ih tr a n cap off b rep B R sv cs w hn hcap hmax hnd hg hrep hsz hlen hb hW

end Go.Proofs.Ytmmmnghiegajmaa
