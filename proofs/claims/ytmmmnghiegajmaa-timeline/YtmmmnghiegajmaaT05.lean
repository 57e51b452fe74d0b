import Derived.Test.YtmmmnghiegajmaaM01
import Derived.Test.YtmmmnghiegajmaaM04
import Derived.Test.YtmmmnghiegajmaaM05
import Derived.Test.YtmmmnghiegajmaaM06
import Derived.Test.YtmmmnghiegajmaaM07
import Derived.Test.YtmmmnghiegajmaaM08
import Derived.Test.YtmmmnghiegajmaaM09
import Derived.Test.YtmmmnghiegajmaaM10
import Derived.Test.YtmmmnghiegajmaaM11
import Derived.Test.YtmmmnghiegajmaaM12
import Derived.Test.YtmmmnghiegajmaaM15
import Derived.Test.YtmmmnghiegajmaaM19
import Derived.Test.YtmmmnghiegajmaaM21
import Derived.Test.YtmmmnghiegajmaaM23
import Derived.Test.YtmmmnghiegajmaaM24
import Derived.Test.YtmmmnghiegajmaaM25
import Derived.Test.YtmmmnghiegajmaaM26
import Derived.Test.YtmmmnghiegajmaaM27
import Derived.Test.YtmmmnghiegajmaaM28
import Derived.Test.YtmmmnghiegajmaaM29
import Derived.Test.YtmmmnghiegajmaaM32
import Derived.Test.YtmmmnghiegajmaaM33
import Derived.Test.YtmmmnghiegajmaaM34
import Derived.Test.YtmmmnghiegajmaaT01
import Derived.Test.YtmmmnghiegajmaaT03
import Derived.Test.YtmmmnghiegajmaaT04
namespace Go.Proofs.Ytmmmnghiegajmaa
open Go.RowKit Go.Proofs.Herald
/-- A herald and a line. -/
def LG (B : Nat) (cs : List Ins) (m : Nat) (h : Her Pr) (w0 : World) (H L : Nat) (l : List (Int × Int)) (sent : Int) (w : World) : Prop :=
  ∃ s, LineAt w L l sent s ∧ KS B cs m h w0 H (fun k => s.own L k) w ∧ (∀ k, s.own L k → B ≤ k)
theorem LG.line {B : Nat} {cs : List Ins} {m : Nat} {h : Her Pr} {w0 : World} {H L : Nat} {l l' : List (Int × Int)} {sent sent' : Int} {w w' : World} {s : LnS} (_hl : LineAt w L l sent s) (hk : KS B cs m h w0 H (fun k => s.own L k) w) (hB : ∀ k, s.own L k → B ≤ k) (ht : LineTo w L s l' sent' w') : LG B cs m h w0 H L l' sent' w' := by
  obtain ⟨s', h1, h2, h3⟩ := ht
  have hb := hk.B
  refine ⟨s', h1, (hk.fr h3 fun k hs _ => ⟨hs, hB k hs⟩).less fun k hs => ?_, fun k hs => ?_⟩
  · rcases h2 k hs with h4 | h4
    · exact .inl h4
    · exact .inr ⟨h4, h1.lt hs⟩
  · rcases h2 k hs with h4 | h4
    · exact hB k h4
    · omega
theorem LG.below {B : Nat} {cs : List Ins} {m : Nat} {h : Her Pr} {w0 : World} {H L : Nat} {l : List (Int × Int)} {sent : Int} {w w' : World} (g : LG B cs m h w0 H L l sent w) (hb : Below w.heap.size w w') : LG B cs m h w0 H L l sent w' := by
  obtain ⟨s, h1, h2, h3⟩ := g
  exact ⟨s, h1.keep fun k hk => hb.block k (h1.lt hk), h2.below hb, h3⟩
theorem lg_send {B : Nat} {cs : List Ins} {m : Nat} {h : Her Pr} {w0 : World} {H L : Nat} {l : List (Int × Int)} {sent : Int} (key : Int) (w : World) (g : LG B cs m h w0 H L l sent w) (hl : l.length ≤ 4) (h0 : 0 ≤ sent) (h1 : sent ≤ 1000000) :
    Calls Try.prog 29 #[.pointer (some ⟨L, 0, none⟩), .int .i64 key] w fun e w' => e = .returned (.tuple #[]) ∧ LG B cs m h w0 H L (lsend l sent key).1 (lsend l sent key).2 w' := by
  obtain ⟨s, g1, g2, g3⟩ := g
  exact (c_lsend L l sent key s w g1 hl h0 h1).mono fun e w' hh => ⟨hh.1, LG.line g1 g2 g3 hh.2⟩
set_option maxRecDepth 20000 in
set_option maxHeartbeats 4000000 in
theorem lg_drained_no {B : Nat} {cs : List Ins} {m : Nat} {w0 : World} {H L dv : Nat} {sent til now : Int} {i : Nat} (hd : dv ≤ 2) (w : World) (g : LG B cs m (timV dv now sent til i []) w0 H L [] sent w) (hm : m ≤ 1000000) :
    Calls Try.prog 32 #[.pointer (some ⟨L, 0, none⟩), .pointer (some ⟨H, 0, none⟩), .int .i64 (dv : Nat)] w fun e w' => e = .returned (.bool true) ∧ LG B cs (m + 1) (timV dv now sent til i []) w0 H L [] sent w' := by
  obtain ⟨s, g1, g2, g3⟩ := g
  have HC : Hid (Calls Try.prog 37 #[.pointer (some ⟨H, 0, none⟩), .int .i64 (dv : Nat)] w fun e w' => e = .returned (.tuple #[.agg #[.int .i64 0, .int .i64 0, .int .i64 0, .int .i64 0], .int .i64 13]) ∧ LineAt w' L [] sent s ∧ KS B cs (m + 1) (timV dv now sent til i []) w0 H (fun k => s.own L k) w') := by
    have h := ks_Drain (dv : Nat) w g2 (by omega)
    rw [tim_drain_no dv hd] at h
    exact h.mono fun e w' hh => ⟨hh.1, g1.keep hh.2.2, hh.2.1⟩
  have HB : Hid (∀ k, s.own L k → B ≤ k) := g3
  clear g1 g2 g3
  go_enter Try.func32, Try.ntmps32
  go_wp2_with fail
  refine HC.out.mono ?_
  rintro e w1 ⟨rfl, l1, k1⟩
  have H1 : Hid (LineAt w1 L [] sent s ∧ KS B cs (m + 1) (timV dv now sent til i []) w0 H (fun k => s.own L k) w1) := ⟨l1, k1⟩
  have c1 : w1.cell? ⟨L, 1, none⟩ = some (.slice s.ka 0 s.kc) := (cell_of_heap l1.blk).trans rfl
  have hLl : L < w1.heap.size := heap_lt l1.blk
  clear l1 k1 HC
  go_wp2_with fail
  go_ret
  refine ⟨rfl, ?_⟩
  have hg : LG B cs (m + 1) (timV dv now sent til i []) w0 H L [] sent w1 := ⟨s, H1.out.1, H1.out.2, HB.out⟩
  exact hg.below (by first | exact (Below.refl _ _).alloc (Nat.le_refl _) _ | exact Below.refl _ _)
theorem LnAt.tail0 {w : World} {ao : Option Addr} {b off : Nat} {x : Int} {xs : List Int} (h : LnAt w ao b off 1 (x :: xs)) : LnAt w (some ⟨b, off, none⟩) b off 0 xs := by
  have hle := h.le
  have h0 : xs = [] := List.eq_nil_of_length_eq_zero (by have h1 : xs.length + 1 ≤ 1 := hle; omega)
  subst h0
  exact ⟨⟨Nat.le_refl _, fun hp => absurd hp (by omega), fun hp => absurd hp (by omega), rfl, fun j u hj => by simp at hj, fun j hj => by simp at hj⟩, fun j hj => by simp at hj, Nat.zero_le _, fun _ => rfl⟩
/-- The head of a line is cut off. -/
theorem LineAt.cut {w : World} {L : Nat} {x : Int × Int} {l : List (Int × Int)} {sent : Int} {s : LnS} (h : LineAt w L (x :: l) sent s) (ko kc no nc : Nat) (hk : (kc = 0 ∧ ko = s.ko ∧ s.kc = 1) ∨ (kc = s.kc - 1 ∧ ko = s.ko + 1)) (hn : (nc = 0 ∧ no = s.no ∧ s.nc = 1) ∨ (nc = s.nc - 1 ∧ no = s.no + 1)) :
    LineTo w L s l sent ((w.setCell ⟨L, 1, none⟩ (.slice (some ⟨s.kb, ko, none⟩) l.length kc)).setCell ⟨L, 0, none⟩ (.slice (some ⟨s.nb, no, none⟩) l.length nc)) := by
  have hK : LnAt w (some ⟨s.kb, ko, none⟩) s.kb ko kc (l.map Prod.snd) := by
    have h1 : LnAt w s.ka s.kb s.ko s.kc (x.2 :: l.map Prod.snd) := h.key
    rcases hk with ⟨rfl, rfl, h2⟩ | ⟨rfl, rfl⟩
    · rw [h2] at h1
      exact h1.tail0
    · exact h1.tail
  have hN : LnAt w (some ⟨s.nb, no, none⟩) s.nb no nc (l.map Prod.fst) := by
    have h1 : LnAt w s.na s.nb s.no s.nc (x.1 :: l.map Prod.fst) := h.num
    rcases hn with ⟨rfl, rfl, h2⟩ | ⟨rfl, rfl⟩
    · rw [h2] at h1
      exact h1.tail0
    · exact h1.tail
  have k0 : 0 < kc → 0 < s.kc := fun hp => by omega
  have n0 : 0 < nc → 0 < s.nc := fun hp => by omega
  refine ⟨⟨some ⟨s.nb, no, none⟩, s.nb, no, nc, some ⟨s.kb, ko, none⟩, s.kb, ko, kc⟩, ⟨?_, hN.keep fun hp => ?_, hK.keep fun hp => ?_, fun hp => h.d1 (n0 hp), fun hp => h.d2 (k0 hp), fun hp hq => h.d3 (n0 hp) (k0 hq)⟩, fun k hk => ?_, ?_⟩
  · rw [heap_setCell_self _ (heap_setCell_self _ h.blk)]
    rfl
  · rw [Below.heap_setCell _ _ _ _ (h.d1 (n0 hp)), Below.heap_setCell _ _ _ _ (h.d1 (n0 hp))]
  · rw [Below.heap_setCell _ _ _ _ (h.d2 (k0 hp)), Below.heap_setCell _ _ _ _ (h.d2 (k0 hp))]
  · rcases hk with hk | ⟨hp, hk⟩ | ⟨hp, hk⟩
    · exact .inl (.inl hk)
    · exact .inl (.inr (.inl ⟨n0 hp, hk⟩))
    · exact .inl (.inr (.inr ⟨k0 hp, hk⟩))
  · exact ((Fr.refl _ _).setCell ⟨L, 1, none⟩ (.inl (.inl rfl)) _).setCell ⟨L, 0, none⟩ (.inl (.inl rfl)) _
set_option maxRecDepth 20000 in
set_option maxHeartbeats 4000000 in
theorem lg_drained {B : Nat} {cs : List Ins} {m : Nat} {w0 : World} {H L dv : Nat} {sent til now : Int} {i : Nat} (x : Int × Int) (l : List (Int × Int)) (hd : dv ≤ 2) (w : World) (g : LG B cs m (timV dv now sent til i (x :: l)) w0 H L (x :: l) sent w) (hm : m ≤ 1000000) (hl : l.length ≤ 3) :
    Calls Try.prog 32 #[.pointer (some ⟨L, 0, none⟩), .pointer (some ⟨H, 0, none⟩), .int .i64 (dv : Nat)] w fun e w' => e = .returned (.bool true) ∧ LG B cs (m + 1) (timV dv now sent til i l) w0 H L l sent w' := by
  obtain ⟨s, g1, g2, g3⟩ := g
  have HC : Hid (Calls Try.prog 37 #[.pointer (some ⟨H, 0, none⟩), .int .i64 (dv : Nat)] w fun e w' => e = .returned (.tuple #[.agg #[.int .i64 (dv : Nat), .int .i64 1, .int .i64 x.1, .int .i64 x.2], .int .i64 0]) ∧ LineAt w' L (x :: l) sent s ∧ KS B cs (m + 1) (timV dv now sent til i l) w0 H (fun k => s.own L k) w') := by
    have h := ks_Drain (dv : Nat) w g2 (by omega)
    rw [tim_drain dv hd] at h
    exact h.mono fun e w' hh => ⟨hh.1, g1.keep hh.2.2, hh.2.1⟩
  have HB : Hid (∀ k, s.own L k → B ≤ k) := g3
  clear g1 g2 g3
  go_enter Try.func32, Try.ntmps32
  go_wp2_with fail
  refine HC.out.mono ?_
  rintro e w1 ⟨rfl, l1, k1⟩
  have H1 : Hid (LineAt w1 L (x :: l) sent s ∧ KS B cs (m + 1) (timV dv now sent til i l) w0 H (fun k => s.own L k) w1) := ⟨l1, k1⟩
  have c0 : w1.cell? ⟨L, 0, none⟩ = some (.slice s.na (l.length + 1) s.nc) := (cell_of_heap l1.blk).trans rfl
  have c1 : w1.cell? ⟨L, 1, none⟩ = some (.slice s.ka (l.length + 1) s.kc) := (cell_of_heap l1.blk).trans rfl
  have f0 : w1.frozen? ⟨L, 0, none⟩ = false := free_of_heap l1.blk
  have f1 : w1.frozen? ⟨L, 1, none⟩ = false := free_of_heap l1.blk
  have hLl : L < w1.heap.size := heap_lt l1.blk
  obtain ⟨n1, n2, n3⟩ := l1.num.cell (i := 0) (by simp)
  obtain ⟨k1', k2', k3'⟩ := l1.key.cell (i := 0) (by simp)
  have nle : l.length + 1 ≤ s.nc := by have := l1.num.le; simpa using this
  have kle : l.length + 1 ≤ s.kc := by have := l1.key.le; simpa using this
  rw [n1] at c0
  rw [k1'] at c1
  have n3' : w1.cell? ⟨s.nb, s.no, none⟩ = some (.int .i64 x.1) := n3
  have k3 : w1.cell? ⟨s.kb, s.ko, none⟩ = some (.int .i64 x.2) := k3'
  clear l1 k1 HC n3 k3' n1 k1'
  have HF : Hid (∀ ko kc no nc, ((kc = 0 ∧ ko = s.ko ∧ s.kc = 1) ∨ (kc = s.kc - 1 ∧ ko = s.ko + 1)) → ((nc = 0 ∧ no = s.no ∧ s.nc = 1) ∨ (nc = s.nc - 1 ∧ no = s.no + 1)) → LG B cs (m + 1) (timV dv now sent til i l) w0 H L l sent ((w1.setCell ⟨L, 1, none⟩ (.slice (some ⟨s.kb, ko, none⟩) l.length kc)).setCell ⟨L, 0, none⟩ (.slice (some ⟨s.nb, no, none⟩) l.length nc))) := fun ko kc no nc hk hn => LG.line H1.out.1 H1.out.2 HB.out (H1.out.1.cut ko kc no nc hk hn)
  go_wp2_with fail
  go_region
  all_goals go_wp2_with fail
  all_goals
    go_ret
    refine ⟨rfl, ?_⟩
    refine LG.below (HF.out _ _ _ _ ?_ ?_) ((((Below.refl _ _).alloc (Nat.le_refl _) _).alloc (by simp) _).drew)
    all_goals first | exact .inr ⟨rfl, rfl⟩ | exact .inl ⟨rfl, rfl, by assumption⟩
open Go.RowKit Go.Proofs.Herald
set_option maxRecDepth 20000 in
set_option maxHeartbeats 8000000 in
/-- What Show told of a line's queue and of its run, if there is one, looked at in whatever memory behind it. -/
theorem c_like (L dv : Nat) (l : List (Int × Int)) (sent now til : Int) (s : LnS) (rs : List Rn) (ra ua : Option Addr) (rc uc B1 B2 : Nat) (w : World) (hL : LineAt w L l sent s) (hl : l.length ≤ 4)
    (hr : w.ownsRow B1 90 5 (.slice ra rs.length rc) rs.length (rnsCells rs)) (hu : w.ownsRow B2 83 4 (.slice ua l.length uc) l.length (msgsCells (lineQ dv l))) (hc : (til ≤ now ∧ rs = []) ∨ (now < til ∧ rs = [⟨1, (dv : Nat), sent, til, 0⟩])) :
    Calls Try.prog 31 #[.pointer (some ⟨L, 0, none⟩), .agg #[.int .i64 now, .slice ra rs.length rc, .slice ua l.length uc], .int .i64 (dv : Nat), .int .i64 now, .int .i64 til] w fun e w' => e = .returned (.bool true) ∧ Below w.heap.size w w' := by
  have c0 : w.cell? ⟨L, 0, none⟩ = some (.slice s.na l.length s.nc) := (cell_of_heap hL.blk).trans rfl
  have c1 : w.cell? ⟨L, 1, none⟩ = some (.slice s.ka l.length s.kc) := (cell_of_heap hL.blk).trans rfl
  have c2 : w.cell? ⟨L, 2, none⟩ = some (.int .i64 sent) := (cell_of_heap hL.blk).trans rfl
  have hLl : L < w.heap.size := heap_lt hL.blk
  have HL : Hid (LineAt w L l sent s ∧ w.ownsRow B1 90 5 (.slice ra rs.length rc) rs.length (rnsCells rs) ∧ w.ownsRow B2 83 4 (.slice ua l.length uc) l.length (msgsCells (lineQ dv l)) ∧ ((til ≤ now ∧ rs = []) ∨ (now < til ∧ rs = [⟨1, (dv : Nat), sent, til, 0⟩]))) := ⟨hL, hr, hu, hc⟩
  clear hL hr hu hc
  go_enter Try.func31, Try.ntmps31
  go_wp2_with fail
  go_region
  all_goals
    go_wp2_with fail
    go_loopw [11] (fun iv wr => ∃ i : Nat, i ≤ l.length ∧ iv = .int .i64 (i : Nat) ∧ Hid (SameH (w.alloc (.cells #[.int .i64 now, .slice ra rs.length rc, .slice ua l.length uc] 68)) wr)) (fun iv _ => l.length - (intOf iv).toNat)
    case atStart => exact ⟨0, by omega, rfl, by first | exact SameH.refl _ | exact (SameH.refl _).drew⟩
    case round =>
      obtain ⟨i, hi, rfl, HS⟩ := hrel
      have hcell : ∀ p : Addr, p.block < w.heap.size → wr.cell? p = w.cell? p := fun p hp => by rw [HS.out.cell]; exact ((Below.refl w.heap.size w).alloc (Nat.le_refl _) _).cell hp
      have hX : wr.heap[w.heap.size]? = some (.cells #[.int .i64 now, .slice ra rs.length rc, .slice ua l.length uc] 68 (0, 0)) := by rw [HS.out.heap]; exact heap_alloc_new _ _
      have x1 : wr.cell? ⟨w.heap.size, 1, none⟩ = some (.slice ra rs.length rc) := (cell_of_heap hX).trans rfl
      have x2 : wr.cell? ⟨w.heap.size, 2, none⟩ = some (.slice ua l.length uc) := (cell_of_heap hX).trans rfl
      have d0 := (hcell ⟨L, 0, none⟩ hLl).trans c0
      have d1 := (hcell ⟨L, 1, none⟩ hLl).trans c1
      have d2 := (hcell ⟨L, 2, none⟩ hLl).trans c2
      have hLr : L < wr.heap.size := by rw [HS.out.heap]; simp; omega
      have hXr : w.heap.size < wr.heap.size := by rw [HS.out.heap]; simp
      by_cases hlt : i < l.length
      · have hq : (lineQ dv l).length = l.length := by unfold lineQ; rw [List.length_map]
        have hu' : w.ownsRow B2 83 4 (.slice ua (lineQ dv l).length uc) (lineQ dv l).length (msgsCells (lineQ dv l)) := by rw [hq]; exact HL.out.2.2.1
        obtain ⟨g, cu, hv, _, hgl⟩ := HL.out.2.2.1.form (by omega)
        simp only [Value.slice.injEq, true_and] at hv
        obtain ⟨hua, rfl⟩ := hv
        subst hua
        obtain ⟨e0, e1, e2, e3⟩ := msg_get (own0 hu') (show i < (lineQ dv l).length by rw [hq]; exact hlt)
        have hm : (lineQ dv l)[i]'(by rw [hq]; exact hlt) = ⟨(dv : Nat), 1, l[i].1, l[i].2⟩ := by unfold lineQ; rw [List.getElem_map]
        rw [hm] at e0 e1 e2 e3
        obtain ⟨n1, n2, n3⟩ := HL.out.1.num.cell (i := i) (by rw [List.length_map]; exact hlt)
        obtain ⟨k1, k2, k3⟩ := HL.out.1.key.cell (i := i) (by rw [List.length_map]; exact hlt)
        rw [List.getElem_map] at n3 k3
        rw [n1] at d0
        rw [k1] at d1
        rw [← hcell _ hgl] at e0 e1 e2 e3
        rw [← hcell _ n2] at n3
        rw [← hcell _ k2] at k3
        have hgr : g < wr.heap.size := by rw [HS.out.heap]; simp; omega
        have hnr : s.nb < wr.heap.size := by rw [HS.out.heap]; simp; omega
        have hkr : s.kb < wr.heap.size := by rw [HS.out.heap]; simp; omega
        clear hu' hq hm hcell n1 k1
        generalize l[i] = y at *
        go_wp2_with fail
        go_region
        all_goals
          go_wp2_with fail
          go_roundw
          case rel => exact ⟨i + 1, by omega, by go_num, HS.out.drew⟩
          case measure => simp [intOf]; omega
      · have HBW : Hid (Below w.heap.size w wr) := ((Below.refl w.heap.size w).alloc (Nat.le_refl _) (.cells #[.int .i64 now, .slice ra rs.length rc, .slice ua l.length uc] 68)).trans ⟨HS.out.os, HS.out.tape, HS.out.output, by rw [HS.out.heap]; exact Nat.le_refl _, fun k _ => by rw [HS.out.heap]⟩
        rcases HL.out.2.2.2 with ⟨ht, hrs⟩ | ⟨ht, hrs⟩
        · have hz : rs.length = 0 := by rw [hrs]; rfl
          rw [hz] at x1
          clear hrs hz
          go_wp2_with fail
          go_ret
          exact ⟨rfl, HBW.out⟩
        · have hr1 := HL.out.2.1
          rw [hrs] at hr1
          obtain ⟨gr, cr, hv, hgl, r0, r1, r2, r3, r4⟩ := run_row hr1
          have hz : rs.length = 1 := by rw [hrs]; rfl
          have hv' : Value.slice ra 1 rc = .slice (some ⟨gr, 0, none⟩) 1 cr := hv
          simp only [Value.slice.injEq, true_and] at hv'
          obtain ⟨hra, rfl⟩ := hv'
          subst hra
          rw [hz] at x1
          rw [← hcell _ hgl] at r0 r1 r2 r3 r4
          have hgr : gr < wr.heap.size := by rw [HS.out.heap]; simp; omega
          clear hrs hz hv hr1 hcell
          go_wp2_with fail
          go_region
          all_goals
            go_wp2_with fail
            go_ret
            exact ⟨rfl, by first | exact HBW.out | exact HBW.out.drew⟩
end Go.Proofs.Ytmmmnghiegajmaa
