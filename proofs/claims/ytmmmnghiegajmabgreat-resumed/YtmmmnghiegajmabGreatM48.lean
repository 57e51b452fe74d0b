import Derived.Test.YtmmmnghiegajmabGreatM12
import Derived.Test.YtmmmnghiegajmabGreatM30
import Derived.Test.YtmmmnghiegajmabGreatM41
import Derived.Test.YtmmmnghiegajmabGreatM47
import Derived.Test.YtmmmnghiegajmabGreatM33
import Derived.Test.YtmmmnghiegajmabGreatM32
/- The law Ended is walked. -/
namespace Go.Proofs.YtmmmnghiegajmabGreat
open Go.RowKit Go.Proofs.Herald
/-- A step of a script. -/
structure OpK where
  k : Int
  a : Int
  b : Int
/-- A script that lies in memory. -/
def OpsIn (w : World) (a : Option Addr) (b off : Nat) (ops : List OpK) : Prop := 0 < ops.length → a = some ⟨b, off, none⟩ ∧ b < w.heap.size ∧ ∀ i (h : i < ops.length), w.cell? ⟨b, off + i * 3, none⟩ = some (.int .i64 ops[i].k) ∧ w.cell? ⟨b, off + i * 3 + 1, none⟩ = some (.int .i64 ops[i].a) ∧ w.cell? ⟨b, off + i * 3 + 2, none⟩ = some (.int .i64 ops[i].b)
theorem KS.now {B : Nat} {cs : List Ins} {m : Nat} {h : Her Pr} {w0 w : World} {H : Nat} {F : Nat → Prop} (g : KS B cs m h w0 H F w) : 0 ≤ h.now ∧ h.now ≤ 1000000000 := by
  obtain ⟨i, s, h1, h2, _⟩ := g
  exact ⟨h2.ok.now0, h2.ok.now1⟩
end Go.Proofs.YtmmmnghiegajmabGreat
/- A herald that is played with, and the messages that it handed out, from step to step. -/
namespace Go.Proofs.Herald
theorem drain_no {h : Her Pr} {dev : Int} (hk : (drainH h dev).2.1 ≠ 0) : (drainH h dev).2.2 = h := by
  unfold drainH at hk ⊢
  split
  · rfl
  · rename_i hd
    rw [if_neg hd] at hk
    cases hq : h.qs dev.toNat with
    | nil => rfl
    | cons m r => rw [hq] at hk; exact absurd rfl hk
theorem trig_no {R : Type} {E : Eng R} {h : Her R} {dev : Int} (hk : (trigH E h dev).2.1 ≠ 0) : (trigH E h dev).2.2 = h := by
  unfold trigH at hk ⊢
  split
  · rfl
  · rename_i h1
    rw [if_neg h1] at hk
    split
    · rfl
    · rename_i h2
      rw [if_neg h2] at hk
      exact absurd rfl hk
end Go.Proofs.Herald
namespace Go.Proofs.YtmmmnghiegajmabGreat
open Go.RowKit Go.Proofs.Herald
theorem own_slice {w : World} {B k n : Nat} {e : TypeId} {v : Value} {xs : List Value} (h : w.ownsRow B e k v n xs) : ∃ a c, v = .slice a n c := by
  rcases h.2 with ⟨rfl, rfl⟩ | ⟨g, c, _, rfl, _⟩
  · exact ⟨none, 0, rfl⟩
  · exact ⟨_, c, rfl⟩
theorem own_zero {w : World} {B k n : Nat} {e : TypeId} {v : Value} {xs : List Value} (h : w.ownsRow B e k v n xs) : w.ownsRow 0 e k v n xs := by
  rcases h with ⟨h0, h | ⟨g, c, cur, h1, h2, h3⟩⟩
  · exact ⟨h0, .inl h⟩
  · exact ⟨h0, .inr ⟨g, c, cur, h1, Nat.zero_le _, h3⟩⟩
end Go.Proofs.YtmmmnghiegajmabGreat
/- Two states that are alike, to the laws without the document's answer; two heralds beside one another. -/
namespace Go.Proofs.YtmmmnghiegajmabGreat
open Go.RowKit Go.Proofs.Herald
set_option maxRecDepth 20000 in
set_option maxHeartbeats 4000000 in
theorem k_sameRuns (l : List Rn) (a b : Option Addr) (ca cb : Nat) (w : World) (ha : w.ownsRow 0 99 5 (.slice a l.length ca) l.length (rnsCells l)) (hb : w.ownsRow 0 99 5 (.slice b l.length cb) l.length (rnsCells l)) (hl : l.length ≤ 100000) :
    Calls Tryz.prog 24 #[.slice a l.length ca, .slice b l.length cb] w fun e w' => e = .returned (.bool true) ∧ SameH w w' := by
  have HA : Hid (w.ownsRow 0 99 5 (.slice a l.length ca) l.length (rnsCells l) ∧ w.ownsRow 0 99 5 (.slice b l.length cb) l.length (rnsCells l)) := ⟨ha, hb⟩
  clear ha hb
  go_enter Tryz.func24, Tryz.ntmps24
  go_wp2_with fail
  go_loopw [5] (fun i wr => ∃ k : Nat, k ≤ l.length ∧ i = .int .i64 k ∧ Hid (SameH w wr)) (fun i _ => l.length - (intOf i).toNat)
  case atStart => exact ⟨0, Nat.zero_le _, rfl, SameH.refl _⟩
  case round =>
    obtain ⟨k, hk, rfl, HS⟩ := hrel
    by_cases hlt : k < l.length
    · obtain ⟨g, ca', hv, _, _⟩ := HA.out.1.form (by omega)
      simp at hv
      obtain ⟨rfl, rfl⟩ := hv
      obtain ⟨g', cb', hv, _, _⟩ := HA.out.2.form (by omega)
      simp at hv
      obtain ⟨rfl, rfl⟩ := hv
      obtain ⟨e0, e1, e2, e3, e4⟩ := rn_get HA.out.1 hlt
      obtain ⟨f0, f1, f2, f3, f4⟩ := rn_get HA.out.2 hlt
      rw [← HS.out.cell] at e0 e1 e2 e3 e4 f0 f1 f2 f3 f4
      generalize l[k] = m at *
      go_wp2_with fail
      go_region
      all_goals
        go_wp2_with fail
        go_roundw
        case rel => exact ⟨k + 1, by omega, by go_num, HS.out.drew⟩
        case measure => simp [intOf]; omega
    · go_wp2_with fail
      go_ret
      exact ⟨rfl, HS.out⟩
set_option maxHeartbeats 2000000 in
theorem k_sameState (now : Int) (l : List Rn) (q : List Msg) (a b : Option Addr) (ca cb : Nat) (c d : Option Addr) (cc cd : Nat) (w : World)
    (ha : w.ownsRow 0 99 5 (.slice a l.length ca) l.length (rnsCells l)) (hb : w.ownsRow 0 99 5 (.slice b l.length cb) l.length (rnsCells l)) (hl : l.length ≤ 100000)
    (hc : w.ownsRow 0 29 4 (.slice c q.length cc) q.length (msgsCells q)) (hd : w.ownsRow 0 29 4 (.slice d q.length cd) q.length (msgsCells q)) (hq : q.length ≤ 100000) :
    Calls Tryz.prog 12 #[.agg #[.int .i64 now, .slice a l.length ca, .slice c q.length cc], .agg #[.int .i64 now, .slice b l.length cb, .slice d q.length cd]] w fun e w' => e = .returned (.bool true) ∧ Below w.heap.size w w' := by
  have HR : Hid (∀ W : World, Below w.heap.size w W → Calls Tryz.prog 24 #[.slice a l.length ca, .slice b l.length cb] W fun e w' => e = .returned (.bool true) ∧ SameH W w') := fun W hW =>
    k_sameRuns l a b ca cb W (row_below ha hW) (row_below hb hW) hl
  have HQ : Hid (∀ W : World, Below w.heap.size w W → Calls Tryz.prog 25 #[.slice c q.length cc, .slice d q.length cd] W fun e w' => e = .returned (.bool true) ∧ SameH W w') := fun W hW =>
    k_sameQueue q c d cc cd W (row_below hc hW) (row_below hd hW) hq
  clear ha hb hc hd
  obtain ⟨W, hW⟩ : ∃ W, W = (w.alloc (.cells #[.int .i64 now, .slice a l.length ca, .slice c q.length cc] 49)).alloc (.cells #[.int .i64 now, .slice b l.length cb, .slice d q.length cd] 49) := ⟨_, rfl⟩
  have HW : Hid (W = (w.alloc (.cells #[.int .i64 now, .slice a l.length ca, .slice c q.length cc] 49)).alloc (.cells #[.int .i64 now, .slice b l.length cb, .slice d q.length cd] 49) ∧ Below w.heap.size w W) := ⟨hW, by rw [hW]; exact ((Below.refl _ _).alloc (Nat.le_refl _) _).alloc (by simp) _⟩
  have HG : Hid (∀ w1, SameH W w1 → w1.heap[w.heap.size]? = some (.cells #[.int .i64 now, .slice a l.length ca, .slice c q.length cc] 49 (0, 0)) ∧ w1.heap[w.heap.size + 1]? = some (.cells #[.int .i64 now, .slice b l.length cb, .slice d q.length cd] 49 (0, 0))) := fun w1 h1 => by
    rw [h1.heap, hW]
    exact ⟨by rw [Below.heap_alloc _ _ _ (by simp)]; exact heap_alloc_new _ _, heap_alloc2 _ _ _⟩
  clear hW
  go_enter Tryz.func12, Tryz.ntmps12
  go_wp2_with fail
  rw [← HW.out.1]
  refine (HR.out W HW.out.2).mono ?_
  rintro e w1 ⟨rfl, h1⟩
  obtain ⟨m0, m1, m2, _⟩ := cells_of3 (HG.out w1 h1).1
  obtain ⟨n0, n1, n2, _⟩ := cells_of3 (HG.out w1 h1).2
  have HS1 : Hid (SameH W w1) := h1
  have HQ1 : Hid (Calls Tryz.prog 25 #[.slice c q.length cc, .slice d q.length cd] w1 fun e w' => e = .returned (.bool true) ∧ SameH w1 w') := HQ.out w1 (HW.out.2.trans (h1.below _))
  clear h1
  go_wp2_with fail
  refine HQ1.out.mono ?_
  rintro e w2 ⟨rfl, h2⟩
  have h12 : SameH W w2 := ⟨h2.heap.trans HS1.out.heap, h2.os.trans HS1.out.os, h2.tape.trans HS1.out.tape, h2.output.trans HS1.out.output⟩
  clear m0 m1 m2 n0 n1 n2
  obtain ⟨m0, m1, m2, _⟩ := cells_of3 (HG.out w2 h12).1
  obtain ⟨n0, n1, n2, _⟩ := cells_of3 (HG.out w2 h12).2
  have HB : Hid (Below w.heap.size w w2) := HW.out.2.trans (h12.below _)
  clear h2 h12
  go_wp2_with fail
  go_ret
  exact ⟨rfl, HB.out⟩
end Go.Proofs.YtmmmnghiegajmabGreat
/- Two heralds, and blocks beside them that are known. -/
namespace Go.Proofs.YtmmmnghiegajmabGreat
open Go.RowKit Go.Proofs.Herald
/-- A block that lies beside. -/
structure Bk where
  at' : Nat
  cs : Array Value
  ty : TypeId
def bkIn (L : List Bk) (k : Nat) : Prop := ∃ x ∈ L, x.at' = k
end Go.Proofs.YtmmmnghiegajmabGreat
