import Derived.Test.YtmmmnghiegajmabM01
import Derived.Test.YtmmmnghiegajmabM04
import Derived.Test.YtmmmnghiegajmabM05
import Derived.Test.YtmmmnghiegajmabM06
import Derived.Test.YtmmmnghiegajmabM07
import Derived.Test.YtmmmnghiegajmabM08
import Derived.Test.YtmmmnghiegajmabM09
import Derived.Test.YtmmmnghiegajmabM10
import Derived.Test.YtmmmnghiegajmabM11
import Derived.Test.YtmmmnghiegajmabM14
import Derived.Test.YtmmmnghiegajmabM16
import Derived.Test.YtmmmnghiegajmabM20
import Derived.Test.YtmmmnghiegajmabM21
import Derived.Test.YtmmmnghiegajmabM22
import Derived.Test.YtmmmnghiegajmabM24
import Derived.Test.YtmmmnghiegajmabM26
import Derived.Test.YtmmmnghiegajmabM27
import Derived.Test.YtmmmnghiegajmabM28
import Derived.Test.YtmmmnghiegajmabM29
import Derived.Test.YtmmmnghiegajmabM30
import Derived.Test.YtmmmnghiegajmabM31
import Derived.Test.YtmmmnghiegajmabM32
import Derived.Test.YtmmmnghiegajmabM33
import Derived.Test.YtmmmnghiegajmabM34
import Derived.Test.YtmmmnghiegajmabM37
import Derived.Test.YtmmmnghiegajmabM38
import Derived.Test.YtmmmnghiegajmabM40
import Derived.Test.YtmmmnghiegajmabM41
import Derived.Test.YtmmmnghiegajmabM42
import Derived.Test.YtmmmnghiegajmabA01
import Derived.Test.YtmmmnghiegajmabA02
import Derived.Test.YtmmmnghiegajmabA03
import Derived.Test.YtmmmnghiegajmabA04
namespace Go.Proofs.Ytmmmnghiegajmab
open Go.RowKit Go.Proofs.Herald
set_option maxRecDepth 20000 in
set_option maxHeartbeats 4000000 in
theorem k_sameRuns (l : List Rn) (a b : Option Addr) (ca cb : Nat) (w : World) (ha : w.ownsRow 0 82 5 (.slice a l.length ca) l.length (rnsCells l)) (hb : w.ownsRow 0 82 5 (.slice b l.length cb) l.length (rnsCells l)) (hl : l.length ≤ 100000) :
    Calls Try.prog 30 #[.slice a l.length ca, .slice b l.length cb] w fun e w' => e = .returned (.bool true) ∧ SameH w w' := by
  have HA : Hid (w.ownsRow 0 82 5 (.slice a l.length ca) l.length (rnsCells l) ∧ w.ownsRow 0 82 5 (.slice b l.length cb) l.length (rnsCells l)) := ⟨ha, hb⟩
  clear ha hb
  go_enter Try.func30, Try.ntmps30
  go_wp2_with fail
  go_loopw [5] (fun i wr => ∃ k : Nat, k ≤ l.length ∧ i = .int .i64 k ∧ Hid (SameH w wr)) (fun i _ => l.length - (intOf i).toNat)
  case atStart => exact ⟨0, Nat.zero_le _, rfl, SameH.refl _⟩
  case round =>
    obtain ⟨k, hk, rfl, HS⟩ := hrel
    by_cases hlt : k < l.length
    · obtain ⟨g, ca', hv, _, _⟩ := HA.out.1.form (by omega)
      simp at hv
      obtain ⟨rfl, rfl⟩ := hv
      obtain ⟨g', cb', hv, _, _⟩ := HA.out.2.form (by omega)
      simp at hv
      obtain ⟨rfl, rfl⟩ := hv
      obtain ⟨e0, e1, e2, e3, e4⟩ := rn_get HA.out.1 hlt
      obtain ⟨f0, f1, f2, f3, f4⟩ := rn_get HA.out.2 hlt
      rw [← HS.out.cell] at e0 e1 e2 e3 e4 f0 f1 f2 f3 f4
      generalize l[k] = m at *
      go_wp2_with fail
      go_region
      all_goals
        go_wp2_with fail
        go_roundw
        case rel => exact ⟨k + 1, by omega, by go_num, HS.out.drew⟩
        case measure => simp [intOf]; omega
    · go_wp2_with fail
      go_ret
      exact ⟨rfl, HS.out⟩
set_option maxHeartbeats 2000000 in
theorem k_sameState (now : Int) (l : List Rn) (q : List Msg) (a b : Option Addr) (ca cb : Nat) (c d : Option Addr) (cc cd : Nat) (w : World)
    (ha : w.ownsRow 0 82 5 (.slice a l.length ca) l.length (rnsCells l)) (hb : w.ownsRow 0 82 5 (.slice b l.length cb) l.length (rnsCells l)) (hl : l.length ≤ 100000)
    (hc : w.ownsRow 0 30 4 (.slice c q.length cc) q.length (msgsCells q)) (hd : w.ownsRow 0 30 4 (.slice d q.length cd) q.length (msgsCells q)) (hq : q.length ≤ 100000) :
    Calls Try.prog 14 #[.agg #[.int .i64 now, .slice a l.length ca, .slice c q.length cc], .agg #[.int .i64 now, .slice b l.length cb, .slice d q.length cd]] w fun e w' => e = .returned (.bool true) ∧ Below w.heap.size w w' := by
  have HR : Hid (∀ W : World, Below w.heap.size w W → Calls Try.prog 30 #[.slice a l.length ca, .slice b l.length cb] W fun e w' => e = .returned (.bool true) ∧ SameH W w') := fun W hW =>
    k_sameRuns l a b ca cb W (row_below ha hW) (row_below hb hW) hl
  have HQ : Hid (∀ W : World, Below w.heap.size w W → Calls Try.prog 31 #[.slice c q.length cc, .slice d q.length cd] W fun e w' => e = .returned (.bool true) ∧ SameH W w') := fun W hW =>
    k_sameQueue q c d cc cd W (row_below hc hW) (row_below hd hW) hq
  clear ha hb hc hd
  obtain ⟨W, hW⟩ : ∃ W, W = (w.alloc (.cells #[.int .i64 now, .slice a l.length ca, .slice c q.length cc] 44)).alloc (.cells #[.int .i64 now, .slice b l.length cb, .slice d q.length cd] 44) := ⟨_, rfl⟩
  have HW : Hid (W = (w.alloc (.cells #[.int .i64 now, .slice a l.length ca, .slice c q.length cc] 44)).alloc (.cells #[.int .i64 now, .slice b l.length cb, .slice d q.length cd] 44) ∧ Below w.heap.size w W) := ⟨hW, by rw [hW]; exact ((Below.refl _ _).alloc (Nat.le_refl _) _).alloc (by simp) _⟩
  have HG : Hid (∀ w1, SameH W w1 → w1.heap[w.heap.size]? = some (.cells #[.int .i64 now, .slice a l.length ca, .slice c q.length cc] 44 (0, 0)) ∧ w1.heap[w.heap.size + 1]? = some (.cells #[.int .i64 now, .slice b l.length cb, .slice d q.length cd] 44 (0, 0))) := fun w1 h1 => by
    rw [h1.heap, hW]
    exact ⟨by rw [Below.heap_alloc _ _ _ (by simp)]; exact heap_alloc_new _ _, heap_alloc2 _ _ _⟩
  clear hW
  go_enter Try.func14, Try.ntmps14
  go_wp2_with fail
  rw [← HW.out.1]
  refine (HR.out W HW.out.2).mono ?_
  rintro e w1 ⟨rfl, h1⟩
  obtain ⟨m0, m1, m2, _⟩ := cells_of3 (HG.out w1 h1).1
  obtain ⟨n0, n1, n2, _⟩ := cells_of3 (HG.out w1 h1).2
  have HS1 : Hid (SameH W w1) := h1
  have HQ1 : Hid (Calls Try.prog 31 #[.slice c q.length cc, .slice d q.length cd] w1 fun e w' => e = .returned (.bool true) ∧ SameH w1 w') := HQ.out w1 (HW.out.2.trans (h1.below _))
  clear h1
  go_wp2_with fail
  refine HQ1.out.mono ?_
  rintro e w2 ⟨rfl, h2⟩
  have h12 : SameH W w2 := ⟨h2.heap.trans HS1.out.heap, h2.os.trans HS1.out.os, h2.tape.trans HS1.out.tape, h2.output.trans HS1.out.output⟩
  clear m0 m1 m2 n0 n1 n2
  obtain ⟨m0, m1, m2, _⟩ := cells_of3 (HG.out w2 h12).1
  obtain ⟨n0, n1, n2, _⟩ := cells_of3 (HG.out w2 h12).2
  have HB : Hid (Below w.heap.size w w2) := HW.out.2.trans (h12.below _)
  clear h2 h12
  go_wp2_with fail
  go_ret
  exact ⟨rfl, HB.out⟩
/-- Two heralds beside one another: neither owns what is the other's, or in F. -/
def KK (B : Nat) (cs : List Ins) (m n : Nat) (hg hf : Her Pr) (w0 : World) (Hg Hf : Nat) (F : Nat → Prop) (w : World) : Prop :=
  ∃ j t, j ≤ n ∧ GA cs j hf w Hf t ∧ (∀ k, t.own Hf k → B ≤ k ∧ ¬ F k) ∧ KS B cs m hg w0 Hg (fun k => F k ∨ t.own Hf k) w
theorem KK.swap {B : Nat} {cs : List Ins} {m n : Nat} {hg hf : Her Pr} {w0 w : World} {Hg Hf : Nat} {F : Nat → Prop} (g : KK B cs m n hg hf w0 Hg Hf F w) : KK B cs n m hf hg w0 Hf Hg F w := by
  obtain ⟨j, t, hj, gf, of, i, s, hi, gg, og, lt, bl, hB⟩ := g
  exact ⟨i, s, hi, gg, fun k hk => ⟨(og k hk).1, fun h => (og k hk).2 (.inl h)⟩, j, t, hj, gf, fun k hk => ⟨(of k hk).1, fun h => h.elim (of k hk).2 (fun h => (og k h).2 (.inr hk))⟩, fun k hk => hk.elim (fun h => lt k (.inl h)) (fun h => gg.lt h), bl, hB⟩
theorem KK.ks {B : Nat} {cs : List Ins} {m n : Nat} {hg hf : Her Pr} {w0 w : World} {Hg Hf : Nat} {F : Nat → Prop} (g : KK B cs m n hg hf w0 Hg Hf F w) : KS B cs m hg w0 Hg F w := by
  obtain ⟨j, t, _, _, _, ks⟩ := g
  exact ks.less fun k hk => .inl hk
theorem KK.back {B : Nat} {cs : List Ins} {m n : Nat} {hg hf : Her Pr} {w0 w : World} {Hg Hf : Nat} {F : Nat → Prop} (g : KK B cs m n hg hf w0 Hg Hf F w) : Below B w0 w := g.ks.back
theorem KK.le {B : Nat} {cs : List Ins} {m m' n n' : Nat} {hg hf : Her Pr} {w0 w : World} {Hg Hf : Nat} {F : Nat → Prop} (g : KK B cs m n hg hf w0 Hg Hf F w) (hm : m ≤ m') (hn : n ≤ n') : KK B cs m' n' hg hf w0 Hg Hf F w := by
  obtain ⟨j, t, hj, gf, of, ks⟩ := g
  exact ⟨j, t, by omega, gf, of, ks.le hm⟩
theorem KK.less {B : Nat} {cs : List Ins} {m n : Nat} {hg hf : Her Pr} {w0 w : World} {Hg Hf : Nat} {F F' : Nat → Prop} (g : KK B cs m n hg hf w0 Hg Hf F w) (hF : ∀ k, F' k → F k) : KK B cs m n hg hf w0 Hg Hf F' w := by
  obtain ⟨j, t, hj, gf, of, ks⟩ := g
  exact ⟨j, t, hj, gf, fun k hk => ⟨(of k hk).1, fun h => (of k hk).2 (hF k h)⟩, ks.less fun k hk => hk.elim (fun h => .inl (hF k h)) .inr⟩
/-- What lies in F is written, or something new is made. -/
theorem KK.fr {B : Nat} {cs : List Ins} {m n : Nat} {hg hf : Her Pr} {w0 w w' : World} {Hg Hf : Nat} {F S : Nat → Prop} (g : KK B cs m n hg hf w0 Hg Hf F w) (hfr : Fr S w w') (hS : ∀ k, S k → k < w.heap.size → F k ∧ B ≤ k) : KK B cs m n hg hf w0 Hg Hf (fun k => F k ∨ (w.heap.size ≤ k ∧ k < w'.heap.size)) w' := by
  obtain ⟨j, t, hj, gf, of, ks⟩ := g
  refine ⟨j, t, hj, gf.keep fun k hk => hfr.block k (gf.lt hk) fun hs => (of k hk).2 (hS k hs (gf.lt hk)).1, fun k hk => ⟨(of k hk).1, ?_⟩, (ks.fr hfr fun k hk hl => ⟨.inl (hS k hk hl).1, (hS k hk hl).2⟩).less ?_⟩
  · rintro (h | ⟨h, _⟩)
    · exact (of k hk).2 h
    · have := gf.lt hk
      omega
  · rintro k ((h | h) | h)
    · exact .inl (.inl h)
    · exact .inr h
    · exact .inl (.inr h)
theorem KK.more {B : Nat} {cs : List Ins} {m n : Nat} {hg hf : Her Pr} {w0 w w' : World} {Hg Hf : Nat} {F : Nat → Prop} (g : KK B cs m n hg hf w0 Hg Hf F w) (hb : Below w.heap.size w w') : KK B cs m n hg hf w0 Hg Hf (fun k => F k ∨ (w.heap.size ≤ k ∧ k < w'.heap.size)) w' :=
  g.fr (Fr.of_below hb) fun _ hk hk2 => by omega
theorem KK.below {B : Nat} {cs : List Ins} {m n : Nat} {hg hf : Her Pr} {w0 w w' : World} {Hg Hf : Nat} {F : Nat → Prop} (g : KK B cs m n hg hf w0 Hg Hf F w) (hb : Below w.heap.size w w') : KK B cs m n hg hf w0 Hg Hf F w' := (g.more hb).less fun _ hk => .inl hk
theorem KK.same {B : Nat} {cs : List Ins} {m n : Nat} {hg hf : Her Pr} {w0 w w' : World} {Hg Hf : Nat} {F : Nat → Prop} (g : KK B cs m n hg hf w0 Hg Hf F w) (hs : SameH w w') : KK B cs m n hg hf w0 Hg Hf F w' := g.below (hs.below _)
/-- A step is played with the first of two. -/
theorem kk_play {B : Nat} {cs : List Ins} {m n : Nat} {hg hf : Her Pr} {w0 : World} {Hg Hf : Nat} {F : Nat → Prop} (k a b : Int) (w : World) (g : KK B cs m n hg hf w0 Hg Hf F w) (hm : m ≤ 1500000) :
    Calls Try.prog 8 #[.pointer (some ⟨Hg, 0, none⟩), .agg #[.int .i64 k, .int .i64 a, .int .i64 b]] w fun e w' => e = .returned (ansV (playH cs hg k a b).1) ∧ KK B cs (m + 1) n (playH cs hg k a b).2 hf w0 Hg Hf F w' ∧ ∀ x, F x → w'.heap[x]? = w.heap[x]? := by
  obtain ⟨j, t, hj, gf, of, ks⟩ := g
  refine (c_play k a b w ks hm).mono ?_
  rintro e w' ⟨rfl, g1, g2⟩
  exact ⟨rfl, ⟨j, t, hj, gf.keep fun x hx => g2 x (.inr hx), of, g1⟩, fun x hx => g2 x (.inl hx)⟩
theorem kk_Trigger {B : Nat} {cs : List Ins} {m n : Nat} {hg hf : Her Pr} {w0 : World} {Hg Hf : Nat} {F : Nat → Prop} (dev : Int) (w : World) (g : KK B cs m n hg hf w0 Hg Hf F w) (hm : m ≤ 2000000) :
    Calls Try.prog 12 #[.pointer (some ⟨Hg, 0, none⟩), .int .i64 dev] w fun e w' => e = .returned (.tuple #[.int .i64 (trigH (machE cs) hg dev).1, .int .i64 (trigH (machE cs) hg dev).2.1]) ∧ KK B cs (m + 1) n (trigH (machE cs) hg dev).2.2 hf w0 Hg Hf F w' ∧ ∀ x, F x → w'.heap[x]? = w.heap[x]? := by
  obtain ⟨j, t, hj, gf, of, ks⟩ := g
  refine (ks_Trigger dev w ks hm).mono ?_
  rintro e w' ⟨rfl, g1, g2⟩
  exact ⟨rfl, ⟨j, t, hj, gf.keep fun x hx => g2 x (.inr hx), of, g1⟩, fun x hx => g2 x (.inl hx)⟩
open Go.RowKit Go.Proofs.Herald
/-- A block that lies beside. -/
structure Bk where
  at' : Nat
  cs : Array Value
  ty : TypeId
def bkIn (L : List Bk) (k : Nat) : Prop := ∃ x ∈ L, x.at' = k
/-- Two heralds, and beside them the blocks of L. -/
structure KL (cs : List Ins) (m n : Nat) (hg hf : Her Pr) (w0 : World) (Hg Hf : Nat) (L : List Bk) (w : World) : Prop where
  kk : KK w0.heap.size cs m n hg hf w0 Hg Hf (bkIn L) w
  blk : ∀ x ∈ L, w.heap[x.at']? = some (.cells x.cs x.ty (0, 0)) ∧ w0.heap.size ≤ x.at'
theorem KL.swap {cs : List Ins} {m n : Nat} {hg hf : Her Pr} {w0 w : World} {Hg Hf : Nat} {L : List Bk} (h : KL cs m n hg hf w0 Hg Hf L w) : KL cs n m hf hg w0 Hf Hg L w := ⟨h.kk.swap, h.blk⟩
theorem KL.back {cs : List Ins} {m n : Nat} {hg hf : Her Pr} {w0 w : World} {Hg Hf : Nat} {L : List Bk} (h : KL cs m n hg hf w0 Hg Hf L w) : Below w0.heap.size w0 w := h.kk.back
theorem KL.sub {cs : List Ins} {m n : Nat} {hg hf : Her Pr} {w0 w : World} {Hg Hf : Nat} {L L' : List Bk} (h : KL cs m n hg hf w0 Hg Hf L w) (hs : ∀ x ∈ L', x ∈ L) : KL cs m n hg hf w0 Hg Hf L' w :=
  ⟨h.kk.less fun _ ⟨x, hx, e⟩ => ⟨x, hs x hx, e⟩, fun x hx => h.blk x (hs x hx)⟩
theorem KL.le {cs : List Ins} {m m' n n' : Nat} {hg hf : Her Pr} {w0 w : World} {Hg Hf : Nat} {L : List Bk} (h : KL cs m n hg hf w0 Hg Hf L w) (hm : m ≤ m') (hn : n ≤ n') : KL cs m' n' hg hf w0 Hg Hf L w := ⟨h.kk.le hm hn, h.blk⟩
theorem KL.below {cs : List Ins} {m n : Nat} {hg hf : Her Pr} {w0 w w' : World} {Hg Hf : Nat} {L : List Bk} (h : KL cs m n hg hf w0 Hg Hf L w) (hb : Below w.heap.size w w') : KL cs m n hg hf w0 Hg Hf L w' :=
  ⟨h.kk.below hb, fun x hx => ⟨(hb.block _ (heap_lt (h.blk x hx).1)).trans (h.blk x hx).1, (h.blk x hx).2⟩⟩
theorem KL.same {cs : List Ins} {m n : Nat} {hg hf : Her Pr} {w0 w w' : World} {Hg Hf : Nat} {L : List Bk} (h : KL cs m n hg hf w0 Hg Hf L w) (hs : SameH w w') : KL cs m n hg hf w0 Hg Hf L w' := h.below (hs.below _)
/-- A block is made. -/
theorem KL.new {cs : List Ins} {m n : Nat} {hg hf : Her Pr} {w0 w : World} {Hg Hf : Nat} {L : List Bk} (h : KL cs m n hg hf w0 Hg Hf L w) (c : Array Value) (t : TypeId) : KL cs m n hg hf w0 Hg Hf (⟨w.heap.size, c, t⟩ :: L) (w.alloc (.cells c t)) := by
  have hb : Below w.heap.size w (w.alloc (.cells c t)) := (Below.refl _ _).alloc (Nat.le_refl _) _
  have hB := h.kk.ks.B
  refine ⟨(h.kk.more hb).less ?_, ?_⟩
  · rintro k ⟨x, hx, rfl⟩
    rcases List.mem_cons.mp hx with rfl | hx
    · exact .inr ⟨Nat.le_refl _, by simp⟩
    · exact .inl ⟨x, hx, rfl⟩
  · intro x hx
    rcases List.mem_cons.mp hx with rfl | hx
    · exact ⟨heap_alloc_new _ _, hB⟩
    · exact (h.below hb).blk x hx
/-- A block beside is written. -/
theorem KL.put {cs : List Ins} {m n : Nat} {hg hf : Her Pr} {w0 w w' : World} {Hg Hf : Nat} {L : List Bk} {X : Nat} {c c' : Array Value} {t : TypeId} (h : KL cs m n hg hf w0 Hg Hf (⟨X, c, t⟩ :: L) w) (hfr : Fr (fun k => k = X) w w') (hX : w'.heap[X]? = some (.cells c' t (0, 0))) (hne : ∀ x ∈ L, x.at' ≠ X) : KL cs m n hg hf w0 Hg Hf (⟨X, c', t⟩ :: L) w' := by
  refine ⟨(h.kk.fr hfr ?_).less ?_, ?_⟩
  · intro k hk _
    rw [hk]
    exact ⟨⟨_, List.mem_cons_self .., rfl⟩, (h.blk _ (List.mem_cons_self ..)).2⟩
  · rintro k ⟨x, hx, rfl⟩
    rcases List.mem_cons.mp hx with rfl | hx
    · exact .inl ⟨_, List.mem_cons_self .., rfl⟩
    · exact .inl ⟨x, List.mem_cons_of_mem _ hx, rfl⟩
  · intro x hx
    rcases List.mem_cons.mp hx with rfl | hx
    · exact ⟨hX, (h.blk _ (List.mem_cons_self ..)).2⟩
    · have hb := h.blk x (List.mem_cons_of_mem _ hx)
      exact ⟨(hfr.block _ (heap_lt hb.1) (hne x hx)).trans hb.1, hb.2⟩
/-- A step is played with the first of two. -/
theorem kl_play {cs : List Ins} {m n : Nat} {hg hf : Her Pr} {w0 w : World} {Hg Hf : Nat} {L : List Bk} (h : KL cs m n hg hf w0 Hg Hf L w) (k a b : Int) (hm : m ≤ 1500000) (W : World) (hs : SameH w W) :
    Calls Try.prog 8 #[.pointer (some ⟨Hg, 0, none⟩), .agg #[.int .i64 k, .int .i64 a, .int .i64 b]] W fun e w' => e = .returned (.agg #[.int .i64 (playH cs hg k a b).1.1, .int .i64 (playH cs hg k a b).1.2.1.dev, .int .i64 (playH cs hg k a b).1.2.1.run, .int .i64 (playH cs hg k a b).1.2.1.num, .int .i64 (playH cs hg k a b).1.2.1.key, .int .i64 (playH cs hg k a b).1.2.2]) ∧ KL cs (m + 1) n (playH cs hg k a b).2 hf w0 Hg Hf L w' := by
  have h1 := h.same hs
  refine (kk_play k a b W h1.kk hm).mono ?_
  rintro e w' ⟨rfl, g1, g2⟩
  exact ⟨rfl, g1, fun x hx => ⟨(g2 x.at' ⟨x, hx, rfl⟩).trans (h1.blk x hx).1, (h1.blk x hx).2⟩⟩
/-- The same, where the block that takes the answer in was made ahead. -/
theorem kl_play2 {cs : List Ins} {m n : Nat} {hg hf : Her Pr} {w0 w : World} {Hg Hf : Nat} {L : List Bk} (h : KL cs m n hg hf w0 Hg Hf L w) (k a b : Int) (hm : m ≤ 1500000) (W : World) (hs : SameH (w.alloc (.cells #[.int .i64 0, .int .i64 0, .int .i64 0, .int .i64 0, .int .i64 0, .int .i64 0] 33)) W) :
    Calls Try.prog 8 #[.pointer (some ⟨Hg, 0, none⟩), .agg #[.int .i64 k, .int .i64 a, .int .i64 b]] W fun e w' => e = .returned (.agg #[.int .i64 (playH cs hg k a b).1.1, .int .i64 (playH cs hg k a b).1.2.1.dev, .int .i64 (playH cs hg k a b).1.2.1.run, .int .i64 (playH cs hg k a b).1.2.1.num, .int .i64 (playH cs hg k a b).1.2.1.key, .int .i64 (playH cs hg k a b).1.2.2]) ∧
      w'.heap[w.heap.size]? = some (.cells #[.int .i64 0, .int .i64 0, .int .i64 0, .int .i64 0, .int .i64 0, .int .i64 0] 33 (0, 0)) ∧
      ∀ o1 o2 o3 o4 o5 o6, KL cs (m + 1) n (playH cs hg k a b).2 hf w0 Hg Hf (⟨w.heap.size, #[o1, o2, o3, o4, o5, o6], 33⟩ :: L) ((((((w'.setCell ⟨w.heap.size, 0, none⟩ o1).setCell ⟨w.heap.size, 1, none⟩ o2).setCell ⟨w.heap.size, 2, none⟩ o3).setCell ⟨w.heap.size, 3, none⟩ o4).setCell ⟨w.heap.size, 4, none⟩ o5).setCell ⟨w.heap.size, 5, none⟩ o6) := by
  refine (kl_play (h.new #[.int .i64 0, .int .i64 0, .int .i64 0, .int .i64 0, .int .i64 0, .int .i64 0] 33) k a b hm W hs).mono ?_
  rintro e w' ⟨rfl, g⟩
  have hz := (g.blk _ (List.mem_cons_self ..)).1
  refine ⟨rfl, hz, fun o1 o2 o3 o4 o5 o6 => ?_⟩
  have h6 := set6 (S := fun k => k = w.heap.size) (a := o1) (b := o2) (c := o3) (d := o4) (e := o5) (f := o6) hz rfl
  exact g.put h6.2 h6.1 fun x hx => by have := heap_lt (h.blk x hx).1; omega
/-- What both heralds keep between steps. -/
structure AB (hg hf : Her Pr) : Prop where
  ar : AR hg hf
  now : hg.now = hf.now
  g : ∃ O l, BS O l hg
  f : ∃ O l, BS O l hf
theorem bs_play {cs : List Ins} {C : Int} {h : Her Pr} (hk : HOk (machE cs) (goodM cs) C h) (hE : EngOk (machE cs) (goodM cs)) (hall : ∀ x ∈ cs, soundI cs.length x = true) (b : ∃ O l, BS O l h) (k a c : Int) : ∃ O l, BS O l (playH cs h k a c).2 := by
  obtain ⟨O, l, b⟩ := b
  exact ⟨_, _, (b.play hk hE hall k a c).bs⟩
/-- A step that is for the first run and device, or for both. -/
def oneStep (k a : Int) : Prop := k ≠ 1 ∧ (k = 3 → a = 1) ∧ (k = 4 → a = 1) ∧ (k = 5 → a = 0)
/-- A step that is for the other run and device. -/
def twoStep (k a : Int) : Prop := k ≠ 1 ∧ k ≠ 2 ∧ (k = 3 → a = 2) ∧ (k = 4 → a = 2) ∧ (k = 5 → a = 1)
theorem AB.one {cs : List Ins} {m n : Nat} {hg hf : Her Pr} {w0 w : World} {Hg Hf : Nat} {L : List Bk} (kl : KL cs m n hg hf w0 Hg Hf L w) (h : AB hg hf) {k a : Int} (hs : oneStep k a) (b : Int) : (playH cs hg k a b).1 = (playH cs hf k a b).1 ∧ AB (playH cs hg k a b).2 (playH cs hf k a b).2 := by
  obtain ⟨C, hk, hE, hall⟩ := ks_ok kl.kk.ks
  obtain ⟨D, hk2, _, _⟩ := ks_ok kl.kk.swap.ks
  obtain ⟨h1, h3, h4, h5⟩ := hs
  have key : (playH cs hg k a b).1 = (playH cs hf k a b).1 ∧ AR (playH cs hg k a b).2 (playH cs hf k a b).2 ∧ (playH cs hg k a b).2.now = (playH cs hf k a b).2.now := by
    unfold playH
    rw [if_neg h1, if_neg h1]
    by_cases c2 : k = 2
    · rw [if_pos c2, if_pos c2]
      obtain ⟨t1, t2, t3⟩ := h.ar.tick hE h.now hk hk2 a
      exact ⟨by rw [t1], t2, t3⟩
    rw [if_neg c2, if_neg c2]
    by_cases c3 : k = 3
    · rw [if_pos c3, if_pos c3, h3 c3]
      obtain ⟨t1, t2, t3⟩ := h.ar.ack (cs := cs) h.now b
      exact ⟨by rw [t1], t2, t3⟩
    rw [if_neg c3, if_neg c3]
    by_cases c4 : k = 4
    · rw [if_pos c4, if_pos c4, h4 c4]
      obtain ⟨t1, t2, t3⟩ := h.ar.cancel (cs := cs) h.now
      exact ⟨by rw [t1], t2, t3⟩
    rw [if_neg c4, if_neg c4]
    by_cases c5 : k = 5
    · rw [if_pos c5, if_pos c5, h5 c5]
      obtain ⟨t1, t2, t3, t4⟩ := h.ar.drain h.now
      exact ⟨by rw [t1, t2], t3, t4⟩
    rw [if_neg c5, if_neg c5]
    exact ⟨rfl, h.ar, h.now⟩
  exact ⟨key.1, key.2.1, key.2.2, bs_play hk hE hall h.g k a b, bs_play hk2 hE hall h.f k a b⟩
theorem AB.two {cs : List Ins} {m n : Nat} {hg hf : Her Pr} {w0 w : World} {Hg Hf : Nat} {L : List Bk} (kl : KL cs m n hg hf w0 Hg Hf L w) (h : AB hg hf) {k a : Int} (hs : twoStep k a) (b : Int) : AB (playH cs hg k a b).2 hf := by
  obtain ⟨C, hk, hE, hall⟩ := ks_ok kl.kk.ks
  obtain ⟨h1, h2, h3, h4, h5⟩ := hs
  have key : AR (playH cs hg k a b).2 hf ∧ (playH cs hg k a b).2.now = hg.now := by
    unfold playH
    rw [if_neg h1, if_neg h2]
    by_cases c3 : k = 3
    · rw [if_pos c3, h3 c3]
      exact h.ar.ack2 b
    rw [if_neg c3]
    by_cases c4 : k = 4
    · rw [if_pos c4, h4 c4]
      exact h.ar.cancel2
    rw [if_neg c4]
    by_cases c5 : k = 5
    · rw [if_pos c5, h5 c5]
      exact h.ar.drain2
    rw [if_neg c5]
    exact ⟨h.ar, rfl⟩
  exact ⟨key.1, key.2.trans h.now, bs_play hk hE hall h.g k a b, h.f⟩
end Go.Proofs.Ytmmmnghiegajmab
