import Derived.Test.YtmmmnghiegajmabM01
import Derived.Test.YtmmmnghiegajmabM02
import Derived.Test.YtmmmnghiegajmabM03
import Derived.Test.YtmmmnghiegajmabM04
import Derived.Test.YtmmmnghiegajmabM05
import Derived.Test.YtmmmnghiegajmabM06
import Derived.Test.YtmmmnghiegajmabM07
import Derived.Test.YtmmmnghiegajmabM08
import Derived.Test.YtmmmnghiegajmabM09
import Derived.Test.YtmmmnghiegajmabM10
import Derived.Test.YtmmmnghiegajmabM11
import Derived.Test.YtmmmnghiegajmabM12
import Derived.Test.YtmmmnghiegajmabM14
import Derived.Test.YtmmmnghiegajmabM15
import Derived.Test.YtmmmnghiegajmabM16
import Derived.Test.YtmmmnghiegajmabM20
import Derived.Test.YtmmmnghiegajmabM21
import Derived.Test.YtmmmnghiegajmabM22
import Derived.Test.YtmmmnghiegajmabM24
import Derived.Test.YtmmmnghiegajmabM26
import Derived.Test.YtmmmnghiegajmabM27
import Derived.Test.YtmmmnghiegajmabM28
import Derived.Test.YtmmmnghiegajmabM29
import Derived.Test.YtmmmnghiegajmabM30
import Derived.Test.YtmmmnghiegajmabM31
import Derived.Test.YtmmmnghiegajmabM32
import Derived.Test.YtmmmnghiegajmabM33
import Derived.Test.YtmmmnghiegajmabM34
import Derived.Test.YtmmmnghiegajmabM35
import Derived.Test.YtmmmnghiegajmabM36
import Derived.Test.YtmmmnghiegajmabM37
import Derived.Test.YtmmmnghiegajmabM38
import Derived.Test.YtmmmnghiegajmabM40
import Derived.Test.YtmmmnghiegajmabM41
import Derived.Test.YtmmmnghiegajmabM42
import Derived.Lib.BufferRead
import Derived.Test.YtmmmnghiegajmabR01
import Derived.Test.YtmmmnghiegajmabR02
import Derived.Test.YtmmmnghiegajmabR03
import Derived.Test.YtmmmnghiegajmabR04
namespace Go.Proofs.Herald
/-- The step of a record's call. -/
def kindOf (c : Nat) : Int := if c = 84 then 1 else if c = 75 then 2 else if c = 65 then 3 else if c = 67 then 4 else 5
end Go.Proofs.Herald
namespace Go.Proofs.Ytmmmnghiegajmab
open Go.RowKit Go.Proofs.Herald
set_option maxRecDepth 20000 in
set_option maxHeartbeats 4000000 in
theorem kj_Journal {B : Nat} {cs : List Ins} {m : Nat} {h : Her Pr} {J : List Nat} {w0 : World} {H : Nat} {F : Nat → Prop} (w : World) (g : KJ B cs m h J w0 H F w) :
    Calls Try.prog 16 #[.pointer (some ⟨H, 0, none⟩)] w fun e w' => e = .returned (.string (strN J)) ∧ w' = w := by
  obtain ⟨i, s, h1, h2, _⟩ := g
  have hb := h2.ga.fh.m.at'.blk
  have hHl : H < w.heap.size := heap_lt hb
  obtain ⟨ra, rc, hrv⟩ := ownsRow_slice h2.r
  have c7 : w.cell? ⟨H, 7, none⟩ = some (.slice ra J.length rc) := by rw [← hrv]; exact (cell_of_heap hb).trans rfl
  have hr := h2.r
  rw [hrv] at hr
  by_cases hp : 0 < J.length
  · have hcv := str_of_row hr hp
    clear hr hrv h2 hb h1
    go_enter Try.func16, Try.ntmps16
    go_wp2_with fail
    go_ret
    exact ⟨rfl, rfl⟩
  · obtain rfl : J = [] := List.eq_nil_of_length_eq_zero (by omega)
    have hcv : (convert 78 9 (.slice ra 0 rc)).run Try.prog w = .ok (.string (strN [])) w := by
      rcases hr.2 with ⟨hv, _⟩ | ⟨g, c, cur, hv, _⟩
      · simp at hv
        obtain ⟨rfl, rfl⟩ := hv
        exact Lib.run_convert_nil_bytes w 78 9 5 0 Try.underlying78 Try.underlying5 Try.underlying9
      · simp at hv
        obtain ⟨rfl, rfl⟩ := hv
        exact run_convert_bytes_arg (w := w) 78 5 Try.underlying78 Try.underlying5 g 0 0 rc [] rfl (fun i hi => absurd hi (by omega)) 9 Try.underlying9
    clear hr hrv h2 hb h1
    go_enter Try.func16, Try.ntmps16
    go_wp2_with fail
    go_ret
    exact ⟨rfl, rfl⟩
/-- Behind a record's call. -/
def DoOutJ (B : Nat) (cs : List Ins) (m : Nat) (h' : Her Pr) (J' : List Nat) (w0 : World) (H : Nat) (F : Nat → Prop) (f : Int) (w : World) (e : Ending) (w' : World) : Prop :=
  e = .returned (.int .i64 f) ∧ KJ B cs (m + 1) h' J' w0 H F w' ∧ ∀ k, F k → w'.heap[k]? = w.heap[k]?
theorem alloc_same {w : World} (o : Obj) {k : Nat} (hk : k < w.heap.size) : (w.alloc o).heap[k]? = w.heap[k]? := Below.heap_alloc _ _ _ hk
set_option maxRecDepth 20000 in
set_option maxHeartbeats 4000000 in
theorem x_do_trigger {B : Nat} {cs : List Ins} {m : Nat} {h : Her Pr} {J : List Nat} {w0 : World} {H : Nat} {F : Nat → Prop} (a b : Int) (w : World) (g : KJ B cs m h J w0 H F w) (hm : m ≤ 1500000) :
    Calls Try.prog 50 #[.pointer (some ⟨H, 0, none⟩), .agg #[.int .u8 84, .int .i64 a, .int .i64 b]] w (DoOutJ B cs m (trigH (machE cs) h a).2.2 (noteJ (trigH (machE cs) h a).2.1 J 84 a 0) w0 H F (trigH (machE cs) h a).2.1 w) := by
  have HF : Hid (∀ x, F x → x < w.heap.size) := fun x hx => g.lt hx
  have HC : Hid (∀ o, Calls Try.prog 12 #[.pointer (some ⟨H, 0, none⟩), .int .i64 a] (w.alloc o) fun e w' => e = .returned (.tuple #[.int .i64 (trigH (machE cs) h a).1, .int .i64 (trigH (machE cs) h a).2.1]) ∧ KJ B cs (m + 1) (trigH (machE cs) h a).2.2 (noteJ (trigH (machE cs) h a).2.1 J 84 a 0) w0 H F w' ∧ ∀ k, F k → w'.heap[k]? = w.heap[k]?) := fun o =>
    (kj_Trigger a _ (g.below ((Below.refl _ _).alloc (Nat.le_refl _) o)) (by omega)).mono fun e w' hh => ⟨hh.1, hh.2.1, fun k hk => (hh.2.2 k hk).trans (alloc_same o (g.lt hk))⟩
  clear g
  generalize trigH (machE cs) h a = T at *
  go_enter Try.func50, Try.ntmps50
  go_wp2_with fail
  refine (HC.out _).mono ?_
  rintro e w1 ⟨rfl, k1, p1⟩
  have HK : Hid (KJ B cs (m + 1) _ _ w0 H F w1 ∧ ∀ k, F k → w1.heap[k]? = w.heap[k]?) := ⟨k1, p1⟩
  clear k1 p1 HC
  go_wp2_with fail
  go_ret
  exact ⟨rfl, HK.out.1, HK.out.2⟩
set_option maxRecDepth 20000 in
set_option maxHeartbeats 4000000 in
theorem x_do_tick {B : Nat} {cs : List Ins} {m : Nat} {h : Her Pr} {J : List Nat} {w0 : World} {H : Nat} {F : Nat → Prop} (a b : Int) (w : World) (g : KJ B cs m h J w0 H F w) (hm : m ≤ 1500000) :
    Calls Try.prog 50 #[.pointer (some ⟨H, 0, none⟩), .agg #[.int .u8 75, .int .i64 a, .int .i64 b]] w (DoOutJ B cs m (tickH (machE cs) h a).2 (noteJ (tickH (machE cs) h a).1 J 75 a 0) w0 H F (tickH (machE cs) h a).1 w) := by
  have HF : Hid (∀ x, F x → x < w.heap.size) := fun x hx => g.lt hx
  have HC : Hid (∀ o, Calls Try.prog 23 #[.pointer (some ⟨H, 0, none⟩), .int .i64 a] (w.alloc o) fun e w' => e = .returned (.int .i64 (tickH (machE cs) h a).1) ∧ KJ B cs (m + 1) (tickH (machE cs) h a).2 (noteJ (tickH (machE cs) h a).1 J 75 a 0) w0 H F w' ∧ ∀ k, F k → w'.heap[k]? = w.heap[k]?) := fun o =>
    (kj_Tick a _ (g.below ((Below.refl _ _).alloc (Nat.le_refl _) o)) (by omega)).mono fun e w' hh => ⟨hh.1, hh.2.1, fun k hk => (hh.2.2 k hk).trans (alloc_same o (g.lt hk))⟩
  clear g
  generalize tickH (machE cs) h a = T at *
  go_enter Try.func50, Try.ntmps50
  go_wp2_with fail
  refine (HC.out _).mono ?_
  rintro e w1 ⟨rfl, k1, p1⟩
  have HK : Hid (KJ B cs (m + 1) _ _ w0 H F w1 ∧ ∀ k, F k → w1.heap[k]? = w.heap[k]?) := ⟨k1, p1⟩
  clear k1 p1 HC
  go_wp2_with fail
  go_ret
  exact ⟨rfl, HK.out.1, HK.out.2⟩
set_option maxRecDepth 20000 in
set_option maxHeartbeats 4000000 in
theorem x_do_ack {B : Nat} {cs : List Ins} {m : Nat} {h : Her Pr} {J : List Nat} {w0 : World} {H : Nat} {F : Nat → Prop} (a b : Int) (w : World) (g : KJ B cs m h J w0 H F w) (hm : m ≤ 1500000) :
    Calls Try.prog 50 #[.pointer (some ⟨H, 0, none⟩), .agg #[.int .u8 65, .int .i64 a, .int .i64 b]] w (DoOutJ B cs m (ackH (machE cs) h a b).2 (noteJ (ackH (machE cs) h a b).1 J 65 a b) w0 H F (ackH (machE cs) h a b).1 w) := by
  have HF : Hid (∀ x, F x → x < w.heap.size) := fun x hx => g.lt hx
  have HC : Hid (∀ o, Calls Try.prog 24 #[.pointer (some ⟨H, 0, none⟩), .int .i64 a, .int .i64 b] (w.alloc o) fun e w' => e = .returned (.int .i64 (ackH (machE cs) h a b).1) ∧ KJ B cs (m + 1) (ackH (machE cs) h a b).2 (noteJ (ackH (machE cs) h a b).1 J 65 a b) w0 H F w' ∧ ∀ k, F k → w'.heap[k]? = w.heap[k]?) := fun o =>
    (kj_Ack a b _ (g.below ((Below.refl _ _).alloc (Nat.le_refl _) o)) (by omega)).mono fun e w' hh => ⟨hh.1, hh.2.1, fun k hk => (hh.2.2 k hk).trans (alloc_same o (g.lt hk))⟩
  clear g
  generalize ackH (machE cs) h a b = T at *
  go_enter Try.func50, Try.ntmps50
  go_wp2_with fail
  refine (HC.out _).mono ?_
  rintro e w1 ⟨rfl, k1, p1⟩
  have HK : Hid (KJ B cs (m + 1) _ _ w0 H F w1 ∧ ∀ k, F k → w1.heap[k]? = w.heap[k]?) := ⟨k1, p1⟩
  clear k1 p1 HC
  go_wp2_with fail
  go_ret
  exact ⟨rfl, HK.out.1, HK.out.2⟩
set_option maxRecDepth 20000 in
set_option maxHeartbeats 4000000 in
theorem x_do_cancel {B : Nat} {cs : List Ins} {m : Nat} {h : Her Pr} {J : List Nat} {w0 : World} {H : Nat} {F : Nat → Prop} (a b : Int) (w : World) (g : KJ B cs m h J w0 H F w) (hm : m ≤ 1500000) :
    Calls Try.prog 50 #[.pointer (some ⟨H, 0, none⟩), .agg #[.int .u8 67, .int .i64 a, .int .i64 b]] w (DoOutJ B cs m (cancelH (machE cs) h a).2 (noteJ (cancelH (machE cs) h a).1 J 67 a 0) w0 H F (cancelH (machE cs) h a).1 w) := by
  have HF : Hid (∀ x, F x → x < w.heap.size) := fun x hx => g.lt hx
  have HC : Hid (∀ o, Calls Try.prog 25 #[.pointer (some ⟨H, 0, none⟩), .int .i64 a] (w.alloc o) fun e w' => e = .returned (.int .i64 (cancelH (machE cs) h a).1) ∧ KJ B cs (m + 1) (cancelH (machE cs) h a).2 (noteJ (cancelH (machE cs) h a).1 J 67 a 0) w0 H F w' ∧ ∀ k, F k → w'.heap[k]? = w.heap[k]?) := fun o =>
    (kj_Cancel a _ (g.below ((Below.refl _ _).alloc (Nat.le_refl _) o)) (by omega)).mono fun e w' hh => ⟨hh.1, hh.2.1, fun k hk => (hh.2.2 k hk).trans (alloc_same o (g.lt hk))⟩
  clear g
  generalize cancelH (machE cs) h a = T at *
  go_enter Try.func50, Try.ntmps50
  go_wp2_with fail
  refine (HC.out _).mono ?_
  rintro e w1 ⟨rfl, k1, p1⟩
  have HK : Hid (KJ B cs (m + 1) _ _ w0 H F w1 ∧ ∀ k, F k → w1.heap[k]? = w.heap[k]?) := ⟨k1, p1⟩
  clear k1 p1 HC
  go_wp2_with fail
  go_ret
  exact ⟨rfl, HK.out.1, HK.out.2⟩
set_option maxRecDepth 20000 in
set_option maxHeartbeats 4000000 in
theorem x_do_drain {B : Nat} {cs : List Ins} {m : Nat} {h : Her Pr} {J : List Nat} {w0 : World} {H : Nat} {F : Nat → Prop} (a b : Int) (w : World) (g : KJ B cs m h J w0 H F w) (hm : m ≤ 1500000) :
    Calls Try.prog 50 #[.pointer (some ⟨H, 0, none⟩), .agg #[.int .u8 68, .int .i64 a, .int .i64 b]] w (DoOutJ B cs m (drainH h a).2.2 (noteJ (drainH h a).2.1 J 68 a 0) w0 H F (drainH h a).2.1 w) := by
  have HF : Hid (∀ x, F x → x < w.heap.size) := fun x hx => g.lt hx
  have HC : Hid (∀ o, Calls Try.prog 26 #[.pointer (some ⟨H, 0, none⟩), .int .i64 a] (w.alloc o) fun e w' => e = .returned (.tuple #[.agg #[.int .i64 (drainH h a).1.dev, .int .i64 (drainH h a).1.run, .int .i64 (drainH h a).1.num, .int .i64 (drainH h a).1.key], .int .i64 (drainH h a).2.1]) ∧ KJ B cs (m + 1) (drainH h a).2.2 (noteJ (drainH h a).2.1 J 68 a 0) w0 H F w' ∧ ∀ k, F k → w'.heap[k]? = w.heap[k]?) := fun o =>
    (kj_Drain a _ (g.below ((Below.refl _ _).alloc (Nat.le_refl _) o)) (by omega)).mono fun e w' hh => ⟨hh.1, hh.2.1, fun k hk => (hh.2.2 k hk).trans (alloc_same o (g.lt hk))⟩
  clear g
  generalize drainH h a = T at *
  go_enter Try.func50, Try.ntmps50
  go_wp2_with fail
  refine (HC.out _).mono ?_
  rintro e w1 ⟨rfl, k1, p1⟩
  have HK : Hid (KJ B cs (m + 1) _ _ w0 H F w1 ∧ ∀ k, F k → w1.heap[k]? = w.heap[k]?) := ⟨k1, p1⟩
  clear k1 p1 HC
  go_wp2_with fail
  go_ret
  exact ⟨rfl, HK.out.1.below ((Below.refl _ _).alloc (Nat.le_refl _) _), fun k hk => (alloc_same _ (HK.out.1.lt hk)).trans (HK.out.2 k hk)⟩
/-- A record's call is made again. -/
theorem x_do {B : Nat} {cs : List Ins} {m : Nat} {h : Her Pr} {J : List Nat} {w0 : World} {H : Nat} {F : Nat → Prop} (c : Nat) (a b : Int) (hc : isC c b = true) (w : World) (g : KJ B cs m h J w0 H F w) (hm : m ≤ 1500000) :
    Calls Try.prog 50 #[.pointer (some ⟨H, 0, none⟩), .agg #[.int .u8 (c : Nat), .int .i64 a, .int .i64 b]] w (DoOutJ B cs m (playH cs h (kindOf c) a b).2 (playJ cs h J (kindOf c) a b) w0 H F (playH cs h (kindOf c) a b).1.2.2 w) := by
  unfold isC at hc
  by_cases h1 : c = 84
  · subst h1
    exact x_do_trigger a b w g hm
  by_cases h2 : c = 75
  · subst h2
    exact x_do_tick a b w g hm
  by_cases h3 : c = 65
  · subst h3
    exact x_do_ack a b w g hm
  by_cases h4 : c = 67
  · subst h4
    exact x_do_cancel a b w g hm
  by_cases h5 : c = 68
  · subst h5
    exact x_do_drain a b w g hm
  · rw [if_neg (by omega)] at hc
    simp at hc
    omega
open Go.RowKit Go.Proofs.Herald
set_option maxRecDepth 20000 in
set_option maxHeartbeats 4000000 in
theorem x_redo_no {B : Nat} {cs : List Ins} {m : Nat} {h : Her Pr} {J : List Nat} {w0 : World} {H : Nat} {F : Nat → Prop} (L : List Nat) (hL : ∀ x ∈ L, x < 256) (hl : L.length = 19) (hr : readB L = none) (w : World) (g : KJ B cs m h J w0 H F w) :
    Calls Try.prog 32 #[.pointer (some ⟨H, 0, none⟩), .string (strN L)] w fun e w' => e = .returned (.bool false) ∧ KJ B cs m h J w0 H F w' ∧ ∀ k, F k → w'.heap[k]? = w.heap[k]? := by
  have HF : Hid (KJ B cs m h J w0 H F w) := g
  have HR : Hid (Calls Try.prog 49 #[.string (strN L)] w fun e w' => e = .returned (.tuple #[.agg #[.int .u8 0, .int .i64 0, .int .i64 0], .bool false]) ∧ Below w.heap.size w w') := by
    have := x_Read L hL hl w
    rw [hr] at this
    exact this
  clear g hL hl hr
  generalize strN L = S at *
  go_enter Try.func32, Try.ntmps32
  go_wp2_with fail
  refine HR.out.mono ?_
  rintro e w1 ⟨rfl, b1⟩
  have HB : Hid (Below w.heap.size w w1) := b1
  clear b1 HR
  go_wp2_with fail
  go_ret
  have hb : Below w.heap.size w (w1.alloc (.cells #[.int .u8 0, .int .i64 0, .int .i64 0] 85)) := HB.out.alloc HB.out.size _
  exact ⟨rfl, HF.out.below hb, fun k hk => hb.block k (HF.out.lt hk)⟩
set_option maxRecDepth 20000 in
set_option maxHeartbeats 4000000 in
theorem x_redo_yes {B : Nat} {cs : List Ins} {m : Nat} {h : Her Pr} {J : List Nat} {w0 : World} {H : Nat} {F : Nat → Prop} (L : List Nat) (hL : ∀ x ∈ L, x < 256) (hl : L.length = 19) (c : Nat) (a b : Int) (hr : readB L = some (c, a, b)) (w : World) (g : KJ B cs m h J w0 H F w) (hm : m ≤ 1500000) :
    Calls Try.prog 32 #[.pointer (some ⟨H, 0, none⟩), .string (strN L)] w fun e w' => e = .returned (.bool ((playH cs h (kindOf c) a b).1.2.2 == 0)) ∧ KJ B cs (m + 1) (playH cs h (kindOf c) a b).2 (playJ cs h J (kindOf c) a b) w0 H F w' ∧ ∀ k, F k → w'.heap[k]? = w.heap[k]? := by
  have HF : Hid (KJ B cs m h J w0 H F w) := g
  have HR : Hid (Calls Try.prog 49 #[.string (strN L)] w fun e w' => e = .returned (.tuple #[.agg #[.int .u8 (c : Nat), .int .i64 a, .int .i64 b], .bool true]) ∧ Below w.heap.size w w') := by
    have := x_Read L hL hl w
    rw [hr] at this
    exact this
  have HD : Hid (∀ W, Below w.heap.size w W → Calls Try.prog 50 #[.pointer (some ⟨H, 0, none⟩), .agg #[.int .u8 (c : Nat), .int .i64 a, .int .i64 b]] W fun e w' => e = .returned (.int .i64 (playH cs h (kindOf c) a b).1.2.2) ∧ KJ B cs (m + 1) (playH cs h (kindOf c) a b).2 (playJ cs h J (kindOf c) a b) w0 H F w' ∧ ∀ k, F k → w'.heap[k]? = w.heap[k]?) := fun W hb =>
    (x_do c a b (readB_some hr).2 W (g.below hb) hm).mono fun e w' hh => ⟨hh.1, hh.2.1, fun k hk => (hh.2.2 k hk).trans (hb.block k (g.lt hk))⟩
  clear g hL hl hr
  generalize strN L = S at *
  generalize playH cs h (kindOf c) a b = P at *
  generalize playJ cs h J (kindOf c) a b = J' at *
  go_enter Try.func32, Try.ntmps32
  go_wp2_with fail
  refine HR.out.mono ?_
  rintro e w1 ⟨rfl, b1⟩
  have HB : Hid (Below w.heap.size w (w1.alloc (.cells #[.int .u8 (c : Nat), .int .i64 a, .int .i64 b] 85))) := b1.alloc b1.size _
  clear b1 HR
  go_wp2_with fail
  refine (HD.out _ HB.out).mono ?_
  rintro e w2 ⟨rfl, k2, p2⟩
  have HK : Hid (KJ B cs (m + 1) P.2 J' w0 H F w2 ∧ ∀ k, F k → w2.heap[k]? = w.heap[k]?) := ⟨k2, p2⟩
  clear k2 p2 HD HB
  go_wp2_with fail
  go_ret
  exact ⟨rfl, HK.out.1, HK.out.2⟩
/-- Records are done again, one by one: the herald, its journal, how many. -/
def openS (cs : List Ins) : List (List Nat) → Her Pr → List Nat → Nat → Her Pr × List Nat × Nat
  | [], h, J, n => (h, J, n)
  | L :: rest, h, J, n => match readB L with
    | none => (h, J, n)
    | some (c, a, b) => if (playH cs h (kindOf c) a b).1.2.2 = 0 then openS cs rest (playH cs h (kindOf c) a b).2 (playJ cs h J (kindOf c) a b) (n + 1) else ((playH cs h (kindOf c) a b).2, playJ cs h J (kindOf c) a b, n)
/-- The whole records of bytes. -/
def chunk (L : List Nat) (i : Nat) : List Nat := (L.drop (i * 19)).take 19
def chunks (L : List Nat) (i : Nat) : Nat → List (List Nat)
  | 0 => []
  | n + 1 => chunk L i :: chunks L (i + 1) n
theorem chunk_len {L : List Nat} {i : Nat} (h : i * 19 + 19 ≤ L.length) : (chunk L i).length = 19 := by
  unfold chunk
  rw [List.length_take, List.length_drop]
  omega
set_option maxRecDepth 20000 in
set_option maxHeartbeats 8000000 in
theorem x_Open {cs : List Ins} {B : Nat} {ca : Option Addr} {ccap : Nat} (L : List Nat) (hL : ∀ x ∈ L, x < 256) (hl : L.length ≤ 20000000) (w w0 : World) (F : Nat → Prop) (hrow : w.ownsRow B 137 4 (.slice ca cs.length ccap) cs.length (codeCells cs)) (hs : soundL cs = true) (hF : ∀ k, F k → k < w.heap.size) (hb0 : Below w0.heap.size w0 w) :
    Calls Try.prog 18 #[.slice ca cs.length ccap, .string (strN L)] w fun e w' => ∃ (H : Nat) (m : Nat), e = .returned (.tuple #[.pointer (some ⟨H, 0, none⟩), .int .i64 ((openS cs (chunks L 0 (L.length / 19)) newH [] 0).2.2 : Nat), .int .i64 0]) ∧ m ≤ L.length / 19 ∧ KJ w0.heap.size cs m (openS cs (chunks L 0 (L.length / 19)) newH [] 0).1 (openS cs (chunks L 0 (L.length / 19)) newH [] 0).2.1 w0 H F w' ∧ ∀ k, F k → w'.heap[k]? = w.heap[k]? := by
  have hz : (strN L).size = L.length := strN_size L
  have HN : Hid (Calls Try.prog 21 #[.slice ca cs.length ccap] w _) := c_New_any hrow hs
  have HX : Hid ((∀ x ∈ L, x < 256) ∧ soundL cs = true ∧ (∀ k, F k → k < w.heap.size) ∧ Below w0.heap.size w0 w) := ⟨hL, hs, hF, hb0⟩
  obtain ⟨N, hN⟩ : ∃ N, N = L.length / 19 := ⟨_, rfl⟩
  rw [← hN]
  generalize hRR : openS cs (chunks L 0 N) newH [] 0 = R
  have HRE : Hid (openS cs (chunks L 0 N) newH [] 0 = R) := hRR
  clear hrow hL hs hF hb0 hRR
  go_enter Try.func18, Try.ntmps18
  go_wp2_with fail
  refine HN.out.mono ?_
  rintro e w1 ⟨H, v, rfl, hH, hHb, hvo, b1⟩
  have HK1 : Hid (KJ w0.heap.size cs 0 newH [] w0 H F w1 ∧ ∀ k, F k → w1.heap[k]? = w.heap[k]?) := by
    obtain ⟨_, q2, q3, q4⟩ := HX.out
    refine ⟨⟨0, _, Nat.le_refl _, GJ.new q2 hHb (own0 hvo), fun k hk => ?_, fun k hk => by have := q3 k hk; have := b1.size; omega, q4.trans (b1.mono q4.size), by have := q4.size; have := b1.size; omega⟩, fun k hk => b1.block k (q3 k hk)⟩
    have hge : w.heap.size ≤ k := by
      rcases hk with hk | hk | hk
      · rcases hk with rfl | ⟨d, hd⟩ | hk
        · exact hH
        · simp [Value.ownBlock] at hd
        · simp [Value.ownBlock] at hk
      · simp [Value.ownBlock] at hk
      · exact (hvo.lt k hk).1
    exact ⟨by have := q4.size; omega, fun hf => by have := q3 k hf; omega⟩
  clear hH hHb hvo b1 HN
  go_wp2_with fail
  go_loopw [9, 10] (fun mv sv wr => ∃ (k : Nat) (h : Her Pr) (J : List Nat), k ≤ N ∧ mv = .int .i64 (k : Nat) ∧ sv = .int .i64 ((k * 19 : Nat) : Int) ∧ Hid (openS cs (chunks L k (N - k)) h J k = R ∧ KJ w0.heap.size cs k h J w0 H F wr ∧ ∀ k, F k → wr.heap[k]? = w.heap[k]?)) (fun mv _ _ => N - (intOf mv).toNat)
  case atStart => exact ⟨0, newH, [], Nat.zero_le _, rfl, rfl, HRE.out, HK1.out.1, HK1.out.2⟩
  case round =>
    clear HK1
    obtain ⟨k, h, J, hk, rfl, rfl, HI⟩ := hrel
    by_cases hlt : k < N
    · have hc1 : k * 19 + 19 ≤ L.length := by omega
      obtain ⟨n', hn'⟩ : ∃ n', N - k = n' + 1 := ⟨N - k - 1, by omega⟩
      have hn2 : N - (k + 1) = n' := by omega
      have hcl : (chunk L k).length = 19 := chunk_len hc1
      have hcb : ∀ x ∈ chunk L k, x < 256 := sub_lt HX.out.1 (k * 19) 19
      have HEX : Hid ((strN L).extract (k * 19) (k * 19 + 19) = strN (chunk L k)) := by
        show _ = _
        rw [strN_extract, show k * 19 + 19 - k * 19 = 19 by omega]
        rfl
      have HST : Hid (openS cs (chunk L k :: chunks L (k + 1) n') h J k = R) := by
        have := HI.out.1
        rw [hn'] at this
        exact this
      cases hr : readB (chunk L k) with
      | none =>
        have HC := (show Hid _ from x_redo_no (chunk L k) hcb hcl hr wr HI.out.2.1 : Hid (Calls Try.prog 32 #[.pointer (some ⟨H, 0, none⟩), .string (strN (chunk L k))] wr _))
        rw [← HEX.out] at HC
        have HRR : Hid (R = (h, J, k)) := by
          have := HST.out
          unfold openS at this
          rw [hr] at this
          exact this.symm
        clear hr hcb hcl hn' hn2
        go_wp2_with fail
        refine HC.out.mono ?_
        rintro e w2 ⟨rfl, k2, p2⟩
        have HK2 : Hid (KJ w0.heap.size cs k h J w0 H F w2 ∧ ∀ k, F k → w2.heap[k]? = w.heap[k]?) := ⟨k2, fun x hx => (p2 x hx).trans (HI.out.2.2 x hx)⟩
        clear k2 p2 HC
        go_wp2_with fail
        go_ret3
        rw [HRR.out]
        exact ⟨H, k, rfl, hk, HK2.out.1, HK2.out.2⟩
      | some q =>
        obtain ⟨c, a, b⟩ := q
        have HC := (show Hid _ from x_redo_yes (chunk L k) hcb hcl c a b hr wr HI.out.2.1 (by omega) : Hid (Calls Try.prog 32 #[.pointer (some ⟨H, 0, none⟩), .string (strN (chunk L k))] wr _))
        rw [← HEX.out] at HC
        have HRR : Hid ((if (playH cs h (kindOf c) a b).1.2.2 = 0 then openS cs (chunks L (k + 1) n') (playH cs h (kindOf c) a b).2 (playJ cs h J (kindOf c) a b) (k + 1) else ((playH cs h (kindOf c) a b).2, playJ cs h J (kindOf c) a b, k)) = R) := by
          have := HST.out
          unfold openS at this
          rw [hr] at this
          exact this
        generalize playH cs h (kindOf c) a b = P at *
        generalize playJ cs h J (kindOf c) a b = J' at *
        clear hr hcb hcl hn'
        by_cases he : P.1.2.2 = 0
        · have be : (P.1.2.2 == 0) = true := by simpa using he
          have HR2 : Hid (openS cs (chunks L (k + 1) (N - (k + 1))) P.2 J' (k + 1) = R) := by
            have := HRR.out
            rw [if_pos he] at this
            rw [hn2]
            exact this
          rw [be] at HC
          clear he hn2
          go_wp2_with fail
          refine HC.out.mono ?_
          rintro e w2 ⟨rfl, k2, p2⟩
          have HK2 : Hid (KJ w0.heap.size cs (k + 1) P.2 J' w0 H F w2 ∧ ∀ k, F k → w2.heap[k]? = w.heap[k]?) := ⟨k2, fun x hx => (p2 x hx).trans (HI.out.2.2 x hx)⟩
          clear k2 p2 HC
          go_wp2_with fail
          go_roundw
          case rel => exact ⟨k + 1, P.2, J', by omega, by go_num, by go_num, HR2.out, HK2.out.1, HK2.out.2⟩
          case measure => simp [intOf]; omega
        · have be : (P.1.2.2 == 0) = false := by simpa using he
          have HR2 : Hid (R = (P.2, J', k)) := by
            have := HRR.out
            rw [if_neg he] at this
            exact this.symm
          rw [be] at HC
          clear he hn2
          go_wp2_with fail
          refine HC.out.mono ?_
          rintro e w2 ⟨rfl, k2, p2⟩
          have HK2 : Hid (KJ w0.heap.size cs (k + 1) P.2 J' w0 H F w2 ∧ ∀ k, F k → w2.heap[k]? = w.heap[k]?) := ⟨k2, fun x hx => (p2 x hx).trans (HI.out.2.2 x hx)⟩
          clear k2 p2 HC
          go_wp2_with fail
          go_ret3
          rw [HR2.out]
          exact ⟨H, k + 1, rfl, hlt, HK2.out.1, HK2.out.2⟩
    · have HRR : Hid (R = (h, J, k)) := by
        have := HI.out.1
        rw [show N - k = 0 by omega] at this
        exact this.symm
      have hc1 : L.length < k * 19 + 19 := by omega
      go_wp2_with fail
      go_ret3
      rw [HRR.out]
      exact ⟨H, k, rfl, hk, HI.out.2.1, HI.out.2.2⟩
end Go.Proofs.Ytmmmnghiegajmab
namespace Go.Proofs.Herald
/-- One bit comes in at the head. -/
def inBit (r : Nat) (b : Bool) : Nat := crcBit (r ^^^ (if b then 32768 else 0))
def inBits : List Bool → Nat → Nat
  | [], r => r
  | b :: l, r => inBits l (inBit r b)
theorem inBits_append : ∀ (a b : List Bool) (r : Nat), inBits (a ++ b) r = inBits b (inBits a r)
  | [], _, _ => rfl
  | x :: a, b, r => inBits_append a b (inBit r x)
theorem xor_inj {a b c : Nat} (h : a ^^^ c = b ^^^ c) : a = b := by
  have h2 : (a ^^^ c) ^^^ c = (b ^^^ c) ^^^ c := by rw [h]
  rwa [Nat.xor_assoc, Nat.xor_assoc, Nat.xor_self, Nat.xor_zero, Nat.xor_zero] at h2
theorem crcBit_inj {x y : Nat} (_hx : x < 65536) (_hy : y < 65536) (h : crcBit x = crcBit y) : x = y := by
  have odd : ∀ z : Nat, (2 * z) ^^^ 69665 = 2 * (z ^^^ 34832) + 1 := fun z => by
    refine Nat.eq_of_testBit_eq fun i => ?_
    rw [Nat.testBit_xor]
    cases i with
    | zero =>
      rw [Nat.testBit_zero, Nat.testBit_zero, Nat.testBit_zero]
      have e1 : 2 * z % 2 = 0 := by omega
      have e2 : (2 * (z ^^^ 34832) + 1) % 2 = 1 := by omega
      rw [e1, e2]
      rfl
    | succ i =>
      rw [Nat.testBit_succ, Nat.testBit_succ, Nat.testBit_succ]
      have e1 : 2 * z / 2 = z := by omega
      have e2 : 69665 / 2 = 34832 := by decide
      have e3 : (2 * (z ^^^ 34832) + 1) / 2 = z ^^^ 34832 := by omega
      rw [e1, e2, e3, Nat.testBit_xor]
  unfold crcBit at h
  split at h
  · split at h
    · have := xor_inj h
      omega
    · have := odd x
      omega
  · split at h
    · have := odd y
      omega
    · omega
theorem crcBits_inj : ∀ (k : Nat) {x y : Nat}, x < 65536 → y < 65536 → crcBits k x = crcBits k y → x = y
  | 0, _, _, _, _, h => h
  | k + 1, _, _, hx, hy, h => crcBits_inj k hx hy (crcBit_inj (crcBits_lt k hx) (crcBits_lt k hy) h)
theorem inBit_lt {r : Nat} (h : r < 65536) (b : Bool) : inBit r b < 65536 := by
  unfold inBit
  exact crcBit_lt (xor16 h (by split <;> decide))
theorem inBits_lt : ∀ (l : List Bool) {r : Nat}, r < 65536 → inBits l r < 65536
  | [], _, h => h
  | b :: l, _, h => inBits_lt l (inBit_lt h b)
theorem inBits_inj : ∀ (l : List Bool) {x y : Nat}, x < 65536 → y < 65536 → inBits l x = inBits l y → x = y
  | [], _, _, _, _, h => h
  | b :: l, x, y, hx, hy, h => by
    have h1 := inBits_inj l (inBit_lt hx b) (inBit_lt hy b) h
    unfold inBit at h1
    have hc : (if b then 32768 else 0) < 65536 := by split <;> decide
    exact xor_inj (crcBit_inj (xor16 hx hc) (xor16 hy hc) h1)
/-- The bits, at the head of sixteen. -/
def headN : List Bool → Nat
  | [] => 0
  | b :: l => (if b then 32768 else 0) + headN l / 2
theorem headN_cons (b : Bool) (l : List Bool) : headN (b :: l) = (if b then 32768 else 0) + headN l / 2 := rfl
theorem headN_lt : ∀ (l : List Bool), headN l < 65536
  | [] => by decide
  | b :: l => by
    have := headN_lt l
    rw [headN_cons]
    split <;> omega
theorem headN_low : ∀ (l : List Bool), l.length ≤ 16 → 2 ^ (16 - l.length) ∣ headN l
  | [], _ => ⟨0, rfl⟩
  | b :: l, h => by
    rw [List.length_cons] at h
    obtain ⟨q, hq⟩ := headN_low l (by omega)
    have e : 16 - l.length = (16 - (l.length + 1)) + 1 := by omega
    have e2 : headN l / 2 = 2 ^ (16 - (l.length + 1)) * q := by
      rw [hq, e, Nat.pow_succ]
      have : 2 ^ (16 - (l.length + 1)) * 2 * q = 2 * (2 ^ (16 - (l.length + 1)) * q) := by rw [Nat.mul_comm (2 ^ _) 2, Nat.mul_assoc]
      omega
    rw [headN_cons, List.length_cons, e2]
    split
    · have hd : 2 ^ (16 - (l.length + 1)) ∣ 32768 := by
        have : (32768 : Nat) = 2 ^ 15 := by decide
        rw [this]
        exact Nat.pow_dvd_pow 2 (by omega)
      exact Nat.dvd_add hd ⟨q, rfl⟩
    · rw [Nat.zero_add]
      exact ⟨q, rfl⟩
theorem xor_add15 (y : Nat) (h : y < 32768) : 32768 + y = 32768 ^^^ y := by
  refine Nat.eq_of_testBit_eq fun i => ?_
  have e : (32768 : Nat) = 2 ^ 15 := by decide
  rw [Nat.testBit_xor, e, Nat.testBit_two_pow]
  by_cases hi : i = 15
  · subst hi
    rw [Nat.testBit_two_pow_add_eq, Nat.testBit_lt_two_pow (show y < 2 ^ 15 from h)]
    rfl
  · have h1 : decide (15 = i) = false := decide_eq_false (fun h => hi h.symm)
    rw [h1, Bool.false_xor]
    rcases Nat.lt_or_gt_of_ne hi with h2 | h2
    · rw [Nat.testBit_two_pow_add_gt h2]
    · have h3 : 2 ^ 16 ≤ 2 ^ i := Nat.pow_le_pow_right (by omega) (by omega)
      have e16 : (2 : Nat) ^ 16 = 65536 := by decide
      have e15 : (2 : Nat) ^ 15 = 32768 := by decide
      rw [Nat.testBit_lt_two_pow (by omega), Nat.testBit_lt_two_pow (by omega)]
theorem crcBit_low {x y : Nat} (hx : x < 65536) (hy : y < 32768) : crcBit (x ^^^ y) = crcBit x ^^^ (2 * y) := by
  have d : ∀ a b : Nat, 2 * (a ^^^ b) = (2 * a) ^^^ (2 * b) := fun a b => by
    refine Nat.eq_of_testBit_eq fun i => ?_
    rw [Nat.testBit_xor]
    cases i with
    | zero =>
      rw [Nat.testBit_zero, Nat.testBit_zero, Nat.testBit_zero]
      have e1 : 2 * a % 2 = 0 := by omega
      have e2 : 2 * b % 2 = 0 := by omega
      have e3 : 2 * (a ^^^ b) % 2 = 0 := by omega
      rw [e1, e2, e3]
      rfl
    | succ i =>
      rw [Nat.testBit_succ, Nat.testBit_succ, Nat.testBit_succ]
      have e1 : 2 * a / 2 = a := by omega
      have e2 : 2 * b / 2 = b := by omega
      have e3 : 2 * (a ^^^ b) / 2 = a ^^^ b := by omega
      rw [e1, e2, e3, Nat.testBit_xor]
  have top : (32768 ≤ x ^^^ y) ↔ 32768 ≤ x := by
    have key : ∀ z : Nat, z < 65536 → ((32768 ≤ z) ↔ z.testBit 15 = true) := fun z hz => by
      rw [Nat.testBit_eq_decide_div_mod_eq, decide_eq_true_iff]
      have e15 : (2 : Nat) ^ 15 = 32768 := by decide
      rw [e15]
      omega
    rw [key _ (xor16 hx (by omega)), key _ hx, Nat.testBit_xor, Nat.testBit_lt_two_pow (show y < 2 ^ 15 from hy), Bool.xor_false]
  unfold crcBit
  by_cases h : 32768 ≤ x
  · rw [if_pos (by have := top.mpr h; omega), if_pos (by omega), d, Nat.xor_assoc, Nat.xor_comm (2 * y), ← Nat.xor_assoc]
  · rw [if_neg (by have : ¬ 32768 ≤ x ^^^ y := fun hh => h (top.mp hh); omega), if_neg (by omega), d]
theorem crcBits_shift : ∀ (k x : Nat), crcBits (k + 1) x = crcBits k (crcBit x)
  | 0, _ => rfl
  | k + 1, x => by
    show crcBit (crcBits (k + 1) x) = crcBit (crcBits k (crcBit x))
    rw [crcBits_shift k x]
/-- Bits that come in one by one come in at once. -/
theorem inBits_head : ∀ (l : List Bool) (r : Nat), l.length ≤ 16 → r < 65536 → inBits l r = crcBits l.length (r ^^^ headN l)
  | [], r, _, _ => by
    show r = r ^^^ 0
    rw [Nat.xor_zero]
  | b :: l, r, h, hr => by
    rw [List.length_cons] at h
    have hb : (if b then 32768 else 0) < 65536 := by split <;> decide
    have ih := inBits_head l (inBit r b) (by omega) (inBit_lt hr b)
    have hl := headN_lt l
    obtain ⟨q, hq⟩ := headN_low l (by omega)
    have e1 : 2 * (headN l / 2) = headN l := by
      have e : 16 - l.length = (16 - (l.length + 1)) + 1 := by omega
      have : headN l = 2 * (2 ^ (16 - (l.length + 1)) * q) := by
        rw [hq, e, Nat.pow_succ, Nat.mul_comm (2 ^ _) 2, Nat.mul_assoc]
      omega
    have h15 : headN l / 2 < 32768 := by omega
    have e2 : headN (b :: l) = (if b then 32768 else 0) ^^^ (headN l / 2) := by
      rw [headN_cons]
      split
      · exact xor_add15 _ h15
      · rw [Nat.zero_add, Nat.zero_xor]
    show inBits l (inBit r b) = _
    rw [ih, List.length_cons, crcBits_shift, e2, ← Nat.xor_assoc, crcBit_low (xor16 hr hb) h15, e1]
    rfl
theorem headN_inj : ∀ (u v : List Bool), u.length = v.length → u.length ≤ 16 → headN u = headN v → u = v
  | [], [], _, _, _ => rfl
  | [], _ :: _, h, _, _ => by simp at h
  | _ :: _, [], h, _, _ => by simp at h
  | a :: u, b :: v, h, hl, he => by
    rw [List.length_cons, List.length_cons] at h
    rw [List.length_cons] at hl
    have hu := headN_lt u
    have hv := headN_lt v
    have eu : ∀ l : List Bool, l.length < 16 → headN l % 2 = 0 := fun l hl => by
      obtain ⟨q, hq⟩ := headN_low l (by omega)
      have e : 16 - l.length = (15 - l.length) + 1 := by omega
      rw [hq, e, Nat.pow_succ, Nat.mul_comm (2 ^ _) 2, Nat.mul_assoc]
      omega
    have e1 := eu u (by omega)
    have e2 := eu v (by omega)
    rw [headN_cons, headN_cons] at he
    have hab : a = b ∧ headN u / 2 = headN v / 2 := by
      cases a with
      | true =>
        cases b with
        | true => exact ⟨rfl, by simp only [if_true] at he; omega⟩
        | false =>
          exfalso
          simp only [if_true, Bool.false_eq_true, if_false] at he
          omega
      | false =>
        cases b with
        | true =>
          exfalso
          simp only [if_true, Bool.false_eq_true, if_false] at he
          omega
        | false => exact ⟨rfl, by simp only [Bool.false_eq_true, if_false] at he; omega⟩
    rw [hab.1, headN_inj u v (by omega) (by omega) (by omega)]
/-- Two rows of bits that differ within sixteen, and leave the same, are one. -/
theorem burst {P S u v : List Bool} {r : Nat} (hr : r < 65536) (hl : u.length = v.length) (h16 : u.length ≤ 16) (h : inBits (P ++ u ++ S) r = inBits (P ++ v ++ S) r) : u = v := by
  rw [inBits_append, inBits_append, inBits_append, inBits_append] at h
  have hP := inBits_lt P hr
  have h1 := inBits_inj S (inBits_lt u hP) (inBits_lt v hP) h
  rw [inBits_head u _ h16 hP, inBits_head v _ (by omega) hP, hl] at h1
  have h2 := crcBits_inj _ (xor16 hP (headN_lt u)) (xor16 hP (headN_lt v)) h1
  rw [Nat.xor_comm, Nat.xor_comm _ (headN v)] at h2
  exact headN_inj u v hl h16 (xor_inj h2)
/-- Bit i of bytes, the highest of each first. -/
def bitAt (L : List Nat) (i : Nat) : Bool := (L.getD (i / 8) 0).testBit (7 - i % 8)
def byteBits (b : Nat) : List Bool := (List.range 8).map fun i => b.testBit (7 - i)
def allBits : List Nat → List Bool
  | [] => []
  | b :: l => byteBits b ++ allBits l
theorem byteBits_len (b : Nat) : (byteBits b).length = 8 := by unfold byteBits; rw [List.length_map, List.length_range]
theorem allBits_len : ∀ (L : List Nat), (allBits L).length = 8 * L.length
  | [] => rfl
  | b :: l => by
    unfold allBits
    rw [List.length_append, byteBits_len, allBits_len l, List.length_cons]
    omega
theorem allBits_get : ∀ (L : List Nat) (i : Nat) (h : i < (allBits L).length), (allBits L)[i] = bitAt L i
  | [], i, h => by simp [allBits] at h
  | b :: l, i, h => by
    rw [allBits_len, List.length_cons] at h
    by_cases hi : i < 8
    · have e : (allBits (b :: l))[i]'(by rw [allBits_len, List.length_cons]; omega) = (byteBits b)[i]'(by rw [byteBits_len]; exact hi) := List.getElem_append_left _
      rw [e]
      unfold byteBits bitAt
      rw [List.getElem_map, List.getElem_range]
      have e1 : i / 8 = 0 := by omega
      have e2 : i % 8 = i := by omega
      rw [e1, e2]
      rfl
    · have e : (allBits (b :: l))[i]'(by rw [allBits_len, List.length_cons]; omega) = (allBits l)[i - (byteBits b).length]'(by rw [byteBits_len, allBits_len]; omega) := List.getElem_append_right (by rw [byteBits_len]; omega)
      rw [e, allBits_get l, byteBits_len]
      unfold bitAt
      have e1 : i / 8 = (i - 8) / 8 + 1 := by omega
      have e2 : i % 8 = (i - 8) % 8 := by omega
      rw [e1, e2, List.getD_cons_succ]
theorem head_byte (b : Nat) (hb : b < 256) : headN (byteBits b) = 256 * b := by
  have key : ∀ b : Fin 256, headN (byteBits b.1) = 256 * b.1 := by decide +kernel
  exact key ⟨b, hb⟩
theorem crcByte_bits {r b : Nat} (hr : r < 65536) (hb : b < 256) : crcByte r b = inBits (byteBits b) r := by
  rw [inBits_head _ _ (by rw [byteBits_len]; omega) hr, byteBits_len, head_byte b hb, crcByte_eq]
theorem crc_bits : ∀ (L : List Nat) (r : Nat), r < 65536 → (∀ b ∈ L, b < 256) → L.foldl crcByte r = inBits (allBits L) r
  | [], _, _, _ => rfl
  | b :: l, r, hr, hb => by
    have h1 := hb b (List.mem_cons_self ..)
    rw [List.foldl_cons, crc_bits l _ (crcByte_lt hr h1) (fun c hc => hb c (List.mem_cons_of_mem _ hc)), crcByte_bits hr h1]
    show _ = inBits (byteBits b ++ allBits l) r
    rw [inBits_append]
theorem crcBits_low (x : Nat) (h : x < 256) : crcBits 8 x = 256 * x := by
  have key : ∀ b : Fin 256, crcBits 8 b.1 = 256 * b.1 := by decide +kernel
  exact key ⟨x, h⟩
theorem high_xor (v : Nat) : v ^^^ (256 * (v / 256)) = v % 256 := by
  refine Nat.eq_of_testBit_eq fun i => ?_
  have e : (256 : Nat) = 2 ^ 8 := by decide
  rw [Nat.testBit_xor, e, Nat.testBit_mod_two_pow, Nat.testBit_two_pow_mul]
  by_cases hi : i < 8
  · rw [decide_eq_true hi, decide_eq_false (by omega), Bool.false_and, Bool.xor_false, Bool.true_and]
  · rw [decide_eq_false hi, decide_eq_true (by omega), Bool.true_and, Bool.false_and, Nat.testBit_div_two_pow, Nat.sub_add_cancel (by omega), Bool.xor_self]
/-- A whole record, divided, leaves nothing. -/
theorem rec_zero {c : Nat} (hc : c < 256) (a b : Int) : (recB c a b).foldl crcByte 65535 = 0 := by
  unfold recB
  rw [List.foldl_append]
  have e : (bodyB c a b).foldl crcByte 65535 = crcL (bodyB c a b) := rfl
  have hl := crcL_lt (bodyB c a b) (r := 65535) (by decide) (bodyB_lt hc a b)
  rw [e] at hl ⊢
  generalize crcL (bodyB c a b) = v at *
  rw [List.foldl_cons, List.foldl_cons, List.foldl_nil, crcByte_eq v, high_xor, crcBits_low _ (Nat.mod_lt _ (by decide)), crcByte_eq, Nat.xor_self]
  have h0 : crcBits 8 0 = 256 * 0 := crcBits_low 0 (by decide)
  rw [h0]
theorem recB_lt {c : Nat} (hc : c < 256) (a b : Int) : ∀ x ∈ recB c a b, x < 256 := fun x hx => by
  rcases List.mem_append.mp hx with h1 | h1
  · exact bodyB_lt hc a b x h1
  · have := crcL_lt (bodyB c a b) (r := 65535) (by decide) (bodyB_lt hc a b)
    have e : crcL (bodyB c a b) = (bodyB c a b).foldl crcByte 65535 := rfl
    rw [← e] at this
    simp at h1
    omega
theorem split3 (A : List Bool) (p : Nat) : A = A.take p ++ (A.drop p).take 16 ++ A.drop (p + 16) := by
  rw [List.append_assoc, ← List.drop_drop, List.take_append_drop, List.take_append_drop]
theorem bytes_of_bits {L M : List Nat} (hl : L.length = M.length) (hL : ∀ x ∈ L, x < 256) (hM : ∀ x ∈ M, x < 256) (h : ∀ i, i < 8 * L.length → bitAt L i = bitAt M i) : L = M := by
  refine List.ext_getElem hl fun k h1 h2 => ?_
  refine Nat.eq_of_testBit_eq fun i => ?_
  by_cases hi : i < 8
  · have := h (8 * k + (7 - i)) (by omega)
    unfold bitAt at this
    have e1 : (8 * k + (7 - i)) / 8 = k := by omega
    have e2 : 7 - (8 * k + (7 - i)) % 8 = i := by omega
    rw [e1, e2, List.getD_eq_getElem?_getD, List.getD_eq_getElem?_getD, List.getElem?_eq_getElem h1, List.getElem?_eq_getElem h2] at this
    exact this
  · have p8 : 2 ^ 8 ≤ 2 ^ i := Nat.pow_le_pow_right (by omega) (by omega)
    have q1 := hL _ (List.getElem_mem h1)
    have q2 := hM _ (List.getElem_mem h2)
    have e : (2 : Nat) ^ 8 = 256 := by decide
    rw [Nat.testBit_lt_two_pow (by omega), Nat.testBit_lt_two_pow (by omega)]
/-- Of a record that is damaged within sixteen bits, nothing is read. -/
theorem torn_none {c : Nat} (hc : c < 256) (a b : Int) {M : List Nat} (hM : ∀ x ∈ M, x < 256) (hl : M.length = 19) (p : Nat) (hp : ∀ i, ¬ (p ≤ i ∧ i < p + 16) → bitAt M i = bitAt (recB c a b) i) (hne : M ≠ recB c a b) : readB M = none := by
  cases hr : readB M with
  | none => rfl
  | some q =>
    obtain ⟨c', a', b'⟩ := q
    exfalso
    obtain ⟨hM2, hi⟩ := readB_some hr
    have hc' : c' < 256 := by
      unfold isC at hi
      split at hi
      · omega
      · simp at hi
        omega
    have lL := recB_len c a b
    have z1 := rec_zero hc a b
    have z2 : M.foldl crcByte 65535 = 0 := by rw [hM2]; exact rec_zero hc' a' b'
    rw [crc_bits _ _ (by decide) (recB_lt hc a b)] at z1
    rw [crc_bits _ _ (by decide) hM] at z2
    have lA := allBits_len (recB c a b)
    have lB := allBits_len M
    rw [lL] at lA
    rw [hl] at lB
    have eP : (allBits M).take p = (allBits (recB c a b)).take p := by
      refine List.ext_getElem (by rw [List.length_take, List.length_take, lA, lB]) fun i h1 h2 => ?_
      rw [List.length_take] at h1 h2
      rw [List.getElem_take, List.getElem_take, allBits_get, allBits_get]
      exact hp i (by omega)
    have eS : (allBits M).drop (p + 16) = (allBits (recB c a b)).drop (p + 16) := by
      refine List.ext_getElem (by rw [List.length_drop, List.length_drop, lA, lB]) fun i h1 h2 => ?_
      rw [List.length_drop] at h1 h2
      rw [List.getElem_drop, List.getElem_drop, allBits_get, allBits_get]
      exact hp _ (by omega)
    rw [split3 (allBits (recB c a b)) p] at z1
    rw [split3 (allBits M) p, eP, eS] at z2
    have hu := burst (P := (allBits (recB c a b)).take p) (S := (allBits (recB c a b)).drop (p + 16)) (u := ((allBits M).drop p).take 16) (v := ((allBits (recB c a b)).drop p).take 16) (r := 65535) (by decide) (by rw [List.length_take, List.length_take, List.length_drop, List.length_drop, lA, lB]) (by rw [List.length_take]; omega) (z2.trans z1.symm)
    have hall : allBits M = allBits (recB c a b) := by
      rw [split3 (allBits M) p, eP, eS, hu, ← split3]
    refine hne (bytes_of_bits (by rw [hl, lL]) hM (recB_lt hc a b) fun i hi => ?_)
    have h1 : i < (allBits M).length := by rw [lB]; omega
    have h2 : i < (allBits (recB c a b)).length := by rw [lA]; omega
    rw [← allBits_get M i h1, ← allBits_get (recB c a b) i h2]
    simp only [hall]
end Go.Proofs.Herald
