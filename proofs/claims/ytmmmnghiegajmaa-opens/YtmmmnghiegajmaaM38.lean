import Derived.Test.YtmmmnghiegajmaaM37
import Derived.Lib.BufferRead
import Derived.Test.YtmmmnghiegajmaaM36
import Derived.Deep.LoopGhost
import Derived.OwnWalk
import Derived.Deep.DeepCutAuto
import Derived.Deep.CutBlock
import Derived.Test.YtmmmnghiegajmaaM10
import Derived.Test.YtmmmnghiegajmaaM04
import Derived.Test.YtmmmnghiegajmaaM05
import Derived.Test.YtmmmnghiegajmaaM06
/- The journal is told; a record's call is made again. -/
namespace Go.Proofs.Herald
/-- The step of a record's call. -/
def kindOf (c : Nat) : Int := if c = 84 then 1 else if c = 75 then 2 else if c = 65 then 3 else if c = 67 then 4 else 5
end Go.Proofs.Herald
namespace Go.Proofs.Ytmmmnghiegajmaa
open Go.RowKit Go.Proofs.Herald
set_option maxRecDepth 20000 in
set_option maxHeartbeats 4000000 in
theorem kj_Journal {B : Nat} {cs : List Ins} {m : Nat} {h : Her Pr} {J : List Nat} {w0 : World} {H : Nat} {F : Nat → Prop} (w : World) (g : KJ B cs m h J w0 H F w) :
    Calls Try.prog 64 #[.pointer (some ⟨H, 0, none⟩)] w fun e w' => e = .returned (.string (strN J)) ∧ w' = w := by
  obtain ⟨i, s, h1, h2, _⟩ := g
  have hb := h2.ga.fh.m.at'.blk
  have hHl : H < w.heap.size := heap_lt hb
  obtain ⟨ra, rc, hrv⟩ := ownsRow_slice h2.r
  have c7 : w.cell? ⟨H, 7, none⟩ = some (.slice ra J.length rc) := by rw [← hrv]; exact (cell_of_heap hb).trans rfl
  have hr := h2.r
  rw [hrv] at hr
  by_cases hp : 0 < J.length
  · have hcv := str_of_row hr hp
    clear hr hrv h2 hb h1
    go_enter Try.func64, Try.ntmps64
    go_wp2_with fail
    go_ret
    exact ⟨rfl, rfl⟩
  · obtain rfl : J = [] := List.eq_nil_of_length_eq_zero (by omega)
    have hcv : (convert 139 9 (.slice ra 0 rc)).run Try.prog w = .ok (.string (strN [])) w := by
      rcases hr.2 with ⟨hv, _⟩ | ⟨g, c, cur, hv, _⟩
      · simp at hv
        obtain ⟨rfl, rfl⟩ := hv
        exact Lib.run_convert_nil_bytes w 139 9 5 0 Try.underlying139 Try.underlying5 Try.underlying9
      · simp at hv
        obtain ⟨rfl, rfl⟩ := hv
        exact run_convert_bytes_arg (w := w) 139 5 Try.underlying139 Try.underlying5 g 0 0 rc [] rfl (fun i hi => absurd hi (by omega)) 9 Try.underlying9
    clear hr hrv h2 hb h1
    go_enter Try.func64, Try.ntmps64
    go_wp2_with fail
    go_ret
    exact ⟨rfl, rfl⟩
/-- Behind a record's call. -/
def DoOutJ (B : Nat) (cs : List Ins) (m : Nat) (h' : Her Pr) (J' : List Nat) (w0 : World) (H : Nat) (F : Nat → Prop) (f : Int) (w : World) (e : Ending) (w' : World) : Prop :=
  e = .returned (.int .i64 f) ∧ KJ B cs (m + 1) h' J' w0 H F w' ∧ ∀ k, F k → w'.heap[k]? = w.heap[k]?
theorem alloc_same {w : World} (o : Obj) {k : Nat} (hk : k < w.heap.size) : (w.alloc o).heap[k]? = w.heap[k]? := Below.heap_alloc _ _ _ hk
set_option maxRecDepth 20000 in
set_option maxHeartbeats 4000000 in
theorem x_do_trigger {B : Nat} {cs : List Ins} {m : Nat} {h : Her Pr} {J : List Nat} {w0 : World} {H : Nat} {F : Nat → Prop} (a b : Int) (w : World) (g : KJ B cs m h J w0 H F w) (hm : m ≤ 1500000) :
    Calls Try.prog 131 #[.pointer (some ⟨H, 0, none⟩), .agg #[.int .u8 84, .int .i64 a, .int .i64 b]] w (DoOutJ B cs m (trigH (machE cs) h a).2.2 (noteJ (trigH (machE cs) h a).2.1 J 84 a 0) w0 H F (trigH (machE cs) h a).2.1 w) := by
  have HF : Hid (∀ x, F x → x < w.heap.size) := fun x hx => g.lt hx
  have HC : Hid (∀ o, Calls Try.prog 28 #[.pointer (some ⟨H, 0, none⟩), .int .i64 a] (w.alloc o) fun e w' => e = .returned (.tuple #[.int .i64 (trigH (machE cs) h a).1, .int .i64 (trigH (machE cs) h a).2.1]) ∧ KJ B cs (m + 1) (trigH (machE cs) h a).2.2 (noteJ (trigH (machE cs) h a).2.1 J 84 a 0) w0 H F w' ∧ ∀ k, F k → w'.heap[k]? = w.heap[k]?) := fun o =>
    (kj_Trigger a _ (g.below ((Below.refl _ _).alloc (Nat.le_refl _) o)) (by omega)).mono fun e w' hh => ⟨hh.1, hh.2.1, fun k hk => (hh.2.2 k hk).trans (alloc_same o (g.lt hk))⟩
  clear g
  generalize trigH (machE cs) h a = T at *
  go_enter Try.func131, Try.ntmps131
  go_wp2_with fail
  refine (HC.out _).mono ?_
  rintro e w1 ⟨rfl, k1, p1⟩
  have HK : Hid (KJ B cs (m + 1) _ _ w0 H F w1 ∧ ∀ k, F k → w1.heap[k]? = w.heap[k]?) := ⟨k1, p1⟩
  clear k1 p1 HC
  go_wp2_with fail
  go_ret
  exact ⟨rfl, HK.out.1, HK.out.2⟩
set_option maxRecDepth 20000 in
set_option maxHeartbeats 4000000 in
theorem x_do_tick {B : Nat} {cs : List Ins} {m : Nat} {h : Her Pr} {J : List Nat} {w0 : World} {H : Nat} {F : Nat → Prop} (a b : Int) (w : World) (g : KJ B cs m h J w0 H F w) (hm : m ≤ 1500000) :
    Calls Try.prog 131 #[.pointer (some ⟨H, 0, none⟩), .agg #[.int .u8 75, .int .i64 a, .int .i64 b]] w (DoOutJ B cs m (tickH (machE cs) h a).2 (noteJ (tickH (machE cs) h a).1 J 75 a 0) w0 H F (tickH (machE cs) h a).1 w) := by
  have HF : Hid (∀ x, F x → x < w.heap.size) := fun x hx => g.lt hx
  have HC : Hid (∀ o, Calls Try.prog 33 #[.pointer (some ⟨H, 0, none⟩), .int .i64 a] (w.alloc o) fun e w' => e = .returned (.int .i64 (tickH (machE cs) h a).1) ∧ KJ B cs (m + 1) (tickH (machE cs) h a).2 (noteJ (tickH (machE cs) h a).1 J 75 a 0) w0 H F w' ∧ ∀ k, F k → w'.heap[k]? = w.heap[k]?) := fun o =>
    (kj_Tick a _ (g.below ((Below.refl _ _).alloc (Nat.le_refl _) o)) (by omega)).mono fun e w' hh => ⟨hh.1, hh.2.1, fun k hk => (hh.2.2 k hk).trans (alloc_same o (g.lt hk))⟩
  clear g
  generalize tickH (machE cs) h a = T at *
  go_enter Try.func131, Try.ntmps131
  go_wp2_with fail
  refine (HC.out _).mono ?_
  rintro e w1 ⟨rfl, k1, p1⟩
  have HK : Hid (KJ B cs (m + 1) _ _ w0 H F w1 ∧ ∀ k, F k → w1.heap[k]? = w.heap[k]?) := ⟨k1, p1⟩
  clear k1 p1 HC
  go_wp2_with fail
  go_ret
  exact ⟨rfl, HK.out.1, HK.out.2⟩
set_option maxRecDepth 20000 in
set_option maxHeartbeats 4000000 in
theorem x_do_ack {B : Nat} {cs : List Ins} {m : Nat} {h : Her Pr} {J : List Nat} {w0 : World} {H : Nat} {F : Nat → Prop} (a b : Int) (w : World) (g : KJ B cs m h J w0 H F w) (hm : m ≤ 1500000) :
    Calls Try.prog 131 #[.pointer (some ⟨H, 0, none⟩), .agg #[.int .u8 65, .int .i64 a, .int .i64 b]] w (DoOutJ B cs m (ackH (machE cs) h a b).2 (noteJ (ackH (machE cs) h a b).1 J 65 a b) w0 H F (ackH (machE cs) h a b).1 w) := by
  have HF : Hid (∀ x, F x → x < w.heap.size) := fun x hx => g.lt hx
  have HC : Hid (∀ o, Calls Try.prog 38 #[.pointer (some ⟨H, 0, none⟩), .int .i64 a, .int .i64 b] (w.alloc o) fun e w' => e = .returned (.int .i64 (ackH (machE cs) h a b).1) ∧ KJ B cs (m + 1) (ackH (machE cs) h a b).2 (noteJ (ackH (machE cs) h a b).1 J 65 a b) w0 H F w' ∧ ∀ k, F k → w'.heap[k]? = w.heap[k]?) := fun o =>
    (kj_Ack a b _ (g.below ((Below.refl _ _).alloc (Nat.le_refl _) o)) (by omega)).mono fun e w' hh => ⟨hh.1, hh.2.1, fun k hk => (hh.2.2 k hk).trans (alloc_same o (g.lt hk))⟩
  clear g
  generalize ackH (machE cs) h a b = T at *
  go_enter Try.func131, Try.ntmps131
  go_wp2_with fail
  refine (HC.out _).mono ?_
  rintro e w1 ⟨rfl, k1, p1⟩
  have HK : Hid (KJ B cs (m + 1) _ _ w0 H F w1 ∧ ∀ k, F k → w1.heap[k]? = w.heap[k]?) := ⟨k1, p1⟩
  clear k1 p1 HC
  go_wp2_with fail
  go_ret
  exact ⟨rfl, HK.out.1, HK.out.2⟩
set_option maxRecDepth 20000 in
set_option maxHeartbeats 4000000 in
theorem x_do_cancel {B : Nat} {cs : List Ins} {m : Nat} {h : Her Pr} {J : List Nat} {w0 : World} {H : Nat} {F : Nat → Prop} (a b : Int) (w : World) (g : KJ B cs m h J w0 H F w) (hm : m ≤ 1500000) :
    Calls Try.prog 131 #[.pointer (some ⟨H, 0, none⟩), .agg #[.int .u8 67, .int .i64 a, .int .i64 b]] w (DoOutJ B cs m (cancelH (machE cs) h a).2 (noteJ (cancelH (machE cs) h a).1 J 67 a 0) w0 H F (cancelH (machE cs) h a).1 w) := by
  have HF : Hid (∀ x, F x → x < w.heap.size) := fun x hx => g.lt hx
  have HC : Hid (∀ o, Calls Try.prog 40 #[.pointer (some ⟨H, 0, none⟩), .int .i64 a] (w.alloc o) fun e w' => e = .returned (.int .i64 (cancelH (machE cs) h a).1) ∧ KJ B cs (m + 1) (cancelH (machE cs) h a).2 (noteJ (cancelH (machE cs) h a).1 J 67 a 0) w0 H F w' ∧ ∀ k, F k → w'.heap[k]? = w.heap[k]?) := fun o =>
    (kj_Cancel a _ (g.below ((Below.refl _ _).alloc (Nat.le_refl _) o)) (by omega)).mono fun e w' hh => ⟨hh.1, hh.2.1, fun k hk => (hh.2.2 k hk).trans (alloc_same o (g.lt hk))⟩
  clear g
  generalize cancelH (machE cs) h a = T at *
  go_enter Try.func131, Try.ntmps131
  go_wp2_with fail
  refine (HC.out _).mono ?_
  rintro e w1 ⟨rfl, k1, p1⟩
  have HK : Hid (KJ B cs (m + 1) _ _ w0 H F w1 ∧ ∀ k, F k → w1.heap[k]? = w.heap[k]?) := ⟨k1, p1⟩
  clear k1 p1 HC
  go_wp2_with fail
  go_ret
  exact ⟨rfl, HK.out.1, HK.out.2⟩
set_option maxRecDepth 20000 in
set_option maxHeartbeats 4000000 in
theorem x_do_drain {B : Nat} {cs : List Ins} {m : Nat} {h : Her Pr} {J : List Nat} {w0 : World} {H : Nat} {F : Nat → Prop} (a b : Int) (w : World) (g : KJ B cs m h J w0 H F w) (hm : m ≤ 1500000) :
    Calls Try.prog 131 #[.pointer (some ⟨H, 0, none⟩), .agg #[.int .u8 68, .int .i64 a, .int .i64 b]] w (DoOutJ B cs m (drainH h a).2.2 (noteJ (drainH h a).2.1 J 68 a 0) w0 H F (drainH h a).2.1 w) := by
  have HF : Hid (∀ x, F x → x < w.heap.size) := fun x hx => g.lt hx
  have HC : Hid (∀ o, Calls Try.prog 37 #[.pointer (some ⟨H, 0, none⟩), .int .i64 a] (w.alloc o) fun e w' => e = .returned (.tuple #[.agg #[.int .i64 (drainH h a).1.dev, .int .i64 (drainH h a).1.run, .int .i64 (drainH h a).1.num, .int .i64 (drainH h a).1.key], .int .i64 (drainH h a).2.1]) ∧ KJ B cs (m + 1) (drainH h a).2.2 (noteJ (drainH h a).2.1 J 68 a 0) w0 H F w' ∧ ∀ k, F k → w'.heap[k]? = w.heap[k]?) := fun o =>
    (kj_Drain a _ (g.below ((Below.refl _ _).alloc (Nat.le_refl _) o)) (by omega)).mono fun e w' hh => ⟨hh.1, hh.2.1, fun k hk => (hh.2.2 k hk).trans (alloc_same o (g.lt hk))⟩
  clear g
  generalize drainH h a = T at *
  go_enter Try.func131, Try.ntmps131
  go_wp2_with fail
  refine (HC.out _).mono ?_
  rintro e w1 ⟨rfl, k1, p1⟩
  have HK : Hid (KJ B cs (m + 1) _ _ w0 H F w1 ∧ ∀ k, F k → w1.heap[k]? = w.heap[k]?) := ⟨k1, p1⟩
  clear k1 p1 HC
  go_wp2_with fail
  go_ret
  exact ⟨rfl, HK.out.1.below ((Below.refl _ _).alloc (Nat.le_refl _) _), fun k hk => (alloc_same _ (HK.out.1.lt hk)).trans (HK.out.2 k hk)⟩
/-- A record's call is made again. -/
theorem x_do {B : Nat} {cs : List Ins} {m : Nat} {h : Her Pr} {J : List Nat} {w0 : World} {H : Nat} {F : Nat → Prop} (c : Nat) (a b : Int) (hc : isC c b = true) (w : World) (g : KJ B cs m h J w0 H F w) (hm : m ≤ 1500000) :
    Calls Try.prog 131 #[.pointer (some ⟨H, 0, none⟩), .agg #[.int .u8 (c : Nat), .int .i64 a, .int .i64 b]] w (DoOutJ B cs m (playH cs h (kindOf c) a b).2 (playJ cs h J (kindOf c) a b) w0 H F (playH cs h (kindOf c) a b).1.2.2 w) := by
  unfold isC at hc
  by_cases h1 : c = 84
  · subst h1
    exact x_do_trigger a b w g hm
  by_cases h2 : c = 75
  · subst h2
    exact x_do_tick a b w g hm
  by_cases h3 : c = 65
  · subst h3
    exact x_do_ack a b w g hm
  by_cases h4 : c = 67
  · subst h4
    exact x_do_cancel a b w g hm
  by_cases h5 : c = 68
  · subst h5
    exact x_do_drain a b w g hm
  · rw [if_neg (by omega)] at hc
    simp at hc
    omega
end Go.Proofs.Ytmmmnghiegajmaa
/- A record is done again; a journal is opened. -/
namespace Go.Proofs.Ytmmmnghiegajmaa
open Go.RowKit Go.Proofs.Herald
set_option maxRecDepth 20000 in
set_option maxHeartbeats 4000000 in
theorem x_redo_no {B : Nat} {cs : List Ins} {m : Nat} {h : Her Pr} {J : List Nat} {w0 : World} {H : Nat} {F : Nat → Prop} (L : List Nat) (hL : ∀ x ∈ L, x < 256) (hl : L.length = 19) (hr : readB L = none) (w : World) (g : KJ B cs m h J w0 H F w) :
    Calls Try.prog 95 #[.pointer (some ⟨H, 0, none⟩), .string (strN L)] w fun e w' => e = .returned (.bool false) ∧ KJ B cs m h J w0 H F w' ∧ ∀ k, F k → w'.heap[k]? = w.heap[k]? := by
  have HF : Hid (KJ B cs m h J w0 H F w) := g
  have HR : Hid (Calls Try.prog 130 #[.string (strN L)] w fun e w' => e = .returned (.tuple #[.agg #[.int .u8 0, .int .i64 0, .int .i64 0], .bool false]) ∧ Below w.heap.size w w') := by
    have := x_Read L hL hl w
    rw [hr] at this
    exact this
  clear g hL hl hr
  generalize strN L = S at *
  go_enter Try.func95, Try.ntmps95
  go_wp2_with fail
  refine HR.out.mono ?_
  rintro e w1 ⟨rfl, b1⟩
  have HB : Hid (Below w.heap.size w w1) := b1
  clear b1 HR
  go_wp2_with fail
  go_ret
  have hb : Below w.heap.size w (w1.alloc (.cells #[.int .u8 0, .int .i64 0, .int .i64 0] 153)) := HB.out.alloc HB.out.size _
  exact ⟨rfl, HF.out.below hb, fun k hk => hb.block k (HF.out.lt hk)⟩
set_option maxRecDepth 20000 in
set_option maxHeartbeats 4000000 in
theorem x_redo_yes {B : Nat} {cs : List Ins} {m : Nat} {h : Her Pr} {J : List Nat} {w0 : World} {H : Nat} {F : Nat → Prop} (L : List Nat) (hL : ∀ x ∈ L, x < 256) (hl : L.length = 19) (c : Nat) (a b : Int) (hr : readB L = some (c, a, b)) (w : World) (g : KJ B cs m h J w0 H F w) (hm : m ≤ 1500000) :
    Calls Try.prog 95 #[.pointer (some ⟨H, 0, none⟩), .string (strN L)] w fun e w' => e = .returned (.bool ((playH cs h (kindOf c) a b).1.2.2 == 0)) ∧ KJ B cs (m + 1) (playH cs h (kindOf c) a b).2 (playJ cs h J (kindOf c) a b) w0 H F w' ∧ ∀ k, F k → w'.heap[k]? = w.heap[k]? := by
  have HF : Hid (KJ B cs m h J w0 H F w) := g
  have HR : Hid (Calls Try.prog 130 #[.string (strN L)] w fun e w' => e = .returned (.tuple #[.agg #[.int .u8 (c : Nat), .int .i64 a, .int .i64 b], .bool true]) ∧ Below w.heap.size w w') := by
    have := x_Read L hL hl w
    rw [hr] at this
    exact this
  have HD : Hid (∀ W, Below w.heap.size w W → Calls Try.prog 131 #[.pointer (some ⟨H, 0, none⟩), .agg #[.int .u8 (c : Nat), .int .i64 a, .int .i64 b]] W fun e w' => e = .returned (.int .i64 (playH cs h (kindOf c) a b).1.2.2) ∧ KJ B cs (m + 1) (playH cs h (kindOf c) a b).2 (playJ cs h J (kindOf c) a b) w0 H F w' ∧ ∀ k, F k → w'.heap[k]? = w.heap[k]?) := fun W hb =>
    (x_do c a b (readB_some hr).2 W (g.below hb) hm).mono fun e w' hh => ⟨hh.1, hh.2.1, fun k hk => (hh.2.2 k hk).trans (hb.block k (g.lt hk))⟩
  clear g hL hl hr
  generalize strN L = S at *
  generalize playH cs h (kindOf c) a b = P at *
  generalize playJ cs h J (kindOf c) a b = J' at *
  go_enter Try.func95, Try.ntmps95
  go_wp2_with fail
  refine HR.out.mono ?_
  rintro e w1 ⟨rfl, b1⟩
  have HB : Hid (Below w.heap.size w (w1.alloc (.cells #[.int .u8 (c : Nat), .int .i64 a, .int .i64 b] 153))) := b1.alloc b1.size _
  clear b1 HR
  go_wp2_with fail
  refine (HD.out _ HB.out).mono ?_
  rintro e w2 ⟨rfl, k2, p2⟩
  have HK : Hid (KJ B cs (m + 1) P.2 J' w0 H F w2 ∧ ∀ k, F k → w2.heap[k]? = w.heap[k]?) := ⟨k2, p2⟩
  clear k2 p2 HD HB
  go_wp2_with fail
  go_ret
  exact ⟨rfl, HK.out.1, HK.out.2⟩
/-- Records are done again, one by one: the herald, its journal, how many. -/
def openS (cs : List Ins) : List (List Nat) → Her Pr → List Nat → Nat → Her Pr × List Nat × Nat
  | [], h, J, n => (h, J, n)
  | L :: rest, h, J, n => match readB L with
    | none => (h, J, n)
    | some (c, a, b) => if (playH cs h (kindOf c) a b).1.2.2 = 0 then openS cs rest (playH cs h (kindOf c) a b).2 (playJ cs h J (kindOf c) a b) (n + 1) else ((playH cs h (kindOf c) a b).2, playJ cs h J (kindOf c) a b, n)
/-- The whole records of bytes. -/
def chunk (L : List Nat) (i : Nat) : List Nat := (L.drop (i * 19)).take 19
def chunks (L : List Nat) (i : Nat) : Nat → List (List Nat)
  | 0 => []
  | n + 1 => chunk L i :: chunks L (i + 1) n
theorem chunk_len {L : List Nat} {i : Nat} (h : i * 19 + 19 ≤ L.length) : (chunk L i).length = 19 := by
  unfold chunk
  rw [List.length_take, List.length_drop]
  omega
set_option maxRecDepth 20000 in
set_option maxHeartbeats 8000000 in
theorem x_OpenN {cs : List Ins} {ca : Option Addr} {ccap : Nat} (L : List Nat) (hL : ∀ x ∈ L, x < 256) (hl : L.length ≤ 20000000) (w w0 : World) (F : Nat → Prop) (hN0 : Calls Try.prog 27 #[.slice ca cs.length ccap] w fun e w' => ∃ H v, e = .returned (.tuple #[.pointer (some ⟨H, 0, none⟩), .int .i64 0]) ∧ w.heap.size ≤ H ∧ w'.heap[H]? = some (.cells (newHd v) 150 (0, 0)) ∧ w'.ownsRow w.heap.size 128 4 v cs.length (codeCells cs) ∧ Below w.heap.size w w') (hs : soundL cs = true) (hF : ∀ k, F k → k < w.heap.size) (hb0 : Below w0.heap.size w0 w) :
    Calls Try.prog 62 #[.slice ca cs.length ccap, .string (strN L)] w fun e w' => ∃ (H : Nat) (m : Nat), e = .returned (.tuple #[.pointer (some ⟨H, 0, none⟩), .int .i64 ((openS cs (chunks L 0 (L.length / 19)) newH [] 0).2.2 : Nat), .int .i64 0]) ∧ m ≤ L.length / 19 ∧ KJ w0.heap.size cs m (openS cs (chunks L 0 (L.length / 19)) newH [] 0).1 (openS cs (chunks L 0 (L.length / 19)) newH [] 0).2.1 w0 H F w' ∧ ∀ k, F k → w'.heap[k]? = w.heap[k]? := by
  have hz : (strN L).size = L.length := strN_size L
  have HN := (show Hid _ from hN0 : Hid (Calls Try.prog 27 #[.slice ca cs.length ccap] w _))
  have HX : Hid ((∀ x ∈ L, x < 256) ∧ soundL cs = true ∧ (∀ k, F k → k < w.heap.size) ∧ Below w0.heap.size w0 w) := ⟨hL, hs, hF, hb0⟩
  obtain ⟨N, hN⟩ : ∃ N, N = L.length / 19 := ⟨_, rfl⟩
  rw [← hN]
  generalize hRR : openS cs (chunks L 0 N) newH [] 0 = R
  have HRE : Hid (openS cs (chunks L 0 N) newH [] 0 = R) := hRR
  clear hN0 hL hs hF hb0 hRR
  go_enter Try.func62, Try.ntmps62
  go_wp2_with fail
  refine HN.out.mono ?_
  rintro e w1 ⟨H, v, rfl, hH, hHb, hvo, b1⟩
  have HK1 : Hid (KJ w0.heap.size cs 0 newH [] w0 H F w1 ∧ ∀ k, F k → w1.heap[k]? = w.heap[k]?) := by
    obtain ⟨_, q2, q3, q4⟩ := HX.out
    refine ⟨⟨0, _, Nat.le_refl _, GJ.new q2 hHb (own0 hvo), fun k hk => ?_, fun k hk => by have := q3 k hk; have := b1.size; omega, q4.trans (b1.mono q4.size), by have := q4.size; have := b1.size; omega⟩, fun k hk => b1.block k (q3 k hk)⟩
    have hge : w.heap.size ≤ k := by
      rcases hk with hk | hk | hk
      · rcases hk with rfl | ⟨d, hd⟩ | hk
        · exact hH
        · simp [Value.ownBlock] at hd
        · simp [Value.ownBlock] at hk
      · simp [Value.ownBlock] at hk
      · exact (hvo.lt k hk).1
    exact ⟨by have := q4.size; omega, fun hf => by have := q3 k hf; omega⟩
  clear hH hHb hvo b1 HN
  go_wp2_with fail
  go_loopw [9, 10] (fun mv sv wr => ∃ (k : Nat) (h : Her Pr) (J : List Nat), k ≤ N ∧ mv = .int .i64 (k : Nat) ∧ sv = .int .i64 ((k * 19 : Nat) : Int) ∧ Hid (openS cs (chunks L k (N - k)) h J k = R ∧ KJ w0.heap.size cs k h J w0 H F wr ∧ ∀ k, F k → wr.heap[k]? = w.heap[k]?)) (fun mv _ _ => N - (intOf mv).toNat)
  case atStart => exact ⟨0, newH, [], Nat.zero_le _, rfl, rfl, HRE.out, HK1.out.1, HK1.out.2⟩
  case round =>
    clear HK1
    obtain ⟨k, h, J, hk, rfl, rfl, HI⟩ := hrel
    by_cases hlt : k < N
    · have hc1 : k * 19 + 19 ≤ L.length := by omega
      obtain ⟨n', hn'⟩ : ∃ n', N - k = n' + 1 := ⟨N - k - 1, by omega⟩
      have hn2 : N - (k + 1) = n' := by omega
      have hcl : (chunk L k).length = 19 := chunk_len hc1
      have hcb : ∀ x ∈ chunk L k, x < 256 := sub_lt HX.out.1 (k * 19) 19
      have HEX : Hid ((strN L).extract (k * 19) (k * 19 + 19) = strN (chunk L k)) := by
        show _ = _
        rw [strN_extract, show k * 19 + 19 - k * 19 = 19 by omega]
        rfl
      have HST : Hid (openS cs (chunk L k :: chunks L (k + 1) n') h J k = R) := by
        have := HI.out.1
        rw [hn'] at this
        exact this
      cases hr : readB (chunk L k) with
      | none =>
        have HC := (show Hid _ from x_redo_no (chunk L k) hcb hcl hr wr HI.out.2.1 : Hid (Calls Try.prog 95 #[.pointer (some ⟨H, 0, none⟩), .string (strN (chunk L k))] wr _))
        rw [← HEX.out] at HC
        have HRR : Hid (R = (h, J, k)) := by
          have := HST.out
          unfold openS at this
          rw [hr] at this
          exact this.symm
        clear hr hcb hcl hn' hn2
        go_wp2_with fail
        refine HC.out.mono ?_
        rintro e w2 ⟨rfl, k2, p2⟩
        have HK2 : Hid (KJ w0.heap.size cs k h J w0 H F w2 ∧ ∀ k, F k → w2.heap[k]? = w.heap[k]?) := ⟨k2, fun x hx => (p2 x hx).trans (HI.out.2.2 x hx)⟩
        clear k2 p2 HC
        go_wp2_with fail
        go_ret3
        rw [HRR.out]
        exact ⟨H, k, rfl, hk, HK2.out.1, HK2.out.2⟩
      | some q =>
        obtain ⟨c, a, b⟩ := q
        have HC := (show Hid _ from x_redo_yes (chunk L k) hcb hcl c a b hr wr HI.out.2.1 (by omega) : Hid (Calls Try.prog 95 #[.pointer (some ⟨H, 0, none⟩), .string (strN (chunk L k))] wr _))
        rw [← HEX.out] at HC
        have HRR : Hid ((if (playH cs h (kindOf c) a b).1.2.2 = 0 then openS cs (chunks L (k + 1) n') (playH cs h (kindOf c) a b).2 (playJ cs h J (kindOf c) a b) (k + 1) else ((playH cs h (kindOf c) a b).2, playJ cs h J (kindOf c) a b, k)) = R) := by
          have := HST.out
          unfold openS at this
          rw [hr] at this
          exact this
        generalize playH cs h (kindOf c) a b = P at *
        generalize playJ cs h J (kindOf c) a b = J' at *
        clear hr hcb hcl hn'
        by_cases he : P.1.2.2 = 0
        · have be : (P.1.2.2 == 0) = true := by simpa using he
          have HR2 : Hid (openS cs (chunks L (k + 1) (N - (k + 1))) P.2 J' (k + 1) = R) := by
            have := HRR.out
            rw [if_pos he] at this
            rw [hn2]
            exact this
          rw [be] at HC
          clear he hn2
          go_wp2_with fail
          refine HC.out.mono ?_
          rintro e w2 ⟨rfl, k2, p2⟩
          have HK2 : Hid (KJ w0.heap.size cs (k + 1) P.2 J' w0 H F w2 ∧ ∀ k, F k → w2.heap[k]? = w.heap[k]?) := ⟨k2, fun x hx => (p2 x hx).trans (HI.out.2.2 x hx)⟩
          clear k2 p2 HC
          go_wp2_with fail
          go_roundw
          case rel => exact ⟨k + 1, P.2, J', by omega, by go_num, by go_num, HR2.out, HK2.out.1, HK2.out.2⟩
          case measure => simp [intOf]; omega
        · have be : (P.1.2.2 == 0) = false := by simpa using he
          have HR2 : Hid (R = (P.2, J', k)) := by
            have := HRR.out
            rw [if_neg he] at this
            exact this.symm
          rw [be] at HC
          clear he hn2
          go_wp2_with fail
          refine HC.out.mono ?_
          rintro e w2 ⟨rfl, k2, p2⟩
          have HK2 : Hid (KJ w0.heap.size cs (k + 1) P.2 J' w0 H F w2 ∧ ∀ k, F k → w2.heap[k]? = w.heap[k]?) := ⟨k2, fun x hx => (p2 x hx).trans (HI.out.2.2 x hx)⟩
          clear k2 p2 HC
          go_wp2_with fail
          go_ret3
          rw [HR2.out]
          exact ⟨H, k + 1, rfl, hlt, HK2.out.1, HK2.out.2⟩
    · have HRR : Hid (R = (h, J, k)) := by
        have := HI.out.1
        rw [show N - k = 0 by omega] at this
        exact this.symm
      have hc1 : L.length < k * 19 + 19 := by omega
      go_wp2_with fail
      go_ret3
      rw [HRR.out]
      exact ⟨H, k, rfl, hk, HI.out.2.1, HI.out.2.2⟩
end Go.Proofs.Ytmmmnghiegajmaa
/- A record's call, of any kind of runs; records are done again, one by one. -/
namespace Go.Proofs.Herald
set_option maxHeartbeats 2000000 in
theorem val_eight {x0 x1 x2 x3 x4 x5 x6 x7 : Nat} (h0 : x0 < 256) (h1 : x1 < 256) (h2 : x2 < 256) (h3 : x3 < 256) (h4 : x4 < 256) (h5 : x5 < 256) (h6 : x6 < 256) (h7 : x7 < 256) : eightN (w64 (valB [x0, x1, x2, x3, x4, x5, x6, x7])) = [x0, x1, x2, x3, x4, x5, x6, x7] := by
  have ev : valB [x0, x1, x2, x3, x4, x5, x6, x7] = (x0 : Int) * 72057594037927936 + x1 * 281474976710656 + x2 * 1099511627776 + x3 * 4294967296 + x4 * 16777216 + x5 * 65536 + x6 * 256 + x7 := by
    unfold valB
    simp only [List.foldl_cons, List.foldl_nil]
    omega
  have hw : w64 (valB [x0, x1, x2, x3, x4, x5, x6, x7]) = valB [x0, x1, x2, x3, x4, x5, x6, x7] ∨ w64 (valB [x0, x1, x2, x3, x4, x5, x6, x7]) = valB [x0, x1, x2, x3, x4, x5, x6, x7] - 18446744073709551616 := by
    unfold w64
    rw [ev]
    omega
  generalize w64 (valB [x0, x1, x2, x3, x4, x5, x6, x7]) = n at *
  rw [ev] at hw
  have d0 : (byteR n 0).toNat = x0 := by
    have e : n / 2 ^ (56 - 8 * 0) = n / 72057594037927936 := rfl
    unfold byteR
    rw [e]
    omega
  have d1 : (byteR n 1).toNat = x1 := by
    have e : n / 2 ^ (56 - 8 * 1) = n / 281474976710656 := rfl
    unfold byteR
    rw [e]
    omega
  have d2 : (byteR n 2).toNat = x2 := by
    have e : n / 2 ^ (56 - 8 * 2) = n / 1099511627776 := rfl
    unfold byteR
    rw [e]
    omega
  have d3 : (byteR n 3).toNat = x3 := by
    have e : n / 2 ^ (56 - 8 * 3) = n / 4294967296 := rfl
    unfold byteR
    rw [e]
    omega
  have d4 : (byteR n 4).toNat = x4 := by
    have e : n / 2 ^ (56 - 8 * 4) = n / 16777216 := rfl
    unfold byteR
    rw [e]
    omega
  have d5 : (byteR n 5).toNat = x5 := by
    have e : n / 2 ^ (56 - 8 * 5) = n / 65536 := rfl
    unfold byteR
    rw [e]
    omega
  have d6 : (byteR n 6).toNat = x6 := by
    have e : n / 2 ^ (56 - 8 * 6) = n / 256 := rfl
    unfold byteR
    rw [e]
    omega
  have d7 : (byteR n 7).toNat = x7 := by
    have e : n / 2 ^ (56 - 8 * 7) = n := by show n / 1 = n; exact Int.ediv_one n
    unfold byteR
    rw [e]
    omega
  unfold eightN
  simp only [List.range, List.range.loop, List.map_cons, List.map_nil, d0, d1, d2, d3, d4, d5, d6, d7]
theorem eight_back {X : List Nat} (hl : X.length = 8) (hX : ∀ x ∈ X, x < 256) : eightN (w64 (valB X)) = X := by
  match X, hl with
  | [x0, x1, x2, x3, x4, x5, x6, x7], _ =>
    exact val_eight (hX _ (by simp)) (hX _ (by simp)) (hX _ (by simp)) (hX _ (by simp)) (hX _ (by simp)) (hX _ (by simp)) (hX _ (by simp)) (hX _ (by simp))
/-- The body of a record is its first 17 bytes. -/
theorem body_back {L : List Nat} (hl : L.length = 19) (hL : ∀ x ∈ L, x < 256) : bodyB (nameL L) (firstL L) (secondL L) = L.take 17 := by
  have h1 : eightN (firstL L) = (L.drop 1).take 8 := eight_back (by rw [List.length_take, List.length_drop]; omega) fun x hx => hL x (List.mem_of_mem_drop (List.mem_of_mem_take hx))
  have h2 : eightN (secondL L) = (L.drop 9).take 8 := eight_back (by rw [List.length_take, List.length_drop]; omega) fun x hx => hL x (List.mem_of_mem_drop (List.mem_of_mem_take hx))
  unfold bodyB
  rw [h1, h2]
  cases L with
  | nil => simp at hl
  | cons x R =>
    show x :: (R.take 8 ++ (R.drop 8).take 8) = x :: R.take 16
    rw [show (16 : Nat) = 8 + 8 from rfl, List.take_add]
theorem rec_check {L : List Nat} (hl : L.length = 19) (hL : ∀ x ∈ L, x < 256) : recB (nameL L) (firstL L) (secondL L) = L ↔ [crcL (L.take 17) / 256, crcL (L.take 17) % 256] = L.drop 17 := by
  unfold recB
  rw [body_back hl hL]
  constructor
  · intro h
    have h2 := congrArg (List.drop 17) h
    rw [List.drop_left' (by rw [List.length_take]; omega)] at h2
    exact h2
  · intro h
    rw [h]
    exact List.take_append_drop 17 L
end Go.Proofs.Herald
namespace Go.Proofs.Ytmmmnghiegajmaa
open Go.RowKit Go.Proofs.Herald
/-- A record's call: the error, the herald. -/
def callE {R : Type} (E : Eng R) (h : Her R) (c : Nat) (a b : Int) : Int × Her R :=
  if c = 84 then ((trigH E h a).2.1, (trigH E h a).2.2)
  else if c = 75 then tickH E h a
  else if c = 65 then ackH E h a b
  else if c = 67 then cancelH E h a
  else if c = 68 then ((drainH h a).2.1, (drainH h a).2.2)
  else (10, h)
def openE {R : Type} (E : Eng R) : List (List Nat) → Her R → List Nat → Nat → Her R × List Nat × Nat
  | [], h, J, n => (h, J, n)
  | L :: rest, h, J, n => match readB L with
    | none => (h, J, n)
    | some (c, a, b) => if (callE E h c a b).1 = 0 then openE E rest (callE E h c a b).2 (noteJ (callE E h c a b).1 J c a b) (n + 1) else ((callE E h c a b).2, noteJ (callE E h c a b).1 J c a b, n)
theorem call_play {cs : List Ins} {h : Her Pr} {J : List Nat} {c : Nat} {a b : Int} (hc : isC c b = true) : (playH cs h (kindOf c) a b).1.2.2 = (callE (machE cs) h c a b).1 ∧ (playH cs h (kindOf c) a b).2 = (callE (machE cs) h c a b).2 ∧ playJ cs h J (kindOf c) a b = noteJ (callE (machE cs) h c a b).1 J c a b := by
  unfold isC at hc
  by_cases h1 : c = 84
  · subst h1
    have hb : b = 0 := by simpa using hc
    subst hb
    exact ⟨rfl, rfl, rfl⟩
  by_cases h2 : c = 75
  · subst h2
    have hb : b = 0 := by simpa using hc
    subst hb
    exact ⟨rfl, rfl, rfl⟩
  by_cases h3 : c = 65
  · subst h3
    exact ⟨rfl, rfl, rfl⟩
  by_cases h4 : c = 67
  · subst h4
    have hb : b = 0 := by simpa using hc
    subst hb
    exact ⟨rfl, rfl, rfl⟩
  by_cases h5 : c = 68
  · subst h5
    have hb : b = 0 := by simpa using hc
    subst hb
    exact ⟨rfl, rfl, rfl⟩
  · rw [if_neg (by omega)] at hc
    simp at hc
    omega
theorem open_mach (cs : List Ins) : ∀ (Ls : List (List Nat)) (h : Her Pr) (J : List Nat) (n : Nat), openS cs Ls h J n = openE (machE cs) Ls h J n
  | [], _, _, _ => rfl
  | L :: rest, h, J, n => by
    unfold openS openE
    cases hr : readB L with
    | none => rfl
    | some q =>
      obtain ⟨c, a, b⟩ := q
      obtain ⟨e1, e2, e3⟩ := call_play (cs := cs) (h := h) (J := J) (a := a) (readB_some hr).2
      simp only
      rw [e1, e2, e3, open_mach cs rest]
theorem call_same {R S : Type} {E : Eng R} {F : Eng S} {ρ : R → S → Prop} (hE : SameEng E F ρ) {h : Her R} {k : Her S} (hs : SameHer ρ h k) (c : Nat) (a b : Int) : (callE E h c a b).1 = (callE F k c a b).1 ∧ SameHer ρ (callE E h c a b).2 (callE F k c a b).2 := by
  unfold callE
  split
  · obtain ⟨_, h2, h3⟩ := SameHer.trig hE hs a
    exact ⟨h2, h3⟩
  split
  · exact SameHer.tick hE hs a
  split
  · exact SameHer.ack hE hs a b
  split
  · exact SameHer.cancel hE hs a
  split
  · obtain ⟨_, h2, h3⟩ := SameHer.drain hs a
    exact ⟨h2, h3⟩
  · exact ⟨rfl, hs⟩
theorem open_same {R S : Type} {E : Eng R} {F : Eng S} {ρ : R → S → Prop} (hE : SameEng E F ρ) : ∀ (Ls : List (List Nat)) {h : Her R} {k : Her S} (J : List Nat) (n : Nat), SameHer ρ h k → SameHer ρ (openE E Ls h J n).1 (openE F Ls k J n).1 ∧ (openE E Ls h J n).2 = (openE F Ls k J n).2
  | [], _, _, _, _, hs => ⟨hs, rfl⟩
  | L :: rest, h, k, J, n, hs => by
    unfold openE
    cases readB L with
    | none => exact ⟨hs, rfl⟩
    | some q =>
      obtain ⟨c, a, b⟩ := q
      obtain ⟨e1, e2⟩ := call_same hE hs c a b
      simp only
      rw [e1]
      split
      · exact open_same hE rest _ _ e2
      · exact ⟨e2, rfl⟩
end Go.Proofs.Ytmmmnghiegajmaa
/- The document makes the calls of a journal's records again. -/
namespace Go.Proofs.Ytmmmnghiegajmaa
open Go.RowKit Go.Proofs.Herald
set_option maxRecDepth 20000 in
set_option maxHeartbeats 4000000 in
theorem d_number (L : List Nat) (hL : ∀ x ∈ L, x < 256) (hl : L.length = 8) (w : World) :
    Calls Try.prog 133 #[.string (strN L)] w fun e w' => e = .returned (.int .i64 (w64 (valB L))) ∧ w' = w := by
  have hz : (strN L).size = 8 := by rw [strN_size, hl]
  have HGT : Hid (∀ (i : Nat) (h : i < (strN L).size) (hi : i < L.length), (((strN L)[i]).toNat : Int) = (L[i] : Int)) := fun i h hi => by
    rw [strN_get h hi (hL _ (List.getElem_mem hi))]
  have HL : Hid ((∀ x ∈ L, x < 256) ∧ L.length = 8) := ⟨hL, hl⟩
  clear hL hl
  go_enter Try.func133, Try.ntmps133
  go_wp2_with fail
  go_loop [3, 4] (fun n i => ∃ k : Nat, k ≤ 8 ∧ i = .int .i64 k ∧ n = .int .i64 (w64 (valB (L.take k)))) (fun _ i => 8 - (intOf i).toNat)
  case atStart => exact ⟨0, Nat.zero_le _, rfl, by rw [List.take_zero]; rfl⟩
  case round =>
    obtain ⟨k, hk, rfl, rfl⟩ := hrel
    by_cases hlt : k < 8
    · have hlt1 : k < L.length := by have := HL.out.2; omega
      have hlt2 : k < (strN L).size := by omega
      have e1 := HGT.out k hlt2 hlt1
      have hb := HL.out.1 _ (List.getElem_mem hlt1)
      have HST : Hid (w64 (valB (L.take (k + 1))) = w64 (w64 (valB (L.take k)) * 256) + (L[k] : Int)) := by
        show _ = _
        rw [valB_step L k hlt1, w64_step _ _ hb]
      generalize valB (L.take k) = v at *
      have HOR : Hid (Go.bits .or .i64 (Go.RowKit.wrap64 (w64 v * 256)) (L[k] : Int) = w64 (valB (L.take (k + 1)))) := by
        show _ = _
        have e2 : Go.RowKit.wrap64 (w64 v * 256) = w64 (w64 v * 256) := by unfold w64; exact w64_is _
        rw [HST.out, e2]
        exact i64_or_low _ _ (by unfold w64; omega) (by unfold w64; omega) (by unfold w64; omega) hb
      go_wp2_with fail
      go_round
      case rel => exact ⟨k + 1, by omega, by go_num, by rw [HOR.out]⟩
      case measure => simp [intOf]; omega
    · have e : L.take k = L := List.take_of_length_le (by have := HL.out.2; omega)
      rw [e]
      go_wp2_with fail
      go_ret
      exact ⟨rfl, rfl⟩
section
/-- What is asked of a record, of the document. -/
structure RecIn (L : List Nat) (Z : ByteArray) : Prop where
  z : strN L = Z
  sz : Z.size = 19
  ck : ∀ w : World, Calls Try.prog 132 #[.string (Z.extract 0 17)] w fun e w' => e = .returned (.string (checkS (Z.extract 0 17))) ∧ Below w.heap.size w w'
  na : ∀ w : World, Calls Try.prog 133 #[.string (Z.extract 1 9)] w fun e w' => e = .returned (.int .i64 (firstL L)) ∧ w' = w
  nb : ∀ w : World, Calls Try.prog 133 #[.string (Z.extract 9 17)] w fun e w' => e = .returned (.int .i64 (secondL L)) ∧ w' = w
  nm : ∀ h : 0 < Z.size, (Z[0].toNat : Int) = (nameL L : Nat)
  cs : checkS (Z.extract 0 17) = Z.extract 17 19 ↔ recB (nameL L) (firstL L) (secondL L) = L
theorem rec_in {L : List Nat} (hL : ∀ x ∈ L, x < 256) (hl : L.length = 19) : RecIn L (strN L) := by
  have x1 : (strN L).extract 0 17 = strN (L.take 17) := by rw [strN_extract]; rfl
  have x2 : (strN L).extract 17 19 = strN (L.drop 17) := by
    rw [strN_extract, List.take_of_length_le (by rw [List.length_drop]; omega)]
  have xa : (strN L).extract 1 9 = strN ((L.drop 1).take 8) := strN_extract L 1 9
  have xb : (strN L).extract 9 17 = strN ((L.drop 9).take 8) := strN_extract L 9 17
  have l1 : ∀ x ∈ L.take 17, x < 256 := fun x hx => hL x (List.mem_of_mem_take hx)
  have l2 : ∀ x ∈ L.drop 17, x < 256 := fun x hx => hL x (List.mem_of_mem_drop hx)
  have t17 : (L.take 17).length = 17 := by rw [List.length_take]; omega
  refine ⟨rfl, by rw [strN_size, hl], fun w => ?_, fun w => ?_, fun w => ?_, fun h => ?_, ?_⟩
  · rw [x1]
    exact Check_any _ (by rw [strN_size]; omega) (by rw [strN_size]; omega) w
  · rw [xa]
    exact d_number _ (sub_lt hL 1 8) (by rw [List.length_take, List.length_drop]; omega) w
  · rw [xb]
    exact d_number _ (sub_lt hL 9 8) (by rw [List.length_take, List.length_drop]; omega) w
  · have h0 : 0 < L.length := by omega
    rw [strN_get h h0 (hL _ (List.getElem_mem h0))]
    unfold nameL
    simp [List.getD, h0]
  · have hr : crcL (L.take 17) < 65536 := crcL_lt _ (by decide) l1
    rw [x1, x2, check_crc _ l1 (by omega), rec_check hl hL]
    constructor
    · intro h
      refine strN_inj (fun x hx => ?_) l2 h
      simp only [List.mem_cons, List.not_mem_nil, or_false] at hx
      rcases hx with rfl | rfl <;> omega
    · intro h
      rw [h]
set_option maxRecDepth 20000 in
set_option maxHeartbeats 4000000 in
/-- A record that does not stand. -/
theorem d_again_no (S : Nat) (L : List Nat) (hL : ∀ x ∈ L, x < 256) (hl : L.length = 19) (hr : readB L = none) (w : World) :
    Calls Try.prog 96 #[.pointer (some ⟨S, 0, none⟩), .string (strN L)] w fun e w' => e = .returned (.bool false) ∧ Below w.heap.size w w' := by
  have R := rec_in hL hl
  have hn : ¬ (checkS ((strN L).extract 0 17) = (strN L).extract 17 19 ∧ isC (nameL L) (secondL L) = true) := fun hh => by
    unfold readB at hr
    rw [if_pos ⟨R.cs.mp hh.1, hh.2⟩] at hr
    cases hr
  have hz := R.sz
  have h0 : 0 < (strN L).size := by omega
  have n0 := R.nm h0
  have HK : Hid (∀ w : World, Calls Try.prog 132 #[.string ((strN L).extract 0 17)] w fun e w' => e = .returned (.string (checkS ((strN L).extract 0 17))) ∧ Below w.heap.size w w') := R.ck
  have HA : Hid (∀ w : World, Calls Try.prog 133 #[.string ((strN L).extract 1 9)] w fun e w' => e = .returned (.int .i64 (firstL L)) ∧ w' = w) := R.na
  have HB : Hid (∀ w : World, Calls Try.prog 133 #[.string ((strN L).extract 9 17)] w fun e w' => e = .returned (.int .i64 (secondL L)) ∧ w' = w) := R.nb
  clear R hr hL hl
  generalize secondL L = b at *
  generalize firstL L = a at *
  generalize nameL L = c at *
  generalize strN L = Z at *
  by_cases h1 : checkS (Z.extract 0 17) = Z.extract 17 19
  · have hi : isC c b = false := by
      cases hh : isC c b with
      | false => rfl
      | true => exact absurd ⟨h1, hh⟩ hn
    rw [h1] at HK
    clear hn h1
    have c65 : ¬ c = 65 := fun e => by
      subst e
      cases hi
    have b65 : (((c : Nat) : Int) != 65) = true := by simp; omega
    by_cases hb : b = 0
    · subst hb
      have k1 : (((c : Nat) : Int) == 84) = false := by
        cases hh : (((c : Nat) : Int) == 84) with
        | false => rfl
        | true =>
          have e : c = 84 := by simp at hh; omega
          subst e
          cases hi
      have k2 : (((c : Nat) : Int) == 75) = false := by
        cases hh : (((c : Nat) : Int) == 75) with
        | false => rfl
        | true =>
          have e : c = 75 := by simp at hh; omega
          subst e
          cases hi
      have k3 : (((c : Nat) : Int) == 65) = false := by simp; omega
      have k4 : (((c : Nat) : Int) == 67) = false := by
        cases hh : (((c : Nat) : Int) == 67) with
        | false => rfl
        | true =>
          have e : c = 67 := by simp at hh; omega
          subst e
          cases hi
      have k5 : (((c : Nat) : Int) == 68) = false := by
        cases hh : (((c : Nat) : Int) == 68) with
        | false => rfl
        | true =>
          have e : c = 68 := by simp at hh; omega
          subst e
          cases hi
      clear c65 hi
      go_enter Try.func96, Try.ntmps96
      go_wp2_with fail
      refine (HK.out _).mono ?_
      rintro e w1 ⟨rfl, b1⟩
      have HB1 : Hid (Below w.heap.size w w1) := b1
      clear b1 HK
      go_wp2_with fail
      refine (HA.out _).mono ?_
      rintro e w2 ⟨rfl, hw⟩
      rw [hw]
      clear hw HA
      go_wp2_with fail
      refine (HB.out _).mono ?_
      rintro e w2 ⟨rfl, hw⟩
      rw [hw]
      clear hw HB
      go_wp2_with fail
      go_ret
      exact ⟨rfl, HB1.out⟩
    · have bb : (b != 0) = true := by simpa using hb
      clear c65 hi hb
      go_enter Try.func96, Try.ntmps96
      go_wp2_with fail
      refine (HK.out _).mono ?_
      rintro e w1 ⟨rfl, b1⟩
      have HB1 : Hid (Below w.heap.size w w1) := b1
      clear b1 HK
      go_wp2_with fail
      refine (HA.out _).mono ?_
      rintro e w2 ⟨rfl, hw⟩
      rw [hw]
      clear hw HA
      go_wp2_with fail
      refine (HB.out _).mono ?_
      rintro e w2 ⟨rfl, hw⟩
      rw [hw]
      clear hw HB
      go_wp2_with fail
      go_ret
      exact ⟨rfl, HB1.out⟩
  · have hnb : (checkS (Z.extract 0 17)).toList ≠ (Z.extract 17 19).toList := fun h => h1 (byteArray_eq (by rw [← ByteArray.toList_eq, ← ByteArray.toList_eq]; exact h))
    have hnc : ((checkS (Z.extract 0 17)).toList == (Z.extract 17 19).toList) = false := by simpa using hnb
    clear hn h1 hnb
    generalize checkS (Z.extract 0 17) = Y at *
    go_enter Try.func96, Try.ntmps96
    go_wp2_with fail
    refine (HK.out _).mono ?_
    rintro e w1 ⟨rfl, b1⟩
    have HB1 : Hid (Below w.heap.size w w1) := b1
    clear b1 HK
    go_wp2_with fail
    go_ret
    exact ⟨rfl, HB1.out⟩
/-- How far the walk of a record that stands goes, up to its call. -/
theorem d_again_in {L : List Nat} (hL : ∀ x ∈ L, x < 256) (hl : L.length = 19) {c : Nat} {a b : Int} (hr : readB L = some (c, a, b)) : (strN L).size = 19 ∧ (∀ h : 0 < (strN L).size, ((strN L)[0].toNat : Int) = (c : Nat)) ∧ Hid (∀ w : World, Calls Try.prog 132 #[.string ((strN L).extract 0 17)] w fun e w' => e = .returned (.string ((strN L).extract 17 19)) ∧ Below w.heap.size w w') ∧
    Hid (∀ w : World, Calls Try.prog 133 #[.string ((strN L).extract 1 9)] w fun e w' => e = .returned (.int .i64 a) ∧ w' = w) ∧ Hid (∀ w : World, Calls Try.prog 133 #[.string ((strN L).extract 9 17)] w fun e w' => e = .returned (.int .i64 b) ∧ w' = w) := by
  have R := rec_in hL hl
  unfold readB at hr
  split at hr
  · rename_i hh
    simp only [Option.some.injEq, Prod.mk.injEq] at hr
    obtain ⟨rfl, rfl, rfl⟩ := hr
    refine ⟨R.sz, R.nm, fun w => ?_, R.na, R.nb⟩
    have := R.ck w
    rw [R.cs.mpr hh.1] at this
    exact this
  · cases hr
end
end Go.Proofs.Ytmmmnghiegajmaa
