import Derived.Test.YtmmmnghiegajmabGreatM43
import Derived.Lib.BufferRead
import Derived.Test.YtmmmnghiegajmabGreatM41
/- The journal is told; a record's call is made again. -/
namespace Go.Proofs.Herald
/-- The step of a record's call. -/
def kindOf (c : Nat) : Int := if c = 84 then 1 else if c = 75 then 2 else if c = 65 then 3 else if c = 67 then 4 else 5
end Go.Proofs.Herald
namespace Go.Proofs.YtmmmnghiegajmabGreat
open Go.RowKit Go.Proofs.Herald
set_option maxRecDepth 20000 in
set_option maxHeartbeats 4000000 in
theorem kj_Journal {B : Nat} {cs : List Ins} {m : Nat} {h : Her Pr} {J : List Nat} {w0 : World} {H : Nat} {F : Nat → Prop} (w : World) (g : KJ B cs m h J w0 H F w) :
    Calls Tryz.prog 7 #[.pointer (some ⟨H, 0, none⟩)] w fun e w' => e = .returned (.string (strN J)) ∧ w' = w := by
  obtain ⟨i, s, h1, h2, _⟩ := g
  have hb := h2.ga.fh.m.at'.blk
  have hHl : H < w.heap.size := heap_lt hb
  obtain ⟨ra, rc, hrv⟩ := ownsRow_slice h2.r
  have c7 : w.cell? ⟨H, 7, none⟩ = some (.slice ra J.length rc) := by rw [← hrv]; exact (cell_of_heap hb).trans rfl
  have hr := h2.r
  rw [hrv] at hr
  by_cases hp : 0 < J.length
  · have hcv := str_of_row hr hp
    clear hr hrv h2 hb h1
    go_enter Tryz.func7, Tryz.ntmps7
    go_wp2_with fail
    go_ret
    exact ⟨rfl, rfl⟩
  · obtain rfl : J = [] := List.eq_nil_of_length_eq_zero (by omega)
    have hcv : (convert 73 9 (.slice ra 0 rc)).run Tryz.prog w = .ok (.string (strN [])) w := by
      rcases hr.2 with ⟨hv, _⟩ | ⟨g, c, cur, hv, _⟩
      · simp at hv
        obtain ⟨rfl, rfl⟩ := hv
        exact Lib.run_convert_nil_bytes w 73 9 5 0 Tryz.underlying73 Tryz.underlying5 Tryz.underlying9
      · simp at hv
        obtain ⟨rfl, rfl⟩ := hv
        exact run_convert_bytes_arg (w := w) 73 5 Tryz.underlying73 Tryz.underlying5 g 0 0 rc [] rfl (fun i hi => absurd hi (by omega)) 9 Tryz.underlying9
    clear hr hrv h2 hb h1
    go_enter Tryz.func7, Tryz.ntmps7
    go_wp2_with fail
    go_ret
    exact ⟨rfl, rfl⟩
/-- Behind a record's call. -/
def DoOutJ (B : Nat) (cs : List Ins) (m : Nat) (h' : Her Pr) (J' : List Nat) (w0 : World) (H : Nat) (F : Nat → Prop) (f : Int) (w : World) (e : Ending) (w' : World) : Prop :=
  e = .returned (.int .i64 f) ∧ KJ B cs (m + 1) h' J' w0 H F w' ∧ ∀ k, F k → w'.heap[k]? = w.heap[k]?
theorem alloc_same {w : World} (o : Obj) {k : Nat} (hk : k < w.heap.size) : (w.alloc o).heap[k]? = w.heap[k]? := Below.heap_alloc _ _ _ hk
set_option maxRecDepth 20000 in
set_option maxHeartbeats 4000000 in
theorem x_do_trigger {B : Nat} {cs : List Ins} {m : Nat} {h : Her Pr} {J : List Nat} {w0 : World} {H : Nat} {F : Nat → Prop} (a b : Int) (w : World) (g : KJ B cs m h J w0 H F w) (hm : m ≤ 1500000) :
    Calls Tryz.prog 41 #[.pointer (some ⟨H, 0, none⟩), .agg #[.int .u8 84, .int .i64 a, .int .i64 b]] w (DoOutJ B cs m (trigH (machE cs) h a).2.2 (noteJ (trigH (machE cs) h a).2.1 J 84 a 0) w0 H F (trigH (machE cs) h a).2.1 w) := by
  have HF : Hid (∀ x, F x → x < w.heap.size) := fun x hx => g.lt hx
  have HC : Hid (∀ o, Calls Tryz.prog 15 #[.pointer (some ⟨H, 0, none⟩), .int .i64 a] (w.alloc o) fun e w' => e = .returned (.tuple #[.int .i64 (trigH (machE cs) h a).1, .int .i64 (trigH (machE cs) h a).2.1]) ∧ KJ B cs (m + 1) (trigH (machE cs) h a).2.2 (noteJ (trigH (machE cs) h a).2.1 J 84 a 0) w0 H F w' ∧ ∀ k, F k → w'.heap[k]? = w.heap[k]?) := fun o =>
    (kj_Trigger a _ (g.below ((Below.refl _ _).alloc (Nat.le_refl _) o)) (by omega)).mono fun e w' hh => ⟨hh.1, hh.2.1, fun k hk => (hh.2.2 k hk).trans (alloc_same o (g.lt hk))⟩
  clear g
  generalize trigH (machE cs) h a = T at *
  go_enter Tryz.func41, Tryz.ntmps41
  go_wp2_with fail
  refine (HC.out _).mono ?_
  rintro e w1 ⟨rfl, k1, p1⟩
  have HK : Hid (KJ B cs (m + 1) _ _ w0 H F w1 ∧ ∀ k, F k → w1.heap[k]? = w.heap[k]?) := ⟨k1, p1⟩
  clear k1 p1 HC
  go_wp2_with fail
  go_ret
  exact ⟨rfl, HK.out.1, HK.out.2⟩
set_option maxRecDepth 20000 in
set_option maxHeartbeats 4000000 in
theorem x_do_tick {B : Nat} {cs : List Ins} {m : Nat} {h : Her Pr} {J : List Nat} {w0 : World} {H : Nat} {F : Nat → Prop} (a b : Int) (w : World) (g : KJ B cs m h J w0 H F w) (hm : m ≤ 1500000) :
    Calls Tryz.prog 41 #[.pointer (some ⟨H, 0, none⟩), .agg #[.int .u8 75, .int .i64 a, .int .i64 b]] w (DoOutJ B cs m (tickH (machE cs) h a).2 (noteJ (tickH (machE cs) h a).1 J 75 a 0) w0 H F (tickH (machE cs) h a).1 w) := by
  have HF : Hid (∀ x, F x → x < w.heap.size) := fun x hx => g.lt hx
  have HC : Hid (∀ o, Calls Tryz.prog 17 #[.pointer (some ⟨H, 0, none⟩), .int .i64 a] (w.alloc o) fun e w' => e = .returned (.int .i64 (tickH (machE cs) h a).1) ∧ KJ B cs (m + 1) (tickH (machE cs) h a).2 (noteJ (tickH (machE cs) h a).1 J 75 a 0) w0 H F w' ∧ ∀ k, F k → w'.heap[k]? = w.heap[k]?) := fun o =>
    (kj_Tick a _ (g.below ((Below.refl _ _).alloc (Nat.le_refl _) o)) (by omega)).mono fun e w' hh => ⟨hh.1, hh.2.1, fun k hk => (hh.2.2 k hk).trans (alloc_same o (g.lt hk))⟩
  clear g
  generalize tickH (machE cs) h a = T at *
  go_enter Tryz.func41, Tryz.ntmps41
  go_wp2_with fail
  refine (HC.out _).mono ?_
  rintro e w1 ⟨rfl, k1, p1⟩
  have HK : Hid (KJ B cs (m + 1) _ _ w0 H F w1 ∧ ∀ k, F k → w1.heap[k]? = w.heap[k]?) := ⟨k1, p1⟩
  clear k1 p1 HC
  go_wp2_with fail
  go_ret
  exact ⟨rfl, HK.out.1, HK.out.2⟩
set_option maxRecDepth 20000 in
set_option maxHeartbeats 4000000 in
theorem x_do_ack {B : Nat} {cs : List Ins} {m : Nat} {h : Her Pr} {J : List Nat} {w0 : World} {H : Nat} {F : Nat → Prop} (a b : Int) (w : World) (g : KJ B cs m h J w0 H F w) (hm : m ≤ 1500000) :
    Calls Tryz.prog 41 #[.pointer (some ⟨H, 0, none⟩), .agg #[.int .u8 65, .int .i64 a, .int .i64 b]] w (DoOutJ B cs m (ackH (machE cs) h a b).2 (noteJ (ackH (machE cs) h a b).1 J 65 a b) w0 H F (ackH (machE cs) h a b).1 w) := by
  have HF : Hid (∀ x, F x → x < w.heap.size) := fun x hx => g.lt hx
  have HC : Hid (∀ o, Calls Tryz.prog 18 #[.pointer (some ⟨H, 0, none⟩), .int .i64 a, .int .i64 b] (w.alloc o) fun e w' => e = .returned (.int .i64 (ackH (machE cs) h a b).1) ∧ KJ B cs (m + 1) (ackH (machE cs) h a b).2 (noteJ (ackH (machE cs) h a b).1 J 65 a b) w0 H F w' ∧ ∀ k, F k → w'.heap[k]? = w.heap[k]?) := fun o =>
    (kj_Ack a b _ (g.below ((Below.refl _ _).alloc (Nat.le_refl _) o)) (by omega)).mono fun e w' hh => ⟨hh.1, hh.2.1, fun k hk => (hh.2.2 k hk).trans (alloc_same o (g.lt hk))⟩
  clear g
  generalize ackH (machE cs) h a b = T at *
  go_enter Tryz.func41, Tryz.ntmps41
  go_wp2_with fail
  refine (HC.out _).mono ?_
  rintro e w1 ⟨rfl, k1, p1⟩
  have HK : Hid (KJ B cs (m + 1) _ _ w0 H F w1 ∧ ∀ k, F k → w1.heap[k]? = w.heap[k]?) := ⟨k1, p1⟩
  clear k1 p1 HC
  go_wp2_with fail
  go_ret
  exact ⟨rfl, HK.out.1, HK.out.2⟩
set_option maxRecDepth 20000 in
set_option maxHeartbeats 4000000 in
theorem x_do_cancel {B : Nat} {cs : List Ins} {m : Nat} {h : Her Pr} {J : List Nat} {w0 : World} {H : Nat} {F : Nat → Prop} (a b : Int) (w : World) (g : KJ B cs m h J w0 H F w) (hm : m ≤ 1500000) :
    Calls Tryz.prog 41 #[.pointer (some ⟨H, 0, none⟩), .agg #[.int .u8 67, .int .i64 a, .int .i64 b]] w (DoOutJ B cs m (cancelH (machE cs) h a).2 (noteJ (cancelH (machE cs) h a).1 J 67 a 0) w0 H F (cancelH (machE cs) h a).1 w) := by
  have HF : Hid (∀ x, F x → x < w.heap.size) := fun x hx => g.lt hx
  have HC : Hid (∀ o, Calls Tryz.prog 19 #[.pointer (some ⟨H, 0, none⟩), .int .i64 a] (w.alloc o) fun e w' => e = .returned (.int .i64 (cancelH (machE cs) h a).1) ∧ KJ B cs (m + 1) (cancelH (machE cs) h a).2 (noteJ (cancelH (machE cs) h a).1 J 67 a 0) w0 H F w' ∧ ∀ k, F k → w'.heap[k]? = w.heap[k]?) := fun o =>
    (kj_Cancel a _ (g.below ((Below.refl _ _).alloc (Nat.le_refl _) o)) (by omega)).mono fun e w' hh => ⟨hh.1, hh.2.1, fun k hk => (hh.2.2 k hk).trans (alloc_same o (g.lt hk))⟩
  clear g
  generalize cancelH (machE cs) h a = T at *
  go_enter Tryz.func41, Tryz.ntmps41
  go_wp2_with fail
  refine (HC.out _).mono ?_
  rintro e w1 ⟨rfl, k1, p1⟩
  have HK : Hid (KJ B cs (m + 1) _ _ w0 H F w1 ∧ ∀ k, F k → w1.heap[k]? = w.heap[k]?) := ⟨k1, p1⟩
  clear k1 p1 HC
  go_wp2_with fail
  go_ret
  exact ⟨rfl, HK.out.1, HK.out.2⟩
set_option maxRecDepth 20000 in
set_option maxHeartbeats 4000000 in
theorem x_do_drain {B : Nat} {cs : List Ins} {m : Nat} {h : Her Pr} {J : List Nat} {w0 : World} {H : Nat} {F : Nat → Prop} (a b : Int) (w : World) (g : KJ B cs m h J w0 H F w) (hm : m ≤ 1500000) :
    Calls Tryz.prog 41 #[.pointer (some ⟨H, 0, none⟩), .agg #[.int .u8 68, .int .i64 a, .int .i64 b]] w (DoOutJ B cs m (drainH h a).2.2 (noteJ (drainH h a).2.1 J 68 a 0) w0 H F (drainH h a).2.1 w) := by
  have HF : Hid (∀ x, F x → x < w.heap.size) := fun x hx => g.lt hx
  have HC : Hid (∀ o, Calls Tryz.prog 20 #[.pointer (some ⟨H, 0, none⟩), .int .i64 a] (w.alloc o) fun e w' => e = .returned (.tuple #[.agg #[.int .i64 (drainH h a).1.dev, .int .i64 (drainH h a).1.run, .int .i64 (drainH h a).1.num, .int .i64 (drainH h a).1.key], .int .i64 (drainH h a).2.1]) ∧ KJ B cs (m + 1) (drainH h a).2.2 (noteJ (drainH h a).2.1 J 68 a 0) w0 H F w' ∧ ∀ k, F k → w'.heap[k]? = w.heap[k]?) := fun o =>
    (kj_Drain a _ (g.below ((Below.refl _ _).alloc (Nat.le_refl _) o)) (by omega)).mono fun e w' hh => ⟨hh.1, hh.2.1, fun k hk => (hh.2.2 k hk).trans (alloc_same o (g.lt hk))⟩
  clear g
  generalize drainH h a = T at *
  go_enter Tryz.func41, Tryz.ntmps41
  go_wp2_with fail
  refine (HC.out _).mono ?_
  rintro e w1 ⟨rfl, k1, p1⟩
  have HK : Hid (KJ B cs (m + 1) _ _ w0 H F w1 ∧ ∀ k, F k → w1.heap[k]? = w.heap[k]?) := ⟨k1, p1⟩
  clear k1 p1 HC
  go_wp2_with fail
  go_ret
  exact ⟨rfl, HK.out.1.below ((Below.refl _ _).alloc (Nat.le_refl _) _), fun k hk => (alloc_same _ (HK.out.1.lt hk)).trans (HK.out.2 k hk)⟩
/-- A record's call is made again. -/
theorem x_do {B : Nat} {cs : List Ins} {m : Nat} {h : Her Pr} {J : List Nat} {w0 : World} {H : Nat} {F : Nat → Prop} (c : Nat) (a b : Int) (hc : isC c b = true) (w : World) (g : KJ B cs m h J w0 H F w) (hm : m ≤ 1500000) :
    Calls Tryz.prog 41 #[.pointer (some ⟨H, 0, none⟩), .agg #[.int .u8 (c : Nat), .int .i64 a, .int .i64 b]] w (DoOutJ B cs m (playH cs h (kindOf c) a b).2 (playJ cs h J (kindOf c) a b) w0 H F (playH cs h (kindOf c) a b).1.2.2 w) := by
  unfold isC at hc
  by_cases h1 : c = 84
  · subst h1
    exact x_do_trigger a b w g hm
  by_cases h2 : c = 75
  · subst h2
    exact x_do_tick a b w g hm
  by_cases h3 : c = 65
  · subst h3
    exact x_do_ack a b w g hm
  by_cases h4 : c = 67
  · subst h4
    exact x_do_cancel a b w g hm
  by_cases h5 : c = 68
  · subst h5
    exact x_do_drain a b w g hm
  · rw [if_neg (by omega)] at hc
    simp at hc
    omega
end Go.Proofs.YtmmmnghiegajmabGreat
/- A record is done again; a journal is opened. -/
namespace Go.Proofs.YtmmmnghiegajmabGreat
open Go.RowKit Go.Proofs.Herald
set_option maxRecDepth 20000 in
set_option maxHeartbeats 4000000 in
theorem x_redo_no {B : Nat} {cs : List Ins} {m : Nat} {h : Her Pr} {J : List Nat} {w0 : World} {H : Nat} {F : Nat → Prop} (L : List Nat) (hL : ∀ x ∈ L, x < 256) (hl : L.length = 19) (hr : readB L = none) (w : World) (g : KJ B cs m h J w0 H F w) :
    Calls Tryz.prog 21 #[.pointer (some ⟨H, 0, none⟩), .string (strN L)] w fun e w' => e = .returned (.bool false) ∧ KJ B cs m h J w0 H F w' ∧ ∀ k, F k → w'.heap[k]? = w.heap[k]? := by
  have HF : Hid (KJ B cs m h J w0 H F w) := g
  have HR : Hid (Calls Tryz.prog 40 #[.string (strN L)] w fun e w' => e = .returned (.tuple #[.agg #[.int .u8 0, .int .i64 0, .int .i64 0], .bool false]) ∧ Below w.heap.size w w') := by
    have := x_Read L hL hl w
    rw [hr] at this
    exact this
  clear g hL hl hr
  generalize strN L = S at *
  go_enter Tryz.func21, Tryz.ntmps21
  go_wp2_with fail
  refine HR.out.mono ?_
  rintro e w1 ⟨rfl, b1⟩
  have HB : Hid (Below w.heap.size w w1) := b1
  clear b1 HR
  go_wp2_with fail
  go_ret
  have hb : Below w.heap.size w (w1.alloc (.cells #[.int .u8 0, .int .i64 0, .int .i64 0] 89)) := HB.out.alloc HB.out.size _
  exact ⟨rfl, HF.out.below hb, fun k hk => hb.block k (HF.out.lt hk)⟩
set_option maxRecDepth 20000 in
set_option maxHeartbeats 4000000 in
theorem x_redo_yes {B : Nat} {cs : List Ins} {m : Nat} {h : Her Pr} {J : List Nat} {w0 : World} {H : Nat} {F : Nat → Prop} (L : List Nat) (hL : ∀ x ∈ L, x < 256) (hl : L.length = 19) (c : Nat) (a b : Int) (hr : readB L = some (c, a, b)) (w : World) (g : KJ B cs m h J w0 H F w) (hm : m ≤ 1500000) :
    Calls Tryz.prog 21 #[.pointer (some ⟨H, 0, none⟩), .string (strN L)] w fun e w' => e = .returned (.bool ((playH cs h (kindOf c) a b).1.2.2 == 0)) ∧ KJ B cs (m + 1) (playH cs h (kindOf c) a b).2 (playJ cs h J (kindOf c) a b) w0 H F w' ∧ ∀ k, F k → w'.heap[k]? = w.heap[k]? := by
  have HF : Hid (KJ B cs m h J w0 H F w) := g
  have HR : Hid (Calls Tryz.prog 40 #[.string (strN L)] w fun e w' => e = .returned (.tuple #[.agg #[.int .u8 (c : Nat), .int .i64 a, .int .i64 b], .bool true]) ∧ Below w.heap.size w w') := by
    have := x_Read L hL hl w
    rw [hr] at this
    exact this
  have HD : Hid (∀ W, Below w.heap.size w W → Calls Tryz.prog 41 #[.pointer (some ⟨H, 0, none⟩), .agg #[.int .u8 (c : Nat), .int .i64 a, .int .i64 b]] W fun e w' => e = .returned (.int .i64 (playH cs h (kindOf c) a b).1.2.2) ∧ KJ B cs (m + 1) (playH cs h (kindOf c) a b).2 (playJ cs h J (kindOf c) a b) w0 H F w' ∧ ∀ k, F k → w'.heap[k]? = w.heap[k]?) := fun W hb =>
    (x_do c a b (readB_some hr).2 W (g.below hb) hm).mono fun e w' hh => ⟨hh.1, hh.2.1, fun k hk => (hh.2.2 k hk).trans (hb.block k (g.lt hk))⟩
  clear g hL hl hr
  generalize strN L = S at *
  generalize playH cs h (kindOf c) a b = P at *
  generalize playJ cs h J (kindOf c) a b = J' at *
  go_enter Tryz.func21, Tryz.ntmps21
  go_wp2_with fail
  refine HR.out.mono ?_
  rintro e w1 ⟨rfl, b1⟩
  have HB : Hid (Below w.heap.size w (w1.alloc (.cells #[.int .u8 (c : Nat), .int .i64 a, .int .i64 b] 89))) := b1.alloc b1.size _
  clear b1 HR
  go_wp2_with fail
  refine (HD.out _ HB.out).mono ?_
  rintro e w2 ⟨rfl, k2, p2⟩
  have HK : Hid (KJ B cs (m + 1) P.2 J' w0 H F w2 ∧ ∀ k, F k → w2.heap[k]? = w.heap[k]?) := ⟨k2, p2⟩
  clear k2 p2 HD HB
  go_wp2_with fail
  go_ret
  exact ⟨rfl, HK.out.1, HK.out.2⟩
/-- Records are done again, one by one: the herald, its journal, how many. -/
def openS (cs : List Ins) : List (List Nat) → Her Pr → List Nat → Nat → Her Pr × List Nat × Nat
  | [], h, J, n => (h, J, n)
  | L :: rest, h, J, n => match readB L with
    | none => (h, J, n)
    | some (c, a, b) => if (playH cs h (kindOf c) a b).1.2.2 = 0 then openS cs rest (playH cs h (kindOf c) a b).2 (playJ cs h J (kindOf c) a b) (n + 1) else ((playH cs h (kindOf c) a b).2, playJ cs h J (kindOf c) a b, n)
/-- The whole records of bytes. -/
def chunk (L : List Nat) (i : Nat) : List Nat := (L.drop (i * 19)).take 19
def chunks (L : List Nat) (i : Nat) : Nat → List (List Nat)
  | 0 => []
  | n + 1 => chunk L i :: chunks L (i + 1) n
theorem chunk_len {L : List Nat} {i : Nat} (h : i * 19 + 19 ≤ L.length) : (chunk L i).length = 19 := by
  unfold chunk
  rw [List.length_take, List.length_drop]
  omega
set_option maxRecDepth 20000 in
set_option maxHeartbeats 8000000 in
theorem x_OpenN {cs : List Ins} {ca : Option Addr} {ccap : Nat} (L : List Nat) (hL : ∀ x ∈ L, x < 256) (hl : L.length ≤ 20000000) (w w0 : World) (F : Nat → Prop) (hN0 : Calls Tryz.prog 10 #[.slice ca cs.length ccap] w fun e w' => ∃ H v, e = .returned (.tuple #[.pointer (some ⟨H, 0, none⟩), .int .i64 0]) ∧ w.heap.size ≤ H ∧ w'.heap[H]? = some (.cells (newHd v) 75 (0, 0)) ∧ w'.ownsRow w.heap.size 117 4 v cs.length (codeCells cs) ∧ Below w.heap.size w w') (hs : soundL cs = true) (hF : ∀ k, F k → k < w.heap.size) (hb0 : Below w0.heap.size w0 w) :
    Calls Tryz.prog 9 #[.slice ca cs.length ccap, .string (strN L)] w fun e w' => ∃ (H : Nat) (m : Nat), e = .returned (.tuple #[.pointer (some ⟨H, 0, none⟩), .int .i64 ((openS cs (chunks L 0 (L.length / 19)) newH [] 0).2.2 : Nat), .int .i64 0]) ∧ m ≤ L.length / 19 ∧ KJ w0.heap.size cs m (openS cs (chunks L 0 (L.length / 19)) newH [] 0).1 (openS cs (chunks L 0 (L.length / 19)) newH [] 0).2.1 w0 H F w' ∧ ∀ k, F k → w'.heap[k]? = w.heap[k]? := by
  have hz : (strN L).size = L.length := strN_size L
  have HN := (show Hid _ from hN0 : Hid (Calls Tryz.prog 10 #[.slice ca cs.length ccap] w _))
  have HX : Hid ((∀ x ∈ L, x < 256) ∧ soundL cs = true ∧ (∀ k, F k → k < w.heap.size) ∧ Below w0.heap.size w0 w) := ⟨hL, hs, hF, hb0⟩
  obtain ⟨N, hN⟩ : ∃ N, N = L.length / 19 := ⟨_, rfl⟩
  rw [← hN]
  generalize hRR : openS cs (chunks L 0 N) newH [] 0 = R
  have HRE : Hid (openS cs (chunks L 0 N) newH [] 0 = R) := hRR
  clear hN0 hL hs hF hb0 hRR
  go_enter Tryz.func9, Tryz.ntmps9
  go_wp2_with fail
  refine HN.out.mono ?_
  rintro e w1 ⟨H, v, rfl, hH, hHb, hvo, b1⟩
  have HK1 : Hid (KJ w0.heap.size cs 0 newH [] w0 H F w1 ∧ ∀ k, F k → w1.heap[k]? = w.heap[k]?) := by
    obtain ⟨_, q2, q3, q4⟩ := HX.out
    refine ⟨⟨0, _, Nat.le_refl _, GJ.new q2 hHb (own0 hvo), fun k hk => ?_, fun k hk => by have := q3 k hk; have := b1.size; omega, q4.trans (b1.mono q4.size), by have := q4.size; have := b1.size; omega⟩, fun k hk => b1.block k (q3 k hk)⟩
    have hge : w.heap.size ≤ k := by
      rcases hk with hk | hk | hk
      · rcases hk with rfl | ⟨d, hd⟩ | hk
        · exact hH
        · simp [Value.ownBlock] at hd
        · simp [Value.ownBlock] at hk
      · simp [Value.ownBlock] at hk
      · exact (hvo.lt k hk).1
    exact ⟨by have := q4.size; omega, fun hf => by have := q3 k hf; omega⟩
  clear hH hHb hvo b1 HN
  go_wp2_with fail
  go_loopw [9, 10] (fun mv sv wr => ∃ (k : Nat) (h : Her Pr) (J : List Nat), k ≤ N ∧ mv = .int .i64 (k : Nat) ∧ sv = .int .i64 ((k * 19 : Nat) : Int) ∧ Hid (openS cs (chunks L k (N - k)) h J k = R ∧ KJ w0.heap.size cs k h J w0 H F wr ∧ ∀ k, F k → wr.heap[k]? = w.heap[k]?)) (fun mv _ _ => N - (intOf mv).toNat)
  case atStart => exact ⟨0, newH, [], Nat.zero_le _, rfl, rfl, HRE.out, HK1.out.1, HK1.out.2⟩
  case round =>
    clear HK1
    obtain ⟨k, h, J, hk, rfl, rfl, HI⟩ := hrel
    by_cases hlt : k < N
    · have hc1 : k * 19 + 19 ≤ L.length := by omega
      obtain ⟨n', hn'⟩ : ∃ n', N - k = n' + 1 := ⟨N - k - 1, by omega⟩
      have hn2 : N - (k + 1) = n' := by omega
      have hcl : (chunk L k).length = 19 := chunk_len hc1
      have hcb : ∀ x ∈ chunk L k, x < 256 := sub_lt HX.out.1 (k * 19) 19
      have HEX : Hid ((strN L).extract (k * 19) (k * 19 + 19) = strN (chunk L k)) := by
        show _ = _
        rw [strN_extract, show k * 19 + 19 - k * 19 = 19 by omega]
        rfl
      have HST : Hid (openS cs (chunk L k :: chunks L (k + 1) n') h J k = R) := by
        have := HI.out.1
        rw [hn'] at this
        exact this
      cases hr : readB (chunk L k) with
      | none =>
        have HC := (show Hid _ from x_redo_no (chunk L k) hcb hcl hr wr HI.out.2.1 : Hid (Calls Tryz.prog 21 #[.pointer (some ⟨H, 0, none⟩), .string (strN (chunk L k))] wr _))
        rw [← HEX.out] at HC
        have HRR : Hid (R = (h, J, k)) := by
          have := HST.out
          unfold openS at this
          rw [hr] at this
          exact this.symm
        clear hr hcb hcl hn' hn2
        go_wp2_with fail
        refine HC.out.mono ?_
        rintro e w2 ⟨rfl, k2, p2⟩
        have HK2 : Hid (KJ w0.heap.size cs k h J w0 H F w2 ∧ ∀ k, F k → w2.heap[k]? = w.heap[k]?) := ⟨k2, fun x hx => (p2 x hx).trans (HI.out.2.2 x hx)⟩
        clear k2 p2 HC
        go_wp2_with fail
        go_ret3
        rw [HRR.out]
        exact ⟨H, k, rfl, hk, HK2.out.1, HK2.out.2⟩
      | some q =>
        obtain ⟨c, a, b⟩ := q
        have HC := (show Hid _ from x_redo_yes (chunk L k) hcb hcl c a b hr wr HI.out.2.1 (by omega) : Hid (Calls Tryz.prog 21 #[.pointer (some ⟨H, 0, none⟩), .string (strN (chunk L k))] wr _))
        rw [← HEX.out] at HC
        have HRR : Hid ((if (playH cs h (kindOf c) a b).1.2.2 = 0 then openS cs (chunks L (k + 1) n') (playH cs h (kindOf c) a b).2 (playJ cs h J (kindOf c) a b) (k + 1) else ((playH cs h (kindOf c) a b).2, playJ cs h J (kindOf c) a b, k)) = R) := by
          have := HST.out
          unfold openS at this
          rw [hr] at this
          exact this
        generalize playH cs h (kindOf c) a b = P at *
        generalize playJ cs h J (kindOf c) a b = J' at *
        clear hr hcb hcl hn'
        by_cases he : P.1.2.2 = 0
        · have be : (P.1.2.2 == 0) = true := by simpa using he
          have HR2 : Hid (openS cs (chunks L (k + 1) (N - (k + 1))) P.2 J' (k + 1) = R) := by
            have := HRR.out
            rw [if_pos he] at this
            rw [hn2]
            exact this
          rw [be] at HC
          clear he hn2
          go_wp2_with fail
          refine HC.out.mono ?_
          rintro e w2 ⟨rfl, k2, p2⟩
          have HK2 : Hid (KJ w0.heap.size cs (k + 1) P.2 J' w0 H F w2 ∧ ∀ k, F k → w2.heap[k]? = w.heap[k]?) := ⟨k2, fun x hx => (p2 x hx).trans (HI.out.2.2 x hx)⟩
          clear k2 p2 HC
          go_wp2_with fail
          go_roundw
          case rel => exact ⟨k + 1, P.2, J', by omega, by go_num, by go_num, HR2.out, HK2.out.1, HK2.out.2⟩
          case measure => simp [intOf]; omega
        · have be : (P.1.2.2 == 0) = false := by simpa using he
          have HR2 : Hid (R = (P.2, J', k)) := by
            have := HRR.out
            rw [if_neg he] at this
            exact this.symm
          rw [be] at HC
          clear he hn2
          go_wp2_with fail
          refine HC.out.mono ?_
          rintro e w2 ⟨rfl, k2, p2⟩
          have HK2 : Hid (KJ w0.heap.size cs (k + 1) P.2 J' w0 H F w2 ∧ ∀ k, F k → w2.heap[k]? = w.heap[k]?) := ⟨k2, fun x hx => (p2 x hx).trans (HI.out.2.2 x hx)⟩
          clear k2 p2 HC
          go_wp2_with fail
          go_ret3
          rw [HR2.out]
          exact ⟨H, k + 1, rfl, hlt, HK2.out.1, HK2.out.2⟩
    · have HRR : Hid (R = (h, J, k)) := by
        have := HI.out.1
        rw [show N - k = 0 by omega] at this
        exact this.symm
      have hc1 : L.length < k * 19 + 19 := by omega
      go_wp2_with fail
      go_ret3
      rw [HRR.out]
      exact ⟨H, k, rfl, hk, HI.out.2.1, HI.out.2.2⟩
theorem x_Open {cs : List Ins} {B : Nat} {ca : Option Addr} {ccap : Nat} (L : List Nat) (hL : ∀ x ∈ L, x < 256) (hl : L.length ≤ 20000000) (w w0 : World) (F : Nat → Prop) (hrow : w.ownsRow B 117 4 (.slice ca cs.length ccap) cs.length (codeCells cs)) (hs : soundL cs = true) (hF : ∀ k, F k → k < w.heap.size) (hb0 : Below w0.heap.size w0 w) :
    Calls Tryz.prog 9 #[.slice ca cs.length ccap, .string (strN L)] w fun e w' => ∃ (H : Nat) (m : Nat), e = .returned (.tuple #[.pointer (some ⟨H, 0, none⟩), .int .i64 ((openS cs (chunks L 0 (L.length / 19)) newH [] 0).2.2 : Nat), .int .i64 0]) ∧ m ≤ L.length / 19 ∧ KJ w0.heap.size cs m (openS cs (chunks L 0 (L.length / 19)) newH [] 0).1 (openS cs (chunks L 0 (L.length / 19)) newH [] 0).2.1 w0 H F w' ∧ ∀ k, F k → w'.heap[k]? = w.heap[k]? :=
  x_OpenN L hL hl w w0 F (c_New_any hrow hs) hs hF hb0
end Go.Proofs.YtmmmnghiegajmabGreat
/- The check finds damage within sixteen bits: plain mathematics of Torn. -/
namespace Go.Proofs.Herald
theorem recB_lt {c : Nat} (hc : c < 256) (a b : Int) : ∀ x ∈ recB c a b, x < 256 := fun x hx => by
  rcases List.mem_append.mp hx with h1 | h1
  · exact bodyB_lt hc a b x h1
  · have := crcL_lt (bodyB c a b) (r := 65535) (by decide) (bodyB_lt hc a b)
    have e : crcL (bodyB c a b) = (bodyB c a b).foldl crcByte 65535 := rfl
    rw [← e] at this
    simp at h1
    omega
end Go.Proofs.Herald
