/- What the document's own Longest answers. -/
import Derived.Test.YtiaibigmbflpiaaRefL
import Derived.Test.YtiaibigmbflpiaaRefK
import Derived.Test.YtiaibigmbflpiaaPureQ
import Derived.OwnWalk
namespace Go.Proofs.Ytiaibigmbflpiaa
open Go.RowKit Go.Proofs.Herald

set_option maxHeartbeats 400000 in
theorem deep_none (a : Option Addr) (cap : Nat) (w : World) :
    Calls Try.prog 44 #[.slice a 0 cap] w fun e w' => e = .returned (.int .i64 (-1)) ∧ w' = w := by
  go_enter Try.func44, Try.ntmps44
  go_wp2
  go_loop [3, 4] (fun n i => n = .int .i64 0 ∧ i = .int .i64 0) (fun _ _ => 0)
  case atStart => exact ⟨rfl, rfl⟩
  case round =>
    obtain ⟨rfl, rfl⟩ := hrel
    go_wp2
    go_ret
    exact ⟨rfl, rfl⟩

theorem deep_all (t : ByteArray) (a : Option Addr) (b off cap n : Nat) (ws : List (Nat × Nat)) (w : World) (hn : n = ws.length) (hlen : ws.length ≤ 400) (hw : 0 < ws.length → a = some ⟨b, off, none⟩ ∧ WordsAt t w b off ws) :
    Calls Try.prog 44 #[.slice a n cap] w fun e w' => e = .returned (.int .i64 (deepL t ws 0)) ∧ w' = w := by
  subst hn
  cases hc : ws with
  | nil => exact deep_none a cap w
  | cons p r =>
    rw [← hc]
    obtain ⟨rfl, h⟩ := hw (by rw [hc]; simp)
    exact deep_any t b off cap ws w hlen h

set_option maxHeartbeats 1000000 in
theorem refLongest_long (t : ByteArray) (ht : 400 < t.size) (w : World) :
    Calls Try.prog 13 #[.string t] w fun e w' => e = .returned (.tuple #[.int .i64 0, .int .i64 1, .int .i64 0]) ∧ w' = w := by
  go_enter Try.func13, Try.ntmps13
  go_wp2_with fail
  go_ret3
  exact ⟨rfl, rfl⟩

set_option maxHeartbeats 2000000 in
theorem refLongest (t : ByteArray) (ht : t.size ≤ 400) (r : Int × Int × Int) (hr : RefAns t r) (w : World) :
    Calls Try.prog 13 #[.string t] w fun e w' => e = .returned (.tuple #[.int .i64 r.1, .int .i64 r.2.1, .int .i64 r.2.2]) ∧ Below w.heap.size w w' := by
  have hwl : (wordsL t.data.toList).length ≤ 400 := by
    have h2 := wordsL_length t.data.toList
    have h3 : t.data.toList.length = t.size := by simp
    omega
  rcases hr with ⟨f, p, hf, hne, rfl⟩ | ⟨p, hf, hd, hp, rfl⟩ | ⟨tr, hf, hd, hgt, hgood, hsz, hr⟩
  · have HF : Hid (∀ W : World, Calls Try.prog 42 #[.string t] W fun e w' => e = .returned (.tuple #[.int .i64 f, .int .i64 p]) ∧ Below W.heap.size W w') := fun W => by
      have := formed_any t W ht
      rw [hf] at this
      exact this
    have e0 : (f == 0) = false := by simpa using hne
    have e1 : (f != 0) = true := by simpa using hne
    clear hf hne hwl
    go_enter Try.func13, Try.ntmps13
    go_wp2_with fail
    refine (HF.out _).mono ?_
    rintro e w1 ⟨rfl, hb1⟩
    go_wp2_with fail
    go_ret3
    exact ⟨rfl, hb1⟩
  · have HF : Hid (∀ W : World, Calls Try.prog 42 #[.string t] W fun e w' => e = .returned (.tuple #[.int .i64 0, .int .i64 0]) ∧ Below W.heap.size W w') := fun W => by
      have := formed_any t W ht
      rw [hf] at this
      exact this
    have HD : Hid (deepL t (wordsL t.data.toList) 0 = p) := hd
    clear hf hd
    go_enter Try.func13, Try.ntmps13
    go_wp2_with fail
    refine (HF.out _).mono ?_
    rintro e w1 ⟨rfl, hb1⟩
    go_wp2_with fail
    refine (Words_at t _ ht).mono ?_
    rintro e w2 ⟨a, cap, L, rfl, hcap, hws, hb2⟩
    generalize wordsL t.data.toList = ws at *
    have HDE : Hid (Calls Try.prog 44 #[.slice a ws.length cap] w2 fun e w' => e = .returned (.int .i64 p) ∧ w' = w2) := by
      have := deep_all t a L 0 cap ws.length ws w2 rfl hwl (fun h => ⟨(hws h).1, (hws h).2.2.2⟩)
      rw [HD.out] at this
      exact this
    have HB : Hid (Below w.heap.size w w2) := hb1.trans (hb2.mono hb1.size)
    clear hws hb1 hb2 hwl hcap HD
    go_wp2_with (go_at_call 44; refine HDE.out.mono ?_; rintro e w' ⟨rfl, rfl⟩)
    go_ret3
    exact ⟨rfl, HB.out⟩
  · have HF : Hid (∀ W : World, Calls Try.prog 42 #[.string t] W fun e w' => e = .returned (.tuple #[.int .i64 0, .int .i64 0]) ∧ Below W.heap.size W w') := fun W => by
      have := formed_any t W ht
      rw [hf] at this
      exact this
    have HD : Hid (deepL t (wordsL t.data.toList) 0 = -1) := hd
    have HG : Hid (GT t 5 (wordsL t.data.toList) tr) := hgt
    have HOK : Hid (OkT t 5 tr ∧ GoodT t 5 tr) := ⟨GoodT.ok 5 tr hgood, hgood⟩
    clear hf hd hgt hgood
    go_enter Try.func13, Try.ntmps13
    go_wp2_with fail
    refine (HF.out _).mono ?_
    rintro e w1 ⟨rfl, hb1⟩
    go_wp2_with fail
    refine (Words_at t _ ht).mono ?_
    rintro e w2 ⟨a, cap, L, rfl, hcap, hws, hb2⟩
    generalize wordsL t.data.toList = ws at *
    have HDE : Hid (Calls Try.prog 44 #[.slice a ws.length cap] w2 fun e w' => e = .returned (.int .i64 (-1)) ∧ w' = w2) := by
      have := deep_all t a L 0 cap ws.length ws w2 rfl hwl (fun h => ⟨(hws h).1, (hws h).2.2.2⟩)
      rw [HD.out] at this
      exact this
    have HBL : Hid (Calls Try.prog 45 #[.slice a ws.length cap] w2 fun e w' => ∃ aa na ca, e = .returned (.slice aa na ca) ∧ TreeAt t w' (fun k => w2.heap.size ≤ k) 5 (.slice aa na ca) tr ∧ Below w2.heap.size w2 w') :=
      Block_any t ht 5 ws tr a L 0 cap ws.length w2 rfl HG.out hwl hcap (fun h => ⟨(hws h).1, (hws h).2.2.1, (hws h).2.2.2⟩)
    have HB : Hid (Below w.heap.size w w2) := hb1.trans (hb2.mono hb1.size)
    clear hws hb1 hb2 hwl hcap HD
    go_wp2_with (go_at_call 44; refine HDE.out.mono ?_; rintro e w' ⟨rfl, rfl⟩)
    refine HBL.out.mono ?_
    rintro e w3 ⟨aa, na, ca, rfl, htr, hb3⟩
    have HH : Hid (Calls Try.prog 46 #[.slice aa na ca, .int .i64 1] w3 fun e w' => e = .returned (.int .i64 (heavyT t 5 tr 1)) ∧ w' = w3) := heavy_any t 5 _ tr 1 _ w3 htr HOK.out.1 hsz (by omega) (by omega)
    have HL : Hid (Calls Try.prog 47 #[.slice aa na ca] w3 fun e w' => e = .returned (.tuple #[.int .i64 (lastsT t 5 tr).1, .int .i64 (lastsT t 5 tr).2]) ∧ Below w3.heap.size w3 w') := Lasts_any t 5 _ tr _ w3 htr HOK.out.1 hsz (by omega)
    have HB3 : Hid (Below w.heap.size w w3) := HB.out.trans (hb3.mono HB.out.size)
    clear htr hb3 HDE HBL HB
    generalize (lastsT t 5 tr).1 = A at *
    generalize (lastsT t 5 tr).2 = C at *
    generalize heavyT t 5 tr 1 = P at *
    rcases hr with ⟨p, rfl, hp, rfl⟩ | ⟨rfl, hl, rfl⟩ | ⟨rfl, hl, rfl⟩
    · go_wp2_with (go_at_call 46; refine HH.out.mono ?_; rintro e w' ⟨rfl, rfl⟩)
      go_ret3
      exact ⟨rfl, HB3.out⟩
    · go_wp2_with (go_at_call 46; refine HH.out.mono ?_; rintro e w' ⟨rfl, rfl⟩)
      refine HL.out.mono ?_
      rintro e w4 ⟨rfl, hb4⟩
      have HB4 : Hid (Below w.heap.size w w4) := HB3.out.trans (hb4.mono HB3.out.size)
      clear hb4
      go_wp2_with (go_at_call 48; refine (greater_any _ _ _).mono ?_; rintro e w' ⟨rfl, rfl⟩)
      go_ret3
      exact ⟨rfl, HB4.out⟩
    · go_wp2_with (go_at_call 46; refine HH.out.mono ?_; rintro e w' ⟨rfl, rfl⟩)
      refine HL.out.mono ?_
      rintro e w4 ⟨rfl, hb4⟩
      have HB4 : Hid (Below w.heap.size w w4) := HB3.out.trans (hb4.mono HB3.out.size)
      clear hb4
      go_wp2_with (go_at_call 48; refine (greater_any _ _ _).mono ?_; rintro e w' ⟨rfl, rfl⟩)
      go_ret3
      exact ⟨rfl, HB4.out⟩

end Go.Proofs.Ytiaibigmbflpiaa
