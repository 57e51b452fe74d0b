/- The document's own herald: Cancel, Ack. -/
import Derived.Test.YtmmmnghiegajmaaSimB
import Derived.Test.YtmmmnghiegajmaaHerB
namespace Go.Proofs.Ytmmmnghiegajmaa
open Go.RowKit Go.Proofs.Herald

theorem relL_mem {A B : Type} {ρ : A → B → Prop} {a : A} : ∀ {l : List A} {m : List B}, relL ρ l m → a ∈ l → ∃ b ∈ m, ρ a b
  | [], _, _, ha => by cases ha
  | x :: l, y :: m, h, ha => by
    rcases List.mem_cons.mp ha with rfl | ha
    · exact ⟨y, List.mem_cons_self .., h.1⟩
    · obtain ⟨b, hb, hr⟩ := relL_mem h.2 ha
      exact ⟨b, List.mem_cons_of_mem _ hb, hr⟩
  | _ :: _, [], h, _ => h.elim

def recAfter (rec : ByteArray) (e c a b : Int) : ByteArray := if e = 0 then rec ++ recS c a b else rec

set_option maxHeartbeats 1000000 in
theorem sim_cancel {RT : Type} {M : Mode RT} {G : RT → Prop} (hM : ModeOk M) (S Q : Nat) (rec : ByteArray) (h : Her RT) (pv : Value) (qv : Nat → Value) (rs : List Rs) (id C : Int) (w : World) (H : SimH M w S Q rec h pv qv rs) (hI : HOk M.E G C h) (hr : rec.size ≤ 1000000000000) :
    Calls Try.prog 93 #[.pointer (some ⟨S, 0, none⟩), .int .i64 id] w fun e w' => e = .returned (.int .i64 (cancelH M.E h id).1) ∧ SimOut M w S Q pv qv rs (recAfter rec (cancelH M.E h id).1 67 id 0) (cancelH M.E h id).2 w' := by
  have hlen : rs.length ≤ 5 := by rw [relL_len H.rel]; exact hI.len
  have hidl : (idsOf rs).length ≤ 1000 := by unfold idsOf; rw [List.length_map]; omega
  have c5 : w.cell? ⟨S, 5, none⟩ = some pv := (cell_of_heap H.at'.sB).trans rfl
  have HFI : Hid (Calls Try.prog 126 #[.pointer (some ⟨S, 0, none⟩), .int .i64 id] w fun e w' => e = .returned (ptrOf ((idsOf rs).find? fun x => x.2 == id)) ∧ SameH w w') := s_find S pv (idsOf rs) id w c5 H.at'.procs hidl
  have HH : Hid (SimH M w S Q rec h pv qv rs) := H
  rcases find_link hM id H.rel with ⟨f1, f2⟩ | ⟨x, r, hx, hrm, f1, f2, hlk, hid⟩
  · have HE : Hid (cancelH M.E h id = (10, h)) := by show _ = _; unfold cancelH; rw [f2]
    rw [f1] at HFI
    clear f1 f2 c5 H hI
    rw [HE.out]
    go_enter Try.func93, Try.ntmps93
    go_wp2_with fail
    refine HFI.out.mono ?_
    rintro e w1 ⟨rfl, hs1⟩
    have HS1 : Hid (SameH w w1) := hs1
    clear hs1
    have hp : ptrOf none = .pointer none := rfl
    rw [hp]
    go_wp2_with fail
    go_ret
    exact ⟨rfl, SimOut.same HH.out HS1.out fun x r hl => hM.keep w w1 x r hl fun k _ _ => by rw [HS1.out.heap]⟩
  · have hpub := hM.pub w x r hlk
    have hdev := hI.dev r hrm
    rw [hpub] at hdev
    obtain ⟨d, hdd⟩ : ∃ d : Nat, x.p.dev = (d : Nat) := ⟨x.p.dev.toNat, by have := hdev.1; simp only [pubP] at this; omega⟩
    have hd3 : d < 3 := by have := hdev.2; simp only [pubP] at this; omega
    have hq4 := hI.qlen d
    have HE : Hid (cancelH M.E h id = (0, { h with qs := updQ h.qs d (takeQ (h.qs d) x.p.id 0), rs := afterR M.E h.rs r true })) := by
      show _ = _
      unfold cancelH
      rw [f2]
      simp only
      rw [hpub]
      have e1 : (pubP x.p).dev.toNat = d := by simp only [pubP]; omega
      rw [e1, ← hid]
      have e2 : afterR M.E h.rs r true = h.rs.filter (fun y => (M.E.pub y).id != x.p.id) := by unfold afterR; rw [hpub]; rfl
      rw [e2]
    rw [f1] at HFI
    have HX : Hid (x ∈ rs ∧ (M.E.pub r).id = x.p.id) := ⟨hx, by rw [hpub]; rfl⟩
    clear f1 f2 c5 H hI hx hrm hlk hpub hdev
    rw [HE.out]
    go_enter Try.func93, Try.ntmps93
    go_wp2_with fail
    refine HFI.out.mono ?_
    rintro e w1 ⟨rfl, hs1⟩
    have HS1 : Hid (SameH w w1) := hs1
    clear hs1
    have hp : ptrOf (some (x.P, x.p.id)) = .pointer (some ⟨x.P, 0, none⟩) := rfl
    rw [hp]
    have HC1 : Hid (SimCore w1 S Q x.P x.R (M.s.md x.yv x.nv) pv rec h.now h.last qv h.qs x.p) := (HH.out.at'.core HX.out.1).keep fun k _ => by rw [HS1.out.heap]
    go_wp2_with fail
    refine (s_take S Q x.P x.R _ pv rec h.now h.last qv h.qs x.p 0 d w1 HC1.out hd3 hdd hq4).mono ?_
    rintro e w2 ⟨rfl, v, hC2, hv2, hf2⟩
    have HP2 : Hid (ProcsAt w2 pv (idsOf rs)) := by
      have hp1 : ProcsAt w1 pv (idsOf rs) := ⟨own_keep HH.out.at'.procs.own fun b _ => by rw [HS1.out.heap], fun y hy => by rw [HS1.out.heap]; exact HH.out.at'.procs.ids y hy⟩
      exact hp1.after HC1.out hC2 rfl hd3 (hf2.mono fun k _ hk => .inr (.inl hk))
    have H2 : Hid (SimCore w2 S Q x.P x.R (M.s.md x.yv x.nv) pv rec h.now h.last (upd qv d v) (upd h.qs d (takeQ (h.qs d) x.p.id 0)) x.p ∧ (∀ b, v.ownBlock = some b → w1.heap.size ≤ b) ∧ Fr (fun k => k = Q) w1 w2) := ⟨hC2, hv2, hf2⟩
    clear hC2 hv2 hf2
    go_wp2_with fail
    refine (s_ended S Q x.P x.R _ pv rec h.now h.last _ _ x.p (idsOf rs) w2 H2.out.1 HP2.out hidl).mono ?_
    rintro e w3 ⟨rfl, pv', hC3, ho3, hn3, hf3⟩
    have H3 : Hid (RunOut w w3 S Q M.s pv rec h.now h.last qv h.qs (idsOf rs) x d (takeQ (h.qs d) x.p.id 0) x true v pv') := by
      have hs := HS1.out
      have hz1 : w1.heap.size = w.heap.size := by rw [hs.heap]
      have hz2 := H2.out.2.2.size
      refine ⟨hC3, rfl, rfl, rfl, fun b hb => .inr (by have := H2.out.2.1 b hb; omega), fun hh => (by cases hh), fun _ => ⟨ho3, fun b hb => by have := hn3 b hb; omega⟩, ?_⟩
      have f1 : Fr (StepT S Q x.P x.R (qv d)) w w1 := ⟨hs.os, hs.tape, hs.output, by omega, fun k _ _ => by rw [hs.heap]⟩
      exact (f1.trans (H2.out.2.2.mono fun k _ hk => .inr (.inl hk))).trans (hf3.mono fun k _ hk => .inr (.inr (.inr (.inl hk))))
    clear hC3 ho3 hn3 hf3
    obtain ⟨k1, k2, k3⟩ := HH.out.after hM HX.out.1 hd3 H3.out HX.out.2 (fun hh => by cases hh)
    have H4 : Hid (_ ∧ _ ∧ _) := ⟨k1, k2, k3⟩
    clear k1 k2 k3
    go_wp2_with fail
    refine (sim_wrote hM S Q rec _ pv' _ _ 67 id 0 w3 H4.out.1 hr).mono ?_
    rintro e w4 ⟨rfl, hW, hf4⟩
    have H5 : Hid (SimOut M w S Q pv qv rs (rec ++ recS 67 id 0) { h with qs := updQ h.qs d (takeQ (h.qs d) x.p.id 0), rs := afterR M.E h.rs r true } w4) :=
      ⟨⟨pv', _, _, hW, H4.out.2.2⟩, H4.out.2.1.trans (hf4.mono fun k _ hk => .inl hk)⟩
    clear hW hf4
    go_wp2_with fail
    go_ret
    exact ⟨rfl, H5.out⟩

end Go.Proofs.Ytmmmnghiegajmaa
