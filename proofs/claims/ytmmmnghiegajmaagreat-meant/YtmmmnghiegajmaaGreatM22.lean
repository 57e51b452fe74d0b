import Derived.Test.YtmmmnghiegajmaaGreatM16
import Derived.Test.YtmmmnghiegajmaaGreatM20
set_option maxHeartbeats 1000000
namespace Go.Proofs.YtmmmnghiegajmaaGreat
open Go.RowKit Go.Proofs.Herald
theorem zlz {A B:Type}{ρ:A->B->Prop}{a:A}:∀ {l:List A} {m:List B},zgq ρ l m->a∈l->∃ b∈m,ρ a b
 | [],_,_,ha=>by cases ha
 | x::l,y::m,h,ha=>by
  rcases List.mem_cons.mp ha with rfl|ha
  .exact ⟨y,List.mem_cons_self ..,h.1⟩
  .obtain ⟨b,hb,hr⟩:=zlz h.2 ha
   exact ⟨b,List.mem_cons_of_mem _ hb,hr⟩
 | _::_,[],h,_=>h.elim
def zgP (rec:ByteArray)(e c a b:Int):ByteArray:=if e=0 then rec++ziB c a b else rec
theorem zmy {RT:Type}{M:Mode RT}{G:RT->Prop}(hM:ModeOk M)(S Q:Nat)(rec:ByteArray)(h:Her RT)(pv:Value)(qv:Nat->Value)(rs:List Rs)(id C:Int)(w:World)(H:SimH M w S Q rec h pv qv rs)(hI:HOk M.E G C h)(hr:rec.size<=1000000000000):
  Calls Tryz.prog 41 #[.pointer (some ⟨S,0,none⟩),.int .i64 id] w fun e w'=>e=.returned (.int .i64 (zbb M.E h id).1)/\SimOut M w S Q pv qv rs (zgP rec (zbb M.E h id).1 67 id 0) (zbb M.E h id).2 w':=by
 have hlen:rs.length<=5:=by rw [zdG H.rel];exact hI.len
 have hidl:(zbN rs).length<=1000:=by unfold zbN;rw [List.length_map];omega
 have c5:w.cell? ⟨S,5,none⟩=some pv:=(zaa H.at'.sB).trans rfl
 have HFI:Hid (Calls Tryz.prog 73 #[.pointer (some ⟨S,0,none⟩),.int .i64 id] w fun e w'=>e=.returned (zeF ((zbN rs).find? fun x=>x.2==id))/\SameH w w'):=zpm S pv (zbN rs) id w c5 H.at'.procs hidl
 have HH:=zHd H
 rcases zje hM id H.rel with ⟨f1,f2⟩|⟨x,r,hx,hrm,f1,f2,hlk,hid⟩
 .have HE:Hid (zbb M.E h id=(10,h)):=by show _=_;unfold zbb;rw [f2]
  rw [f1] at HFI
  clear f1 f2 c5 H hI
  rw [HE.out]
  go_enter Tryz.func41,Tryz.ntmps41
  go_wp2_with fail
  refine HFI.out.mono ?_
  rintro e w1 ⟨rfl,hs1⟩
  have HS1:=zHd hs1
  clear hs1
  have hp:zeF none=.pointer none:=rfl
  rw [hp]
  go_wp2_with fail
  go_ret
  exact ⟨rfl,SimOut.same HH.out HS1.out fun x r hl=>hM.keep w w1 x r hl fun k _ _=>by rw [HS1.out.heap]⟩
 .have hpub:=hM.pub w x r hlk
  have hdev:=hI.dev r hrm
  rw [hpub] at hdev
  obtain ⟨d,hdd⟩:∃ d:Nat,x.p.dev=(d:Nat):=⟨x.p.dev.toNat,by have:=hdev.1;simp only [zcE] at this;omega⟩
  have hd3:d<3:=by have:=hdev.2;simp only [zcE] at this;omega
  have hq4:=hI.qlen d
  have HE:Hid (zbb M.E h id=(0,{h with qs:=zcc h.qs d (zbK (h.qs d) x.p.id 0),rs:=zbe M.E h.rs r true})):=by
   show _=_
   unfold zbb
   rw [f2]
   simp only
   rw [hpub]
   have e1:(zcE x.p).dev.toNat=d:=by simp only [zcE];omega
   rw [e1,<- hid]
   have e2:zbe M.E h.rs r true=h.rs.filter (fun y=>(M.E.pub y).id != x.p.id):=by unfold zbe;rw [hpub];rfl
   rw [e2]
  rw [f1] at HFI
  have HX:Hid (x∈rs/\(M.E.pub r).id=x.p.id):=⟨hx,by rw [hpub];rfl⟩
  clear f1 f2 c5 H hI hx hrm hlk hpub hdev
  rw [HE.out]
  go_enter Tryz.func41,Tryz.ntmps41
  go_wp2_with fail
  refine HFI.out.mono ?_
  rintro e w1 ⟨rfl,hs1⟩
  have HS1:=zHd hs1
  clear hs1
  have hp:zeF (some (x.P,x.p.id))=.pointer (some ⟨x.P,0,none⟩):=rfl
  rw [hp]
  have HC1:Hid (SimCore w1 S Q x.P x.R (M.s.md x.yv x.nv) pv rec h.now h.last qv h.qs x.p):=(HH.out.at'.core HX.out.1).keep fun k _=>by rw [HS1.out.heap]
  go_wp2_with fail
  refine (zpn S Q x.P x.R _ pv rec h.now h.last qv h.qs x.p 0 d w1 HC1.out hd3 hdd hq4).mono ?_
  rintro e w2 ⟨rfl,v,hC2,hv2,hf2⟩
  have HP2:Hid (ProcsAt w2 pv (zbN rs)):=by
   have hp1:ProcsAt w1 pv (zbN rs):=⟨zaj HH.out.at'.procs.own fun b _=>by rw [HS1.out.heap],fun y hy=>by rw [HS1.out.heap];exact HH.out.at'.procs.ids y hy⟩
   exact hp1.after HC1.out hC2 rfl hd3 (hf2.mono fun k _ hk=>.inr (.inl hk))
  have H2:Hid (SimCore w2 S Q x.P x.R (M.s.md x.yv x.nv) pv rec h.now h.last (upd qv d v) (upd h.qs d (zbK (h.qs d) x.p.id 0)) x.p/\(∀ b,v.ownBlock=some b->w1.heap.size<=b)/\Fr (fun k=>k=Q) w1 w2):=⟨hC2,hv2,hf2⟩
  clear hC2 hv2 hf2
  go_wp2_with fail
  refine (znR S Q x.P x.R _ pv rec h.now h.last _ _ x.p (zbN rs) w2 H2.out.1 HP2.out hidl).mono ?_
  rintro e w3 ⟨rfl,pv',hC3,ho3,hn3,hf3⟩
  have H3:Hid (RunOut w w3 S Q M.s pv rec h.now h.last qv h.qs (zbN rs) x d (zbK (h.qs d) x.p.id 0) x true v pv'):=by
   have hs:=HS1.out
   have hz1:w1.heap.size=w.heap.size:=by rw [hs.heap]
   have hz2:=H2.out.2.2.size
   refine ⟨hC3,rfl,rfl,rfl,fun b hb=>.inr (by have:=H2.out.2.1 b hb;omega),fun hh=>(by cases hh),fun _=>⟨ho3,fun b hb=>by have:=hn3 b hb;omega⟩,?_⟩
   have f1:Fr (zei S Q x.P x.R (qv d)) w w1:=⟨hs.os,hs.tape,hs.output,by omega,fun k _ _=>by rw [hs.heap]⟩
   exact (f1.trans (H2.out.2.2.mono fun k _ hk=>.inr (.inl hk))).trans (hf3.mono fun k _ hk=>.inr (.inr (.inr (.inl hk))))
  clear hC3 ho3 hn3 hf3
  obtain ⟨k1,k2,k3⟩:=HH.out.after hM HX.out.1 hd3 H3.out HX.out.2 (fun hh=>by cases hh)
  have H4:Hid (_/\_/\_):=⟨k1,k2,k3⟩
  clear k1 k2 k3
  go_wp2_with fail
  refine (zeZ hM S Q rec _ pv' _ _ 67 id 0 w3 H4.out.1 hr).mono ?_
  rintro e w4 ⟨rfl,hW,hf4⟩
  have H5:Hid (SimOut M w S Q pv qv rs (rec++ziB 67 id 0) {h with qs:=zcc h.qs d (zbK (h.qs d) x.p.id 0),rs:=zbe M.E h.rs r true} w4):=
   ⟨⟨pv',_,_,hW,H4.out.2.2⟩,H4.out.2.1.trans (hf4.mono fun k _ hk=>.inl hk)⟩
  clear hW hf4
  go_wp2_with fail
  go_ret
  exact ⟨rfl,H5.out⟩
end Go.Proofs.YtmmmnghiegajmaaGreat
set_option maxHeartbeats 2000000
namespace Go.Proofs.YtmmmnghiegajmaaGreat
open Go.RowKit Go.Proofs.Herald
theorem zig {RT:Type}{M:Mode RT}{G:RT->Prop}(hM:ModeOk M){w:World}{C:Int}{h:Her RT}(hI:HOk M.E G C h){x:Rs}{r:RT}(hr:r∈h.rs)(hl:M.link w x r):
  ∃ d:Nat,d<3/\x.p.dev=(d:Nat)/\(M.E.pub r).dev.toNat=d/\(h.qs d).length<=4/\0<=x.p.sent/\x.p.sent<=C/\h.now<=x.p.til/\x.p.til<=2000000000:=by
 have hpub:=hM.pub w x r hl
 have h1:=hI.dev r hr
 have h2:=hI.sent r hr
 have h3:=hI.til r hr
 rw [hpub] at h1 h2 h3 ⊢
 simp only [zcE] at h1 h2 h3 ⊢
 exact ⟨x.p.dev.toNat,by omega,by omega,rfl,hI.qlen _,h2.1,h2.2,h3.1,h3.2⟩
theorem zp4 {RT:Type}{M:Mode RT}{G:RT->Prop}(hM:ModeOk M)(S Q:Nat)(rec:ByteArray)(h:Her RT)(pv:Value)(qv:Nat->Value)(rs:List Rs)(id num C:Int)(w:World)(H:SimH M w S Q rec h pv qv rs)(hI:HOk M.E G C h)(hC:C<=999999999999990000)(hr:rec.size<=1000000000000):
  Calls Tryz.prog 39 #[.pointer (some ⟨S,0,none⟩),.int .i64 id,.int .i64 num] w fun e w'=>e=.returned (.int .i64 (zej M.E h id num).1)/\SimOut M w S Q pv qv rs (zgP rec (zej M.E h id num).1 65 id num) (zej M.E h id num).2 w':=by
 have hlen:rs.length<=5:=by rw [zdG H.rel];exact hI.len
 have hidl:(zbN rs).length<=1000:=by unfold zbN;rw [List.length_map];omega
 have c5:w.cell? ⟨S,5,none⟩=some pv:=(zaa H.at'.sB).trans rfl
 have HFI:Hid (Calls Tryz.prog 73 #[.pointer (some ⟨S,0,none⟩),.int .i64 id] w fun e w'=>e=.returned (zeF ((zbN rs).find? fun x=>x.2==id))/\SameH w w'):=zpm S pv (zbN rs) id w c5 H.at'.procs hidl
 have HH:=zHd H
 rcases zje hM id H.rel with ⟨f1,f2⟩|⟨x,r,hx,hrm,f1,f2,hlk,hid⟩
 .have HE:Hid (zej M.E h id num=(10,h)):=by show _=_;unfold zej;rw [f2]
  rw [f1] at HFI
  clear f1 f2 c5 H hI
  rw [HE.out]
  go_enter Tryz.func39,Tryz.ntmps39
  go_wp2_with fail
  refine HFI.out.mono ?_
  rintro e w1 ⟨rfl,hs1⟩
  have HS1:=zHd hs1
  clear hs1
  have hp:zeF none=.pointer none:=rfl
  rw [hp]
  go_wp2_with fail
  go_ret
  exact ⟨rfl,SimOut.same HH.out HS1.out fun x r hl=>hM.keep w w1 x r hl fun k _ _=>by rw [HS1.out.heap]⟩
 .have hpub:=hM.pub w x r hlk
  obtain ⟨d,hd3,hdd,hdn,hq4,hs0,hs1,_,_⟩:=zig hM hI hrm hlk
  have hnum:(M.E.pub r).num=x.p.num:=by rw [hpub];rfl
  have HX:Hid (x∈rs/\(M.E.pub r).id=x.p.id/\M.link w x r):=⟨hx,by rw [hpub];rfl,hlk⟩
  have HNOW:Hid (0<=h.now/\h.now<=1000000000):=⟨hI.now0,hI.now1⟩
  rw [f1] at HFI
  have hp:zeF (some (x.P,x.p.id))=.pointer (some ⟨x.P,0,none⟩):=rfl
  rw [hp] at HFI
  clear f1 c5 H hI hx hrm hlk hpub hp
  have HW:Hid (∀ w1,SameH w w1->SimH M w1 S Q rec h pv qv rs/\M.link w1 x r/\SimCore w1 S Q x.P x.R (M.s.md x.yv x.nv) pv rec h.now h.last qv h.qs x.p/\SimOut M w S Q pv qv rs rec h w1):=fun w1 hs=>by
   have hst:Still M.B0 w w1:=fun k _ _=>by rw [hs.heap]
   have h1:SimH M w1 S Q rec h pv qv rs:=⟨HH.out.at'.keep fun k _=>by rw [hs.heap],HH.out.base,zcC (fun a b hab=>hM.keep w w1 a b hab hst) HH.out.rel⟩
   exact ⟨h1,hM.keep w w1 x r HX.out.2.2 hst,h1.at'.core HX.out.1,SimOut.same HH.out hs fun a b hab=>hM.keep w w1 a b hab hst⟩
  by_cases hn0:num=0
  .have HE:Hid (zej M.E h id num=(11,h)):=by show _=_;unfold zej;rw [f2];simp only;rw [if_pos (Or.inl hn0)]
   rw [HE.out]
   subst hn0
   clear f2 hnum
   go_enter Tryz.func39,Tryz.ntmps39
   go_wp2_with fail
   refine HFI.out.mono ?_
   rintro e w1 ⟨rfl,hs1⟩
   have HS1:=zHd hs1
   clear hs1
   go_wp2_with fail
   go_ret
   exact ⟨rfl,(HW.out w1 HS1.out).2.2.2⟩
  .have b0:(num==0)=false:=by simpa using hn0
   by_cases hn1:x.p.num=num
   .have b1:(x.p.num != num)=false:=by simpa using hn1
    cases hq:zjk (h.qs d) x.p.id num with
    | true=>
     have HE:Hid (zej M.E h id num=(12,h)):=by
      show _=_
      unfold zej
      rw [f2]
      simp only
      rw [hnum,hdn,if_neg (fun hh=>by rcases hh with hh|hh;exact hn0 hh;exact hh hn1),<- hid,if_pos hq]
     rw [HE.out]
     have HQ:=zHd hq
     clear f2 hnum hq hn1 hn0
     go_enter Tryz.func39,Tryz.ntmps39
     go_wp2_with fail
     refine HFI.out.mono ?_
     rintro e w1 ⟨rfl,hs1⟩
     have HS1:=zHd hs1
     have p4:w1.cell? ⟨x.P,4,none⟩=some (.int .i64 x.p.num):=(zaa (HW.out w1 hs1).2.2.1.pB).trans rfl
     clear hs1
     go_wp2_with fail
     refine (zlF S Q x.P x.R _ pv rec h.now h.last qv h.qs x.p num d w1 (HW.out w1 HS1.out).2.2.1 hd3 hdd hq4).mono ?_
     rw [HQ.out]
     rintro e w2 ⟨rfl,hs2⟩
     have HS2:Hid (SameH w w2):=⟨hs2.heap.trans HS1.out.heap,hs2.os.trans HS1.out.os,hs2.tape.trans HS1.out.tape,hs2.output.trans HS1.out.output⟩
     clear hs2
     go_wp2_with fail
     go_ret
     exact ⟨rfl,(HW.out w2 HS2.out).2.2.2⟩
    | false=>
     have HE:Hid (zej M.E h id num=(0,{h with qs:=zcc h.qs d (M.E.on h.now true (h.qs d) r).1,rs:=zbe M.E h.rs (M.E.on h.now true (h.qs d) r).2.1 (M.E.on h.now true (h.qs d) r).2.2})):=by
      show _=_
      unfold zej goH
      rw [f2]
      simp only
      rw [hnum,hdn,if_neg (fun hh=>by rcases hh with hh|hh;exact hn0 hh;exact hh hn1),<- hid,if_neg (by rw [hq];simp)]
     rw [HE.out]
     have HQ:=zHd hq
     have HN:Hid (x.p.num≠0):=by show _≠_;rw [hn1];exact hn0
     clear f2 hnum hq hn1 hn0
     go_enter Tryz.func39,Tryz.ntmps39
     go_wp2_with fail
     refine HFI.out.mono ?_
     rintro e w1 ⟨rfl,hs1⟩
     have HS1:=zHd hs1
     have p4:w1.cell? ⟨x.P,4,none⟩=some (.int .i64 x.p.num):=(zaa (HW.out w1 hs1).2.2.1.pB).trans rfl
     clear hs1
     go_wp2_with fail
     refine (zlF S Q x.P x.R _ pv rec h.now h.last qv h.qs x.p num d w1 (HW.out w1 HS1.out).2.2.1 hd3 hdd hq4).mono ?_
     rw [HQ.out]
     rintro e w2 ⟨rfl,hs2⟩
     have HS2:Hid (SameH w w2):=⟨hs2.heap.trans HS1.out.heap,hs2.os.trans HS1.out.os,hs2.tape.trans HS1.out.tape,hs2.output.trans HS1.out.output⟩
     clear hs2 p4
     go_wp2_with fail
     refine (zeZ hM S Q rec h pv qv rs 65 id num w2 (HW.out w2 HS2.out).1 hr).mono ?_
     rintro e w3 ⟨rfl,hW3,hf3⟩
     have H3:Hid (SimH M w3 S Q (rec++ziB 65 id num) h pv qv rs/\M.link w3 x r/\Fr (zdc S Q pv qv rs) w w3):=by
      have hs:=HS2.out
      have f2:Fr (zdc S Q pv qv rs) w w2:=⟨hs.os,hs.tape,hs.output,by rw [hs.heap];exact Nat.le_refl _,fun k _ _=>by rw [hs.heap]⟩
      have f3:Fr (zdc S Q pv qv rs) w w3:=f2.trans (hf3.mono fun k _ hk=>.inl hk)
      exact ⟨hW3,hM.keep w w3 x r HX.out.2.2 (HH.out.at'.still HH.out.base f3),f3⟩
     clear hW3 hf3
     go_wp2_with fail
     refine (hM.on S Q pv _ h.now h.last qv h.qs rs w3 x r d true H3.out.1.at' H3.out.1.base HX.out.1 H3.out.2.1 hd3 hdd hq4 hs0 (by omega) HNOW.out.1 HNOW.out.2 (by omega) (fun _=>HN.out)).mono ?_
     rintro e w4 ⟨rfl,x',v,pv',hO,hL⟩
     obtain ⟨k1,k2,k3⟩:=H3.out.1.after hM HX.out.1 hd3 hO (by rw [hM.eid];exact HX.out.2.1) hL
     have H4:Hid (SimOut M w S Q pv qv rs (rec++ziB 65 id num) {h with qs:=zcc h.qs d (M.E.on h.now true (h.qs d) r).1,rs:=zbe M.E h.rs (M.E.on h.now true (h.qs d) r).2.1 (M.E.on h.now true (h.qs d) r).2.2} w4):=
      ⟨⟨_,_,_,k1,fun k hk=>by
       rcases k3 k hk with h1|h1
       .exact .inl h1
       .exact .inr (Nat.le_trans H3.out.2.2.size h1)⟩,H3.out.2.2.trans k2⟩
     clear hO hL k1 k2 k3
     go_wp2_with fail
     go_ret
     exact ⟨rfl,H4.out⟩
   .have b1:(x.p.num != num)=true:=by simpa using hn1
    have HE:Hid (zej M.E h id num=(11,h)):=by show _=_;unfold zej;rw [f2];simp only;rw [hnum,if_pos (Or.inr hn1)]
    rw [HE.out]
    clear f2 hnum hn1 hn0
    go_enter Tryz.func39,Tryz.ntmps39
    go_wp2_with fail
    refine HFI.out.mono ?_
    rintro e w1 ⟨rfl,hs1⟩
    have HS1:=zHd hs1
    have p4:w1.cell? ⟨x.P,4,none⟩=some (.int .i64 x.p.num):=(zaa (HW.out w1 hs1).2.2.1.pB).trans rfl
    clear hs1
    go_wp2_with fail
    go_ret
    exact ⟨rfl,(HW.out w1 HS1.out).2.2.2⟩
end Go.Proofs.YtmmmnghiegajmaaGreat
