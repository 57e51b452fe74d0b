import Derived.Test.YtmmmnghiegajmaaGreatM44
import Derived.Deep.RegionWith
import Derived.Deep.DeepCutAuto
set_option maxHeartbeats 8000000
namespace Go.Proofs.YtmmmnghiegajmaaGreat
open Go.RowKit Go.Proofs.Herald
def ziY {RT:Type}(M:Mode RT)(CB:World->Prop)(w:World)(Pb H S Q O:Nat)(u tv:Value)(cs:List Ins)(hm':Her Pr)(hd:Her RT)(s:PSt)(o:OSt)(ob:Obj)(w1:World):Prop:=
 ∃ s1,LK M CB w1 Pb H S Q O u tv cs hm' hd s1 o/\s1.drec=s.drec/\s1.n<=s.n+19/\Below M.B0 w w1/\w1.heap[w.heap.size]?=some ob
theorem zlp {RT:Type}{M:Mode RT}(hM:ModeOk M){CB:World->Prop}(hCB:∀ w w',CB w->Still M.B0 w w'->CB w'){w W w1:World}{Pb H S Q O:Nat}{u tv:Value}{cs:List Ins}{hm hm':Her Pr}{hd:Her RT}{s:PSt}{o:OSt}{ob:Obj}(L:LK M CB w Pb H S Q O u tv cs hm hd s o)(hW:W=(w.alloc ob).drew)(ho:FHOut W w1 H cs hm' s.code s.jr s.rv s.qv (s.n+19)):ziY M CB w Pb H S Q O u tv cs hm' hd s o ob w1:=by
 have hb:Below w.heap.size w W:=by rw [hW];exact ((Below.refl _ _).alloc (Nat.le_refl _) _).drew
 obtain ⟨s1,h1,h2,h3,h4,h5,_⟩:=zjB hM hCB L hb ho
 have hWb:W.heap[w.heap.size]?=some ob:=by rw [hW];exact heap_alloc_new _ _
 exact ⟨s1,h1,h2,h3,h4,(h5 w.heap.size (Nat.le_refl _) (zae hWb)).trans hWb⟩
set_option maxRecDepth 20000 in
theorem znI {RT:Type}{M:Mode RT}{G:RT->Prop}{ρ:RT->Pr->Prop}{CB:World->Prop}{cs:List Ins}(K:Kinds M G ρ CB cs)(Pb H S Q O:Nat)(u tv:Value)(i:Nat)(hm:Her Pr)(hd:Her RT)(s:PSt)(o:OSt)(a b c:Int)(str:ByteArray)(w:World)(h:ST M G ρ CB w Pb H S Q O u tv cs i hm hd s o)(hi:i<=1100000):
  Calls Tryz.prog 13 #[.pointer (some ⟨Pb,0,none⟩),.agg #[.int .i64 1,.int .i64 a,.int .i64 b,.int .i64 c,.string str],.pointer (some ⟨O,0,none⟩)] w fun e w'=>e=.returned (.bool true)/\zfp M G ρ CB w Pb H S Q O u tv cs i w':=by
 have p0:w.cell? ⟨Pb,0,none⟩=some (.pointer (some ⟨H,0,none⟩)):=(zaa h.lk.pp.p).trans rfl
 have hPl:Pb<w.heap.size:=zae h.lk.pp.p
 have hmok:=h.mok K (by omega)
 obtain ⟨b1,b2,hB⟩:=zmV K h a
 generalize hT:zb7 (zaA cs) hm a=T at *
 generalize hT2:zb7 M.E hd a=T2 at *
 have hn:=h.n
 have hdr:=h.dr
 have HP:Hid (∀ W,W=(w.alloc (.cells #[.int .i64 1,.int .i64 a,.int .i64 b,.int .i64 c,.string str] 47)).drew->Calls Tryz.prog 34 #[.pointer (some ⟨H,0,none⟩),.int .i64 a] W fun e w1=>e=.returned (.tuple #[.int .i64 T.1,.int .i64 T.2.1])/\ziY M CB w Pb H S Q O u tv cs T.2.2 hd s o (.cells #[.int .i64 1,.int .i64 a,.int .i64 b,.int .i64 c,.string str] 47 (0,0)) w1):=fun W hW=>by
  have hb:Below w.heap.size w W:=by rw [hW];exact ((Below.refl _ _).alloc (Nat.le_refl _) _).drew
  refine (by have hF:=(znf H cs hm s.code s.jr s.rv s.qv s.n a _ W (h.lk.pp.f.below hb) hmok (by omega));rw [hT] at hF;exact hF:Calls Tryz.prog 34 #[.pointer (some ⟨H,0,none⟩),.int .i64 a] W fun e w'=>e=.returned (.tuple #[.int .i64 T.1,.int .i64 T.2.1])/\FHOut W w' H cs T.2.2 s.code s.jr s.rv s.qv (s.n+19)).mono ?_
  rintro e w1 ⟨rfl,ho⟩
  exact ⟨rfl,zlp K.hM K.hCB h.lk hW ho⟩
 have HD:Hid (∀ w1,ziY M CB w Pb H S Q O u tv cs T.2.2 hd s o (.cells #[.int .i64 1,.int .i64 a,.int .i64 b,.int .i64 c,.string str] 47 (0,0)) w1->Calls Tryz.prog 35 #[.pointer (some ⟨S,0,none⟩),.int .i64 a] w1.drew fun e w2=>e=.returned (.tuple #[.int .i64 T.1,.int .i64 T.2.1])/\zfp M G ρ CB w Pb H S Q O u tv cs i w2):=fun w1 hmid=>by
  obtain ⟨s1,L1,e1,e2,hb,_⟩:=hmid
  have hW:Below w1.heap.size w1 w1.drew:=(Below.refl _ _).drew
  have hD:=(L1.below K.hM K.hCB hW).pp.d
  refine (K.trig S Q s1.drec hd s1.pv s1.dqv s1.rs a _ w1.drew hD (L1.below K.hM K.hCB hW).pp.cb h.okd (by omega) (by rw [e1];omega) (by have:=h.last;rw [h.same.last];omega)).mono ?_
  rintro e w2 ⟨rfl,rec',hr,ho⟩
  rw [hT2] at ho ⊢
  rw [b1,b2]
  exact ⟨rfl,ST.next K.hM K.hCB h L1 e1 e2 hb hB hW hr ho⟩
 have HQ:Hid (∀ w1,ziY M CB w Pb H S Q O u tv cs T.2.2 hd s o (.cells #[.int .i64 1,.int .i64 a,.int .i64 b,.int .i64 c,.string str] 47 (0,0)) w1->w1.cell? ⟨Pb,1,none⟩=some (.pointer (some ⟨S,0,none⟩))/\w1.heap[w.heap.size]?=some (.cells #[.int .i64 1,.int .i64 a,.int .i64 b,.int .i64 c,.string str] 47 (0,0))):=fun w1 hmid=>by
  obtain ⟨s1,L1,_,_,_,hob⟩:=hmid
  exact ⟨(zaa L1.pp.p).trans rfl,hob⟩
 clear h hmok hB hn hdr
 go_enter Tryz.func13,Tryz.ntmps13
 go_upto_region 3 with fail
 go_cut [7,8] (fun x y wx=>x=.int .i64 T.1/\y=.int .i64 T.2.1/\Hid (ziY M CB w Pb H S Q O u tv cs T.2.2 hd s o (.cells #[.int .i64 1,.int .i64 a,.int .i64 b,.int .i64 c,.string str] 47 (0,0)) wx))
 case first=>
  go_region_with (go_at_call 34;refine (HP.out _ rfl).mono ?_;rintro e w1 ⟨rfl,ho⟩)
  all_goals
   go_wp2_with fail
   go_meet
   case rel=>exact ⟨rfl,rfl,ho⟩
 case rest=>
  obtain ⟨rfl,rfl,HX⟩:=hcut
  obtain ⟨q1,hob⟩:=HQ.out _ HX.out
  obtain ⟨m0,m1,m2,m3,m4⟩:=zgn hob
  clear p0 hPl HP hob HQ
  go_upto_region 4 with fail
  go_cut [9,10] (fun x y wx=>x=.int .i64 T.1/\y=.int .i64 T.2.1/\Hid (zfp M G ρ CB w Pb H S Q O u tv cs i wx))
  case first=>
   go_region_with (go_at_call 35;refine (HD.out _ HX.out).mono ?_;rintro e w2 ⟨rfl,ho⟩)
   all_goals
    go_wp2_with fail
    go_meet
    case rel=>exact ⟨rfl,rfl,ho⟩
  case rest=>
   obtain ⟨rfl,rfl,HY⟩:=hcut
   clear q1 m0 m1 m2 m3 m4 HD HX
   go_wp2_with fail
   go_ret
   exact ⟨rfl,HY.out⟩
set_option maxRecDepth 20000 in
theorem znH {RT:Type}{M:Mode RT}{G:RT->Prop}{ρ:RT->Pr->Prop}{CB:World->Prop}{cs:List Ins}(K:Kinds M G ρ CB cs)(Pb H S Q O:Nat)(u tv:Value)(i:Nat)(hm:Her Pr)(hd:Her RT)(s:PSt)(o:OSt)(a b c:Int)(str:ByteArray)(w:World)(h:ST M G ρ CB w Pb H S Q O u tv cs i hm hd s o)(hi:i<=1100000):
  Calls Tryz.prog 13 #[.pointer (some ⟨Pb,0,none⟩),.agg #[.int .i64 2,.int .i64 a,.int .i64 b,.int .i64 c,.string str],.pointer (some ⟨O,0,none⟩)] w fun e w'=>e=.returned (.bool true)/\zfp M G ρ CB w Pb H S Q O u tv cs i w':=by
 have p0:w.cell? ⟨Pb,0,none⟩=some (.pointer (some ⟨H,0,none⟩)):=(zaa h.lk.pp.p).trans rfl
 have hPl:Pb<w.heap.size:=zae h.lk.pp.p
 have hmok:=h.mok K (by omega)
 obtain ⟨b1,hB⟩:=zmU K h a
 generalize hT:zdk (zaA cs) hm a=T at *
 generalize hT2:zdk M.E hd a=T2 at *
 have hn:=h.n
 have hdr:=h.dr
 have HP:Hid (∀ W,W=(w.alloc (.cells #[.int .i64 2,.int .i64 a,.int .i64 b,.int .i64 c,.string str] 47)).drew->Calls Tryz.prog 36 #[.pointer (some ⟨H,0,none⟩),.int .i64 a] W fun e w1=>e=.returned (.int .i64 T.1)/\ziY M CB w Pb H S Q O u tv cs T.2 hd s o (.cells #[.int .i64 2,.int .i64 a,.int .i64 b,.int .i64 c,.string str] 47 (0,0)) w1):=fun W hW=>by
  have hb:Below w.heap.size w W:=by rw [hW];exact ((Below.refl _ _).alloc (Nat.le_refl _) _).drew
  refine (by have hF:=(zqr H cs hm s.code s.jr s.rv s.qv s.n a _ W (h.lk.pp.f.below hb) hmok (by omega));rw [hT] at hF;exact hF:Calls Tryz.prog 36 #[.pointer (some ⟨H,0,none⟩),.int .i64 a] W fun e w'=>e=.returned (.int .i64 T.1)/\FHOut W w' H cs T.2 s.code s.jr s.rv s.qv (s.n+19)).mono ?_
  rintro e w1 ⟨rfl,ho⟩
  exact ⟨rfl,zlp K.hM K.hCB h.lk hW ho⟩
 have HD:Hid (∀ w1,ziY M CB w Pb H S Q O u tv cs T.2 hd s o (.cells #[.int .i64 2,.int .i64 a,.int .i64 b,.int .i64 c,.string str] 47 (0,0)) w1->Calls Tryz.prog 37 #[.pointer (some ⟨S,0,none⟩),.int .i64 a] w1.drew fun e w2=>e=.returned (.int .i64 T.1)/\zfp M G ρ CB w Pb H S Q O u tv cs i w2):=fun w1 hmid=>by
  obtain ⟨s1,L1,e1,e2,hb,_⟩:=hmid
  have hW:Below w1.heap.size w1 w1.drew:=(Below.refl _ _).drew
  have hD:=(L1.below K.hM K.hCB hW).pp.d
  refine (zos K.hM K.engd S Q s1.drec hd s1.pv s1.dqv s1.rs a _ w1.drew hD h.okd (by omega) (by rw [e1];omega)).mono ?_
  rintro e w2 ⟨rfl,rec',hr,ho⟩
  rw [hT2] at ho ⊢
  rw [b1]
  exact ⟨rfl,ST.next K.hM K.hCB h L1 e1 e2 hb hB hW hr ho⟩
 have HQ:Hid (∀ w1,ziY M CB w Pb H S Q O u tv cs T.2 hd s o (.cells #[.int .i64 2,.int .i64 a,.int .i64 b,.int .i64 c,.string str] 47 (0,0)) w1->w1.cell? ⟨Pb,1,none⟩=some (.pointer (some ⟨S,0,none⟩))/\w1.heap[w.heap.size]?=some (.cells #[.int .i64 2,.int .i64 a,.int .i64 b,.int .i64 c,.string str] 47 (0,0))):=fun w1 hmid=>by
  obtain ⟨s1,L1,_,_,_,hob⟩:=hmid
  exact ⟨(zaa L1.pp.p).trans rfl,hob⟩
 clear h hmok hB hn hdr
 go_enter Tryz.func13,Tryz.ntmps13
 go_upto_region 7 with fail
 go_cut [11] (fun x wx=>x=.int .i64 T.1/\Hid (ziY M CB w Pb H S Q O u tv cs T.2 hd s o (.cells #[.int .i64 2,.int .i64 a,.int .i64 b,.int .i64 c,.string str] 47 (0,0)) wx))
 case first=>
  go_region_with (go_at_call 36;refine (HP.out _ rfl).mono ?_;rintro e w1 ⟨rfl,ho⟩)
  all_goals
   go_wp2_with fail
   go_meet
   case rel=>exact ⟨rfl,ho⟩
 case rest=>
  obtain ⟨rfl,HX⟩:=hcut
  obtain ⟨q1,hob⟩:=HQ.out _ HX.out
  obtain ⟨m0,m1,m2,m3,m4⟩:=zgn hob
  clear p0 hPl HP hob HQ
  go_upto_region 8 with fail
  go_cut [12] (fun x wx=>x=.int .i64 T.1/\Hid (zfp M G ρ CB w Pb H S Q O u tv cs i wx))
  case first=>
   go_region_with (go_at_call 37;refine (HD.out _ HX.out).mono ?_;rintro e w2 ⟨rfl,ho⟩)
   all_goals
    go_wp2_with fail
    go_meet
    case rel=>exact ⟨rfl,ho⟩
  case rest=>
   obtain ⟨rfl,HY⟩:=hcut
   clear q1 m0 m1 m2 m3 m4 HD HX
   go_wp2_with fail
   go_ret
   exact ⟨rfl,HY.out⟩
set_option maxRecDepth 20000 in
theorem zoU {RT:Type}{M:Mode RT}{G:RT->Prop}{ρ:RT->Pr->Prop}{CB:World->Prop}{cs:List Ins}(K:Kinds M G ρ CB cs)(Pb H S Q O:Nat)(u tv:Value)(i:Nat)(hm:Her Pr)(hd:Her RT)(s:PSt)(o:OSt)(a b c:Int)(str:ByteArray)(w:World)(h:ST M G ρ CB w Pb H S Q O u tv cs i hm hd s o)(hi:i<=1100000):
  Calls Tryz.prog 13 #[.pointer (some ⟨Pb,0,none⟩),.agg #[.int .i64 3,.int .i64 a,.int .i64 b,.int .i64 c,.string str],.pointer (some ⟨O,0,none⟩)] w fun e w'=>e=.returned (.bool true)/\zfp M G ρ CB w Pb H S Q O u tv cs i w':=by
 have p0:w.cell? ⟨Pb,0,none⟩=some (.pointer (some ⟨H,0,none⟩)):=(zaa h.lk.pp.p).trans rfl
 have hPl:Pb<w.heap.size:=zae h.lk.pp.p
 have hmok:=h.mok K (by omega)
 obtain ⟨b1,hB⟩:=zol K h a b
 generalize hT:zej (zaA cs) hm a b=T at *
 generalize hT2:zej M.E hd a b=T2 at *
 have hn:=h.n
 have hdr:=h.dr
 have HP:Hid (∀ W,W=(w.alloc (.cells #[.int .i64 3,.int .i64 a,.int .i64 b,.int .i64 c,.string str] 47)).drew->Calls Tryz.prog 38 #[.pointer (some ⟨H,0,none⟩),.int .i64 a,.int .i64 b] W fun e w1=>e=.returned (.int .i64 T.1)/\ziY M CB w Pb H S Q O u tv cs T.2 hd s o (.cells #[.int .i64 3,.int .i64 a,.int .i64 b,.int .i64 c,.string str] 47 (0,0)) w1):=fun W hW=>by
  have hb:Below w.heap.size w W:=by rw [hW];exact ((Below.refl _ _).alloc (Nat.le_refl _) _).drew
  refine (by have hF:=(zqZ H cs hm s.code s.jr s.rv s.qv s.n a b _ W (h.lk.pp.f.below hb) hmok (by omega));rw [hT] at hF;exact hF:Calls Tryz.prog 38 #[.pointer (some ⟨H,0,none⟩),.int .i64 a,.int .i64 b] W fun e w'=>e=.returned (.int .i64 T.1)/\FHOut W w' H cs T.2 s.code s.jr s.rv s.qv (s.n+19)).mono ?_
  rintro e w1 ⟨rfl,ho⟩
  exact ⟨rfl,zlp K.hM K.hCB h.lk hW ho⟩
 have HD:Hid (∀ w1,ziY M CB w Pb H S Q O u tv cs T.2 hd s o (.cells #[.int .i64 3,.int .i64 a,.int .i64 b,.int .i64 c,.string str] 47 (0,0)) w1->Calls Tryz.prog 39 #[.pointer (some ⟨S,0,none⟩),.int .i64 a,.int .i64 b] w1.drew fun e w2=>e=.returned (.int .i64 T.1)/\zfp M G ρ CB w Pb H S Q O u tv cs i w2):=fun w1 hmid=>by
  obtain ⟨s1,L1,e1,e2,hb,_⟩:=hmid
  have hW:Below w1.heap.size w1 w1.drew:=(Below.refl _ _).drew
  have hD:=(L1.below K.hM K.hCB hW).pp.d
  refine (zp4 K.hM S Q s1.drec hd s1.pv s1.dqv s1.rs a b _ w1.drew hD h.okd (by omega) (by rw [e1];omega)).mono ?_
  rintro e w2 ⟨rfl,ho⟩
  have hr:=zfV s1.drec (zej M.E hd a b).1 65 a b
  rw [hT2] at ho hr ⊢
  rw [b1]
  exact ⟨rfl,ST.next K.hM K.hCB h L1 e1 e2 hb hB hW hr ho⟩
 have HQ:Hid (∀ w1,ziY M CB w Pb H S Q O u tv cs T.2 hd s o (.cells #[.int .i64 3,.int .i64 a,.int .i64 b,.int .i64 c,.string str] 47 (0,0)) w1->w1.cell? ⟨Pb,1,none⟩=some (.pointer (some ⟨S,0,none⟩))/\w1.heap[w.heap.size]?=some (.cells #[.int .i64 3,.int .i64 a,.int .i64 b,.int .i64 c,.string str] 47 (0,0))):=fun w1 hmid=>by
  obtain ⟨s1,L1,_,_,_,hob⟩:=hmid
  exact ⟨(zaa L1.pp.p).trans rfl,hob⟩
 clear h hmok hB hn hdr
 go_enter Tryz.func13,Tryz.ntmps13
 go_upto_region 11 with fail
 go_cut [13] (fun x wx=>x=.int .i64 T.1/\Hid (ziY M CB w Pb H S Q O u tv cs T.2 hd s o (.cells #[.int .i64 3,.int .i64 a,.int .i64 b,.int .i64 c,.string str] 47 (0,0)) wx))
 case first=>
  go_region_with (go_at_call 38;refine (HP.out _ rfl).mono ?_;rintro e w1 ⟨rfl,ho⟩)
  all_goals
   go_wp2_with fail
   go_meet
   case rel=>exact ⟨rfl,ho⟩
 case rest=>
  obtain ⟨rfl,HX⟩:=hcut
  obtain ⟨q1,hob⟩:=HQ.out _ HX.out
  obtain ⟨m0,m1,m2,m3,m4⟩:=zgn hob
  clear p0 hPl HP hob HQ
  go_upto_region 12 with fail
  go_cut [14] (fun x wx=>x=.int .i64 T.1/\Hid (zfp M G ρ CB w Pb H S Q O u tv cs i wx))
  case first=>
   go_region_with (go_at_call 39;refine (HD.out _ HX.out).mono ?_;rintro e w2 ⟨rfl,ho⟩)
   all_goals
    go_wp2_with fail
    go_meet
    case rel=>exact ⟨rfl,ho⟩
  case rest=>
   obtain ⟨rfl,HY⟩:=hcut
   clear q1 m0 m1 m2 m3 m4 HD HX
   go_wp2_with fail
   go_ret
   exact ⟨rfl,HY.out⟩
set_option maxRecDepth 20000 in
theorem zkJ {RT:Type}{M:Mode RT}{G:RT->Prop}{ρ:RT->Pr->Prop}{CB:World->Prop}{cs:List Ins}(K:Kinds M G ρ CB cs)(Pb H S Q O:Nat)(u tv:Value)(i:Nat)(hm:Her Pr)(hd:Her RT)(s:PSt)(o:OSt)(a b c:Int)(str:ByteArray)(w:World)(h:ST M G ρ CB w Pb H S Q O u tv cs i hm hd s o)(hi:i<=1100000):
  Calls Tryz.prog 13 #[.pointer (some ⟨Pb,0,none⟩),.agg #[.int .i64 4,.int .i64 a,.int .i64 b,.int .i64 c,.string str],.pointer (some ⟨O,0,none⟩)] w fun e w'=>e=.returned (.bool true)/\zfp M G ρ CB w Pb H S Q O u tv cs i w':=by
 have p0:w.cell? ⟨Pb,0,none⟩=some (.pointer (some ⟨H,0,none⟩)):=(zaa h.lk.pp.p).trans rfl
 have hPl:Pb<w.heap.size:=zae h.lk.pp.p
 have hmok:=h.mok K (by omega)
 obtain ⟨b1,hB⟩:=zj4 K h a
 generalize hT:zbb (zaA cs) hm a=T at *
 generalize hT2:zbb M.E hd a=T2 at *
 have hn:=h.n
 have hdr:=h.dr
 have HP:Hid (∀ W,W=(w.alloc (.cells #[.int .i64 4,.int .i64 a,.int .i64 b,.int .i64 c,.string str] 47)).drew->Calls Tryz.prog 40 #[.pointer (some ⟨H,0,none⟩),.int .i64 a] W fun e w1=>e=.returned (.int .i64 T.1)/\ziY M CB w Pb H S Q O u tv cs T.2 hd s o (.cells #[.int .i64 4,.int .i64 a,.int .i64 b,.int .i64 c,.string str] 47 (0,0)) w1):=fun W hW=>by
  have hb:Below w.heap.size w W:=by rw [hW];exact ((Below.refl _ _).alloc (Nat.le_refl _) _).drew
  refine (by have hF:=(zow H cs hm s.code s.jr s.rv s.qv s.n a _ W (h.lk.pp.f.below hb) hmok (by omega));rw [hT] at hF;exact hF:Calls Tryz.prog 40 #[.pointer (some ⟨H,0,none⟩),.int .i64 a] W fun e w'=>e=.returned (.int .i64 T.1)/\FHOut W w' H cs T.2 s.code s.jr s.rv s.qv (s.n+19)).mono ?_
  rintro e w1 ⟨rfl,ho⟩
  exact ⟨rfl,zlp K.hM K.hCB h.lk hW ho⟩
 have HD:Hid (∀ w1,ziY M CB w Pb H S Q O u tv cs T.2 hd s o (.cells #[.int .i64 4,.int .i64 a,.int .i64 b,.int .i64 c,.string str] 47 (0,0)) w1->Calls Tryz.prog 41 #[.pointer (some ⟨S,0,none⟩),.int .i64 a] w1.drew fun e w2=>e=.returned (.int .i64 T.1)/\zfp M G ρ CB w Pb H S Q O u tv cs i w2):=fun w1 hmid=>by
  obtain ⟨s1,L1,e1,e2,hb,_⟩:=hmid
  have hW:Below w1.heap.size w1 w1.drew:=(Below.refl _ _).drew
  have hD:=(L1.below K.hM K.hCB hW).pp.d
  refine (zmy K.hM S Q s1.drec hd s1.pv s1.dqv s1.rs a _ w1.drew hD h.okd (by rw [e1];omega)).mono ?_
  rintro e w2 ⟨rfl,ho⟩
  have hr:=zfV s1.drec (zbb M.E hd a).1 67 a 0
  rw [hT2] at ho hr ⊢
  rw [b1]
  exact ⟨rfl,ST.next K.hM K.hCB h L1 e1 e2 hb hB hW hr ho⟩
 have HQ:Hid (∀ w1,ziY M CB w Pb H S Q O u tv cs T.2 hd s o (.cells #[.int .i64 4,.int .i64 a,.int .i64 b,.int .i64 c,.string str] 47 (0,0)) w1->w1.cell? ⟨Pb,1,none⟩=some (.pointer (some ⟨S,0,none⟩))/\w1.heap[w.heap.size]?=some (.cells #[.int .i64 4,.int .i64 a,.int .i64 b,.int .i64 c,.string str] 47 (0,0))):=fun w1 hmid=>by
  obtain ⟨s1,L1,_,_,_,hob⟩:=hmid
  exact ⟨(zaa L1.pp.p).trans rfl,hob⟩
 clear h hmok hB hn hdr
 go_enter Tryz.func13,Tryz.ntmps13
 go_upto_region 15 with fail
 go_cut [15] (fun x wx=>x=.int .i64 T.1/\Hid (ziY M CB w Pb H S Q O u tv cs T.2 hd s o (.cells #[.int .i64 4,.int .i64 a,.int .i64 b,.int .i64 c,.string str] 47 (0,0)) wx))
 case first=>
  go_region_with (go_at_call 40;refine (HP.out _ rfl).mono ?_;rintro e w1 ⟨rfl,ho⟩)
  all_goals
   go_wp2_with fail
   go_meet
   case rel=>exact ⟨rfl,ho⟩
 case rest=>
  obtain ⟨rfl,HX⟩:=hcut
  obtain ⟨q1,hob⟩:=HQ.out _ HX.out
  obtain ⟨m0,m1,m2,m3,m4⟩:=zgn hob
  clear p0 hPl HP hob HQ
  go_upto_region 16 with fail
  go_cut [16] (fun x wx=>x=.int .i64 T.1/\Hid (zfp M G ρ CB w Pb H S Q O u tv cs i wx))
  case first=>
   go_region_with (go_at_call 41;refine (HD.out _ HX.out).mono ?_;rintro e w2 ⟨rfl,ho⟩)
   all_goals
    go_wp2_with fail
    go_meet
    case rel=>exact ⟨rfl,ho⟩
  case rest=>
   obtain ⟨rfl,HY⟩:=hcut
   clear q1 m0 m1 m2 m3 m4 HD HX
   go_wp2_with fail
   go_ret
   exact ⟨rfl,HY.out⟩
end Go.Proofs.YtmmmnghiegajmaaGreat
set_option maxHeartbeats 8000000
namespace Go.Proofs.YtmmmnghiegajmaaGreat
open Go.RowKit Go.Proofs.Herald
theorem LK.write {RT:Type}{M:Mode RT}(hM:ModeOk M){CB:World->Prop}(hCB:∀ w w',CB w->Still M.B0 w w'->CB w'){w w':World}{Pb H S Q O:Nat}{u tv:Value}{cs:List Ins}{hm:Her Pr}{hd:Her RT}{s:PSt}{o:OSt}(L:LK M CB w Pb H S Q O u tv cs hm hd s o){Z:Nat->Prop}(hf:Fr Z w w')(hz:∀ k,Z k->k<w.heap.size->¬ znD Pb H S Q s k/\¬ zeE O o k/\M.B0<=k/\Plain w k):LK M CB w' Pb H S Q O u tv cs hm hd s o:=
 ⟨L.pp.keep hM hCB (fun k hk=>hf.block k (L.pp.lt hk) fun h=>(hz k h (L.pp.lt hk)).1 hk) (ziN hf fun k hk h=>⟨(hz k h hk).2.2.1,(hz k h hk).2.2.2⟩),L.oa.keep fun k hk=>hf.block k (L.oa.sort hk).lt fun h=>(hz k h (L.oa.sort hk).lt).2.1 hk,L.dj,L.ob⟩
def zof {RT:Type}(M:Mode RT)(CB:World->Prop)(w:World)(Pb H S Q O:Nat)(u tv:Value)(cs:List Ins)(hm':Her Pr)(hd:Her RT)(s:PSt)(o:OSt)(ob:Obj)(w1:World):Prop:=
 ∃ s1,LK M CB w1 Pb H S Q O u tv cs hm' hd s1 o/\s1.drec=s.drec/\s1.n<=s.n+19/\Below M.B0 w w1/\w1.heap[w.heap.size]?=some ob/\(∀ k,zdc S Q s1.pv s1.dqv s1.rs k->k<w.heap.size)
def ze6:Obj:=.cells #[.int .i64 0,.int .i64 0,.int .i64 0,.int .i64 0] 87 (0,0)
theorem zpz {RT:Type}{M:Mode RT}(hM:ModeOk M){CB:World->Prop}(hCB:∀ w w',CB w->Still M.B0 w w'->CB w'){w W w1:World}{Pb H S Q O:Nat}{u tv:Value}{cs:List Ins}{hm hm':Her Pr}{hd:Her RT}{s:PSt}{o:OSt}{ob:Obj}(L:LK M CB w Pb H S Q O u tv cs hm hd s o)(hb:Below w.heap.size w W)(hWb:W.heap[w.heap.size]?=some ob)(hpl:∀ k,w.heap.size<k->k<W.heap.size->Plain W k)(ho:FHOut W w1 H cs hm' s.code s.jr s.rv s.qv (s.n+19)):
  w.heap.size<w1.heap.size/\(∀ k,w.heap.size<=k->k<W.heap.size->w1.heap[k]?=W.heap[k]?)/\∀ w',Fr (fun k=>w.heap.size<k/\k<W.heap.size) w1 w'->zof M CB w Pb H S Q O u tv cs hm' hd s o ob w':=by
 obtain ⟨s1,h1,h2,h3,h4,h5,h6,h7⟩:=zjB hM hCB L hb ho
 have hob1:w1.heap[w.heap.size]?=some ob:=(h5 w.heap.size (Nat.le_refl _) (zae hWb)).trans hWb
 refine ⟨zae hob1,h5,fun w' hf=>?_⟩
 have hB:M.B0<=w.heap.size:=by have h1:=L.pp.pb;have h2:=zae L.pp.p;omega
 have hL:LK M CB w' Pb H S Q O u tv cs hm' hd s1 o:=h1.write hM hCB hf fun k hk hkl=>by
  refine ⟨fun hp=>?_,fun hx=>?_,by omega,?_⟩
  .rcases h6 k hp with h|h
   .have:=L.pp.lt h;omega
   .omega
  .have:=(L.oa.sort hx).lt;omega
  .obtain ⟨c,t,hc,ht⟩:=hpl k hk.1 hk.2
   exact ⟨c,t,(h5 k (by omega) hk.2).trans hc,ht⟩
 refine ⟨s1,hL,h2,h3,h4.trans (ze9 hf (fun k _ hk=>by omega) (by have:=h4.size;omega)),?_,fun k hk=>L.pp.d.at'.lt (h7 k hk)⟩
 rw [hf.block _ (zae hob1) (fun hk=>by omega)]
 exact hob1
theorem ST.next2 {RT:Type}{M:Mode RT}{G:RT->Prop}{ρ:RT->Pr->Prop}{CB:World->Prop}(hM:ModeOk M)(hCB:∀ w w',CB w->Still M.B0 w w'->CB w'){w w1 w2:World}{Pb H S Q O:Nat}{u tv:Value}{cs:List Ins}{i:Nat}{hm hm':Her Pr}{hd hd':Her RT}{s s1:PSt}{o:OSt}{rec':ByteArray}(h:ST M G ρ CB w Pb H S Q O u tv cs i hm hd s o)(L1:LK M CB w1 Pb H S Q O u tv cs hm' hd s1 o)(e1:s1.drec=s.drec)(e2:s1.n<=s.n+19)(hb:Below M.B0 w w1)
  (B:Both M G ρ cs i hm' hd') {W:World} (hW:Below w1.heap.size w1 W) (hpl:∀ k,w1.heap.size<=k->k<W.heap.size->Plain W k) (hr:rec'.size<=s1.drec.size+19) (ho:SimOut M W S Q s1.pv s1.dqv s1.rs rec' hd' w2):
  (∀ k,w1.heap.size<=k->k<W.heap.size->w2.heap[k]?=W.heap[k]?)/\∀ w',Fr (fun k=>w1.heap.size<=k/\k<W.heap.size) w2 w'->zfp M G ρ CB w Pb H S Q O u tv cs i w':=by
 obtain ⟨s2,L2,f1,f2,f3,f4⟩:=zlf hCB (L1.below hM hCB hW) ho
 have hkp:∀ k,w1.heap.size<=k->k<W.heap.size->w2.heap[k]?=W.heap[k]?:=fun k hk1 hk2=>ho.fr.block k hk2 fun hz=>by have:=L1.pp.d.at'.lt hz;omega
 refine ⟨hkp,fun w' hf=>?_⟩
 have hB1:M.B0<=w1.heap.size:=by have h1:=L1.pp.pb;have h2:=zae L1.pp.p;omega
 have h1:=h.n
 have h2:=h.dr
 have h3:=h.on1
 have h4:=h.rb
 have h5:=h.qb
 rw [e1] at hr
 have hL:LK M CB w' Pb H S Q O u tv cs hm' hd' s2 o:=L2.write hM hCB hf fun k hk hkl=>by
  refine ⟨fun hp=>?_,fun hx=>?_,by omega,?_⟩
  .rcases f4 k hp with h|h
   .have:=L1.pp.lt h;omega
   .omega
  .have:=(L1.oa.sort hx).lt;omega
  .obtain ⟨c,t,hc,ht⟩:=hpl k hk.1 hk.2
   exact ⟨c,t,(hkp k hk.1 hk.2).trans hc,ht⟩
 have hb2:=(hb.trans (hW.mono hB1)).trans f3
 refine ⟨hm',hd',s2,o,⟨hL,B.same,B.okd,B.okm,B.qs,B.last,by omega,by rw [f1];omega,h.on0,by push_cast;omega,h.cb,by omega,by omega⟩,hb2.trans (ze9 hf (fun k _ hk=>by omega) ?_)⟩
 have:=hb2.size
 have h9:=h.lk.pp.pb
 have h10:=zae h.lk.pp.p
 omega
theorem zji {S:Nat->Prop}{w w1:World}(h:Fr S w w1){X:Nat}(hX:S X)(u0 u1 u2 u3:Value):Fr S w ((((w1.setCell ⟨X,0,none⟩ u0).setCell ⟨X,1,none⟩ u1).setCell ⟨X,2,none⟩ u2).setCell ⟨X,3,none⟩ u3):=
 (((h.setCell ⟨X,0,none⟩ (.inl hX) _).setCell ⟨X,1,none⟩ (.inl hX) _).setCell ⟨X,2,none⟩ (.inl hX) _).setCell ⟨X,3,none⟩ (.inl hX) _
theorem zih {w1:World}{X:Nat}{t:TypeId}{z0 z1 z2 z3:Value}(h:w1.heap[X]?=some (.cells #[z0,z1,z2,z3] t (0,0)))(u0 u1 u2 u3:Value):((((w1.setCell ⟨X,0,none⟩ u0).setCell ⟨X,1,none⟩ u1).setCell ⟨X,2,none⟩ u2).setCell ⟨X,3,none⟩ u3).heap[X]?=some (.cells #[u0,u1,u2,u3] t (0,0)):=by
 have a1:=zah (j:=0) u0 h
 have a2:=zah (j:=1) u1 a1
 have a3:=zah (j:=2) u2 a2
 have a4:=zah (j:=3) u3 a3
 rw [a4]
 rfl
set_option maxRecDepth 20000 in
theorem zmo {RT:Type}{M:Mode RT}{G:RT->Prop}{ρ:RT->Pr->Prop}{CB:World->Prop}{cs:List Ins}(K:Kinds M G ρ CB cs)(Pb H S Q O:Nat)(u tv:Value)(i:Nat)(hm:Her Pr)(hd:Her RT)(s:PSt)(o:OSt)(a b c:Int)(str:ByteArray)(w:World)(h:ST M G ρ CB w Pb H S Q O u tv cs i hm hd s o)(hi:i<=1100000):
  Calls Tryz.prog 13 #[.pointer (some ⟨Pb,0,none⟩),.agg #[.int .i64 5,.int .i64 a,.int .i64 b,.int .i64 c,.string str],.pointer (some ⟨O,0,none⟩)] w fun e w'=>e=.returned (.bool true)/\zfp M G ρ CB w Pb H S Q O u tv cs i w':=by
 have p0:w.cell? ⟨Pb,0,none⟩=some (.pointer (some ⟨H,0,none⟩)):=(zaa h.lk.pp.p).trans rfl
 have hPl:Pb<w.heap.size:=zae h.lk.pp.p
 have hmok:=h.mok K (by omega)
 obtain ⟨b1,b2,hB⟩:=zlO h a
 generalize hT:zbA hm a=T at *
 generalize hT2:zbA hd a=T2 at *
 have hn:=h.n
 have hdr:=h.dr
 obtain ⟨m,f,hm'⟩:=T
 simp only at b1 b2 hB
 obtain ⟨ob,hob⟩:∃ ob:Obj,ob=.cells #[.int .i64 5,.int .i64 a,.int .i64 b,.int .i64 c,.string str] 47 (0,0):=⟨_,rfl⟩
 have HOB:=zHd hob
 have HP:Hid (∀ W,Below w.heap.size w W->W.heap[w.heap.size]?=some ob->(∀ k,w.heap.size<k->k<W.heap.size->Plain W k)->Calls Tryz.prog 42 #[.pointer (some ⟨H,0,none⟩),.int .i64 a] W fun e w1=>e=.returned (.tuple #[.agg #[.int .i64 m.dev,.int .i64 m.run,.int .i64 m.num,.int .i64 m.key],.int .i64 f])/\w.heap.size<w1.heap.size/\(∀ k,w.heap.size<=k->k<W.heap.size->w1.heap[k]?=W.heap[k]?)/\∀ w',Fr (fun k=>w.heap.size<k/\k<W.heap.size) w1 w'->zof M CB w Pb H S Q O u tv cs hm' hd s o ob w'):=fun W hb hWb hpl=>by
  have hF:=(zpC H cs hm s.code s.jr s.rv s.qv s.n a _ W (h.lk.pp.f.below hb) hmok (by omega))
  rw [hT] at hF
  refine hF.mono ?_
  rintro e w1 ⟨rfl,ho⟩
  exact ⟨rfl,zpz K.hM K.hCB h.lk hb hWb hpl ho⟩
 have HD:Hid (∀ w1 W X ox,Below w1.heap.size w1 W->(∀ k,w1.heap.size<=k->k<W.heap.size->Plain W k)->w.heap.size<=X->w1.heap[X]?=some ox->zof M CB w Pb H S Q O u tv cs hm' hd s o ob w1->Calls Tryz.prog 43 #[.pointer (some ⟨S,0,none⟩),.int .i64 a] W fun e w2=>e=.returned (.tuple #[.agg #[.int .i64 m.dev,.int .i64 m.run,.int .i64 m.num,.int .i64 m.key],.int .i64 f])/\w2.heap[X]?=some ox/\(∀ k,w1.heap.size<=k->k<W.heap.size->w2.heap[k]?=W.heap[k]?)/\∀ w',Fr (fun k=>w1.heap.size<=k/\k<W.heap.size) w2 w'->zfp M G ρ CB w Pb H S Q O u tv cs i w'):=fun w1 W X ox hW hpl hX hox hmid=>by
  obtain ⟨s1,L1,e1,e2,hb,_,hown⟩:=hmid
  have hD:=(L1.below K.hM K.hCB hW).pp.d
  refine (znb K.hM S Q s1.drec hd s1.pv s1.dqv s1.rs a W hD h.okd.qlen (by rw [e1];omega)).mono ?_
  rintro e w2 ⟨rfl,rec',hr,ho⟩
  rw [hT2] at ho ⊢
  rw [b1,b2]
  refine ⟨rfl,?_,ST.next2 K.hM K.hCB h L1 e1 e2 hb hB hW hpl hr ho⟩
  have hXW:W.heap[X]?=some ox:=(hW.block X (zae hox)).trans hox
  rw [ho.fr.block X (zae hXW) (fun hz=>by have:=hown X hz;omega)]
  exact hXW
 have HQ:Hid (∀ w1,zof M CB w Pb H S Q O u tv cs hm' hd s o ob w1->w1.cell? ⟨Pb,1,none⟩=some (.pointer (some ⟨S,0,none⟩))/\w1.heap[w.heap.size]?=some ob/\Pb<w1.heap.size):=fun w1 hmid=>by
  obtain ⟨s1,L1,_,_,_,hob,_⟩:=hmid
  exact ⟨(zaa L1.pp.p).trans rfl,hob,zae L1.pp.p⟩
 have HW1:Hid (∀ W,W=(w.alloc ob).drew->Below w.heap.size w W/\W.heap[w.heap.size]?=some ob/\∀ k,w.heap.size<k->k<W.heap.size->Plain W k):=fun W hW=>by
  have hs:W.heap.size=w.heap.size+1:=by rw [hW];show (w.alloc _).heap.size=_;simp
  refine ⟨by rw [hW];exact ((Below.refl _ _).alloc (Nat.le_refl _) _).drew,by rw [hW];exact heap_alloc_new _ _,fun k h1 h2=>by omega⟩
 have HW2:Hid (∀ W,W=((w.alloc ob).alloc ze6).drew->(Below w.heap.size w W/\W.heap[w.heap.size]?=some ob/\∀ k,w.heap.size<k->k<W.heap.size->Plain W k)/\W.heap[w.heap.size+1]?=some ze6/\W.heap.size=w.heap.size+2):=fun W hW=>by
  have hs:W.heap.size=w.heap.size+2:=by rw [hW];show ((w.alloc _).alloc _).heap.size=_;simp
  have hz:W.heap[w.heap.size+1]?=some ze6:=by rw [hW];exact zaw _ _ _
  refine ⟨⟨by rw [hW];exact (((Below.refl _ _).alloc (Nat.le_refl _) _).alloc (by simp) _).drew,?_,fun k h1 h2=>?_⟩,hz,hs⟩
  .rw [hW]
   show ((w.alloc ob).alloc ze6).heap[w.heap.size]?=_
   rw [Below.heap_alloc _ _ _ (by simp)]
   exact heap_alloc_new _ _
  .obtain rfl:k=w.heap.size+1:=by omega
   exact ⟨_,_,hz,by decide,by decide⟩
 have HW3:Hid (∀ w1 W,W=w1.drew->Below w1.heap.size w1 W/\∀ k,w1.heap.size<=k->k<W.heap.size->Plain W k):=fun w1 W hW=>by
  refine ⟨by rw [hW];exact (Below.refl _ _).drew,fun k h1 h2=>?_⟩
  rw [hW] at h2
  have:k<w1.heap.size:=h2
  omega
 have HW4:Hid (∀ w1 W,W=(w1.alloc ze6).drew->(Below w1.heap.size w1 W/\∀ k,w1.heap.size<=k->k<W.heap.size->Plain W k)/\W.heap[w1.heap.size]?=some ze6/\W.heap.size=w1.heap.size+1):=fun w1 W hW=>by
  have hs:W.heap.size=w1.heap.size+1:=by rw [hW];show (w1.alloc _).heap.size=_;simp
  have hz:W.heap[w1.heap.size]?=some ze6:=by rw [hW];exact heap_alloc_new _ _
  refine ⟨⟨by rw [hW];exact ((Below.refl _ _).alloc (Nat.le_refl _) _).drew,fun k h1 h2=>?_⟩,hz,hs⟩
  obtain rfl:k=w1.heap.size:=by omega
  exact ⟨_,_,hz,by decide,by decide⟩
 unfold ze6 at HW2 HW4
 clear h hmok hB hn hdr hT hT2 b1 b2
 subst hob
 have HP1:Hid (Calls Tryz.prog 42 #[.pointer (some ⟨H,0,none⟩),.int .i64 a] (w.alloc (.cells #[.int .i64 5,.int .i64 a,.int .i64 b,.int .i64 c,.string str] 47)).drew fun e w1=>e=.returned (.tuple #[.agg #[.int .i64 m.dev,.int .i64 m.run,.int .i64 m.num,.int .i64 m.key],.int .i64 f])/\w.heap.size<w1.heap.size/\∀ o2,zof M CB w Pb H S Q O u tv cs hm' hd s o (.cells #[.int .i64 5,.int .i64 a,.int .i64 b,.int .i64 c,.string str] 47 (0,0)) (w1.alloc o2)):=by
  refine (HP.out _ (HW1.out _ rfl).1 (HW1.out _ rfl).2.1 (HW1.out _ rfl).2.2).mono ?_
  rintro e w1 ⟨rfl,ho1,_,ho3⟩
  exact ⟨rfl,ho1,fun o2=>ho3 _ ((Fr.refl _ _).alloc _)⟩
 have HP2:Hid (Calls Tryz.prog 42 #[.pointer (some ⟨H,0,none⟩),.int .i64 a] ((w.alloc (.cells #[.int .i64 5,.int .i64 a,.int .i64 b,.int .i64 c,.string str] 47)).alloc (.cells #[.int .i64 0,.int .i64 0,.int .i64 0,.int .i64 0] 87)).drew fun e w1=>e=.returned (.tuple #[.agg #[.int .i64 m.dev,.int .i64 m.run,.int .i64 m.num,.int .i64 m.key],.int .i64 f])/\w1.heap[w.heap.size+1]?=some (.cells #[.int .i64 0,.int .i64 0,.int .i64 0,.int .i64 0] 87 (0,0))/\∀ u0 u1 u2 u3,zof M CB w Pb H S Q O u tv cs hm' hd s o (.cells #[.int .i64 5,.int .i64 a,.int .i64 b,.int .i64 c,.string str] 47 (0,0)) ((((w1.setCell ⟨w.heap.size+1,0,none⟩ u0).setCell ⟨w.heap.size+1,1,none⟩ u1).setCell ⟨w.heap.size+1,2,none⟩ u2).setCell ⟨w.heap.size+1,3,none⟩ u3)):=by
  have hw2:=HW2.out _ rfl
  refine (HP.out _ hw2.1.1 hw2.1.2.1 hw2.1.2.2).mono ?_
  rintro e w1 ⟨rfl,_,ho2,ho3⟩
  refine ⟨rfl,(ho2 _ (by omega) (by rw [hw2.2.2];omega)).trans hw2.2.1,fun u0 u1 u2 u3=>ho3 _ (zji (Fr.refl _ _) ⟨by omega,by rw [hw2.2.2];omega⟩ _ _ _ _)⟩
 have HD1:Hid (∀ w1 X ox,w.heap.size<=X->w1.heap[X]?=some ox->zof M CB w Pb H S Q O u tv cs hm' hd s o (.cells #[.int .i64 5,.int .i64 a,.int .i64 b,.int .i64 c,.string str] 47 (0,0)) w1->Calls Tryz.prog 43 #[.pointer (some ⟨S,0,none⟩),.int .i64 a] w1.drew fun e w2=>e=.returned (.tuple #[.agg #[.int .i64 m.dev,.int .i64 m.run,.int .i64 m.num,.int .i64 m.key],.int .i64 f])/\w2.heap[X]?=some ox/\∀ o2,zfp M G ρ CB w Pb H S Q O u tv cs i (w2.alloc o2)):=fun w1 X ox hX hox hmid=>by
  refine (HD.out w1 _ X ox (HW3.out w1 _ rfl).1 (HW3.out w1 _ rfl).2 hX hox hmid).mono ?_
  rintro e w2 ⟨rfl,ho1,_,ho3⟩
  exact ⟨rfl,ho1,fun o2=>ho3 _ ((Fr.refl _ _).alloc _)⟩
 have HD2:Hid (∀ w1 X ox,w.heap.size<=X->w1.heap[X]?=some ox->zof M CB w Pb H S Q O u tv cs hm' hd s o (.cells #[.int .i64 5,.int .i64 a,.int .i64 b,.int .i64 c,.string str] 47 (0,0)) w1->Calls Tryz.prog 43 #[.pointer (some ⟨S,0,none⟩),.int .i64 a] (w1.alloc (.cells #[.int .i64 0,.int .i64 0,.int .i64 0,.int .i64 0] 87)).drew fun e w2=>e=.returned (.tuple #[.agg #[.int .i64 m.dev,.int .i64 m.run,.int .i64 m.num,.int .i64 m.key],.int .i64 f])/\w2.heap[w1.heap.size]?=some (.cells #[.int .i64 0,.int .i64 0,.int .i64 0,.int .i64 0] 87 (0,0))/\∀ u0 u1 u2 u3,((((w2.setCell ⟨w1.heap.size,0,none⟩ u0).setCell ⟨w1.heap.size,1,none⟩ u1).setCell ⟨w1.heap.size,2,none⟩ u2).setCell ⟨w1.heap.size,3,none⟩ u3).heap[X]?=some ox/\zfp M G ρ CB w Pb H S Q O u tv cs i ((((w2.setCell ⟨w1.heap.size,0,none⟩ u0).setCell ⟨w1.heap.size,1,none⟩ u1).setCell ⟨w1.heap.size,2,none⟩ u2).setCell ⟨w1.heap.size,3,none⟩ u3)):=fun w1 X ox hX hox hmid=>by
  have hw4:=HW4.out w1 _ rfl
  refine (HD.out w1 _ X ox hw4.1.1 hw4.1.2 hX hox hmid).mono ?_
  rintro e w2 ⟨rfl,ho1,ho2,ho3⟩
  have hne:X≠w1.heap.size:=by have:=zae hox;omega
  refine ⟨rfl,(ho2 _ (Nat.le_refl _) (by rw [hw4.2.2];omega)).trans hw4.2.1,fun u0 u1 u2 u3=>⟨?_,ho3 _ (zji (Fr.refl _ _) ⟨Nat.le_refl _,by rw [hw4.2.2];omega⟩ _ _ _ _)⟩⟩
  rw [Below.heap_setCell _ _ _ _ hne,Below.heap_setCell _ _ _ _ hne,Below.heap_setCell _ _ _ _ hne,Below.heap_setCell _ _ _ _ hne]
  exact ho1
 clear HP HD HW1 HW2 HW3 HW4 HOB
 go_enter Tryz.func13,Tryz.ntmps13
 go_upto_region 19 with fail
 go_cut [17,18] (fun x y wx=>∃ X,x=.pointer (some ⟨X,0,none⟩)/\y=.int .i64 f/\Hid (w.heap.size<=X/\wx.heap[X]?=some (.cells #[.int .i64 m.dev,.int .i64 m.run,.int .i64 m.num,.int .i64 m.key] 87 (0,0))/\zof M CB w Pb H S Q O u tv cs hm' hd s o (.cells #[.int .i64 5,.int .i64 a,.int .i64 b,.int .i64 c,.string str] 47 (0,0)) wx))
 case first=>
  go_region_with (go_at_call 42;first|(with_reducible refine HP1.out.mono ?_;rintro e w1 ⟨rfl,ho1,ho3⟩)|(with_reducible refine HP2.out.mono ?_;rintro e w1 ⟨rfl,hz1,hz3⟩;obtain ⟨n0,n1,n2,n3,y0,y1,y2,y3⟩:=zhU hz1))
  all_goals
   go_wp2_with fail
   go_meet
   case rel=>
    first
     | exact ⟨w.heap.size+1,rfl,rfl,Nat.le_succ _,zih hz1 _ _ _ _,hz3 _ _ _ _⟩
     | exact ⟨w1.heap.size,rfl,rfl,Nat.le_of_lt ho1,heap_alloc_new _ _,ho3 _⟩
 case rest=>
  obtain ⟨X,rfl,rfl,HX⟩:=hcut
  obtain ⟨q1,hob,hPw⟩:=HQ.out _ HX.out.2.2
  obtain ⟨m0,m1,m2,m3,m4⟩:=zgn hob
  have hOl:w.heap.size<wc.heap.size:=zae hob
  have HDA:=HD1.out wc X _ HX.out.1 HX.out.2.1 HX.out.2.2
  have HDB:=HD2.out wc X _ HX.out.1 HX.out.2.1 HX.out.2.2
  have HA:=zHd HDA
  have HB:=zHd HDB
  clear p0 hPl HP1 HP2 hob HQ HD1 HD2 HDA HDB
  go_upto_region 20 with fail
  go_cut [19,20] (fun x y wx=>∃ Y,x=.pointer (some ⟨Y,0,none⟩)/\y=.int .i64 f/\Hid (wx.heap[Y]?=some (.cells #[.int .i64 m.dev,.int .i64 m.run,.int .i64 m.num,.int .i64 m.key] 87 (0,0))/\wx.heap[X]?=some (.cells #[.int .i64 m.dev,.int .i64 m.run,.int .i64 m.num,.int .i64 m.key] 87 (0,0))/\zfp M G ρ CB w Pb H S Q O u tv cs i wx))
  case first=>
   go_region_with (go_at_call 43;first|(with_reducible refine HA.out.mono ?_;rintro e w2 ⟨rfl,ho1,ho3⟩)|(with_reducible refine HB.out.mono ?_;rintro e w2 ⟨rfl,hz1,hz3⟩;obtain ⟨n0,n1,n2,n3,y0,y1,y2,y3⟩:=zhU hz1))
   all_goals
    go_wp2_with fail
    go_meet
    case rel=>
     first
      | exact ⟨wc.heap.size,rfl,rfl,zih hz1 _ _ _ _,(hz3 _ _ _ _).1,(hz3 _ _ _ _).2⟩
      | exact ⟨w2.heap.size,rfl,rfl,heap_alloc_new _ _,(Below.heap_alloc _ _ _ (zae ho1)).trans ho1,ho3 _⟩
  case rest=>
   obtain ⟨Y,rfl,rfl,HY⟩:=hcut
   obtain ⟨r0,r1,r2,r3⟩:=zdF HY.out.1
   obtain ⟨t0,t1,t2,t3⟩:=zdF HY.out.2.1
   clear q1 m0 m1 m2 m3 m4 HA HB HX
   go_wp2_with fail
   go_ret
   exact ⟨rfl,HY.out.2.2⟩
end Go.Proofs.YtmmmnghiegajmaaGreat
