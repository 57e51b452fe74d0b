import Derived.Test.YtmmmnghiegajmaaGreatM15
import Derived.Test.YtmmmnghiegajmaaGreatM03
import Derived.Test.YtmmmnghiegajmaaGreatM14
import Derived.Test.YtmmmnghiegajmaaGreatM11
set_option maxHeartbeats 1000000
namespace Go.Proofs.Herald
open Go.RowKit
def zok (c a b:Int):ByteArray:=strOfNums [c]++strOfNums (zfj a)++strOfNums (zfj b)
def ziB (c a b:Int):ByteArray:=zok c a b++zfD (zok c a b)
theorem zbZ (l:List Int):(strOfNums l).size=l.length:=by simp [strOfNums,ByteArray.size]
theorem ze8 (a:Int):(zfj a).length=8:=by simp [zfj]
theorem zlN (c a b:Int):(zok c a b).size=17:=by
 unfold zok
 rw [ByteArray.size_append,ByteArray.size_append,zbZ,zbZ,zbZ,ze8,ze8]
 rfl
theorem zg7 (s:ByteArray):(zfD s).size=2:=by unfold zfD;rw [zbZ,zfU]
theorem zeU (c a b:Int):(ziB c a b).size=19:=by unfold ziB;rw [ByteArray.size_append,zlN,zg7]
end Go.Proofs.Herald
namespace Go.Proofs.YtmmmnghiegajmaaGreat
open Go.RowKit Go.Proofs.Herald
def zex (c a b:Int)(u7 u9 u10 u11 u12 u13 u14 u15 u16 u17:Value):Act:=
 {tmps:=#[.int .u8 c,.int .i64 a,.int .i64 b,undef,undef,undef,.string ⟨#[]⟩,u7,undef,u9,u10,u11,u12,u13,u14,u15,u16,u17,undef,undef,undef,undef,undef],defers:=[]}
structure RecAt (c a b:Int)(A E1 E2:ByteArray)(w:World)(listed:Array Bool)(W:World)(u7 u9 u10 u11 u12 u13 u14 u15 u16 u17:Value):Prop where
 sz:listed.size=10
 bel:Below w.heap.size w W
 h0:listed.getD 0 false=true->u9=.int .u8 c
 h1:listed.getD 1 false=true->∃ g,u10=.slice (some ⟨g,0,none⟩) 1 1/\g<W.heap.size/\W.cell? ⟨g,0,none⟩=some (.int .u8 c)
 h2:listed.getD 2 false=true->u11=.string A
 h3:listed.getD 3 false=true->u12=.int .i64 a
 h4:listed.getD 4 false=true->u13=.string E1
 h5:listed.getD 5 false=true->u14=.string (A++E1)
 h6:listed.getD 6 false=true->u15=.int .i64 b
 h7:listed.getD 7 false=true->u16=.string E2
 h8:listed.getD 8 false=true->u17=.string (A++E1++E2)
 h9:listed.getD 9 false=true->u7=.string (A++E1++E2)
def zqh (c a b:Int)(A E1 E2:ByteArray)(w:World)(listed:Array Bool)(ac:Act)(W:World):Prop:=
 ∃ u7 u9 u10 u11 u12 u13 u14 u15 u16 u17,ac=zex c a b u7 u9 u10 u11 u12 u13 u14 u15 u16 u17/\RecAt c a b A E1 E2 w listed W u7 u9 u10 u11 u12 u13 u14 u15 u16 u17
theorem zap {listed:Array Bool}{i j:Nat}(hij:i≠j)(h:(listed.setIfInBounds i true).getD j false=true):listed.getD j false=true:=by rwa [getD_set_ne false hij] at h
set_option maxRecDepth 20000 in
theorem zi0 (c a b:Int)(w:World):
  Calls Tryz.prog 95 #[.int .u8 c,.int .i64 a,.int .i64 b] w fun e w'=>e=.returned (.string (ziB c a b))/\Below w.heap.size w w':=by
 obtain ⟨A,hA⟩:∃ A,A=strOfNums [c]:=⟨_,rfl⟩
 obtain ⟨E1,hE1⟩:∃ E,E=strOfNums (zfj a):=⟨_,rfl⟩
 obtain ⟨E2,hE2⟩:∃ E,E=strOfNums (zfj b):=⟨_,rfl⟩
 have HC:∀ (W:World) (g:Nat),W.cell? ⟨g,0,none⟩=some (.int .u8 c)->(convert 80 9 (.slice (some ⟨g,0,none⟩) 1 1)).run Tryz.prog W=.ok (.string A) W:=fun W g hW=>by
  rw [hA]
  exact run_convert_bytes_arg (w:=W) 80 5 Tryz.underlying80 Tryz.underlying5 g 0 1 1 [c] rfl (fun i hi=>by
   match i,hi with
   | 0,_=>exact hW) 9 Tryz.underlying9
 have H1:Hid (∀ W:World,Calls Tryz.prog 121 #[.int .i64 a] W fun e w'=>e=.returned (.string E1)/\Below W.heap.size W w'):=fun W=>by rw [hE1];exact zjd a W
 have H2:Hid (∀ W:World,Calls Tryz.prog 121 #[.int .i64 b] W fun e w'=>e=.returned (.string E2)/\Below W.heap.size W w'):=fun W=>by rw [hE2];exact zjd b W
 have zA:A.size=1:=by rw [hA,zbZ];rfl
 have z1:E1.size=8:=by rw [hE1,zbZ,ze8]
 have z2:E2.size=8:=by rw [hE2,zbZ,ze8]
 have HR:Hid (ziB c a b=(A++E1++E2)++zfD (A++E1++E2)):=by show _=_;rw [hA,hE1,hE2];rfl
 clear hA hE1 hE2
 go_enter Tryz.func95,Tryz.ntmps95
 go_wp2_with fail
 refine zf6 (by kernel_rfl) (zqh c a b A E1 E2 w) ?_ ?_ ?_
 .exact ⟨undef,undef,undef,undef,undef,undef,undef,undef,undef,undef,rfl,by simp,(Below.refl _ _).drew,by simp,by simp,by simp,by simp,by simp,by simp,by simp,by simp,by simp,by simp⟩
 .rintro listed ac W i ⟨u7,u9,u10,u11,u12,u13,u14,u15,u16,u17,rfl,R⟩ hi
  obtain ⟨hun,o,ho,hall⟩:=mem_ready.1 hi
  clear hi
  have hi10:i<10:=(Array.getElem?_eq_some_iff.1 ho).1
  rcases (show i=0\/i=1\/i=2\/i=3\/i=4\/i=5\/i=6\/i=7\/i=8\/i=9 by omega) with rfl|rfl|rfl|rfl|rfl|rfl|rfl|rfl|rfl|rfl
  .simp at ho
   subst ho
   simp [wpOp,Region.wanted,Oper.wp,go_sem,zex]
   left
   exact ⟨u7,(.int .u8 c),u10,u11,u12,u13,u14,u15,u16,u17,rfl,⟨by simpa using R.sz,R.bel,fun _=>rfl,fun hh=>(fun x=>x) (R.h1 (zap (by decide) hh)),fun hh=>R.h2 (zap (by decide) hh),fun hh=>R.h3 (zap (by decide) hh),fun hh=>R.h4 (zap (by decide) hh),fun hh=>R.h5 (zap (by decide) hh),fun hh=>R.h6 (zap (by decide) hh),fun hh=>R.h7 (zap (by decide) hh),fun hh=>R.h8 (zap (by decide) hh),fun hh=>R.h9 (zap (by decide) hh)⟩⟩
  .simp at ho
   subst ho
   have g0:listed.getD 0 false=true:=hall {on:=0,ground:=.data} (by simp) rfl
   obtain rfl:=R.h0 g0
   simp [wpOp,Region.wanted,Oper.wp,go_sem,zex]
   left
   exact ⟨u7,_,(.slice (some ⟨W.heap.size,0,none⟩) 1 1),u11,u12,u13,u14,u15,u16,u17,rfl,⟨by simpa using R.sz,R.bel.alloc R.bel.size _,fun hh=>R.h0 (zap (by decide) hh),fun _=>⟨_,rfl,by simp,by simp [go_sem]⟩,fun hh=>R.h2 (zap (by decide) hh),fun hh=>R.h3 (zap (by decide) hh),fun hh=>R.h4 (zap (by decide) hh),fun hh=>R.h5 (zap (by decide) hh),fun hh=>R.h6 (zap (by decide) hh),fun hh=>R.h7 (zap (by decide) hh),fun hh=>R.h8 (zap (by decide) hh),fun hh=>R.h9 (zap (by decide) hh)⟩⟩
  .simp at ho
   subst ho
   have g1:listed.getD 1 false=true:=hall {on:=1,ground:=.data} (by simp) rfl
   obtain ⟨g,rfl,hgl,hgc⟩:=R.h1 g1
   have hcv:=HC W g hgc
   simp [wpOp,Region.wanted,Oper.wp,go_sem,zex,hcv]
   left
   exact ⟨u7,u9,_,(.string A),u12,u13,u14,u15,u16,u17,rfl,⟨by simpa using R.sz,R.bel,fun hh=>R.h0 (zap (by decide) hh),fun hh=>(fun x=>x) (R.h1 (zap (by decide) hh)),fun _=>rfl,fun hh=>R.h3 (zap (by decide) hh),fun hh=>R.h4 (zap (by decide) hh),fun hh=>R.h5 (zap (by decide) hh),fun hh=>R.h6 (zap (by decide) hh),fun hh=>R.h7 (zap (by decide) hh),fun hh=>R.h8 (zap (by decide) hh),fun hh=>R.h9 (zap (by decide) hh)⟩⟩
  .simp at ho
   subst ho
   simp [wpOp,Region.wanted,Oper.wp,go_sem,zex]
   left
   exact ⟨u7,u9,u10,u11,(.int .i64 a),u13,u14,u15,u16,u17,rfl,⟨by simpa using R.sz,R.bel,fun hh=>R.h0 (zap (by decide) hh),fun hh=>(fun x=>x) (R.h1 (zap (by decide) hh)),fun hh=>R.h2 (zap (by decide) hh),fun _=>rfl,fun hh=>R.h4 (zap (by decide) hh),fun hh=>R.h5 (zap (by decide) hh),fun hh=>R.h6 (zap (by decide) hh),fun hh=>R.h7 (zap (by decide) hh),fun hh=>R.h8 (zap (by decide) hh),fun hh=>R.h9 (zap (by decide) hh)⟩⟩
  .simp at ho
   subst ho
   have g3:listed.getD 3 false=true:=hall {on:=3,ground:=.data} (by simp) rfl
   obtain rfl:=R.h3 g3
   simp [wpOp,Region.wanted,Oper.wp,go_sem,zex]
   left
   refine (H1.out _).mono ?_
   rintro e w1 ⟨rfl,hb1⟩
   exact ⟨u7,u9,u10,u11,_,(.string E1),u14,u15,u16,u17,rfl,⟨by simpa using R.sz,R.bel.trans (hb1.mono R.bel.size),fun hh=>R.h0 (zap (by decide) hh),fun hh=>(fun ⟨g,e1,e2,e3⟩=>⟨g,e1,Nat.lt_of_lt_of_le e2 hb1.size,(hb1.cell (p:=⟨g,0,none⟩) e2).trans e3⟩) (R.h1 (zap (by decide) hh)),fun hh=>R.h2 (zap (by decide) hh),fun hh=>R.h3 (zap (by decide) hh),fun _=>rfl,fun hh=>R.h5 (zap (by decide) hh),fun hh=>R.h6 (zap (by decide) hh),fun hh=>R.h7 (zap (by decide) hh),fun hh=>R.h8 (zap (by decide) hh),fun hh=>R.h9 (zap (by decide) hh)⟩⟩
  .simp at ho
   subst ho
   have g2:listed.getD 2 false=true:=hall {on:=2,ground:=.data} (by simp) rfl
   have g4:listed.getD 4 false=true:=hall {on:=4,ground:=.data} (by simp) rfl
   obtain rfl:=R.h2 g2
   obtain rfl:=R.h4 g4
   simp [wpOp,Region.wanted,Oper.wp,go_sem,zex,zA,z1]
   left
   exact ⟨u7,u9,u10,_,u12,_,(.string (A++E1)),u15,u16,u17,rfl,⟨by simpa using R.sz,R.bel,fun hh=>R.h0 (zap (by decide) hh),fun hh=>(fun x=>x) (R.h1 (zap (by decide) hh)),fun hh=>R.h2 (zap (by decide) hh),fun hh=>R.h3 (zap (by decide) hh),fun hh=>R.h4 (zap (by decide) hh),fun _=>rfl,fun hh=>R.h6 (zap (by decide) hh),fun hh=>R.h7 (zap (by decide) hh),fun hh=>R.h8 (zap (by decide) hh),fun hh=>R.h9 (zap (by decide) hh)⟩⟩
  .simp at ho
   subst ho
   simp [wpOp,Region.wanted,Oper.wp,go_sem,zex]
   left
   exact ⟨u7,u9,u10,u11,u12,u13,u14,(.int .i64 b),u16,u17,rfl,⟨by simpa using R.sz,R.bel,fun hh=>R.h0 (zap (by decide) hh),fun hh=>(fun x=>x) (R.h1 (zap (by decide) hh)),fun hh=>R.h2 (zap (by decide) hh),fun hh=>R.h3 (zap (by decide) hh),fun hh=>R.h4 (zap (by decide) hh),fun hh=>R.h5 (zap (by decide) hh),fun _=>rfl,fun hh=>R.h7 (zap (by decide) hh),fun hh=>R.h8 (zap (by decide) hh),fun hh=>R.h9 (zap (by decide) hh)⟩⟩
  .simp at ho
   subst ho
   have g6:listed.getD 6 false=true:=hall {on:=6,ground:=.data} (by simp) rfl
   obtain rfl:=R.h6 g6
   simp [wpOp,Region.wanted,Oper.wp,go_sem,zex]
   left
   refine (H2.out _).mono ?_
   rintro e w1 ⟨rfl,hb1⟩
   exact ⟨u7,u9,u10,u11,u12,u13,u14,_,(.string E2),u17,rfl,⟨by simpa using R.sz,R.bel.trans (hb1.mono R.bel.size),fun hh=>R.h0 (zap (by decide) hh),fun hh=>(fun ⟨g,e1,e2,e3⟩=>⟨g,e1,Nat.lt_of_lt_of_le e2 hb1.size,(hb1.cell (p:=⟨g,0,none⟩) e2).trans e3⟩) (R.h1 (zap (by decide) hh)),fun hh=>R.h2 (zap (by decide) hh),fun hh=>R.h3 (zap (by decide) hh),fun hh=>R.h4 (zap (by decide) hh),fun hh=>R.h5 (zap (by decide) hh),fun hh=>R.h6 (zap (by decide) hh),fun _=>rfl,fun hh=>R.h8 (zap (by decide) hh),fun hh=>R.h9 (zap (by decide) hh)⟩⟩
  .simp at ho
   subst ho
   have g5:listed.getD 5 false=true:=hall {on:=5,ground:=.data} (by simp) rfl
   have g7:listed.getD 7 false=true:=hall {on:=7,ground:=.data} (by simp) rfl
   obtain rfl:=R.h5 g5
   obtain rfl:=R.h7 g7
   simp [wpOp,Region.wanted,Oper.wp,go_sem,zex,zA,z1,z2]
   left
   exact ⟨u7,u9,u10,u11,u12,u13,_,u15,_,(.string (A++E1++E2)),rfl,⟨by simpa using R.sz,R.bel,fun hh=>R.h0 (zap (by decide) hh),fun hh=>(fun x=>x) (R.h1 (zap (by decide) hh)),fun hh=>R.h2 (zap (by decide) hh),fun hh=>R.h3 (zap (by decide) hh),fun hh=>R.h4 (zap (by decide) hh),fun hh=>R.h5 (zap (by decide) hh),fun hh=>R.h6 (zap (by decide) hh),fun hh=>R.h7 (zap (by decide) hh),fun _=>rfl,fun hh=>R.h9 (zap (by decide) hh)⟩⟩
  .simp at ho
   subst ho
   have g8:listed.getD 8 false=true:=hall {on:=8,ground:=.data} (by simp) rfl
   obtain rfl:=R.h8 g8
   simp [wpOp,Region.wanted,Oper.wp,go_sem,zex]
   left
   exact ⟨(.string (A++E1++E2)),u9,u10,u11,u12,u13,u14,u15,u16,_,rfl,⟨by simpa using R.sz,R.bel,fun hh=>R.h0 (zap (by decide) hh),fun hh=>(fun x=>x) (R.h1 (zap (by decide) hh)),fun hh=>R.h2 (zap (by decide) hh),fun hh=>R.h3 (zap (by decide) hh),fun hh=>R.h4 (zap (by decide) hh),fun hh=>R.h5 (zap (by decide) hh),fun hh=>R.h6 (zap (by decide) hh),fun hh=>R.h7 (zap (by decide) hh),fun hh=>R.h8 (zap (by decide) hh),fun _=>rfl⟩⟩
 .rintro listed ac W ⟨u7,u9,u10,u11,u12,u13,u14,u15,u16,u17,rfl,R⟩ hr
  have hd:=zjD (by rw [R.sz];rfl) (by kernel_rfl) hr
  obtain rfl:=R.h0 (hd 0 (by decide))
  obtain ⟨g,rfl,_,_⟩:=R.h1 (hd 1 (by decide))
  obtain rfl:=R.h2 (hd 2 (by decide))
  obtain rfl:=R.h3 (hd 3 (by decide))
  obtain rfl:=R.h4 (hd 4 (by decide))
  obtain rfl:=R.h5 (hd 5 (by decide))
  obtain rfl:=R.h6 (hd 6 (by decide))
  obtain rfl:=R.h7 (hd 7 (by decide))
  obtain rfl:=R.h8 (hd 8 (by decide))
  obtain rfl:=R.h9 (hd 9 (by decide))
  have HB:Hid (Below w.heap.size w W):=R.bel
  clear R hd hr
  have HK:Hid (∀ W:World,Calls Tryz.prog 116 #[.string (A++E1++E2)] W fun e w'=>e=.returned (.string (zfD (A++E1++E2)))/\Below W.heap.size W w'):=fun W=>zmH _ (by simp only [ByteArray.size_append];omega) (by simp only [ByteArray.size_append];omega) W
  have zz:(zfD (A++E1++E2)).size=2:=zg7 _
  have zy:(A++E1++E2).size=17:=by simp only [ByteArray.size_append];omega
  unfold zex
  generalize A++E1++E2=Z at *
  generalize zfD Z=Y at *
  clear HC H1 H2 zA z1 z2
  go_wp2_with fail
  refine (HK.out _).mono ?_
  rintro e w1 ⟨rfl,hb1⟩
  go_wp2_with fail
  go_ret
  rw [HR.out]
  exact ⟨rfl,HB.out.trans (hb1.mono HB.out.size)⟩
end Go.Proofs.YtmmmnghiegajmaaGreat
set_option maxHeartbeats 1000000
namespace Go.Proofs.YtmmmnghiegajmaaGreat
open Go.RowKit Go.Proofs.Herald
set_option maxRecDepth 20000 in
theorem zod (S:Nat)(cs:Array Value)(rec:ByteArray)(c a b:Int)(w:World)(hS:w.heap[S]?=some (.cells cs 60 (0,0)))(h7:cs[7]?=some (.string rec))(hr:rec.size<=1000000000000):
  Calls Tryz.prog 65 #[.pointer (some ⟨S,0,none⟩),.int .u8 c,.int .i64 a,.int .i64 b] w fun e w'=>e=.returned (.tuple #[])/\w'.heap[S]?=some (.cells (cs.setIfInBounds 7 (.string (rec++ziB c a b))) 60 (0,0))/\Fr (fun k=>k=S) w w':=by
 have c7:w.cell? ⟨S,7,none⟩=some (.string rec):=(zaa hS).trans h7
 have z7:w.frozen? ⟨S,7,none⟩=false:=zab hS
 have hSl:S<w.heap.size:=zae hS
 obtain ⟨Z,hZ⟩:∃ Z,Z=ziB c a b:=⟨_,rfl⟩
 have zz:Z.size=19:=by rw [hZ];exact zeU c a b
 rw [<- hZ]
 have HR:Hid (∀ W:World,Calls Tryz.prog 95 #[.int .u8 c,.int .i64 a,.int .i64 b] W fun e w'=>e=.returned (.string Z)/\Below W.heap.size W w'):=fun W=>by rw [hZ];exact zi0 c a b W
 have HS:=zHd hS
 have HF:Hid (∀ w1,Below w.drew.heap.size w.drew w1->w1.cell? ⟨S,7,none⟩=some (.string rec)/\w1.frozen? ⟨S,7,none⟩=false/\S<w1.heap.size):=fun w1 hb=>by
  have h1:w1.heap[S]?=some (.cells cs 60 (0,0)):=(hb.block S hSl).trans HS.out
  exact ⟨(zaa h1).trans h7,zab h1,zae h1⟩
 clear hZ hS h7
 go_enter Tryz.func65,Tryz.ntmps65
 go_region_with (go_at_call 95;refine (HR.out _).mono ?_;rintro e w1 ⟨rfl,hb1⟩;obtain ⟨k1,k2,k3⟩:=HF.out w1 hb1)
 all_goals
  go_end0
  have h1:w1.heap[S]?=some (.cells cs 60 (0,0)):=(hb1.block S hSl).trans HS.out
  refine ⟨rfl,zah _ h1,?_⟩
  have f1:Fr (fun k=>k=S) w w1:=⟨hb1.os,hb1.tape,hb1.output,hb1.size,fun k hk _=>hb1.block k hk⟩
  exact f1.setCell ⟨S,7,none⟩ (Or.inl rfl) _
open Go.RowKit Go.Proofs.Herald
structure Mode (RT:Type) where
 E:Eng RT
 s:Sd
 B0:Nat
 link:World->Rs->RT->Prop
def Still (B0:Nat)(w w':World):Prop:=
 ∀ k,k<w.heap.size->(k<B0\/∃ c t z,w.heap[k]?=some (.cells c t z)/\(t=177\/t=133))->w'.heap[k]?=w.heap[k]?
structure ModeOk {RT:Type}(M:Mode RT):Prop where
 pub:∀ w x r,M.link w x r->M.E.pub r=zcE x.p
 keep:∀ w w' x r,M.link w x r->Still M.B0 w w'->M.link w' x r
 eid:∀ now yes q r,(M.E.pub (M.E.on now yes q r).2.1).id=(M.E.pub r).id
 on:∀ (S Q:Nat) (pv:Value) (rec:ByteArray) (now last:Int) (qv:Nat->Value) (qs:Nat->List Msg) (rs:List Rs) (w:World) (x:Rs) (r:RT) (d:Nat) (yes:Bool),SimAt w S Q M.s pv rec now last qv qs rs->(∀ k,zdc S Q pv qv rs k->M.B0<=k)->x∈rs->M.link w x r ->
  d<3->x.p.dev=(d:Nat)->(qs d).length<=4->0<=x.p.sent->x.p.sent<=999999999999990000->0<=now->now<=1000000000->rs.length<=1000->(yes=true->x.p.num≠0) ->
  Calls Tryz.prog 71 #[.pointer (some ⟨S,0,none⟩),.pointer (some ⟨x.P,0,none⟩),.bool yes] w fun e w'=>e=.returned (.tuple #[]) /\
   ∃ x' v pv',RunOut w w' S Q M.s pv rec now last qv qs (zbN rs) x d (M.E.on now yes (qs d) r).1 x' (M.E.on now yes (qs d) r).2.2 v pv'/\((M.E.on now yes (qs d) r).2.2=false->M.link w' x' (M.E.on now yes (qs d) r).2.1)
structure SimH {RT:Type}(M:Mode RT)(w:World)(S Q:Nat)(rec:ByteArray)(h:Her RT)(pv:Value)(qv:Nat->Value)(rs:List Rs):Prop where
 at':SimAt w S Q M.s pv rec h.now h.last qv h.qs rs
 base:∀ k,zdc S Q pv qv rs k->M.B0<=k
 rel:zgq (M.link w) rs h.rs
structure SimOut {RT:Type}(M:Mode RT)(w:World)(S Q:Nat)(pv:Value)(qv:Nat->Value)(rs:List Rs)(rec:ByteArray)(h:Her RT)(w':World):Prop where
 ex:∃ pv' qv' rs',SimH M w' S Q rec h pv' qv' rs'/\∀ k,zdc S Q pv' qv' rs' k->zdc S Q pv qv rs k\/w.heap.size<=k
 fr:Fr (zdc S Q pv qv rs) w w'
theorem SimOut.same {RT:Type}{M:Mode RT}{w w':World}{S Q:Nat}{pv:Value}{qv:Nat->Value}{rs:List Rs}{rec:ByteArray}{h:Her RT}(H:SimH M w S Q rec h pv qv rs)(hs:SameH w w')(hk:∀ x r,M.link w x r->M.link w' x r):SimOut M w S Q pv qv rs rec h w':=by
 refine ⟨⟨pv,qv,rs,⟨H.at'.keep fun k _=>by rw [hs.heap],H.base,?_⟩,fun k hk=>.inl hk⟩,⟨hs.os,hs.tape,hs.output,by rw [hs.heap];exact Nat.le_refl _,fun k _ _=>by rw [hs.heap]⟩⟩
 have:∀ {l:List Rs} {m:List RT},zgq (M.link w) l m->zgq (M.link w') l m:=by
  intro l
  induction l with
  | nil=>intro m h;cases m with|nil=>trivial|cons _ _=>exact h.elim
  | cons a l ih=>intro m h;cases m with|nil=>exact h.elim|cons b m=>exact ⟨hk _ _ h.1,ih h.2⟩
 exact this H.rel
theorem zcC {A B:Type}{ρ σ:A->B->Prop}:∀ {l:List A} {m:List B},(∀ a b,ρ a b->σ a b)->zgq ρ l m->zgq σ l m
 | [],[],_,_=>trivial
 | _::_,_::_,hi,h=>⟨hi _ _ h.1,zcC hi h.2⟩
 | [],_::_,_,h=>h.elim
 | _::_,[],_,h=>h.elim
theorem SimAt.still {w w':World}{S Q:Nat}{s:Sd}{pv:Value}{rec:ByteArray}{now last:Int}{qv:Nat->Value}{qs:Nat->List Msg}{rs:List Rs}{B0:Nat}(h:SimAt w S Q s pv rec now last qv qs rs)(hb:∀ k,zdc S Q pv qv rs k->B0<=k)(hf:Fr (zdc S Q pv qv rs) w w'):Still B0 w w':=by
 intro k hk hd
 refine hf.block k hk fun ho=>?_
 rcases hd with hd|⟨c,t,z,hc,ht⟩
 .have:=hb k ho;omega
 .obtain ⟨c2,t2,hc2,ht2⟩:=h.sort ho
  rw [hc] at hc2
  simp only [Option.some.injEq,Obj.cells.injEq] at hc2
  obtain ⟨_,rfl,_⟩:=hc2
  rcases ht with rfl|rfl
  .revert ht2;decide
  .revert ht2;decide
theorem zje {RT:Type}{M:Mode RT}(hM:ModeOk M){w:World}(id:Int):∀ {rs:List Rs} {l:List RT},zgq (M.link w) rs l ->
  ((zbN rs).find? (fun x=>x.2==id)=none/\zc3 M.E l id=none)\/∃ x r,x∈rs/\r∈l/\(zbN rs).find? (fun x=>x.2==id)=some (x.P,x.p.id)/\zc3 M.E l id=some r/\M.link w x r/\x.p.id=id:=by
 intro rs
 induction rs with
 | nil=>
  intro l h
  cases l with
  | nil=>exact .inl ⟨rfl,rfl⟩
  | cons _ _=>exact h.elim
 | cons x rs ih=>
  intro l h
  cases l with
  | nil=>exact h.elim
  | cons r l=>
   have hp:=hM.pub w x r h.1
   by_cases hid:x.p.id=id
   .right
    refine ⟨x,r,List.mem_cons_self ..,List.mem_cons_self ..,?_,?_,h.1,hid⟩
    .simp [zbN,hid]
    .unfold zc3
     rw [List.find?_cons,hp]
     simp [zcE,hid]
   .have e1:(zbN (x::rs)).find? (fun x=>x.2==id)=(zbN rs).find? (fun x=>x.2==id):=by
     simp [zbN,hid]
    have e2:zc3 M.E (r::l) id=zc3 M.E l id:=by
     have hb:((zcE x.p).id==id)=false:=by simpa [zcE] using hid
     unfold zc3
     rw [List.find?_cons,hp,hb]
    rw [e1,e2]
    rcases ih h.2 with h1|⟨y,s,hy,hs,h1⟩
    .exact .inl h1
    .exact .inr ⟨y,s,List.mem_cons_of_mem _ hy,List.mem_cons_of_mem _ hs,h1⟩
theorem zeZ {RT:Type}{M:Mode RT}(hM:ModeOk M)(S Q:Nat)(rec:ByteArray)(h:Her RT)(pv:Value)(qv:Nat->Value)(rs:List Rs)(c a b:Int)(w:World)(H:SimH M w S Q rec h pv qv rs)(hr:rec.size<=1000000000000):
  Calls Tryz.prog 65 #[.pointer (some ⟨S,0,none⟩),.int .u8 c,.int .i64 a,.int .i64 b] w fun e w'=>e=.returned (.tuple #[])/\SimH M w' S Q (rec++ziB c a b) h pv qv rs/\Fr (fun k=>k=S) w w':=by
 refine (zod S _ rec c a b w H.at'.sB rfl hr).mono ?_
 rintro e w' ⟨rfl,hS,hf⟩
 have hfo:Fr (zdc S Q pv qv rs) w w':=hf.mono fun k _ hk=>.inl hk
 refine ⟨rfl,⟨H.at'.setS hS fun k ho hk=>hf.block k (H.at'.lt ho) hk,H.base,zcC (fun x r hl=>hM.keep w w' x r hl (H.at'.still H.base hfo)) H.rel⟩,hf⟩
def zoe:Eng Rs:=⟨fun x=>zcE x.p,fun _ _=>⟨0,0,.slice none 0 0,.slice none 0 0,zaZ 0 0⟩,fun _ q r=>(q,r,true),fun _ _ q r=>(q,r,true)⟩
theorem zj2 (rs:List Rs)(x:Rs)(done:Bool):zeG rs x done=zbe zoe rs x done:=rfl
theorem SimH.after {RT:Type}{M:Mode RT}(hM:ModeOk M){w w':World}{S Q:Nat}{rec:ByteArray}{h:Her RT}{pv:Value}{qv:Nat->Value}{rs:List Rs}(H:SimH M w S Q rec h pv qv rs){x x':Rs}{r':RT}{d:Nat}{q':List Msg}{done:Bool}{v pv':Value}(hx:x∈rs)(hd:d<3)
  (ho:RunOut w w' S Q M.s pv rec h.now h.last qv h.qs (zbN rs) x d q' x' done v pv') (hid:(M.E.pub r').id=x.p.id) (hl:done=false->M.link w' x' r'):
  SimH M w' S Q rec {h with qs:=zcc h.qs d q',rs:=zbe M.E h.rs r' done} pv' (upd qv d v) (zeG rs x' done)/\Fr (zdc S Q pv qv rs) w w'/\∀ k,zdc S Q pv' (upd qv d v) (zeG rs x' done) k->zdc S Q pv qv rs k\/w.heap.size<=k:=by
 obtain ⟨h1,h2,h3⟩:=H.at'.after hx hd ho
 have hst:=H.at'.still H.base h2
 have hpub:∀ a b,M.link w' a b->zoe.pub a=M.E.pub b:=fun a b hab=>(hM.pub w' a b hab).symm
 refine ⟨⟨h1,fun k hk=>?_,?_⟩,h2,h3⟩
 .rcases h3 k hk with h4|h4
  .exact H.base k h4
  .have:=H.base S (.inl rfl)
   have:=zae H.at'.sB
   omega
 .rw [zj2]
  exact zif hpub (zcC (fun a b hab=>hM.keep w w' a b hab hst) H.rel) (by rw [hid];exact ho.id) hl
end Go.Proofs.YtmmmnghiegajmaaGreat
