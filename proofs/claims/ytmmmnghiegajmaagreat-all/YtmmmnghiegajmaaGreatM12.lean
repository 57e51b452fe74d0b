import Derived.Test.YtmmmnghiegajmaaGreatM11
import Derived.Test.YtmmmnghiegajmaaGreatM02
import Derived.Test.YtmmmnghiegajmaaGreatM09
set_option maxHeartbeats 2000000
set_option maxRecDepth 20000
open Go.RowKit Go.Proofs.Herald Go.Proofs.Tryz
namespace Go.Proofs.Herald
def nP (c a b:Int):ByteArray:=strOfNums [c]++strOfNums (kL a)++strOfNums (kL b)
def gJ (c a b:Int):ByteArray:=nP c a b++ig (nP c a b)
theorem mH (l:List Int):(strOfNums l).size=l.length:=by simp[strOfNums,ByteArray.size]
theorem pL (a:Int):(kL a).length=8:=by simp[kL]
theorem Bb (c a b:Int):(nP c a b).size=17:=by
 unfold nP;rw[ByteArray.size_append,ByteArray.size_append,mH,mH,mH,pL,pL];rfl
theorem uH (s:ByteArray):(ig s).size=2:=by unfold ig;rw[mH,oM]
theorem CV (c a b:Int):(gJ c a b).size=19:=by unfold gJ;rw[ByteArray.size_append,Bb,uH]
end Go.Proofs.Herald
namespace Go.Proofs.YtmmmnghiegajmaaGreat
def kn (c a b:Int)(u7 u9 u10 u11 u12 u13 u14 u15 u16 u17:Value):Act:=
 {tmps:=#[.int .u8 c,.int .i64 a,.int .i64 b,undef,undef,undef,.string ⟨#[]⟩,u7,undef,u9,u10,u11,u12,u13,u14,u15,u16,u17,undef,undef,undef,undef,undef],defers:=[]}
structure nY (c a b:Int)(A E1 E2:ByteArray)(w:World)(listed:Array Bool)(W:World)(u7 u9 u10 u11 u12 u13 u14 u15 u16 u17:Value):Prop where
 sz:listed.size=10
 bel:Below w.heap.size w W
 h0:listed.getD 0 false=true->u9=.int .u8 c
 h1:listed.getD 1 false=true->∃ g,u10=.slice (some ⟨g,0,none⟩) 1 1/\g<W.heap.size/\W.cell? ⟨g,0,none⟩=some (.int .u8 c)
 h2:listed.getD 2 false=true->u11=.string A
 h3:listed.getD 3 false=true->u12=.int .i64 a
 h4:listed.getD 4 false=true->u13=.string E1
 h5:listed.getD 5 false=true->u14=.string (A++E1)
 h6:listed.getD 6 false=true->u15=.int .i64 b
 h7:listed.getD 7 false=true->u16=.string E2
 h8:listed.getD 8 false=true->u17=.string (A++E1++E2)
 h9:listed.getD 9 false=true->u7=.string (A++E1++E2)
def FA (c a b:Int)(A E1 E2:ByteArray)(w:World)(listed:Array Bool)(ac:Act)(W:World):Prop:=
 ∃ u7 u9 u10 u11 u12 u13 u14 u15 u16 u17,ac=kn c a b u7 u9 u10 u11 u12 u13 u14 u15 u16 u17/\nY c a b A E1 E2 w listed W u7 u9 u10 u11 u12 u13 u14 u15 u16 u17
theorem aQ {listed:Array Bool}{i j:Nat}(hij:i≠j)(h:(listed.setIfInBounds i true).getD j false=true):listed.getD j false=true:=by rwa [getD_set_ne false hij]at h
theorem zt (c a b:Int)(w:World):
  Calls prog 95 #[.int .u8 c,.int .i64 a,.int .i64 b] w fun e w'=>e=.returned (.string (gJ c a b))/\Below w.heap.size w w':=by
 obtain⟨A,hA⟩:∃ A,A=strOfNums [c]:=⟨_,rfl⟩;obtain⟨E1,A3⟩:∃ E,E=strOfNums (kL a):=⟨_,rfl⟩;obtain⟨E2,A4⟩:∃ E,E=strOfNums (kL b):=⟨_,rfl⟩;have HC:∀ (W:World) (g:Nat),W.cell? ⟨g,0,none⟩=some (.int .u8 c)->(convert 80 9 (.slice (some ⟨g,0,none⟩) 1 1)).run prog W=.ok (.string A) W:=fun W g hW=>by
  rw[hA];exact run_convert_bytes_arg (w:=W) 80 5 underlying80 underlying5 g 0 1 1 [c] rfl (fun i hi=>by
   match i,hi with
   | 0,_=>exact hW) 9 underlying9
 have H1:Hid (∀ W:World,Calls prog 121 #[.int .i64 a] W fun e w'=>e=.returned (.string E1)/\Below W.heap.size W w'):=fun W=>by rw[A3];exact vH a W
 have H2:Hid (∀ W:World,Calls prog 121 #[.int .i64 b] W fun e w'=>e=.returned (.string E2)/\Below W.heap.size W w'):=fun W=>by rw[A4];exact vH b W
 have zA:A.size=1:=by rw[hA,mH];rfl
 have z1:E1.size=8:=by rw[A3,mH,pL]
 have z2:E2.size=8:=by rw[A4,mH,pL]
 have HR:Hid (gJ c a b=(A++E1++E2)++ig (A++E1++E2)):=by show _=_;rw[hA,A3,A4];rfl
 clear hA A3 A4;go_enter func95,ntmps95
 go_wp2_with fail
 refine tN (by kernel_rfl) (FA c a b A E1 E2 w) ?_ ?_ ?_
 .exact⟨undef,undef,undef,undef,undef,undef,undef,undef,undef,undef,rfl,by simp,(v7 _ _).drew,by simp,by simp,by simp,by simp,by simp,by simp,by simp,by simp,by simp,by simp⟩
 .rintro A0 ac W i ⟨u7,u9,u10,u11,u12,u13,u14,u15,u16,u17,rfl,R⟩ hi;obtain⟨A9,o,ho,A1⟩:=mem_ready.1 hi;clear hi;have A7:i<10:=(Array.getElem?_eq_some_iff.1 ho).1;rcases(show i=0\/i=1\/i=2\/i=3\/i=4\/i=5\/i=6\/i=7\/i=8\/i=9 by omega) with rfl|rfl|rfl|rfl|rfl|rfl|rfl|rfl|rfl|rfl
  .simp at ho;subst ho;simp[wpOp,Region.wanted,Oper.wp,go_sem,kn];left;exact⟨u7,(.int .u8 c),u10,u11,u12,u13,u14,u15,u16,u17,rfl,⟨by simpa using R.sz,R.bel,fun _=>rfl,fun hh=>(fun x=>x) (R.h1 (aQ (by decide) hh)),fun hh=>R.h2 (aQ (by decide) hh),fun hh=>R.h3 (aQ (by decide) hh),fun hh=>R.h4 (aQ (by decide) hh),fun hh=>R.h5 (aQ (by decide) hh),fun hh=>R.h6 (aQ (by decide) hh),fun hh=>R.h7 (aQ (by decide) hh),fun hh=>R.h8 (aQ (by decide) hh),fun hh=>R.h9 (aQ (by decide) hh)⟩⟩
  .simp at ho;subst ho;have g0:A0.getD 0 false=true:=A1 {on:=0,ground:=.data} (by simp) rfl;obtain rfl:=R.h0 g0;simp[wpOp,Region.wanted,Oper.wp,go_sem,kn];left;exact⟨u7,_,(.slice (some ⟨W.heap.size,0,none⟩) 1 1),u11,u12,u13,u14,u15,u16,u17,rfl,⟨by simpa using R.sz,R.bel.alloc R.bel.size _,fun hh=>R.h0 (aQ (by decide) hh),fun _=>⟨_,rfl,by simp,by simp[go_sem]⟩,fun hh=>R.h2 (aQ (by decide) hh),fun hh=>R.h3 (aQ (by decide) hh),fun hh=>R.h4 (aQ (by decide) hh),fun hh=>R.h5 (aQ (by decide) hh),fun hh=>R.h6 (aQ (by decide) hh),fun hh=>R.h7 (aQ (by decide) hh),fun hh=>R.h8 (aQ (by decide) hh),fun hh=>R.h9 (aQ (by decide) hh)⟩⟩
  .simp at ho;subst ho;have g1:A0.getD 1 false=true:=A1 {on:=1,ground:=.data} (by simp) rfl;obtain⟨g,rfl,A8,A6⟩:=R.h1 g1;have A5:=HC W g A6;simp[wpOp,Region.wanted,Oper.wp,go_sem,kn,A5];left;exact⟨u7,u9,_,(.string A),u12,u13,u14,u15,u16,u17,rfl,⟨by simpa using R.sz,R.bel,fun hh=>R.h0 (aQ (by decide) hh),fun hh=>(fun x=>x) (R.h1 (aQ (by decide) hh)),fun _=>rfl,fun hh=>R.h3 (aQ (by decide) hh),fun hh=>R.h4 (aQ (by decide) hh),fun hh=>R.h5 (aQ (by decide) hh),fun hh=>R.h6 (aQ (by decide) hh),fun hh=>R.h7 (aQ (by decide) hh),fun hh=>R.h8 (aQ (by decide) hh),fun hh=>R.h9 (aQ (by decide) hh)⟩⟩
  .simp at ho;subst ho;simp[wpOp,Region.wanted,Oper.wp,go_sem,kn];left;exact⟨u7,u9,u10,u11,(.int .i64 a),u13,u14,u15,u16,u17,rfl,⟨by simpa using R.sz,R.bel,fun hh=>R.h0 (aQ (by decide) hh),fun hh=>(fun x=>x) (R.h1 (aQ (by decide) hh)),fun hh=>R.h2 (aQ (by decide) hh),fun _=>rfl,fun hh=>R.h4 (aQ (by decide) hh),fun hh=>R.h5 (aQ (by decide) hh),fun hh=>R.h6 (aQ (by decide) hh),fun hh=>R.h7 (aQ (by decide) hh),fun hh=>R.h8 (aQ (by decide) hh),fun hh=>R.h9 (aQ (by decide) hh)⟩⟩
  .simp at ho;subst ho;have g3:A0.getD 3 false=true:=A1 {on:=3,ground:=.data} (by simp) rfl;obtain rfl:=R.h3 g3;simp[wpOp,Region.wanted,Oper.wp,go_sem,kn];left;refine(H1 _).mono ?_;rintro e w1 ⟨rfl,A2⟩;exact⟨u7,u9,u10,u11,_,(.string E1),u14,u15,u16,u17,rfl,⟨by simpa using R.sz,R.bel.trans (A2.mono R.bel.size),fun hh=>R.h0 (aQ (by decide) hh),fun hh=>(fun⟨g,e1,e2,e3⟩=>⟨g,e1,Qh e2 A2.size,(A2.cell (p:=⟨g,0,none⟩) e2).trans e3⟩) (R.h1 (aQ (by decide) hh)),fun hh=>R.h2 (aQ (by decide) hh),fun hh=>R.h3 (aQ (by decide) hh),fun _=>rfl,fun hh=>R.h5 (aQ (by decide) hh),fun hh=>R.h6 (aQ (by decide) hh),fun hh=>R.h7 (aQ (by decide) hh),fun hh=>R.h8 (aQ (by decide) hh),fun hh=>R.h9 (aQ (by decide) hh)⟩⟩
  .simp at ho;subst ho;have g2:A0.getD 2 false=true:=A1 {on:=2,ground:=.data} (by simp) rfl;have g4:A0.getD 4 false=true:=A1 {on:=4,ground:=.data} (by simp) rfl;obtain rfl:=R.h2 g2;obtain rfl:=R.h4 g4;simp[wpOp,Region.wanted,Oper.wp,go_sem,kn,zA,z1];left;exact⟨u7,u9,u10,_,u12,_,(.string (A++E1)),u15,u16,u17,rfl,⟨by simpa using R.sz,R.bel,fun hh=>R.h0 (aQ (by decide) hh),fun hh=>(fun x=>x) (R.h1 (aQ (by decide) hh)),fun hh=>R.h2 (aQ (by decide) hh),fun hh=>R.h3 (aQ (by decide) hh),fun hh=>R.h4 (aQ (by decide) hh),fun _=>rfl,fun hh=>R.h6 (aQ (by decide) hh),fun hh=>R.h7 (aQ (by decide) hh),fun hh=>R.h8 (aQ (by decide) hh),fun hh=>R.h9 (aQ (by decide) hh)⟩⟩
  .simp at ho;subst ho;simp[wpOp,Region.wanted,Oper.wp,go_sem,kn];left;exact⟨u7,u9,u10,u11,u12,u13,u14,(.int .i64 b),u16,u17,rfl,⟨by simpa using R.sz,R.bel,fun hh=>R.h0 (aQ (by decide) hh),fun hh=>(fun x=>x) (R.h1 (aQ (by decide) hh)),fun hh=>R.h2 (aQ (by decide) hh),fun hh=>R.h3 (aQ (by decide) hh),fun hh=>R.h4 (aQ (by decide) hh),fun hh=>R.h5 (aQ (by decide) hh),fun _=>rfl,fun hh=>R.h7 (aQ (by decide) hh),fun hh=>R.h8 (aQ (by decide) hh),fun hh=>R.h9 (aQ (by decide) hh)⟩⟩
  .simp at ho;subst ho;have g6:A0.getD 6 false=true:=A1 {on:=6,ground:=.data} (by simp) rfl;obtain rfl:=R.h6 g6;simp[wpOp,Region.wanted,Oper.wp,go_sem,kn];left;refine(H2 _).mono ?_;rintro e w1 ⟨rfl,A2⟩;exact⟨u7,u9,u10,u11,u12,u13,u14,_,(.string E2),u17,rfl,⟨by simpa using R.sz,R.bel.trans (A2.mono R.bel.size),fun hh=>R.h0 (aQ (by decide) hh),fun hh=>(fun⟨g,e1,e2,e3⟩=>⟨g,e1,Qh e2 A2.size,(A2.cell (p:=⟨g,0,none⟩) e2).trans e3⟩) (R.h1 (aQ (by decide) hh)),fun hh=>R.h2 (aQ (by decide) hh),fun hh=>R.h3 (aQ (by decide) hh),fun hh=>R.h4 (aQ (by decide) hh),fun hh=>R.h5 (aQ (by decide) hh),fun hh=>R.h6 (aQ (by decide) hh),fun _=>rfl,fun hh=>R.h8 (aQ (by decide) hh),fun hh=>R.h9 (aQ (by decide) hh)⟩⟩
  .simp at ho;subst ho;have g5:A0.getD 5 false=true:=A1 {on:=5,ground:=.data} (by simp) rfl;have g7:A0.getD 7 false=true:=A1 {on:=7,ground:=.data} (by simp) rfl;obtain rfl:=R.h5 g5;obtain rfl:=R.h7 g7;simp[wpOp,Region.wanted,Oper.wp,go_sem,kn,zA,z1,z2];left;exact⟨u7,u9,u10,u11,u12,u13,_,u15,_,(.string (A++E1++E2)),rfl,⟨by simpa using R.sz,R.bel,fun hh=>R.h0 (aQ (by decide) hh),fun hh=>(fun x=>x) (R.h1 (aQ (by decide) hh)),fun hh=>R.h2 (aQ (by decide) hh),fun hh=>R.h3 (aQ (by decide) hh),fun hh=>R.h4 (aQ (by decide) hh),fun hh=>R.h5 (aQ (by decide) hh),fun hh=>R.h6 (aQ (by decide) hh),fun hh=>R.h7 (aQ (by decide) hh),fun _=>rfl,fun hh=>R.h9 (aQ (by decide) hh)⟩⟩
  .simp at ho;subst ho;have g8:A0.getD 8 false=true:=A1 {on:=8,ground:=.data} (by simp) rfl;obtain rfl:=R.h8 g8;simp[wpOp,Region.wanted,Oper.wp,go_sem,kn];left;exact⟨(.string (A++E1++E2)),u9,u10,u11,u12,u13,u14,u15,u16,_,rfl,⟨by simpa using R.sz,R.bel,fun hh=>R.h0 (aQ (by decide) hh),fun hh=>(fun x=>x) (R.h1 (aQ (by decide) hh)),fun hh=>R.h2 (aQ (by decide) hh),fun hh=>R.h3 (aQ (by decide) hh),fun hh=>R.h4 (aQ (by decide) hh),fun hh=>R.h5 (aQ (by decide) hh),fun hh=>R.h6 (aQ (by decide) hh),fun hh=>R.h7 (aQ (by decide) hh),fun hh=>R.h8 (aQ (by decide) hh),fun _=>rfl⟩⟩
 .rintro A0 ac W ⟨u7,u9,u10,u11,u12,u13,u14,u15,u16,u17,rfl,R⟩ hr;have hd:=wj (by rw[R.sz];rfl) (by kernel_rfl) hr;obtain rfl:=R.h0 (hd 0 (by decide));obtain⟨g,rfl,_,_⟩:=R.h1 (hd 1 (by decide));obtain rfl:=R.h2 (hd 2 (by decide));obtain rfl:=R.h3 (hd 3 (by decide));obtain rfl:=R.h4 (hd 4 (by decide));obtain rfl:=R.h5 (hd 5 (by decide));obtain rfl:=R.h6 (hd 6 (by decide));obtain rfl:=R.h7 (hd 7 (by decide));obtain rfl:=R.h8 (hd 8 (by decide));obtain rfl:=R.h9 (hd 9 (by decide));have HB:Hid (Below w.heap.size w W):=R.bel;clear R hd hr;have HK:Hid (∀ W:World,Calls prog 116 #[.string (A++E1++E2)] W fun e w'=>e=.returned (.string (ig (A++E1++E2)))/\Below W.heap.size W w'):=fun W=>vV _ (by simp only[ByteArray.size_append];omega) (by simp only[ByteArray.size_append];omega) W;have zz:(ig (A++E1++E2)).size=2:=uH _;have zy:(A++E1++E2).size=17:=by simp only[ByteArray.size_append];omega
  unfold kn;generalize A++E1++E2=Z at *;generalize ig Z=Y at *;clear HC H1 H2 zA z1 z2;go_wp2_with fail
  refine(HK _).mono ?_;rintro e w1 ⟨rfl,A2⟩;go_wp2_with fail
  go_ret;rw[HR];exact⟨rfl,HB.trans (A2.mono HB.size)⟩
theorem Er (S:Nat)(cs:Array Value)(rec:ByteArray)(c a b:Int)(w:World)(hS:w.heap[S]?=some (.cells cs 60))(h7:cs[7]?=some (.string rec))(hr:rec.size<=1000000000000):
  Calls prog 65 #[.pointer (some ⟨S,0,none⟩),.int .u8 c,.int .i64 a,.int .i64 b] w fun e w'=>e=.returned (.tuple #[])/\w'.heap[S]?=some (.cells (cs.setIfInBounds 7 (.string (rec++gJ c a b))) 60)/\Fr (fun k=>k=S) w w':=by
 have c7:w.cell? ⟨S,7,none⟩=some (.string rec):=(ag hS).trans h7;have z7:w.frozen? ⟨S,7,none⟩=false:=aC hS;have A1:S<w.heap.size:=ak hS;obtain⟨Z,hZ⟩:∃ Z,Z=gJ c a b:=⟨_,rfl⟩;have zz:Z.size=19:=by rw[hZ];exact CV c a b
 rw[<- hZ];have HR:Hid (∀ W:World,Calls prog 95 #[.int .u8 c,.int .i64 a,.int .i64 b] W fun e w'=>e=.returned (.string Z)/\Below W.heap.size W w'):=fun W=>by rw[hZ];exact zt c a b W
 have HS:=ah hS;have HF:Hid (∀ w1,Below w.drew.heap.size w.drew w1->w1.cell? ⟨S,7,none⟩=some (.string rec)/\w1.frozen? ⟨S,7,none⟩=false/\S<w1.heap.size):=fun w1 hb=>by
  have h1:w1.heap[S]?=some (.cells cs 60):=(hb.block S A1).trans HS.out;exact⟨(ag h1).trans h7,aC h1,ak h1⟩
 clear hZ hS h7;go_enter func65,ntmps65
 go_region_with (go_at_call 95;refine(HR _).mono ?_;rintro e w1 ⟨rfl,A0⟩;obtain⟨k1,k2,k3⟩:=HF w1 A0)
 all_goals
  go_end0;have h1:w1.heap[S]?=some (.cells cs 60):=(A0.block S A1).trans HS.out;refine⟨rfl,cG _ h1,?_⟩;have f1:Fr (fun k=>k=S) w w1:=⟨A0.os,A0.tape,A0.output,A0.size,fun k hk _=>A0.block k hk⟩;exact f1.setCell ⟨S,7,none⟩ (Or.inl rfl) _
structure aV (RT:Type) where
 E:bM RT
 s:Sd
 B0:Nat
 link:World->Rs->RT->Prop
def aN (B0:Nat)(w w':World):Prop:=
 ∀ k,k<w.heap.size->(k<B0\/∃ c t z,w.heap[k]?=some (.cells c t z)/\(t=177\/t=133))->w'.heap[k]?=w.heap[k]?
structure bw {RT:Type}(M:aV RT):Prop where
 pub:∀ w x r,M.link w x r->M.E.pub r=cF x.p
 keep:∀ w w' x r,M.link w x r->aN M.B0 w w'->M.link w' x r
 eid:∀ now yes q r,(M.E.pub (M.E.on now yes q r).2.1).id=(M.E.pub r).id
 on:∀ (S Q:Nat) (pv:Value) (rec:ByteArray) (now last:Int) (qv:Nat->Value) (qs:Nat->List aj) (rs:List Rs) (w:World) (x:Rs) (r:RT) (d:Nat) (yes:Bool),bN w S Q M.s pv rec now last qv qs rs->(∀ k,de S Q pv qv rs k->M.B0<=k)->x∈rs->M.link w x r ->
  d<3->x.p.dev=(d:Nat)->(qs d).length<=4->0<=x.p.sent->x.p.sent<=999999999999990000->0<=now->now<=1000000000->rs.length<=1000->(yes=true->x.p.num≠0) ->
  Calls prog 71 #[.pointer (some ⟨S,0,none⟩),.pointer (some ⟨x.P,0,none⟩),.bool yes] w fun e w'=>e=.returned (.tuple #[]) /\
   ∃ x' v pv',fS w w' S Q M.s pv rec now last qv qs (dz rs) x d (M.E.on now yes (qs d) r).1 x' (M.E.on now yes (qs d) r).2.2 v pv'/\((M.E.on now yes (qs d) r).2.2=false->M.link w' x' (M.E.on now yes (qs d) r).2.1)
structure bO {RT:Type}(M:aV RT)(w:World)(S Q:Nat)(rec:ByteArray)(h:az RT)(pv:Value)(qv:Nat->Value)(rs:List Rs):Prop where
 at':bN w S Q M.s pv rec h.now h.last qv h.qs rs
 base:∀ k,de S Q pv qv rs k->M.B0<=k
 rel:fB (M.link w) rs h.rs
structure aR {RT:Type}(M:aV RT)(w:World)(S Q:Nat)(pv:Value)(qv:Nat->Value)(rs:List Rs)(rec:ByteArray)(h:az RT)(w':World):Prop where
 ex:∃ pv' qv' rs',bO M w' S Q rec h pv' qv' rs'/\∀ k,de S Q pv' qv' rs' k->de S Q pv qv rs k\/w.heap.size<=k
 fr:Fr (de S Q pv qv rs) w w'
theorem aR.same {RT:Type}{M:aV RT}{w w':World}{S Q:Nat}{pv:Value}{qv:Nat->Value}{rs:List Rs}{rec:ByteArray}{h:az RT}(H:bO M w S Q rec h pv qv rs)(hs:aG w w')(hk:∀ x r,M.link w x r->M.link w' x r):aR M w S Q pv qv rs rec h w':=by
 refine⟨⟨pv,qv,rs,⟨H.at'.keep fun k _=>by rw[hs.heap],H.base,?_⟩,fun k hk=>.inl hk⟩,⟨hs.os,hs.tape,hs.output,by rw[hs.heap];exact v9 _,fun k _ _=>by rw[hs.heap]⟩⟩;have:∀ {l:List Rs} {m:List RT},fB (M.link w) l m->fB (M.link w') l m:=by
  intro l;induction l with
  | nil=>intro m h;cases m with|nil=>trivial|cons _ _=>exact h.elim
  | cons a l ih=>intro m h;cases m with|nil=>exact h.elim|cons b m=>exact⟨hk _ _ h.1,ih h.2⟩
 exact this H.rel
theorem jM {A B:Type}{ρ σ:A->B->Prop}:∀ {l:List A} {m:List B},(∀ a b,ρ a b->σ a b)->fB ρ l m->fB σ l m
 | [],[],_,_=>trivial
 | _::_,_::_,hi,h=>⟨hi _ _ h.1,jM hi h.2⟩
 | [],_::_,_,h=>h.elim
 | _::_,[],_,h=>h.elim
theorem bN.still {w w':World}{S Q:Nat}{s:Sd}{pv:Value}{rec:ByteArray}{now last:Int}{qv:Nat->Value}{qs:Nat->List aj}{rs:List Rs}{B0:Nat}(h:bN w S Q s pv rec now last qv qs rs)(hb:∀ k,de S Q pv qv rs k->B0<=k)(hf:Fr (de S Q pv qv rs) w w'):aN B0 w w':=by
 intro k hk hd;refine hf.block k hk fun ho=>?_;rcases hd with hd|⟨c,t,z,hc,ht⟩
 .have:=hb k ho;omega
 .obtain⟨c2,t2,A0,A1⟩:=h.sort ho;rw[hc]at A0;simp only[Option.some.injEq,Obj.cells.injEq]at A0;obtain⟨_,rfl,_⟩:=A0;rcases ht with rfl|rfl
  .revert A1;decide
  .revert A1;decide
theorem vI {RT:Type}{M:aV RT}(hM:bw M){w:World}(id:Int):∀ {rs:List Rs} {l:List RT},fB (M.link w) rs l ->
  ((dz rs).find? (fun x=>x.2==id)=none/\fm M.E l id=none)\/∃ x r,x∈rs/\r∈l/\(dz rs).find? (fun x=>x.2==id)=some (x.P,x.p.id)/\fm M.E l id=some r/\M.link w x r/\x.p.id=id:=by
 intro rs;induction rs with
 | nil=>
  intro l h;cases l with
  | nil=>exact .inl ⟨rfl,rfl⟩
  | cons _ _=>exact h.elim
 | cons x rs ih=>
  intro l h;cases l with
  | nil=>exact h.elim
  | cons r l=>
   have hp:=hM.pub w x r h.1;by_cases hid:x.p.id=id
   .right;refine⟨x,r,List.mem_cons_self ..,List.mem_cons_self ..,?_,?_,h.1,hid⟩
    .simp[dz,hid]
    .unfold fm;rw[List.find?_cons,hp];simp[cF,hid]
   .have e1:(dz (x::rs)).find? (fun x=>x.2==id)=(dz rs).find? (fun x=>x.2==id):=by
     simp[dz,hid]
    have e2:fm M.E (r::l) id=fm M.E l id:=by
     have hb:((cF x.p).id==id)=false:=by simpa[cF] using hid
     unfold fm;rw[List.find?_cons,hp,hb]
    rw[e1,e2];rcases ih h.2 with h1|⟨y,s,hy,hs,h1⟩
    .exact .inl h1
    .exact .inr ⟨y,s,Qf _ hy,Qf _ hs,h1⟩
theorem oF {RT:Type}{M:aV RT}(hM:bw M)(S Q:Nat)(rec:ByteArray)(h:az RT)(pv:Value)(qv:Nat->Value)(rs:List Rs)(c a b:Int)(w:World)(H:bO M w S Q rec h pv qv rs)(hr:rec.size<=1000000000000):
  Calls prog 65 #[.pointer (some ⟨S,0,none⟩),.int .u8 c,.int .i64 a,.int .i64 b] w fun e w'=>e=.returned (.tuple #[])/\bO M w' S Q (rec++gJ c a b) h pv qv rs/\Fr (fun k=>k=S) w w':=by
 refine(Er S _ rec c a b w H.at'.sB rfl hr).mono ?_;rintro e w' ⟨rfl,hS,hf⟩;have A0:Fr (de S Q pv qv rs) w w':=hf.mono fun k _ hk=>.inl hk;refine⟨rfl,⟨H.at'.setS hS fun k ho hk=>hf.block k (H.at'.lt ho) hk,H.base,jM (fun x r hl=>hM.keep w w' x r hl (H.at'.still H.base A0)) H.rel⟩,hf⟩
def lm:bM Rs:=⟨fun x=>cF x.p,fun _ _=>⟨0,0,.slice none 0 0,.slice none 0 0,dg 0 0⟩,fun _ q r=>(q,r,true),fun _ _ q r=>(q,r,true)⟩
theorem zN (rs:List Rs)(x:Rs)(done:Bool):mq rs x done=dP lm rs x done:=rfl
theorem bO.after {RT:Type}{M:aV RT}(hM:bw M){w w':World}{S Q:Nat}{rec:ByteArray}{h:az RT}{pv:Value}{qv:Nat->Value}{rs:List Rs}(H:bO M w S Q rec h pv qv rs){x x':Rs}{r':RT}{d:Nat}{q':List aj}{done:Bool}{v pv':Value}(hx:x∈rs)(hd:d<3)
  (ho:fS w w' S Q M.s pv rec h.now h.last qv h.qs (dz rs) x d q' x' done v pv') (hid:(M.E.pub r').id=x.p.id) (hl:done=false->M.link w' x' r'):
  bO M w' S Q rec {h with qs:=bU h.qs d q',rs:=dP M.E h.rs r' done} pv' (bL qv d v) (mq rs x' done)/\Fr (de S Q pv qv rs) w w'/\∀ k,de S Q pv' (bL qv d v) (mq rs x' done) k->de S Q pv qv rs k\/w.heap.size<=k:=by
 obtain⟨h1,h2,h3⟩:=H.at'.after hx hd ho;have A1:=H.at'.still H.base h2;have A0:∀ a b,M.link w' a b->lm.pub a=M.E.pub b:=fun a b hab=>(hM.pub w' a b hab).symm;refine⟨⟨h1,fun k hk=>?_,?_⟩,h2,h3⟩
 .rcases h3 k hk with h4|h4
  .exact H.base k h4
  .have:=H.base S (.inl rfl);have:=ak H.at'.sB;omega
 .rw[zN];exact vw A0 (jM (fun a b hab=>hM.keep w w' a b hab A1) H.rel) (by rw[hid];exact ho.id) hl
theorem xr {A B:Type}{ρ:A->B->Prop}{a:A}:∀ {l:List A} {m:List B},fB ρ l m->a∈l->∃ b∈m,ρ a b
 | [],_,_,ha=>by cases ha
 | x::l,y::m,h,ha=>by
  rcases List.mem_cons.mp ha with rfl|ha
  .exact⟨y,List.mem_cons_self ..,h.1⟩
  .obtain⟨b,hb,hr⟩:=xr h.2 ha;exact⟨b,Qf _ hb,hr⟩
 | _::_,[],h,_=>h.elim
def jC (rec:ByteArray)(e c a b:Int):ByteArray:=if e=0 then rec++gJ c a b else rec
theorem Bz {RT:Type}{M:aV RT}{G:RT->Prop}(hM:bw M)(S Q:Nat)(rec:ByteArray)(h:az RT)(pv:Value)(qv:Nat->Value)(rs:List Rs)(id C:Int)(w:World)(H:bO M w S Q rec h pv qv rs)(hI:cC M.E G C h)(hr:rec.size<=1000000000000):
  Calls prog 41 #[.pointer (some ⟨S,0,none⟩),.int .i64 id] w fun e w'=>e=.returned (.int .i64 (dH M.E h id).1)/\aR M w S Q pv qv rs (jC rec (dH M.E h id).1 67 id 0) (dH M.E h id).2 w':=by
 have B7:rs.length<=5:=by rw[lG H.rel];exact hI.len
 have A2:(dz rs).length<=1000:=by unfold dz;rw[List.length_map];omega
 have c5:w.cell? ⟨S,5,none⟩=some pv:=(ag H.at'.sB).trans rfl;have A3:Hid (Calls prog 73 #[.pointer (some ⟨S,0,none⟩),.int .i64 id] w fun e w'=>e=.returned (iL ((dz rs).find? fun x=>x.2==id))/\aG w w'):=xZ S pv (dz rs) id w c5 H.at'.procs A2;have HH:=ah H;rcases vI hM id H.rel with ⟨f1,f2⟩|⟨x,r,hx,hrm,f1,f2,hlk,hid⟩
 .have HE:Hid (dH M.E h id=(10,h)):=by show _=_;unfold dH;rw[f2]
  rw[f1]at A3;clear f1 f2 c5 H hI;rw[HE];go_enter func41,ntmps41
  go_wp2_with fail
  refine A3.mono ?_;rintro e w1 ⟨rfl,hs1⟩;have A1:=ah hs1;clear hs1;have hp:iL none=.pointer none:=rfl;rw[hp];go_wp2_with fail
  go_ret;exact⟨rfl,aR.same HH A1 fun x r hl=>hM.keep w w1 x r hl fun k _ _=>by rw[A1.heap]⟩
 .have A0:=hM.pub w x r hlk;have hdev:=hI.dev r hrm;rw[A0]at hdev;obtain⟨d,B6⟩:∃ d:Nat,x.p.dev=(d:Nat):=⟨x.p.dev.toNat,by have:=hdev.1;simp only[cF]at this;omega⟩;have A5:d<3:=by have:=hdev.2;simp only[cF]at this;omega
  have B9:=hI.qlen d;have HE:Hid (dH M.E h id=(0,{h with qs:=bU h.qs d (dr (h.qs d) x.p.id 0),rs:=dP M.E h.rs r true})):=by
   show _=_;unfold dH;rw[f2];simp only;rw[A0];have e1:(cF x.p).dev.toNat=d:=by simp only[cF];omega
   rw[e1,<- hid];have e2:dP M.E h.rs r true=h.rs.filter (fun y=>(M.E.pub y).id != x.p.id):=by unfold dP;rw[A0];rfl
   rw[e2]
  rw[f1]at A3;have HX:Hid (x∈rs/\(M.E.pub r).id=x.p.id):=⟨hx,by rw[A0];rfl⟩;clear f1 f2 c5 H hI hx hrm hlk A0 hdev;rw[HE];go_enter func41,ntmps41
  go_wp2_with fail
  refine A3.mono ?_;rintro e w1 ⟨rfl,hs1⟩;have A1:=ah hs1;clear hs1;have hp:iL (some (x.P,x.p.id))=.pointer (some ⟨x.P,0,none⟩):=rfl;rw[hp];have A8:Hid (au w1 S Q x.P x.R (M.s.md x.yv x.nv) pv rec h.now h.last qv h.qs x.p):=(HH.at'.core HX.1).keep fun k _=>by rw[A1.heap]
  go_wp2_with fail
  refine(yb S Q x.P x.R _ pv rec h.now h.last qv h.qs x.p 0 d w1 A8 A5 B6 B9).mono ?_;rintro e w2 ⟨rfl,v,A4,B4,A6⟩;have B5:Hid (cj w2 pv (dz rs)):=by
   have B8:cj w1 pv (dz rs):=⟨aT HH.at'.procs.own fun b _=>by rw[A1.heap],fun y hy=>by rw[A1.heap];exact HH.at'.procs.ids y hy⟩;exact B8.after A8 A4 rfl A5 (A6.mono fun k _ hk=>.inr (.inl hk))
  have H2:Hid (au w2 S Q x.P x.R (M.s.md x.yv x.nv) pv rec h.now h.last (bL qv d v) (bL h.qs d (dr (h.qs d) x.p.id 0)) x.p/\(∀ b,v.ownBlock=some b->w1.heap.size<=b)/\Fr (fun k=>k=Q) w1 w2):=⟨A4,B4,A6⟩;clear A4 B4 A6;go_wp2_with fail
  refine(xC S Q x.P x.R _ pv rec h.now h.last _ _ x.p (dz rs) w2 H2.1 B5 A2).mono ?_;rintro e w3 ⟨rfl,A7,A9,B3,B2,B0⟩;have H3:Hid (fS w w3 S Q M.s pv rec h.now h.last qv h.qs (dz rs) x d (dr (h.qs d) x.p.id 0) x true v A7):=by
   have hs:=A1.out;have C0:w1.heap.size=w.heap.size:=by rw[hs.heap]
   have C1:=H2.2.2.size;refine⟨A9,rfl,rfl,rfl,fun b hb=>.inr (by have:=H2.2.1 b hb;omega),fun hh=>(by cases hh),fun _=>⟨B3,fun b hb=>by have:=B2 b hb;omega⟩,?_⟩;have f1:Fr (il S Q x.P x.R (qv d)) w w1:=⟨hs.os,hs.tape,hs.output,by omega,fun k _ _=>by rw[hs.heap]⟩;exact(f1.trans (H2.2.2.mono fun k _ hk=>.inr (.inl hk))).trans (B0.mono fun k _ hk=>.inr (.inr (.inr (.inl hk))))
  clear A9 B3 B2 B0;obtain⟨k1,k2,k3⟩:=HH.after hM HX.1 A5 H3 HX.2 (fun hh=>by cases hh);have H4:Hid (_/\_/\_):=⟨k1,k2,k3⟩;clear k1 k2 k3;go_wp2_with fail
  refine(oF hM S Q rec _ A7 _ _ 67 id 0 w3 H4.1 hr).mono ?_;rintro e w4 ⟨rfl,hW,B1⟩;have H5:Hid (aR M w S Q pv qv rs (rec++gJ 67 id 0) {h with qs:=bU h.qs d (dr (h.qs d) x.p.id 0),rs:=dP M.E h.rs r true} w4):=
   ⟨⟨A7,_,_,hW,H4.2.2⟩,H4.2.1.trans (B1.mono fun k _ hk=>.inl hk)⟩
  clear hW B1;go_wp2_with fail
  go_ret;exact⟨rfl,H5⟩
theorem vx {RT:Type}{M:aV RT}{G:RT->Prop}(hM:bw M){w:World}{C:Int}{h:az RT}(hI:cC M.E G C h){x:Rs}{r:RT}(hr:r∈h.rs)(hl:M.link w x r):
  ∃ d:Nat,d<3/\x.p.dev=(d:Nat)/\(M.E.pub r).dev.toNat=d/\(h.qs d).length<=4/\0<=x.p.sent/\x.p.sent<=C/\h.now<=x.p.til/\x.p.til<=2000000000:=by
 have A0:=hM.pub w x r hl;have h1:=hI.dev r hr;have h2:=hI.sent r hr;have h3:=hI.til r hr;rw[A0]at h1 h2 h3 ⊢;simp only[cF]at h1 h2 h3 ⊢;exact⟨x.p.dev.toNat,by omega,by omega,rfl,hI.qlen _,h2.1,h2.2,h3.1,h3.2⟩
theorem Fm {RT:Type}{M:aV RT}{G:RT->Prop}(hM:bw M)(S Q:Nat)(rec:ByteArray)(h:az RT)(pv:Value)(qv:Nat->Value)(rs:List Rs)(id num C:Int)(w:World)(H:bO M w S Q rec h pv qv rs)(hI:cC M.E G C h)(hC:C<=999999999999990000)(hr:rec.size<=1000000000000):
  Calls prog 39 #[.pointer (some ⟨S,0,none⟩),.int .i64 id,.int .i64 num] w fun e w'=>e=.returned (.int .i64 (di M.E h id num).1)/\aR M w S Q pv qv rs (jC rec (di M.E h id num).1 65 id num) (di M.E h id num).2 w':=by
 have B6:rs.length<=5:=by rw[lG H.rel];exact hI.len
 have A9:(dz rs).length<=1000:=by unfold dz;rw[List.length_map];omega
 have c5:w.cell? ⟨S,5,none⟩=some pv:=(ag H.at'.sB).trans rfl;have A3:Hid (Calls prog 73 #[.pointer (some ⟨S,0,none⟩),.int .i64 id] w fun e w'=>e=.returned (iL ((dz rs).find? fun x=>x.2==id))/\aG w w'):=xZ S pv (dz rs) id w c5 H.at'.procs A9;have HH:=ah H;rcases vI hM id H.rel with ⟨f1,f2⟩|⟨x,r,hx,hrm,f1,f2,hlk,hid⟩
 .have HE:Hid (di M.E h id num=(10,h)):=by show _=_;unfold di;rw[f2]
  rw[f1]at A3;clear f1 f2 c5 H hI;rw[HE];go_enter func39,ntmps39
  go_wp2_with fail
  refine A3.mono ?_;rintro e w1 ⟨rfl,hs1⟩;have A0:=ah hs1;clear hs1;have hp:iL none=.pointer none:=rfl;rw[hp];go_wp2_with fail
  go_ret;exact⟨rfl,aR.same HH A0 fun x r hl=>hM.keep w w1 x r hl fun k _ _=>by rw[A0.heap]⟩
 .have A4:=hM.pub w x r hlk;obtain⟨d,A7,A8,B4,B1,hs0,hs1,_,_⟩:=vx hM hI hrm hlk;have A1:(M.E.pub r).num=x.p.num:=by rw[A4];rfl
  have HX:Hid (x∈rs/\(M.E.pub r).id=x.p.id/\M.link w x r):=⟨hx,by rw[A4];rfl,hlk⟩;have A5:Hid (0<=h.now/\h.now<=1000000000):=⟨hI.now0,hI.now1⟩;rw[f1]at A3;have hp:iL (some (x.P,x.p.id))=.pointer (some ⟨x.P,0,none⟩):=rfl;rw[hp]at A3;clear f1 c5 H hI hx hrm hlk A4 hp;have HW:Hid (∀ w1,aG w w1->bO M w1 S Q rec h pv qv rs/\M.link w1 x r/\au w1 S Q x.P x.R (M.s.md x.yv x.nv) pv rec h.now h.last qv h.qs x.p/\aR M w S Q pv qv rs rec h w1):=fun w1 hs=>by
   have B2:aN M.B0 w w1:=fun k _ _=>by rw[hs.heap]
   have h1:bO M w1 S Q rec h pv qv rs:=⟨HH.at'.keep fun k _=>by rw[hs.heap],HH.base,jM (fun a b hab=>hM.keep w w1 a b hab B2) HH.rel⟩;exact⟨h1,hM.keep w w1 x r HX.2.2 B2,h1.at'.core HX.1,aR.same HH hs fun a b hab=>hM.keep w w1 a b hab B2⟩
  by_cases hn0:num=0
  .have HE:Hid (di M.E h id num=(11,h)):=by show _=_;unfold di;rw[f2];simp only;rw[if_pos (Or.inl hn0)]
   rw[HE];subst hn0;clear f2 A1;go_enter func39,ntmps39
   go_wp2_with fail
   refine A3.mono ?_;rintro e w1 ⟨rfl,hs1⟩;have A0:=ah hs1;clear hs1;go_wp2_with fail
   go_ret;exact⟨rfl,(HW w1 A0).2.2.2⟩
  .have b0:(num==0)=false:=by simpa using hn0
   by_cases hn1:x.p.num=num
   .have b1:(x.p.num != num)=false:=by simpa using hn1
    cases hq:jt (h.qs d) x.p.id num with
    | true=>
     have HE:Hid (di M.E h id num=(12,h)):=by
      show _=_;unfold di;rw[f2];simp only;rw[A1,B4,if_neg (fun hh=>by rcases hh with hh|hh;exact hn0 hh;exact hh hn1),<- hid,if_pos hq]
     rw[HE];have HQ:=ah hq;clear f2 A1 hq hn1 hn0;go_enter func39,ntmps39
     go_wp2_with fail
     refine A3.mono ?_;rintro e w1 ⟨rfl,hs1⟩;have A0:=ah hs1;have p4:w1.cell? ⟨x.P,4,none⟩=some (.int .i64 x.p.num):=(ag (HW w1 hs1).2.2.1.pB).trans rfl;clear hs1;go_wp2_with fail
     refine(xx S Q x.P x.R _ pv rec h.now h.last qv h.qs x.p num d w1 (HW w1 A0).2.2.1 A7 A8 B1).mono ?_;rw[HQ];rintro e w2 ⟨rfl,A2⟩;have A6:Hid (aG w w2):=⟨A2.heap.trans A0.heap,A2.os.trans A0.os,A2.tape.trans A0.tape,A2.output.trans A0.out.output⟩;clear A2;go_wp2_with fail
     go_ret;exact⟨rfl,(HW w2 A6).2.2.2⟩
    | false=>
     have HE:Hid (di M.E h id num=(0,{h with qs:=bU h.qs d (M.E.on h.now true (h.qs d) r).1,rs:=dP M.E h.rs (M.E.on h.now true (h.qs d) r).2.1 (M.E.on h.now true (h.qs d) r).2.2})):=by
      show _=_;unfold di fv;rw[f2];simp only;rw[A1,B4,if_neg (fun hh=>by rcases hh with hh|hh;exact hn0 hh;exact hh hn1),<- hid,if_neg (by rw[hq];simp)]
     rw[HE];have HQ:=ah hq;have HN:Hid (x.p.num≠0):=by show _≠_;rw[hn1];exact hn0
     clear f2 A1 hq hn1 hn0;go_enter func39,ntmps39
     go_wp2_with fail
     refine A3.mono ?_;rintro e w1 ⟨rfl,hs1⟩;have A0:=ah hs1;have p4:w1.cell? ⟨x.P,4,none⟩=some (.int .i64 x.p.num):=(ag (HW w1 hs1).2.2.1.pB).trans rfl;clear hs1;go_wp2_with fail
     refine(xx S Q x.P x.R _ pv rec h.now h.last qv h.qs x.p num d w1 (HW w1 A0).2.2.1 A7 A8 B1).mono ?_;rw[HQ];rintro e w2 ⟨rfl,A2⟩;have A6:Hid (aG w w2):=⟨A2.heap.trans A0.heap,A2.os.trans A0.os,A2.tape.trans A0.tape,A2.output.trans A0.out.output⟩;clear A2 p4;go_wp2_with fail
     refine(oF hM S Q rec h pv qv rs 65 id num w2 (HW w2 A6).1 hr).mono ?_;rintro e w3 ⟨rfl,B3,B5⟩;have H3:Hid (bO M w3 S Q (rec++gJ 65 id num) h pv qv rs/\M.link w3 x r/\Fr (de S Q pv qv rs) w w3):=by
      have hs:=A6.out;have f2:Fr (de S Q pv qv rs) w w2:=⟨hs.os,hs.tape,hs.output,by rw[hs.heap];exact v9 _,fun k _ _=>by rw[hs.heap]⟩;have f3:Fr (de S Q pv qv rs) w w3:=f2.trans (B5.mono fun k _ hk=>.inl hk);exact⟨B3,hM.keep w w3 x r HX.2.2 (HH.at'.still HH.base f3),f3⟩
     clear B3 B5;go_wp2_with fail
     refine(hM.on S Q pv _ h.now h.last qv h.qs rs w3 x r d true H3.1.at' H3.1.base HX.1 H3.2.1 A7 A8 B1 hs0 (by omega) A5.out.1 A5.out.2 (by omega) (fun _=>HN.out)).mono ?_;rintro e w4 ⟨rfl,x',v,B7,hO,hL⟩;obtain⟨k1,k2,k3⟩:=H3.1.after hM HX.1 A7 hO (by rw[hM.eid];exact HX.2.1) hL;have H4:Hid (aR M w S Q pv qv rs (rec++gJ 65 id num) {h with qs:=bU h.qs d (M.E.on h.now true (h.qs d) r).1,rs:=dP M.E h.rs (M.E.on h.now true (h.qs d) r).2.1 (M.E.on h.now true (h.qs d) r).2.2} w4):=
      ⟨⟨_,_,_,k1,fun k hk=>by
       rcases k3 k hk with h1|h1
       .exact .inl h1
       .exact .inr (Qc H3.2.2.size h1)⟩,H3.2.2.trans k2⟩
     clear hO hL k1 k2 k3;go_wp2_with fail
     go_ret;exact⟨rfl,H4⟩
   .have b1:(x.p.num != num)=true:=by simpa using hn1
    have HE:Hid (di M.E h id num=(11,h)):=by show _=_;unfold di;rw[f2];simp only;rw[A1,if_pos (Or.inr hn1)]
    rw[HE];clear f2 A1 hn1 hn0;go_enter func39,ntmps39
    go_wp2_with fail
    refine A3.mono ?_;rintro e w1 ⟨rfl,hs1⟩;have A0:=ah hs1;have p4:w1.cell? ⟨x.P,4,none⟩=some (.int .i64 x.p.num):=(ag (HW w1 hs1).2.2.1.pB).trans rfl;clear hs1;go_wp2_with fail
    go_ret;exact⟨rfl,(HW w1 A0).2.2.2⟩
end Go.Proofs.YtmmmnghiegajmaaGreat
