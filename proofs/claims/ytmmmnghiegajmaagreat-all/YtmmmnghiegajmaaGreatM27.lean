import Derived.Test.YtmmmnghiegajmaaGreatM09
import Derived.Test.YtmmmnghiegajmaaGreatM24
set_option maxHeartbeats 8000000
set_option maxRecDepth 20000
open Go.RowKit Go.Proofs.Herald Go.Proofs.Tryz
namespace Go.Proofs.YtmmmnghiegajmaaGreat
def fC (t:ByteArray)(d:Nat)(w:World)(b:Nat)(v:Value)(tr:af d):Prop:=
 ∃ a n cap off,v=.slice a n cap/\n=(cE t d tr).length/\n<=cap/\cap<=maxLen/\(0<n->a=some ⟨b,off,none⟩/\bH w b off (cE t d tr))
theorem fC.keep {t:ByteArray}{d:Nat}{w w':World}{b:Nat}{v:Value}{tr:af d}(h:fC t d w b v tr)(hk:w'.heap[b]?=w.heap[b]?):fC t d w' b v tr:=by
 obtain⟨a,n,A0,A1,h1,h2,h3,h4,h5⟩:=h;exact⟨a,n,A0,A1,h1,h2,h3,h4,fun hp=>⟨(h5 hp).1,(h5 hp).2.keep hk⟩⟩
def lQ (t:ByteArray)(d:Nat):Prop:=
 ∀ (tr:af d) (v:Value) (b rep B R:Nat) (sv:Value) (cs:List am) (w:World),fC t d w b v tr->aF t d tr->rep+d<=9->bv d tr<=400->cs.length+(bh t d tr rep cs.length).length<=900->b<B->aS B w R sv cs ->
  Calls prog 86 #[.pointer (some ⟨R,0,none⟩),v,.int .i64 (rep:Nat)] w fun e w'=>e=.returned (.tuple #[])/\(∃ sv',aS B w' R sv' (cs++bh t d tr rep cs.length))/\Below B w w'
def jR (B R:Nat)(w:World)(cs:List am)(e:Ending)(w':World):Prop:=e=.returned (.tuple #[])/\(∃ sv',aS B w' R sv' cs)/\Below B w w'
theorem aS.eq {B:Nat}{w:World}{R:Nat}{sv:Value}{cs ds:List am}(h:aS B w R sv cs)(e:cs=ds):aS B w R sv ds:=by rw[<- e];exact h
theorem Gt (t:ByteArray)(d:Nat)(hblk:lQ t d)(x:Hd×af d×af d)(nb ne rep B R b:Nat)(v1 v2 sv:Value)(cs:List am)(w:World)(hk:ao t x.1.p=dV)(hA:fC t d w b v1 x.2.1)(hB:fC t d w b v2 x.2.2)(gA:aF t d x.2.1)(gB:aF t d x.2.2)
  (hrep:rep+d<=9) (zA:bv d x.2.1<=400) (zB:bv d x.2.2<=400) (hsz:cs.length+(cT t (bh t d) x rep cs.length).length<=900) (hb:b<B) (h:aS B w R sv cs):
  Calls prog 133 #[.pointer (some ⟨R,0,none⟩),.agg (dR (ei t x.1 nb ne)).toArray,v1,v2,.int .i64 (rep:Nat)] w (jR B R w (cs++cT t (bh t d) x rep cs.length)):=by
 rw[qz _ _ _ _ hk]at hsz ⊢;rw[oK _ _ hk];have A0:(dR {kind:=4,key:=x.1.key,times:=0,ticks:=x.1.n,body:=nb,els:=ne}).toArray=#[.int .i64 4,.int .i64 x.1.key,.int .i64 0,.int .i64 x.1.n,.int .i64 (nb:Nat),.int .i64 (ne:Nat)]:=rfl;rw[A0];have B2:B<=w.heap.size:=by have:=ak h.blk;have:=h.le;omega
 obtain⟨A,A1⟩:∃ A,A=bh t d x.2.1 rep (cs.length+1):=⟨_,rfl⟩;rw[<- A1]at hsz ⊢;obtain⟨E,A2⟩:∃ E,E=bh t d x.2.2 rep (cs.length+2+A.length):=⟨_,rfl⟩;rw[<- A2]at hsz ⊢;have B1:cs.length+2+A.length+E.length<=900:=by simp only[List.length_cons,List.length_append]at hsz;omega
 have HH:Hid (aS B w R sv cs/\fC t d w b v1 x.2.1/\fC t d w b v2 x.2.2/\aF t d x.2.1/\aF t d x.2.2):=⟨h,hA,hB,gA,gB⟩;have HD:Hid (A=bh t d x.2.1 rep (cs.length+1)/\E=bh t d x.2.2 rep (cs.length+2+A.length)):=⟨A1,A2⟩;have HK:=ah hblk;clear hA hB gA gB h hsz A1 A2 hblk A0;obtain⟨N0,A7⟩:∃ N,N=cs.length:=⟨_,rfl⟩;obtain⟨N1,A8⟩:∃ N,N=cs.length+1+A.length:=⟨_,rfl⟩;obtain⟨N2,A9⟩:∃ N,N=cs.length+2+A.length:=⟨_,rfl⟩;obtain⟨N3,B0⟩:∃ N,N=cs.length+2+A.length+E.length:=⟨_,rfl⟩;have q0:N0<=900:=by omega
 have q1:N1<=900:=by omega
 have q2:N2<=900:=by omega
 have q3:N3<=900:=by omega
 have A3:=ah A7;have A4:=ah A8;have A5:=ah A9;have A6:=ah B0;clear A7 A8 A9 B0;go_enter func133,ntmps133
 go_wp2_with fail
 refine(jU B R N0 sv cs (am.mk 3 x.1.key x.1.n 0) _ (HH.1.alloc _) A3 (by omega)).mono ?_;rintro e w1 ⟨rfl,⟨s1,h1⟩,b1,_⟩;have H1:Hid (aS B w1 R s1 (cs++[am.mk 3 x.1.key x.1.n 0])/\Below B w w1):=⟨h1,((v7 _ _).alloc B2 _).trans b1⟩;clear h1 b1;go_wp2_with fail
 refine(HK x.2.1 v1 b rep B R s1 _ w1 (HH.2.1.keep (H1.2.block b hb)) HH.2.2.2.1 hrep zA ?_ hb H1.1).mono ?_
 .rw[List.length_append,List.length_singleton,<- HD.1];omega
 rw[List.length_append,List.length_singleton,<- HD.1];rintro e w2 ⟨rfl,⟨s2,h2⟩,b2⟩;have H2:Hid (aS B w2 R s2 (cs++[am.mk 3 x.1.key x.1.n 0]++A)/\Below B w w2):=⟨h2,H1.2.trans b2⟩;clear h2 b2 H1;go_wp2_with fail
 refine(jU B R N1 s2 _ (am.mk 8 0 0 0) _ H2.1 (by rw[A4];simp;omega) (by omega)).mono ?_;rintro e w3 ⟨rfl,⟨s3,h3⟩,b3,_⟩;have H3:Hid (aS B w3 R s3 (cs++am.mk 3 x.1.key x.1.n 0::(A++[am.mk 8 0 0 0]))/\Below B w w3):=⟨h3.eq (by simp),H2.2.trans b3⟩;clear h3 b3 H2;go_wp2_with fail
 refine(qn B R N0 N2 s3 cs (am.mk 3 x.1.key x.1.n 0) (A++[am.mk 8 0 0 0]) w3 H3.1 A3 (by rw[A5];simp;omega) (by omega)).mono ?_;rintro e w4 ⟨rfl,⟨s4,h4⟩,b4⟩;have H4:Hid (aS B w4 R s4 ((cs++am.mk 3 x.1.key x.1.n (N2:Int)::A)++[am.mk 8 0 0 0])/\Below B w w4/\((cs++am.mk 3 x.1.key x.1.n (N2:Int)::A)++[am.mk 8 0 0 0]).length=cs.length+2+A.length):=⟨h4.eq (by simp),H3.2.trans b4,by simp;omega⟩;clear h4 b4 H3;go_wp2_with fail
 refine(HK x.2.2 v2 b rep B R s4 _ w4 (HH.2.2.1.keep (H4.2.1.block b hb)) HH.2.2.2.2 hrep zB ?_ hb H4.1).mono ?_
 .rw[H4.2.2,<- HD.2];omega
 rw[H4.2.2,<- HD.2];rintro e w5 ⟨rfl,⟨s5,h5⟩,b5⟩;have H5:Hid (aS B w5 R s5 ((cs++am.mk 3 x.1.key x.1.n (N2:Int)::A)++am.mk 8 0 0 0::E)/\Below B w w5):=⟨h5.eq (by simp),H4.2.1.trans b5⟩;clear h5 b5 H4;go_wp2_with fail
 refine(qn B R N1 N3 s5 (cs++am.mk 3 x.1.key x.1.n (N2:Int)::A) (am.mk 8 0 0 0) E w5 H5.1 (by rw[A4];simp;omega) (by rw[A6.out];simp;omega) (by omega)).mono ?_;rintro e w6 ⟨rfl,⟨s6,h6⟩,b6⟩;go_wp2_with fail
 go_end0;refine⟨rfl,⟨s6,h6.eq ?_⟩,H5.2.trans b6⟩;rw[A5,A6];simp
theorem EF (t:ByteArray)(d:Nat)(hblk:lQ t d)(x:Hd×af d×af d)(nb ne rep B R b:Nat)(v1 v2 sv:Value)(cs:List am)(w:World)(hk:ao t x.1.p=dL)(hA:fC t d w b v1 x.2.1)(hB:fC t d w b v2 x.2.2)(gA:aF t d x.2.1)(gB:aF t d x.2.2)
  (hrep:rep+d<=9) (zA:bv d x.2.1<=400) (zB:bv d x.2.2<=400) (hsz:cs.length+(cT t (bh t d) x rep cs.length).length<=900) (hb:b<B) (h:aS B w R sv cs):
  Calls prog 134 #[.pointer (some ⟨R,0,none⟩),.agg (dR (ei t x.1 nb ne)).toArray,v1,v2,.int .i64 (rep:Nat)] w (jR B R w (cs++cT t (bh t d) x rep cs.length)):=by
 rw[mO _ _ _ _ hk]at hsz ⊢;rw[ol _ _ hk];have A0:(dR {kind:=5,key:=x.1.key,times:=x.1.m,ticks:=x.1.n,body:=nb,els:=ne}).toArray=#[.int .i64 5,.int .i64 x.1.key,.int .i64 x.1.m,.int .i64 x.1.n,.int .i64 (nb:Nat),.int .i64 (ne:Nat)]:=rfl;rw[A0];have C2:B<=w.heap.size:=by have:=ak h.blk;have:=h.le;omega
 obtain⟨E,A3⟩:∃ E,E=bh t d x.2.2 rep (cs.length+5):=⟨_,rfl⟩;rw[<- A3]at hsz ⊢;obtain⟨A,A2⟩:∃ A,A=bh t d x.2.1 rep (cs.length+6+E.length):=⟨_,rfl⟩;rw[<- A2]at hsz ⊢;have C1:cs.length+6+A.length+E.length<=900:=by simp only[List.length_cons,List.length_append]at hsz;omega
 have HH:Hid (aS B w R sv cs/\fC t d w b v1 x.2.1/\fC t d w b v2 x.2.2/\aF t d x.2.1/\aF t d x.2.2):=⟨h,hA,hB,gA,gB⟩;have HD:Hid (E=bh t d x.2.2 rep (cs.length+5)/\A=bh t d x.2.1 rep (cs.length+6+E.length)):=⟨A3,A2⟩;have HK:=ah hblk;clear hA hB gA gB h hsz A2 A3 hblk A0;obtain⟨N0,A7⟩:∃ N,N=cs.length:=⟨_,rfl⟩;obtain⟨N1,A8⟩:∃ N,N=cs.length+1:=⟨_,rfl⟩;obtain⟨N2,A9⟩:∃ N,N=cs.length+2:=⟨_,rfl⟩;obtain⟨N3,B0⟩:∃ N,N=cs.length+3:=⟨_,rfl⟩;obtain⟨N4,B1⟩:∃ N,N=cs.length+4:=⟨_,rfl⟩;obtain⟨N5,B2⟩:∃ N,N=cs.length+5+E.length:=⟨_,rfl⟩;obtain⟨N6,B3⟩:∃ N,N=cs.length+6+E.length:=⟨_,rfl⟩;obtain⟨N7,B4⟩:∃ N,N=cs.length+6+E.length+A.length:=⟨_,rfl⟩;have q0:N0<=900:=by omega
 have q1:N1<=900:=by omega
 have q2:N2<=900:=by omega
 have q3:N3<=900:=by omega
 have q4:N4<=900:=by omega
 have q5:N5<=900:=by omega
 have q6:N6<=900:=by omega
 have q7:N7<=900:=by omega
 have B5:=ah A7;have B6:=ah A8;have A1:=ah A9;have B7:=ah B0;have B8:=ah B1;have A4:=ah B2;have A5:=ah B3;have A6:=ah B4;clear A7 A8 A9 B0 B1 B2 B3 B4;have HX:Hid ((w.alloc (.cells #[.int .i64 5,.int .i64 x.1.key,.int .i64 x.1.m,.int .i64 x.1.n,.int .i64 (nb:Nat),.int .i64 (ne:Nat)] 190)).heap[w.heap.size]?=some (.cells #[.int .i64 5,.int .i64 x.1.key,.int .i64 x.1.m,.int .i64 x.1.n,.int .i64 (nb:Nat),.int .i64 (ne:Nat)] 190)):=v8 _ _;go_enter func134,ntmps134
 go_wp2_with fail
 refine(jU B R N0 sv cs (am.mk 4 4 x.1.m 0) _ (HH.1.alloc _) B5 (by omega)).mono ?_;rintro e w1 ⟨rfl,⟨s1,h1⟩,b1,k1⟩;have x1:=k1.out _ _ _ HX;have X1:Hid (_=_):=x1;have B9:w1.cell? ⟨w.heap.size,3,none⟩=some (.int .i64 x.1.n):=(ag x1).trans rfl;have H1:Hid (aS B w1 R s1 (cs++[am.mk 4 4 x.1.m 0])/\Below B w w1):=⟨h1,((v7 _ _).alloc C2 _).trans b1⟩;clear h1 b1 x1 k1;go_wp2_with fail
 refine(jU B R N1 s1 _ (am.mk 4 5 x.1.n 0) _ H1.1 (by rw[B6];simp) (by omega)).mono ?_;rintro e w2 ⟨rfl,⟨s2,h2⟩,b2,k2⟩;have x2:=k2.out _ _ _ X1;have C0:w2.cell? ⟨w.heap.size,1,none⟩=some (.int .i64 x.1.key):=(ag x2).trans rfl;have H2:Hid (aS B w2 R s2 (cs++[am.mk 4 4 x.1.m 0,am.mk 4 5 x.1.n 0])/\Below B w w2):=⟨h2.eq (by simp),H1.2.trans b2⟩;clear h2 b2 x2 k2 X1 B9 H1;go_wp2_with fail
 refine(jU B R N2 s2 _ (am.mk 6 x.1.key 5 0) _ H2.1 (by rw[A1];simp) (by omega)).mono ?_;rintro e w3 ⟨rfl,⟨s3,h3⟩,b3,_⟩;have H3:Hid (aS B w3 R s3 (cs++[am.mk 4 4 x.1.m 0,am.mk 4 5 x.1.n 0,am.mk 6 x.1.key 5 0])/\Below B w w3):=⟨h3.eq (by simp),H2.2.trans b3⟩;clear h3 b3 H2 C0;go_wp2_with fail
 refine(jU B R N3 s3 _ (am.mk 5 5 0 0) _ H3.1 (by rw[B7];simp) (by omega)).mono ?_;rintro e w4 ⟨rfl,⟨s4,h4⟩,b4,_⟩;have H4:Hid (aS B w4 R s4 (cs++[am.mk 4 4 x.1.m 0,am.mk 4 5 x.1.n 0,am.mk 6 x.1.key 5 0,am.mk 5 5 0 0])/\Below B w w4):=⟨h4.eq (by simp),H3.2.trans b4⟩;clear h4 b4 H3;go_wp2_with fail
 refine(jU B R N4 s4 _ (am.mk 7 4 0 (N2:Nat)) _ H4.1 (by rw[B8];simp) (by omega)).mono ?_;rintro e w5 ⟨rfl,⟨s5,h5⟩,b5,_⟩;have H5:Hid (aS B w5 R s5 (cs++[am.mk 4 4 x.1.m 0,am.mk 4 5 x.1.n 0,am.mk 6 x.1.key 5 0,am.mk 5 5 0 0,am.mk 7 4 0 (N2:Nat)])/\Below B w w5/\(cs++[am.mk 4 4 x.1.m 0,am.mk 4 5 x.1.n 0,am.mk 6 x.1.key 5 0,am.mk 5 5 0 0,am.mk 7 4 0 (N2:Nat)]).length=cs.length+5):=⟨h5.eq (by simp),H4.2.trans b5,by simp⟩;clear h5 b5 H4;go_wp2_with fail
 refine(HK x.2.2 v2 b rep B R s5 _ w5 (HH.2.2.1.keep (H5.2.1.block b hb)) HH.2.2.2.2 hrep zB ?_ hb H5.1).mono ?_
 .rw[H5.2.2,<- HD.1];omega
 rw[H5.2.2,<- HD.1];rintro e w6 ⟨rfl,⟨s6,h6⟩,b6⟩;have H6:Hid (aS B w6 R s6 (cs++[am.mk 4 4 x.1.m 0,am.mk 4 5 x.1.n 0,am.mk 6 x.1.key 5 0,am.mk 5 5 0 0,am.mk 7 4 0 (N2:Nat)]++E)/\Below B w w6):=⟨h6,H5.2.1.trans b6⟩;clear h6 b6 H5;go_wp2_with fail
 refine(jU B R N5 s6 _ (am.mk 8 0 0 0) _ H6.1 (by rw[A4];simp;omega) (by omega)).mono ?_;rintro e w7 ⟨rfl,⟨s7,h7⟩,b7,_⟩;have H7:Hid (aS B w7 R s7 ((cs++[am.mk 4 4 x.1.m 0,am.mk 4 5 x.1.n 0])++am.mk 6 x.1.key 5 0::(am.mk 5 5 0 0::am.mk 7 4 0 (N2:Nat)::(E++[am.mk 8 0 0 0])))/\Below B w w7):=⟨h7.eq (by simp),H6.2.trans b7⟩;clear h7 b7 H6;go_wp2_with fail
 refine(qn B R N2 N6 s7 (cs++[am.mk 4 4 x.1.m 0,am.mk 4 5 x.1.n 0]) (am.mk 6 x.1.key 5 0) (am.mk 5 5 0 0::am.mk 7 4 0 (N2:Nat)::(E++[am.mk 8 0 0 0])) w7 H7.1 (by rw[A1];simp) (by rw[A5];simp;omega) (by omega)).mono ?_;rintro e w8 ⟨rfl,⟨s8,h8⟩,b8⟩;have H8:Hid (aS B w8 R s8 ((cs++[am.mk 4 4 x.1.m 0,am.mk 4 5 x.1.n 0,am.mk 6 x.1.key 5 (N6:Nat),am.mk 5 5 0 0,am.mk 7 4 0 (N2:Nat)]++E)++[am.mk 8 0 0 0])/\Below B w w8/\((cs++[am.mk 4 4 x.1.m 0,am.mk 4 5 x.1.n 0,am.mk 6 x.1.key 5 (N6:Nat),am.mk 5 5 0 0,am.mk 7 4 0 (N2:Nat)]++E)++[am.mk 8 0 0 0]).length=cs.length+6+E.length):=⟨h8.eq (by simp),H7.2.trans b8,by simp;omega⟩;clear h8 b8 H7;go_wp2_with fail
 refine(HK x.2.1 v1 b rep B R s8 _ w8 (HH.2.1.keep (H8.2.1.block b hb)) HH.2.2.2.1 hrep zA ?_ hb H8.1).mono ?_
 .rw[H8.2.2,<- HD.2];omega
 rw[H8.2.2,<- HD.2];rintro e w9 ⟨rfl,⟨s9,h9⟩,b9⟩;have H9:Hid (aS B w9 R s9 ((cs++[am.mk 4 4 x.1.m 0,am.mk 4 5 x.1.n 0,am.mk 6 x.1.key 5 (N6:Nat),am.mk 5 5 0 0,am.mk 7 4 0 (N2:Nat)]++E)++am.mk 8 0 0 0::A)/\Below B w w9):=⟨h9.eq (by simp),H8.2.1.trans b9⟩;clear h9 b9 H8;go_wp2_with fail
 refine(qn B R N5 N7 s9 (cs++[am.mk 4 4 x.1.m 0,am.mk 4 5 x.1.n 0,am.mk 6 x.1.key 5 (N6:Nat),am.mk 5 5 0 0,am.mk 7 4 0 (N2:Nat)]++E) (am.mk 8 0 0 0) A w9 H9.1 (by rw[A4];simp;omega) (by rw[A6.out];simp;omega) (by omega)).mono ?_;rintro e wa ⟨rfl,⟨sa,ha⟩,ba⟩;go_wp2_with fail
 go_end0;refine⟨rfl,⟨sa,ha.eq ?_⟩,H9.2.trans ba⟩;rw[A5,A6,A1];simp
theorem DJ (t:ByteArray)(d:Nat)(hblk:lQ t d)(x:Hd×af d×af d)(nb ne rep B R b:Nat)(v1 sv:Value)(cs:List am)(w:World)(hk:ao t x.1.p=ch)(hA:fC t d w b v1 x.2.1)(gA:aF t d x.2.1)
  (hrep:rep+1+d<=9) (zA:bv d x.2.1<=400) (hsz:cs.length+(cT t (bh t d) x rep cs.length).length<=900) (hb:b<B) (h:aS B w R sv cs):
  Calls prog 135 #[.pointer (some ⟨R,0,none⟩),.agg (dR (ei t x.1 nb ne)).toArray,v1,.int .i64 (rep:Nat)] w (jR B R w (cs++cT t (bh t d) x rep cs.length)):=by
 rw[oA _ _ _ _ hk]at hsz ⊢;rw[ou _ _ hk];have A0:(dR {kind:=6,key:=x.1.key,times:=x.1.n,ticks:=0,body:=nb,els:=ne}).toArray=#[.int .i64 6,.int .i64 x.1.key,.int .i64 x.1.n,.int .i64 0,.int .i64 (nb:Nat),.int .i64 (ne:Nat)]:=rfl;rw[A0];have B0:B<=w.heap.size:=by have:=ak h.blk;have:=h.le;omega
 obtain⟨A,A2⟩:∃ A,A=bh t d x.2.1 (rep+1) (cs.length+1):=⟨_,rfl⟩;rw[<- A2]at hsz ⊢;have A9:cs.length+2+A.length<=900:=by simp only[List.length_cons,List.length_append,List.length_nil]at hsz;omega
 have HH:Hid (aS B w R sv cs/\fC t d w b v1 x.2.1/\aF t d x.2.1):=⟨h,hA,gA⟩;have HD:=ah A2;have HK:=ah hblk;clear hA gA h hsz A2 hblk A0;obtain⟨N0,A4⟩:∃ N,N=cs.length:=⟨_,rfl⟩;obtain⟨N1,A5⟩:∃ N,N=cs.length+1:=⟨_,rfl⟩;obtain⟨N2,A6⟩:∃ N,N=cs.length+1+A.length:=⟨_,rfl⟩;have q0:N0<=900:=by omega
 have q1:N1<=900:=by omega
 have q2:N2<=900:=by omega
 have A7:=ah A4;have A3:=ah A5;have A8:=ah A6;clear A4 A5 A6;go_enter func135,ntmps135
 go_wp2_with fail
 refine(jU B R N0 sv cs (am.mk 4 (rep:Nat) x.1.n 0) _ (HH.1.alloc _) A7 (by omega)).mono ?_;rintro e w1 ⟨rfl,⟨s1,h1⟩,b1,_⟩;obtain⟨a1,A1,hs1⟩:=bD h1.own;have e1:(cs++[am.mk 4 (rep:Nat) x.1.n 0]).length=N1:=by rw[A3];simp
 rw[e1]at hs1;have r1:w1.cell? ⟨R,0,none⟩=some (.slice a1 N1 A1):=by rw[<- hs1];exact(ag h1.blk).trans rfl
 have B1:R<w1.heap.size:=ak h1.blk;have H1:Hid (aS B w1 R s1 (cs++[am.mk 4 (rep:Nat) x.1.n 0])/\Below B w w1):=⟨h1,((v7 _ _).alloc B0 _).trans b1⟩;clear h1 b1 hs1 e1;go_wp2_with fail
 refine(HK x.2.1 v1 b (rep+1) B R s1 _ w1 (HH.2.1.keep (H1.2.block b hb)) HH.2.2 hrep zA ?_ hb H1.1).mono ?_
 .rw[List.length_append,List.length_singleton,<- HD];omega
 rw[List.length_append,List.length_singleton,<- HD];rintro e w2 ⟨rfl,⟨s2,h2⟩,b2⟩;have H2:Hid (aS B w2 R s2 (cs++[am.mk 4 (rep:Nat) x.1.n 0]++A)/\Below B w w2):=⟨h2,H1.2.trans b2⟩;clear h2 b2 H1 r1;go_wp2_with fail
 refine(jU B R N2 s2 _ (am.mk 7 (rep:Nat) 0 (N1:Nat)) _ H2.1 (by rw[A8];simp;omega) (by omega)).mono ?_;rintro e w3 ⟨rfl,⟨s3,h3⟩,b3,_⟩;go_wp2_with fail
 go_end0;refine⟨rfl,⟨s3,h3.eq ?_⟩,H2.2.trans b3⟩;rw[A3];simp
theorem Hi (t:ByteArray)(d:Nat)(x:Hd×af d×af d)(nb ne rep B R:Nat)(v1 v2 sv:Value)(cs:List am)(w:World)(hk:ao t x.1.p=eA)(h:aS B w R sv cs)(hsz:cs.length+(cT t (bh t d) x rep cs.length).length<=900):
  Calls prog 112 #[.pointer (some ⟨R,0,none⟩),.agg (dR (ei t x.1 nb ne)).toArray,v1,v2,.int .i64 (rep:Nat)] w (jR B R w (cs++cT t (bh t d) x rep cs.length)):=by
 have A2:B<=w.heap.size:=by have:=ak h.blk;have:=h.le;omega
 have A1:Hid (∀ o,Below B w (w.alloc o)):=fun o=>(v7 _ _).alloc A2 o;have HH:=ah h;have hl:cs.length<=900:=by omega
 rw[pX _ _ _ _ hk,si _ _ hk];have A0:(dR {kind:=1,key:=x.1.key,times:=0,ticks:=0,body:=nb,els:=ne}).toArray=#[.int .i64 1,.int .i64 x.1.key,.int .i64 0,.int .i64 0,.int .i64 (nb:Nat),.int .i64 (ne:Nat)]:=rfl;rw[A0];clear A0 hsz h hk;go_enter func112,ntmps112
 go_wp2_with fail
 refine(jU B R cs.length sv cs (am.mk 1 x.1.key 0 0) _ (HH.alloc _) rfl (by omega)).mono ?_;rintro e w1 ⟨rfl,⟨s1,h1⟩,b1,_⟩;go_wp2_with fail
 go_end0;exact⟨rfl,⟨s1,h1⟩,(A1 _).trans b1⟩
theorem Hk (t:ByteArray)(d:Nat)(x:Hd×af d×af d)(nb ne rep B R:Nat)(v1 v2 sv:Value)(cs:List am)(w:World)(hk:ao t x.1.p=eJ)(h:aS B w R sv cs)(hsz:cs.length+(cT t (bh t d) x rep cs.length).length<=900):
  Calls prog 112 #[.pointer (some ⟨R,0,none⟩),.agg (dR (ei t x.1 nb ne)).toArray,v1,v2,.int .i64 (rep:Nat)] w (jR B R w (cs++cT t (bh t d) x rep cs.length)):=by
 have A2:B<=w.heap.size:=by have:=ak h.blk;have:=h.le;omega
 have A1:Hid (∀ o,Below B w (w.alloc o)):=fun o=>(v7 _ _).alloc A2 o;have HH:=ah h;have hl:cs.length<=900:=by omega
 rw[pZ _ _ _ _ hk,sk _ _ hk];have A0:(dR {kind:=2,key:=x.1.key,times:=0,ticks:=x.1.n,body:=nb,els:=ne}).toArray=#[.int .i64 2,.int .i64 x.1.key,.int .i64 0,.int .i64 x.1.n,.int .i64 (nb:Nat),.int .i64 (ne:Nat)]:=rfl;rw[A0];clear A0 hsz h hk;go_enter func112,ntmps112
 go_wp2_with fail
 refine(jU B R cs.length sv cs (am.mk 2 x.1.n 0 0) _ (HH.alloc _) rfl (by omega)).mono ?_;rintro e w1 ⟨rfl,⟨s1,h1⟩,b1,_⟩;go_wp2_with fail
 go_end0;exact⟨rfl,⟨s1,h1⟩,(A1 _).trans b1⟩
theorem Hj (t:ByteArray)(d:Nat)(x:Hd×af d×af d)(nb ne rep B R:Nat)(v1 v2 sv:Value)(cs:List am)(w:World)(hk:ao t x.1.p=eX)(h:aS B w R sv cs)(hsz:cs.length+(cT t (bh t d) x rep cs.length).length<=900):
  Calls prog 112 #[.pointer (some ⟨R,0,none⟩),.agg (dR (ei t x.1 nb ne)).toArray,v1,v2,.int .i64 (rep:Nat)] w (jR B R w (cs++cT t (bh t d) x rep cs.length)):=by
 have A2:B<=w.heap.size:=by have:=ak h.blk;have:=h.le;omega
 have A1:Hid (∀ o,Below B w (w.alloc o)):=fun o=>(v7 _ _).alloc A2 o;have HH:=ah h;have hl:cs.length<=900:=by omega
 rw[pY _ _ _ _ hk,sj _ _ hk];have A0:(dR {kind:=3,key:=x.1.key,times:=0,ticks:=0,body:=nb,els:=ne}).toArray=#[.int .i64 3,.int .i64 x.1.key,.int .i64 0,.int .i64 0,.int .i64 (nb:Nat),.int .i64 (ne:Nat)]:=rfl;rw[A0];clear A0 hsz h hk;go_enter func112,ntmps112
 go_wp2_with fail
 refine(jU B R cs.length sv cs (am.mk 0 0 0 0) _ (HH.alloc _) rfl (by omega)).mono ?_;rintro e w1 ⟨rfl,⟨s1,h1⟩,b1,_⟩;go_wp2_with fail
 go_end0;exact⟨rfl,⟨s1,h1⟩,(A1 _).trans b1⟩
theorem GP (t:ByteArray)(d:Nat)(hblk:lQ t d)(x:Hd×af d×af d)(nb ne rep B R b:Nat)(v1 v2 sv:Value)(cs:List am)(w:World)(hk:ao t x.1.p=dV)(hA:fC t d w b v1 x.2.1)(hB:fC t d w b v2 x.2.2)(gA:aF t d x.2.1)(gB:aF t d x.2.2)
  (hrep:rep+1+d<=9) (zA:bv d x.2.1<=400) (zB:bv d x.2.2<=400) (hsz:cs.length+(cT t (bh t d) x rep cs.length).length<=900) (hb:b<B) (h:aS B w R sv cs):
  Calls prog 112 #[.pointer (some ⟨R,0,none⟩),.agg (dR (ei t x.1 nb ne)).toArray,v1,v2,.int .i64 (rep:Nat)] w (jR B R w (cs++cT t (bh t d) x rep cs.length)):=by
 have A3:B<=w.heap.size:=by have:=ak h.blk;have:=h.le;omega
 have A2:Hid (∀ o,Below B w (w.alloc o)):=fun o=>(v7 _ _).alloc A3 o;have HH:=ah h;have hl:cs.length<=900:=by omega
 have A1:b<w.heap.size:=by omega
 have HC:Hid (∀ o,Calls prog 133 #[.pointer (some ⟨R,0,none⟩),.agg #[.int .i64 4,.int .i64 x.1.key,.int .i64 0,.int .i64 x.1.n,.int .i64 (nb:Nat),.int .i64 (ne:Nat)],v1,v2,.int .i64 (rep:Nat)] (w.alloc o) (jR B R (w.alloc o) (cs++cT t (bh t d) x rep cs.length))):=fun o=>by
  have h1:=Gt t d hblk x nb ne rep B R b v1 v2 sv cs (w.alloc o) hk (hA.keep (q9 _ _ _ A1)) (hB.keep (q9 _ _ _ A1)) gA gB (by omega) zA zB hsz hb (h.alloc o);rw[oK _ _ hk]at h1;exact h1
 rw[oK _ _ hk];have A0:(dR {kind:=4,key:=x.1.key,times:=0,ticks:=x.1.n,body:=nb,els:=ne}).toArray=#[.int .i64 4,.int .i64 x.1.key,.int .i64 0,.int .i64 x.1.n,.int .i64 (nb:Nat),.int .i64 (ne:Nat)]:=rfl;rw[A0];generalize cs++cT t (bh t d) x rep cs.length=Z at *;clear A0 hA hB gA gB hsz h hk;go_enter func112,ntmps112
 go_wp2_with fail
 refine(HC _).mono ?_;rintro e w1 ⟨rfl,⟨s1,h1⟩,b1⟩;go_wp2_with fail
 go_end0;exact⟨rfl,⟨s1,h1⟩,(A2 _).trans b1⟩
theorem Fq (t:ByteArray)(d:Nat)(hblk:lQ t d)(x:Hd×af d×af d)(nb ne rep B R b:Nat)(v1 v2 sv:Value)(cs:List am)(w:World)(hk:ao t x.1.p=dL)(hA:fC t d w b v1 x.2.1)(hB:fC t d w b v2 x.2.2)(gA:aF t d x.2.1)(gB:aF t d x.2.2)
  (hrep:rep+1+d<=9) (zA:bv d x.2.1<=400) (zB:bv d x.2.2<=400) (hsz:cs.length+(cT t (bh t d) x rep cs.length).length<=900) (hb:b<B) (h:aS B w R sv cs):
  Calls prog 112 #[.pointer (some ⟨R,0,none⟩),.agg (dR (ei t x.1 nb ne)).toArray,v1,v2,.int .i64 (rep:Nat)] w (jR B R w (cs++cT t (bh t d) x rep cs.length)):=by
 have A3:B<=w.heap.size:=by have:=ak h.blk;have:=h.le;omega
 have A2:Hid (∀ o,Below B w (w.alloc o)):=fun o=>(v7 _ _).alloc A3 o;have HH:=ah h;have hl:cs.length<=900:=by omega
 have A1:b<w.heap.size:=by omega
 have HC:Hid (∀ o,Calls prog 134 #[.pointer (some ⟨R,0,none⟩),.agg #[.int .i64 5,.int .i64 x.1.key,.int .i64 x.1.m,.int .i64 x.1.n,.int .i64 (nb:Nat),.int .i64 (ne:Nat)],v1,v2,.int .i64 (rep:Nat)] (w.alloc o) (jR B R (w.alloc o) (cs++cT t (bh t d) x rep cs.length))):=fun o=>by
  have h1:=EF t d hblk x nb ne rep B R b v1 v2 sv cs (w.alloc o) hk (hA.keep (q9 _ _ _ A1)) (hB.keep (q9 _ _ _ A1)) gA gB (by omega) zA zB hsz hb (h.alloc o);rw[ol _ _ hk]at h1;exact h1
 rw[ol _ _ hk];have A0:(dR {kind:=5,key:=x.1.key,times:=x.1.m,ticks:=x.1.n,body:=nb,els:=ne}).toArray=#[.int .i64 5,.int .i64 x.1.key,.int .i64 x.1.m,.int .i64 x.1.n,.int .i64 (nb:Nat),.int .i64 (ne:Nat)]:=rfl;rw[A0];generalize cs++cT t (bh t d) x rep cs.length=Z at *;clear A0 hA hB gA gB hsz h hk;go_enter func112,ntmps112
 go_wp2_with fail
 refine(HC _).mono ?_;rintro e w1 ⟨rfl,⟨s1,h1⟩,b1⟩;go_wp2_with fail
 go_end0;exact⟨rfl,⟨s1,h1⟩,(A2 _).trans b1⟩
theorem Fb (t:ByteArray)(d:Nat)(hblk:lQ t d)(x:Hd×af d×af d)(nb ne rep B R b:Nat)(v1 v2 sv:Value)(cs:List am)(w:World)(hk:ao t x.1.p=ch)(hA:fC t d w b v1 x.2.1)(gA:aF t d x.2.1)
  (hrep:rep+1+d<=9) (zA:bv d x.2.1<=400) (hsz:cs.length+(cT t (bh t d) x rep cs.length).length<=900) (hb:b<B) (h:aS B w R sv cs):
  Calls prog 112 #[.pointer (some ⟨R,0,none⟩),.agg (dR (ei t x.1 nb ne)).toArray,v1,v2,.int .i64 (rep:Nat)] w (jR B R w (cs++cT t (bh t d) x rep cs.length)):=by
 have A3:B<=w.heap.size:=by have:=ak h.blk;have:=h.le;omega
 have A1:Hid (∀ o,Below B w (w.alloc o)):=fun o=>(v7 _ _).alloc A3 o;have HH:=ah h;have hl:cs.length<=900:=by omega
 have A2:b<w.heap.size:=by omega
 have HC:Hid (∀ o,Calls prog 135 #[.pointer (some ⟨R,0,none⟩),.agg #[.int .i64 6,.int .i64 x.1.key,.int .i64 x.1.n,.int .i64 0,.int .i64 (nb:Nat),.int .i64 (ne:Nat)],v1,.int .i64 (rep:Nat)] (w.alloc o) (jR B R (w.alloc o) (cs++cT t (bh t d) x rep cs.length))):=fun o=>by
  have h1:=DJ t d hblk x nb ne rep B R b v1 sv cs (w.alloc o) hk (hA.keep (q9 _ _ _ A2)) gA (by omega) zA hsz hb (h.alloc o);rw[ou _ _ hk]at h1;exact h1
 rw[ou _ _ hk];have A0:(dR {kind:=6,key:=x.1.key,times:=x.1.n,ticks:=0,body:=nb,els:=ne}).toArray=#[.int .i64 6,.int .i64 x.1.key,.int .i64 x.1.n,.int .i64 0,.int .i64 (nb:Nat),.int .i64 (ne:Nat)]:=rfl;rw[A0];generalize cs++cT t (bh t d) x rep cs.length=Z at *;clear A0 hA gA hsz h hk;go_enter func112,ntmps112
 go_wp2_with fail
 refine(HC _).mono ?_;rintro e w1 ⟨rfl,⟨s1,h1⟩,b1⟩;go_wp2_with fail
 go_end0;exact⟨rfl,⟨s1,h1⟩,(A1 _).trans b1⟩
theorem As (t:ByteArray)(d:Nat)(hblk:lQ t d)(x:Hd×af d×af d)(nb ne rep B R b:Nat)(v1 v2 sv:Value)(cs:List am)(w:World)(hg:bt t x.1)(hA:fC t d w b v1 x.2.1)(hB:fC t d w b v2 x.2.2)(gA:aF t d x.2.1)(gB:aF t d x.2.2)
  (hrep:rep+1+d<=9) (zA:bv d x.2.1<=400) (zB:bv d x.2.2<=400) (hsz:cs.length+(cT t (bh t d) x rep cs.length).length<=900) (hb:b<B) (h:aS B w R sv cs):
  Calls prog 112 #[.pointer (some ⟨R,0,none⟩),.agg (dR (ei t x.1 nb ne)).toArray,v1,v2,.int .i64 (rep:Nat)] w (jR B R w (cs++cT t (bh t d) x rep cs.length)):=by
 rcases hg with ⟨hk,_⟩|⟨hk,_⟩|⟨hk,_⟩|⟨hk,_⟩|⟨hk,_⟩|⟨hk,_⟩
 .exact Hi t d x nb ne rep B R v1 v2 sv cs w hk h hsz
 .exact Hk t d x nb ne rep B R v1 v2 sv cs w hk h hsz
 .exact Hj t d x nb ne rep B R v1 v2 sv cs w hk h hsz
 .exact GP t d hblk x nb ne rep B R b v1 v2 sv cs w hk hA hB gA gB hrep zA zB hsz hb h
 .exact Fq t d hblk x nb ne rep B R b v1 v2 sv cs w hk hA hB gA gB hrep zA zB hsz hb h
 .exact Fb t d hblk x nb ne rep B R b v1 v2 sv cs w hk hA gA hrep zA hsz hb h
theorem um (t:ByteArray){T:Type}(sub:T->Nat->Nat->List am)(l r:List (Hd×T×T))(rep base:Nat):ez t sub (l++r) rep base=ez t sub l rep base++ez t sub r rep (base+(ez t sub l rep base).length):=by
 induction l generalizing base with
 | nil=>simp[ez]
 | cons x l ih=>
  simp only[List.cons_append,ez];rw[ih];simp[List.append_assoc,Nat.add_assoc]
theorem sR {b o o':Nat}(h:o=o'):some (⟨b,o,none⟩:Addr)=some ⟨b,o',none⟩:=by rw[h]
theorem EW {a:Option Addr}{n n' c:Nat}(h:n=n'):Value.slice a n c=Value.slice a n' c:=by rw[h]
theorem CZ (t:ByteArray){T:Type}(sub:T->Nat->Nat->List am)(x:Hd×T×T)(rep base:Nat):ez t sub [x] rep base=cT t sub x rep base:=by
 simp[ez]
theorem zK (t:ByteArray)(d:Nat)(hblk:lQ t d)(l:List (Hd×af d×af d))(a0:Option Addr)(n cap off b rep B R:Nat)(sv:Value)(cs:List am)(w:World)(hn:n=(eY t d l).length)(hcap:n<=cap)(hmax:cap<=maxLen)(hnd:0<n->a0=some ⟨b,off,none⟩/\bH w b off (eY t d l))
  (hg:aF t (d+1) l) (hrep:rep+(d+1)<=9) (hsz:bv (d+1) l<=400) (hlen:cs.length+(ez t (bh t d) l rep cs.length).length<=900) (hb:b<B) (hW:aS B w R sv cs):
  Calls prog 86 #[.pointer (some ⟨R,0,none⟩),.slice a0 n cap,.int .i64 (rep:Nat)] w fun e w'=>e=.returned (.tuple #[])/\(∃ sv',aS B w' R sv' (cs++ez t (bh t d) l rep cs.length))/\Below B w w':=by
 unfold maxLen at hmax;have B5:n<=400:=by rw[hn];have e:(eY t d l).length=bv (d+1) l:=ve t (d+1) l;omega
 have e2:bv (d+1) l=(l.map fun x:Hd×af d×af d=>1+bv d x.2.1+bv d x.2.2).sum:=rfl;have HX:Hid (∀ (k:Nat) (hk:k<l.length),bt t l[k].1/\aF t d l[k].2.1/\aF t d l[k].2.2/\bv d l[k].2.1<=400/\bv d l[k].2.2<=400):=by
  intro k hk;have hm:l[k]∈l:=Qb hk;obtain⟨h1,h2,h3⟩:=hg l[k] hm;have h4:=ph (fun x:Hd×af d×af d=>1+bv d x.2.1+bv d x.2.2) l _ hm;exact⟨h1,h2,h3,by omega,by omega⟩
 have HC:Hid (∀ (k:Nat) (hk:k<l.length),(cs++ez t (bh t d) (l.take k) rep cs.length)++cT t (bh t d) l[k] rep (cs++ez t (bh t d) (l.take k) rep cs.length).length=cs++ez t (bh t d) (l.take (k+1)) rep cs.length /\
   (cs++ez t (bh t d) (l.take k) rep cs.length).length+(cT t (bh t d) l[k] rep (cs++ez t (bh t d) (l.take k) rep cs.length).length).length<=900):=by
  intro k hk;have h1:ez t (bh t d) (l.take (k+1)) rep cs.length=ez t (bh t d) (l.take k) rep cs.length++cT t (bh t d) l[k] rep (cs.length+(ez t (bh t d) (l.take k) rep cs.length).length):=by
   rw[Qd hk,um,CZ]
  have h2:ez t (bh t d) l rep cs.length=ez t (bh t d) (l.take (k+1)) rep cs.length++ez t (bh t d) (l.drop (k+1)) rep (cs.length+(ez t (bh t d) (l.take (k+1)) rep cs.length).length):=by
   rw[<- um,List.take_append_drop]
  rw[List.length_append];refine⟨by rw[h1,List.append_assoc],?_⟩;have h3:=congrArg List.length h2;rw[h1]at h3;simp only[List.length_append]at h3;omega
 have HN:Hid (0<n->bH w b off (eY t d l)):=fun h=>(hnd h).2;have C0:Hid (0<n->a0=some ⟨b,off,none⟩):=fun h=>(hnd h).1;have C3:=ah hn;have HW:=ah hW;have HK:=ah hblk;clear hn hg hsz e2 hnd hW hlen hblk;go_enter func86,ntmps86
 go_wp2_with fail
 go_loopw [1] (fun v wr=>∃ (k K m c:Nat) (a:Option Addr),k<=l.length/\(eY t d l).drop K=eY t d (l.drop k)/\m=(eY t d (l.drop k)).length/\K+m=n/\v=.slice a m c/\m<=c/\c<=9223372036854775807/\(0<m->a=some ⟨b,off+K*6,none⟩) /\
   Hid (∃ sv',aS B wr R sv' (cs++ez t (bh t d) (l.take k) rep cs.length))/\Hid (Below B w wr)) (fun v _=>match v with|.slice _ m _=>m|_=>0)
 case atStart=>
  refine⟨0,0,n,cap,_,Qa _,rfl,C3,by omega,rfl,hcap,by omega,fun h=>by simpa using C0.out h,⟨sv,HW.out.eq ?_⟩,v7 _ _⟩;simp[ez]
 case round=>
  obtain⟨k,K,m,c,a,hk,A7,hm,D1,rfl,D5,hc,ha,A6,HB⟩:=hrel;by_cases hlt:k<l.length
  .obtain⟨gh,ga,gb,za,zb⟩:=HX k hlt;have A1:=rQ t d l[k] (l.drop (k+1));rw[<- lu l k hlt]at A1;obtain⟨A,hA⟩:∃ A,A=cE t d l[k].2.1:=⟨_,rfl⟩;obtain⟨E,hE⟩:∃ E,E=cE t d l[k].2.2:=⟨_,rfl⟩;rw[<- hA,<- hE]at A1;obtain⟨x,hx⟩:∃ x,x=A.length:=⟨_,rfl⟩;obtain⟨y,hy⟩:∃ y,y=E.length:=⟨_,rfl⟩;obtain⟨N,hN⟩:∃ N,N=ei t l[k].1 x y:=⟨_,rfl⟩;rw[<- hx,<- hy,<- hN]at A1;have B4:m=1+x+y+(eY t d (l.drop (k+1))).length:=by rw[hm,A1];simp[hx,hy];omega
   have A3:N.body=x/\N.els=y:=by rw[hN];exact⟨rfl,rfl⟩
   have D4:b<w.heap.size:=by have:=ak HW.blk;have:=HW.le;omega
   have B8:bH wr b off (eY t d l):=(HN (by omega)).keep (HB.out.block b hb);have A5:bH wr b (off+K*6) (eY t d (l.drop k)):=B8.sub K (eY t d (l.drop k)).length _ (by rw[A7,List.take_length]);rw[A1]at A5;have B6:bH wr b (off+K*6+1*6) A:=A5.sub 1 x A (by simp[hx]);have B7:bH wr b (off+K*6+(1+x)*6) E:=A5.sub (1+x) y E (by rw[show 1+x=x+1 from by omega];simp[hx,hy]);have A2:∀ (j:Nat) (u:Value),(dR N)[j]?=some u->wr.cell? ⟨b,off+K*6+j,none⟩=some u:=fun j u hj=>by
    have:=A5 0 (by simp) j u hj;simpa using this
   have c0:=A2 0 (.int .i64 N.kind) rfl;have c1:=A2 1 (.int .i64 N.key) rfl;have c2:=A2 2 (.int .i64 N.times) rfl;have c3:=A2 3 (.int .i64 N.ticks) rfl;have c4:=A2 4 (.int .i64 x) (by rw[<- A3.1];rfl);have c5:=A2 5 (.int .i64 y) (by rw[<- A3.2];rfl);simp only[Nat.add_zero]at c0;have A4:(eY t d l).drop (K+(1+x+y))=eY t d (l.drop (k+1)):=by
    rw[<- List.drop_drop,A7,A1,show 1+x+y=(x+y)+1 from by omega,List.drop_succ_cons,hx,hy,<- List.append_assoc,<- List.length_append];exact List.drop_left
   have C6:=ha (by omega);have B3:b<wr.heap.size:=by have:=HB.size;omega
   have A9:Hid (bH wr b (off+K*6+1*6) (cE t d l[k].2.1)/\bH wr b (off+K*6+(1+x)*6) (cE t d l[k].2.2)):=by rw[<- hA,<- hE];exact⟨B6,B7⟩
   have B1:Hid (x=(cE t d l[k].2.1).length/\y=(cE t d l[k].2.2).length):=⟨by rw[hx,hA],by rw[hy,hE]⟩;obtain⟨K2,C5⟩:∃ K2,K2=K+(1+x+y):=⟨_,rfl⟩;obtain⟨m2,C9⟩:∃ m2,m2=m - (1+x+y):=⟨_,rfl⟩;have C1:Hid ((eY t d l).drop K2=eY t d (l.drop (k+1))):=by show _=_;rw[C5];exact A4
   have C2:=ah B4;have D6:1+x+y<=m:=by omega
   have D3:B<=wr.heap.size:=by have:=HB.size;have:=ak HW.blk;have:=HW.le;omega
   have C4:Hid (∀ (X Y:Int) (W:World) (a1 a2:Option Addr) (n1 c1 n2 c2:Nat),X=(x:Nat)->Y=(y:Nat)->W.os=wr.os->W.tape=wr.tape->W.output=wr.output ->
     (∀ j:Nat,W.heap[j]?=(wr.alloc (.cells #[.int .i64 N.kind,.int .i64 N.key,.int .i64 N.times,.int .i64 N.ticks,.int .i64 X,.int .i64 Y] 190)).heap[j]?)->W.heap.size=wr.heap.size+1 ->
     (n1=x/\n1<=c1/\c1<=9223372036854775807)->(0<x->a1=some ⟨b,off+K*6+1*6,none⟩)->(n2=y/\n2<=c2/\c2<=9223372036854775807)->(0<y->a2=some ⟨b,off+K*6+(1+x)*6,none⟩) ->
     Calls prog 112 #[.pointer (some ⟨R,0,none⟩),.agg #[.int .i64 N.kind,.int .i64 N.key,.int .i64 N.times,.int .i64 N.ticks,.int .i64 X,.int .i64 Y],.slice a1 n1 c1,.slice a2 n2 c2,.int .i64 (rep:Nat)] W fun e w'=>
      e=.returned (.tuple #[])/\(∃ sv',aS B w' R sv' (cs++ez t (bh t d) (l.take (k+1)) rep cs.length))/\Below B w w'):=by
    intro X Y W a1 a2 n1 c1 n2 c2 hX hY ho1 ho2 ho3 hWh hWs f1 f2 f3 f4;have h1:fC t d wr b (.slice a1 n1 c1) l[k].2.1:=⟨a1,n1,c1,_,rfl,by rw[f1.1,B1.1],f1.2.1,f1.2.2,fun hp=>⟨f2 (by omega),A9.out.1⟩⟩;have h2:fC t d wr b (.slice a2 n2 c2) l[k].2.2:=⟨a2,n2,c2,_,rfl,by rw[f3.1,B1.2],f3.2.1,f3.2.2,fun hp=>⟨f4 (by omega),A9.out.2⟩⟩;obtain⟨s1,hs1⟩:=A6;have A8:∀ j,j<wr.heap.size->W.heap[j]?=wr.heap[j]?:=fun j hj=>by rw[hWh j,q9 _ _ _ hj]
    have h0:=As t d HK l[k] x y rep B R b _ _ s1 _ W gh (h1.keep (A8 b B3)) (h2.keep (A8 b B3)) ga gb (by omega) za zb (HC.out k hlt).2 hb (hs1.keep A8);rw[(HC k hlt).1,<- hN]at h0;have A0:(dR N).toArray=#[.int .i64 N.kind,.int .i64 N.key,.int .i64 N.times,.int .i64 N.ticks,.int .i64 X,.int .i64 Y]:=by
     have h3:dR N=[.int .i64 N.kind,.int .i64 N.key,.int .i64 N.times,.int .i64 N.ticks,.int .i64 (N.body:Nat),.int .i64 (N.els:Nat)]:=rfl;rw[h3,A3.1,A3.2,hX,hY]
    rw[A0]at h0;refine h0.mono ?_;rintro e w' ⟨he,D0,C7⟩;exact⟨he,D0,(HB.trans ⟨ho1,ho2,ho3,by omega,fun j hj=>A8 j (by omega)⟩).trans C7⟩
   clear gh ga gb A1 hA hE hx hy hN A3 B8 A5 B6 B7 A2 A4 B4 A7 hm ha;subst C6;have D2:R<wr.heap.size:=by obtain⟨s1,hs1⟩:=A6.out;exact ak hs1.blk
   rcases(show c=1\/(¬ c=1/\c=1+x)\/(¬ c=1/\¬ c=1+x/\c=1+x+y)\/(¬ c=1/\¬ c=1+x/\¬ c=1+x+y) from by omega) with h1|⟨h1,h2⟩|⟨h1,h2,h3⟩|⟨h1,h2,h3⟩;all_goals first|(subst h1;obtain rfl:x=0:=(by omega);obtain rfl:y=0:=(by omega))|(subst h2;obtain rfl:y=0:=(by omega))|subst h3|skip
   all_goals
    go_wp2_with fail
    go_region_with (go_at_call 112;refine(C4 _ _ _ _ _ _ _ _ _ (by first|rfl|omega|simp) (by first|rfl|omega|simp) (by rfl) (by rfl) (by rfl) (by intro _;rfl) (by simp) ⟨by first|rfl|omega,by omega,by omega⟩ (fun hp=>by first|(exfalso;omega)|exact sR (by omega)) ⟨by first|rfl|omega,by omega,by omega⟩ (fun hp=>by first|(exfalso;omega)|exact sR (by omega))).mono ?_;rintro e w2 ⟨rfl,B9,B2⟩)
    all_goals
     have B0:Hid (_/\_):=⟨B9,B2⟩;clear B9 B2;go_wp2_with fail
     go_roundw;case rel=>
      refine⟨k+1,K2,m2,_,_,by omega,C1.out,?_,by omega,EW (by omega),?_,?_,?_,B0.out.1,B0.out.2⟩
      .have:=C2.out;omega
      .omega
      .omega
      .intro hpos;first|(exfalso;omega)|exact sR (by omega)
     case measure=>simp;omega
  .obtain rfl:k=l.length:=by omega
   have C8:m=0:=by rw[hm,List.drop_length];rfl
   rw[List.take_length]at A6;clear A7 hm ha hlt;subst C8;go_wp2_with fail
   go_end0;exact⟨rfl,A6,HB⟩
theorem zr (a0:Option Addr)(cap rep B R:Nat)(sv:Value)(cs:List am)(w:World)(hW:aS B w R sv cs):
  Calls prog 86 #[.pointer (some ⟨R,0,none⟩),.slice a0 0 cap,.int .i64 (rep:Nat)] w fun e w'=>e=.returned (.tuple #[])/\(∃ sv',aS B w' R sv' cs)/\Below B w w':=by
 have HW:=ah hW;clear hW;go_enter func86,ntmps86
 go_wp2_with fail
 go_loopw [1] (fun v wr=>v=.slice a0 0 cap/\wr=w) (fun _ _=>0)
 case atStart=>exact⟨rfl,rfl⟩
 case round=>
  obtain⟨rfl,rfl⟩:=hrel;go_wp2_with fail
  go_end0;exact⟨rfl,⟨_,HW⟩,v7 _ _⟩
theorem Gj (t:ByteArray):∀ d,lQ t d:=by
 intro d;induction d with
 | zero=>
  intro tr v b rep B R sv cs w hS _ _ _ _ _ hW;obtain⟨a,n,A0,A3,rfl,hn,_,_,_⟩:=hS;have A4:n=0:=hn;subst A4;have e:bh t 0 tr rep cs.length=[]:=rfl;rw[e,List.append_nil];exact zr a A0 rep B R sv cs w hW
 | succ d ih=>
  intro tr v b rep B R sv cs w hS hg hrep hsz hlen hb hW;obtain⟨a,n,A0,A3,rfl,hn,A1,A2,A5⟩:=hS;exact zK t d ih tr a n A0 A3 b rep B R sv cs w hn A1 A2 A5 hg hrep hsz hlen hb hW
end Go.Proofs.YtmmmnghiegajmaaGreat
