import Derived.Test.YtmmmnghiegajmaaGreatM23
set_option maxHeartbeats 4000000
open Go.RowKit Go.Proofs.Herald Go.Proofs.Tryz
namespace Go.Proofs.YtmmmnghiegajmaaGreat
structure dE (w wr:World)(p q:Int):Prop where
 bel:Below w.heap.size w wr
 size:w.heap.size+2<=wr.heap.size
 res:wr.heap[w.heap.size]?=some (.cells #[.int .i64 0,.int .i64 0] 186)
 all:wr.heap[w.heap.size+1]?=some (.cells #[.int .i64 p,.int .i64 q] 186)
theorem dE.keep {w wr w2:World}{p q:Int}(h:dE w wr p q)(hb:Below wr.heap.size wr w2):dE w w2 p q:=by
 have hs:=h.size;have A0:=hb.size;exact⟨h.bel.trans (hb.mono (by omega)),by omega,by rw[hb.block _ (by omega)];exact h.res,by rw[hb.block _ (by omega)];exact h.all⟩
theorem dE.alloc {w wr:World}{p q:Int}(h:dE w wr p q)(o:Obj):dE w (wr.alloc o) p q:=h.keep ((v7 _ _).alloc (v9 _) _)
theorem dE.next {w w2:World}{p q:Int}(h:dE w w2 p q)(p' q':Int):
  dE w ((w2.setCell ⟨w.heap.size+1,0,none⟩ (.int .i64 p')).setCell ⟨w.heap.size+1,1,none⟩ (.int .i64 q')) p' q':=by
 refine⟨(h.bel.setCell (p:=⟨w.heap.size+1,0,none⟩) (by simp) _).setCell (p:=⟨w.heap.size+1,1,none⟩) (by simp) _,by rw[ef,ef];exact h.size,?_,?_⟩
 .rw[q8 _ _ _ _ (by simp),q8 _ _ _ _ (by simp)];exact h.res
 .rw[cG _ (cG _ h.all)];rfl
def eY (t:ByteArray)(d:Nat)(l:List (Hd×af d×af d)):List Nd:=l.flatMap fun x:Hd×af d×af d=>ei t x.1 (cE t d x.2.1).length (cE t d x.2.2).length::(cE t d x.2.1++cE t d x.2.2)
theorem rQ (t:ByteArray)(d:Nat)(x:Hd×af d×af d)(r:List (Hd×af d×af d)):
  eY t d (x::r)=ei t x.1 (cE t d x.2.1).length (cE t d x.2.2).length::(cE t d x.2.1++(cE t d x.2.2++eY t d r)):=by
 simp[eY]
theorem tA (a:Option Addr)(cap:Nat)(w:World):
  Calls prog 110 #[.slice a 0 cap] w fun e w'=>e=.returned (.agg #[.int .i64 0,.int .i64 (-1)])/\Below w.heap.size w w':=by
 go_enter func110,ntmps110
 go_wp2_with fail
 go_loop [0] (fun v=>v=.slice a 0 cap) (fun _=>0)
 case atStart=>rfl
 case round=>
  subst hrel;go_wp2_with fail
  refine bodyPost_ret (v:=.agg #[.int .i64 0,.int .i64 (-1)]) (by simp[results,results110,go_sem]) rfl ⟨rfl,?_⟩;exact((v7 _ _).alloc (v9 _) _).alloc (by simp) _
theorem yF (t:ByteArray)(d:Nat)(hd1:d+1<=5)(ih:wN t d)(l:List (Hd×af d×af d))(b off cap n:Nat)(w:World)(hn:n=(eY t d l).length)(hg:aF t (d+1) l)(hsz:bv (d+1) l<=400)(hcap:n<=cap)(hmax:cap<=maxLen)(hb:b<w.heap.size)(hnd:bH w b off (eY t d l)):
  Calls prog 110 #[.slice (some ⟨b,off,none⟩) n cap] w fun e w'=>e=.returned (.agg #[.int .i64 (bE t (d+1) l).1,.int .i64 (bE t (d+1) l).2])/\Below w.heap.size w w':=by
 unfold maxLen at hmax;have E6:n<=400:=by rw[hn];have e:(eY t d l).length=bv (d+1) l:=ve t (d+1) l;omega
 obtain⟨F,D1⟩:∃ F:(Hd×af d×af d)->Int×Int,F=fun x=>eD t x.1 (bE t d x.2.1) (bE t d x.2.2):=⟨_,rfl⟩;have HT:Hid (bE t (d+1) l=fJ (0,-1) (l.map F)):=by show _=_;rw[D1];rfl
 have E0:=aF.ok (d+1) l hg;have e2:bv (d+1) l=(l.map fun x:Hd×af d×af d=>1+bv d x.2.1+bv d x.2.2).sum:=rfl;have F0:Hid (∀ k,bn (fJ (0,-1) ((l.take k).map F)) 10000000000000):=by
  intro k;have hp:=lH d;have:=rp (kQ (d+1)) (by have:=lH (d+1);omega) F (fun x=>1+bv d x.2.1+bv d x.2.2) (l.take k) (0,-1) 0
   (fun x hx=>by
    have h:=E0 x (List.mem_of_mem_take hx);rw[nC,D1];exact ow t x.1 _ _ _ _ _ hp (kT t d _ h.2.2.2.2.2.1) (kT t d _ h.2.2.2.2.2.2) h.1 h.2.1 h.2.2.2.1 h.2.2.2.2.1) ⟨by simp,by simp,by simp,by simp⟩ (by omega)
  rw[Int.zero_add]at this;refine lY this ?_ hd1;have h1:=uD (fun x:Hd×af d×af d=>1+bv d x.2.1+bv d x.2.2) l k;omega
 have HX:Hid (∀ (k:Nat) (hk:k<l.length),bt t l[k].1/\aF t d l[k].2.1/\aF t d l[k].2.2/\bv d l[k].2.1<=400/\bv d l[k].2.2<=400/\bn (bE t d l[k].2.1) 10000000000000/\bn (bE t d l[k].2.2) 10000000000000/\bn (F l[k]) 10000000000000 /\
   F l[k]=eD t l[k].1 (bE t d l[k].2.1) (bE t d l[k].2.2)):=by
  intro k hk;have hm:l[k]∈l:=Qb hk;obtain⟨h1,h2,h3⟩:=hg l[k] hm;have h4:=ph (fun x:Hd×af d×af d=>1+bv d x.2.1+bv d x.2.2) l _ hm;have h5:=E0 l[k] hm;have ba:=kT t d _ (aF.ok d _ h2);have bb:=kT t d _ (aF.ok d _ h3);have bo:=ow t l[k].1 _ _ _ _ _ (lH d) ba bb h5.1 h5.2.1 h5.2.2.2.1 h5.2.2.2.2.1;rw[<- nC]at bo;refine⟨h1,h2,h3,by omega,by omega,lY ba (by omega) (by omega),lY bb (by omega) (by omega),?_,by rw[D1]⟩;rw[D1];exact lY bo (by omega) hd1
 have HN:=ah hnd;have F1:=ah hn;clear hn hg hsz E0 e2 D1 hnd;go_enter func110,ntmps110
 go_wp2_with fail
 go_loopw [0] (fun v wr=>∃ (k K m c:Nat) (a:Option Addr),k<=l.length/\(eY t d l).drop K=eY t d (l.drop k)/\m=(eY t d (l.drop k)).length/\K+m=n/\v=.slice a m c/\m<=c/\c<=9223372036854775807/\(0<m->a=some ⟨b,off+K*6,none⟩) /\
   dE w wr (fJ (0,-1) ((l.take k).map F)).1 (fJ (0,-1) ((l.take k).map F)).2) (fun v _=>match v with|.slice _ m _=>m|_=>0)
 case atStart=>
  obtain⟨k0,k1⟩:=Gw w (.cells #[.int .i64 0,.int .i64 0] 186) (.cells #[.int .i64 0,.int .i64 (-1)] 186);exact⟨0,0,n,cap,_,Qa _,rfl,F1,by omega,rfl,hcap,by omega,fun _=>by simp,⟨((v7 _ _).alloc (v9 _) _).alloc (by simp) _,by simp,k0,k1⟩⟩
 case round=>
  obtain⟨k,K,m,c,a,hk,D8,hm,F9,rfl,G0,hc,ha,hS⟩:=hrel;by_cases hlt:k<l.length
  .obtain⟨gh,ga,gb,za,zb,ba,bb,bo,E4⟩:=HX k hlt;have B5:=rQ t d l[k] (l.drop (k+1));rw[<- lu l k hlt]at B5;obtain⟨A,hA⟩:∃ A,A=cE t d l[k].2.1:=⟨_,rfl⟩;obtain⟨B,hB⟩:∃ B,B=cE t d l[k].2.2:=⟨_,rfl⟩;rw[<- hA,<- hB]at B5;obtain⟨x,hx⟩:∃ x,x=A.length:=⟨_,rfl⟩;obtain⟨y,hy⟩:∃ y,y=B.length:=⟨_,rfl⟩;obtain⟨N,hN⟩:∃ N,N=ei t l[k].1 x y:=⟨_,rfl⟩;rw[<- hx,<- hy,<- hN]at B5;have E5:m=1+x+y+(eY t d (l.drop (k+1))).length:=by rw[hm,B5];simp[hx,hy];omega
   have D9:N.body=x/\N.els=y:=by rw[hN];exact⟨rfl,rfl⟩
   have E9:bH wr b off (eY t d l):=HN.keep (hS.bel.block b hb);have D3:bH wr b (off+K*6) (eY t d (l.drop k)):=E9.sub K (eY t d (l.drop k)).length _ (by rw[D8,List.take_length]);rw[B5]at D3;have E7:bH wr b (off+K*6+1*6) A:=D3.sub 1 x A (by simp[hx]);have E8:bH wr b (off+K*6+(1+x)*6) B:=D3.sub (1+x) y B (by rw[show 1+x=x+1 from by omega];simp[hx,hy]);have B6:∀ (j:Nat) (u:Value),(dR N)[j]?=some u->wr.cell? ⟨b,off+K*6+j,none⟩=some u:=fun j u hj=>by
    have:=D3 0 (by simp) j u hj;simpa using this
   have c0:=B6 0 (.int .i64 N.kind) rfl;have c1:=B6 1 (.int .i64 N.key) rfl;have c2:=B6 2 (.int .i64 N.times) rfl;have c3:=B6 3 (.int .i64 N.ticks) rfl;have c4:=B6 4 (.int .i64 x) (by rw[<- D9.1];rfl);have c5:=B6 5 (.int .i64 y) (by rw[<- D9.2];rfl);simp only[Nat.add_zero]at c0;have D2:(eY t d l).drop (K+(1+x+y))=eY t d (l.drop (k+1)):=by
    rw[<- List.drop_drop,D8,B5,show 1+x+y=(x+y)+1 from by omega,List.drop_succ_cons,hx,hy,<- List.append_assoc,<- List.length_append];exact List.drop_left
   have F6:=ha (by omega);obtain⟨B9,C0,C1,C2⟩:=ba;obtain⟨C3,C4,C5,C6⟩:=bb;obtain⟨C7,F2,C8,F3⟩:=bo;obtain⟨C9,F4,D0,F5⟩:=F0 k;obtain⟨P,hP⟩:∃ P,P=fJ (0,-1) ((l.take k).map F):=⟨_,rfl⟩;have B8:Hid (fJ (0,-1) ((l.take (k+1)).map F)=(bV P.1 (F l[k]).1,cu P.2 (bV P.1 (F l[k]).2))):=by
    show _=_;rw[Qd hlt,List.map_append,List.map_singleton,vf,hP]
   rw[<- hP]at C9 F4 D0 F5 hS;obtain⟨U,hU⟩:∃ U,U=bE t d l[k].2.1:=⟨_,rfl⟩;obtain⟨V,hV⟩:∃ V,V=bE t d l[k].2.2:=⟨_,rfl⟩;obtain⟨O,hO⟩:∃ O,O=F l[k]:=⟨_,rfl⟩;rw[<- hU]at B9 C0 C1 C2;rw[<- hV]at C3 C4 C5 C6;rw[<- hO]at C7 F2 C8 F3 B8;have A1:Hid (U=bE t d l[k].2.1/\V=bE t d l[k].2.2/\O=eD t l[k].1 U V/\N=ei t l[k].1 x y/\x=(cE t d l[k].2.1).length/\y=(cE t d l[k].2.2).length):=by
    refine⟨hU,hV,?_,hN,by rw[hx,hA],by rw[hy,hB]⟩;rw[hO,E4,hU,hV]
   have A8:Hid (bt t l[k].1/\aF t d l[k].2.1/\aF t d l[k].2.2):=⟨gh,ga,gb⟩;have B0:Hid (bH wr b (off+K*6+1*6) (cE t d l[k].2.1)/\bH wr b (off+K*6+(1+x)*6) (cE t d l[k].2.2)):=by rw[<- hA,<- hB];exact⟨E7,E8⟩
   have D4:=ah D2;have D7:=ah hS;have D5:=ah E5;have G1:1+x+y<=m:=by omega
   have hsz:=hS.bel.size;have F8:=hS.size;have B1:b<wr.heap.size:=by omega
   clear gh ga gb B5 hA hB hx hy hN D9 E9 D3 E7 E8 B6 D2 hP hU hV hO E4 hS E5 D8 hm ha;subst F6;have D6:Hid (∀ X Y:Nat,x=X->y=Y->dR N=[.int .i64 N.kind,.int .i64 N.key,.int .i64 N.times,.int .i64 N.ticks,.int .i64 X,.int .i64 Y]):=fun X Y h1 h2=>by rw[<- h1,<- h2,A1.2.2.2.1];rfl
   rcases(show c=1\/(¬ c=1/\c=1+x)\/(¬ c=1/\¬ c=1+x/\c=1+x+y)\/(¬ c=1/\¬ c=1+x/\¬ c=1+x+y) from by omega) with h1|⟨h1,h2⟩|⟨h1,h2,h3⟩|⟨h1,h2,h3⟩
   .obtain rfl:x=0:=by omega
    obtain rfl:y=0:=by omega
    subst h1;have B7:Hid (∀ W:World,Calls prog 130 #[.agg #[.int .i64 N.kind,.int .i64 N.key,.int .i64 N.times,.int .i64 N.ticks,.int .i64 0,.int .i64 0],.agg #[.int .i64 U.1,.int .i64 U.2],.agg #[.int .i64 V.1,.int .i64 V.2]] W fun e w'=>e=.returned (.agg #[.int .i64 O.1,.int .i64 O.2])/\Below W.heap.size W w'):=fun W=>by
     have h0:=pw t l[k].1 0 0 A8.1 U.1 U.2 V.1 V.2 W B9 C0 C1 C2 C3 C4 C5 C6;rw[<- A1.2.2.2.1,D6 0 0 rfl rfl,show eD t l[k].1 (U.1,U.2) (V.1,V.2)=O from A1.2.2.1.symm]at h0;exact h0
    go_wp2_with fail
    refine(ih l[k].2.1 _ b (off+K*6+1*6) _ _ _ A1.2.2.2.2.1 A8.2.1 za (by omega) (by omega) (by unfold maxLen;omega) ?_).mono ?_
    .intro hpos;first|(exfalso;omega)|(refine⟨rfl,?_,B0.out.1.keep (q9 _ _ _ B1)⟩;simp;omega)
    rw[<- A1.1];rintro e w2 ⟨rfl,A2⟩;have E1:wr.heap.size+1<=w2.heap.size:=by have:=A2.size;simp at this;omega
    have s2:=((D7.alloc _).keep A2);have A4:w2.heap[wr.heap.size]?=some (.cells #[.int .i64 N.kind,.int .i64 N.key,.int .i64 N.times,.int .i64 N.ticks,.int .i64 0,.int .i64 0] 190):=(A2.block wr.heap.size (by simp)).trans (v8 _ _);have f4:w2.cell? ⟨wr.heap.size,4,none⟩=some (.int .i64 0):=(ag A4).trans rfl;have f5:w2.cell? ⟨wr.heap.size,5,none⟩=some (.int .i64 0):=(ag A4).trans rfl;have k2:w2.heap[b]?=wr.heap[b]?:=(A2.block b (by simp;omega)).trans (q9 _ _ _ B1);have A5:Hid (_/\_/\_):=And.intro s2 (And.intro A4 k2);clear A2 s2 A4 k2;go_wp2_with fail
    refine(ih l[k].2.2 _ b (off+K*6+(1+0)*6) _ _ _ A1.2.2.2.2.2 A8.2.2 zb (by omega) (by omega) (by unfold maxLen;omega) ?_).mono ?_
    .intro hpos;first|(exfalso;omega)|(refine⟨rfl,?_,B0.out.2.keep ((q9 _ _ _ (by omega)).trans A5.out.2.2)⟩;simp;omega)
    rw[<- A1.2.1];rintro e w3 ⟨rfl,A3⟩;have E2:w2.heap.size+1<=w3.heap.size:=by have:=A3.size;simp at this;omega
    have s3:=((A5.1.alloc _).keep A3);have A0:w3.heap[wr.heap.size]?=some (.cells #[.int .i64 N.kind,.int .i64 N.key,.int .i64 N.times,.int .i64 N.ticks,.int .i64 0,.int .i64 0] 190):=(A3.block wr.heap.size (by simp;omega)).trans ((q9 _ _ _ (by omega)).trans A5.out.2.1);have A6:w3.heap[w2.heap.size]?=some (.cells #[.int .i64 U.1,.int .i64 U.2] 186):=(A3.block w2.heap.size (by simp)).trans (v8 _ _);have d0:w3.cell? ⟨wr.heap.size,0,none⟩=some (.int .i64 N.kind):=(ag A0).trans rfl;have d1:w3.cell? ⟨wr.heap.size,1,none⟩=some (.int .i64 N.key):=(ag A0).trans rfl;have d2:w3.cell? ⟨wr.heap.size,2,none⟩=some (.int .i64 N.times):=(ag A0).trans rfl;have d3:w3.cell? ⟨wr.heap.size,3,none⟩=some (.int .i64 N.ticks):=(ag A0).trans rfl;have d4:w3.cell? ⟨wr.heap.size,4,none⟩=some (.int .i64 0):=(ag A0).trans rfl;have d5:w3.cell? ⟨wr.heap.size,5,none⟩=some (.int .i64 0):=(ag A0).trans rfl;have g0:w3.cell? ⟨w2.heap.size,0,none⟩=some (.int .i64 U.1):=(ag A6).trans rfl;have g1:w3.cell? ⟨w2.heap.size,1,none⟩=some (.int .i64 U.2):=(ag A6).trans rfl;have q1:wr.heap.size<w3.heap.size:=by omega
    have q2:w2.heap.size<w3.heap.size:=by omega
    have B2:Hid (dE w w3 P.1 P.2):=s3;clear A3 s3 A0 A6 f4 f5;go_wp2_with fail
    refine(B7.out _).mono ?_;rintro e w4 ⟨rfl,A7⟩;have E3:w3.heap.size+1<=w4.heap.size:=by have:=A7.size;simp at this;omega
    have s4:=((B2.alloc _).keep A7);have a0:w4.cell? ⟨w.heap.size+1,0,none⟩=some (.int .i64 P.1):=(ag s4.all).trans rfl;have a1:w4.cell? ⟨w.heap.size+1,1,none⟩=some (.int .i64 P.2):=(ag s4.all).trans rfl;have q3:w.heap.size+1<w4.heap.size:=by have:=s4.size;omega
    have B3:Hid (dE w w4 P.1 P.2):=s4;clear A7 s4 d0 d1 d2 d3 d4 d5 g0 g1;go_wp2_with fail
    refine(oZ P.1 P.2 O.1 O.2 _ C9 (by omega) D0 (by omega) C7 (by omega) C8 (by omega)).mono ?_;rintro e w5 ⟨rfl,A9⟩;have s5:=((B3.alloc _).keep A9);have y0:w5.cell? ⟨w.heap.size+1,0,none⟩=some (.int .i64 P.1):=(ag s5.all).trans rfl;have y1:w5.cell? ⟨w.heap.size+1,1,none⟩=some (.int .i64 P.2):=(ag s5.all).trans rfl;have z0:w5.frozen? ⟨w.heap.size+1,0,none⟩=false:=aC s5.all;have z1:w5.frozen? ⟨w.heap.size+1,1,none⟩=false:=aC s5.all;have B4:Hid (dE w w5 P.1 P.2):=s5;clear A9 s5 a0 a1;go_wp2_with fail
    go_roundw;case rel=>
     refine⟨k+1,K+(1+0+0),0,0,_,by omega,D4.out,?_,by omega,rfl,by omega,by omega,?_,by rw[B8.out];exact B4.next _ _⟩
     .have:=D5.out;omega
     .intro hpos;first|(exfalso;omega)|(simp only[Nat.add_mul];congr 2;omega)
    case measure=>simp;omega
   .obtain rfl:y=0:=by omega
    subst h2;have B7:Hid (∀ W:World,Calls prog 130 #[.agg #[.int .i64 N.kind,.int .i64 N.key,.int .i64 N.times,.int .i64 N.ticks,.int .i64 (x:Nat),.int .i64 0],.agg #[.int .i64 U.1,.int .i64 U.2],.agg #[.int .i64 V.1,.int .i64 V.2]] W fun e w'=>e=.returned (.agg #[.int .i64 O.1,.int .i64 O.2])/\Below W.heap.size W w'):=fun W=>by
     have h0:=pw t l[k].1 x 0 A8.1 U.1 U.2 V.1 V.2 W B9 C0 C1 C2 C3 C4 C5 C6;rw[<- A1.2.2.2.1,D6 x 0 rfl rfl,show eD t l[k].1 (U.1,U.2) (V.1,V.2)=O from A1.2.2.1.symm]at h0;exact h0
    go_wp2_with fail
    refine(ih l[k].2.1 _ b (off+K*6+1*6) _ _ _ A1.2.2.2.2.1 A8.2.1 za (by omega) (by omega) (by unfold maxLen;omega) ?_).mono ?_
    .intro hpos;first|(exfalso;omega)|(refine⟨rfl,?_,B0.out.1.keep (q9 _ _ _ B1)⟩;simp;omega)
    rw[<- A1.1];rintro e w2 ⟨rfl,A2⟩;have E1:wr.heap.size+1<=w2.heap.size:=by have:=A2.size;simp at this;omega
    have s2:=((D7.alloc _).keep A2);have A4:w2.heap[wr.heap.size]?=some (.cells #[.int .i64 N.kind,.int .i64 N.key,.int .i64 N.times,.int .i64 N.ticks,.int .i64 (x:Nat),.int .i64 0] 190):=(A2.block wr.heap.size (by simp)).trans (v8 _ _);have f4:w2.cell? ⟨wr.heap.size,4,none⟩=some (.int .i64 (x:Nat)):=(ag A4).trans rfl;have f5:w2.cell? ⟨wr.heap.size,5,none⟩=some (.int .i64 0):=(ag A4).trans rfl;have k2:w2.heap[b]?=wr.heap[b]?:=(A2.block b (by simp;omega)).trans (q9 _ _ _ B1);have A5:Hid (_/\_/\_):=And.intro s2 (And.intro A4 k2);clear A2 s2 A4 k2;go_wp2_with fail
    refine(ih l[k].2.2 _ b (off+K*6+(1+x)*6) _ _ _ A1.2.2.2.2.2 A8.2.2 zb (by omega) (by omega) (by unfold maxLen;omega) ?_).mono ?_
    .intro hpos;first|(exfalso;omega)|(refine⟨rfl,?_,B0.out.2.keep ((q9 _ _ _ (by omega)).trans A5.out.2.2)⟩;simp;omega)
    rw[<- A1.2.1];rintro e w3 ⟨rfl,A3⟩;have E2:w2.heap.size+1<=w3.heap.size:=by have:=A3.size;simp at this;omega
    have s3:=((A5.1.alloc _).keep A3);have A0:w3.heap[wr.heap.size]?=some (.cells #[.int .i64 N.kind,.int .i64 N.key,.int .i64 N.times,.int .i64 N.ticks,.int .i64 (x:Nat),.int .i64 0] 190):=(A3.block wr.heap.size (by simp;omega)).trans ((q9 _ _ _ (by omega)).trans A5.out.2.1);have A6:w3.heap[w2.heap.size]?=some (.cells #[.int .i64 U.1,.int .i64 U.2] 186):=(A3.block w2.heap.size (by simp)).trans (v8 _ _);have d0:w3.cell? ⟨wr.heap.size,0,none⟩=some (.int .i64 N.kind):=(ag A0).trans rfl;have d1:w3.cell? ⟨wr.heap.size,1,none⟩=some (.int .i64 N.key):=(ag A0).trans rfl;have d2:w3.cell? ⟨wr.heap.size,2,none⟩=some (.int .i64 N.times):=(ag A0).trans rfl;have d3:w3.cell? ⟨wr.heap.size,3,none⟩=some (.int .i64 N.ticks):=(ag A0).trans rfl;have d4:w3.cell? ⟨wr.heap.size,4,none⟩=some (.int .i64 (x:Nat)):=(ag A0).trans rfl;have d5:w3.cell? ⟨wr.heap.size,5,none⟩=some (.int .i64 0):=(ag A0).trans rfl;have g0:w3.cell? ⟨w2.heap.size,0,none⟩=some (.int .i64 U.1):=(ag A6).trans rfl;have g1:w3.cell? ⟨w2.heap.size,1,none⟩=some (.int .i64 U.2):=(ag A6).trans rfl;have q1:wr.heap.size<w3.heap.size:=by omega
    have q2:w2.heap.size<w3.heap.size:=by omega
    have B2:Hid (dE w w3 P.1 P.2):=s3;clear A3 s3 A0 A6 f4 f5;go_wp2_with fail
    refine(B7.out _).mono ?_;rintro e w4 ⟨rfl,A7⟩;have E3:w3.heap.size+1<=w4.heap.size:=by have:=A7.size;simp at this;omega
    have s4:=((B2.alloc _).keep A7);have a0:w4.cell? ⟨w.heap.size+1,0,none⟩=some (.int .i64 P.1):=(ag s4.all).trans rfl;have a1:w4.cell? ⟨w.heap.size+1,1,none⟩=some (.int .i64 P.2):=(ag s4.all).trans rfl;have q3:w.heap.size+1<w4.heap.size:=by have:=s4.size;omega
    have B3:Hid (dE w w4 P.1 P.2):=s4;clear A7 s4 d0 d1 d2 d3 d4 d5 g0 g1;go_wp2_with fail
    refine(oZ P.1 P.2 O.1 O.2 _ C9 (by omega) D0 (by omega) C7 (by omega) C8 (by omega)).mono ?_;rintro e w5 ⟨rfl,A9⟩;have s5:=((B3.alloc _).keep A9);have y0:w5.cell? ⟨w.heap.size+1,0,none⟩=some (.int .i64 P.1):=(ag s5.all).trans rfl;have y1:w5.cell? ⟨w.heap.size+1,1,none⟩=some (.int .i64 P.2):=(ag s5.all).trans rfl;have z0:w5.frozen? ⟨w.heap.size+1,0,none⟩=false:=aC s5.all;have z1:w5.frozen? ⟨w.heap.size+1,1,none⟩=false:=aC s5.all;have B4:Hid (dE w w5 P.1 P.2):=s5;clear A9 s5 a0 a1;go_wp2_with fail
    go_roundw;case rel=>
     refine⟨k+1,K+(1+x+0),m - (1+x+0),_,_,by omega,D4.out,?_,by omega,rfl,by omega,by omega,?_,by rw[B8.out];exact B4.next _ _⟩
     .have:=D5.out;omega
     .intro hpos;first|(exfalso;omega)|(simp only[Nat.add_mul];congr 2;omega)
    case measure=>simp;omega
   .subst h3;have B7:Hid (∀ W:World,Calls prog 130 #[.agg #[.int .i64 N.kind,.int .i64 N.key,.int .i64 N.times,.int .i64 N.ticks,.int .i64 (x:Nat),.int .i64 (y:Nat)],.agg #[.int .i64 U.1,.int .i64 U.2],.agg #[.int .i64 V.1,.int .i64 V.2]] W fun e w'=>e=.returned (.agg #[.int .i64 O.1,.int .i64 O.2])/\Below W.heap.size W w'):=fun W=>by
     have h0:=pw t l[k].1 x y A8.1 U.1 U.2 V.1 V.2 W B9 C0 C1 C2 C3 C4 C5 C6;rw[<- A1.2.2.2.1,D6 x y rfl rfl,show eD t l[k].1 (U.1,U.2) (V.1,V.2)=O from A1.2.2.1.symm]at h0;exact h0
    go_wp2_with fail
    refine(ih l[k].2.1 _ b (off+K*6+1*6) _ _ _ A1.2.2.2.2.1 A8.2.1 za (by omega) (by omega) (by unfold maxLen;omega) ?_).mono ?_
    .intro hpos;first|(exfalso;omega)|(refine⟨rfl,?_,B0.out.1.keep (q9 _ _ _ B1)⟩;simp;omega)
    rw[<- A1.1];rintro e w2 ⟨rfl,A2⟩;have E1:wr.heap.size+1<=w2.heap.size:=by have:=A2.size;simp at this;omega
    have s2:=((D7.alloc _).keep A2);have A4:w2.heap[wr.heap.size]?=some (.cells #[.int .i64 N.kind,.int .i64 N.key,.int .i64 N.times,.int .i64 N.ticks,.int .i64 (x:Nat),.int .i64 (y:Nat)] 190):=(A2.block wr.heap.size (by simp)).trans (v8 _ _);have f4:w2.cell? ⟨wr.heap.size,4,none⟩=some (.int .i64 (x:Nat)):=(ag A4).trans rfl;have f5:w2.cell? ⟨wr.heap.size,5,none⟩=some (.int .i64 (y:Nat)):=(ag A4).trans rfl;have k2:w2.heap[b]?=wr.heap[b]?:=(A2.block b (by simp;omega)).trans (q9 _ _ _ B1);have A5:Hid (_/\_/\_):=And.intro s2 (And.intro A4 k2);clear A2 s2 A4 k2;go_wp2_with fail
    refine(ih l[k].2.2 _ b (off+K*6+(1+x)*6) _ _ _ A1.2.2.2.2.2 A8.2.2 zb (by omega) (by omega) (by unfold maxLen;omega) ?_).mono ?_
    .intro hpos;first|(exfalso;omega)|(refine⟨rfl,?_,B0.out.2.keep ((q9 _ _ _ (by omega)).trans A5.out.2.2)⟩;simp;omega)
    rw[<- A1.2.1];rintro e w3 ⟨rfl,A3⟩;have E2:w2.heap.size+1<=w3.heap.size:=by have:=A3.size;simp at this;omega
    have s3:=((A5.1.alloc _).keep A3);have A0:w3.heap[wr.heap.size]?=some (.cells #[.int .i64 N.kind,.int .i64 N.key,.int .i64 N.times,.int .i64 N.ticks,.int .i64 (x:Nat),.int .i64 (y:Nat)] 190):=(A3.block wr.heap.size (by simp;omega)).trans ((q9 _ _ _ (by omega)).trans A5.out.2.1);have A6:w3.heap[w2.heap.size]?=some (.cells #[.int .i64 U.1,.int .i64 U.2] 186):=(A3.block w2.heap.size (by simp)).trans (v8 _ _);have d0:w3.cell? ⟨wr.heap.size,0,none⟩=some (.int .i64 N.kind):=(ag A0).trans rfl;have d1:w3.cell? ⟨wr.heap.size,1,none⟩=some (.int .i64 N.key):=(ag A0).trans rfl;have d2:w3.cell? ⟨wr.heap.size,2,none⟩=some (.int .i64 N.times):=(ag A0).trans rfl;have d3:w3.cell? ⟨wr.heap.size,3,none⟩=some (.int .i64 N.ticks):=(ag A0).trans rfl;have d4:w3.cell? ⟨wr.heap.size,4,none⟩=some (.int .i64 (x:Nat)):=(ag A0).trans rfl;have d5:w3.cell? ⟨wr.heap.size,5,none⟩=some (.int .i64 (y:Nat)):=(ag A0).trans rfl;have g0:w3.cell? ⟨w2.heap.size,0,none⟩=some (.int .i64 U.1):=(ag A6).trans rfl;have g1:w3.cell? ⟨w2.heap.size,1,none⟩=some (.int .i64 U.2):=(ag A6).trans rfl;have q1:wr.heap.size<w3.heap.size:=by omega
    have q2:w2.heap.size<w3.heap.size:=by omega
    have B2:Hid (dE w w3 P.1 P.2):=s3;clear A3 s3 A0 A6 f4 f5;go_wp2_with fail
    refine(B7.out _).mono ?_;rintro e w4 ⟨rfl,A7⟩;have E3:w3.heap.size+1<=w4.heap.size:=by have:=A7.size;simp at this;omega
    have s4:=((B2.alloc _).keep A7);have a0:w4.cell? ⟨w.heap.size+1,0,none⟩=some (.int .i64 P.1):=(ag s4.all).trans rfl;have a1:w4.cell? ⟨w.heap.size+1,1,none⟩=some (.int .i64 P.2):=(ag s4.all).trans rfl;have q3:w.heap.size+1<w4.heap.size:=by have:=s4.size;omega
    have B3:Hid (dE w w4 P.1 P.2):=s4;clear A7 s4 d0 d1 d2 d3 d4 d5 g0 g1;go_wp2_with fail
    refine(oZ P.1 P.2 O.1 O.2 _ C9 (by omega) D0 (by omega) C7 (by omega) C8 (by omega)).mono ?_;rintro e w5 ⟨rfl,A9⟩;have s5:=((B3.alloc _).keep A9);have y0:w5.cell? ⟨w.heap.size+1,0,none⟩=some (.int .i64 P.1):=(ag s5.all).trans rfl;have y1:w5.cell? ⟨w.heap.size+1,1,none⟩=some (.int .i64 P.2):=(ag s5.all).trans rfl;have z0:w5.frozen? ⟨w.heap.size+1,0,none⟩=false:=aC s5.all;have z1:w5.frozen? ⟨w.heap.size+1,1,none⟩=false:=aC s5.all;have B4:Hid (dE w w5 P.1 P.2):=s5;clear A9 s5 a0 a1;go_wp2_with fail
    go_roundw;case rel=>
     refine⟨k+1,K+(1+x+y),m - (1+x+y),_,_,by omega,D4.out,?_,by omega,rfl,by omega,by omega,?_,by rw[B8.out];exact B4.next _ _⟩
     .have:=D5.out;omega
     .intro hpos;first|(exfalso;omega)|(simp only[Nat.add_mul];congr 2;omega)
    case measure=>simp;omega
   .have B7:Hid (∀ W:World,Calls prog 130 #[.agg #[.int .i64 N.kind,.int .i64 N.key,.int .i64 N.times,.int .i64 N.ticks,.int .i64 (x:Nat),.int .i64 (y:Nat)],.agg #[.int .i64 U.1,.int .i64 U.2],.agg #[.int .i64 V.1,.int .i64 V.2]] W fun e w'=>e=.returned (.agg #[.int .i64 O.1,.int .i64 O.2])/\Below W.heap.size W w'):=fun W=>by
     have h0:=pw t l[k].1 x y A8.1 U.1 U.2 V.1 V.2 W B9 C0 C1 C2 C3 C4 C5 C6;rw[<- A1.2.2.2.1,D6 x y rfl rfl,show eD t l[k].1 (U.1,U.2) (V.1,V.2)=O from A1.2.2.1.symm]at h0;exact h0
    go_wp2_with fail
    refine(ih l[k].2.1 _ b (off+K*6+1*6) _ _ _ A1.2.2.2.2.1 A8.2.1 za (by omega) (by omega) (by unfold maxLen;omega) ?_).mono ?_
    .intro hpos;first|(exfalso;omega)|(refine⟨rfl,?_,B0.out.1.keep (q9 _ _ _ B1)⟩;simp;omega)
    rw[<- A1.1];rintro e w2 ⟨rfl,A2⟩;have E1:wr.heap.size+1<=w2.heap.size:=by have:=A2.size;simp at this;omega
    have s2:=((D7.alloc _).keep A2);have A4:w2.heap[wr.heap.size]?=some (.cells #[.int .i64 N.kind,.int .i64 N.key,.int .i64 N.times,.int .i64 N.ticks,.int .i64 (x:Nat),.int .i64 (y:Nat)] 190):=(A2.block wr.heap.size (by simp)).trans (v8 _ _);have f4:w2.cell? ⟨wr.heap.size,4,none⟩=some (.int .i64 (x:Nat)):=(ag A4).trans rfl;have f5:w2.cell? ⟨wr.heap.size,5,none⟩=some (.int .i64 (y:Nat)):=(ag A4).trans rfl;have k2:w2.heap[b]?=wr.heap[b]?:=(A2.block b (by simp;omega)).trans (q9 _ _ _ B1);have A5:Hid (_/\_/\_):=And.intro s2 (And.intro A4 k2);clear A2 s2 A4 k2;go_wp2_with fail
    refine(ih l[k].2.2 _ b (off+K*6+(1+x)*6) _ _ _ A1.2.2.2.2.2 A8.2.2 zb (by omega) (by omega) (by unfold maxLen;omega) ?_).mono ?_
    .intro hpos;first|(exfalso;omega)|(refine⟨rfl,?_,B0.out.2.keep ((q9 _ _ _ (by omega)).trans A5.out.2.2)⟩;simp;omega)
    rw[<- A1.2.1];rintro e w3 ⟨rfl,A3⟩;have E2:w2.heap.size+1<=w3.heap.size:=by have:=A3.size;simp at this;omega
    have s3:=((A5.1.alloc _).keep A3);have A0:w3.heap[wr.heap.size]?=some (.cells #[.int .i64 N.kind,.int .i64 N.key,.int .i64 N.times,.int .i64 N.ticks,.int .i64 (x:Nat),.int .i64 (y:Nat)] 190):=(A3.block wr.heap.size (by simp;omega)).trans ((q9 _ _ _ (by omega)).trans A5.out.2.1);have A6:w3.heap[w2.heap.size]?=some (.cells #[.int .i64 U.1,.int .i64 U.2] 186):=(A3.block w2.heap.size (by simp)).trans (v8 _ _);have d0:w3.cell? ⟨wr.heap.size,0,none⟩=some (.int .i64 N.kind):=(ag A0).trans rfl;have d1:w3.cell? ⟨wr.heap.size,1,none⟩=some (.int .i64 N.key):=(ag A0).trans rfl;have d2:w3.cell? ⟨wr.heap.size,2,none⟩=some (.int .i64 N.times):=(ag A0).trans rfl;have d3:w3.cell? ⟨wr.heap.size,3,none⟩=some (.int .i64 N.ticks):=(ag A0).trans rfl;have d4:w3.cell? ⟨wr.heap.size,4,none⟩=some (.int .i64 (x:Nat)):=(ag A0).trans rfl;have d5:w3.cell? ⟨wr.heap.size,5,none⟩=some (.int .i64 (y:Nat)):=(ag A0).trans rfl;have g0:w3.cell? ⟨w2.heap.size,0,none⟩=some (.int .i64 U.1):=(ag A6).trans rfl;have g1:w3.cell? ⟨w2.heap.size,1,none⟩=some (.int .i64 U.2):=(ag A6).trans rfl;have q1:wr.heap.size<w3.heap.size:=by omega
    have q2:w2.heap.size<w3.heap.size:=by omega
    have B2:Hid (dE w w3 P.1 P.2):=s3;clear A3 s3 A0 A6 f4 f5;go_wp2_with fail
    refine(B7.out _).mono ?_;rintro e w4 ⟨rfl,A7⟩;have E3:w3.heap.size+1<=w4.heap.size:=by have:=A7.size;simp at this;omega
    have s4:=((B2.alloc _).keep A7);have a0:w4.cell? ⟨w.heap.size+1,0,none⟩=some (.int .i64 P.1):=(ag s4.all).trans rfl;have a1:w4.cell? ⟨w.heap.size+1,1,none⟩=some (.int .i64 P.2):=(ag s4.all).trans rfl;have q3:w.heap.size+1<w4.heap.size:=by have:=s4.size;omega
    have B3:Hid (dE w w4 P.1 P.2):=s4;clear A7 s4 d0 d1 d2 d3 d4 d5 g0 g1;go_wp2_with fail
    refine(oZ P.1 P.2 O.1 O.2 _ C9 (by omega) D0 (by omega) C7 (by omega) C8 (by omega)).mono ?_;rintro e w5 ⟨rfl,A9⟩;have s5:=((B3.alloc _).keep A9);have y0:w5.cell? ⟨w.heap.size+1,0,none⟩=some (.int .i64 P.1):=(ag s5.all).trans rfl;have y1:w5.cell? ⟨w.heap.size+1,1,none⟩=some (.int .i64 P.2):=(ag s5.all).trans rfl;have z0:w5.frozen? ⟨w.heap.size+1,0,none⟩=false:=aC s5.all;have z1:w5.frozen? ⟨w.heap.size+1,1,none⟩=false:=aC s5.all;have B4:Hid (dE w w5 P.1 P.2):=s5;clear A9 s5 a0 a1;go_wp2_with fail
    go_roundw;case rel=>
     refine⟨k+1,K+(1+x+y),m - (1+x+y),_,_,by omega,D4.out,?_,by omega,rfl,by omega,by omega,?_,by rw[B8.out];exact B4.next _ _⟩
     .have:=D5.out;omega
     .intro hpos;first|(exfalso;omega)|(simp only[Nat.add_mul];congr 2;omega)
    case measure=>simp;omega
  .obtain rfl:k=l.length:=by omega
   have F7:m=0:=by rw[hm,List.drop_length];rfl
   rw[List.take_length]at hS;obtain⟨P,hP⟩:∃ P,P=fJ (0,-1) (l.map F):=⟨_,rfl⟩;rw[<- hP]at hS;have a0:wr.cell? ⟨w.heap.size+1,0,none⟩=some (.int .i64 P.1):=(ag hS.all).trans rfl;have a1:wr.cell? ⟨w.heap.size+1,1,none⟩=some (.int .i64 P.2):=(ag hS.all).trans rfl;have r0:wr.cell? ⟨w.heap.size,0,none⟩=some (.int .i64 0):=(ag hS.res).trans rfl;have r1:wr.cell? ⟨w.heap.size,1,none⟩=some (.int .i64 0):=(ag hS.res).trans rfl;have z0:wr.frozen? ⟨w.heap.size,0,none⟩=false:=aC hS.res;have z1:wr.frozen? ⟨w.heap.size,1,none⟩=false:=aC hS.res;have HB:Hid (Below w.heap.size w wr):=hS.bel;have HP:Hid (bE t (d+1) l=P):=HT.trans hP.symm;clear hP hS D8 hm ha hlt;subst F7;go_wp2_with fail
   refine bodyPost_ret (v:=.agg #[.int .i64 P.1,.int .i64 P.2]) (by simp[results,results110,go_sem,r0,r1]) rfl ⟨by rw[HP],?_⟩;exact(HB.setCell (p:=⟨w.heap.size,0,none⟩) (by simp) _).setCell (p:=⟨w.heap.size,1,none⟩) (by simp) _
theorem zR (t:ByteArray)(d:Nat):wN t d:=by
 induction d with
 | zero=>
  intro tr a b off cap n w hn _ _ _ _ _ _;have h0:n=0:=hn;subst h0;exact tA a cap w
 | succ d ih=>
  intro tr a b off cap n w hn hg hsz hd hcap hmax hnd;by_cases h0:n=0
  .subst h0;have ht:tr=([]:List (Hd×af d×af d)):=by
    cases tr with
    | nil=>rfl
    | cons x r=>have h1:(eY t d (x::r)).length=0:=hn.symm;rw[rQ]at h1;simp at h1
   subst ht;exact tA a cap w
  .obtain⟨rfl,h1,h2⟩:=hnd (by omega);exact yF t d hd ih tr b off cap n w hn hg hsz hcap hmax h1 h2
theorem uh (t:ByteArray)(d:Nat)(tr:af d)(a:Option Addr)(b off cap n:Nat)(w:World)(hn:n=(cE t d tr).length)(hg:aF t d tr)(hsz:bv d tr<=400)(hd:d<=5)(hcap:n<=cap)(hmax:cap<=maxLen)(hnd:0<n->a=some ⟨b,off,none⟩/\b<w.heap.size/\bH w b off (cE t d tr)):
  Calls prog 85 #[.slice a n cap] w fun e w'=>e=.returned (.int .i64 (cu (bE t d tr).1 (bE t d tr).2))/\Below w.heap.size w w':=by
 have HC:Hid (Calls prog 110 #[.slice a n cap] w fun e w'=>e=.returned (.agg #[.int .i64 (bE t d tr).1,.int .i64 (bE t d tr).2])/\Below w.heap.size w w'):=zR t d tr a b off cap n w hn hg hsz hd hcap hmax hnd;clear hnd hn hcap hmax hg hsz;go_enter func85,ntmps85
 go_wp2_with fail
 refine HC.mono ?_;rintro e w1 ⟨rfl,A0⟩;go_wp2_with (go_at_call 111;refine(sD _ _ _).mono ?_;rintro e w' ⟨rfl,rfl⟩)
 go_ret;exact⟨rfl,A0.alloc A0.size _⟩
end Go.Proofs.YtmmmnghiegajmaaGreat
