import Derived.Test.YtmmmnghiegajmaaGreatM36
import Derived.Test.YtmmmnghiegajmaaGreatM16
import Derived.Test.YtmmmnghiegajmaaGreatM15
set_option maxHeartbeats 8000000
set_option maxRecDepth 20000
open Go.RowKit Go.Proofs.Herald Go.Proofs.Tryz
namespace Go.Proofs.YtmmmnghiegajmaaGreat
theorem vJ {E:bM Pr}(hE:∀ p,E.pub p=cF p)(id:Int):∀ (ps:List Pr),(fm E ps id=none/\gG id ps=ps.length)\/∃ i,∃ hi:i<ps.length,fm E ps id=some ps[i]/\gG id ps=i/\ps[i].id=id:=by
 intro ps;induction ps with
 | nil=>exact .inl ⟨rfl,rfl⟩
 | cons p ps ih=>
  have hp:(E.pub p).id=p.id:=by rw[hE];rfl
  by_cases h:p.id=id
  .right;refine⟨0,by simp,?_,?_,h⟩
   .unfold fm;rw[List.find?_cons_of_pos (by simp[hp,h])];rfl
   .rw[gG,if_pos h]
  .have e1:fm E (p::ps) id=fm E ps id:=by
    unfold fm;rw[List.find?_cons_of_neg (by simp[hp,h])]
   have e2:gG id (p::ps)=gG id ps+1:=by rw[gG,if_neg h]
   rw[e1,e2];rcases ih with ⟨h1,h2⟩|⟨i,hi,h1,h2,h3⟩
   .exact .inl ⟨h1,by rw[h2];rfl⟩
   .exact .inr ⟨i+1,by simpa using hi,h1,by rw[h2],h3⟩
structure jI (cs:List am)(C:Int)(h:az Pr):Prop where
 snd:em cs=true
 eng:dl (aE cs) (im cs)
 ok:cC (aE cs) (im cs) C h
 qs:bR h
 C1:C<=900000000000000000
 last1:h.last<=1000000000000000000
theorem jI.sent {cs:List am}{C:Int}{h:az Pr}(hk:jI cs C h){p:Pr}(hp:p∈h.rs):p.sent<=999999999999990000:=by
 have h1:=(hk.ok.sent p hp).2;have h2:=hk.C1;have e:((aE cs).pub p).sent=p.sent:=rfl;omega
theorem CI (H:Nat)(code rec:Value)(cs:List am)(h:az Pr)(rv:Value)(qv:Nat->Value)(dev C:Int)(w:World)(H0:MH w H code rec cs h rv qv)(hk:jI cs C h):
  Calls prog 63 #[.pointer (some ⟨H,0,none⟩),.int .i64 dev] w fun e w'=>e=.returned (.tuple #[.int .i64 (cP (aE cs) h dev).1,.int .i64 (cP (aE cs) h dev).2.1])/\bf w w' H code rec cs (cP (aE cs) h dev).2.2 rv qv:=by
 unfold cP;by_cases hd:0<=dev/\dev<=2
 .rw[if_neg (by simpa using hd)];obtain⟨d,A1⟩:∃ d:Nat,dev=(d:Nat):=⟨dev.toNat,by omega⟩;subst A1;have A0:d<3:=by omega
  by_cases hl:5<=h.rs.length
  .rw[if_pos hl];refine(zJ H code rec h.now h.last rv qv h.qs h.rs d w H0.at' A0 hl (by have:=hk.ok.len;omega)).mono ?_;rintro e w' ⟨rfl,rfl⟩;exact⟨rfl,bf.below H0 (v7 _ _)⟩
  .rw[if_neg hl];refine(Dl H code rec h.now h.last rv qv h.qs h.rs d cs w H0.at' A0 hl hk.ok.last0 hk.last1 H0.cd hk.snd hk.ok.now0 hk.ok.now1).mono ?_;rintro e w' ⟨rfl,ho⟩;refine⟨rfl,bf.of_proc (h':=_) H0 ho rfl ?_⟩;have A2:(h.rs++[dg (h.last+1) (d:Nat)]).Pairwise fun a b=>((aE cs).pub a).id≠((aE cs).pub b).id:=by
    rw[List.pairwise_append];refine⟨hk.ok.nd,by simp,fun a ha b hb=>?_⟩;rw[List.mem_singleton.mp hb];have:=hk.ok.id a ha;show((aE cs).pub a).id≠h.last+1;omega
   have:=qf (E:=aE cs) (fun _=>rfl) (p':=(ci h.now cs 10000 (h.qs d) (dg (h.last+1) (d:Nat))).2.1) (done:=(ci h.now cs 10000 (h.qs d) (dg (h.last+1) (d:Nat))).2.2) A2 (i:=h.rs.length) (by simp) (by rw[nJ];simp);exact this
 .rw[if_pos (by simpa using hd)];refine(BW H dev w hd).mono ?_;rintro e w' ⟨rfl,rfl⟩;exact⟨rfl,bf.below H0 (v7 _ _)⟩
theorem GS (H:Nat)(code rec:Value)(cs:List am)(h:az Pr)(rv:Value)(qv:Nat->Value)(n C:Int)(w:World)(H0:MH w H code rec cs h rv qv)(hk:jI cs C h):
  Calls prog 69 #[.pointer (some ⟨H,0,none⟩),.int .i64 n] w fun e w'=>e=.returned (.int .i64 (dU (aE cs) h n).1)/\bf w w' H code rec cs (dU (aE cs) h n).2 rv qv:=by
 unfold dU;by_cases hn:¬ (1<=n/\n<=999)\/1000000000<h.now+n
 .rw[if_pos hn];exact Dk H code rec cs h rv qv n C w H0 hk.ok hn
 .rw[if_neg hn];exact BV H code rec cs h rv qv n C w hk.snd hk.eng H0 hk.ok hk.C1 (by omega) (by omega) (by omega)
theorem DY (H:Nat)(code rec:Value)(cs:List am)(h:az Pr)(rv:Value)(qv:Nat->Value)(id C:Int)(w:World)(H0:MH w H code rec cs h rv qv)(hk:jI cs C h):
  Calls prog 75 #[.pointer (some ⟨H,0,none⟩),.int .i64 id] w fun e w'=>e=.returned (.int .i64 (dH (aE cs) h id).1)/\bf w w' H code rec cs (dH (aE cs) h id).2 rv qv:=by
 have hl:=hk.ok.len;unfold dH;rcases vJ (E:=aE cs) (fun _=>rfl) id h.rs with ⟨h1,h2⟩|⟨i,hi,h1,h2,h3⟩
 .rw[h1];refine(zd H code rec h.now h.last rv qv h.qs h.rs id w H0.at' (by omega) h2).mono ?_;rintro e w' ⟨rfl,hb⟩;exact⟨rfl,bf.below H0 hb⟩
 .rw[h1];obtain⟨d,A0,hdev,A1,_⟩:=sX hk.ok (Qb hi);refine(ze H code rec h.now h.last rv qv h.qs h.rs id i d w H0.at' (by omega) hi h2 A0 hdev).mono ?_;rintro e w' ⟨rfl,ho⟩;refine⟨rfl,bf.of_proc (h':=_) H0 ho ?_ ?_⟩
  .show bU h.qs ((aE cs).pub h.rs[i]).dev.toNat _=_;rw[show((aE cs).pub h.rs[i]).dev.toNat=d from A1]
  .have:=qf (E:=aE cs) (fun _=>rfl) (p':=h.rs[i]) (done:=true) hk.ok.nd hi rfl;unfold dP fZ at this;simp only[if_true]at this;rw[<- this];show h.rs.filter (fun y=>((aE cs).pub y).id != id)=_;rw[show((aE cs).pub h.rs[i]).id=id from h3]
theorem Gy (H:Nat)(code rec:Value)(cs:List am)(h:az Pr)(rv:Value)(qv:Nat->Value)(id num C:Int)(w:World)(H0:MH w H code rec cs h rv qv)(hk:jI cs C h):
  Calls prog 72 #[.pointer (some ⟨H,0,none⟩),.int .i64 id,.int .i64 num] w fun e w'=>e=.returned (.int .i64 (di (aE cs) h id num).1)/\bf w w' H code rec cs (di (aE cs) h id num).2 rv qv:=by
 have hl:=hk.ok.len;unfold di;rcases vJ (E:=aE cs) (fun _=>rfl) id h.rs with ⟨h1,h2⟩|⟨i,hi,h1,h2,h3⟩
 .rw[h1];refine(AS H code rec h.now h.last rv qv h.qs h.rs id num w H0.at' (by omega) h2).mono ?_;rintro e w' ⟨rfl,hb⟩;exact⟨rfl,bf.below H0 hb⟩
 .rw[h1];have A1:=Qb hi;obtain⟨d,A2,hdev,A4,_,_,_,_,A0⟩:=sX hk.ok A1;simp only;have e1:((aE cs).pub h.rs[i]).num=h.rs[i].num:=rfl;have e2:((aE cs).pub h.rs[i]).dev.toNat=d:=A4;rw[e1,e2];by_cases hn:num=0\/h.rs[i].num≠num
  .rw[if_pos hn];refine(AT H code rec h.now h.last rv qv h.qs h.rs id num i w H0.at' (by omega) hi h2 (by rcases hn with h|h;exact .inl h;exact .inr fun hh=>h hh.symm)).mono ?_;rintro e w' ⟨rfl,hb⟩;exact⟨rfl,bf.below H0 hb⟩
  .rw[if_neg hn];have hz:¬ num=0:=fun hh=>hn (.inl hh);have A3:num=h.rs[i].num:=by
    by_cases hh:h.rs[i].num=num
    .exact hh.symm
    .exact absurd (.inr hh) hn
   cases hq:jt (h.qs d) id num with
   | true=>
    simp only[if_true];refine(zH H code rec h.now h.last rv qv h.qs h.rs id num i d w H0.at' (by omega) hi h2 A2 hdev hz A3 hq).mono ?_;rintro e w' ⟨rfl,hb⟩;exact⟨rfl,bf.below H0 hb⟩
   | false=>
    simp only[Bool.false_eq_true,if_false];refine(DP H code rec h.now h.last rv qv h.qs h.rs id num i d cs w H0.at' (by omega) hi h2 A2 hdev hz A3 H0.cd hk.snd A0 (hk.sent A1) hk.ok.now0 hk.ok.now1 hq).mono ?_;rintro e w' ⟨rfl,ho⟩;refine⟨rfl,bf.of_proc (h':=fv (aE cs) h h.rs[i] true) H0 ho ?_ ?_⟩
    .unfold fv;rw[e2];rfl
    .unfold fv;rw[e2];exact qf (E:=aE cs) (fun _=>rfl) hk.ok.nd hi (qL _ _ _ _ _)
theorem FK (H:Nat)(code rec:Value)(cs:List am)(h:az Pr)(rv:Value)(qv:Nat->Value)(dev C:Int)(w:World)(H0:MH w H code rec cs h rv qv)(hk:jI cs C h):
  Calls prog 78 #[.pointer (some ⟨H,0,none⟩),.int .i64 dev] w fun e w'=>e=.returned (.tuple #[iN (cU h dev).1,.int .i64 (cU h dev).2.1])/\bf w w' H code rec cs (cU h dev).2.2 rv qv:=by
 unfold cU;by_cases hd:0<=dev/\dev<=2
 .rw[if_neg (by simpa using hd)];obtain⟨d,A3⟩:∃ d:Nat,dev=(d:Nat):=⟨dev.toNat,by omega⟩;subst A3;have A2:d<3:=by omega
  have e:((d:Nat):Int).toNat=d:=by simp
  rw[e];cases hq:h.qs d with
  | nil=>
   refine(zf H code rec h.now h.last rv qv h.qs h.rs d w H0.at' A2 hq).mono ?_;rintro e w' ⟨rfl,hb⟩;exact⟨rfl,bf.below H0 hb⟩
  | cons m r=>
   have A1:=hk.qs.pos d m (by rw[hq];exact List.mem_cons_self ..);have A0:=hk.qs.dist d;rw[hq]at A0;refine(BU H code rec h.now h.last rv qv h.qs h.rs d m r w H0.at' A2 hq (by omega)).mono ?_;rintro e w' ⟨rfl,ho⟩;rw[BC A0 A1]at ho;exact⟨rfl,bf.of_proc (h':={h with qs:=bU h.qs d r}) H0 ho rfl rfl⟩
 .rw[if_pos (by simpa using hd)];refine(zI H dev w hd).mono ?_;rintro e w' ⟨rfl,hb⟩;exact⟨rfl,bf.below H0 hb⟩
def dt (xs:List Int):List Value:=xs.map fun z=>Value.int .u8 z
theorem rx (xs:List Int):(dt xs).length=xs.length:=by simp[dt]
theorem oh (a b:List Int):dt (a++b)=dt a++dt b:=by simp[dt]
theorem ry (xs:List Int):∀ u∈dt xs,u.oneCell'=true:=by
 intro u hu;obtain⟨z,_,rfl⟩:=List.mem_map.mp hu;rfl
theorem sZ {w:World}{a:Option Addr}{n cap:Nat}{e:TypeId}{xs:List Value}(h:w.ownsRow 0 e 1 (.slice a n cap) n xs):jo w a n xs:=fun hp=>by
 obtain⟨g,c,hv,_,_⟩:=h.form hp;simp at hv;obtain⟨rfl,rfl⟩:=hv;exact⟨_,rfl,fun i u hu=>h.cells (g:=g) rfl i u hu⟩
structure FH (w:World)(H:Nat)(cs:List am)(h:az Pr)(code rec rv:Value)(qv:Nat->Value)(n:Nat):Prop where
 m:MH w H code rec cs h rv qv
 r:∃ xs,xs.length=n/\w.ownsRow 0 5 1 rec n (dt xs)
def fX (H:Nat)(code rec rv:Value)(qv:Nat->Value)(k:Nat):Prop:=bQ H rv qv k\/rec.ownBlock=some k\/code.ownBlock=some k
theorem FH.rec_keep {w w1:World}{H:Nat}{cs:List am}{h:az Pr}{code rec rv:Value}{qv:Nat->Value}{n:Nat}(F:FH w H cs h code rec rv qv n)(hf:Fr (bQ H rv qv) w w1):∃ xs,xs.length=n/\w1.ownsRow 0 5 1 rec n (dt xs):=by
 obtain⟨xs,h1,h2⟩:=F.r;refine⟨xs,h1,aT h2 fun b hb=>?_⟩;obtain⟨c,hc⟩:=ax h2 hb;refine hf.block b (ak hc) fun ho=>?_;obtain⟨c2,t,A0,ht⟩:=F.m.at'.sort ho;rcases ht with rfl|rfl|rfl;iterate 3
  .exact aA hc A0 (by decide) rfl
theorem FH.below {w w1:World}{H:Nat}{cs:List am}{h:az Pr}{code rec rv:Value}{qv:Nat->Value}{n:Nat}(F:FH w H cs h code rec rv qv n)(hb:Below w.heap.size w w1):FH w1 H cs h code rec rv qv n:=by
 have hf:Fr (bQ H rv qv) w w1:=(Fr.of_below hb).mono fun k hk hs=>by omega
 exact⟨⟨F.m.at'.below hb,F.m.at'.code hf F.m.cd⟩,F.rec_keep hf⟩
theorem FR (H:Nat)(f c a b:Int)(w:World)(hf:¬ f=0):
  Calls prog 64 #[.pointer (some ⟨H,0,none⟩),.int .i64 f,.agg #[.int .u8 c,.int .i64 a,.int .i64 b]] w fun e w'=>e=.returned (.tuple #[])/\Below w.heap.size w w':=by
 have A0:(f != 0)=true:=by simpa using hf
 clear hf;go_enter func64,ntmps64
 go_wp2_with fail
 (try simp only[Exit.inBlock,Exit.then]);refine bodyPost_ret (results_none rfl _ _ _) rfl ?_
 exact⟨rfl,(v7 _ _).alloc (v9 _) _⟩
theorem dx.alloc {w wr:World}{now:Int}{rv uv:Value}{rl:List Rn}{ml:List aj}(h:dx w wr now rv rl uv ml)(o:Obj):dx w (wr.alloc o) now rv rl uv ml:=by
 have k:∀ j,j<wr.heap.size->(wr.alloc o).heap[j]?=wr.heap[j]?:=fun j hj=>q9 _ _ _ hj;exact⟨h.bel.alloc h.bel.size _,(k _ (ak h.a)).trans h.a,(k _ (ak h.o)).trans h.o,h.r.alloc _,h.m.alloc _⟩
theorem dx.pushA {w wr w1:World}{now:Int}{rv uv v':Value}{rl:List Rn}{ml:List aj}(h:dx w wr now rv rl uv ml)(r:Rn)
  (hown1:w1.ownsRow 0 96 5 v' (rl.length+1) (fT rl++ki r)) (ha:jL wr w1 rv rl.length 1 v'):
  dx w (w1.setCell ⟨w.heap.size+1,1,none⟩ v') now v' (rl++[r]) uv ml:=by
 obtain⟨hb,A0⟩:=iF h.bel h.bel.size h.r hown1 ha;have A1:∀ {k:Nat} {c:Array Value} {t:TypeId},wr.heap[k]?=some (.cells c t (0,0))->t≠96->w1.heap[k]?=wr.heap[k]?:=fun {k c t} hk ht=>by
  rcases ha with ⟨g,cap,e1,_,hg⟩|⟨_,hg⟩
  .refine hg.block k (ak hk) fun e=>?_;obtain⟨c2,A3⟩:=ax (bZ h.r) (k:=k) (by rw[e1];exact e.symm);exact aA hk A3 ht rfl
  .exact hg.block k (ak hk) (by simp)
 have A2:=(A1 h.o (by decide)).trans h.o;refine⟨hb.setCell (p:=⟨w.heap.size+1,1,none⟩) (Nat.le_succ _) _,?_,?_,?_,?_⟩
 .rw[q8 _ _ _ _ (show w.heap.size≠w.heap.size+1 by omega)];exact(A1 h.a (by decide)).trans h.a
 .rw[cG _ A2];rfl
 .rw[tT,List.length_append];refine eu A0 fun k hk=>?_;obtain⟨c,hc⟩:=ax (bZ A0) hk;exact q8 _ _ _ _ (aA hc A2 (by decide))
 .refine eu h.m fun k hk=>?_;obtain⟨c,hc⟩:=ax (bZ h.m) hk;rw[q8 _ _ _ _ (aA hc h.o (by decide))];exact A1 hc (by decide)
theorem EE (H:Nat)(code rec:Value)(now last:Int)(rv:Value)(qv:Nat->Value)(qs:Nat->List aj)(ps:List Pr)(w:World)(h:bK w H code rec now last rv qv qs ps)(hl:ps.length<=1000):
  Calls prog 79 #[.pointer (some ⟨H,0,none⟩)] w fun e w'=>∃ sv uv,e=.returned (.agg #[.int .i64 now,sv,uv])/\w'.ownsRow w.heap.size 96 5 sv ps.length (fT (ps.map cF))/\w'.ownsRow w.heap.size 87 4 uv (qs 0++qs 1++qs 2).length (bA (qs 0++qs 1++qs 2))/\Below w.heap.size w w':=by
 obtain⟨pa,pc,D6⟩:=bD h.rB;subst D6;have c1:w.cell? ⟨H,1,none⟩=some (.int .i64 now):=(ag h.blk).trans rfl;have c3:w.cell? ⟨H,3,none⟩=some (.slice pa ps.length pc):=(ag h.blk).trans rfl;have D8:H<w.heap.size:=ak h.blk;have HH:=ah h;clear h;go_enter func79,ntmps79
 go_wp2_with fail
 go_loopw [18] (fun i wr=>∃ (k:Nat) (sv:Value),k<=ps.length/\i=.int .i64 k/\Hid (dx w wr now sv ((ps.map cF).take k) (.slice none 0 0) [])) (fun i _=>ps.length - (intOf i).toNat)
 case atStart=>
  refine⟨0,.slice none 0 0,Qa _,rfl,⟨((v7 _ _).alloc (v9 _) _).alloc (by simp) _,?_,ey _ _ _,Qg _ _ _ _,Qg _ _ _ _⟩⟩;rw[q9 _ _ _ (by simp)];exact v8 _ _
 case round=>
  clear c1 c3;obtain⟨k,sv,hk,rfl,HS⟩:=hrel;have HA:Hid (bK wr H code rec now last (.slice pa ps.length pc) qv qs ps):=HH.below HS.out.bel;have D2:=ak HS.out.o;by_cases hlt:k<ps.length
  .obtain⟨g,E1,hv,_,D1⟩:=HA.rB.form (by omega);simp at hv;obtain⟨rfl,rfl⟩:=hv;have B3:=lL HA.rB HA.rl hlt;have C6:=HA.rl _ (Qb hlt);have D0:Hid ((ps.map cF).take (k+1)=(ps.map cF).take k++[cF ps[k]]):=by
    show _=_;rw[Qd (by simpa using hlt)];simp
   obtain⟨rl,A6⟩:∃ rl,rl=(ps.map cF).take k:=⟨_,rfl⟩;rw[<- A6]at HS D0;have D3:Hid (rl.length=k):=(by rw[A6];simp;omega:rl.length=k);obtain⟨ra,rc,B4⟩:=bD HS.out.r;subst B4;generalize ps[k]=m at *;obtain⟨C,hC⟩:∃ C,C=(cV m).toArray:=⟨_,rfl⟩;have A8:Hid (aM C m/\wr.rangeAt g (k*19) C.toList):=⟨⟨hC,C6⟩,aM.range ⟨hC,C6⟩ B3⟩;have k0:C[0]?=some (.int .i64 m.id):=by rw[hC];rfl
   have k1:C[1]?=some (.int .i64 m.dev):=by rw[hC];rfl
   have k2:C[2]?=some (.int .i64 m.sent):=by rw[hC];rfl
   have k3:C[3]?=some (.int .i64 m.til):=by rw[hC];rfl
   have k4:C[4]?=some (.int .i64 m.num):=by rw[hC];rfl
   have A4:Hid (dx w ((wr.alloc (.cells C 172)).alloc (.cells #[.int .i64 m.id,.int .i64 m.dev,.int .i64 m.sent,.int .i64 m.til,.int .i64 m.num] 96)) now (.slice ra rl.length rc) rl (.slice none 0 0) []):=(HS.out.alloc _).alloc _;have o1:wr.cell? ⟨w.heap.size+1,1,none⟩=some (.slice ra rl.length rc):=(ag HS.out.o).trans rfl;have C1:Hid ((Value.slice ra rl.length rc).ownBlock≠some (w.heap.size+1)):=fun e=>by obtain⟨D4,hc⟩:=ax (bZ HS.out.r) e;exact aA hc HS.out.o (by decide) rfl
   clear B3 C6 hC A6 D1 HA;go_wp2_with (first|(refine wpList_load_mid rfl 172 (.tmp 20) rfl g (k*19) (by rfl) C.toList _ A8.2 underlying172 rfl A8.1.infoL ?_)|(refine jJ wr rfl 172 (.tmp 5) (.tmp 21) rfl jm C (by rfl) (by rfl) A8.1.info A8.1.zero A8.1.one ?_)|(at_builtin;refine gN _ rfl (.tmp 23) (.tmp 26) 94 rfl 96 _ 5 40 underlying94 Tryz.infoRun rfl (by decide) (by decide) (.slice ra rl.length rc) rl.length 1 (fT rl) (wr.heap.size+1) (ki (cF m)) (by rfl) (by exact bZ A4.r) (by exact ey _ _ _) (by rfl) rfl (by simp[ki,Value.oneCell']) (by decide) (by have:=D3.out;omega) ?_))
   intro v2 w2 hown2 ha2;have HP:=A4.pushA (cF m) hown2 ha2;rw[<- D0]at HP;have A0:w2.heap[w.heap.size+1]?=some (.cells #[.int .i64 now,.slice ra rl.length rc,.slice none 0 0] 103):=by
    rcases ha2 with ⟨g2,cap2,e1,_,hg⟩|⟨_,hg⟩
    .rw[hg.block _ (ak A4.o) (fun e=>C1 (by rw[e1];exact e.symm))];exact A4.o
    .rw[hg.block _ (ak A4.o) (by simp)];exact A4.o
   have o2:w2.cell? ⟨w.heap.size+1,1,none⟩=some (.slice ra rl.length rc):=(ag A0).trans rfl;have y2:w2.frozen? ⟨w.heap.size+1,1,none⟩=false:=aC A0;obtain⟨va,vc,A7⟩:=bD hown2;subst A7;have A3:=ah HP;clear HP A0 hown2 ha2 A4 A8 k0 k1 k2 k3 k4 o1;go_wp2_with fail
   go_roundw;case rel=>exact⟨k+1,_,by omega,by go_num,A3⟩
   case measure=>simp[intOf];omega
  .have HK:Hid ((ps.map cF).take k=ps.map cF):=Qe (by simp;omega);rw[HK]at HS;obtain⟨ra,rc,B4⟩:=bD HS.out.r;rw[List.length_map]at B4;subst B4;obtain⟨B5,B8,C3⟩:=bD (HH.oB 0 (by omega));obtain⟨B6,B9,C4⟩:=bD (HH.oB 1 (by omega));obtain⟨B7,C0,C5⟩:=bD (HH.oB 2 (by omega));have C2:Hid (qv 0=.slice B5 (qs 0).length B8/\qv 1=.slice B6 (qs 1).length B9/\qv 2=.slice B7 (qs 2).length C0):=⟨C3,C4,C5⟩;have d4:wr.cell? ⟨H,4,none⟩=some (.slice B5 (qs 0).length B8):=by rw[<- C3];exact(ag HA.blk).trans rfl
   have d5:wr.cell? ⟨H,5,none⟩=some (.slice B6 (qs 1).length B9):=by rw[<- C4];exact(ag HA.blk).trans rfl
   have d6:wr.cell? ⟨H,6,none⟩=some (.slice B7 (qs 2).length C0):=by rw[<- C5];exact(ag HA.blk).trans rfl
   clear HK HA C3 C4 C5;go_wp2_with fail
   clear d4 d5 d6;go_loopw [34] (fun i wr'=>∃ (j:Nat) (uv:Value),j<=3/\i=.int .i64 j/\Hid (dx w wr' now (.slice ra ps.length rc) (ps.map cF) uv (dG qs j))) (fun i _=>3 - (intOf i).toNat)
   case atStart=>exact⟨0,.slice none 0 0,Qa _,rfl,HS⟩
   case round=>
    clear D2 HS;obtain⟨j,uv,hj,rfl,HS⟩:=hrel;have HA:Hid (bK wr H code rec now last (.slice pa ps.length pc) qv qs ps):=HH.below HS.out.bel;have D2:=ak HS.out.o;obtain⟨ua,uc,D7⟩:=bD HS.out.m;subst D7;have o0:wr.cell? ⟨w.heap.size+1,0,none⟩=some (.int .i64 now):=(ag HS.out.o).trans rfl;have o1:wr.cell? ⟨w.heap.size+1,1,none⟩=some (.slice ra ps.length rc):=(ag HS.out.o).trans rfl;have o2:wr.cell? ⟨w.heap.size+1,2,none⟩=some (.slice ua (dG qs j).length uc):=(ag HS.out.o).trans rfl;by_cases hlt3:j<3
    .have D9:=HH.ql j hlt3;have E0:(dG qs j).length<=12:=by
      have h0:=HH.ql 0 (by omega);have h1:=HH.ql 1 (by omega);rcases(show j=0\/j=1\/j=2 by omega) with rfl|rfl|rfl <;> simp[dG] <;> omega
     obtain⟨qa,qc,A2⟩:∃ qa qc,qv j=.slice qa (qs j).length qc:=by
      obtain⟨a,c,h⟩:=bD (HH.oB j hlt3);exact⟨a,c,h⟩
     have A1:Hid (∀ (ob:Obj),jo (wr.alloc ob) qa (qs j).length (bA (qs j))):=fun ob hp=>by
      have ho:=(HA.oB j hlt3).alloc ob;rw[A2]at ho;obtain⟨g,c,hv,_,D1⟩:=ho.form hp;simp at hv;obtain⟨rfl,rfl⟩:=hv;exact⟨_,rfl,fun i u hu=>ho.cells (g:=g) rfl i u hu⟩
     have C1:Hid ((Value.slice ua (dG qs j).length uc).ownBlock≠some (w.heap.size+1)):=fun e=>by obtain⟨D4,hc⟩:=ax (bZ HS.out.m) e;exact aA hc HS.out.o (by decide) rfl
     have B0:Hid (∀ (ob:Obj) (w2:World) (v2:Value),w2.ownsRow 0 87 4 v2 ((dG qs j).length+(qs j).length) (bA (dG qs j)++bA (qs j))->jL (wr.alloc ob) w2 (.slice ua (dG qs j).length uc) (dG qs j).length (qs j).length v2->w2.heap[w.heap.size+1]?=some (.cells #[.int .i64 now,.slice ra ps.length rc,.slice ua (dG qs j).length uc] 103)/\dx w (w2.setCell ⟨w.heap.size+1,2,none⟩ v2) now (.slice ra ps.length rc) (ps.map cF) v2 (dG qs (j+1))):=fun ob w2 v2 hown ha=>by
      have B1:=HS.out.alloc ob;refine⟨?_,dx.pushM B1 (qs j) hown ha⟩;rcases ha with ⟨g,cap,e1,_,hg⟩|⟨_,hg⟩
      .rw[hg.block _ (ak B1.o) (fun e=>C1 (by rw[e1];exact e.symm))];exact B1.o
      .rw[hg.block _ (ak B1.o) (by simp)];exact B1.o
     have A9:Hid (wr.ownsRow 0 87 4 (.slice ua (dG qs j).length uc) (dG qs j).length (bA (dG qs j))):=bZ HS.out.m;clear HA;obtain⟨C7,C8,C9⟩:=Cr (.slice B5 (qs 0).length B8) (.slice B6 (qs 1).length B9) (.slice B7 (qs 2).length C0) wr;have B2:j=0\/j=1\/j=2:=by omega
     clear hlt3;rcases B2 with rfl|rfl|rfl
     .rw[C2.1]at A2;simp at A2;obtain⟨rfl,rfl⟩:=A2;go_wp2_with (at_builtin;refine ly _ rfl (.tmp 38) (.tmp 40) 99 rfl 87 _ 4 32 underlying99 Tryz.infoMsg rfl (by decide) (by decide) (.slice ua (dG qs 0).length uc) _ (bA (dG qs 0)) B5 _ B8 (bA (qs 0)) (by rfl) (by exact A9.alloc _) (by rfl) (by exact A1 _) (mI _) (by exact mM _) (by omega) ?_)
      intro v2 w2 hown2 ha2;obtain⟨A0,HP⟩:=B0 _ w2 v2 hown2 ha2;have e2:w2.cell? ⟨w.heap.size+1,2,none⟩=some (.slice ua (dG qs 0).length uc):=(ag A0).trans rfl;have y2:w2.frozen? ⟨w.heap.size+1,2,none⟩=false:=aC A0;obtain⟨va,vc,A7⟩:=bD hown2;subst A7;have A3:=ah HP;clear HP A0 hown2 ha2 B0 A1 A9 o0 o1 o2 C7 C8 C9;go_wp2_with fail
      go_roundw;case rel=>exact⟨0+1,_,by omega,by go_num,A3⟩
      case measure=>simp[intOf]
     .rw[C2.2.1]at A2;simp at A2;obtain⟨rfl,rfl⟩:=A2;go_wp2_with (at_builtin;refine ly _ rfl (.tmp 38) (.tmp 40) 99 rfl 87 _ 4 32 underlying99 Tryz.infoMsg rfl (by decide) (by decide) (.slice ua (dG qs 1).length uc) _ (bA (dG qs 1)) B6 _ B9 (bA (qs 1)) (by rfl) (by exact A9.alloc _) (by rfl) (by exact A1 _) (mI _) (by exact mM _) (by omega) ?_)
      intro v2 w2 hown2 ha2;obtain⟨A0,HP⟩:=B0 _ w2 v2 hown2 ha2;have e2:w2.cell? ⟨w.heap.size+1,2,none⟩=some (.slice ua (dG qs 1).length uc):=(ag A0).trans rfl;have y2:w2.frozen? ⟨w.heap.size+1,2,none⟩=false:=aC A0;obtain⟨va,vc,A7⟩:=bD hown2;subst A7;have A3:=ah HP;clear HP A0 hown2 ha2 B0 A1 A9 o0 o1 o2 C7 C8 C9;go_wp2_with fail
      go_roundw;case rel=>exact⟨1+1,_,by omega,by go_num,A3⟩
      case measure=>simp[intOf]
     .rw[C2.2.2]at A2;simp at A2;obtain⟨rfl,rfl⟩:=A2;go_wp2_with (at_builtin;refine ly _ rfl (.tmp 38) (.tmp 40) 99 rfl 87 _ 4 32 underlying99 Tryz.infoMsg rfl (by decide) (by decide) (.slice ua (dG qs 2).length uc) _ (bA (dG qs 2)) B7 _ C0 (bA (qs 2)) (by rfl) (by exact A9.alloc _) (by rfl) (by exact A1 _) (mI _) (by exact mM _) (by omega) ?_)
      intro v2 w2 hown2 ha2;obtain⟨A0,HP⟩:=B0 _ w2 v2 hown2 ha2;have e2:w2.cell? ⟨w.heap.size+1,2,none⟩=some (.slice ua (dG qs 2).length uc):=(ag A0).trans rfl;have y2:w2.frozen? ⟨w.heap.size+1,2,none⟩=false:=aC A0;obtain⟨va,vc,A7⟩:=bD hown2;subst A7;have A3:=ah HP;clear HP A0 hown2 ha2 B0 A1 A9 o0 o1 o2 C7 C8 C9;go_wp2_with fail
      go_roundw;case rel=>exact⟨2+1,_,by omega,by go_num,A3⟩
      case measure=>simp[intOf]
    .have D5:j=3:=by omega
     subst D5;have r0:wr.cell? ⟨w.heap.size,0,none⟩=some (.int .i64 0):=(ag HS.out.a).trans rfl;have r1:wr.cell? ⟨w.heap.size,1,none⟩=some (.slice none 0 0):=(ag HS.out.a).trans rfl;have r2:wr.cell? ⟨w.heap.size,2,none⟩=some (.slice none 0 0):=(ag HS.out.a).trans rfl;have y0:wr.frozen? ⟨w.heap.size,0,none⟩=false:=aC HS.out.a;have y1:wr.frozen? ⟨w.heap.size,1,none⟩=false:=aC HS.out.a;have E2:wr.frozen? ⟨w.heap.size,2,none⟩=false:=aC HS.out.a;have HB:Hid (Below w.heap.size w (((wr.setCell ⟨w.heap.size,0,none⟩ (.int .i64 now)).setCell ⟨w.heap.size,1,none⟩ (.slice ra ps.length rc)).setCell ⟨w.heap.size,2,none⟩ (.slice ua (dG qs 3).length uc))):=
      ((HS.out.bel.setCell (p:=⟨w.heap.size,0,none⟩) (v9 _) _).setCell (p:=⟨w.heap.size,1,none⟩) (v9 _) _).setCell (p:=⟨w.heap.size,2,none⟩) (v9 _) _
     have HU:Hid (dG qs 3=qs 0++qs 1++qs 2):=(by simp[dG]:dG qs 3=qs 0++qs 1++qs 2);go_wp2_with fail
     refine bodyPost_ret (v:=.agg #[.int .i64 now,.slice ra ps.length rc,.slice ua (dG qs 3).length uc]) (by simp[results,results79,go_sem,r0,r1,r2]) rfl ⟨_,_,rfl,?_,?_,HB⟩
     .have h:=HS.out.r;rw[List.length_map]at h;refine eu h fun k hk=>?_;obtain⟨c,hc⟩:=ax (bZ h) hk;have A5:=aA hc HS.out.a (by decide);rw[q8 _ _ _ _ A5,q8 _ _ _ _ A5,q8 _ _ _ _ A5]
     .rw[<- HU];have h:=HS.out.m;refine eu h fun k hk=>?_;obtain⟨c,hc⟩:=ax (bZ h) hk;have A5:=aA hc HS.out.a (by decide);rw[q8 _ _ _ _ A5,q8 _ _ _ _ A5,q8 _ _ _ _ A5]
theorem FH.keep {w w1:World}{H:Nat}{cs:List am}{h:az Pr}{code rec rv:Value}{qv:Nat->Value}{n:Nat}(F:FH w H cs h code rec rv qv n)(hk:∀ k,fX H code rec rv qv k->w1.heap[k]?=w.heap[k]?):FH w1 H cs h code rec rv qv n:=by
 obtain⟨xs,h1,h2⟩:=F.r;exact⟨⟨F.m.at'.keep fun k hk'=>hk k (.inl hk'),aT F.m.cd fun b hb=>hk b (.inr (.inr hb))⟩,xs,h1,aT h2 fun b hb=>hk b (.inr (.inl hb))⟩
theorem FH.lt {w:World}{H:Nat}{cs:List am}{h:az Pr}{code rec rv:Value}{qv:Nat->Value}{n:Nat}(F:FH w H cs h code rec rv qv n){k:Nat}(hk:fX H code rec rv qv k):k<w.heap.size:=by
 rcases hk with hk|hk|hk
 .exact F.m.at'.lt hk
 .obtain⟨xs,_,h2⟩:=F.r;obtain⟨c,hc⟩:=ax h2 hk;exact ak hc
 .obtain⟨c,hc⟩:=ax F.m.cd hk;exact ak hc
theorem Fk (H:Nat)(cs:List am)(h:az Pr)(code rec rv:Value)(qv:Nat->Value)(n:Nat)(w:World)(F:FH w H cs h code rec rv qv n)(hl:h.rs.length<=1000):
  Calls prog 45 #[.pointer (some ⟨H,0,none⟩)] w fun e w'=>∃ sv uv,e=.returned (.agg #[.int .i64 h.now,sv,uv])/\w'.ownsRow w.heap.size 96 5 sv h.rs.length (fT (h.rs.map cF))/\w'.ownsRow w.heap.size 87 4 uv (h.qs 0++h.qs 1++h.qs 2).length (bA (h.qs 0++h.qs 1++h.qs 2))/\Below w.heap.size w w':=by
 have HC:Hid (∀ o,Calls prog 79 #[.pointer (some ⟨H,0,none⟩)] (w.alloc o) fun e w'=>∃ sv uv,e=.returned (.agg #[.int .i64 h.now,sv,uv])/\w'.ownsRow (w.alloc o).heap.size 96 5 sv h.rs.length (fT (h.rs.map cF))/\w'.ownsRow (w.alloc o).heap.size 87 4 uv (h.qs 0++h.qs 1++h.qs 2).length (bA (h.qs 0++h.qs 1++h.qs 2))/\Below (w.alloc o).heap.size (w.alloc o) w'):=fun o=>EE H code rec h.now h.last rv qv h.qs h.rs (w.alloc o) (F.below ((v7 _ _).alloc (v9 _) _)).m.at' hl;clear F;go_enter func45,ntmps45
 go_wp2_with fail
 refine(HC _).mono ?_;rintro e w1 ⟨sv,uv,rfl,A2,A1,A3⟩;obtain⟨sa,sc,A4⟩:=bD A2;obtain⟨ua,uc,A5⟩:=bD A1;subst A4 A5;have g1:w1.heap[w.heap.size]?=some (.cells #[.int .i64 0,.slice none 0 0,.slice none 0 0] 103):=(A3.block _ (by simp)).trans (v8 _ _);obtain⟨r0,r1,r2,y0,y1,y2⟩:=lh g1;have HB:Hid (Below w.heap.size w w1/\w1.ownsRow w.heap.size 96 5 (.slice sa h.rs.length sc) h.rs.length (fT (h.rs.map cF))/\w1.ownsRow w.heap.size 87 4 (.slice ua (h.qs 0++h.qs 1++h.qs 2).length uc) (h.qs 0++h.qs 1++h.qs 2).length (bA (h.qs 0++h.qs 1++h.qs 2))/\w1.heap[w.heap.size]?=some (.cells #[.int .i64 0,.slice none 0 0,.slice none 0 0] 103)):=
  ⟨((v7 _ _).alloc (v9 _) _).trans (A3.mono (by simp)),lF (bZ A2) fun b hb=>by have:=(cS A2 hb).1;simp at this;omega,lF (bZ A1) fun b hb=>by have:=(cS A1 hb).1;simp at this;omega,g1⟩
 clear A3 g1 HC A2 A1;go_wp2_with fail
 refine bodyPost_ret (v:=.agg #[.int .i64 h.now,.slice sa h.rs.length sc,.slice ua (h.qs 0++h.qs 1++h.qs 2).length uc]) (by simp[results,results45,go_sem,r0,r1,r2]) rfl ⟨_,_,rfl,?_,?_,?_⟩
 .refine eu HB.2.1 fun k hk=>?_;obtain⟨c,hc⟩:=ax (bZ HB.2.1) hk;have A0:=aA hc HB.2.2.2 (by decide);rw[q8 _ _ _ _ A0,q8 _ _ _ _ A0,q8 _ _ _ _ A0]
 .refine eu HB.2.2.1 fun k hk=>?_;obtain⟨c,hc⟩:=ax (bZ HB.2.2.1) hk;have A0:=aA hc HB.2.2.2 (by decide);rw[q8 _ _ _ _ A0,q8 _ _ _ _ A0,q8 _ _ _ _ A0]
 .exact((HB.1.setCell (p:=⟨w.heap.size,0,none⟩) (v9 _) _).setCell (p:=⟨w.heap.size,1,none⟩) (v9 _) _).setCell (p:=⟨w.heap.size,2,none⟩) (v9 _) _
end Go.Proofs.YtmmmnghiegajmaaGreat
namespace Go.Proofs.Herald
open Go
def iZ (r:Nat):Nat:=if 65535<2*r then (2*r) ^^^ 69665 else 2*r
def gP:Nat->Nat->Nat
 | 0,r=>r
 | k+1,r=>iZ (gP k r)
def iI (r b:Nat):Nat:=gP 8 (r ^^^ (256*b))
def jd (bs:List Nat):Nat:=bs.foldl iI 65535
theorem Fy {x:Nat}(h:65536<=x)(h2:x<131072):x ^^^ 69665<65536:=by
 have e:65536=2 ^ 16:=rfl;rw[e];refine Nat.lt_pow_two_of_testBit _ fun i hi=>?_;rw[Nat.testBit_xor];by_cases h16:i=16
 .subst h16;have h3:x.testBit 16=true:=by
   rw[Nat.testBit_eq_decide_div_mod_eq];have:x / 2 ^ 16 % 2=1:=by omega
   simpa using this
  have h4:(69665:Nat).testBit 16=true:=by decide
  rw[h3,h4];rfl
 .have A0:2 ^ 17<=2 ^ i:=Nat.pow_le_pow_right (Nat.le_succ 1) (Nat.lt_of_le_of_ne hi fun e=>h16 e.symm);have h3:x.testBit i=false:=Nat.testBit_lt_two_pow (Qh (show x<2 ^ 17 from h2) A0);have h4:(69665:Nat).testBit i=false:=Nat.testBit_lt_two_pow (Qh (show 69665<2 ^ 17 from by decide) A0);rw[h3,h4];rfl
theorem vE {r:Nat}(h:r<65536):iZ r<65536:=by
 unfold iZ;split
 .exact Fy (by omega) (by omega)
 .omega
theorem rK:∀ (k:Nat){r:Nat},r<65536->gP k r<65536
 | 0,_,h=>h
 | k+1,_,h=>vE (rK k h)
theorem yB {a b:Nat}(ha:a<65536)(hb:b<65536):a ^^^ b<65536:=Nat.xor_lt_two_pow (n:=16) ha hb
theorem rL (r b:Nat):iI r b=gP 8 (r ^^^ (256*b)):=by unfold iI;rfl
theorem Bl {r b:Nat}(h:r<65536)(hb:b<256):iI r b<65536:=by
 rw[rL];exact rK 8 (yB h (by omega))
theorem oV:∀ (bs:List Nat){r:Nat},r<65536->(∀ b∈bs,b<256)->bs.foldl iI r<65536
 | [],_,h,_=>h
 | b::l,_,h,hb=>by
  rw[List.foldl_cons];exact oV l (Bl h (hb b (List.mem_cons_self ..))) fun c hc=>hb c (Qf _ hc)
def fk (n:Int)(k:Nat):Int:=n / 2 ^ (56 - 8*k) % 256
def mn (n:Int):List Int:=(List.range 8).map (fk n)
theorem uN (a b:Nat)(ha:a<4611686018427387904)(hb:b<4611686018427387904):bits .xor .i64 (a:Int) (b:Int)=((a ^^^ b:Nat):Int):=by
 have hx:a ^^^ b<2 ^ 62:=Nat.xor_lt_two_pow (by omega) (by omega);have h1:(BitVec.ofInt 64 (a:Int)).toNat=a:=by
  rw[BitVec.ofInt_natCast,BitVec.toNat_ofNat];exact Nat.mod_eq_of_lt (by omega)
 have h2:(BitVec.ofInt 64 (b:Int)).toNat=b:=by
  rw[BitVec.ofInt_natCast,BitVec.toNat_ofNat];exact Nat.mod_eq_of_lt (by omega)
 show IntKind.i64.wrap ((BitVec.ofInt 64 (a:Int) ^^^ BitVec.ofInt 64 (b:Int)).toNat:Int)=_;rw[BitVec.toNat_xor,h1,h2,IntKind.wrap_i64];omega
end Go.Proofs.Herald
namespace Go.Proofs.YtmmmnghiegajmaaGreat
theorem Bo (n:Int)(k:Nat):dt ((List.range (k+1)).map (fk n))=dt ((List.range k).map (fk n))++[.int .u8 (fk n k)]:=by
 rw[List.range_succ,List.map_append,oh];rfl
theorem Fx (n:Int)(w:World):
  Calls prog 119 #[.int .i64 n] w fun e w'=>∃ v,e=.returned v/\w'.ownsRow w.heap.size 5 1 v 8 (dt (mn n))/\Below w.heap.size w w':=by
 go_enter func119,ntmps119
 go_wp2_with fail
 go_loopw [3,4] (fun v i wr=>∃ k:Nat,k<=8/\i=.int .i64 (56 - 8*(k:Int))/\Hid (wr.ownsRow w.heap.size 5 1 v k (dt ((List.range k).map (fk n))))/\Hid (Below w.heap.size w wr)) (fun _ i _=>(intOf i+8).toNat)
 case atStart=>exact⟨0,by omega,rfl,Qg _ _ _ _,v7 _ _⟩
 case round=>
  obtain⟨k,hk,rfl,HV,HB⟩:=hrel;by_cases hlt:k<8
  .have h0:(0:Int)<=56 - 8*(k:Int):=by omega
   have h1:56 - 8*(k:Int)<=56:=by omega
   obtain⟨s,hs⟩:∃ s:Nat,56 - 8*(k:Int)=(s:Nat):=⟨(56 - 8*(k:Int)).toNat,by omega⟩;have hs1:s<=56:=by omega
   have A1:Hid ((s:Int) - 8=56 - 8*((k+1:Nat):Int)/\s=56 - 8*k):=by exact⟨by omega,by omega⟩
   rw[hs]at *;clear h0 h1 hs;go_wp2_with (at_builtin;refine gN _ rfl (.tmp 9) (.tmp 14) 80 rfl 5 _ 1 1 underlying80 Tryz.infoByte rfl (by decide) (by decide) u3 k 1 (dt ((List.range k).map (fk n))) wr.heap.size [_] (by rfl) (by exact(bZ HV).alloc _) (by exact v8 _ _) (by rfl) rfl (by simp[Value.oneCell']) (by decide) (by omega) ?_)
   intro v2 w2 hown2 ha2;have A0:=iF (w0:=w) (B:=w.heap.size) (HB.alloc HB.size _) (by have:=HB.size;simp;omega) (HV.out.alloc _) hown2 ha2;have A3:Hid (w2.ownsRow w.heap.size 5 1 v2 (k+1) (dt ((List.range (k+1)).map (fk n)))):=by
    show World.ownsRow _ _ _ _ _ _ _;rw[Bo];have e:fk n k=n / 2 ^ s % 256:=by unfold fk;rw[A1.2]
    rw[e];first
     | exact A0.2
     | simpa using A0.2
   have A2:Hid (Below w.heap.size w w2):=A0.1;clear hown2 ha2 A0;go_wp2_with fail
   go_roundw;case rel=>exact⟨k+1,by omega,by rw[<- A1.out.1],A3,A2⟩
   case measure=>simp[intOf];omega
  .obtain rfl:k=8:=by omega
   obtain⟨av,cv,A4⟩:=bD HV;subst A4;go_wp2_with fail
   go_ret;exact⟨_,rfl,HV,HB⟩
theorem Db (xs:List Nat)(k:Nat)(hk:k<xs.length):(xs.take (k+1)).foldl iI 65535=iI ((xs.take k).foldl iI 65535) xs[k]:=by
 rw[Qd hk,List.foldl_append,List.foldl_cons,List.foldl_nil]
def eg (xs:List Nat):List Int:=xs.map fun(x:Nat)=>((x:Nat):Int)
theorem Fw (a:Option Addr)(cap:Nat)(xs:List Nat)(w:World)(h:w.ownsRow 0 5 1 (.slice a xs.length cap) xs.length (dt (eg xs)))(hx:∀ x∈xs,x<256)(hn:xs.length<=1000):
  Calls prog 120 #[.slice a xs.length cap] w fun e w'=>e=.returned (.int .i64 (jd xs:Nat))/\aG w w':=by
 have HO:Hid (w.ownsRow 0 5 1 (.slice a xs.length cap) xs.length (dt (eg xs))/\∀ x∈xs,x<256):=⟨h,hx⟩;clear h hx;go_enter func120,ntmps120
 go_wp2_with fail
 go_loopw [3,9] (fun r i wr=>∃ k:Nat,k<=xs.length/\i=.int .i64 k/\r=.int .i64 ((xs.take k).foldl iI 65535:Nat)/\Hid (aG w wr)) (fun _ i _=>xs.length - (intOf i).toNat)
 case atStart=>exact⟨0,Qa _,rfl,rfl,aG.refl _⟩
 case round=>
  obtain⟨k,hk,rfl,rfl,HS⟩:=hrel;have A4:(xs.take k).foldl iI 65535<65536:=oV _ (by decide) fun b hb=>HO.2 b (List.mem_of_mem_take hb);by_cases hlt:k<xs.length
  .obtain⟨g,A2,hv,_,_⟩:=HO.1.form (by omega);simp at hv;obtain⟨rfl,rfl⟩:=hv;have e0:=(eW HO.1 k (.int .u8 (xs[k]:Nat)) (by simp[dt,eg,hlt])).1;rw[<- HS.out.cell]at e0;have hb:=HO.2 _ (Qb hlt);have A1:Hid ((xs.take (k+1)).foldl iI 65535=gP 8 ((xs.take k).foldl iI 65535 ^^^ (256*xs[k]))):=by
    show _=_;rw[Db xs k hlt,rL]
   generalize xs[k]=b at *;generalize (xs.take k).foldl iI 65535=r at *;have HX:Hid (Go.bits .xor .i64 (r:Int) ((b:Int)*256)=((r ^^^ (256*b):Nat):Int)):=by
    have e:(b:Int)*256=((256*b:Nat):Int):=by push_cast;omega
    show _=_;rw[e];exact uN r (256*b) (by omega) (by omega)
   have hz:r ^^^ (256*b)<65536:=yB A4 (by omega);go_wp2_with fail
   rw[HX];clear HX;generalize r ^^^ (256*b)=z at *;go_loopw [3,6] (fun r i wr2=>∃ j:Nat,j<=8/\i=.int .i64 j/\r=.int .i64 (gP j z:Nat)/\Hid (aG w wr2)) (fun _ i _=>8 - (intOf i).toNat)
   case atStart=>exact⟨0,Qa _,rfl,rfl,HS⟩
   case round=>
    obtain⟨j,hj,rfl,rfl,HT⟩:=hrel;have A5:gP j z<65536:=rK j hz;by_cases hj8:j<8
    .have HC:Hid (gP (j+1) z=if 65535<2*gP j z then (2*gP j z) ^^^ 69665 else 2*gP j z):=by
      show iZ (gP j z)=_;unfold iZ;rfl
     generalize gP j z=x at *;by_cases hc:65535<2*x
     .have A3:decide ((65535:Int)<(x:Int)*2)=true:=decide_eq_true (by omega);have A0:Hid (Go.bits .xor .i64 ((x:Int)*2) 69665=((gP (j+1) z:Nat):Int)):=by
       have e:(x:Int)*2=((2*x:Nat):Int):=by push_cast;omega
       show _=_;rw[HC,if_pos hc,e];exact uN (2*x) 69665 (by omega) (by omega)
      clear hc;go_wp2_with fail
      go_roundw;case rel=>exact⟨j+1,by omega,by go_num,by rw[A0.out],HT⟩
      case measure=>simp[intOf];omega
     .have A3:decide ((65535:Int)<(x:Int)*2)=false:=decide_eq_false (by omega);have A0:Hid ((x:Int)*2=((gP (j+1) z:Nat):Int)):=by
       show _=_;rw[HC,if_neg hc];push_cast;omega
      clear hc;go_wp2_with fail
      go_roundw;case rel=>exact⟨j+1,by omega,by go_num,by rw[A0.out],HT⟩
      case measure=>simp[intOf];omega
    .obtain rfl:j=8:=by omega
     go_wp2_with fail
     go_roundw;case rel=>exact⟨k+1,by omega,by go_num,by rw[A1.out],HT⟩
     case measure=>simp[intOf];omega
  .have e:xs.take k=xs:=Qe (by omega);rw[e];go_wp2_with fail
   go_ret;exact⟨rfl,HS.out⟩
end Go.Proofs.YtmmmnghiegajmaaGreat
namespace Go.Proofs.Herald
def jO (n:Int):List Nat:=(List.range 8).map fun k=>(fk n k).toNat
def fg (c:Nat)(a b:Int):List Nat:=c::(jO a++jO b)
def eR (c:Nat)(a b:Int):List Nat:=fg c a b++[jd (fg c a b) / 256,jd (fg c a b) % 256]
theorem wW (n:Int)(k:Nat):0<=fk n k/\fk n k<256:=by
 unfold fk;omega
theorem uZ (n:Int):(jO n).length=8:=by unfold jO;rw[List.length_map,List.length_range]
theorem oH (c:Nat)(a b:Int):(fg c a b).length=17:=by unfold fg;rw[List.length_cons,List.length_append,uZ,uZ]
theorem qw (c:Nat)(a b:Int):(eR c a b).length=19:=by unfold eR;rw[List.length_append,oH];rfl
theorem vG (n:Int):∀ x∈jO n,x<256:=fun x hx=>by
 obtain⟨k,_,rfl⟩:=List.mem_map.mp hx;have:=wW n k;omega
theorem oP {c:Nat}(hc:c<256)(a b:Int):∀ x∈fg c a b,x<256:=fun x hx=>by
 rcases List.mem_cons.mp hx with rfl|hx
 .exact hc
 .rcases List.mem_append.mp hx with hx|hx
  .exact vG a x hx
  .exact vG b x hx
end Go.Proofs.Herald
namespace Go.Proofs.YtmmmnghiegajmaaGreat
theorem rN (n:Int):eg (jO n)=mn n:=by
 unfold eg jO mn;rw[List.map_map];refine List.map_congr_left fun k _=>?_;have:=wW n k;simp only[Function.comp];omega
theorem rq (a b:List Nat):eg (a++b)=eg a++eg b:=List.map_append ..
theorem Bq (c:Nat)(a b:Int):eg (fg c a b)=[(c:Int)]++mn a++mn b:=by
 rw[<- rN,<- rN,List.append_assoc,<- rq];rfl
theorem EP (c:Nat)(a b:Int):eg (eR c a b)=eg (fg c a b)++[((jd (fg c a b):Nat):Int) / 256,((jd (fg c a b):Nat):Int) % 256]:=by
 unfold eR;rw[rq];congr 1
theorem xP (c:Nat)(hc:c<256)(a b:Int)(w:World):
  Calls prog 94 #[.agg #[.int .u8 (c:Nat),.int .i64 a,.int .i64 b]] w fun e w'=>∃ v,e=.returned v/\w'.ownsRow w.heap.size 5 1 v 19 (dt (eg (eR c a b)))/\Below w.heap.size w w':=by
 have HE:Hid (∀ (n:Int) (W:World),Calls prog 119 #[.int .i64 n] W fun e w'=>∃ v,e=.returned v/\w'.ownsRow W.heap.size 5 1 v 8 (dt (mn n))/\Below W.heap.size W w'):=fun n W=>Fx n W;have C1:=ah hc;clear hc;go_enter func94,ntmps94
 go_wp2_with fail
 obtain⟨W0,B8⟩:∃ W0,W0=(w.alloc (.cells #[.int .u8 (c:Nat),.int .i64 a,.int .i64 b] 143)).alloc (.cells #[.int .u8 (c:Nat)] 5):=⟨_,rfl⟩;have A6:Hid (Below w.heap.size w W0/\W0.heap[w.heap.size]?=some (.cells #[.int .u8 (c:Nat),.int .i64 a,.int .i64 b] 143)/\W0.ownsRow w.heap.size 5 1 (.slice (some ⟨w.heap.size+1,0,none⟩) 1 1) 1 (dt [(c:Int)])):=by
  rw[B8];refine⟨((v7 _ _).alloc (v9 _) _).alloc (by simp) _,?_,rfl,.inr ⟨w.heap.size+1,1,#[.int .u8 (c:Nat)],rfl,by omega,ey _ _ _,by omega,by unfold maxLen;omega,by rfl,by rfl⟩⟩;rw[q9 _ _ _ (by simp)];exact v8 _ _
 rw[<- B8];refine(HE a W0).mono ?_;rintro e w1 ⟨v1,rfl,A8,A7⟩;obtain⟨x1,B0⟩:∃ x1,x1=mn a:=⟨_,rfl⟩;rw[<- B0]at A8;have C5:x1.length=8:=by rw[B0];rfl
 have C3:=ah B0;clear B0;obtain⟨a1,B5,iQ⟩:=bD A8;subst iQ;have B3:Hid (jo w1 a1 8 (dt x1)/\x1.length=8):=⟨sZ (bZ A8),C5⟩;have H1:Hid (Below w.heap.size w w1/\w1.heap[w.heap.size]?=some (.cells #[.int .u8 (c:Nat),.int .i64 a,.int .i64 b] 143)/\w1.ownsRow w.heap.size 5 1 (.slice (some ⟨w.heap.size+1,0,none⟩) 1 1) 1 (dt [(c:Int)])):=
  ⟨A6.1.trans (A7.mono A6.1.size),(A7.block _ (ak A6.2.1)).trans A6.2.1,eu A6.2.2 fun k hk=>A7.block k (by obtain⟨_,C8,hc⟩:=cS A6.2.2 hk;exact ak hc)⟩
 clear A8 A7 B8 C5;go_wp2_with (at_builtin;refine ly _ rfl (.tmp 13) (.tmp 14) 80 rfl 5 _ 1 1 underlying80 Tryz.infoByte rfl (by decide) (by decide) (.slice (some ⟨w.heap.size+1,0,none⟩) 1 1) 1 (dt [(c:Int)]) a1 8 B5 (dt x1) (by rfl) (by exact bZ H1.2.2) (by rfl) B3.1 (by rw[rx,B3.2]) (ry _) (by omega) ?_)
 intro v2 w2 hown2 ha2;have A4:=iF (w0:=w) (B:=w.heap.size) H1.1 H1.1.size H1.2.2 hown2 ha2;have A0:w2.heap[w.heap.size]?=some (.cells #[.int .u8 (c:Nat),.int .i64 a,.int .i64 b] 143):=by
  rcases ha2 with ⟨g,cap,e1,_,hg⟩|⟨_,hg⟩
  .rw[hg.block _ (ak H1.2.1) (fun e=>by
    simp at e1;have e2:g=w.heap.size:=by simpa using e.symm
    omega)]
   exact H1.2.1
  .rw[hg.block _ (ak H1.2.1) (by simp)];exact H1.2.1
 obtain⟨a2,A3,C9⟩:=bD hown2;subst C9;have H2:Hid (Below w.heap.size w w2/\w2.heap[w.heap.size]?=some (.cells #[.int .u8 (c:Nat),.int .i64 a,.int .i64 b] 143)/\w2.ownsRow w.heap.size 5 1 (.slice a2 9 A3) 9 (dt ([(c:Int)]++x1))):=⟨A4.1,A0,by rw[oh];exact A4.2⟩;obtain⟨k0,k1,k2,_⟩:=lh A0;clear hown2 ha2 A4 A0;go_wp2_with fail
 refine(HE b w2).mono ?_;rintro e w3 ⟨v3,rfl,A9,B9⟩;obtain⟨x3,B1⟩:∃ x3,x3=mn b:=⟨_,rfl⟩;rw[<- B1]at A9;have C6:x3.length=8:=by rw[B1];rfl
 have C4:=ah B1;clear B1;obtain⟨a3,B6,D0⟩:=bD A9;subst D0;have B4:Hid (jo w3 a3 8 (dt x3)/\x3.length=8):=⟨sZ (bZ A9),C6⟩;have H3:Hid (Below w.heap.size w w3/\w3.ownsRow w.heap.size 5 1 (.slice a2 9 A3) 9 (dt ([(c:Int)]++x1))):=
  ⟨H2.1.trans (B9.mono H2.1.size),eu H2.2.2 fun k hk=>B9.block k (by obtain⟨_,C8,hc⟩:=cS H2.2.2 hk;exact ak hc)⟩
 clear A9 B9 k0 k1 k2 C6;go_wp2_with (at_builtin;refine ly _ rfl (.tmp 19) (.tmp 20) 80 rfl 5 _ 1 1 underlying80 Tryz.infoByte rfl (by decide) (by decide) (.slice a2 9 A3) 9 (dt ([(c:Int)]++x1)) a3 8 B6 (dt x3) (by rfl) (by exact bZ H3.2) (by rfl) B4.1 (by rw[rx,B4.2]) (ry _) (by omega) ?_)
 intro v4 w4 hown4 ha4;have A5:=iF (w0:=w) (B:=w.heap.size) H3.1 H3.1.size H3.2 hown4 ha4;obtain⟨a4,A1,D1⟩:=bD hown4;subst D1;have H4:Hid (Below w.heap.size w w4/\w4.ownsRow w.heap.size 5 1 (.slice a4 17 A1) 17 (dt ([(c:Int)]++x1++x3))):=⟨A5.1,by rw[oh];exact A5.2⟩;have HL:Hid (([(c:Int)]++x1++x3).length=17):=(by simp[B3.out.2,B4.out.2]:([(c:Int)]++x1++x3).length=17);clear hown4 ha4 A5;go_wp2_with fail
 have B2:Hid (eg (fg c a b)=[(c:Int)]++x1++x3):=by
  show _=_;rw[C3,C4];exact Bq c a b
 have C2:Hid (w4.ownsRow 0 5 1 (.slice a4 (fg c a b).length A1) (fg c a b).length (dt (eg (fg c a b)))):=by
  show World.ownsRow _ _ _ _ _ _ _;rw[B2,oH];exact bZ H4.2
 have HK:=(show Hid _ from Fw a4 A1 (fg c a b) w4 C2 (oP C1 a b) (by rw[oH];omega):Hid (Calls prog 120 #[.slice a4 (fg c a b).length A1] w4 _));rw[oH]at HK;refine HK.mono ?_;rintro e w5 ⟨rfl,C0⟩;have H5:Hid (Below w.heap.size w w5/\w5.ownsRow w.heap.size 5 1 (.slice a4 17 A1) 17 (dt (eg (fg c a b)))):=⟨H4.1.trans (C0.below _),by rw[B2];exact eu H4.2 fun k _=>by rw[C0.heap]⟩;have D3:jd (fg c a b)<65536:=oV _ (by decide) (oP C1 a b);have C7:Hid (eg (eR c a b)=eg (fg c a b)++[((jd (fg c a b):Nat):Int) / 256,((jd (fg c a b):Nat):Int) % 256]):=EP c a b;clear C0 HK C2 B2 C3 C4 H4 HL;generalize jd (fg c a b)=r at *;generalize eg (fg c a b)=ys at *;have hq:((r:Nat):Int) / 256 % 256=((r:Nat):Int) / 256:=by omega
 go_wp2_with (at_builtin;refine gN _ rfl (.tmp 24) (.tmp 30) 80 rfl 5 _ 1 1 underlying80 Tryz.infoByte rfl (by decide) (by decide) (.slice a4 17 A1) 17 2 (dt ys) w5.heap.size [_,_] (by rfl) (by exact(bZ H5.2).alloc _) (by exact v8 _ _) (by rfl) rfl (by simp[Value.oneCell']) (by decide) (by omega) ?_)
 intro v6 w6 hown6 ha6;have A2:=iF (w0:=w) (B:=w.heap.size) (H5.1.alloc H5.1.size _) (by have:=H5.1.size;simp;omega) (H5.out.2.alloc _) hown6 ha6;obtain⟨a6,B7,D2⟩:=bD hown6;subst D2;have H6:Hid (w6.ownsRow w.heap.size 5 1 (.slice a6 19 B7) 19 (dt (eg (eR c a b)))/\Below w.heap.size w w6):=by
  rw[C7,oh];refine⟨?_,A2.1⟩;first
   | exact A2.2
   | (rw[<- hq];exact A2.2)
   | simpa[dt] using A2.2
 clear hown6 ha6 A2;go_wp2_with fail
 go_ret;exact⟨_,rfl,H6.1,H6.2⟩
end Go.Proofs.YtmmmnghiegajmaaGreat
namespace Go.Proofs.Herald
open Go
def aI (L:List Nat):ByteArray:=⟨(L.map UInt8.ofNat).toArray⟩
theorem iG (L:List Nat):(aI L).size=L.length:=by simp[aI,ByteArray.size]
theorem me (L:List Nat):(aI L).data.toList=L.map UInt8.ofNat:=by simp[aI]
theorem og {s t:ByteArray}(h:s.data.toList=t.data.toList):s=t:=by
 cases s;cases t
 congr 1;exact Array.toList_inj.mp h
theorem pR (A B:List Nat):aI A++aI B=aI (A++B):=by
 refine og ?_;rw[ByteArray.data_append,Array.toList_append,me,me,me,List.map_append]
theorem kU (L:List Nat)(a b:Nat):(aI L).extract a b=aI ((L.drop a).take (b - a)):=by
 refine og ?_;rw[ByteArray.data_extract,Array.toList_extract,me,me,List.extract_eq_take_drop,List.map_take,List.map_drop]
theorem qH {x:Nat}(h:x<256):(UInt8.ofNat x).toNat=x:=by
 rw[UInt8.toNat_ofNat'];exact Nat.mod_eq_of_lt h
theorem qA {L:List Nat}{i:Nat}(h:i<(aI L).size)(hi:i<L.length)(hb:L[i]<256):((aI L)[i]).toNat=L[i]:=by
 have e:(aI L)[i]=UInt8.ofNat L[i]:=by
  show(aI L).data[i]=_;simp[aI]
 rw[e];exact qH hb
theorem wZ {A B:List Nat}(hA:∀ x∈A,x<256)(hB:∀ x∈B,x<256)(h:aI A=aI B):A=B:=by
 have h1:A.map UInt8.ofNat=B.map UInt8.ofNat:=by rw[<- me,<- me,h]
 have h2:(A.map UInt8.ofNat).map UInt8.toNat=(B.map UInt8.ofNat).map UInt8.toNat:=by rw[h1]
 rw[List.map_map,List.map_map]at h2;have key:∀ {L:List Nat},(∀ x∈L,x<256)->L.map (UInt8.toNat ∘ UInt8.ofNat)=L:=fun {L} hL=>by
  conv=>rhs;rw[<- List.map_id L]
  exact List.map_congr_left fun x hx=>qH (hL x hx)
 rwa [key hA,key hB]at h2
theorem EZ (s:ByteArray):∃ L:List Nat,s=aI L/\∀ x∈L,x<256:=by
 refine⟨s.data.toList.map UInt8.toNat,og ?_,fun x hx=>?_⟩
 .rw[me,List.map_map];conv=>lhs;rw[<- List.map_id s.data.toList]
  refine List.map_congr_left fun x _=>?_;simp
 .obtain⟨y,_,rfl⟩:=List.mem_map.mp hx;exact y.toNat_lt
def dW (x:Int):Int:=(x+9223372036854775808) % 18446744073709551616 - 9223372036854775808
def fG (L:List Nat):Int:=L.foldl (fun(v:Int) (b:Nat)=>v*256+(b:Int)) 0
theorem wh (L:List Nat)(k:Nat)(hk:k<L.length):fG (L.take (k+1))=fG (L.take k)*256+(L[k]:Int):=by
 unfold fG;rw[Qd hk,List.foldl_append,List.foldl_cons,List.foldl_nil]
theorem xd (v:Int)(b:Nat)(hb:b<256):dW (dW v*256)+(b:Int)=dW (v*256+(b:Int)):=by
 unfold dW;omega
theorem vk (m:Int)(b:Nat)(hm:m % 256=0)(h1:-9223372036854775808<=m)(h2:m<=9223372036854775552)(hb:b<256):bits .or .i64 m (b:Int)=m+(b:Int):=by
 have e:BitVec.ofInt 64 m &&& BitVec.ofInt 64 (b:Int)=0#64:=by
  apply BitVec.eq_of_toNat_eq;have t1:(BitVec.ofInt 64 m).toNat % 256=0:=by
   rw[BitVec.toNat_ofInt];omega
  have t2:(BitVec.ofInt 64 (b:Int)).toNat=b:=by
   rw[BitVec.ofInt_natCast,BitVec.toNat_ofNat];omega
  rw[BitVec.toNat_and,t2];refine Nat.eq_of_testBit_eq fun i=>?_;rw[Nat.testBit_and];by_cases hi:i<8
  .have:(BitVec.ofInt 64 m).toNat.testBit i=false:=by
    generalize (BitVec.ofInt 64 m).toNat=x at *;have h8:=Nat.testBit_mod_two_pow x 8 i;have e2:x % 2 ^ 8=0:=t1;rw[e2,decide_eq_true hi,Bool.true_and,Nat.zero_testBit]at h8;exact h8.symm
   rw[this];simp
  .have:b.testBit i=false:=Nat.testBit_lt_two_pow (Qh (show b<2 ^ 8 from hb) (Nat.pow_le_pow_right (by omega) (by omega)));rw[this];simp
 show IntKind.i64.wrap ((BitVec.ofInt 64 m ||| BitVec.ofInt 64 (b:Int)).toNat:Int)=_;rw[<- BitVec.add_eq_or_of_and_eq_zero _ _ e,<- BitVec.ofInt_add,BitVec.toNat_ofInt,IntKind.wrap_i64];omega
end Go.Proofs.Herald
namespace Go.Proofs.YtmmmnghiegajmaaGreat
theorem qd (L:List Nat):strOfNums (eg L)=aI L:=by
 unfold strOfNums aI eg;rw[List.map_map];congr 1
theorem yg (x:Int):Go.RowKit.wrap64 x=(x+9223372036854775808) % 18446744073709551616 - 9223372036854775808:=by unfold Go.RowKit.wrap64;rfl
theorem uT (L:List Nat)(hL:∀ x∈L,x<256)(hl:L.length<=1000)(w:World):
  Calls prog 141 #[.string (aI L)] w fun e w'=>e=.returned (.int .i64 (dW (fG L)))/\w'=w:=by
 have hz:(aI L).size=L.length:=iG L;have A1:Hid (∀ (i:Nat) (h:i<(aI L).size) (hi:i<L.length),(((aI L)[i]).toNat:Int)=(L[i]:Int)):=fun i h hi=>by
  rw[qA h hi (hL _ (Qb hi))]
 have HL:=ah hL;clear hL;go_enter func141,ntmps141
 go_wp2_with fail
 go_loop [3,4] (fun n i=>∃ k:Nat,k<=L.length/\i=.int .i64 k/\n=.int .i64 (dW (fG (L.take k)))) (fun _ i=>L.length - (intOf i).toNat)
 case atStart=>exact⟨0,Qa _,rfl,by rw[List.take_zero];rfl⟩
 case round=>
  obtain⟨k,hk,rfl,rfl⟩:=hrel;by_cases hlt:k<L.length
  .have A0:k<(aI L).size:=by omega
   have e1:=A1 k A0 hlt;have hb:=HL _ (Qb hlt);have A3:Hid (dW (fG (L.take (k+1)))=dW (dW (fG (L.take k))*256)+(L[k]:Int)):=by
    show _=_;rw[wh L k hlt,xd _ _ hb]
   generalize fG (L.take k)=v at *;have A2:Hid (Go.bits .or .i64 (Go.RowKit.wrap64 (dW v*256)) (L[k]:Int)=dW (fG (L.take (k+1)))):=by
    show _=_;have e2:Go.RowKit.wrap64 (dW v*256)=dW (dW v*256):=by unfold dW;exact yg _
    rw[A3,e2];exact vk _ _ (by unfold dW;omega) (by unfold dW;omega) (by unfold dW;omega) hb
   go_wp2_with fail
   go_round;case rel=>exact⟨k+1,by omega,by go_num,by rw[A2.out]⟩
   case measure=>simp[intOf];omega
  .have e:L.take k=L:=Qe (by omega);rw[e];go_wp2_with fail
   go_ret;exact⟨rfl,rfl⟩
end Go.Proofs.YtmmmnghiegajmaaGreat
