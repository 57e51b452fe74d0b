import Derived.Test.YtmmmnghiegajmaaGreatM07
import Derived.Deep.DeepCutAuto
set_option maxHeartbeats 8000000
set_option maxRecDepth 20000
open Go.RowKit Go.Proofs.Herald Go.Proofs.Tryz
namespace Go.Proofs.YtmmmnghiegajmaaGreat
theorem aH.fr {w w':World}{a:Option Addr}{b off S:Nat}{cs:List am}(h:aH w a b off cs)(hb:Fr (fun k=>k=S) w w')(hS:0<cs.length->b≠S):aH w' a b off cs:=fun hp=>
 ⟨(h hp).1,Qh (h hp).2.1 hb.size,(h hp).2.2.keep (hb.block _ (h hp).2.1 (hS hp))⟩
theorem BS (a:Option Addr)(b off cap:Nat)(cs:List am)(w:World)(hc:aH w a b off cs)(hs:em cs=true):
  Calls prog 7 #[.slice a cs.length cap] w fun e w'=>∃ H v,e=.returned (.tuple #[.pointer (some ⟨H,0,none⟩),.bool true])/\w.heap.size<=H/\w'.heap[H]?=some (.cells (ll v) 114)/\w'.ownsRow w.heap.size 91 4 v cs.length (aZ cs)/\Below w.heap.size w w':=by
 have hm:cs.length<=4398046511000:=by
  rcases Nat.lt_or_ge 1000 cs.length with h|h
  .rw[nz h]at hs;cases hs
  .omega
 have HC:=ah hc;have HS:=ah hs;clear hc hs;go_enter func7,ntmps7
 go_wp2_with fail
 refine(vj a b off cap cs _ HC hm).mono ?_;rintro e w1 ⟨S,hS,rfl,A7,A8⟩;have H1:Hid (w1.heap[S]?=some (.cells (aZ (cs++[dQ,dQ])).toArray 91)/\Below w.heap.size w w1/\aH w1 (some ⟨S,0,none⟩) S 0 cs/\aH w1 a b off cs):=
  ⟨A7,A8,fun _=>⟨rfl,ak A7,oe (rest:=aZ [dQ,dQ]) (by rw[<- kv];exact A7)⟩,HC.keep A8⟩
 clear A7 A8;go_wp2_with fail
 refine(wd S 0 _ cs _ H1.2.2.1 HS.out).mono ?_;rintro e w2 ⟨H,v,rfl,hH,B0,B1,A5⟩;have H2:Hid (w2.heap[S]?=some (.cells (aZ (cs++[dQ,dQ])).toArray 91)/\Below w.heap.size w w2/\aH w2 a b off cs):=
  ⟨(A5.block S (ak H1.1)).trans H1.1,H1.2.1.trans (A5.mono H1.2.1.size),H1.2.2.2.keep A5⟩
 have A0:Hid (w2.heap[H]?=some (.cells (ll v) 114)/\w2.ownsRow w1.heap.size 91 4 v cs.length (aZ cs)/\w1.heap.size<=H/\S<w1.heap.size/\w.heap.size<=w1.heap.size):=⟨B0,B1,hH,ak H1.1,H1.2.1.size⟩;clear A5 H1 B0 B1 hH;go_wp2_with fail
 refine(wz a S b off cap cs _ hm H2.1 H2.2.2).mono ?_;rintro e w3 ⟨rfl,A1⟩;have H3:Hid (w3.heap[S]?=some (.cells (aZ (cs++[dQ,dQ])).toArray 91)/\Below w.heap.size w w3/\aH w3 a b off cs):=
  ⟨(A1.block S (ak H2.1)).trans H2.1,H2.2.1.trans (A1.mono H2.2.1.size),H2.2.2.keep A1⟩
 have A2:Hid (w3.heap[H]?=some (.cells (ll v) 114)/\w3.ownsRow w1.heap.size 91 4 v cs.length (aZ cs)):=
  ⟨(A1.block H (ak A0.1)).trans A0.1,eu A0.2.1 (fun k hk=>by obtain⟨_,c,hc⟩:=cS A0.2.1 hk;exact A1.block k (ak hc))⟩
 clear A1 H2;go_wp2_with fail
 refine(wu S cs.length _ (cs++[dQ,dQ]) _ (by simp) hm H3.1).mono ?_;rintro e w4 ⟨rfl,A4⟩;have H4:Hid (Below w.heap.size w w4/\aH w4 a b off cs):=
  ⟨H3.2.1.trans ((A4.mono (fun k _ hk=>by show w.heap.size<=k;omega)).below H3.out.2.1.size),H3.out.2.2.fr A4 (fun hp=>by have:=(HC.out hp).2.1;omega)⟩
 have A3:Hid (w4.heap[H]?=some (.cells (ll v) 114)/\w4.ownsRow w1.heap.size 91 4 v cs.length (aZ cs)):=
  ⟨(A4.block H (ak A2.1) (by have:=A0.2.2;omega)).trans A2.out.1,eu A2.out.2 (fun k hk=>by obtain⟨B2,c,hc⟩:=cS A2.out.2 hk;exact A4.block k (ak hc) (by have:=A0.2.2;omega))⟩
 clear A4 H3 A2;go_wp2_with fail
 refine(rG a b off cap cs _ H4.2).mono ?_;rw[HS.out];rintro e w5 ⟨rfl,A6⟩;have H5:Hid (Below w.heap.size w w5):=H4.1.trans (A6.mono H4.1.size);have A9:Hid (w5.heap[H]?=some (.cells (ll v) 114)/\w5.ownsRow w.heap.size 91 4 v cs.length (aZ cs)):=by
  refine⟨(A6.block H (ak A3.1)).trans A3.1,?_⟩;have h5:=eu (w':=w5) A3.2 (fun k hk=>by obtain⟨B2,c,hc⟩:=cS A3.2 hk;exact A6.block k (ak hc));refine⟨h5.1,?_⟩;rcases h5.2 with h|⟨g,cap,cur,hv,hb,r⟩
  .exact .inl h
  .exact .inr ⟨g,cap,cur,hv,Qc A0.2.2.2.2 hb,r⟩
 clear A6 H4 A3;go_wp2_with fail
 go_ret2;exact⟨H,v,rfl,Qc A0.2.2.2.2 A0.2.2.1,A9.1,A9.2,H5⟩
def kc (b:Value×List Value):List Value:=b.1::b.2
def fw (bs:List (Value×List Value)):List Value:=bs.flatMap kc
theorem yE (bs:List (Value×List Value))(b:Value×List Value):fw (bs++[b])=fw bs++kc b:=by simp[fw]
def Gq (l x:Value):Prop:=
 (∃ g cap n n',l=.slice (some ⟨g,0,none⟩) n cap/\x=.slice (some ⟨g,0,none⟩) n' cap)\/(∀ b,x.ownBlock=some b->l.ownBlock≠some b)
structure bG (w0 w:World)(O M:Nat)(oc:Value->Array Value)(eT bT:TypeId)(k:Nat)(rv0 rv:Value)(bs:List (Value×List Value))(l:Value)(nl:Nat)(mk:List Value)(kin:List (Value×Nat)):Prop where
 o:w.heap[O]?=some (.cells (oc rv) 28)
 m:w.heap[M]?=some (.cells mk.toArray eT (0,0))
 rown:w.ownsRow 0 bT (k+1) rv bs.length (fw bs)
 rat:∀ b,rv.ownBlock=some b->rv0.ownBlock=some b\/w0.heap.size<=b
 lown:w.ownsRow 0 eT k l nl (cO mk nl)
 kins:∀ x∈kin,w.ownsRow 0 eT k x.1 x.2 (cO mk x.2)/\Gq l x.1/\(∀ b,x.1.ownBlock=some b->l.ownBlock=some b\/w0.heap.size<=b)
 fr:Fr (fun j=>j=O\/rv0.ownBlock=some j\/l.ownBlock=some j) w0 w
 mnew:w0.heap.size<=M
 old:O<w0.heap.size/\∀ b,l.ownBlock=some b->b<w0.heap.size
theorem Fr.wide {S:Nat->Prop}{w0 w w':World}(h:Fr S w0 w)(k:Fr (fun j=>S j\/w0.heap.size<=j) w w'):Fr S w0 w':=
 ((h.mono (T:=fun j=>S j\/w0.heap.size<=j) fun _ _ hs=>Or.inl hs).trans k).mono fun j hj hs=>hs.elim id (fun h=>by omega)
theorem bG.push {w0 w W w1:World}{O M:Nat}{oc:Value->Array Value}{eT bT:TypeId}{k:Nat}{rv0 rv:Value}{bs:List (Value×List Value)}{l:Value}{nl:Nat}{mk:List Value}{kin:List (Value×Nat)}(h:bG w0 w O M oc eT bT k rv0 rv bs l nl mk kin)
  (hbo:bT≠28) (hbe:bT≠eT) (heo:eT≠28) (h0:ae w W) {x:Value} {g cap idx:Nat}
  (hown1:w1.ownsRow 0 bT (k+1) (.slice (some ⟨g,0,none⟩) (bs.length+1) cap) (bs.length+1) (fw bs++(x::mk))) (hgrow:W.grownBy w1 rv.ownBlock) (hat:rv.ownBlock=some g\/g=W.heap.size)
  (hoc:(oc rv).setIfInBounds idx (.slice (some ⟨g,0,none⟩) (bs.length+1) cap)=oc (.slice (some ⟨g,0,none⟩) (bs.length+1) cap)):
  bG w0 (w1.setCell ⟨O,idx,none⟩ (.slice (some ⟨g,0,none⟩) (bs.length+1) cap)) O M oc eT bT k rv0 (.slice (some ⟨g,0,none⟩) (bs.length+1) cap) (bs++[(x,mk)]) l nl mk kin:=by
 have A8:=h0.size;have A4:=ak h.o;have A9:=h.fr.size;have A7:rv.ownBlock≠some O:=fun e=>by obtain⟨A0,hc⟩:=ax h.rown e;exact aA hc h.o hbo rfl
 have A1:w1.heap[O]?=w.heap[O]?:=iU h0 hgrow A4 A7;have A3:M≠O:=aA h.m h.o heo;have A6:g≠O:=by obtain⟨A0,hc⟩:=ax hown1 (k:=g) rfl;exact aA hc (A1.trans h.o) hbo
 have keep:∀ {v:Value} {n:Nat} {xs:List Value},w.ownsRow 0 eT k v n xs->(w1.setCell ⟨O,idx,none⟩ (.slice (some ⟨g,0,none⟩) (bs.length+1) cap)).ownsRow 0 eT k v n xs:=fun {v n xs} hv=>aT hv fun b hb=>by
  obtain⟨A0,hc⟩:=ax hv hb;rw[q8 _ _ _ _ (aA hc h.o heo)];exact iU h0 hgrow (ak hc) (fun e=>by obtain⟨A2,A5⟩:=ax h.rown e;exact aA A5 hc hbe rfl)
 refine⟨?_,?_,?_,?_,keep h.lown,fun y hy=>⟨keep (h.kins y hy).1,(h.kins y hy).2⟩,?_,h.mnew,h.old⟩
 .rw[cG _ (A1.trans h.o),hoc]
 .rw[q8 _ _ _ _ A3];exact cM h0 hgrow h.m (fun e=>by obtain⟨A0,hc⟩:=ax h.rown e;exact aA hc h.m hbe rfl)
 .rw[yE,List.length_append];exact aT hown1 fun b hb=>by
   simp[Value.ownBlock]at hb;subst hb;exact q8 _ _ _ _ A6
 .intro b hb;simp[Value.ownBlock]at hb;subst hb;rcases hat with h1|h1
  .exact h.rat _ h1
  .right;omega
 .refine Fr.wide h.fr ?_;have f1:Fr (fun j=>(j=O\/rv0.ownBlock=some j\/l.ownBlock=some j)\/w0.heap.size<=j) w w1:=Fr.of_push h0 hgrow fun j hj=>by
   rcases h.rat j hj with h1|h1
   .exact Or.inl (Or.inr (Or.inl h1))
   .exact Or.inr h1
  exact f1.setCell ⟨O,idx,none⟩ (Or.inl (Or.inl (Or.inl rfl))) _
theorem bG.app {w0 w w':World}{O M:Nat}{oc:Value->Array Value}{eT bT:TypeId}{k:Nat}{rv0 rv:Value}{bs:List (Value×List Value)}{l:Value}{nl:Nat}{mk:List Value}{kin:List (Value×Nat)}(h:bG w0 w O M oc eT bT k rv0 rv bs l nl mk kin)
  (hbe:bT≠eT) (heo:eT≠28) (hk:mk.length=k) {W:World} (h0:ae w W) {v':Value} {j:Nat} (hown':w'.ownsRow 0 eT k v' (nl+j) (cO mk nl++cO mk j)) (ha:jL W w' l nl j v') (hkin:∀ x∈kin,x.2<=nl+j):
  bG w0 w' O M oc eT bT k rv0 rv bs l nl mk (kin++[(v',nl+j)]):=by
 rw[<- oI]at hown';have A7:=h0.size;have A8:=h.fr.size;rcases ha with ⟨g,cap,hl,hv,hgrow⟩|⟨hnew,hgrow⟩
 .have A1:l.ownBlock=some g:=by rw[hl];rfl
  have A6:=h.old.2 g A1;obtain⟨A4,A3⟩:=ax h.lown A1;have same:∀ {b:Nat} {ob:Obj},w.heap[b]?=some ob->b≠g->w'.heap[b]?=some ob:=fun {b ob} hb hne=>by
   rw[hgrow.block b (by have:=ak hb;omega) (by simpa using hne),h0.block b (ak hb)];exact hb
  have A0:=hown';rw[hv]at A0;refine⟨same h.o (fun e=>aA A3 h.o heo e.symm),same h.m (fun e=>by have:=h.mnew;omega),?_,h.rat,?_,?_,?_,h.mnew,h.old⟩
  .exact aT h.rown fun b hb=>by
    obtain⟨A2,hc⟩:=ax h.rown hb;rw[same hc (aA hc A3 hbe),hc]
  .have h1:=vu A0 (n:=nl) (by omega);rw[<- hk,vp mk (by omega),hk,<- hl]at h1;exact h1
  .intro x hx;rw[List.mem_append,List.mem_singleton]at hx;rcases hx with hx|rfl
   .obtain⟨k1,k2,k3⟩:=h.kins x hx;refine⟨?_,k2,k3⟩;rcases k2 with ⟨g2,cap2,n2,n3,e1,e2⟩|k2
    .rw[hl]at e1;simp at e1;obtain⟨rfl,_,rfl⟩:=e1;have A5:n3=x.2:=by
      have h5:=k1;rw[e2]at h5;exact(jN h5).2.1
     rw[e2,A5];have h1:=vu A0 (n:=x.2) (hkin x hx);rw[<- hk,vp mk (hkin x hx),hk]at h1;exact h1
    .exact aT k1 fun b hb=>by
      obtain⟨A2,hc⟩:=ax k1 hb;rw[same hc (fun e=>by subst e;exact k2 _ hb A1),hc]
   .refine⟨hown',Or.inl ⟨g,cap,nl,nl+j,hl,hv⟩,fun b hb=>Or.inl ?_⟩;rw[A1];rw[hv]at hb;exact hb
  .refine Fr.wide h.fr ⟨hgrow.os.trans h0.os,hgrow.tape.trans h0.tape,hgrow.output.trans h0.output,by have:=hgrow.size;omega,fun b hb hs=>?_⟩;rw[hgrow.block b (by omega) (fun e=>hs (Or.inl (Or.inr (Or.inr (by rw[A1];simpa using e.symm))))),h0.block b hb]
 .have same:∀ {b:Nat} {ob:Obj},w.heap[b]?=some ob->w'.heap[b]?=some ob:=fun {b ob} hb=>by
   rw[hgrow.block b (by have:=ak hb;omega) (by simp),h0.block b (ak hb)];exact hb
  have keep:∀ {e:TypeId} {s:Nat} {v:Value} {n:Nat} {xs:List Value},w.ownsRow 0 e s v n xs->w'.ownsRow 0 e s v n xs:=fun {e s v n xs} hv=>aT hv fun b hb=>by
   obtain⟨A2,hc⟩:=ax hv hb;rw[same hc,hc]
  refine⟨same h.o,same h.m,keep h.rown,h.rat,keep h.lown,?_,?_,h.mnew,h.old⟩
  .intro x hx;rw[List.mem_append,List.mem_singleton]at hx;rcases hx with hx|rfl
   .exact⟨keep (h.kins x hx).1,(h.kins x hx).2⟩
   .refine⟨hown',Or.inr fun b hb e=>?_,fun b hb=>Or.inr ?_⟩
    .have h1:=hnew b hb;have h2:=h.old.2 b e;omega
    .have h1:=hnew b hb;omega
  .refine Fr.wide h.fr ⟨hgrow.os.trans h0.os,hgrow.tape.trans h0.tape,hgrow.output.trans h0.output,by have:=hgrow.size;omega,fun b hb _=>?_⟩;rw[hgrow.block b (by omega) (by simp),h0.block b hb]
theorem Tryz.infoQB:(prog.info? 101).map (fun i=>(i.zero,i.size,i.bytes))=some (some (.agg #[.slice none 0 0,.int .i64 0,.int .i64 0,.int .i64 0,.int .i64 0]),5,56):=by kernel_rfl
theorem Tryz.infoMsg:(prog.info? 87).map (fun i=>(i.zero,i.size,i.bytes))=some (some (.agg #[.int .i64 0,.int .i64 0,.int .i64 0,.int .i64 0]),4,32):=by kernel_rfl
def dv (w:World)(X:Nat->Prop)(eT:TypeId)(k:Nat)(b:Value×List Value):Prop:=
 (∃ is:List Int,b.2=is.map (fun z=>Value.int .i64 z)/\is.length=k)/\∃ n,n<=100000000/\w.ownsRow 0 eT k b.1 n (cO b.2 n)/\∀ g,b.1.ownBlock=some g->X g
structure dn (w:World)(X:Nat->Prop)(O:Nat)(n:Int)(cv rv qv:Value)(cb rb qb:List (Value×List Value)):Prop where
 blk:w.heap[O]?=some (.cells #[.int .i64 n,cv,rv,qv] 28)
 inO:X O
 cown:w.ownsRow 0 93 5 cv cb.length (fw cb)
 rown:w.ownsRow 0 98 6 rv rb.length (fw rb)
 qown:w.ownsRow 0 101 5 qv qb.length (fw qb)
 cin:∀ b,cv.ownBlock=some b->X b
 rin:∀ b,rv.ownBlock=some b->X b
 qin:∀ b,qv.ownBlock=some b->X b
 cbk:∀ b∈cb,dv w X 91 4 b
 rbk:∀ b∈rb,dv w X 96 5 b
 qbk:∀ b∈qb,dv w X 87 4 b
theorem iX {w:World}{B:Nat}{e:TypeId}{size n g cap:Nat}{xs:List Value}(h:w.ownsRow B e size (.slice (some ⟨g,0,none⟩) n cap) n xs)(p:Nat)(v:Value):
  (w.setCell ⟨g,p,none⟩ v).ownsRow B e size (.slice (some ⟨g,0,none⟩) n cap) n (xs.set p v):=by
 refine⟨by rw[List.length_set];exact h.1,.inr ?_⟩;rcases h.2 with ⟨h1,_⟩|⟨g',cap',cur,hv,hb,hg,hn,hm,hs,ht⟩
 .cases h1
 .simp at hv;obtain⟨rfl,rfl⟩:=hv;refine⟨g,cap,cur.setIfInBounds p v,rfl,hb,cG v hg,hn,hm,by simpa using hs,?_⟩;rw[Array.toList_setIfInBounds,List.take_set,ht]
theorem eW {w:World}{B:Nat}{e:TypeId}{size n g cap:Nat}{xs:List Value}(h:w.ownsRow B e size (.slice (some ⟨g,0,none⟩) n cap) n xs)(p:Nat)(u:Value)(hu:xs[p]?=some u):
  w.cell? ⟨g,p,none⟩=some u/\w.frozen? ⟨g,p,none⟩=false:=by
 have h1:=h.cells (g:=g) rfl p u hu;rw[Addr.add_lit,Nat.zero_add]at h1;obtain⟨_,A0,hc⟩:=cS h (k:=g) rfl;exact⟨h1,aC hc⟩
theorem qq {w:World}{B:Nat}{e:TypeId}{size n g cap p:Nat}{A rest:List Value}{r0 r1 r2 r3:Value}(h:w.ownsRow B e size (.slice (some ⟨g,0,none⟩) n cap) n (A++r0::r1::r2::r3::rest))(hp:p=A.length)(u0 u1 u2 u3:Value):
  ((((w.setCell ⟨g,p,none⟩ u0).setCell ⟨g,p+1,none⟩ u1).setCell ⟨g,p+2,none⟩ u2).setCell ⟨g,p+3,none⟩ u3).ownsRow B e size (.slice (some ⟨g,0,none⟩) n cap) n (A++[u0,u1,u2,u3]++rest):=by
 have h4:=iX (iX (iX (iX h p u0) (p+1) u1) (p+2) u2) (p+3) u3;rw[yu u0 u1 u2 u3 p hp]at h4;exact h4
theorem xm {w:World}{B:Nat}{e:TypeId}{size n g cap p:Nat}{A rest:List Value}{r0 r1 r2 r3:Value}(h:w.ownsRow B e size (.slice (some ⟨g,0,none⟩) n cap) n (A++r0::r1::r2::r3::rest))(hp:p=A.length):
  w.cell? ⟨g,p,none⟩=some r0/\w.cell? ⟨g,p+1,none⟩=some r1/\w.cell? ⟨g,p+2,none⟩=some r2/\w.cell? ⟨g,p+3,none⟩=some r3/\w.frozen? ⟨g,p,none⟩=false/\w.frozen? ⟨g,p+1,none⟩=false/\w.frozen? ⟨g,p+2,none⟩=false/\w.frozen? ⟨g,p+3,none⟩=false:=by
 subst hp;have k0:=eW h A.length r0 (by simp);have k1:=eW h (A.length+1) r1 (by simp);have k2:=eW h (A.length+2) r2 (by simp);have k3:=eW h (A.length+3) r3 (by simp);exact⟨k0.1,k1.1,k2.1,k3.1,k0.2,k1.2,k2.2,k3.2⟩
theorem yy {l:List Value}{n:Nat}(h:l.length=n*4)(hn:0<n):∃ r0 r1 r2 r3 rest,l=r0::r1::r2::r3::rest/\rest.length=(n - 1)*4:=by
 match l,h with
 | r0::r1::r2::r3::rest,h=>exact⟨r0,r1,r2,r3,rest,rfl,by simp at h;omega⟩
 | [],h=>simp at h;omega
 | [_],h=>simp at h;omega
 | [_,_],h=>simp at h;omega
 | [_,_,_],h=>simp at h;omega
theorem fP {w:World}{M:Nat}{e:TypeId}{u0 u1 u2 u3:Value}(h:w.heap[M]?=some (.cells [u0,u1,u2,u3].toArray e (0,0))):
  w.cell? ⟨M,0,none⟩=some u0/\w.cell? ⟨M,1,none⟩=some u1/\w.cell? ⟨M,2,none⟩=some u2/\w.cell? ⟨M,3,none⟩=some u3:=
 ⟨(ag h).trans rfl,(ag h).trans rfl,(ag h).trans rfl,(ag h).trans rfl⟩
theorem yk {S:Nat->Prop}{w0 w:World}(h:Fr S w0 w){g:Nat}(hg:S g)(p:Nat)(u0 u1 u2 u3:Value):Fr S w0 ((((w.setCell ⟨g,p,none⟩ u0).setCell ⟨g,p+1,none⟩ u1).setCell ⟨g,p+2,none⟩ u2).setCell ⟨g,p+3,none⟩ u3):=
 (((h.setCell ⟨g,p,none⟩ (Or.inl hg) _).setCell ⟨g,p+1,none⟩ (Or.inl hg) _).setCell ⟨g,p+2,none⟩ (Or.inl hg) _).setCell ⟨g,p+3,none⟩ (Or.inl hg) _
structure aG (w w':World):Prop where
 heap:w'.heap=w.heap
 os:w'.os=w.os
 tape:w'.tape=w.tape
 output:w'.output=w.output
theorem aG.refl (w:World):aG w w:=⟨rfl,rfl,rfl,rfl⟩
theorem aG.drew {w w':World}(h:aG w w'):aG w w'.drew:=⟨h.heap,h.os,h.tape,h.output⟩
theorem aG.cell {w w':World}(h:aG w w')(p:Addr):w'.cell? p=w.cell? p:=World.cell?_of_block (by rw[h.heap])
theorem aG.below {w w':World}(h:aG w w')(B:Nat):Below B w w':=⟨h.os,h.tape,h.output,by rw[h.heap];exact v9 _,fun k _=>by rw[h.heap]⟩
theorem tB {k:Nat}:∀ (bs:List (Value×List Value)) (_:∀ b∈bs,b.2.length=k) (i:Nat) (hi:i<bs.length) (j:Nat) (_:j<k+1),(fw bs)[i*(k+1)+j]?=(kc bs[i])[j]?:=by
 intro bs;induction bs with
 | nil=>intro _ i hi;simp at hi
 | cons b r ih=>
  intro h i hi j hj;have hl:(kc b).length=k+1:=by simp[kc,h b (by simp)]
  simp only[fw,List.flatMap_cons];cases i with
  | zero=>
   rw[List.getElem?_append_left (by rw[hl];omega)];simp
  | succ i=>
   rw[List.getElem?_append_right (by rw[hl,Nat.add_mul];omega)];have h1:=ih (fun x hx=>h x (by simp[hx])) i (by simpa using hi) j hj;simp only[fw]at h1;have e:(i+1)*(k+1)+j - (kc b).length=i*(k+1)+j:=by rw[hl,Nat.add_mul];omega
   rw[e,h1];simp
theorem yq {w:World}{X:Nat->Prop}{e bT:TypeId}{g cap:Nat}{bs:List (Value×List Value)}(ho:w.ownsRow 0 bT 5 (.slice (some ⟨g,0,none⟩) bs.length cap) bs.length (fw bs))(hb:∀ b∈bs,dv w X e 4 b)(i:Nat)(hi:i<bs.length):
  ∃ a n c i0 i1 i2 i3,n<=100000000/\w.cell? ⟨g,i*5,none⟩=some (.slice a n c)/\w.cell? ⟨g,i*5+1,none⟩=some (.int .i64 i0)/\w.cell? ⟨g,i*5+2,none⟩=some (.int .i64 i1)/\w.cell? ⟨g,i*5+3,none⟩=some (.int .i64 i2)/\w.cell? ⟨g,i*5+4,none⟩=some (.int .i64 i3) /\
   (0<n->∃ l,a=some ⟨l,0,none⟩/\∀ k,k<n->w.cell? ⟨l,k*4,none⟩=some (.int .i64 i0)/\w.cell? ⟨l,k*4+1,none⟩=some (.int .i64 i1)/\w.cell? ⟨l,k*4+2,none⟩=some (.int .i64 i2)/\w.cell? ⟨l,k*4+3,none⟩=some (.int .i64 i3))/\n<=c:=by
 have A3:∀ b∈bs,b.2.length=4:=fun b hbm=>by obtain⟨⟨is,h1,h2⟩,_⟩:=hb b hbm;rw[h1,List.length_map,h2]
 obtain⟨⟨is,h1,h2⟩,n,hn,A0,_⟩:=hb bs[i] (Qb hi);obtain⟨a,c,hv⟩:=bD A0;match is,h2 with
 | [i0,i1,i2,i3],_=>
  have A2:kc bs[i]=[.slice a n c,.int .i64 i0,.int .i64 i1,.int .i64 i2,.int .i64 i3]:=by simp[kc,hv,h1]
  have A1:∀ j u,j<5->(kc bs[i])[j]?=some u->w.cell? ⟨g,i*5+j,none⟩=some u:=fun j u hj hu=>(eW ho (i*5+j) u (by rw[tB bs A3 i hi j hj];exact hu)).1;refine⟨a,n,c,i0,i1,i2,i3,hn,A1 0 _ (by omega) (by rw[A2];rfl),A1 1 _ (by omega) (by rw[A2];rfl),A1 2 _ (by omega) (by rw[A2];rfl),A1 3 _ (by omega) (by rw[A2];rfl),A1 4 _ (by omega) (by rw[A2];rfl),fun hp=>?_,?_⟩
  .obtain⟨l,c',A5,_⟩:=A0.form hp;have A4:=hv.symm.trans A5;simp at A4;obtain⟨rfl,rfl⟩:=A4;refine⟨l,rfl,fun k hk=>?_⟩;rw[hv,h1]at A0;have gm:∀ j u,j<4->([Value.int .i64 i0,.int .i64 i1,.int .i64 i2,.int .i64 i3])[j]?=some u->w.cell? ⟨l,k*4+j,none⟩=some u:=fun j u hj hu=>(eW A0 (k*4+j) u (by
    have:=vQ ([i0,i1,i2,i3].map (fun z=>Value.int .i64 z)) n k j hk (by simpa using hj);simp only[List.length_map,List.length_cons,List.length_nil]at this;rw[this];exact hu)).1
   exact⟨gm 0 _ (by omega) rfl,gm 1 _ (by omega) rfl,gm 2 _ (by omega) rfl,gm 3 _ (by omega) rfl⟩
  .rw[hv]at A0;exact(jN A0).1
theorem Gs {w:World}{X:Nat->Prop}{e bT:TypeId}{g cap:Nat}{bs:List (Value×List Value)}(ho:w.ownsRow 0 bT 6 (.slice (some ⟨g,0,none⟩) bs.length cap) bs.length (fw bs))(hb:∀ b∈bs,dv w X e 5 b)(i:Nat)(hi:i<bs.length):
  ∃ a n c i0 i1 i2 i3 i4,n<=100000000/\w.cell? ⟨g,i*6,none⟩=some (.slice a n c)/\w.cell? ⟨g,i*6+1,none⟩=some (.int .i64 i0)/\w.cell? ⟨g,i*6+2,none⟩=some (.int .i64 i1)/\w.cell? ⟨g,i*6+3,none⟩=some (.int .i64 i2)/\w.cell? ⟨g,i*6+4,none⟩=some (.int .i64 i3)/\w.cell? ⟨g,i*6+5,none⟩=some (.int .i64 i4) /\
   (0<n->∃ l,a=some ⟨l,0,none⟩/\∀ k,k<n->w.cell? ⟨l,k*5,none⟩=some (.int .i64 i0)/\w.cell? ⟨l,k*5+1,none⟩=some (.int .i64 i1)/\w.cell? ⟨l,k*5+2,none⟩=some (.int .i64 i2)/\w.cell? ⟨l,k*5+3,none⟩=some (.int .i64 i3)/\w.cell? ⟨l,k*5+4,none⟩=some (.int .i64 i4))/\n<=c:=by
 have A3:∀ b∈bs,b.2.length=5:=fun b hbm=>by obtain⟨⟨is,h1,h2⟩,_⟩:=hb b hbm;rw[h1,List.length_map,h2]
 obtain⟨⟨is,h1,h2⟩,n,hn,A0,_⟩:=hb bs[i] (Qb hi);obtain⟨a,c,hv⟩:=bD A0;match is,h2 with
 | [i0,i1,i2,i3,i4],_=>
  have A2:kc bs[i]=[.slice a n c,.int .i64 i0,.int .i64 i1,.int .i64 i2,.int .i64 i3,.int .i64 i4]:=by simp[kc,hv,h1]
  have A1:∀ j u,j<6->(kc bs[i])[j]?=some u->w.cell? ⟨g,i*6+j,none⟩=some u:=fun j u hj hu=>(eW ho (i*6+j) u (by rw[tB bs A3 i hi j hj];exact hu)).1;refine⟨a,n,c,i0,i1,i2,i3,i4,hn,A1 0 _ (by omega) (by rw[A2];rfl),A1 1 _ (by omega) (by rw[A2];rfl),A1 2 _ (by omega) (by rw[A2];rfl),A1 3 _ (by omega) (by rw[A2];rfl),A1 4 _ (by omega) (by rw[A2];rfl),A1 5 _ (by omega) (by rw[A2];rfl),fun hp=>?_,?_⟩
  .obtain⟨l,c',A5,_⟩:=A0.form hp;have A4:=hv.symm.trans A5;simp at A4;obtain⟨rfl,rfl⟩:=A4;refine⟨l,rfl,fun k hk=>?_⟩;rw[hv,h1]at A0;have gm:∀ j u,j<5->([Value.int .i64 i0,.int .i64 i1,.int .i64 i2,.int .i64 i3,.int .i64 i4])[j]?=some u->w.cell? ⟨l,k*5+j,none⟩=some u:=fun j u hj hu=>(eW A0 (k*5+j) u (by
    have:=vQ ([i0,i1,i2,i3,i4].map (fun z=>Value.int .i64 z)) n k j hk (by simpa using hj);simp only[List.length_map,List.length_cons,List.length_nil]at this;rw[this];exact hu)).1
   exact⟨gm 0 _ (by omega) rfl,gm 1 _ (by omega) rfl,gm 2 _ (by omega) rfl,gm 3 _ (by omega) rfl,gm 4 _ (by omega) rfl⟩
  .rw[hv]at A0;exact(jN A0).1
theorem xf (X:Nat->Prop)(O:Nat)(n:Int)(cv rv qv:Value)(cb rb qb:List (Value×List Value))(w:World)(h:dn w X O n cv rv qv cb rb qb)(hcb:cb.length<=100000000)(hrb:rb.length<=100000000)(hqb:qb.length<=100000000):
  Calls prog 14 #[.pointer (some ⟨O,0,none⟩)] w fun e w'=>e=.returned (.bool true)/\aG w w':=by
 obtain⟨ac,A7,rfl⟩:=bD h.cown;obtain⟨ar,A9,rfl⟩:=bD h.rown;obtain⟨aq,A8,rfl⟩:=bD h.qown;have HC:Hid (w.cell? ⟨O,1,none⟩=some (.slice ac cb.length A7)/\w.cell? ⟨O,2,none⟩=some (.slice ar rb.length A9)/\w.cell? ⟨O,3,none⟩=some (.slice aq qb.length A8)):=⟨(ag h.blk).trans rfl,(ag h.blk).trans rfl,(ag h.blk).trans rfl⟩;have HO:=ah h;clear h;have B2:=(jN HO.cown).1;have B4:=(jN HO.rown).1;have B3:=(jN HO.qown).1;go_enter func14,ntmps14
 go_wp2_with fail
 go_loopw [3] (fun i wr=>∃ j:Nat,j<=cb.length/\i=.int .i64 j/\Hid (aG w wr)) (fun i _=>cb.length - (intOf i).toNat)
 case atStart=>exact⟨0,Qa _,rfl,aG.refl _⟩
 case round=>
  obtain⟨j0,B5,rfl,A2⟩:=hrel;have o0:wr.cell? ⟨O,1,none⟩=some (.slice ac cb.length A7):=(A2.cell _).trans HC.1;by_cases hlt0:j0<cb.length
  .obtain⟨g,A6,hv,_,_⟩:=HO.cown.form (by omega);simp at hv;obtain⟨rfl,rfl⟩:=hv;obtain⟨a,n2,c,i0,i1,i2,i3,B0,b0,b1,b2,b3,b4,A0,B1⟩:=yq HO.cown HO.cbk j0 hlt0;rw[<- A2.cell]at b0;rw[<- A2.cell]at b1;rw[<- A2.cell]at b2;rw[<- A2.cell]at b3;rw[<- A2.cell]at b4;have A5:=ah A0;clear A0;go_wp2_with fail
   go_loopw [4] (fun i wr2=>∃ k:Nat,k<=n2/\i=.int .i64 k/\Hid (aG w wr2)) (fun i _=>n2 - (intOf i).toNat)
   case atStart=>exact⟨0,Qa _,rfl,A2⟩
   case round=>
    obtain⟨k,hk,rfl,HT⟩:=hrel;rw[A2.cell,<- HT.cell]at o0 b0 b1 b2 b3 b4;by_cases hk2:k<n2
    .obtain⟨l,rfl,A4⟩:=A5 (by omega);obtain⟨e0,e1,e2,e3⟩:=A4 k hk2;rw[<- HT.cell]at e0 e1 e2 e3;clear A4;go_wp2_with fail
     go_region;all_goals
      go_wp2_with fail
      go_roundw;case rel=>exact⟨k+1,by omega,by go_num,HT.out.drew⟩
      case measure=>simp[intOf];omega
    .go_wp2_with fail
     go_roundw;case rel=>exact⟨j0+1,by omega,by go_num,HT⟩
     case measure=>simp[intOf];omega
  .go_wp2_with fail
   clear o0;go_loopw [5] (fun i wr=>∃ j:Nat,j<=rb.length/\i=.int .i64 j/\Hid (aG w wr)) (fun i _=>rb.length - (intOf i).toNat)
   case atStart=>exact⟨0,Qa _,rfl,A2⟩
   case round=>
    obtain⟨j1,B6,rfl,A1⟩:=hrel;have o1:wr.cell? ⟨O,2,none⟩=some (.slice ar rb.length A9):=(A1.cell _).trans HC.2.1;by_cases hlt1:j1<rb.length
    .obtain⟨g,A6,hv,_,_⟩:=HO.rown.form (by omega);simp at hv;obtain⟨rfl,rfl⟩:=hv;obtain⟨a,n2,c,i0,i1,i2,i3,i4,B0,b0,b1,b2,b3,b4,b5,A0,B1⟩:=Gs HO.rown HO.rbk j1 hlt1;rw[<- A1.cell]at b0;rw[<- A1.cell]at b1;rw[<- A1.cell]at b2;rw[<- A1.cell]at b3;rw[<- A1.cell]at b4;rw[<- A1.cell]at b5;have A5:=ah A0;clear A0;go_wp2_with fail
     go_loopw [6] (fun i wr2=>∃ k:Nat,k<=n2/\i=.int .i64 k/\Hid (aG w wr2)) (fun i _=>n2 - (intOf i).toNat)
     case atStart=>exact⟨0,Qa _,rfl,A1⟩
     case round=>
      obtain⟨k,hk,rfl,HT⟩:=hrel;rw[A1.cell,<- HT.cell]at o1 b0 b1 b2 b3 b4 b5;by_cases hk2:k<n2
      .obtain⟨l,rfl,A4⟩:=A5 (by omega);obtain⟨e0,e1,e2,e3,e4⟩:=A4 k hk2;rw[<- HT.cell]at e0 e1 e2 e3 e4;clear A4;go_wp2_with fail
       go_region;all_goals
        go_wp2_with fail
        go_roundw;case rel=>exact⟨k+1,by omega,by go_num,HT.out.drew⟩
        case measure=>simp[intOf];omega
      .go_wp2_with fail
       go_roundw;case rel=>exact⟨j1+1,by omega,by go_num,HT⟩
       case measure=>simp[intOf];omega
    .go_wp2_with fail
     clear o1;go_loopw [7] (fun i wr=>∃ j:Nat,j<=qb.length/\i=.int .i64 j/\Hid (aG w wr)) (fun i _=>qb.length - (intOf i).toNat)
     case atStart=>exact⟨0,Qa _,rfl,A1⟩
     case round=>
      obtain⟨j2,B7,rfl,A3⟩:=hrel;have o2:wr.cell? ⟨O,3,none⟩=some (.slice aq qb.length A8):=(A3.cell _).trans HC.2.2;by_cases hlt2:j2<qb.length
      .obtain⟨g,A6,hv,_,_⟩:=HO.qown.form (by omega);simp at hv;obtain⟨rfl,rfl⟩:=hv;obtain⟨a,n2,c,i0,i1,i2,i3,B0,b0,b1,b2,b3,b4,A0,B1⟩:=yq HO.qown HO.qbk j2 hlt2;rw[<- A3.cell]at b0;rw[<- A3.cell]at b1;rw[<- A3.cell]at b2;rw[<- A3.cell]at b3;rw[<- A3.cell]at b4;have A5:=ah A0;clear A0;go_wp2_with fail
       go_loopw [8] (fun i wr2=>∃ k:Nat,k<=n2/\i=.int .i64 k/\Hid (aG w wr2)) (fun i _=>n2 - (intOf i).toNat)
       case atStart=>exact⟨0,Qa _,rfl,A3⟩
       case round=>
        obtain⟨k,hk,rfl,HT⟩:=hrel;rw[A3.cell,<- HT.cell]at o2 b0 b1 b2 b3 b4;by_cases hk2:k<n2
        .obtain⟨l,rfl,A4⟩:=A5 (by omega);obtain⟨e0,e1,e2,e3⟩:=A4 k hk2;rw[<- HT.cell]at e0 e1 e2 e3;clear A4;go_wp2_with fail
         go_region;all_goals
          go_wp2_with fail
          go_roundw;case rel=>exact⟨k+1,by omega,by go_num,HT.out.drew⟩
          case measure=>simp[intOf];omega
        .go_wp2_with fail
         go_roundw;case rel=>exact⟨j2+1,by omega,by go_num,HT⟩
         case measure=>simp[intOf];omega
      .go_wp2_with fail
       go_ret;exact⟨rfl,A3⟩
def aj.ins (m:aj):am:=⟨m.dev,m.run,m.num,m.key⟩
def bA (q:List aj):List Value:=aZ (q.map aj.ins)
def bL {α:Type}(f:Nat->α)(d:Nat)(v:α)(k:Nat):α:=if k=d then v else f k
theorem ec {α:Type}(f:Nat->α)(d:Nat)(v:α):bL f d v d=v:=if_pos rfl
theorem eH {α:Type}(f:Nat->α){d k:Nat}(v:α)(h:k≠d):bL f d v k=f k:=if_neg h
theorem mI (q:List aj):(bA q).length=q.length*4:=by unfold bA;rw[iS,List.length_map]
structure Md where
 tx:Bool
 pg:Value
 code:Value
 yv:Value
 nv:Value
structure au (w:World)(S Q P R:Nat)(cv:Md)(pv:Value)(rec:ByteArray)(now last:Int)(qv:Nat->Value)(qs:Nat->List aj)(p:Pr):Prop where
 sB:w.heap[S]?=some (.cells #[.bool cv.tx,cv.pg,cv.code,.int .i64 now,.int .i64 last,pv,.slice (some ⟨Q,0,none⟩) 3 3,.string rec] 60)
 qB:w.heap[Q]?=some (.cells #[qv 0,qv 1,qv 2] 99)
 oB:∀ d,d<3->w.ownsRow 0 87 4 (qv d) (qs d).length (bA (qs d))
 dis:∀ d e b,d<3->e<3->(qv d).ownBlock=some b->(qv e).ownBlock=some b->d=e
 pB:w.heap[P]?=some (.cells #[.int .i64 p.id,.int .i64 p.dev,.int .i64 p.sent,.int .i64 p.til,.int .i64 p.num,cv.yv,cv.nv,.slice (some ⟨R,0,none⟩) 12 12,.int .i64 p.tow,.int .i64 p.els] 147)
 rB:w.heap[R]?=some (.cells (p.regs.map fun z=>Value.int .i64 z).toArray 3 (0,0))
 rl:p.regs.length=12
theorem au.keep {w w':World}{S Q P R:Nat}{cv:Md}{pv:Value}{rec:ByteArray}{now last:Int}{qv:Nat->Value}{qs:Nat->List aj}{p:Pr}(h:au w S Q P R cv pv rec now last qv qs p)(hk:∀ k,k<w.heap.size->w'.heap[k]?=w.heap[k]?):
  au w' S Q P R cv pv rec now last qv qs p:=
 ⟨(hk S (ak h.sB)).trans h.sB,(hk Q (ak h.qB)).trans h.qB,fun d hd=>aT (h.oB d hd) fun b hb=>by obtain⟨c,hc⟩:=ax (h.oB d hd) hb;exact hk b (ak hc),h.dis,(hk P (ak h.pB)).trans h.pB,(hk R (ak h.rB)).trans h.rB,h.rl⟩
theorem au.below {w w':World}{S Q P R:Nat}{cv:Md}{pv:Value}{rec:ByteArray}{now last:Int}{qv:Nat->Value}{qs:Nat->List aj}{p:Pr}(h:au w S Q P R cv pv rec now last qv qs p)(hb:Below w.heap.size w w'):au w' S Q P R cv pv rec now last qv qs p:=
 h.keep fun k hk=>hb.block k hk
theorem au.setP {w:World}{S Q P R:Nat}{cv:Md}{pv:Value}{rec:ByteArray}{now last:Int}{qv:Nat->Value}{qs:Nat->List aj}{p p':Pr}(h:au w S Q P R cv pv rec now last qv qs p)(j:Nat)(u:Value)(hr:p'.regs=p.regs)
  (hc:(#[.int .i64 p.id,.int .i64 p.dev,.int .i64 p.sent,.int .i64 p.til,.int .i64 p.num,cv.yv,cv.nv,.slice (some ⟨R,0,none⟩) 12 12,.int .i64 p.tow,.int .i64 p.els]:Array Value).setIfInBounds j u =
   #[.int .i64 p'.id,.int .i64 p'.dev,.int .i64 p'.sent,.int .i64 p'.til,.int .i64 p'.num,cv.yv,cv.nv,.slice (some ⟨R,0,none⟩) 12 12,.int .i64 p'.tow,.int .i64 p'.els]):
  au (w.setCell ⟨P,j,none⟩ u) S Q P R cv pv rec now last qv qs p':=by
 refine⟨?_,?_,fun d hd=>aT (h.oB d hd) fun b hb=>?_,h.dis,?_,?_,by rw[hr];exact h.rl⟩
 .rw[q8 _ _ _ _ (aA h.sB h.pB (by decide))];exact h.sB
 .rw[q8 _ _ _ _ (aA h.qB h.pB (by decide))];exact h.qB
 .obtain⟨c,hc⟩:=ax (h.oB d hd) hb;exact q8 _ _ _ _ (aA hc h.pB (by decide))
 .rw[cG _ h.pB,hc]
 .rw[q8 _ _ _ _ (aA h.rB h.pB (by decide)),hr];exact h.rB
theorem Hf (S Q P R:Nat)(cv:Md)(pv:Value)(rec:ByteArray)(now last:Int)(qv:Nat->Value)(qs:Nat->List aj)(p:Pr)(n num:Int)(w:World)(h:au w S Q P R cv pv rec now last qv qs p)(h1:-1000000000000<=now+n)(h2:now+n<=1000000000000):
  Calls prog 97 #[.pointer (some ⟨S,0,none⟩),.pointer (some ⟨P,0,none⟩),.int .i64 n,.int .i64 num] w fun e w'=>e=.returned (.tuple #[])/\au w' S Q P R cv pv rec now last qv qs (dY p now n num)/\Fr (fun k=>k=P) w w':=by
 have c3:w.cell? ⟨S,3,none⟩=some (.int .i64 now):=(ag h.sB).trans rfl;have p3:w.cell? ⟨P,3,none⟩=some (.int .i64 p.til):=(ag h.pB).trans rfl;have p4:w.cell? ⟨P,4,none⟩=some (.int .i64 p.num):=(ag h.pB).trans rfl;have z3:w.frozen? ⟨P,3,none⟩=false:=aC h.pB;have z4:w.frozen? ⟨P,4,none⟩=false:=aC h.pB;have HH:=ah h;clear h;go_enter func97,ntmps97
 go_wp2_with fail
 go_end0;refine⟨rfl,?_,((Fr.refl (fun k=>k=P) _).setCell ⟨P,3,none⟩ (Or.inl rfl) _).setCell ⟨P,4,none⟩ (Or.inl rfl) _⟩;exact(HH.setP (p':={p with til:=now+n}) 3 _ rfl rfl).setP (p':=dY p now n num) 4 _ rfl rfl
theorem mX {α:Type}(f:Nat->α)(d:Nat)(hd:d<3):#[f 0,f 1,f 2][d]?=some (f d):=by
 match d,hd with
 | 0,_=>rfl
 | 1,_=>rfl
 | 2,_=>rfl
theorem ld {w:World}{g cap k:Nat}{q:List aj}(h:w.ownsRow 0 87 4 (.slice (some ⟨g,0,none⟩) q.length cap) q.length (bA q))(hk:k<q.length):
  w.cell? ⟨g,k*4,none⟩=some (.int .i64 q[k].dev)/\w.cell? ⟨g,k*4+1,none⟩=some (.int .i64 q[k].run)/\w.cell? ⟨g,k*4+2,none⟩=some (.int .i64 q[k].num)/\w.cell? ⟨g,k*4+3,none⟩=some (.int .i64 q[k].key):=by
 have A1:k<(q.map aj.ins).length:=by simpa using hk
 have A0:∀ j u,j<4->(fo (aj.ins q[k]))[j]?=some u->w.cell? ⟨g,k*4+j,none⟩=some u:=fun j u hj hu=>(eW h (k*4+j) u (by
  unfold bA;rw[lX (q.map aj.ins) k A1 j hj,List.getElem_map];exact hu)).1
 exact⟨A0 0 _ (by omega) rfl,A0 1 _ (by omega) rfl,A0 2 _ (by omega) rfl,A0 3 _ (by omega) rfl⟩
theorem xx (S Q P R:Nat)(cv:Md)(pv:Value)(rec:ByteArray)(now last:Int)(qv:Nat->Value)(qs:Nat->List aj)(p:Pr)(num:Int)(d:Nat)(w:World)(h:au w S Q P R cv pv rec now last qv qs p)(hd:d<3)(hdev:p.dev=(d:Nat))(hl:(qs d).length<=4):
  Calls prog 74 #[.pointer (some ⟨S,0,none⟩),.pointer (some ⟨P,0,none⟩),.int .i64 num] w fun e w'=>e=.returned (.bool (jt (qs d) p.id num))/\aG w w':=by
 obtain⟨a,A2,hv⟩:=bD (h.oB d hd);have c6:w.cell? ⟨S,6,none⟩=some (.slice (some ⟨Q,0,none⟩) 3 3):=(ag h.sB).trans rfl;have cq:w.cell? ⟨Q,d,none⟩=some (.slice a (qs d).length A2):=by rw[ag h.qB,mX qv d hd,hv]
 have p0:w.cell? ⟨P,0,none⟩=some (.int .i64 p.id):=(ag h.pB).trans rfl;have p1:w.cell? ⟨P,1,none⟩=some (.int .i64 (d:Nat)):=by rw[<- hdev];exact(ag h.pB).trans rfl
 have HO:Hid (w.ownsRow 0 87 4 (.slice a (qs d).length A2) (qs d).length (bA (qs d))):=by rw[<- hv];exact h.oB d hd
 clear h hv hdev;generalize qs d=q at *;go_enter func74,ntmps74
 go_wp2_with fail
 go_loopw [8] (fun i wr=>∃ k:Nat,k<=q.length/\i=.int .i64 k/\Hid (aG w wr)/\Hid ((q.take k).any (fun m=>m.run==p.id && m.num==num)=false)) (fun i _=>q.length - (intOf i).toNat)
 case atStart=>exact⟨0,Qa _,rfl,aG.refl _,by show _=_;simp⟩
 case round=>
  obtain⟨k,hk,rfl,HS,HT⟩:=hrel;rw[<- HS.out.cell]at c6 cq p0 p1;by_cases hlt:k<q.length
  .obtain⟨g,A3,hv,_,_⟩:=HO.form (by omega);simp at hv;obtain⟨rfl,rfl⟩:=hv;obtain⟨e0,e1,e2,e3⟩:=ld HO hlt;rw[<- HS.out.cell]at e0 e1 e2 e3;have A0:Hid (q[k].run=p.id->q[k].num=num->jt q p.id num=true):=fun h1 h2=>by
    unfold jt;rw[List.any_eq_true];exact⟨q[k],Qb hlt,by simp[h1,h2]⟩
   have A1:Hid (¬ (q[k].run=p.id/\q[k].num=num)->(q.take (k+1)).any (fun m=>m.run==p.id && m.num==num)=false):=fun h1=>by
    rw[Qd hlt,List.any_append,HT];simp;exact fun h2 h3=>h1 ⟨h2,h3⟩
   generalize q[k]=m at *;by_cases hr:m.run=p.id
   .have b1:(m.run==p.id)=true:=by simpa using hr
    by_cases hn:m.num=num
    .have b2:(m.num==num)=true:=by simpa using hn
     have HY:Hid (_=_):=A0 hr hn;clear hr hn A0 A1;go_wp2_with fail
     go_region;all_goals
      go_wp2_with fail
      go_ret;exact⟨dX HY.symm,HS.out.drew⟩
    .have b2:(m.num==num)=false:=by simpa using hn
     have HN:Hid (_=_):=A1 (fun h=>hn h.2);clear hr hn A0 A1;go_wp2_with fail
     go_region;all_goals
      go_wp2_with fail
      go_roundw;case rel=>exact⟨k+1,by omega,by go_num,HS.out.drew,HN⟩
      case measure=>simp[intOf];omega
   .have b1:(m.run==p.id)=false:=by simpa using hr
    have HN:Hid (_=_):=A1 (fun h=>hr h.1);clear hr A0 A1;go_wp2_with fail
    go_region;all_goals
     go_wp2_with fail
     go_roundw;case rel=>exact⟨k+1,by omega,by go_num,HS.out.drew,HN⟩
     case measure=>simp[intOf];omega
  .have HE:Hid (q.take k=q):=Qe (by omega);go_wp2_with fail
   go_ret;exact⟨dX (by unfold jt;have h:=HT.out;rw[HE]at h;exact h.symm),HS.out⟩
theorem mG (q:List aj)(m:aj):bA (q++[m])=bA q++[.int .i64 m.dev,.int .i64 m.run,.int .i64 m.num,.int .i64 m.key]:=by
 unfold bA;rw[List.map_append,kv];rfl
theorem au.setQ {w:World}{S Q P R:Nat}{cv:Md}{pv:Value}{rec:ByteArray}{now last:Int}{qv:Nat->Value}{qs:Nat->List aj}{p:Pr}(h:au w S Q P R cv pv rec now last qv qs p)(d:Nat)(hd:d<3)(v:Value)(q:List aj)(ho:w.ownsRow 0 87 4 v q.length (bA q))
  (hnew:∀ b e,v.ownBlock=some b->e<3->e≠d->(qv e).ownBlock≠some b):
  au (w.setCell ⟨Q,d,none⟩ v) S Q P R cv pv rec now last (bL qv d v) (bL qs d q) p:=by
 have keep:∀ {v':Value} {n:Nat} {xs:List Value},w.ownsRow 0 87 4 v' n xs->(w.setCell ⟨Q,d,none⟩ v).ownsRow 0 87 4 v' n xs:=fun {v' n xs} hv=>aT hv fun b hb=>by
  obtain⟨c,hc⟩:=ax hv hb;exact q8 _ _ _ _ (aA hc h.qB (by decide))
 refine⟨?_,?_,fun e he=>?_,fun e f b he hf h1 h2=>?_,?_,?_,h.rl⟩
 .rw[q8 _ _ _ _ (aA h.sB h.qB (by decide))];exact h.sB
 .rw[cG _ h.qB];match d,hd with
  | 0,_=>rfl
  | 1,_=>rfl
  | 2,_=>rfl
 .by_cases hed:e=d
  .subst hed;rw[ec,ec];exact keep ho
  .rw[eH qv v hed,eH qs q hed];exact keep (h.oB e he)
 .by_cases hed:e=d
  .by_cases hfd:f=d
   .omega
   .subst hed;rw[ec]at h1;rw[eH qv v hfd]at h2;exact absurd h2 (hnew b f h1 hf hfd)
  .by_cases hfd:f=d
   .subst hfd;rw[ec]at h2;rw[eH qv v hed]at h1;exact absurd h1 (hnew b e h2 he hed)
   .rw[eH qv v hed]at h1;rw[eH qv v hfd]at h2;exact h.dis e f b he hf h1 h2
 .rw[q8 _ _ _ _ (aA h.pB h.qB (by decide))];exact h.pB
 .rw[q8 _ _ _ _ (aA h.rB h.qB (by decide))];exact h.rB
theorem bZ {w:World}{B:Nat}{e:TypeId}{size:Nat}{v:Value}{n:Nat}{xs:List Value}(h:w.ownsRow B e size v n xs):w.ownsRow 0 e size v n xs:=by
 refine⟨h.1,?_⟩;rcases h.2 with h2|⟨g,cap,cur,hv,_,r⟩
 .exact .inl h2
 .exact .inr ⟨g,cap,cur,hv,Qa _,r⟩
theorem lF {w:World}{B:Nat}{e:TypeId}{size:Nat}{v:Value}{n:Nat}{xs:List Value}(h:w.ownsRow 0 e size v n xs)(hB:∀ b,v.ownBlock=some b->B<=b):w.ownsRow B e size v n xs:=by
 refine⟨h.1,?_⟩;rcases h.2 with h2|⟨g,cap,cur,rfl,_,r⟩
 .exact .inl h2
 .exact .inr ⟨g,cap,cur,rfl,hB g rfl,r⟩
theorem iF {w0 W w':World}{B:Nat}{e:TypeId}{size n m:Nat}{v v':Value}{xs ys:List Value}(hb:Below B w0 W)(hB:B<=W.heap.size)(hv:W.ownsRow B e size v n xs)(ho:w'.ownsRow 0 e size v' (n+m) ys)(ha:jL W w' v n m v'):
  Below B w0 w'/\w'.ownsRow B e size v' (n+m) ys:=by
 rcases ha with ⟨g,cap,h1,h2,hg⟩|⟨hnew,hg⟩
 .have A0:B<=g:=(cS hv (k:=g) (by rw[h1];rfl)).1;refine⟨hb.grown hg hB fun k hk=>by cases hk;exact A0,lF ho fun b hb'=>?_⟩;rw[h2]at hb';cases hb'
  exact A0
 .exact⟨hb.grown hg hB fun k hk=>(by cases hk),lF ho fun b hb'=>Qc hB (hnew b hb')⟩
theorem vm {id num:Int}{m:aj}(h:¬ m.run=id):cQ id num m=true:=by unfold cQ;simp[h]
theorem vl {id num:Int}{m:aj}(h:m.run=id)(h0:num=0):cQ id num m=false:=by unfold cQ;simp[h,h0]
theorem Ca {id num:Int}{m:aj}(h:m.run=id)(h1:m.num=num):cQ id num m=false:=by unfold cQ;simp[h,h1]
theorem zo {id num:Int}{m:aj}(h0:¬ num=0)(h1:¬ m.num=num):cQ id num m=true:=by unfold cQ;simp[h0,h1]
theorem yb (S Q P R:Nat)(cv:Md)(pv:Value)(rec:ByteArray)(now last:Int)(qv:Nat->Value)(qs:Nat->List aj)(p:Pr)(num:Int)(d:Nat)(w:World)(h:au w S Q P R cv pv rec now last qv qs p)(hd:d<3)(hdev:p.dev=(d:Nat))(hl:(qs d).length<=4):
  Calls prog 76 #[.pointer (some ⟨S,0,none⟩),.pointer (some ⟨P,0,none⟩),.int .i64 num] w fun e w'=>e=.returned (.tuple #[]) /\
   ∃ v,au w' S Q P R cv pv rec now last (bL qv d v) (bL qs d (dr (qs d) p.id num)) p/\(∀ b,v.ownBlock=some b->w.heap.size<=b)/\Fr (fun k=>k=Q) w w':=by
 obtain⟨a,A7,hv⟩:=bD (h.oB d hd);have c6:w.cell? ⟨S,6,none⟩=some (.slice (some ⟨Q,0,none⟩) 3 3):=(ag h.sB).trans rfl;have cq:w.cell? ⟨Q,d,none⟩=some (.slice a (qs d).length A7):=by rw[ag h.qB,mX qv d hd,hv]
 have p0:w.cell? ⟨P,0,none⟩=some (.int .i64 p.id):=(ag h.pB).trans rfl;have p1:w.cell? ⟨P,1,none⟩=some (.int .i64 (d:Nat)):=by rw[<- hdev];exact(ag h.pB).trans rfl
 have HO:Hid (w.ownsRow 0 87 4 (.slice a (qs d).length A7) (qs d).length (bA (qs d))):=by rw[<- hv];exact h.oB d hd
 have HH:=ah h;have A3:Hid (S<w.heap.size/\Q<w.heap.size/\P<w.heap.size):=⟨ak h.sB,ak h.qB,ak h.pB⟩;clear h hv hdev;obtain⟨q,hq⟩:∃ q,q=qs d:=⟨_,rfl⟩;rw[<- hq]at cq HO hl ⊢;have HQ:=ah hq;clear hq;go_enter func76,ntmps76
 go_wp2_with fail
 go_loopw [7,8] (fun v i wr=>∃ k:Nat,k<=q.length/\i=.int .i64 k/\Hid (wr.ownsRow w.heap.size 87 4 v ((q.take k).filter (cQ p.id num)).length (bA ((q.take k).filter (cQ p.id num))))/\Hid (Below w.heap.size w wr)) (fun _ i _=>q.length - (intOf i).toNat)
 case atStart=>exact⟨0,Qa _,rfl,Qg _ _ _ _,v7 _ _⟩
 case round=>
  obtain⟨k,hk,rfl,HV,HB⟩:=hrel;rw[<- HB.cell (p:=⟨S,6,none⟩) A3.1]at c6;rw[<- HB.cell (p:=⟨Q,d,none⟩) A3.2.1]at cq;rw[<- HB.cell (p:=⟨P,0,none⟩) A3.2.2]at p0;rw[<- HB.cell (p:=⟨P,1,none⟩) A3.2.2]at p1;obtain⟨F,hF⟩:∃ F,F=(q.take k).filter (cQ p.id num):=⟨_,rfl⟩;rw[<- hF]at HV;have B1:F.length<=4:=by rw[hF];have:=List.length_filter_le (cQ p.id num) (q.take k);simp at this;omega
  by_cases hlt:k<q.length
  .have A1:Hid (cQ p.id num q[k]=true->(q.take (k+1)).filter (cQ p.id num)=F++[q[k]]):=fun h=>by
    rw[Qd hlt,List.filter_append,<- hF];simp[h]
   have A0:Hid (cQ p.id num q[k]=false->(q.take (k+1)).filter (cQ p.id num)=F):=fun h=>by
    rw[Qd hlt,List.filter_append,<- hF];simp[h]
   obtain⟨g,A8,hv,_,A4⟩:=HO.form (by omega);simp at hv;obtain⟨rfl,rfl⟩:=hv;obtain⟨e0,e1,e2,e3⟩:=ld HO hlt;rw[<- HB.cell (p:=⟨g,k*4,none⟩) A4]at e0;rw[<- HB.cell (p:=⟨g,k*4+1,none⟩) A4]at e1;rw[<- HB.cell (p:=⟨g,k*4+2,none⟩) A4]at e2;rw[<- HB.cell (p:=⟨g,k*4+3,none⟩) A4]at e3;have B2:P<wr.heap.size:=Qh A3.2.2 HB.size;clear hF A4;generalize q[k]=m at *;by_cases hr:m.run=p.id
   .have b1:(m.run != p.id)=false:=by simpa using hr
    by_cases h0:num=0
    .have b2:(num != 0)=false:=by simpa using h0
     have HE:Hid ((q.take (k+1)).filter (cQ p.id num)=F):=A0 (vl hr h0);clear hr h0 A1 A0;go_wp2_with fail
     go_region;all_goals
      go_wp2_with fail
      go_roundw;case rel=>exact⟨k+1,by omega,by go_num,by rw[HE.out];exact HV.alloc _,(HB.alloc HB.size _).drew⟩
      case measure=>simp[intOf];omega
    .have b2:(num != 0)=true:=by simpa using h0
     by_cases h1:m.num=num
     .have b3:(m.num != num)=false:=by simpa using h1
      have HE:Hid ((q.take (k+1)).filter (cQ p.id num)=F):=A0 (Ca hr h1);clear hr h0 h1 A1 A0;go_wp2_with fail
      go_region;all_goals
       go_wp2_with fail
       go_roundw;case rel=>exact⟨k+1,by omega,by go_num,by rw[HE.out];exact HV.alloc _,(HB.alloc HB.size _).drew⟩
       case measure=>simp[intOf];omega
     .have b3:(m.num != num)=true:=by simpa using h1
      have HE:Hid ((q.take (k+1)).filter (cQ p.id num)=F++[m]):=A1 (zo h0 h1);clear hr h0 h1 A1 A0;go_wp2_with fail
      go_region;all_goals
       go_wp2_with (at_builtin;refine gN _ rfl (.tmp 55) (.tmp 57) 99 rfl 87 _ 4 32 underlying99 Tryz.infoMsg rfl (by decide) (by decide) u7 F.length 1 (bA F) (wr.heap.size+1) [.int .i64 m.dev,.int .i64 m.run,.int .i64 m.num,.int .i64 m.key] (by rfl) (by exact((bZ HV).alloc _).alloc _) (by exact ey _ _ _) (by rfl) rfl (by simp[Value.oneCell']) (by decide) (by omega) ?_)
       intro v2 w2 hown2 ha2;have A2:=iF (w0:=w) (B:=w.heap.size) ((HB.alloc HB.size _).alloc (by have:=HB.size;simp;omega) _).drew (by have:=HB.out.size;simp;omega) ((HV.out.alloc _).alloc _) hown2 ha2;replace hown2:=A2.2;have A6:Hid (w2.ownsRow w.heap.size 87 4 v2 ((q.take (k+1)).filter (cQ p.id num)).length (bA ((q.take (k+1)).filter (cQ p.id num)))):=by
        rw[HE,mG,List.length_append];exact hown2
       have A5:Hid (Below w.heap.size w w2):=A2.1;clear hown2 ha2 A2;go_wp2_with fail
       go_roundw;case rel=>exact⟨k+1,by omega,by go_num,A6,A5⟩
       case measure=>simp[intOf];omega
   .have b1:(m.run != p.id)=true:=by simpa using hr
    have HE:Hid ((q.take (k+1)).filter (cQ p.id num)=F++[m]):=A1 (vm hr);clear hr A1 A0;go_wp2_with fail
    go_region;all_goals
     go_wp2_with (at_builtin;refine gN _ rfl (.tmp 55) (.tmp 57) 99 rfl 87 _ 4 32 underlying99 Tryz.infoMsg rfl (by decide) (by decide) u7 F.length 1 (bA F) (wr.heap.size+1) [.int .i64 m.dev,.int .i64 m.run,.int .i64 m.num,.int .i64 m.key] (by rfl) (by exact((bZ HV).alloc _).alloc _) (by exact ey _ _ _) (by rfl) rfl (by simp[Value.oneCell']) (by decide) (by omega) ?_)
     intro v2 w2 hown2 ha2;have A2:=iF (w0:=w) (B:=w.heap.size) ((HB.alloc HB.size _).alloc (by have:=HB.size;simp;omega) _).drew (by have:=HB.out.size;simp;omega) ((HV.out.alloc _).alloc _) hown2 ha2;replace hown2:=A2.2;have A6:Hid (w2.ownsRow w.heap.size 87 4 v2 ((q.take (k+1)).filter (cQ p.id num)).length (bA ((q.take (k+1)).filter (cQ p.id num)))):=by
      rw[HE,mG,List.length_append];exact hown2
     have A5:Hid (Below w.heap.size w w2):=A2.1;clear hown2 ha2 A2;go_wp2_with fail
     go_roundw;case rel=>exact⟨k+1,by omega,by go_num,A6,A5⟩
     case measure=>simp[intOf];omega
  .have HE:Hid (F=dr q p.id num):=by show _=_;rw[hF,Qe (by omega)];rfl
   have z:wr.frozen? ⟨Q,d,none⟩=false:=aC ((HH.below HB).qB);clear hF;obtain⟨av,B0,A9⟩:=bD HV;subst A9;go_wp2_with fail
   go_end0;refine⟨rfl,_,?_,fun b hb=>(cS HV hb).1,?_⟩
   .rw[<- HE];refine(HH.below HB).setQ d hd _ F (bZ HV) (fun b e hb he hne hh=>?_);have h1:=(cS HV hb).1;obtain⟨c,hc⟩:=ax (HH.oB e he) hh;have:=ak hc;omega
   .exact((Fr.of_below HB).mono (T:=fun k=>k=Q) fun j hj hs=>by omega).setCell ⟨Q,d,none⟩ (Or.inl rfl) _
theorem mT {α:Type}(f:Nat->α)(d:Nat):bL f d (f d)=f:=by
 funext k;by_cases h:k=d
 .subst h;exact ec f k _
 .exact eH f _ h
theorem tM (q:List aj)(k:Nat)(h:k<q.length):bA q=bA (q.take k)++.int .i64 q[k].dev::.int .i64 q[k].run::.int .i64 q[k].num::.int .i64 q[k].key::bA (q.drop (k+1)):=by
 unfold bA;have h2:k<(q.map aj.ins).length:=by simpa using h
 rw[tK (q.map aj.ins) k h2,List.getElem_map,<- List.map_take,<- List.map_drop];rfl
theorem tR (q:List aj)(k:Nat)(h:k<q.length)(m:aj):bA (q.set k m)=bA (q.take k)++[.int .i64 m.dev,.int .i64 m.run,.int .i64 m.num,.int .i64 m.key]++bA (q.drop (k+1)):=by
 have e:q.set k m=q.take k++m::q.drop (k+1):=List.set_eq_take_append_cons_drop.trans (if_pos h);rw[e];unfold bA;rw[List.map_append,kv,List.append_assoc];rfl
theorem au.put4 {w:World}{S Q P R:Nat}{cv:Md}{pv:Value}{rec:ByteArray}{now last:Int}{qv:Nat->Value}{qs:Nat->List aj}{p:Pr}(h:au w S Q P R cv pv rec now last qv qs p)(d:Nat)(hd:d<3){g cap:Nat}(hv:qv d=.slice (some ⟨g,0,none⟩) (qs d).length cap)(k:Nat)(hk:k<(qs d).length)(m:aj):
  au ((((w.setCell ⟨g,k*4,none⟩ (.int .i64 m.dev)).setCell ⟨g,k*4+1,none⟩ (.int .i64 m.run)).setCell ⟨g,k*4+2,none⟩ (.int .i64 m.num)).setCell ⟨g,k*4+3,none⟩ (.int .i64 m.key)) S Q P R cv pv rec now last qv (bL qs d ((qs d).set k m)) p:=by
 have A0:=h.oB d hd;rw[hv]at A0;obtain⟨_,A2,hc⟩:=cS A0 (k:=g) rfl;have same:∀ {b:Nat} {o:Obj},w.heap[b]?=some o->b≠g->((((w.setCell ⟨g,k*4,none⟩ (.int .i64 m.dev)).setCell ⟨g,k*4+1,none⟩ (.int .i64 m.run)).setCell ⟨g,k*4+2,none⟩ (.int .i64 m.num)).setCell ⟨g,k*4+3,none⟩ (.int .i64 m.key)).heap[b]?=some o:=fun {b o} hb hne=>by
  rw[q8 _ _ _ _ hne,q8 _ _ _ _ hne,q8 _ _ _ _ hne,q8 _ _ _ _ hne];exact hb
 refine⟨same h.sB (aA h.sB hc (by decide)),same h.qB (aA h.qB hc (by decide)),fun e he=>?_,h.dis,same h.pB (aA h.pB hc (by decide)),same h.rB (aA h.rB hc (by decide)),h.rl⟩;by_cases hed:e=d
 .subst hed;rw[ec,hv,List.length_set,tR _ k hk m];rw[tM _ k hk]at A0;exact qq A0 (by rw[mI];simp;omega) _ _ _ _
 .rw[eH qs _ hed];exact aT (h.oB e he) fun b hb=>by
   obtain⟨c,A1⟩:=ax (h.oB e he) hb;rw[same A1 (fun hh=>hed (h.dis e d b he hd hb (by rw[hv,hh];rfl))),A1]
theorem au.pushQ {w W w1:World}{S Q P R:Nat}{cv:Md}{pv:Value}{rec:ByteArray}{now last:Int}{qv:Nat->Value}{qs:Nat->List aj}{p:Pr}(h:au w S Q P R cv pv rec now last qv qs p)(d:Nat)(hd:d<3)(h0:ae w W){g cap:Nat}(m:aj)
  (hown:w1.ownsRow 0 87 4 (.slice (some ⟨g,0,none⟩) ((qs d).length+1) cap) ((qs d).length+1) (bA (qs d)++[.int .i64 m.dev,.int .i64 m.run,.int .i64 m.num,.int .i64 m.key])) (hgrow:W.grownBy w1 (qv d).ownBlock) (hat:(qv d).ownBlock=some g\/g=W.heap.size):
  au (w1.setCell ⟨Q,d,none⟩ (.slice (some ⟨g,0,none⟩) ((qs d).length+1) cap)) S Q P R cv pv rec now last (bL qv d (.slice (some ⟨g,0,none⟩) ((qs d).length+1) cap)) (bL qs d (qs d++[m])) p /\
   Fr (fun k=>k=Q\/(qv d).ownBlock=some k) w (w1.setCell ⟨Q,d,none⟩ (.slice (some ⟨g,0,none⟩) ((qs d).length+1) cap)):=by
 have same:∀ {b:Nat} {o:Obj},w.heap[b]?=some o->(qv d).ownBlock≠some b->w1.heap[b]?=some o:=fun {b o} hb hne=>cM h0 hgrow hb hne;have nt:∀ {b:Nat} {c:Array Value} {e:TypeId},w.heap[b]?=some (.cells c e (0,0))->e≠87->(qv d).ownBlock≠some b:=fun {b c e} hb he hh=>by
  obtain⟨c2,A0⟩:=ax (h.oB d hd) hh;exact aA hb A0 he rfl
 have q1:=same h.qB (nt h.qB (by decide));have A1:g≠Q:=by obtain⟨c,hc⟩:=ax hown (k:=g) rfl;exact aA hc q1 (by decide)
 refine⟨⟨?_,?_,fun e he=>?_,fun e f b he hf h1 h2=>?_,?_,?_,h.rl⟩,?_⟩
 .rw[q8 _ _ _ _ (aA h.sB h.qB (by decide))];exact same h.sB (nt h.sB (by decide))
 .rw[cG _ q1];match d,hd with
  | 0,_=>rfl
  | 1,_=>rfl
  | 2,_=>rfl
 .by_cases hed:e=d
  .subst hed;rw[ec,ec,List.length_append,mG];exact aT hown fun b hb=>by
    simp[Value.ownBlock]at hb;subst hb;exact q8 _ _ _ _ A1
  .rw[eH qv _ hed,eH qs _ hed];exact aT (h.oB e he) fun b hb=>by
    obtain⟨c,hc⟩:=ax (h.oB e he) hb;rw[q8 _ _ _ _ (aA hc h.qB (by decide)),same hc (fun hh=>hed (h.dis e d b he hd hb hh)),hc]
 .have gx:∀ e,e<3->e≠d->(qv e).ownBlock≠some g:=fun e he hed hh=>by
   rcases hat with h3|h3
   .exact hed (h.dis e d g he hd hh h3)
   .obtain⟨c,hc⟩:=ax (h.oB e he) hh;have:=ak hc;have:=h0.size;omega
  by_cases hed:e=d
  .by_cases hfd:f=d
   .omega
   .subst hed;rw[ec]at h1;rw[eH qv _ hfd]at h2;simp[Value.ownBlock]at h1;subst h1;exact absurd h2 (gx f hf hfd)
  .by_cases hfd:f=d
   .subst hfd;rw[ec]at h2;rw[eH qv _ hed]at h1;simp[Value.ownBlock]at h2;subst h2;exact absurd h1 (gx e he hed)
   .rw[eH qv _ hed]at h1;rw[eH qv _ hfd]at h2;exact h.dis e f b he hf h1 h2
 .rw[q8 _ _ _ _ (aA h.pB h.qB (by decide))];exact same h.pB (nt h.pB (by decide))
 .rw[q8 _ _ _ _ (aA h.rB h.qB (by decide))];exact same h.rB (nt h.rB (by decide))
 .exact(Fr.of_push (S:=fun k=>k=Q\/(qv d).ownBlock=some k) h0 hgrow fun k hk=>Or.inr hk).setCell ⟨Q,d,none⟩ (Or.inl (Or.inl rfl)) _
theorem He (S Q P R:Nat)(cv:Md)(pv:Value)(rec:ByteArray)(now last:Int)(qv:Nat->Value)(qs:Nat->List aj)(p:Pr)(key:Int)(d:Nat)(w:World)(h:au w S Q P R cv pv rec now last qv qs p)(hd:d<3)(hdev:p.dev=(d:Nat))(hl:(qs d).length<=4)(hs0:0<=p.sent)(hs1:p.sent<=1000000000000000000):
  Calls prog 96 #[.pointer (some ⟨S,0,none⟩),.pointer (some ⟨P,0,none⟩),.int .i64 key] w fun e w'=>e=.returned (.int .i64 (aB (qs d) p key).2.2) /\
   ∃ v,au w' S Q P R cv pv rec now last (bL qv d v) (bL qs d (aB (qs d) p key).1) (aB (qs d) p key).2.1/\(∀ b,v.ownBlock=some b->(qv d).ownBlock=some b\/w.heap.size<=b)/\Fr (fun k=>k=P\/k=Q\/(qv d).ownBlock=some k) w w':=by
 obtain⟨a,cap,hv⟩:=bD (h.oB d hd);have c6:w.cell? ⟨S,6,none⟩=some (.slice (some ⟨Q,0,none⟩) 3 3):=(ag h.sB).trans rfl;have cq:w.cell? ⟨Q,d,none⟩=some (.slice a (qs d).length cap):=by rw[ag h.qB,mX qv d hd,hv]
 have p0:w.cell? ⟨P,0,none⟩=some (.int .i64 p.id):=(ag h.pB).trans rfl;have p1:w.cell? ⟨P,1,none⟩=some (.int .i64 (d:Nat)):=by rw[<- hdev];exact(ag h.pB).trans rfl
 have p2:w.cell? ⟨P,2,none⟩=some (.int .i64 p.sent):=(ag h.pB).trans rfl;have HH:=ah h;have HV:=ah hv;have A2:=ah hdev;have A5:Hid (S<w.heap.size/\Q<w.heap.size/\P<w.heap.size):=⟨ak h.sB,ak h.qB,ak h.pB⟩;have A9:=ak h.pB;clear h hv hdev;obtain⟨q,hq⟩:∃ q,q=qs d:=⟨_,rfl⟩;rw[<- hq]at cq HV hl ⊢;have HQ:=ah hq;clear hq;go_enter func96,ntmps96
 go_upto_region 2 with fail
 go_cut [8] (fun r wx=>r=.pointer (some ⟨w.heap.size,0,none⟩)/\Hid (wx.heap[w.heap.size]?=some (.cells #[.int .i64 (d:Nat),.int .i64 p.id,.int .i64 (p.sent+1),.int .i64 key] 87)/\Below w.heap.size w wx))
 case first=>
  go_region;all_goals
   go_wp2_with fail
   go_meet;case rel=>exact⟨rfl,v8 _ _,((v7 _ _).alloc (v9 _) _).drew⟩
 case rest=>
  obtain⟨rfl,HX⟩:=hcut;clear c6 cq p0 p1 p2 A9;go_wp2_with fail
  go_loopw [9] (fun i wr=>∃ k:Nat,k<=q.length/\i=.int .i64 k/\Hid (∀ x∈q.take k,¬ iJ ⟨p.dev,p.id,p.sent+1,key⟩ x)/\Hid (wr.heap[w.heap.size]?=some (.cells #[.int .i64 (d:Nat),.int .i64 p.id,.int .i64 (p.sent+1),.int .i64 key] 87)/\Below w.heap.size w wr)) (fun i _=>q.length - (intOf i).toNat)
  case atStart=>exact⟨0,Qa _,rfl,fun x hx=>absurd hx (by simp),HX⟩
  case round=>
   obtain⟨k,hk,rfl,HT,HR⟩:=hrel;have HC:Hid (au wr S Q P R cv pv rec now last qv qs p):=HH.below HR.2;have c6:wr.cell? ⟨S,6,none⟩=some (.slice (some ⟨Q,0,none⟩) 3 3):=(ag HC.sB).trans rfl;have cq:wr.cell? ⟨Q,d,none⟩=some (.slice a q.length cap):=by rw[ag HC.qB,mX qv d hd,HV]
   have p2:wr.cell? ⟨P,2,none⟩=some (.int .i64 p.sent):=(ag HC.pB).trans rfl;have z2:wr.frozen? ⟨P,2,none⟩=false:=aC HC.pB;obtain⟨m0,m1,m2,m3⟩:=fP HR.1;have A9:P<wr.heap.size:=ak HC.pB;have B6:w.heap.size<wr.heap.size:=ak HR.1;have C7:Q<wr.heap.size:=ak HC.qB;have C8:S<wr.heap.size:=ak HC.sB;by_cases hlt:k<q.length
   .have HO:Hid (wr.ownsRow 0 87 4 (.slice a q.length cap) q.length (bA q)):=by rw[<- HV,HQ];exact HC.oB d hd
    obtain⟨g,C2,hv,_,D5⟩:=HO.form (by omega);simp at hv;obtain⟨rfl,rfl⟩:=hv;obtain⟨e0,e1,e2,e3⟩:=ld HO hlt;obtain⟨_,C3,A0⟩:=cS HO (k:=g) rfl;have y0:wr.frozen? ⟨g,k*4,none⟩=false:=aC A0;have y1:wr.frozen? ⟨g,k*4+1,none⟩=false:=aC A0;have y2:wr.frozen? ⟨g,k*4+2,none⟩=false:=aC A0;have y3:wr.frozen? ⟨g,k*4+3,none⟩=false:=aC A0;have D1:P≠g:=aA HC.pB A0 (by decide);have D0:w.heap.size≠g:=fun e=>by
     obtain⟨_,C9,B1⟩:=cS (HH.oB d hd) (k:=g) (by rw[HV];rfl);have:=ak B1;omega
    have C5:P≠w.heap.size:=by have:=A5.2.2;omega
    by_cases hm:q[k].run=p.id/\q[k].key=key
    .have b1:(q[k].run==p.id)=true:=by simpa using hm.1
     have b2:(q[k].key==key)=true:=by simpa using hm.2
     have A3:Hid (aB q p key=(q.set k ⟨p.dev,p.id,p.sent+1,key⟩,{p with sent:=p.sent+1},p.sent+1)):=EU hlt HT hm;have A7:Hid (au (((((wr.setCell ⟨g,k*4,none⟩ (.int .i64 (d:Nat))).setCell ⟨g,k*4+1,none⟩ (.int .i64 p.id)).setCell ⟨g,k*4+2,none⟩ (.int .i64 (p.sent+1))).setCell ⟨g,k*4+3,none⟩ (.int .i64 key)).setCell ⟨P,2,none⟩ (.int .i64 (p.sent+1))) S Q P R cv pv rec now last (bL qv d (qv d)) (bL qs d (q.set k ⟨p.dev,p.id,p.sent+1,key⟩)) {p with sent:=p.sent+1}):=by
      have h1:=HC.put4 d hd (g:=g) (cap:=cap) (by rw[HV,HQ]) k (by rw[<- HQ];exact hlt) ⟨p.dev,p.id,p.sent+1,key⟩;rw[<- HQ]at h1;have e:Value.int .i64 (d:Nat)=Value.int .i64 p.dev:=by rw[A2]
      rw[mT,e];exact h1.setP (p':={p with sent:=p.sent+1}) 2 _ rfl rfl
     have C0:Hid (Fr (fun j=>j=P\/j=Q\/(qv d).ownBlock=some j) w (((((wr.setCell ⟨g,k*4,none⟩ (.int .i64 (d:Nat))).setCell ⟨g,k*4+1,none⟩ (.int .i64 p.id)).setCell ⟨g,k*4+2,none⟩ (.int .i64 (p.sent+1))).setCell ⟨g,k*4+3,none⟩ (.int .i64 key)).setCell ⟨P,2,none⟩ (.int .i64 (p.sent+1)))):=by
      have f0:Fr (fun j=>j=P\/j=Q\/(qv d).ownBlock=some j) w wr:=(Fr.of_below HR.2).mono fun j hj hs=>by omega
      have A4:g=P\/g=Q\/(qv d).ownBlock=some g:=Or.inr (Or.inr (by rw[HV];rfl));exact((((f0.setCell ⟨g,k*4,none⟩ (Or.inl A4) _).setCell ⟨g,k*4+1,none⟩ (Or.inl A4) _).setCell ⟨g,k*4+2,none⟩ (Or.inl A4) _).setCell ⟨g,k*4+3,none⟩ (Or.inl A4) _).setCell ⟨P,2,none⟩ (Or.inl (Or.inl rfl)) _
     clear hm A0;generalize q[k]=x at *;go_wp2_with fail
     go_region;all_goals
      go_wp2_with fail
      go_ret;rw[A3];exact⟨rfl,qv d,A7.below ((v7 _ _).alloc (v9 _) _).drew,fun b hb=>Or.inl hb,(C0.alloc _).drew⟩
    .have B4:Hid (∀ x∈q.take (k+1),¬ iJ ⟨p.dev,p.id,p.sent+1,key⟩ x):=by
      intro x hx;rw[Qd hlt,List.mem_append,List.mem_singleton]at hx;rcases hx with hx|rfl
      .exact HT x hx
      .exact hm
     have B3:Hid (∀ o,(wr.alloc o).heap[w.heap.size]?=some (.cells #[.int .i64 (d:Nat),.int .i64 p.id,.int .i64 (p.sent+1),.int .i64 key] 87)/\Below w.heap.size w (wr.alloc o)):=fun o=>⟨by rw[q9 _ _ _ B6];exact HR.1,HR.2.alloc HR.2.size _⟩;clear A0;by_cases hr:q[k].run=p.id
     .have b1:(q[k].run==p.id)=true:=by simpa using hr
      have b2:(q[k].key==key)=false:=by simpa using (fun h=>hm ⟨hr,h⟩)
      clear hm hr;generalize q[k]=x at *;go_wp2_with fail
      go_roundw;case rel=>exact⟨k+1,by omega,by go_num,B4,B3.out _⟩
      case measure=>simp[intOf];omega
     .have b1:(q[k].run==p.id)=false:=by simpa using hr
      clear hm hr;generalize q[k]=x at *;go_wp2_with fail
      go_roundw;case rel=>exact⟨k+1,by omega,by go_num,B4,B3.out _⟩
      case measure=>simp[intOf];omega
   .have A1:Hid (∀ x∈q,¬ iJ ⟨p.dev,p.id,p.sent+1,key⟩ x):=by
     have h:=HT.out;rw[Qe (by omega)]at h;exact h
    by_cases hfull:4<=q.length
    .have A3:Hid (aB q p key=(q,p,0)):=Ct A1 hfull;go_wp2_with fail
     go_ret;rw[A3];refine⟨rfl,qv d,?_,fun b hb=>Or.inl hb,(Fr.of_below HR.2).mono fun j hj hs=>by omega⟩;rw[HQ,mT,mT];exact HC
    .have A3:Hid (aB q p key=(q++[⟨p.dev,p.id,p.sent+1,key⟩],{p with sent:=p.sent+1},p.sent+1)):=CC A1 hfull;have C5:P≠w.heap.size:=by have:=A5.2.2;omega
     have D2:Q≠P:=aA HC.qB HC.pB (by decide);have C6:Q≠w.heap.size:=by have:=A5.2.1;omega
     have D3:(d:Int)<3:=by omega
     go_upto_region 13 with fail
     have zq:wr.frozen? ⟨Q,d,none⟩=false:=aC HC.qB;have A6:Hid (∀ {b:Nat} {c:Array Value} {e:TypeId},wr.heap[b]?=some (.cells c e (0,0))->e≠87->(Value.slice a q.length cap).ownBlock≠some b):=fun {b c e} hb he hh=>by
      obtain⟨c2,B0⟩:=ax (HC.oB d hd) (k:=b) (by rw[HV];exact hh);exact aA hb B0 he rfl
     have C1:Hid ((Value.slice a q.length cap).ownBlock≠some w.heap.size):=fun hh=>by
      obtain⟨c2,B0⟩:=ax (HH.oB d hd) (k:=w.heap.size) (by rw[HV];exact hh);have:=ak B0;omega
     go_cut [0] (fun r wx=>r=.pointer (some ⟨S,0,none⟩)/\Hid (∃ v,au wx S Q P R cv pv rec now last (bL qv d v) (bL qs d (q++[⟨p.dev,p.id,p.sent+1,key⟩])) p/\(∀ b,v.ownBlock=some b->(qv d).ownBlock=some b\/w.heap.size<=b)/\Fr (fun j=>j=P\/j=Q\/(qv d).ownBlock=some j) w wx/\wx.heap[w.heap.size]?=some (.cells #[.int .i64 (d:Nat),.int .i64 p.id,.int .i64 (p.sent+1),.int .i64 key] 87)))
     case first=>
      go_region_law (refine jk _ rfl (.tmp 104) (.tmp 106) 99 rfl 87 _ 4 32 underlying99 Tryz.infoMsg rfl (by decide) (by decide) (.slice a q.length cap) q.length (bA q) wr.heap.size [.int .i64 (d:Nat),.int .i64 p.id,.int .i64 (p.sent+1),.int .i64 key] (by rfl) (by exact((by rw[<- HV,HQ];exact HC.oB d hd:wr.ownsRow 0 87 4 (.slice a q.length cap) q.length (bA q))).alloc _) (by exact v8 _ _) (by rfl) rfl (by simp[Value.oneCell']) (by omega) ?_;intro g1 cap1 w1 hown1 hgrow hat hlt1;have D6:w1.cell? ⟨Q,d,none⟩=some (.slice a q.length cap):=(World.cell?_of_block (a:=⟨Q,d,none⟩) ((cM (ae.alloc _ _).drew hgrow HC.qB (A6 HC.qB (by decide))).trans HC.qB.symm)).trans cq;have hs1:w1.cell? ⟨S,6,none⟩=some (.slice (some ⟨Q,0,none⟩) 3 3):=(ag (cM (ae.alloc _ _).drew hgrow HC.sB (A6 HC.sB (by decide)))).trans rfl;have D4:w1.frozen? ⟨Q,d,none⟩=false:=aC (cM (ae.alloc _ _).drew hgrow HC.qB (A6 HC.qB (by decide))))
      all_goals
       go_wp2_with fail
       go_meet;case rel=>
        have B2:=HC.pushQ d hd (ae.alloc _ _).drew ⟨p.dev,p.id,p.sent+1,key⟩ (g:=g1) (cap:=cap1) (by rw[<- HQ,A2];exact hown1) (by rw[HV];exact hgrow) (by rw[HV];exact hat);rw[<- HQ]at B2;have C4:=cM (ae.alloc _ _).drew hgrow HR.1 C1;have f0:Fr (fun j=>j=P\/j=Q\/(qv d).ownBlock=some j) w wr:=(Fr.of_below HR.2).mono fun j hj hs=>by omega
        refine⟨rfl,.slice (some ⟨g1,0,none⟩) (q.length+1) cap1,B2.1,fun b hb=>?_,f0.trans (B2.2.mono fun j _ hj=>Or.inr hj),?_⟩
        .simp[Value.ownBlock]at hb;subst hb;rcases hat with h|h
         .exact Or.inl (by rw[HV];exact h)
         .exact Or.inr (by rw[h];simp;omega)
        .show(w1.setCell _ _).heap[w.heap.size]?=_;rw[q8 _ _ _ _ (fun e=>C6 e.symm)];exact C4
     case rest=>
      obtain⟨rfl,B5⟩:=hcut;obtain⟨v,iQ,B7,B8,B9⟩:=B5.out;have w2:wc.cell? ⟨P,2,none⟩=some (.int .i64 p.sent):=(ag iQ.pB).trans rfl;have x2:wc.frozen? ⟨P,2,none⟩=false:=aC iQ.pB;obtain⟨n0,n1,n2,n3⟩:=fP B9;have A8:Hid (_/\_/\_):=⟨iQ,B7,B8⟩;clear iQ B7 B8 B9 B5 c6 cq p2 z2 zq m0 m1 m2 m3 B6 C7 C8 A9;go_wp2_with fail
      go_ret;rw[A3];exact⟨rfl,v,A8.1.setP (p':={p with sent:=p.sent+1}) 2 _ rfl rfl,A8.2.1,A8.2.2.setCell ⟨P,2,none⟩ (Or.inl (Or.inl rfl)) _⟩
end Go.Proofs.YtmmmnghiegajmaaGreat
