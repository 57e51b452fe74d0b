import Derived.Test.YtmmmnghiegajmaaGreatM10
import Derived.Test.YtmmmnghiegajmaaGreatM09
import Derived.Test.YtmmmnghiegajmaaGreatM01
import Derived.Deep.DeepCutAuto
set_option maxHeartbeats 2000000
namespace Go.Proofs.YtmmmnghiegajmaaGreat
open Go.RowKit Go.Proofs.Herald
theorem CodeIn.fr {w w':World}{a:Option Addr}{b off S:Nat}{cs:List Ins}(h:CodeIn w a b off cs)(hb:Fr (fun k=>k=S) w w')(hS:0<cs.length->b≠S):CodeIn w' a b off cs:=fun hp=>
 ⟨(h hp).1,Nat.lt_of_lt_of_le (h hp).2.1 hb.size,(h hp).2.2.keep (hb.block _ (h hp).2.1 (hS hp))⟩
theorem zqP (a:Option Addr)(b off cap:Nat)(cs:List Ins)(w:World)(hc:CodeIn w a b off cs)(hm:cs.length<=4398046511000)(hs:zbq cs=false):
  Calls Tryz.prog 7 #[.slice a cs.length cap] w fun e w'=>e=.returned (.tuple #[.pointer none,.bool true])/\Below w.heap.size w w':=by
 have HC:=zHd hc
 have HS:=zHd hs
 clear hc hs
 go_enter Tryz.func7,Tryz.ntmps7
 go_wp2_with fail
 refine (zh4 a b off cap cs _ HC.out hm).mono ?_
 rintro e w1 ⟨S,hS,rfl,hg1,hb1⟩
 have H1:Hid (w1.heap[S]?=some (.cells (zai (cs++[zaH,zaH])).toArray 91 (0,0))/\Below w.heap.size w w1/\CodeIn w1 (some ⟨S,0,none⟩) S 0 cs/\CodeIn w1 a b off cs):=
  ⟨hg1,hb1,fun _=>⟨rfl,zae hg1,zcI (rest:=zai [zaH,zaH]) (by rw [<- za0];exact hg1)⟩,HC.out.keep hb1⟩
 clear hg1 hb1
 go_wp2_with fail
 refine (zon S 0 _ cs _ H1.out.2.2.1 HS.out).mono ?_
 rintro e w2 ⟨rfl,hb2⟩
 have H2:Hid (w2.heap[S]?=some (.cells (zai (cs++[zaH,zaH])).toArray 91 (0,0))/\Below w.heap.size w w2/\CodeIn w2 a b off cs):=
  ⟨(hb2.block S (zae H1.out.1)).trans H1.out.1,H1.out.2.1.trans (hb2.mono H1.out.2.1.size),H1.out.2.2.2.keep hb2⟩
 clear hb2 H1
 go_wp2_with fail
 refine (zjV a S b off cap cs _ hm H2.out.1 H2.out.2.2).mono ?_
 rintro e w3 ⟨rfl,hb3⟩
 have H3:Hid (w3.heap[S]?=some (.cells (zai (cs++[zaH,zaH])).toArray 91 (0,0))/\Below w.heap.size w w3/\CodeIn w3 a b off cs):=
  ⟨(hb3.block S (zae H2.out.1)).trans H2.out.1,H2.out.2.1.trans (hb3.mono H2.out.2.1.size),H2.out.2.2.keep hb3⟩
 clear hb3 H2
 go_wp2_with fail
 refine (zjR S cs.length _ (cs++[zaH,zaH]) _ (by simp) hm H3.out.1).mono ?_
 rintro e w4 ⟨rfl,hf4⟩
 have H4:Hid (Below w.heap.size w w4/\CodeIn w4 a b off cs):=
  ⟨H3.out.2.1.trans ((hf4.mono (fun k _ hk=>by show w.heap.size<=k;omega)).below H3.out.2.1.size),H3.out.2.2.fr hf4 (fun hp=>by have:=(HC.out hp).2.1;omega)⟩
 clear hf4 H3
 go_wp2_with fail
 refine (zgZ a b off cap cs _ H4.out.2).mono ?_
 rw [HS.out]
 rintro e w5 ⟨rfl,hb5⟩
 have H5:Hid (Below w.heap.size w w5):=H4.out.1.trans (hb5.mono H4.out.1.size)
 clear hb5 H4
 go_wp2_with fail
 go_ret2
 exact ⟨rfl,H5.out⟩
theorem zmS (a:Option Addr)(b off cap:Nat)(cs:List Ins)(w:World)(hc:CodeIn w a b off cs)(hs:zbq cs=true):
  Calls Tryz.prog 7 #[.slice a cs.length cap] w fun e w'=>∃ H v,e=.returned (.tuple #[.pointer (some ⟨H,0,none⟩),.bool true])/\w.heap.size<=H/\w'.heap[H]?=some (.cells (zjv v) 114 (0,0))/\w'.ownsRow w.heap.size 91 4 v cs.length (zai cs)/\Below w.heap.size w w':=by
 have hm:cs.length<=4398046511000:=by
  rcases Nat.lt_or_ge 1000 cs.length with h|h
  .rw [zdQ h] at hs;cases hs
  .omega
 have HC:=zHd hc
 have HS:=zHd hs
 clear hc hs
 go_enter Tryz.func7,Tryz.ntmps7
 go_wp2_with fail
 refine (zh4 a b off cap cs _ HC.out hm).mono ?_
 rintro e w1 ⟨S,hS,rfl,hg1,hb1⟩
 have H1:Hid (w1.heap[S]?=some (.cells (zai (cs++[zaH,zaH])).toArray 91 (0,0))/\Below w.heap.size w w1/\CodeIn w1 (some ⟨S,0,none⟩) S 0 cs/\CodeIn w1 a b off cs):=
  ⟨hg1,hb1,fun _=>⟨rfl,zae hg1,zcI (rest:=zai [zaH,zaH]) (by rw [<- za0];exact hg1)⟩,HC.out.keep hb1⟩
 clear hg1 hb1
 go_wp2_with fail
 refine (zmW S 0 _ cs _ H1.out.2.2.1 HS.out).mono ?_
 rintro e w2 ⟨H,v,rfl,hH,hgH,ho2,hb2⟩
 have H2:Hid (w2.heap[S]?=some (.cells (zai (cs++[zaH,zaH])).toArray 91 (0,0))/\Below w.heap.size w w2/\CodeIn w2 a b off cs):=
  ⟨(hb2.block S (zae H1.out.1)).trans H1.out.1,H1.out.2.1.trans (hb2.mono H1.out.2.1.size),H1.out.2.2.2.keep hb2⟩
 have HH2:Hid (w2.heap[H]?=some (.cells (zjv v) 114 (0,0))/\w2.ownsRow w1.heap.size 91 4 v cs.length (zai cs)/\w1.heap.size<=H/\S<w1.heap.size/\w.heap.size<=w1.heap.size):=⟨hgH,ho2,hH,zae H1.out.1,H1.out.2.1.size⟩
 clear hb2 H1 hgH ho2 hH
 go_wp2_with fail
 refine (zjV a S b off cap cs _ hm H2.out.1 H2.out.2.2).mono ?_
 rintro e w3 ⟨rfl,hb3⟩
 have H3:Hid (w3.heap[S]?=some (.cells (zai (cs++[zaH,zaH])).toArray 91 (0,0))/\Below w.heap.size w w3/\CodeIn w3 a b off cs):=
  ⟨(hb3.block S (zae H2.out.1)).trans H2.out.1,H2.out.2.1.trans (hb3.mono H2.out.2.1.size),H2.out.2.2.keep hb3⟩
 have HH3:Hid (w3.heap[H]?=some (.cells (zjv v) 114 (0,0))/\w3.ownsRow w1.heap.size 91 4 v cs.length (zai cs)):=
  ⟨(hb3.block H (zae HH2.out.1)).trans HH2.out.1,zaJ HH2.out.2.1 (fun k hk=>by obtain ⟨_,c,hc⟩:=zao HH2.out.2.1 hk;exact hb3.block k (zae hc))⟩
 clear hb3 H2
 go_wp2_with fail
 refine (zjR S cs.length _ (cs++[zaH,zaH]) _ (by simp) hm H3.out.1).mono ?_
 rintro e w4 ⟨rfl,hf4⟩
 have H4:Hid (Below w.heap.size w w4/\CodeIn w4 a b off cs):=
  ⟨H3.out.2.1.trans ((hf4.mono (fun k _ hk=>by show w.heap.size<=k;omega)).below H3.out.2.1.size),H3.out.2.2.fr hf4 (fun hp=>by have:=(HC.out hp).2.1;omega)⟩
 have HH4:Hid (w4.heap[H]?=some (.cells (zjv v) 114 (0,0))/\w4.ownsRow w1.heap.size 91 4 v cs.length (zai cs)):=
  ⟨(hf4.block H (zae HH3.out.1) (by have:=HH2.out.2.2;omega)).trans HH3.out.1,zaJ HH3.out.2 (fun k hk=>by obtain ⟨hle,c,hc⟩:=zao HH3.out.2 hk;exact hf4.block k (zae hc) (by have:=HH2.out.2.2;omega))⟩
 clear hf4 H3 HH3
 go_wp2_with fail
 refine (zgZ a b off cap cs _ H4.out.2).mono ?_
 rw [HS.out]
 rintro e w5 ⟨rfl,hb5⟩
 have H5:Hid (Below w.heap.size w w5):=H4.out.1.trans (hb5.mono H4.out.1.size)
 have HH5:Hid (w5.heap[H]?=some (.cells (zjv v) 114 (0,0))/\w5.ownsRow w.heap.size 91 4 v cs.length (zai cs)):=by
  refine ⟨(hb5.block H (zae HH4.out.1)).trans HH4.out.1,?_⟩
  have h5:=zaJ (w':=w5) HH4.out.2 (fun k hk=>by obtain ⟨hle,c,hc⟩:=zao HH4.out.2 hk;exact hb5.block k (zae hc))
  refine ⟨h5.1,?_⟩
  rcases h5.2 with h|⟨g,cap,cur,hv,hb,r⟩
  .exact .inl h
  .exact .inr ⟨g,cap,cur,hv,Nat.le_trans HH2.out.2.2.2.2 hb,r⟩
 clear hb5 H4 HH4
 go_wp2_with fail
 go_ret2
 exact ⟨H,v,rfl,Nat.le_trans HH2.out.2.2.2.2 HH2.out.2.2.1,HH5.out.1,HH5.out.2,H5.out⟩
open Go.RowKit Go.Proofs.Herald
def zcd (b:Value×List Value):List Value:=b.1::b.2
def zaP (bs:List (Value×List Value)):List Value:=bs.flatMap zcd
theorem zg1 (bs:List (Value×List Value))(b:Value×List Value):zaP (bs++[b])=zaP bs++zcd b:=by simp [zaP]
def zqS (l x:Value):Prop:=
 (∃ g cap n n',l=.slice (some ⟨g,0,none⟩) n cap/\x=.slice (some ⟨g,0,none⟩) n' cap)\/(∀ b,x.ownBlock=some b->l.ownBlock≠some b)
structure BkAt (w0 w:World)(O M:Nat)(oc:Value->Array Value)(eT bT:TypeId)(k:Nat)(rv0 rv:Value)(bs:List (Value×List Value))(l:Value)(nl:Nat)(mk:List Value)(kin:List (Value×Nat)):Prop where
 o:w.heap[O]?=some (.cells (oc rv) 28 (0,0))
 m:w.heap[M]?=some (.cells mk.toArray eT (0,0))
 rown:w.ownsRow 0 bT (k+1) rv bs.length (zaP bs)
 rat:∀ b,rv.ownBlock=some b->rv0.ownBlock=some b\/w0.heap.size<=b
 lown:w.ownsRow 0 eT k l nl (zbv mk nl)
 kins:∀ x∈kin,w.ownsRow 0 eT k x.1 x.2 (zbv mk x.2)/\zqS l x.1/\(∀ b,x.1.ownBlock=some b->l.ownBlock=some b\/w0.heap.size<=b)
 fr:Fr (fun j=>j=O\/rv0.ownBlock=some j\/l.ownBlock=some j) w0 w
 mnew:w0.heap.size<=M
 old:O<w0.heap.size/\∀ b,l.ownBlock=some b->b<w0.heap.size
theorem Fr.wide {S:Nat->Prop}{w0 w w':World}(h:Fr S w0 w)(k:Fr (fun j=>S j\/w0.heap.size<=j) w w'):Fr S w0 w':=
 ((h.mono (T:=fun j=>S j\/w0.heap.size<=j) fun _ _ hs=>Or.inl hs).trans k).mono fun j hj hs=>hs.elim id (fun h=>by omega)
theorem BkAt.push {w0 w W w1:World}{O M:Nat}{oc:Value->Array Value}{eT bT:TypeId}{k:Nat}{rv0 rv:Value}{bs:List (Value×List Value)}{l:Value}{nl:Nat}{mk:List Value}{kin:List (Value×Nat)}(h:BkAt w0 w O M oc eT bT k rv0 rv bs l nl mk kin)
  (hbo:bT≠28) (hbe:bT≠eT) (heo:eT≠28) (h0:OneMore w W) {x:Value} {g cap idx:Nat}
  (hown1:w1.ownsRow 0 bT (k+1) (.slice (some ⟨g,0,none⟩) (bs.length+1) cap) (bs.length+1) (zaP bs++(x::mk))) (hgrow:W.grownBy w1 rv.ownBlock) (hat:rv.ownBlock=some g\/g=W.heap.size)
  (hoc:(oc rv).setIfInBounds idx (.slice (some ⟨g,0,none⟩) (bs.length+1) cap)=oc (.slice (some ⟨g,0,none⟩) (bs.length+1) cap)):
  BkAt w0 (w1.setCell ⟨O,idx,none⟩ (.slice (some ⟨g,0,none⟩) (bs.length+1) cap)) O M oc eT bT k rv0 (.slice (some ⟨g,0,none⟩) (bs.length+1) cap) (bs++[(x,mk)]) l nl mk kin:=by
 have hsz:=h0.size
 have hOl:=zae h.o
 have hw0:=h.fr.size
 have hvO:rv.ownBlock≠some O:=fun e=>by obtain ⟨cur,hc⟩:=zad h.rown e;exact zac hc h.o hbo rfl
 have hO1:w1.heap[O]?=w.heap[O]?:=zbs h0 hgrow hOl hvO
 have hMO:M≠O:=zac h.m h.o heo
 have hgO:g≠O:=by obtain ⟨cur,hc⟩:=zad hown1 (k:=g) rfl;exact zac hc (hO1.trans h.o) hbo
 have keep:∀ {v:Value} {n:Nat} {xs:List Value},w.ownsRow 0 eT k v n xs->(w1.setCell ⟨O,idx,none⟩ (.slice (some ⟨g,0,none⟩) (bs.length+1) cap)).ownsRow 0 eT k v n xs:=fun {v n xs} hv=>zaj hv fun b hb=>by
  obtain ⟨cur,hc⟩:=zad hv hb
  rw [Below.heap_setCell _ _ _ _ (zac hc h.o heo)]
  exact zbs h0 hgrow (zae hc) (fun e=>by obtain ⟨cur',hc'⟩:=zad h.rown e;exact zac hc' hc hbe rfl)
 refine ⟨?_,?_,?_,?_,keep h.lown,fun y hy=>⟨keep (h.kins y hy).1,(h.kins y hy).2⟩,?_,h.mnew,h.old⟩
 .rw [zah _ (hO1.trans h.o),hoc]
 .rw [Below.heap_setCell _ _ _ _ hMO]
  exact zal h0 hgrow h.m (fun e=>by obtain ⟨cur,hc⟩:=zad h.rown e;exact zac hc h.m hbe rfl)
 .rw [zg1,List.length_append]
  exact zaj hown1 fun b hb=>by
   simp [Value.ownBlock] at hb
   subst hb
   exact Below.heap_setCell _ _ _ _ hgO
 .intro b hb
  simp [Value.ownBlock] at hb
  subst hb
  rcases hat with h1|h1
  .exact h.rat _ h1
  .right;omega
 .refine Fr.wide h.fr ?_
  have f1:Fr (fun j=>(j=O\/rv0.ownBlock=some j\/l.ownBlock=some j)\/w0.heap.size<=j) w w1:=Fr.of_push h0 hgrow fun j hj=>by
   rcases h.rat j hj with h1|h1
   .exact Or.inl (Or.inr (Or.inl h1))
   .exact Or.inr h1
  exact f1.setCell ⟨O,idx,none⟩ (Or.inl (Or.inl (Or.inl rfl))) _
theorem BkAt.app {w0 w w':World}{O M:Nat}{oc:Value->Array Value}{eT bT:TypeId}{k:Nat}{rv0 rv:Value}{bs:List (Value×List Value)}{l:Value}{nl:Nat}{mk:List Value}{kin:List (Value×Nat)}(h:BkAt w0 w O M oc eT bT k rv0 rv bs l nl mk kin)
  (hbe:bT≠eT) (heo:eT≠28) (hk:mk.length=k) {W:World} (h0:OneMore w W) {v':Value} {j:Nat} (hown':w'.ownsRow 0 eT k v' (nl+j) (zbv mk nl++zbv mk j)) (ha:zcM W w' l nl j v') (hkin:∀ x∈kin,x.2<=nl+j):
  BkAt w0 w' O M oc eT bT k rv0 rv bs l nl mk (kin++[(v',nl+j)]):=by
 rw [<- zeN] at hown'
 have hsz:=h0.size
 have hw0:=h.fr.size
 rcases ha with ⟨g,cap,hl,hv,hgrow⟩|⟨hnew,hgrow⟩
 .have hlb:l.ownBlock=some g:=by rw [hl];rfl
  have hgl:=h.old.2 g hlb
  obtain ⟨curl,hcl⟩:=zad h.lown hlb
  have same:∀ {b:Nat} {ob:Obj},w.heap[b]?=some ob->b≠g->w'.heap[b]?=some ob:=fun {b ob} hb hne=>by
   rw [hgrow.block b (by have:=zae hb;omega) (by simpa using hne),h0.block b (zae hb)];exact hb
  have hown2:=hown'
  rw [hv] at hown2
  refine ⟨same h.o (fun e=>zac hcl h.o heo e.symm),same h.m (fun e=>by have:=h.mnew;omega),?_,h.rat,?_,?_,?_,h.mnew,h.old⟩
  .exact zaj h.rown fun b hb=>by
    obtain ⟨cur,hc⟩:=zad h.rown hb
    rw [same hc (zac hc hcl hbe),hc]
  .have h1:=zid hown2 (n:=nl) (by omega)
   rw [<- hk,zh9 mk (by omega),hk,<- hl] at h1
   exact h1
  .intro x hx
   rw [List.mem_append,List.mem_singleton] at hx
   rcases hx with hx|rfl
   .obtain ⟨k1,k2,k3⟩:=h.kins x hx
    refine ⟨?_,k2,k3⟩
    rcases k2 with ⟨g2,cap2,n2,n3,e1,e2⟩|k2
    .rw [hl] at e1
     simp at e1
     obtain ⟨rfl,_,rfl⟩:=e1
     have hn3:n3=x.2:=by
      have h5:=k1
      rw [e2] at h5
      exact (zdh h5).2.1
     rw [e2,hn3]
     have h1:=zid hown2 (n:=x.2) (hkin x hx)
     rw [<- hk,zh9 mk (hkin x hx),hk] at h1
     exact h1
    .exact zaj k1 fun b hb=>by
      obtain ⟨cur,hc⟩:=zad k1 hb
      rw [same hc (fun e=>by subst e;exact k2 _ hb hlb),hc]
   .refine ⟨hown',Or.inl ⟨g,cap,nl,nl+j,hl,hv⟩,fun b hb=>Or.inl ?_⟩
    rw [hlb]
    rw [hv] at hb
    exact hb
  .refine Fr.wide h.fr ⟨hgrow.os.trans h0.os,hgrow.tape.trans h0.tape,hgrow.output.trans h0.output,by have:=hgrow.size;omega,fun b hb hs=>?_⟩
   rw [hgrow.block b (by omega) (fun e=>hs (Or.inl (Or.inr (Or.inr (by rw [hlb];simpa using e.symm))))),h0.block b hb]
 .have same:∀ {b:Nat} {ob:Obj},w.heap[b]?=some ob->w'.heap[b]?=some ob:=fun {b ob} hb=>by
   rw [hgrow.block b (by have:=zae hb;omega) (by simp),h0.block b (zae hb)];exact hb
  have keep:∀ {e:TypeId} {s:Nat} {v:Value} {n:Nat} {xs:List Value},w.ownsRow 0 e s v n xs->w'.ownsRow 0 e s v n xs:=fun {e s v n xs} hv=>zaj hv fun b hb=>by
   obtain ⟨cur,hc⟩:=zad hv hb
   rw [same hc,hc]
  refine ⟨same h.o,same h.m,keep h.rown,h.rat,keep h.lown,?_,?_,h.mnew,h.old⟩
  .intro x hx
   rw [List.mem_append,List.mem_singleton] at hx
   rcases hx with hx|rfl
   .exact ⟨keep (h.kins x hx).1,(h.kins x hx).2⟩
   .refine ⟨hown',Or.inr fun b hb e=>?_,fun b hb=>Or.inr ?_⟩
    .have h1:=hnew b hb
     have h2:=h.old.2 b e
     omega
    .have h1:=hnew b hb
     omega
  .refine Fr.wide h.fr ⟨hgrow.os.trans h0.os,hgrow.tape.trans h0.tape,hgrow.output.trans h0.output,by have:=hgrow.size;omega,fun b hb _=>?_⟩
   rw [hgrow.block b (by omega) (by simp),h0.block b hb]
open Go.RowKit Go.Proofs.Herald
theorem Tryz.infoQB:(Tryz.prog.info? 101).map (fun i=>(i.zero,i.size,i.bytes))=some (some (.agg #[.slice none 0 0,.int .i64 0,.int .i64 0,.int .i64 0,.int .i64 0]),5,56):=by kernel_rfl
theorem Tryz.infoMsg:(Tryz.prog.info? 87).map (fun i=>(i.zero,i.size,i.bytes))=some (some (.agg #[.int .i64 0,.int .i64 0,.int .i64 0,.int .i64 0]),4,32):=by kernel_rfl
def BookOk (w:World)(X:Nat->Prop)(eT:TypeId)(k:Nat)(b:Value×List Value):Prop:=
 (∃ is:List Int,b.2=is.map (fun z=>Value.int .i64 z)/\is.length=k)/\∃ n,n<=100000000/\w.ownsRow 0 eT k b.1 n (zbv b.2 n)/\∀ g,b.1.ownBlock=some g->X g
structure OwnAt (w:World)(X:Nat->Prop)(O:Nat)(n:Int)(cv rv qv:Value)(cb rb qb:List (Value×List Value)):Prop where
 blk:w.heap[O]?=some (.cells #[.int .i64 n,cv,rv,qv] 28 (0,0))
 inO:X O
 cown:w.ownsRow 0 93 5 cv cb.length (zaP cb)
 rown:w.ownsRow 0 98 6 rv rb.length (zaP rb)
 qown:w.ownsRow 0 101 5 qv qb.length (zaP qb)
 cin:∀ b,cv.ownBlock=some b->X b
 rin:∀ b,rv.ownBlock=some b->X b
 qin:∀ b,qv.ownBlock=some b->X b
 cbk:∀ b∈cb,BookOk w X 91 4 b
 rbk:∀ b∈rb,BookOk w X 96 5 b
 qbk:∀ b∈qb,BookOk w X 87 4 b
theorem zcG {w:World}{B:Nat}{e:TypeId}{size n g cap:Nat}{xs:List Value}(h:w.ownsRow B e size (.slice (some ⟨g,0,none⟩) n cap) n xs)(p:Nat)(v:Value):
  (w.setCell ⟨g,p,none⟩ v).ownsRow B e size (.slice (some ⟨g,0,none⟩) n cap) n (xs.set p v):=by
 refine ⟨by rw [List.length_set];exact h.1,.inr ?_⟩
 rcases h.2 with ⟨h1,_⟩|⟨g',cap',cur,hv,hb,hg,hn,hm,hs,ht⟩
 .cases h1
 .simp at hv
  obtain ⟨rfl,rfl⟩:=hv
  refine ⟨g,cap,cur.setIfInBounds p v,rfl,hb,zah v hg,hn,hm,by simpa using hs,?_⟩
  rw [Array.toList_setIfInBounds,List.take_set,ht]
theorem zbn {w:World}{B:Nat}{e:TypeId}{size n g cap:Nat}{xs:List Value}(h:w.ownsRow B e size (.slice (some ⟨g,0,none⟩) n cap) n xs)(p:Nat)(u:Value)(hu:xs[p]?=some u):
  w.cell? ⟨g,p,none⟩=some u/\w.frozen? ⟨g,p,none⟩=false:=by
 have h1:=h.cells (g:=g) rfl p u hu
 rw [Addr.add_lit,Nat.zero_add] at h1
 obtain ⟨_,cur,hc⟩:=zao h (k:=g) rfl
 exact ⟨h1,zab hc⟩
theorem zgL {w:World}{B:Nat}{e:TypeId}{size n g cap p:Nat}{A rest:List Value}{r0 r1 r2 r3:Value}(h:w.ownsRow B e size (.slice (some ⟨g,0,none⟩) n cap) n (A++r0::r1::r2::r3::rest))(hp:p=A.length)(u0 u1 u2 u3:Value):
  ((((w.setCell ⟨g,p,none⟩ u0).setCell ⟨g,p+1,none⟩ u1).setCell ⟨g,p+2,none⟩ u2).setCell ⟨g,p+3,none⟩ u3).ownsRow B e size (.slice (some ⟨g,0,none⟩) n cap) n (A++[u0,u1,u2,u3]++rest):=by
 have h4:=zcG (zcG (zcG (zcG h p u0) (p+1) u1) (p+2) u2) (p+3) u3
 rw [zrl u0 u1 u2 u3 p hp] at h4
 exact h4
theorem zlu {w:World}{B:Nat}{e:TypeId}{size n g cap p:Nat}{A rest:List Value}{r0 r1 r2 r3:Value}(h:w.ownsRow B e size (.slice (some ⟨g,0,none⟩) n cap) n (A++r0::r1::r2::r3::rest))(hp:p=A.length):
  w.cell? ⟨g,p,none⟩=some r0/\w.cell? ⟨g,p+1,none⟩=some r1/\w.cell? ⟨g,p+2,none⟩=some r2/\w.cell? ⟨g,p+3,none⟩=some r3/\w.frozen? ⟨g,p,none⟩=false/\w.frozen? ⟨g,p+1,none⟩=false/\w.frozen? ⟨g,p+2,none⟩=false/\w.frozen? ⟨g,p+3,none⟩=false:=by
 subst hp
 have k0:=zbn h A.length r0 (by simp)
 have k1:=zbn h (A.length+1) r1 (by simp)
 have k2:=zbn h (A.length+2) r2 (by simp)
 have k3:=zbn h (A.length+3) r3 (by simp)
 exact ⟨k0.1,k1.1,k2.1,k3.1,k0.2,k1.2,k2.2,k3.2⟩
theorem zri {l:List Value}{n:Nat}(h:l.length=n*4)(hn:0<n):∃ r0 r1 r2 r3 rest,l=r0::r1::r2::r3::rest/\rest.length=(n - 1)*4:=by
 match l,h with
 | r0::r1::r2::r3::rest,h=>exact ⟨r0,r1,r2,r3,rest,rfl,by simp at h;omega⟩
 | [],h=>simp at h;omega
 | [_],h=>simp at h;omega
 | [_,_],h=>simp at h;omega
 | [_,_,_],h=>simp at h;omega
theorem zdF {w:World}{M:Nat}{e:TypeId}{u0 u1 u2 u3:Value}(h:w.heap[M]?=some (.cells [u0,u1,u2,u3].toArray e (0,0))):
  w.cell? ⟨M,0,none⟩=some u0/\w.cell? ⟨M,1,none⟩=some u1/\w.cell? ⟨M,2,none⟩=some u2/\w.cell? ⟨M,3,none⟩=some u3:=
 ⟨(zaa h).trans rfl,(zaa h).trans rfl,(zaa h).trans rfl,(zaa h).trans rfl⟩
theorem zpe {S:Nat->Prop}{w0 w:World}(h:Fr S w0 w){g:Nat}(hg:S g)(p:Nat)(u0 u1 u2 u3:Value):Fr S w0 ((((w.setCell ⟨g,p,none⟩ u0).setCell ⟨g,p+1,none⟩ u1).setCell ⟨g,p+2,none⟩ u2).setCell ⟨g,p+3,none⟩ u3):=
 (((h.setCell ⟨g,p,none⟩ (Or.inl hg) _).setCell ⟨g,p+1,none⟩ (Or.inl hg) _).setCell ⟨g,p+2,none⟩ (Or.inl hg) _).setCell ⟨g,p+3,none⟩ (Or.inl hg) _
end Go.Proofs.YtmmmnghiegajmaaGreat
set_option maxHeartbeats 8000000
namespace Go.Proofs.YtmmmnghiegajmaaGreat
open Go.RowKit Go.Proofs.Herald
structure SameH (w w':World):Prop where
 heap:w'.heap=w.heap
 os:w'.os=w.os
 tape:w'.tape=w.tape
 output:w'.output=w.output
theorem SameH.refl (w:World):SameH w w:=⟨rfl,rfl,rfl,rfl⟩
theorem SameH.drew {w w':World}(h:SameH w w'):SameH w w'.drew:=⟨h.heap,h.os,h.tape,h.output⟩
theorem SameH.cell {w w':World}(h:SameH w w')(p:Addr):w'.cell? p=w.cell? p:=World.cell?_of_block (by rw [h.heap])
theorem SameH.below {w w':World}(h:SameH w w')(B:Nat):Below B w w':=⟨h.os,h.tape,h.output,by rw [h.heap];exact Nat.le_refl _,fun k _=>by rw [h.heap]⟩
theorem zfh {k:Nat}:∀ (bs:List (Value×List Value)) (_:∀ b∈bs,b.2.length=k) (i:Nat) (hi:i<bs.length) (j:Nat) (_:j<k+1),(zaP bs)[i*(k+1)+j]?=(zcd bs[i])[j]?:=by
 intro bs
 induction bs with
 | nil=>intro _ i hi;simp at hi
 | cons b r ih=>
  intro h i hi j hj
  have hl:(zcd b).length=k+1:=by simp [zcd,h b (by simp)]
  simp only [zaP,List.flatMap_cons]
  cases i with
  | zero=>
   rw [List.getElem?_append_left (by rw [hl];omega)]
   simp
  | succ i=>
   rw [List.getElem?_append_right (by rw [hl,Nat.add_mul];omega)]
   have h1:=ih (fun x hx=>h x (by simp [hx])) i (by simpa using hi) j hj
   simp only [zaP] at h1
   have e:(i+1)*(k+1)+j - (zcd b).length=i*(k+1)+j:=by rw [hl,Nat.add_mul];omega
   rw [e,h1];simp
theorem zqj {w:World}{X:Nat->Prop}{e bT:TypeId}{g cap:Nat}{bs:List (Value×List Value)}(ho:w.ownsRow 0 bT 5 (.slice (some ⟨g,0,none⟩) bs.length cap) bs.length (zaP bs))(hb:∀ b∈bs,BookOk w X e 4 b)(i:Nat)(hi:i<bs.length):
  ∃ a n c i0 i1 i2 i3,n<=100000000/\w.cell? ⟨g,i*5,none⟩=some (.slice a n c)/\w.cell? ⟨g,i*5+1,none⟩=some (.int .i64 i0)/\w.cell? ⟨g,i*5+2,none⟩=some (.int .i64 i1)/\w.cell? ⟨g,i*5+3,none⟩=some (.int .i64 i2)/\w.cell? ⟨g,i*5+4,none⟩=some (.int .i64 i3) /\
   (0<n->∃ l,a=some ⟨l,0,none⟩/\∀ k,k<n->w.cell? ⟨l,k*4,none⟩=some (.int .i64 i0)/\w.cell? ⟨l,k*4+1,none⟩=some (.int .i64 i1)/\w.cell? ⟨l,k*4+2,none⟩=some (.int .i64 i2)/\w.cell? ⟨l,k*4+3,none⟩=some (.int .i64 i3))/\n<=c:=by
 have hlen:∀ b∈bs,b.2.length=4:=fun b hbm=>by obtain ⟨⟨is,h1,h2⟩,_⟩:=hb b hbm;rw [h1,List.length_map,h2]
 obtain ⟨⟨is,h1,h2⟩,n,hn,hown,_⟩:=hb bs[i] (List.getElem_mem hi)
 obtain ⟨a,c,hv⟩:=zag hown
 match is,h2 with
 | [i0,i1,i2,i3],_=>
  have hbc:zcd bs[i]=[.slice a n c,.int .i64 i0,.int .i64 i1,.int .i64 i2,.int .i64 i3]:=by simp [zcd,hv,h1]
  have get:∀ j u,j<5->(zcd bs[i])[j]?=some u->w.cell? ⟨g,i*5+j,none⟩=some u:=fun j u hj hu=>(zbn ho (i*5+j) u (by rw [zfh bs hlen i hi j hj];exact hu)).1
  refine ⟨a,n,c,i0,i1,i2,i3,hn,get 0 _ (by omega) (by rw [hbc];rfl),get 1 _ (by omega) (by rw [hbc];rfl),get 2 _ (by omega) (by rw [hbc];rfl),get 3 _ (by omega) (by rw [hbc];rfl),get 4 _ (by omega) (by rw [hbc];rfl),fun hp=>?_,?_⟩
  .obtain ⟨l,c',hv',_⟩:=hown.form hp
   have hv2:=hv.symm.trans hv'
   simp at hv2
   obtain ⟨rfl,rfl⟩:=hv2
   refine ⟨l,rfl,fun k hk=>?_⟩
   rw [hv,h1] at hown
   have gm:∀ j u,j<4->([Value.int .i64 i0,.int .i64 i1,.int .i64 i2,.int .i64 i3])[j]?=some u->w.cell? ⟨l,k*4+j,none⟩=some u:=fun j u hj hu=>(zbn hown (k*4+j) u (by
    have:=zjq ([i0,i1,i2,i3].map (fun z=>Value.int .i64 z)) n k j hk (by simpa using hj)
    simp only [List.length_map,List.length_cons,List.length_nil] at this
    rw [this];exact hu)).1
   exact ⟨gm 0 _ (by omega) rfl,gm 1 _ (by omega) rfl,gm 2 _ (by omega) rfl,gm 3 _ (by omega) rfl⟩
  .rw [hv] at hown;exact (zdh hown).1
theorem zqW {w:World}{X:Nat->Prop}{e bT:TypeId}{g cap:Nat}{bs:List (Value×List Value)}(ho:w.ownsRow 0 bT 6 (.slice (some ⟨g,0,none⟩) bs.length cap) bs.length (zaP bs))(hb:∀ b∈bs,BookOk w X e 5 b)(i:Nat)(hi:i<bs.length):
  ∃ a n c i0 i1 i2 i3 i4,n<=100000000/\w.cell? ⟨g,i*6,none⟩=some (.slice a n c)/\w.cell? ⟨g,i*6+1,none⟩=some (.int .i64 i0)/\w.cell? ⟨g,i*6+2,none⟩=some (.int .i64 i1)/\w.cell? ⟨g,i*6+3,none⟩=some (.int .i64 i2)/\w.cell? ⟨g,i*6+4,none⟩=some (.int .i64 i3)/\w.cell? ⟨g,i*6+5,none⟩=some (.int .i64 i4) /\
   (0<n->∃ l,a=some ⟨l,0,none⟩/\∀ k,k<n->w.cell? ⟨l,k*5,none⟩=some (.int .i64 i0)/\w.cell? ⟨l,k*5+1,none⟩=some (.int .i64 i1)/\w.cell? ⟨l,k*5+2,none⟩=some (.int .i64 i2)/\w.cell? ⟨l,k*5+3,none⟩=some (.int .i64 i3)/\w.cell? ⟨l,k*5+4,none⟩=some (.int .i64 i4))/\n<=c:=by
 have hlen:∀ b∈bs,b.2.length=5:=fun b hbm=>by obtain ⟨⟨is,h1,h2⟩,_⟩:=hb b hbm;rw [h1,List.length_map,h2]
 obtain ⟨⟨is,h1,h2⟩,n,hn,hown,_⟩:=hb bs[i] (List.getElem_mem hi)
 obtain ⟨a,c,hv⟩:=zag hown
 match is,h2 with
 | [i0,i1,i2,i3,i4],_=>
  have hbc:zcd bs[i]=[.slice a n c,.int .i64 i0,.int .i64 i1,.int .i64 i2,.int .i64 i3,.int .i64 i4]:=by simp [zcd,hv,h1]
  have get:∀ j u,j<6->(zcd bs[i])[j]?=some u->w.cell? ⟨g,i*6+j,none⟩=some u:=fun j u hj hu=>(zbn ho (i*6+j) u (by rw [zfh bs hlen i hi j hj];exact hu)).1
  refine ⟨a,n,c,i0,i1,i2,i3,i4,hn,get 0 _ (by omega) (by rw [hbc];rfl),get 1 _ (by omega) (by rw [hbc];rfl),get 2 _ (by omega) (by rw [hbc];rfl),get 3 _ (by omega) (by rw [hbc];rfl),get 4 _ (by omega) (by rw [hbc];rfl),get 5 _ (by omega) (by rw [hbc];rfl),fun hp=>?_,?_⟩
  .obtain ⟨l,c',hv',_⟩:=hown.form hp
   have hv2:=hv.symm.trans hv'
   simp at hv2
   obtain ⟨rfl,rfl⟩:=hv2
   refine ⟨l,rfl,fun k hk=>?_⟩
   rw [hv,h1] at hown
   have gm:∀ j u,j<5->([Value.int .i64 i0,.int .i64 i1,.int .i64 i2,.int .i64 i3,.int .i64 i4])[j]?=some u->w.cell? ⟨l,k*5+j,none⟩=some u:=fun j u hj hu=>(zbn hown (k*5+j) u (by
    have:=zjq ([i0,i1,i2,i3,i4].map (fun z=>Value.int .i64 z)) n k j hk (by simpa using hj)
    simp only [List.length_map,List.length_cons,List.length_nil] at this
    rw [this];exact hu)).1
   exact ⟨gm 0 _ (by omega) rfl,gm 1 _ (by omega) rfl,gm 2 _ (by omega) rfl,gm 3 _ (by omega) rfl,gm 4 _ (by omega) rfl⟩
  .rw [hv] at hown;exact (zdh hown).1
set_option maxRecDepth 20000 in
theorem zoC (X:Nat->Prop)(O:Nat)(n:Int)(cv rv qv:Value)(cb rb qb:List (Value×List Value))(w:World)(h:OwnAt w X O n cv rv qv cb rb qb)(hcb:cb.length<=100000000)(hrb:rb.length<=100000000)(hqb:qb.length<=100000000):
  Calls Tryz.prog 14 #[.pointer (some ⟨O,0,none⟩)] w fun e w'=>e=.returned (.bool true)/\SameH w w':=by
 obtain ⟨ac,capc,rfl⟩:=zag h.cown
 obtain ⟨ar,capr,rfl⟩:=zag h.rown
 obtain ⟨aq,capq,rfl⟩:=zag h.qown
 have HC:Hid (w.cell? ⟨O,1,none⟩=some (.slice ac cb.length capc)/\w.cell? ⟨O,2,none⟩=some (.slice ar rb.length capr)/\w.cell? ⟨O,3,none⟩=some (.slice aq qb.length capq)):=⟨(zaa h.blk).trans rfl,(zaa h.blk).trans rfl,(zaa h.blk).trans rfl⟩
 have HO:=zHd h
 clear h
 have hcc:=(zdh HO.out.cown).1
 have hcr:=(zdh HO.out.rown).1
 have hcq:=(zdh HO.out.qown).1
 go_enter Tryz.func14,Tryz.ntmps14
 go_wp2_with fail
 go_loopw [3] (fun i wr=>∃ j:Nat,j<=cb.length/\i=.int .i64 j/\Hid (SameH w wr)) (fun i _=>cb.length - (intOf i).toNat)
 case atStart=>exact ⟨0,Nat.zero_le _,rfl,SameH.refl _⟩
 case round=>
  obtain ⟨j0,hj0,rfl,HS0⟩:=hrel
  have o0:wr.cell? ⟨O,1,none⟩=some (.slice ac cb.length capc):=(HS0.out.cell _).trans HC.out.1
  by_cases hlt0:j0<cb.length
  .obtain ⟨g,cap',hv,_,_⟩:=HO.out.cown.form (by omega)
   simp at hv
   obtain ⟨rfl,rfl⟩:=hv
   obtain ⟨a,n2,c,i0,i1,i2,i3,hn2,b0,b1,b2,b3,b4,hlist,hnc⟩:=zqj HO.out.cown HO.out.cbk j0 hlt0
   rw [<- HS0.out.cell] at b0
   rw [<- HS0.out.cell] at b1
   rw [<- HS0.out.cell] at b2
   rw [<- HS0.out.cell] at b3
   rw [<- HS0.out.cell] at b4
   have HLI:=zHd hlist
   clear hlist
   go_wp2_with fail
   go_loopw [4] (fun i wr2=>∃ k:Nat,k<=n2/\i=.int .i64 k/\Hid (SameH w wr2)) (fun i _=>n2 - (intOf i).toNat)
   case atStart=>exact ⟨0,Nat.zero_le _,rfl,HS0⟩
   case round=>
    obtain ⟨k,hk,rfl,HT⟩:=hrel
    rw [HS0.out.cell,<- HT.out.cell] at o0 b0 b1 b2 b3 b4
    by_cases hk2:k<n2
    .obtain ⟨l,rfl,hcl⟩:=HLI.out (by omega)
     obtain ⟨e0,e1,e2,e3⟩:=hcl k hk2
     rw [<- HT.out.cell] at e0 e1 e2 e3
     clear hcl
     go_wp2_with fail
     go_region
     all_goals
      go_wp2_with fail
      go_roundw
      case rel=>exact ⟨k+1,by omega,by go_num,HT.out.drew⟩
      case measure=>simp [intOf];omega
    .go_wp2_with fail
     go_roundw
     case rel=>exact ⟨j0+1,by omega,by go_num,HT⟩
     case measure=>simp [intOf];omega
  .go_wp2_with fail
   clear o0
   go_loopw [5] (fun i wr=>∃ j:Nat,j<=rb.length/\i=.int .i64 j/\Hid (SameH w wr)) (fun i _=>rb.length - (intOf i).toNat)
   case atStart=>exact ⟨0,Nat.zero_le _,rfl,HS0⟩
   case round=>
    obtain ⟨j1,hj1,rfl,HS1⟩:=hrel
    have o1:wr.cell? ⟨O,2,none⟩=some (.slice ar rb.length capr):=(HS1.out.cell _).trans HC.out.2.1
    by_cases hlt1:j1<rb.length
    .obtain ⟨g,cap',hv,_,_⟩:=HO.out.rown.form (by omega)
     simp at hv
     obtain ⟨rfl,rfl⟩:=hv
     obtain ⟨a,n2,c,i0,i1,i2,i3,i4,hn2,b0,b1,b2,b3,b4,b5,hlist,hnc⟩:=zqW HO.out.rown HO.out.rbk j1 hlt1
     rw [<- HS1.out.cell] at b0
     rw [<- HS1.out.cell] at b1
     rw [<- HS1.out.cell] at b2
     rw [<- HS1.out.cell] at b3
     rw [<- HS1.out.cell] at b4
     rw [<- HS1.out.cell] at b5
     have HLI:=zHd hlist
     clear hlist
     go_wp2_with fail
     go_loopw [6] (fun i wr2=>∃ k:Nat,k<=n2/\i=.int .i64 k/\Hid (SameH w wr2)) (fun i _=>n2 - (intOf i).toNat)
     case atStart=>exact ⟨0,Nat.zero_le _,rfl,HS1⟩
     case round=>
      obtain ⟨k,hk,rfl,HT⟩:=hrel
      rw [HS1.out.cell,<- HT.out.cell] at o1 b0 b1 b2 b3 b4 b5
      by_cases hk2:k<n2
      .obtain ⟨l,rfl,hcl⟩:=HLI.out (by omega)
       obtain ⟨e0,e1,e2,e3,e4⟩:=hcl k hk2
       rw [<- HT.out.cell] at e0 e1 e2 e3 e4
       clear hcl
       go_wp2_with fail
       go_region
       all_goals
        go_wp2_with fail
        go_roundw
        case rel=>exact ⟨k+1,by omega,by go_num,HT.out.drew⟩
        case measure=>simp [intOf];omega
      .go_wp2_with fail
       go_roundw
       case rel=>exact ⟨j1+1,by omega,by go_num,HT⟩
       case measure=>simp [intOf];omega
    .go_wp2_with fail
     clear o1
     go_loopw [7] (fun i wr=>∃ j:Nat,j<=qb.length/\i=.int .i64 j/\Hid (SameH w wr)) (fun i _=>qb.length - (intOf i).toNat)
     case atStart=>exact ⟨0,Nat.zero_le _,rfl,HS1⟩
     case round=>
      obtain ⟨j2,hj2,rfl,HS2⟩:=hrel
      have o2:wr.cell? ⟨O,3,none⟩=some (.slice aq qb.length capq):=(HS2.out.cell _).trans HC.out.2.2
      by_cases hlt2:j2<qb.length
      .obtain ⟨g,cap',hv,_,_⟩:=HO.out.qown.form (by omega)
       simp at hv
       obtain ⟨rfl,rfl⟩:=hv
       obtain ⟨a,n2,c,i0,i1,i2,i3,hn2,b0,b1,b2,b3,b4,hlist,hnc⟩:=zqj HO.out.qown HO.out.qbk j2 hlt2
       rw [<- HS2.out.cell] at b0
       rw [<- HS2.out.cell] at b1
       rw [<- HS2.out.cell] at b2
       rw [<- HS2.out.cell] at b3
       rw [<- HS2.out.cell] at b4
       have HLI:=zHd hlist
       clear hlist
       go_wp2_with fail
       go_loopw [8] (fun i wr2=>∃ k:Nat,k<=n2/\i=.int .i64 k/\Hid (SameH w wr2)) (fun i _=>n2 - (intOf i).toNat)
       case atStart=>exact ⟨0,Nat.zero_le _,rfl,HS2⟩
       case round=>
        obtain ⟨k,hk,rfl,HT⟩:=hrel
        rw [HS2.out.cell,<- HT.out.cell] at o2 b0 b1 b2 b3 b4
        by_cases hk2:k<n2
        .obtain ⟨l,rfl,hcl⟩:=HLI.out (by omega)
         obtain ⟨e0,e1,e2,e3⟩:=hcl k hk2
         rw [<- HT.out.cell] at e0 e1 e2 e3
         clear hcl
         go_wp2_with fail
         go_region
         all_goals
          go_wp2_with fail
          go_roundw
          case rel=>exact ⟨k+1,by omega,by go_num,HT.out.drew⟩
          case measure=>simp [intOf];omega
        .go_wp2_with fail
         go_roundw
         case rel=>exact ⟨j2+1,by omega,by go_num,HT⟩
         case measure=>simp [intOf];omega
      .go_wp2_with fail
       go_ret
       exact ⟨rfl,HS2.out⟩
end Go.Proofs.YtmmmnghiegajmaaGreat
set_option maxHeartbeats 4000000
namespace Go.Proofs.YtmmmnghiegajmaaGreat
open Go.RowKit Go.Proofs.Herald
def Msg.ins (m:Msg):Ins:=⟨m.dev,m.run,m.num,m.key⟩
def zak (q:List Msg):List Value:=zai (q.map Msg.ins)
def upd {α:Type}(f:Nat->α)(d:Nat)(v:α)(k:Nat):α:=if k=d then v else f k
theorem zaM {α:Type}(f:Nat->α)(d:Nat)(v:α):upd f d v d=v:=if_pos rfl
theorem zaG {α:Type}(f:Nat->α){d k:Nat}(v:α)(h:k≠d):upd f d v k=f k:=if_neg h
theorem zbH (q:List Msg):(zak q).length=q.length*4:=by unfold zak;rw [zaF,List.length_map]
structure Md where
 tx:Bool
 pg:Value
 code:Value
 yv:Value
 nv:Value
structure SimCore (w:World)(S Q P R:Nat)(cv:Md)(pv:Value)(rec:ByteArray)(now last:Int)(qv:Nat->Value)(qs:Nat->List Msg)(p:Pr):Prop where
 sB:w.heap[S]?=some (.cells #[.bool cv.tx,cv.pg,cv.code,.int .i64 now,.int .i64 last,pv,.slice (some ⟨Q,0,none⟩) 3 3,.string rec] 60 (0,0))
 qB:w.heap[Q]?=some (.cells #[qv 0,qv 1,qv 2] 99 (0,0))
 oB:∀ d,d<3->w.ownsRow 0 87 4 (qv d) (qs d).length (zak (qs d))
 dis:∀ d e b,d<3->e<3->(qv d).ownBlock=some b->(qv e).ownBlock=some b->d=e
 pB:w.heap[P]?=some (.cells #[.int .i64 p.id,.int .i64 p.dev,.int .i64 p.sent,.int .i64 p.til,.int .i64 p.num,cv.yv,cv.nv,.slice (some ⟨R,0,none⟩) 12 12,.int .i64 p.tow,.int .i64 p.els] 147 (0,0))
 rB:w.heap[R]?=some (.cells (p.regs.map fun z=>Value.int .i64 z).toArray 3 (0,0))
 rl:p.regs.length=12
theorem SimCore.keep {w w':World}{S Q P R:Nat}{cv:Md}{pv:Value}{rec:ByteArray}{now last:Int}{qv:Nat->Value}{qs:Nat->List Msg}{p:Pr}(h:SimCore w S Q P R cv pv rec now last qv qs p)(hk:∀ k,k<w.heap.size->w'.heap[k]?=w.heap[k]?):
  SimCore w' S Q P R cv pv rec now last qv qs p:=
 ⟨(hk S (zae h.sB)).trans h.sB,(hk Q (zae h.qB)).trans h.qB,fun d hd=>zaj (h.oB d hd) fun b hb=>by obtain ⟨c,hc⟩:=zad (h.oB d hd) hb;exact hk b (zae hc),h.dis,(hk P (zae h.pB)).trans h.pB,(hk R (zae h.rB)).trans h.rB,h.rl⟩
theorem SimCore.below {w w':World}{S Q P R:Nat}{cv:Md}{pv:Value}{rec:ByteArray}{now last:Int}{qv:Nat->Value}{qs:Nat->List Msg}{p:Pr}(h:SimCore w S Q P R cv pv rec now last qv qs p)(hb:Below w.heap.size w w'):SimCore w' S Q P R cv pv rec now last qv qs p:=
 h.keep fun k hk=>hb.block k hk
theorem SimCore.setP {w:World}{S Q P R:Nat}{cv:Md}{pv:Value}{rec:ByteArray}{now last:Int}{qv:Nat->Value}{qs:Nat->List Msg}{p p':Pr}(h:SimCore w S Q P R cv pv rec now last qv qs p)(j:Nat)(u:Value)(hr:p'.regs=p.regs)
  (hc:(#[.int .i64 p.id,.int .i64 p.dev,.int .i64 p.sent,.int .i64 p.til,.int .i64 p.num,cv.yv,cv.nv,.slice (some ⟨R,0,none⟩) 12 12,.int .i64 p.tow,.int .i64 p.els]:Array Value).setIfInBounds j u =
   #[.int .i64 p'.id,.int .i64 p'.dev,.int .i64 p'.sent,.int .i64 p'.til,.int .i64 p'.num,cv.yv,cv.nv,.slice (some ⟨R,0,none⟩) 12 12,.int .i64 p'.tow,.int .i64 p'.els]):
  SimCore (w.setCell ⟨P,j,none⟩ u) S Q P R cv pv rec now last qv qs p':=by
 refine ⟨?_,?_,fun d hd=>zaj (h.oB d hd) fun b hb=>?_,h.dis,?_,?_,by rw [hr];exact h.rl⟩
 .rw [Below.heap_setCell _ _ _ _ (zac h.sB h.pB (by decide))];exact h.sB
 .rw [Below.heap_setCell _ _ _ _ (zac h.qB h.pB (by decide))];exact h.qB
 .obtain ⟨c,hc⟩:=zad (h.oB d hd) hb
  exact Below.heap_setCell _ _ _ _ (zac hc h.pB (by decide))
 .rw [zah _ h.pB,hc]
 .rw [Below.heap_setCell _ _ _ _ (zac h.rB h.pB (by decide)),hr];exact h.rB
theorem zqJ (S Q P R:Nat)(cv:Md)(pv:Value)(rec:ByteArray)(now last:Int)(qv:Nat->Value)(qs:Nat->List Msg)(p:Pr)(n num:Int)(w:World)(h:SimCore w S Q P R cv pv rec now last qv qs p)(h1:-1000000000000<=now+n)(h2:now+n<=1000000000000):
  Calls Tryz.prog 97 #[.pointer (some ⟨S,0,none⟩),.pointer (some ⟨P,0,none⟩),.int .i64 n,.int .i64 num] w fun e w'=>e=.returned (.tuple #[])/\SimCore w' S Q P R cv pv rec now last qv qs (zbL p now n num)/\Fr (fun k=>k=P) w w':=by
 have c3:w.cell? ⟨S,3,none⟩=some (.int .i64 now):=(zaa h.sB).trans rfl
 have p3:w.cell? ⟨P,3,none⟩=some (.int .i64 p.til):=(zaa h.pB).trans rfl
 have p4:w.cell? ⟨P,4,none⟩=some (.int .i64 p.num):=(zaa h.pB).trans rfl
 have z3:w.frozen? ⟨P,3,none⟩=false:=zab h.pB
 have z4:w.frozen? ⟨P,4,none⟩=false:=zab h.pB
 have HH:=zHd h
 clear h
 go_enter Tryz.func97,Tryz.ntmps97
 go_wp2_with fail
 go_end0
 refine ⟨rfl,?_,((Fr.refl (fun k=>k=P) _).setCell ⟨P,3,none⟩ (Or.inl rfl) _).setCell ⟨P,4,none⟩ (Or.inl rfl) _⟩
 exact (HH.out.setP (p':={p with til:=now+n}) 3 _ rfl rfl).setP (p':=zbL p now n num) 4 _ rfl rfl
theorem zk1 {α:Type}(f:Nat->α)(d:Nat)(hd:d<3):#[f 0,f 1,f 2][d]?=some (f d):=by
 match d,hd with
 | 0,_=>rfl
 | 1,_=>rfl
 | 2,_=>rfl
theorem zd5 {w:World}{g cap k:Nat}{q:List Msg}(h:w.ownsRow 0 87 4 (.slice (some ⟨g,0,none⟩) q.length cap) q.length (zak q))(hk:k<q.length):
  w.cell? ⟨g,k*4,none⟩=some (.int .i64 q[k].dev)/\w.cell? ⟨g,k*4+1,none⟩=some (.int .i64 q[k].run)/\w.cell? ⟨g,k*4+2,none⟩=some (.int .i64 q[k].num)/\w.cell? ⟨g,k*4+3,none⟩=some (.int .i64 q[k].key):=by
 have hk2:k<(q.map Msg.ins).length:=by simpa using hk
 have get:∀ j u,j<4->(za1 (Msg.ins q[k]))[j]?=some u->w.cell? ⟨g,k*4+j,none⟩=some u:=fun j u hj hu=>(zbn h (k*4+j) u (by
  unfold zak
  rw [zbS (q.map Msg.ins) k hk2 j hj,List.getElem_map]
  exact hu)).1
 exact ⟨get 0 _ (by omega) rfl,get 1 _ (by omega) rfl,get 2 _ (by omega) rfl,get 3 _ (by omega) rfl⟩
set_option maxRecDepth 20000 in
theorem zlF (S Q P R:Nat)(cv:Md)(pv:Value)(rec:ByteArray)(now last:Int)(qv:Nat->Value)(qs:Nat->List Msg)(p:Pr)(num:Int)(d:Nat)(w:World)(h:SimCore w S Q P R cv pv rec now last qv qs p)(hd:d<3)(hdev:p.dev=(d:Nat))(hl:(qs d).length<=4):
  Calls Tryz.prog 74 #[.pointer (some ⟨S,0,none⟩),.pointer (some ⟨P,0,none⟩),.int .i64 num] w fun e w'=>e=.returned (.bool (zjk (qs d) p.id num))/\SameH w w':=by
 obtain ⟨a,cap,hv⟩:=zag (h.oB d hd)
 have c6:w.cell? ⟨S,6,none⟩=some (.slice (some ⟨Q,0,none⟩) 3 3):=(zaa h.sB).trans rfl
 have cq:w.cell? ⟨Q,d,none⟩=some (.slice a (qs d).length cap):=by rw [zaa h.qB,zk1 qv d hd,hv]
 have p0:w.cell? ⟨P,0,none⟩=some (.int .i64 p.id):=(zaa h.pB).trans rfl
 have p1:w.cell? ⟨P,1,none⟩=some (.int .i64 (d:Nat)):=by rw [<- hdev];exact (zaa h.pB).trans rfl
 have HO:Hid (w.ownsRow 0 87 4 (.slice a (qs d).length cap) (qs d).length (zak (qs d))):=by rw [<- hv];exact h.oB d hd
 clear h hv hdev
 generalize qs d=q at *
 go_enter Tryz.func74,Tryz.ntmps74
 go_wp2_with fail
 go_loopw [8] (fun i wr=>∃ k:Nat,k<=q.length/\i=.int .i64 k/\Hid (SameH w wr)/\Hid ((q.take k).any (fun m=>m.run==p.id && m.num==num)=false)) (fun i _=>q.length - (intOf i).toNat)
 case atStart=>exact ⟨0,Nat.zero_le _,rfl,SameH.refl _,by show _=_;simp⟩
 case round=>
  obtain ⟨k,hk,rfl,HS,HT⟩:=hrel
  rw [<- HS.out.cell] at c6 cq p0 p1
  by_cases hlt:k<q.length
  .obtain ⟨g,cap',hv,_,_⟩:=HO.out.form (by omega)
   simp at hv
   obtain ⟨rfl,rfl⟩:=hv
   obtain ⟨e0,e1,e2,e3⟩:=zd5 HO.out hlt
   rw [<- HS.out.cell] at e0 e1 e2 e3
   have HYES:Hid (q[k].run=p.id->q[k].num=num->zjk q p.id num=true):=fun h1 h2=>by
    unfold zjk
    rw [List.any_eq_true]
    exact ⟨q[k],List.getElem_mem hlt,by simp [h1,h2]⟩
   have HNO:Hid (¬ (q[k].run=p.id/\q[k].num=num)->(q.take (k+1)).any (fun m=>m.run==p.id && m.num==num)=false):=fun h1=>by
    rw [List.take_succ_eq_append_getElem hlt,List.any_append,HT.out]
    simp
    exact fun h2 h3=>h1 ⟨h2,h3⟩
   generalize q[k]=m at *
   by_cases hr:m.run=p.id
   .have b1:(m.run==p.id)=true:=by simpa using hr
    by_cases hn:m.num=num
    .have b2:(m.num==num)=true:=by simpa using hn
     have HY:Hid (_=_):=HYES.out hr hn
     clear hr hn HYES HNO
     go_wp2_with fail
     go_region
     all_goals
      go_wp2_with fail
      go_ret
      exact ⟨zau HY.out.symm,HS.out.drew⟩
    .have b2:(m.num==num)=false:=by simpa using hn
     have HN:Hid (_=_):=HNO.out (fun h=>hn h.2)
     clear hr hn HYES HNO
     go_wp2_with fail
     go_region
     all_goals
      go_wp2_with fail
      go_roundw
      case rel=>exact ⟨k+1,by omega,by go_num,HS.out.drew,HN⟩
      case measure=>simp [intOf];omega
   .have b1:(m.run==p.id)=false:=by simpa using hr
    have HN:Hid (_=_):=HNO.out (fun h=>hr h.1)
    clear hr HYES HNO
    go_wp2_with fail
    go_region
    all_goals
     go_wp2_with fail
     go_roundw
     case rel=>exact ⟨k+1,by omega,by go_num,HS.out.drew,HN⟩
     case measure=>simp [intOf];omega
  .have HE:Hid (q.take k=q):=List.take_of_length_le (by omega)
   go_wp2_with fail
   go_ret
   exact ⟨zau (by unfold zjk;have h:=HT.out;rw [HE.out] at h;exact h.symm),HS.out⟩
end Go.Proofs.YtmmmnghiegajmaaGreat
