import Derived.Test.YtmmmnghiegajmaaGreatM32
import Derived.Test.YtmmmnghiegajmaaGreatM28
import Derived.Test.YtmmmnghiegajmaaGreatM48
import Derived.Test.YtmmmnghiegajmaaGreatM16
set_option maxHeartbeats 2000000
open Go.RowKit Go.Proofs.Herald Go.Proofs.Tryz
namespace Go.Proofs.YtmmmnghiegajmaaGreat
theorem BY (X:Nat->Prop)(O:Nat)(n:Int)(cv rv qv:Value)(cb rb qb:List (Value×List Value))(a:Option Addr)(nl cap:Nat)(xs:List Value)(w:World)(hn0:0<=n)(hn1:n<=900000000)(hnl:nl<=1000000)(hcb:cb.length<=10000000)
  (h:dn w X O n cv rv qv cb rb qb) (hl:w.ownsRow 0 91 4 (.slice a nl cap) nl xs) (hlX:∀ b,(Value.slice a nl cap).ownBlock=some b->¬ X b):
  Calls prog 20 #[.pointer (some ⟨O,0,none⟩),.slice a nl cap] w fun e w'=>e=.returned (.tuple #[]) /\
   ∃ cv' cb',cb'.length=cb.length+4/\dn w' (mu X w w' (.slice a nl cap) (.slice a nl cap)) O (n+1) cv' rv qv cb' rb qb/\Fr (fun k=>X k\/(Value.slice a nl cap).ownBlock=some k) w w':=by
 refine(Dp O n cv rv qv cb a nl cap xs w hn0 hn1 hnl hcb h.blk h.cown hl).mono ?_;rintro e w' ⟨rfl,v,v1,v2,v3,B1⟩;obtain⟨w0,A2⟩:∃ W,W=w.setCell ⟨O,0,none⟩ (.int .i64 (n+1)):=⟨_,rfl⟩;rw[<- A2]at B1;have hs0:w0.heap.size=w.heap.size:=by rw[A2,ef]
 have A6:=B1.fr.size;have A0:∀ {b:Nat} {cur:Array Value} {e:TypeId},w.heap[b]?=some (.cells cur e (0,0))->e≠28->e≠93->(Value.slice a nl cap).ownBlock≠some b->w'.heap[b]?=some (.cells cur e (0,0)):=fun {b cur e} hb h1 h2 h3=>by
  have A4:w0.heap[b]?=some (.cells cur e (0,0)):=by rw[A2,q8 _ _ _ _ (aA hb h.blk h1)];exact hb
  rw[B1.fr.block b (ak A4) (fun hh=>?_)]
  .exact A4
  .rcases hh with rfl|hh|hh
   .exact aA hb h.blk h1 rfl
   .obtain⟨c,hc⟩:=ax h.cown hh;exact aA hb hc h2 rfl
   .exact h3 hh
 have A1:∀ {b:Nat},X b->∀ {o:Obj},w.heap[b]?=some o->mu X w w' (.slice a nl cap) (.slice a nl cap) b:=fun {b} hb {o} ho=>⟨by have:=ak ho;omega,Or.inl hb⟩;have A3:∀ {b:Nat} {cur:Array Value} {e:TypeId},w.heap[b]?=some (.cells cur e (0,0))->e≠91->(Value.slice a nl cap).ownBlock≠some b:=fun {b cur e} hb he hh=>by
  obtain⟨c2,A5⟩:=ax hl hh;exact aA hb A5 he rfl
 refine⟨rfl,v,cb++[(.slice a nl cap,[.int .i64 (-(n+1)),.int .i64 0,.int .i64 0,.int .i64 0]),(v1,[.int .i64 (-(n+1)),.int .i64 0,.int .i64 0,.int .i64 0]),(v2,[.int .i64 (-(n+1)),.int .i64 0,.int .i64 0,.int .i64 0]),(v3,[.int .i64 (-(n+1)),.int .i64 0,.int .i64 0,.int .i64 0])],?_,⟨B1.o,A1 h.inO h.blk,B1.rown,?_,?_,?_,?_,?_,?_,?_,?_⟩,?_⟩
 .simp
 .exact aT h.rown fun b hb=>by
   obtain⟨c,hc⟩:=ax h.rown hb;rw[A0 hc (by decide) (by decide) (A3 hc (by decide)),hc]
 .exact aT h.qown fun b hb=>by
   obtain⟨c,hc⟩:=ax h.qown hb;rw[A0 hc (by decide) (by decide) (A3 hc (by decide)),hc]
 .intro b hb;obtain⟨c,hc⟩:=ax B1.rown hb;refine⟨ak hc,?_⟩;rcases B1.rat b hb with h1|h1
  .exact Or.inl (h.cin b h1)
  .exact Or.inr (Or.inr (Or.inr (by omega)))
 .intro b hb;obtain⟨c,hc⟩:=ax h.rown hb;exact A1 (h.rin b hb) hc
 .intro b hb;obtain⟨c,hc⟩:=ax h.qown hb;exact A1 (h.qin b hb) hc
 .have new:∀ x nx,nx<=100000000->w'.ownsRow 0 91 4 x nx (cO [.int .i64 (-(n+1)),.int .i64 0,.int .i64 0,.int .i64 0] nx)->(∀ b,x.ownBlock=some b->(Value.slice a nl cap).ownBlock=some b\/w0.heap.size<=b) ->
    dv w' (mu X w w' (.slice a nl cap) (.slice a nl cap)) 91 4 (x,[.int .i64 (-(n+1)),.int .i64 0,.int .i64 0,.int .i64 0]):=fun x nx hnx hx hxb=>by
   refine⟨⟨[-(n+1),0,0,0],rfl,rfl⟩,nx,hnx,hx,fun g hg=>?_⟩;obtain⟨c,hc⟩:=ax hx hg;refine⟨ak hc,?_⟩;rcases hxb g hg with h1|h1
   .exact Or.inr (Or.inl h1)
   .exact Or.inr (Or.inr (Or.inr (by omega)))
  intro b hb;rw[List.mem_append]at hb;rcases hb with hb|hb
  .obtain⟨h1,m,hm,h2,h3⟩:=h.cbk b hb;refine⟨h1,m,hm,aT h2 fun g hg=>?_,fun g hg=>?_⟩
   .obtain⟨c,hc⟩:=ax h2 hg;rw[A0 hc (by decide) (by decide) (fun e=>hlX g e (h3 g hg)),hc]
   .obtain⟨c,hc⟩:=ax h2 hg;exact A1 (h3 g hg) hc
  .simp only[List.mem_cons,List.not_mem_nil,or_false]at hb;rcases hb with rfl|rfl|rfl|rfl
   .exact new _ nl (by omega) B1.lown (fun b hb=>Or.inl hb)
   .obtain⟨k1,_,k3⟩:=B1.kins (v1,nl+1) (by simp);exact new _ _ (by omega) k1 k3
   .obtain⟨k1,_,k3⟩:=B1.kins (v2,nl+2) (by simp);exact new _ _ (by omega) k1 k3
   .obtain⟨k1,_,k3⟩:=B1.kins (v3,nl+3) (by simp);exact new _ _ (by omega) k1 k3
 .intro b hb;obtain⟨h1,m,hm,h2,h3⟩:=h.rbk b hb;refine⟨h1,m,hm,aT h2 fun g hg=>?_,fun g hg=>?_⟩
  .obtain⟨c,hc⟩:=ax h2 hg;rw[A0 hc (by decide) (by decide) (A3 hc (by decide)),hc]
  .obtain⟨c,hc⟩:=ax h2 hg;exact A1 (h3 g hg) hc
 .intro b hb;obtain⟨h1,m,hm,h2,h3⟩:=h.qbk b hb;refine⟨h1,m,hm,aT h2 fun g hg=>?_,fun g hg=>?_⟩
  .obtain⟨c,hc⟩:=ax h2 hg;rw[A0 hc (by decide) (by decide) (A3 hc (by decide)),hc]
  .obtain⟨c,hc⟩:=ax h2 hg;exact A1 (h3 g hg) hc
 .have f0:Fr (fun k=>X k\/(Value.slice a nl cap).ownBlock=some k) w w0:=by
   rw[A2];exact(Fr.refl _ w).setCell ⟨O,0,none⟩ (Or.inl (Or.inl h.inO)) _
  have f1:Fr (fun k=>X k\/(Value.slice a nl cap).ownBlock=some k) w0 w':=B1.fr.mono fun k _ hk=>by
   rcases hk with rfl|hk|hk
   .exact Or.inl h.inO
   .exact Or.inl (h.cin k hk)
   .exact Or.inr hk
  exact f0.trans f1
theorem Bi (a:Option Addr)(b off cap:Nat)(cs:List am)(w:World)(hc:aH w a b off cs)(hn:cs.length<=1000):
  Calls prog 19 #[.slice a cs.length cap] w fun e w'=>∃ S,w.heap.size<=S/\e=.returned (.slice (some ⟨S,0,none⟩) cs.length cs.length)/\w'.heap[S]?=some (.cells (aZ cs).toArray 91)/\Below w.heap.size w w':=by
 obtain⟨i0,hi,B1,A6,B2⟩:=info_parts Tryz.infoInstr;have HC:=ah hc;clear hc;go_enter func19,ntmps19
 go_wp2_with (at_make;refine wpList_make_full _ rfl _ _ 29 rfl w.heap.size 91 i0 _ 4 underlying29 hi B1 A6 _ _ _ _ cs.length rfl rfl (by go_num) (by go_num) (by rw[B2];omega) (by unfold maxLen;omega) (v9 _) ?_)
 intro w1 hown1 hgrow1;obtain⟨Z,hZ⟩:∃ Z:List Value,Z=(madeCells #[.int .i64 0,.int .i64 0,.int .i64 0,.int .i64 0] (cs.length*4)).toList:=⟨_,rfl⟩;rw[<- hZ]at hown1;have A4:Hid (Z.length=cs.length*4):=hown1.1;have A3:Hid (w1.heap[w.heap.size]?=some (.cells Z.toArray 91)):=by
  show _=_;rcases hown1.2 with ⟨h,_⟩|⟨g,c,cur,hv,hb,hg,h1,h2,h3,h4⟩
  .cases h
  .simp at hv;obtain⟨rfl,rfl⟩:=hv;rw[hg];have:cur.toList=Z:=by rw[<- h4];exact(Qe (by simp;omega)).symm
   rw[<- this]
 have A2:Hid (Below w.heap.size w w1):=(v7 _ _).grown hgrow1 (v9 _) (fun k hk=>by cases hk);clear hown1 hgrow1 hZ;have A1:Hid (0<cs.length->∃ ad,a=some ad/\∀ j v,(aZ cs)[j]?=some v->w1.cell? (ad.add j)=some v):=fun hp=>by
  obtain⟨rfl,B0,A9⟩:=HC hp;refine⟨_,rfl,fun j v hj=>?_⟩;have B3:j<cs.length*4:=by have:=(List.getElem?_eq_some_iff.mp hj).1;rwa [iS]at this
  have e:j=j / 4*4+j % 4:=by omega
  have A5:j / 4<cs.length:=by omega
  have h2:=(A9.keep (A2.block b B0)) (j / 4) A5 (j % 4) v (by rw[<- lX cs (j / 4) A5 (j % 4) (by omega),<- e];exact hj);rw[Addr.add_lit];rw[show off+j=off+j / 4*4+j % 4 from by omega];exact h2
 have A0:Hid (∀ v∈aZ cs,v.oneCell'=true):=mM cs;go_wp2_with (refine tJ rfl (.tmp 7) (.tmp 8) 29 29 rfl 91 underlying29 4 (by rw[hi];exact congrArg some A6) w.heap.size cs.length cs.length rfl a cs.length cap rfl Z 91 A3 (aZ cs) (by omega) (iS cs) A1.out (by rw[iS,A4.out];omega) A0.out ?_)
 intro w2 hg2 hgrow2;have A8:Hid (w2.heap[w.heap.size]?=some (.cells (aZ cs).toArray 91)):=by
  show _=_;rw[hg2,List.drop_of_length_le (by rw[iS,A4];omega),List.append_nil]
 have A7:Hid (Below w.heap.size w w2):=A2.grown hgrow2 A2.size (fun k hk=>by cases hk;exact v9 _);clear hg2 hgrow2 A1 A0 A3;go_wp2_with fail
 go_ret;exact⟨_,v9 _,rfl,A8,A7⟩
theorem BD (t:ByteArray):(∃ tr,bu t tr/\t.size<=400/\∀ w:World,Calls prog 6 #[.string t] w fun e w'=>e=.returned (.tuple #[.int .i64 (cu (bE t 5 tr).1 (bE t 5 tr).2),.int .i64 0,.int .i64 0])/\Below w.heap.size w w') \/
  (∃ m f p:Int,f≠0/\(∀ w:World,Calls prog 17 #[.string t] w fun e w'=>e=.returned (.tuple #[.slice none 0 0,.int .i64 f,.int .i64 p])/\Below w.heap.size w w') /\
   ∀ w:World,Calls prog 6 #[.string t] w fun e w'=>e=.returned (.tuple #[.int .i64 m,.int .i64 f,.int .i64 p])/\Below w.heap.size w w'):=by
 rcases Nat.lt_or_ge 400 t.size with ht|ht
 .refine Or.inr ⟨0,1,0,by decide,fun w=>uk t 1 0 (by decide) w fun w=>(zQ t ht w).mono fun e w' h=>?_,fun w=>(yI t ht w).mono fun e w' h=>⟨h.1,?_⟩⟩
  .obtain⟨⟨a,n,A0,he⟩,hb⟩:=h;exact⟨⟨a,n,A0,0,he⟩,hb⟩
  .rw[h.2];exact v7 _ _
 .obtain⟨r,h1,h2,h3⟩:=DF t ht;rcases h3 with ⟨tr,h4,rfl⟩|h4
  .exact Or.inl ⟨tr,h4,ht,fun w=>vv t ht _ h1 w⟩
  .refine Or.inr ⟨r.1,r.2.1,r.2.2,h4,fun w=>uk t r.2.1 r.2.2 h4 w fun w=>(Ff t ht r h2 w).mono fun e w' h=>?_,fun w=>vv t ht r h1 w⟩;obtain⟨⟨a,n,A0,he⟩,hb⟩:=h;exact⟨⟨a,n,A0,r.1,he⟩,hb⟩
theorem Cl {w:World}{B:Nat}{a:Option Addr}{n cap:Nat}{cs:List am}(h:w.ownsRow B 91 4 (.slice a n cap) n (aZ cs))(hn:n=cs.length):∃ b,aH w a b 0 cs:=by
 rcases h.2 with ⟨h1,h2⟩|⟨g,c,cur,hv,hb,hg,h1,h2,h3,h4⟩
 .refine⟨0,fun hp=>?_⟩;omega
 .simp at hv;obtain⟨rfl,rfl⟩:=hv;refine⟨g,fun _=>⟨rfl,ak hg,fun i hi j u hj=>?_⟩⟩;have A0:j<4:=by have:=(List.getElem?_eq_some_iff.mp hj).1;simpa[fo] using this
  have h5:=h.cells (g:=g) rfl (i*4+j) u (by rw[lX cs i hi j A0];exact hj);rw[Addr.add_lit]at h5;rw[show 0+i*4+j=0+(i*4+j) from by omega];exact h5
structure gY (X:Nat->Prop)(O:Nat)(n:Int)(rv qv:Value)(cb rb qb:List (Value×List Value))(C:List am)(w w':World)(S:Nat)(X':Nat->Prop)(cv':Value)(cb':List (Value×List Value)):Prop where
 s:w.heap.size<=S
 code:w'.heap[S]?=some (.cells (aZ C).toArray 91)
 nx:¬ X' S
 own:dn w' X' O (n+1) cv' rv qv cb' rb qb
 len:cb'.length=cb.length+4
 lt:∀ k,X' k->k<w'.heap.size/\(X k\/w.heap.size<=k)
 fr:Fr X w w'
theorem zW (t:ByteArray)(ht:t.size<=400)(tr:af 5)(hT:bu t tr)(M:Int)(hL:∀ w:World,Calls prog 6 #[.string t] w fun e w'=>e=.returned (.tuple #[.int .i64 M,.int .i64 0,.int .i64 0])/\Below w.heap.size w w')
  (X:Nat->Prop) (O:Nat) (n:Int) (cv rv qv:Value) (cb rb qb:List (Value×List Value)) (w:World) (hn0:0<=n) (hn1:n<=900000000) (hcb:cb.length<=10000000) (h:dn w X O n cv rv qv cb rb qb) (hX:∀ k,X k->k<w.heap.size):
  Calls prog 5 #[.string t,.pointer (some ⟨O,0,none⟩)] w fun e w'=>∃ S X' cv' cb',e=.returned (.tuple #[.slice (some ⟨S,0,none⟩) (cL t tr).length (cL t tr).length,.bool true])/\gY X O n rv qv cb rb qb (cL t tr) w w' S X' cv' cb':=by
 have HL:=ah hL;have HO:Hid (dn w X O n cv rv qv cb rb qb/\∀ k,X k->k<w.heap.size):=⟨h,hX⟩;have HC:=zu t ht tr hT w;have B2:(cL t tr).length<=1000:=Qc (hT.len ht) (by omega);have A7:=hT.sound ht;obtain⟨C,hC⟩:∃ C,C=cL t tr:=⟨_,rfl⟩;rw[<- hC]at HC B2 A7 ⊢;have A8:Hid (Calls prog 17 #[.string t] w fun e w'=>∃ sv,e=.returned (.tuple #[sv,.int .i64 0,.int .i64 0])/\w'.ownsRow w.heap.size 91 4 sv C.length (aZ C)/\Below w.heap.size w w'):=HC;have B6:=ah A7;clear HC hL h hX hC A7 hT;go_enter func5,ntmps5
 go_wp2_with fail
 refine A8.mono ?_;rintro e w1 ⟨sv,rfl,A6,B0⟩;obtain⟨a,A0,rfl⟩:=bD A6;have H1:Hid (w1.ownsRow w.heap.size 91 4 (.slice a C.length A0) C.length (aZ C)/\Below w.heap.size w w1):=⟨A6,B0⟩;clear A6 B0 A8;go_wp2_with fail
 refine(HL _).mono ?_;rintro e w2 ⟨rfl,A3⟩;have H2:Hid (w2.ownsRow w.heap.size 91 4 (.slice a C.length A0) C.length (aZ C)/\Below w.heap.size w w2):=by
  refine⟨eu H1.1 fun k hk=>?_,H1.2.trans (A3.mono H1.2.size)⟩;obtain⟨c,hc⟩:=ax (mK H1.1) hk;exact A3.block k (ak hc)
 clear A3 H1 HL;obtain⟨b2,B1⟩:=Cl H2.1 rfl;have A2:=ah B1;clear B1;go_wp2_with fail
 refine(rG a b2 0 A0 C w2 A2).mono ?_;rw[B6];rintro e w3 ⟨rfl,A1⟩;have H3:Hid (w3.ownsRow w.heap.size 91 4 (.slice a C.length A0) C.length (aZ C)/\Below w.heap.size w w3/\aH w3 a b2 0 C):=by
  refine⟨eu H2.1 fun k hk=>?_,H2.2.trans (A1.mono H2.2.size),A2.keep A1⟩;obtain⟨c,hc⟩:=ax (mK H2.1) hk;exact A1.block k (ak hc)
 clear A1 H2 A2;go_wp2_with fail
 refine(Bi a b2 0 A0 C w3 H3.2.2 B2).mono ?_;rintro e w4 ⟨S,hS,rfl,B3,A4⟩;have H4:Hid (w4.ownsRow w.heap.size 91 4 (.slice a C.length A0) C.length (aZ C)/\Below w.heap.size w w4/\w4.heap[S]?=some (.cells (aZ C).toArray 91)/\∀ b,(Value.slice a C.length A0).ownBlock=some b->w.heap.size<=b/\b<S):=by
  refine⟨eu H3.1 fun k hk=>?_,H3.2.1.trans (A4.mono H3.2.1.size),B3,fun b hb=>?_⟩
  .obtain⟨c,hc⟩:=ax (mK H3.1) hk;exact A4.block k (ak hc)
  .obtain⟨h1,c,hc⟩:=cS H3.1 hb;have:=ak hc;exact⟨h1,by omega⟩
 have B8:w.heap.size<=S:=Qc H3.2.1.size hS;clear B3 A4 H3 hS;go_wp2_with fail
 have A9:dn w4 X O n cv rv qv cb rb qb:=HO.1.keep fun j hj=>H4.2.1.block j (HO.2 j hj);refine(BY X O n cv rv qv cb rb qb a C.length A0 (aZ C) w4 hn0 hn1 (by omega) hcb A9 (mK H4.out.1) (fun b hb hx=>by have:=(H4.out.2.2.2 b hb).1;have:=HO.2 b hx;omega)).mono ?_;rintro e w5 ⟨rfl,cv',cb',B4,B5,A5⟩;have HE:Hid (gY X O n rv qv cb rb qb C w w5 S (mu X w4 w5 (.slice a C.length A0) (.slice a C.length A0)) cv' cb'):=by
  have B7:=ak H4.2.2.1;have B9:=H4.2.1.size;refine⟨B8,?_,?_,B5,B4,?_,?_⟩
  .rw[A5.block S B7 (fun hh=>?_)]
   .exact H4.2.2.1
   .rcases hh with hh|hh
    .have:=HO.2 S hh;omega
    .have:=(H4.2.2.2 S hh).2;omega
  .rintro⟨_,hh|hh|hh|hh⟩
   .have:=HO.2 S hh;omega
   iterate 2
    .have:=(H4.2.2.2 S hh).2;omega
   .omega
  .rintro k ⟨h1,hh|hh|hh|hh⟩
   .exact⟨h1,Or.inl hh⟩
   iterate 2
    .exact⟨h1,Or.inr (H4.2.2.2 k hh).1⟩
   .exact⟨h1,Or.inr (by omega)⟩
  .refine Fr.wide ((Fr.of_below H4.2.1).mono fun k hk hs=>?_) (A5.mono fun k _ hs=>?_)
   .omega
   .rcases hs with hs|hs
    .exact Or.inl hs
    .exact Or.inr (H4.2.2.2 k hs).1
 clear B5 B4 A5 A9 H4 HO;go_wp2_with fail
 go_ret2;exact⟨S,_,cv',cb',rfl,HE⟩
theorem zV (t:ByteArray)(m f p:Int)(hf:f≠0)(hC:∀ w:World,Calls prog 17 #[.string t] w fun e w'=>e=.returned (.tuple #[.slice none 0 0,.int .i64 f,.int .i64 p])/\Below w.heap.size w w')
  (hL:∀ w:World,Calls prog 6 #[.string t] w fun e w'=>e=.returned (.tuple #[.int .i64 m,.int .i64 f,.int .i64 p])/\Below w.heap.size w w') (O:Nat) (w:World):
  Calls prog 5 #[.string t,.pointer (some ⟨O,0,none⟩)] w fun e w'=>e=.returned (.tuple #[.slice none 0 0,.bool true])/\Below w.heap.size w w':=by
 have HL:=ah hL;have HC:=ah hC;have b1:(f != 0)=true:=by simpa using hf
 clear hL hC hf;go_enter func5,ntmps5
 go_wp2_with fail
 refine(HC _).mono ?_;rintro e w1 ⟨rfl,A0⟩;go_wp2_with fail
 refine(HL _).mono ?_;rintro e w2 ⟨rfl,A1⟩;have HB:Hid (Below w.heap.size w w2):=A0.trans (A1.mono A0.size);clear A0 A1;go_wp2_with fail
 go_ret2;exact⟨rfl,HB⟩
theorem tC {w:World}{S:Nat}{C:List am}(h:w.heap[S]?=some (.cells (aZ C).toArray 91)):aH w (some ⟨S,0,none⟩) S 0 C:=fun _=>
 ⟨rfl,ak h,oe (rest:=[]) (by rw[List.append_nil];exact h)⟩
end Go.Proofs.YtmmmnghiegajmaaGreat
