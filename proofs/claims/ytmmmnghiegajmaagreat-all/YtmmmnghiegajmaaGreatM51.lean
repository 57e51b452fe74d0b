import Derived.Test.YtmmmnghiegajmaaGreatM46
import Derived.Test.YtmmmnghiegajmaaGreatM50
set_option maxHeartbeats 4000000
set_option maxRecDepth 20000
open Go.RowKit Go.Proofs.Herald Go.Proofs.Tryz
namespace Go.Proofs.YtmmmnghiegajmaaGreat
structure fM (B0 n:Nat)(w:World)(O:Nat)(o o':fu)(e:PE)(w':World):Prop where
 bk:BK w' O o' B0 (n+1)
 X:∀ k,bP O o' k->bP O o k\/w.heap.size<=k
 fr:Fr (bP O o) w w'
 pr:eL B0 (n+1) w' e
 x:∀ k,e.x k->w.heap.size<=k
 c:w.heap.size<=e.c
 cc:¬ e.x e.c
 bx:(∀ k,e.x k->¬ bP O o' k)/\¬ bP O o' e.c
theorem fM.all {B0 n:Nat}{w w':World}{O:Nat}{o o':fu}{e:PE}{m:Nat}{es:Nat->PE}{lv:Value}(h:fM B0 n w O o o' e w')(a:aU B0 n w O o m es lv):dN B0 (n+1) w' O o' m es lv e:=by
 refine⟨a.books h.X h.fr h.bk,h.pr,fun i hi k hk hk2=>?_,fun i hi=>⟨fun hk=>?_,fun hk=>?_⟩,h.cc,h.bx,fun k hk=>⟨fun hk2=>?_,fun e2=>?_⟩,by have:=a.len;omega⟩
 .have:=h.x k hk;have:=((a.prs i hi).lt hk2).1;omega
 .have:=h.x _ hk;have:=(a.prs i hi).clt.1;omega
 .have:=h.c;have:=((a.prs i hi).lt hk).1;omega
 .obtain⟨_,c,hc⟩:=cS a.row hk;have:=h.x k hk2;have:=ak hc;omega
 .obtain⟨_,c,hc⟩:=cS a.row hk;have:=h.c;have:=ak hc;omega
theorem BF {B0 n:Nat}(t:ByteArray)(O:Nat)(o:fu)(w:World)(hb:BK w O o B0 n)(hn:n<=1100000):
  Calls prog 10 #[.string t,.pointer (some ⟨O,0,none⟩)] w fun e w'=>∃ P,e=.returned (.tuple #[.pointer (some ⟨P,0,none⟩),.bool true]) /\
   ((w.heap.size<=P/\w'.heap[P]?=some (.cells #[.pointer none,.pointer none,.slice none 0 0,.string ⟨#[]⟩] 42)/\Below w.heap.size w w') \/
    ∃ o' e1,e1.p=P/\fM B0 n w O o o' e1 w'):=by
 have A0:=ah hb;have hB:B0<=w.heap.size:=Qc (hb.base O (.inl rfl)) (Nat.le_of_lt (hb.lt (.inl rfl)));clear hb;rcases BD t with ⟨tr,hT,ht,hL⟩|⟨m,f,p,hf,hC,hL⟩
 .have HT:Hid (bu t tr/\t.size<=400):=⟨hT,ht⟩;have HL:=ah hL;have B6:Hid (∀ (X:Nat->Prop) (O:Nat) (n:Int) (cv rv qv:Value) (cb rb qb:List (Value×List Value)) (w:World),0<=n->n<=900000000->cb.length<=10000000->dn w X O n cv rv qv cb rb qb->(∀ k,X k->k<w.heap.size) ->
    Calls prog 5 #[.string t,.pointer (some ⟨O,0,none⟩)] w fun e w'=>∃ S X' cv' cb',e=.returned (.tuple #[.slice (some ⟨S,0,none⟩) (cL t tr).length (cL t tr).length,.bool true])/\gY X O n rv qv cb rb qb (cL t tr) w w' S X' cv' cb'):=
   fun X O n cv rv qv cb rb qb w h1 h2 h3 h4 h5=>zW t ht tr hT _ hL X O n cv rv qv cb rb qb w h1 h2 h3 h4 h5
  have B7:Hid (em (cL t tr)=true):=hT.sound ht;have C5:Hid (∀ w:World,Calls prog 8 #[.string t] w _):=fun w=>uw t ht tr hT w;obtain⟨C,A1⟩:∃ C,C=cL t tr:=⟨_,rfl⟩;have D3:=ah A1;clear hL hT;generalize cu (bE t 5 tr).1 (bE t 5 tr).2=LM at *;rw[<- A1]at B6 B7;clear A1;go_enter func10,ntmps10
  go_wp2_with fail
  refine(B6 (bP O o) O o.n o.cv o.rv o.qv o.cb o.rb o.qb w A0.n0 (by have:=A0.n1;omega) (by have:=A0.out.cb;omega) A0.out.oa (fun k hk=>A0.out.lt hk)).mono ?_;rintro e w1 ⟨S1,X1,C6,B8,rfl,h1⟩;have C4:Hid (∃ o':fu,BK w1 O o' B0 (n+1)/\(∀ k,bP O o' k->bP O o k\/w.heap.size<=k)/\¬ bP O o' S1/\Fr (bP O o) w w1/\w.heap.size<=S1/\w1.heap[S1]?=some (.cells (aZ C).toArray 91)):=by
   obtain⟨h5,h6⟩:=OA.of (o:=⟨o.n+1,C6,o.rv,o.qv,B8,o.rb,o.qb⟩) h1.own;have q1:=A0.n0;have q2:=A0.n1;have q3:=A0.cb;have q4:=A0.rb;have q5:=A0.qb;have hX:∀ k,bP O ⟨o.n+1,C6,o.rv,o.qv,B8,o.rb,o.qb⟩ k->bP O o k\/w.heap.size<=k:=fun k hk=>(h1.lt k (h6 k hk)).2;refine⟨_,⟨h5,fun k hk=>?_,by show 0<=o.n+1;omega,by show o.n+1<=_;push_cast;omega,by show B8.length<=_;rw[h1.len];omega,by show o.rb.length<=_;omega,by show o.qb.length<=_;omega⟩,hX,fun hk=>h1.nx (h6 _ hk),h1.fr,h1.s,h1.code⟩;rcases hX k hk with h|h
   .exact A0.base k h
   .omega
  clear h1 B6;go_wp2_with fail
  refine(HL _).mono ?_;rintro e w2 ⟨rfl,A2⟩;obtain⟨o',C1,D2,D0,C3,D1,C2⟩:=id C4;have D6:=C3.size;have B5:Hid (BK w2 O o' B0 (n+1)/\(∀ k,bP O o' k->bP O o k\/w.heap.size<=k)/\¬ bP O o' S1/\Fr (bP O o) w w2/\w.heap.size<=S1/\w2.heap[S1]?=some (.cells (aZ C).toArray 91)):=⟨C1.keep (fun k hk=>A2.block k (C1.lt hk)) (v9 _),D2,D0,C3.trans ((Fr.of_below A2).mono fun k hk hs=>by omega),D1,(A2.block _ (ak C2)).trans C2⟩;clear A2 C4 HL C1 D2 D0 C3 D1 C2 D6;go_wp2_with fail
  refine(BS (some ⟨S1,0,none⟩) S1 0 C.length C _ (tC B5.2.2.2.2.2) B7).mono ?_;rintro e w3 ⟨H,v,rfl,hH,A7,A8,A9⟩;have H3:Hid (w3.heap[H]?=some (.cells (ll v) 114)/\w3.ownsRow w2.heap.size 91 4 v C.length (aZ C)/\Below w2.heap.size w2 w3/\w2.heap.size<=H):=⟨A7,A8,A9,hH⟩;clear A7 A9 A8 hH;go_wp2_with fail
  refine(C5 _).mono ?_;rintro e w4 ⟨S,Q,pg,rfl,hS,hQ,A5,C8,C0⟩;have B4:Hid (∃ e1:PE,e1.p=w4.heap.size/\fM B0 n w O o o' e1 (w4.alloc (.cells #[.pointer (some ⟨H,0,none⟩),.pointer (some ⟨S,0,none⟩),.slice (some ⟨S1,0,none⟩) C.length C.length,.string t] 42))):=by
   have A1:C=cL t tr:=D3.out;obtain⟨A7,A8,A9,B9⟩:=H3;obtain⟨ob,ox,on,C9,D7,oc⟩:=B5;have z2:=C9.size;have z3:=A9.size;have z4:=C0.size;obtain⟨hT,ht⟩:=HT;have B1:Below w4.heap.size w4 (w4.alloc (.cells #[.pointer (some ⟨H,0,none⟩),.pointer (some ⟨S,0,none⟩),.slice (some ⟨S1,0,none⟩) C.length C.length,.string t] 42)):=(v7 _ _).alloc (v9 _) _;have A4:=C0.trans (B1.mono z4);have A3:=A9.trans (A4.mono z3);have hP:=v8 w4 (Obj.cells #[.pointer (some ⟨H,0,none⟩),.pointer (some ⟨S,0,none⟩),.slice (some ⟨S1,0,none⟩) C.length C.length,.string t] 42);generalize (w4.alloc (.cells #[.pointer (some ⟨H,0,none⟩),.pointer (some ⟨S,0,none⟩),.slice (some ⟨S1,0,none⟩) C.length C.length,.string t] 42))=w5 at *;have gH:=(A4.block H (ak A7)).trans A7;have gV:=eu (w':=w5) A8 fun k hk=>A4.block k (by obtain⟨_,D4,hc⟩:=cS A8 hk;exact ak hc);have gj:GJ C 0 dM [] w5 H ⟨v,.slice none 0 0,.slice none 0 0,fun _=>.slice none 0 0,0⟩:=GJ.new B7 gH (bZ gV);have gd:GD (jc t tr pg B0) (mx t tr) (mw t tr pg) 0 dM [] w5 S Q ln:=ym ⟨(B1.block S (ak A5.1)).trans A5.1,(B1.block Q (ak A5.2)).trans A5.2⟩ (ai.still (B0:=0) (fun k hk _=>B1.block k hk) _ _ _ C8) (by show B0<=S;omega) (by show B0<=Q;omega);have bQ:∀ k,HS.own ⟨v,.slice none 0 0,.slice none 0 0,fun _=>.slice none 0 0,0⟩ H k->w2.heap.size<=k/\k<w3.heap.size:=fun k hk=>by
    rcases hk with (hk|⟨d,_,hk⟩|hk)|hk|hk
    .rw[hk];exact⟨B9,ak A7⟩
    .cases hk
    .cases hk
    .cases hk
    .obtain⟨h1,D4,hc⟩:=cS A8 hk;exact⟨h1,ak hc⟩
   have A6:∀ k,ln.own S Q k->w3.heap.size<=k/\k<w4.heap.size:=fun k hk=>by
    rcases oL hk with rfl|rfl
    .exact⟨hS,ak A5.1⟩
    .exact⟨hQ,ak A5.2⟩
   have hx:∀ k,eE w4.heap.size H S Q ⟨v,.slice none 0 0,.slice none 0 0,fun _=>.slice none 0 0,0⟩ ln k->w2.heap.size<=k:=fun k hk=>by
    rcases hk with rfl|hk|hk
    .omega
    .exact(bQ k hk).1
    .have:=A6 k hk;omega
   have D5:=ak oc;refine⟨⟨w4.heap.size,eE w4.heap.size H S Q ⟨v,.slice none 0 0,.slice none 0 0,fun _=>.slice none 0 0,0⟩ ln,S1⟩,rfl,⟨ob.keep (fun k hk=>A3.block k (ob.lt hk)) (v9 _),ox,C9.trans ((Fr.of_below A3).mono fun k hk hs=>by omega),⟨t,tr,pg,H,S,Q,dM,dM,[],_,ln,hT,ht,⟨QH.le (i:=0) (j:=0) ⟨?_,?_,gd,fun k hk hz=>?_,fun hk=>?_,fun hk=>?_,fun k hk=>?_,?_⟩ (Qa _) (Qa _),ay.new _⟩,fun k=>Iff.rfl,?_,?_⟩,fun k hk=>?_,D7,fun hk=>?_,fun k hk hX=>?_,on⟩⟩
   .rw[<- A1];exact hP
   .rw[<- A1];exact gj
   .have:=bQ k hk;have:=A6 k hz;omega
   .have:=bQ w4.heap.size hk;omega
   .have:=A6 w4.heap.size hk;omega
   .have:=bQ k hk;show B0<=k;omega
   .show B0<=w4.heap.size;omega
   .rw[<- A1];exact(A3.block _ D5).trans oc
   .show B0<=S1;omega
   .have:=hx k hk;show w.heap.size<=k;omega
   .have:=hx S1 hk;omega
   .have:=hx k hk;have:=ob.lt hX;omega
  clear A5 C0 H3 B5 C5 C8;go_wp2_with fail
  go_ret2;obtain⟨e1,h1,h2⟩:=B4;exact⟨_,rfl,.inr ⟨o',e1,h1,h2⟩⟩
 .have HC:=ah hC;have HL:=ah hL;have b1:(f != 0)=true:=by simpa using hf
  clear hC hL;go_enter func10,ntmps10
  go_wp2_with fail
  refine(zV t m f p hf HC HL _ _).mono ?_;rintro e w1 ⟨rfl,C7⟩;have B2:=ah C7;clear C7;go_wp2_with fail
  refine(HL _).mono ?_;rintro e w2 ⟨rfl,A2⟩;have B3:Hid (Below w.heap.size w w2):=B2.trans (A2.mono B2.size);clear A2 B2;go_wp2_with fail
  go_ret2;exact⟨w2.heap.size,rfl,.inl ⟨B3.size,v8 _ _,B3.alloc B3.size _⟩⟩
end Go.Proofs.YtmmmnghiegajmaaGreat
