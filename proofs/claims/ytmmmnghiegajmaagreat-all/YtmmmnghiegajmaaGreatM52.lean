import Derived.Test.YtmmmnghiegajmaaGreatM47
import Derived.Test.YtmmmnghiegajmaaGreatM51
import Derived.Test.YtmmmnghiegajmaaGreatM41
set_option maxHeartbeats 32000000
set_option maxRecDepth 100000
open Go.RowKit Go.Proofs.Herald Go.Proofs.Tryz
namespace Go.Proofs.YtmmmnghiegajmaaGreat
theorem GR (c n:Int)(w:World)(hn:0<n)(hc1:-9223372036854775808<=c)(hc2:c<=9223372036854775807):
  Calls prog 11 #[.int .i64 c,.int .i64 n] w fun e w'=>e=.returned (.int .i64 (mr c n))/\w'=w:=by
 have A0:n≠0:=by omega
 unfold mr;by_cases h:c<0
 .rw[if_pos h];go_enter func11,ntmps11
  go_wp2_with fail
  go_ret;have e:-((c+1).tmod n)=-(c+1) % n:=by rw[<- Int.neg_tmod,Int.tmod_eq_emod_of_nonneg (by omega)]
  rw[e];exact⟨rfl,rfl⟩
 .rw[if_neg h];go_enter func11,ntmps11
  go_wp2_with fail
  go_ret;exact⟨rfl,rfl⟩
theorem sL (c:Int)(n:Nat)(w:World)(hn:0<n)(hc:-9223372036854775808<=c/\c<=9223372036854775807):∃ i:Nat,i<n/\Calls prog 11 #[.int .i64 c,.int .i64 (n:Nat)] w fun e w'=>e=.returned (.int .i64 (i:Nat))/\w'=w:=by
 have h:=AF c (n:Int) (by omega);refine⟨(mr c (n:Int)).toNat,by omega,?_⟩;have h2:=GR c (n:Int) w (by omega) hc.1 hc.2;rw[show((mr c (n:Int)).toNat:Int)=mr c (n:Int) by omega];exact h2
def yw (J:List Nat)(w:World)(jv:Value)(wx:World):Prop:=∃ L:List Nat,jv=.string (aI L)/\L.length<=J.length/\(∀ x∈L,x<256)/\Below w.heap.size w wx
theorem BO {B0 n:Nat}(e:PE)(k a b c:Int)(str:ByteArray)(w:World)(h:eL B0 n w e)(ha:-9223372036854775808<=a/\a<=9223372036854775807)(hn:n<=1000000):
  Calls prog 12 #[.pointer (some ⟨e.p,0,none⟩),.agg #[.int .i64 k,.int .i64 a,.int .i64 b,.int .i64 c,.string str]] w fun r w'=>∃ e1:PE,r=.returned (.tuple #[.pointer (some ⟨e1.p,0,none⟩),.bool true])/\e1.c=e.c/\eL B0 n w' e1/\(∀ k,e1.x k->w.heap.size<=k)/\Below w.heap.size w w':=by
 obtain⟨t,tr,pg,H,S,Q,hm,hd,J0,s,d,hT,ht,q,hx,A0,D6⟩:=h;have hB:B0<=w.heap.size:=q.q.B;obtain⟨J,C1,D1⟩:=EZ (aI J0);have F7:J.length<=19*n:=by
  have h1:=q.q.gj.len;have h2:=congrArg ByteArray.size C1;rw[iG,iG]at h2;omega
 have p1:w.cell? ⟨e.p,1,none⟩=some (.pointer (some ⟨S,0,none⟩)):=(ag q.q.p).trans rfl;have c7:w.cell? ⟨S,7,none⟩=some (.string (aI J)):=by rw[<- C1];exact(ag q.q.gd.sim.at'.sB).trans rfl
 have E5:e.p<w.heap.size:=ak q.q.p;have E6:S<w.heap.size:=ak q.q.gd.sim.at'.sB;have hz:(aI J).size=J.length:=iG J;have A9:=ah D1;have HP:Hid (∀ wx,Below w.heap.size w wx->wx.cell? ⟨e.p,2,none⟩=some (.slice (some ⟨e.c,0,none⟩) (cL t tr).length (cL t tr).length)/\wx.cell? ⟨e.p,3,none⟩=some (.string t)/\e.p<wx.heap.size):=fun wx hb=>by
  have h1:=(hb.block e.p E5).trans q.q.p;exact⟨(ag h1).trans rfl,(ag h1).trans rfl,ak h1⟩
 have HC:Hid (∀ wx,Below w.heap.size w wx->aH wx (some ⟨e.c,0,none⟩) e.c 0 (cL t tr)):=fun wx hb=>tC ((hb.block e.c (ak A0)).trans A0);have A2:Hid (∀ wx,Below w.heap.size w wx->wx.heap[e.c]?=some (.cells (aZ (cL t tr)).toArray 91)):=fun wx hb=>(hb.block e.c (ak A0)).trans A0;have F6:e.c<w.heap.size:=ak A0;have HT:Hid (bu t tr/\t.size<=400):=⟨hT,ht⟩;have D0:Hid (∀ w:World,Calls prog 8 #[.string t] w _):=fun w=>uw t ht tr hT w;have B9:Hid (∀ (L:List Nat) (S' Q':Nat) (A1:Value) (W:World),(∀ x∈L,x<256)->L.length<=J.length->aH W (some ⟨e.c,0,none⟩) e.c 0 (cL t tr)->GD (jc t tr A1 B0) (mx t tr) (mw t tr A1) 0 dM [] W S' Q' ln->e.c<S'->e.c<Q'->Calls prog 33 #[.slice (some ⟨e.c,0,none⟩) (cL t tr).length (cL t tr).length,.string (aI L),.pointer (some ⟨S',0,none⟩)] W fun r w'=>∃ H,r=.returned (.tuple #[.pointer (some ⟨H,0,none⟩),.bool true])/\W.heap.size<=H/\eG (jc t tr A1 B0) (mx t tr) (pj t tr) (mw t tr A1) (cL t tr) (L.length / 19) W S' Q' ln H w'):=fun L S' Q' A1 W hL hl hcd g h1 h2=>
  Ck (oq hT ht A1 B0) (some ⟨e.c,0,none⟩) e.c 0 _ L hL (by omega) S' Q' ln W hcd (hT.sound ht) g fun _ hk=>by
   rcases oL hk with h|h <;> omega
 have B8:Hid (∀ A1,cy (jc t tr A1 B0) (mx t tr) (mw t tr A1)):=fun A1=>(oq hT ht A1 B0).k;have E1:=ah D6;clear q hx A0 D6 hT ht C1 D1;obtain⟨C,C0⟩:∃ C,C=cL t tr:=⟨_,rfl⟩;have C9:=ah C0;rw[<- C0]at HP HC B9 A2;clear C0;generalize hZ:aI J=Z at *;have HZ:=ah hZ;clear hZ;go_enter func12,ntmps12
 go_upto_if 21 with fail
 go_cut [6] (fun jv wx=>Hid (yw J w jv wx))
 case first=>
  obtain⟨W1,A5⟩:∃ W1,W1=w.alloc (.cells #[.int .i64 k,.int .i64 a,.int .i64 b,.int .i64 c,.string str] 47):=⟨_,rfl⟩;have D3:Below w.heap.size w W1:=by rw[A5];exact(v7 _ _).alloc (v9 _) _
  have C2:W1.heap.size=w.heap.size+1:=by rw[A5];simp
  have B2:W1.heap[w.heap.size]?=some (.cells #[.int .i64 k,.int .i64 a,.int .i64 b,.int .i64 c,.string str] 47):=by rw[A5];exact v8 _ _
  have B3:=ah D3;by_cases hk:k=9
  .have bk:(k==9)=true:=by simp[hk]
   obtain⟨i,hi,A7⟩:=sL a (J.length+1) W1 (by omega) ha;have e1:((J.length+1:Nat):Int)=((J.length:Nat):Int)+1:=by push_cast;rfl
   rw[e1]at A7;have A8:=(show Hid _ from A7:Hid (Calls prog 11 #[.int .i64 a,.int .i64 (((J.length:Nat):Int)+1)] W1 _));have E2:Hid (Z.extract 0 i=aI (J.take i)):=by
    show _=_;rw[<- HZ,kU];rfl
   rw[A5]at A8;clear A7 e1 hk B2;go_wp2_with fail
   refine A8.mono ?_;rintro e w2 ⟨rfl,hw⟩;rw[hw];clear hw A8;go_wp2_with fail
   go_meet;case rel=>
    refine⟨J.take i,by rw[E2],by rw[List.length_take];omega,fun x hx=>A9.out x (List.mem_of_mem_take hx),?_⟩;rw[<- A5];exact B3
  .have bk:(k==9)=false:=by simp[hk]
   by_cases hp:0<J.length
   .obtain⟨i,hi,A7⟩:=sL a J.length (Lib.bytesWorld W1 5 Z) hp ha;have C5:=Lib.run_convert_string_bytes (P:=prog) W1 9 80 5 Z (u:=.string) underlying9 underlying80 underlying5;obtain⟨W,hW⟩:∃ W,W=Lib.bytesWorld W1 5 Z:=⟨_,rfl⟩;obtain⟨cp,D7⟩:∃ cp,cp=grownCap W1 Z.size 0 5:=⟨_,rfl⟩;have C3:Below W1.heap.size W1 W:=by
     rw[hW];exact⟨rfl,rfl,rfl,by rw[Lib.bytesWorld_size];omega,fun k hk=>Lib.bytesWorld_at_old W1 _ _ k hk⟩
    have HR:Hid (hG W1.heap.size J W/\Below w.heap.size w W):=by
     refine⟨?_,B3.trans (C3.mono B3.size)⟩;rw[hW];refine⟨_,Lib.bytesWorld_at_new W1 _ _,?_,fun i hi=>?_⟩
     .simp[Lib.bytesCells,<- HZ.out,aI]
     .have hb:=A9 _ (Qb hi);simp[Lib.bytesCells,<- HZ.out,aI,Array.getElem?_append,hi,qH hb]
    rw[<- hW]at A7;rw[<- hW,<- D7,hz]at C5;have A6:W.heap[w.heap.size]?=some (.cells #[.int .i64 k,.int .i64 a,.int .i64 b,.int .i64 c,.string str] 47):=(C3.block _ (ak B2)).trans B2;obtain⟨m0,m1,m2,m3,m4⟩:=jp A6;have F3:w.heap.size<W.heap.size:=ak A6;have A8:=(show Hid _ from A7:Hid (Calls prog 11 #[.int .i64 a,.int .i64 ((J.length:Nat):Int)] W _));obtain⟨cq,fq⟩:=HR.1.cell hi;obtain⟨y,hy⟩:∃ y:Nat,b % 256=(y:Int):=⟨(b % 256).toNat,by omega⟩;have hb:=A9 _ (Qb hi);have HX:Hid (Go.bits .xor .u8 ((J[i]:Nat):Int) ((y:Nat):Int)=((J[i] ^^^ y:Nat):Int)):=by
     show _=_;exact Go.u8_xor_nat _ _ hb (by omega)
    have A4:Hid (∀ V,aG (W.setCell ⟨W1.heap.size,i,none⟩ (.int .u8 ((J[i] ^^^ y:Nat):Int))) V->(convert 80 9 (.slice (some ⟨W1.heap.size,0,none⟩) J.length cp)).run prog V=.ok (.string (aI (J.set i (J[i] ^^^ y)))) V/\yw J w (.string (aI (J.set i (J[i] ^^^ y)))) V):=fun V hV=>by
     have C7:=(HR.1.set hi (J[i] ^^^ y)).same (w':=V) (by rw[hV.heap]);refine⟨?_,J.set i (J[i] ^^^ y),rfl,by rw[List.length_set];exact v9 _,fun x hx=>?_,(HR.2.setCell (p:=⟨W1.heap.size,i,none⟩) (by show w.heap.size<=W1.heap.size;omega) _).trans (hV.below _)⟩
     .rw[<- qd];refine run_convert_bytes_arg (w:=V) 80 5 underlying80 underlying5 W1.heap.size 0 J.length cp (eg (J.set i (J[i] ^^^ y))) (by rw[oC,List.length_set]) (fun j hj=>?_) 9 underlying9;have B1:j<(J.set i (J[i] ^^^ y)).length:=by rw[List.length_set];exact hj
      rw[Nat.zero_add,(C7.cell B1).1];simp only[eg,List.getD_eq_getElem?_getD,List.getElem?_map,List.getElem?_eq_getElem B1,Option.map_some,Option.getD_some]
     .rcases List.mem_or_eq_of_mem_set hx with hx|hx
      .exact A9 x hx
      .rw[hx];exact Nat.xor_lt_two_pow (n:=8) hb (by omega)
    rw[A5]at C5;rw[C2]at cq fq A4;clear A7 hk B2 A6 hb D7 hW C3 D3;go_wp2_with fail
    refine A8.mono ?_;rintro e w2 ⟨rfl,hw⟩;rw[hw];clear hw A8;go_wp2_with fail
    go_region;rw[HX];obtain⟨E7,B1⟩:=A4 _ ((aG.refl _).drew);have E3:=ah B1;clear B1 A4 C5;go_wp2_with fail
    go_meet;case rel=>exact E3
   .have HE:Hid (J=[]):=List.eq_nil_of_length_eq_zero (by omega);have F8:Z.size=0:=by omega
    clear hk B2;go_wp2_with fail
    go_meet;case rel=>
     refine⟨J,by rw[HZ],v9 _,A9,?_⟩;rw[<- A5];exact B3
 case rest=>
  obtain⟨L,rfl,E4,D2,C4⟩:=hcut.out;obtain⟨p2,p3,B4⟩:=HP _ C4;have B6:Hid (Below w.heap.size w wc/\∀ x∈L,x<256):=⟨C4,D2⟩;clear p1 c7 E6 hz hcut D2 C4;go_wp2_with fail
  refine(D0 _).mono ?_;rintro r w4 ⟨S',Q',A1,rfl,F5,F4,D9,E0,D4⟩;have F1:=B6.1.size;have A3:Below w.heap.size w w4:=B6.1.trans (D4.mono F1);clear p2 p3 B4;obtain⟨p2,p3,B4⟩:=HP _ A3;have HO:=(show Hid _ from B9 L S' Q' A1 w4 B6.2 E4 (HC _ A3) (ym D9 E0 (by show B0<=S';omega) (by show B0<=Q';omega)) (by omega) (by omega):Hid (Calls prog 33 #[.slice (some ⟨e.c,0,none⟩) C.length C.length,.string (aI L),.pointer (some ⟨S',0,none⟩)] w4 _));have C8:=ah A3;clear D4 A3 D9 E0 D0 B9;generalize aI L=ZL at *;go_wp2_with fail
  refine HO.mono ?_;rintro r w6 ⟨H6,rfl,F2,C6⟩;have F0:=C8.size;have B5:Below w.heap.size w w6:=by
   obtain⟨_,_,_,_,_,_,_,_,_,_,_,h7⟩:=C6;exact C8.trans (sE h7 (fun k _ hk=>by rcases oL hk with rfl|rfl <;> omega) F0)
  clear p2 p3 B4;obtain⟨p2,p3,B4⟩:=HP _ B5;have B7:Hid (∃ e1:PE,e1.p=w6.heap.size/\e1.c=e.c/\eL B0 n ((w6.alloc (.cells #[.pointer (some ⟨H6,0,none⟩),.pointer (some ⟨S',0,none⟩),.slice (some ⟨e.c,0,none⟩) C.length C.length,.string t] 42)).drew) e1/\(∀ k,e1.x k->w.heap.size<=k)/\Below w.heap.size w ((w6.alloc (.cells #[.pointer (some ⟨H6,0,none⟩),.pointer (some ⟨S',0,none⟩),.slice (some ⟨e.c,0,none⟩) C.length C.length,.string t] 42)).drew)):=by
   obtain⟨E9,E8,J1,s1,d1,q1,o1⟩:=C6.pair (B8 A1) (by show B0<=w4.heap.size;omega) (.slice (some ⟨e.c,0,none⟩) C.length C.length) (.string t);have D5:Below w.heap.size w (w6.alloc (.cells #[.pointer (some ⟨H6,0,none⟩),.pointer (some ⟨S',0,none⟩),.slice (some ⟨e.c,0,none⟩) C.length C.length,.string t] 42)):=B5.alloc B5.size _;have hq:∀ {U:World},Below U.heap.size U U.drew:=(v7 _ _).drew;have D8:L.length / 19<=n:=by omega
   refine⟨⟨w6.heap.size,eE w6.heap.size H6 S' Q' s1 d1,e.c⟩,rfl,rfl,⟨t,tr,A1,H6,S',Q',E9,E8,J1,s1,d1,HT.1,HT.2,?_,fun k=>Iff.rfl,C9 ▸ A2 _ D5.drew,E1⟩,fun k hk=>?_,D5.drew⟩
   .rw[<- C9];exact⟨(q1.q.below (B8 A1) hq).le D8 D8,q1.same⟩
   .rcases o1 k hk with hh|hh
    .rcases oL hh with rfl|rfl <;> omega
    .omega
  clear C6 B5 HO B8 A2 HC HP;go_wp2_with fail
  go_region;all_goals
   go_wp2_with fail
   go_ret2;obtain⟨e1,h1,h2,h3,h4,h5⟩:=B7;exact⟨e1,by rw[h1];rfl,h2,h3,h4,h5⟩
section
variable {B0 n:Nat} {w:World} {O:Nat} {o:fu} {m:Nat} {es:Nat->PE} {lv:Value}
theorem aU.B (h:aU B0 n w O o m es lv):B0<=w.heap.size:=Qc (h.bk.base O (.inl rfl)) (Nat.le_of_lt (h.bk.lt (.inl rfl)))
theorem aU.pb (h:aU B0 n w O o m es lv){i:Nat}(hi:i<m):∃ (t:ByteArray) (tr:af 5) (pg:Value) (H S Q:Nat) (hm:az Pr) (hd:az TR) (J:List Nat) (s:HS) (d:DS),bu t tr/\t.size<=400 /\
  PB (jc t tr pg B0) (mx t tr) (pj t tr) (mw t tr pg) (cL t tr) n hm hd J w (es i).p H S Q (.slice (some ⟨(es i).c,0,none⟩) (cL t tr).length (cL t tr).length) (.string t) s d O o n/\(∀ k,(es i).x k ↔ eE (es i).p H S Q s d k)/\w.heap[(es i).c]?=some (.cells (aZ (cL t tr)).toArray 91)/\B0<=(es i).c:=by
 obtain⟨t,tr,pg,H,S,Q,hm,hd,J,s,d,h1,h2,q,hx,h3,h4⟩:=h.prs i hi;exact⟨t,tr,pg,H,S,Q,hm,hd,J,s,d,h1,h2,⟨q,h.bk,fun k hk=>(h.bx i hi).1 k ((hx k).mpr hk)⟩,hx,h3,h4⟩
def sQ (B0 n:Nat)(w:World)(O:Nat)(o:fu)(m:Nat)(es:Nat->PE)(lv:Value)(w':World):Prop:=
 ∃ es' o',aU B0 (n+1) w' O o' m es' lv/\Below B0 w w'/\(∀ i,(es' i).p=(es i).p)/\∀ X,X<w.heap.size->(∀ i,i<m->¬ (es i).x X)->¬ bP O o X->w'.heap[X]?=w.heap[X]?
theorem wR (h:aU B0 n w O o m es lv){i:Nat}(hi:i<m){t:ByteArray}{tr:af 5}{pg:Value}{H S Q:Nat}{s:HS}{d:DS}{w':World}(hT:bu t tr)(ht:t.size<=400)(hx:∀ k,(es i).x k ↔ eE (es i).p H S Q s d k)(hc:w.heap[(es i).c]?=some (.cells (aZ (cL t tr)).toArray 91))(hcB:B0<=(es i).c)
  (hn:mW (jc t tr pg B0) (mx t tr) (pj t tr) (mw t tr pg) (cL t tr) n w (es i).p H S Q (.slice (some ⟨(es i).c,0,none⟩) (cL t tr).length (cL t tr).length) (.string t) s d O o n w'):sQ B0 n w O o m es lv w':=by
 obtain⟨A3,A2,J1,s1,d1,o1,pb,g1,g2,hf⟩:=hn;have A0:Fr (fun k=>(es i).x k\/bP O o k) w w':=hf.mono fun k _ hk=>hk.imp (fun hh=>(hx k).mpr hh) id;have A1:w'.heap[(es i).c]?=w.heap[(es i).c]?:=A0.block _ (ak hc) fun hh=>by
  rcases hh with hh|hh
  .exact h.cx i i hi hi hh
  .exact(h.bx i hi).2 hh
 refine⟨_,o1,h.play hi (e':=⟨(es i).p,eE (es i).p H S Q s1 d1,(es i).c⟩) rfl rfl (fun k hk=>(g1 k hk).imp (fun hh=>(hx k).mpr hh) id) g2 A0 ⟨t,tr,pg,H,S,Q,A3,A2,J1,s1,d1,hT,ht,pb.q,fun k=>Iff.rfl,A1.trans hc,hcB⟩ pb.b pb.dj,sE A0 (fun k _ hk=>?_) h.B,fun j=>?_,fun X hX h1 h2=>A0.block X hX fun hh=>?_⟩
 .rcases hk with hk|hk
  .exact((h.prs i hi).lt hk).2.1
  .exact h.bk.base k hk
 .show(if j=i then (⟨(es i).p,eE (es i).p H S Q s1 d1,(es i).c⟩:PE) else es j).p=(es j).p;split
  .rename_i e;rw[e]
  .rfl
 .rcases hh with hh|hh
  .exact h1 i hi hh
  .exact h2 hh
theorem DC (h:aU B0 n w O o m es lv){i:Nat}(hi:i<m)(x:lT)(hn:n<=1000000):
  Calls prog 13 #[.pointer (some ⟨(es i).p,0,none⟩),.agg #[.int .i64 x.k,.int .i64 x.a,.int .i64 x.b,.int .i64 x.c,.string x.str],.pointer (some ⟨O,0,none⟩)] w fun e w'=>e=.returned (.bool true)/\sQ B0 n w O o m es lv w':=by
 obtain⟨t,tr,pg,H,S,Q,hm,hd,J,s,d,hT,ht,pb,hx,hc,A0⟩:=h.pb hi;refine(FZ (oq hT ht pg B0) x pb (by omega) (by omega)).mono ?_;rintro e w' ⟨rfl,hN⟩;exact⟨rfl,wR h hi hT ht hx hc A0 hN⟩
theorem AZ (h:aU B0 n w O o m es lv){i:Nat}(hi:i<m)(hn:n<=1000000):
  Calls prog 15 #[.pointer (some ⟨(es i).p,0,none⟩),.pointer (some ⟨O,0,none⟩)] w fun e w'=>e=.returned (.bool true)/\sQ B0 n w O o m es lv w':=by
 obtain⟨t,tr,pg,H,S,Q,hm,hd,J,s,d,hT,ht,pb,hx,hc,A0⟩:=h.pb hi;refine(vC (oq hT ht pg B0) pb (by omega) w (v7 _ _)).mono ?_;rintro e w' ⟨rfl,hN⟩;exact⟨rfl,wR h hi hT ht hx hc A0 hN⟩
theorem zO (h:aU B0 n w O o m es lv){i:Nat}(hi:i<m):
  ∃ (H S:Nat) (J:ByteArray),w.cell? ⟨(es i).p,0,none⟩=some (.pointer (some ⟨H,0,none⟩))/\w.cell? ⟨(es i).p,1,none⟩=some (.pointer (some ⟨S,0,none⟩))/\w.cell? ⟨S,7,none⟩=some (.string J)/\(es i).p<w.heap.size/\S<w.heap.size /\
   Hid (Calls prog 16 #[.pointer (some ⟨H,0,none⟩)] w fun e w'=>e=.returned (.string J)/\w'=w):=by
 obtain⟨t,tr,pg,H,S,Q,hm,hd,J,s,d,hT,ht,q,hx,hc,A0⟩:=h.prs i hi;exact⟨H,S,aI J,(ag q.q.p).trans rfl,(ag q.q.p).trans rfl,(ag q.q.gd.sim.at'.sB).trans rfl,ak q.q.p,ak q.q.gd.sim.at'.sB,rS (B:=0) (m:=n) (w0:=w) (F:=fun _=>False) w ⟨n,s,v9 _,q.q.gj,fun k _=>⟨Qa _,id⟩,fun k hk=>hk.elim,v7 _ _,Qa _⟩⟩
def dq (B0 n:Nat)(O:Nat)(m:Nat)(lv:Value)(w0:World)(P:Nat)(wx:World):Prop:=
 ∃ es o,Below B0 w0 wx/\((aU B0 n wx O o m es lv/\wx.heap[P]?=some (.cells #[.pointer none,.pointer none,.slice none 0 0,.string ⟨#[]⟩] 42))\/∃ e:PE,e.p=P/\dN B0 n wx O o m es lv e)
theorem dq.base {w0 w1 wx:World}{P:Nat}(h:dq B0 n O m lv w1 P wx)(hb:Below B0 w0 w1):dq B0 n O m lv w0 P wx:=by
 obtain⟨es,o,h1,h2⟩:=h;exact⟨es,o,hb.trans h1,h2⟩
theorem dN.head {e:PE}(h:dN B0 n w O o m es lv e):∃ H,w.cell? ⟨e.p,0,none⟩=some (.pointer (some ⟨H,0,none⟩))/\e.p<w.heap.size:=by
 obtain⟨t,tr,pg,H,S,Q,hm,hd,J,s,d,_,_,q,_⟩:=h.pr;exact⟨H,(ag q.q.p).trans rfl,ak q.q.p⟩
theorem DD (h:aU B0 n w O o m es lv)(t:ByteArray)(hn:n<=1000000):
  Calls prog 10 #[.string t,.pointer (some ⟨O,0,none⟩)] w fun e w'=>∃ P,e=.returned (.tuple #[.pointer (some ⟨P,0,none⟩),.bool true])/\dq B0 (n+1) O m lv w P w':=by
 refine(BF t O o w h.bk (by omega)).mono ?_;rintro e w' ⟨P,rfl,⟨_,hp,hb⟩|⟨o',e1,hp,ht⟩⟩
 .exact⟨P,rfl,es,o,hb.mono h.B,.inl ⟨h.below (by omega) hb,hp⟩⟩
 .exact⟨P,rfl,es,o',sE ht.fr (fun k _ hk=>h.bk.base k hk) h.B,.inr ⟨e1,hp,ht.all h⟩⟩
theorem BP (h:aU B0 n w O o m es lv){i:Nat}(hi:i<m)(x:lT)(ha:-9223372036854775808<=x.a/\x.a<=9223372036854775807)(hn:n<=1000000):
  Calls prog 12 #[.pointer (some ⟨(es i).p,0,none⟩),.agg #[.int .i64 x.k,.int .i64 x.a,.int .i64 x.b,.int .i64 x.c,.string x.str]] w fun e w'=>∃ P,e=.returned (.tuple #[.pointer (some ⟨P,0,none⟩),.bool true])/\dq B0 (n+1) O m lv w P w':=by
 refine(BO (es i) x.k x.a x.b x.c x.str w (h.prs i hi) ha hn).mono ?_;rintro r w' ⟨e1,rfl,hc,hp,hx,hb⟩;have A1:=(h.prs i hi).clt.1;have A2:=h.len;refine⟨e1.p,rfl,es,o,hb.mono h.B,.inr ⟨e1,rfl,⟨h.below (by omega) hb,hp.keep (by omega) (fun _ _=>rfl) (fun _ _ _=>rfl) rfl,fun j hj k hk hk2=>?_,fun j hj=>⟨fun hk=>?_,fun hk=>?_⟩,fun hk=>?_,⟨fun k hk hX=>?_,fun hX=>?_⟩,fun k hk=>⟨fun hk2=>?_,fun e2=>?_⟩,by omega⟩⟩⟩
 .have:=hx k hk;have:=((h.prs j hj).lt hk2).1;omega
 .have:=hx _ hk;have:=(h.prs j hj).clt.1;omega
 .rw[hc]at hk;exact h.cx j i hj hi hk
 .have:=hx _ hk;rw[hc]at this;omega
 .have:=hx k hk;have:=h.bk.lt hX;omega
 .rw[hc]at hX;exact(h.bx i hi).2 hX
 .obtain⟨_,c,A0⟩:=cS h.row hk;have:=hx k hk2;have:=ak A0;omega
 .rw[hc]at e2;exact((h.lx k hk).2 i hi).2 e2
theorem wQ (h:aU B0 n w O o m es lv)(hn:n<=1000000):
  Calls prog 14 #[.pointer (some ⟨O,0,none⟩)] w fun e w'=>e=.returned (.bool true)/\aG w w':=
 xf _ O o.n o.cv o.rv o.qv o.cb o.rb o.qb w h.bk.oa (by have:=h.bk.cb;omega) (by have:=h.bk.rb;omega) (by have:=h.bk.qb;omega)
theorem aU.get {la:Option Addr}{lc:Nat}(h:aU B0 n w O o m es (.slice la m lc)){i:Nat}(hi:i<m):∃ g,la=some ⟨g,0,none⟩/\w.cell? ⟨g,i,none⟩=some (.pointer (some ⟨(es i).p,0,none⟩))/\g<w.heap.size:=by
 obtain⟨g,A0,hv,_,_⟩:=h.row.form (by omega);simp at hv;obtain⟨rfl,rfl⟩:=hv;have hg:g<w.heap.size:=by
  obtain⟨_,c,hc⟩:=cS h.row (k:=g) rfl;exact ak hc
 exact⟨g,rfl,(eW h.row i _ (CR hi)).1,hg⟩
end
def pe (x:lT):Prop:=(-9223372036854775808<=x.a/\x.a<=9223372036854775807)/\(-9223372036854775808<=x.c/\x.c<=9223372036854775807)
theorem Tryz.infoPairP:(prog.info? 38).map (fun i=>(i.zero,i.size,i.bytes))=some (some (.pointer none),1,8):=by kernel_rfl
theorem DE (sa:Option Addr)(sb soff scap:Nat)(ops:List lT)(w:World)(hsc:tt w sa sb soff ops)(hrg:∀ x∈ops,pe x)(hlen:ops.length<=400000):
  Calls prog 4 #[.slice sa ops.length scap] w fun e w'=>e=.returned (.bool true)/\Below w.heap.size w w':=by
 have C7:Hid (∃ es o,aU w.heap.size 0 (w.alloc (.cells #[.int .i64 0,.slice none 0 0,.slice none 0 0,.slice none 0 0] 28)) w.heap.size o 0 es (.slice none 0 0)):=by
  obtain⟨h1,h2⟩:=FD w w.heap.size (v9 _);exact⟨fun _=>⟨0,fun _=>False,0⟩,_,h1,fun i hi=>by omega,fun i j hi=>by omega,fun i j hi=>by omega,fun i hi=>by omega,Qg _ _ _ _,fun k hk=>(by cases hk),v9 _⟩
 have C6:Hid (tt w sa sb soff ops/\∀ x∈ops,pe x):=⟨hsc,hrg⟩;have C5:Hid (Below w.heap.size w (w.alloc (.cells #[.int .i64 0,.slice none 0 0,.slice none 0 0,.slice none 0 0] 28))):=(v7 _ _).alloc (v9 _) _;clear hsc hrg;go_enter func4,ntmps4
 go_wp2_with fail
 go_loopw [3,5] (fun lv iv wr=>∃ (k m:Nat) (la:Option Addr) (lc:Nat),k<=ops.length/\m<=k/\iv=.int .i64 k/\lv=.slice la m lc/\Hid (∃ es o,aU w.heap.size k wr w.heap.size o m es (.slice la m lc))/\Hid (Below w.heap.size w wr)) (fun _ iv _=>ops.length - (intOf iv).toNat)
 case atStart=>exact⟨0,0,none,0,Qa _,v9 _,rfl,rfl,C7,C5⟩
 case round=>
  clear C7 C5;obtain⟨k,m,la,lc,hk,E1,rfl,rfl,HA,HB⟩:=hrel;by_cases hlt:k<ops.length
  .obtain⟨rfl,D3,A1⟩:=C6.1 (by omega);have cell:∀ j v,(qG ops[k])[j]?=some v->wr.cell? ⟨sb,soff+k*5+j,none⟩=some v:=fun j v hj=>(HB.cell (p:=⟨sb,soff+k*5+j,none⟩) D3).trans (A1 k hlt j v hj);have e0:wr.cell? ⟨sb,soff+k*5,none⟩=some (.int .i64 ops[k].k):=cell 0 _ rfl;have e1:wr.cell? ⟨sb,soff+k*5+1,none⟩=some (.int .i64 ops[k].a):=cell 1 _ rfl;have e2:wr.cell? ⟨sb,soff+k*5+2,none⟩=some (.int .i64 ops[k].b):=cell 2 _ rfl;have e3:wr.cell? ⟨sb,soff+k*5+3,none⟩=some (.int .i64 ops[k].c):=cell 3 _ rfl;have e4:wr.cell? ⟨sb,soff+k*5+4,none⟩=some (.string ops[k].str):=cell 4 _ rfl;have C1:sb<wr.heap.size:=Qh D3 HB.size;have B6:Hid (pe ops[k]):=C6.2 _ (Qb hlt);clear cell A1;generalize ops[k]=x at *;obtain⟨W2,A6⟩:∃ W2,W2=(wr.alloc (.cells #[.int .i64 x.k,.int .i64 x.a,.int .i64 x.b,.int .i64 x.c,.string x.str] 47)).alloc (.cells #[.pointer none,.pointer none,.slice none 0 0,.string ⟨#[]⟩] 42):=⟨_,rfl⟩;have A4:Below wr.heap.size wr W2:=by rw[A6];exact((v7 _ _).alloc (v9 _) _).alloc (by simp) _
   have C0:W2.heap[wr.heap.size+1]?=some (.cells #[.pointer none,.pointer none,.slice none 0 0,.string ⟨#[]⟩] 42):=by rw[A6];exact ey _ _ _
   have D1:W2.heap[wr.heap.size]?=some (.cells #[.int .i64 x.k,.int .i64 x.a,.int .i64 x.b,.int .i64 x.c,.string x.str] 47):=by
    rw[A6,q9 _ _ _ (by simp)];exact v8 _ _
   have B3:Hid (∃ es o,aU w.heap.size k W2 w.heap.size o m es (.slice la m lc)/\(∀ X,wr.heap.size<=X->(∀ i,i<m->¬ (es i).x X)/\¬ bP w.heap.size o X)):=by
    obtain⟨es,o,hA⟩:=HA;exact⟨es,o,hA.below (v9 _) A4,fun X hX=>⟨fun i hi hk=>by have:=((hA.prs i hi).lt hk).1;omega,fun hk=>by have:=hA.bk.lt hk;omega⟩⟩
   have A5:Hid (Below w.heap.size w W2/\W2.heap[wr.heap.size+1]?=some (.cells #[.pointer none,.pointer none,.slice none 0 0,.string ⟨#[]⟩] 42)):=⟨HB.trans (A4.mono HB.size),C0⟩;have C8:wr.heap.size+1<W2.heap.size:=ak C0;obtain⟨m0,m1,m2,m3,m4⟩:=jp D1;clear A4 C0 D1;go_upto_block 2 with fail
   rw[<- A6];clear A6 e0 e1 e2 e3 e4 C1;generalize wr.heap.size=R at *;have D6:R<W2.heap.size:=by omega
   go_cut [7,8] (fun okv xv wx=>∃ P,okv=.bool true/\xv=.pointer (some ⟨P,0,none⟩)/\Hid (dq w.heap.size (k+1) w.heap.size m (.slice la m lc) w P wx))
   case first=>
    go_upto_region 11 with fail
    go_cut [41] (fun c wx=>c=.bool ((x.k==8) || (((m:Nat):Int)==0))/\wx=W2)
    case first=>
     cases h8:(x.k==8) with
     | true=>
      go_wp2_with fail
      go_meet;case rel=>exact⟨by rw[h8];rfl,rfl⟩
     | false=>
      go_wp2_with fail
      go_meet;case rel=>exact⟨by rw[h8];rfl,rfl⟩
    case rest=>
     obtain⟨rfl,A8⟩:=hcut;rw[A8];clear A8;generalize hT8:((x.k==8) || (((m:Nat):Int)==0))=T8;have D4:Hid (T8=false->0<m):=fun h=>by
      rw[h]at hT8;simp at hT8;omega
     clear hT8;cases T8 with
     | true=>
      obtain⟨es,o,hA,_⟩:=id B3;have HC:=(show Hid _ from DD hA x.str (by omega):Hid (Calls prog 10 #[.string x.str,.pointer (some ⟨w.heap.size,0,none⟩)] W2 _));clear hA;go_wp2_with fail
      refine HC.mono ?_;rintro r w3 ⟨P,rfl,hr⟩;have HR:Hid (dq w.heap.size (k+1) w.heap.size m (.slice la m lc) w P w3):=hr.base A5.1;clear hr HC;go_wp2_with fail
      go_meet;case rel=>exact⟨P,rfl,rfl,HR⟩
     | false=>
      have D7:=D4 rfl;go_upto_region 13 with fail
      go_cut [57] (fun c wx=>c=.bool ((x.k==9) || (x.k==10))/\wx=W2)
      case first=>
       cases h9:(x.k==9) with
       | true=>
        go_wp2_with fail
        go_meet;case rel=>exact⟨by rw[h9];rfl,rfl⟩
       | false=>
        go_wp2_with fail
        go_meet;case rel=>exact⟨by rw[h9];rfl,rfl⟩
      case rest=>
       obtain⟨rfl,A8⟩:=hcut;rw[A8];clear A8;generalize ((x.k==9) || (x.k==10))=D9;obtain⟨es,o,hA,A0⟩:=B3;obtain⟨i,hi,D2⟩:=sL x.c m W2 D7 B6.2;obtain⟨g,rfl,cg,B9⟩:=hA.get hi;have A9:=(show Hid _ from D2:Hid (Calls prog 11 #[.int .i64 x.c,.int .i64 ((m:Nat):Int)] W2 _));clear D2;cases D9 with
       | true=>
        have HC:=(show Hid _ from BP hA hi x B6.1 (by omega):Hid (Calls prog 12 #[.pointer (some ⟨(es i).p,0,none⟩),.agg #[.int .i64 x.k,.int .i64 x.a,.int .i64 x.b,.int .i64 x.c,.string x.str]] W2 _));clear hA A0;go_wp2_with fail
        refine A9.mono ?_;rintro r w3 ⟨rfl,hw⟩;rw[hw];clear hw A9;go_wp2_with fail
        refine HC.mono ?_;rintro r w3 ⟨P,rfl,hr⟩;have HR:Hid (dq w.heap.size (k+1) w.heap.size m (.slice (some ⟨g,0,none⟩) m lc) w P w3):=hr.base A5.1;clear hr HC;go_wp2_with fail
        go_meet;case rel=>exact⟨P,rfl,rfl,HR⟩
       | false=>
        have HC:Hid (Calls prog 13 #[.pointer (some ⟨(es i).p,0,none⟩),.agg #[.int .i64 x.k,.int .i64 x.a,.int .i64 x.b,.int .i64 x.c,.string x.str],.pointer (some ⟨w.heap.size,0,none⟩)] W2 fun r w'=>r=.returned (.bool true)/\dq w.heap.size (k+1) w.heap.size m (.slice (some ⟨g,0,none⟩) m lc) w (R+1) w'):=by
         refine(DC hA hi x (by omega)).mono ?_;rintro r w3 ⟨rfl,B0,o',h1,h2,_,h4⟩;exact⟨rfl,B0,o',A5.1.trans h2,.inl ⟨h1,(h4 (R+1) C8 (A0 (R+1) (by omega)).1 (A0 (R+1) (by omega)).2).trans A5.out.2⟩⟩
        clear hA A0;go_wp2_with fail
        refine A9.mono ?_;rintro r w3 ⟨rfl,hw⟩;rw[hw];clear hw A9;go_wp2_with fail
        refine HC.mono ?_;rintro r w3 ⟨rfl,hr⟩;have HR:=ah hr;clear hr HC;go_wp2_with fail
        go_meet;case rel=>exact⟨R+1,rfl,rfl,HR⟩
   case rest=>
    obtain⟨P,rfl,rfl,HR⟩:=hcut;clear m0 m1 m2 m3 m4 C8 D6 A5 B3 B6;obtain⟨es,o,B2,A7⟩:=id HR;rcases A7 with ⟨hA,hP⟩|⟨e,rfl,hN⟩
    .have c0:wc.cell? ⟨P,0,none⟩=some (.pointer none):=(ag hP).trans rfl;have B8:=ak hP;have HK:=(show Hid _ from wQ hA (by omega):Hid (Calls prog 14 #[.pointer (some ⟨w.heap.size,0,none⟩)] wc _));have A2:Hid (aU w.heap.size (k+1) wc w.heap.size o m es (.slice la m lc)/\Below w.heap.size w wc):=⟨hA,B2⟩;clear hA hP B2 HR;go_wp2_with fail
     refine HK.mono ?_;rintro r w4 ⟨rfl,A3⟩;have B4:Hid (∃ es o,aU w.heap.size (k+1) w4 w.heap.size o m es (.slice la m lc)):=⟨es,o,A2.1.below (v9 _) (A3.below _)⟩;have B5:Hid (Below w.heap.size w w4):=A2.2.trans (A3.below _);clear A3 HK A2;go_wp2_with fail
     go_roundw;case rel=>exact⟨k+1,m,la,lc,by omega,by omega,by go_num,rfl,B4,B5⟩
     case measure=>simp[intOf];omega
    .obtain⟨H,c0,B8⟩:=hN.head;have HN:Hid (dN w.heap.size (k+1) wc w.heap.size o m es (.slice la m lc) e/\Below w.heap.size w wc):=⟨hN,B2⟩;clear hN B2 HR;go_wp2_with (at_builtin;refine gN _ rfl (.tmp 85) (.tmp 87) 45 rfl 38 _ 1 8 underlying45 Tryz.infoPairP rfl (by decide) (by decide) (.slice la m lc) m 1 (kO m es) wc.heap.size [_] (by rfl) (by exact(bZ HN.1.all.row).alloc _) (by exact v8 _ _) (by rfl) rfl (by simp[Value.oneCell']) (by decide) (by omega) ?_)
     intro v2 w2 hown2 ha2;obtain⟨B7,A4⟩:=(HN.1.below ((v7 _ _).alloc (v9 _) _)).push hown2 ha2;obtain⟨C2,C3,D8⟩:=bD hown2;subst D8;have HK:=(show Hid _ from wQ B7 (by omega):Hid (Calls prog 14 #[.pointer (some ⟨w.heap.size,0,none⟩)] w2 _));have A2:Hid ((∃ es,aU w.heap.size (k+1) w2 w.heap.size o (m+1) es (.slice C2 (m+1) C3))/\Below w.heap.size w w2):=⟨⟨_,B7⟩,(HN.2.trans (((v7 _ _).alloc (v9 _) _).mono HN.2.size)).trans A4⟩;clear B7 A4 hown2 ha2 HN c0 B8;go_wp2_with fail
     refine HK.mono ?_;rintro r w4 ⟨rfl,A3⟩;have B4:Hid (∃ es o,aU w.heap.size (k+1) w4 w.heap.size o (m+1) es (.slice C2 (m+1) C3)):=by
      obtain⟨D5,h2⟩:=A2.1;exact⟨D5,o,h2.below (v9 _) (A3.below _)⟩
     have B5:Hid (Below w.heap.size w w4):=A2.2.trans (A3.below _);clear A3 HK A2;go_wp2_with fail
     go_roundw;case rel=>exact⟨k+1,m+1,C2,C3,by omega,by omega,by go_num,rfl,B4,B5⟩
     case measure=>simp[intOf];omega
  .obtain rfl:k=ops.length:=by omega
   go_wp2_with fail
   go_loopw [12] (fun iv wr2=>∃ i:Nat,i<=m/\iv=.int .i64 i/\Hid (∃ es o,aU w.heap.size (ops.length+i) wr2 w.heap.size o m es (.slice la m lc))/\Hid (Below w.heap.size w wr2)) (fun iv _=>m - (intOf iv).toNat)
   case atStart=>exact⟨0,Qa _,rfl,HA,HB⟩
   case round=>
    clear HA HB;obtain⟨i,hi,rfl,HA,HB⟩:=hrel;by_cases hlt2:i<m
    .obtain⟨es,o,hA⟩:=id HA;obtain⟨g,rfl,cg,B9⟩:=hA.get hlt2;have HL:=(show Hid _ from AZ hA hlt2 (by omega):Hid (Calls prog 15 #[.pointer (some ⟨(es i).p,0,none⟩),.pointer (some ⟨w.heap.size,0,none⟩)] wr _));clear hA;go_wp2_with fail
     refine HL.mono ?_;rintro r w3 ⟨rfl,B0,o',B1,C9,_,_⟩;clear cg B9 HL;obtain⟨g',D0,cg,B9⟩:=B1.get hlt2;obtain rfl:g'=g:=by simpa using D0.symm
     obtain⟨H,S,J,q0,q1,q7,B8,E0,HJ⟩:=zO B1 hlt2;have C4:Hid ((∃ es o,aU w.heap.size (ops.length+i+1) w3 w.heap.size o m es (.slice (some ⟨g',0,none⟩) m lc))/\Below w.heap.size w w3):=⟨⟨B0,o',B1⟩,HB.trans C9⟩;clear B1 C9 D0 HA HB;generalize (B0 i).p=PP at *;go_wp2_with fail
     refine HJ.mono ?_;rintro r w4 ⟨rfl,hw⟩;rw[hw];clear hw HJ;go_wp2_with fail
     go_roundw;case rel=>exact⟨i+1,by omega,by go_num,C4.out.1,C4.out.2⟩
     case measure=>simp[intOf];omega
    .go_wp2_with fail
     go_ret;exact⟨rfl,HB⟩
open Go.ChangeShapes Go.WideShapes Go.ChangeAt Go.RowKit Go.Proofs.Herald
theorem wV {H:Type}:∀ (l:List (DataW H)),(∀ d∈l,6<=Rows.uptoBulk d)->6*l.length<=Rows.uptoBulkAll l
 | [],_=>Qa _
 | d::r,h=>by
  have h1:=h d (List.mem_cons_self ..);have h2:=wV r fun x hx=>h x (Qf _ hx);simp only[Rows.uptoBulkAll,List.length_cons];omega
theorem zj {H:Type}{enc:TypeId×Value->H}{W:World}{sp:Nat->Bool}{held:Bool}{r:Reach}{b0:Nat}{v:Value}{d:DataW H}{ps:List MemPlace}(hval:Value.okWide prog W r b0 22 v)(hd:DataW.Trod enc prog W 0 sp held 22 v d ps):
  ∃ a cap b off cs,v=.slice a (List.length cs) cap/\tt W a b off cs/\(∀ x∈cs,pe x)/\6*List.length cs<=Rows.uptoBulk d:=by
 obtain⟨a0,len,cap,rfl⟩:=okWide_slice underlying22 hval;obtain⟨B1,hf⟩:=hd;rcases DataW.trod_slice underlying22 hf with ⟨h,hx⟩|⟨ad,len',cap',elems,rest,m,_,h,hx,_,hle,_,hlen,hel,_,_⟩
 .simp[Value.cells]at h;obtain⟨rfl,rfl,rfl⟩:=h;exact⟨none,0,0,0,[],rfl,fun h=>absurd h (by simp),fun x hx=>(by cases hx),Qa _⟩
 .simp[Value.cells]at h;obtain⟨rfl,rfl,rfl⟩:=h;simp only[Prod.mk.injEq]at hx;obtain⟨rfl,_⟩:=hx;rw[Tryz.cellsOp]at hel;have A0:∀ i,i<len->∃ x:lT,(∀ j u,(qG x)[j]?=some u->W.cell? ((ad.add (i*5)).add j)=some u)/\pe x/\∀ y,elems[i]?=some y->6<=Rows.uptoBulk y.1:=by
   intro i hi;obtain⟨y,hy⟩:∃ y,elems[i]?=some y:=⟨elems[i],List.getElem?_eq_getElem (by omega)⟩;have h1:=hel i hi;rw[hy,Option.bind_eq_some_iff]at h1;obtain⟨A5,B2,ht⟩:=h1;obtain⟨_,B6,A2⟩:=World.cells?_some B2;obtain⟨xs,k,_,B5,_,A8,A1⟩:=DataW.trod_struct underlying47 ht;have A4:∀ (j:Nat) (f:Field),j<4->(#[{name := "Kind",type:=3,offset:=0,embedded:=false,tag := "",pkgPath := "",byteOffset:=0},{name := "A",type:=3,offset:=1,embedded:=false,tag := "",pkgPath := "",byteOffset:=8},{name := "B",type:=3,offset:=2,embedded:=false,tag := "",pkgPath := "",byteOffset:=16},{name := "C",type:=3,offset:=3,embedded:=false,tag := "",pkgPath := "",byteOffset:=24},{name := "S",type:=9,offset:=4,embedded:=false,tag := "",pkgPath := "",byteOffset:=32}]:Array Field)[j]?=some f->f.type=3->f.offset=j->∃ z:Int,A5[j]?=some (.int .i64 z)/\(-9223372036854775808<=z/\z<=9223372036854775807):=by
    intro j f hj hf1 hf2 hf3;have h2:=A1 j f hf1;have A7:xs[j]?=some (xs[j]'(by rw[A8];exact Nat.lt_trans hj (by decide))):=List.getElem?_eq_getElem _;rw[A7,hf2,hf3,Tryz.cells3]at h2;exact Dz h2
   obtain⟨z0,e0,_⟩:=A4 0 _ (by omega) rfl rfl rfl;obtain⟨z1,e1,q1⟩:=A4 1 _ (by omega) rfl rfl rfl;obtain⟨z2,e2,_⟩:=A4 2 _ (by omega) rfl rfl rfl;obtain⟨z3,e3,q3⟩:=A4 3 _ (by omega) rfl rfl rfl;obtain⟨z4,e4⟩:∃ z:ByteArray,A5[4]?=some (.string z):=by
    have h2:=A1 4 {name := "S",type:=9,offset:=4,embedded:=false,tag := "",pkgPath := "",byteOffset:=32} rfl;have A7:xs[4]?=some (xs[4]'(by rw[A8];decide)):=List.getElem?_eq_getElem _;rw[A7]at h2;simp only[Tryz.cellsStr]at h2;obtain⟨z,hz,_⟩:=DataW.trod_string underlying9 h2;refine⟨z,?_⟩;have h0:((A5.drop 4).take 1)[0]?=some (.string z):=by rw[hz];rfl
    rw[List.getElem?_take_of_lt (by omega),List.getElem?_drop]at h0;simpa using h0
   refine⟨⟨z0,z1,z2,z3,z4⟩,fun j u hj=>?_,⟨q1,q3⟩,fun y' hy'=>?_⟩
   .have B0:j<5:=by have:=(List.getElem?_eq_some_iff.mp hj).1;simpa[qG] using this
    rw[A2 j B0];match j,B0 with
    | 0,_=>rw[e0];exact hj
    | 1,_=>rw[e1];exact hj
    | 2,_=>rw[e2];exact hj
    | 3,_=>rw[e3];exact hj
    | 4,_=>rw[e4];exact hj
   .rw[hy]at hy';obtain rfl:y=y':=by simpa using hy'
    rw[B5];have h5:=wU (xs.map (·.1));rw[List.length_map,A8]at h5;simp only[Rows.uptoBulk];have h6:(5:Nat)<=Rows.uptoBulkAll (xs.map (·.1)):=h5;omega
  have B3:6*len<=Rows.uptoBulkAll (elems.map (·.1)):=by
   have h1:=wV (elems.map (·.1)) fun d hd=>by
    obtain⟨y,hy,rfl⟩:=List.mem_map.mp hd;obtain⟨i,hi,rfl⟩:=List.getElem_of_mem hy;obtain⟨_,_,_,h3⟩:=A0 i (by omega);exact h3 _ (List.getElem?_eq_getElem hi)
   rw[List.length_map]at h1;omega
  by_cases hpos:0<len
  .obtain⟨x0,B4,_⟩:=A0 0 hpos;obtain⟨b,off,A9⟩:=ad;have g0:=B4 0 _ rfl;have A3:A9=none:=by simpa[Addr.add] using World.cell?_spot g0
   subst A3;have A6:b<W.heap.size:=by
    rcases Nat.lt_or_ge b W.heap.size with h|h
    .exact h
    .exfalso;have h2:W.heap[b]?=none:=Array.getElem?_eq_none h;have g1:=g0;rw[Addr.add_lit,Addr.add_lit]at g1;simp[World.cell?,h2]at g1
   refine⟨_,cap,b,off,List.ofFn (fun i:Fin len=>Classical.choose (A0 i.1 i.2)),by rw[List.length_ofFn],fun _=>⟨rfl,A6,fun i hi j u hj=>?_⟩,fun x hx=>?_,by rw[List.length_ofFn];simp only[Rows.uptoBulk];omega⟩
   .rw[List.length_ofFn]at hi;rw[List.getElem_ofFn]at hj;have h1:=(Classical.choose_spec (A0 i hi)).1 j u hj;rw[Addr.add_lit,Addr.add_lit]at h1;exact h1
   .obtain⟨i,rfl⟩:=List.mem_ofFn.mp hx;exact(Classical.choose_spec (A0 i.1 i.2)).2.1
  .obtain rfl:len=0:=by omega
   exact⟨_,cap,0,0,[],rfl,fun h=>absurd h (by simp),fun x hx=>(by cases hx),Qa _⟩
end Go.Proofs.YtmmmnghiegajmaaGreat
