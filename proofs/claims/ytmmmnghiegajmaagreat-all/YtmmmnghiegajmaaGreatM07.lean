import Derived.Test.YtmmmnghiegajmaaGreatM05
import Derived.OwnWalk
set_option maxHeartbeats 2000000
set_option maxRecDepth 20000
open Go.RowKit Go.Proofs.Herald Go.Proofs.Tryz
namespace Go.Proofs.YtmmmnghiegajmaaGreat
def aZ (l:List am):List Value:=l.flatMap fo
def dQ:am:=⟨77,77,0,0⟩
theorem Tryz.infoInstr:(prog.info? 91).map (fun i=>(i.zero,i.size,i.bytes))=some (some (.agg #[.int .i64 0,.int .i64 0,.int .i64 0,.int .i64 0]),4,32):=by kernel_rfl
theorem iS (l:List am):(aZ l).length=l.length*4:=by
 induction l with
 | nil=>rfl
 | cons x r ih=>simp only[aZ,List.flatMap_cons,List.length_append]at *;rw[ih];simp[fo];omega
theorem kv (l r:List am):aZ (l++r)=aZ l++aZ r:=by simp[aZ]
theorem lX:∀ (l:List am)(i:Nat)(hi:i<l.length)(j:Nat)(_:j<4),(aZ l)[i*4+j]?=(fo l[i])[j]?:=by
 intro l;induction l with
 | nil=>intro i hi;simp at hi
 | cons x r ih=>
  intro i hi j hj;simp only[aZ,List.flatMap_cons];cases i with
  | zero=>
   rw[List.getElem?_append_left (by simp[fo];omega)];simp
  | succ i=>
   rw[List.getElem?_append_right (by simp[fo];omega)];have:=ih i (by simpa using hi) j hj;simp only[aZ]at this;have e:(i+1)*4+j - (fo x).length=i*4+j:=by simp[fo];omega
   rw[e,this];simp
theorem oe {w:World}{S:Nat}{l:List am}{rest:List Value}{e:TypeId}{fz:Nat×Nat}(h:w.heap[S]?=some (.cells (aZ l++rest).toArray e fz)):eF w S 0 l:=fun i hi j u hj=>by
 have hj4:j<4:=by have:=(List.getElem?_eq_some_iff.mp hj).1;simpa[fo] using this
 rw[ag h,Nat.zero_add];show(aZ l++rest).toArray[i*4+j]?=_;rw[List.getElem?_toArray,List.getElem?_append_left (by rw[iS];omega),lX l i hi j hj4];exact hj
theorem yu {A:List Value}{r0 r1 r2 r3:Value}{rest:List Value}(u0 u1 u2 u3:Value)(k:Nat)(hk:k=A.length):
  ((((A++r0::r1::r2::r3::rest).set k u0).set (k+1) u1).set (k+2) u2).set (k+3) u3=A++[u0,u1,u2,u3]++rest:=by
 subst hk;simp[Nat.add_sub_cancel_left]
theorem yr {w:World}{S k:Nat}{A:List Value}{r0 r1 r2 r3:Value}{rest:List Value}{e:TypeId}(h:w.heap[S]?=some (.cells (A++r0::r1::r2::r3::rest).toArray e (0,0)))(hk:k=A.length):
  w.cell? ⟨S,k,none⟩=some r0/\w.cell? ⟨S,k+1,none⟩=some r1/\w.cell? ⟨S,k+2,none⟩=some r2/\w.cell? ⟨S,k+3,none⟩=some r3/\w.frozen? ⟨S,k,none⟩=false/\w.frozen? ⟨S,k+1,none⟩=false/\w.frozen? ⟨S,k+2,none⟩=false/\w.frozen? ⟨S,k+3,none⟩=false:=by
 subst hk;refine⟨?_,?_,?_,?_,aC h,aC h,aC h,aC h⟩ <;> (rw[ag h];simp)
theorem yd {w:World}{S k:Nat}{A:List Value}{r0 r1 r2 r3:Value}{rest:List Value}{e:TypeId}(h:w.heap[S]?=some (.cells (A++r0::r1::r2::r3::rest).toArray e (0,0)))(hk:k=A.length)(u0 u1 u2 u3:Value):
  ((((w.setCell ⟨S,k,none⟩ u0).setCell ⟨S,k+1,none⟩ u1).setCell ⟨S,k+2,none⟩ u2).setCell ⟨S,k+3,none⟩ u3).heap[S]?=some (.cells (A++[u0,u1,u2,u3]++rest).toArray e (0,0)):=by
 rw[cG _ (cG _ (cG _ (cG _ h)))];simp only[List.setIfInBounds_toArray];rw[yu u0 u1 u2 u3 k hk]
theorem FB {B:Nat}{a w:World}(h:Below B a w){S k:Nat}(hS:B<=S)(u0 u1 u2 u3:Value):Below B a ((((w.setCell ⟨S,k,none⟩ u0).setCell ⟨S,k+1,none⟩ u1).setCell ⟨S,k+2,none⟩ u2).setCell ⟨S,k+3,none⟩ u3):=
 (((h.setCell (p:=⟨S,k,none⟩) hS _).setCell (p:=⟨S,k+1,none⟩) hS _).setCell (p:=⟨S,k+2,none⟩) hS _).setCell (p:=⟨S,k+3,none⟩) hS _
theorem vg (w:World):Calls prog 58 #[] w fun e w'=>e=.returned (.agg #[.int .i64 77,.int .i64 77,.int .i64 0,.int .i64 0])/\w'=w.alloc (.cells #[.int .i64 77,.int .i64 77,.int .i64 0,.int .i64 0] 91):=by
 go_enter func58,ntmps58
 go_wp2_with fail
 exact bodyPost_ret (v:=.agg #[.int .i64 77,.int .i64 77,.int .i64 0,.int .i64 0]) (by simp[results,results58,go_sem]) rfl ⟨rfl,rfl⟩
theorem uK (w:World):Calls prog 58 #[] w fun e w'=>e=.returned (.agg #[.int .i64 77,.int .i64 77,.int .i64 0,.int .i64 0])/\Below w.heap.size w w':=
 (vg w).mono fun e w' h=>⟨h.1,by rw[h.2];exact(v7 _ _).alloc (v9 _) _⟩
theorem vj (a:Option Addr)(b off cap:Nat)(cs:List am)(w:World)(hc:aH w a b off cs)(hn:cs.length<=4398046511000):
  Calls prog 28 #[.slice a cs.length cap] w fun e w'=>∃ S,w.heap.size<=S/\e=.returned (.slice (some ⟨S,0,none⟩) cs.length (cs.length+2))/\w'.heap[S]?=some (.cells (aZ (cs++[dQ,dQ])).toArray 91)/\Below w.heap.size w w':=by
 obtain⟨i0,hi,B9,B1,C0⟩:=info_parts Tryz.infoInstr;have HC:=ah hc;clear hc;go_enter func28,ntmps28
 go_wp2_with (at_make;refine wpList_make_full _ rfl _ _ 29 rfl w.heap.size 91 i0 _ 4 underlying29 hi B9 B1 _ _ _ _ (cs.length+2) rfl rfl (by go_num) (by go_num) (by rw[C0];omega) (by unfold maxLen;omega) (v9 _) ?_)
 intro w1 hown1 hgrow1;obtain⟨Z,hZ⟩:∃ Z:List Value,Z=(madeCells #[.int .i64 0,.int .i64 0,.int .i64 0,.int .i64 0] ((cs.length+2)*4)).toList:=⟨_,rfl⟩;rw[<- hZ]at hown1;have A8:Hid (Z.length=(cs.length+2)*4):=hown1.1;have A6:Hid (w1.heap[w.heap.size]?=some (.cells Z.toArray 91)):=by
  show _=_;rcases hown1.2 with ⟨h,_⟩|⟨g,c,cur,hv,hb,hg,h1,h2,h3,h4⟩
  .cases h
  .simp at hv;obtain⟨rfl,rfl⟩:=hv;rw[hg];have:cur.toList=Z:=by rw[<- h4];exact(Qe (by simp;omega)).symm
   rw[<- this]
 have A4:Hid (Below w.heap.size w w1):=(v7 _ _).grown hgrow1 (v9 _) (fun k hk=>by cases hk);clear hown1 hgrow1 hZ;have A2:Hid (0<cs.length->∃ ad,a=some ad/\∀ j v,(aZ cs)[j]?=some v->w1.cell? (ad.add j)=some v):=fun hp=>by
  obtain⟨rfl,B0,B8⟩:=HC hp;refine⟨_,rfl,fun j v hj=>?_⟩;have C1:j<cs.length*4:=by have:=(List.getElem?_eq_some_iff.mp hj).1;rwa [iS]at this
  have e:j=j / 4*4+j % 4:=by omega
  have A9:j / 4<cs.length:=by omega
  have h2:=(B8.keep (A4.block b B0)) (j / 4) A9 (j % 4) v (by rw[<- lX cs (j / 4) A9 (j % 4) (by omega),<- e];exact hj);rw[Addr.add_lit];rw[show off+j=off+j / 4*4+j % 4 from by omega];exact h2
 have A1:Hid (∀ v∈aZ cs,v.oneCell'=true):=by
  intro v hv;obtain⟨x,_,hx⟩:=List.mem_flatMap.mp hv;simp[fo]at hx;rcases hx with rfl|rfl|rfl|rfl <;> rfl
 go_wp2_with (refine tJ rfl (.tmp 9) (.tmp 10) 29 29 rfl 91 underlying29 4 (by rw[hi];exact congrArg some B1) w.heap.size (cs.length+2) (cs.length+2) rfl a cs.length cap rfl Z 91 A6 (aZ cs) (by omega) (iS cs) A2.out (by rw[iS,A8.out];omega) A1.out ?_)
 intro w2 hg2 hgrow2;have B5:=ah hg2;have B2:Hid (Below w.heap.size w w2):=A4.grown hgrow2 A4.size (fun k hk=>by cases hk;exact v9 _);clear hg2 hgrow2 A2 A1 A6;go_wp2_with fail
 go_loopw [4] (fun i wr=>∃ (k j:Nat) (rest:List Value),k=cs.length+j/\j<=2/\i=.int .i64 k/\rest.length=(2 - j)*4/\Hid (wr.heap[w.heap.size]?=some (.cells (aZ (cs++List.replicate j dQ)++rest).toArray 91))/\Hid (Below w.heap.size w wr)) (fun i _=>cs.length+2 - (intOf i).toNat)
 case atStart=>
  refine⟨cs.length,0,Z.drop (aZ cs).length,rfl,by omega,rfl,?_,?_,B2⟩
  .rw[List.length_drop,iS,A8];omega
  .show _=_;rw[B5];simp
 case round=>
  obtain⟨k,j,rest,hk,hj,rfl,A3,HG,HB⟩:=hrel;by_cases B0:j<2
  .have C2:k<cs.length+2:=by omega
   obtain⟨r0,r1,r2,r3,A0,rfl⟩:∃ r0 r1 r2 r3 A0,rest=r0::r1::r2::r3::A0:=by
    match rest,A3 with
    | r0::r1::r2::r3::A0,_=>exact⟨r0,r1,r2,r3,A0,rfl⟩
    | [],h=>simp at h;omega
    | [_],h=>simp at h;omega
    | [_,_],h=>simp at h;omega
    | [_,_,_],h=>simp at h;omega
   have HK:Hid (k*4=(aZ (cs++List.replicate j dQ)).length):=by show _=_;rw[iS];simp;omega
   have B7:Hid (A0.length=(2 - (j+1))*4):=by show _=_;simp at A3;omega
   have B6:Hid (k+1=cs.length+(j+1)):=by show _=_;omega
   clear hk A3;go_wp2_with fail
   refine(uK _).mono ?_;rintro e w3 ⟨rfl,A5⟩;have A7:Hid (_=_):=(A5.block w.heap.size (ak HG)).trans HG;have B3:Hid (Below w.heap.size w w3):=HB.trans (A5.mono HB.size);obtain⟨c0,c1,c2,c3,z0,z1,z2,z3⟩:=yr A7 HK;clear A5 HG HB;go_wp2_with fail
   have HE:Hid (aZ (cs++List.replicate j dQ)++[.int .i64 77,.int .i64 77,.int .i64 0,.int .i64 0]=aZ (cs++List.replicate (j+1) dQ)):=by
    show _=_;rw[List.replicate_succ',<- List.append_assoc,kv (cs++List.replicate j dQ)];rfl
   go_roundw;case rel=>exact⟨k+1,j+1,A0,B6,by omega,by go_num,B7.out,by show _=_;rw[yd A7 HK,HE],FB B3 (v9 _) _ _ _ _⟩
   case measure=>simp[intOf];omega
  .obtain rfl:j=2:=by omega
   obtain rfl:rest=[]:=List.eq_nil_of_length_eq_zero (by simpa using A3);have B4:Hid (wr.heap[w.heap.size]?=some (.cells (aZ (cs++[dQ,dQ])).toArray 91)):=by have h:=HG.out;simp at h;exact h
   clear HG A3;go_wp2_with fail
   go_ret;exact⟨_,v9 _,rfl,B4,HB⟩
theorem yV (a a':Option Addr)(b off cap b' off' cap' n:Nat)(cs:List am)(w:World)(hn:n=cs.length)(hm:cs.length<=4398046511000)(h:aH w a b off cs)(h':aH w a' b' off' cs):
  Calls prog 60 #[.slice a n cap,.slice a' n cap'] w fun e w'=>e=.returned (.bool true)/\Below w.heap.size w w':=by
 subst hn;have HC:Hid (aH w a b off cs/\aH w a' b' off' cs):=⟨h,h'⟩;clear h h';go_enter func60,ntmps60
 go_wp2_with fail
 go_loopw [5] (fun i wr=>∃ k:Nat,k<=cs.length/\i=.int .i64 k/\Hid (Below w.heap.size w wr)) (fun i _=>cs.length - (intOf i).toNat)
 case atStart=>exact⟨0,Qa _,rfl,v7 _ _⟩
 case round=>
  obtain⟨k,hk,rfl,HB⟩:=hrel;by_cases hlt:k<cs.length
  .obtain⟨rfl,g1,h1⟩:=HC.1 (by omega);obtain⟨rfl,g2,h2⟩:=HC.2 (by omega);obtain⟨c0,c1,c2,c3⟩:=(h1.keep (HB.block _ g1)).get k hlt;obtain⟨d0,d1,d2,d3⟩:=(h2.keep (HB.block _ g2)).get k hlt;generalize cs[k]=x at *;obtain⟨op,xa,xb,xc⟩:=x;simp only[]at c0 c1 c2 c3 d0 d1 d2 d3;clear h1 h2 g1 g2;go_wp2_with fail
   go_region;all_goals
    go_wp2_with fail
    go_roundw;case rel=>exact⟨k+1,by omega,by go_num,HB.out.drew⟩
    case measure=>simp[intOf];omega
  .go_wp2_with fail
   go_ret;exact⟨rfl,HB⟩
theorem wz (a':Option Addr)(S b' off' cap':Nat)(cs:List am)(w:World)(hm:cs.length<=4398046511000)(hS:w.heap[S]?=some (.cells (aZ (cs++[dQ,dQ])).toArray 91))(h':aH w a' b' off' cs):
  Calls prog 30 #[.slice (some ⟨S,0,none⟩) cs.length (cs.length+2),.slice a' cs.length cap'] w fun e w'=>e=.returned (.bool true)/\Below w.heap.size w w':=by
 have HS:Hid (eF w S 0 (cs++[dQ,dQ])/\S<w.heap.size):=⟨oe (rest:=[]) (by rw[List.append_nil];exact hS),ak hS⟩;have HC:=ah h';have A4:Hid (aH w (some ⟨S,0,none⟩) S 0 cs):=fun _=>⟨rfl,ak hS,oe (rest:=aZ [dQ,dQ]) (by rw[<- kv];exact hS)⟩;clear h' hS;go_enter func30,ntmps30
 go_wp2_with fail
 refine(yV _ _ S 0 _ b' off' _ _ cs _ rfl hm A4 HC).mono ?_;rintro e w1 ⟨rfl,A1⟩;have A3:=ah A1;clear A1;go_wp2_with fail
 go_loopw [7] (fun i wr=>∃ k:Nat,cs.length<=k/\k<=cs.length+2/\i=.int .i64 k/\Hid (Below w.heap.size w wr)) (fun i _=>cs.length+2 - (intOf i).toNat)
 case atStart=>exact⟨cs.length,v9 _,by omega,rfl,A3⟩
 case round=>
  obtain⟨k,A6,hk,rfl,HB⟩:=hrel;by_cases hlt:k<cs.length+2
  .have A2:k<(cs++[dQ,dQ]).length:=by simp;omega
   obtain⟨c0,c1,c2,c3⟩:=(HS.out.1.keep (HB.block _ HS.out.2)).get k A2;have hx:(cs++[dQ,dQ])[k]=dQ:=by
    rw[List.getElem_append_right A6];have:k - cs.length=0\/k - cs.length=1:=by omega
    rcases this with h|h <;> simp[h]
   rw[hx]at c0 c1 c2 c3;rw[Nat.zero_add]at c0 c1 c2 c3;have e0:wr.cell? ⟨S,k*4,none⟩=some (.int .i64 77):=c0;have e1:wr.cell? ⟨S,k*4+1,none⟩=some (.int .i64 77):=c1;have e2:wr.cell? ⟨S,k*4+2,none⟩=some (.int .i64 0):=c2;have e3:wr.cell? ⟨S,k*4+3,none⟩=some (.int .i64 0):=c3;clear c0 c1 c2 c3 hx A2;have A5:S<wr.heap.size:=Qh HS.out.2 HB.size;have A0:Hid (∀ o,(wr.alloc o).heap[S]?=wr.heap[S]?):=fun o=>q9 _ _ _ A5;have f0:=(World.cell?_of_block (a:=⟨S,k*4,none⟩) (A0 (.cells #[.int .i64 77,.int .i64 77,.int .i64 0,.int .i64 0] 91))).trans e0;have f1:=(World.cell?_of_block (a:=⟨S,k*4+1,none⟩) (A0 (.cells #[.int .i64 77,.int .i64 77,.int .i64 0,.int .i64 0] 91))).trans e1;have f2:=(World.cell?_of_block (a:=⟨S,k*4+2,none⟩) (A0 (.cells #[.int .i64 77,.int .i64 77,.int .i64 0,.int .i64 0] 91))).trans e2;have f3:=(World.cell?_of_block (a:=⟨S,k*4+3,none⟩) (A0 (.cells #[.int .i64 77,.int .i64 77,.int .i64 0,.int .i64 0] 91))).trans e3;go_wp2_with fail
   go_region_with (go_at_call 58;refine(vg _).mono ?_;rintro e w' ⟨rfl,rfl⟩)
   all_goals
    go_wp2_with fail
    go_roundw;case rel=>exact⟨k+1,by omega,by omega,by go_num,(HB.out.alloc HB.out.size _).drew⟩
    case measure=>simp[intOf];omega
  .go_wp2_with fail
   go_ret;exact⟨rfl,HB⟩
theorem tK (L:List am)(k:Nat)(h:k<L.length):aZ L=aZ (L.take k)++.int .i64 L[k].op::.int .i64 L[k].a::.int .i64 L[k].b::.int .i64 L[k].c::aZ (L.drop (k+1)):=by
 have e:L=L.take k++(L[k]::L.drop (k+1)):=by rw[List.getElem_cons_drop,List.take_append_drop]
 have e2:aZ (L[k]::L.drop (k+1))=.int .i64 L[k].op::.int .i64 L[k].a::.int .i64 L[k].b::.int .i64 L[k].c::aZ (L.drop (k+1)):=rfl;have:=kv (L.take k) (L[k]::L.drop (k+1));rw[<- e,e2]at this;exact this
theorem wu (S n cap:Nat)(L:List am)(w:World)(hn:n<=L.length)(hm:n<=4398046511000)(hS:w.heap[S]?=some (.cells (aZ L).toArray 91)):
  Calls prog 31 #[.slice (some ⟨S,0,none⟩) n cap] w fun e w'=>e=.returned (.tuple #[])/\Fr (fun k=>k=S) w w':=by
 have HS:=ah hS;clear hS;go_enter func31,ntmps31
 go_wp2_with fail
 go_loopw [2] (fun i wr=>∃ (k:Nat) (L':List am),k<=n/\i=.int .i64 k/\L'.length=L.length/\Hid (wr.heap[S]?=some (.cells (aZ L').toArray 91))/\Hid (Fr (fun k=>k=S) w wr)) (fun i _=>n - (intOf i).toNat)
 case atStart=>exact⟨0,L,Qa _,rfl,rfl,HS,Fr.refl _ _⟩
 case round=>
  obtain⟨k,L',hk,rfl,hl,HG,HF⟩:=hrel;by_cases hlt:k<n
  .have A4:Hid (_=_):=tK L' k (by omega);have HL:Hid (k*4=(aZ (L'.take k)).length):=by show _=_;rw[iS];simp;omega
   have HN:Hid (aZ (L'.take k)++[.int .i64 77,.int .i64 77,.int .i64 0,.int .i64 0]++aZ (L'.drop (k+1))=aZ (L'.take k++dQ::L'.drop (k+1))/\(L'.take k++dQ::L'.drop (k+1)).length=L.length):=by
    refine⟨?_,by simp;omega⟩;rw[kv,List.append_assoc];rfl
   go_wp2_with fail
   refine(uK _).mono ?_;rintro e w3 ⟨rfl,A0⟩;have A2:=ak HG;have A1:Hid (w3.heap[S]?=some (.cells (aZ (L'.take k)++.int .i64 L'[k].op::.int .i64 L'[k].a::.int .i64 L'[k].b::.int .i64 L'[k].c::aZ (L'.drop (k+1))).toArray 91)):=by
    show _=_;rw[A0.block S A2,HG,A4]
   have A3:Hid (Fr (fun k=>k=S) w w3):=HF.trans ((Fr.of_below A0).mono fun j hj hs=>by omega);obtain⟨c0,c1,c2,c3,z0,z1,z2,z3⟩:=yr A1 HL;clear A0 HG HF A2;go_wp2_with fail
   go_roundw;case rel=>exact⟨k+1,_,by omega,by go_num,HN.out.2,by show _=_;rw[yd A1 HL,HN.1],(((A3.setCell ⟨S,k*4,none⟩ (Or.inl rfl) _).setCell ⟨S,k*4+1,none⟩ (Or.inl rfl) _).setCell ⟨S,k*4+2,none⟩ (Or.inl rfl) _).setCell ⟨S,k*4+3,none⟩ (Or.inl rfl) _⟩
   case measure=>simp[intOf];omega
  .go_wp2_with fail
   go_end0;exact⟨rfl,HF⟩
theorem mM (cs:List am):∀ v∈aZ cs,v.oneCell'=true:=by
 intro v hv;obtain⟨x,_,hx⟩:=List.mem_flatMap.mp hv;simp[fo]at hx;rcases hx with rfl|rfl|rfl|rfl <;> rfl
theorem cS {w:World}{B:Nat}{e:TypeId}{size:Nat}{v:Value}{n:Nat}{xs:List Value}(h:w.ownsRow B e size v n xs){k:Nat}(hk:v.ownBlock=some k):B<=k/\∃ cur,w.heap[k]?=some (.cells cur e (0,0)):=by
 rcases h.2 with ⟨rfl,_⟩|⟨g,cap,cur,rfl,hb,hg,r⟩
 .simp[Value.ownBlock]at hk
 .simp[Value.ownBlock]at hk;subst hk;exact⟨hb,cur,hg⟩
theorem bD {w:World}{B:Nat}{e:TypeId}{size:Nat}{v:Value}{n:Nat}{xs:List Value}(h:w.ownsRow B e size v n xs):∃ a cap,v=.slice a n cap:=by
 rcases h.2 with ⟨rfl,h0⟩|⟨g,cap,cur,rfl,_⟩
 .exact⟨none,0,by rw[h0]⟩
 .exact⟨_,_,rfl⟩
theorem eu {w w':World}{B:Nat}{e:TypeId}{size:Nat}{v:Value}{n:Nat}{xs:List Value}(h:w.ownsRow B e size v n xs)(hk:∀ k,v.ownBlock=some k->w'.heap[k]?=w.heap[k]?):w'.ownsRow B e size v n xs:=by
 refine⟨h.1,?_⟩;rcases h.2 with h2|⟨g,cap,cur,rfl,hb,hg,r⟩
 .exact .inl h2
 .exact .inr ⟨g,cap,cur,rfl,hb,by rw[hk g rfl];exact hg,r⟩
def qP (v:Value):Array Value:=#[v,.int .i64 0,.int .i64 0,.slice none 0 0,.slice none 0 0,.slice none 0 0,.slice none 0 0]
theorem Fi {w:World}{R:Nat}{e:TypeId}{v:Value}(h:w.heap[R]?=some (.cells (qP v) e (0,0))):
  w.cell? ⟨R,0,none⟩=some v/\w.cell? ⟨R,1,none⟩=some (.int .i64 0)/\w.cell? ⟨R,2,none⟩=some (.int .i64 0)/\w.cell? ⟨R,3,none⟩=some (.slice none 0 0)/\w.cell? ⟨R,4,none⟩=some (.slice none 0 0)/\w.cell? ⟨R,5,none⟩=some (.slice none 0 0)/\w.cell? ⟨R,6,none⟩=some (.slice none 0 0) /\
   (∀ j,w.frozen? ⟨R,j,none⟩=false):=
 ⟨(ag h).trans rfl,(ag h).trans rfl,(ag h).trans rfl,(ag h).trans rfl,(ag h).trans rfl,(ag h).trans rfl,(ag h).trans rfl,fun _=>aC h⟩
def ll (v:Value):Array Value:=#[v,.int .i64 0,.int .i64 0,.slice none 0 0,.slice none 0 0,.slice none 0 0,.slice none 0 0,.slice none 0 0]
theorem FC {B:Nat}{a w:World}(h:Below B a w){R:Nat}(hR:B<=R)(u0 u1 u2 u3 u4 u5 u6:Value):
  Below B a (((((((w.setCell ⟨R,0,none⟩ u0).setCell ⟨R,1,none⟩ u1).setCell ⟨R,2,none⟩ u2).setCell ⟨R,3,none⟩ u3).setCell ⟨R,4,none⟩ u4).setCell ⟨R,5,none⟩ u5).setCell ⟨R,6,none⟩ u6):=
 ((((((h.setCell (p:=⟨R,0,none⟩) hR _).setCell (p:=⟨R,1,none⟩) hR _).setCell (p:=⟨R,2,none⟩) hR _).setCell (p:=⟨R,3,none⟩) hR _).setCell (p:=⟨R,4,none⟩) hR _).setCell (p:=⟨R,5,none⟩) hR _).setCell (p:=⟨R,6,none⟩) hR _
theorem Bf (b off cap:Nat)(cs:List am)(w:World)(hc:aH w (some ⟨b,off,none⟩) b off cs)(hs:em cs=true):
  Calls prog 59 #[.slice (some ⟨b,off,none⟩) cs.length cap] w fun e w'=>∃ v,e=.returned (.tuple #[.agg #[v,.int .i64 0,.int .i64 0,.slice none 0 0,.slice none 0 0,.slice none 0 0,.slice none 0 0],.int .i64 0])/\w'.ownsRow w.heap.size 91 4 v cs.length (aZ cs)/\Below w.heap.size w w':=by
 have B7:cs.length<=1000:=by
  rcases Nat.lt_or_ge 1000 cs.length with h|h
  .rw[nz h]at hs;cases hs
  .exact h
 have HC:Hid (∀ W:World,aH W (some ⟨b,off,none⟩) b off cs->Calls prog 89 #[.slice (some ⟨b,off,none⟩) cs.length cap] W fun e w'=>e=.returned (.bool true)/\Below W.heap.size W w'):=fun W h=>by
  have:=EG _ b off cap cs W h;rw[hs]at this;exact this
 have B4:=ah hc;have B0:Hid (∀ o,aH (w.alloc o) (some ⟨b,off,none⟩) b off cs):=fun o=>hc.keep ((v7 _ _).alloc (v9 _) _);clear hc hs;obtain⟨i0,hi,C0,C1,C2⟩:=info_parts Tryz.infoInstr;go_enter func59,ntmps59
 go_wp2_with fail
 refine(HC _ (B0 _)).mono ?_;rintro e w1 ⟨rfl,A9⟩;have g1:w1.heap[w.heap.size]?=some (.cells (qP (.slice none 0 0)) 112):=(A9.block _ (by simp)).trans (v8 _ _);have A5:=ah g1;have A2:Hid (Below w.heap.size w w1):=((v7 _ _).alloc (v9 _) _).trans (A9.mono (by simp));clear A9 g1 HC B0;have A1:Hid (∀ W:World,(∀ k,k<w.heap.size->W.heap[k]?=w.heap[k]?)->∀ j v,(aZ cs)[j]?=some v->W.cell? ((⟨b,off,none⟩:Addr).add j)=some v):=fun W hW j v hj=>by
  have C5:j<cs.length*4:=by have:=(List.getElem?_eq_some_iff.mp hj).1;rwa [iS]at this
  obtain⟨_,B8,B6⟩:=B4 (by omega);have e:j=j / 4*4+j % 4:=by omega
  have B2:j / 4<cs.length:=by omega
  have h2:=(B6.keep (hW b B8)) (j / 4) B2 (j % 4) v (by rw[<- lX cs (j / 4) B2 (j % 4) (by omega),<- e];exact hj);rw[Addr.add_lit];rw[show off+j=off+j / 4*4+j % 4 from by omega];exact h2
 have A7:Hid ((w1.alloc (.cells #[] 91)).ownsRow w.heap.size 91 4 (.slice (some ⟨w1.heap.size,0,none⟩) 0 0) 0 []):=
  ⟨rfl,.inr ⟨w1.heap.size,0,#[],rfl,A2.size,v8 _ _,v9 _,Qa _,rfl,rfl⟩⟩
 have A3:Hid (Below w.heap.size w (w1.alloc (.cells #[] 91))):=A2.alloc A2.size _;have B1:Hid ((w1.alloc (.cells #[] 91)).heap[w.heap.size]?=some (.cells (qP (.slice none 0 0)) 112)):=by
  show _=_;rw[q9 _ _ _ (ak A5)];exact A5
 go_wp2_with (at_builtin;refine wpList_append_own _ rfl _ _ 29 rfl w.heap.size 91 i0 _ 4 32 underlying29 hi C0 C1 C2 rfl (by omega) _ 0 [] rfl A7.out ⟨b,off,none⟩ cs.length cap (aZ cs) rfl (iS cs) (A1.out _ A3.out.block) (mM cs) (by unfold maxLen;omega) (by omega) A3.out.size ?_)
 intro v' w2 hown2 hgrow2 _;have A4:w2.heap[w.heap.size]?=some (.cells (qP (.slice none 0 0)) 112):=by
  rw[hgrow2.block _ (ak B1) (by simp[Value.ownBlock];have:=ak A5;omega)];exact B1
 have B3:Hid (Below w.heap.size w w2):=A3.grown hgrow2 A3.size (fun k hk=>by simp[Value.ownBlock]at hk;subst hk;exact A2.size);have A6:=ah hown2;obtain⟨d0,d1,d2,d3,d4,d5,d6,hz⟩:=Fi A4;have z0:=hz 0;have z1:=hz 1;have z2:=hz 2;have z3:=hz 3;have z4:=hz 4;have z5:=hz 5;have z6:=hz 6;have B5:Hid (∀ k,v'.ownBlock=some k->k≠w.heap.size):=fun k hk=>by
  obtain⟨_,C4,hc⟩:=cS A6 hk;exact aA hc A4 (by decide)
 have C3:=ah A4;obtain⟨a2,A8,B9⟩:=bD A6;subst B9;clear hown2 hgrow2 hz A4;go_wp2_with fail
 refine bodyPost_ret (v:=.tuple #[.agg #[.slice a2 cs.length A8,.int .i64 0,.int .i64 0,.slice none 0 0,.slice none 0 0,.slice none 0 0,.slice none 0 0],.int .i64 0]) (by simp[results,results59,go_sem,d0,d1,d2,d3,d4,d5,d6]) rfl ⟨_,rfl,?_,?_⟩
 .refine eu A6 (fun k hk=>?_);have A0:=B5 k hk;rw[q8 _ _ _ _ A0,q8 _ _ _ _ A0,q8 _ _ _ _ A0,q8 _ _ _ _ A0,q8 _ _ _ _ A0,q8 _ _ _ _ A0,q8 _ _ _ _ A0]
 .exact FC B3 (v9 _) _ _ _ _ _ _ _
theorem wd (b off cap:Nat)(cs:List am)(w:World)(hc:aH w (some ⟨b,off,none⟩) b off cs)(hs:em cs=true):
  Calls prog 29 #[.slice (some ⟨b,off,none⟩) cs.length cap] w fun e w'=>∃ H v,e=.returned (.tuple #[.pointer (some ⟨H,0,none⟩),.int .i64 0])/\w.heap.size<=H/\w'.heap[H]?=some (.cells (ll v) 114)/\w'.ownsRow w.heap.size 91 4 v cs.length (aZ cs)/\Below w.heap.size w w':=by
 have HC:Hid (Calls prog 59 #[.slice (some ⟨b,off,none⟩) cs.length cap] w fun e w'=>∃ v,e=.returned (.tuple #[.agg #[v,.int .i64 0,.int .i64 0,.slice none 0 0,.slice none 0 0,.slice none 0 0,.slice none 0 0],.int .i64 0])/\w'.ownsRow w.heap.size 91 4 v cs.length (aZ cs)/\Below w.heap.size w w'):=Bf b off cap cs w hc hs;clear hc hs;go_enter func29,ntmps29
 go_wp2_with fail
 refine HC.mono ?_;rintro e w1 ⟨v,rfl,A0,A1⟩;obtain⟨a2,A2,A3⟩:=bD A0;subst A3;have HO:Hid (_/\_):=And.intro A0 A1;clear A0 A1;go_wp2_with fail
 go_ret2;refine⟨w1.heap.size+1,_,rfl,by have:=HO.2.size;omega,ey _ _ _,(HO.out.1.alloc _).alloc _,(HO.out.2.alloc HO.out.2.size _).alloc (by have:=HO.out.2.size;simp;omega) _⟩
end Go.Proofs.YtmmmnghiegajmaaGreat
