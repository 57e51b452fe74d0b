import Derived.Test.YtmmmnghiegajmaaGreatM33
set_option maxHeartbeats 4000000
set_option maxRecDepth 20000
open Go.RowKit Go.Proofs.Herald Go.Proofs.Tryz
namespace Go.Proofs.YtmmmnghiegajmaaGreat
theorem nO (H:Nat)(code rec:Value)(now last:Int)(rv:Value)(qv:Nat->Value)(qs:Nat->List aj)(ps:List Pr)(id:Int)(w:World)(h:bK w H code rec now last rv qv qs ps)(hl:ps.length<=1000):
  Calls prog 102 #[.pointer (some ⟨H,0,none⟩),.int .i64 id] w fun e w'=>e=.returned (.int .i64 (gG id ps:Nat))/\Below w.heap.size w w':=by
 obtain⟨a,A5,hv⟩:=bD h.rB;subst hv;have c3:w.cell? ⟨H,3,none⟩=some (.slice a ps.length A5):=(ag h.blk).trans rfl;have HR:Hid (w.ownsRow 0 172 19 (.slice a ps.length A5) ps.length (ew ps)/\(∀ p∈ps,p.regs.length=12)/\H<w.heap.size):=⟨h.rB,h.rl,ak h.blk⟩;clear h;go_enter func102,ntmps102
 go_wp2_with fail
 go_loopw [12] (fun i wr=>∃ k:Nat,k<=ps.length/\i=.int .i64 k/\Hid (Below w.heap.size w wr)/\Hid (∀ p∈ps.take k,¬ p.id=id)) (fun i _=>ps.length - (intOf i).toNat)
 case atStart=>exact⟨0,Qa _,rfl,v7 _ _,fun x hx=>absurd hx (by simp)⟩
 case round=>
  obtain⟨k,hk,rfl,HB,HT⟩:=hrel;rw[<- HB.cell (p:=⟨H,3,none⟩) HR.2.2]at c3;by_cases hlt:k<ps.length
  .obtain⟨g,A7,hv,_,A8⟩:=HR.1.form (by omega);simp at hv;obtain⟨rfl,rfl⟩:=hv;have A2:wr.ownsRow 0 172 19 (.slice (some ⟨g,0,none⟩) ps.length A5) ps.length (ew ps):=aT HR.1 fun b hb=>by obtain⟨c,hc⟩:=ax HR.1 hb;exact HB.block b (ak hc)
   have A3:=lL A2 HR.2.1 hlt;have A6:=HR.2.1 _ (Qb hlt);have A1:Hid (ps[k].id=id->gG id ps=k):=fun h=>DO hlt HT h;have A4:Hid (¬ ps[k].id=id->∀ p∈ps.take (k+1),¬ p.id=id):=fun h x hx=>by
    rw[Qd hlt,List.mem_append,List.mem_singleton]at hx;rcases hx with hx|rfl
    .exact HT x hx
    .exact h
   generalize ps[k]=m at *;obtain⟨C,hC⟩:∃ C,C=(cV m).toArray:=⟨_,rfl⟩;have A0:Hid (aM C m/\wr.rangeAt g (k*19) C.toList):=⟨⟨hC,A6⟩,aM.range ⟨hC,A6⟩ A3⟩;have c0:C[0]?=some (.int .i64 m.id):=by rw[hC];rfl
   clear A2 A8 A3 A6 hC;by_cases hr:m.id=id
   .have b1:(m.id==id)=true:=by simpa using hr
    have HY:Hid (_=_):=A1 hr;clear hr A1 A4;go_wp2_with (first|(refine wpList_load_mid rfl 172 (.tmp 15) rfl g (k*19) (by rfl) C.toList _ A0.2 underlying172 rfl A0.1.infoL ?_)|(refine jJ wr rfl 172 (.tmp 6) (.tmp 16) rfl jm C (by rfl) (by rfl) A0.1.info A0.1.zero A0.1.one ?_))
    go_ret;exact⟨by rw[HY];rfl,HB.alloc HB.size _⟩
   .have b1:(m.id==id)=false:=by simpa using hr
    have HN:Hid (∀ p∈ps.take (k+1),¬ p.id=id):=A4 hr;clear hr A1 A4;go_wp2_with (first|(refine wpList_load_mid rfl 172 (.tmp 15) rfl g (k*19) (by rfl) C.toList _ A0.2 underlying172 rfl A0.1.infoL ?_)|(refine jJ wr rfl 172 (.tmp 6) (.tmp 16) rfl jm C (by rfl) (by rfl) A0.1.info A0.1.zero A0.1.one ?_))
    go_roundw;case rel=>exact⟨k+1,by omega,by go_num,HB.out.alloc HB.out.size _,HN⟩
    case measure=>simp[intOf];omega
  .have HE:Hid (gG id ps=ps.length):=by
    have h:=HT.out;rw[Qe (by omega)]at h;exact AM h
   go_wp2_with fail
   go_ret;exact⟨by rw[HE];rfl,HB⟩
def nT (s:Nat×Int)(i:Nat)(p:Pr):Nat×Int:=if p.til<s.2 then (i,p.til) else s
def ko (n:Nat)(en:Int)(ps:List Pr):Nat->Nat×Int
 | 0=>(n,en+1)
 | k+1=>match ps[k]? with|some p=>nT (ko n en ps k) k p|none=>ko n en ps k
def ni (en:Int)(ps:List Pr):Nat:=(ko ps.length en ps ps.length).1
theorem uY {n:Nat}{en:Int}{ps:List Pr}{k:Nat}(hk:k<ps.length):ko n en ps (k+1)=nT (ko n en ps k) k ps[k]:=by
 rw[ko,List.getElem?_eq_getElem hk]
theorem Fj {E:bM Pr}(hE:∀ p,E.pub p=cF p)(en:Int)(ps:List Pr):∀ k,k<=ps.length ->
  ((ps.take k).foldl (fA E en) none=none/\ko ps.length en ps k=(ps.length,en+1))\/∃ i,∃ hi:i<ps.length,(ps.take k).foldl (fA E en) none=some ps[i]/\ko ps.length en ps k=(i,ps[i].til)/\ps[i].til<=en:=by
 intro k;induction k with
 | zero=>intro _;exact .inl ⟨rfl,rfl⟩
 | succ k ih=>
  intro hk;have A0:k<ps.length:=hk;rw[Qd A0,List.foldl_append,uY A0];have hp:(E.pub ps[k]).til=ps[k].til:=by rw[hE];rfl
  rcases ih (by omega) with ⟨h1,h2⟩|⟨i,hi,h1,h2,h3⟩
  .rw[h1,h2];simp only[List.foldl_cons,List.foldl_nil,fA,nT,hp];by_cases hc:ps[k].til<=en
   .rw[if_pos hc,if_pos (by omega)];exact .inr ⟨k,A0,rfl,rfl,hc⟩
   .rw[if_neg hc,if_neg (by omega)];exact .inl ⟨rfl,rfl⟩
  .have hq:(E.pub ps[i]).til=ps[i].til:=by rw[hE];rfl
   rw[h1,h2];simp only[List.foldl_cons,List.foldl_nil,fA,nT,hp,hq];by_cases hc:ps[k].til<ps[i].til
   .rw[if_pos (by omega),if_pos hc,if_pos hc];exact .inr ⟨k,A0,rfl,rfl,by omega⟩
   .rw[if_neg hc,if_neg hc];right;refine⟨i,hi,?_,rfl,h3⟩;split <;> rfl
theorem DN {E:bM Pr}(hE:∀ p,E.pub p=cF p)(en:Int)(ps:List Pr):(iM E en ps=none/\ni en ps=ps.length)\/∃ i,∃ hi:i<ps.length,iM E en ps=some ps[i]/\ni en ps=i:=by
 have h:=Fj hE en ps ps.length (v9 _);rw[Qe (v9 _)]at h;unfold iM ni;rcases h with ⟨h1,h2⟩|⟨i,hi,h1,h2,_⟩
 .exact .inl ⟨h1,by rw[h2]⟩
 .exact .inr ⟨i,hi,h1,by rw[h2]⟩
theorem Gv (H:Nat)(code rec:Value)(now last:Int)(rv:Value)(qv:Nat->Value)(qs:Nat->List aj)(ps:List Pr)(en:Int)(w:World)(h:bK w H code rec now last rv qv qs ps)(hl:ps.length<=1000)(he0:0<=en)(he1:en<=1000000000000):
  Calls prog 100 #[.pointer (some ⟨H,0,none⟩),.int .i64 en] w fun e w'=>e=.returned (.int .i64 (ni en ps:Nat))/\Below w.heap.size w w':=by
 obtain⟨a,A4,hv⟩:=bD h.rB;subst hv;have c3:w.cell? ⟨H,3,none⟩=some (.slice a ps.length A4):=(ag h.blk).trans rfl;have HR:Hid (w.ownsRow 0 172 19 (.slice a ps.length A4) ps.length (ew ps)/\(∀ p∈ps,p.regs.length=12)/\H<w.heap.size):=⟨h.rB,h.rl,ak h.blk⟩;clear h;go_enter func100,ntmps100
 go_wp2_with fail
 go_loopw [5,6,21] (fun f l i wr=>∃ (k fi:Nat) (lt:Int),k<=ps.length/\i=.int .i64 k/\f=.int .i64 fi/\l=.int .i64 lt/\Hid (ko ps.length en ps k=(fi,lt))/\Hid (Below w.heap.size w wr)) (fun _ _ i _=>ps.length - (intOf i).toNat)
 case atStart=>exact⟨0,ps.length,en+1,Qa _,rfl,rfl,rfl,by show _=_;rfl,v7 _ _⟩
 case round=>
  obtain⟨k,fi,lt,hk,rfl,rfl,rfl,HD,HB⟩:=hrel;clear c3;by_cases hlt:k<ps.length
  .obtain⟨g,A6,hv,_,A7⟩:=HR.1.form (by omega);simp at hv;obtain⟨rfl,rfl⟩:=hv;have A2:wr.ownsRow 0 172 19 (.slice (some ⟨g,0,none⟩) ps.length A4) ps.length (ew ps):=aT HR.1 fun b hb=>by obtain⟨c,hc⟩:=ax HR.1 hb;exact HB.block b (ak hc)
   have A3:=lL A2 HR.2.1 hlt;have A5:=HR.2.1 _ (Qb hlt);have A0:=uY (n:=ps.length) (en:=en) hlt;rw[HD]at A0;generalize ps[k]=m at *;obtain⟨C,hC⟩:∃ C,C=(cV m).toArray:=⟨_,rfl⟩;have A1:Hid (aM C m/\wr.rangeAt g (k*19) C.toList):=⟨⟨hC,A5⟩,aM.range ⟨hC,A5⟩ A3⟩;have c0:C[3]?=some (.int .i64 m.til):=by rw[hC];rfl
   clear A2 A7 A3 A5 hC;by_cases hr:m.til<lt
   .have HS:Hid (ko ps.length en ps (k+1)=(k,m.til)):=by rw[nT,if_pos hr]at A0;exact A0
    clear A0;go_wp2_with (first|(refine wpList_load_mid rfl 172 (.tmp 24) rfl g (k*19) (by rfl) C.toList _ A1.2 underlying172 rfl A1.1.infoL ?_)|(refine jJ wr rfl 172 (.tmp 8) (.tmp 25) rfl jm C (by rfl) (by rfl) A1.1.info A1.1.zero A1.1.one ?_))
    go_roundw;case rel=>exact⟨k+1,k,m.til,by omega,by go_num,rfl,rfl,HS,HB.out.alloc HB.out.size _⟩
    case measure=>simp[intOf];omega
   .have HS:Hid (ko ps.length en ps (k+1)=(fi,lt)):=by rw[nT,if_neg hr]at A0;exact A0
    clear A0;go_wp2_with (first|(refine wpList_load_mid rfl 172 (.tmp 24) rfl g (k*19) (by rfl) C.toList _ A1.2 underlying172 rfl A1.1.infoL ?_)|(refine jJ wr rfl 172 (.tmp 8) (.tmp 25) rfl jm C (by rfl) (by rfl) A1.1.info A1.1.zero A1.1.one ?_))
    go_roundw;case rel=>exact⟨k+1,fi,lt,by omega,by go_num,rfl,rfl,HS,HB.out.alloc HB.out.size _⟩
    case measure=>simp[intOf];omega
  .have HE:Hid (ni en ps=fi):=by
    have A8:k=ps.length:=by omega
    have h:=HD.out;rw[A8]at h;show(ko _ _ _ _).1=_;rw[h]
   go_wp2_with fail
   go_ret;exact⟨by rw[HE];rfl,HB⟩
theorem AL {ps:List Pr}{k i:Nat}(hk:k<ps.length):(ps.take (k+1)).eraseIdx i=if k=i then (ps.take k).eraseIdx i else (ps.take k).eraseIdx i++[ps[k]]:=by
 rw[Qd hk];have hl:(ps.take k).length=k:=by simp;omega
 generalize ps.take k=l at *;generalize ps[k]=x;by_cases h:k=i
 .subst h;rw[if_pos rfl,List.eraseIdx_append_of_length_le (by omega),hl,Nat.sub_self,List.eraseIdx_of_length_le (l:=l) (by omega)];simp
 .rw[if_neg h];by_cases hi:i<k
  .rw[List.eraseIdx_append_of_lt_length (by omega)]
  .rw[List.eraseIdx_append_of_length_le (by omega),List.eraseIdx_of_length_le (l:=l) (by omega),List.eraseIdx_of_length_le (by simp;omega)]
structure nX (w w':World)(H:Nat)(code rec:Value)(now last:Int)(rv:Value)(qv:Nat->Value)(ps:List Pr)(v':Value):Prop where
 blk:w'.heap[H]?=some (.cells (jn code rec now last v' qv) 114)
 own:w'.ownsRow w.heap.size 172 19 v' ps.length (ew ps)
 fr:Fr (fun k=>k=H) w w'
theorem bK.setRuns {w w':World}{H:Nat}{code rec:Value}{now last:Int}{rv v':Value}{qv:Nat->Value}{qs:Nat->List aj}{ps ps':List Pr}(h:bK w H code rec now last rv qv qs ps)(hr:nX w w' H code rec now last rv qv ps' v')(hl:∀ p∈ps',p.regs.length=12):bK w' H code rec now last v' qv qs ps':=by
 refine⟨hr.blk,fun d hd=>aT (h.oB d hd) fun b hb=>?_,h.ql,h.dis,bZ hr.own,hl⟩;obtain⟨c,hc⟩:=ax (h.oB d hd) hb;exact hr.fr.block b (ak hc) fun e=>aA hc h.blk (by decide) e
theorem wL (H:Nat)(code rec:Value)(now last:Int)(rv:Value)(qv:Nat->Value)(qs:Nat->List aj)(ps:List Pr)(i:Nat)(w:World)(h:bK w H code rec now last rv qv qs ps)(hl:ps.length<=1000):
  Calls prog 105 #[.pointer (some ⟨H,0,none⟩),.int .i64 (i:Nat)] w fun e w'=>e=.returned (.tuple #[])/\∃ v',nX w w' H code rec now last rv qv (ps.eraseIdx i) v':=by
 obtain⟨a,A2,hv⟩:=bD h.rB;subst hv;have c3:w.cell? ⟨H,3,none⟩=some (.slice a ps.length A2):=(ag h.blk).trans rfl;have HH:=ah h;have HR:Hid (w.ownsRow 0 172 19 (.slice a ps.length A2) ps.length (ew ps)/\(∀ p∈ps,p.regs.length=12)/\H<w.heap.size):=⟨h.rB,h.rl,ak h.blk⟩;clear h;go_enter func105,ntmps105
 go_wp2_with fail
 clear c3;go_loopw [4,12] (fun v j wr=>∃ k:Nat,k<=ps.length/\j=.int .i64 k/\Hid (wr.ownsRow w.heap.size 172 19 v ((ps.take k).eraseIdx i).length (ew ((ps.take k).eraseIdx i)))/\Hid (Below w.heap.size w wr)) (fun _ j _=>ps.length - (intOf j).toNat)
 case atStart=>exact⟨0,Qa _,rfl,Qg _ _ _ _,v7 _ _⟩
 case round=>
  obtain⟨k,hk,rfl,HV,HB⟩:=hrel;obtain⟨F,hF⟩:∃ F,F=(ps.take k).eraseIdx i:=⟨_,rfl⟩;rw[<- hF]at HV;have B9:F.length<=1000:=by rw[hF];have:=List.length_eraseIdx_le (ps.take k) i;simp at this;omega
  by_cases hlt:k<ps.length
  .have A0:=AL (i:=i) hlt;rw[<- hF]at A0;obtain⟨g,B4,hv,_,B6⟩:=HR.1.form (by omega);simp at hv;obtain⟨rfl,rfl⟩:=hv;have A3:wr.ownsRow 0 172 19 (.slice (some ⟨g,0,none⟩) ps.length A2) ps.length (ew ps):=aT HR.1 fun b hb=>by obtain⟨c,hc⟩:=ax HR.1 hb;exact HB.block b (ak hc)
   have A4:=lL A3 HR.2.1 hlt;have A7:=HR.2.1 _ (Qb hlt);generalize ps[k]=m at *;obtain⟨C,hC⟩:∃ C,C=(cV m).toArray:=⟨_,rfl⟩;have A1:Hid (aM C m/\wr.rangeAt g (k*19) C.toList):=⟨⟨hC,A7⟩,aM.range ⟨hC,A7⟩ A4⟩;clear A3 B6 A4 A7 hC hF;by_cases hr:k=i
   .have b1:((k:Int) != (i:Int))=false:=by rw[hr];simp
    have HE:Hid ((ps.take (k+1)).eraseIdx i=F):=by rw[if_pos hr]at A0;exact A0
    clear hr A0;go_wp2_with (first|(refine wpList_load_mid rfl 172 (.tmp 15) rfl g (k*19) (by rfl) C.toList _ A1.2 underlying172 rfl A1.1.infoL ?_)|(refine jJ wr rfl 172 (.tmp 6) (.tmp 16) rfl jm C (by rfl) (by rfl) A1.1.info A1.1.zero A1.1.one ?_))
    go_roundw;case rel=>exact⟨k+1,by omega,by go_num,by rw[HE.out];exact HV.alloc _,HB.alloc HB.size _⟩
    case measure=>simp[intOf];omega
   .have b1:((k:Int) != (i:Int))=true:=by simp;omega
    have HE:Hid ((ps.take (k+1)).eraseIdx i=F++[m]):=by rw[if_neg hr]at A0;exact A0
    have A9:Hid (C.toList.length=1*19):=by
     show _=_;have B5:=A1.1.size;simp[B5]
    have B0:Hid (∀ u∈C.toList,u.oneCell'=true):=by
     rw[A1.1.eq];exact ri m
    have B1:Hid (((wr.alloc (.cells C 172)).alloc (.cells C 172)).heap[wr.heap.size+1]?=some (.cells C.toList.toArray 172)):=ey _ _ _;have B2:Hid (((wr.alloc (.cells C 172)).alloc (.cells C 172)).ownsRow 0 172 19 u4 F.length (ew F)):=((bZ HV).alloc _).alloc _;clear hr A0;go_wp2_with (first|(refine wpList_load_mid rfl 172 (.tmp 15) rfl g (k*19) (by rfl) C.toList _ A1.2 underlying172 rfl A1.1.infoL ?_)|(refine jJ wr rfl 172 (.tmp 6) (.tmp 16) rfl jm C (by rfl) (by rfl) A1.1.info A1.1.zero A1.1.one ?_)|(refine wpList_load_mid rfl 172 (.tmp 6) rfl wr.heap.size 0 (by rfl) C.toList _ (aM.new (v8 _ _)) underlying172 rfl A1.1.infoL ?_)|(refine zs _ rfl (.tmp 21) rfl C (by rfl) A1.1.size (wr.heap.size+1) (by simp) ?_)|(at_builtin;refine gN _ rfl (.tmp 20) (.tmp 22) 107 rfl 172 _ 19 152 underlying107 Tryz.infoRunZ rfl (by decide) (by decide) u4 F.length 1 (ew F) (wr.heap.size+1) C.toList (by rfl) B2 B1 (by rfl) A9 B0 (by decide) (by omega) ?_))
    intro v2 w2 hown2 ha2;have A6:=iF (w0:=w) (B:=w.heap.size) ((HB.alloc HB.size _).alloc (by have:=HB.size;simp;omega) _) (by have:=HB.out.size;simp;omega) ((HV.out.alloc _).alloc _) hown2 ha2;replace hown2:=A6.2;have B3:Hid (w2.ownsRow w.heap.size 172 19 v2 ((ps.take (k+1)).eraseIdx i).length (ew ((ps.take (k+1)).eraseIdx i))):=by
     rw[HE,tX,List.length_append,show cV m=C.toList from by rw[A1.1.eq]];exact hown2
    have A8:Hid (Below w.heap.size w w2):=A6.1;clear hown2 ha2 A6;go_wp2_with fail
    go_roundw;case rel=>exact⟨k+1,by omega,by go_num,B3,A8⟩
    case measure=>simp[intOf];omega
  .have HE:Hid (F=ps.eraseIdx i):=by show _=_;rw[hF,Qe (by omega)]
   have A5:Hid (bK wr H code rec now last (.slice a ps.length A2) qv qs ps):=HH.below HB;have c1:wr.cell? ⟨H,3,none⟩=some (.slice a ps.length A2):=(ag A5.blk).trans rfl;have z:wr.frozen? ⟨H,3,none⟩=false:=aC A5.blk;clear hF;obtain⟨av,B8,B7⟩:=bD HV;subst B7;go_wp2_with fail
   go_end0;refine⟨rfl,_,cG _ A5.blk,?_,?_⟩
   .rw[<- HE];refine lF (aT (bZ HV) fun b hb=>?_) fun b hb=>(cS HV hb).1;obtain⟨c,hc⟩:=ax (bZ HV) hb;exact q8 _ _ _ _ (aA hc A5.blk (by decide))
   .exact((Fr.of_below HB).mono (T:=fun k=>k=H) fun j hj hs=>by omega).setCell ⟨H,3,none⟩ (Or.inl rfl) _
theorem qo {code rec:Value}{now last:Int}{rv:Value}{qv:Nat->Value}{d:Nat}(hd:d<3):(jn code rec now last rv qv)[4+d]?=some (qv d):=by
 match d,hd with
 | 0,_=>rfl
 | 1,_=>rfl
 | 2,_=>rfl
theorem uM {code rec:Value}{now last:Int}{rv v:Value}{qv:Nat->Value}{d:Nat}(hd:d<3):(jn code rec now last rv qv).setIfInBounds (4+d) v=jn code rec now last rv (bL qv d v):=by
 match d,hd with
 | 0,_=>rfl
 | 1,_=>rfl
 | 2,_=>rfl
theorem bK.que {w:World}{H:Nat}{code rec:Value}{now last:Int}{rv:Value}{qv:Nat->Value}{qs:Nat->List aj}{ps:List Pr}(h:bK w H code rec now last rv qv qs ps){d:Nat}(hd:d<3):jx w H (4+d) (jn code rec now last rv qv) 114 (qv d) (qs d):=
 ⟨h.blk,qo hd,by decide,h.oB d hd,h.ql d hd⟩
theorem qD (f:Nat->List aj)(d:Nat)(q:List aj):bU f d q=bL f d q:=rfl
theorem bK.setQueue {w w1:World}{H:Nat}{code rec:Value}{now last:Int}{rv v':Value}{qv:Nat->Value}{qs:Nat->List aj}{ps:List Pr}{q':List aj}{d:Nat}(h:bK w H code rec now last rv qv qs ps)(hd:d<3)
  (hq:jx w1 H (4+d) ((jn code rec now last rv qv).setIfInBounds (4+d) v') 114 v' q') (hv:∀ b,v'.ownBlock=some b->(qv d).ownBlock=some b\/w.heap.size<=b) (hf:Fr (fun k=>k=H\/(qv d).ownBlock=some k) w w1):
  bK w1 H code rec now last rv (bL qv d v') (bU qs d q') ps:=by
 have A0:∀ e,e<3->e≠d->∀ b,(qv e).ownBlock=some b->w1.heap[b]?=w.heap[b]?:=fun e he hne b hb=>by
  obtain⟨c,hc⟩:=ax (h.oB e he) hb;refine hf.block b (ak hc) ?_;rintro(hk|hk)
  .exact aA hc h.blk (by decide) hk
  .exact hne (h.dis e d b he hd hb hk)
 refine⟨by rw[<- uM hd];exact hq.blk,fun e he=>?_,fun e he=>?_,fun e f b he hf' h1 h2=>?_,aT h.rB fun b hb=>?_,h.rl⟩
 .by_cases hed:e=d
  .subst hed;rw[ec,qD,ec];exact hq.own
  .rw[eH _ _ hed,qD,eH _ _ hed];exact aT (h.oB e he) (A0 e he hed)
 .by_cases hed:e=d
  .subst hed;rw[qD,ec];exact hq.len
  .rw[qD,eH _ _ hed];exact h.ql e he
 .have new:∀ e b,e<3->e≠d->(qv e).ownBlock=some b->v'.ownBlock≠some b:=fun e b he hne hb hh=>by
   rcases hv b hh with hx|hx
   .exact hne (h.dis e d b he hd hb hx)
   .obtain⟨c,hc⟩:=ax (h.oB e he) hb;have:=ak hc;omega
  by_cases hed:e=d
  .by_cases hfd:f=d
   .omega
   .subst hed;rw[ec]at h1;rw[eH _ _ hfd]at h2;exact absurd h1 (new f b hf' hfd h2)
  .by_cases hfd:f=d
   .subst hfd;rw[ec]at h2;rw[eH _ _ hed]at h1;exact absurd h2 (new e b he hed h1)
   .rw[eH _ _ hed]at h1;rw[eH _ _ hfd]at h2;exact h.dis e f b he hf' h1 h2
 .obtain⟨c,hc⟩:=ax h.rB hb;refine hf.block b (ak hc) ?_;rintro(hk|hk)
  .exact aA hc h.blk (by decide) hk
  .obtain⟨c2,A1⟩:=ax (h.oB d hd) hk;exact aA hc A1 (by decide) rfl
theorem zk {B:Nat}{e:TypeId}{size n g cap:Nat}:∀ (cs:List Value) {w:World} {A rest old:List Value} (p:Nat),w.ownsRow B e size (.slice (some ⟨g,0,none⟩) n cap) n (A++old++rest)->p=A.length->old.length=cs.length->(w.setCells g p cs).ownsRow B e size (.slice (some ⟨g,0,none⟩) n cap) n (A++cs++rest):=by
 intro cs;induction cs with
 | nil=>
  intro w A rest old p h _ ho;have:old=[]:=List.eq_nil_of_length_eq_zero ho;subst this;exact h
 | cons c cs ih=>
  intro w A rest old p h hp ho;match old,ho with
  | x::old,ho=>
   have h1:=iX h p c;have e1:(A++(x::old)++rest).set p c=(A++[c])++old++rest:=by
    subst hp;simp
   rw[e1]at h1;have h2:=ih (p+1) h1 (by simp[hp]) (by simpa using ho);rw[World.setCells];simpa using h2
theorem tO (b:Nat):∀ (cs:List Value) (o:Nat) (w:World) (k:Nat),k≠b->(w.setCells b o cs).heap[k]?=w.heap[k]?:=by
 intro cs;induction cs with
 | nil=>intro o w k _;rfl
 | cons c cs ih=>
  intro o w k hk;rw[World.setCells,ih (o+1) _ k hk,q8 _ _ _ _ hk]
theorem zG {S:Nat->Prop}{b:Nat}(hb:S b):∀ (cs:List Value) (o:Nat) {w0 w:World},Fr S w0 w->Fr S w0 (w.setCells b o cs):=by
 intro cs;induction cs with
 | nil=>intro o w0 w h;exact h
 | cons c cs ih=>
  intro o w0 w h;rw[World.setCells];exact ih (o+1) (h.setCell ⟨b,o,none⟩ (.inl hb) _)
theorem qZ (a b:List Pr):ew (a++b)=ew a++ew b:=by unfold ew;simp
theorem tH (ps:List Pr)(i:Nat)(h:i<ps.length):ew ps=ew (ps.take i)++cV ps[i]++ew (ps.drop (i+1)):=by
 have e:ps=ps.take i++[ps[i]]++ps.drop (i+1):=by simp
 conv=>lhs;rw[e]
 rw[qZ,qZ];simp[ew]
theorem tU (ps:List Pr)(i:Nat)(h:i<ps.length)(p:Pr):ew (ps.set i p)=ew (ps.take i)++cV p++ew (ps.drop (i+1)):=by
 rw[List.set_eq_take_append_cons_drop,if_pos h,qZ];simp[ew]
theorem bK.setRun {w w1:World}{H:Nat}{code rec:Value}{now last:Int}{qv:Nat->Value}{qs:Nat->List aj}{ps:List Pr}{g cap i:Nat}{p:Pr}(h:bK w H code rec now last (.slice (some ⟨g,0,none⟩) ps.length cap) qv qs ps)(hi:i<ps.length)(hp:p.regs.length=12)(e1:w1=w.setCells g (i*19) (cV p)):
  bK w1 H code rec now last (.slice (some ⟨g,0,none⟩) ps.length cap) qv qs (ps.set i p):=by
 subst e1;obtain⟨c,hc⟩:=ax h.rB (k:=g) rfl;refine⟨(tO _ _ _ _ _ (aA h.blk hc (by decide))).trans h.blk,fun d hd=>aT (h.oB d hd) fun b hb=>?_,h.ql,h.dis,?_,fun x hx=>?_⟩
 .obtain⟨c2,A0⟩:=ax (h.oB d hd) hb;exact tO _ _ _ _ _ (aA A0 hc (by decide))
 .have h1:=h.rB;rw[tH ps i hi]at h1;have h2:=zk (cV p) (i*19) h1 (by rw[tI (fun x hx=>h.rl x (List.mem_of_mem_take hx)),List.length_take,Nat.min_eq_left (by omega)]) (by rw[lW hp,lW (h.rl _ (Qb hi))]);rw[List.length_set,tU ps i hi];exact h2
 .rcases List.mem_or_eq_of_mem_set hx with hx|rfl
  .exact h.rl x hx
  .exact hp
theorem bK.ran {w W wc:World}{H R:Nat}{code rec:Value}{now last:Int}{rv:Value}{qv:Nat->Value}{qs:Nat->List aj}{ps:List Pr}{q':List aj}{p':Pr}{d:Nat}(h:bK w H code rec now last rv qv qs ps)(hd:d<3)(hb:Below w.heap.size w W)(hR:w.heap.size<=R)
  (ho:aO W wc R H (4+d) (jn code rec now last rv qv) 114 (qv d) q' p'):
  ∃ v',bK wc H code rec now last rv (bL qv d v') (bU qs d q') ps/\wc.heap[R]?=some (.cells (cV p').toArray 172)/\p'.regs.length=12/\(∀ k,bQ H rv (bL qv d v') k->bQ H rv qv k\/w.heap.size<=k)/\Fr (bQ H rv qv) w wc:=by
 obtain⟨⟨v',hA,hv⟩,hF⟩:=ho;have f1:Fr (fun k=>(k=H\/(qv d).ownBlock=some k)\/w.heap.size<=k) w W:=(Fr.of_below hb).mono fun k _ hk=>.inr hk;have f2:Fr (fun k=>(k=H\/(qv d).ownBlock=some k)\/w.heap.size<=k) W wc:=hF.mono fun k _ hk=>by
  rcases hk with rfl|hk
  .exact .inr hR
  .exact .inl hk
 have f3:Fr (fun k=>k=H\/(qv d).ownBlock=some k) w wc:=(f1.trans f2).mono fun k hk hs=>by
  rcases hs with h|h
  .exact h
  .omega
 have A0:∀ b,v'.ownBlock=some b->(qv d).ownBlock=some b\/w.heap.size<=b:=fun b hb'=>by
  rcases hv b hb' with h|h
  .exact .inl h
  .exact .inr (Qc hb.size h)
 refine⟨v',h.setQueue hd hA.que A0 f3,hA.run,hA.rl,fun k hk=>?_,f3.mono fun k _ hk=>?_⟩
 .rcases hk with rfl|⟨e,he,hk⟩|hk
  .exact .inl (.inl rfl)
  .by_cases hed:e=d
   .subst hed;rw[ec]at hk;rcases A0 k hk with h|h
    .exact .inl (.inr (.inl ⟨e,he,h⟩))
    .exact .inr h
   .rw[eH _ _ hed]at hk;exact .inl (.inr (.inl ⟨e,he,hk⟩))
  .exact .inl (.inr (.inr hk))
 .rcases hk with rfl|hk
  .exact .inl rfl
  .exact .inr (.inl ⟨d,hd,hk⟩)
end Go.Proofs.YtmmmnghiegajmaaGreat
