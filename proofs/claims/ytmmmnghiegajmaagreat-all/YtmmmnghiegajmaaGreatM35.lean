import Derived.Test.YtmmmnghiegajmaaGreatM34
import Derived.Test.YtmmmnghiegajmaaGreatM12
set_option maxHeartbeats 8000000
set_option maxRecDepth 20000
open Go.RowKit Go.Proofs.Herald Go.Proofs.Tryz
namespace Go.Proofs.YtmmmnghiegajmaaGreat
theorem mo {P:Program}{ops:Array Oper}{Q:Exit->Act->World->Prop}{i:Nat}{K:Act->World->Prop}{a:Act}{w:World}{o:Oper}(ho:ops[i]?=some o)(hg:o.guard=none)(h:∀ K':Act->World->Prop,(∀ a w,K a w->K' a w)->o.wp P a w K' Q):wpOp P ops Q i K a w:=
 wpOp_step ho fun K' hK=>by
  rw[if_pos (by simp[Region.wanted,hg])];exact h K' hK
theorem zc {listed:Array Bool}{i:Nat}(h:i<listed.size):(listed.setIfInBounds i true).getD i false=true:=by
 simp[h]
structure aW (w w':World)(H:Nat)(code rec:Value)(now last:Int)(rv:Value)(qv:Nat->Value)(qs:Nat->List aj)(ps:List Pr):Prop where
 ex:∃ rv' qv',bK w' H code rec now last rv' qv' qs ps/\∀ k,bQ H rv' qv' k->bQ H rv qv k\/w.heap.size<=k
 fr:Fr (bQ H rv qv) w w'
theorem zn (H:Nat)(code rec:Value)(now last:Int)(rv:Value)(qv:Nat->Value)(qs:Nat->List aj)(ps:List Pr)(i d:Nat)(cs:List am)(w:World)(h:bK w H code rec now last rv qv qs ps)(hl:ps.length<=1000)(hi:i<ps.length)(hd:d<3)(hdev:ps[i].dev=(d:Nat))
  (hc:w.ownsRow 0 91 4 code cs.length (aZ cs)) (hsnd:em cs=true) (hm:ep cs.length 0 ps[i].sent (qs d) ps[i]) (hs:ps[i].sent<=999999999999990000) (ht0:0<=now) (ht1:now<=1000000000) (hdone:(ci now cs 10000 (qs d) ps[i]).2.2=true):
  Calls prog 93 #[.pointer (some ⟨H,0,none⟩),.int .i64 (i:Nat)] w fun e w'=>e=.returned (.tuple #[])/\aW w w' H code rec now last rv qv (bU qs d (ci now cs 10000 (qs d) ps[i]).1) (ps.eraseIdx i):=by
 obtain⟨g,A0,hv,_,A9⟩:=h.rB.form (by omega);subst hv;have c0:w.cell? ⟨H,0,none⟩=some code:=(ag h.blk).trans rfl;have c1:w.cell? ⟨H,1,none⟩=some (.int .i64 now):=(ag h.blk).trans rfl;have c3:w.cell? ⟨H,3,none⟩=some (.slice (some ⟨g,0,none⟩) ps.length A0):=(ag h.blk).trans rfl;have A7:H<w.heap.size:=ak h.blk;have A3:=lL h.rB h.rl hi;have A4:=h.rl _ (Qb hi);have HH:=ah h;generalize hp:ps[i]=p at *;obtain⟨C,hC⟩:∃ C,C=(cV p).toArray:=⟨_,rfl⟩;have A1:Hid (aM C p/\w.rangeAt g (i*19) C.toList):=⟨⟨hC,A4⟩,aM.range ⟨hC,A4⟩ A3⟩;have k0:C[1]?=some (.int .i64 (d:Nat)):=by rw[hC,<- hdev];rfl
 have B1:(d:Int)<3:=by omega
 generalize hRR:ci now cs 10000 (qs d) p=RR at *;have A6:Hid (∀ W,W=(w.alloc (.cells C 172)).drew->Calls prog 118 #[.pointer (some ⟨w.heap.size,0,none⟩),code,.pointer (some ⟨H,4+d,none⟩),.int .i64 now] W fun e w'=>e=.returned (.bool false)/\aO W w' w.heap.size H (4+d) (jn code rec now last (.slice (some ⟨g,0,none⟩) ps.length A0) qv) 114 (qv d) RR.1 RR.2.1):=fun W hW=>by
  have hb:Below w.heap.size w W:=by rw[hW];exact((v7 _ _).alloc (v9 _) _).drew
  have hA:bC W w.heap.size H (4+d) (jn code rec now last (.slice (some ⟨g,0,none⟩) ps.length A0) qv) 114 (qv d) (qs d) p:=⟨by rw[hW,<- hC];exact v8 _ _,A4,(h.que hd).below hb,by decide⟩;refine(xS _ H (4+d) _ _ (qv d) code (qs d) p now cs W hA (aT hc fun b hb'=>by obtain⟨c,A8⟩:=ax hc hb';exact hb.block b (ak A8)) (by decide) hsnd hm hs ht0 ht1).mono ?_;rintro e w' ⟨rfl,ho⟩;rw[hRR]at ho ⊢;rw[hdone];exact⟨rfl,ho⟩
 obtain⟨ca,cc,A2⟩:=bD hc;subst A2;clear h hc hsnd hm hs A3 A4 hRR A9 hC;go_enter func93,ntmps93
 go_upto_region 2 with (first|(refine wpList_load_mid rfl 172 (.tmp 12) rfl g (i*19) (by rfl) C.toList _ A1.2 underlying172 rfl A1.1.infoL ?_)|(refine jJ w rfl 172 (.tmp 4) (.tmp 13) rfl jm C (by rfl) (by rfl) A1.1.info A1.1.zero A1.1.one ?_))
 go_cut [6] (fun r wx=>r=.bool false/\Hid (∃ W,W=(w.alloc (.cells C 172)).drew/\aO W wx w.heap.size H (4+d) (jn (.slice ca cs.length cc) rec now last (.slice (some ⟨g,0,none⟩) ps.length A0) qv) 114 (qv d) RR.1 RR.2.1))
 case first=>
  go_region_with (go_at_call 118;refine(A6 _ rfl).mono ?_;rintro e w1 ⟨rfl,ho⟩)
  all_goals
   go_wp2_with fail
   go_meet;case rel=>exact⟨rfl,_,rfl,ho⟩
 case rest=>
  obtain⟨rfl,HX⟩:=hcut;have HB:Hid (∃ v',bK wc H (.slice ca cs.length cc) rec now last (.slice (some ⟨g,0,none⟩) ps.length A0) (bL qv d v') (bU qs d RR.1) ps/\(∀ k,bQ H (.slice (some ⟨g,0,none⟩) ps.length A0) (bL qv d v') k->bQ H (.slice (some ⟨g,0,none⟩) ps.length A0) qv k\/w.heap.size<=k)/\Fr (bQ H (.slice (some ⟨g,0,none⟩) ps.length A0) qv) w wc):=by
   obtain⟨W,hW,ho⟩:=HX;obtain⟨v',h1,_,_,h4,h5⟩:=HH.ran hd (by rw[hW];exact((v7 _ _).alloc (v9 _) _).drew) (v9 _) ho;exact⟨v',h1,h4,h5⟩
  obtain⟨v',hA,hO,hF⟩:=id HB;have HR:Hid (Calls prog 105 #[.pointer (some ⟨H,0,none⟩),.int .i64 (i:Nat)] wc fun e w'=>e=.returned (.tuple #[])/\aW w w' H (.slice ca cs.length cc) rec now last (.slice (some ⟨g,0,none⟩) ps.length A0) qv (bU qs d RR.1) (ps.eraseIdx i)):=by
   refine(wL H _ rec now last _ _ _ ps i wc hA hl).mono ?_;rintro e w' ⟨rfl,B0,hr⟩;refine⟨rfl,⟨B0,_,hA.setRuns hr fun x hx=>hA.rl x (List.mem_of_mem_eraseIdx hx),fun k hk=>?_⟩,hF.trans (hr.fr.mono fun k _ hk=>.inl hk)⟩;rcases hk with rfl|hk|hk
   .exact .inl (.inl rfl)
   .exact hO k (.inr (.inl hk))
   .exact .inr (Qc hF.size (cS hr.own hk).1)
  clear hA hO hF HB HX A6 A1 c0 c1 c3 A7 k0;go_wp2_with fail
  refine HR.mono ?_;rintro e w' ⟨rfl,A5⟩;go_wp2_with fail
  go_end0;exact⟨rfl,A5⟩
theorem zg (H:Nat)(code rec:Value)(now last:Int)(rv:Value)(qv:Nat->Value)(qs:Nat->List aj)(ps:List Pr)(i d:Nat)(cs:List am)(w:World)(h:bK w H code rec now last rv qv qs ps)(hl:ps.length<=1000)(hi:i<ps.length)(hd:d<3)(hdev:ps[i].dev=(d:Nat))
  (hc:w.ownsRow 0 91 4 code cs.length (aZ cs)) (hsnd:em cs=true) (hm:ep cs.length 0 ps[i].sent (qs d) ps[i]) (hs:ps[i].sent<=999999999999990000) (ht0:0<=now) (ht1:now<=1000000000) (hdone:(ci now cs 10000 (qs d) ps[i]).2.2=false):
  Calls prog 93 #[.pointer (some ⟨H,0,none⟩),.int .i64 (i:Nat)] w fun e w'=>e=.returned (.tuple #[])/\aW w w' H code rec now last rv qv (bU qs d (ci now cs 10000 (qs d) ps[i]).1) (ps.set i (ci now cs 10000 (qs d) ps[i]).2.1):=by
 obtain⟨g,A2,hv,_,B9⟩:=h.rB.form (by omega);subst hv;have c0:w.cell? ⟨H,0,none⟩=some code:=(ag h.blk).trans rfl;have c1:w.cell? ⟨H,1,none⟩=some (.int .i64 now):=(ag h.blk).trans rfl;have c3:w.cell? ⟨H,3,none⟩=some (.slice (some ⟨g,0,none⟩) ps.length A2):=(ag h.blk).trans rfl;have C2:H<w.heap.size:=ak h.blk;have A9:=lL h.rB h.rl hi;have B2:=h.rl _ (Qb hi);have HH:=ah h;generalize hp:ps[i]=p at *;obtain⟨C,hC⟩:∃ C,C=(cV p).toArray:=⟨_,rfl⟩;have A6:Hid (aM C p/\w.rangeAt g (i*19) C.toList):=⟨⟨hC,B2⟩,aM.range ⟨hC,B2⟩ A9⟩;have k0:C[1]?=some (.int .i64 (d:Nat)):=by rw[hC,<- hdev];rfl
 have C3:(d:Int)<3:=by omega
 generalize hRR:ci now cs 10000 (qs d) p=RR at *;have B5:Hid (∀ W,W=(w.alloc (.cells C 172)).drew->Calls prog 118 #[.pointer (some ⟨w.heap.size,0,none⟩),code,.pointer (some ⟨H,4+d,none⟩),.int .i64 now] W fun e w'=>e=.returned (.bool true)/\aO W w' w.heap.size H (4+d) (jn code rec now last (.slice (some ⟨g,0,none⟩) ps.length A2) qv) 114 (qv d) RR.1 RR.2.1):=fun W hW=>by
  have hb:Below w.heap.size w W:=by rw[hW];exact((v7 _ _).alloc (v9 _) _).drew
  have hA:bC W w.heap.size H (4+d) (jn code rec now last (.slice (some ⟨g,0,none⟩) ps.length A2) qv) 114 (qv d) (qs d) p:=⟨by rw[hW,<- hC];exact v8 _ _,B2,(h.que hd).below hb,by decide⟩;refine(xS _ H (4+d) _ _ (qv d) code (qs d) p now cs W hA (aT hc fun b hb'=>by obtain⟨c,B8⟩:=ax hc hb';exact hb.block b (ak B8)) (by decide) hsnd hm hs ht0 ht1).mono ?_;rintro e w' ⟨rfl,ho⟩;rw[hRR]at ho ⊢;rw[hdone];exact⟨rfl,ho⟩
 obtain⟨ca,cc,A8⟩:=bD hc;subst A8;clear h hc hsnd hm hs A9 B2 hRR B9 hC;go_enter func93,ntmps93
 go_upto_region 2 with (first|(refine wpList_load_mid rfl 172 (.tmp 12) rfl g (i*19) (by rfl) C.toList _ A6.2 underlying172 rfl A6.1.infoL ?_)|(refine jJ w rfl 172 (.tmp 4) (.tmp 13) rfl jm C (by rfl) (by rfl) A6.1.info A6.1.zero A6.1.one ?_))
 go_cut [6] (fun r wx=>r=.bool true/\Hid (∃ W,W=(w.alloc (.cells C 172)).drew/\aO W wx w.heap.size H (4+d) (jn (.slice ca cs.length cc) rec now last (.slice (some ⟨g,0,none⟩) ps.length A2) qv) 114 (qv d) RR.1 RR.2.1))
 case first=>
  go_region_with (go_at_call 118;refine(B5 _ rfl).mono ?_;rintro e w1 ⟨rfl,ho⟩)
  all_goals
   go_wp2_with fail
   go_meet;case rel=>exact⟨rfl,_,rfl,ho⟩
 case rest=>
  obtain⟨rfl,HX⟩:=hcut;clear c0 c1 c3;obtain⟨v',hA,B7,B0,hO,hF⟩:∃ v',bK wc H (.slice ca cs.length cc) rec now last (.slice (some ⟨g,0,none⟩) ps.length A2) (bL qv d v') (bU qs d RR.1) ps/\wc.heap[w.heap.size]?=some (.cells (cV RR.2.1).toArray 172)/\RR.2.1.regs.length=12/\(∀ k,bQ H (.slice (some ⟨g,0,none⟩) ps.length A2) (bL qv d v') k->bQ H (.slice (some ⟨g,0,none⟩) ps.length A2) qv k\/w.heap.size<=k)/\Fr (bQ H (.slice (some ⟨g,0,none⟩) ps.length A2) qv) w wc:=by
   obtain⟨W,hW,ho⟩:=HX;exact HH.ran hd (by rw[hW];exact((v7 _ _).alloc (v9 _) _).drew) (v9 _) ho
  obtain⟨D,hD⟩:∃ D,D=(cV RR.2.1).toArray:=⟨_,rfl⟩;have HD:Hid (aM D RR.2.1/\wc.drew.rangeAt w.heap.size 0 D.toList/\wc.drew.there g (i*19) D.size):=by
   refine⟨⟨hD,B0⟩,?_,?_⟩
   .exact aM.new (w:=wc.drew) (by rw[hD];exact B7)
   .intro j hj;rw[aM.size ⟨hD,B0⟩]at hj;have hr:=rd hA.rl hi hj;have C1:j<(cV ps[i]).length:=by rw[lW (hA.rl _ (Qb hi))];exact hj
    rw[List.getElem?_eq_getElem C1]at hr;have h2:=eW hA.rB (i*19+j) _ hr;exact⟨by show(wc.cell? _).isSome=true;rw[h2.1];rfl,h2.2⟩
  have c3:wc.cell? ⟨H,3,none⟩=some (.slice (some ⟨g,0,none⟩) ps.length A2):=(ag hA.blk).trans rfl;have HA:Hid (bK wc H (.slice ca cs.length cc) rec now last (.slice (some ⟨g,0,none⟩) ps.length A2) (bL qv d v') (bU qs d RR.1) ps/\RR.2.1.regs.length=12/\(∀ k,bQ H (.slice (some ⟨g,0,none⟩) ps.length A2) (bL qv d v') k->bQ H (.slice (some ⟨g,0,none⟩) ps.length A2) qv k\/w.heap.size<=k)/\Fr (bQ H (.slice (some ⟨g,0,none⟩) ps.length A2) qv) w wc):=⟨hA,B0,hO,hF⟩;clear hA B7 B0 hO hF hD HX B5 A6 k0;go_wp2_with fail
  refine tN (by kernel_rfl) (fun A0 ac W=>∃ x0 x1 x2 x3 x4 x5 x6,ac={tmps:=#[.pointer (some ⟨H,0,none⟩),.int .i64 (i:Nat),undef,undef,.pointer (some ⟨w.heap.size,0,none⟩),.int .i64 (d:Nat),.bool true,u7,u8,u9,u10,u11,u12,u13,u14,u15,u16,u17,u18,u19,u20,u21,u22,u23,u24,u25,u26,u27,u28,u29,u30,.bool true,x0,x1,x2,x3,x4,x5,x6,u39,u40,u41],defers:=[]}/\A0.size=8/\(A0.getD 0 false=true->x0=.pointer (some ⟨H,0,none⟩))/\(A0.getD 1 false=true->x1=.pointer (some ⟨H,0,none⟩))/\(A0.getD 2 false=true->x2=.pointer (some ⟨H,3,none⟩))/\(A0.getD 3 false=true->x3=.slice (some ⟨g,0,none⟩) ps.length A2)/\(A0.getD 4 false=true->x4=.int .i64 (i:Nat))/\(A0.getD 5 false=true->x5=.agg D.toList.toArray)/\(A0.getD 6 false=true->x6=.pointer (some ⟨g,i*19,none⟩))/\(A0.getD 7 false=false->W=wc.drew)/\(A0.getD 7 false=true->W=wc.drew.setCells g (i*19) D.toList/\∀ k,k<7->A0.getD k false=true)) ?_ ?_ ?_
  .exact⟨u32,u33,u34,u35,u36,u37,u38,rfl,by simp,by simp,by simp,by simp,by simp,by simp,by simp,by simp,fun _=>rfl,by simp⟩
  .rintro A0 ac W j ⟨x0,x1,x2,x3,x4,x5,x6,rfl,A3,h0,h1,h2,h3,h4,h5,h6,B1,A7⟩ hj;obtain⟨B4,op,ho,A1⟩:=mem_ready.1 hj;clear hj;have C4:j<8:=(Array.getElem?_eq_some_iff.1 ho).1;have A5:A0.getD j false=false:=by
    have C0:j<A0.size:=by omega
    simp[C0]at B4 ⊢;exact B4
   have hW:A0.getD 7 false=false:=by
    cases h7:A0.getD 7 false with
    | false=>rfl
    | true=>
     by_cases hj7:j=7
     .rw[hj7,h7]at A5;cases A5
     .have:=(A7 h7).2 j (by omega);rw[this]at A5;cases A5
   obtain rfl:=B1 hW;clear B1 A7 B4;rcases(show j=0\/j=1\/j=2\/j=3\/j=4\/j=5\/j=6\/j=7 by omega) with rfl|rfl|rfl|rfl|rfl|rfl|rfl|rfl
   .simp at ho;subst ho;refine mo (by rfl) rfl fun K2 hK2=>?_;simp[Oper.wp,go_sem];refine hK2 _ _ ?_;exact⟨_,x1,x2,x3,x4,x5,x6,rfl,by simpa using A3,fun _=>rfl,fun hh=>h1 (aQ (by decide) hh),fun hh=>h2 (aQ (by decide) hh),fun hh=>h3 (aQ (by decide) hh),fun hh=>h4 (aQ (by decide) hh),fun hh=>h5 (aQ (by decide) hh),fun hh=>h6 (aQ (by decide) hh),fun _=>rfl,fun hh=>by rw[getD_set_ne false (by decide),hW]at hh;cases hh⟩
   .simp at ho;subst ho;have g0:A0.getD 0 false=true:=A1 {on:=0,ground:=.data} (by simp) rfl;obtain rfl:=h0 g0;refine mo (by rfl) rfl fun K2 hK2=>?_;simp[Oper.wp,go_sem];refine hK2 _ _ ?_;exact⟨_,_,x2,x3,x4,x5,x6,rfl,by simpa using A3,fun _=>rfl,fun _=>rfl,fun hh=>h2 (aQ (by decide) hh),fun hh=>h3 (aQ (by decide) hh),fun hh=>h4 (aQ (by decide) hh),fun hh=>h5 (aQ (by decide) hh),fun hh=>h6 (aQ (by decide) hh),fun _=>rfl,fun hh=>by rw[getD_set_ne false (by decide),hW]at hh;cases hh⟩
   .simp at ho;subst ho;have g1:A0.getD 1 false=true:=A1 {on:=1,ground:=.data} (by simp) rfl;obtain rfl:=h1 g1;refine mo (by rfl) rfl fun K2 hK2=>?_;simp[Oper.wp,go_sem];refine hK2 _ _ ?_;exact⟨x0,_,_,x3,x4,x5,x6,rfl,by simpa using A3,fun hh=>h0 (aQ (by decide) hh),fun _=>rfl,fun _=>rfl,fun hh=>h3 (aQ (by decide) hh),fun hh=>h4 (aQ (by decide) hh),fun hh=>h5 (aQ (by decide) hh),fun hh=>h6 (aQ (by decide) hh),fun _=>rfl,fun hh=>by rw[getD_set_ne false (by decide),hW]at hh;cases hh⟩
   .simp at ho;subst ho;have g2:A0.getD 2 false=true:=A1 {on:=2,ground:=.data} (by simp) rfl;obtain rfl:=h2 g2;refine mo (by rfl) rfl fun K2 hK2=>?_;simp[Oper.wp,go_sem,c3];refine hK2 _ _ ?_;exact⟨x0,x1,_,_,x4,x5,x6,rfl,by simpa using A3,fun hh=>h0 (aQ (by decide) hh),fun hh=>h1 (aQ (by decide) hh),fun _=>rfl,fun _=>rfl,fun hh=>h4 (aQ (by decide) hh),fun hh=>h5 (aQ (by decide) hh),fun hh=>h6 (aQ (by decide) hh),fun _=>rfl,fun hh=>by rw[getD_set_ne false (by decide),hW]at hh;cases hh⟩
   .simp at ho;subst ho;refine mo (by rfl) rfl fun K2 hK2=>?_;simp[Oper.wp,go_sem];refine hK2 _ _ ?_;exact⟨x0,x1,x2,x3,_,x5,x6,rfl,by simpa using A3,fun hh=>h0 (aQ (by decide) hh),fun hh=>h1 (aQ (by decide) hh),fun hh=>h2 (aQ (by decide) hh),fun hh=>h3 (aQ (by decide) hh),fun _=>rfl,fun hh=>h5 (aQ (by decide) hh),fun hh=>h6 (aQ (by decide) hh),fun _=>rfl,fun hh=>by rw[getD_set_ne false (by decide),hW]at hh;cases hh⟩
   .simp at ho;subst ho;refine mo (by rfl) rfl fun K2 hK2=>?_;refine wp_load_mid 172 (.tmp 4) rfl w.heap.size 0 (by rfl) D.toList _ HD.2.1 underlying172 rfl HD.1.infoL ?_;refine hK2 _ _ ?_;exact⟨x0,x1,x2,x3,x4,_,x6,rfl,by simpa using A3,fun hh=>h0 (aQ (by decide) hh),fun hh=>h1 (aQ (by decide) hh),fun hh=>h2 (aQ (by decide) hh),fun hh=>h3 (aQ (by decide) hh),fun hh=>h4 (aQ (by decide) hh),fun _=>rfl,fun hh=>h6 (aQ (by decide) hh),fun _=>rfl,fun hh=>by rw[getD_set_ne false (by decide),hW]at hh;cases hh⟩
   .simp at ho;subst ho;have g3:A0.getD 3 false=true:=A1 {on:=3,ground:=.data} (by simp) rfl;obtain rfl:=h3 g3;have g4:A0.getD 4 false=true:=A1 {on:=4,ground:=.data} (by simp) rfl;obtain rfl:=h4 g4;refine mo (by rfl) rfl fun K2 hK2=>?_;simp[Oper.wp,go_sem,hi];refine hK2 _ _ ?_;exact⟨x0,x1,x2,_,_,x5,_,rfl,by simpa using A3,fun hh=>h0 (aQ (by decide) hh),fun hh=>h1 (aQ (by decide) hh),fun hh=>h2 (aQ (by decide) hh),fun _=>rfl,fun _=>rfl,fun hh=>h5 (aQ (by decide) hh),fun _=>rfl,fun _=>rfl,fun hh=>by rw[getD_set_ne false (by decide),hW]at hh;cases hh⟩
   .simp at ho;subst ho;have g6:A0.getD 6 false=true:=A1 {on:=6,ground:=.data} (by simp) rfl;obtain rfl:=h6 g6;have g5:A0.getD 5 false=true:=A1 {on:=5,ground:=.data} (by simp) rfl;obtain rfl:=h5 g5;refine mo (by rfl) rfl fun K2 hK2=>?_;refine wp_store_mid 172 (.tmp 38) (.tmp 37) rfl g (i*19) D (by rfl) (by rfl) HD.2.2 HD.1.info HD.1.one ?_;refine hK2 _ _ ?_;have B3:∀ k,k<7->A0.getD k false=true:=by
     intro k hk;rcases(show k=0\/k=1\/k=2\/k=3\/k=4\/k=5\/k=6 by omega) with rfl|rfl|rfl|rfl|rfl|rfl|rfl
     .exact A1 {on:=0,ground:=.phase} (by simp) rfl
     .exact A1 {on:=1,ground:=.phase} (by simp) rfl
     .exact A1 {on:=2,ground:=.phase} (by simp) rfl
     .exact A1 {on:=3,ground:=.phase} (by simp) rfl
     .exact A1 {on:=4,ground:=.phase} (by simp) rfl
     .exact g5
     .exact g6
    exact⟨x0,x1,x2,x3,x4,_,_,rfl,by simpa using A3,fun hh=>h0 (aQ (by decide) hh),fun hh=>h1 (aQ (by decide) hh),fun hh=>h2 (aQ (by decide) hh),fun hh=>h3 (aQ (by decide) hh),fun hh=>h4 (aQ (by decide) hh),fun _=>rfl,fun _=>rfl,fun hh=>(by rw[zc (by omega)]at hh;cases hh),fun _=>⟨rfl,fun k hk=>by rw[getD_set_ne false (by omega)];exact B3 k hk⟩⟩
  .rintro A0 ac W ⟨x0,x1,x2,x3,x4,x5,x6,rfl,A3,h0,h1,h2,h3,h4,h5,h6,B1,A7⟩ hr;have A4:=wj (by rw[A3];rfl) (by kernel_rfl) hr;obtain⟨hW,_⟩:=A7 (A4 7 (by decide));obtain rfl:=h0 (A4 0 (by decide));obtain rfl:=h1 (A4 1 (by decide));obtain rfl:=h2 (A4 2 (by decide));obtain rfl:=h3 (A4 3 (by decide));obtain rfl:=h4 (A4 4 (by decide));obtain rfl:=h5 (A4 5 (by decide));obtain rfl:=h6 (A4 6 (by decide));have B6:Hid (W=wc.drew.setCells g (i*19) (cV RR.2.1)):=by
    show _=_;rw[hW,HD.1.eq]
   clear B1 A7 hr A4 hW h0 h1 h2 h3 h4 h5 h6 c3;go_wp2_with fail
   (try simp only[Exit.inBlock,Exit.then]);refine bodyPost_ret (results_none rfl _ _ _) rfl ?_
   have hS:=(HA.1.below (v7 _ _).drew).setRun hi HA.2.1 B6;refine⟨rfl,⟨_,_,hS,HA.2.2.1⟩,?_⟩;rw[B6];exact zG (.inr (.inr rfl)) _ _ HA.2.2.2.drew
end Go.Proofs.YtmmmnghiegajmaaGreat
namespace Go.Proofs.Herald
theorem Ei (f:Nat->List aj)(d:Nat)(a b:List aj):bU (bU f d a) d b=bU f d b:=by
 funext k;unfold bU;by_cases h:k=d
 .rw[if_pos h,if_pos h]
 .rw[if_neg h,if_neg h,if_neg h]
theorem Fp (f:Nat->List aj)(d:Nat)(a:List aj):bU f d a d=a:=if_pos rfl
def fZ (ps:List Pr)(i:Nat)(p:Pr)(done:Bool):List Pr:=if done then ps.eraseIdx i else ps.set i p
theorem qf {E:bM Pr}(hE:∀ p,E.pub p=cF p){p':Pr}{done:Bool}:∀ {ps:List Pr} (_:ps.Pairwise fun a b=>(E.pub a).id≠(E.pub b).id) {i:Nat} (hi:i<ps.length) (_:p'.id=ps[i].id),dP E ps p' done=fZ ps i p' done:=by
 intro ps;induction ps with
 | nil=>intro _ i hi;simp at hi
 | cons x ps ih=>
  intro hnd i hi hid;rw[List.pairwise_cons]at hnd;have A0:∀ y:Pr,(E.pub y).id=y.id:=fun y=>by rw[hE];rfl
  cases i with
  | zero=>
   have hx:p'.id=x.id:=hid;have A3:∀ y∈ps,¬ (E.pub y).id=(E.pub p').id:=fun y hy hh=>by
    rw[A0,A0,hx]at hh;have:=hnd.1 y hy;rw[A0,A0]at this;exact this hh.symm
   unfold dP fZ;cases done with
   | true=>
    simp only[if_true,List.eraseIdx_zero,List.tail_cons];rw[List.filter_cons_of_neg (by simp[A0,hx])];exact List.filter_eq_self.mpr fun y hy=>by simpa using A3 y hy
   | false=>
    simp only[Bool.false_eq_true,if_false,List.map_cons,List.set_cons_zero];rw[if_pos (by rw[A0,A0,hx])];congr 1;conv=>rhs;rw[<- List.map_id ps]
    exact List.map_congr_left fun y hy=>by rw[if_neg (A3 y hy)];rfl
  | succ i=>
   have A2:i<ps.length:=by simpa using hi
   have A1:p'.id=ps[i].id:=by simpa using hid
   have hx:¬ (E.pub x).id=(E.pub p').id:=fun hh=>by
    rw[A0,A0,A1]at hh;have:=hnd.1 ps[i] (Qb A2);rw[A0,A0]at this;exact this hh
   have h:=ih hnd.2 A2 A1;unfold dP fZ at h ⊢;cases done with
   | true=>
    simp only[if_true]at h ⊢;rw[List.filter_cons_of_pos (by simpa using hx),h];simp
   | false=>
    simp only[Bool.false_eq_true,if_false]at h ⊢;rw[List.map_cons,if_neg hx,h];simp
def im (cs:List am)(m:Pr):Prop:=∃ p,mF p m/\(bI p/\lj cs.length p)
theorem xT {cs:List am}{m:Pr}{q:List aj}(h:im cs m)(hq:q.length<=4):ep cs.length 0 m.sent q m:=by
 obtain⟨p,h1,h2⟩:=h;exact⟨m.els,p,⟨h1.id,h1.dev,h1.sent,h1.til,h1.regs,rfl,by rw[<- h1.els];exact h1.els0,h1.sent0,h1.len⟩,h2.1,by rw[<- h1.els];exact h2.2.2.2.2,by rw[h1.sent];exact Int.le_refl _,by rw[h1.sent];simp,hq⟩
theorem FN {cs:List am}{m:Pr}{q:List aj}(h:im cs m)(hn:m.num≠0)(hq:q.length<=4):ep cs.length 0 m.sent q {m with els:=m.tow}:=by
 obtain⟨p,h1,h2⟩:=h;have ht:=h1.tow (by rw[h1.num];exact hn);exact⟨m.tow,p,⟨h1.id,h1.dev,h1.sent,h1.til,h1.regs,rfl,by rw[<- ht.1];exact ht.2,h1.sent0,h1.len⟩,h2.1,by rw[<- ht.1];exact h2.2.2.1,by rw[h1.sent];exact Int.le_refl _,by rw[h1.sent];simp,hq⟩
theorem FM {cs:List am}{id dev:Int}{q:List aj}(hq:q.length<=4):ep cs.length 0 0 q (dg id dev):=by
 refine⟨0,dg id dev,⟨rfl,rfl,rfl,rfl,rfl,rfl,Int.le_refl 0,Int.le_refl 0,rfl⟩,fun z hz=>?_,by omega,Int.le_refl _,by simp[dg],hq⟩;obtain rfl:=(List.mem_replicate.mp hz).2;omega
end Go.Proofs.Herald
namespace Go.Proofs.YtmmmnghiegajmaaGreat
theorem qi (H:Nat)(code rec:Value)(now last:Int)(rv:Value)(qv:Nat->Value)(qs:Nat->List aj)(ps:List Pr)(i d:Nat)(cs:List am)(w:World)(h:bK w H code rec now last rv qv qs ps)(hl:ps.length<=1000)(hi:i<ps.length)(hd:d<3)(hdev:ps[i].dev=(d:Nat))
  (hc:w.ownsRow 0 91 4 code cs.length (aZ cs)) (hsnd:em cs=true) (hm:ep cs.length 0 ps[i].sent (qs d) ps[i]) (hs:ps[i].sent<=999999999999990000) (ht0:0<=now) (ht1:now<=1000000000):
  Calls prog 93 #[.pointer (some ⟨H,0,none⟩),.int .i64 (i:Nat)] w fun e w'=>e=.returned (.tuple #[])/\aW w w' H code rec now last rv qv (bU qs d (ci now cs 10000 (qs d) ps[i]).1) (fZ ps i (ci now cs 10000 (qs d) ps[i]).2.1 (ci now cs 10000 (qs d) ps[i]).2.2):=by
 unfold fZ;cases hdn:(ci now cs 10000 (qs d) ps[i]).2.2 with
 | true=>exact zn H code rec now last rv qv qs ps i d cs w h hl hi hd hdev hc hsnd hm hs ht0 ht1 hdn
 | false=>exact zg H code rec now last rv qv qs ps i d cs w h hl hi hd hdev hc hsnd hm hs ht0 ht1 hdn
theorem aW.trans {w w1 w2:World}{H:Nat}{code rec:Value}{now last:Int}{rv rv1:Value}{qv qv1:Nat->Value}{qs:Nat->List aj}{ps:List Pr}(ho:∀ k,bQ H rv1 qv1 k->bQ H rv qv k\/w.heap.size<=k)(hf:Fr (bQ H rv qv) w w1)(h:aW w1 w2 H code rec now last rv1 qv1 qs ps):aW w w2 H code rec now last rv qv qs ps:=by
 obtain⟨⟨A1,A0,h1,h2⟩,h3⟩:=h;refine⟨⟨A1,A0,h1,fun k hk=>?_⟩,?_⟩
 .rcases h2 k hk with h|h
  .exact ho k h
  .exact .inr (Qc hf.size h)
 .have f1:Fr (fun k=>bQ H rv qv k\/w.heap.size<=k) w w1:=hf.mono fun k _ hk=>.inl hk;have f2:Fr (fun k=>bQ H rv qv k\/w.heap.size<=k) w1 w2:=h3.mono fun k _ hk=>ho k hk;exact(f1.trans f2).mono fun k hk hs=>by
   rcases hs with h|h
   .exact h
   .omega
theorem bK.code {w w1:World}{H:Nat}{code rec:Value}{now last:Int}{rv:Value}{qv:Nat->Value}{qs:Nat->List aj}{ps:List Pr}{cv:Value}{cs:List am}(h:bK w H code rec now last rv qv qs ps)(hf:Fr (bQ H rv qv) w w1)(hc:w.ownsRow 0 91 4 cv cs.length (aZ cs)):w1.ownsRow 0 91 4 cv cs.length (aZ cs):=by
 refine aT hc fun b hb=>?_;obtain⟨c,A0⟩:=ax hc hb;refine hf.block b (ak A0) fun ho=>?_;obtain⟨c2,t,A1,ht⟩:=h.sort ho;rcases ht with rfl|rfl|rfl;iterate 3
  .exact aA A0 A1 (by decide) rfl
theorem bK.took {w w1:World}{H:Nat}{code rec:Value}{now last:Int}{rv v':Value}{qv:Nat->Value}{qs:Nat->List aj}{ps:List Pr}{q':List aj}{d:Nat}(h:bK w H code rec now last rv qv qs ps)(hd:d<3)(hq:mE w w1 H (4+d) (jn code rec now last rv qv) 114 q' v')(hl:q'.length<=4):
  bK w1 H code rec now last rv (bL qv d v') (bU qs d q') ps/\(∀ k,bQ H rv (bL qv d v') k->bQ H rv qv k\/w.heap.size<=k)/\Fr (bQ H rv qv) w w1:=by
 have A0:∀ b,v'.ownBlock=some b->w.heap.size<=b:=fun b hb=>(cS hq.own hb).1;refine⟨h.setQueue hd ⟨hq.blk,?_,by decide,bZ hq.own,hl⟩ (fun b hb=>.inr (A0 b hb)) (hq.fr.mono fun k _ hk=>.inl hk),fun k hk=>?_,hq.fr.mono fun k _ hk=>.inl hk⟩
 .rw[uM hd,qo hd,ec]
 .rcases hk with rfl|⟨e,he,hk⟩|hk
  .exact .inl (.inl rfl)
  .by_cases hed:e=d
   .subst hed;rw[ec]at hk;exact .inr (A0 k hk)
   .rw[eH _ _ hed]at hk;exact .inl (.inr (.inl ⟨e,he,hk⟩))
  .exact .inl (.inr (.inr hk))
theorem sO (q:List aj)(id num:Int)(h:q.length<=4):(dr q id num).length<=4:=Qc (List.length_filter_le _ _) h
theorem yP (H:Nat)(code rec:Value)(now last:Int)(rv:Value)(qv:Nat->Value)(qs:Nat->List aj)(ps:List Pr)(i d:Nat)(cs:List am)(w:World)(h:bK w H code rec now last rv qv qs ps)(hl:ps.length<=1000)(hi:i<ps.length)(hd:d<3)(hdev:ps[i].dev=(d:Nat))
  (hc:w.ownsRow 0 91 4 code cs.length (aZ cs)) (hsnd:em cs=true) (hm:im cs ps[i]) (hs:ps[i].sent<=999999999999990000) (ht0:0<=now) (ht1:now<=1000000000) (hz:ps[i].num=0):
  Calls prog 101 #[.pointer (some ⟨H,0,none⟩),.int .i64 (i:Nat)] w fun e w'=>e=.returned (.tuple #[])/\aW w w' H code rec now last rv qv (bU qs d (ci now cs 10000 (qs d) ps[i]).1) (fZ ps i (ci now cs 10000 (qs d) ps[i]).2.1 (ci now cs 10000 (qs d) ps[i]).2.2):=by
 obtain⟨g,A0,hv,_,A1⟩:=h.rB.form (by omega);subst hv;have c3:w.cell? ⟨H,3,none⟩=some (.slice (some ⟨g,0,none⟩) ps.length A0):=(ag h.blk).trans rfl;have A2:H<w.heap.size:=ak h.blk;obtain⟨_,_,_,_,_,_,_,_,_,_,_,_,_,⟨e0,e1,e2,e3,e4⟩,_⟩:=oU h.rB h.rl hi;have HP:Hid (∀ ob,Calls prog 93 #[.pointer (some ⟨H,0,none⟩),.int .i64 (i:Nat)] (w.alloc ob) fun e w'=>e=.returned (.tuple #[])/\aW w w' H code rec now last (.slice (some ⟨g,0,none⟩) ps.length A0) qv (bU qs d (ci now cs 10000 (qs d) ps[i]).1) (fZ ps i (ci now cs 10000 (qs d) ps[i]).2.1 (ci now cs 10000 (qs d) ps[i]).2.2)):=fun ob=>by
  have hb:Below w.heap.size w (w.alloc ob):=(v7 _ _).alloc (v9 _) _;refine(qi H code rec now last _ qv qs ps i d cs (w.alloc ob) (h.below hb) hl hi hd hdev (hc.alloc _) hsnd (xT hm (h.ql d hd)) hs ht0 ht1).mono ?_;rintro e w' ⟨rfl,ho⟩;exact⟨rfl,ho.trans (fun k hk=>.inl hk) ((Fr.refl _ _).alloc _)⟩
 generalize ci now cs 10000 (qs d) ps[i]=RR at *;have A3:((0:Int) != 0)=false:=by decide
 rw[hz]at e4;generalize ps[i]=p at *;clear h hc hm hsnd A1 hdev hs hz;go_enter func101,ntmps101
 go_wp2_with fail
 refine(HP _).mono ?_;rintro e w' ⟨rfl,ho⟩;go_wp2_with fail
 go_end0;exact⟨rfl,ho⟩
theorem zh (H:Nat)(code rec:Value)(now last:Int)(rv:Value)(qv:Nat->Value)(qs:Nat->List aj)(ps:List Pr)(i d:Nat)(cs:List am)(w:World)(h:bK w H code rec now last rv qv qs ps)(hl:ps.length<=1000)(hi:i<ps.length)(hd:d<3)(hdev:ps[i].dev=(d:Nat))
  (hc:w.ownsRow 0 91 4 code cs.length (aZ cs)) (hsnd:em cs=true) (hm:im cs ps[i]) (hs:ps[i].sent<=999999999999990000) (ht0:0<=now) (ht1:now<=1000000000) (hz:¬ ps[i].num=0):
  Calls prog 101 #[.pointer (some ⟨H,0,none⟩),.int .i64 (i:Nat)] w fun e w'=>e=.returned (.tuple #[])/\aW w w' H code rec now last rv qv (bU qs d (ci now cs 10000 (dr (qs d) ps[i].id ps[i].num) ps[i]).1) (fZ ps i (ci now cs 10000 (dr (qs d) ps[i].id ps[i].num) ps[i]).2.1 (ci now cs 10000 (dr (qs d) ps[i].id ps[i].num) ps[i]).2.2):=by
 obtain⟨g,A0,hv,_,A3⟩:=h.rB.form (by omega);subst hv;have c3:w.cell? ⟨H,3,none⟩=some (.slice (some ⟨g,0,none⟩) ps.length A0):=(ag h.blk).trans rfl;have A2:H<w.heap.size:=ak h.blk;obtain⟨_,_,_,_,_,_,_,_,_,_,_,_,_,⟨e0,e1,e2,e3,e4⟩,_⟩:=oU h.rB h.rl hi;have HT:Hid (∀ ob,Calls prog 106 #[.pointer (some ⟨H,4+d,none⟩),.int .i64 ps[i].id,.int .i64 ps[i].num] (w.alloc ob).drew fun e w'=>e=.returned (.tuple #[])/\∃ v',bK w' H code rec now last (.slice (some ⟨g,0,none⟩) ps.length A0) (bL qv d v') (bU qs d (dr (qs d) ps[i].id ps[i].num)) ps/\(∀ k,bQ H (.slice (some ⟨g,0,none⟩) ps.length A0) (bL qv d v') k->bQ H (.slice (some ⟨g,0,none⟩) ps.length A0) qv k\/w.heap.size<=k)/\Fr (bQ H (.slice (some ⟨g,0,none⟩) ps.length A0) qv) w w'):=fun ob=>by
  have hb:Below w.heap.size w (w.alloc ob).drew:=((v7 _ _).alloc (v9 _) _).drew;have h1:=h.below hb;refine(xp H (4+d) _ _ (qv d) (qs d) ps[i].id ps[i].num _ (h1.que hd) hz).mono ?_;rintro e w' ⟨rfl,v',hq⟩;obtain⟨k1,k2,k3⟩:=h1.took hd hq (sO _ _ _ (h.ql d hd));refine⟨rfl,v',k1,fun k hk=>?_,(((Fr.refl _ _).alloc _).drew).trans k3⟩;rcases k2 k hk with h|h
  .exact .inl h
  .exact .inr (Qc hb.size h)
 have HP:Hid (∀ wc v',bK wc H code rec now last (.slice (some ⟨g,0,none⟩) ps.length A0) (bL qv d v') (bU qs d (dr (qs d) ps[i].id ps[i].num)) ps->(∀ k,bQ H (.slice (some ⟨g,0,none⟩) ps.length A0) (bL qv d v') k->bQ H (.slice (some ⟨g,0,none⟩) ps.length A0) qv k\/w.heap.size<=k)->Fr (bQ H (.slice (some ⟨g,0,none⟩) ps.length A0) qv) w wc->Calls prog 93 #[.pointer (some ⟨H,0,none⟩),.int .i64 (i:Nat)] wc fun e w'=>e=.returned (.tuple #[])/\aW w w' H code rec now last (.slice (some ⟨g,0,none⟩) ps.length A0) qv (bU qs d (ci now cs 10000 (dr (qs d) ps[i].id ps[i].num) ps[i]).1) (fZ ps i (ci now cs 10000 (dr (qs d) ps[i].id ps[i].num) ps[i]).2.1 (ci now cs 10000 (dr (qs d) ps[i].id ps[i].num) ps[i]).2.2)):=fun wc v' h1 h2 h3=>by
  have hq:bU qs d (dr (qs d) ps[i].id ps[i].num) d=dr (qs d) ps[i].id ps[i].num:=Fp _ _ _;have hk:=qi H code rec now last _ _ _ ps i d cs wc h1 hl hi hd hdev (h.code h3 hc) hsnd (xT hm (h1.ql d hd)) hs ht0 ht1;rw[hq,Ei]at hk;refine hk.mono ?_;rintro e w' ⟨rfl,ho⟩;exact⟨rfl,ho.trans h2 h3⟩
 generalize hRR:ci now cs 10000 (dr (qs d) ps[i].id ps[i].num) ps[i]=RR at *;have A5:(ps[i].num != 0)=true:=by simpa using hz
 have A4:(d:Int)<3:=by omega
 rw[hdev]at e1;generalize ps[i]=p at *;clear h hc hm hsnd A3 hdev hs hz hRR;go_enter func101,ntmps101
 go_upto_region 2 with fail
 go_cut [0] (fun r wx=>r=.pointer (some ⟨H,0,none⟩)/\Hid (∃ v',bK wx H code rec now last (.slice (some ⟨g,0,none⟩) ps.length A0) (bL qv d v') (bU qs d (dr (qs d) p.id p.num)) ps/\(∀ k,bQ H (.slice (some ⟨g,0,none⟩) ps.length A0) (bL qv d v') k->bQ H (.slice (some ⟨g,0,none⟩) ps.length A0) qv k\/w.heap.size<=k)/\Fr (bQ H (.slice (some ⟨g,0,none⟩) ps.length A0) qv) w wx))
 case first=>
  go_region_with (go_at_call 106;refine(HT _).mono ?_;rintro e w1 ⟨rfl,ho⟩)
  all_goals
   go_wp2_with fail
   go_meet;case rel=>exact⟨rfl,ho⟩
 case rest=>
  obtain⟨rfl,HX⟩:=hcut;obtain⟨v',h1,h2,h3⟩:=id HX;have A1:Hid (Calls prog 93 #[.pointer (some ⟨H,0,none⟩),.int .i64 (i:Nat)] wc fun e w'=>e=.returned (.tuple #[])/\aW w w' H code rec now last (.slice (some ⟨g,0,none⟩) ps.length A0) qv (bU qs d RR.1) (fZ ps i RR.2.1 RR.2.2)):=HP wc v' h1 h2 h3;clear h1 h2 h3 HX HP HT c3 A2 e0 e1 e2 e3 e4;go_wp2_with fail
  refine A1.mono ?_;rintro e w' ⟨rfl,ho⟩;go_wp2_with fail
  go_end0;exact⟨rfl,ho⟩
theorem Dm (H:Nat)(code rec:Value)(now last:Int)(rv:Value)(qv:Nat->Value)(qs:Nat->List aj)(ps:List Pr)(i d:Nat)(cs:List am)(w:World)(h:bK w H code rec now last rv qv qs ps)(hl:ps.length<=1000)(hi:i<ps.length)(hd:d<3)(hdev:ps[i].dev=(d:Nat))
  (hc:w.ownsRow 0 91 4 code cs.length (aZ cs)) (hsnd:em cs=true) (hm:im cs ps[i]) (hs:ps[i].sent<=999999999999990000) (ht0:0<=now) (ht1:now<=1000000000):
  Calls prog 101 #[.pointer (some ⟨H,0,none⟩),.int .i64 (i:Nat)] w fun e w'=>e=.returned (.tuple #[])/\aW w w' H code rec now last rv qv (bU qs d (eM now cs false (qs d) ps[i]).1) (fZ ps i (eM now cs false (qs d) ps[i]).2.1 (eM now cs false (qs d) ps[i]).2.2):=by
 by_cases hz:ps[i].num=0
 .have e:eM now cs false (qs d) ps[i]=ci now cs 10000 (qs d) ps[i]:=by unfold eM;simp[hz]
  rw[e];exact yP H code rec now last rv qv qs ps i d cs w h hl hi hd hdev hc hsnd hm hs ht0 ht1 hz
 .have e:eM now cs false (qs d) ps[i]=ci now cs 10000 (dr (qs d) ps[i].id ps[i].num) ps[i]:=by unfold eM;simp[hz]
  rw[e];exact zh H code rec now last rv qv qs ps i d cs w h hl hi hd hdev hc hsnd hm hs ht0 ht1 hz
theorem zd (H:Nat)(code rec:Value)(now last:Int)(rv:Value)(qv:Nat->Value)(qs:Nat->List aj)(ps:List Pr)(id:Int)(w:World)(h:bK w H code rec now last rv qv qs ps)(hl:ps.length<=1000)(hf:gG id ps=ps.length):
  Calls prog 75 #[.pointer (some ⟨H,0,none⟩),.int .i64 id] w fun e w'=>e=.returned (.int .i64 10)/\Below w.heap.size w w':=by
 obtain⟨a,A0,hv⟩:=bD h.rB;subst hv;have HF:Hid (Calls prog 102 #[.pointer (some ⟨H,0,none⟩),.int .i64 id] w fun e w'=>e=.returned (.int .i64 (ps.length:Nat))/\Below w.heap.size w w'):=by
  have:=nO H code rec now last _ qv qs ps id w h hl;rw[hf]at this;exact this
 have HH:=ah h;clear h hf;go_enter func75,ntmps75
 go_wp2_with fail
 refine HF.mono ?_;rintro e w1 ⟨rfl,hb⟩;have c3:w1.cell? ⟨H,3,none⟩=some (.slice a ps.length A0):=(ag (HH.below hb).blk).trans rfl;have HB:=ah hb;clear hb;go_wp2_with fail
 go_ret;exact⟨rfl,HB⟩
theorem ze (H:Nat)(code rec:Value)(now last:Int)(rv:Value)(qv:Nat->Value)(qs:Nat->List aj)(ps:List Pr)(id:Int)(i d:Nat)(w:World)(h:bK w H code rec now last rv qv qs ps)(hl:ps.length<=1000)(hi:i<ps.length)(hf:gG id ps=i)(hd:d<3)(hdev:ps[i].dev=(d:Nat)):
  Calls prog 75 #[.pointer (some ⟨H,0,none⟩),.int .i64 id] w fun e w'=>e=.returned (.int .i64 0)/\aW w w' H code rec now last rv qv (bU qs d (dr (qs d) id 0)) (ps.eraseIdx i):=by
 obtain⟨g,A0,hv,_,A1⟩:=h.rB.form (by omega);subst hv;have HF:Hid (Calls prog 102 #[.pointer (some ⟨H,0,none⟩),.int .i64 id] w fun e w'=>e=.returned (.int .i64 (i:Nat))/\Below w.heap.size w w'):=by
  have:=nO H code rec now last _ qv qs ps id w h hl;rw[hf]at this;exact this
 have HH:Hid (bK w H code rec now last (.slice (some ⟨g,0,none⟩) ps.length A0) qv qs ps/\ps[i].dev=(d:Nat)):=⟨h,hdev⟩;have A4:((i:Int)==(ps.length:Int))=false:=by simp;omega
 have A3:(d:Int)<3:=by omega
 clear h hf A1 hdev;go_enter func75,ntmps75
 go_wp2_with fail
 refine HF.mono ?_;rintro e w1 ⟨rfl,hb⟩;have h1:=HH.1.below hb;have c3:w1.cell? ⟨H,3,none⟩=some (.slice (some ⟨g,0,none⟩) ps.length A0):=(ag h1.blk).trans rfl;obtain⟨_,_,_,_,_,_,_,_,_,_,_,_,_,⟨e0,e1,e2,e3,e4⟩,_⟩:=oU h1.rB h1.rl hi;rw[HH.2]at e1;have HT:Hid (Calls prog 104 #[.pointer (some ⟨H,4+d,none⟩),.int .i64 id] w1 fun e w'=>e=.returned (.tuple #[])/\∃ v',bK w' H code rec now last (.slice (some ⟨g,0,none⟩) ps.length A0) (bL qv d v') (bU qs d (dr (qs d) id 0)) ps/\(∀ k,bQ H (.slice (some ⟨g,0,none⟩) ps.length A0) (bL qv d v') k->bQ H (.slice (some ⟨g,0,none⟩) ps.length A0) qv k\/w.heap.size<=k)/\Fr (bQ H (.slice (some ⟨g,0,none⟩) ps.length A0) qv) w w'):=by
  refine(AG H (4+d) _ _ (qv d) (qs d) id _ (h1.que hd)).mono ?_;rintro e w' ⟨rfl,v',hq⟩;obtain⟨k1,k2,k3⟩:=h1.took hd hq (sO _ _ _ (h1.ql d hd));refine⟨rfl,v',k1,fun k hk=>?_,((Fr.of_below hb).mono fun k hk hs=>by omega).trans k3⟩;rcases k2 k hk with h|h
  .exact .inl h
  .exact .inr (Qc hb.size h)
 clear hb h1;go_wp2_with fail
 refine HT.mono ?_;rintro e w2 ⟨rfl,v',k1,k2,k3⟩;have HR:Hid (Calls prog 105 #[.pointer (some ⟨H,0,none⟩),.int .i64 (i:Nat)] w2 fun e w'=>e=.returned (.tuple #[])/\aW w w' H code rec now last (.slice (some ⟨g,0,none⟩) ps.length A0) qv (bU qs d (dr (qs d) id 0)) (ps.eraseIdx i)):=by
  refine(wL H _ rec now last _ _ _ ps i w2 k1 hl).mono ?_;rintro e w' ⟨rfl,A2,hr⟩;refine⟨rfl,⟨A2,_,k1.setRuns hr fun x hx=>k1.rl x (List.mem_of_mem_eraseIdx hx),fun k hk=>?_⟩,k3.trans (hr.fr.mono fun k _ hk=>.inl hk)⟩;rcases hk with rfl|hk|hk
  .exact .inl (.inl rfl)
  .exact k2 k (.inr (.inl hk))
  .exact .inr (Qc k3.size (cS hr.own hk).1)
 clear k1 k2 k3 HT c3 e0 e1 e2 e3 e4 HF;go_wp2_with fail
 refine HR.mono ?_;rintro e w3 ⟨rfl,ho⟩;have HO:=ah ho;clear ho HR;go_wp2_with fail
 go_ret;exact⟨rfl,HO⟩
theorem bK.setEls {w:World}{H:Nat}{code rec:Value}{now last:Int}{qv:Nat->Value}{qs:Nat->List aj}{ps:List Pr}{g cap i:Nat}(h:bK w H code rec now last (.slice (some ⟨g,0,none⟩) ps.length cap) qv qs ps)(hi:i<ps.length)(z:Int):
  bK (w.setCell ⟨g,i*19+17,none⟩ (.int .i64 z)) H code rec now last (.slice (some ⟨g,0,none⟩) ps.length cap) qv qs (ps.set i {ps[i] with els:=z}):=by
 obtain⟨c,hc⟩:=ax h.rB (k:=g) rfl;have A0:=h.rl _ (Qb hi);refine⟨(q8 _ _ _ _ (aA h.blk hc (by decide))).trans h.blk,fun d hd=>aT (h.oB d hd) fun b hb=>?_,h.ql,h.dis,?_,fun x hx=>?_⟩
 .obtain⟨c2,A1⟩:=ax (h.oB d hd) hb;exact q8 _ _ _ _ (aA A1 hc (by decide))
 .have h1:=iX h.rB (i*19+17) (.int .i64 z);have e:(ew ps).set (i*19+17) (.int .i64 z)=ew (ps.set i {ps[i] with els:=z}):=by
   have A2:(ew (ps.take i)).length=i*19:=by rw[tI (fun x hx=>h.rl x (List.mem_of_mem_take hx)),List.length_take,Nat.min_eq_left (by omega)]
   rw[tU ps i hi,tH ps i hi,<- tF A0 z,List.append_assoc,List.set_append_right _ _ (by omega),A2,Nat.add_sub_cancel_left,List.set_append_left _ _ (by rw[lW A0];omega),<- List.append_assoc]
  rw[e]at h1;rw[List.length_set];exact h1
 .rcases List.mem_or_eq_of_mem_set hx with hx|rfl
  .exact h.rl x hx
  .exact A0
theorem AX {ps:List Pr}{i:Nat}{x p:Pr}{done:Bool}:fZ (ps.set i x) i p done=fZ ps i p done:=by
 unfold fZ;cases done with
 | true=>simp only[if_true];exact List.eraseIdx_set_eq
 | false=>simp only[Bool.false_eq_true,if_false];simp
theorem AS (H:Nat)(code rec:Value)(now last:Int)(rv:Value)(qv:Nat->Value)(qs:Nat->List aj)(ps:List Pr)(id num:Int)(w:World)(h:bK w H code rec now last rv qv qs ps)(hl:ps.length<=1000)(hf:gG id ps=ps.length):
  Calls prog 72 #[.pointer (some ⟨H,0,none⟩),.int .i64 id,.int .i64 num] w fun e w'=>e=.returned (.int .i64 10)/\Below w.heap.size w w':=by
 obtain⟨a,A0,hv⟩:=bD h.rB;subst hv;have HF:Hid (Calls prog 102 #[.pointer (some ⟨H,0,none⟩),.int .i64 id] w fun e w'=>e=.returned (.int .i64 (ps.length:Nat))/\Below w.heap.size w w'):=by
  have:=nO H code rec now last _ qv qs ps id w h hl;rw[hf]at this;exact this
 have HH:=ah h;clear h hf;go_enter func72,ntmps72
 go_wp2_with fail
 refine HF.mono ?_;rintro e w1 ⟨rfl,hb⟩;have c3:w1.cell? ⟨H,3,none⟩=some (.slice a ps.length A0):=(ag (HH.below hb).blk).trans rfl;have HB:=ah hb;clear hb;go_wp2_with fail
 go_ret;exact⟨rfl,HB⟩
theorem AT (H:Nat)(code rec:Value)(now last:Int)(rv:Value)(qv:Nat->Value)(qs:Nat->List aj)(ps:List Pr)(id num:Int)(i:Nat)(w:World)(h:bK w H code rec now last rv qv qs ps)(hl:ps.length<=1000)(hi:i<ps.length)(hf:gG id ps=i)(hn:num=0\/¬ num=ps[i].num):
  Calls prog 72 #[.pointer (some ⟨H,0,none⟩),.int .i64 id,.int .i64 num] w fun e w'=>e=.returned (.int .i64 11)/\Below w.heap.size w w':=by
 obtain⟨g,A3,hv,_,A4⟩:=h.rB.form (by omega);subst hv;have HF:Hid (Calls prog 102 #[.pointer (some ⟨H,0,none⟩),.int .i64 id] w fun e w'=>e=.returned (.int .i64 (i:Nat))/\Below w.heap.size w w'):=by
  have:=nO H code rec now last _ qv qs ps id w h hl;rw[hf]at this;exact this
 have HH:=ah h;have A7:((i:Int)==(ps.length:Int))=false:=by simp;omega
 clear h hf A4;go_enter func72,ntmps72
 go_wp2_with fail
 refine HF.mono ?_;rintro e w1 ⟨rfl,hb⟩;have h1:=HH.below hb;have c3:w1.cell? ⟨H,3,none⟩=some (.slice (some ⟨g,0,none⟩) ps.length A3):=(ag h1.blk).trans rfl;have A1:=lL h1.rB h1.rl hi;have A2:=h1.rl _ (Qb hi);generalize ps[i]=p at *;obtain⟨C,hC⟩:∃ C,C=(cV p).toArray:=⟨_,rfl⟩;have A0:Hid (aM C p/\w1.rangeAt g (i*19) C.toList):=⟨⟨hC,A2⟩,aM.range ⟨hC,A2⟩ A1⟩;have k4:C[4]?=some (.int .i64 p.num):=by rw[hC];rfl
 have HB:=ah hb;clear hb h1 A1 A2 hC HF;by_cases hz:num=0
 .have A5:(num==0)=true:=by simpa using hz
  clear hz hn;go_wp2_with (first|(refine wpList_load_mid rfl 172 (.tmp 24) rfl g (i*19) (by rfl) C.toList _ A0.2 underlying172 rfl A0.1.infoL ?_)|(refine jJ w1 rfl 172 (.tmp 8) (.tmp 25) rfl jm C (by rfl) (by rfl) A0.1.info A0.1.zero A0.1.one ?_))
  go_ret;exact⟨rfl,HB.alloc HB.size _⟩
 .have A5:(num==0)=false:=by simpa using hz
  have A6:(num != p.num)=true:=by
   rcases hn with h|h
   .exact absurd h hz
   .simpa using h
  clear hz hn;go_wp2_with (first|(refine wpList_load_mid rfl 172 (.tmp 24) rfl g (i*19) (by rfl) C.toList _ A0.2 underlying172 rfl A0.1.infoL ?_)|(refine jJ w1 rfl 172 (.tmp 8) (.tmp 25) rfl jm C (by rfl) (by rfl) A0.1.info A0.1.zero A0.1.one ?_))
  go_ret;exact⟨rfl,HB.alloc HB.size _⟩
theorem zH (H:Nat)(code rec:Value)(now last:Int)(rv:Value)(qv:Nat->Value)(qs:Nat->List aj)(ps:List Pr)(id num:Int)(i d:Nat)(w:World)(h:bK w H code rec now last rv qv qs ps)(hl:ps.length<=1000)(hi:i<ps.length)(hf:gG id ps=i)(hd:d<3)(hdev:ps[i].dev=(d:Nat))(hz:¬ num=0)(hn:num=ps[i].num)(hb:jt (qs d) id num=true):
  Calls prog 72 #[.pointer (some ⟨H,0,none⟩),.int .i64 id,.int .i64 num] w fun e w'=>e=.returned (.int .i64 12)/\Below w.heap.size w w':=by
 obtain⟨g,A5,hv,_,A9⟩:=h.rB.form (by omega);subst hv;have HF:Hid (Calls prog 102 #[.pointer (some ⟨H,0,none⟩),.int .i64 id] w fun e w'=>e=.returned (.int .i64 (i:Nat))/\Below w.heap.size w w'):=by
  have:=nO H code rec now last _ qv qs ps id w h hl;rw[hf]at this;exact this
 have HH:Hid (bK w H code rec now last (.slice (some ⟨g,0,none⟩) ps.length A5) qv qs ps/\ps[i].dev=(d:Nat)/\jt (qs d) id num=true):=⟨h,hdev,hb⟩;have B1:((i:Int)==(ps.length:Int))=false:=by simp;omega
 have B3:(d:Int)<3:=by omega
 have B2:(num==0)=false:=by simpa using hz
 have B0:(num != ps[i].num)=false:=by simpa using hn
 clear h hf A9 hdev hb hz hn;go_enter func72,ntmps72
 go_wp2_with fail
 refine HF.mono ?_;rintro e w1 ⟨rfl,hb⟩;have h1:=HH.1.below hb;have c3:w1.cell? ⟨H,3,none⟩=some (.slice (some ⟨g,0,none⟩) ps.length A5):=(ag h1.blk).trans rfl;have A8:H<w1.heap.size:=ak h1.blk;have A1:=lL h1.rB h1.rl hi;have A3:=h1.rl _ (Qb hi);obtain⟨C,hC⟩:∃ C,C=(cV ps[i]).toArray:=⟨_,rfl⟩;have A0:Hid (aM C ps[i]/\w1.rangeAt g (i*19) C.toList):=⟨⟨hC,A3⟩,aM.range ⟨hC,A3⟩ A1⟩;have k1:C[1]?=some (.int .i64 (d:Nat)):=by rw[hC,<- HH.2.1];rfl
 have k4:C[4]?=some (.int .i64 ps[i].num):=by rw[hC];rfl
 have A4:Hid (∀ W,W=(w1.alloc (.cells C 172)).drew->Calls prog 103 #[.pointer (some ⟨H,4+d,none⟩),.int .i64 id,.int .i64 num] W fun e w'=>e=.returned (.bool true)/\Below w.heap.size w w'/\w'.heap[w1.heap.size]?=some (.cells C 172)):=fun W hW=>by
  have A2:Below w1.heap.size w1 W:=by rw[hW];exact((v7 _ _).alloc (v9 _) _).drew
  refine(yA H (4+d) _ _ (qv d) (qs d) id num W ((h1.below A2).que hd)).mono ?_;rintro e w' ⟨rfl,A7⟩;rw[HH.2.2];refine⟨rfl,(hb.trans (A2.mono hb.size)).trans (A7.mono (Qc hb.size A2.size)),?_⟩;have A6:W.heap[w1.heap.size]?=some (.cells C 172):=by rw[hW];exact v8 _ _
  exact(A7.block _ (ak A6)).trans A6
 generalize ps[i]=p at *;clear hb h1 A1 A3 hC HF;go_upto_region 7 with (first|(refine wpList_load_mid rfl 172 (.tmp 24) rfl g (i*19) (by rfl) C.toList _ A0.2 underlying172 rfl A0.1.infoL ?_)|(refine jJ w1 rfl 172 (.tmp 8) (.tmp 25) rfl jm C (by rfl) (by rfl) A0.1.info A0.1.zero A0.1.one ?_))
 go_cut [44] (fun r wx=>r=.bool true/\Hid (Below w.heap.size w wx/\wx.heap[w1.heap.size]?=some (.cells C 172)))
 case first=>
  go_region_with (go_at_call 103;refine(A4 _ rfl).mono ?_;rintro e w2 ⟨rfl,ho⟩)
  all_goals
   go_wp2_with fail
   go_meet;case rel=>exact⟨rfl,ho⟩
 case rest=>
  obtain⟨rfl,HX⟩:=hcut;clear A4 A0 k1 k4 c3 A8 B2 B0 B1;go_wp2_with fail
  go_ret;exact⟨rfl,HX.1⟩
theorem DP (H:Nat)(code rec:Value)(now last:Int)(rv:Value)(qv:Nat->Value)(qs:Nat->List aj)(ps:List Pr)(id num:Int)(i d:Nat)(cs:List am)(w:World)(h:bK w H code rec now last rv qv qs ps)(hl:ps.length<=1000)(hi:i<ps.length)(hf:gG id ps=i)(hd:d<3)(hdev:ps[i].dev=(d:Nat))(hz:¬ num=0)(hn:num=ps[i].num)
  (hc:w.ownsRow 0 91 4 code cs.length (aZ cs)) (hsnd:em cs=true) (hm:im cs ps[i]) (hs:ps[i].sent<=999999999999990000) (ht0:0<=now) (ht1:now<=1000000000) (hb:jt (qs d) id num=false):
  Calls prog 72 #[.pointer (some ⟨H,0,none⟩),.int .i64 id,.int .i64 num] w fun e w'=>e=.returned (.int .i64 0)/\aW w w' H code rec now last rv qv (bU qs d (eM now cs true (qs d) ps[i]).1) (fZ ps i (eM now cs true (qs d) ps[i]).2.1 (eM now cs true (qs d) ps[i]).2.2):=by
 obtain⟨g,A0,hv,_,B5⟩:=h.rB.form (by omega);subst hv;have HF:Hid (Calls prog 102 #[.pointer (some ⟨H,0,none⟩),.int .i64 id] w fun e w'=>e=.returned (.int .i64 (i:Nat))/\Below w.heap.size w w'):=by
  have:=nO H code rec now last _ qv qs ps id w h hl;rw[hf]at this;exact this
 have HH:Hid (bK w H code rec now last (.slice (some ⟨g,0,none⟩) ps.length A0) qv qs ps/\ps[i].dev=(d:Nat)/\jt (qs d) id num=false):=⟨h,hdev,hb⟩;have B2:eM now cs true (qs d) ps[i]=ci now cs 10000 (qs d) {ps[i] with els:=ps[i].tow}:=rfl;have HP:Hid (∀ wc,bK wc H code rec now last (.slice (some ⟨g,0,none⟩) ps.length A0) qv qs (ps.set i {ps[i] with els:=ps[i].tow})->Fr (bQ H (.slice (some ⟨g,0,none⟩) ps.length A0) qv) w wc->Calls prog 93 #[.pointer (some ⟨H,0,none⟩),.int .i64 (i:Nat)] wc fun e w'=>e=.returned (.tuple #[])/\aW w w' H code rec now last (.slice (some ⟨g,0,none⟩) ps.length A0) qv (bU qs d (eM now cs true (qs d) ps[i]).1) (fZ ps i (eM now cs true (qs d) ps[i]).2.1 (eM now cs true (qs d) ps[i]).2.2)):=fun wc h1 h3=>by
  have A1:(ps.set i {ps[i] with els:=ps[i].tow})[i]'(by simpa using hi)={ps[i] with els:=ps[i].tow}:=by simp
  have hk:=qi H code rec now last (.slice (some ⟨g,0,none⟩) ps.length A0) qv qs (ps.set i {ps[i] with els:=ps[i].tow}) i d cs wc h1 (by simpa using hl) (by simpa using hi) hd (by rw[A1];exact hdev) (h.code h3 hc) hsnd (by rw[A1];exact FN (m:=ps[i]) hm (by rw[<- hn];exact hz) (h.ql d hd)) (by rw[A1];exact hs) ht0 ht1;rw[A1,<- B2,AX]at hk;refine hk.mono ?_;rintro e w' ⟨rfl,ho⟩;exact⟨rfl,ho.trans (fun k hk=>.inl hk) h3⟩
 have B7:((i:Int)==(ps.length:Int))=false:=by simp;omega
 have C1:(d:Int)<3:=by omega
 have B8:(num==0)=false:=by simpa using hz
 have B6:(num != ps[i].num)=false:=by simpa using hn
 generalize hRR:eM now cs true (qs d) ps[i]=RR at *;clear h hf B5 hdev hc hsnd hm hs B2 hb hRR hz hn;go_enter func72,ntmps72
 go_wp2_with fail
 refine HF.mono ?_;rintro e w1 ⟨rfl,hb⟩;have h1:=HH.1.below hb;have c3:w1.cell? ⟨H,3,none⟩=some (.slice (some ⟨g,0,none⟩) ps.length A0):=(ag h1.blk).trans rfl;have B4:H<w1.heap.size:=ak h1.blk;have A3:=lL h1.rB h1.rl hi;have A4:=h1.rl _ (Qb hi);obtain⟨C,hC⟩:∃ C,C=(cV ps[i]).toArray:=⟨_,rfl⟩;have A2:Hid (aM C ps[i]/\w1.rangeAt g (i*19) C.toList):=⟨⟨hC,A4⟩,aM.range ⟨hC,A4⟩ A3⟩;have k1:C[1]?=some (.int .i64 (d:Nat)):=by rw[hC,<- HH.2.1];rfl
 have k4:C[4]?=some (.int .i64 ps[i].num):=by rw[hC];rfl
 have A7:Hid (∀ W,W=(w1.alloc (.cells C 172)).drew->Calls prog 103 #[.pointer (some ⟨H,4+d,none⟩),.int .i64 id,.int .i64 num] W fun e w'=>e=.returned (.bool false)/\Below w.heap.size w w'/\w'.heap[w1.heap.size]?=some (.cells C 172)):=fun W hW=>by
  have A6:Below w1.heap.size w1 W:=by rw[hW];exact((v7 _ _).alloc (v9 _) _).drew
  refine(yA H (4+d) _ _ (qv d) (qs d) id num W ((h1.below A6).que hd)).mono ?_;rintro e w' ⟨rfl,B0⟩;rw[HH.2.2];refine⟨rfl,(hb.trans (A6.mono hb.size)).trans (B0.mono (Qc hb.size A6.size)),?_⟩;have A9:W.heap[w1.heap.size]?=some (.cells C 172):=by rw[hW];exact v8 _ _
  exact(B0.block _ (ak A9)).trans A9
 have B3:C[18]?=some (.int .i64 ps[i].tow):=by rw[hC,List.getElem?_toArray];exact uB A4
 clear hb h1 A3 A4 hC HF;go_upto_region 7 with (first|(refine wpList_load_mid rfl 172 (.tmp 24) rfl g (i*19) (by rfl) C.toList _ A2.2 underlying172 rfl A2.1.infoL ?_)|(refine jJ w1 rfl 172 (.tmp 8) (.tmp 25) rfl jm C (by rfl) (by rfl) A2.1.info A2.1.zero A2.1.one ?_))
 go_cut [44] (fun r wx=>r=.bool false/\Hid (Below w.heap.size w wx/\wx.heap[w1.heap.size]?=some (.cells C 172)))
 case first=>
  go_region_with (go_at_call 103;refine(A7 _ rfl).mono ?_;rintro e w2 ⟨rfl,ho⟩)
  all_goals
   go_wp2_with fail
   go_meet;case rel=>exact⟨rfl,ho⟩
 case rest=>
  obtain⟨rfl,HX⟩:=hcut;have h1:=HH.1.below HX.1;have d3:wc.cell? ⟨H,3,none⟩=some (.slice (some ⟨g,0,none⟩) ps.length A0):=(ag h1.blk).trans rfl;obtain⟨_,_,_,_,_,_,_,_,_,_,_,_,_,_,_,_,⟨C0,_⟩⟩:=oU h1.rB h1.rl hi;obtain⟨_,cg,B1⟩:=cS h1.rB (k:=g) rfl;have C3:wc.frozen? ⟨g,i*19+17,none⟩=false:=aC B1;have B9:wc.cell? ⟨w1.heap.size,18,none⟩=some (.int .i64 ps[i].tow):=(ag HX.2).trans B3;have A5:Hid (bK ((wc.setCell ⟨g,i*19+17,none⟩ (.int .i64 ps[i].tow)).drew) H code rec now last (.slice (some ⟨g,0,none⟩) ps.length A0) qv qs (ps.set i {ps[i] with els:=ps[i].tow})/\Fr (bQ H (.slice (some ⟨g,0,none⟩) ps.length A0) qv) w ((wc.setCell ⟨g,i*19+17,none⟩ (.int .i64 ps[i].tow)).drew)):=by
   refine⟨(h1.setEls hi ps[i].tow).below (v7 _ _).drew,?_⟩;have f0:Fr (bQ H (.slice (some ⟨g,0,none⟩) ps.length A0) qv) w wc:=(Fr.of_below HX.1).mono fun k hk hs=>by omega
   exact(f0.setCell ⟨g,i*19+17,none⟩ (.inl (.inr (.inr rfl))) _).drew
  have A8:Hid (Calls prog 93 #[.pointer (some ⟨H,0,none⟩),.int .i64 (i:Nat)] ((wc.setCell ⟨g,i*19+17,none⟩ (.int .i64 ps[i].tow)).drew) fun e w'=>e=.returned (.tuple #[])/\aW w w' H code rec now last (.slice (some ⟨g,0,none⟩) ps.length A0) qv (bU qs d RR.1) (fZ ps i RR.2.1 RR.2.2)):=HP _ A5.1 A5.2;have C2:(i:Int)<(ps.length:Int):=by omega
  generalize ps[i]=p at *;clear h1 B1 HP A5 HX A7 A2 k1 k4 B3 c3 B4 B8 B6 B7;go_wp2_with fail
  go_region;all_goals
   go_wp2_with fail
   refine A8.mono ?_;rintro e w3 ⟨rfl,ho⟩;have HO:=ah ho;clear ho A8;go_wp2_with fail
   go_ret;exact⟨rfl,HO⟩
end Go.Proofs.YtmmmnghiegajmaaGreat
