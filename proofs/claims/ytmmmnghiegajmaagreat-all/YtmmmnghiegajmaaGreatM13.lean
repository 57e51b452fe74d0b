import Derived.Test.YtmmmnghiegajmaaGreatM12
import Derived.Test.YtmmmnghiegajmaaGreatM03
set_option maxHeartbeats 4000000
open Go.RowKit Go.Proofs.Herald Go.Proofs.Tryz
namespace Go.Proofs.YtmmmnghiegajmaaGreat
theorem bO.setQ {RT:Type}{M:aV RT}(hM:bw M){w:World}{S Q:Nat}{rec:ByteArray}{h:az RT}{pv:Value}{qv:Nat->Value}{rs:List Rs}(H:bO M w S Q rec h pv qv rs)(d:Nat)(hd:d<3)(v:Value)(q:List aj)(ho:w.ownsRow 0 87 4 v q.length (bA q))(hnew:∀ b,v.ownBlock=some b->¬ de S Q pv qv rs b)(hB:∀ b,v.ownBlock=some b->M.B0<=b):
  bO M (w.setCell ⟨Q,d,none⟩ v) S Q rec {h with qs:=bU h.qs d q} pv (bL qv d v) rs/\Fr (fun k=>k=Q) w (w.setCell ⟨Q,d,none⟩ v):=by
 have hf:Fr (fun k=>k=Q) w (w.setCell ⟨Q,d,none⟩ v):=(Fr.refl (fun k=>k=Q) w).setCell ⟨Q,d,none⟩ (.inl rfl) _;have A0:Fr (de S Q pv qv rs) w (w.setCell ⟨Q,d,none⟩ v):=hf.mono fun k _ hk=>.inr (.inl hk);have ne:∀ {k:Nat} {c:Array Value} {t:TypeId},w.heap[k]?=some (.cells c t (0,0))->t≠99->(w.setCell ⟨Q,d,none⟩ v).heap[k]?=w.heap[k]?:=fun hc ht=>q8 _ _ _ _ (aA hc H.at'.qB ht);have keep:∀ {v':Value} {n:Nat} {xs:List Value},w.ownsRow 0 87 4 v' n xs->(w.setCell ⟨Q,d,none⟩ v).ownsRow 0 87 4 v' n xs:=fun {v' n xs} hv=>aT hv fun b hb=>by
  obtain⟨c,hc⟩:=ax hv hb;exact ne hc (by decide)
 refine⟨⟨⟨?_,?_,fun e he=>?_,fun e f b he hf2 h1 h2=>?_,?_,fun x hx=>?_,H.at'.nd⟩,fun k hk=>?_,jM (fun a b hab=>hM.keep _ _ a b hab (H.at'.still H.base A0)) H.rel⟩,hf⟩
 .rw[ne H.at'.sB (by decide)];exact H.at'.sB
 .rw[cG _ H.at'.qB];match d,hd with
  | 0,_=>rfl
  | 1,_=>rfl
  | 2,_=>rfl
 .show(w.setCell ⟨Q,d,none⟩ v).ownsRow 0 87 4 (bL qv d v e) (bL h.qs d q e).length (bA (bL h.qs d q e));by_cases hed:e=d
  .subst hed;rw[ec,ec];exact keep ho
  .rw[eH qv v hed,eH h.qs q hed];exact keep (H.at'.oB e he)
 .by_cases hed:e=d
  .by_cases hfd:f=d
   .omega
   .subst hed;rw[ec]at h1;rw[eH qv v hfd]at h2;exact absurd (.inr (.inr (.inl ⟨f,hf2,h2⟩))) (hnew b h1)
  .by_cases hfd:f=d
   .subst hfd;rw[ec]at h2;rw[eH qv v hed]at h1;exact absurd (.inr (.inr (.inl ⟨e,he,h1⟩))) (hnew b h2)
   .rw[eH qv v hed]at h1;rw[eH qv v hfd]at h2;exact H.at'.dis e f b he hf2 h1 h2
 .exact aT H.at'.lB fun b hb=>by
   obtain⟨c,hc⟩:=ax H.at'.lB hb;exact ne hc (by decide)
 .obtain⟨b1,b2,b3⟩:=H.at'.rB x hx;exact⟨(ne b1 (by decide)).trans b1,(ne b2 (by decide)).trans b2,b3⟩
 .rcases hk with rfl|rfl|⟨e,he,hk⟩|hk|hk
  .exact H.base _ (.inl rfl)
  .exact H.base _ (.inr (.inl rfl))
  .by_cases hed:e=d
   .subst hed;rw[ec]at hk;exact hB k hk
   .rw[eH qv v hed]at hk;exact H.base _ (.inr (.inr (.inl ⟨e,he,hk⟩)))
  .exact H.base _ (.inr (.inr (.inr (.inl hk))))
  .exact H.base _ (.inr (.inr (.inr (.inr hk))))
def iN (m:aj):Value:=.agg #[.int .i64 m.dev,.int .i64 m.run,.int .i64 m.num,.int .i64 m.key]
theorem bO.below {RT:Type}{M:aV RT}(hM:bw M){w w':World}{S Q:Nat}{rec:ByteArray}{h:az RT}{pv:Value}{qv:Nat->Value}{rs:List Rs}(H:bO M w S Q rec h pv qv rs)(hb:Below w.heap.size w w'):bO M w' S Q rec h pv qv rs:=
 ⟨H.at'.keep fun k hk=>hb.block k (H.at'.lt hk),H.base,jM (fun a b hab=>hM.keep _ _ a b hab fun k hk _=>hb.block k hk) H.rel⟩
theorem Ag {RT:Type}{M:aV RT}(hM:bw M)(S Q:Nat)(rec:ByteArray)(h:az RT)(pv:Value)(qv:Nat->Value)(rs:List Rs)(dev:Int)(w:World)(H:bO M w S Q rec h pv qv rs)(hn:¬ (0<=dev/\dev<=2)):
  Calls prog 43 #[.pointer (some ⟨S,0,none⟩),.int .i64 dev] w fun e w'=>e=.returned (.tuple #[iN ⟨0,0,0,0⟩,.int .i64 8])/\aR M w S Q pv qv rs rec h w':=by
 have b1:bd dev 0 2=false:=by
  by_cases h1:0<=dev
  .exact mf (fun h2=>hn ⟨h1,h2⟩)
  .exact mg h1
 have HS:Hid (∀ w',Below w.heap.size w w'->aR M w S Q pv qv rs rec h w'):=fun w' hb=>⟨⟨pv,qv,rs,H.below hM hb,fun k hk=>.inl hk⟩,⟨hb.os,hb.tape,hb.output,hb.size,fun k hk _=>hb.block k hk⟩⟩;clear H hn;go_enter func43,ntmps43
 go_wp2_with fail
 refine(fp dev 0 2 _).mono ?_;rw[b1];rintro e w' ⟨rfl,rfl⟩;go_wp2_with fail
 refine bodyPost_ret (v:=.tuple #[iN ⟨0,0,0,0⟩,.int .i64 8]) (by simp[results,results43,go_sem,iN]) rfl ⟨rfl,HS.out _ ?_⟩;exact(v7 _ w).alloc (v9 _) _
theorem yL {RT:Type}{M:aV RT}(hM:bw M)(S Q:Nat)(rec:ByteArray)(h:az RT)(pv:Value)(qv:Nat->Value)(rs:List Rs)(d:Nat)(w:World)(H:bO M w S Q rec h pv qv rs)(hd:d<3)(hq:h.qs d=[]):
  Calls prog 43 #[.pointer (some ⟨S,0,none⟩),.int .i64 (d:Nat)] w fun e w'=>e=.returned (.tuple #[iN ⟨0,0,0,0⟩,.int .i64 13])/\aR M w S Q pv qv rs rec h w':=by
 have b1:bd (d:Nat) 0 2=true:=kS (by omega) (by omega);have HS:Hid (∀ w',Below w.heap.size w w'->aR M w S Q pv qv rs rec h w'):=fun w' hb=>⟨⟨pv,qv,rs,H.below hM hb,fun k hk=>.inl hk⟩,⟨hb.os,hb.tape,hb.output,hb.size,fun k hk _=>hb.block k hk⟩⟩;have ho:=H.at'.oB d hd;rw[hq]at ho;obtain⟨a,A0,hv⟩:=bD ho;have c6:w.cell? ⟨S,6,none⟩=some (.slice (some ⟨Q,0,none⟩) 3 3):=(ag H.at'.sB).trans rfl;have cq:w.cell? ⟨Q,d,none⟩=some (.slice a 0 A0):=by rw[ag H.at'.qB,mX qv d hd,hv];rfl
 have A2:S<w.heap.size:=ak H.at'.sB;have A1:Q<w.heap.size:=ak H.at'.qB;clear H ho hv hq;go_enter func43,ntmps43
 go_wp2_with fail
 refine(fp (d:Nat) 0 2 _).mono ?_;rw[b1];rintro e w' ⟨rfl,rfl⟩;go_wp2_with fail
 refine bodyPost_ret (v:=.tuple #[iN ⟨0,0,0,0⟩,.int .i64 13]) (by simp[results,results43,go_sem,iN]) rfl ⟨rfl,HS.out _ ?_⟩;exact(v7 _ w).alloc (v9 _) _
theorem yW {RT:Type}{M:aV RT}(hM:bw M)(S Q:Nat)(rec:ByteArray)(h:az RT)(pv:Value)(qv:Nat->Value)(rs:List Rs)(d:Nat)(m:aj)(r:List aj)(w:World)(H:bO M w S Q rec h pv qv rs)(hd:d<3)(hq:h.qs d=m::r)(hl:r.length<=1000)(hr:rec.size<=1000000000000):
  Calls prog 43 #[.pointer (some ⟨S,0,none⟩),.int .i64 (d:Nat)] w fun e w'=>e=.returned (.tuple #[iN m,.int .i64 0])/\aR M w S Q pv qv rs (rec++gJ 68 (d:Nat) 0) {h with qs:=bU h.qs d r} w':=by
 have b1:bd (d:Nat) 0 2=true:=kS (by omega) (by omega);have ho:=H.at'.oB d hd;rw[hq]at ho;obtain⟨g,A7,hv,_,D0⟩:=ho.form (by simp);rw[hv]at ho;have B4:=jN ho;obtain⟨q1,_,q3⟩:=B4;unfold maxLen at q3;have A5:(m::r).length=r.length+1:=rfl;rw[A5]at ho q1 hv;have c6:w.cell? ⟨S,6,none⟩=some (.slice (some ⟨Q,0,none⟩) 3 3):=(ag H.at'.sB).trans rfl;have cq:w.cell? ⟨Q,d,none⟩=some (.slice (some ⟨g,0,none⟩) (r.length+1) A7):=by rw[ag H.at'.qB,mX qv d hd,hv]
 have zq:w.frozen? ⟨Q,d,none⟩=false:=aC H.at'.qB;have A0:∀ j u,(fo (aj.ins m))[j]?=some u->w.cell? ⟨g,j,none⟩=some u:=fun j u hu=>by
  have h1:=ho.cells (g:=g) rfl j u (by
   have e:bA (m::r)=fo (aj.ins m)++bA r:=by simp[bA,aZ]
   rw[e,List.getElem?_append_left (List.getElem?_eq_some_iff.mp hu).1];exact hu)
  rwa [Addr.add_lit,Nat.zero_add]at h1
 have e0:=A0 0 (.int .i64 m.dev) rfl;have e1:=A0 1 (.int .i64 m.run) rfl;have e2:=A0 2 (.int .i64 m.num) rfl;have e3:=A0 3 (.int .i64 m.key) rfl;have B3:Hid (∀ (W:World) (sa:Option Addr),W.heap[g]?=w.heap[g]?->(0<r.length->sa=some ⟨g,4,none⟩)->jo W sa r.length (bA r)):=by
  intro W sa hW hsa hp;refine⟨_,hsa hp,fun j u hu=>?_⟩;have h1:=ho.cells (g:=g) rfl (4+j) u (by
   have e:bA (m::r)=fo (aj.ins m)++bA r:=by simp[bA,aZ]
   rw[e,List.getElem?_append_right (by simp[fo])];simpa[fo] using hu)
  rw[Addr.add_lit,Nat.zero_add]at h1;rw[Addr.add_lit,World.cell?_of_block hW];exact h1
 have HH:=ah H;have C7:S<w.heap.size:=ak H.at'.sB;have B9:Q<w.heap.size:=ak H.at'.qB;clear H ho hv hq A0 A5;have HO:Hid (∀ v∈bA r,v.oneCell'=true):=by
  intro v hv;exact mM _ v hv
 go_enter func43,ntmps43
 go_wp2_with fail
 refine(fp (d:Nat) 0 2 _).mono ?_;rw[b1];rintro e w' ⟨rfl,rfl⟩;have C5:Hid (∀ A B,((w.alloc A).alloc B).heap[g]?=w.heap[g]?):=fun A B=>by rw[q9 _ _ _ (by simp;omega),q9 _ _ _ D0]
 have B2:Hid (∀ (A B:Obj) (W2 w2:World) (v2:Value),W2.heap=((w.alloc A).alloc B).heap->W2.os=w.os->W2.tape=w.tape->W2.output=w.output->w2.ownsRow 0 87 4 v2 r.length (bA r)->jL W2 w2 (.slice none 0 0) 0 r.length v2 ->
   (∃ a c,v2=.slice a r.length c)/\Below w.heap.size w w2/\w2.heap[w.heap.size]?=some A/\w2.heap[w.heap.size+1]?=some B/\bO M (w2.setCell ⟨Q,d,none⟩ v2) S Q rec {h with qs:=bU h.qs d r} pv (bL qv d v2) rs/\Fr (de S Q pv qv rs) w (w2.setCell ⟨Q,d,none⟩ v2)/\∀ k,de S Q pv (bL qv d v2) rs k->(de S Q pv qv rs k\/w.heap.size<=k)/\k≠w.heap.size):=by
  intro A B W2 w2 v2 hW o1 o2 o3 hown ha;have hz:W2.heap.size=w.heap.size+2:=by rw[hW];simp
  have C8:Below w.heap.size w W2:=⟨o1,o2,o3,by omega,fun k hk=>by rw[hW,q9 _ _ _ (by simp;omega),q9 _ _ _ hk]⟩;have A6:w2.ownsRow 0 87 4 v2 (0+r.length) ([]++bA r):=by rw[Nat.zero_add,List.nil_append];exact hown
  obtain⟨hB,_⟩:=iF C8 (by omega) (Qg _ _ _ _) A6 ha;have A2:∀ b,v2.ownBlock=some b->W2.heap.size<=b:=by
   rcases ha with ⟨g',c',e,_⟩|⟨h1,_⟩
   .cases e
   .exact h1
  have C3:∀ k,k<W2.heap.size->w2.heap[k]?=W2.heap[k]?:=by
   rcases ha with ⟨g',c',e,_⟩|⟨_,h2⟩
   .cases e
   .exact fun k hk=>h2.block k hk (by simp)
  have H1:=HH.below hM hB;have D1:∀ b,v2.ownBlock=some b->¬ de S Q pv qv rs b:=fun b hb ho=>by have:=A2 b hb;have:=HH.at'.lt ho;omega
  have C9:∀ b,v2.ownBlock=some b->M.B0<=b:=fun b hb=>by have:=A2 b hb;have:=HH.base S (.inl rfl);omega
  obtain⟨H2,f2⟩:=H1.setQ hM d hd v2 r hown D1 C9;refine⟨bD hown,hB,?_,?_,H2,?_,fun k hk=>?_⟩
  .rw[C3 _ (by omega),hW,q9 _ _ _ (by simp)];exact v8 _ _
  .rw[C3 _ (by omega),hW];exact ey _ _ _
  .have f1:Fr (de S Q pv qv rs) w w2:=⟨hB.os,hB.tape,hB.output,hB.size,fun k hk _=>hB.block k hk⟩;exact f1.trans (f2.mono fun k _ hk=>.inr (.inl hk))
  .have old:∀ {k},de S Q pv qv rs k->(de S Q pv qv rs k\/w.heap.size<=k)/\k≠w.heap.size:=fun {k} hk=>⟨.inl hk,by have:=HH.at'.lt hk;omega⟩;rcases hk with rfl|rfl|⟨e,he,hk⟩|hk|hk
   .exact old (.inl rfl)
   .exact old (.inr (.inl rfl))
   .by_cases hed:e=d
    .subst hed;rw[ec]at hk;have:=A2 k hk;exact⟨.inr (by omega),by omega⟩
    .rw[eH _ _ hed]at hk;exact old (.inr (.inr (.inl ⟨e,he,hk⟩)))
   .exact old (.inr (.inr (.inr (.inl hk))))
   .exact old (.inr (.inr (.inr (.inr hk))))
 have C6:(A7=1/\r=[])\/¬ A7=1:=by
  by_cases hc:A7=1
  .exact .inl ⟨hc,List.eq_nil_of_length_eq_zero (by omega)⟩
  .exact .inr hc
 rcases C6 with ⟨rfl,rfl⟩|hc1;all_goals
  go_wp2_with (at_builtin;refine ly _ rfl (.tmp 33) (.tmp 41) 99 rfl 87 _ 4 32 underlying99 Tryz.infoMsg rfl (by decide) (by decide) (.slice none 0 0) 0 [] _ _ _ (bA _) (by rfl) (Qg _ _ _ _) (by rfl) (B3 _ _ (by exact C5 _ _) (by first|(intro hp;rfl)|(intro hp;exact absurd hp (by simp)))) (mI _) HO (by simp;try omega) ?_)
  intro v2 w2 hown2 ha2;obtain⟨⟨va,vc,rfl⟩,A8,B5,B7,C0,B6,B8⟩:=B2 _ _ _ w2 v2 rfl rfl rfl rfl hown2 ha2;have k6:w2.cell? ⟨S,6,none⟩=some (.slice (some ⟨Q,0,none⟩) 3 3):=(A8.cell (p:=⟨S,6,none⟩) C7).trans c6;have kq:∃ u,w2.cell? ⟨Q,d,none⟩=some u:=⟨_,(A8.cell (p:=⟨Q,d,none⟩) B9).trans cq⟩;obtain⟨uq,kq⟩:=kq;have kz:w2.frozen? ⟨Q,d,none⟩=false:=by
   have h1:=(A8.block Q B9).trans HH.at'.qB;exact aC h1
  have H2:Hid (_/\_/\_/\_/\_):=⟨B5,B7,C0,B6,B8⟩;have B1:w.heap.size≠Q/\w.heap.size+1≠Q/\w.heap.size≠S/\w.heap.size+1≠S:=by omega
  clear hown2 ha2 A8 B5 B7 C0 B6 B8;go_wp2_with fail
  refine(oF hM S Q rec _ pv _ rs 68 (d:Nat) 0 _ H2.2.2.1 hr).mono ?_;rintro e w4 ⟨rfl,C1,A9⟩;have A1:=(A9.block w.heap.size (by rw[ef];exact ak H2.1) B1.2.2.1).trans ((q8 _ _ _ _ B1.1).trans H2.1);have A4:=(A9.block (w.heap.size+1) (by rw[ef];exact ak H2.2.1) B1.2.2.2).trans ((q8 _ _ _ _ B1.2.1).trans H2.2.1);have r0:w4.cell? ⟨w.heap.size,0,none⟩=some (.int .i64 0):=(ag A1).trans rfl;have r1:w4.cell? ⟨w.heap.size,1,none⟩=some (.int .i64 0):=(ag A1).trans rfl;have r2:w4.cell? ⟨w.heap.size,2,none⟩=some (.int .i64 0):=(ag A1).trans rfl;have r3:w4.cell? ⟨w.heap.size,3,none⟩=some (.int .i64 0):=(ag A1).trans rfl;have y0:w4.frozen? ⟨w.heap.size,0,none⟩=false:=aC A1;have y1:w4.frozen? ⟨w.heap.size,1,none⟩=false:=aC A1;have y2:w4.frozen? ⟨w.heap.size,2,none⟩=false:=aC A1;have y3:w4.frozen? ⟨w.heap.size,3,none⟩=false:=aC A1;have m0:w4.cell? ⟨w.heap.size+1,0,none⟩=some (.int .i64 m.dev):=(ag A4).trans rfl;have m1:w4.cell? ⟨w.heap.size+1,1,none⟩=some (.int .i64 m.run):=(ag A4).trans rfl;have m2:w4.cell? ⟨w.heap.size+1,2,none⟩=some (.int .i64 m.num):=(ag A4).trans rfl;have m3:w4.cell? ⟨w.heap.size+1,3,none⟩=some (.int .i64 m.key):=(ag A4).trans rfl;have H4:Hid (bO M w4 S Q (rec++gJ 68 (d:Nat) 0) _ pv _ rs/\Fr (de S Q pv qv rs) w w4/\∀ k,_->_):=⟨C1,H2.2.2.2.1.trans (A9.mono fun k _ hk=>.inl hk),H2.2.2.2.2⟩;have C4:=ah A1;clear A1 A4 C1 A9 k6 kq kz;go_wp2_with fail
  refine bodyPost_ret (v:=.tuple #[iN m,.int .i64 0]) (by simp[results,results43,go_sem,iN,r0,r1,r2,r3]) rfl ⟨rfl,?_⟩;have C2:∀ k,k≠w.heap.size->((((w4.setCell ⟨w.heap.size,0,none⟩ (.int .i64 m.dev)).setCell ⟨w.heap.size,1,none⟩ (.int .i64 m.run)).setCell ⟨w.heap.size,2,none⟩ (.int .i64 m.num)).setCell ⟨w.heap.size,3,none⟩ (.int .i64 m.key)).heap[k]?=w4.heap[k]?:=fun k hk=>by
   rw[q8 _ _ _ _ hk,q8 _ _ _ _ hk,q8 _ _ _ _ hk,q8 _ _ _ _ hk]
  have D2:=HH.base S (.inl rfl);have A3:aN M.B0 w4 ((((w4.setCell ⟨w.heap.size,0,none⟩ (.int .i64 m.dev)).setCell ⟨w.heap.size,1,none⟩ (.int .i64 m.run)).setCell ⟨w.heap.size,2,none⟩ (.int .i64 m.num)).setCell ⟨w.heap.size,3,none⟩ (.int .i64 m.key)):=by
   intro k _ hk;refine C2 k fun hh=>?_;subst hh;rcases hk with hk|⟨c,t,z,hc,ht⟩
   .omega
   .rw[C4]at hc;simp only[Option.some.injEq,Obj.cells.injEq]at hc;obtain⟨_,rfl,_⟩:=hc;rcases ht with ht|ht
    .revert ht;decide
    .revert ht;decide
  refine⟨⟨pv,_,rs,⟨H4.1.at'.keep fun k hk=>C2 k (H4.2.2 k hk).2,H4.1.base,jM (fun a b hab=>hM.keep _ _ a b hab A3) H4.1.rel⟩,fun k hk=>(H4.2.2 k hk).1⟩,?_⟩;exact(((H4.2.1.setCell ⟨w.heap.size,0,none⟩ (.inr (v9 _)) _).setCell ⟨w.heap.size,1,none⟩ (.inr (v9 _)) _).setCell ⟨w.heap.size,2,none⟩ (.inr (v9 _)) _).setCell ⟨w.heap.size,3,none⟩ (.inr (v9 _)) _
end Go.Proofs.YtmmmnghiegajmaaGreat
