import Derived.Test.YtmmmnghiegajmaaGreatM37
import Derived.Test.YtmmmnghiegajmaaGreatM18
import Derived.Test.YtmmmnghiegajmaaGreatM19
set_option maxHeartbeats 4000000
set_option maxRecDepth 20000
open Go.RowKit Go.Proofs.Herald Go.Proofs.Tryz
namespace Go.Proofs.Herald
theorem cC.trig {RT:Type}{E:bM RT}{G:RT->Prop}(hE:dl E G){C:Int}{h:az RT}(H:cC E G C h)(hC:0<=C)(dev:Int):cC E G (C+10000) (cP E h dev).2.2:=by
 have hm:=H.mono (D:=C+10000) (by omega);unfold cP;split
 .exact hm
 .rename_i hd;split
  .exact hm
  .rename_i hl;have ho:=hE.start h.now (h.qs dev.toNat) (h.last+1) dev (H.qlen _);have hf:=hE.fresh (h.last+1) dev;have A0:0<=dev/\dev<=2:=by simpa using hd
   have key:∀ y∈dP E (h.rs++[E.fresh (h.last+1) dev]) (E.start h.now (h.qs dev.toNat) (E.fresh (h.last+1) dev)).2.1 (E.start h.now (h.qs dev.toNat) (E.fresh (h.last+1) dev)).2.2,((E.start h.now (h.qs dev.toNat) (E.fresh (h.last+1) dev)).2.2=false/\y=(E.start h.now (h.qs dev.toNat) (E.fresh (h.last+1) dev)).2.1)\/y∈h.rs:=fun y hy=>by
    rcases sf hy with h1|⟨h1,h2⟩
    .exact .inl h1
    .rcases List.mem_append.mp h1 with h1|h1
     .exact .inr h1
     .rw[List.mem_singleton.mp h1,ho.id]at h2;exact absurd rfl h2
   have A4:=H.last0;have A1:=H.now0;have A2:=H.now1;have A3:(h.rs++[E.fresh (h.last+1) dev]).Pairwise fun a b=>(E.pub a).id≠(E.pub b).id:=by
    rw[List.pairwise_append];refine⟨H.nd,by simp,fun a ha b hb=>?_⟩;rw[List.mem_singleton.mp hb,hf];have:=H.id a ha;show(E.pub a).id≠h.last+1;omega
   refine⟨A1,A2,by show 0<=h.last+1;omega,qC H.qlen ho.len,?_,fun y hy=>?_,fun y hy=>?_,fun y hy=>?_,fun y hy=>?_,fun y hy=>?_,wP _ _ A3⟩
   .refine Qc (vX _ _ _) ?_;simp;omega
   .rcases key y hy with ⟨hd,rfl⟩|hy
    .rw[ho.dev hd,hf];exact A0
    .exact H.dev y hy
   .rcases key y hy with ⟨hd,rfl⟩|hy
    .have h1:=ho.sent0 hd;have h2:=ho.sent1 hd;rw[hf]at h1 h2;simp only at h1 h2;omega
    .have:=H.sent y hy;omega
   .rcases key y hy with ⟨hd,rfl⟩|hy
    .have:=(ho.stop hd).2;show h.now<=_/\_;omega
    .exact H.til y hy
   .show(E.pub y).id<=h.last+1;rcases key y hy with ⟨_,rfl⟩|hy
    .rw[ho.id,hf];exact Int.le_refl _
    .have:=H.id y hy;omega
   .rcases key y hy with ⟨hd,rfl⟩|hy
    .exact(ho.stop hd).1
    .exact H.good y hy
theorem cC.tickN {RT:Type}{E:bM RT}{G:RT->Prop}(hE:dl E G)(en:Int)(hen:en<=1000000000):∀ (f:Nat) {C:Int} {h:az RT},cC E G C h->h.now<=en->fe E en h.rs<=f->cC E G (C+10000*f) (Herald.gS E en f h)/\iM E en (Herald.gS E en f h).rs=none/\(Herald.gS E en f h).last=h.last:=by
 intro f;induction f with
 | zero=>
  intro C h H hn hm;refine⟨H.mono (by simp),?_,rfl⟩;show iM E en h.rs=none;cases hd:iM E en h.rs with
  | none=>rfl
  | some r=>
   obtain⟨hr,h1,_⟩:=nD hd;have h3:∀ (l:List RT),r∈l->1<=fe E en l:=by
    intro l;induction l with
    | nil=>intro h;cases h
    | cons y l ih=>
     intro h;simp only[fe,List.map_cons,List.sum_cons]at ih ⊢;rcases List.mem_cons.mp h with h|h
     .rw[<- h];omega
     .have:=ih h;omega
   have:=h3 _ hr;omega
 | succ f ih=>
  intro C h H hn hm;unfold Herald.gS;cases hd:iM E en h.rs with
  | none=>exact⟨H.mono (by omega),hd,rfl⟩
  | some r=>
   obtain⟨hr,h1,h2⟩:=nD hd;have ht:=H.til r hr;have h0:=H.now0;have A0:=H.go hE hr false (E.pub r).til (by omega) (by omega) h2 (fun hh=>by cases hh);have ho:=hE.on (E.pub r).til false (h.qs (E.pub r).dev.toNat) r (H.good r hr) (H.qlen _) (fun hh=>by cases hh);have A1:=sg (E:=E) (en:=en) (r:=r) (r':=(E.on (E.pub r).til false (h.qs (E.pub r).dev.toNat) r).2.1) (done:=(E.on (E.pub r).til false (h.qs (E.pub r).dev.toNat) r).2.2) ho.id h1 (fun hd=>(ho.stop hd).2.1) h.rs hr H.nd;have:=ih A0 h1 (Nat.le_of_lt_succ (Qh A1 hm));refine⟨this.1.mono ?_,this.2⟩;push_cast;omega
theorem cC.tick {RT:Type}{E:bM RT}{G:RT->Prop}(hE:dl E G){C:Int}{h:az RT}(H:cC E G C h)(n:Int):cC E G (C+50000000) (dU E h n).2/\(dU E h n).2.last=h.last:=by
 unfold dU;split
 .exact⟨H.mono (by omega),rfl⟩
 .rename_i hn;have A1:1<=n/\n<=999:=by
   by_cases h1:1<=n/\n<=999
   .exact h1
   .exact absurd (.inl h1) hn
  have h3:h.now+n<=1000000000:=by omega
  have h0:=H.now0;have A0:fe E (h.now+n) h.rs<=5000:=by
   have h1:=sh (E:=E) (en:=h.now+n) (t:=h.now) 1000 (by omega) h.rs (fun r hr=>(H.til r hr).1);have h2:=H.len;have:h.rs.length*1000<=5*1000:=Nat.mul_le_mul_right _ h2;omega
  obtain⟨k1,k2,k3⟩:=cC.tickN hE (h.now+n) h3 5000 H (by omega) A0;have hd:=Dg k2;exact⟨⟨by show 0<=h.now+n;omega,h3,k1.last0,k1.qlen,k1.len,k1.dev,fun r hr=>by have:=k1.sent r hr;omega,fun r hr=>⟨by show h.now+n<=_;have:=hd r hr;omega,(k1.til r hr).2⟩,k1.id,k1.good,k1.nd⟩,k3⟩
theorem cC.ack {RT:Type}{E:bM RT}{G:RT->Prop}(hE:dl E G){C:Int}{h:az RT}(H:cC E G C h)(id num:Int):cC E G (C+10000) (di E h id num).2:=by
 have hm:=H.mono (D:=C+10000) (by omega);unfold di;cases hf:fm E h.rs id with
 | none=>exact hm
 | some r=>
  have hr:r∈h.rs:=List.mem_of_find?_eq_some hf;simp only;split
  .exact hm
  .rename_i hn;split
   .exact hm
   .have hz:(E.pub r).num≠0:=fun hh=>hn (by
     by_cases h0:num=0
     .exact .inl h0
     .right;rw[hh];exact fun e=>h0 e.symm)
    exact H.go hE hr true h.now H.now0 H.now1 (fun y hy=>(H.til y hy).1) (fun _=>hz)
theorem cC.cancel {RT:Type}{E:bM RT}{G:RT->Prop}{C:Int}{h:az RT}(H:cC E G C h)(id:Int):cC E G C (dH E h id).2:=by
 unfold dH;cases hf:fm E h.rs id with
 | none=>exact H
 | some r=>
  have A0:∀ y∈h.rs.filter (fun y=>(E.pub y).id != id),y∈h.rs:=fun y hy=>(List.mem_filter.mp hy).1;exact⟨H.now0,H.now1,H.last0,qC H.qlen (Qc (List.length_filter_le _ _) (H.qlen _)),Qc (List.length_filter_le _ _) H.len,fun y hy=>H.dev y (A0 y hy),fun y hy=>H.sent y (A0 y hy),fun y hy=>H.til y (A0 y hy),fun y hy=>H.id y (A0 y hy),fun y hy=>H.good y (A0 y hy),H.nd.filter _⟩
theorem cC.drain {RT:Type}{E:bM RT}{G:RT->Prop}{C:Int}{h:az RT}(H:cC E G C h)(dev:Int):cC E G C (cU h dev).2.2:=by
 unfold cU;split
 .exact H
 .cases hq:h.qs dev.toNat with
  | nil=>exact H
  | cons m r=>
   have:=H.qlen dev.toNat;rw[hq]at this;simp at this;exact⟨H.now0,H.now1,H.last0,qC H.qlen (by omega),H.len,H.dev,H.sent,H.til,H.id,H.good,H.nd⟩
theorem wA {RT:Type}{E:bM RT}{h:az RT}(dev:Int):(cP E h dev).2.2.last<=h.last+1:=by
 unfold cP;split
 .show h.last<=_;omega
 .split
  .show h.last<=_;omega
  .exact Int.le_refl _
theorem wO {RT:Type}{E:bM RT}{h:az RT}(id num:Int):(di E h id num).2.last=h.last:=by
 unfold di;cases fm E h.rs id with
 | none=>rfl
 | some r=>simp only;(repeat' split);all_goals rfl
theorem ui {RT:Type}{E:bM RT}{h:az RT}(id:Int):(dH E h id).2.last=h.last:=by
 unfold dH;cases fm E h.rs id with
 | none=>rfl
 | some r=>rfl
theorem uX {RT:Type}{h:az RT}(dev:Int):(cU h dev).2.2.last=h.last:=by
 unfold cU;split
 .rfl
 .split <;> rfl
end Go.Proofs.Herald
namespace Go.Proofs.YtmmmnghiegajmaaGreat
theorem xY {w:World}{B g cap k:Nat}{l:List Rn}(h:w.ownsRow B 96 5 (.slice (some ⟨g,0,none⟩) l.length cap) l.length (fT l))(hk:k<l.length):
  w.cell? ⟨g,k*5,none⟩=some (.int .i64 l[k].id)/\w.cell? ⟨g,k*5+1,none⟩=some (.int .i64 l[k].dev)/\w.cell? ⟨g,k*5+2,none⟩=some (.int .i64 l[k].sent)/\w.cell? ⟨g,k*5+3,none⟩=some (.int .i64 l[k].til)/\w.cell? ⟨g,k*5+4,none⟩=some (.int .i64 l[k].num):=by
 have A1:∀ (l:List Rn) (k:Nat) (hk:k<l.length) (j:Nat),j<5->(fT l)[k*5+j]?=(ki l[k])[j]?:=by
  intro l;induction l with
  | nil=>intro k hk;simp at hk
  | cons x l ih=>
   intro k hk j hj;unfold fT at ih ⊢;rw[List.flatMap_cons];cases k with
   | zero=>
    rw[List.getElem?_append_left (by simp[ki];omega)];simp
   | succ k=>
    rw[List.getElem?_append_right (by simp[ki];omega),show(k+1)*5+j - (ki x).length=k*5+j from by simp[ki];omega,ih k (by simpa using hk) j hj];simp
 have A0:∀ j u,j<5->(ki l[k])[j]?=some u->w.cell? ⟨g,k*5+j,none⟩=some u:=fun j u hj hu=>(eW h (k*5+j) u (by rw[A1 l k hk j hj];exact hu)).1;exact⟨A0 0 _ (by omega) rfl,A0 1 _ (by omega) rfl,A0 2 _ (by omega) rfl,A0 3 _ (by omega) rfl,A0 4 _ (by omega) rfl⟩
theorem Al (l:List Rn)(a b:Option Addr)(ca cb:Nat)(w:World)(ha:w.ownsRow 0 96 5 (.slice a l.length ca) l.length (fT l))(hb:w.ownsRow 0 96 5 (.slice b l.length cb) l.length (fT l))(hl:l.length<=100000):
  Calls prog 80 #[.slice a l.length ca,.slice b l.length cb] w fun e w'=>e=.returned (.bool true)/\aG w w':=by
 have HA:Hid (w.ownsRow 0 96 5 (.slice a l.length ca) l.length (fT l)/\w.ownsRow 0 96 5 (.slice b l.length cb) l.length (fT l)):=⟨ha,hb⟩;clear ha hb;go_enter func80,ntmps80
 go_wp2_with fail
 go_loopw [5] (fun i wr=>∃ k:Nat,k<=l.length/\i=.int .i64 k/\Hid (aG w wr)) (fun i _=>l.length - (intOf i).toNat)
 case atStart=>exact⟨0,Qa _,rfl,aG.refl _⟩
 case round=>
  obtain⟨k,hk,rfl,HS⟩:=hrel;by_cases hlt:k<l.length
  .obtain⟨g,A0,hv,_,_⟩:=HA.1.form (by omega);simp at hv;obtain⟨rfl,rfl⟩:=hv;obtain⟨g',A1,hv,_,_⟩:=HA.2.form (by omega);simp at hv;obtain⟨rfl,rfl⟩:=hv;obtain⟨e0,e1,e2,e3,e4⟩:=xY HA.1 hlt;obtain⟨f0,f1,f2,f3,f4⟩:=xY HA.2 hlt;rw[<- HS.out.cell]at e0 e1 e2 e3 e4 f0 f1 f2 f3 f4;generalize l[k]=m at *;go_wp2_with fail
   go_region;all_goals
    go_wp2_with fail
    go_roundw;case rel=>exact⟨k+1,by omega,by go_num,HS.out.drew⟩
    case measure=>simp[intOf];omega
  .go_wp2_with fail
   go_ret;exact⟨rfl,HS.out⟩
theorem Ac (l:List aj)(a b:Option Addr)(ca cb:Nat)(w:World)(ha:w.ownsRow 0 87 4 (.slice a l.length ca) l.length (bA l))(hb:w.ownsRow 0 87 4 (.slice b l.length cb) l.length (bA l))(hl:l.length<=100000):
  Calls prog 81 #[.slice a l.length ca,.slice b l.length cb] w fun e w'=>e=.returned (.bool true)/\aG w w':=by
 have HA:Hid (w.ownsRow 0 87 4 (.slice a l.length ca) l.length (bA l)/\w.ownsRow 0 87 4 (.slice b l.length cb) l.length (bA l)):=⟨ha,hb⟩;clear ha hb;go_enter func81,ntmps81
 go_wp2_with fail
 go_loopw [5] (fun i wr=>∃ k:Nat,k<=l.length/\i=.int .i64 k/\Hid (aG w wr)) (fun i _=>l.length - (intOf i).toNat)
 case atStart=>exact⟨0,Qa _,rfl,aG.refl _⟩
 case round=>
  obtain⟨k,hk,rfl,HS⟩:=hrel;by_cases hlt:k<l.length
  .obtain⟨g,A0,hv,_,_⟩:=HA.1.form (by omega);simp at hv;obtain⟨rfl,rfl⟩:=hv;obtain⟨g',A1,hv,_,_⟩:=HA.2.form (by omega);simp at hv;obtain⟨rfl,rfl⟩:=hv;obtain⟨e0,e1,e2,e3⟩:=ld HA.1 hlt;obtain⟨f0,f1,f2,f3⟩:=ld HA.2 hlt;rw[<- HS.out.cell]at e0 e1 e2 e3 f0 f1 f2 f3;generalize l[k]=m at *;go_wp2_with fail
   go_region;all_goals
    go_wp2_with fail
    go_roundw;case rel=>exact⟨k+1,by omega,by go_num,HS.out.drew⟩
    case measure=>simp[intOf];omega
  .go_wp2_with fail
   go_ret;exact⟨rfl,HS.out⟩
theorem uj (now:Int)(l:List Rn)(q:List aj)(a b:Option Addr)(ca cb:Nat)(c d:Option Addr)(cc cd:Nat)(w:World)
  (ha:w.ownsRow 0 96 5 (.slice a l.length ca) l.length (fT l)) (hb:w.ownsRow 0 96 5 (.slice b l.length cb) l.length (fT l)) (hl:l.length<=100000)
  (hc:w.ownsRow 0 87 4 (.slice c q.length cc) q.length (bA q)) (hd:w.ownsRow 0 87 4 (.slice d q.length cd) q.length (bA q)) (hq:q.length<=100000):
  Calls prog 46 #[.agg #[.int .i64 now,.slice a l.length ca,.slice c q.length cc],.agg #[.int .i64 now,.slice b l.length cb,.slice d q.length cd]] w fun e w'=>e=.returned (.bool true)/\Below w.heap.size w w':=by
 have HR:Hid (∀ W:World,Below w.heap.size w W->Calls prog 80 #[.slice a l.length ca,.slice b l.length cb] W fun e w'=>e=.returned (.bool true)/\aG W w'):=fun W hW=>
  Al l a b ca cb W (aT ha fun k hk=>by obtain⟨c,hc⟩:=ax ha hk;exact hW.block k (ak hc)) (aT hb fun k hk=>by obtain⟨c,hc⟩:=ax hb hk;exact hW.block k (ak hc)) hl
 have HQ:Hid (∀ W:World,Below w.heap.size w W->Calls prog 81 #[.slice c q.length cc,.slice d q.length cd] W fun e w'=>e=.returned (.bool true)/\aG W w'):=fun W hW=>
  Ac q c d cc cd W (aT hc fun k hk=>by obtain⟨c,hc⟩:=ax hc hk;exact hW.block k (ak hc)) (aT hd fun k hk=>by obtain⟨c,hc⟩:=ax hd hk;exact hW.block k (ak hc)) hq
 clear ha hb hc hd;obtain⟨W,hW⟩:∃ W,W=(w.alloc (.cells #[.int .i64 now,.slice a l.length ca,.slice c q.length cc] 103)).alloc (.cells #[.int .i64 now,.slice b l.length cb,.slice d q.length cd] 103):=⟨_,rfl⟩;have HW:Hid (W=(w.alloc (.cells #[.int .i64 now,.slice a l.length ca,.slice c q.length cc] 103)).alloc (.cells #[.int .i64 now,.slice b l.length cb,.slice d q.length cd] 103)/\Below w.heap.size w W):=⟨hW,by rw[hW];exact((v7 _ _).alloc (v9 _) _).alloc (by simp) _⟩;have HG:Hid (∀ w1,aG W w1->w1.heap[w.heap.size]?=some (.cells #[.int .i64 now,.slice a l.length ca,.slice c q.length cc] 103)/\w1.heap[w.heap.size+1]?=some (.cells #[.int .i64 now,.slice b l.length cb,.slice d q.length cd] 103)):=fun w1 h1=>by
  rw[h1.heap,hW];exact⟨by rw[q9 _ _ _ (by simp)];exact v8 _ _,ey _ _ _⟩
 clear hW;go_enter func46,ntmps46
 go_wp2_with fail
 rw[<- HW.1];refine(HR W HW.2).mono ?_;rintro e w1 ⟨rfl,h1⟩;obtain⟨m0,m1,m2,_⟩:=lh (HG w1 h1).1;obtain⟨n0,n1,n2,_⟩:=lh (HG w1 h1).2;have A0:=ah h1;have A2:Hid (Calls prog 81 #[.slice c q.length cc,.slice d q.length cd] w1 fun e w'=>e=.returned (.bool true)/\aG w1 w'):=HQ w1 (HW.2.trans (h1.below _));clear h1;go_wp2_with fail
 refine A2.mono ?_;rintro e w2 ⟨rfl,h2⟩;have A1:aG W w2:=⟨h2.heap.trans A0.heap,h2.os.trans A0.os,h2.tape.trans A0.tape,h2.output.trans A0.out.output⟩;clear m0 m1 m2 n0 n1 n2;obtain⟨m0,m1,m2,_⟩:=lh (HG w2 A1).1;obtain⟨n0,n1,n2,_⟩:=lh (HG w2 A1).2;have HB:Hid (Below w.heap.size w w2):=HW.2.trans (A1.below _);clear h2 A1;go_wp2_with fail
 go_ret;exact⟨rfl,HB⟩
structure fu where
 n:Int
 cv:Value
 rv:Value
 qv:Value
 cb:List (Value×List Value)
 rb:List (Value×List Value)
 qb:List (Value×List Value)
def bP (O:Nat)(o:fu)(k:Nat):Prop:=
 k=O\/o.cv.ownBlock=some k\/o.rv.ownBlock=some k\/o.qv.ownBlock=some k\/(∃ b∈o.cb,b.1.ownBlock=some k)\/(∃ b∈o.rb,b.1.ownBlock=some k)\/(∃ b∈o.qb,b.1.ownBlock=some k)
def OA (w:World)(O:Nat)(o:fu):Prop:=dn w (bP O o) O o.n o.cv o.rv o.qv o.cb o.rb o.qb
theorem OA.of {w:World}{X:Nat->Prop}{O:Nat}{o:fu}(h:dn w X O o.n o.cv o.rv o.qv o.cb o.rb o.qb):OA w O o/\∀ k,bP O o k->X k:=by
 refine⟨⟨h.blk,.inl rfl,h.cown,h.rown,h.qown,fun b hb=>.inr (.inl hb),fun b hb=>.inr (.inr (.inl hb)),fun b hb=>.inr (.inr (.inr (.inl hb))),fun b hb=>?_,fun b hb=>?_,fun b hb=>?_⟩,fun k hk=>?_⟩
 .obtain⟨h1,m,hm,h2,_⟩:=h.cbk b hb;exact⟨h1,m,hm,h2,fun g hg=>.inr (.inr (.inr (.inr (.inl ⟨b,hb,hg⟩))))⟩
 .obtain⟨h1,m,hm,h2,_⟩:=h.rbk b hb;exact⟨h1,m,hm,h2,fun g hg=>.inr (.inr (.inr (.inr (.inr (.inl ⟨b,hb,hg⟩)))))⟩
 .obtain⟨h1,m,hm,h2,_⟩:=h.qbk b hb;exact⟨h1,m,hm,h2,fun g hg=>.inr (.inr (.inr (.inr (.inr (.inr ⟨b,hb,hg⟩)))))⟩
 .rcases hk with rfl|hk|hk|hk|⟨b,hb,hk⟩|⟨b,hb,hk⟩|⟨b,hb,hk⟩
  .exact h.inO
  .exact h.cin k hk
  .exact h.rin k hk
  .exact h.qin k hk
  .obtain⟨_,_,_,_,h3⟩:=h.cbk b hb;exact h3 k hk
  .obtain⟨_,_,_,_,h3⟩:=h.rbk b hb;exact h3 k hk
  .obtain⟨_,_,_,_,h3⟩:=h.qbk b hb;exact h3 k hk
def ek (w:World)(k:Nat):Prop:=∃ c t,w.heap[k]?=some (.cells c t (0,0))/\t≠177/\t≠133
theorem OA.sort {w:World}{O:Nat}{o:fu}(h:OA w O o){k:Nat}(hk:bP O o k):ek w k:=by
 rcases hk with rfl|hk|hk|hk|⟨b,hb,hk⟩|⟨b,hb,hk⟩|⟨b,hb,hk⟩
 .exact⟨_,_,h.blk,by decide,by decide⟩
 .obtain⟨c,hc⟩:=ax h.cown hk;exact⟨_,_,hc,by decide,by decide⟩
 .obtain⟨c,hc⟩:=ax h.rown hk;exact⟨_,_,hc,by decide,by decide⟩
 .obtain⟨c,hc⟩:=ax h.qown hk;exact⟨_,_,hc,by decide,by decide⟩
 .obtain⟨_,_,_,h2,_⟩:=h.cbk b hb;obtain⟨c,hc⟩:=ax h2 hk;exact⟨_,_,hc,by decide,by decide⟩
 .obtain⟨_,_,_,h2,_⟩:=h.rbk b hb;obtain⟨c,hc⟩:=ax h2 hk;exact⟨_,_,hc,by decide,by decide⟩
 .obtain⟨_,_,_,h2,_⟩:=h.qbk b hb;obtain⟨c,hc⟩:=ax h2 hk;exact⟨_,_,hc,by decide,by decide⟩
theorem ek.lt {w:World}{k:Nat}(h:ek w k):k<w.heap.size:=by
 obtain⟨c,t,hc,_⟩:=h;exact ak hc
theorem OA.keep {w w':World}{O:Nat}{o:fu}(h:OA w O o)(hk:∀ k,bP O o k->w'.heap[k]?=w.heap[k]?):OA w' O o:=dn.keep h hk
theorem OA.below {w w':World}{O:Nat}{o:fu}(h:OA w O o)(hb:Below w.heap.size w w'):OA w' O o:=h.keep fun k hk=>hb.block k (h.sort hk).lt
theorem zP (O:Nat)(o:fu)(now:Int)(a:Option Addr)(nl cap:Nat)(xs:List Value)(aq:Option Addr)(nq capq:Nat)(xq:List Value)(w:World)(hn0:0<=o.n)(hn1:o.n<=900000000)(hnl:nl<=1000000)(hnq:nq<=1000000)(hrb:o.rb.length<=10000000)(hqb:o.qb.length<=10000000)
  (h:OA w O o) (hl:w.ownsRow 0 96 5 (.slice a nl cap) nl xs) (hlq:w.ownsRow 0 87 4 (.slice aq nq capq) nq xq)
  (hlX:∀ b,(Value.slice a nl cap).ownBlock=some b->¬ bP O o b) (hqX:∀ b,(Value.slice aq nq capq).ownBlock=some b->¬ bP O o b):
  Calls prog 47 #[.pointer (some ⟨O,0,none⟩),.agg #[.int .i64 now,.slice a nl cap,.slice aq nq capq]] w fun e w'=>e=.returned (.tuple #[]) /\
   ∃ o',OA w' O o'/\o'.n=o.n+1/\o'.cb.length=o.cb.length/\o'.rb.length=o.rb.length+4/\o'.qb.length=o.qb.length+4/\(∀ k,bP O o' k->bP O o k\/(Value.slice a nl cap).ownBlock=some k\/(Value.slice aq nq capq).ownBlock=some k\/w.heap.size<=k) /\
    Fr (fun k=>bP O o k\/(Value.slice a nl cap).ownBlock=some k\/(Value.slice aq nq capq).ownBlock=some k) w w':=by
 refine(CE (bP O o) O o.n now o.cv o.rv o.qv o.cb o.rb o.qb a nl cap xs aq nq capq xq w hn0 hn1 hnl hnq hrb hqb h hl hlq hlX hqX).mono ?_;rintro e w' ⟨rfl,A3,A1,A2,A0,h1,h2,h3,h4⟩;obtain⟨h5,h6⟩:=OA.of (o:=⟨o.n+1,o.cv,A3,A1,o.cb,A2,A0⟩) h3;exact⟨rfl,_,h5,rfl,rfl,h1,h2,fun k hk=>(h6 k hk).2,h4⟩
theorem mj {B0:Nat}{w w':World}{Z:Nat->Prop}(hf:Fr Z w w')(hz:∀ k,k<w.heap.size->Z k->B0<=k/\ek w k):aN B0 w w':=by
 intro k hk hd;refine hf.block k hk fun ho=>?_;obtain⟨h1,c2,t2,A0,h2,h3⟩:=hz k hk ho;rcases hd with hd|⟨c,t,z,hc,ht⟩
 .omega
 .rw[hc]at A0;simp only[Option.some.injEq,Obj.cells.injEq]at A0;obtain⟨_,rfl,_⟩:=A0;rcases ht with rfl|rfl
  .exact h2 rfl
  .exact h3 rfl
theorem FH.sort {w:World}{H:Nat}{cs:List am}{h:az Pr}{code rec rv:Value}{qv:Nat->Value}{n:Nat}(F:FH w H cs h code rec rv qv n){k:Nat}(hk:fX H code rec rv qv k):ek w k:=by
 rcases hk with hk|hk|hk
 .obtain⟨c,t,hc,ht⟩:=F.m.at'.sort hk;refine⟨c,t,hc,?_⟩;rcases ht with rfl|rfl|rfl
  .exact⟨by decide,by decide⟩
  .exact⟨by decide,by decide⟩
  .exact⟨by decide,by decide⟩
 .obtain⟨xs,_,h2⟩:=F.r;obtain⟨c,hc⟩:=ax h2 hk;exact⟨_,_,hc,by decide,by decide⟩
 .obtain⟨c,hc⟩:=ax F.m.cd hk;exact⟨_,_,hc,by decide,by decide⟩
structure kr where
 code:Value
 jr:Value
 rv:Value
 qv:Nat->Value
 n:Nat
 drec:ByteArray
 pv:Value
 dqv:Nat->Value
 rs:List Rs
def nW (Pb H S Q:Nat)(s:kr)(k:Nat):Prop:=k=Pb\/fX H s.code s.jr s.rv s.qv k\/de S Q s.pv s.dqv s.rs k
structure PP {RT:Type}(M:aV RT)(CB:World->Prop)(w:World)(Pb H S Q:Nat)(u tv:Value)(cs:List am)(hm:az Pr)(hd:az RT)(s:kr):Prop where
 p:w.heap[Pb]?=some (.cells #[.pointer (some ⟨H,0,none⟩),.pointer (some ⟨S,0,none⟩),u,tv] 42)
 f:FH w H cs hm s.code s.jr s.rv s.qv s.n
 d:bO M w S Q s.drec hd s.pv s.dqv s.rs
 cb:CB w
 dj:∀ k,fX H s.code s.jr s.rv s.qv k->¬ de S Q s.pv s.dqv s.rs k
 pf:¬ fX H s.code s.jr s.rv s.qv Pb
 pd:¬ de S Q s.pv s.dqv s.rs Pb
 fb:∀ k,fX H s.code s.jr s.rv s.qv k->M.B0<=k
 pb:M.B0<=Pb
theorem PP.lt {RT:Type}{M:aV RT}{CB:World->Prop}{w:World}{Pb H S Q:Nat}{u tv:Value}{cs:List am}{hm:az Pr}{hd:az RT}{s:kr}(h:PP M CB w Pb H S Q u tv cs hm hd s){k:Nat}(hk:nW Pb H S Q s k):k<w.heap.size:=by
 rcases hk with rfl|hk|hk
 .exact ak h.p
 .exact h.f.lt hk
 .exact h.d.at'.lt hk
theorem PP.keep {RT:Type}{M:aV RT}(hM:bw M){CB:World->Prop}(hCB:∀ w w',CB w->aN M.B0 w w'->CB w'){w w':World}{Pb H S Q:Nat}{u tv:Value}{cs:List am}{hm:az Pr}{hd:az RT}{s:kr}(h:PP M CB w Pb H S Q u tv cs hm hd s)(hk:∀ k,nW Pb H S Q s k->w'.heap[k]?=w.heap[k]?)(hst:aN M.B0 w w'):PP M CB w' Pb H S Q u tv cs hm hd s:=
 ⟨(hk Pb (.inl rfl)).trans h.p,h.f.keep fun k hk'=>hk k (.inr (.inl hk')),⟨h.d.at'.keep fun k hk'=>hk k (.inr (.inr hk')),h.d.base,jM (fun a b hab=>hM.keep _ _ a b hab hst) h.d.rel⟩,hCB _ _ h.cb hst,h.dj,h.pf,h.pd,h.fb,h.pb⟩
theorem pC {B0:Nat}{w w':World}(hb:Below w.heap.size w w'):aN B0 w w':=fun k hk _=>hb.block k hk
theorem PP.below {RT:Type}{M:aV RT}(hM:bw M){CB:World->Prop}(hCB:∀ w w',CB w->aN M.B0 w w'->CB w'){w w':World}{Pb H S Q:Nat}{u tv:Value}{cs:List am}{hm:az Pr}{hd:az RT}{s:kr}(h:PP M CB w Pb H S Q u tv cs hm hd s)(hb:Below w.heap.size w w'):PP M CB w' Pb H S Q u tv cs hm hd s:=
 h.keep hM hCB (fun k hk=>hb.block k (h.lt hk)) (pC hb)
theorem PP.pubs {RT:Type}{M:aV RT}(hM:bw M){CB:World->Prop}{w:World}{Pb H S Q:Nat}{u tv:Value}{cs:List am}{hm:az Pr}{hd:az RT}{s:kr}(h:PP M CB w Pb H S Q u tv cs hm hd s){ρ:RT->Pr->Prop}(hE:bq M.E (aE cs) ρ)(hs:ay ρ hd hm):
  (s.rs.map fun x=>cF x.p)=hm.rs.map cF/\s.rs.length=hm.rs.length:=by
 have key:∀ {a:List Rs} {b:List RT} {c:List Pr},fB (M.link w) a b->fB ρ b c->(a.map fun x=>cF x.p)=c.map cF:=by
  intro a;induction a with
  | nil=>
   intro b c h1 h2;cases b with
   | nil=>cases c with
    | nil=>rfl
    | cons _ _=>exact h2.elim
   | cons _ _=>exact h1.elim
  | cons x a ih=>
   intro b c h1 h2;cases b with
   | nil=>exact h1.elim
   | cons y b=>
    cases c with
    | nil=>exact h2.elim
    | cons z c=>
     have e1:=hM.pub w x y h1.1;have e2:=hE.pub y z h2.1;have e3:cF x.p=cF z:=by rw[<- e1,e2];rfl
     rw[List.map_cons,List.map_cons,e3,ih h1.2 h2.2]
 exact⟨key h.d.rel hs.rs,(lG h.d.rel).trans (lG hs.rs)⟩
structure LK {RT:Type}(M:aV RT)(CB:World->Prop)(w:World)(Pb H S Q O:Nat)(u tv:Value)(cs:List am)(hm:az Pr)(hd:az RT)(s:kr)(o:fu):Prop where
 pp:PP M CB w Pb H S Q u tv cs hm hd s
 oa:OA w O o
 dj:∀ k,nW Pb H S Q s k->¬ bP O o k
 ob:∀ k,bP O o k->M.B0<=k
structure er (w:World)(B:Nat)(a:Option Addr)(ca:Nat)(l:List Rn)(c:Option Addr)(cc:Nat)(q:List aj):Prop where
 r:w.ownsRow B 96 5 (.slice a l.length ca) l.length (fT l)
 m:w.ownsRow B 87 4 (.slice c q.length cc) q.length (bA q)
theorem er.keep {w w':World}{B:Nat}{a:Option Addr}{ca:Nat}{l:List Rn}{c:Option Addr}{cc:Nat}{q:List aj}(h:er w B a ca l c cc q)(hk:∀ k,((Value.slice a l.length ca).ownBlock=some k\/(Value.slice c q.length cc).ownBlock=some k)->w'.heap[k]?=w.heap[k]?):er w' B a ca l c cc q:=
 ⟨eu h.r fun k hk'=>hk k (.inl hk'),eu h.m fun k hk'=>hk k (.inr hk')⟩
theorem er.lt {w:World}{B:Nat}{a:Option Addr}{ca:Nat}{l:List Rn}{c:Option Addr}{cc:Nat}{q:List aj}(h:er w B a ca l c cc q){k:Nat}(hk:(Value.slice a l.length ca).ownBlock=some k\/(Value.slice c q.length cc).ownBlock=some k):B<=k/\k<w.heap.size/\ek w k:=by
 rcases hk with hk|hk
 .obtain⟨h1,A0,hc⟩:=cS h.r hk;exact⟨h1,ak hc,⟨_,_,hc,by decide,by decide⟩⟩
 .obtain⟨h1,A0,hc⟩:=cS h.m hk;exact⟨h1,ak hc,⟨_,_,hc,by decide,by decide⟩⟩
theorem er.below {w w':World}{B:Nat}{a:Option Addr}{ca:Nat}{l:List Rn}{c:Option Addr}{cc:Nat}{q:List aj}(h:er w B a ca l c cc q)(hb:Below w.heap.size w w'):er w' B a ca l c cc q:=
 h.keep fun k hk=>hb.block k (h.lt hk).2.1
theorem LK.state {RT:Type}{M:aV RT}(hM:bw M){CB:World->Prop}(hCB:∀ w w',CB w->aN M.B0 w w'->CB w'){w:World}{Pb H S Q O:Nat}{u tv:Value}{cs:List am}{hm:az Pr}{hd:az RT}{s:kr}{o:fu}(L:LK M CB w Pb H S Q O u tv cs hm hd s o){B:Nat}(hB:∀ k,nW Pb H S Q s k\/bP O o k->k<B)(hBM:M.B0<=B)(hBw:B<=w.heap.size)
  {a:Option Addr} {ca:Nat} {l:List Rn} {c:Option Addr} {cc:Nat} {q:List aj} (T:er w B a ca l c cc q) (now:Int) (hl:l.length<=1000) (hq:q.length<=1000) (hn0:0<=o.n) (hn1:o.n<=900000000) (hrb:o.rb.length<=10000000) (hqb:o.qb.length<=10000000):
  Calls prog 47 #[.pointer (some ⟨O,0,none⟩),.agg #[.int .i64 now,.slice a l.length ca,.slice c q.length cc]] w fun e w'=>e=.returned (.tuple #[]) /\
   ∃ o',LK M CB w' Pb H S Q O u tv cs hm hd s o'/\o'.n=o.n+1/\o'.cb.length=o.cb.length/\o'.rb.length=o.rb.length+4/\o'.qb.length=o.qb.length+4/\(∀ k,bP O o' k->bP O o k\/B<=k)/\Fr (fun k=>bP O o k\/(Value.slice a l.length ca).ownBlock=some k\/(Value.slice c q.length cc).ownBlock=some k) w w':=by
 have A1:∀ b,((Value.slice a l.length ca).ownBlock=some b\/(Value.slice c q.length cc).ownBlock=some b)->¬ bP O o b/\¬ nW Pb H S Q s b:=fun b hb=>by
  have h1:=(T.lt hb).1;exact⟨fun hx=>by have:=hB b (.inr hx);omega,fun hx=>by have:=hB b (.inl hx);omega⟩
 refine(zP O o now a l.length ca (fT l) c q.length cc (bA q) w hn0 hn1 (by omega) (by omega) hrb hqb L.oa (bZ T.r) (bZ T.m) (fun b hb=>(A1 b (.inl hb)).1) (fun b hb=>(A1 b (.inr hb)).1)).mono ?_;rintro e w' ⟨rfl,o',h1,h2,h3,h4,h5,h6,h7⟩;have A3:aN M.B0 w w':=mj h7 fun k hk hz=>by
  rcases hz with hz|hz
  .exact⟨L.ob k hz,L.oa.sort hz⟩
  .have:=T.lt hz;exact⟨by omega,this.2.2⟩
 have A2:=L.pp.keep hM hCB (fun k hk=>h7.block k (L.pp.lt hk) fun hz=>by
  rcases hz with hz|hz
  .exact L.dj k hk hz
  .exact(A1 k hz).2 hk) A3
 have A0:∀ k,bP O o' k->bP O o k\/B<=k:=fun k hk=>by
  rcases h6 k hk with h|h|h|h
  .exact .inl h
  .exact .inr (T.lt (.inl h)).1
  .exact .inr (T.lt (.inr h)).1
  .exact .inr (by omega)
 refine⟨rfl,o',⟨A2,h1,fun k hk hx=>?_,fun k hk=>?_⟩,h2,h3,h4,h5,A0,h7⟩
 .rcases A0 k hx with h|h
  .exact L.dj k hk h
  .have:=hB k (.inl hk);omega
 .rcases A0 k hk with h|h
  .exact L.ob k h
  .omega
theorem LK.below {RT:Type}{M:aV RT}(hM:bw M){CB:World->Prop}(hCB:∀ w w',CB w->aN M.B0 w w'->CB w'){w w':World}{Pb H S Q O:Nat}{u tv:Value}{cs:List am}{hm:az Pr}{hd:az RT}{s:kr}{o:fu}(L:LK M CB w Pb H S Q O u tv cs hm hd s o)(hb:Below w.heap.size w w'):LK M CB w' Pb H S Q O u tv cs hm hd s o:=
 ⟨L.pp.below hM hCB hb,L.oa.below hb,L.dj,L.ob⟩
theorem LK.lt {RT:Type}{M:aV RT}{CB:World->Prop}{w:World}{Pb H S Q O:Nat}{u tv:Value}{cs:List am}{hm:az Pr}{hd:az RT}{s:kr}{o:fu}(L:LK M CB w Pb H S Q O u tv cs hm hd s o){k:Nat}(hk:nW Pb H S Q s k\/bP O o k):k<w.heap.size:=by
 rcases hk with hk|hk
 .exact L.pp.lt hk
 .exact(L.oa.sort hk).lt
theorem Cf {RT:Type}{M:aV RT}(hM:bw M){CB:World->Prop}(hCB:∀ w w',CB w->aN M.B0 w w'->CB w')(Pb H S Q O:Nat)(u tv:Value)(cs:List am)(hm:az Pr)(hd:az RT)(s:kr)(o:fu)(w:World){ρ:RT->Pr->Prop}(hE:bq M.E (aE cs) ρ)(hs:ay ρ hd hm)(L:LK M CB w Pb H S Q O u tv cs hm hd s o)
  (hrl:hm.rs.length<=5) (hql:∀ d,(hm.qs d).length<=4) (hn0:0<=o.n) (hn1:o.n<=800000000) (hcb:o.cb.length<=9000000) (hrb:o.rb.length<=9000000) (hqb:o.qb.length<=9000000):
  Calls prog 15 #[.pointer (some ⟨Pb,0,none⟩),.pointer (some ⟨O,0,none⟩)] w fun e w'=>e=.returned (.bool true) /\
   ∃ o',LK M CB w' Pb H S Q O u tv cs hm hd s o'/\o'.n=o.n+2/\o'.cb.length=o.cb.length/\o'.rb.length=o.rb.length+8/\o'.qb.length=o.qb.length+8/\(∀ k,bP O o' k->bP O o k\/w.heap.size<=k)/\Fr (bP O o) w w':=by
 obtain⟨l,hl⟩:∃ l,l=hm.rs.map cF:=⟨_,rfl⟩;obtain⟨q,hq⟩:∃ q,q=hm.qs 0++hm.qs 1++hm.qs 2:=⟨_,rfl⟩;obtain⟨now,A2⟩:∃ now,now=hm.now:=⟨_,rfl⟩;have D9:l.length<=1000:=by rw[hl,List.length_map];omega
 have B3:q.length<=1000:=by
  have h0:=hql 0;have h1:=hql 1;have h2:=hql 2;rw[hq];simp;omega
 have A6:Hid (Calls prog 44 #[.pointer (some ⟨S,0,none⟩)] w fun e w'=>∃ a ca c cc,e=.returned (.agg #[.int .i64 now,.slice a l.length ca,.slice c q.length cc])/\er w' w.heap.size a ca l c cc q/\Below w.heap.size w w'):=by
  obtain⟨e1,e2⟩:=L.pp.pubs hM hE hs;refine(Hb S Q M.s s.pv s.drec hd.now hd.last s.dqv hd.qs s.rs w L.pp.d.at' (by rw[e2];omega) (fun d=>by rw[hs.qs];have:=hql d;omega)).mono ?_;rintro e w' ⟨rv,uv,rfl,h1,h2,h3⟩;rw[e1,<- hl,e2,show hm.rs.length=l.length from by rw[hl,List.length_map]]at h1;rw[hs.qs,<- hq]at h2;obtain⟨a,ca,rfl⟩:=bD h1;obtain⟨c,cc,rfl⟩:=bD h2;exact⟨a,ca,c,cc,by rw[hs.now,A2],⟨h1,h2⟩,h3⟩
 have A7:Hid (∀ W:World,FH W H cs hm s.code s.jr s.rv s.qv s.n->Calls prog 45 #[.pointer (some ⟨H,0,none⟩)] W fun e w'=>∃ a ca c cc,e=.returned (.agg #[.int .i64 now,.slice a l.length ca,.slice c q.length cc])/\er w' W.heap.size a ca l c cc q/\Below W.heap.size W w'):=fun W F=>by
  refine(Fk H cs hm s.code s.jr s.rv s.qv s.n W F (by omega)).mono ?_;rintro e w' ⟨rv,uv,rfl,h1,h2,h3⟩;rw[<- hl,show hm.rs.length=l.length from by rw[hl,List.length_map]]at h1;rw[<- hq]at h2;obtain⟨a,ca,rfl⟩:=bD h1;obtain⟨c,cc,rfl⟩:=bD h2;exact⟨a,ca,c,cc,by rw[A2],⟨h1,h2⟩,h3⟩
 have HL:Hid (LK M CB w Pb H S Q O u tv cs hm hd s o):=L;have p0:w.cell? ⟨Pb,0,none⟩=some (.pointer (some ⟨H,0,none⟩)):=(ag L.pp.p).trans rfl;have p1:w.cell? ⟨Pb,1,none⟩=some (.pointer (some ⟨S,0,none⟩)):=(ag L.pp.p).trans rfl;have C8:Hid (M.B0<=w.heap.size):=by have h1:=ak L.pp.p;have h2:=L.pp.pb;show M.B0<=w.heap.size;omega
 clear L hs hE hl hq A2 hql hrl;go_enter func15,ntmps15
 go_wp2_with fail
 refine A6.mono ?_;rintro e w1 ⟨da,A0,dc,A1,rfl,D2,A5⟩;obtain⟨W1,C2⟩:∃ W,W=w1.alloc (.cells #[.int .i64 now,.slice da l.length A0,.slice dc q.length A1] 103):=⟨_,rfl⟩;have E3:=ah C2;have H1:Hid (Below w.heap.size w W1/\er W1 w.heap.size da A0 l dc A1 q/\W1.heap[w1.heap.size]?=some (.cells #[.int .i64 now,.slice da l.length A0,.slice dc q.length A1] 103)/\w.heap.size<=w1.heap.size/\W1.heap.size=w1.heap.size+1):=by
  rw[C2];exact⟨A5.alloc A5.size _,D2.below ((v7 _ _).alloc (v9 _) _),v8 _ _,A5.size,by simp⟩
 have q0:w1.cell? ⟨Pb,0,none⟩=some (.pointer (some ⟨H,0,none⟩)):=(A5.cell (p:=⟨Pb,0,none⟩) (ak HL.pp.p)).trans p0;have E4:Pb<w1.heap.size:=Qh (ak HL.pp.p) A5.size;clear A5 D2 C2 p0 p1 A6;go_wp2_with fail
 rw[<- E3];clear q0 E4;have B7:Hid (LK M CB W1 Pb H S Q O u tv cs hm hd s o):=HL.below hM hCB H1.1;refine(A7 W1 B7.pp.f).mono ?_;rintro e w2 ⟨a2,A3,c2,A4,rfl,D3,C3⟩;have H2:Hid (Below W1.heap.size W1 w2/\er w2 W1.heap.size a2 A3 l c2 A4 q):=⟨C3,D3⟩;have B9:=(C3.block _ (ak H1.2.2.1)).trans H1.2.2.1;obtain⟨b0,b1,b2,_⟩:=lh B9;have D8:w1.heap.size<w2.heap.size:=ak B9;have A8:Hid (∀ V:World,Below w2.heap.size w2 V->Calls prog 46 #[.agg #[.int .i64 now,.slice a2 l.length A3,.slice c2 q.length A4],.agg #[.int .i64 now,.slice da l.length A0,.slice dc q.length A1]] V fun e w'=>e=.returned (.bool true)/\Below V.heap.size V w'):=fun V hV=>by
  have t2:=H2.2.below hV;have t1:=(H1.2.1.below H2.1).below hV;exact uj now l q a2 da A3 A0 c2 dc A4 A1 V (bZ t2.r) (bZ t1.r) (by omega) (bZ t2.m) (bZ t1.m) (by omega)
 clear C3 D3 B9;go_wp2_with fail
 refine(A8 _ ((v7 _ _).alloc (v9 _) _)).mono ?_;rintro e w3 ⟨rfl,C4⟩;have B2:Below w2.heap.size w2 w3:=((v7 _ _).alloc (v9 _) _).trans (C4.mono (by simp));have H3:Hid (Below W1.heap.size W1 w3/\er w3 W1.heap.size a2 A3 l c2 A4 q/\er w3 w.heap.size da A0 l dc A1 q/\w3.heap[w1.heap.size]?=some (.cells #[.int .i64 now,.slice da l.length A0,.slice dc q.length A1] 103)):=
  ⟨H2.1.trans (B2.mono H2.1.size),H2.2.below B2,(H1.2.1.below H2.1).below B2,(B2.block _ D8).trans ((H2.1.block _ (ak H1.2.2.1)).trans H1.2.2.1)⟩
 have E1:w3.heap[w2.heap.size]?=some (.cells #[.int .i64 now,.slice a2 l.length A3,.slice c2 q.length A4] 103):=(C4.block _ (by simp)).trans (v8 _ _);obtain⟨s0,s1,s2,_⟩:=lh E1;have C9:Hid (LK M CB w3 Pb H S Q O u tv cs hm hd s o):=B7.below hM hCB H3.1;clear b0 b1 b2 D8 C4 E1 A8 B2 H2;go_wp2_with fail
 have B4:=H3.1.size;refine(C9.state hM hCB (B:=W1.heap.size) (fun k hk=>B7.lt hk) (by have:=C8.out;have:=H1.1.size;omega) B4 H3.out.2.1 now D9 B3 hn0 (by omega) (by omega) (by omega)).mono ?_;rintro e w4 ⟨rfl,o4,C1,F0,E8,F4,F2,D6,B6⟩;have H4:Hid (LK M CB w4 Pb H S Q O u tv cs hm hd s o4/\(∀ k,bP O o4 k->bP O o k\/W1.heap.size<=k)/\er w4 w.heap.size da A0 l dc A1 q/\w4.heap[w1.heap.size]?=some (.cells #[.int .i64 now,.slice da l.length A0,.slice dc q.length A1] 103)/\Fr (bP O o) w w4):=by
  have E0:∀ k,w.heap.size<=k->k<W1.heap.size->¬ (bP O o k\/(Value.slice a2 l.length A3).ownBlock=some k\/(Value.slice c2 q.length A4).ownBlock=some k):=fun k h1 h2 hz=>by
   rcases hz with hz|hz
   .have:=HL.lt (.inr hz);omega
   .have:=(H3.2.1.lt hz).1;omega
  refine⟨C1,D6,H3.2.2.1.keep fun k hk=>?_,?_,?_⟩
  .have h1:=H1.2.1.lt hk;exact B6.block k (by omega) (E0 k h1.1 h1.2.1)
  .rw[B6.block _ (ak H3.2.2.2) (E0 _ H1.2.2.2.1 (by have:=H1.2.2.2.2;omega))];exact H3.2.2.2
  .have f0:Fr (fun k=>bP O o k\/w.heap.size<=k) w w3:=((Fr.of_below (H1.1.trans (H3.1.mono H1.1.size))).mono fun k _ hk=>.inr hk);have f1:Fr (fun k=>bP O o k\/w.heap.size<=k) w3 w4:=B6.mono fun k _ hk=>by
    rcases hk with hk|hk
    .exact .inl hk
    .have h1:=(H3.2.1.lt hk).1;have h2:=H1.1.size;exact .inr (by omega)
   exact(f0.trans f1).mono fun k hk hs=>by
    rcases hs with h|h
    .exact h
    .omega
 have q0:w4.cell? ⟨Pb,0,none⟩=some (.pointer (some ⟨H,0,none⟩)):=(ag C1.pp.p).trans rfl;clear C1 D6 B6 s0 s1 s2 H3 C9 B4;go_wp2_with fail
 refine(A7 w4 H4.1.pp.f).mono ?_;rintro e w5 ⟨a5,A9,c5,B1,rfl,D4,C5⟩;have H5:Hid (Below w4.heap.size w4 w5/\er w5 w4.heap.size a5 A9 l c5 B1 q):=⟨C5,D4⟩;have C0:=(C5.block _ (ak H4.2.2.2.1)).trans H4.2.2.2.1;obtain⟨b0,b1,b2,_⟩:=lh C0;have E5:w1.heap.size<w5.heap.size:=ak C0;have A8:Hid (∀ V:World,Below w5.heap.size w5 V->Calls prog 46 #[.agg #[.int .i64 now,.slice a5 l.length A9,.slice c5 q.length B1],.agg #[.int .i64 now,.slice da l.length A0,.slice dc q.length A1]] V fun e w'=>e=.returned (.bool true)/\Below V.heap.size V w'):=fun V hV=>by
  have t2:=H5.2.below hV;have t1:=(H4.2.2.1.below H5.1).below hV;exact uj now l q a5 da A9 A0 c5 dc B1 A1 V (bZ t2.r) (bZ t1.r) (by omega) (bZ t2.m) (bZ t1.m) (by omega)
 clear C5 D4 C0 q0;go_wp2_with fail
 refine(A8 _ ((v7 _ _).alloc (v9 _) _)).mono ?_;rintro e w6 ⟨rfl,C6⟩;have B8:Below w5.heap.size w5 w6:=((v7 _ _).alloc (v9 _) _).trans (C6.mono (by simp));have H6:Hid (Below w4.heap.size w4 w6/\er w6 w4.heap.size a5 A9 l c5 B1 q):=⟨H5.1.trans (B8.mono H5.1.size),H5.2.below B8⟩;have E2:w6.heap[w5.heap.size]?=some (.cells #[.int .i64 now,.slice a5 l.length A9,.slice c5 q.length B1] 103):=(C6.block _ (by simp)).trans (v8 _ _);obtain⟨s0,s1,s2,_⟩:=lh E2;have D0:Hid (LK M CB w6 Pb H S Q O u tv cs hm hd s o4):=H4.1.below hM hCB H6.1;clear b0 b1 b2 E5 C6 E2 A8 B8 H5;go_wp2_with fail
 have B5:=H6.1.size;refine(D0.state hM hCB (B:=w4.heap.size) (fun k hk=>H4.1.lt hk) (by have:=C8.out;have:=H4.2.2.2.2.size;omega) B5 H6.out.2 now D9 B3 (by omega) (by omega) (by omega) (by omega)).mono ?_;rintro e w7 ⟨rfl,o7,D1,F1,E9,F5,F3,D7,D5⟩;have H7:Hid (LK M CB w7 Pb H S Q O u tv cs hm hd s o7/\(∀ k,bP O o7 k->bP O o k\/w.heap.size<=k)/\Fr (bP O o) w w7):=by
  have E6:=H4.2.2.2.2.size;have E7:=H1.1.size;refine⟨D1,fun k hk=>?_,?_⟩
  .rcases D7 k hk with h|h
   .rcases H4.2.1 k h with h|h
    .exact .inl h
    .exact .inr (by omega)
   .exact .inr (by omega)
  .have f0:Fr (fun k=>bP O o k\/w.heap.size<=k) w w6:=(H4.2.2.2.2.mono fun k _ hk=>.inl hk).trans ((Fr.of_below H6.1).mono fun k _ hk=>.inr (by omega));have f1:Fr (fun k=>bP O o k\/w.heap.size<=k) w6 w7:=D5.mono fun k _ hk=>by
    rcases hk with hk|hk
    .rcases H4.2.1 k hk with h|h
     .exact .inl h
     .exact .inr (by omega)
    .have h1:=(H6.2.lt hk).1;exact .inr (by omega)
   exact(f0.trans f1).mono fun k hk hs=>by
    rcases hs with h|h
    .exact h
    .omega
 clear D1 D7 D5 s0 s1 s2 H6 D0 B5;go_wp2_with fail
 refine(xf _ O o7.n o7.cv o7.rv o7.qv o7.cb o7.rb o7.qb w7 H7.1.oa (by omega) (by omega) (by omega)).mono ?_;rintro e w8 ⟨rfl,C7⟩;have H8:Hid (LK M CB w8 Pb H S Q O u tv cs hm hd s o7/\Fr (bP O o) w w8):=⟨H7.1.below hM hCB (C7.below _),H7.2.2.trans ((Fr.of_below (C7.below w7.heap.size)).mono fun k hk hs=>by omega)⟩;clear C7;go_wp2_with fail
 go_ret;exact⟨rfl,o7,H8.1,by omega,by omega,by omega,by omega,H7.out.2.1,H8.out.2⟩
theorem sE {B0:Nat}{w w':World}{Z:Nat->Prop}(hf:Fr Z w w')(hz:∀ k,k<w.heap.size->Z k->B0<=k)(hB:B0<=w.heap.size):Below B0 w w':=
 Fr.below (hf.mono fun k hk hz'=>hz k hk hz') hB
structure yC {RT:Type}(M:aV RT)(G:RT->Prop)(ρ:RT->Pr->Prop)(cs:List am)(i:Nat)(hm':az Pr)(hd':az RT):Prop where
 same:ay ρ hd' hm'
 okd:cC M.E G (50000000*(i+1:Nat)) hd'
 okm:cC (aE cs) (im cs) (50000000*(i+1:Nat)) hm'
 qs:bR hm'
 last:hm'.last<=(i+1:Nat)
theorem rZ {S:Nat->Prop}{w w1:World}(h:Fr S w w1){X:Nat}(hX:S X)(u0 u1 u2 u3:Value):Fr S w ((((w1.setCell ⟨X,0,none⟩ u0).setCell ⟨X,1,none⟩ u1).setCell ⟨X,2,none⟩ u2).setCell ⟨X,3,none⟩ u3):=
 (((h.setCell ⟨X,0,none⟩ (.inl hX) _).setCell ⟨X,1,none⟩ (.inl hX) _).setCell ⟨X,2,none⟩ (.inl hX) _).setCell ⟨X,3,none⟩ (.inl hX) _
theorem vy {w1:World}{X:Nat}{t:TypeId}{z0 z1 z2 z3:Value}(h:w1.heap[X]?=some (.cells #[z0,z1,z2,z3] t (0,0)))(u0 u1 u2 u3:Value):((((w1.setCell ⟨X,0,none⟩ u0).setCell ⟨X,1,none⟩ u1).setCell ⟨X,2,none⟩ u2).setCell ⟨X,3,none⟩ u3).heap[X]?=some (.cells #[u0,u1,u2,u3] t (0,0)):=by
 have a1:=cG (j:=0) u0 h;have a2:=cG (j:=1) u1 a1;have a3:=cG (j:=2) u2 a2;have a4:=cG (j:=3) u3 a3;rw[a4];rfl
structure HS where
 code:Value
 jr:Value
 rv:Value
 qv:Nat->Value
 n:Nat
def HS.own (s:HS)(H k:Nat):Prop:=fX H s.code s.jr s.rv s.qv k
structure GA (cs:List am)(i:Nat)(h:az Pr)(w:World)(H:Nat)(s:HS):Prop where
 fh:FH w H cs h s.code s.jr s.rv s.qv s.n
 n:s.n<=19*i
 snd:em cs=true
 ok:cC (aE cs) (im cs) (50000000*i) h
 qs:bR h
 last:h.last<=i
theorem GA.eng {cs:List am}{i:Nat}{h:az Pr}{w:World}{H:Nat}{s:HS}(g:GA cs i h w H s):dl (aE cs) (im cs):=(wX g.snd).same (vP g.snd) (fun _ _=>rfl)
theorem GA.mok {cs:List am}{i:Nat}{h:az Pr}{w:World}{H:Nat}{s:HS}(g:GA cs i h w H s)(hi:i<=2000000):jI cs (50000000*i) h:=
 ⟨g.snd,g.eng,g.ok,g.qs,by omega,by have:=g.last;omega⟩
theorem GA.keep {cs:List am}{i:Nat}{h:az Pr}{w w':World}{H:Nat}{s:HS}(g:GA cs i h w H s)(hk:∀ k,s.own H k->w'.heap[k]?=w.heap[k]?):GA cs i h w' H s:=⟨g.fh.keep hk,g.n,g.snd,g.ok,g.qs,g.last⟩
theorem GA.lt {cs:List am}{i:Nat}{h:az Pr}{w:World}{H:Nat}{s:HS}(g:GA cs i h w H s){k:Nat}(hk:s.own H k):k<w.heap.size:=g.fh.lt hk
theorem GA.new {cs:List am}{w:World}{H:Nat}{v:Value}(hs:em cs=true)(hH:w.heap[H]?=some (.cells (ll v) 114))(hv:w.ownsRow 0 91 4 v cs.length (aZ cs)):GA cs 0 dM w H ⟨v,.slice none 0 0,.slice none 0 0,fun _=>.slice none 0 0,0⟩:=
 ⟨⟨⟨⟨hH,fun d _=>Qg _ _ _ _,fun d _=>by simp[dM],fun d e b _ _ hb=>(by cases hb),Qg _ _ _ _,fun p hp=>(by simp[dM]at hp)⟩,hv⟩,[],rfl,Qg _ _ _ _⟩,Qa _,hs,(cC.new _ _).mono (by simp),bR.new,by simp[dM]⟩
def cI (f:Int)(J:List Nat)(c:Nat)(a b:Int):List Nat:=if f=0 then J++eR c a b else J
theorem oC (J:List Nat):(eg J).length=J.length:=List.length_map ..
structure FJ (w:World)(H:Nat)(cs:List am)(h:az Pr)(code rec rv:Value)(qv:Nat->Value)(J:List Nat):Prop where
 m:MH w H code rec cs h rv qv
 r:w.ownsRow 0 5 1 rec J.length (dt (eg J))
theorem FJ.fh {w:World}{H:Nat}{cs:List am}{h:az Pr}{code rec rv:Value}{qv:Nat->Value}{J:List Nat}(F:FJ w H cs h code rec rv qv J):FH w H cs h code rec rv qv J.length:=⟨F.m,eg J,oC J,F.r⟩
structure bF (w w':World)(H:Nat)(cs:List am)(h:az Pr)(code rec rv:Value)(qv:Nat->Value)(J:List Nat):Prop where
 ex:∃ rec' rv' qv',FJ w' H cs h code rec' rv' qv' J/\∀ k,fX H code rec' rv' qv' k->fX H code rec rv qv k\/w.heap.size<=k
 fr:Fr (fX H code rec rv qv) w w'
theorem FJ.rec_keep {w w1:World}{H:Nat}{cs:List am}{h:az Pr}{code rec rv:Value}{qv:Nat->Value}{J:List Nat}(F:FJ w H cs h code rec rv qv J)(hf:Fr (bQ H rv qv) w w1):w1.ownsRow 0 5 1 rec J.length (dt (eg J)):=by
 refine aT F.r fun b hb=>?_;obtain⟨c,hc⟩:=ax F.r hb;refine hf.block b (ak hc) fun ho=>?_;obtain⟨c2,t,A0,ht⟩:=F.m.at'.sort ho;rcases ht with rfl|rfl|rfl;iterate 3
  .exact aA hc A0 (by decide) rfl
theorem bF.of_m {w w1:World}{H:Nat}{cs:List am}{h h1:az Pr}{code rec rv:Value}{qv:Nat->Value}{J:List Nat}(F:FJ w H cs h code rec rv qv J)(ho:bf w w1 H code rec cs h1 rv qv):bF w w1 H cs h1 code rec rv qv J:=by
 obtain⟨⟨A1,A0,h2,h3⟩,h4⟩:=ho;refine⟨⟨rec,A1,A0,⟨h2,F.rec_keep h4⟩,fun k hk=>?_⟩,h4.mono fun k _ hk=>.inl hk⟩;rcases hk with hk|hk
 .rcases h3 k hk with h|h
  .exact .inl (.inl h)
  .exact .inr h
 .exact .inl (.inr hk)
theorem bF.trans {w w1 w2:World}{H:Nat}{cs:List am}{h1:az Pr}{code rec rv rec1 rv1:Value}{qv qv1:Nat->Value}{J:List Nat}(ho:∀ k,fX H code rec1 rv1 qv1 k->fX H code rec rv qv k\/w.heap.size<=k)(hf:Fr (fX H code rec rv qv) w w1)(h2:bF w1 w2 H cs h1 code rec1 rv1 qv1 J):bF w w2 H cs h1 code rec rv qv J:=by
 obtain⟨⟨A0,A2,A1,a2,a3⟩,a4⟩:=h2;refine⟨⟨A0,A2,A1,a2,fun k hk=>?_⟩,?_⟩
 .rcases a3 k hk with h|h
  .exact ho k h
  .exact .inr (Qc hf.size h)
 .have f1:Fr (fun k=>fX H code rec rv qv k\/w.heap.size<=k) w w1:=hf.mono fun k _ hk=>.inl hk;have f2:Fr (fun k=>fX H code rec rv qv k\/w.heap.size<=k) w1 w2:=a4.mono fun k _ hk=>ho k hk;exact(f1.trans f2).mono fun k hk hs=>by
   rcases hs with h|h
   .exact h
   .omega
theorem FJ.below {w w1:World}{H:Nat}{cs:List am}{h:az Pr}{code rec rv:Value}{qv:Nat->Value}{J:List Nat}(F:FJ w H cs h code rec rv qv J)(hb:Below w.heap.size w w1):FJ w1 H cs h code rec rv qv J:=by
 have hf:Fr (bQ H rv qv) w w1:=(Fr.of_below hb).mono fun k hk hs=>by omega
 exact⟨⟨F.m.at'.below hb,F.m.at'.code hf F.m.cd⟩,F.rec_keep hf⟩
theorem bF.below {w w1:World}{H:Nat}{cs:List am}{h:az Pr}{code rec rv:Value}{qv:Nat->Value}{J:List Nat}(F:FJ w H cs h code rec rv qv J)(hb:Below w.heap.size w w1):bF w w1 H cs h code rec rv qv J:=
 ⟨⟨rec,rv,qv,F.below hb,fun _ hk=>.inl hk⟩,(Fr.of_below hb).mono fun k hk hs=>by omega⟩
theorem CM (H:Nat)(cs:List am)(h:az Pr)(code rec rv:Value)(qv:Nat->Value)(J:List Nat)(c:Nat)(hc:c<256)(a b:Int)(w:World)(F0:FJ w H cs h code rec rv qv J)(hn:J.length<=90000000):
  Calls prog 64 #[.pointer (some ⟨H,0,none⟩),.int .i64 0,.agg #[.int .u8 (c:Nat),.int .i64 a,.int .i64 b]] w fun e w'=>e=.returned (.tuple #[])/\bF w w' H cs h code rec rv qv (J++eR c a b):=by
 have F:=F0.fh;have A7:=F0.r;obtain⟨xs,A8⟩:∃ xs,xs=eg J:=⟨_,rfl⟩;obtain⟨n,A4⟩:∃ n,n=J.length:=⟨_,rfl⟩;have C1:xs.length=n:=by rw[A8,A4,oC]
 rw[<- A8,<- A4]at A7;rw[<- A4]at F hn;have B9:Hid (xs=eg J/\n=J.length):=⟨A8,A4⟩;obtain⟨ra,rc,B5⟩:=bD A7;have HF:Hid (FH w H cs h code rec rv qv n):=F;have A6:=ah B5;have C6:=ah C1;have HW:Hid (∀ W:World,Calls prog 94 #[.agg #[.int .u8 (c:Nat),.int .i64 a,.int .i64 b]] W fun e w'=>∃ v,e=.returned v/\w'.ownsRow W.heap.size 5 1 v 19 (dt (eg (eR c a b)))/\Below W.heap.size W w'):=fun W=>xP c hc a b W;have B8:Hid (w.ownsRow 0 5 1 (.slice ra n rc) n (dt xs)):=by rw[<- B5];exact A7
 clear F F0 A7 B5 C1 A8 A4 hc;go_enter func64,ntmps64
 go_wp2_with fail
 refine(HW _).mono ?_;rintro e w1 ⟨v,rfl,A9,C0⟩;obtain⟨ys,B0⟩:∃ ys,ys=eg (eR c a b):=⟨_,rfl⟩;rw[<- B0]at A9;have C2:ys.length=19:=by rw[B0,oC,qw]
 have C3:=ah B0;clear B0;obtain⟨va,vc,hv⟩:=bD A9;subst hv;have A5:Hid (Below w.heap.size w w1):=((v7 _ _).alloc (v9 _) _).trans (C0.mono (by simp));have HS:Hid (jo w1 va 19 (dt ys)/\ys.length=19):=⟨sZ (bZ A9),C2⟩;have A1:Hid (FH w1 H cs h code rec rv qv n):=HF.below A5;have B7:Hid (w1.ownsRow 0 5 1 (.slice ra n rc) n (dt xs)):=aT B8 fun k hk=>by obtain⟨c,hc⟩:=ax B8 hk;exact A5.block k (ak hc)
 have c7:w1.cell? ⟨H,7,none⟩=some (.slice ra n rc):=by rw[<- A6];exact(ag A1.m.at'.blk).trans rfl
 clear A9 C0 C2;go_wp2_with (at_builtin;refine ly _ rfl (.tmp 15) (.tmp 16) 80 rfl 5 _ 1 1 underlying80 Tryz.infoByte rfl (by decide) (by decide) (.slice ra n rc) n (dt xs) va 19 vc (dt ys) (by rfl) (by exact B7) (by rfl) HS.out.1 (by rw[rx,HS.out.2]) (ry _) (by omega) ?_)
 intro v2 w2 hown2 ha2;have B6:∀ {k:Nat} {c:Array Value} {t:TypeId},w1.heap[k]?=some (.cells c t (0,0))->t≠5->w2.heap[k]?=w1.heap[k]?:=fun {k c t} hk ht=>by
  rcases ha2 with ⟨g,cap,e1,_,hg⟩|⟨_,hg⟩
  .refine hg.block k (ak hk) fun e=>?_;obtain⟨c2,C4⟩:=ax B7 (k:=k) (by rw[e1];exact e.symm);exact aA hk C4 ht rfl
  .exact hg.block k (ak hk) (by simp)
 have A2:=(B6 A1.m.at'.blk (by decide)).trans A1.m.at'.blk;have d7:w2.cell? ⟨H,7,none⟩=some (.slice ra n rc):=by rw[<- A6];exact(ag A2).trans rfl
 have y7:w2.frozen? ⟨H,7,none⟩=false:=aC A2;obtain⟨a2,A0,C5⟩:=bD hown2;subst C5;have B1:Hid (bF w (w2.setCell ⟨H,7,none⟩ (.slice a2 (n+19) A0)) H cs h code rec rv qv (J++eR c a b)):=by
  have B3:(J++eR c a b).length=n+19:=by rw[List.length_append,qw,B9.2]
  have A3:eg (J++eR c a b)=xs++ys:=by rw[rq,B9.1,C3]
  have B2:∀ {k:Nat} {c:Array Value} {t:TypeId},w1.heap[k]?=some (.cells c t (0,0))->t≠5->t≠114->(w2.setCell ⟨H,7,none⟩ (.slice a2 (n+19) A0)).heap[k]?=w1.heap[k]?:=fun {k c t} hk h1 h2=>by
   rw[q8 _ _ _ _ (aA hk A1.m.at'.blk h2)];exact B6 hk h1
  have hA:=A1.m.at';have B4:∀ b,(Value.slice a2 (n+19) A0).ownBlock=some b->rec.ownBlock=some b\/w.heap.size<=b:=fun b hb=>by
   rcases ha2 with ⟨g,cap,e1,e2,hg⟩|⟨hnw,hg⟩
   .rw[e2]at hb;left;rw[A6,e1];exact hb
   .exact .inr (Qc A5.size (hnw b hb))
  refine⟨⟨.slice a2 (n+19) A0,rv,qv,⟨⟨⟨?_,fun d hd=>aT (hA.oB d hd) fun b hb=>?_,hA.ql,hA.dis,aT hA.rB fun b hb=>?_,hA.rl⟩,aT A1.m.cd fun b hb=>?_⟩,?_⟩,fun k hk=>?_⟩,?_⟩
  .rw[cG _ A2];rfl
  .obtain⟨c,hc⟩:=ax (hA.oB d hd) hb;exact B2 hc (by decide) (by decide)
  .obtain⟨c,hc⟩:=ax hA.rB hb;exact B2 hc (by decide) (by decide)
  .obtain⟨c,hc⟩:=ax A1.m.cd hb;exact B2 hc (by decide) (by decide)
  .rw[B3,A3,oh];refine aT hown2 fun b hb=>?_;obtain⟨c,hc⟩:=ax hown2 hb;exact q8 _ _ _ _ (aA hc A2 (by decide))
  .rcases hk with hk|hk|hk
   .exact .inl (.inl hk)
   .rcases B4 k hk with h|h
    .exact .inl (.inr (.inl h))
    .exact .inr h
   .exact .inl (.inr (.inr hk))
  .have f1:Fr (fX H code rec rv qv) w w1:=(Fr.of_below A5).mono fun k hk hs=>by omega
   have f2:Fr (fX H code rec rv qv) w1 w2:=by
    rcases ha2 with ⟨g,cap,e1,_,hg⟩|⟨_,hg⟩
    .exact(Fr.refl _ _).grown hg fun k hk=>.inl (.inr (.inl (by rw[A6,e1];exact hk)))
    .exact(Fr.refl _ _).grown hg fun k hk=>by cases hk
   exact(f1.trans f2).setCell ⟨H,7,none⟩ (.inl (.inl (.inl rfl))) _
 clear hown2 ha2 B6 A2;go_wp2_with fail
 go_end0;exact⟨rfl,B1⟩
theorem vS (H:Nat)(cs:List am)(h:az Pr)(code rec rv:Value)(qv:Nat->Value)(J:List Nat)(f:Int)(c:Nat)(hc:c<256)(a b:Int)(w:World)(F:FJ w H cs h code rec rv qv J)(hn:J.length<=90000000):
  Calls prog 64 #[.pointer (some ⟨H,0,none⟩),.int .i64 f,.agg #[.int .u8 (c:Nat),.int .i64 a,.int .i64 b]] w fun e w'=>e=.returned (.tuple #[])/\bF w w' H cs h code rec rv qv (cI f J c a b):=by
 by_cases hf:f=0
 .subst hf;have e:cI 0 J c a b=J++eR c a b:=if_pos rfl;rw[e];exact CM H cs h code rec rv qv J c hc a b w F hn
 .have e:cI f J c a b=J:=if_neg hf;rw[e];refine(FR H f c a b w hf).mono ?_;rintro e w' ⟨rfl,hb⟩;exact⟨rfl,bF.below F hb⟩
theorem qK {w w1:World}{H:Nat}{cs:List am}{h h1:az Pr}{code rec rv:Value}{qv:Nat->Value}{J:List Nat}(F:FJ w H cs h code rec rv qv J)(hn:J.length<=90000000)(ho:bf w w1 H code rec cs h1 rv qv)(f:Int)(c:Nat)(hc:c<256)(a b:Int):
  Calls prog 64 #[.pointer (some ⟨H,0,none⟩),.int .i64 f,.agg #[.int .u8 (c:Nat),.int .i64 a,.int .i64 b]] w1 fun e w'=>e=.returned (.tuple #[])/\bF w w' H cs h1 code rec rv qv (cI f J c a b):=by
 obtain⟨⟨A0,A2,A1,h3,h4⟩,h5⟩:=bF.of_m F ho;refine(vS H cs h1 code A0 A2 A1 J f c hc a b w1 h3 hn).mono ?_;rintro e w' ⟨rfl,hO⟩;exact⟨rfl,bF.trans h4 h5 hO⟩
theorem Dr (H:Nat)(cs:List am)(h:az Pr)(code rec rv:Value)(qv:Nat->Value)(J:List Nat)(dev C:Int)(w:World)(F:FJ w H cs h code rec rv qv J)(hk:jI cs C h)(hn:J.length<=90000000):
  Calls prog 34 #[.pointer (some ⟨H,0,none⟩),.int .i64 dev] w fun e w'=>e=.returned (.tuple #[.int .i64 (cP (aE cs) h dev).1,.int .i64 (cP (aE cs) h dev).2.1])/\bF w w' H cs (cP (aE cs) h dev).2.2 code rec rv qv (cI (cP (aE cs) h dev).2.1 J 84 dev 0):=by
 have HM:Hid (Calls prog 63 #[.pointer (some ⟨H,0,none⟩),.int .i64 dev] w fun e w'=>e=.returned (.tuple #[.int .i64 (cP (aE cs) h dev).1,.int .i64 (cP (aE cs) h dev).2.1])/\bf w w' H code rec cs (cP (aE cs) h dev).2.2 rv qv):=CI H code rec cs h rv qv dev C w F.m hk;have HF:Hid (FJ w H cs h code rec rv qv J):=F;clear F hk;generalize cP (aE cs) h dev=T at *;go_enter func34,ntmps34
 go_wp2_with fail
 refine HM.mono ?_;rintro e w1 ⟨rfl,ho⟩;have HN:Hid (Calls prog 64 #[.pointer (some ⟨H,0,none⟩),.int .i64 T.2.1,.agg #[.int .u8 84,.int .i64 dev,.int .i64 0]] w1 fun e w'=>e=.returned (.tuple #[])/\bF w w' H cs T.2.2 code rec rv qv (cI T.2.1 J 84 dev 0)):=qK HF hn ho _ 84 (by decide) _ _;clear ho HM;go_wp2_with fail
 refine HN.mono ?_;rintro e w2 ⟨rfl,ho⟩;have HO:=ah ho;clear ho HN;go_wp2_with fail
 go_ret2;exact⟨rfl,HO⟩
theorem Fl (H:Nat)(cs:List am)(h:az Pr)(code rec rv:Value)(qv:Nat->Value)(J:List Nat)(t C:Int)(w:World)(F:FJ w H cs h code rec rv qv J)(hk:jI cs C h)(hn:J.length<=90000000):
  Calls prog 36 #[.pointer (some ⟨H,0,none⟩),.int .i64 t] w fun e w'=>e=.returned (.int .i64 (dU (aE cs) h t).1)/\bF w w' H cs (dU (aE cs) h t).2 code rec rv qv (cI (dU (aE cs) h t).1 J 75 t 0):=by
 have HM:Hid (Calls prog 69 #[.pointer (some ⟨H,0,none⟩),.int .i64 t] w fun e w'=>e=.returned (.int .i64 (dU (aE cs) h t).1)/\bf w w' H code rec cs (dU (aE cs) h t).2 rv qv):=GS H code rec cs h rv qv t C w F.m hk;have HF:Hid (FJ w H cs h code rec rv qv J):=F;clear F hk;generalize dU (aE cs) h t=T at *;go_enter func36,ntmps36
 go_wp2_with fail
 refine HM.mono ?_;rintro e w1 ⟨rfl,ho⟩;have HN:Hid (Calls prog 64 #[.pointer (some ⟨H,0,none⟩),.int .i64 T.1,.agg #[.int .u8 75,.int .i64 t,.int .i64 0]] w1 fun e w'=>e=.returned (.tuple #[])/\bF w w' H cs T.2 code rec rv qv (cI T.1 J 75 t 0)):=qK HF hn ho _ 75 (by decide) _ _;clear ho HM;go_wp2_with fail
 refine HN.mono ?_;rintro e w2 ⟨rfl,ho⟩;have HO:=ah ho;clear ho HN;go_wp2_with fail
 go_ret;exact⟨rfl,HO⟩
theorem Gx (H:Nat)(cs:List am)(h:az Pr)(code rec rv:Value)(qv:Nat->Value)(J:List Nat)(id num C:Int)(w:World)(F:FJ w H cs h code rec rv qv J)(hk:jI cs C h)(hn:J.length<=90000000):
  Calls prog 38 #[.pointer (some ⟨H,0,none⟩),.int .i64 id,.int .i64 num] w fun e w'=>e=.returned (.int .i64 (di (aE cs) h id num).1)/\bF w w' H cs (di (aE cs) h id num).2 code rec rv qv (cI (di (aE cs) h id num).1 J 65 id num):=by
 have HM:Hid (Calls prog 72 #[.pointer (some ⟨H,0,none⟩),.int .i64 id,.int .i64 num] w fun e w'=>e=.returned (.int .i64 (di (aE cs) h id num).1)/\bf w w' H code rec cs (di (aE cs) h id num).2 rv qv):=Gy H code rec cs h rv qv id num C w F.m hk;have HF:Hid (FJ w H cs h code rec rv qv J):=F;clear F hk;generalize di (aE cs) h id num=T at *;go_enter func38,ntmps38
 go_wp2_with fail
 refine HM.mono ?_;rintro e w1 ⟨rfl,ho⟩;have HN:Hid (Calls prog 64 #[.pointer (some ⟨H,0,none⟩),.int .i64 T.1,.agg #[.int .u8 65,.int .i64 id,.int .i64 num]] w1 fun e w'=>e=.returned (.tuple #[])/\bF w w' H cs T.2 code rec rv qv (cI T.1 J 65 id num)):=qK HF hn ho _ 65 (by decide) _ _;clear ho HM;go_wp2_with fail
 refine HN.mono ?_;rintro e w2 ⟨rfl,ho⟩;have HO:=ah ho;clear ho HN;go_wp2_with fail
 go_ret;exact⟨rfl,HO⟩
theorem DR (H:Nat)(cs:List am)(h:az Pr)(code rec rv:Value)(qv:Nat->Value)(J:List Nat)(id C:Int)(w:World)(F:FJ w H cs h code rec rv qv J)(hk:jI cs C h)(hn:J.length<=90000000):
  Calls prog 40 #[.pointer (some ⟨H,0,none⟩),.int .i64 id] w fun e w'=>e=.returned (.int .i64 (dH (aE cs) h id).1)/\bF w w' H cs (dH (aE cs) h id).2 code rec rv qv (cI (dH (aE cs) h id).1 J 67 id 0):=by
 have HM:Hid (Calls prog 75 #[.pointer (some ⟨H,0,none⟩),.int .i64 id] w fun e w'=>e=.returned (.int .i64 (dH (aE cs) h id).1)/\bf w w' H code rec cs (dH (aE cs) h id).2 rv qv):=DY H code rec cs h rv qv id C w F.m hk;have HF:Hid (FJ w H cs h code rec rv qv J):=F;clear F hk;generalize dH (aE cs) h id=T at *;go_enter func40,ntmps40
 go_wp2_with fail
 refine HM.mono ?_;rintro e w1 ⟨rfl,ho⟩;have HN:Hid (Calls prog 64 #[.pointer (some ⟨H,0,none⟩),.int .i64 T.1,.agg #[.int .u8 67,.int .i64 id,.int .i64 0]] w1 fun e w'=>e=.returned (.tuple #[])/\bF w w' H cs T.2 code rec rv qv (cI T.1 J 67 id 0)):=qK HF hn ho _ 67 (by decide) _ _;clear ho HM;go_wp2_with fail
 refine HN.mono ?_;rintro e w2 ⟨rfl,ho⟩;have HO:=ah ho;clear ho HN;go_wp2_with fail
 go_ret;exact⟨rfl,HO⟩
theorem FJ.keep {w w1:World}{H:Nat}{cs:List am}{h:az Pr}{code rec rv:Value}{qv:Nat->Value}{J:List Nat}(F:FJ w H cs h code rec rv qv J)(hk:∀ k,fX H code rec rv qv k->w1.heap[k]?=w.heap[k]?):FJ w1 H cs h code rec rv qv J:=
 ⟨⟨F.m.at'.keep fun k hk'=>hk k (.inl hk'),aT F.m.cd fun b hb=>hk b (.inr (.inr hb))⟩,aT F.r fun b hb=>hk b (.inr (.inl hb))⟩
theorem FJ.lt {w:World}{H:Nat}{cs:List am}{h:az Pr}{code rec rv:Value}{qv:Nat->Value}{J:List Nat}(F:FJ w H cs h code rec rv qv J){k:Nat}(hk:fX H code rec rv qv k):k<w.heap.size:=F.fh.lt hk
theorem FG (H:Nat)(cs:List am)(h:az Pr)(code rec rv:Value)(qv:Nat->Value)(J:List Nat)(dev C:Int)(w:World)(F:FJ w H cs h code rec rv qv J)(hk:jI cs C h)(hn:J.length<=90000000):
  Calls prog 42 #[.pointer (some ⟨H,0,none⟩),.int .i64 dev] w fun e w'=>e=.returned (.tuple #[iN (cU h dev).1,.int .i64 (cU h dev).2.1])/\bF w w' H cs (cU h dev).2.2 code rec rv qv (cI (cU h dev).2.1 J 68 dev 0):=by
 have HM:Hid (∀ ob,Calls prog 78 #[.pointer (some ⟨H,0,none⟩),.int .i64 dev] (w.alloc ob) fun e w'=>e=.returned (.tuple #[iN (cU h dev).1,.int .i64 (cU h dev).2.1])/\bf (w.alloc ob) w' H code rec cs (cU h dev).2.2 rv qv):=fun ob=>FK H code rec cs h rv qv dev C (w.alloc ob) (F.below ((v7 _ _).alloc (v9 _) _)).m hk;have HF:Hid (∀ ob,FJ (w.alloc ob) H cs h code rec rv qv J):=fun ob=>F.below ((v7 _ _).alloc (v9 _) _);have A3:Hid (FJ w H cs h code rec rv qv J):=F;clear F hk;generalize cU h dev=T at *;obtain⟨m,f,h1⟩:=T;have A8:iN m=.agg #[.int .i64 m.dev,.int .i64 m.run,.int .i64 m.num,.int .i64 m.key]:=rfl;simp only[A8]at *;clear A8;go_enter func42,ntmps42
 go_wp2_with fail
 refine(HM _).mono ?_;rintro e w1 ⟨rfl,ho⟩;obtain⟨W,hW⟩:∃ W,W=w.alloc (.cells #[.int .i64 0,.int .i64 0,.int .i64 0,.int .i64 0] 87):=⟨_,rfl⟩;rw[<- hW]at ho;have B0:W.heap.size=w.heap.size+1:=by rw[hW];simp
 have A9:W.heap[w.heap.size]?=some (.cells #[.int .i64 0,.int .i64 0,.int .i64 0,.int .i64 0] 87):=by rw[hW];exact v8 _ _
 have A4:Hid (bF W w1 H cs h1 code rec rv qv J):=bF.of_m (by rw[hW];exact HF _) ho;have A5:Hid (W.heap.size=w.heap.size+1/\(∀ k,k<w.heap.size->W.heap[k]?=w.heap[k]?)/\Fr (fX H code rec rv qv) w W):=by
  refine⟨B0,fun k hk=>by rw[hW];exact q9 _ _ _ hk,?_⟩;rw[hW];exact(Fr.refl _ _).alloc _
 have A6:w1.heap[w.heap.size]?=some (.cells #[.int .i64 0,.int .i64 0,.int .i64 0,.int .i64 0] 87):=by
  rw[A4.fr.block _ (by omega) (fun hk=>by have:=A3.out.lt hk;omega)];exact A9
 have HN:Hid (∀ ob,Calls prog 64 #[.pointer (some ⟨H,0,none⟩),.int .i64 f,.agg #[.int .u8 68,.int .i64 dev,.int .i64 0]] (w1.alloc ob) fun e w'=>e=.returned (.tuple #[])/\bF W w' H cs h1 code rec rv qv (cI f J 68 dev 0)/\w'.heap[w1.heap.size]?=some ob/\w'.heap[w.heap.size]?=some (.cells #[.int .i64 0,.int .i64 0,.int .i64 0,.int .i64 0] 87)):=fun ob=>by
  obtain⟨⟨A0,A2,A1,h3,h4⟩,h5⟩:=A4;have hb:Below w1.heap.size w1 (w1.alloc ob):=(v7 _ _).alloc (v9 _) _;refine(vS H cs h1 code A0 A2 A1 J f 68 (by decide) dev 0 (w1.alloc ob) (h3.below hb) hn).mono ?_;rintro e w' ⟨rfl,hO⟩;refine⟨rfl,bF.trans h4 (h5.alloc _) hO,?_,?_⟩
  .rw[hO.fr.block _ (by simp) (fun hk=>by have:=h3.lt hk;omega)];exact v8 _ _
  .have B2:w.heap.size<w1.heap.size:=ak A6;rw[hO.fr.block _ (by simp;omega) (fun hk=>by
    rcases h4 _ hk with h|h
    .have:=A3.lt h;omega
    .omega),q9 _ _ _ B2]
   exact A6
 clear ho HM hW B0 A9 A4 A6;go_wp2_with fail
 refine(HN _).mono ?_;rintro e w2 ⟨rfl,ho,B1,A7⟩;obtain⟨r0,r1,r2,r3,y0,y1,y2,y3⟩:=nM A7;obtain⟨s0,s1,s2,s3,_⟩:=nM B1;have B3:w.heap.size<w2.heap.size:=ak A7;have HO:=ah ho;clear ho HN B1 A7;go_wp2_with fail
 refine bodyPost_ret (v:=.tuple #[.agg #[.int .i64 m.dev,.int .i64 m.run,.int .i64 m.num,.int .i64 m.key],.int .i64 f]) (by simp[results,results42,go_sem,r0,r1,r2,r3]) rfl ⟨rfl,?_⟩;obtain⟨⟨A0,A2,A1,h3,h4⟩,h5⟩:=HO;have B4:∀ k,fX H code A0 A2 A1 k->k≠w.heap.size:=fun k hk=>by
  rcases h4 k hk with h|h
  .have:=A3.lt h;omega
  .have:=A5.1;omega
 refine⟨⟨A0,A2,A1,h3.keep fun k hk=>?_,fun k hk=>?_⟩,?_⟩
 .have:=B4 k hk;rw[q8 _ _ _ _ this,q8 _ _ _ _ this,q8 _ _ _ _ this,q8 _ _ _ _ this]
 .rcases h4 k hk with h|h
  .exact .inl h
  .exact .inr (by have:=A5.1;omega)
 .have hw:w.heap.size<=(⟨w.heap.size,0,none⟩:Addr).block:=v9 _;have f0:Fr (fX H code rec rv qv) w w2:=A5.2.2.trans h5;exact(((f0.setCell ⟨w.heap.size,0,none⟩ (.inr hw) _).setCell ⟨w.heap.size,1,none⟩ (.inr hw) _).setCell ⟨w.heap.size,2,none⟩ (.inr hw) _).setCell ⟨w.heap.size,3,none⟩ (.inr hw) _
end Go.Proofs.YtmmmnghiegajmaaGreat
