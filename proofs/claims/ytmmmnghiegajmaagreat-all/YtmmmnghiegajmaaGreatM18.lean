import Derived.Test.YtmmmnghiegajmaaGreatM12
import Derived.Deep.LoopGhost
set_option maxHeartbeats 4000000
open Go.RowKit Go.Proofs.Herald Go.Proofs.Tryz
namespace Go.Proofs.YtmmmnghiegajmaaGreat
def kJ (rs:List Rs):List (Nat×Int):=rs.map fun x=>(x.P,x.p.til)
theorem Ex (en:Int):∀ (rs:List Rs) (o:Option Rs),(kJ rs).foldl (lf en) (o.map fun x=>(x.P,x.p.til))=(rs.foldl (fA lm en) o).map fun x=>(x.P,x.p.til):=by
 intro rs;induction rs with
 | nil=>intro o;rfl
 | cons x rs ih=>
  intro o;have e:lf en (o.map fun x=>(x.P,x.p.til)) (x.P,x.p.til)=(fA lm en o x).map fun x=>(x.P,x.p.til):=by
   unfold lf fA;have e1:(lm.pub x).til=x.p.til:=rfl;rw[e1];simp only;split
   .cases o with
    | none=>rfl
    | some b=>
     have e2:(lm.pub b).til=b.p.til:=rfl;simp only[Option.map_some,e2];split <;> rfl
   .rfl
  simp only[kJ,List.map_cons,List.foldl_cons]at ih ⊢;rw[e];exact ih _
theorem DM {RT:Type}{M:aV RT}(hM:bw M){w:World}(en:Int){rs:List Rs}{l:List RT}(h:fB (M.link w) rs l):
  (ju en (kJ rs)=none/\iM M.E en l=none)\/∃ x r,x∈rs/\ju en (kJ rs)=some (x.P,x.p.til)/\iM M.E en l=some r/\M.link w x r:=by
 have hp:∀ a b,M.link w a b->lm.pub a=M.E.pub b:=fun a b hab=>(hM.pub w a b hab).symm;have h1:=sy hp en h (o:=none) (o':=none) trivial;have h2:=Ex en rs none;have h3:ju en (kJ rs)=(rs.foldl (fA lm en) none).map fun x=>(x.P,x.p.til):=h2;rw[h3];unfold iM;cases hm:rs.foldl (fA lm en) none with
 | none=>
  rw[hm]at h1;cases hl:l.foldl (fA M.E en) none with
  | none=>exact .inl ⟨rfl,rfl⟩
  | some y=>rw[hl]at h1;exact h1.elim
 | some x=>
  rw[hm]at h1;cases hl:l.foldl (fA M.E en) none with
  | none=>rw[hl]at h1;exact h1.elim
  | some y=>
   rw[hl]at h1;have hx:x∈rs:=(nD (E:=lm) (en:=en) (l:=rs) hm).1;exact .inr ⟨x,y,hx,rfl,rfl,h1⟩
theorem bO.setNow {RT:Type}{M:aV RT}(hM:bw M){w:World}{S Q:Nat}{rec:ByteArray}{h:az RT}{pv:Value}{qv:Nat->Value}{rs:List Rs}(H:bO M w S Q rec h pv qv rs)(t:Int):
  bO M (w.setCell ⟨S,3,none⟩ (.int .i64 t)) S Q rec {h with now:=t} pv qv rs/\Fr (fun k=>k=S) w (w.setCell ⟨S,3,none⟩ (.int .i64 t)):=by
 have hf:Fr (fun k=>k=S) w (w.setCell ⟨S,3,none⟩ (.int .i64 t)):=(Fr.refl (fun k=>k=S) w).setCell ⟨S,3,none⟩ (.inl rfl) _;have A0:Fr (de S Q pv qv rs) w (w.setCell ⟨S,3,none⟩ (.int .i64 t)):=hf.mono fun k _ hk=>.inl hk;refine⟨⟨H.at'.setS ?_ fun k ho hk=>hf.block k (H.at'.lt ho) hk,H.base,jM (fun a b hab=>hM.keep _ _ a b hab (H.at'.still H.base A0)) H.rel⟩,hf⟩;rw[cG _ H.at'.sB];rfl
structure jg {RT:Type}(M:aV RT)(G:RT->Prop)(w:World)(S Q:Nat)(rec:ByteArray)(h:az RT)(pv:Value)(qv:Nat->Value)(rs:List Rs)(C en:Int)(k:Nat)(wr:World)(hj:az RT)(Cj:Int)(pvj:Value)(qvj:Nat->Value)(rsj:List Rs):Prop where
 at':bO M wr S Q rec hj pvj qvj rsj
 ok:cC M.E G Cj hj
 C1:Cj+10000*(k:Int)<=C+50000000
 ms:fe M.E en hj.rs<=k
 eq:gS M.E en k hj=gS M.E en 5000 h
 fr:Fr (de S Q pv qv rs) w wr
 own:∀ k,de S Q pvj qvj rsj k->de S Q pv qv rs k\/w.heap.size<=k
theorem Ao {RT:Type}{M:aV RT}{G:RT->Prop}(S Q:Nat)(rec:ByteArray)(h:az RT)(pv:Value)(qv:Nat->Value)(rs:List Rs)(n C:Int)(w:World)(H:bO M w S Q rec h pv qv rs)(hI:cC M.E G C h)(hn:¬ (1<=n/\n<=999)\/1000000000<h.now+n):
  Calls prog 37 #[.pointer (some ⟨S,0,none⟩),.int .i64 n] w fun e w'=>e=.returned (.int .i64 14)/\aR M w S Q pv qv rs rec h w':=by
 have c3:w.cell? ⟨S,3,none⟩=some (.int .i64 h.now):=(ag H.at'.sB).trans rfl;have HS:Hid (aR M w S Q pv qv rs rec h w):=aR.same H (aG.refl w) fun _ _ hl=>hl;have n0:=hI.now0;have n1:=hI.now1;clear H hI;by_cases hw:1<=n/\n<=999
 .have b1:bd n 1 999=true:=kS hw.1 hw.2;have h2:1000000000<h.now+n:=by rcases hn with hn|hn;exact absurd hw hn;exact hn
  obtain⟨w1,w2⟩:=hw;clear hn;go_enter func37,ntmps37
  go_wp2_with fail
  refine(fp n 1 999 w).mono ?_;rw[b1];rintro e w' ⟨rfl,rfl⟩;go_wp2_with fail
  go_ret;exact⟨rfl,HS.out⟩
 .have b1:bd n 1 999=false:=by
   by_cases h1:1<=n
   .exact mf (fun h2=>hw ⟨h1,h2⟩)
   .exact mg h1
  clear hn hw;go_enter func37,ntmps37
  go_wp2_with fail
  refine(fp n 1 999 w).mono ?_;rw[b1];rintro e w' ⟨rfl,rfl⟩;go_wp2_with fail
  go_ret;exact⟨rfl,HS.out⟩
theorem Ah {RT:Type}{M:aV RT}{G:RT->Prop}(hM:bw M)(hE:dl M.E G)(S Q:Nat)(rec:ByteArray)(h:az RT)(pv:Value)(qv:Nat->Value)(rs:List Rs)(n C:Int)(w:World)(H:bO M w S Q rec h pv qv rs)(hI:cC M.E G C h)(hC:C<=900000000000000000)(hr:rec.size<=1000000000000)(hn1:1<=n)(hn2:n<=999)(hn3:h.now+n<=1000000000):
  Calls prog 37 #[.pointer (some ⟨S,0,none⟩),.int .i64 n] w fun e w'=>e=.returned (.int .i64 0)/\aR M w S Q pv qv rs (rec++gJ 75 n 0) {gS M.E (h.now+n) 5000 h with now:=h.now+n} w':=by
 have b1:bd n 1 999=true:=kS hn1 hn2;have c3:w.cell? ⟨S,3,none⟩=some (.int .i64 h.now):=(ag H.at'.sB).trans rfl;have n0:=hI.now0;obtain⟨en,B4⟩:∃ en,en=h.now+n:=⟨_,rfl⟩;rw[<- B4];have C4:=ah B4;have C9:en<=1000000000:=by omega
 have C8:0<=en:=by omega
 have H0:Hid (jg M G w S Q rec h pv qv rs C en 5000 w h C pv qv rs):=by
  refine⟨H,hI,by omega,?_,rfl,Fr.refl _ _,fun k hk=>.inl hk⟩;have h1:=sh (E:=M.E) (en:=en) (t:=h.now) 1000 (by omega) h.rs (fun r hr=>(hI.til r hr).1);have h2:=hI.len;have:h.rs.length*1000<=5*1000:=Nat.mul_le_mul_right _ h2;omega
 clear H hI B4;go_enter func37,ntmps37
 go_wp2_with fail
 refine(fp n 1 999 w).mono ?_;rw[b1];rintro e w' ⟨rfl,rfl⟩;go_wp2_with fail
 rw[<- C4];go_loopg [7] 5000 (fun k _ wr=>∃ (hj:az RT) (Cj:Int) (A3:Value) (A5:Nat->Value) (A1:List Rs),Hid (jg M G w' S Q rec h pv qv rs C en k wr hj Cj A3 A5 A1))
 case atStart=>exact⟨h,C,pv,qv,rs,H0⟩
 case round=>
  obtain⟨hj,Cj,A3,A5,A1,HT⟩:=hrel;have c5:wr.cell? ⟨S,5,none⟩=some A3:=(ag HT.at'.at'.sB).trans rfl;have D3:A1.length<=5:=by rw[lG HT.at'.rel];exact HT.ok.len
  have A4:Hid (Calls prog 70 #[.pointer (some ⟨S,0,none⟩),.int .i64 en] wr fun e w'=>e=.returned (iL (ju en (kJ A1)))/\aG wr w'):=by
   refine GN S A3 (kJ A1) en wr c5 ?_ ?_ (by unfold kJ;rw[List.length_map];omega)
   .have e1:fy (kJ A1)=fy (dz A1):=by unfold fy kJ dz;rw[List.map_map,List.map_map];rfl
    rw[e1];unfold kJ;rw[List.length_map];exact HT.at'.at'.lB
   .intro y hy;obtain⟨x,hx,rfl⟩:=List.mem_map.mp hy;exact(ag (HT.at'.at'.rB x hx).1).trans rfl
  rcases DM hM en HT.at'.rel with ⟨f1,f2⟩|⟨x,r,hx,f1,f2,hlk⟩
  .rw[f1]at A4;have hp:iL none=.pointer none:=rfl;rw[hp]at A4;have B2:Hid (gS M.E en 5000 h=hj):=by
    show _=_;rw[<- HT.eq];cases gk with
    | zero=>rfl
    | succ k=>rw[gS,f2]
   clear f1 f2 hp;go_wp2_with fail
   refine A4.mono ?_;rintro e w1 ⟨rfl,hs1⟩;have A9:aN M.B0 wr w1:=fun k _ _=>by rw[hs1.heap]
   have H1:Hid (bO M w1 S Q rec hj A3 A5 A1/\Fr (de S Q pv qv rs) w' w1):=
    ⟨⟨HT.at'.at'.keep fun k _=>by rw[hs1.heap],HT.at'.base,jM (fun a b hab=>hM.keep wr w1 a b hab A9) HT.at'.rel⟩,HT.fr.trans ⟨hs1.os,hs1.tape,hs1.output,by rw[hs1.heap];exact v9 _,fun k _ _=>by rw[hs1.heap]⟩⟩
   have k3:w1.cell? ⟨S,3,none⟩=some (.int .i64 hj.now):=(ag H1.1.at'.sB).trans rfl;have z3:w1.frozen? ⟨S,3,none⟩=false:=aC H1.1.at'.sB;clear hs1 A9 A4 c5;go_wp2_with fail
   have H2:=H1.1.setNow hM en;refine(oF hM S Q rec {hj with now:=en} A3 A5 A1 75 n 0 _ H2.1 hr).mono ?_;rintro e w2 ⟨rfl,hW,B8⟩;have H3:Hid (aR M w' S Q pv qv rs (rec++gJ 75 n 0) {gS M.E en 5000 h with now:=en} w2):=by
    rw[B2];exact⟨⟨A3,A5,A1,hW,HT.own⟩,(H1.2.trans (H2.2.mono fun k _ hk=>.inl hk)).trans (B8.mono fun k _ hk=>.inl hk)⟩
   clear H2 hW B8 k3 z3;go_wp2_with fail
   go_ret;exact⟨rfl,H3⟩
  .rw[f1]at A4;have hp:iL (some (x.P,x.p.til))=.pointer (some ⟨x.P,0,none⟩):=rfl;rw[hp]at A4;obtain⟨A8,C3,A6⟩:=nD f2;have A7:=hM.pub wr x r hlk;have A2:(M.E.pub r).til=x.p.til:=by rw[A7];rfl
   rw[A2]at C3 A6;obtain⟨d,B6,C7,B7,C2,hs0,hs1,ht0,_⟩:=vx hM HT.ok A8 hlk;have C0:=HT.ok.now0;have D1:=HT.C1;have D2:1<=gk:=by
    have h1:=HT.ms;have h2:1<=fe M.E en hj.rs:=by
     have h3:∀ (l:List RT),r∈l->1<=fe M.E en l:=by
      intro l;induction l with
      | nil=>intro h;cases h
      | cons y l ih=>
       intro h;simp only[fe,List.map_cons,List.sum_cons]at ih ⊢;rcases List.mem_cons.mp h with rfl|h
       .rw[A2];omega
       .have:=ih h;omega
     exact h3 _ A8
    omega
   obtain⟨k,rfl⟩:∃ k,gk=k+1:=⟨gk - 1,by omega⟩;have B2:Hid (gS M.E en 5000 h=gS M.E en k (fv M.E {hj with now:=x.p.til} r false)):=by
    show _=_;rw[<- HT.eq,gS,f2];simp only;rw[A2]
   have B9:(M.E.pub r).id=x.p.id:=by rw[A7];rfl
   have B3:=hE.on x.p.til false (hj.qs d) r (HT.ok.good r A8) C2 (fun hh=>by cases hh);have B5:Hid (fv M.E {hj with now:=x.p.til} r false={hj with now:=x.p.til,qs:=bU hj.qs d (M.E.on x.p.til false (hj.qs d) r).1,rs:=dP M.E hj.rs (M.E.on x.p.til false (hj.qs d) r).2.1 (M.E.on x.p.til false (hj.qs d) r).2.2}):=by
    show _=_;unfold fv;rw[B7]
   have C6:Hid (cC M.E G (Cj+10000) (fv M.E {hj with now:=x.p.til} r false)):=HT.ok.go hE A8 false x.p.til (by omega) (by omega) A6 (fun hh=>by cases hh);have C5:Hid (fe M.E en (fv M.E {hj with now:=x.p.til} r false).rs<=k):=by
    show fe M.E en _<=k;rw[B5];have h1:=sg (E:=M.E) (en:=en) (r:=r) (r':=(M.E.on x.p.til false (hj.qs d) r).2.1) (done:=(M.E.on x.p.til false (hj.qs d) r).2.2) B3.id (by rw[A2];exact C3) (fun hd=>by rw[A2];exact(B3.stop hd).2.1) hj.rs A8 HT.ok.nd;have h2:=HT.ms;show fe M.E en (dP M.E hj.rs _ _)<=k;omega
   have HX:Hid (x∈A1/\(M.E.pub r).id=x.p.id/\M.link wr x r):=⟨hx,B9,hlk⟩;clear f1 f2 hp A8 A6 A7 A2 B7 hlk hx B9 B3;go_wp2_with fail
   refine A4.mono ?_;rintro e w1 ⟨rfl,A0⟩;have A9:aN M.B0 wr w1:=fun k _ _=>by rw[A0.heap]
   have H1:Hid (bO M w1 S Q rec hj A3 A5 A1/\Fr (de S Q pv qv rs) w' w1/\M.link w1 x r):=
    ⟨⟨HT.at'.at'.keep fun k _=>by rw[A0.heap],HT.at'.base,jM (fun a b hab=>hM.keep wr w1 a b hab A9) HT.at'.rel⟩,HT.fr.trans ⟨A0.os,A0.tape,A0.output,by rw[A0.heap];exact v9 _,fun k _ _=>by rw[A0.heap]⟩,hM.keep wr w1 x r HX.2.2 A9⟩
   have k3:w1.cell? ⟨S,3,none⟩=some (.int .i64 hj.now):=(ag H1.1.at'.sB).trans rfl;have z3:w1.frozen? ⟨S,3,none⟩=false:=aC H1.1.at'.sB;have p3:w1.cell? ⟨x.P,3,none⟩=some (.int .i64 x.p.til):=(ag (H1.1.at'.rB x HX.1).1).trans rfl;clear A0 A9 A4 c5;go_wp2_with fail
   have H2:=H1.1.setNow hM x.p.til;have B1:M.link (w1.setCell ⟨S,3,none⟩ (.int .i64 x.p.til)) x r:=hM.keep _ _ x r H1.2.2 (H1.1.at'.still H1.1.base (H2.2.mono fun k _ hk=>.inl hk));refine(hM.on S Q A3 rec x.p.til hj.last A5 hj.qs A1 _ x r d false H2.1.at' H2.1.base HX.1 B1 B6 C7 C2 hs0 (by omega) (by omega) (by omega) (by omega) (fun hh=>by cases hh)).mono ?_;rintro e w4 ⟨rfl,x',v,D0,hO,hL⟩;obtain⟨j1,j2,j3⟩:=H2.1.after hM HX.1 B6 hO (by rw[hM.eid];exact HX.2.1) hL;have H4:Hid (jg M G w' S Q rec h pv qv rs C en k w4 (fv M.E {hj with now:=x.p.til} r false) (Cj+10000) D0 (bL A5 d v) (mq A1 x' (M.E.on x.p.til false (hj.qs d) r).2.2)):=by
    have f1:Fr (de S Q pv qv rs) w' (w1.setCell ⟨S,3,none⟩ (.int .i64 x.p.til)):=H1.2.1.trans (H2.2.mono fun k _ hk=>.inl hk);refine⟨?_,C6,by omega,C5.out,B2.out.symm,?_,?_⟩
    .rw[B5];exact j1
    .refine Fr.wide f1 (j2.mono fun k _ hk=>?_);rcases HT.own k hk with h1|h1
     .exact .inl h1
     .exact .inr h1
    .intro k hk;rcases j3 k hk with h1|h1
     .exact HT.own k h1
     .exact .inr (Qc f1.size h1)
   clear hO hL j1 j2 j3 H2 B1 k3 z3 p3;go_wp2_with fail
   go_roundg k
   case measure=>omega
   case rel=>exact⟨_,_,_,_,_,H4⟩
end Go.Proofs.YtmmmnghiegajmaaGreat
