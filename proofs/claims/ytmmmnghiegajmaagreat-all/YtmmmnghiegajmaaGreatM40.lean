import Derived.Test.YtmmmnghiegajmaaGreatM38
import Derived.Test.YtmmmnghiegajmaaGreatM28
set_option maxHeartbeats 4000000
set_option maxRecDepth 20000
open Go.RowKit Go.Proofs.Herald Go.Proofs.Tryz
namespace Go.Proofs.YtmmmnghiegajmaaGreat
theorem Ea {w:World}{X:Nat}{x0 x1 x2 a b c:Value}{e:TypeId}(h:w.heap[X]?=some (.cells #[x0,x1,x2] e (0,0))):(((w.setCell ⟨X,0,none⟩ a).setCell ⟨X,1,none⟩ b).setCell ⟨X,2,none⟩ c).heap[X]?=some (.cells #[a,b,c] e (0,0)):=by
 rw[cG c (cG b (cG a h))];rfl
def iK (cs:List am)(h:az Pr)(k a b:Int):(Int×aj×Int)×az Pr:=
 if k=1 then (((cP (aE cs) h a).1,⟨0,0,0,0⟩,(cP (aE cs) h a).2.1),(cP (aE cs) h a).2.2)
 else if k=2 then ((0,⟨0,0,0,0⟩,(dU (aE cs) h a).1),(dU (aE cs) h a).2)
 else if k=3 then ((0,⟨0,0,0,0⟩,(di (aE cs) h a b).1),(di (aE cs) h a b).2)
 else if k=4 then ((0,⟨0,0,0,0⟩,(dH (aE cs) h a).1),(dH (aE cs) h a).2)
 else if k=5 then ((0,(cU h a).1,(cU h a).2.1),(cU h a).2.2)
 else ((0,⟨0,0,0,0⟩,10),h)
structure GJ (cs:List am)(i:Nat)(h:az Pr)(J:List Nat)(w:World)(H:Nat)(s:HS):Prop where
 ga:GA cs i h w H s
 r:w.ownsRow 0 5 1 s.jr J.length (dt (eg J))
 len:J.length<=19*i
theorem GJ.fj {cs:List am}{i:Nat}{h:az Pr}{J:List Nat}{w:World}{H:Nat}{s:HS}(g:GJ cs i h J w H s):FJ w H cs h s.code s.jr s.rv s.qv J:=⟨g.ga.fh.m,g.r⟩
def cB (cs:List am)(i:Nat)(h':az Pr)(J':List Nat)(w:World)(H:Nat)(s:HS)(w':World):Prop:=
 ∃ s',GJ cs (i+1) h' J' w' H s'/\(∀ k,s'.own H k->s.own H k\/w.heap.size<=k)/\Fr (s.own H) w w'
theorem GJ.keep {cs:List am}{i:Nat}{h:az Pr}{J:List Nat}{w w':World}{H:Nat}{s:HS}(g:GJ cs i h J w H s)(hk:∀ k,s.own H k->w'.heap[k]?=w.heap[k]?):GJ cs i h J w' H s:=⟨g.ga.keep hk,aT g.r fun b hb=>hk b (.inr (.inl hb)),g.len⟩
theorem GJ.lt {cs:List am}{i:Nat}{h:az Pr}{J:List Nat}{w:World}{H:Nat}{s:HS}(g:GJ cs i h J w H s){k:Nat}(hk:s.own H k):k<w.heap.size:=g.ga.lt hk
theorem kX (f:Int)(J:List Nat)(c:Nat)(a b:Int):(cI f J c a b).length<=J.length+19:=by
 unfold cI;split
 .rw[List.length_append,qw];exact v9 _
 .omega
theorem cB.of {cs:List am}{i:Nat}{h h':az Pr}{J J':List Nat}{w w':World}{H:Nat}{s:HS}(g:GJ cs i h J w H s)(ho:bF w w' H cs h' s.code s.jr s.rv s.qv J')(hj:J'.length<=J.length+19)(hk:cC (aE cs) (im cs) (50000000*(i+1:Nat)) h')(hq:bR h')(hl:h'.last<=(i+1:Nat)):cB cs i h' J' w H s w':=by
 obtain⟨⟨A0,A2,A1,h2,h3⟩,h4⟩:=ho;have:=g.len;exact⟨⟨s.code,A0,A2,A1,J'.length⟩,⟨⟨h2.fh,by show J'.length<=_;omega,g.ga.snd,hk,hq,hl⟩,h2.r,by omega⟩,h3,h4⟩
theorem GJ.new {cs:List am}{w:World}{H:Nat}{v:Value}(hs:em cs=true)(hH:w.heap[H]?=some (.cells (ll v) 114))(hv:w.ownsRow 0 91 4 v cs.length (aZ cs)):GJ cs 0 dM [] w H ⟨v,.slice none 0 0,.slice none 0 0,fun _=>.slice none 0 0,0⟩:=
 ⟨GA.new hs hH hv,Qg _ _ _ _,Qa _⟩
theorem vi {cs:List am}{i:Nat}{h:az Pr}{J:List Nat}{H:Nat}{s:HS}(dev:Int)(w:World)(g:GJ cs i h J w H s)(hi:i<=2000000):
  Calls prog 34 #[.pointer (some ⟨H,0,none⟩),.int .i64 dev] w fun e w'=>e=.returned (.tuple #[.int .i64 (cP (aE cs) h dev).1,.int .i64 (cP (aE cs) h dev).2.1])/\cB cs i (cP (aE cs) h dev).2.2 (cI (cP (aE cs) h dev).2.1 J 84 dev 0) w H s w':=by
 refine(Dr H cs h s.code s.jr s.rv s.qv J dev (50000000*i) w g.fj (g.ga.mok hi) (by have:=g.len;omega)).mono ?_;rintro e w' ⟨rfl,ho⟩;have hl:=wA (E:=aE cs) (h:=h) dev;have:=g.ga.last;exact⟨rfl,cB.of g ho (kX _ _ _ _ _) ((cC.trig g.ga.eng g.ga.ok (by omega) dev).mono (by push_cast;omega)) (g.ga.qs.trig (fun r hr=>g.ga.ok.id r hr) dev) (by push_cast;omega)⟩
theorem xK {cs:List am}{i:Nat}{h:az Pr}{J:List Nat}{H:Nat}{s:HS}(n:Int)(w:World)(g:GJ cs i h J w H s)(hi:i<=2000000):
  Calls prog 36 #[.pointer (some ⟨H,0,none⟩),.int .i64 n] w fun e w'=>e=.returned (.int .i64 (dU (aE cs) h n).1)/\cB cs i (dU (aE cs) h n).2 (cI (dU (aE cs) h n).1 J 75 n 0) w H s w':=by
 refine(Fl H cs h s.code s.jr s.rv s.qv J n (50000000*i) w g.fj (g.ga.mok hi) (by have:=g.len;omega)).mono ?_;rintro e w' ⟨rfl,ho⟩;have k2:=cC.tick g.ga.eng g.ga.ok n;have:=g.ga.last;exact⟨rfl,cB.of g ho (kX _ _ _ _ _) (k2.1.mono (by push_cast;omega)) (g.ga.qs.tick g.ga.eng g.ga.ok n) (by rw[k2.2];push_cast;omega)⟩
theorem xQ {cs:List am}{i:Nat}{h:az Pr}{J:List Nat}{H:Nat}{s:HS}(id num:Int)(w:World)(g:GJ cs i h J w H s)(hi:i<=2000000):
  Calls prog 38 #[.pointer (some ⟨H,0,none⟩),.int .i64 id,.int .i64 num] w fun e w'=>e=.returned (.int .i64 (di (aE cs) h id num).1)/\cB cs i (di (aE cs) h id num).2 (cI (di (aE cs) h id num).1 J 65 id num) w H s w':=by
 refine(Gx H cs h s.code s.jr s.rv s.qv J id num (50000000*i) w g.fj (g.ga.mok hi) (by have:=g.len;omega)).mono ?_;rintro e w' ⟨rfl,ho⟩;have:=g.ga.last;exact⟨rfl,cB.of g ho (kX _ _ _ _ _) ((cC.ack g.ga.eng g.ga.ok id num).mono (by push_cast;omega)) (g.ga.qs.ack g.ga.ok id num) (by rw[wO];push_cast;omega)⟩
theorem vM {cs:List am}{i:Nat}{h:az Pr}{J:List Nat}{H:Nat}{s:HS}(id:Int)(w:World)(g:GJ cs i h J w H s)(hi:i<=2000000):
  Calls prog 40 #[.pointer (some ⟨H,0,none⟩),.int .i64 id] w fun e w'=>e=.returned (.int .i64 (dH (aE cs) h id).1)/\cB cs i (dH (aE cs) h id).2 (cI (dH (aE cs) h id).1 J 67 id 0) w H s w':=by
 refine(DR H cs h s.code s.jr s.rv s.qv J id (50000000*i) w g.fj (g.ga.mok hi) (by have:=g.len;omega)).mono ?_;rintro e w' ⟨rfl,ho⟩;have:=g.ga.last;exact⟨rfl,cB.of g ho (kX _ _ _ _ _) ((cC.cancel g.ga.ok id).mono (by push_cast;omega)) (g.ga.qs.cancel id) (by rw[ui];push_cast;omega)⟩
theorem sG {cs:List am}{i:Nat}{h:az Pr}{J:List Nat}{H:Nat}{s:HS}(dev:Int)(w:World)(g:GJ cs i h J w H s)(hi:i<=2000000):
  Calls prog 42 #[.pointer (some ⟨H,0,none⟩),.int .i64 dev] w fun e w'=>e=.returned (.tuple #[iN (cU h dev).1,.int .i64 (cU h dev).2.1])/\cB cs i (cU h dev).2.2 (cI (cU h dev).2.1 J 68 dev 0) w H s w':=by
 refine(FG H cs h s.code s.jr s.rv s.qv J dev (50000000*i) w g.fj (g.ga.mok hi) (by have:=g.len;omega)).mono ?_;rintro e w' ⟨rfl,ho⟩;have:=g.ga.last;exact⟨rfl,cB.of g ho (kX _ _ _ _ _) ((cC.drain g.ga.ok dev).mono (by push_cast;omega)) (g.ga.qs.drain dev) (by rw[uX];push_cast;omega)⟩
def KJ (B:Nat)(cs:List am)(m:Nat)(h:az Pr)(J:List Nat)(w0:World)(H:Nat)(F:Nat->Prop)(w:World):Prop:=
 ∃ i s,i<=m/\GJ cs i h J w H s/\(∀ k,s.own H k->B<=k/\¬ F k)/\(∀ k,F k->k<w.heap.size)/\Below B w0 w/\B<=w.heap.size
theorem KJ.less {B:Nat}{cs:List am}{m:Nat}{h:az Pr}{J:List Nat}{w0 w:World}{H:Nat}{F F':Nat->Prop}(g:KJ B cs m h J w0 H F w)(hF:∀ k,F' k->F k):KJ B cs m h J w0 H F' w:=by
 obtain⟨i,s,h1,h2,h3,h4,h5,h6⟩:=g;exact⟨i,s,h1,h2,fun k hk=>⟨(h3 k hk).1,fun hf=>(h3 k hk).2 (hF k hf)⟩,fun k hk=>h4 k (hF k hk),h5,h6⟩
theorem KJ.lt {B:Nat}{cs:List am}{m:Nat}{h:az Pr}{J:List Nat}{w0 w:World}{H:Nat}{F:Nat->Prop}(g:KJ B cs m h J w0 H F w){k:Nat}(hk:F k):k<w.heap.size:=by
 obtain⟨i,s,h1,h2,h3,h4,h5,h6⟩:=g;exact h4 k hk
theorem KJ.fr {B:Nat}{cs:List am}{m:Nat}{h:az Pr}{J:List Nat}{w0 w w':World}{H:Nat}{F S:Nat->Prop}(g:KJ B cs m h J w0 H F w)(hf:Fr S w w')(hS:∀ k,S k->k<w.heap.size->F k/\B<=k):KJ B cs m h J w0 H (fun k=>F k\/(w.heap.size<=k/\k<w'.heap.size)) w':=by
 obtain⟨i,s,h1,h2,h3,h4,h5,h6⟩:=g;have hz:=hf.size;refine⟨i,s,h1,h2.keep fun k hk=>hf.block k (h2.lt hk) fun hs=>(h3 k hk).2 (hS k hs (h2.lt hk)).1,fun k hk=>⟨(h3 k hk).1,?_⟩,?_,?_,by omega⟩
 .rintro(hF|⟨hF,_⟩)
  .exact(h3 k hk).2 hF
  .have:=h2.lt hk;omega
 .rintro k (hF|⟨_,hF⟩)
  .have:=h4 k hF;omega
  .exact hF
 .exact h5.trans ⟨hf.os,hf.tape,hf.output,hf.size,fun k hk=>hf.block k (by omega) fun hs=>by have:=(hS k hs (by omega)).2;omega⟩
theorem KJ.more {B:Nat}{cs:List am}{m:Nat}{h:az Pr}{J:List Nat}{w0 w w':World}{H:Nat}{F:Nat->Prop}(g:KJ B cs m h J w0 H F w)(hb:Below w.heap.size w w'):KJ B cs m h J w0 H (fun k=>F k\/(w.heap.size<=k/\k<w'.heap.size)) w':=
 g.fr (Fr.of_below hb) fun _ hk hk2=>by omega
theorem KJ.below {B:Nat}{cs:List am}{m:Nat}{h:az Pr}{J:List Nat}{w0 w w':World}{H:Nat}{F:Nat->Prop}(g:KJ B cs m h J w0 H F w)(hb:Below w.heap.size w w'):KJ B cs m h J w0 H F w':=(g.more hb).less fun _ hk=>.inl hk
theorem KJ.next {B:Nat}{cs:List am}{m i:Nat}{h':az Pr}{J':List Nat}{w0 w w':World}{H:Nat}{F:Nat->Prop}{s:HS}(h1:i<=m)(h3:∀ k,s.own H k->B<=k/\¬ F k)(h4:∀ k,F k->k<w.heap.size)(h5:Below B w0 w)(h6:B<=w.heap.size)(n:cB cs i h' J' w H s w'):KJ B cs (m+1) h' J' w0 H F w'/\∀ k,F k->w'.heap[k]?=w.heap[k]?:=by
 obtain⟨s',g',o',f'⟩:=n;have hz:=f'.size;refine⟨⟨i+1,s',by omega,g',fun k hk=>?_,fun k hk=>by have:=h4 k hk;omega,?_,by omega⟩,fun k hk=>f'.block k (h4 k hk) fun ho=>(h3 k ho).2 hk⟩
 .rcases o' k hk with h7|h7
  .exact h3 k h7
  .exact⟨by omega,fun hF=>by have:=h4 k hF;omega⟩
 .exact h5.trans ⟨f'.os,f'.tape,f'.output,f'.size,fun k hk=>f'.block k (by omega) fun ho=>by have:=(h3 k ho).1;omega⟩
theorem Ce {B:Nat}{cs:List am}{m:Nat}{h:az Pr}{J:List Nat}{w0:World}{H:Nat}{F:Nat->Prop}(dev:Int)(w:World)(g:KJ B cs m h J w0 H F w)(hm:m<=2000000):
  Calls prog 34 #[.pointer (some ⟨H,0,none⟩),.int .i64 dev] w fun e w'=>e=.returned (.tuple #[.int .i64 (cP (aE cs) h dev).1,.int .i64 (cP (aE cs) h dev).2.1])/\KJ B cs (m+1) (cP (aE cs) h dev).2.2 (cI (cP (aE cs) h dev).2.1 J 84 dev 0) w0 H F w'/\∀ k,F k->w'.heap[k]?=w.heap[k]?:=by
 obtain⟨i,s,h1,h2,h3,h4,h5,h6⟩:=g;exact(vi dev w h2 (by omega)).mono fun e w' hh=>⟨hh.1,KJ.next h1 h3 h4 h5 h6 hh.2⟩
theorem FI {B:Nat}{cs:List am}{m:Nat}{h:az Pr}{J:List Nat}{w0:World}{H:Nat}{F:Nat->Prop}(n:Int)(w:World)(g:KJ B cs m h J w0 H F w)(hm:m<=2000000):
  Calls prog 36 #[.pointer (some ⟨H,0,none⟩),.int .i64 n] w fun e w'=>e=.returned (.int .i64 (dU (aE cs) h n).1)/\KJ B cs (m+1) (dU (aE cs) h n).2 (cI (dU (aE cs) h n).1 J 75 n 0) w0 H F w'/\∀ k,F k->w'.heap[k]?=w.heap[k]?:=by
 obtain⟨i,s,h1,h2,h3,h4,h5,h6⟩:=g;exact(xK n w h2 (by omega)).mono fun e w' hh=>⟨hh.1,KJ.next h1 h3 h4 h5 h6 hh.2⟩
theorem GQ {B:Nat}{cs:List am}{m:Nat}{h:az Pr}{J:List Nat}{w0:World}{H:Nat}{F:Nat->Prop}(id num:Int)(w:World)(g:KJ B cs m h J w0 H F w)(hm:m<=2000000):
  Calls prog 38 #[.pointer (some ⟨H,0,none⟩),.int .i64 id,.int .i64 num] w fun e w'=>e=.returned (.int .i64 (di (aE cs) h id num).1)/\KJ B cs (m+1) (di (aE cs) h id num).2 (cI (di (aE cs) h id num).1 J 65 id num) w0 H F w'/\∀ k,F k->w'.heap[k]?=w.heap[k]?:=by
 obtain⟨i,s,h1,h2,h3,h4,h5,h6⟩:=g;exact(xQ id num w h2 (by omega)).mono fun e w' hh=>⟨hh.1,KJ.next h1 h3 h4 h5 h6 hh.2⟩
theorem CG {B:Nat}{cs:List am}{m:Nat}{h:az Pr}{J:List Nat}{w0:World}{H:Nat}{F:Nat->Prop}(id:Int)(w:World)(g:KJ B cs m h J w0 H F w)(hm:m<=2000000):
  Calls prog 40 #[.pointer (some ⟨H,0,none⟩),.int .i64 id] w fun e w'=>e=.returned (.int .i64 (dH (aE cs) h id).1)/\KJ B cs (m+1) (dH (aE cs) h id).2 (cI (dH (aE cs) h id).1 J 67 id 0) w0 H F w'/\∀ k,F k->w'.heap[k]?=w.heap[k]?:=by
 obtain⟨i,s,h1,h2,h3,h4,h5,h6⟩:=g;exact(vM id w h2 (by omega)).mono fun e w' hh=>⟨hh.1,KJ.next h1 h3 h4 h5 h6 hh.2⟩
theorem DU {B:Nat}{cs:List am}{m:Nat}{h:az Pr}{J:List Nat}{w0:World}{H:Nat}{F:Nat->Prop}(dev:Int)(w:World)(g:KJ B cs m h J w0 H F w)(hm:m<=2000000):
  Calls prog 42 #[.pointer (some ⟨H,0,none⟩),.int .i64 dev] w fun e w'=>e=.returned (.tuple #[iN (cU h dev).1,.int .i64 (cU h dev).2.1])/\KJ B cs (m+1) (cU h dev).2.2 (cI (cU h dev).2.1 J 68 dev 0) w0 H F w'/\∀ k,F k->w'.heap[k]?=w.heap[k]?:=by
 obtain⟨i,s,h1,h2,h3,h4,h5,h6⟩:=g;exact(sG dev w h2 (by omega)).mono fun e w' hh=>⟨hh.1,KJ.next h1 h3 h4 h5 h6 hh.2⟩
def kN (cs:List am)(h:az Pr)(J:List Nat)(k a b:Int):List Nat:=
 if k=1 then cI (cP (aE cs) h a).2.1 J 84 a 0
 else if k=2 then cI (dU (aE cs) h a).1 J 75 a 0
 else if k=3 then cI (di (aE cs) h a b).1 J 65 a b
 else if k=4 then cI (dH (aE cs) h a).1 J 67 a 0
 else if k=5 then cI (cU h a).2.1 J 68 a 0
 else J
end Go.Proofs.YtmmmnghiegajmaaGreat
namespace Go.Proofs.Herald
open Go
def eV (c:Nat)(b:Int):Bool:=if c=84\/c=75\/c=67\/c=68 then b==0 else c==65
def iA (L:List Nat):Nat:=L.getD 0 0
def jP (L:List Nat):Int:=dW (fG ((L.drop 1).take 8))
def iY (L:List Nat):Int:=dW (fG ((L.drop 9).take 8))
def gU (L:List Nat):Option (Nat×Int×Int):=
 if eR (iA L) (jP L) (iY L)=L/\eV (iA L) (iY L)=true then some (iA L,jP L,iY L) else none
theorem rU {L:List Nat}{c:Nat}{a b:Int}(h:gU L=some (c,a,b)):L=eR c a b/\eV c b=true:=by
 unfold gU at h;split at h
 .rename_i hh;simp only[Option.some.injEq,Prod.mk.injEq]at h;obtain⟨rfl,rfl,rfl⟩:=h;exact⟨hh.1.symm,hh.2⟩
 .cases h
end Go.Proofs.Herald
namespace Go.Proofs.YtmmmnghiegajmaaGreat
theorem Fe (c:Nat)(_hc:c<256)(a b:Int)(w:World):
  Calls prog 142 #[.agg #[.int .u8 (c:Nat),.int .i64 a,.int .i64 b]] w fun e w'=>e=.returned (.bool (eV c b))/\Below w.heap.size w w':=by
 have HB:Hid (∀ o,Below w.heap.size w (w.alloc o)):=fun o=>(v7 _ _).alloc (v9 _) o;by_cases h1:c=84
 .have HI:Hid (eV c b=(b==0)):=by show eV c b=_;unfold eV;rw[if_pos (.inl h1)]
  have b1:(((c:Nat):Int)==84)=true:=by simp[h1]
  clear h1;go_enter func142,ntmps142
  go_wp2_with fail
  go_ret;refine⟨?_,HB _⟩;rw[HI];rfl
 have b1:(((c:Nat):Int)==84)=false:=by simp;omega
 by_cases h2:c=75
 .have HI:Hid (eV c b=(b==0)):=by show eV c b=_;unfold eV;rw[if_pos (.inr (.inl h2))]
  have b2:(((c:Nat):Int)==75)=true:=by simp[h2]
  clear h1 h2;go_enter func142,ntmps142
  go_wp2_with fail
  go_ret;refine⟨?_,HB _⟩;rw[HI];rfl
 have b2:(((c:Nat):Int)==75)=false:=by simp;omega
 by_cases h3:c=67
 .have HI:Hid (eV c b=(b==0)):=by show eV c b=_;unfold eV;rw[if_pos (.inr (.inr (.inl h3)))]
  have b3:(((c:Nat):Int)==67)=true:=by simp[h3]
  clear h1 h2 h3;go_enter func142,ntmps142
  go_wp2_with fail
  go_ret;refine⟨?_,HB _⟩;rw[HI];rfl
 have b3:(((c:Nat):Int)==67)=false:=by simp;omega
 by_cases h4:c=68
 .have HI:Hid (eV c b=(b==0)):=by show eV c b=_;unfold eV;rw[if_pos (.inr (.inr (.inr h4)))]
  have b4:(((c:Nat):Int)==68)=true:=by simp[h4]
  clear h1 h2 h3 h4;go_enter func142,ntmps142
  go_wp2_with fail
  go_ret;refine⟨?_,HB _⟩;rw[HI];rfl
 have b4:(((c:Nat):Int)==68)=false:=by simp;omega
 have HI:Hid (eV c b=(c==65)):=by
  show eV c b=_;unfold eV;rw[if_neg (by omega)]
 by_cases h5:c=65
 .have b5:(((c:Nat):Int)==65)=true:=by simp[h5]
  have A0:Hid (eV c b=true):=HI.trans (by simp[h5]);clear h1 h2 h3 h4 h5;go_enter func142,ntmps142
  go_wp2_with fail
  go_ret;refine⟨?_,HB _⟩;rw[A0];rfl
 .have b5:(((c:Nat):Int)==65)=false:=by simp;omega
  have A0:Hid (eV c b=false):=HI.trans (by simp[h5]);clear h1 h2 h3 h4 h5;go_enter func142,ntmps142
  go_wp2_with fail
  go_ret;refine⟨?_,HB _⟩;rw[A0];rfl
theorem uR {w:World}{a:Option Addr}{cap:Nat}{L:List Nat}(h:w.ownsRow 0 5 1 (.slice a L.length cap) L.length (dt (eg L)))(hp:0<L.length):(convert 80 9 (.slice a L.length cap)).run prog w=.ok (.string (aI L)) w:=by
 obtain⟨g,c,hv,_,_⟩:=h.form hp;simp at hv;obtain⟨rfl,rfl⟩:=hv;rw[<- qd];have hl:(eg L).length=L.length:=oC L;refine run_convert_bytes_arg (w:=w) 80 5 underlying80 underlying5 g 0 L.length cap (eg L) hl (fun i hi=>?_) 9 underlying9;have A0:i<L.length:=by omega
 have h1:=eW h i (.int .u8 ((eg L).getD i 0)) (by simp[dt,eg,A0]);rw[Nat.zero_add];exact h1.1
def ng (o:Option (Nat×Int×Int)):Value:=
 match o with
 | some (c,a,b)=>.tuple #[.agg #[.int .u8 (c:Nat),.int .i64 a,.int .i64 b],.bool true]
 | none=>.tuple #[.agg #[.int .u8 0,.int .i64 0,.int .i64 0],.bool false]
theorem mN {w:World}{R:Nat}{a b c:Value}{t:TypeId}(h:w.heap[R]?=some (.cells #[a,b,c] t (0,0))):(w.cell? ⟨R,0,none⟩=some a/\w.cell? ⟨R,1,none⟩=some b/\w.cell? ⟨R,2,none⟩=some c)/\(w.frozen? ⟨R,0,none⟩=false/\w.frozen? ⟨R,1,none⟩=false/\w.frozen? ⟨R,2,none⟩=false)/\R<w.heap.size:=
 ⟨⟨(ag h).trans rfl,(ag h).trans rfl,(ag h).trans rfl⟩,⟨aC h,aC h,aC h⟩,ak h⟩
theorem nN {L:List Nat}(hL:∀ x∈L,x<256)(a n:Nat):∀ x∈(L.drop a).take n,x<256:=fun x hx=>hL x (List.mem_of_mem_drop (List.mem_of_mem_take hx))
theorem yh (L:List Nat)(hL:∀ x∈L,x<256)(hl:L.length=19)(w:World):
  Calls prog 114 #[.string (aI L)] w fun e w'=>e=.returned (ng (gU L))/\Below w.heap.size w w':=by
 have hz:(aI L).size=19:=by rw[iG,hl]
 have B0:Hid (∀ W:World,Calls prog 141 #[.string ((aI L).extract 1 9)] W fun e w'=>e=.returned (.int .i64 (jP L))/\w'=W):=fun W=>by
  rw[kU];exact uT _ (nN hL 1 8) (by rw[List.length_take];omega) W
 have B1:Hid (∀ W:World,Calls prog 141 #[.string ((aI L).extract 9 17)] W fun e w'=>e=.returned (.int .i64 (iY L))/\w'=W):=fun W=>by
  rw[kU];exact uT _ (nN hL 9 8) (by rw[List.length_take];omega) W
 have h0:0<(aI L).size:=by omega
 have hn:(((aI L)[0]).toNat:Int)=((iA L:Nat):Int):=by
  have h1:0<L.length:=by omega
  rw[qA h0 h1 (hL _ (Qb h1))];unfold iA;simp[h1]
 have hc:iA L<256:=by
  unfold iA;have h1:0<L.length:=by omega
  rw[List.getD_eq_getElem?_getD,List.getElem?_eq_getElem h1];exact hL _ (Qb h1)
 have A7:Hid (gU L=if eR (iA L) (jP L) (iY L)=L/\eV (iA L) (iY L)=true then some (iA L,jP L,iY L) else none):=rfl;generalize iA L=c at *;generalize jP L=a at *;generalize iY L=b at *;have HW:Hid (∀ W:World,Calls prog 94 #[.agg #[.int .u8 (c:Nat),.int .i64 a,.int .i64 b]] W fun e w'=>∃ v,e=.returned v/\w'.ownsRow W.heap.size 5 1 v 19 (dt (eg (eR c a b)))/\Below W.heap.size W w'):=fun W=>xP c hc a b W;have HC:Hid (∀ W:World,Calls prog 142 #[.agg #[.int .u8 (c:Nat),.int .i64 a,.int .i64 b]] W fun e w'=>e=.returned (.bool (eV c b))/\Below W.heap.size W w'):=fun W=>Fe c hc a b W;have B9:Hid (aI (eR c a b)=aI L ↔ eR c a b=L):=by
  refine⟨fun h=>wZ (fun x hx=>?_) hL h,fun h=>by rw[h]⟩;rcases List.mem_append.mp hx with h1|h1
  .exact oP hc a b x h1
  .have:=oV (fg c a b) (r:=65535) (by decide) (oP hc a b);have e:jd (fg c a b)=(fg c a b).foldl iI 65535:=rfl;rw[<- e]at this;simp at h1;omega
 clear hL hl hc;go_enter func114,ntmps114
 go_wp2_with fail
 refine(B0 _).mono ?_;rintro e w1 ⟨rfl,B6⟩;rw[B6];clear B6;go_wp2_with fail
 refine(B1 _).mono ?_;rintro e w2 ⟨rfl,B7⟩;rw[B7];clear B7;go_wp2_with fail
 obtain⟨W0,A8⟩:∃ W0,W0=(w.alloc (.cells #[.int .u8 0,.int .i64 0,.int .i64 0] 143)).alloc (.cells #[.int .u8 (c:Nat),.int .i64 a,.int .i64 b] 143):=⟨_,rfl⟩;have A0:Hid (Below w.heap.size w W0/\W0.heap[w.heap.size]?=some (.cells #[.int .u8 0,.int .i64 0,.int .i64 0] 143)/\W0.heap[w.heap.size+1]?=some (.cells #[.int .u8 (c:Nat),.int .i64 a,.int .i64 b] 143)):=by
  rw[A8];refine⟨((v7 _ _).alloc (v9 _) _).alloc (by simp) _,?_,ey _ _ _⟩;rw[q9 _ _ _ (by simp)];exact v8 _ _
 rw[<- A8];clear A8;refine(HW W0).mono ?_;rintro e w3 ⟨v,rfl,A3,A5⟩;obtain⟨va,vc,hv⟩:=bD A3;subst hv;have A1:Hid (Below w.heap.size w w3/\w3.heap[w.heap.size]?=some (.cells #[.int .u8 0,.int .i64 0,.int .i64 0] 143)/\w3.heap[w.heap.size+1]?=some (.cells #[.int .u8 (c:Nat),.int .i64 a,.int .i64 b] 143)):=⟨A0.1.trans (A5.mono A0.1.size),(A5.block _ (ak A0.2.1)).trans A0.2.1,(A5.block _ (ak A0.2.2)).trans A0.2.2⟩;have B3:(convert 80 9 (.slice va 19 vc)).run prog w3=.ok (.string (aI (eR c a b))) w3:=by
  have h1:=qw c a b;have h2:=uR (w:=w3) (a:=va) (cap:=vc) (L:=eR c a b) (by rw[h1];exact bZ A3) (by omega);rwa [h1]at h2
 clear A3 A5 A0 HW B0 B1;obtain⟨⟨r0,r1,r2⟩,⟨f0,f1,f2⟩,B2⟩:=mN A1.2.1;obtain⟨⟨k0,k1,k2⟩,_,C0⟩:=mN A1.2.2;have A2:Hid (∀ (w4:World) (x y z:Value),Below w3.heap.size w3 w4->(((w4.setCell ⟨w.heap.size,0,none⟩ x).setCell ⟨w.heap.size,1,none⟩ y).setCell ⟨w.heap.size,2,none⟩ z).heap[w.heap.size]?=some (.cells #[x,y,z] 143)/\Below w.heap.size w (((w4.setCell ⟨w.heap.size,0,none⟩ x).setCell ⟨w.heap.size,1,none⟩ y).setCell ⟨w.heap.size,2,none⟩ z)):=fun w4 x y z hb=>by
  have hr:w4.heap[w.heap.size]?=some (.cells #[.int .u8 0,.int .i64 0,.int .i64 0] 143):=(hb.block _ B2).trans A1.2.1;refine⟨Ea hr,?_⟩;have C3:Below w.heap.size w w4:=A1.1.trans (hb.mono A1.1.size);exact((C3.setCell (p:=⟨w.heap.size,0,none⟩) (v9 _) _).setCell (p:=⟨w.heap.size,1,none⟩) (v9 _) _).setCell (p:=⟨w.heap.size,2,none⟩) (v9 _) _
 by_cases heq:eR c a b=L
 .rw[heq]at B3;have B8:=ah heq;clear heq;go_wp2_with fail
  refine(HC _).mono ?_;rintro e w4 ⟨rfl,A6⟩;have A9:=ah A6;have B5:=(A6.block _ B2).trans A1.2.1;have B4:=(A6.block _ C0).trans A1.2.2;clear r0 r1 r2 f0 f1 f2 k0 k1 k2 A6 B3;obtain⟨⟨r0,r1,r2⟩,⟨f0,f1,f2⟩,C2⟩:=mN B5;obtain⟨⟨k0,k1,k2⟩,_,C1⟩:=mN B4;clear B5 B4;cases hi:eV c b with
  | true=>
   have A4:Hid (gU L=some (c,a,b)):=A7.trans (if_pos ⟨B8,hi⟩);go_wp2_with fail
   obtain⟨h3,hb⟩:=A2 w4 (.int .u8 (c:Nat)) (.int .i64 a) (.int .i64 b) A9;generalize ((w4.setCell ⟨w.heap.size,0,none⟩ (.int .u8 (c:Nat))).setCell ⟨w.heap.size,1,none⟩ (.int .i64 a)).setCell ⟨w.heap.size,2,none⟩ (.int .i64 b)=U at *;obtain⟨⟨u0,u1,u2⟩,_,hU⟩:=mN h3;refine bodyPost_ret (v:=ng (some (c,a,b))) (by simp[results,results114,go_sem,ng,u0,u1,u2]) rfl ⟨by rw[A4],hb⟩
  | false=>
   have A4:Hid (gU L=none):=A7.trans (if_neg (by rintro⟨_,h⟩;rw[hi]at h;cases h));go_wp2_with fail
   obtain⟨h3,hb⟩:=A2 w4 (.int .u8 0) (.int .i64 0) (.int .i64 0) A9;generalize ((w4.setCell ⟨w.heap.size,0,none⟩ (.int .u8 0)).setCell ⟨w.heap.size,1,none⟩ (.int .i64 0)).setCell ⟨w.heap.size,2,none⟩ (.int .i64 0)=U at *;obtain⟨⟨u0,u1,u2⟩,_,hU⟩:=mN h3;refine bodyPost_ret (v:=ng none) (by simp[results,results114,go_sem,ng,u0,u1,u2]) rfl ⟨by rw[A4],hb⟩
 .have A4:Hid (gU L=none):=A7.trans (if_neg (by rintro⟨h,_⟩;exact heq h));have C5:¬ aI (eR c a b)=aI L:=fun h=>heq (B9.mp h);have C4:(aI (eR c a b)).toList≠(aI L).toList:=fun h=>C5 (og (by rw[<- ByteArray.toList_eq,<- ByteArray.toList_eq];exact h));have C6:((aI (eR c a b)).toList==(aI L).toList)=false:=by simpa using C4
  clear heq;generalize aI (eR c a b)=S at *;go_wp2_with fail
  obtain⟨h3,hb⟩:=A2 w3 (.int .u8 0) (.int .i64 0) (.int .i64 0) (v7 _ _);generalize ((w3.setCell ⟨w.heap.size,0,none⟩ (.int .u8 0)).setCell ⟨w.heap.size,1,none⟩ (.int .i64 0)).setCell ⟨w.heap.size,2,none⟩ (.int .i64 0)=U at *;obtain⟨⟨u0,u1,u2⟩,_,hU⟩:=mN h3;refine bodyPost_ret (v:=ng none) (by simp[results,results114,go_sem,ng,u0,u1,u2]) rfl ⟨by rw[A4],hb⟩
end Go.Proofs.YtmmmnghiegajmaaGreat
