import Derived.Test.YtmmmnghiegajmaaGreatM16
import Derived.Test.YtmmmnghiegajmaaGreatM20
import Derived.Test.YtmmmnghiegajmaaGreatM28
import Derived.Test.YtmmmnghiegajmaaGreatM14
import Derived.Test.YtmmmnghiegajmaaGreatM22
import Derived.Test.YtmmmnghiegajmaaGreatM06
namespace Go.Proofs.Herald
theorem zjQ {cs:List Ins}(h:zbq cs=true):∀ x∈cs,zaK cs.length x=true:=by
 unfold zbq at h
 simp only [Bool.and_eq_true,List.all_eq_true] at h
 exact h.2
def zoy (cs:List Ins)(p:Pr):Prop:=RegsOk p/\zhF cs.length p
theorem zk8 {cs:List Ins}(hs:zbq cs=true):EngOk (zi8 cs) (zoy cs):=by
 have out:∀ {now:Int} {p:Pr} {r:List Msg×Pr×Bool},RunOk cs.length now 10000 p r->EOut (zi8 cs) (zoy cs) now p r:=fun h=>
  ⟨h.len,h.id,fun _=>h.dev,fun _=>h.sent0,fun _=>h.sent1,fun hd=>⟨⟨h.regs,h.pcs⟩,h.stop hd⟩⟩
 refine ⟨fun now yes q r hg hq _=>out (zqE (zjQ hs) yes q r hg.1 hg.2 hq),fun now q id dev hq=>out (znO (zjQ hs) 10000 0 q (zaZ id dev) (Int.le_refl 0) ?_ ?_ hq),fun id dev=>rfl⟩
 .intro z hz
  obtain rfl:=(List.mem_replicate.mp hz).2
  omega
 .unfold zhF zaZ
  simp only
  omega
end Go.Proofs.Herald
namespace Go.Proofs.YtmmmnghiegajmaaGreat
open Go.RowKit Go.Proofs.Herald
end Go.Proofs.YtmmmnghiegajmaaGreat
set_option maxHeartbeats 2000000
namespace Go.Proofs.YtmmmnghiegajmaaGreat
open Go.RowKit Go.Proofs.Herald
theorem SimAt.grow {w w':World}{S Q:Nat}{s:Sd}{pv pv':Value}{rec:ByteArray}{now last last':Int}{qv:Nat->Value}{qs:Nat->List Msg}{rs:List Rs}(h:SimAt w S Q s pv rec now last qv qs rs)(x:Rs)
  (hS:w'.heap[S]?=some (.cells #[.bool s.tx,s.pg,s.code,.int .i64 now,.int .i64 last',pv',.slice (some ⟨Q,0,none⟩) 3 3,.string rec] 60 (0,0)))
  (hL:w'.ownsRow 0 144 1 pv' (rs.length+1) (zf8 (zbN rs)++[.pointer (some ⟨x.P,0,none⟩)]))
  (hx:zfx w' x) (hP:w.heap.size<=x.P) (hR:w.heap.size<=x.R) (hid:∀ y∈rs,y.p.id≠x.p.id)
  (hk:∀ k,k<w.heap.size->k≠S->pv.ownBlock≠some k->w'.heap[k]?=w.heap[k]?):SimAt w' S Q s pv' rec now last' qv qs (rs++[x]):=by
 have ne:∀ {k:Nat} {c:Array Value} {t:TypeId},w.heap[k]?=some (.cells c t (0,0))->t≠60->t≠144->w'.heap[k]?=w.heap[k]?:=fun {k c t} hc ht ht2=>hk k (zae hc) (zac hc h.sB ht) fun e=>by
  obtain ⟨c2,hc2⟩:=zad h.lB e
  exact zac hc hc2 ht2 rfl
 refine ⟨hS,(ne h.qB (by decide) (by decide)).trans h.qB,fun d hd=>zaj (h.oB d hd) fun b hb=>?_,h.dis,?_,fun y hy=>?_,?_⟩
 .obtain ⟨c,hc⟩:=zad (h.oB d hd) hb
  exact ne hc (by decide) (by decide)
 .have e:zf8 (zbN (rs++[x]))=zf8 (zbN rs)++[.pointer (some ⟨x.P,0,none⟩)]:=by simp [zf8,zbN]
  rw [e,List.length_append]
  exact hL
 .rcases List.mem_append.mp hy with hy|hy
  .obtain ⟨b1,b2,b3⟩:=h.rB y hy
   exact ⟨(ne b1 (by decide) (by decide)).trans b1,(ne b2 (by decide) (by decide)).trans b2,b3⟩
  .rw [List.mem_singleton.mp hy];exact hx
 .rw [List.pairwise_append]
  refine ⟨h.nd,List.pairwise_singleton _ _,fun y hy z hz=>?_⟩
  rw [List.mem_singleton.mp hz]
  have h1:=zae (h.rB y hy).1
  have h2:=zae (h.rB y hy).2.1
  exact ⟨by omega,by omega,hid y hy⟩
theorem zpy {dev:Int}(h:¬ (0<=dev/\dev<=2)):zam dev 0 2=false:=by
 unfold zam;simp;omega
theorem zla {dev:Int}(h:0<=dev/\dev<=2):zam dev 0 2=true:=by
 unfold zam;simp;omega
set_option maxRecDepth 20000 in
theorem zjP {RT:Type}{M:Mode RT}(S Q:Nat)(rec:ByteArray)(h:Her RT)(pv:Value)(qv:Nat->Value)(rs:List Rs)(dev:Int)(w:World)(H:SimH M w S Q rec h pv qv rs)(hd:¬ (0<=dev/\dev<=2)):
  Calls Tryz.prog 35 #[.pointer (some ⟨S,0,none⟩),.int .i64 dev] w fun e w'=>e=.returned (.tuple #[.int .i64 0,.int .i64 8])/\SimOut M w S Q pv qv rs rec h w':=by
 have HS:Hid (SimOut M w S Q pv qv rs rec h w):=SimOut.same H (SameH.refl w) fun _ _ hl=>hl
 have hb:=zpy hd
 clear hd H
 go_enter Tryz.func35,Tryz.ntmps35
 go_wp2_with fail
 refine (zar _ _ _ _).mono ?_
 rintro e w1 ⟨rfl,rfl⟩
 rw [hb]
 go_wp2_with fail
 go_ret2
 exact ⟨rfl,HS.out⟩
set_option maxRecDepth 20000 in
theorem ziK {RT:Type}{M:Mode RT}(S Q:Nat)(rec:ByteArray)(h:Her RT)(pv:Value)(qv:Nat->Value)(rs:List Rs)(dev:Int)(w:World)(H:SimH M w S Q rec h pv qv rs)(hd:0<=dev/\dev<=2)(hl:5<=h.rs.length):
  Calls Tryz.prog 35 #[.pointer (some ⟨S,0,none⟩),.int .i64 dev] w fun e w'=>e=.returned (.tuple #[.int .i64 0,.int .i64 9])/\SimOut M w S Q pv qv rs rec h w':=by
 have HS:Hid (SimOut M w S Q pv qv rs rec h w):=SimOut.same H (SameH.refl w) fun _ _ hl=>hl
 have hb:=zla hd
 have hl2:5<=rs.length:=by rw [zdG H.rel];exact hl
 obtain ⟨pa,pc,hpv⟩:=zag H.at'.lB
 have c5:w.cell? ⟨S,5,none⟩=some (.slice pa rs.length pc):=by rw [<- hpv];exact (zaa H.at'.sB).trans rfl
 clear hd H hl hpv
 go_enter Tryz.func35,Tryz.ntmps35
 go_wp2_with fail
 refine (zar _ _ _ _).mono ?_
 rintro e w1 ⟨rfl,rfl⟩
 rw [hb]
 go_wp2_with fail
 go_ret2
 exact ⟨rfl,HS.out⟩
def zkM:Array Value:=Array.replicate 12 (.int .i64 0)
theorem zqx (W:World):(Instr.makeSlice 123 (.int .i64 12) (.int .i64 12)).run Tryz.prog W=.ok (.slice (some ⟨W.heap.size,0,none⟩) 12 12) (W.alloc (.cells zkM 3)):=by
 obtain ⟨i0,hi,hz0,hz1,hz2⟩:=info_parts Tryz.infoInt
 rw [run_make W 123 3 i0 _ Tryz.underlying123 hi hz0 .i64 .i64 12 12 (by decide) (by decide) (by rw [hz2];decide) (by decide),hz1]
 have e:madeCells (Value.int .i64 0).cells (Int.toNat 12*1)=zkM:=by kernel_rfl
 rw [e]
 rfl
def ziU (w:World)(S:Nat)(id dev:Int):World:=
 ((w.setCell ⟨S,4,none⟩ (.int .i64 id)).alloc (.cells zkM 3)).alloc (.cells #[.int .i64 id,.int .i64 dev,.int .i64 0,.int .i64 0,.int .i64 0,.slice none 0 0,.slice none 0 0,.slice (some ⟨w.heap.size,0,none⟩) 12 12,.int .i64 0,.int .i64 0] 147)
def zfQ (w:World)(id dev:Int):Rs:=⟨w.heap.size+1,w.heap.size,.slice none 0 0,.slice none 0 0,zaZ id dev⟩
theorem znx (w:World)(S:Nat)(id dev:Int):(ziU w S id dev).heap.size=w.heap.size+2:=by simp [ziU]
theorem zib (w:World)(S:Nat)(id dev:Int){k:Nat}(hk:k<w.heap.size)(hS:k≠S):(ziU w S id dev).heap[k]?=w.heap[k]?:=by
 unfold ziU
 rw [Below.heap_alloc _ _ _ (by simp;omega),Below.heap_alloc _ _ _ (by simpa using hk),Below.heap_setCell _ _ _ _ hS]
theorem zpi {w:World}{S:Nat}{id0 now:Int}{tx:Bool}{a b c d e:Value}(id dev:Int)(h:w.heap[S]?=some (.cells #[.bool tx,a,b,.int .i64 now,.int .i64 id0,c,d,e] 60 (0,0))):
  (ziU w S id dev).heap[S]?=some (.cells #[.bool tx,a,b,.int .i64 now,.int .i64 id,c,d,e] 60 (0,0)):=by
 have hk:=zae h
 unfold ziU
 rw [Below.heap_alloc _ _ _ (by simp;omega),Below.heap_alloc _ _ _ (by simpa using hk),zah _ h]
 rfl
theorem zoL (w:World)(S:Nat)(id dev:Int):zfx (ziU w S id dev) (zfQ w id dev):=by
 have hs:(w.setCell ⟨S,4,none⟩ (.int .i64 id)).heap.size=w.heap.size:=by simp
 refine ⟨?_,?_,rfl⟩
 .have h:=zaw (w.setCell ⟨S,4,none⟩ (.int .i64 id)) (.cells zkM 3) (.cells #[.int .i64 id,.int .i64 dev,.int .i64 0,.int .i64 0,.int .i64 0,.slice none 0 0,.slice none 0 0,.slice (some ⟨w.heap.size,0,none⟩) 12 12,.int .i64 0,.int .i64 0] 147)
  rw [hs] at h
  exact h
 .have h:=heap_alloc_new (w.setCell ⟨S,4,none⟩ (.int .i64 id)) (.cells zkM 3)
  rw [hs] at h
  have e:(ziU w S id dev).heap[w.heap.size]?=some (.cells zkM 3 (0,0)):=by
   unfold ziU
   rw [Below.heap_alloc _ _ _ (by simp),h]
  refine e.trans ?_
  congr 1
theorem zpO (w:World)(S:Nat)(id dev:Int):Fr (fun k=>k=S) w (ziU w S id dev):=
 (((Fr.refl (fun k=>k=S) w).setCell ⟨S,4,none⟩ (Or.inl rfl) _).alloc _).alloc _
theorem zo7 {RT:Type}{M:Mode RT}{w V w2:World}{S Q:Nat}{rec:ByteArray}{h:Her RT}{pv:Value}{qv:Nat->Value}{rs:List Rs}{g cap:Nat}(H:SimH M w S Q rec h pv qv rs)(dev:Int)(hids:∀ y∈rs,y.p.id≠h.last+1)(h0:OneMore (ziU w S (h.last+1) dev) V)(hgrow:V.grownBy w2 pv.ownBlock)
  (hown:w2.ownsRow 0 144 1 (.slice (some ⟨g,0,none⟩) (rs.length+1) cap) (rs.length+1) (zf8 (zbN rs)++[.pointer (some ⟨w.heap.size+1,0,none⟩)])) (hat:pv.ownBlock=some g\/g=V.heap.size):
  SimAt (w2.setCell ⟨S,5,none⟩ (.slice (some ⟨g,0,none⟩) (rs.length+1) cap)) S Q M.s (.slice (some ⟨g,0,none⟩) (rs.length+1) cap) rec h.now (h.last+1) qv h.qs (rs++[zfQ w (h.last+1) dev]) /\
  Fr (zdc S Q pv qv rs) w (w2.setCell ⟨S,5,none⟩ (.slice (some ⟨g,0,none⟩) (rs.length+1) cap)) /\
  ∀ k,zdc S Q (.slice (some ⟨g,0,none⟩) (rs.length+1) cap) qv (rs++[zfQ w (h.last+1) dev]) k->zdc S Q pv qv rs k\/w.heap.size<=k:=by
 have hsz:=znx w S (h.last+1) dev
 have hS:=zpi (h.last+1) dev H.at'.sB
 have hrow:∀ {k:Nat},pv.ownBlock=some k->∃ c,w.heap[k]?=some (.cells c 144 (0,0)):=fun hk=>zad H.at'.lB hk
 have hrowW:∀ {k:Nat},pv.ownBlock=some k->k<w.heap.size:=fun hk=>by obtain ⟨c,hc⟩:=hrow hk;exact zae hc
 have hSrow:pv.ownBlock≠some S:=fun e=>by obtain ⟨c,hc⟩:=hrow e;exact zac hc H.at'.sB (by decide) rfl
 have hS2:=(zbs h0 hgrow (zae hS) hSrow).trans hS
 have hgS:g≠S:=by
  obtain ⟨cur,hc⟩:=zad hown (k:=g) rfl
  exact zac hc hS2 (by decide)
 have hSl:=zae H.at'.sB
 have hfr:Fr (zdc S Q pv qv rs) w (w2.setCell ⟨S,5,none⟩ (.slice (some ⟨g,0,none⟩) (rs.length+1) cap)):=by
  refine Fr.setCell ?_ ⟨S,5,none⟩ (Or.inl (Or.inl rfl)) _
  refine ((zpO w S (h.last+1) dev).mono (T:=zdc S Q pv qv rs) fun k _ hk=>.inl hk).trans ?_
  exact Fr.of_push h0 hgrow fun k hk=>.inr (.inr (.inr (.inl hk)))
 have hnew:∀ k,w.heap.size<=k->k<w.heap.size+2->(w2.setCell ⟨S,5,none⟩ (.slice (some ⟨g,0,none⟩) (rs.length+1) cap)).heap[k]?=(ziU w S (h.last+1) dev).heap[k]?:=fun k h1 h2=>by
  rw [Below.heap_setCell _ _ _ _ (show k≠S by omega)]
  exact zbs h0 hgrow (by omega) fun e=>by have:=hrowW e;omega
 refine ⟨H.at'.grow (zfQ w (h.last+1) dev) ?_ ?_ ?_ (Nat.le_succ _) (Nat.le_refl _) hids fun k hk hkS hkp=>?_,hfr,fun k hk=>?_⟩
 .rw [zah _ hS2];rfl
 .refine zaj hown fun k hk=>?_
  simp [Value.ownBlock] at hk
  subst hk
  exact Below.heap_setCell _ _ _ _ hgS
 .obtain ⟨r1,r2,r3⟩:=zoL w S (h.last+1) dev
  exact ⟨(hnew _ (Nat.le_succ _) (Nat.lt_succ_self _)).trans r1,(hnew _ (Nat.le_refl _) (by show w.heap.size<w.heap.size+2;omega)).trans r2,r3⟩
 .rw [Below.heap_setCell _ _ _ _ hkS,zbs h0 hgrow (by omega) hkp,zib _ _ _ _ hk hkS]
 .rcases hk with rfl|rfl|hk|hk|⟨y,hy,hk⟩
  .exact .inl (.inl rfl)
  .exact .inl (.inr (.inl rfl))
  .exact .inl (.inr (.inr (.inl hk)))
  .simp [Value.ownBlock] at hk
   subst hk
   rcases hat with e|e
   .exact .inl (.inr (.inr (.inr (.inl e))))
   .right;have:=h0.size;omega
  .rcases List.mem_append.mp hy with hy|hy
   .exact .inl (.inr (.inr (.inr (.inr ⟨y,hy,hk⟩))))
   .rw [List.mem_singleton.mp hy] at hk
    simp only [zfQ] at hk
    right;omega
end Go.Proofs.YtmmmnghiegajmaaGreat
