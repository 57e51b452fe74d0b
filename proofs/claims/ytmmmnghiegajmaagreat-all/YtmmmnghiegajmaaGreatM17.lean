import Derived.Test.YtmmmnghiegajmaaGreatM09
import Derived.Deep.RegionWith
open Go.RowKit Go.Proofs.Herald
namespace Go.Proofs.YtmmmnghiegajmaaGreat
structure qR (d:Nat)(now:Int)(q:List aj)(p:Pr):Prop where
 hd:d<3
 hdev:p.dev=(d:Nat)
 hl:q.length<=4
 hs0:0<=p.sent
 hs1:p.sent<=1000000000000000000
 ht0:0<=now
 ht1:now<=1000000000
 regs:bI p
theorem oY {z:Int}(h:0<=z):∃ j:Nat,z=(j:Nat):=⟨z.toNat,by omega⟩
structure dI (d k:Nat)(now:Int)(q:List aj)(p0 p:Pr):Prop where
 ok:qR d now q p
 id:p.id=p0.id
 sent:p.sent<=p0.sent+k
end Go.Proofs.YtmmmnghiegajmaaGreat
