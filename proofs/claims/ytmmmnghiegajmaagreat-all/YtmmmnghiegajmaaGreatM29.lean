import Derived.Test.YtmmmnghiegajmaaGreatM09
import Derived.Laws.BytesArg
open Go.RowKit Go.Proofs.Herald
namespace Go.Proofs.YtmmmnghiegajmaaGreat
def mr (c n:Int):Int:=(if c<0 then -(c+1) else c) % n
theorem AF (c n:Int)(hn:0<n):0<=mr c n/\mr c n<n:=by
 unfold mr;exact⟨Int.emod_nonneg _ (by omega),Int.emod_lt_of_pos _ hn⟩
end Go.Proofs.YtmmmnghiegajmaaGreat
