import Derived.Test.YtemmodflhoahkaaI4
import Derived.Test.YtemmodflhoahkaaI5
namespace Go.Proofs.Ytemmodflhoahkaa
open Go.RowKit

theorem walkItemLater (la lb lc : List Value) (a b c : Int) (ha : Hd la.toArray a b c) (x y z : Int) (hb : Hd lb.toArray x y z) (p q r : Int) (hc : Hd lc.toArray p q r) (w : World) :
    Calls Try.prog 3 #[.agg la.toArray, .agg lb.toArray, .agg lc.toArray] w fun e w' => e = .returned (.bool true) ∧ Below w.heap.size w w' := law_any la lb lc a b c x y z p q r ha hb hc w
end Go.Proofs.Ytemmodflhoahkaa
