import Derived.Test.YteblaknbehfkgaaK13a
import Derived.Test.YteblaknbehfkgaaK13b
import Derived.Test.YteblaknbehfkgaaK13c
import Derived.Test.YteblaknbehfkgaaK13d
namespace Go.Proofs.Yteblaknbehfkgaa
open Go Go.RowKit
theorem got_any (w : World) (q X : Nat) (a1 : Option Addr) (n1 c1 : Nat) (a : Option Addr) (n c : Nat) (xs : List Int) (h : Row w a n xs) (hc : n ≤ c) (hw : c < 9223372036854775808 ∧ (0 < c → ∀ p, a = some p → p.spot = none)) (hq : q < 256) (hX : X < 18446744073709551616) :
    Calls Try.prog 15 #[.slice a n c, .agg #[.int .u8 (q : Int), .int .u64 (X : Int), .slice a1 n1 c1]] w (GotP w (gotO (q % 4) X xs)) := by
  have hj : q % 4 = 0 ∨ q % 4 = 1 ∨ q % 4 = 2 ∨ q % 4 = 3 := by omega
  rcases hj with hj | hj | hj | hj
  · exact got0 w q X a1 n1 c1 a n c xs h hc hw hq hX hj
  · exact got1 w q X a1 n1 c1 a n c xs h hc hw hq hX hj
  · exact got2 w q X a1 n1 c1 a n c xs h hc hw hq hX hj
  · exact got3 w q X a1 n1 c1 a n c xs h hc hw hq hX hj
end Go.Proofs.Yteblaknbehfkgaa
