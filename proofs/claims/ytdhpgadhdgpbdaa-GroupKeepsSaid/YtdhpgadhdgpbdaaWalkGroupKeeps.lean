import Derived.Test.YtdhpgadhdgpbdaaG10
namespace Go.Proofs.Ytdhpgadhdgpbdaa
open Go.RowKit

theorem keeps_long (a : Option Addr) (len cap : Nat) (w : World) (hlen : 60 < len) (hm : len ≤ maxLen) :
    Calls Try.prog 5 #[.slice a len cap] w fun e w' => e = .returned (.bool true) ∧ Below w.heap.size w w' := by
  have hl : (60 : Int) < (len : Int) := by omega
  unfold maxLen at hm
  go_enter Try.func5, Try.ntmps5
  go_wp2_with fail
  refine (awake_any _).mono ?_
  rintro e w1 ⟨rfl, hb⟩
  have HB := Lib.hid hb
  clear hb
  go_wp2_with fail
  refine (awake_any _).mono ?_
  rintro e w2 ⟨rfl, hb2⟩
  have B2 : Hid (Below w.heap.size w w2) := Lib.hid (HB.out.trans (hb2.mono HB.out.size))
  clear hb2 HB
  go_wp2_with fail
  go_ret
  exact ⟨rfl, B2.out⟩
theorem keeps_none (a : Option Addr) (cap : Nat) (w : World) :
    Calls Try.prog 5 #[.slice a 0 cap] w fun e w' => e = .returned (.bool true) ∧ Below w.heap.size w w' := by
  go_enter Try.func5, Try.ntmps5
  go_wp2_with fail
  refine (awake_any _).mono ?_
  rintro e w1 ⟨rfl, hb⟩
  have HB := Lib.hid hb
  clear hb
  go_wp2_with fail
  refine wp_loop_rounds 1 ?_
  rw [rounds_succ]
  go_wp2_with fail
  go_ret
  exact ⟨rfl, HB.out.alloc HB.out.size _⟩
theorem walkGroupKeeps (a : Option Addr) (len cap : Nat) (w : World) (hs : AreSteps w a len cap) :
    Calls Try.prog 5 #[.slice a len cap] w fun e w' => e = .returned (.bool true) ∧ Below w.heap.size w w' := by
  rcases hs with rfl | ⟨b, off, rfl, hl, hm, hst⟩
  · exact keeps_none a cap w
  · by_cases h60 : len ≤ 60
    · by_cases h0 : len = 0
      · subst h0; exact keeps_none _ cap w
      · exact walkKeeps b off len cap w (by omega) hst h60
    · exact keeps_long _ len cap w (by omega) (by omega)
end Go.Proofs.Ytdhpgadhdgpbdaa
