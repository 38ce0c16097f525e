import Derived.Test.YtfhjfpgfbeiacaaDoorHaH15
import Derived.Test.YtfhjfpgfbeiacaaDoorHaP
namespace Go.Proofs.YtfhjfpgfbeiacaaDoor.Ha
open Go Go.RowKit
set_option maxRecDepth 100000

theorem mac_key {ks : List Int} (h : 64 < ks.length) (t : List Int) : macS (shaS ks) t = macS ks t := by
  have e : keyS (shaS ks) = keyS ks := by
    unfold keyS
    rw [if_pos h, if_neg (by rw [shaS_len]; omega)]
  unfold macS padK
  rw [e]
end Go.Proofs.YtfhjfpgfbeiacaaDoor.Ha
