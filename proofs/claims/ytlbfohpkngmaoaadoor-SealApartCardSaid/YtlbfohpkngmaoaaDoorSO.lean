/- Texts of use, in one. -/
import Derived.Test.YtlbfohpkngmaoaaDoorS6
import Derived.Test.YtlbfohpkngmaoaaDoorT
import Derived.Test.YtlbfohpkngmaoaaDoorChBT
import Derived.Test.YtlbfohpkngmaoaaDoorChB
import Derived.Test.YtlbfohpkngmaoaaDoorOpen
import Derived.OpenShut
namespace Go.Proofs.YtlbfohpkngmaoaaDoor.Ch.B.Se
open Go Go.RowKit
def openTo (ks : Nat → List Int) (xs zs : List Int) (n an : Nat) (w : World) (e : Ending) (w' : World) : Prop :=
 (n < 16 ∧ e = .returned (.tuple #[.slice none 0 0, .int .i64 2])) ∨
 (∃ m, m + 16 = n ∧ ¬ codeV ks zs (xs.take m) an m = xs.drop m ∧ e = .returned (.tuple #[.slice none 0 0, .int .i64 6])) ∨
 (∃ m, m + 16 = n ∧ codeV ks zs (xs.take m) an m = xs.drop m ∧ ∃ g, e = .returned (.tuple #[.slice (some ⟨g, 0, none⟩) m m, .int .i64 0]) ∧ w.heap.size ≤ g ∧ Blk w' g 5 (ub (xorV ks 1 (xs.take m) m)).toArray)
attribute [local irreducible] wpList wpAny
set_option maxHeartbeats 1500000 in
set_option maxRecDepth 100000 in
theorem Open_any {KV NV : List Value} {ks : Nat → List Int} (hT : Two KV NV ks) (sp aa : Option Addr) (n cp an ac : Nat) (xs zs : List Int) (hn : n ≤ 5000) (han : an ≤ 5000) (hFX : Fit sp n cp) (hFA : Fit aa an ac) (w : World) (hX : Row w sp n xs) (hZ : Row w aa an zs) (hG : w.cell? ⟨0, 0, none⟩ = some (.iface 92 (.agg #[.pointer (some ⟨1, 42, none⟩)]))) :
  Calls Tryd.prog 9 #[.agg KV.toArray, .agg NV.toArray, .slice sp n cp, .slice aa an ac] w fun e w' => Below w.heap.size w w' ∧ openTo ks xs zs n an w e w' := by
 have HT := Lib.hid hT
 have HN := Lib.hid hn
 have HAN := Lib.hid han
 have HFX := Lib.hid hFX
 have HFA := Lib.hid hFA
 have HX := Lib.hid hX
 have HZ := Lib.hid hZ
 have HG := Lib.hid hG
 clear hT hn han hFX hFA hX hZ hG
 go_enter Tryd.func9, Tryd.ntmps9
 go_upto_region 1 with (fail)
 obtain ⟨W1, hW1⟩ : ∃ V, V = (w.alloc (.cells KV.toArray 23)).alloc (.cells NV.toArray 27) := ⟨_, rfl⟩
 rw [← hW1]
 have b1 : Below w.heap.size w W1 := by rw [hW1]; exact ((Below.refl _ _).alloc (Nat.le_refl _) _).alloc (by simp) _
 have F1 : Hid (Below w.heap.size w W1 ∧ Blk W1 w.heap.size 23 KV.toArray ∧ Blk W1 (w.heap.size + 1) 27 NV.toArray ∧ Row W1 sp n xs ∧ Row W1 aa an zs) := Lib.hid (by
  refine ⟨b1, ?_, ?_, HX.out.keep b1, HZ.out.keep b1⟩
  ·rw [hW1]; exact (Blk.new _ _ _).alloc _
  ·rw [hW1]; exact Blk.new' _ _ _ _ (by simp))
 clear hW1 b1
 generalize w.heap.size + 1 = g5 at *
 obtain ⟨g4, hg4⟩ : ∃ q, w.heap.size = q := ⟨_, rfl⟩
 have G4 : Hid (w.heap.size = g4) := Lib.hid hg4
 rw [hg4] at F1
 rw [hg4]
 clear hg4
 refine wp_region_lit ?_
 refine wpL_load 23 _ rfl rfl g4 0 rfl KV _ (blk_rangeC (F1.out.2.1)) Tryd.underlying23 rfl (by rw [HT.out.2.2.2.1]; kernel_rfl) ?_
 simp only [Act.put, List.setIfInBounds_toArray, List.set_cons_zero, List.set_cons_succ]
 refine wpL_load 27 _ rfl rfl g5 0 rfl NV _ (blk_rangeC (F1.out.2.2.1)) Tryd.underlying27 rfl (by rw [HT.out.2.2.2.2]; kernel_rfl) ?_
 simp only [Act.put, List.setIfInBounds_toArray, List.set_cons_zero, List.set_cons_succ]
 refine zP (.slice sp n cp) ?_
 refine zP (.slice aa an ac) ?_
 refine wpL_call 13 #[.agg KV.toArray, .agg NV.toArray, .slice sp n cp, .slice aa an ac] rfl (by kernel_rfl) ((open_any HT.out sp aa n cp an ac xs zs HN.out HAN.out HFX.out HFA.out W1 F1.out.2.2.2.1 F1.out.2.2.2.2).mono ?_)
 rintro e W2 ⟨b2, h2⟩
 have B2 : Hid (Below g4 w W2 ∧ g4 ≤ W2.heap.size ∧ W2.cell? ⟨0, 0, none⟩ = some (.iface 92 (.agg #[.pointer (some ⟨1, 42, none⟩)]))) := Lib.hid (by
  have l1 := F1.out.1.size
  have e4 := G4.out
  have h0 : 0 < w.heap.size := by
   rcases Nat.eq_zero_or_pos w.heap.size with h0 | h
   ·have hh := HG.out; simp [World.cell?, h0] at hh
   ·exact h
  have bb := F1.out.1.trans (b2.mono (by omega))
  exact ⟨bb, by have := bb.size; omega, by rw [bb.cell (by simp; omega)]; exact HG.out⟩)
 have LG : ∀ {q}, W1.heap.size ≤ q → g4 ≤ q := fun {q} hq => by have l1 := F1.out.1.size; have e4 := G4.out; omega
 clear F1
 rcases h2 with ⟨h16, rfl⟩ | ⟨m, hm, hc, rfl⟩ | ⟨m, hm, hc, go, rfl, lg, rg⟩
 ·refine ⟨_, rfl, ?_⟩
  simp only [Act.put, List.setIfInBounds_toArray, List.set_cons_zero, List.set_cons_succ]
  refine zP (.tuple #[.slice none 0 0, .iface 58 (.agg #[.iface 46 (.agg #[.int .i64 2])])]) ?_
  refine zP (.slice none 0 0) ?_
  refine zP (.iface 58 (.agg #[.iface 46 (.agg #[.int .i64 2])])) ?_
  refine zP (.slice none 0 0) ?_
  refine zP (.iface 58 (.agg #[.iface 46 (.agg #[.int .i64 2])])) ?_
  go_upto_region 2 with (fail)
  refine wp_region_lit ?_
  obtain ⟨W3, hW3⟩ : ∃ V, V = W2.alloc (.cells #[.int .i64 0] 46) := ⟨_, rfl⟩
  refine zV (.pointer (some ⟨W2.heap.size, 0, none⟩)) (W2.alloc (.cells #[.int .i64 0] 46)) (by kernel_rfl) ?_
  rw [← hW3]
  have B3 : Hid (Below W2.heap.size W2 W3 ∧ W3.cell? ⟨W2.heap.size, 0, none⟩ = some (.int .i64 0) ∧ W3.frozen? ⟨W2.heap.size, 0, none⟩ = false ∧ W3.cell? ⟨0, 0, none⟩ = some (.iface 92 (.agg #[.pointer (some ⟨1, 42, none⟩)]))) := Lib.hid (by
   have bb : Below W2.heap.size W2 W3 := by rw [hW3]; exact (Below.refl _ _).alloc (Nat.le_refl _) _
   have h0 : 0 < W2.heap.size := by
    rcases Nat.eq_zero_or_pos W2.heap.size with h0 | h
    ·have hh := B2.out.2.2; simp [World.cell?, h0] at hh
    ·exact h
   have bk : Blk W3 W2.heap.size 46 #[.int .i64 0] := by rw [hW3]; exact Blk.new _ _ _
   exact ⟨bb, by rw [bk.cell]; rfl, bk.free 0, by rw [bb.cell (by simp; omega)]; exact B2.out.2.2⟩)
  clear hW3
  go_upto_region 3 with (fail)
  refine wp_region_lit ?_
  refine zP (.iface 58 (.agg #[.iface 46 (.agg #[.int .i64 2])])) ?_
  refine zP (.iface 48 (.pointer (some ⟨W2.heap.size, 0, none⟩))) ?_
  refine wpL_call 14 #[.iface 58 (.agg #[.iface 46 (.agg #[.int .i64 2])]), .iface 48 (.pointer (some ⟨W2.heap.size, 0, none⟩))] rfl (by kernel_rfl) ((As.As_hit 2 ⟨W2.heap.size, 0, none⟩ (.int .i64 0) W3 B3.out.2.2.2 B3.out.2.1 B3.out.2.2.1).mono ?_)
  rintro e W4 ⟨rfl, b4, c4⟩
  refine ⟨_, rfl, ?_⟩
  simp only [Act.put, List.setIfInBounds_toArray, List.set_cons_zero, List.set_cons_succ]
  have B4 : Hid (Below g4 w W4) := Lib.hid (B2.out.1.trans ((B3.out.1.trans b4).mono B2.out.2.1))
  clear b4
  unfold wpList
  go_wp2_with fail
  go_region
  all_goals go_wp2_with fail
  all_goals go_ret2
  all_goals exact ⟨by rw [G4.out]; exact B4.out.drew, .inl ⟨h16, rfl⟩⟩
 ·refine ⟨_, rfl, ?_⟩
  simp only [Act.put, List.setIfInBounds_toArray, List.set_cons_zero, List.set_cons_succ]
  refine zP (.tuple #[.slice none 0 0, .iface 58 (.agg #[.iface 46 (.agg #[.int .i64 6])])]) ?_
  refine zP (.slice none 0 0) ?_
  refine zP (.iface 58 (.agg #[.iface 46 (.agg #[.int .i64 6])])) ?_
  refine zP (.slice none 0 0) ?_
  refine zP (.iface 58 (.agg #[.iface 46 (.agg #[.int .i64 6])])) ?_
  go_upto_region 2 with (fail)
  refine wp_region_lit ?_
  obtain ⟨W3, hW3⟩ : ∃ V, V = W2.alloc (.cells #[.int .i64 0] 46) := ⟨_, rfl⟩
  refine zV (.pointer (some ⟨W2.heap.size, 0, none⟩)) (W2.alloc (.cells #[.int .i64 0] 46)) (by kernel_rfl) ?_
  rw [← hW3]
  have B3 : Hid (Below W2.heap.size W2 W3 ∧ W3.cell? ⟨W2.heap.size, 0, none⟩ = some (.int .i64 0) ∧ W3.frozen? ⟨W2.heap.size, 0, none⟩ = false ∧ W3.cell? ⟨0, 0, none⟩ = some (.iface 92 (.agg #[.pointer (some ⟨1, 42, none⟩)]))) := Lib.hid (by
   have bb : Below W2.heap.size W2 W3 := by rw [hW3]; exact (Below.refl _ _).alloc (Nat.le_refl _) _
   have h0 : 0 < W2.heap.size := by
    rcases Nat.eq_zero_or_pos W2.heap.size with h0 | h
    ·have hh := B2.out.2.2; simp [World.cell?, h0] at hh
    ·exact h
   have bk : Blk W3 W2.heap.size 46 #[.int .i64 0] := by rw [hW3]; exact Blk.new _ _ _
   exact ⟨bb, by rw [bk.cell]; rfl, bk.free 0, by rw [bb.cell (by simp; omega)]; exact B2.out.2.2⟩)
  clear hW3
  go_upto_region 3 with (fail)
  refine wp_region_lit ?_
  refine zP (.iface 58 (.agg #[.iface 46 (.agg #[.int .i64 6])])) ?_
  refine zP (.iface 48 (.pointer (some ⟨W2.heap.size, 0, none⟩))) ?_
  refine wpL_call 14 #[.iface 58 (.agg #[.iface 46 (.agg #[.int .i64 6])]), .iface 48 (.pointer (some ⟨W2.heap.size, 0, none⟩))] rfl (by kernel_rfl) ((As.As_hit 6 ⟨W2.heap.size, 0, none⟩ (.int .i64 0) W3 B3.out.2.2.2 B3.out.2.1 B3.out.2.2.1).mono ?_)
  rintro e W4 ⟨rfl, b4, c4⟩
  refine ⟨_, rfl, ?_⟩
  simp only [Act.put, List.setIfInBounds_toArray, List.set_cons_zero, List.set_cons_succ]
  have B4 : Hid (Below g4 w W4) := Lib.hid (B2.out.1.trans ((B3.out.1.trans b4).mono B2.out.2.1))
  clear b4
  unfold wpList
  go_wp2_with fail
  go_region
  all_goals go_wp2_with fail
  all_goals go_ret2
  all_goals exact ⟨by rw [G4.out]; exact B4.out.drew, .inr (.inl ⟨m, hm, hc, rfl⟩)⟩
 ·have lg9 : g4 ≤ go := LG lg
  refine ⟨_, rfl, ?_⟩
  simp only [Act.put, List.setIfInBounds_toArray, List.set_cons_zero, List.set_cons_succ]
  refine zP (.tuple #[.slice (some ⟨go, 0, none⟩) m m, .nilIface]) ?_
  refine zP (.slice (some ⟨go, 0, none⟩) m m) ?_
  refine zP (.nilIface) ?_
  refine zP (.slice (some ⟨go, 0, none⟩) m m) ?_
  refine zP (.nilIface) ?_
  go_upto_region 2 with (fail)
  refine wp_region_lit ?_
  obtain ⟨W3, hW3⟩ : ∃ V, V = W2.alloc (.cells #[.int .i64 0] 46) := ⟨_, rfl⟩
  refine zV (.pointer (some ⟨W2.heap.size, 0, none⟩)) (W2.alloc (.cells #[.int .i64 0] 46)) (by kernel_rfl) ?_
  rw [← hW3]
  have B3 : Hid (Below W2.heap.size W2 W3 ∧ W3.cell? ⟨W2.heap.size, 0, none⟩ = some (.int .i64 0) ∧ W3.frozen? ⟨W2.heap.size, 0, none⟩ = false ∧ W3.cell? ⟨0, 0, none⟩ = some (.iface 92 (.agg #[.pointer (some ⟨1, 42, none⟩)]))) := Lib.hid (by
   have bb : Below W2.heap.size W2 W3 := by rw [hW3]; exact (Below.refl _ _).alloc (Nat.le_refl _) _
   have h0 : 0 < W2.heap.size := by
    rcases Nat.eq_zero_or_pos W2.heap.size with h0 | h
    ·have hh := B2.out.2.2; simp [World.cell?, h0] at hh
    ·exact h
   have bk : Blk W3 W2.heap.size 46 #[.int .i64 0] := by rw [hW3]; exact Blk.new _ _ _
   exact ⟨bb, by rw [bk.cell]; rfl, bk.free 0, by rw [bb.cell (by simp; omega)]; exact B2.out.2.2⟩)
  clear hW3
  go_upto_region 3 with (fail)
  refine wp_region_lit ?_
  refine zP (.nilIface) ?_
  refine zP (.iface 48 (.pointer (some ⟨W2.heap.size, 0, none⟩))) ?_
  refine wpL_call 14 #[.nilIface, .iface 48 (.pointer (some ⟨W2.heap.size, 0, none⟩))] rfl (by kernel_rfl) ((As.as_nil _ W3).mono ?_)
  rintro e W4 ⟨rfl, rfl⟩
  refine ⟨_, rfl, ?_⟩
  simp only [Act.put, List.setIfInBounds_toArray, List.set_cons_zero, List.set_cons_succ]
  have B4 : Hid (Below g4 w W4) := Lib.hid (B2.out.1.trans (B3.out.1.mono B2.out.2.1))
  unfold wpList
  go_wp2_with fail
  go_ret2
  exact ⟨by rw [G4.out]; exact B4.out, .inr (.inr ⟨m, hm, hc, go, rfl, by rw [G4.out]; exact lg9, rg.below B3.out.1⟩)⟩
end Go.Proofs.YtlbfohpkngmaoaaDoor.Ch.B.Se

namespace Go.Proofs.YtlbfohpkngmaoaaDoor.Ch.B.Se
open Go Go.RowKit
def N1 : List Int := [1, 0, 0, 0, 0, 0, 0, 0, 0, 0, 0, 0]
theorem pos_of {w : World} {v : Value} (h : w.cell? ⟨0, 0, none⟩ = some v) : 0 < w.heap.size := by
 rcases Nat.eq_zero_or_pos w.heap.size with h0 | h1
 ·simp [World.cell?, h0] at h
 ·exact h1
theorem sealV_byte {KV NV : List Value} {ks : Nat → List Int} (hT : Two KV NV ks) (xs zs : List Int) (n an : Nat) (hx : ∀ x ∈ xs, 0 ≤ x ∧ x ≤ 255) : ∀ x ∈ sealV ks xs zs n an, 0 ≤ x ∧ x ≤ 255 := by
 intro x h
 rcases List.mem_append.1 h with h | h
 ·exact xorV_byte hT _ _ _ hx x h
 ·exact codeV_byte _ _ _ _ _ x h
theorem seal_back {KV NV : List Value} {ks : Nat → List Int} (hT : Two KV NV ks) (xs zs : List Int) (m an : Nat) (hl : xs.length = m + 16) (hx : ∀ x ∈ xs, 0 ≤ x ∧ x ≤ 255) (hc : codeV ks zs (xs.take m) an m = xs.drop m) : sealV ks (xorV ks 1 (xs.take m) m) zs m an = xs := by
 unfold sealV
 rw [xorV_twice hT 1 m (xs.take m) (by rw [List.length_take]; omega) (fun x h => hx x (List.mem_of_mem_take h)), hc, List.take_append_drop]
theorem refseal_back {KV NV : List Value} {ks : Nat → List Int} {N : Nat} {ws : List Int} (hT : Two KV NV ks) {m an0 : Nat} {ys zs0 : List Int} (hm : m + 16 = N) (he : sealV ks ys zs0 m an0 = ws) (sp aa : Option Addr) (n cp an ac : Nat) (xs zs : List Int) (hn : n ≤ 5000) (han : an ≤ 5000) (hFA : Fit aa an ac) (w : World) (hR : Row w sp n xs) (hZ : Row w aa an zs) (e1 : n = m := by rfl) (e2 : xs = ys := by rfl) (e3 : zs = zs0 := by rfl) (e4 : an = an0 := by rfl) :
  Calls Tryd.prog 15 #[.agg KV.toArray, .agg NV.toArray, .slice sp n cp, .slice aa an ac] w fun e w' => givesO w e w' N ws := by
 subst e1 e2 e3 e4 hm he
 exact refseal_two hT sp aa n cp an ac xs zs hn han hFA w hR hZ
attribute [local irreducible] wpList wpAny wpAnyT
set_option maxHeartbeats 1500000 in
set_option maxRecDepth 100000 in
theorem opened_any {ks : Nat → List Int} (kx : List Int) (hT : Two (ub kx) (ub N1) ks) (sp aa : Option Addr) (n cp an ac : Nat) (xs zs : List Int) (hn : n ≤ 5000) (han : an ≤ 5000) (hFX : Fit sp n cp) (hFA : Fit aa an ac) (w : World) (hX : Row w sp n xs) (hZ : Row w aa an zs) (hG : w.cell? ⟨0, 0, none⟩ = some (.iface 92 (.agg #[.pointer (some ⟨1, 42, none⟩)]))) :
  Calls Tryd.prog 10 #[.agg (ub kx).toArray, .slice sp n cp, .slice aa an ac] w fun e w' => e = .returned (.bool true) ∧ Below w.heap.size w w' := by
 have HT := Lib.hid hT
 have HN := Lib.hid hn
 have HAN := Lib.hid han
 have HFX := Lib.hid hFX
 have HFA := Lib.hid hFA
 have HX := Lib.hid hX
 have HZ := Lib.hid hZ
 have HG := Lib.hid hG
 clear hT hn han hFX hFA hX hZ hG
 go_enter Tryd.func10, Tryd.ntmps10
 go_upto_region 1 with (fail)
 obtain ⟨W1, hW1⟩ : ∃ V, V = w.alloc (.cells (ub kx).toArray 23) := ⟨_, rfl⟩
 rw [← hW1]
 have b1 : Below w.heap.size w W1 := by rw [hW1]; exact (Below.refl _ _).alloc (Nat.le_refl _) _
 have F1 : Hid (Below w.heap.size w W1 ∧ Blk W1 w.heap.size 23 (ub kx).toArray ∧ Row W1 sp n xs ∧ Row W1 aa an zs) := Lib.hid ⟨b1, (by rw [hW1]; exact Blk.new _ _ _), HX.out.keep b1, HZ.out.keep b1⟩
 have HG1 : Hid (W1.cell? ⟨0, 0, none⟩ = some (.iface 92 (.agg #[.pointer (some ⟨1, 42, none⟩)]))) := Lib.hid (by rw [b1.cell (by have := pos_of HG.out; simp; omega)]; exact HG.out)
 clear hW1 b1
 obtain ⟨g3, hg3⟩ : ∃ q, w.heap.size = q := ⟨_, rfl⟩
 have G3 : Hid (w.heap.size = g3) := Lib.hid hg3
 rw [hg3] at F1
 rw [hg3]
 clear hg3
 refine wp_region_lit ?_
 refine wpL_load 23 _ rfl rfl g3 0 rfl (ub kx) _ (blk_rangeC (F1.out.2.1)) Tryd.underlying23 rfl (by rw [HT.out.2.2.2.1]; kernel_rfl) ?_
 simp only [Act.put, List.setIfInBounds_toArray, List.set_cons_zero, List.set_cons_succ]
 refine zP (.agg (ub N1).toArray) ?_
 refine zP (.slice sp n cp) ?_
 refine zP (.slice aa an ac) ?_
 refine wpL_call 9 #[.agg (ub kx).toArray, .agg (ub N1).toArray, .slice sp n cp, .slice aa an ac] rfl (by kernel_rfl) ((Open_any HT.out sp aa n cp an ac xs zs HN.out HAN.out HFX.out HFA.out W1 F1.out.2.2.1 F1.out.2.2.2 HG1.out).mono ?_)
 rintro e W2 ⟨b2, h2⟩
 have F2 : Hid (Below g3 w W2 ∧ Blk W2 g3 23 (ub kx).toArray ∧ Row W2 sp n xs ∧ Row W2 aa an zs) := Lib.hid ⟨F1.out.1.trans (b2.mono (by have := F1.out.1.size; have := G3.out; omega)), F1.out.2.1.below b2, F1.out.2.2.1.keep b2, F1.out.2.2.2.keep b2⟩
 have L1 := F1.out.1.size
 clear F1 HG1 b2
 rcases h2 with ⟨h16, rfl⟩ | ⟨m, hm, hc, rfl⟩ | ⟨m, hm, hc, go, rfl, lg, rg⟩
 ·refine ⟨_, rfl, ?_⟩
  simp only [Act.put, List.setIfInBounds_toArray, List.set_cons_zero, List.set_cons_succ]
  refine zP (.tuple #[.slice none 0 0, .int .i64 2]) ?_
  refine zP (.slice none 0 0) ?_
  refine zP (.int .i64 2) ?_
  refine zP (.slice none 0 0) ?_
  refine zP (.int .i64 2) ?_
  have H16 := Lib.hid h16
  go_upto_region 2 with (fail)
  refine wp_region_lit ?_
  refine zP (.int .i64 2) ?_
  refine zP (.bool true) ?_
  go_upto_region 3 with (fail)
  refine wp_region_lit ?_
  refine zP (.int .i64 2) ?_
  refine zP (.bool true) ?_
  refine zP (.slice sp n cp) ?_
  refine zP (.int .i64 (n : Int)) ?_
  refine zQ (.bool true) (run_lti Tryd.underlying3 rfl rfl rfl (by have := H16.out; rw [decide_eq_true_eq]; omega)) ?_
  refine zP (.bool true) ?_
  refine zP (.bool true) ?_
  refine zP (.int .i64 2) ?_
  refine zP (.bool true) ?_
  refine zP (.bool true) ?_
  refine wpL_skip (by kernel_rfl) ?_
  simp only [Act.put, List.setIfInBounds_toArray, List.set_cons_zero, List.set_cons_succ]
  refine wpL_skip (by kernel_rfl) ?_
  simp only [Act.put, List.setIfInBounds_toArray, List.set_cons_zero, List.set_cons_succ]
  refine zP (.bool true) ?_
  refine zP (.bool true) ?_
  refine zP (.bool true) ?_
  refine zP (.slice none 0 0) ?_
  refine zP (.int .i64 (0 : Int)) ?_
  refine zP (.bool true) ?_
  refine zP (.bool true) ?_
  refine zP (.bool true) ?_
  go_wp2_with fail
  go_ret
  exact ⟨rfl, by rw [G3.out]; exact F2.out.1⟩
 ·refine ⟨_, rfl, ?_⟩
  simp only [Act.put, List.setIfInBounds_toArray, List.set_cons_zero, List.set_cons_succ]
  refine zP (.tuple #[.slice none 0 0, .int .i64 6]) ?_
  refine zP (.slice none 0 0) ?_
  refine zP (.int .i64 6) ?_
  refine zP (.slice none 0 0) ?_
  refine zP (.int .i64 6) ?_
  have H16 := Lib.hid hm
  clear hc
  go_upto_region 2 with (fail)
  refine wp_region_lit ?_
  refine zP (.int .i64 6) ?_
  refine zP (.bool true) ?_
  go_upto_region 3 with (fail)
  refine wp_region_lit ?_
  refine zP (.int .i64 6) ?_
  refine zP (.bool false) ?_
  refine zP (.slice sp n cp) ?_
  refine zP (.int .i64 (n : Int)) ?_
  refine zQ (.bool false) (run_lti Tryd.underlying3 rfl rfl rfl (by have := H16.out; rw [decide_eq_false_iff_not]; omega)) ?_
  refine zP (.bool true) ?_
  refine zP (.bool true) ?_
  refine zP (.int .i64 6) ?_
  refine zP (.bool false) ?_
  refine zP (.bool false) ?_
  refine zP (.int .i64 6) ?_
  refine zP (.bool true) ?_
  refine zP (.bool true) ?_
  refine zP (.bool true) ?_
  refine zP (.bool true) ?_
  refine zP (.slice none 0 0) ?_
  refine zP (.int .i64 (0 : Int)) ?_
  refine zP (.bool true) ?_
  refine zP (.bool true) ?_
  refine zP (.bool true) ?_
  go_wp2_with fail
  go_ret
  exact ⟨rfl, by rw [G3.out]; exact F2.out.1⟩
 ·refine ⟨_, rfl, ?_⟩
  simp only [Act.put, List.setIfInBounds_toArray, List.set_cons_zero, List.set_cons_succ]
  refine zP (.tuple #[.slice (some ⟨go, 0, none⟩) m m, .int .i64 0]) ?_
  refine zP (.slice (some ⟨go, 0, none⟩) m m) ?_
  refine zP (.int .i64 0) ?_
  refine zP (.slice (some ⟨go, 0, none⟩) m m) ?_
  refine zP (.int .i64 0) ?_
  have HM := Lib.hid hm
  have HE := Lib.hid (seal_back HT.out xs zs m an (F2.out.2.2.1.1.trans hm.symm) F2.out.2.2.1.2.2.1 hc)
  have RY : Hid (Row W2 (some ⟨go, 0, none⟩) m (xorV ks 1 (xs.take m) m)) := Lib.hid (row_of_blk2 rg (by simp [xorV]) (by have := HN.out; omega) (xorV_byte HT.out _ _ _ (fun x hx => F2.out.2.2.1.2.2.1 x (List.mem_of_mem_take hx))))
  have HSB : Hid (∀ x ∈ xs, 0 ≤ x ∧ x ≤ 255) := Lib.hid F2.out.2.2.1.2.2.1
  have bd : Below W2.heap.size W2 W2.drew := (Below.refl _ _).drew
  have F3 : Hid (Below g3 w W2.drew ∧ Blk W2.drew g3 23 (ub kx).toArray ∧ Row W2.drew sp n xs ∧ Row W2.drew aa an zs ∧ Row W2.drew (some ⟨go, 0, none⟩) m (xorV ks 1 (xs.take m) m)) := Lib.hid ⟨F2.out.1.drew, F2.out.2.1.below bd, F2.out.2.2.1.keep bd, F2.out.2.2.2.keep bd, RY.out.keep bd⟩
  clear hm hc rg lg F2 RY L1 bd
  go_upto_region 2 with (fail)
  refine wp_region_lit ?_
  refine zP (.int .i64 0) ?_
  refine zP (.bool false) ?_
  go_upto_region 4 with (fail)
  refine region_anyT (fun X => Below g3 w X ∧ Blk X g3 23 (ub kx).toArray ∧ Row X sp n xs ∧ Row X aa an zs ∧ Row X (some ⟨go, 0, none⟩) m (xorV ks 1 (xs.take m) m)) (by kernel_rfl) 10 10 rfl ?_
  refine wpAnyT_take (i := 0) (oi := ⟨some 38, _, _, _, _, _⟩) (v := .agg (ub kx).toArray) rfl (by kernel_rfl) (by kernel_rfl) (by kernel_rfl) (fun _ _ _ h => h) (by kernel_rfl) (Or.inl ⟨rfl, fun w h => run_load_mid _ _ _ 23 _ rfl g3 0 rfl (ub kx) _ (blk_rangeC (h.2.1)) Tryd.underlying23 rfl (by rw [HT.out.2.2.2.1]; kernel_rfl)⟩) F3.out ?_
  simp only [Act.put, List.setIfInBounds_toArray, List.set_cons_zero, List.set_cons_succ]
  refine wpAnyT_take (i := 1) (oi := ⟨some 39, _, _, _, _, _⟩) (v := .agg (ub N1).toArray) rfl (by kernel_rfl) (by kernel_rfl) (by kernel_rfl) (fun _ _ _ h => h) (by kernel_rfl) (Or.inl ⟨rfl, fun w h => by kernel_rfl⟩) F3.out ?_
  simp only [Act.put, List.setIfInBounds_toArray, List.set_cons_zero, List.set_cons_succ]
  refine wpAnyT_take (i := 2) (oi := ⟨some 40, _, _, _, _, _⟩) (v := .slice (some ⟨go, 0, none⟩) m m) rfl (by kernel_rfl) (by kernel_rfl) (by kernel_rfl) (fun _ _ _ h => h) (by kernel_rfl) (Or.inl ⟨rfl, fun w h => by kernel_rfl⟩) F3.out ?_
  simp only [Act.put, List.setIfInBounds_toArray, List.set_cons_zero, List.set_cons_succ]
  refine wpAnyT_take (i := 3) (oi := ⟨some 41, _, _, _, _, _⟩) (v := .slice aa an ac) rfl (by kernel_rfl) (by kernel_rfl) (by kernel_rfl) (fun _ _ _ h => h) (by kernel_rfl) (Or.inl ⟨rfl, fun w h => by kernel_rfl⟩) F3.out ?_
  simp only [Act.put, List.setIfInBounds_toArray, List.set_cons_zero, List.set_cons_succ]
  refine wpAnyT_take (i := 6) (oi := ⟨some 44, _, _, _, _, _⟩) (v := .slice sp n cp) rfl (by kernel_rfl) (by kernel_rfl) (by kernel_rfl) (fun _ _ _ h => h) (by kernel_rfl) (Or.inl ⟨rfl, fun w h => by kernel_rfl⟩) F3.out ?_
  simp only [Act.put, List.setIfInBounds_toArray, List.set_cons_zero, List.set_cons_succ]
  refine wpAnyT_take (i := 7) (oi := ⟨some 45, _, _, _, _, _⟩) (v := .string (strOfNums xs)) rfl (by kernel_rfl) (by kernel_rfl) (by kernel_rfl) (fun _ _ _ h => h) (by kernel_rfl) (Or.inl ⟨rfl, fun w h => run_conv_str _ _ _ _ sp n cp xs rfl rfl (h.2.2.1)⟩) F3.out ?_
  simp only [Act.put, List.setIfInBounds_toArray, List.set_cons_zero, List.set_cons_succ]
  refine wpAnyT_one (i := 4) (by kernel_rfl) ?_
  refine op_call (o := ⟨some 42, _, _, _, _, _⟩) 15 #[.agg (ub kx).toArray, .agg (ub N1).toArray, .slice (some ⟨go, 0, none⟩) m m, .slice aa an ac] rfl rfl (by kernel_rfl) (((refseal_back HT.out HM.out HE.out (some ⟨go, 0, none⟩) aa m m an ac (xorV ks 1 (xs.take m) m) zs (by have := HN.out; have := HM.out; omega) (by have := HAN.out; omega) HFA.out W2.drew (F3.out.2.2.2.2) (F3.out.2.2.2.1))).mono fun e s1 ⟨as1, cs1, he, qs1, os1⟩ => ⟨.slice as1 n cs1, he, ?_, ?_⟩)
  ·exact fun _ => ⟨F3.out.1.trans (qs1.mono (by have h1 := F3.out.1.size; have h2 := G3.out; omega)), F3.out.2.1.below qs1, F3.out.2.2.1.keep qs1, F3.out.2.2.2.1.keep qs1, F3.out.2.2.2.2.keep qs1⟩
  simp only [Act.put, List.setIfInBounds_toArray, List.set_cons_zero, List.set_cons_succ]
  have Fs1 := Lib.hid (show Below g3 w s1 ∧ Blk s1 g3 23 (ub kx).toArray ∧ Row s1 sp n xs ∧ Row s1 aa an zs ∧ Row s1 (some ⟨go, 0, none⟩) m (xorV ks 1 (xs.take m) m) ∧ Row s1 as1 n xs from ⟨F3.out.1.trans (qs1.mono (by have h1 := F3.out.1.size; have h2 := G3.out; omega)), F3.out.2.1.below qs1, F3.out.2.2.1.keep qs1, F3.out.2.2.2.1.keep qs1, F3.out.2.2.2.2.keep qs1, (Own.row os1).1⟩)
  clear qs1
  refine wpAnyT_more (S' := fun X => Below g3 w X ∧ Blk X g3 23 (ub kx).toArray ∧ Row X sp n xs ∧ Row X aa an zs ∧ Row X (some ⟨go, 0, none⟩) m (xorV ks 1 (xs.take m) m) ∧ Row X as1 n xs) (fun w h => ⟨h.1, h.2.1, h.2.2.1, h.2.2.2.1, h.2.2.2.2.1⟩) _ _ _ _ ?_
  refine wpAnyT_take (i := 5) (oi := ⟨some 43, _, _, _, _, _⟩) (v := .string (strOfNums xs)) rfl (by kernel_rfl) (by kernel_rfl) (by kernel_rfl) (fun _ _ _ h => h) (by kernel_rfl) (Or.inl ⟨rfl, fun w h => run_conv_str _ _ _ _ as1 n cs1 xs rfl rfl (h.2.2.2.2.2)⟩) Fs1.out ?_
  simp only [Act.put, List.setIfInBounds_toArray, List.set_cons_zero, List.set_cons_succ]
  refine wpAnyT_take (i := 8) (oi := ⟨some 46, _, _, _, _, _⟩) (v := .bool true) rfl (by kernel_rfl) (by kernel_rfl) (by kernel_rfl) (fun _ _ _ h => h) (by kernel_rfl) (Or.inl ⟨rfl, fun w h => run_str_eql _ _ _ _ _ xs xs true rfl rfl rfl (by simp) HSB.out HSB.out⟩) Fs1.out ?_
  simp only [Act.put, List.setIfInBounds_toArray, List.set_cons_zero, List.set_cons_succ]
  refine wpAnyT_take (i := 9) (oi := ⟨some 6, _, _, _, _, _⟩) (v := .bool true) rfl (by kernel_rfl) (by kernel_rfl) (by kernel_rfl) (fun _ _ _ h => h) (by kernel_rfl) (Or.inl ⟨rfl, fun w h => by kernel_rfl⟩) Fs1.out ?_
  simp only [Act.put, List.setIfInBounds_toArray, List.set_cons_zero, List.set_cons_succ]
  refine wpAnyT_done (by kernel_rfl) ?_ _
  go_wp2_with fail
  go_ret
  exact ⟨rfl, by rw [G3.out]; exact Fs1.out.1⟩
end Go.Proofs.YtlbfohpkngmaoaaDoor.Ch.B.Se

namespace Go.Proofs.YtlbfohpkngmaoaaDoor.Ch.B.Se
open Go Go.RowKit
theorem fit_of {w : World} {a : Option Addr} {n c : Nat} {zs : List Int} (h : IsRow .u8 w a n c zs) : Fit a n c := by
 rcases h with ⟨rfl, rfl, rfl, rfl⟩ | ⟨x, rfl, h1, h2, h3, h4, h5⟩
 ·exact ⟨Nat.le_refl _, by omega, fun h => by omega⟩
 ·have hm : c < 9223372036854775808 := by unfold maxLen at h2; omega
  refine ⟨h1, hm, fun hc p hp => ?_⟩
  cases hp
  have h := h4 0 (by omega)
  obtain ⟨g, o, s⟩ := x
  cases s with
  | none => rfl
  | some s =>
   simp [World.cell?, Addr.add] at h
   split at h <;> simp at h
end Go.Proofs.YtlbfohpkngmaoaaDoor.Ch.B.Se
namespace Go.Proofs.YtlbfohpkngmaoaaDoor
open Go Go.RowKit Go.ChangeShapes Go.WideShapes Go.ChangeAt
set_option maxRecDepth 100000 in
theorem open_two {H : Type} {enc : TypeId × Value → H} {W : World} {held : Bool} {b0 : Nat} {r : Reach} {v : Value} {d : DataW H} {ps : List MemPlace} (hval : Value.okWide Tryd.prog W r b0 32 v)
  (hd : DataW.Trod enc Tryd.prog W 0 (fun _ => true) held 32 v d ps) : ∃ a n c z b m e y, v = .agg #[.slice a n c, .slice b m e] ∧ IsRow .u8 W a n c z ∧ IsRow .u8 W b m e y := by
 simp only [Value.okWide, Tryd.underlying32] at hval
 obtain ⟨cs, rfl, hsz, _⟩ := hval
 obtain ⟨fuel, hf⟩ := hd
 simp only [Value.cells] at hf
 obtain ⟨xs, m, _, _, hlen, hl, hel⟩ := DataW.trod_array Tryd.underlying32 hf
 have c33 : Tryd.prog.cellsOf 24 = 1 := by kernel_rfl
 have c34 : Tryd.prog.cellsOf 32 = 2 := by kernel_rfl
 rw [c34] at hlen
 obtain ⟨v0, v1, hcs⟩ : ∃ v0 v1, cs.toList = [v0, v1] := by
  match cs.toList, hlen with
  | [v0, v1], _ => exact ⟨v0, v1, rfl⟩
 have one : ∀ (u : Value) (i : Nat), i < 2 → (cs.toList.drop (i * 1)).take 1 = [u] → ∃ a n c z, u = .slice a n c ∧ IsRow .u8 W a n c z := by
  intro u i hi hu
  have h := hel i hi
  rw [c33, hu, List.getElem?_eq_getElem (by omega)] at h
  rcases open_ints Tryd.underlying24 Tryd.underlying5 (by kernel_rfl) h with ⟨h1, _⟩ | ⟨y, l, c, zs, h1, _, hl', hm', hz, _, hcell, hwz⟩
  ·exact ⟨none, 0, 0, [], by simpa using h1, .inl ⟨rfl, rfl, rfl, rfl⟩⟩
  ·exact ⟨some y, l, c, zs, by simpa using h1, .inr ⟨y, rfl, hl', hm', by simpa using hz, hcell, hwz⟩⟩
 obtain ⟨a, n, c, z, rfl, h0⟩ := one v0 0 (by omega) (by rw [hcs]; rfl)
 obtain ⟨b, m', e, y, rfl, h1⟩ := one v1 1 (by omega) (by rw [hcs]; rfl)
 exact ⟨a, n, c, z, b, m', e, y, by rw [← Array.toArray_toList (xs := cs), hcs], h0, h1⟩
end Go.Proofs.YtlbfohpkngmaoaaDoor

