import Derived.Test.YtlbfohpkngmaoaaChR2
import Derived.Test.YtlbfohpkngmaoaaChB
import Derived.Lib.Hide
import Derived.IntWalk
import Derived.LoopTactic
import Derived.Deep.DeepCutAuto
import Derived.WalkKit
namespace Go.Proofs.Ytlbfohpkngmaoaa.Ch.B
open Go Go.RowKit
theorem bcell {w : World} {g t : Nat} {cs : Array Value} (h : w.heap[g]? = some (.cells cs t (0, 0))) (j : Nat) : w.cell? ⟨g, j, none⟩ = cs[j]? := cell_of_row w _ _ _ _ _ h
def K3 (p5 p3 p4 : Nat) (a b : World) : Prop := a.heap.size ≤ b.heap.size ∧ b.heap[p5]? = a.heap[p5]? ∧ b.heap[p3]? = a.heap[p3]? ∧ b.heap[p4]? = a.heap[p4]?
theorem K3.trans {p5 p3 p4 : Nat} {a b c : World} (h : K3 p5 p3 p4 a b) (k : K3 p5 p3 p4 b c) : K3 p5 p3 p4 a c := ⟨Nat.le_trans h.1 k.1, k.2.1.trans h.2.1, k.2.2.1.trans h.2.2.1, k.2.2.2.trans h.2.2.2⟩
theorem K3.of {p5 p3 p4 B : Nat} {a b : World} (h : Below B a b) (h5 : p5 < B) (h3 : p3 < B) (h4 : p4 < B) : K3 p5 p3 p4 a b := ⟨h.size, h.block _ h5, h.block _ h3, h.block _ h4⟩
theorem K3.setCell {p5 p3 p4 g o : Nat} {v : Value} (W : World) (h5 : p5 ≠ g) (h3 : p3 ≠ g) (h4 : p4 ≠ g) : K3 p5 p3 p4 W (W.setCell ⟨g, o, none⟩ v) :=
 ⟨Nat.le_of_eq (by simp), heap_setCell_other _ _ _ _ h5, heap_setCell_other _ _ _ _ h3, heap_setCell_other _ _ _ _ h4⟩
theorem K3.putObj {p5 p3 p4 L : Nat} (h5 : p5 < L) (h3 : p3 < L) (h4 : p4 < L) (W : World) (l : Nat) (o o' : Obj) (hl : L ≤ l) (_ : W.heap[l]? = some o) (_ : o.isCells = false) : K3 p5 p3 p4 W (W.putObj l o') :=
 ⟨by simp [World.putObj], World.putObj_heap_other (by omega), World.putObj_heap_other (by omega), World.putObj_heap_other (by omega)⟩
theorem gb_ofC {a b : World} (h : Below a.heap.size a b) (r : Option Nat) : a.grownBy b r := ⟨h.os, h.tape, h.output, h.size, fun k hk _ => h.block k hk⟩
theorem blk_rangeC {w : World} {g t : Nat} {l : List Value} (h : Blk w g t l.toArray) : w.rangeAt g 0 l := by
 intro j v hj
 rw [bcell h, Nat.zero_add, List.getElem?_toArray, hj]
attribute [local irreducible] wpList
set_option maxHeartbeats 4000000 in
set_option maxRecDepth 100000 in
theorem blocks_hands (KV NV : List Value) (c : Nat) (hc : c < 4294967296) (enc : Nat → Value) (hKL : KV.length = 32 ∧ NV.length = 12)
  (hB : ∀ k W, Calls Try.prog 18 #[.agg KV.toArray, .agg NV.toArray, .int .u32 (((c + k) % 4294967296 : Nat) : Int)] W fun e w' => e = .returned (enc k) ∧ Below W.heap.size W w')
  (g5 g3 g4 N : Nat) (w : World) (hN : N ≤ 1000000) (b5 : Blk w g5 22 #[.int .u32 (c : Int)]) (b3 : Blk w g3 32 KV.toArray) (b4 : Blk w g4 26 NV.toArray) :
  Hands Fence.wide 3 Try.prog 29 #[.pointer (some ⟨g5, 0, none⟩), .pointer (some ⟨g3, 0, none⟩), .pointer (some ⟨g4, 0, none⟩)] enc (K3 g5 g3 g4) N w := by
 intro l J Jx W hW hJ hJx hJN hY h0
 refine callsIn_wide.2 ?_
 show Calls Try.prog 29 #[.func (.yield l) #[] #[], .pointer (some ⟨g5, 0, none⟩), .pointer (some ⟨g3, 0, none⟩), .pointer (some ⟨g4, 0, none⟩)] W fun e W' => (∃ v, e = .returned v) ∧ Jx W'
 have HC := Lib.hid hc
 have HKL := Lib.hid hKL
 have HB := Lib.hid hB
 have HN1 := Lib.hid hN
 have HG2 : Hid (∀ X, K3 g5 g3 g4 w X → Blk X g5 22 #[.int .u32 (c : Int)] ∧ Blk X g3 32 KV.toArray ∧ Blk X g4 26 NV.toArray) := Lib.hid (fun X hX => ⟨hX.2.1.trans b5, hX.2.2.1.trans b3, hX.2.2.2.trans b4⟩)
 have KW : Hid (K3 g5 g3 g4 w W) := Lib.hid (K3.of hW b5.lt b3.lt b4.lt)
 have HGL : Hid (g5 < w.heap.size ∧ g3 < w.heap.size ∧ g4 < w.heap.size) := Lib.hid ⟨b5.lt, b3.lt, b4.lt⟩
 have HW := Lib.hid hW
 have HJ := Lib.hid hJ
 have HJN := Lib.hid hJN
 have HY := Lib.hid hY
 have H0 := Lib.hid h0
 clear hc hKL hB hN b5 b3 b4 hW hJ hJx hJN hY h0
 go_enter Try.func29, Try.ntmps29
 go_upto_region 0 with (fail)
 refine wp_region_lit ?_
 refine zQ (.int .u32 (c : Int)) (run_load_one _ _ _ 22 _ _ rfl (g5) (0) rfl (by rw [bcell (HG2.out W KW.out).1]; rfl) (by kernel_rfl)) ?_
 refine zP (.int .u32 (c : Int)) ?_
 go_wp2_with fail
 go_loopw [5] (fun s5 wr => ∃ k : Nat, s5 = .int .u32 (((c + k) % 4294967296 : Nat) : Int) ∧ Hid (J k wr ∧ K3 g5 g3 g4 w wr ∧ W.heap.size ≤ wr.heap.size)) (fun s5 _ => N - ((intOf s5 - c) % 4294967296).toNat)
 case atStart => exact ⟨0, by rw [Nat.add_zero, Nat.mod_eq_of_lt HC.out], Lib.hid ⟨H0.out, KW.out, Nat.le_refl _⟩⟩
 case round =>
  obtain ⟨k, rfl, RI⟩ := hrel
  have KN := Lib.hid (HJN.out k wr RI.out.1)
  go_upto_region 1 with (fail)
  refine (wpIn_wide (n := 3)).1 (wpIn_region_lit ?_)
  refine wpI_pure wide_fn (fun _ h => by cases h) (.func (.yield l) #[] #[]) rfl (by kernel_rfl) ?_
  simp only [Act.put, List.setIfInBounds_toArray, List.set_cons_zero, List.set_cons_succ]
  refine wpI_pure wide_fn (fun _ h => by cases h) (.agg KV.toArray) rfl (run_load_mid _ _ _ 32 _ rfl g3 0 rfl KV _ (blk_rangeC (HG2.out wr RI.out.2.1).2.1) Try.underlying32 rfl (by rw [HKL.out.1]; kernel_rfl)) ?_
  simp only [Act.put, List.setIfInBounds_toArray, List.set_cons_zero, List.set_cons_succ]
  refine wpI_pure wide_fn (fun _ h => by cases h) (.agg NV.toArray) rfl (run_load_mid _ _ _ 26 _ rfl g4 0 rfl NV _ (blk_rangeC (HG2.out wr RI.out.2.1).2.2) Try.underlying26 rfl (by rw [HKL.out.2]; kernel_rfl)) ?_
  simp only [Act.put, List.setIfInBounds_toArray, List.set_cons_zero, List.set_cons_succ]
  refine wpI_pure wide_fn (fun _ h => by cases h) (.int .u32 (((c + k) % 4294967296 : Nat) : Int)) rfl (by kernel_rfl) ?_
  simp only [Act.put, List.setIfInBounds_toArray, List.set_cons_zero, List.set_cons_succ]
  refine wpI_call wide_fn rfl (fun _ h => by cases h) 18 #[.agg KV.toArray, .agg NV.toArray, .int .u32 (((c + k) % 4294967296 : Nat) : Int)] rfl (by kernel_rfl) (callsIn_wide.2 ((HB.out k wr).mono fun e w2 ⟨he, hb⟩ => ⟨enc k, he, ?_⟩))
  simp only [Act.put, List.setIfInBounds_toArray, List.set_cons_zero, List.set_cons_succ]
  have J2 : Hid (J k w2 ∧ K3 g5 g3 g4 w w2 ∧ W.heap.size ≤ w2.heap.size) := Lib.hid ⟨HJ.out k wr w2 none RI.out.1 (gb_ofC hb none) (fun r e => by cases e), RI.out.2.1.trans (K3.of hb (Nat.lt_of_lt_of_le HGL.out.1 RI.out.2.1.1) (Nat.lt_of_lt_of_le HGL.out.2.1 RI.out.2.1.1) (Nat.lt_of_lt_of_le HGL.out.2.2 RI.out.2.1.1)), Nat.le_trans RI.out.2.2 hb.size⟩
  clear hb
  refine wpI_yield wide_fn rfl (fun _ h => by cases h) l #[enc k] rfl (by kernel_rfl) (HY.out k w2 J2.out.1) ?_
  rintro e X (⟨rfl, jx, bx⟩ | ⟨rfl, jx⟩)
  ·refine ⟨_, rfl, ?_⟩
   simp only [Act.put, List.setIfInBounds_toArray, List.set_cons_zero, List.set_cons_succ]
   have X1 : Hid (J (k + 1) X ∧ K3 g5 g3 g4 w X ∧ W.heap.size ≤ X.heap.size) := Lib.hid ⟨jx, J2.out.2.1.trans bx, Nat.le_trans J2.out.2.2 bx.1⟩
   clear jx bx
   refine wpListIn_nil ?_
   go_upto_region 2 with (fail)
   refine wp_region_lit ?_
   refine zP (.int .u32 (((c + k) % 4294967296 : Nat) : Int)) ?_
   refine zQ (.int .u32 (((c + (k + 1)) % 4294967296 : Nat) : Int)) (run_addi Try.underlying22 rfl rfl rfl _ (by rw [IntKind.wrap_u32]; omega)) ?_
   refine zP (.int .u32 (((c + (k + 1)) % 4294967296 : Nat) : Int)) ?_
   unfold wpList
   go_roundw
   case rel => first | exact ⟨k + 1, rfl, X1⟩ | ((repeat apply Exists.intro); exact ⟨⟨k + 1, rfl, X1⟩, rfl⟩)
   case measure => simp [intOf]; have := KN.out; have := HN1.out; omega
  ·refine ⟨_, rfl, ?_⟩
   simp only [Act.put, List.setIfInBounds_toArray, List.set_cons_zero, List.set_cons_succ]
   refine wpListIn_nil ?_
   go_wp2_with fail
   go_end0
   exact ⟨⟨_, rfl⟩, jx⟩
end Go.Proofs.Ytlbfohpkngmaoaa.Ch.B
