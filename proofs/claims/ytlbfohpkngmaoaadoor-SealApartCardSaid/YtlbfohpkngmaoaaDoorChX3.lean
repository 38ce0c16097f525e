/- The blocks of a stream, one behind the other: the numbers. -/
import Derived.Test.YtlbfohpkngmaoaaDoorChX2
import Derived.Test.YtlbfohpkngmaoaaDoorChB
namespace Go.Proofs.YtlbfohpkngmaoaaDoor.Ch.B
open Go Go.RowKit
def Two (KV NV : List Value) (ks : Nat → List Int) : Prop :=
 (∀ c, c < 4294967296 → ∀ W, Calls Tryd.prog 17 #[.agg KV.toArray, .agg NV.toArray, .int .u32 ((c : Nat) : Int)] W fun e w' => e = .returned (.agg (ub (ks c)).toArray) ∧ Below W.heap.size W w') ∧
 (∀ c, c < 4294967296 → ∀ W, Calls Tryd.prog 27 #[.agg KV.toArray, .agg NV.toArray, .int .u32 ((c : Nat) : Int)] W fun e w' => e = .returned (.agg (ub (ks c)).toArray) ∧ Below W.heap.size W w') ∧
 (∀ c, (ks c).length = 64 ∧ ∀ x ∈ ks c, 0 ≤ x ∧ x ≤ 255) ∧ KV.length = 32 ∧ NV.length = 12
def sb (ks : Nat → List Int) (c i : Nat) : Int := (ks ((c + i / 64) % 4294967296)).getD (i % 64) 0
def strm (ks : Nat → List Int) (c n : Nat) : List Int := (List.range n).map (sb ks c)
def xorV (ks : Nat → List Int) (c : Nat) (xs : List Int) (n : Nat) : List Int := (List.range n).map fun i => bits .xor .u8 (xs.getD i 0) (sb ks c i)
theorem sb_byte {KV NV : List Value} {ks : Nat → List Int} (h : Two KV NV ks) (c i : Nat) : 0 ≤ sb ks c i ∧ sb ks c i ≤ 255 := getD_byte (h.2.2.1 _).2 _
theorem bits_nat (a b : Nat) (ha : a < 256) (hb : b < 256) : bits .xor .u8 (a : Int) (b : Int) = ((a ^^^ b : Nat) : Int) ∧ a ^^^ b < 256 := by
 have h : a ^^^ b < 2 ^ 8 := Nat.xor_lt_two_pow (by omega) (by omega)
 refine ⟨?_, by omega⟩
 have h2 : ((a ^^^ b : Nat) : Int) < 256 := by omega
 simp [bits, IntKind.wrap, show IntKind.u8.bits = 8 from rfl, Nat.mod_eq_of_lt ha, Nat.mod_eq_of_lt hb, show IntKind.u8.signed = false from rfl]
 omega
theorem bits_xor (a b : Int) (ha : 0 ≤ a ∧ a ≤ 255) (hb : 0 ≤ b ∧ b ≤ 255) : ∃ x y : Nat, a = (x : Int) ∧ b = (y : Int) ∧ x < 256 ∧ y < 256 :=
 ⟨a.toNat, b.toNat, by omega, by omega, by omega, by omega⟩
theorem xor_byte (a b : Int) (ha : 0 ≤ a ∧ a ≤ 255) (hb : 0 ≤ b ∧ b ≤ 255) : 0 ≤ bits .xor .u8 a b ∧ bits .xor .u8 a b ≤ 255 := by
 obtain ⟨x, y, rfl, rfl, hx, hy⟩ := bits_xor a b ha hb
 have h := bits_nat x y hx hy
 rw [h.1]; omega
theorem xor_zero (b : Int) (hb : 0 ≤ b ∧ b ≤ 255) : bits .xor .u8 0 b = b := by
 obtain ⟨x, y, hx, rfl, hx', hy⟩ := bits_xor 0 b (by omega) hb
 have h := bits_nat 0 y (by omega) hy
 rw [show ((0 : Nat) : Int) = 0 from rfl, Nat.zero_xor] at h
 exact h.1
theorem xor_comm (a b : Int) (ha : 0 ≤ a ∧ a ≤ 255) (hb : 0 ≤ b ∧ b ≤ 255) : bits .xor .u8 a b = bits .xor .u8 b a := by
 obtain ⟨x, y, rfl, rfl, hx, hy⟩ := bits_xor a b ha hb
 rw [(bits_nat x y hx hy).1, (bits_nat y x hy hx).1, Nat.xor_comm]
theorem xor_twice (a b : Int) (ha : 0 ≤ a ∧ a ≤ 255) (hb : 0 ≤ b ∧ b ≤ 255) : bits .xor .u8 (bits .xor .u8 a b) b = a := by
 obtain ⟨x, y, rfl, rfl, hx, hy⟩ := bits_xor a b ha hb
 have h := bits_nat x y hx hy
 rw [h.1, (bits_nat _ y h.2 hy).1, Nat.xor_assoc, Nat.xor_self, Nat.xor_zero]
theorem strm_len (ks : Nat → List Int) (c n : Nat) : (strm ks c n).length = n := by simp [strm]
theorem xorV_len (ks : Nat → List Int) (c n : Nat) (xs : List Int) : (xorV ks c xs n).length = n := by simp [xorV]
theorem xorV_byte {KV NV : List Value} {ks : Nat → List Int} (h : Two KV NV ks) (c n : Nat) (xs : List Int) (hx : ∀ x ∈ xs, 0 ≤ x ∧ x ≤ 255) : ∀ x ∈ xorV ks c xs n, 0 ≤ x ∧ x ≤ 255 := by
 intro x hm
 obtain ⟨i, _, rfl⟩ := List.mem_map.1 hm
 exact xor_byte _ _ (getD_byte hx i) (sb_byte h c i)
theorem range_getD (f : Nat → Int) (n j : Nat) (hj : j < n) : ((List.range n).map f).getD j 0 = f j := by
 simp [List.getD, List.getElem?_range hj]
theorem xorV_twice {KV NV : List Value} {ks : Nat → List Int} (h : Two KV NV ks) (c n : Nat) (xs : List Int) (hl : xs.length = n) (hx : ∀ x ∈ xs, 0 ≤ x ∧ x ≤ 255) : xorV ks c (xorV ks c xs n) n = xs := by
 apply List.ext_getElem?
 intro i
 by_cases hi : i < n
 ·have e : (xorV ks c (xorV ks c xs n) n)[i]? = some (xs.getD i 0) := by
   unfold xorV
   rw [List.getElem?_map, List.getElem?_range hi]
   simp only [Option.map_some]
   rw [range_getD _ _ _ hi, xor_twice _ _ (getD_byte hx i) (sb_byte h c i)]
  rw [e, List.getD, List.getElem?_eq_getElem (by omega)]; rfl
 ·rw [List.getElem?_eq_none (by rw [xorV_len]; omega), List.getElem?_eq_none (by omega)]
theorem row_of_blk {w : World} {g n : Nat} {l : List Int} (h : Blk w g 5 (ub l).toArray) (hl : l.length = n) (hn : n ≤ 100000) (hb : ∀ x ∈ l, 0 ≤ x ∧ x ≤ 255) : Row w (some ⟨g, 0, none⟩) n l :=
 ⟨hl, by unfold maxLen; omega, hb, fun j hj => ⟨g, 0, rfl, ub_cell h (by omega)⟩⟩
theorem xor_two {KV NV : List Value} {ks : Nat → List Int} (h : Two KV NV ks) (c : Nat) (hc : c < 4294967296) (n cp : Nat) (sp : Option Addr) (xs : List Int) (hn : n ≤ 65536) (w : World) (hR : Row w sp n xs) :
  Calls Tryd.prog 11 #[.agg KV.toArray, .agg NV.toArray, .int .u32 (c : Int), .slice sp n cp] w fun e w' => ∃ g, e = .returned (.slice (some ⟨g, 0, none⟩) n n) ∧ Below w.heap.size w w' ∧ w.heap.size ≤ g ∧ Blk w' g 5 (ub (xorV ks c xs n)).toArray :=
 xor_any KV NV c hc h.2.2.2 (fun k => ks ((c + k) % 4294967296)) (fun k => (h.2.2.1 _).1) (fun k W => h.1 _ (Nat.mod_lt _ (by omega)) W) n cp sp xs _ hn (fun k i hi hki => by
  show _ = bits .xor .u8 (xs.getD (64 * k + i) 0) (sb ks c (64 * k + i))
  unfold sb
  rw [show (64 * k + i) / 64 = k by omega, show (64 * k + i) % 64 = i by omega]) w hR
end Go.Proofs.YtlbfohpkngmaoaaDoor.Ch.B
