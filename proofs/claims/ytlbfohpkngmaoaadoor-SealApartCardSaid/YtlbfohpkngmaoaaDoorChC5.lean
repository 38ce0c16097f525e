import Derived.Test.YtlbfohpkngmaoaaDoorChC4
import Derived.Test.YtlbfohpkngmaoaaDoorChC1
namespace Go.Proofs.YtlbfohpkngmaoaaDoor.Ch
open Go.RowKit
def qA1 (L : List Nat) (a b : Nat) : Nat := (L.getD a 0 + L.getD b 0) % 4294967296
def qD1 (L : List Nat) (a b d : Nat) : Nat := rl 16 (L.getD d 0 ^^^ qA1 L a b)
def qC1 (L : List Nat) (a b c d : Nat) : Nat := (L.getD c 0 + qD1 L a b d) % 4294967296
def qB1 (L : List Nat) (a b c d : Nat) : Nat := rl 12 (L.getD b 0 ^^^ qC1 L a b c d)
def qA2 (L : List Nat) (a b c d : Nat) : Nat := (qA1 L a b + qB1 L a b c d) % 4294967296
def qD2 (L : List Nat) (a b c d : Nat) : Nat := rl 8 (qD1 L a b d ^^^ qA2 L a b c d)
def qC2 (L : List Nat) (a b c d : Nat) : Nat := (qC1 L a b c d + qD2 L a b c d) % 4294967296
def qB2 (L : List Nat) (a b c d : Nat) : Nat := rl 7 (qB1 L a b c d ^^^ qC2 L a b c d)
def qr (L : List Nat) (a b c d : Nat) : List Nat := (((L.set a (qA2 L a b c d)).set b (qB2 L a b c d)).set c (qC2 L a b c d)).set d (qD2 L a b c d)
def dround (L : List Nat) : List Nat := qr (qr (qr (qr (qr (qr (qr (qr L 0 4 8 12) 1 5 9 13) 2 6 10 14) 3 7 11 15) 0 5 10 15) 1 6 11 12) 2 7 8 13) 3 4 9 14
def drounds : Nat → List Nat → List Nat
 | 0, L => L
 | n + 1, L => dround (drounds n L)
def W16 (L : List Nat) : Prop := L.length = 16 ∧ ∀ j, L.getD j 0 < 4294967296
theorem getD_set (L : List Nat) (a x j : Nat) (ha : a < L.length) : (L.set a x).getD j 0 = if a = j then x else L.getD j 0 := by
 simp only [List.getD, List.getElem?_set, ha, if_true]
 split <;> simp
theorem W16.set {L : List Nat} (h : W16 L) (a x : Nat) (ha : a < 16) (hx : x < 4294967296) : W16 (L.set a x) := by
 refine ⟨by rw [List.length_set]; exact h.1, fun j => ?_⟩
 rw [getD_set _ _ _ _ (by rw [h.1]; exact ha)]
 split
 ·exact hx
 ·exact h.2 j
theorem xor32 {a b : Nat} (ha : a < 4294967296) (hb : b < 4294967296) : a ^^^ b < 4294967296 := Nat.xor_lt_two_pow (n := 32) ha hb
theorem qr_w16 {L : List Nat} (h : W16 L) (a b c d : Nat) (la : a < 16) (lb : b < 16) (lc : c < 16) (ld : d < 16) : W16 (qr L a b c d) := by
 have a1 : qA1 L a b < 4294967296 := Nat.mod_lt _ (by omega)
 have d1 : qD1 L a b d < 4294967296 := rl_16_lt _ (xor32 (h.2 _) a1)
 have c1 : qC1 L a b c d < 4294967296 := Nat.mod_lt _ (by omega)
 have b1 : qB1 L a b c d < 4294967296 := rl_12_lt _ (xor32 (h.2 _) c1)
 have a2 : qA2 L a b c d < 4294967296 := Nat.mod_lt _ (by omega)
 have d2 : qD2 L a b c d < 4294967296 := rl_8_lt _ (xor32 d1 a2)
 have c2 : qC2 L a b c d < 4294967296 := Nat.mod_lt _ (by omega)
 have b2 : qB2 L a b c d < 4294967296 := rl_7_lt _ (xor32 b1 c2)
 exact (((h.set a _ la a2).set b _ lb b2).set c _ lc c2).set d _ ld d2
theorem dround_w16 {L : List Nat} (h : W16 L) : W16 (dround L) := by
 unfold dround
 repeat refine qr_w16 ?_ _ _ _ _ (by omega) (by omega) (by omega) (by omega)
 exact h
theorem drounds_w16 {L : List Nat} (h : W16 L) : ∀ n, W16 (drounds n L)
 | 0 => h
 | n + 1 => dround_w16 (drounds_w16 h n)
def Six (w : World) (g : Nat) (L : List Nat) : Prop := ∀ j, j < 16 → w.cell? ⟨g, j, none⟩ = some (.int .u32 (L.getD j 0 : Nat)) ∧ w.frozen? ⟨g, j, none⟩ = false
def Ot (g : Nat) (w w' : World) : Prop := w'.os = w.os ∧ w'.tape = w.tape ∧ w'.output = w.output ∧ w'.heap.size = w.heap.size ∧ ∀ k, k ≠ g → w'.heap[k]? = w.heap[k]?
theorem Ot.refl (g : Nat) (w : World) : Ot g w w := ⟨rfl, rfl, rfl, rfl, fun _ _ => rfl⟩
theorem Ot.trans {g : Nat} {a b c : World} (h : Ot g a b) (k : Ot g b c) : Ot g a c := ⟨k.1.trans h.1, k.2.1.trans h.2.1, k.2.2.1.trans h.2.2.1, k.2.2.2.1.trans h.2.2.2.1, fun i hi => (k.2.2.2.2 i hi).trans (h.2.2.2.2 i hi)⟩
theorem Ot.blk {g k : Nat} {w w' : World} {t : TypeId} {cs : Array Value} (h : Ot g w w') (b : Blk w k t cs) (hk : k ≠ g) : Blk w' k t cs := (h.2.2.2.2 k hk).trans b
theorem Ot.below {g B : Nat} {a w w' : World} (h : Ot g w w') (b : Below B a w) (hB : B ≤ g) : Below B a w' :=
 ⟨h.1.trans b.os, h.2.1.trans b.tape, h.2.2.1.trans b.output, by rw [h.2.2.2.1]; exact b.size, fun k hk => (h.2.2.2.2 k (by omega)).trans (b.block k hk)⟩
theorem quarter16 (w : World) (g : Nat) (L : List Nat) (h : Six w g L) (hL : W16 L) (a b c d : Nat) (la : a < 16) (lb : b < 16) (lc : c < 16) (ld : d < 16) (ab : a ≠ b) (ac : a ≠ c) (ad : a ≠ d) (bc : b ≠ c) (bd : b ≠ d) (cd : c ≠ d) :
  Calls Tryd.prog 33 #[.pointer (some ⟨g, 0, none⟩), .int .i64 a, .int .i64 b, .int .i64 c, .int .i64 d] w fun e w' => e = .returned (.tuple #[]) ∧ Six w' g (qr L a b c d) ∧ Ot g w w' := by
 refine (quarter_eq w g a b c d (L.getD a 0) (L.getD b 0) (L.getD c 0) (L.getD d 0) (qA1 L a b) (qD1 L a b d) (qC1 L a b c d) (qB1 L a b c d) (qA2 L a b c d) (qD2 L a b c d) (qC2 L a b c d) (qB2 L a b c d)
  ⟨(h a la).1, (h b lb).1, (h c lc).1, (h d ld).1, (h a la).2, (h b lb).2, (h c lc).2, (h d ld).2⟩ la lb lc ld (hL.2 _) (hL.2 _) (hL.2 _) (hL.2 _) ab ac ad bc bd cd rfl rfl rfl rfl rfl rfl rfl rfl).mono ?_
 rintro e w' ⟨he, ⟨ca, cb, cc, ce, fa, fb, fc, fd⟩, ho⟩
 refine ⟨he, fun j hj => ⟨?_, (ho.frozen j).trans (h j hj).2⟩, ⟨ho.os, ho.tape, ho.output, ho.size, ho.block⟩⟩
 have e4 : (qr L a b c d).getD j 0 = if d = j then qD2 L a b c d else if c = j then qC2 L a b c d else if b = j then qB2 L a b c d else if a = j then qA2 L a b c d else L.getD j 0 := by
  unfold qr
  rw [getD_set _ _ _ _ (by simp only [List.length_set, hL.1]; exact ld), getD_set _ _ _ _ (by simp only [List.length_set, hL.1]; exact lc), getD_set _ _ _ _ (by simp only [List.length_set, hL.1]; exact lb), getD_set _ _ _ _ (by rw [hL.1]; exact la)]
 rw [e4]
 by_cases h1 : d = j
 ·subst h1; simp only [if_true]; exact ce
 by_cases h2 : c = j
 ·subst h2; simp only [if_true, h1, if_false]; exact cc
 by_cases h3 : b = j
 ·subst h3; simp only [if_true, h1, h2, if_false]; exact cb
 by_cases h4 : a = j
 ·subst h4; simp only [if_true, h1, h2, h3, if_false]; exact ca
 simp only [h1, h2, h3, h4, if_false]
 exact (ho.cell j (by simp only [List.mem_cons, List.not_mem_nil, or_false, not_or]; exact ⟨Ne.symm h4, Ne.symm h3, Ne.symm h2, Ne.symm h1⟩)).trans (h j hj).1
theorem Six.of {w : World} {g : Nat} {L : List Nat} (h : Blk w g 77 (u32s L)) (hL : L.length = 16) : Six w g L := fun j hj => ⟨h.u32 j (by omega), h.free j⟩
end Go.Proofs.YtlbfohpkngmaoaaDoor.Ch
