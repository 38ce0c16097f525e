import Derived.Test.YtlbfohpkngmaoaaDoorChC5
namespace Go.Proofs.YtlbfohpkngmaoaaDoor.Ch
open Go.RowKit
theorem blk3 (w : World) (A B C : Array Value) (s t u : TypeId) : Blk (((w.alloc (.cells A s)).alloc (.cells B t)).alloc (.cells C u)) w.heap.size s A ∧
  Blk (((w.alloc (.cells A s)).alloc (.cells B t)).alloc (.cells C u)) (w.heap.size + 1) t B ∧ Blk (((w.alloc (.cells A s)).alloc (.cells B t)).alloc (.cells C u)) (w.heap.size + 1 + 1) u C :=
 ⟨((Blk.new _ _ _).alloc _).alloc _, (Blk.new' _ _ _ _ (by simp)).alloc _, Blk.new' _ _ _ _ (by simp)⟩
theorem getD_lt (N : Nat) (hN : 0 < N) : ∀ (L : List Nat), (∀ x, x ∈ L → x < N) → ∀ j, L.getD j 0 < N
 | [], _, _ => by simpa using hN
 | a :: l, h, 0 => by simpa using h a (by simp)
 | a :: l, h, j + 1 => by simpa using getD_lt N hN l (fun x hx => h x (by simp [hx])) j
theorem st_w16 (X Y : Nat → Nat) (c : Nat) (bX : ∀ j, X j < 256) (bY : ∀ j, Y j < 256) (hc : c < 4294967296) : W16 [1634760805, 857760878, 2036477234, 1797285236, (le4 (X 0) (X 1) (X 2) (X 3)), (le4 (X 4) (X 5) (X 6) (X 7)), (le4 (X 8) (X 9) (X 10) (X 11)), (le4 (X 12) (X 13) (X 14) (X 15)), (le4 (X 16) (X 17) (X 18) (X 19)), (le4 (X 20) (X 21) (X 22) (X 23)), (le4 (X 24) (X 25) (X 26) (X 27)), (le4 (X 28) (X 29) (X 30) (X 31)), c, (le4 (Y 0) (Y 1) (Y 2) (Y 3)), (le4 (Y 4) (Y 5) (Y 6) (Y 7)), (le4 (Y 8) (Y 9) (Y 10) (Y 11))] := by
 refine ⟨rfl, getD_lt _ (by omega) _ ?_⟩
 intro x hx
 simp only [List.mem_cons, List.not_mem_nil, or_false] at hx
 rcases hx with h | h | h | h | h | h | h | h | h | h | h | h | h | h | h | h
 all_goals (rw [h]; first | omega | exact hc | exact le4_lt _ _ _ _ (bX _) (bX _) (bX _) (bX _) | exact le4_lt _ _ _ _ (bY _) (bY _) (bY _) (bY _))
def u8b (l : List Nat) : Array Value := (l.map fun (n : Nat) => Value.int .u8 (n : Int)).toArray
def ob (L M : List Nat) (i : Nat) : Nat := (M.getD (i / 4) 0 + L.getD (i / 4) 0) % 4294967296 / 256 ^ (i % 4) % 256
def obs (L M : List Nat) (n : Nat) : List Nat := (List.range 64).map fun i => if i / 4 < n then ob L M i else 0
theorem Blk.b8 {w : World} {g t v : Nat} {l : List Nat} (h : Blk w g t (u8b l)) (j : Nat) (hj : l[j]? = some v) {x : Int} (hx : (v : Int) = x) : w.cell? ⟨g, j, none⟩ = some (.int .u8 x) := by
 rw [cell_of_row w _ _ _ _ _ h]
 simp [u8b, hj, hx]
theorem Six.far {w w' : World} {g : Nat} {L : List Nat} (h : Six w g L) (e : w'.heap[g]? = w.heap[g]?) : Six w' g L := by
 intro j hj
 have e1 : w'.cell? ⟨g, j, none⟩ = w.cell? ⟨g, j, none⟩ := by simp [World.cell?, e]
 have e2 : w'.frozen? ⟨g, j, none⟩ = w.frozen? ⟨g, j, none⟩ := by simp [World.frozen?, e]
 rw [e1, e2]
 exact h j hj
theorem obs_size (L M : List Nat) (n : Nat) : (u8b (obs L M n)).size = 64 := by simp [u8b, obs]
theorem u8b_one (l : List Nat) : (u8b l).all (·.oneCell') = true := by simp [u8b, Value.oneCell']
theorem Blk.set8 {w : World} {g t : Nat} {l : List Nat} (h : Blk w g t (u8b l)) (o v : Nat) (x : Int) (hx : x = (v : Int)) : Blk (w.setCell ⟨g, o, none⟩ (.int .u8 x)) g t (u8b (l.set o v)) := by
 subst hx
 have e := heap_setCell_same w g o (u8b l) t (.int .u8 (v : Int)) h
 have e2 : (u8b l).setIfInBounds o (.int .u8 (v : Int)) = u8b (l.set o v) := by simp [u8b, List.map_set]
 rw [← e2]
 exact e
theorem ot1 (g o : Nat) (w : World) (v : Value) : Ot g w (w.setCell ⟨g, o, none⟩ v) := ⟨rfl, rfl, rfl, by simp, fun k hk => Below.heap_setCell _ _ _ _ hk⟩
theorem Ot.drew {g : Nat} {a w : World} (h : Ot g a w) : Ot g a w.drew := ⟨h.1, h.2.1, h.2.2.1, h.2.2.2.1, h.2.2.2.2⟩
theorem Blk.drew {g t : Nat} {w : World} {cs : Array Value} (h : Blk w g t cs) : Blk w.drew g t cs := h
theorem ot4 (g o p q r : Nat) (w : World) (v x y z : Value) : Ot g w ((((w.setCell ⟨g, o, none⟩ v).setCell ⟨g, p, none⟩ x).setCell ⟨g, q, none⟩ y).setCell ⟨g, r, none⟩ z).drew :=
 Ot.drew ((((ot1 g o w v).trans (ot1 g p _ x)).trans (ot1 g q _ y)).trans (ot1 g r _ z))
theorem map_set (f : Nat → Nat) (k j v : Nat) : ((List.range k).map f).set j v = (List.range k).map fun i => if j = i then v else f i := by
 apply List.ext_getElem?
 intro i
 simp only [List.getElem?_set, List.getElem?_map, List.length_map, List.length_range]
 by_cases h : j = i
 ·subst h
  simp only [if_true]
  by_cases hk : j < k
  ·simp [hk]
  ·simp [hk]
 ·rw [if_neg h]
  by_cases hk : i < k
  ·rw [List.getElem?_range hk]; simp [h]
  ·rw [List.getElem?_eq_none (by simp; omega)]; rfl
theorem obs_next (L M : List Nat) (n : Nat) (hn : n < 16) (S : Nat) (hS : (M.getD n 0 + L.getD n 0) % 4294967296 = S) :
  ((((obs L M n).set (4 * n) (S % 256)).set (4 * n + 1) (S / 256 % 256)).set (4 * n + 2) (S / 65536 % 256)).set (4 * n + 3) (S / 16777216) = obs L M (n + 1) := by
 have hlt : S < 4294967296 := by omega
 unfold obs
 rw [map_set, map_set, map_set, map_set]
 apply List.map_congr_left
 intro i _
 by_cases h3 : 4 * n + 3 = i
 ·rw [if_pos h3, if_pos (by omega), ob, show i / 4 = n by omega, show i % 4 = 3 by omega, hS]; first | done | omega
 rw [if_neg h3]
 by_cases h2 : 4 * n + 2 = i
 ·rw [if_pos h2, if_pos (by omega), ob, show i / 4 = n by omega, show i % 4 = 2 by omega, hS]; first | done | omega
 rw [if_neg h2]
 by_cases h1 : 4 * n + 1 = i
 ·rw [if_pos h1, if_pos (by omega), ob, show i / 4 = n by omega, show i % 4 = 1 by omega, hS]; first | done | omega
 rw [if_neg h1]
 by_cases h0 : 4 * n = i
 ·rw [if_pos h0, if_pos (by omega), ob, show i / 4 = n by omega, show i % 4 = 0 by omega, hS]; first | done | omega
 rw [if_neg h0]
 by_cases hi : i / 4 < n
 ·rw [if_pos hi, if_pos (by omega)]
 ·rw [if_neg hi, if_neg (by omega)]
theorem obs_set {w : World} {g t : Nat} {L M : List Nat} (n : Nat) (h : Blk w g t (u8b (obs L M n))) (hn : n < 16) (S : Nat) (hS : (M.getD n 0 + L.getD n 0) % 4294967296 = S) :
  Blk ((((w.setCell ⟨g, 4 * n, none⟩ (.int .u8 ((S : Int) % 256))).setCell ⟨g, 4 * n + 1, none⟩ (.int .u8 ((S : Int) / 256 % 256))).setCell ⟨g, 4 * n + 2, none⟩ (.int .u8 ((S : Int) / 65536 % 256))).setCell ⟨g, 4 * n + 3, none⟩ (.int .u8 ((S : Int) / 16777216))).drew g t (u8b (obs L M (n + 1))) := by
 rw [← obs_next L M n hn S hS]
 exact Blk.drew ((((h.set8 _ _ _ (by omega)).set8 _ _ _ (by omega)).set8 _ _ _ (by omega)).set8 _ _ _ (by omega))
end Go.Proofs.YtlbfohpkngmaoaaDoor.Ch
