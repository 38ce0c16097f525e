/- What the laws want; a key whose second half is noughts. -/
import Derived.Test.YtbgmielhnklkgaaQ7
namespace Go.Proofs.Ytbgmielhnklkgaa
open Go Go.RowKit

theorem add_zero_addr (p : Addr) : p.add 0 = p := by
  unfold Addr.add
  simp
theorem spot_of {w : World} {b o : Nat} {sp : Option Nat} {v : Value} (h : w.cell? ⟨b, o, sp⟩ = some v) : sp = none := by
  cases sp with
  | none => rfl
  | some x =>
    unfold World.cell? at h
    split at h <;> simp at h
theorem sl_of {w : World} {a : Option Addr} {n c : Nat} {zs : List Int} (h : IsRow .u8 w a n c zs) : Sl w a n c (zs.take n) := by
  refine ⟨row_of h, ?_⟩
  rcases h with ⟨rfl, rfl, rfl, rfl⟩ | ⟨x, rfl, h2, h3, h4, h5, h6⟩
  · exact ⟨by omega, by omega, fun h => absurd h (by omega)⟩
  · unfold maxLen at h3
    refine ⟨h2, by omega, fun h0 p hp => ?_⟩
    cases hp
    obtain ⟨b, o, sp⟩ := x
    have q := h5 0 (by omega)
    rw [add_zero_addr] at q
    exact spot_of q
theorem u8_bounds {ks : List Int} (h : ∀ x ∈ ks, (Lit.int .u8 x).wf = true) : ∀ x ∈ ks, 0 ≤ x ∧ x ≤ 255 := fun x hx => bounds_u8 (h x hx)
theorem vd_digit {a : List Nat} (h : ∀ x ∈ a, x < 256) {i : Nat} (hi : i < a.length) : vd a / 256 ^ i % 256 = a.getD i 0 := by
  rw [← dg_get (vd a) a.length i hi, dg_vd a h]
theorem le16_cell {w : World} {g A k : Nat} (h : Blk w g 26 (u8l (le16 A)).toArray) (hk : k < 16) : w.cell? ⟨g, 0 + k, none⟩ = some (.int .u8 ((A / 256 ^ k % 256 : Nat) : Int)) := by
  rw [h.cell, Nat.zero_add]
  simp [u8l, le16, hk]
theorem ks_vb {key : List Int} (hk : key.length = 32) : ks key = vb (key.drop 16) := by
  unfold ks
  conv => rhs; rw [← List.take_append_drop 8 (key.drop 16), vb_append, List.drop_drop]
  rw [List.length_take, List.length_drop, hk, List.take_of_length_le (l := key.drop 24) (by rw [List.length_drop]; omega), show 256 ^ min 8 (32 - 16) = 18446744073709551616 by decide]
theorem key_cell {w : World} {g k : Nat} {key : List Int} (hk : key.length = 32 ∧ ∀ x ∈ key, 0 ≤ x ∧ x ≤ 255) (h : Blk w g 23 (u8l key).toArray) (hkk : k < 16) : w.cell? ⟨g, 0 + (16 + k), none⟩ = some (.int .u8 ((ks key / 256 ^ k % 256 : Nat) : Int)) := by
  have hx : 16 + k < key.length := by omega
  rw [h.cell, ks_vb hk.1, vb, vd_digit (nat_lt (fun x hx => hk.2 x (List.mem_of_mem_drop hx))) (by rw [List.length_map, List.length_drop]; omega), Nat.zero_add]
  have := hk.2 _ (List.getElem_mem hx)
  simp [u8l, List.getD, List.getElem?_drop, List.getElem?_eq_getElem hx]
  omega
/-- the carry of a sum, behind k digits. -/
def carry (a s k : Nat) : Nat := (a % 256 ^ k + s % 256 ^ k) / 256 ^ k
theorem carry_zero (a s : Nat) : carry a s 0 = 0 := by simp [carry, Nat.mod_one]
theorem carry_step {a s k c x y : Nat} (hc : carry a s k = c) (hx : a / 256 ^ k % 256 = x) (hy : s / 256 ^ k % 256 = y) : (a + s) / 256 ^ k % 256 = (c + x + y) % 256 ∧ (c + x + y) / 256 = carry a s (k + 1) ∧ c ≤ 1 ∧ x ≤ 255 ∧ y ≤ 255 := by
  have hP : 0 < 256 ^ k := Nat.pow_pos (by omega)
  have ha : a % 256 ^ (k + 1) = a % 256 ^ k + 256 ^ k * x := by rw [Nat.pow_succ, Nat.mod_mul, hx]
  have hs : s % 256 ^ (k + 1) = s % 256 ^ k + 256 ^ k * y := by rw [Nat.pow_succ, Nat.mod_mul, hy]
  have e1 : (a % 256 ^ (k + 1) + s % 256 ^ (k + 1)) / 256 ^ k = c + x + y := by
    rw [ha, hs, show a % 256 ^ k + 256 ^ k * x + (s % 256 ^ k + 256 ^ k * y) = a % 256 ^ k + s % 256 ^ k + 256 ^ k * (x + y) by rw [Nat.mul_add]; omega, Nat.add_mul_div_left _ _ hP]
    unfold carry at hc
    omega
  refine ⟨?_, ?_, ?_, by omega, by omega⟩
  · have e2 : (a + s) / 256 ^ k % 256 = (a + s) % 256 ^ (k + 1) / 256 ^ k := by rw [Nat.pow_succ, Nat.mod_mul_right_div_self]
    have e3 : (a % 256 ^ (k + 1) + s % 256 ^ (k + 1)) % 256 ^ (k + 1) / 256 ^ k = (a % 256 ^ (k + 1) + s % 256 ^ (k + 1)) / 256 ^ k % 256 := by rw [Nat.pow_succ, Nat.mod_mul_right_div_self]
    rw [e2, Nat.add_mod, e3, e1]
  · rw [← e1, Nat.div_div_eq_div_mul, ← Nat.pow_succ]
    rfl
  · rw [← hc]
    unfold carry
    have h1 := Nat.mod_lt a hP
    have h2 := Nat.mod_lt s hP
    have : (a % 256 ^ k + s % 256 ^ k) / 256 ^ k < 2 := by rw [Nat.div_lt_iff_lt_mul hP]; omega
    omega
theorem run_quo256 (a : Act) (o : Oper) (w : World) (x : Operand) (p q : Nat) (ho : o.op = .binOp .quo 3 x (.const (.int .i64 256)) 3) (hx : a.eval x = .int .i64 (p : Int)) (hq : p / 256 = q) (hp : p < 100000) : (execOp a.eval o).run Try.prog w = .ok (.value (.int .i64 (q : Int))) w := by
  have u := run_underlying Try.underlying3 w
  have hc : ∀ v, a.eval (.const v) = v := fun _ => rfl
  subst hq
  unfold execOp
  simp only [ho, hx, hc]
  go_simp
  simp [Int.tdiv_eq_ediv_of_nonneg, IntKind.wrap, IntKind.bits, IntKind.signed]
  try omega
theorem run_idxa23 (a : Act) (o : Oper) (w : World) (x i : Operand) (g off k : Nat) (ho : o.op = .indexAddr 23 x i) (hx : a.eval x = .pointer (some ⟨g, off, none⟩)) (hi : a.eval i = .int .i64 (k : Int)) (hk : k < 32) : (execOp a.eval o).run Try.prog w = .ok (.value (.pointer (some ⟨g, off + k, none⟩))) w := by
  have j0 : (0 : Int) ≤ (k : Int) := by omega
  have j6 : (k : Int) < 32 := by omega
  unfold execOp
  simp only [ho, hx, hi]
  go_simp
/-- a key whose bytes 16 to 16 + k are noughts. -/
def zk (key : List Int) (k : Nat) : List Int := key.take 16 ++ List.replicate k 0 ++ key.drop (16 + k)
theorem zk_zero (key : List Int) : zk key 0 = key := by simp [zk]
theorem zk_len {key : List Int} (h : key.length = 32) {k : Nat} (hk : k ≤ 16) : (zk key k).length = 32 := by simp [zk, h]; omega
theorem zk_ok {key : List Int} (h : key.length = 32 ∧ ∀ x ∈ key, 0 ≤ x ∧ x ≤ 255) {k : Nat} (hk : k ≤ 16) : (zk key k).length = 32 ∧ ∀ x ∈ zk key k, 0 ≤ x ∧ x ≤ 255 := by
  refine ⟨zk_len h.1 hk, fun x hx => ?_⟩
  unfold zk at hx
  rcases List.mem_append.1 hx with hx | hx
  · rcases List.mem_append.1 hx with hx | hx
    · exact h.2 x (List.mem_of_mem_take hx)
    · have := List.eq_of_mem_replicate hx; omega
  · exact h.2 x (List.mem_of_mem_drop hx)
theorem zk_set {w : World} {g k : Nat} {key : List Int} (hl : key.length = 32) (hk : k < 16) (h : Blk w g 23 (u8l (zk key k)).toArray) : Blk (w.setCell ⟨g, 16 + k, none⟩ (.int .u8 0)) g 23 (u8l (zk key (k + 1))).toArray := by
  have q := h.set (16 + k) (.int .u8 0)
  have e : (u8l (zk key k)).set (16 + k) (.int .u8 0) = u8l (zk key (k + 1)) := by
    unfold u8l zk
    rw [← List.map_set]
    congr 1
    have e0 : 16 + k - (key.take 16 ++ List.replicate k (0 : Int)).length = 0 := by simp [hl]
    rw [List.set_append_right _ _ (by simp [hl]), e0]
    obtain ⟨y, ys, hy⟩ : ∃ y ys, key.drop (16 + k) = y :: ys := by
      cases hd : key.drop (16 + k) with
      | nil => have := congrArg List.length hd; simp [hl] at this; omega
      | cons y ys => exact ⟨y, ys, rfl⟩
    have hys : key.drop (16 + (k + 1)) = ys := by rw [show 16 + (k + 1) = (16 + k) + 1 by omega, ← List.drop_drop, hy]; rfl
    rw [hy, hys, List.set_cons_zero, List.replicate_succ']
    simp
  rw [e] at q
  exact q
theorem Below_le {w : World} {g : Nat} (h : g < w.heap.size) : g ≤ w.heap.size := Nat.le_of_lt h
theorem below_eq {w w' : World} {g : Nat} (h : Below g w w') (e : w.heap.size = g) : Below w.heap.size w w' := by rw [e]; exact h
theorem shifts_step {w W X Y : World} {g2 : Nat} {l : List Int} (h : Below g2 w W) (hg : g2 < W.heap.size) (hg' : g2 ≤ W.heap.size) (hx : Below W.heap.size W X) (hy : Y = (X.alloc (.cells (u8l (List.replicate 16 0)).toArray 26)).setRow X.heap.size (u8l l).toArray) (hl : l.length = 16) :
    Below g2 w Y ∧ Below W.heap.size W Y ∧ Blk Y X.heap.size 26 (u8l l).toArray ∧ W.heap.size ≤ X.heap.size := by
  have q : Below W.heap.size W Y := by rw [hy]; exact below_setRow (hx.alloc hx.size _) hx.size _
  exact ⟨h.trans (q.mono hg'), q, by rw [hy]; exact setRow_heap _ _ _ _ _ _ (Blk.new X 26 (u8l (List.replicate 16 0)).toArray), hx.size⟩
theorem kr_zk {key : List Int} (hl : key.length = 32) : kr (zk key 16) = kr key := by
  have e : (zk key 16).take 16 = key.take 16 := by unfold zk; rw [List.append_assoc, List.take_append_of_le_length (by simp [hl]), List.take_take]; simp
  have e0 : ∀ k : List Int, (k.drop 0).take 8 = (k.take 16).take 8 := fun k => by rw [List.take_take]; simp
  have e8 : ∀ k : List Int, (k.drop 8).take 8 = (k.take 16).drop 8 := fun k => by rw [List.drop_take]
  unfold kr
  rw [e0, e8, e0 key, e8 key, e]
theorem ks_zk {key : List Int} (hl : key.length = 32) : ks (zk key 16) = 0 := by
  rw [ks_vb (zk_len hl (Nat.le_refl 16))]
  have hd : key.drop 32 = [] := List.drop_of_length_le (by omega)
  have ht : (key.take 16).length = 16 := by simp [hl]
  unfold zk
  rw [show 16 + 16 = 32 by omega, hd, List.append_nil, List.drop_append, ht, List.drop_of_length_le (by omega), Nat.sub_self, List.drop_zero, List.nil_append, vb_zeros]
theorem code_one (w : World) (key : List Int) (g : Nat) (t : List Int) (hk : key.length = 32 ∧ ∀ x ∈ key, 0 ≤ x ∧ x ≤ 255) (h : PSl w (some ⟨g, 0, none⟩) 1 [t]) :
    Calls Try.prog 10 #[.agg (u8l key).toArray, .slice (some ⟨g, 0, none⟩) 1 1] w fun e w' => e = .returned (.agg (u8l (codeS key t)).toArray) ∧ Below w.heap.size w w' := by
  have q := code_any w key (some ⟨g, 0, none⟩) 1 1 [t] hk h (by omega)
  rwa [show List.flatten [t] = t by simp] at q
attribute [local irreducible] wpList
set_option maxRecDepth 100000 in
set_option maxHeartbeats 8000000 in
theorem walkPolyShifts (key : List Int) (a : Option Addr) (n c : Nat) (z : List Int) (lx : key.length = 32) (wx : ∀ x ∈ key, (Lit.int .u8 x).wf = true) (w : World) (h : IsRow .u8 w a n c z) :
    Calls Try.prog 7 #[.agg (u8l key).toArray, .slice a n c] w fun e w' => e = .returned (.bool true) ∧ Below w.heap.size w w' := by
  have hs := sl_of h
  obtain ⟨t, ht⟩ : ∃ t, z.take n = t := ⟨_, rfl⟩
  rw [ht] at hs
  have HKY := Lib.hid (And.intro lx (u8_bounds wx))
  have HS := Lib.hid hs
  obtain ⟨A, hA⟩ : ∃ q, pacc (kr key) t ((t.length + 15) / 16) = q := ⟨_, rfl⟩
  have HA : Hid (codeS (zk key 16) t = le16 A ∧ codeS key t = le16 (A + ks key)) := Lib.hid ⟨by unfold codeS; rw [kr_zk lx, ks_zk lx, hA, Nat.add_zero], by unfold codeS; rw [hA]⟩
  clear h lx wx hs ht hA
  go_enter Try.func7, Try.ntmps7
  obtain ⟨w1, hw1⟩ : ∃ V, V = w.alloc (.cells (u8l key).toArray 23) := ⟨_, rfl⟩
  have B1 : Hid (Below w.heap.size w w1 ∧ Blk w1 w.heap.size 23 (u8l key).toArray) := Lib.hid (by rw [hw1]; exact ⟨(Below.refl _ _).alloc (Nat.le_refl _) _, Blk.new _ _ _⟩)
  have HW1 := Lib.hid hw1
  clear hw1
  go_upto_region 0 with (fail)
  refine wp_region_lit ?_
  refine wpL_value (.pointer (some ⟨w.heap.size, 0, none⟩)) (w1) rfl (run_box23 _ _ _ _ _ key rfl rfl HKY.out.1 HW1.out) ?_
  simp only [Act.put, List.setIfInBounds_toArray, List.set_cons_zero, List.set_cons_succ]
  refine wpL_pure (.bool false) rfl (by kernel_rfl) ?_
  simp only [Act.put, List.setIfInBounds_toArray, List.set_cons_zero, List.set_cons_succ]
  clear HW1
  obtain ⟨g2, hg2⟩ : ∃ q, w.heap.size = q := ⟨_, rfl⟩
  have G2 := Lib.hid hg2
  rw [hg2] at B1
  try rw [hg2]
  clear hg2
  by_cases hn : 200 < n
  · have HN := Lib.hid hn
    clear hn
    go_upto_region 1 with (fail)
    refine wp_region_lit ?_
    refine wpL_call 9 #[] rfl (by kernel_rfl) (((awake_any w1)).mono fun e w2 ⟨he, hq⟩ => ⟨.bool true, he, ?_⟩)
    simp only [Act.put, List.setIfInBounds_toArray, List.set_cons_zero, List.set_cons_succ]
    have B2 : Hid (Below g2 w w2 ∧ Blk w2 g2 23 (u8l key).toArray) := Lib.hid ⟨B1.out.1.trans (hq.mono (by have := B1.out.2.lt; omega)), B1.out.2.below hq⟩
    clear hq B1
    refine wpL_pure (.bool false) rfl (by kernel_rfl) ?_
    simp only [Act.put, List.setIfInBounds_toArray, List.set_cons_zero, List.set_cons_succ]
    refine wpL_pure (.bool false) rfl (by kernel_rfl) ?_
    simp only [Act.put, List.setIfInBounds_toArray, List.set_cons_zero, List.set_cons_succ]
    refine wpL_pure (.slice a n c) rfl (by kernel_rfl) ?_
    simp only [Act.put, List.setIfInBounds_toArray, List.set_cons_zero, List.set_cons_succ]
    refine wpL_pure (.int .i64 (n : Int)) rfl (by kernel_rfl) ?_
    simp only [Act.put, List.setIfInBounds_toArray, List.set_cons_zero, List.set_cons_succ]
    refine wpL_pure (.bool true) rfl (run_gti Try.underlying3 rfl rfl rfl (by have := HN.out; rw [decide_eq_true_eq]; omega)) ?_
    simp only [Act.put, List.setIfInBounds_toArray, List.set_cons_zero, List.set_cons_succ]
    refine wpL_pure (.bool true) rfl (by kernel_rfl) ?_
    simp only [Act.put, List.setIfInBounds_toArray, List.set_cons_zero, List.set_cons_succ]
    go_upto_region 2 with (fail)
    refine wp_region_lit ?_
    refine wpL_call 9 #[] rfl (by kernel_rfl) (((awake_any w2)).mono fun e w3 ⟨he, hq⟩ => ⟨.bool true, he, ?_⟩)
    simp only [Act.put, List.setIfInBounds_toArray, List.set_cons_zero, List.set_cons_succ]
    have B3 : Hid (Below g2 w w3 ∧ Blk w3 g2 23 (u8l key).toArray) := Lib.hid ⟨B2.out.1.trans (hq.mono (by have := B2.out.2.lt; omega)), B2.out.2.below hq⟩
    clear hq B2
    refine wpL_pure (.bool true) rfl (by kernel_rfl) ?_
    simp only [Act.put, List.setIfInBounds_toArray, List.set_cons_zero, List.set_cons_succ]
    go_wp2_with fail
    go_ret
    exact ⟨rfl, by rw [G2.out]; exact B3.out.1⟩
  · have HN := Lib.hid hn
    clear hn
    go_upto_region 1 with (fail)
    refine wp_region_lit ?_
    refine wpL_call 9 #[] rfl (by kernel_rfl) (((awake_any w1)).mono fun e w2 ⟨he, hq⟩ => ⟨.bool true, he, ?_⟩)
    simp only [Act.put, List.setIfInBounds_toArray, List.set_cons_zero, List.set_cons_succ]
    have B2 : Hid (Below g2 w w2 ∧ Blk w2 g2 23 (u8l key).toArray) := Lib.hid ⟨B1.out.1.trans (hq.mono (by have := B1.out.2.lt; omega)), B1.out.2.below hq⟩
    clear hq B1
    refine wpL_pure (.bool false) rfl (by kernel_rfl) ?_
    simp only [Act.put, List.setIfInBounds_toArray, List.set_cons_zero, List.set_cons_succ]
    refine wpL_pure (.bool false) rfl (by kernel_rfl) ?_
    simp only [Act.put, List.setIfInBounds_toArray, List.set_cons_zero, List.set_cons_succ]
    refine wpL_pure (.slice a n c) rfl (by kernel_rfl) ?_
    simp only [Act.put, List.setIfInBounds_toArray, List.set_cons_zero, List.set_cons_succ]
    refine wpL_pure (.int .i64 (n : Int)) rfl (by kernel_rfl) ?_
    simp only [Act.put, List.setIfInBounds_toArray, List.set_cons_zero, List.set_cons_succ]
    refine wpL_pure (.bool false) rfl (run_gti Try.underlying3 rfl rfl rfl (by have := HN.out; rw [decide_eq_false_iff_not]; omega)) ?_
    simp only [Act.put, List.setIfInBounds_toArray, List.set_cons_zero, List.set_cons_succ]
    refine wpL_pure (.bool false) rfl (by kernel_rfl) ?_
    simp only [Act.put, List.setIfInBounds_toArray, List.set_cons_zero, List.set_cons_succ]
    obtain ⟨w3, hw3⟩ : ∃ V, V = (w2.alloc (.cells (u8l (List.replicate 32 0)).toArray 23)).setRow w2.heap.size (u8l key).toArray := ⟨_, rfl⟩
    have B3 : Hid (Below g2 w w3 ∧ Blk w3 g2 23 (u8l key).toArray ∧ Blk w3 w2.heap.size 23 (u8l (zk key 0)).toArray ∧ g2 < w2.heap.size) := Lib.hid (by rw [hw3, zk_zero]; exact ⟨below_setRow (B2.out.1.alloc (Nat.le_of_lt B2.out.2.lt) _) (Nat.le_of_lt B2.out.2.lt) _, (setRow_other _ _ _ _ (Nat.ne_of_lt B2.out.2.lt)).trans (B2.out.2.alloc _), setRow_heap _ _ _ _ _ _ (Blk.new w2 23 (u8l (List.replicate 32 0)).toArray), B2.out.2.lt⟩)
    go_upto_region 3 with (fail)
    refine wp_region_lit ?_
    refine wpL_load 23 _ rfl rfl g2 0 rfl (u8l (key)) _ (range_blk (B2.out.2)) Try.underlying23 rfl (by rw [u8l_len, HKY.out.1]; kernel_rfl) ?_
    simp only [Act.put, List.setIfInBounds_toArray, List.set_cons_zero, List.set_cons_succ]
    refine wpL_value (.pointer (some ⟨w2.heap.size, 0, none⟩)) (w2.alloc (.cells (u8l (List.replicate 32 0)).toArray 23)) rfl (by kernel_rfl) ?_
    simp only [Act.put, List.setIfInBounds_toArray, List.set_cons_zero, List.set_cons_succ]
    refine wpList_store_rowTo rfl 23 _ _ rfl rfl w2.heap.size (u8l (key)).toArray rfl rfl 23 _ (Blk.new w2 23 (u8l (List.replicate 32 0)).toArray) (by simp only [List.size_toArray, u8l_len, HKY.out.1]; kernel_rfl) (by simp [u8l_len, HKY.out.1]) (u8l_one _) ?_
    rw [← hw3]
    clear hw3 B2
    generalize w2.heap.size = g5 at B3 ⊢
    go_upto_region 4 with (fail)
    refine wp_region_lit ?_
    refine wpL_pure (.int .i64 16) rfl (by kernel_rfl) ?_
    simp only [Act.put, List.setIfInBounds_toArray, List.set_cons_zero, List.set_cons_succ]
    go_wp2_with fail
    go_loopw [6] (fun s6 wr => ∃ k : Nat, s6 = .int .i64 ((16 + k : Nat) : Int) ∧ Hid (k ≤ 16 ∧ Below g2 w wr ∧ Blk wr g2 23 (u8l key).toArray ∧ Blk wr g5 23 (u8l (zk key k)).toArray)) (fun s6 _ => 32 - (intOf s6).toNat)
    case atStart => exact ⟨0, rfl, Lib.hid ⟨by omega, B3.out.1, B3.out.2.1, B3.out.2.2.1⟩⟩
    case round =>
      obtain ⟨k, rfl, RI⟩ := hrel
      by_cases hlt : k < 16
      · have HK := Lib.hid hlt
        clear hlt
        go_upto_region 5 with (fail)
        refine wp_region_lit ?_
        refine wpL_pure (.int .i64 ((16 + k : Nat) : Int)) rfl (by kernel_rfl) ?_
        simp only [Act.put, List.setIfInBounds_toArray, List.set_cons_zero, List.set_cons_succ]
        refine wpL_pure (.bool true) rfl (run_lti Try.underlying3 rfl rfl rfl (by have := HK.out; rw [decide_eq_true_eq]; omega)) ?_
        simp only [Act.put, List.setIfInBounds_toArray, List.set_cons_zero, List.set_cons_succ]
        go_upto_region 7 with (fail)
        refine wp_region_lit ?_
        refine wpL_pure (.int .i64 ((16 + k : Nat) : Int)) rfl (by kernel_rfl) ?_
        simp only [Act.put, List.setIfInBounds_toArray, List.set_cons_zero, List.set_cons_succ]
        refine wpL_pure (.pointer (some ⟨g5, 0 + (16 + k), none⟩)) rfl (run_idxa23 _ _ _ _ _ g5 0 (16 + k) rfl rfl rfl (by have := HK.out; omega)) ?_
        simp only [Act.put, List.setIfInBounds_toArray, List.set_cons_zero, List.set_cons_succ]
        refine wpL_store_one rfl rfl (g5) (0 + (16 + k)) rfl (.int .u8 0) rfl rfl size5 (by rw [RI.out.2.2.2.cell]; simp [u8l, zk_len HKY.out.1 (Nat.le_of_lt HK.out)]; have := HK.out; omega) (RI.out.2.2.2.free _) ?_
        simp only [Act.put, List.setIfInBounds_toArray, List.set_cons_zero, List.set_cons_succ]
        obtain ⟨w4, hw4⟩ : ∃ V, V = wr.setCell ⟨g5, 0 + (16 + k), none⟩ (.int .u8 0) := ⟨_, rfl⟩
        rw [← hw4]
        have NX : Hid (k + 1 ≤ 16 ∧ Below g2 w w4 ∧ Blk w4 g2 23 (u8l key).toArray ∧ Blk w4 g5 23 (u8l (zk key (k + 1))).toArray) := Lib.hid (by rw [hw4, Nat.zero_add]; exact ⟨HK.out, RI.out.2.1.setCell (p := ⟨g5, 16 + k, none⟩) (Nat.le_of_lt B3.out.2.2.2) _, RI.out.2.2.1.other _ _ (Nat.ne_of_lt B3.out.2.2.2), zk_set HKY.out.1 HK.out RI.out.2.2.2⟩)
        clear hw4
        go_upto_region 6 with (fail)
        refine wp_region_lit ?_
        refine wpL_pure (.int .i64 ((16 + k : Nat) : Int)) rfl (by kernel_rfl) ?_
        simp only [Act.put, List.setIfInBounds_toArray, List.set_cons_zero, List.set_cons_succ]
        refine wpL_pure (.int .i64 ((16 + (k + 1) : Nat) : Int)) rfl (run_addi Try.underlying3 rfl rfl rfl _ (by have := HK.out; rw [wrap_in _ (by omega) (by omega)]; omega)) ?_
        simp only [Act.put, List.setIfInBounds_toArray, List.set_cons_zero, List.set_cons_succ]
        refine wpL_pure (.int .i64 ((16 + (k + 1) : Nat) : Int)) rfl (by kernel_rfl) ?_
        simp only [Act.put, List.setIfInBounds_toArray, List.set_cons_zero, List.set_cons_succ]
        unfold wpList
        go_roundw
        case rel => first | exact ⟨k + 1, rfl, NX⟩ | ((repeat apply Exists.intro); exact ⟨⟨k + 1, rfl, NX⟩, rfl⟩)
        case measure => simp [intOf]; have := HK.out; omega
      · have HK := Lib.hid hlt
        have EK : Hid (k = 16) := Lib.hid (by have := RI.out.1; omega)
        clear hlt
        have B5 : Hid (Below g2 w wr ∧ Blk wr g2 23 (u8l key).toArray ∧ Blk wr g5 23 (u8l (zk key 16)).toArray ∧ g2 < g5) := Lib.hid (by have h := RI.out.2; rw [EK.out] at h; exact ⟨h.1, h.2.1, h.2.2, B3.out.2.2.2⟩)
        clear B3
        go_upto_region 5 with (fail)
        refine wp_region_lit ?_
        refine wpL_pure (.int .i64 ((16 + k : Nat) : Int)) rfl (by kernel_rfl) ?_
        simp only [Act.put, List.setIfInBounds_toArray, List.set_cons_zero, List.set_cons_succ]
        refine wpL_pure (.bool false) rfl (run_lti Try.underlying3 rfl rfl rfl (by have := HK.out; rw [decide_eq_false_iff_not]; omega)) ?_
        simp only [Act.put, List.setIfInBounds_toArray, List.set_cons_zero, List.set_cons_succ]
        obtain ⟨a1, ha1⟩ : ∃ V, V = wr.alloc (.cells #[.slice a n c] 24) := ⟨_, rfl⟩
        have Xa : Hid (PSl a1 (some ⟨wr.heap.size, 0, none⟩) 1 [t] ∧ Below wr.heap.size wr a1) := Lib.hid (by rw [ha1]; exact ⟨psl_one (Blk.new _ _ _) ((HS.out.below (below_eq B5.out.1 G2.out)).below ((Below.refl _ _).alloc (Nat.le_refl _) _)) (by have := HN.out; omega), (Below.refl _ _).alloc (Nat.le_refl _) _⟩)
        have Ha := Lib.hid ha1
        clear ha1
        go_upto_region 8 with (fail)
        refine wp_region_lit ?_
        refine wpL_load 23 _ rfl rfl g5 0 rfl (u8l (zk key 16)) _ (range_blk (B5.out.2.2.1)) Try.underlying23 rfl (by rw [u8l_len, zk_len HKY.out.1 (Nat.le_refl 16)]; kernel_rfl) ?_
        simp only [Act.put, List.setIfInBounds_toArray, List.set_cons_zero, List.set_cons_succ]
        refine wpL_pure (.slice a n c) rfl (by kernel_rfl) ?_
        simp only [Act.put, List.setIfInBounds_toArray, List.set_cons_zero, List.set_cons_succ]
        refine wpL_value (.slice (some ⟨wr.heap.size, 0, none⟩) 1 1) (a1) rfl (by rw [Ha.out]; kernel_rfl) ?_
        simp only [Act.put, List.setIfInBounds_toArray, List.set_cons_zero, List.set_cons_succ]
        clear Ha
        refine wpL_call 10 #[.agg (u8l (zk key 16)).toArray, .slice (some ⟨wr.heap.size, 0, none⟩) 1 1] rfl (by kernel_rfl) (((code_one a1 (zk key 16) wr.heap.size t (zk_ok HKY.out (Nat.le_refl 16)) Xa.out.1)).mono fun e a2 ⟨he, hq⟩ => ⟨.agg (u8l (codeS (zk key 16) t)).toArray, he, ?_⟩)
        simp only [Act.put, List.setIfInBounds_toArray, List.set_cons_zero, List.set_cons_succ]
        have Ya : Hid (Below wr.heap.size wr a2) := Lib.hid (Xa.out.2.trans (hq.mono Xa.out.2.size))
        clear hq Xa
        obtain ⟨a3, ha3⟩ : ∃ V, V = (a2.alloc (.cells (u8l (List.replicate 16 0)).toArray 26)).setRow a2.heap.size (u8l (codeS (zk key 16) t)).toArray := ⟨_, rfl⟩
        have Za : Hid (Below g2 w a3 ∧ Below wr.heap.size wr a3 ∧ Blk a3 a2.heap.size 26 (u8l (codeS (zk key 16) t)).toArray ∧ wr.heap.size ≤ a2.heap.size) := Lib.hid (shifts_step B5.out.1 B5.out.2.1.lt (Below_le B5.out.2.1.lt) Ya.out ha3 (codeS_len _ _))
        refine wpL_value (.pointer (some ⟨a2.heap.size, 0, none⟩)) (a2.alloc (.cells (u8l (List.replicate 16 0)).toArray 26)) rfl (by kernel_rfl) ?_
        simp only [Act.put, List.setIfInBounds_toArray, List.set_cons_zero, List.set_cons_succ]
        refine wpList_store_rowTo rfl 26 _ _ rfl rfl a2.heap.size (u8l (codeS (zk key 16) t)).toArray rfl rfl 26 _ (Blk.new a2 26 (u8l (List.replicate 16 0)).toArray) (by simp only [List.size_toArray, u8l_len, codeS_len]; kernel_rfl) (by simp [u8l_len, codeS_len]) (u8l_one _) ?_
        rw [← ha3]
        clear ha3 Ya
        generalize a2.heap.size = g7 at Za ⊢
        have B6 : Hid (Below g2 w a3 ∧ Blk a3 g2 23 (u8l key).toArray ∧ Blk a3 g7 26 (u8l (codeS (zk key 16) t)).toArray) := Lib.hid ⟨Za.out.1, B5.out.2.1.below Za.out.2.1, Za.out.2.2.1⟩
        clear Za B5
        obtain ⟨b1, hb1⟩ : ∃ V, V = a3.alloc (.cells #[.slice a n c] 24) := ⟨_, rfl⟩
        have Xb : Hid (PSl b1 (some ⟨a3.heap.size, 0, none⟩) 1 [t] ∧ Below a3.heap.size a3 b1) := Lib.hid (by rw [hb1]; exact ⟨psl_one (Blk.new _ _ _) ((HS.out.below (below_eq B6.out.1 G2.out)).below ((Below.refl _ _).alloc (Nat.le_refl _) _)) (by have := HN.out; omega), (Below.refl _ _).alloc (Nat.le_refl _) _⟩)
        have Hb := Lib.hid hb1
        clear hb1
        go_upto_region 9 with (fail)
        refine wp_region_lit ?_
        refine wpL_load 23 _ rfl rfl g2 0 rfl (u8l (key)) _ (range_blk (B6.out.2.1)) Try.underlying23 rfl (by rw [u8l_len, HKY.out.1]; kernel_rfl) ?_
        simp only [Act.put, List.setIfInBounds_toArray, List.set_cons_zero, List.set_cons_succ]
        refine wpL_pure (.slice a n c) rfl (by kernel_rfl) ?_
        simp only [Act.put, List.setIfInBounds_toArray, List.set_cons_zero, List.set_cons_succ]
        refine wpL_value (.slice (some ⟨a3.heap.size, 0, none⟩) 1 1) (b1) rfl (by rw [Hb.out]; kernel_rfl) ?_
        simp only [Act.put, List.setIfInBounds_toArray, List.set_cons_zero, List.set_cons_succ]
        clear Hb
        refine wpL_call 10 #[.agg (u8l (key)).toArray, .slice (some ⟨a3.heap.size, 0, none⟩) 1 1] rfl (by kernel_rfl) (((code_one b1 (key) a3.heap.size t HKY.out Xb.out.1)).mono fun e b2 ⟨he, hq⟩ => ⟨.agg (u8l (codeS (key) t)).toArray, he, ?_⟩)
        simp only [Act.put, List.setIfInBounds_toArray, List.set_cons_zero, List.set_cons_succ]
        have Yb : Hid (Below a3.heap.size a3 b2) := Lib.hid (Xb.out.2.trans (hq.mono Xb.out.2.size))
        clear hq Xb
        obtain ⟨b3, hb3⟩ : ∃ V, V = (b2.alloc (.cells (u8l (List.replicate 16 0)).toArray 26)).setRow b2.heap.size (u8l (codeS (key) t)).toArray := ⟨_, rfl⟩
        have Zb : Hid (Below g2 w b3 ∧ Below a3.heap.size a3 b3 ∧ Blk b3 b2.heap.size 26 (u8l (codeS (key) t)).toArray ∧ a3.heap.size ≤ b2.heap.size) := Lib.hid (shifts_step B6.out.1 B6.out.2.1.lt (Below_le B6.out.2.1.lt) Yb.out hb3 (codeS_len _ _))
        refine wpL_value (.pointer (some ⟨b2.heap.size, 0, none⟩)) (b2.alloc (.cells (u8l (List.replicate 16 0)).toArray 26)) rfl (by kernel_rfl) ?_
        simp only [Act.put, List.setIfInBounds_toArray, List.set_cons_zero, List.set_cons_succ]
        refine wpList_store_rowTo rfl 26 _ _ rfl rfl b2.heap.size (u8l (codeS (key) t)).toArray rfl rfl 26 _ (Blk.new b2 26 (u8l (List.replicate 16 0)).toArray) (by simp only [List.size_toArray, u8l_len, codeS_len]; kernel_rfl) (by simp [u8l_len, codeS_len]) (u8l_one _) ?_
        rw [← hb3]
        clear hb3 Yb
        generalize b2.heap.size = g8 at Zb ⊢
        have B7 : Hid (Below g2 w b3 ∧ Blk b3 g2 23 (u8l key).toArray ∧ Blk b3 g7 26 (u8l (le16 A)).toArray ∧ Blk b3 g8 26 (u8l (le16 (A + ks key))).toArray) := Lib.hid ⟨Zb.out.1, B6.out.2.1.below Zb.out.2.1, by rw [← HA.out.1]; exact B6.out.2.2.below Zb.out.2.1, by rw [← HA.out.2]; exact Zb.out.2.2.1⟩
        clear Zb B6
        go_upto_region 10 with (fail)
        refine wp_region_lit ?_
        refine wpL_pure (.int .i64 0) rfl (by kernel_rfl) ?_
        simp only [Act.put, List.setIfInBounds_toArray, List.set_cons_zero, List.set_cons_succ]
        go_upto_region 11 with (fail)
        refine wp_region_lit ?_
        refine wpL_pure (.int .i64 0) rfl (by kernel_rfl) ?_
        simp only [Act.put, List.setIfInBounds_toArray, List.set_cons_zero, List.set_cons_succ]
        go_wp2_with fail
        go_loopw [9, 10] (fun s9 s10 wq => ∃ k : Nat, s9 = .int .i64 ((carry A (ks key) k : Nat) : Int) ∧ s10 = .int .i64 ((k : Nat) : Int) ∧ Hid (k ≤ 16 ∧ Below g2 w wq ∧ Blk wq g2 23 (u8l key).toArray ∧ Blk wq g7 26 (u8l (le16 A)).toArray ∧ Blk wq g8 26 (u8l (le16 (A + ks key))).toArray)) (fun _ s10 _ => 16 - (intOf s10).toNat)
        case atStart => exact ⟨0, by rw [carry_zero]; rfl, rfl, Lib.hid ⟨by omega, B7.out⟩⟩
        case round =>
          obtain ⟨k, rfl, rfl, RJ⟩ := hrel
          by_cases hlt : k < 16
          · have HK2 := Lib.hid hlt
            clear hlt
            obtain ⟨cr, hcr⟩ : ∃ q, carry A (ks key) k = q := ⟨_, rfl⟩
            obtain ⟨xx, hxx⟩ : ∃ q, A / 256 ^ k % 256 = q := ⟨_, rfl⟩
            obtain ⟨yy, hyy⟩ : ∃ q, ks key / 256 ^ k % 256 = q := ⟨_, rfl⟩
            rw [hcr]
            have HC := Lib.hid (carry_step hcr hxx hyy)
            have HX : Hid (∀ X, Blk X g7 26 (u8l (le16 A)).toArray → X.cell? ⟨g7, 0 + k, none⟩ = some (.int .u8 ((xx : Nat) : Int))) := Lib.hid (fun X h => by rw [← hxx]; exact le16_cell h HK2.out)
            have HY2 : Hid (∀ X, Blk X g2 23 (u8l key).toArray → X.cell? ⟨g2, 0 + (16 + k), none⟩ = some (.int .u8 ((yy : Nat) : Int))) := Lib.hid (fun X h => by rw [← hyy]; exact key_cell HKY.out h HK2.out)
            have HZ : Hid (∀ X, Blk X g8 26 (u8l (le16 (A + ks key))).toArray → X.cell? ⟨g8, 0 + k, none⟩ = some (.int .u8 (((cr + xx + yy) % 256 : Nat) : Int))) := Lib.hid (fun X h => by rw [← HC.out.1]; exact le16_cell h HK2.out)
            clear hcr hxx hyy
            go_upto_region 12 with (fail)
            refine wp_region_lit ?_
            refine wpL_pure (.int .i64 ((k : Nat) : Int)) rfl (by kernel_rfl) ?_
            simp only [Act.put, List.setIfInBounds_toArray, List.set_cons_zero, List.set_cons_succ]
            refine wpL_pure (.bool true) rfl (run_lti Try.underlying3 rfl rfl rfl (by have := HK2.out; rw [decide_eq_true_eq]; omega)) ?_
            simp only [Act.put, List.setIfInBounds_toArray, List.set_cons_zero, List.set_cons_succ]
            go_upto_region 14 with (fail)
            refine region_held_all (fun X => Below g2 w X ∧ Blk X g2 23 (u8l key).toArray ∧ Blk X g7 26 (u8l (le16 A)).toArray ∧ Blk X g8 26 (u8l (le16 (A + ks key))).toArray) (by kernel_rfl) (by kernel_rfl) (⟨RJ.out.2.1.drew, RJ.out.2.2.1, RJ.out.2.2.2.1, RJ.out.2.2.2.2⟩) ?_
            refine wpHeld_cons (.int .i64 ((cr : Nat) : Int)) rfl (fun w h => heldRun_value (by kernel_rfl) h) ?_
            simp only [Act.put, List.setIfInBounds_toArray, List.set_cons_zero, List.set_cons_succ]
            refine wpHeld_cons (.int .i64 ((k : Nat) : Int)) rfl (fun w h => heldRun_value (by kernel_rfl) h) ?_
            simp only [Act.put, List.setIfInBounds_toArray, List.set_cons_zero, List.set_cons_succ]
            refine wpHeld_cons (.pointer (some ⟨g7, 0 + k, none⟩)) rfl (fun w h => heldRun_value (O.run_idxa _ _ _ _ _ g7 0 k rfl rfl rfl HK2.out) h) ?_
            simp only [Act.put, List.setIfInBounds_toArray, List.set_cons_zero, List.set_cons_succ]
            refine wpHeld_cons (.int .u8 ((xx : Nat) : Int)) rfl (fun w h => heldRun_value (run_load_one _ _ _ 5 _ _ rfl (g7) (0 + k) rfl (HX.out _ h.2.2.1) (by kernel_rfl)) h) ?_
            simp only [Act.put, List.setIfInBounds_toArray, List.set_cons_zero, List.set_cons_succ]
            refine wpHeld_cons (.int .i64 ((xx : Nat) : Int)) rfl (fun w h => heldRun_value (run_convi Try.underlying5 Try.underlying3 rfl rfl _ (by have := HC.out; rw [wrap_in _ (by omega) (by omega)]; try omega)) h) ?_
            simp only [Act.put, List.setIfInBounds_toArray, List.set_cons_zero, List.set_cons_succ]
            refine wpHeld_cons (.int .i64 ((k : Nat) : Int)) rfl (fun w h => heldRun_value (by kernel_rfl) h) ?_
            simp only [Act.put, List.setIfInBounds_toArray, List.set_cons_zero, List.set_cons_succ]
            refine wpHeld_cons (.int .i64 ((16 + k : Nat) : Int)) rfl (fun w h => heldRun_value (run_addi Try.underlying3 rfl rfl rfl _ (by have := HK2.out; rw [wrap_in _ (by omega) (by omega)]; omega)) h) ?_
            simp only [Act.put, List.setIfInBounds_toArray, List.set_cons_zero, List.set_cons_succ]
            refine wpHeld_cons (.pointer (some ⟨g2, 0 + (16 + k), none⟩)) rfl (fun w h => heldRun_value (run_idxa23 _ _ _ _ _ g2 0 (16 + k) rfl rfl rfl (by have := HK2.out; omega)) h) ?_
            simp only [Act.put, List.setIfInBounds_toArray, List.set_cons_zero, List.set_cons_succ]
            refine wpHeld_cons (.int .u8 ((yy : Nat) : Int)) rfl (fun w h => heldRun_value (run_load_one _ _ _ 5 _ _ rfl (g2) (0 + (16 + k)) rfl (HY2.out _ h.2.1) (by kernel_rfl)) h) ?_
            simp only [Act.put, List.setIfInBounds_toArray, List.set_cons_zero, List.set_cons_succ]
            refine wpHeld_cons (.int .i64 ((yy : Nat) : Int)) rfl (fun w h => heldRun_value (run_convi Try.underlying5 Try.underlying3 rfl rfl _ (by have := HC.out; rw [wrap_in _ (by omega) (by omega)]; try omega)) h) ?_
            simp only [Act.put, List.setIfInBounds_toArray, List.set_cons_zero, List.set_cons_succ]
            refine wpHeld_cons (.int .i64 ((xx + yy : Nat) : Int)) rfl (fun w h => heldRun_value (run_addi Try.underlying3 rfl rfl rfl _ (by have := HC.out; rw [wrap_in _ (by omega) (by omega)]; try omega)) h) ?_
            simp only [Act.put, List.setIfInBounds_toArray, List.set_cons_zero, List.set_cons_succ]
            refine wpHeld_cons (.int .i64 ((cr + xx + yy : Nat) : Int)) rfl (fun w h => heldRun_value (run_addi Try.underlying3 rfl rfl rfl _ (by have := HC.out; rw [wrap_in _ (by omega) (by omega)]; try omega)) h) ?_
            simp only [Act.put, List.setIfInBounds_toArray, List.set_cons_zero, List.set_cons_succ]
            refine wpHeld_cons (.int .i64 ((cr + xx + yy : Nat) : Int)) rfl (fun w h => heldRun_value (by kernel_rfl) h) ?_
            simp only [Act.put, List.setIfInBounds_toArray, List.set_cons_zero, List.set_cons_succ]
            refine wpHeld_nil ?_
            intro Q0 h
            have Q := Lib.hid h
            clear h
            go_upto_region 15 with (fail)
            refine wp_region_lit ?_
            refine wpL_pure (.int .i64 ((k : Nat) : Int)) rfl (by kernel_rfl) ?_
            simp only [Act.put, List.setIfInBounds_toArray, List.set_cons_zero, List.set_cons_succ]
            refine wpL_pure (.pointer (some ⟨g8, 0 + k, none⟩)) rfl (O.run_idxa _ _ _ _ _ g8 0 k rfl rfl rfl HK2.out) ?_
            simp only [Act.put, List.setIfInBounds_toArray, List.set_cons_zero, List.set_cons_succ]
            refine wpL_pure (.int .u8 (((cr + xx + yy) % 256 : Nat) : Int)) rfl (run_load_one _ _ _ 5 _ _ rfl (g8) (0 + k) rfl (HZ.out _ Q.out.2.2.2) (by kernel_rfl)) ?_
            simp only [Act.put, List.setIfInBounds_toArray, List.set_cons_zero, List.set_cons_succ]
            refine wpL_pure (.int .i64 ((cr + xx + yy : Nat) : Int)) rfl (by kernel_rfl) ?_
            simp only [Act.put, List.setIfInBounds_toArray, List.set_cons_zero, List.set_cons_succ]
            refine wpL_pure (.int .u8 (((cr + xx + yy) % 256 : Nat) : Int)) rfl (run_convi Try.underlying3 Try.underlying5 rfl rfl _ (by rw [IntKind.wrap_u8]; omega)) ?_
            simp only [Act.put, List.setIfInBounds_toArray, List.set_cons_zero, List.set_cons_succ]
            refine wpL_pure (.bool false) rfl (run_nei Try.underlying5 rfl rfl rfl (by rw [decide_eq_false_iff_not]; simp)) ?_
            simp only [Act.put, List.setIfInBounds_toArray, List.set_cons_zero, List.set_cons_succ]
            go_upto_region 17 with (fail)
            refine wp_region_lit ?_
            refine wpL_pure (.int .i64 ((cr + xx + yy : Nat) : Int)) rfl (by kernel_rfl) ?_
            simp only [Act.put, List.setIfInBounds_toArray, List.set_cons_zero, List.set_cons_succ]
            refine wpL_pure (.int .i64 ((carry A (ks key) (k + 1) : Nat) : Int)) rfl (run_quo256 _ _ _ _ (cr + xx + yy) _ rfl rfl HC.out.2.1 (by have := HC.out; omega)) ?_
            simp only [Act.put, List.setIfInBounds_toArray, List.set_cons_zero, List.set_cons_succ]
            refine wpL_pure (.int .i64 ((carry A (ks key) (k + 1) : Nat) : Int)) rfl (by kernel_rfl) ?_
            simp only [Act.put, List.setIfInBounds_toArray, List.set_cons_zero, List.set_cons_succ]
            go_upto_region 13 with (fail)
            refine wp_region_lit ?_
            refine wpL_pure (.int .i64 ((k : Nat) : Int)) rfl (by kernel_rfl) ?_
            simp only [Act.put, List.setIfInBounds_toArray, List.set_cons_zero, List.set_cons_succ]
            refine wpL_pure (.int .i64 ((k + 1 : Nat) : Int)) rfl (run_addi Try.underlying3 rfl rfl rfl _ (by have := HK2.out; rw [wrap_in _ (by omega) (by omega)]; omega)) ?_
            simp only [Act.put, List.setIfInBounds_toArray, List.set_cons_zero, List.set_cons_succ]
            refine wpL_pure (.int .i64 ((k + 1 : Nat) : Int)) rfl (by kernel_rfl) ?_
            simp only [Act.put, List.setIfInBounds_toArray, List.set_cons_zero, List.set_cons_succ]
            have NX : Hid (k + 1 ≤ 16 ∧ Below g2 w Q0 ∧ Blk Q0 g2 23 (u8l key).toArray ∧ Blk Q0 g7 26 (u8l (le16 A)).toArray ∧ Blk Q0 g8 26 (u8l (le16 (A + ks key))).toArray) := Lib.hid ⟨HK2.out, Q.out⟩
            unfold wpList
            go_roundw
            case rel => first | exact ⟨k + 1, rfl, rfl, NX⟩ | ((repeat apply Exists.intro); exact ⟨⟨k + 1, rfl, rfl, NX⟩, rfl⟩)
            case measure => simp [intOf]; have := HK2.out; omega
          · have HK2 := Lib.hid hlt
            clear hlt
            go_upto_region 12 with (fail)
            refine wp_region_lit ?_
            refine wpL_pure (.int .i64 ((k : Nat) : Int)) rfl (by kernel_rfl) ?_
            simp only [Act.put, List.setIfInBounds_toArray, List.set_cons_zero, List.set_cons_succ]
            refine wpL_pure (.bool false) rfl (run_lti Try.underlying3 rfl rfl rfl (by have := HK2.out; rw [decide_eq_false_iff_not]; omega)) ?_
            simp only [Act.put, List.setIfInBounds_toArray, List.set_cons_zero, List.set_cons_succ]
            go_upto_region 18 with (fail)
            refine wp_region_lit ?_
            refine wpL_pure (.bool true) rfl (by kernel_rfl) ?_
            simp only [Act.put, List.setIfInBounds_toArray, List.set_cons_zero, List.set_cons_succ]
            go_wp2_with fail
            go_ret
            exact ⟨rfl, by rw [G2.out]; exact RJ.out.2.1⟩
end Go.Proofs.Ytbgmielhnklkgaa
