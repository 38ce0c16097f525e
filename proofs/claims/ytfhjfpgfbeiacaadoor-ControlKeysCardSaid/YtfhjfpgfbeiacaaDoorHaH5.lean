import Derived.Test.YtfhjfpgfbeiacaaDoorHaH4
namespace Go.Proofs.YtfhjfpgfbeiacaaDoor.Ha
open Go Go.RowKit
set_option maxRecDepth 100000

def digL (H : List Nat) (R : List Int) (hv tot : Nat) : List Value := u32l H ++ (u8l R ++ [.int .i64 (hv : Int), .int .u64 (tot : Nat)])
/-- a digest at block b: its state, what waits, how many of it, how many bytes in all. -/
def Mid (w : World) (b : Nat) (H : List Nat) (R : List Int) (hv tot : Nat) : Prop := Blk w b 97 (digL H R hv tot).toArray ∧ HOk H ∧ R.length = 64 ∧ ∀ x ∈ R, 0 ≤ x ∧ x ≤ 255
theorem u32l_len (l : List Nat) : (u32l l).length = l.length := by simp [u32l]
theorem u8l_len (l : List Int) : (u8l l).length = l.length := by simp [u8l]
theorem Mid.held {w : World} {b : Nat} {H : List Nat} {R : List Int} {hv tot : Nat} (h : Mid w b H R hv tot) : w.cell? ⟨b, 72, none⟩ = some (.int .i64 (hv : Int)) := by
  rw [h.1.cell, List.getElem?_toArray]
  unfold digL
  rw [List.getElem?_append_right (by rw [u32l_len, h.2.1.1]; omega), u32l_len, h.2.1.1, List.getElem?_append_right (by rw [u8l_len, h.2.2.1]; omega), u8l_len, h.2.2.1]
  rfl
theorem Mid.total {w : World} {b : Nat} {H : List Nat} {R : List Int} {hv tot : Nat} (h : Mid w b H R hv tot) : w.cell? ⟨b, 73, none⟩ = some (.int .u64 (tot : Nat)) := by
  rw [h.1.cell, List.getElem?_toArray]
  unfold digL
  rw [List.getElem?_append_right (by rw [u32l_len, h.2.1.1]; omega), u32l_len, h.2.1.1, List.getElem?_append_right (by rw [u8l_len, h.2.2.1]; omega), u8l_len, h.2.2.1]
  rfl
theorem Mid.setHeld {w : World} {b : Nat} {H : List Nat} {R : List Int} {hv tot : Nat} (h : Mid w b H R hv tot) (x : Nat) : Mid (w.setCell ⟨b, 72, none⟩ (.int .i64 (x : Int))) b H R x tot := by
  refine ⟨?_, h.2⟩
  have e : (digL H R hv tot).set 72 (.int .i64 (x : Int)) = digL H R x tot := by
    unfold digL
    rw [List.set_append_right _ _ (by rw [u32l_len, h.2.1.1]; omega), u32l_len, h.2.1.1, List.set_append_right _ _ (by rw [u8l_len, h.2.2.1]; omega), u8l_len, h.2.2.1]
    rfl
  rw [← e]
  exact Blk.set h.1 72 _
theorem Mid.setTotal {w : World} {b : Nat} {H : List Nat} {R : List Int} {hv tot : Nat} (h : Mid w b H R hv tot) (x : Nat) : Mid (w.setCell ⟨b, 73, none⟩ (.int .u64 (x : Nat))) b H R hv x := by
  refine ⟨?_, h.2⟩
  have e : (digL H R hv tot).set 73 (.int .u64 (x : Nat)) = digL H R hv x := by
    unfold digL
    rw [List.set_append_right _ _ (by rw [u32l_len, h.2.1.1]; omega), u32l_len, h.2.1.1, List.set_append_right _ _ (by rw [u8l_len, h.2.2.1]; omega), u8l_len, h.2.2.1]
    rfl
  rw [← e]
  exact Blk.set h.1 73 _
theorem Mid.rest {w : World} {b : Nat} {H : List Nat} {R : List Int} {hv tot : Nat} (h : Mid w b H R hv tot) (j : Nat) (hj : j < 64) : w.cell? ⟨b, 8 + j, none⟩ = some (.int .u8 (byte R j : Nat)) := by
  have hx : j < R.length := by rw [h.2.2.1]; exact hj
  rw [h.1.cell, List.getElem?_toArray]
  unfold digL
  rw [List.getElem?_append_right (by rw [u32l_len, h.2.1.1]; omega), u32l_len, h.2.1.1, List.getElem?_append_left (by rw [u8l_len, h.2.2.1]; omega), show 8 + j - 8 = j by omega]
  unfold u8l byte
  rw [List.getElem?_map, List.getElem?_eq_getElem hx, List.getD, List.getElem?_eq_getElem hx]
  have := h.2.2.2 _ (List.getElem_mem hx)
  simp
  omega
theorem byte_lt {t : List Int} (h : ∀ x ∈ t, 0 ≤ x ∧ x ≤ 255) (j : Nat) : byte t j < 256 := by have := getD_byte h j; unfold byte; omega
theorem HOk.eight {H : List Nat} (h : HOk H) : ∃ h0 h1 h2 h3 h4 h5 h6 h7, H = [h0, h1, h2, h3, h4, h5, h6, h7] := by
  match H, h.1 with
  | [h0, h1, h2, h3, h4, h5, h6, h7], _ => exact ⟨h0, h1, h2, h3, h4, h5, h6, h7, rfl⟩
def TabK (w : World) : Prop := ∀ i, i < 64 → w.cell? ⟨3, i, none⟩ = some (.int .u32 (kk.getD i 0 : Nat))
theorem TabK.lt {w : World} (h : TabK w) : 3 < w.heap.size := World.block_lt_of_cell? w ⟨3, 0, none⟩ (h 0 (by omega))
theorem TabK.grown {w w' : World} {r : Option Nat} (h : TabK w) (hb : w.grownBy w' r) (hr : some 3 ≠ r) : TabK w' := fun i hi => hb.cell (h i hi) hr
theorem TabK.below {w w' : World} (h : TabK w) (hb : Below w.heap.size w w') : TabK w' := h.grown (gb_of hb none) (by simp)
/-- a block of a digest's text. -/
theorem block_list {w : World} {b g o n c hv tot : Nat} {H : List Nat} {R : List Int} {m : Nat → Nat} (h : Mid w b H R hv tot) (hT : TabK w) (hP : ∀ j, j < 64 → w.cell? ⟨g, o + j, none⟩ = some (.int .u8 (m j : Nat))) (hM : ∀ j, m j < 256) (hn : 64 ≤ n ∧ n ≤ c ∧ c ≤ maxLen) :
    Calls Tryd.prog 64 #[.pointer (some ⟨b, 0, none⟩), .slice (some ⟨g, o, none⟩) n c] w fun e w' => e = .returned (.tuple #[]) ∧ Mid w' b (cmp H m) R hv tot ∧ w.grownBy w' (some b) := by
  obtain ⟨h0, h1, h2, h3, h4, h5, h6, h7, rfl⟩ := h.2.1.eight
  exact (block_any w b g o n c h0 h1 h2 h3 h4 h5 h6 h7 m (u8l R ++ [.int .i64 (hv : Int), .int .u64 (tot : Nat)]) h.1 hT hT.lt hP hM hn h.2.1.st).mono fun e w' ⟨he, q1, q2⟩ => ⟨he, ⟨q1, cmp_ok _ _, h.2.2⟩, q2⟩
theorem block_rest {w : World} {b hv tot : Nat} {H : List Nat} {R : List Int} (h : Mid w b H R hv tot) (hT : TabK w) :
    Calls Tryd.prog 64 #[.pointer (some ⟨b, 0, none⟩), .slice (some ⟨b, 8, none⟩) 64 64] w fun e w' => e = .returned (.tuple #[]) ∧ Mid w' b (cmp H (byte R)) R hv tot ∧ w.grownBy w' (some b) :=
  block_list h hT h.rest (byte_lt h.2.2.2) (by unfold maxLen; omega)
theorem Sl.addr {w : World} {a : Option Addr} {n c : Nat} {xs : List Int} (h : Sl w a n c xs) (hn : 0 < n) : ∃ g o, a = some ⟨g, o, none⟩ := by
  obtain ⟨g, o, e, _⟩ := h.1.2.2.2 0 hn
  exact ⟨g, o, e⟩
theorem Row.bytes {w : World} {g o n : Nat} {xs : List Int} (h : Row w (some ⟨g, o, none⟩) n xs) (j : Nat) (hj : j < n) : w.cell? ⟨g, o + j, none⟩ = some (.int .u8 (byte xs j : Nat)) := by
  obtain ⟨g', o', e, hc⟩ := h.2.2.2 j hj
  simp only [Option.some.injEq, Addr.mk.injEq, and_true] at e
  obtain ⟨rfl, rfl⟩ := e
  rw [hc]
  have := getD_byte h.2.2.1 j
  unfold byte
  rw [Int.toNat_of_nonneg this.1]
theorem block_part {w : World} {b g o np cp hv tot : Nat} {H : List Nat} {R ys : List Int} (h : Mid w b H R hv tot) (hT : TabK w) (hS : Sl w (some ⟨g, o, none⟩) np cp ys) (hn : 64 ≤ np) :
    Calls Tryd.prog 64 #[.pointer (some ⟨b, 0, none⟩), .slice (some ⟨g, o, none⟩) 64 cp] w fun e w' => e = .returned (.tuple #[]) ∧ Mid w' b (cmp H (byte ys)) R hv tot ∧ w.grownBy w' (some b) :=
  block_list h hT (fun j hj => hS.1.bytes j (by omega)) (byte_lt hS.1.2.2.1) (by have := hS.2; unfold maxLen; omega)
theorem digL_copy {H : List Nat} {R : List Int} {hv tot o k : Nat} (xs : List Int) (hH : H.length = 8) (hR : R.length = 64) (hk : xs.length = k) (ho : o + k ≤ 64) : (digL H R hv tot).take (8 + o) ++ u8l xs ++ (digL H R hv tot).drop (8 + o + k) = digL H (R.take o ++ xs ++ R.drop (o + k)) hv tot := by
  unfold digL
  rw [List.take_append, List.drop_append, u32l_len, hH, List.take_of_length_le (by rw [u32l_len, hH]; omega), List.drop_of_length_le (by rw [u32l_len, hH]; omega), show 8 + o - 8 = o by omega, show 8 + o + k - 8 = o + k by omega,
    List.take_append_of_le_length (by rw [u8l_len, hR]; omega), List.drop_append_of_le_length (by rw [u8l_len, hR]; omega)]
  simp [u8l, List.map_take, List.map_drop]
theorem Mid.copyAt {w : World} {b hv tot n c : Nat} {H : List Nat} {R xs : List Int} {a : Option Addr} (h : Mid w b H R hv tot) (hs : Sl w a n c xs) (hv64 : hv ≤ 64) :
    ∃ w', (Builtin.copy_ #[32, 32] 3 #[.slice (some ⟨b, 8 + hv, none⟩) (64 - hv) (64 - hv), .slice a n c]).run Tryd.prog w = .ok (.int .i64 ((Nat.min n (64 - hv) : Nat) : Int)) w' ∧ Mid w' b H (R.take hv ++ xs.take (Nat.min n (64 - hv)) ++ R.drop (hv + Nat.min n (64 - hv))) hv tot ∧ w.grownBy w' (some b) := by
  obtain ⟨k, hk⟩ : ∃ k, Nat.min n (64 - hv) = k := ⟨_, rfl⟩
  have hk2 : k = min n (64 - hv) := hk.symm
  obtain ⟨w', r1, r2, r3⟩ := copy_blk w b 97 (8 + hv) (64 - hv) (64 - hv) (digL H R hv tot) a n c xs h.1 hs.1 (by simp [digL, u32l_len, u8l_len, h.2.1.1, h.2.2.1]; omega) k hk.symm
  have hx : (xs.take k).length = k := by rw [List.length_take, hs.1.1]; omega
  rw [hk]
  refine ⟨w', r1, ⟨?_, h.2.1, ?_, ?_⟩, r3⟩
  · rw [← digL_copy (xs.take k) h.2.1.1 h.2.2.1 hx (by omega)]; exact r2
  · rw [List.length_append, List.length_append, hx, List.length_take, List.length_drop, h.2.2.1]; omega
  · intro x hx
    rcases List.mem_append.1 hx with hx | hx
    · rcases List.mem_append.1 hx with hx | hx
      · exact h.2.2.2 x (List.mem_of_mem_take hx)
      · exact hs.1.2.2.1 x (List.mem_of_mem_take hx)
    · exact h.2.2.2 x (List.mem_of_mem_drop hx)
/-- a digest that has taken the text t. -/
def Dig (w : World) (b : Nat) (t : List Int) : Prop := ∃ R, Mid w b (stN t (t.length / 64)) R (t.length % 64) (t.length % 18446744073709551616) ∧ R.take (t.length % 64) = t.drop (64 * (t.length / 64)) ∧ ∀ x ∈ t, 0 ≤ x ∧ x ≤ 255
def slLen : Value → Nat | .slice _ n _ => n | _ => 0
theorem size47 (w : World) : (sizeOf 31).run Tryd.prog w = .ok 1 w := by kernel_rfl
theorem size3 (w : World) : (sizeOf 3).run Tryd.prog w = .ok 1 w := by kernel_rfl
theorem run_sliceto64 (a : Act) (o : Oper) (w : World) (x : Operand) (g off len cap : Nat) (ho : o.op = .slice 32 x none (some (.const (.int .i64 64))) none) (hx : a.eval x = .slice (some ⟨g, off, none⟩) len cap) (hc : len ≤ cap ∧ cap < 9223372036854775808 ∧ (0 < cap → ∀ p : Addr, some ⟨g, off, none⟩ = some p → p.spot = none) ∧ 64 ≤ len ∨ (64 ≤ len ∧ len ≤ cap ∧ cap < 9223372036854775808)) :
    (execOp a.eval o).run Tryd.prog w = .ok (.value (.slice (some ⟨g, off, none⟩) 64 cap)) w := by
  have hi : a.eval (.const (.int .i64 64)) = .int .i64 64 := rfl
  have h2 : (64 : Int) ≤ (cap : Int) := by omega
  have h3 : (64 : Int) ≤ (len : Int) := by omega
  have h4 : ¬ cap = 0 := by omega
  have h5 : (len : Int) ≤ (cap : Int) := by omega
  unfold execOp
  simp only [ho, hx, Option.map_some, Option.map_none, hi]
  go_simp
/-- a part that is taken block by block: q bytes of it are over. -/
def PInv (w : World) (b : Nat) (t xs : List Int) (n tot hv q : Nat) (ap : Option Addr) (np cp : Nat) (R : List Int) (wr : World) : Prop :=
  q ≤ n ∧ (t.length + q) % 64 = 0 ∧ np = n - q ∧ Mid wr b (stN (t ++ xs) ((t.length + q) / 64)) R hv tot ∧ w.grownBy wr (some b) ∧ ∀ X, w.grownBy X (some b) → Sl X ap np cp (xs.drop q)
theorem PInv.step {w wr w5 : World} {b n tot hv q np cp : Nat} {t xs R : List Int} {ap : Option Addr} (h : PInv w b t xs n tot hv q ap np cp R wr) (hk : 64 ≤ np) (hl : xs.length = n)
    (h1 : Mid w5 b (cmp (stN (t ++ xs) ((t.length + q) / 64)) (byte (xs.drop q))) R hv tot) (h2 : wr.grownBy w5 (some b)) : PInv w b t xs n tot hv (q + 64) (dropA ap cp 64) (np - 64) (cp - 64) R w5 := by
  obtain ⟨a1, a2, a3, a4, a5, a6⟩ := h
  refine ⟨by omega, by omega, by omega, ?_, gb_trans a5 h2, fun X hX => ?_⟩
  · have e : (t.length + (q + 64)) / 64 = (t.length + q) / 64 + 1 := by omega
    rw [e]
    have e2 : stN (t ++ xs) ((t.length + q) / 64 + 1) = cmp (stN (t ++ xs) ((t.length + q) / 64)) (byte (xs.drop q)) := by
      simp only [stN]
      refine cmp_congr fun j hj => ?_
      rw [byte_append_right (by omega)]
      unfold byte
      rw [List.getD, List.getD, List.getElem?_drop]
      congr 3
      omega
    rw [e2]
    exact h1
  · have := (a6 X hX).drop 64 hk
    rw [List.drop_drop] at this
    exact this
theorem PInv.copyRest {w wr : World} {b n tot hv q np cp : Nat} {t xs R : List Int} {ap : Option Addr} (h : PInv w b t xs n tot hv q ap np cp R wr) (hk : np < 64) :
    ∃ w', (Builtin.copy_ #[32, 32] 3 #[.slice (some ⟨b, 8, none⟩) 64 64, .slice ap np cp]).run Tryd.prog wr = .ok (.int .i64 (np : Int)) w' ∧ Mid w' b (stN (t ++ xs) ((t.length + q) / 64)) (xs.drop q ++ R.drop np) hv tot ∧ wr.grownBy w' (some b) := by
  obtain ⟨a1, a2, a3, a4, a5, a6⟩ := h
  have hs := a6 wr a5
  have hx : (xs.drop q).length = np := hs.1.1
  obtain ⟨w', r1, r2, r3⟩ := copy_blk wr b 97 8 64 64 (digL (stN (t ++ xs) ((t.length + q) / 64)) R hv tot) ap np cp (xs.drop q) a4.1 hs.1 (by simp [digL, u32l_len, u8l_len, a4.2.1.1, a4.2.2.1]) np (Nat.min_eq_left (by omega)).symm
  refine ⟨w', r1, ⟨?_, a4.2.1, by rw [List.length_append, hx, List.length_drop, a4.2.2.1]; omega, fun x hx2 => ?_⟩, r3⟩
  · have e := digL_copy (H := stN (t ++ xs) ((t.length + q) / 64)) (R := R) (hv := hv) (tot := tot) (o := 0) (k := np) (xs.drop q) a4.2.1.1 a4.2.2.1 hx (by omega)
    simp only [Nat.add_zero, List.take_zero, List.nil_append, Nat.zero_add] at e
    rw [← e]
    rw [List.take_of_length_le (l := xs.drop q) (by omega)] at r2
    exact r2
  · rcases List.mem_append.1 hx2 with hx2 | hx2
    · exact hs.1.2.2.1 x hx2
    · exact a4.2.2.2 x (List.mem_of_mem_drop hx2)
theorem PInv.done {w wr w' : World} {b n tot hv q np cp : Nat} {t xs R : List Int} {ap : Option Addr} (h : PInv w b t xs n tot hv q ap np cp R wr) (hk : ¬ 64 ≤ np) (ht : tot = (t.length + n) % 18446744073709551616) (hl : xs.length = n) (hx : (∀ x ∈ t, 0 ≤ x ∧ x ≤ 255) ∧ ∀ x ∈ xs, 0 ≤ x ∧ x ≤ 255)
    (hM : Mid w' b (stN (t ++ xs) ((t.length + q) / 64)) (xs.drop q ++ R.drop np) np tot) : Dig w' b (t ++ xs) := by
  obtain ⟨a1, a2, a3, a4, a5, a6⟩ := h
  have e1 : (t ++ xs).length = t.length + n := by rw [List.length_append, hl]
  have e2 : (t.length + n) / 64 = (t.length + q) / 64 := by omega
  have e3 : (t.length + n) % 64 = np := by omega
  refine ⟨xs.drop q ++ R.drop np, ?_, ?_, fun x hm => ?_⟩
  · rw [e1, e2, e3, ← ht]; exact hM
  · have hd : (xs.drop q).length = np := by rw [List.length_drop, hl]; omega
    have hz : t.drop (64 * ((t.length + q) / 64)) = [] := List.drop_of_length_le (by omega)
    rw [e1, e2, e3, List.take_append_of_le_length (by omega), List.take_of_length_le (by omega), List.drop_append, hz, List.nil_append]
    congr 1
    omega
  · rcases List.mem_append.1 hm with hm | hm
    · exact hx.1 x hm
    · exact hx.2 x hm
theorem dig_short {w' : World} {b n k hv tot : Nat} {H : List Nat} {t xs R : List Int} (hH : H = stN t (t.length / 64)) (hR : R.take hv = t.drop (64 * (t.length / 64)) ∧ R.length = 64) (hl : xs.length = n) (hx : (∀ x ∈ t, 0 ≤ x ∧ x ≤ 255) ∧ ∀ x ∈ xs, 0 ≤ x ∧ x ≤ 255) (ht : tot = (t.length + n) % 18446744073709551616) (hv1 : hv = t.length % 64) (hk : k = n) (hf : hv + k < 64)
    (hM : Mid w' b H (R.take hv ++ xs.take k ++ R.drop (hv + k)) (hv + k) tot) : Dig w' b (t ++ xs) := by
  subst hk
  have e1 : (t ++ xs).length = t.length + k := by rw [List.length_append, hl]
  have e2 : (t.length + k) / 64 = t.length / 64 := by omega
  have e3 : (t.length + k) % 64 = hv + k := by omega
  refine ⟨R.take hv ++ xs.take k ++ R.drop (hv + k), ?_, ?_, fun x hm => ?_⟩
  · rw [e1, e2, e3, ← ht, stN_append _ _ _ (by omega), ← hH]; exact hM
  · have h1 : (R.take hv).length = hv := by rw [List.length_take, hR.2]; omega
    have hlen : (R.take hv ++ xs.take k).length = hv + k := by rw [List.length_append, h1, List.length_take, hl]; omega
    rw [e1, e2, e3, List.take_append_of_le_length (by omega), List.take_of_length_le (by omega), List.drop_append_of_le_length (by omega), hR.1, List.take_of_length_le (by omega)]
  · rcases List.mem_append.1 hm with hm | hm
    · exact hx.1 x hm
    · exact hx.2 x hm
theorem rest_full {k n hv : Nat} {H : List Nat} {t xs R : List Int} (hH : H = stN t (t.length / 64)) (hR : R.take hv = t.drop (64 * (t.length / 64)) ∧ R.length = 64) (hl : xs.length = n) (hv1 : hv = t.length % 64) (hk : k ≤ n) (hf : hv + k = 64) :
    cmp H (byte (R.take hv ++ xs.take k ++ R.drop (hv + k))) = stN (t ++ xs) ((t.length + k) / 64) := by
  have e : (t.length + k) / 64 = t.length / 64 + 1 := by omega
  rw [e]
  simp only [stN]
  rw [stN_append _ _ _ (by omega), ← hH]
  refine cmp_congr fun j hj => ?_
  have h1 : (R.take hv).length = hv := by rw [List.length_take, hR.2]; omega
  have hlen : (R.take hv ++ xs.take k).length = 64 := by rw [List.length_append, h1, List.length_take, hl]; omega
  rw [byte_append_left (by omega), hR.1]
  rcases Nat.lt_or_ge j hv with hj1 | hj1
  · rw [byte_append_left (by rw [List.length_drop]; omega), byte_append_left (by omega)]
    unfold byte
    rw [List.getD, List.getD, List.getElem?_drop]
  · rw [byte_append_right (by rw [List.length_drop]; omega), byte_append_right (by omega)]
    unfold byte
    rw [List.getD, List.getD, List.length_drop, List.getElem?_take, if_pos (by omega)]
    congr 3
    omega
attribute [local irreducible] wpList
set_option maxHeartbeats 4000000 in
/-- (d *digest) part. -/
theorem part_any (w : World) (b : Nat) (t xs : List Int) (a : Option Addr) (n c : Nat) (h : Dig w b t) (hs : ∀ X, w.grownBy X (some b) → Sl X a n c xs) (hn : n ≤ 4611686018427387904) (hT : TabK w) (hb : 3 < b) :
    Calls Tryd.prog 56 #[.pointer (some ⟨b, 0, none⟩), .slice a n c] w fun e w' => e = .returned (.tuple #[]) ∧ Dig w' b (t ++ xs) ∧ w.grownBy w' (some b) := by
  obtain ⟨R, hM, hR, ht⟩ := h
  have hsl := hs w (gb_refl _ _)
  obtain ⟨H, hH⟩ : ∃ H, H = stN t (t.length / 64) := ⟨_, rfl⟩
  obtain ⟨hv, hhv⟩ : ∃ hv, hv = t.length % 64 := ⟨_, rfl⟩
  obtain ⟨tot, htot⟩ : ∃ tot, tot = t.length % 18446744073709551616 := ⟨_, rfl⟩
  rw [← hH, ← hhv, ← htot] at hM
  rw [← hhv] at hR
  have HM := Lib.hid hM
  have HH2 := Lib.hid hH
  have HV := Lib.hid hhv
  have HR : Hid (R.take hv = t.drop (64 * (t.length / 64)) ∧ R.length = 64) := Lib.hid ⟨hR, hM.2.2.1⟩
  have HTT : Hid ((tot + n) % 18446744073709551616 = (t.length + n) % 18446744073709551616) := Lib.hid (by rw [htot]; omega)
  have HL : Hid (xs.length = n) := Lib.hid hsl.1.1
  have HX : Hid ((∀ x ∈ t, 0 ≤ x ∧ x ≤ 255) ∧ ∀ x ∈ xs, 0 ≤ x ∧ x ≤ 255) := Lib.hid ⟨ht, hsl.1.2.2.1⟩
  have HH : Hid (t.length % 64 = 0 → H = stN (t ++ xs) (t.length / 64)) := Lib.hid (fun _ => by rw [stN_append _ _ _ (by omega)]; exact hH)
  have HS := Lib.hid hs
  have HN := Lib.hid hn
  have HT : Hid (∀ X, w.grownBy X (some b) → TabK X) := Lib.hid (fun X hX => hT.grown hX (by simp; omega))
  clear hM hR ht hs hsl hn hT hH hhv htot
  go_enter Tryd.func56, Tryd.ntmps56
  go_upto_region 0 with (fail)
  refine wp_region_lit ?_
  refine wpL_pure (.pointer (some ⟨b, 0, none⟩)) rfl (by kernel_rfl) ?_
  simp only [Act.put, List.setIfInBounds_toArray, List.set_cons_zero, List.set_cons_succ]
  refine wpL_pure (.pointer (some ⟨b, 0, none⟩)) rfl (by kernel_rfl) ?_
  simp only [Act.put, List.setIfInBounds_toArray, List.set_cons_zero, List.set_cons_succ]
  refine wpL_pure (.pointer (some ⟨b, 73, none⟩)) rfl (by kernel_rfl) ?_
  simp only [Act.put, List.setIfInBounds_toArray, List.set_cons_zero, List.set_cons_succ]
  refine wpL_pure (.int .u64 (tot : Nat)) rfl (run_load_one _ _ _ 31 _ _ rfl (b) (73) rfl (HM.out.total) (by kernel_rfl)) ?_
  simp only [Act.put, List.setIfInBounds_toArray, List.set_cons_zero, List.set_cons_succ]
  refine wpL_pure (.slice a n c) rfl (by kernel_rfl) ?_
  simp only [Act.put, List.setIfInBounds_toArray, List.set_cons_zero, List.set_cons_succ]
  refine wpL_pure (.int .i64 (n : Int)) rfl (by kernel_rfl) ?_
  simp only [Act.put, List.setIfInBounds_toArray, List.set_cons_zero, List.set_cons_succ]
  refine wpL_pure (.int .u64 (n : Int)) rfl (run_convi Tryd.underlying3 Tryd.underlying31 rfl rfl _ (by rw [IntKind.wrap_u64]; have := HN.out; omega)) ?_
  simp only [Act.put, List.setIfInBounds_toArray, List.set_cons_zero, List.set_cons_succ]
  refine wpL_pure (.int .u64 ((tot + n) % 18446744073709551616 : Nat)) rfl (run_addi Tryd.underlying31 rfl rfl rfl _ (by rw [IntKind.wrap_u64]; omega)) ?_
  simp only [Act.put, List.setIfInBounds_toArray, List.set_cons_zero, List.set_cons_succ]
  refine wpL_pure (.pointer (some ⟨b, 0, none⟩)) rfl (by kernel_rfl) ?_
  simp only [Act.put, List.setIfInBounds_toArray, List.set_cons_zero, List.set_cons_succ]
  refine wpL_pure (.pointer (some ⟨b, 73, none⟩)) rfl (by kernel_rfl) ?_
  simp only [Act.put, List.setIfInBounds_toArray, List.set_cons_zero, List.set_cons_succ]
  refine wpL_store_one rfl rfl (b) (73) rfl (.int .u64 ((tot + n) % 18446744073709551616 : Nat)) rfl rfl size47 (by rw [HM.out.total]; rfl) (HM.out.1.free _) ?_
  simp only [Act.put, List.setIfInBounds_toArray, List.set_cons_zero, List.set_cons_succ]
  obtain ⟨w1, hw1⟩ : ∃ V, V = w.setCell ⟨b, 73, none⟩ (.int .u64 ((tot + n) % 18446744073709551616 : Nat)) := ⟨_, rfl⟩
  rw [← hw1]
  have M1 : Hid (Mid w1 b H R hv ((tot + n) % 18446744073709551616) ∧ w.grownBy w1 (some b)) := Lib.hid (by rw [hw1]; exact ⟨HM.out.setTotal _, gb_set (gb_refl _ _) _ _⟩)
  clear hw1 HM
  by_cases h0 : 0 < hv
  · have HZ : Hid (0 < hv) := Lib.hid h0
    clear h0
    go_upto_region 1 with (fail)
    refine wp_region_lit ?_
    refine wpL_pure (.pointer (some ⟨b, 0, none⟩)) rfl (by kernel_rfl) ?_
    simp only [Act.put, List.setIfInBounds_toArray, List.set_cons_zero, List.set_cons_succ]
    refine wpL_pure (.pointer (some ⟨b, 0, none⟩)) rfl (by kernel_rfl) ?_
    simp only [Act.put, List.setIfInBounds_toArray, List.set_cons_zero, List.set_cons_succ]
    refine wpL_pure (.pointer (some ⟨b, 72, none⟩)) rfl (by kernel_rfl) ?_
    simp only [Act.put, List.setIfInBounds_toArray, List.set_cons_zero, List.set_cons_succ]
    refine wpL_pure (.int .i64 ((hv : Nat) : Int)) rfl (run_load_one _ _ _ 3 _ _ rfl (b) (72) rfl (M1.out.1.held) (by kernel_rfl)) ?_
    simp only [Act.put, List.setIfInBounds_toArray, List.set_cons_zero, List.set_cons_succ]
    refine wpL_pure (.bool true) rfl (run_gti Tryd.underlying3 rfl rfl rfl (by have := HZ.out; rw [decide_eq_true_eq]; omega)) ?_
    simp only [Act.put, List.setIfInBounds_toArray, List.set_cons_zero, List.set_cons_succ]
    go_upto_region 2 with (fail)
    refine region_held (fun X => Mid X b H R hv ((tot + n) % 18446744073709551616) ∧ w.grownBy X (some b)) 9 (by kernel_rfl) (by kernel_rfl) (by exact ⟨M1.out.1, gb_drew M1.out.2⟩) ?_
    simp only [List.take_succ_cons, List.take_zero, List.drop_succ_cons, List.drop_zero]
    refine wpHeld_cons (.pointer (some ⟨b, 0, none⟩)) rfl (fun w h => heldRun_value (by kernel_rfl) h) ?_
    simp only [Act.put, List.setIfInBounds_toArray, List.set_cons_zero, List.set_cons_succ]
    refine wpHeld_cons (.pointer (some ⟨b, 0, none⟩)) rfl (fun w h => heldRun_value (by kernel_rfl) h) ?_
    simp only [Act.put, List.setIfInBounds_toArray, List.set_cons_zero, List.set_cons_succ]
    refine wpHeld_cons (.pointer (some ⟨b, 8, none⟩)) rfl (fun w h => heldRun_value (by kernel_rfl) h) ?_
    simp only [Act.put, List.setIfInBounds_toArray, List.set_cons_zero, List.set_cons_succ]
    refine wpHeld_cons (.pointer (some ⟨b, 0, none⟩)) rfl (fun w h => heldRun_value (by kernel_rfl) h) ?_
    simp only [Act.put, List.setIfInBounds_toArray, List.set_cons_zero, List.set_cons_succ]
    refine wpHeld_cons (.pointer (some ⟨b, 0, none⟩)) rfl (fun w h => heldRun_value (by kernel_rfl) h) ?_
    simp only [Act.put, List.setIfInBounds_toArray, List.set_cons_zero, List.set_cons_succ]
    refine wpHeld_cons (.pointer (some ⟨b, 72, none⟩)) rfl (fun w h => heldRun_value (by kernel_rfl) h) ?_
    simp only [Act.put, List.setIfInBounds_toArray, List.set_cons_zero, List.set_cons_succ]
    refine wpHeld_cons (.int .i64 ((hv : Nat) : Int)) rfl (fun w h => heldRun_value (run_load_one _ _ _ 3 _ _ rfl (b) (72) rfl (h.1.held) (by kernel_rfl)) h) ?_
    simp only [Act.put, List.setIfInBounds_toArray, List.set_cons_zero, List.set_cons_succ]
    refine wpHeld_cons (.slice (some ⟨b, 8 + hv, none⟩) (64 - hv) (64 - hv)) rfl (fun w h => heldRun_value (run_slarr 92 64 (by simp) _ _ _ _ _ b 8 hv rfl rfl rfl (by have := HV.out; omega)) h) ?_
    simp only [Act.put, List.setIfInBounds_toArray, List.set_cons_zero, List.set_cons_succ]
    refine wpHeld_cons (.slice a n c) rfl (fun w h => heldRun_value (by kernel_rfl) h) ?_
    simp only [Act.put, List.setIfInBounds_toArray, List.set_cons_zero, List.set_cons_succ]
    refine wpHeld_nil ?_
    intro w2 h
    obtain ⟨w3, r1, r2, r3⟩ := h.1.copyAt (HS.out w2 h.2) (by have := HV.out; omega)
    obtain ⟨k, hk⟩ : ∃ k, Nat.min n (64 - hv) = k := ⟨_, rfl⟩
    rw [hk] at r1 r2
    have CP := Lib.hid r1
    have M3 : Hid (Mid w3 b H (R.take hv ++ xs.take k ++ R.drop (hv + k)) hv ((tot + n) % 18446744073709551616) ∧ w.grownBy w3 (some b)) := Lib.hid ⟨r2, gb_trans h.2 r3⟩
    have LK : Hid (k ≤ n ∧ hv + k ≤ 64 ∧ (hv + k < 64 → k = n)) := Lib.hid (by have := HV.out; have h1 : k = min n (64 - hv) := hk.symm; omega)
    clear r1 r2 r3 h hk M1
    refine wpL_value (.int .i64 (k : Int)) (w3) rfl (run_cpy _ _ _ _ _ _ _ _ _ rfl rfl rfl rfl CP.out) ?_
    simp only [Act.put, List.setIfInBounds_toArray, List.set_cons_zero, List.set_cons_succ]
    refine wpL_pure (.int .i64 (k : Int)) rfl (by kernel_rfl) ?_
    simp only [Act.put, List.setIfInBounds_toArray, List.set_cons_zero, List.set_cons_succ]
    go_upto_region 3 with (fail)
    refine wp_region_lit ?_
    refine wpL_pure (.pointer (some ⟨b, 0, none⟩)) rfl (by kernel_rfl) ?_
    simp only [Act.put, List.setIfInBounds_toArray, List.set_cons_zero, List.set_cons_succ]
    refine wpL_pure (.pointer (some ⟨b, 0, none⟩)) rfl (by kernel_rfl) ?_
    simp only [Act.put, List.setIfInBounds_toArray, List.set_cons_zero, List.set_cons_succ]
    refine wpL_pure (.pointer (some ⟨b, 72, none⟩)) rfl (by kernel_rfl) ?_
    simp only [Act.put, List.setIfInBounds_toArray, List.set_cons_zero, List.set_cons_succ]
    refine wpL_pure (.int .i64 ((hv : Nat) : Int)) rfl (run_load_one _ _ _ 3 _ _ rfl (b) (72) rfl (M3.out.1.held) (by kernel_rfl)) ?_
    simp only [Act.put, List.setIfInBounds_toArray, List.set_cons_zero, List.set_cons_succ]
    refine wpL_pure (.int .i64 (k : Int)) rfl (by kernel_rfl) ?_
    simp only [Act.put, List.setIfInBounds_toArray, List.set_cons_zero, List.set_cons_succ]
    refine wpL_pure (.int .i64 ((hv + k : Nat) : Int)) rfl (run_addi Tryd.underlying3 rfl rfl rfl _ (by have := LK.out; rw [wrap_in _ (by omega) (by omega)]; omega)) ?_
    simp only [Act.put, List.setIfInBounds_toArray, List.set_cons_zero, List.set_cons_succ]
    refine wpL_pure (.pointer (some ⟨b, 0, none⟩)) rfl (by kernel_rfl) ?_
    simp only [Act.put, List.setIfInBounds_toArray, List.set_cons_zero, List.set_cons_succ]
    refine wpL_pure (.pointer (some ⟨b, 72, none⟩)) rfl (by kernel_rfl) ?_
    simp only [Act.put, List.setIfInBounds_toArray, List.set_cons_zero, List.set_cons_succ]
    refine wpL_store_one rfl rfl (b) (72) rfl (.int .i64 ((hv + k : Nat) : Int)) rfl rfl size3 (by rw [M3.out.1.held]; rfl) (M3.out.1.1.free _) ?_
    simp only [Act.put, List.setIfInBounds_toArray, List.set_cons_zero, List.set_cons_succ]
    obtain ⟨w4, hw4⟩ : ∃ V, V = w3.setCell ⟨b, 72, none⟩ (.int .i64 ((hv + k : Nat) : Int)) := ⟨_, rfl⟩
    rw [← hw4]
    have M4 : Hid (Mid w4 b H (R.take hv ++ xs.take k ++ R.drop (hv + k)) (hv + k) ((tot + n) % 18446744073709551616) ∧ w.grownBy w4 (some b)) := Lib.hid (by rw [hw4]; exact ⟨M3.out.1.setHeld _, gb_set M3.out.2 _ _⟩)
    clear hw4 M3
    go_upto_region 4 with (fail)
    refine wp_region_lit ?_
    refine wpL_pure (.slice a n c) rfl (by kernel_rfl) ?_
    simp only [Act.put, List.setIfInBounds_toArray, List.set_cons_zero, List.set_cons_succ]
    refine wpL_pure (.int .i64 (k : Int)) rfl (by kernel_rfl) ?_
    simp only [Act.put, List.setIfInBounds_toArray, List.set_cons_zero, List.set_cons_succ]
    refine wpL_pure (.slice (dropA a c k) (n - k) (c - k)) rfl (run_slicep' _ _ _ _ _ _ n c k _ rfl rfl rfl LK.out.1 (HS.out w4 M4.out.2).2.1 (HS.out w4 M4.out.2).2.2 rfl) ?_
    simp only [Act.put, List.setIfInBounds_toArray, List.set_cons_zero, List.set_cons_succ]
    refine wpL_pure (.slice (dropA a c k) (n - k) (c - k)) rfl (by kernel_rfl) ?_
    simp only [Act.put, List.setIfInBounds_toArray, List.set_cons_zero, List.set_cons_succ]
    by_cases hf : hv + k < 64
    · have HF := Lib.hid hf
      clear hf
      go_upto_region 5 with (fail)
      refine wp_region_lit ?_
      refine wpL_pure (.pointer (some ⟨b, 0, none⟩)) rfl (by kernel_rfl) ?_
      simp only [Act.put, List.setIfInBounds_toArray, List.set_cons_zero, List.set_cons_succ]
      refine wpL_pure (.pointer (some ⟨b, 0, none⟩)) rfl (by kernel_rfl) ?_
      simp only [Act.put, List.setIfInBounds_toArray, List.set_cons_zero, List.set_cons_succ]
      refine wpL_pure (.pointer (some ⟨b, 72, none⟩)) rfl (by kernel_rfl) ?_
      simp only [Act.put, List.setIfInBounds_toArray, List.set_cons_zero, List.set_cons_succ]
      refine wpL_pure (.int .i64 ((hv + k : Nat) : Int)) rfl (run_load_one _ _ _ 3 _ _ rfl (b) (72) rfl (M4.out.1.held) (by kernel_rfl)) ?_
      simp only [Act.put, List.setIfInBounds_toArray, List.set_cons_zero, List.set_cons_succ]
      refine wpL_pure (.bool true) rfl (run_lti Tryd.underlying3 rfl rfl rfl (by have := HF.out; rw [decide_eq_true_eq]; omega)) ?_
      simp only [Act.put, List.setIfInBounds_toArray, List.set_cons_zero, List.set_cons_succ]
      go_wp2_with fail
      refine bodyPost_ret (results_none rfl _ _ _) rfl ?_
      exact ⟨rfl, dig_short HH2.out HR.out HL.out HX.out HTT.out HV.out (LK.out.2.2 HF.out) HF.out M4.out.1, M4.out.2⟩
    · have HF : Hid (hv + k = 64) := Lib.hid (by have := LK.out; omega)
      clear hf
      go_upto_region 5 with (fail)
      refine wp_region_lit ?_
      refine wpL_pure (.pointer (some ⟨b, 0, none⟩)) rfl (by kernel_rfl) ?_
      simp only [Act.put, List.setIfInBounds_toArray, List.set_cons_zero, List.set_cons_succ]
      refine wpL_pure (.pointer (some ⟨b, 0, none⟩)) rfl (by kernel_rfl) ?_
      simp only [Act.put, List.setIfInBounds_toArray, List.set_cons_zero, List.set_cons_succ]
      refine wpL_pure (.pointer (some ⟨b, 72, none⟩)) rfl (by kernel_rfl) ?_
      simp only [Act.put, List.setIfInBounds_toArray, List.set_cons_zero, List.set_cons_succ]
      refine wpL_pure (.int .i64 ((hv + k : Nat) : Int)) rfl (run_load_one _ _ _ 3 _ _ rfl (b) (72) rfl (M4.out.1.held) (by kernel_rfl)) ?_
      simp only [Act.put, List.setIfInBounds_toArray, List.set_cons_zero, List.set_cons_succ]
      refine wpL_pure (.bool false) rfl (run_lti Tryd.underlying3 rfl rfl rfl (by have := HF.out; rw [decide_eq_false_iff_not]; omega)) ?_
      simp only [Act.put, List.setIfInBounds_toArray, List.set_cons_zero, List.set_cons_succ]
      go_upto_region 6 with (fail)
      refine wp_region_lit ?_
      refine wpL_pure (.pointer (some ⟨b, 0, none⟩)) rfl (by kernel_rfl) ?_
      simp only [Act.put, List.setIfInBounds_toArray, List.set_cons_zero, List.set_cons_succ]
      refine wpL_pure (.pointer (some ⟨b, 0, none⟩)) rfl (by kernel_rfl) ?_
      simp only [Act.put, List.setIfInBounds_toArray, List.set_cons_zero, List.set_cons_succ]
      refine wpL_pure (.pointer (some ⟨b, 0, none⟩)) rfl (by kernel_rfl) ?_
      simp only [Act.put, List.setIfInBounds_toArray, List.set_cons_zero, List.set_cons_succ]
      refine wpL_pure (.pointer (some ⟨b, 8, none⟩)) rfl (by kernel_rfl) ?_
      simp only [Act.put, List.setIfInBounds_toArray, List.set_cons_zero, List.set_cons_succ]
      refine wpL_pure (.slice (some ⟨b, 8, none⟩) 64 64) rfl (by kernel_rfl) ?_
      simp only [Act.put, List.setIfInBounds_toArray, List.set_cons_zero, List.set_cons_succ]
      refine wpL_call 64 #[.pointer (some ⟨b, 0, none⟩), .slice (some ⟨b, 8, none⟩) 64 64] rfl (by kernel_rfl) (((block_rest M4.out.1 (HT.out w4 M4.out.2))).mono fun e w5 ⟨he, q1, q2⟩ => ⟨.tuple #[], he, ?_⟩)
      simp only [Act.put, List.setIfInBounds_toArray, List.set_cons_zero, List.set_cons_succ]
      have M5 := Lib.hid (And.intro q1 (gb_trans M4.out.2 q2))
      clear q1 q2 M4
      go_wp2_with fail
      go_loopw [1] (fun s1 wr => ∃ (q : Nat) (ap : Option Addr) (np cp : Nat) (R : List Int), s1 = .slice ap np cp ∧ Hid (PInv w b t xs n ((tot + n) % 18446744073709551616) (hv + k) q ap np cp R wr)) (fun s1 _ => slLen s1)
      case atStart => exact ⟨k, dropA a c k, n - k, c - k, _, rfl, Lib.hid ⟨LK.out.1, by have := HF.out; have := HV.out; omega, by omega, (by rw [← rest_full HH2.out HR.out HL.out HV.out LK.out.1 HF.out]; exact M5.out.1), M5.out.2, fun X hX => (HS.out X hX).drop k LK.out.1⟩⟩
      case round =>
        obtain ⟨q, ap, np, cp, R2, rfl, RI⟩ := hrel
        by_cases hlt : 64 ≤ np
        · have HK := Lib.hid hlt
          clear hlt
          obtain ⟨g, o, hap⟩ := (RI.out.2.2.2.2.2 wr RI.out.2.2.2.2.1).addr (by have := HK.out; omega)
          subst hap
          go_upto_region 7 with (fail)
          refine wp_region_lit ?_
          refine wpL_pure (.slice (some ⟨g, o, none⟩) np cp) rfl (by kernel_rfl) ?_
          simp only [Act.put, List.setIfInBounds_toArray, List.set_cons_zero, List.set_cons_succ]
          refine wpL_pure (.int .i64 (np : Int)) rfl (by kernel_rfl) ?_
          simp only [Act.put, List.setIfInBounds_toArray, List.set_cons_zero, List.set_cons_succ]
          refine wpL_pure (.bool true) rfl (run_gei Tryd.underlying3 rfl rfl rfl (by have := HK.out; rw [decide_eq_true_eq]; omega)) ?_
          simp only [Act.put, List.setIfInBounds_toArray, List.set_cons_zero, List.set_cons_succ]
          go_upto_region 8 with (fail)
          refine wp_region_lit ?_
          refine wpL_pure (.pointer (some ⟨b, 0, none⟩)) rfl (by kernel_rfl) ?_
          simp only [Act.put, List.setIfInBounds_toArray, List.set_cons_zero, List.set_cons_succ]
          refine wpL_pure (.slice (some ⟨g, o, none⟩) np cp) rfl (by kernel_rfl) ?_
          simp only [Act.put, List.setIfInBounds_toArray, List.set_cons_zero, List.set_cons_succ]
          refine wpL_pure (.slice (some ⟨g, o, none⟩) 64 cp) rfl (run_sliceto64 _ _ _ _ g o np cp rfl rfl (by have := (RI.out.2.2.2.2.2 wr RI.out.2.2.2.2.1).2; have := HK.out; omega)) ?_
          simp only [Act.put, List.setIfInBounds_toArray, List.set_cons_zero, List.set_cons_succ]
          refine wpL_call 64 #[.pointer (some ⟨b, 0, none⟩), .slice (some ⟨g, o, none⟩) 64 cp] rfl (by kernel_rfl) (((block_part RI.out.2.2.2.1 (HT.out wr RI.out.2.2.2.2.1) (RI.out.2.2.2.2.2 wr RI.out.2.2.2.2.1) HK.out)).mono fun e w5 ⟨he, q1, q2⟩ => ⟨.tuple #[], he, ?_⟩)
          simp only [Act.put, List.setIfInBounds_toArray, List.set_cons_zero, List.set_cons_succ]
          have NX := RI.out.step HK.out HL.out q1 q2
          have NX := Lib.hid NX
          clear q1 q2
          go_upto_region 9 with (fail)
          refine wp_region_lit ?_
          refine wpL_pure (.slice (some ⟨g, o, none⟩) np cp) rfl (by kernel_rfl) ?_
          simp only [Act.put, List.setIfInBounds_toArray, List.set_cons_zero, List.set_cons_succ]
          refine wpL_pure (.slice (dropA (some ⟨g, o, none⟩) cp 64) (np - 64) (cp - 64)) rfl (run_slicep' _ _ _ _ _ _ np cp 64 _ rfl rfl rfl HK.out (RI.out.2.2.2.2.2 wr RI.out.2.2.2.2.1).2.1 (RI.out.2.2.2.2.2 wr RI.out.2.2.2.2.1).2.2 rfl) ?_
          simp only [Act.put, List.setIfInBounds_toArray, List.set_cons_zero, List.set_cons_succ]
          refine wpL_pure (.slice (dropA (some ⟨g, o, none⟩) cp 64) (np - 64) (cp - 64)) rfl (by kernel_rfl) ?_
          simp only [Act.put, List.setIfInBounds_toArray, List.set_cons_zero, List.set_cons_succ]
          unfold wpList
          go_roundw
          case rel => first | exact ⟨_, _, _, _, _, rfl, NX⟩ | ((repeat apply Exists.intro); exact ⟨⟨_, _, _, _, _, rfl, NX⟩, rfl⟩)
          case measure => simp [slLen]; have := HK.out; omega
        · have HK := Lib.hid hlt
          clear hlt
          go_upto_region 7 with (fail)
          refine wp_region_lit ?_
          refine wpL_pure (.slice ap np cp) rfl (by kernel_rfl) ?_
          simp only [Act.put, List.setIfInBounds_toArray, List.set_cons_zero, List.set_cons_succ]
          refine wpL_pure (.int .i64 (np : Int)) rfl (by kernel_rfl) ?_
          simp only [Act.put, List.setIfInBounds_toArray, List.set_cons_zero, List.set_cons_succ]
          refine wpL_pure (.bool false) rfl (run_gei Tryd.underlying3 rfl rfl rfl (by have := HK.out; rw [decide_eq_false_iff_not]; omega)) ?_
          simp only [Act.put, List.setIfInBounds_toArray, List.set_cons_zero, List.set_cons_succ]
          obtain ⟨w6, r1, r2, r3⟩ := RI.out.copyRest (by have := HK.out; omega)
          have CP := Lib.hid r1
          have M6 : Hid (Mid w6 b (stN (t ++ xs) ((t.length + q) / 64)) (xs.drop q ++ R2.drop np) (hv + k) ((tot + n) % 18446744073709551616) ∧ w.grownBy w6 (some b)) := Lib.hid ⟨r2, gb_trans RI.out.2.2.2.2.1 r3⟩
          clear r1 r2 r3
          go_upto_region 10 with (fail)
          refine wp_region_lit ?_
          refine wpL_pure (.pointer (some ⟨b, 0, none⟩)) rfl (by kernel_rfl) ?_
          simp only [Act.put, List.setIfInBounds_toArray, List.set_cons_zero, List.set_cons_succ]
          refine wpL_pure (.pointer (some ⟨b, 0, none⟩)) rfl (by kernel_rfl) ?_
          simp only [Act.put, List.setIfInBounds_toArray, List.set_cons_zero, List.set_cons_succ]
          refine wpL_pure (.pointer (some ⟨b, 0, none⟩)) rfl (by kernel_rfl) ?_
          simp only [Act.put, List.setIfInBounds_toArray, List.set_cons_zero, List.set_cons_succ]
          refine wpL_pure (.pointer (some ⟨b, 8, none⟩)) rfl (by kernel_rfl) ?_
          simp only [Act.put, List.setIfInBounds_toArray, List.set_cons_zero, List.set_cons_succ]
          refine wpL_pure (.slice (some ⟨b, 8, none⟩) 64 64) rfl (by kernel_rfl) ?_
          simp only [Act.put, List.setIfInBounds_toArray, List.set_cons_zero, List.set_cons_succ]
          refine wpL_pure (.slice ap np cp) rfl (by kernel_rfl) ?_
          simp only [Act.put, List.setIfInBounds_toArray, List.set_cons_zero, List.set_cons_succ]
          refine wpL_value (.int .i64 (np : Int)) (w6) rfl (run_cpy _ _ _ _ _ _ _ _ _ rfl rfl rfl rfl CP.out) ?_
          simp only [Act.put, List.setIfInBounds_toArray, List.set_cons_zero, List.set_cons_succ]
          refine wpL_pure (.pointer (some ⟨b, 0, none⟩)) rfl (by kernel_rfl) ?_
          simp only [Act.put, List.setIfInBounds_toArray, List.set_cons_zero, List.set_cons_succ]
          refine wpL_pure (.pointer (some ⟨b, 72, none⟩)) rfl (by kernel_rfl) ?_
          simp only [Act.put, List.setIfInBounds_toArray, List.set_cons_zero, List.set_cons_succ]
          refine wpL_store_one rfl rfl (b) (72) rfl (.int .i64 (np : Int)) rfl rfl size3 (by rw [M6.out.1.held]; rfl) (M6.out.1.1.free _) ?_
          simp only [Act.put, List.setIfInBounds_toArray, List.set_cons_zero, List.set_cons_succ]
          go_wp2_with fail
          go_end0
          exact ⟨rfl, RI.out.done HK.out HTT.out HL.out HX.out (M6.out.1.setHeld np), gb_set M6.out.2 _ _⟩
  · have HZ : Hid (hv = 0) := Lib.hid (by omega)
    clear h0
    go_upto_region 1 with (fail)
    refine wp_region_lit ?_
    refine wpL_pure (.pointer (some ⟨b, 0, none⟩)) rfl (by kernel_rfl) ?_
    simp only [Act.put, List.setIfInBounds_toArray, List.set_cons_zero, List.set_cons_succ]
    refine wpL_pure (.pointer (some ⟨b, 0, none⟩)) rfl (by kernel_rfl) ?_
    simp only [Act.put, List.setIfInBounds_toArray, List.set_cons_zero, List.set_cons_succ]
    refine wpL_pure (.pointer (some ⟨b, 72, none⟩)) rfl (by kernel_rfl) ?_
    simp only [Act.put, List.setIfInBounds_toArray, List.set_cons_zero, List.set_cons_succ]
    refine wpL_pure (.int .i64 ((hv : Nat) : Int)) rfl (run_load_one _ _ _ 3 _ _ rfl (b) (72) rfl (M1.out.1.held) (by kernel_rfl)) ?_
    simp only [Act.put, List.setIfInBounds_toArray, List.set_cons_zero, List.set_cons_succ]
    refine wpL_pure (.bool false) rfl (run_gti Tryd.underlying3 rfl rfl rfl (by have := HZ.out; rw [decide_eq_false_iff_not]; omega)) ?_
    simp only [Act.put, List.setIfInBounds_toArray, List.set_cons_zero, List.set_cons_succ]
    go_wp2_with fail
    go_loopw [1] (fun s1 wr => ∃ (q : Nat) (ap : Option Addr) (np cp : Nat) (R : List Int), s1 = .slice ap np cp ∧ Hid (PInv w b t xs n ((tot + n) % 18446744073709551616) hv q ap np cp R wr)) (fun s1 _ => slLen s1)
    case atStart => exact ⟨0, a, n, c, R, rfl, Lib.hid ⟨by omega, by have := HZ.out; have := HV.out; omega, by omega, (by rw [Nat.add_zero]; exact (HH.out (by have := HZ.out; have := HV.out; omega)) ▸ M1.out.1), M1.out.2, fun X hX => by rw [List.drop_zero]; exact HS.out X hX⟩⟩
    case round =>
      obtain ⟨q, ap, np, cp, R2, rfl, RI⟩ := hrel
      by_cases hlt : 64 ≤ np
      · have HK := Lib.hid hlt
        clear hlt
        obtain ⟨g, o, hap⟩ := (RI.out.2.2.2.2.2 wr RI.out.2.2.2.2.1).addr (by have := HK.out; omega)
        subst hap
        go_upto_region 7 with (fail)
        refine wp_region_lit ?_
        refine wpL_pure (.slice (some ⟨g, o, none⟩) np cp) rfl (by kernel_rfl) ?_
        simp only [Act.put, List.setIfInBounds_toArray, List.set_cons_zero, List.set_cons_succ]
        refine wpL_pure (.int .i64 (np : Int)) rfl (by kernel_rfl) ?_
        simp only [Act.put, List.setIfInBounds_toArray, List.set_cons_zero, List.set_cons_succ]
        refine wpL_pure (.bool true) rfl (run_gei Tryd.underlying3 rfl rfl rfl (by have := HK.out; rw [decide_eq_true_eq]; omega)) ?_
        simp only [Act.put, List.setIfInBounds_toArray, List.set_cons_zero, List.set_cons_succ]
        go_upto_region 8 with (fail)
        refine wp_region_lit ?_
        refine wpL_pure (.pointer (some ⟨b, 0, none⟩)) rfl (by kernel_rfl) ?_
        simp only [Act.put, List.setIfInBounds_toArray, List.set_cons_zero, List.set_cons_succ]
        refine wpL_pure (.slice (some ⟨g, o, none⟩) np cp) rfl (by kernel_rfl) ?_
        simp only [Act.put, List.setIfInBounds_toArray, List.set_cons_zero, List.set_cons_succ]
        refine wpL_pure (.slice (some ⟨g, o, none⟩) 64 cp) rfl (run_sliceto64 _ _ _ _ g o np cp rfl rfl (by have := (RI.out.2.2.2.2.2 wr RI.out.2.2.2.2.1).2; have := HK.out; omega)) ?_
        simp only [Act.put, List.setIfInBounds_toArray, List.set_cons_zero, List.set_cons_succ]
        refine wpL_call 64 #[.pointer (some ⟨b, 0, none⟩), .slice (some ⟨g, o, none⟩) 64 cp] rfl (by kernel_rfl) (((block_part RI.out.2.2.2.1 (HT.out wr RI.out.2.2.2.2.1) (RI.out.2.2.2.2.2 wr RI.out.2.2.2.2.1) HK.out)).mono fun e w5 ⟨he, q1, q2⟩ => ⟨.tuple #[], he, ?_⟩)
        simp only [Act.put, List.setIfInBounds_toArray, List.set_cons_zero, List.set_cons_succ]
        have NX := RI.out.step HK.out HL.out q1 q2
        have NX := Lib.hid NX
        clear q1 q2
        go_upto_region 9 with (fail)
        refine wp_region_lit ?_
        refine wpL_pure (.slice (some ⟨g, o, none⟩) np cp) rfl (by kernel_rfl) ?_
        simp only [Act.put, List.setIfInBounds_toArray, List.set_cons_zero, List.set_cons_succ]
        refine wpL_pure (.slice (dropA (some ⟨g, o, none⟩) cp 64) (np - 64) (cp - 64)) rfl (run_slicep' _ _ _ _ _ _ np cp 64 _ rfl rfl rfl HK.out (RI.out.2.2.2.2.2 wr RI.out.2.2.2.2.1).2.1 (RI.out.2.2.2.2.2 wr RI.out.2.2.2.2.1).2.2 rfl) ?_
        simp only [Act.put, List.setIfInBounds_toArray, List.set_cons_zero, List.set_cons_succ]
        refine wpL_pure (.slice (dropA (some ⟨g, o, none⟩) cp 64) (np - 64) (cp - 64)) rfl (by kernel_rfl) ?_
        simp only [Act.put, List.setIfInBounds_toArray, List.set_cons_zero, List.set_cons_succ]
        unfold wpList
        go_roundw
        case rel => first | exact ⟨_, _, _, _, _, rfl, NX⟩ | ((repeat apply Exists.intro); exact ⟨⟨_, _, _, _, _, rfl, NX⟩, rfl⟩)
        case measure => simp [slLen]; have := HK.out; omega
      · have HK := Lib.hid hlt
        clear hlt
        go_upto_region 7 with (fail)
        refine wp_region_lit ?_
        refine wpL_pure (.slice ap np cp) rfl (by kernel_rfl) ?_
        simp only [Act.put, List.setIfInBounds_toArray, List.set_cons_zero, List.set_cons_succ]
        refine wpL_pure (.int .i64 (np : Int)) rfl (by kernel_rfl) ?_
        simp only [Act.put, List.setIfInBounds_toArray, List.set_cons_zero, List.set_cons_succ]
        refine wpL_pure (.bool false) rfl (run_gei Tryd.underlying3 rfl rfl rfl (by have := HK.out; rw [decide_eq_false_iff_not]; omega)) ?_
        simp only [Act.put, List.setIfInBounds_toArray, List.set_cons_zero, List.set_cons_succ]
        obtain ⟨w6, r1, r2, r3⟩ := RI.out.copyRest (by have := HK.out; omega)
        have CP := Lib.hid r1
        have M6 : Hid (Mid w6 b (stN (t ++ xs) ((t.length + q) / 64)) (xs.drop q ++ R2.drop np) hv ((tot + n) % 18446744073709551616) ∧ w.grownBy w6 (some b)) := Lib.hid ⟨r2, gb_trans RI.out.2.2.2.2.1 r3⟩
        clear r1 r2 r3
        go_upto_region 10 with (fail)
        refine wp_region_lit ?_
        refine wpL_pure (.pointer (some ⟨b, 0, none⟩)) rfl (by kernel_rfl) ?_
        simp only [Act.put, List.setIfInBounds_toArray, List.set_cons_zero, List.set_cons_succ]
        refine wpL_pure (.pointer (some ⟨b, 0, none⟩)) rfl (by kernel_rfl) ?_
        simp only [Act.put, List.setIfInBounds_toArray, List.set_cons_zero, List.set_cons_succ]
        refine wpL_pure (.pointer (some ⟨b, 0, none⟩)) rfl (by kernel_rfl) ?_
        simp only [Act.put, List.setIfInBounds_toArray, List.set_cons_zero, List.set_cons_succ]
        refine wpL_pure (.pointer (some ⟨b, 8, none⟩)) rfl (by kernel_rfl) ?_
        simp only [Act.put, List.setIfInBounds_toArray, List.set_cons_zero, List.set_cons_succ]
        refine wpL_pure (.slice (some ⟨b, 8, none⟩) 64 64) rfl (by kernel_rfl) ?_
        simp only [Act.put, List.setIfInBounds_toArray, List.set_cons_zero, List.set_cons_succ]
        refine wpL_pure (.slice ap np cp) rfl (by kernel_rfl) ?_
        simp only [Act.put, List.setIfInBounds_toArray, List.set_cons_zero, List.set_cons_succ]
        refine wpL_value (.int .i64 (np : Int)) (w6) rfl (run_cpy _ _ _ _ _ _ _ _ _ rfl rfl rfl rfl CP.out) ?_
        simp only [Act.put, List.setIfInBounds_toArray, List.set_cons_zero, List.set_cons_succ]
        refine wpL_pure (.pointer (some ⟨b, 0, none⟩)) rfl (by kernel_rfl) ?_
        simp only [Act.put, List.setIfInBounds_toArray, List.set_cons_zero, List.set_cons_succ]
        refine wpL_pure (.pointer (some ⟨b, 72, none⟩)) rfl (by kernel_rfl) ?_
        simp only [Act.put, List.setIfInBounds_toArray, List.set_cons_zero, List.set_cons_succ]
        refine wpL_store_one rfl rfl (b) (72) rfl (.int .i64 (np : Int)) rfl rfl size3 (by rw [M6.out.1.held]; rfl) (M6.out.1.1.free _) ?_
        simp only [Act.put, List.setIfInBounds_toArray, List.set_cons_zero, List.set_cons_succ]
        go_wp2_with fail
        go_end0
        exact ⟨rfl, RI.out.done HK.out HTT.out HL.out HX.out (M6.out.1.setHeld np), gb_set M6.out.2 _ _⟩
end Go.Proofs.YtfhjfpgfbeiacaaDoor.Ha
