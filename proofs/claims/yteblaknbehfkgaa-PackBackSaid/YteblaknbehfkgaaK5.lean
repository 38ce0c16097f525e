import Derived.Test.YteblaknbehfkgaaK4
namespace Go.Proofs.Yteblaknbehfkgaa
open Go Go.RowKit

theorem size4 (w : World) : (sizeOf 4).run Try.prog w = .ok 1 w := by kernel_rfl
def dropA (a : Option Addr) (c s : Nat) : Option Addr := a.map fun p => ⟨p.block, p.off + (if c = s then 0 else s), p.spot⟩
def addTo (a : Option Addr) (m : Nat) : Option Addr := a.map fun p => ⟨p.block, p.off + m, p.spot⟩
/-- what an In's slice is. -/
def Lft (w : World) (b : Nat) (xs : List Int) (a : Option Addr) (n c : Nat) : Prop := Row w a n xs ∧ n ≤ c ∧ c ≤ maxLen ∧ (a = none → c = 0) ∧ ∀ p, a = some p → p.block ≠ b ∧ p.spot = none
/-- an In at block b that has these bytes left. -/
def InSt (w : World) (b : Nat) (xs : List Int) (bad : Bool) : Prop := ∃ a n c, Blk w b 58 #[.slice a n c, .bool bad] ∧ Lft w b xs a n c
theorem Lft.set {w : World} {b : Nat} {xs : List Int} {a : Option Addr} {n c : Nat} (h : Lft w b xs a n c) (o : Nat) (v : Value) : Lft (w.setCell ⟨b, o, none⟩ v) b xs a n c :=
  ⟨h.1.setOther _ _ (fun p hp => (h.2.2.2.2 p hp).1), h.2⟩
theorem Lft.drop {w : World} {b : Nat} {xs : List Int} {a : Option Addr} {n c : Nat} (h : Lft w b xs a n c) (s : Nat) (hs : s ≤ n) : Lft w b (xs.drop s) (dropA a c s) (n - s) (c - s) := by
  obtain ⟨h1, h2, h3, h4, h5⟩ := h
  have hl := h1.1
  refine ⟨?_, by omega, by omega, ?_, ?_⟩
  · by_cases e : n = s
    · subst e
      rw [Nat.sub_self, show xs.drop n = [] from List.drop_of_length_le (by omega)]
      exact Row.nil _ _
    · cases a with
      | none => obtain ⟨g, o, q, _⟩ := h1.2.2.2 0 (by omega); cases q
      | some p =>
        obtain ⟨g, off, spot⟩ := p
        obtain rfl : spot = none := (h5 _ rfl).2
        have q := h1.sub s (n - s) (by omega)
        rw [List.take_of_length_le (by rw [List.length_drop]; omega)] at q
        unfold dropA
        rw [if_neg (by omega)]
        exact q
  · intro e
    have := h4 (by cases a <;> simp [dropA] at e ⊢)
    omega
  · intro p hp
    cases a with
    | none => simp [dropA] at hp
    | some q =>
      have := h5 q rfl
      simp [dropA] at hp
      subst hp
      exact this
theorem InSt.below {w w' : World} {b : Nat} {xs : List Int} {bad : Bool} (h : InSt w b xs bad) (hb : Below w.heap.size w w') : InSt w' b xs bad := by
  obtain ⟨a, n, c, h1, h2⟩ := h
  exact ⟨a, n, c, h1.below hb, h2.1.keep hb, h2.2⟩
theorem run_slicep (a : Act) (o : Oper) (w : World) (x i : Operand) (ad : Option Addr) (len cap m L : Nat) (ho : o.op = .slice 25 x (some i) none none) (hx : a.eval x = .slice ad len cap) (hi : a.eval i = .int .i64 (m : Int)) (hm : m ≤ len) (hc : len ≤ cap) (hw : cap < 9223372036854775808 ∧ ∀ p, ad = some p → p.spot = none) (hL : L = len - m) :
    (execOp a.eval o).run Try.prog w = .ok (.value (.slice (dropA ad cap m) L (cap - m))) w := by
  subst hL
  obtain ⟨hw, hsp⟩ := hw
  have h1 : (0 : Int) ≤ (m : Int) := by omega
  have h2 : (m : Int) ≤ (len : Int) := by omega
  have h3 : (len : Int) ≤ (cap : Int) := by omega
  have h4 : (m : Int) ≤ (cap : Int) := by omega
  unfold execOp
  cases ad with
  | none =>
    simp only [ho, hx, Option.map_some, Option.map_none, hi]
    go_simp
    rfl
  | some p =>
    obtain ⟨g, off, spot⟩ := p
    obtain rfl : spot = none := hsp _ rfl
    simp only [ho, hx, Option.map_some, Option.map_none, hi]
    by_cases hq : cap = m
    · subst hq
      go_simp
      simp [dropA]
    · go_simp
      simp [dropA, hq]
theorem lt63 {w : World} {b : Nat} {xs : List Int} {a : Option Addr} {n c : Nat} (h : Lft w b xs a n c) : c < 9223372036854775808 ∧ ∀ p, a = some p → p.spot = none := ⟨by have := h.2.2.1; unfold maxLen at this; omega, fun p hp => (h.2.2.2.2 p hp).2⟩
theorem in_drop {w : World} {b : Nat} {xs : List Int} {bad : Bool} {a : Option Addr} {n c : Nat} (h1 : Blk w b 58 #[.slice a n c, .bool bad]) (h : Lft w b xs a n c) (s : Nat) (hs : s ≤ n) : InSt (w.setCell ⟨b, 0, none⟩ (.slice (dropA a c s) (n - s) (c - s))) b (xs.drop s) bad :=
  ⟨_, _, _, Blk.set (l := [.slice a n c, .bool bad]) h1 0 _, (h.drop s hs).set 0 _⟩
def byt (xs : List Int) (j : Nat) : Nat := (xs.getD j 0).toNat
theorem byt_lt {xs : List Int} (h : ∀ x ∈ xs, 0 ≤ x ∧ x ≤ 255) (j : Nat) : byt xs j < 256 := by have := getD_byte h j; unfold byt; omega
theorem number_row (w : World) (a : Option Addr) (n c : Nat) (xs : List Int) (h : Row w a n xs) (hnil : a = none → c = 0) : Calls Try.prog 30 #[.slice a n c] w (NumP (byt xs) n w) := by
  cases a with
  | none =>
    have h0 : n = 0 := by
      rcases Nat.eq_zero_or_pos n with h0 | h0
      · exact h0
      · obtain ⟨g, o, h1, _⟩ := h.2.2.2 0 h0; cases h1
    subst h0
    obtain rfl := hnil rfl
    exact number_nil w _
  | some p =>
    obtain ⟨g, off, spot⟩ := p
    by_cases hn : n = 0
    · subst hn
      have q := number_zero w (some ⟨g, off, spot⟩) c (byt xs)
      exact q
    · obtain ⟨g', o', e, _⟩ := h.2.2.2 0 (by omega)
      simp only [Option.some.injEq, Addr.mk.injEq] at e
      obtain ⟨rfl, rfl, rfl⟩ := e
      refine number_at w g off n c (byt xs) (byt_lt h.2.2.1) h.2.1 (fun j hj => ?_)
      obtain ⟨g', o', e, hc⟩ := h.2.2.2 j hj
      simp only [Option.some.injEq, Addr.mk.injEq, and_true] at e
      obtain ⟨rfl, rfl⟩ := e
      rw [hc]
      have := getD_byte h.2.2.1 j
      unfold byt
      rw [Int.toNat_of_nonneg this.1]
/-- what (i *In) Num comes to. -/
def INumP (b m n : Nat) (xs : List Int) (bad : Bool) (w : World) (e : Ending) (w' : World) : Prop :=
  ∃ r : Nat, e = .returned (.int .u64 (r : Int)) ∧ w.grownBy w' (some b) ∧
    ((bad = false ∧ ∃ k, Good (byt xs) n k ∧ r = accN (byt xs) (k + 1) ∧ r ≤ m ∧ r < 18446744073709551616 ∧ InSt w' b (xs.drop (k + 1)) false) ∨
     ((bad = true ∨ (∀ k, ¬ Good (byt xs) n k) ∨ ∃ k, Good (byt xs) n k ∧ m < accN (byt xs) (k + 1)) ∧ r = 0 ∧ InSt w' b xs true))
set_option maxHeartbeats 1000000 in
theorem inum_any (w : World) (b m : Nat) (xs : List Int) (bad : Bool) (h : InSt w b xs bad) (hm : m < 18446744073709551616) :
    Calls Try.prog 19 #[.pointer (some ⟨b, 0, none⟩), .int .u64 (m : Int)] w (INumP b m xs.length xs bad w) := by
  obtain ⟨a, n, c, hB, hL⟩ := h
  have HB := Lib.hid hB
  have HR := Lib.hid hL
  have NB := Lib.hid (number_row w a n c xs hL.1 hL.2.2.2.1)
  obtain rfl : xs.length = n := hL.1.1
  clear hB hL hm
  generalize hn : xs.length = n at *
  have HN := Lib.hid hn
  clear hn
  go_enter Try.func19, Try.ntmps19
  go_upto_region 1 with (fail)
  refine wp_region_lit ?_
  refine wpL_pure (.pointer (some ⟨b, 0, none⟩)) rfl (by kernel_rfl) ?_
  simp only [Act.put, List.setIfInBounds_toArray, List.set_cons_zero, List.set_cons_succ]
  refine wpL_pure (.pointer (some ⟨b, 0, none⟩)) rfl (by kernel_rfl) ?_
  simp only [Act.put, List.setIfInBounds_toArray, List.set_cons_zero, List.set_cons_succ]
  refine wpL_pure (.pointer (some ⟨b, 0, none⟩)) rfl (by kernel_rfl) ?_
  simp only [Act.put, List.setIfInBounds_toArray, List.set_cons_zero, List.set_cons_succ]
  refine wpL_pure (.slice a n c) rfl (run_load_one _ _ _ 25 _ _ rfl b 0 rfl (by rw [HB.out.cell]; rfl) (by kernel_rfl)) ?_
  simp only [Act.put, List.setIfInBounds_toArray, List.set_cons_zero, List.set_cons_succ]
  refine wpL_call 30 #[.slice a n c] rfl (by kernel_rfl) ((NB.out).mono fun e w1 ⟨x, s, ok, he, hw, q1, q2, q3, q4⟩ => ⟨_, he, ?_⟩)
  simp only [Act.put, List.setIfInBounds_toArray, List.set_cons_zero, List.set_cons_succ]
  subst hw
  have NQ := Lib.hid (And.intro q1 (And.intro q2 (And.intro q3 q4)))
  clear q1 q2 q3 q4 NB
  refine wpL_pure (.tuple #[.int .u64 (x : Int), .int .i64 (s : Int), .bool ok]) rfl (by kernel_rfl) ?_
  simp only [Act.put, List.setIfInBounds_toArray, List.set_cons_zero, List.set_cons_succ]
  refine wpL_pure (.int .u64 (x : Int)) rfl (by kernel_rfl) ?_
  simp only [Act.put, List.setIfInBounds_toArray, List.set_cons_zero, List.set_cons_succ]
  refine wpL_pure (.int .i64 (s : Int)) rfl (by kernel_rfl) ?_
  simp only [Act.put, List.setIfInBounds_toArray, List.set_cons_zero, List.set_cons_succ]
  refine wpL_pure (.bool ok) rfl (by kernel_rfl) ?_
  simp only [Act.put, List.setIfInBounds_toArray, List.set_cons_zero, List.set_cons_succ]
  refine wpL_pure (.int .u64 (x : Int)) rfl (by kernel_rfl) ?_
  simp only [Act.put, List.setIfInBounds_toArray, List.set_cons_zero, List.set_cons_succ]
  refine wpL_pure (.int .i64 (s : Int)) rfl (by kernel_rfl) ?_
  simp only [Act.put, List.setIfInBounds_toArray, List.set_cons_zero, List.set_cons_succ]
  refine wpL_pure (.bool ok) rfl (by kernel_rfl) ?_
  simp only [Act.put, List.setIfInBounds_toArray, List.set_cons_zero, List.set_cons_succ]
  cases bad
  · cases ok
    · have FF := Lib.hid (NQ.out.2.2.2 rfl)
      go_upto_region 2 with (fail)
      refine wp_region_lit ?_
      refine wpL_pure (.pointer (some ⟨b, 0, none⟩)) rfl (by kernel_rfl) ?_
      simp only [Act.put, List.setIfInBounds_toArray, List.set_cons_zero, List.set_cons_succ]
      refine wpL_pure (.pointer (some ⟨b, 0, none⟩)) rfl (by kernel_rfl) ?_
      simp only [Act.put, List.setIfInBounds_toArray, List.set_cons_zero, List.set_cons_succ]
      refine wpL_pure (.pointer (some ⟨b, 1, none⟩)) rfl (by kernel_rfl) ?_
      simp only [Act.put, List.setIfInBounds_toArray, List.set_cons_zero, List.set_cons_succ]
      refine wpL_pure (.bool false) rfl (run_load_one _ _ _ 4 _ _ rfl b 1 rfl (by rw [HB.out.cell]; rfl) (by kernel_rfl)) ?_
      simp only [Act.put, List.setIfInBounds_toArray, List.set_cons_zero, List.set_cons_succ]
      refine wpL_pure (.bool false) rfl (by kernel_rfl) ?_
      simp only [Act.put, List.setIfInBounds_toArray, List.set_cons_zero, List.set_cons_succ]
      refine wpL_pure (.bool false) rfl (by kernel_rfl) ?_
      simp only [Act.put, List.setIfInBounds_toArray, List.set_cons_zero, List.set_cons_succ]
      refine wpL_pure (.bool true) rfl (by kernel_rfl) ?_
      simp only [Act.put, List.setIfInBounds_toArray, List.set_cons_zero, List.set_cons_succ]
      refine wpL_pure (.bool true) rfl (by kernel_rfl) ?_
      simp only [Act.put, List.setIfInBounds_toArray, List.set_cons_zero, List.set_cons_succ]
      refine wpL_pure (.bool true) rfl (by kernel_rfl) ?_
      simp only [Act.put, List.setIfInBounds_toArray, List.set_cons_zero, List.set_cons_succ]
      refine wpL_skip rfl ?_
      simp only [Act.put, List.setIfInBounds_toArray, List.set_cons_zero, List.set_cons_succ]
      refine wpL_skip rfl ?_
      simp only [Act.put, List.setIfInBounds_toArray, List.set_cons_zero, List.set_cons_succ]
      refine wpL_skip rfl ?_
      simp only [Act.put, List.setIfInBounds_toArray, List.set_cons_zero, List.set_cons_succ]
      refine wpL_pure (.bool true) rfl (by kernel_rfl) ?_
      simp only [Act.put, List.setIfInBounds_toArray, List.set_cons_zero, List.set_cons_succ]
      go_upto_region 3 with (fail)
      refine wp_region_lit ?_
      refine wpL_pure (.pointer (some ⟨b, 0, none⟩)) rfl (by kernel_rfl) ?_
      simp only [Act.put, List.setIfInBounds_toArray, List.set_cons_zero, List.set_cons_succ]
      refine wpL_pure (.pointer (some ⟨b, 0, none⟩)) rfl (by kernel_rfl) ?_
      simp only [Act.put, List.setIfInBounds_toArray, List.set_cons_zero, List.set_cons_succ]
      refine wpL_pure (.pointer (some ⟨b, 1, none⟩)) rfl (by kernel_rfl) ?_
      simp only [Act.put, List.setIfInBounds_toArray, List.set_cons_zero, List.set_cons_succ]
      refine wpL_store_one rfl rfl (b) (1) rfl (.bool true) rfl rfl size4 (by rw [HB.out.cell]; rfl) (HB.out.free _) ?_
      simp only [Act.put, List.setIfInBounds_toArray, List.set_cons_zero, List.set_cons_succ]
      go_wp2_with fail
      go_ret
      exact ⟨0, rfl, gb_set (gb_refl _ _) _ _, .inr ⟨.inr (.inl FF.out), rfl, a, n, c, Blk.set (l := [.slice a n c, .bool _]) HB.out 1 _, HR.out.set 1 _⟩⟩
    · obtain ⟨k, hk, hx, hs⟩ := NQ.out.2.2.1 rfl
      have KS := Lib.hid (And.intro hk (And.intro hx hs))
      have SN : Hid (s ≤ n) := Lib.hid NQ.out.2.1
      have XL : Hid (x < 18446744073709551616) := Lib.hid NQ.out.1
      clear hk hx hs NQ
      obtain ⟨gt, hg⟩ : ∃ q, decide ((m : Int) < (x : Int)) = q := ⟨_, rfl⟩
      have GT := Lib.hid hg
      clear hg
      cases gt
      · go_upto_region 2 with (fail)
        refine wp_region_lit ?_
        refine wpL_pure (.pointer (some ⟨b, 0, none⟩)) rfl (by kernel_rfl) ?_
        simp only [Act.put, List.setIfInBounds_toArray, List.set_cons_zero, List.set_cons_succ]
        refine wpL_pure (.pointer (some ⟨b, 0, none⟩)) rfl (by kernel_rfl) ?_
        simp only [Act.put, List.setIfInBounds_toArray, List.set_cons_zero, List.set_cons_succ]
        refine wpL_pure (.pointer (some ⟨b, 1, none⟩)) rfl (by kernel_rfl) ?_
        simp only [Act.put, List.setIfInBounds_toArray, List.set_cons_zero, List.set_cons_succ]
        refine wpL_pure (.bool false) rfl (run_load_one _ _ _ 4 _ _ rfl b 1 rfl (by rw [HB.out.cell]; rfl) (by kernel_rfl)) ?_
        simp only [Act.put, List.setIfInBounds_toArray, List.set_cons_zero, List.set_cons_succ]
        refine wpL_pure (.bool false) rfl (by kernel_rfl) ?_
        simp only [Act.put, List.setIfInBounds_toArray, List.set_cons_zero, List.set_cons_succ]
        refine wpL_pure (.bool true) rfl (by kernel_rfl) ?_
        simp only [Act.put, List.setIfInBounds_toArray, List.set_cons_zero, List.set_cons_succ]
        refine wpL_pure (.bool false) rfl (by kernel_rfl) ?_
        simp only [Act.put, List.setIfInBounds_toArray, List.set_cons_zero, List.set_cons_succ]
        refine wpL_pure (.bool false) rfl (by kernel_rfl) ?_
        simp only [Act.put, List.setIfInBounds_toArray, List.set_cons_zero, List.set_cons_succ]
        refine wpL_pure (.bool false) rfl (by kernel_rfl) ?_
        simp only [Act.put, List.setIfInBounds_toArray, List.set_cons_zero, List.set_cons_succ]
        refine wpL_pure (.int .u64 (x : Int)) rfl (by kernel_rfl) ?_
        simp only [Act.put, List.setIfInBounds_toArray, List.set_cons_zero, List.set_cons_succ]
        refine wpL_pure (.int .u64 (m : Int)) rfl (by kernel_rfl) ?_
        simp only [Act.put, List.setIfInBounds_toArray, List.set_cons_zero, List.set_cons_succ]
        refine wpL_pure (.bool false) rfl (run_gti Try.underlying33 rfl rfl rfl GT.out) ?_
        simp only [Act.put, List.setIfInBounds_toArray, List.set_cons_zero, List.set_cons_succ]
        refine wpL_pure (.bool false) rfl (by kernel_rfl) ?_
        simp only [Act.put, List.setIfInBounds_toArray, List.set_cons_zero, List.set_cons_succ]
        go_upto_region 5 with (fail)
        refine wp_region_lit ?_
        refine wpL_pure (.pointer (some ⟨b, 0, none⟩)) rfl (by kernel_rfl) ?_
        simp only [Act.put, List.setIfInBounds_toArray, List.set_cons_zero, List.set_cons_succ]
        refine wpL_pure (.pointer (some ⟨b, 0, none⟩)) rfl (by kernel_rfl) ?_
        simp only [Act.put, List.setIfInBounds_toArray, List.set_cons_zero, List.set_cons_succ]
        refine wpL_pure (.pointer (some ⟨b, 0, none⟩)) rfl (by kernel_rfl) ?_
        simp only [Act.put, List.setIfInBounds_toArray, List.set_cons_zero, List.set_cons_succ]
        refine wpL_pure (.pointer (some ⟨b, 0, none⟩)) rfl (by kernel_rfl) ?_
        simp only [Act.put, List.setIfInBounds_toArray, List.set_cons_zero, List.set_cons_succ]
        refine wpL_pure (.slice a n c) rfl (run_load_one _ _ _ 25 _ _ rfl b 0 rfl (by rw [HB.out.cell]; rfl) (by kernel_rfl)) ?_
        simp only [Act.put, List.setIfInBounds_toArray, List.set_cons_zero, List.set_cons_succ]
        refine wpL_pure (.int .i64 (s : Int)) rfl (by kernel_rfl) ?_
        simp only [Act.put, List.setIfInBounds_toArray, List.set_cons_zero, List.set_cons_succ]
        refine wpL_pure (.slice (dropA a c s) (n - s) (c - s)) rfl (run_slicep _ _ _ _ _ a n c s _ rfl rfl rfl SN.out HR.out.2.1 (lt63 HR.out) rfl) ?_
        simp only [Act.put, List.setIfInBounds_toArray, List.set_cons_zero, List.set_cons_succ]
        refine wpL_pure (.pointer (some ⟨b, 0, none⟩)) rfl (by kernel_rfl) ?_
        simp only [Act.put, List.setIfInBounds_toArray, List.set_cons_zero, List.set_cons_succ]
        refine wpL_pure (.pointer (some ⟨b, 0, none⟩)) rfl (by kernel_rfl) ?_
        simp only [Act.put, List.setIfInBounds_toArray, List.set_cons_zero, List.set_cons_succ]
        refine wpL_store_one rfl rfl (b) (0) rfl (.slice (dropA a c s) (n - s) (c - s)) rfl rfl size25 (by rw [HB.out.cell]; rfl) (HB.out.free _) ?_
        simp only [Act.put, List.setIfInBounds_toArray, List.set_cons_zero, List.set_cons_succ]
        go_wp2_with fail
        go_ret
        exact ⟨x, rfl, gb_set (gb_refl _ _) _ _, .inl ⟨rfl, k, KS.out.1, KS.out.2.1, by have := GT.out; rw [decide_eq_false_iff_not] at this; omega, XL.out, by rw [← KS.out.2.2]; exact in_drop HB.out HR.out s SN.out⟩⟩
      · go_upto_region 2 with (fail)
        refine wp_region_lit ?_
        refine wpL_pure (.pointer (some ⟨b, 0, none⟩)) rfl (by kernel_rfl) ?_
        simp only [Act.put, List.setIfInBounds_toArray, List.set_cons_zero, List.set_cons_succ]
        refine wpL_pure (.pointer (some ⟨b, 0, none⟩)) rfl (by kernel_rfl) ?_
        simp only [Act.put, List.setIfInBounds_toArray, List.set_cons_zero, List.set_cons_succ]
        refine wpL_pure (.pointer (some ⟨b, 1, none⟩)) rfl (by kernel_rfl) ?_
        simp only [Act.put, List.setIfInBounds_toArray, List.set_cons_zero, List.set_cons_succ]
        refine wpL_pure (.bool false) rfl (run_load_one _ _ _ 4 _ _ rfl b 1 rfl (by rw [HB.out.cell]; rfl) (by kernel_rfl)) ?_
        simp only [Act.put, List.setIfInBounds_toArray, List.set_cons_zero, List.set_cons_succ]
        refine wpL_pure (.bool false) rfl (by kernel_rfl) ?_
        simp only [Act.put, List.setIfInBounds_toArray, List.set_cons_zero, List.set_cons_succ]
        refine wpL_pure (.bool true) rfl (by kernel_rfl) ?_
        simp only [Act.put, List.setIfInBounds_toArray, List.set_cons_zero, List.set_cons_succ]
        refine wpL_pure (.bool false) rfl (by kernel_rfl) ?_
        simp only [Act.put, List.setIfInBounds_toArray, List.set_cons_zero, List.set_cons_succ]
        refine wpL_pure (.bool false) rfl (by kernel_rfl) ?_
        simp only [Act.put, List.setIfInBounds_toArray, List.set_cons_zero, List.set_cons_succ]
        refine wpL_pure (.bool false) rfl (by kernel_rfl) ?_
        simp only [Act.put, List.setIfInBounds_toArray, List.set_cons_zero, List.set_cons_succ]
        refine wpL_pure (.int .u64 (x : Int)) rfl (by kernel_rfl) ?_
        simp only [Act.put, List.setIfInBounds_toArray, List.set_cons_zero, List.set_cons_succ]
        refine wpL_pure (.int .u64 (m : Int)) rfl (by kernel_rfl) ?_
        simp only [Act.put, List.setIfInBounds_toArray, List.set_cons_zero, List.set_cons_succ]
        refine wpL_pure (.bool true) rfl (run_gti Try.underlying33 rfl rfl rfl GT.out) ?_
        simp only [Act.put, List.setIfInBounds_toArray, List.set_cons_zero, List.set_cons_succ]
        refine wpL_pure (.bool true) rfl (by kernel_rfl) ?_
        simp only [Act.put, List.setIfInBounds_toArray, List.set_cons_zero, List.set_cons_succ]
        go_upto_region 3 with (fail)
        refine wp_region_lit ?_
        refine wpL_pure (.pointer (some ⟨b, 0, none⟩)) rfl (by kernel_rfl) ?_
        simp only [Act.put, List.setIfInBounds_toArray, List.set_cons_zero, List.set_cons_succ]
        refine wpL_pure (.pointer (some ⟨b, 0, none⟩)) rfl (by kernel_rfl) ?_
        simp only [Act.put, List.setIfInBounds_toArray, List.set_cons_zero, List.set_cons_succ]
        refine wpL_pure (.pointer (some ⟨b, 1, none⟩)) rfl (by kernel_rfl) ?_
        simp only [Act.put, List.setIfInBounds_toArray, List.set_cons_zero, List.set_cons_succ]
        refine wpL_store_one rfl rfl (b) (1) rfl (.bool true) rfl rfl size4 (by rw [HB.out.cell]; rfl) (HB.out.free _) ?_
        simp only [Act.put, List.setIfInBounds_toArray, List.set_cons_zero, List.set_cons_succ]
        go_wp2_with fail
        go_ret
        exact ⟨0, rfl, gb_set (gb_refl _ _) _ _, .inr ⟨.inr (.inr (by have := GT.out; rw [decide_eq_true_eq] at this; exact ⟨k, KS.out.1, by have := KS.out.2.1; omega⟩)), rfl, a, n, c, Blk.set (l := [.slice a n c, .bool _]) HB.out 1 _, HR.out.set 1 _⟩⟩
  · go_upto_region 2 with (fail)
    refine wp_region_lit ?_
    refine wpL_pure (.pointer (some ⟨b, 0, none⟩)) rfl (by kernel_rfl) ?_
    simp only [Act.put, List.setIfInBounds_toArray, List.set_cons_zero, List.set_cons_succ]
    refine wpL_pure (.pointer (some ⟨b, 0, none⟩)) rfl (by kernel_rfl) ?_
    simp only [Act.put, List.setIfInBounds_toArray, List.set_cons_zero, List.set_cons_succ]
    refine wpL_pure (.pointer (some ⟨b, 1, none⟩)) rfl (by kernel_rfl) ?_
    simp only [Act.put, List.setIfInBounds_toArray, List.set_cons_zero, List.set_cons_succ]
    refine wpL_pure (.bool true) rfl (run_load_one _ _ _ 4 _ _ rfl b 1 rfl (by rw [HB.out.cell]; rfl) (by kernel_rfl)) ?_
    simp only [Act.put, List.setIfInBounds_toArray, List.set_cons_zero, List.set_cons_succ]
    refine wpL_pure (.bool true) rfl (by kernel_rfl) ?_
    simp only [Act.put, List.setIfInBounds_toArray, List.set_cons_zero, List.set_cons_succ]
    refine wpL_skip rfl ?_
    simp only [Act.put, List.setIfInBounds_toArray, List.set_cons_zero, List.set_cons_succ]
    refine wpL_skip rfl ?_
    simp only [Act.put, List.setIfInBounds_toArray, List.set_cons_zero, List.set_cons_succ]
    refine wpL_pure (.bool true) rfl (by kernel_rfl) ?_
    simp only [Act.put, List.setIfInBounds_toArray, List.set_cons_zero, List.set_cons_succ]
    refine wpL_pure (.bool true) rfl (by kernel_rfl) ?_
    simp only [Act.put, List.setIfInBounds_toArray, List.set_cons_zero, List.set_cons_succ]
    refine wpL_skip rfl ?_
    simp only [Act.put, List.setIfInBounds_toArray, List.set_cons_zero, List.set_cons_succ]
    refine wpL_skip rfl ?_
    simp only [Act.put, List.setIfInBounds_toArray, List.set_cons_zero, List.set_cons_succ]
    refine wpL_skip rfl ?_
    simp only [Act.put, List.setIfInBounds_toArray, List.set_cons_zero, List.set_cons_succ]
    refine wpL_pure (.bool true) rfl (by kernel_rfl) ?_
    simp only [Act.put, List.setIfInBounds_toArray, List.set_cons_zero, List.set_cons_succ]
    go_upto_region 3 with (fail)
    refine wp_region_lit ?_
    refine wpL_pure (.pointer (some ⟨b, 0, none⟩)) rfl (by kernel_rfl) ?_
    simp only [Act.put, List.setIfInBounds_toArray, List.set_cons_zero, List.set_cons_succ]
    refine wpL_pure (.pointer (some ⟨b, 0, none⟩)) rfl (by kernel_rfl) ?_
    simp only [Act.put, List.setIfInBounds_toArray, List.set_cons_zero, List.set_cons_succ]
    refine wpL_pure (.pointer (some ⟨b, 1, none⟩)) rfl (by kernel_rfl) ?_
    simp only [Act.put, List.setIfInBounds_toArray, List.set_cons_zero, List.set_cons_succ]
    refine wpL_store_one rfl rfl (b) (1) rfl (.bool true) rfl rfl size4 (by rw [HB.out.cell]; rfl) (HB.out.free _) ?_
    simp only [Act.put, List.setIfInBounds_toArray, List.set_cons_zero, List.set_cons_succ]
    go_wp2_with fail
    go_ret
    exact ⟨0, rfl, gb_set (gb_refl _ _) _ _, .inr ⟨.inl rfl, rfl, a, n, c, Blk.set (l := [.slice a n c, .bool _]) HB.out 1 _, HR.out.set 1 _⟩⟩
end Go.Proofs.Yteblaknbehfkgaa
