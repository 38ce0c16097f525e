import Derived.Test.YteblaknbehfkgaaK17
namespace Go.Proofs.Yteblaknbehfkgaa
open Go Go.RowKit

/-- where an Out's bytes lie. -/
def OutBuf (w : World) (b : Nat) : Option Nat := match w.cell? ⟨b, 1, none⟩ with | some (.bool false) => (w.cell? ⟨b, 0, none⟩).bind Value.ownBlock | _ => none
/-- all but an Out and its bytes stay. -/
def Keep (b : Nat) (w w' : World) : Prop := ∀ g, g < w.heap.size → g ≠ b → OutBuf w b ≠ some g → w'.heap[g]? = w.heap[g]? ∧ OutBuf w' b ≠ some g
def BK (b : Nat) (w w' : World) : Prop := Below b w w' ∧ Keep b w w'
theorem Keep.refl (b : Nat) (w : World) : Keep b w w := fun _ _ _ h => ⟨rfl, h⟩
theorem BK.refl (b : Nat) (w : World) : BK b w w := ⟨Below.refl _ _, Keep.refl _ _⟩
theorem BK.trans {b : Nat} {x y z : World} (h : BK b x y) (k : BK b y z) : BK b x z := ⟨h.1.trans k.1, fun g h1 h2 h3 => by
  obtain ⟨e1, e2⟩ := h.2 g h1 h2 h3
  obtain ⟨e3, e4⟩ := k.2 g (Nat.lt_of_lt_of_le h1 h.1.size) h2 e2
  exact ⟨e3.trans e1, e4⟩⟩
theorem outBuf_of {w w' : World} {b : Nat} (h : w'.heap[b]? = w.heap[b]?) : OutBuf w' b = OutBuf w b := by
  unfold OutBuf
  rw [World.cell?_of_block (a := ⟨b, 0, none⟩) h, World.cell?_of_block (a := ⟨b, 1, none⟩) h]
theorem BK.alloc (b : Nat) (w : World) (o : Obj) (hb : b < w.heap.size) : BK b w (w.alloc o) := ⟨(Below.refl _ _).alloc (Nat.le_of_lt hb) _, fun g h1 _ h3 => ⟨Below.heap_alloc w o g h1, by rw [outBuf_of (Below.heap_alloc w o b hb)]; exact h3⟩⟩
theorem BK.set1 {b : Nat} {w : World} {x y z : Value} (h : Blk w b 30 #[x, y, z]) : BK b w (w.setCell ⟨b, 1, none⟩ (.bool true)) := ⟨Below.setCell (p := ⟨b, 1, none⟩) (Below.refl b w) (Nat.le_refl b) _, fun g _ h2 h3 => ⟨heap_setCell_other _ _ _ _ h2, by
  have e : OutBuf (w.setCell ⟨b, 1, none⟩ (.bool true)) b = none := by
    unfold OutBuf
    rw [(Blk.set (l := [x, y, z]) h 1 (.bool true)).cell]
    rfl
  rw [e]; simp⟩⟩
theorem BK.set0 {b : Nat} {w : World} {x z : Value} (h : Blk w b 30 #[x, .bool true, z]) : BK b w (w.setCell ⟨b, 0, none⟩ (.slice none 0 0)) := ⟨Below.setCell (p := ⟨b, 0, none⟩) (Below.refl b w) (Nat.le_refl b) _, fun g _ h2 h3 => ⟨heap_setCell_other _ _ _ _ h2, by
  have e : OutBuf (w.setCell ⟨b, 0, none⟩ (.slice none 0 0)) b = none := by
    unfold OutBuf
    rw [(Blk.set (l := [x, .bool true, z]) h 0 (.slice none 0 0)).cell]
    rfl
  rw [e]; simp⟩⟩
theorem keep_fin {b : Nat} {w X w4 : World} {v' s : Value} {x z : Value} (hX : w.grownBy X (some b)) (hA : X.grownBy w4 s.ownBlock) (hv : v'.ownBlock = s.ownBlock ∨ v'.ownBlock = some X.heap.size) (ho : OutBuf w b = s.ownBlock) (h4 : Blk w4 b 30 #[x, .bool false, z]) : Keep b w (w4.setCell ⟨b, 0, none⟩ v') := by
  intro g h1 h2 h3
  refine ⟨?_, ?_⟩
  · rw [heap_setCell_other _ _ _ _ h2, hA.block g (Nat.lt_of_lt_of_le h1 hX.size) (by rw [← ho]; exact fun e => h3 e.symm), hX.block g h1 (fun e => h2 (Option.some.inj e))]
  · have e : OutBuf (w4.setCell ⟨b, 0, none⟩ v') b = v'.ownBlock := by
      unfold OutBuf
      rw [(Blk.set (l := [x, .bool false, z]) h4 0 v').cell, (Blk.set (l := [x, .bool false, z]) h4 0 v').cell]
      rfl
    rw [e]
    rcases hv with hv | hv
    · rw [hv, ← ho]; exact h3
    · rw [hv]
      intro q
      have := Option.some.inj q
      have := hX.size
      omega
set_option maxHeartbeats 1000000 in
theorem put_anyK (w : World) (b : Nat) (xs ys : List Int) (a1 : Option Addr) (n1 c1 : Nat) (h : OutSt w b xs) (hr : ∀ X, w.grownBy X (some b) → Row X a1 n1 ys) (hn : xs.length + n1 ≤ 16384) :
    Calls Try.prog 31 #[.pointer (some ⟨b, 0, none⟩), .slice a1 n1 c1] w fun e w' => e = .returned (.tuple #[]) ∧ OutSt w' b (xs ++ ys) ∧ BK b w w' := by
  obtain ⟨s, p, hB, hO, hp⟩ := h
  rcases hp with rfl | ⟨rfl, rfl⟩
  · obtain ⟨a, c, rfl⟩ := hO.slice
    have HB := Lib.hid hB
    have OB : Hid (OutBuf w b = (.slice a xs.length c : Value).ownBlock) := Lib.hid (by unfold OutBuf; rw [HB.out.cell, HB.out.cell]; rfl)
    have HO := Lib.hid hO
    have HR := Lib.hid hr
    have HN := Lib.hid hn
    clear hB hO hr hn
    go_enter Try.func31, Try.ntmps31
    go_upto_region 0 with (fail)
    refine wp_region_lit ?_
    refine wpL_pure (.pointer (some ⟨b, 0, none⟩)) rfl (by kernel_rfl) ?_
    simp only [Act.put, List.setIfInBounds_toArray, List.set_cons_zero, List.set_cons_succ]
    refine wpL_pure (.pointer (some ⟨b, 0, none⟩)) rfl (by kernel_rfl) ?_
    simp only [Act.put, List.setIfInBounds_toArray, List.set_cons_zero, List.set_cons_succ]
    refine wpL_pure (.pointer (some ⟨b, 0, none⟩)) rfl (by kernel_rfl) ?_
    simp only [Act.put, List.setIfInBounds_toArray, List.set_cons_zero, List.set_cons_succ]
    refine wpL_pure (.slice a xs.length c) rfl (run_load_one _ _ _ 25 _ _ rfl b 0 rfl (by rw [HB.out.cell]; rfl) (by kernel_rfl)) ?_
    simp only [Act.put, List.setIfInBounds_toArray, List.set_cons_zero, List.set_cons_succ]
    refine wpL_pure (.int .i64 (xs.length : Int)) rfl (by kernel_rfl) ?_
    simp only [Act.put, List.setIfInBounds_toArray, List.set_cons_zero, List.set_cons_succ]
    refine wpL_pure (.slice a1 n1 c1) rfl (by kernel_rfl) ?_
    simp only [Act.put, List.setIfInBounds_toArray, List.set_cons_zero, List.set_cons_succ]
    refine wpL_pure (.int .i64 (n1 : Int)) rfl (by kernel_rfl) ?_
    simp only [Act.put, List.setIfInBounds_toArray, List.set_cons_zero, List.set_cons_succ]
    refine wpL_pure (.int .i64 ((xs.length + n1 : Nat) : Int)) rfl (run_addi Try.underlying3 rfl rfl rfl _ (by have := HN.out; rw [wrap_in _ (by omega) (by omega)]; omega)) ?_
    simp only [Act.put, List.setIfInBounds_toArray, List.set_cons_zero, List.set_cons_succ]
    refine wpL_pure (.bool false) rfl (run_gti Try.underlying3 rfl rfl rfl (by have := HN.out; rw [decide_eq_false_iff_not]; omega)) ?_
    simp only [Act.put, List.setIfInBounds_toArray, List.set_cons_zero, List.set_cons_succ]
    go_upto_region 2 with (fail)
    refine wp_region_lit ?_
    refine wpL_pure (.pointer (some ⟨b, 0, none⟩)) rfl (by kernel_rfl) ?_
    simp only [Act.put, List.setIfInBounds_toArray, List.set_cons_zero, List.set_cons_succ]
    refine wpL_pure (.pointer (some ⟨b, 0, none⟩)) rfl (by kernel_rfl) ?_
    simp only [Act.put, List.setIfInBounds_toArray, List.set_cons_zero, List.set_cons_succ]
    refine wpL_pure (.pointer (some ⟨b, 1, none⟩)) rfl (by kernel_rfl) ?_
    simp only [Act.put, List.setIfInBounds_toArray, List.set_cons_zero, List.set_cons_succ]
    refine wpL_pure (.bool false) rfl (run_load_one _ _ _ 4 _ _ rfl b 1 rfl (by rw [HB.out.cell]; rfl) (by kernel_rfl)) ?_
    simp only [Act.put, List.setIfInBounds_toArray, List.set_cons_zero, List.set_cons_succ]
    go_upto_region 4 with (fail)
    refine wp_region_lit ?_
    refine wpL_pure (.pointer (some ⟨b, 0, none⟩)) rfl (by kernel_rfl) ?_
    simp only [Act.put, List.setIfInBounds_toArray, List.set_cons_zero, List.set_cons_succ]
    refine wpL_pure (.pointer (some ⟨b, 0, none⟩)) rfl (by kernel_rfl) ?_
    simp only [Act.put, List.setIfInBounds_toArray, List.set_cons_zero, List.set_cons_succ]
    refine wpL_pure (.pointer (some ⟨b, 2, none⟩)) rfl (by kernel_rfl) ?_
    simp only [Act.put, List.setIfInBounds_toArray, List.set_cons_zero, List.set_cons_succ]
    refine wpL_pure (.pointer (some ⟨b, 0, none⟩)) rfl (run_load_one _ _ _ 26 _ _ rfl b 2 rfl (by rw [HB.out.cell]; rfl) (by kernel_rfl)) ?_
    simp only [Act.put, List.setIfInBounds_toArray, List.set_cons_zero, List.set_cons_succ]
    refine wpL_pure (.pointer (some ⟨b, 0, none⟩)) rfl (by kernel_rfl) ?_
    simp only [Act.put, List.setIfInBounds_toArray, List.set_cons_zero, List.set_cons_succ]
    refine wpL_pure (.bool false) rfl (run_ne_same _ _ _ _ _ _ rfl rfl rfl) ?_
    simp only [Act.put, List.setIfInBounds_toArray, List.set_cons_zero, List.set_cons_succ]
    have HB3 : Hid (Blk w b 30 #[.slice a xs.length c, .bool false, .pointer (some ⟨b, 0, none⟩)] ∧ Below b w w ∧ w.grownBy w (some b)) := Lib.hid ⟨HB.out, Below.refl _ _, gb_refl _ _⟩
    clear HB
    obtain ⟨v', w4, r1, r2, r3, r4, _⟩ := append_own w (b + 1) (.slice a xs.length c) xs ys a1 n1 c1 (HO.out) (HR.out w HB3.out.2.2) (by have := HN.out; simp; omega) (HB3.out.1.lt)
    have HKP : Hid (w.grownBy w4 (.slice a xs.length c : Value).ownBlock ∧ (v'.ownBlock = (.slice a xs.length c : Value).ownBlock ∨ v'.ownBlock = some w.heap.size) ∧ w.grownBy w (some b)) := Lib.hid ⟨r3, r4, HB3.out.2.2⟩
    have NB : ∀ k, (.slice a xs.length c : Value).ownBlock = some k → b + 1 ≤ k := fun k hk => (HO.out.lt k hk).1
    have R1 := Lib.hid r1
    have R2 : Hid (Own w4 (b + 1) v' (xs ++ ys) ∧ Below b w w4 ∧ Blk w4 b 30 #[.slice a xs.length c, .bool false, .pointer (some ⟨b, 0, none⟩)]) := Lib.hid ⟨r2, HB3.out.2.1.grown r3 (by have := HB3.out.1.lt; omega) (fun k hk => by have := NB k hk; omega), HB3.out.1.grown r3 (fun e => by have := NB b e.symm; omega)⟩
    have ONE : v'.oneCell' = true := by obtain ⟨a, c, e⟩ := r2.slice; rw [e]; rfl
    have H3X : Hid (Blk w b 30 #[.slice a xs.length c, .bool false, .pointer (some ⟨b, 0, none⟩)]) := Lib.hid HB3.out.1
    clear r1 r2 r3 r4 HB3 HR HO NB
    go_upto_region 7 with (fail)
    refine wp_region_lit ?_
    refine wpL_pure (.pointer (some ⟨b, 0, none⟩)) rfl (by kernel_rfl) ?_
    simp only [Act.put, List.setIfInBounds_toArray, List.set_cons_zero, List.set_cons_succ]
    refine wpL_pure (.pointer (some ⟨b, 0, none⟩)) rfl (by kernel_rfl) ?_
    simp only [Act.put, List.setIfInBounds_toArray, List.set_cons_zero, List.set_cons_succ]
    refine wpL_pure (.pointer (some ⟨b, 0, none⟩)) rfl (by kernel_rfl) ?_
    simp only [Act.put, List.setIfInBounds_toArray, List.set_cons_zero, List.set_cons_succ]
    refine wpL_pure (.pointer (some ⟨b, 0, none⟩)) rfl (by kernel_rfl) ?_
    simp only [Act.put, List.setIfInBounds_toArray, List.set_cons_zero, List.set_cons_succ]
    refine wpL_pure (.slice a xs.length c) rfl (run_load_one _ _ _ 25 _ _ rfl b 0 rfl (by rw [H3X.out.cell]; rfl) (by kernel_rfl)) ?_
    simp only [Act.put, List.setIfInBounds_toArray, List.set_cons_zero, List.set_cons_succ]
    refine wpL_pure (.slice a1 n1 c1) rfl (by kernel_rfl) ?_
    simp only [Act.put, List.setIfInBounds_toArray, List.set_cons_zero, List.set_cons_succ]
    refine wpL_value (v') (w4) rfl (run_app _ _ _ _ _ _ _ _ _ rfl rfl rfl rfl R1.out) ?_
    simp only [Act.put, List.setIfInBounds_toArray, List.set_cons_zero, List.set_cons_succ]
    refine wpL_pure (.pointer (some ⟨b, 0, none⟩)) rfl (by kernel_rfl) ?_
    simp only [Act.put, List.setIfInBounds_toArray, List.set_cons_zero, List.set_cons_succ]
    refine wpL_pure (.pointer (some ⟨b, 0, none⟩)) rfl (by kernel_rfl) ?_
    simp only [Act.put, List.setIfInBounds_toArray, List.set_cons_zero, List.set_cons_succ]
    refine wpL_store_one rfl rfl (b) (0) rfl (v') rfl ONE size25 (by rw [R2.out.2.2.cell]; rfl) (R2.out.2.2.free _) ?_
    simp only [Act.put, List.setIfInBounds_toArray, List.set_cons_zero, List.set_cons_succ]
    go_wp2_with fail
    go_end0
    exact ⟨rfl, ⟨v', some ⟨b, 0, none⟩, Blk.set (l := [.slice a xs.length c, .bool false, .pointer (some ⟨b, 0, none⟩)]) R2.out.2.2 0 _, R2.out.1.other _ _ (fun e => by have := (R2.out.1.lt b e).1; omega), .inl rfl⟩, R2.out.2.1.setCell (Nat.le_refl _) _, keep_fin HKP.out.2.2 HKP.out.1 HKP.out.2.1 OB.out R2.out.2.2⟩
  · obtain rfl : xs = [] := by
      rcases hO.form with ⟨_, e⟩ | ⟨_, _, _, e, _⟩
      · exact e
      · cases e
    have HB := Lib.hid hB
    have OB : Hid (OutBuf w b = (.slice none 0 0 : Value).ownBlock) := Lib.hid (by unfold OutBuf; rw [HB.out.cell, HB.out.cell]; rfl)
    have HR := Lib.hid hr
    have HN : Hid (n1 ≤ 16384) := Lib.hid (by simpa using hn)
    clear hB hr hn hO
    go_enter Try.func31, Try.ntmps31
    go_upto_region 0 with (fail)
    refine wp_region_lit ?_
    refine wpL_pure (.pointer (some ⟨b, 0, none⟩)) rfl (by kernel_rfl) ?_
    simp only [Act.put, List.setIfInBounds_toArray, List.set_cons_zero, List.set_cons_succ]
    refine wpL_pure (.pointer (some ⟨b, 0, none⟩)) rfl (by kernel_rfl) ?_
    simp only [Act.put, List.setIfInBounds_toArray, List.set_cons_zero, List.set_cons_succ]
    refine wpL_pure (.pointer (some ⟨b, 0, none⟩)) rfl (by kernel_rfl) ?_
    simp only [Act.put, List.setIfInBounds_toArray, List.set_cons_zero, List.set_cons_succ]
    refine wpL_pure (.slice none 0 0) rfl (run_load_one _ _ _ 25 _ _ rfl b 0 rfl (by rw [HB.out.cell]; rfl) (by kernel_rfl)) ?_
    simp only [Act.put, List.setIfInBounds_toArray, List.set_cons_zero, List.set_cons_succ]
    refine wpL_pure (.int .i64 ((0 : Nat) : Int)) rfl (by kernel_rfl) ?_
    simp only [Act.put, List.setIfInBounds_toArray, List.set_cons_zero, List.set_cons_succ]
    refine wpL_pure (.slice a1 n1 c1) rfl (by kernel_rfl) ?_
    simp only [Act.put, List.setIfInBounds_toArray, List.set_cons_zero, List.set_cons_succ]
    refine wpL_pure (.int .i64 (n1 : Int)) rfl (by kernel_rfl) ?_
    simp only [Act.put, List.setIfInBounds_toArray, List.set_cons_zero, List.set_cons_succ]
    refine wpL_pure (.int .i64 ((0 + n1 : Nat) : Int)) rfl (run_addi Try.underlying3 rfl rfl rfl _ (by have := HN.out; rw [wrap_in _ (by omega) (by omega)]; omega)) ?_
    simp only [Act.put, List.setIfInBounds_toArray, List.set_cons_zero, List.set_cons_succ]
    refine wpL_pure (.bool false) rfl (run_gti Try.underlying3 rfl rfl rfl (by have := HN.out; rw [decide_eq_false_iff_not]; omega)) ?_
    simp only [Act.put, List.setIfInBounds_toArray, List.set_cons_zero, List.set_cons_succ]
    go_upto_region 2 with (fail)
    refine wp_region_lit ?_
    refine wpL_pure (.pointer (some ⟨b, 0, none⟩)) rfl (by kernel_rfl) ?_
    simp only [Act.put, List.setIfInBounds_toArray, List.set_cons_zero, List.set_cons_succ]
    refine wpL_pure (.pointer (some ⟨b, 0, none⟩)) rfl (by kernel_rfl) ?_
    simp only [Act.put, List.setIfInBounds_toArray, List.set_cons_zero, List.set_cons_succ]
    refine wpL_pure (.pointer (some ⟨b, 1, none⟩)) rfl (by kernel_rfl) ?_
    simp only [Act.put, List.setIfInBounds_toArray, List.set_cons_zero, List.set_cons_succ]
    refine wpL_pure (.bool false) rfl (run_load_one _ _ _ 4 _ _ rfl b 1 rfl (by rw [HB.out.cell]; rfl) (by kernel_rfl)) ?_
    simp only [Act.put, List.setIfInBounds_toArray, List.set_cons_zero, List.set_cons_succ]
    go_upto_region 4 with (fail)
    refine wp_region_lit ?_
    refine wpL_pure (.pointer (some ⟨b, 0, none⟩)) rfl (by kernel_rfl) ?_
    simp only [Act.put, List.setIfInBounds_toArray, List.set_cons_zero, List.set_cons_succ]
    refine wpL_pure (.pointer (some ⟨b, 0, none⟩)) rfl (by kernel_rfl) ?_
    simp only [Act.put, List.setIfInBounds_toArray, List.set_cons_zero, List.set_cons_succ]
    refine wpL_pure (.pointer (some ⟨b, 2, none⟩)) rfl (by kernel_rfl) ?_
    simp only [Act.put, List.setIfInBounds_toArray, List.set_cons_zero, List.set_cons_succ]
    refine wpL_pure (.pointer none) rfl (run_load_one _ _ _ 26 _ _ rfl b 2 rfl (by rw [HB.out.cell]; rfl) (by kernel_rfl)) ?_
    simp only [Act.put, List.setIfInBounds_toArray, List.set_cons_zero, List.set_cons_succ]
    refine wpL_pure (.pointer (some ⟨b, 0, none⟩)) rfl (by kernel_rfl) ?_
    simp only [Act.put, List.setIfInBounds_toArray, List.set_cons_zero, List.set_cons_succ]
    refine wpL_pure (.bool true) rfl (run_ne_none _ _ _ _ _ _ rfl rfl rfl) ?_
    simp only [Act.put, List.setIfInBounds_toArray, List.set_cons_zero, List.set_cons_succ]
    go_upto_region 5 with (fail)
    refine wp_region_lit ?_
    refine wpL_pure (.pointer (some ⟨b, 0, none⟩)) rfl (by kernel_rfl) ?_
    simp only [Act.put, List.setIfInBounds_toArray, List.set_cons_zero, List.set_cons_succ]
    refine wpL_pure (.pointer (some ⟨b, 0, none⟩)) rfl (by kernel_rfl) ?_
    simp only [Act.put, List.setIfInBounds_toArray, List.set_cons_zero, List.set_cons_succ]
    refine wpL_pure (.pointer (some ⟨b, 0, none⟩)) rfl (by kernel_rfl) ?_
    simp only [Act.put, List.setIfInBounds_toArray, List.set_cons_zero, List.set_cons_succ]
    refine wpL_pure (.pointer (some ⟨b, 0, none⟩)) rfl (by kernel_rfl) ?_
    simp only [Act.put, List.setIfInBounds_toArray, List.set_cons_zero, List.set_cons_succ]
    refine wpL_pure (.slice none 0 0) rfl (run_load_one _ _ _ 25 _ _ rfl b 0 rfl (by rw [HB.out.cell]; rfl) (by kernel_rfl)) ?_
    simp only [Act.put, List.setIfInBounds_toArray, List.set_cons_zero, List.set_cons_succ]
    refine wpL_call 26 #[.slice none 0 0] rfl (by kernel_rfl) ((clone_none w 0 0).mono fun e w1 ⟨he, hw⟩ => ⟨_, he, ?_⟩)
    simp only [Act.put, List.setIfInBounds_toArray, List.set_cons_zero, List.set_cons_succ]
    subst hw
    refine wpL_pure (.pointer (some ⟨b, 0, none⟩)) rfl (by kernel_rfl) ?_
    simp only [Act.put, List.setIfInBounds_toArray, List.set_cons_zero, List.set_cons_succ]
    refine wpL_pure (.pointer (some ⟨b, 0, none⟩)) rfl (by kernel_rfl) ?_
    simp only [Act.put, List.setIfInBounds_toArray, List.set_cons_zero, List.set_cons_succ]
    refine wpL_store_one rfl rfl (b) (0) rfl (.slice none 0 0) rfl rfl size25 (by rw [HB.out.cell]; rfl) (HB.out.free _) ?_
    simp only [Act.put, List.setIfInBounds_toArray, List.set_cons_zero, List.set_cons_succ]
    obtain ⟨w2, hw2⟩ : ∃ V, V = w.setCell ⟨b, 0, none⟩ (.slice none 0 0) := ⟨_, rfl⟩
    rw [← hw2]
    have HB2 : Hid (Blk w2 b 30 #[.slice none 0 0, .bool false, .pointer none] ∧ Below b w w2 ∧ w.grownBy w2 (some b)) := Lib.hid (by rw [hw2]; exact ⟨Blk.set (l := [.slice none 0 0, .bool false, .pointer none]) HB.out 0 _, Below.setCell (p := ⟨b, 0, none⟩) (Below.refl b w) (Nat.le_refl b) _, gb_set (gb_refl _ _) _ _⟩)
    clear hw2 HB
    go_upto_region 6 with (fail)
    refine wp_region_lit ?_
    refine wpL_pure (.pointer (some ⟨b, 0, none⟩)) rfl (by kernel_rfl) ?_
    simp only [Act.put, List.setIfInBounds_toArray, List.set_cons_zero, List.set_cons_succ]
    refine wpL_pure (.pointer (some ⟨b, 0, none⟩)) rfl (by kernel_rfl) ?_
    simp only [Act.put, List.setIfInBounds_toArray, List.set_cons_zero, List.set_cons_succ]
    refine wpL_pure (.pointer (some ⟨b, 0, none⟩)) rfl (by kernel_rfl) ?_
    simp only [Act.put, List.setIfInBounds_toArray, List.set_cons_zero, List.set_cons_succ]
    refine wpL_pure (.pointer (some ⟨b, 2, none⟩)) rfl (by kernel_rfl) ?_
    simp only [Act.put, List.setIfInBounds_toArray, List.set_cons_zero, List.set_cons_succ]
    refine wpL_store_one rfl rfl (b) (2) rfl (.pointer (some ⟨b, 0, none⟩)) rfl rfl size26 (by rw [HB2.out.1.cell]; rfl) (HB2.out.1.free _) ?_
    simp only [Act.put, List.setIfInBounds_toArray, List.set_cons_zero, List.set_cons_succ]
    obtain ⟨w3, hw3⟩ : ∃ V, V = w2.setCell ⟨b, 2, none⟩ (.pointer (some ⟨b, 0, none⟩)) := ⟨_, rfl⟩
    rw [← hw3]
    have HB3 : Hid (Blk w3 b 30 #[.slice none 0 0, .bool false, .pointer (some ⟨b, 0, none⟩)] ∧ Below b w w3 ∧ w.grownBy w3 (some b)) := Lib.hid (by rw [hw3]; exact ⟨Blk.set (l := [.slice none 0 0, .bool false, .pointer none]) HB2.out.1 2 _, HB2.out.2.1.setCell (Nat.le_refl _) _, gb_set HB2.out.2.2 _ _⟩)
    clear hw3 HB2
    obtain ⟨v', w4, r1, r2, r3, r4, _⟩ := append_own w3 (b + 1) (.slice none 0 0) [] ys a1 n1 c1 (Own.nil _ _) (HR.out w3 HB3.out.2.2) (by have := HN.out; simp; omega) (HB3.out.1.lt)
    have HKP : Hid (w3.grownBy w4 (.slice none 0 0 : Value).ownBlock ∧ (v'.ownBlock = (.slice none 0 0 : Value).ownBlock ∨ v'.ownBlock = some w3.heap.size) ∧ w.grownBy w3 (some b)) := Lib.hid ⟨r3, r4, HB3.out.2.2⟩
    have NB : ∀ k, (.slice none 0 0 : Value).ownBlock = some k → b + 1 ≤ k := fun k hk => ((Own.nil w3 (b + 1)).lt k hk).1
    have R1 := Lib.hid r1
    have R2 : Hid (Own w4 (b + 1) v' ([] ++ ys) ∧ Below b w w4 ∧ Blk w4 b 30 #[.slice none 0 0, .bool false, .pointer (some ⟨b, 0, none⟩)]) := Lib.hid ⟨r2, HB3.out.2.1.grown r3 (by have := HB3.out.1.lt; omega) (fun k hk => by have := NB k hk; omega), HB3.out.1.grown r3 (fun e => by have := NB b e.symm; omega)⟩
    have ONE : v'.oneCell' = true := by obtain ⟨a, c, e⟩ := r2.slice; rw [e]; rfl
    have H3X : Hid (Blk w3 b 30 #[.slice none 0 0, .bool false, .pointer (some ⟨b, 0, none⟩)]) := Lib.hid HB3.out.1
    clear r1 r2 r3 r4 HB3 HR NB
    go_upto_region 7 with (fail)
    refine wp_region_lit ?_
    refine wpL_pure (.pointer (some ⟨b, 0, none⟩)) rfl (by kernel_rfl) ?_
    simp only [Act.put, List.setIfInBounds_toArray, List.set_cons_zero, List.set_cons_succ]
    refine wpL_pure (.pointer (some ⟨b, 0, none⟩)) rfl (by kernel_rfl) ?_
    simp only [Act.put, List.setIfInBounds_toArray, List.set_cons_zero, List.set_cons_succ]
    refine wpL_pure (.pointer (some ⟨b, 0, none⟩)) rfl (by kernel_rfl) ?_
    simp only [Act.put, List.setIfInBounds_toArray, List.set_cons_zero, List.set_cons_succ]
    refine wpL_pure (.pointer (some ⟨b, 0, none⟩)) rfl (by kernel_rfl) ?_
    simp only [Act.put, List.setIfInBounds_toArray, List.set_cons_zero, List.set_cons_succ]
    refine wpL_pure (.slice none 0 0) rfl (run_load_one _ _ _ 25 _ _ rfl b 0 rfl (by rw [H3X.out.cell]; rfl) (by kernel_rfl)) ?_
    simp only [Act.put, List.setIfInBounds_toArray, List.set_cons_zero, List.set_cons_succ]
    refine wpL_pure (.slice a1 n1 c1) rfl (by kernel_rfl) ?_
    simp only [Act.put, List.setIfInBounds_toArray, List.set_cons_zero, List.set_cons_succ]
    refine wpL_value (v') (w4) rfl (run_app _ _ _ _ _ _ _ _ _ rfl rfl rfl rfl R1.out) ?_
    simp only [Act.put, List.setIfInBounds_toArray, List.set_cons_zero, List.set_cons_succ]
    refine wpL_pure (.pointer (some ⟨b, 0, none⟩)) rfl (by kernel_rfl) ?_
    simp only [Act.put, List.setIfInBounds_toArray, List.set_cons_zero, List.set_cons_succ]
    refine wpL_pure (.pointer (some ⟨b, 0, none⟩)) rfl (by kernel_rfl) ?_
    simp only [Act.put, List.setIfInBounds_toArray, List.set_cons_zero, List.set_cons_succ]
    refine wpL_store_one rfl rfl (b) (0) rfl (v') rfl ONE size25 (by rw [R2.out.2.2.cell]; rfl) (R2.out.2.2.free _) ?_
    simp only [Act.put, List.setIfInBounds_toArray, List.set_cons_zero, List.set_cons_succ]
    go_wp2_with fail
    go_end0
    exact ⟨rfl, ⟨v', some ⟨b, 0, none⟩, Blk.set (l := [.slice none 0 0, .bool false, .pointer (some ⟨b, 0, none⟩)]) R2.out.2.2 0 _, R2.out.1.other _ _ (fun e => by have := (R2.out.1.lt b e).1; omega), .inl rfl⟩, R2.out.2.1.setCell (Nat.le_refl _) _, keep_fin HKP.out.2.2 HKP.out.1 HKP.out.2.1 OB.out R2.out.2.2⟩
attribute [local irreducible] wpList
set_option maxHeartbeats 1000000 in
theorem put_longK (w : World) (b : Nat) (a : Option Addr) (n c : Nat) (lb : Bool) (p : Option Addr) (a1 : Option Addr) (n1 c1 : Nat) (h : Blk w b 30 #[.slice a n c, .bool lb, .pointer p]) (hn : n ≤ 16384 ∧ n1 ≤ 4611686018427387904) (hl : lb = true ∨ 16384 < n + n1) :
    Calls Try.prog 31 #[.pointer (some ⟨b, 0, none⟩), .slice a1 n1 c1] w fun e w' => e = .returned (.tuple #[]) ∧ OutLong w' b ∧ BK b w w' := by
  have HB := Lib.hid h
  have HN := Lib.hid hn
  clear h hn
  go_enter Try.func31, Try.ntmps31
  by_cases hgt : 16384 < n + n1
  · have GT := Lib.hid hgt
    clear hgt hl
    go_upto_region 0 with (fail)
    refine wp_region_lit ?_
    refine wpL_pure (.pointer (some ⟨b, 0, none⟩)) rfl (by kernel_rfl) ?_
    simp only [Act.put, List.setIfInBounds_toArray, List.set_cons_zero, List.set_cons_succ]
    refine wpL_pure (.pointer (some ⟨b, 0, none⟩)) rfl (by kernel_rfl) ?_
    simp only [Act.put, List.setIfInBounds_toArray, List.set_cons_zero, List.set_cons_succ]
    refine wpL_pure (.pointer (some ⟨b, 0, none⟩)) rfl (by kernel_rfl) ?_
    simp only [Act.put, List.setIfInBounds_toArray, List.set_cons_zero, List.set_cons_succ]
    refine wpL_pure (.slice a n c) rfl (run_load_one _ _ _ 25 _ _ rfl (b) (0) rfl (by rw [HB.out.cell]; rfl) (by kernel_rfl)) ?_
    simp only [Act.put, List.setIfInBounds_toArray, List.set_cons_zero, List.set_cons_succ]
    refine wpL_pure (.int .i64 (n : Int)) rfl (by kernel_rfl) ?_
    simp only [Act.put, List.setIfInBounds_toArray, List.set_cons_zero, List.set_cons_succ]
    refine wpL_pure (.slice a1 n1 c1) rfl (by kernel_rfl) ?_
    simp only [Act.put, List.setIfInBounds_toArray, List.set_cons_zero, List.set_cons_succ]
    refine wpL_pure (.int .i64 (n1 : Int)) rfl (by kernel_rfl) ?_
    simp only [Act.put, List.setIfInBounds_toArray, List.set_cons_zero, List.set_cons_succ]
    refine wpL_pure (.int .i64 ((n + n1 : Nat) : Int)) rfl (run_addi Try.underlying3 rfl rfl rfl _ (by have := HN.out; rw [wrap_in _ (by omega) (by omega)]; omega)) ?_
    simp only [Act.put, List.setIfInBounds_toArray, List.set_cons_zero, List.set_cons_succ]
    refine wpL_pure (.bool true) rfl (run_gti Try.underlying3 rfl rfl rfl (by have := GT.out; rw [decide_eq_true_eq]; omega)) ?_
    simp only [Act.put, List.setIfInBounds_toArray, List.set_cons_zero, List.set_cons_succ]
    go_upto_region 1 with (fail)
    refine wp_region_lit ?_
    refine wpL_pure (.pointer (some ⟨b, 0, none⟩)) rfl (by kernel_rfl) ?_
    simp only [Act.put, List.setIfInBounds_toArray, List.set_cons_zero, List.set_cons_succ]
    refine wpL_pure (.pointer (some ⟨b, 0, none⟩)) rfl (by kernel_rfl) ?_
    simp only [Act.put, List.setIfInBounds_toArray, List.set_cons_zero, List.set_cons_succ]
    refine wpL_pure (.pointer (some ⟨b, 1, none⟩)) rfl (by kernel_rfl) ?_
    simp only [Act.put, List.setIfInBounds_toArray, List.set_cons_zero, List.set_cons_succ]
    refine wpL_store_one rfl rfl (b) (1) rfl (.bool true) rfl rfl size4 (by rw [HB.out.cell]; rfl) (HB.out.free _) ?_
    simp only [Act.put, List.setIfInBounds_toArray, List.set_cons_zero, List.set_cons_succ]
    obtain ⟨w1, hw1⟩ : ∃ V, V = w.setCell ⟨b, 1, none⟩ (.bool true) := ⟨_, rfl⟩
    rw [← hw1]
    have HB1 : Hid (Blk w1 b 30 #[.slice a n c, .bool true, .pointer p] ∧ BK b w w1) := Lib.hid (by rw [hw1]; exact ⟨Blk.set (l := [.slice a n c, .bool lb, .pointer p]) HB.out 1 _, BK.set1 HB.out⟩)
    clear hw1 HB
    go_upto_region 2 with (fail)
    refine wp_region_lit ?_
    refine wpL_pure (.pointer (some ⟨b, 0, none⟩)) rfl (by kernel_rfl) ?_
    simp only [Act.put, List.setIfInBounds_toArray, List.set_cons_zero, List.set_cons_succ]
    refine wpL_pure (.pointer (some ⟨b, 0, none⟩)) rfl (by kernel_rfl) ?_
    simp only [Act.put, List.setIfInBounds_toArray, List.set_cons_zero, List.set_cons_succ]
    refine wpL_pure (.pointer (some ⟨b, 1, none⟩)) rfl (by kernel_rfl) ?_
    simp only [Act.put, List.setIfInBounds_toArray, List.set_cons_zero, List.set_cons_succ]
    refine wpL_pure (.bool true) rfl (run_load_one _ _ _ 4 _ _ rfl (b) (1) rfl (by rw [HB1.out.1.cell]; rfl) (by kernel_rfl)) ?_
    simp only [Act.put, List.setIfInBounds_toArray, List.set_cons_zero, List.set_cons_succ]
    go_upto_region 3 with (fail)
    refine wp_region_lit ?_
    refine wpL_pure (.pointer (some ⟨b, 0, none⟩)) rfl (by kernel_rfl) ?_
    simp only [Act.put, List.setIfInBounds_toArray, List.set_cons_zero, List.set_cons_succ]
    refine wpL_pure (.pointer (some ⟨b, 0, none⟩)) rfl (by kernel_rfl) ?_
    simp only [Act.put, List.setIfInBounds_toArray, List.set_cons_zero, List.set_cons_succ]
    refine wpL_pure (.pointer (some ⟨b, 0, none⟩)) rfl (by kernel_rfl) ?_
    simp only [Act.put, List.setIfInBounds_toArray, List.set_cons_zero, List.set_cons_succ]
    refine wpL_store_one rfl rfl (b) (0) rfl (.slice none 0 0) rfl rfl size25 (by rw [HB1.out.1.cell]; rfl) (HB1.out.1.free _) ?_
    simp only [Act.put, List.setIfInBounds_toArray, List.set_cons_zero, List.set_cons_succ]
    go_wp2_with fail
    refine bodyPost_ret (results_none rfl _ _ _) rfl ?_
    exact ⟨rfl, ⟨none, 0, 0, p, Blk.set (l := [.slice a n c, .bool true, .pointer p]) HB1.out.1 0 _, by omega⟩, HB1.out.2.trans (BK.set0 HB1.out.1)⟩
  · have GT := Lib.hid hgt
    have LB : Hid (lb = true) := Lib.hid (by rcases hl with h | h; exact h; omega)
    clear hgt hl
    go_upto_region 0 with (fail)
    refine wp_region_lit ?_
    refine wpL_pure (.pointer (some ⟨b, 0, none⟩)) rfl (by kernel_rfl) ?_
    simp only [Act.put, List.setIfInBounds_toArray, List.set_cons_zero, List.set_cons_succ]
    refine wpL_pure (.pointer (some ⟨b, 0, none⟩)) rfl (by kernel_rfl) ?_
    simp only [Act.put, List.setIfInBounds_toArray, List.set_cons_zero, List.set_cons_succ]
    refine wpL_pure (.pointer (some ⟨b, 0, none⟩)) rfl (by kernel_rfl) ?_
    simp only [Act.put, List.setIfInBounds_toArray, List.set_cons_zero, List.set_cons_succ]
    refine wpL_pure (.slice a n c) rfl (run_load_one _ _ _ 25 _ _ rfl (b) (0) rfl (by rw [HB.out.cell]; rfl) (by kernel_rfl)) ?_
    simp only [Act.put, List.setIfInBounds_toArray, List.set_cons_zero, List.set_cons_succ]
    refine wpL_pure (.int .i64 (n : Int)) rfl (by kernel_rfl) ?_
    simp only [Act.put, List.setIfInBounds_toArray, List.set_cons_zero, List.set_cons_succ]
    refine wpL_pure (.slice a1 n1 c1) rfl (by kernel_rfl) ?_
    simp only [Act.put, List.setIfInBounds_toArray, List.set_cons_zero, List.set_cons_succ]
    refine wpL_pure (.int .i64 (n1 : Int)) rfl (by kernel_rfl) ?_
    simp only [Act.put, List.setIfInBounds_toArray, List.set_cons_zero, List.set_cons_succ]
    refine wpL_pure (.int .i64 ((n + n1 : Nat) : Int)) rfl (run_addi Try.underlying3 rfl rfl rfl _ (by have := HN.out; rw [wrap_in _ (by omega) (by omega)]; omega)) ?_
    simp only [Act.put, List.setIfInBounds_toArray, List.set_cons_zero, List.set_cons_succ]
    refine wpL_pure (.bool false) rfl (run_gti Try.underlying3 rfl rfl rfl (by have := GT.out; rw [decide_eq_false_iff_not]; omega)) ?_
    simp only [Act.put, List.setIfInBounds_toArray, List.set_cons_zero, List.set_cons_succ]
    have HB1 : Hid (Blk w b 30 #[.slice a n c, .bool true, .pointer p] ∧ BK b w w) := Lib.hid ⟨by have := HB.out; rw [LB.out] at this; exact this, BK.refl _ _⟩
    clear HB
    go_upto_region 2 with (fail)
    refine wp_region_lit ?_
    refine wpL_pure (.pointer (some ⟨b, 0, none⟩)) rfl (by kernel_rfl) ?_
    simp only [Act.put, List.setIfInBounds_toArray, List.set_cons_zero, List.set_cons_succ]
    refine wpL_pure (.pointer (some ⟨b, 0, none⟩)) rfl (by kernel_rfl) ?_
    simp only [Act.put, List.setIfInBounds_toArray, List.set_cons_zero, List.set_cons_succ]
    refine wpL_pure (.pointer (some ⟨b, 1, none⟩)) rfl (by kernel_rfl) ?_
    simp only [Act.put, List.setIfInBounds_toArray, List.set_cons_zero, List.set_cons_succ]
    refine wpL_pure (.bool true) rfl (run_load_one _ _ _ 4 _ _ rfl (b) (1) rfl (by rw [HB1.out.1.cell]; rfl) (by kernel_rfl)) ?_
    simp only [Act.put, List.setIfInBounds_toArray, List.set_cons_zero, List.set_cons_succ]
    go_upto_region 3 with (fail)
    refine wp_region_lit ?_
    refine wpL_pure (.pointer (some ⟨b, 0, none⟩)) rfl (by kernel_rfl) ?_
    simp only [Act.put, List.setIfInBounds_toArray, List.set_cons_zero, List.set_cons_succ]
    refine wpL_pure (.pointer (some ⟨b, 0, none⟩)) rfl (by kernel_rfl) ?_
    simp only [Act.put, List.setIfInBounds_toArray, List.set_cons_zero, List.set_cons_succ]
    refine wpL_pure (.pointer (some ⟨b, 0, none⟩)) rfl (by kernel_rfl) ?_
    simp only [Act.put, List.setIfInBounds_toArray, List.set_cons_zero, List.set_cons_succ]
    refine wpL_store_one rfl rfl (b) (0) rfl (.slice none 0 0) rfl rfl size25 (by rw [HB1.out.1.cell]; rfl) (HB1.out.1.free _) ?_
    simp only [Act.put, List.setIfInBounds_toArray, List.set_cons_zero, List.set_cons_succ]
    go_wp2_with fail
    refine bodyPost_ret (results_none rfl _ _ _) rfl ?_
    exact ⟨rfl, ⟨none, 0, 0, p, Blk.set (l := [.slice a n c, .bool true, .pointer p]) HB1.out.1 0 _, by omega⟩, HB1.out.2.trans (BK.set0 HB1.out.1)⟩
theorem put_genK (w : World) (b : Nat) (st : Option (List Int)) (ys : List Int) (a1 : Option Addr) (n1 c1 : Nat) (h : OutG w b st) (hr : ∀ X, w.grownBy X (some b) → Row X a1 n1 ys) (hn : n1 ≤ 4611686018427387904) :
    Calls Try.prog 31 #[.pointer (some ⟨b, 0, none⟩), .slice a1 n1 c1] w fun e w' => e = .returned (.tuple #[]) ∧ OutG w' b (putG st ys) ∧ BK b w w' := by
  have hl := (hr w (gb_refl _ _)).1
  cases st with
  | some xs =>
    obtain ⟨h1, h2⟩ := h
    by_cases hf : xs.length + n1 ≤ 16384
    · refine (put_anyK w b xs ys a1 n1 c1 h1 hr hf).mono fun e w' ⟨he, q1, q2⟩ => ⟨he, ?_, q2⟩
      simp only [putG]
      rw [if_pos (by omega)]
      exact ⟨q1, by rw [List.length_append]; omega⟩
    · obtain ⟨s, p, hb, ho, hp⟩ := h1
      obtain ⟨a, c, rfl⟩ := ho.slice
      refine (put_longK w b a xs.length c false p a1 n1 c1 hb ⟨h2, hn⟩ (.inr (by omega))).mono fun e w' ⟨he, q1, q2⟩ => ⟨he, ?_, q2⟩
      simp only [putG]
      rw [if_neg (by omega)]
      exact q1
  | none =>
    obtain ⟨a, n, c, p, hb, h2⟩ := h
    exact (put_longK w b a n c true p a1 n1 c1 hb ⟨h2, hn⟩ (.inl rfl)).mono fun e w' ⟨he, q1, q2⟩ => ⟨he, q1, q2⟩
theorem oraw_genK (w : World) (b : Nat) (st : Option (List Int)) (ys : List Int) (a1 : Option Addr) (n1 c1 : Nat) (h : OutG w b st) (hr : ∀ X, w.grownBy X (some b) → Row X a1 n1 ys) (hn : n1 ≤ 4611686018427387904) :
    Calls Try.prog 22 #[.pointer (some ⟨b, 0, none⟩), .slice a1 n1 c1] w fun e w' => e = .returned (.tuple #[]) ∧ OutG w' b (putG st ys) ∧ BK b w w' := by
  have PU := Lib.hid (put_genK w b st ys a1 n1 c1 h hr hn)
  clear h hr hn
  go_enter Try.func22, Try.ntmps22
  go_wp2_with (refine (PU.out).mono ?_; rintro e w' ⟨rfl, Q⟩)
  go_end0
  exact ⟨rfl, Q⟩
set_option maxHeartbeats 1000000 in
theorem onum_genK (w : World) (b x : Nat) (st : Option (List Int)) (h : OutG w b st) (hx : x < 18446744073709551616) :
    Calls Try.prog 20 #[.pointer (some ⟨b, 0, none⟩), .int .u64 (x : Int)] w fun e w' => e = .returned (.tuple #[]) ∧ OutG w' b (putG st (enc x)) ∧ BK b w w' := by
  have HH := Lib.hid h
  have HX := Lib.hid hx
  clear h hx
  go_enter Try.func20, Try.ntmps20
  go_wp2_with fail
  go_loopw [1] (fun s1 wr => ∃ (y : Nat) (pre : List Int), s1 = .int .u64 (y : Int) ∧ Hid (enc x = pre ++ enc y ∧ OutG wr b (putG st pre) ∧ BK b w wr) ∧ Hid (y < 18446744073709551616)) (fun s1 _ => (intOf s1).toNat)
  case atStart => exact ⟨x, [], rfl, Lib.hid ⟨rfl, by rw [putG_nil st HH.out.lim]; exact HH.out, BK.refl _ _⟩, HX⟩
  case round =>
    obtain ⟨y, pre, rfl, RI, HY⟩ := hrel
    by_cases hlt : y < 128
    · have HL := Lib.hid hlt
      clear hlt
      go_upto_region 0 with (fail)
      refine wp_region_lit ?_
      refine wpL_pure (.int .u64 (y : Int)) rfl (by kernel_rfl) ?_
      simp only [Act.put, List.setIfInBounds_toArray, List.set_cons_zero, List.set_cons_succ]
      refine wpL_pure (.bool false) rfl (run_gei Try.underlying33 rfl rfl rfl (by have := HL.out; rw [decide_eq_false_iff_not]; omega)) ?_
      simp only [Act.put, List.setIfInBounds_toArray, List.set_cons_zero, List.set_cons_succ]
      go_upto_region 3 with (fail)
      refine wp_region_lit ?_
      obtain ⟨w1, hw1⟩ : ∃ V, V = wr.alloc (.cells #[.int .u8 ((y % 256 : Nat) : Int)] 5) := ⟨_, rfl⟩
      have PU := Lib.hid (put_genK w1 b (putG st pre) [((y % 256 : Nat) : Int)] (some ⟨wr.heap.size, 0, none⟩) 1 1 (by rw [hw1]; exact RI.out.2.1.below ((Below.refl _ _).alloc (Nat.le_refl _) _)) (fun X hX => Row.grown (by rw [hw1]; exact row_one wr _ (by omega) (by omega)) hX (fun p hp => by cases hp; intro e; have := RI.out.2.1.lt; simp at e; omega)) (by omega))
      have BW : Hid (BK b wr w1) := Lib.hid (by rw [hw1]; exact BK.alloc _ _ _ RI.out.2.1.lt)
      refine wpL_pure (.pointer (some ⟨b, 0, none⟩)) rfl (by kernel_rfl) ?_
      simp only [Act.put, List.setIfInBounds_toArray, List.set_cons_zero, List.set_cons_succ]
      refine wpL_pure (.pointer (some ⟨b, 0, none⟩)) rfl (by kernel_rfl) ?_
      simp only [Act.put, List.setIfInBounds_toArray, List.set_cons_zero, List.set_cons_succ]
      refine wpL_pure (.pointer (some ⟨b, 0, none⟩)) rfl (by kernel_rfl) ?_
      simp only [Act.put, List.setIfInBounds_toArray, List.set_cons_zero, List.set_cons_succ]
      refine wpL_pure (.int .u64 (y : Int)) rfl (by kernel_rfl) ?_
      simp only [Act.put, List.setIfInBounds_toArray, List.set_cons_zero, List.set_cons_succ]
      refine wpL_pure (.int .u8 ((y % 256 : Nat) : Int)) rfl (run_convi Try.underlying33 Try.underlying5 rfl rfl _ (by rw [IntKind.wrap_u8]; omega)) ?_
      simp only [Act.put, List.setIfInBounds_toArray, List.set_cons_zero, List.set_cons_succ]
      refine wpL_value (.slice (some ⟨wr.heap.size, 0, none⟩) 1 1) (w1) rfl (by rw [hw1]; kernel_rfl) ?_
      simp only [Act.put, List.setIfInBounds_toArray, List.set_cons_zero, List.set_cons_succ]
      refine wpL_call 31 #[.pointer (some ⟨b, 0, none⟩), .slice (some ⟨wr.heap.size, 0, none⟩) 1 1] rfl (by kernel_rfl) ((PU.out).mono fun e w2 ⟨he, hO, hB⟩ => ⟨.tuple #[], he, ?_⟩)
      simp only [Act.put, List.setIfInBounds_toArray, List.set_cons_zero, List.set_cons_succ]
      rw [putG_putG] at hO
      have NX := Lib.hid (And.intro hO (RI.out.2.2.trans (BW.out.trans hB)))
      clear hO hB PU hw1
      go_wp2_with fail
      go_end0
      exact ⟨rfl, by
        have e : enc x = pre ++ [((y % 256 : Nat) : Int)] := by
          rw [RI.out.1, enc_lo y HL.out, show y % 256 = y by have := HL.out; omega]
        rw [e]
        exact NX.out.1, NX.out.2⟩
    · have HL := Lib.hid hlt
      clear hlt
      go_upto_region 0 with (fail)
      refine wp_region_lit ?_
      refine wpL_pure (.int .u64 (y : Int)) rfl (by kernel_rfl) ?_
      simp only [Act.put, List.setIfInBounds_toArray, List.set_cons_zero, List.set_cons_succ]
      refine wpL_pure (.bool true) rfl (run_gei Try.underlying33 rfl rfl rfl (by have := HL.out; rw [decide_eq_true_eq]; omega)) ?_
      simp only [Act.put, List.setIfInBounds_toArray, List.set_cons_zero, List.set_cons_succ]
      go_upto_region 1 with (fail)
      refine wp_region_lit ?_
      obtain ⟨w1, hw1⟩ : ∃ V, V = wr.alloc (.cells #[.int .u8 ((y % 128 + 128 : Nat) : Int)] 5) := ⟨_, rfl⟩
      have PU := Lib.hid (put_genK w1 b (putG st pre) [((y % 128 + 128 : Nat) : Int)] (some ⟨wr.heap.size, 0, none⟩) 1 1 (by rw [hw1]; exact RI.out.2.1.below ((Below.refl _ _).alloc (Nat.le_refl _) _)) (fun X hX => Row.grown (by rw [hw1]; exact row_one wr _ (by omega) (by omega)) hX (fun p hp => by cases hp; intro e; have := RI.out.2.1.lt; simp at e; omega)) (by omega))
      have BW : Hid (BK b wr w1) := Lib.hid (by rw [hw1]; exact BK.alloc _ _ _ RI.out.2.1.lt)
      refine wpL_pure (.pointer (some ⟨b, 0, none⟩)) rfl (by kernel_rfl) ?_
      simp only [Act.put, List.setIfInBounds_toArray, List.set_cons_zero, List.set_cons_succ]
      refine wpL_pure (.pointer (some ⟨b, 0, none⟩)) rfl (by kernel_rfl) ?_
      simp only [Act.put, List.setIfInBounds_toArray, List.set_cons_zero, List.set_cons_succ]
      refine wpL_pure (.pointer (some ⟨b, 0, none⟩)) rfl (by kernel_rfl) ?_
      simp only [Act.put, List.setIfInBounds_toArray, List.set_cons_zero, List.set_cons_succ]
      refine wpL_pure (.int .u64 (y : Int)) rfl (by kernel_rfl) ?_
      simp only [Act.put, List.setIfInBounds_toArray, List.set_cons_zero, List.set_cons_succ]
      refine wpL_pure (.int .u8 ((y % 256 : Nat) : Int)) rfl (run_convi Try.underlying33 Try.underlying5 rfl rfl _ (by rw [IntKind.wrap_u8]; omega)) ?_
      simp only [Act.put, List.setIfInBounds_toArray, List.set_cons_zero, List.set_cons_succ]
      refine wpL_pure (.int .u8 ((y % 128 + 128 : Nat) : Int)) rfl (run_biti (.inl rfl) Try.underlying5 rfl rfl rfl _ (or128 y)) ?_
      simp only [Act.put, List.setIfInBounds_toArray, List.set_cons_zero, List.set_cons_succ]
      refine wpL_value (.slice (some ⟨wr.heap.size, 0, none⟩) 1 1) (w1) rfl (by rw [hw1]; kernel_rfl) ?_
      simp only [Act.put, List.setIfInBounds_toArray, List.set_cons_zero, List.set_cons_succ]
      refine wpL_call 31 #[.pointer (some ⟨b, 0, none⟩), .slice (some ⟨wr.heap.size, 0, none⟩) 1 1] rfl (by kernel_rfl) ((PU.out).mono fun e w2 ⟨he, hO, hB⟩ => ⟨.tuple #[], he, ?_⟩)
      simp only [Act.put, List.setIfInBounds_toArray, List.set_cons_zero, List.set_cons_succ]
      rw [putG_putG] at hO
      have NX := Lib.hid (And.intro hO (RI.out.2.2.trans (BW.out.trans hB)))
      clear hO hB PU hw1
      go_upto_region 2 with (fail)
      refine wp_region_lit ?_
      refine wpL_pure (.int .u64 (y : Int)) rfl (by kernel_rfl) ?_
      simp only [Act.put, List.setIfInBounds_toArray, List.set_cons_zero, List.set_cons_succ]
      refine wpL_pure (.int .u64 ((y / 128 : Nat) : Int)) rfl (run_shr7 _ _ _ _ y rfl rfl HY.out) ?_
      simp only [Act.put, List.setIfInBounds_toArray, List.set_cons_zero, List.set_cons_succ]
      refine wpL_pure (.int .u64 ((y / 128 : Nat) : Int)) rfl (by kernel_rfl) ?_
      simp only [Act.put, List.setIfInBounds_toArray, List.set_cons_zero, List.set_cons_succ]
      unfold wpList
      go_roundw
      case rel =>
        have NY : Hid (enc x = (pre ++ [((y % 128 + 128 : Nat) : Int)]) ++ enc (y / 128) ∧ OutG w2 b (putG st (pre ++ [((y % 128 + 128 : Nat) : Int)])) ∧ BK b w w2) := Lib.hid ⟨by rw [RI.out.1, enc_hi y HL.out]; simp, NX.out.1, NX.out.2⟩
        first | exact ⟨y / 128, _, rfl, NY, Lib.hid (by have := HY.out; omega)⟩ | ((repeat apply Exists.intro); exact ⟨⟨y / 128, _, rfl, NY, Lib.hid (by have := HY.out; omega)⟩, rfl⟩)
      case measure => simp [intOf]; have := HL.out; omega
set_option maxHeartbeats 1000000 in
theorem otext_genK (w : World) (b : Nat) (st : Option (List Int)) (ys : List Int) (a1 : Option Addr) (n1 c1 : Nat) (h : OutG w b st) (hr : ∀ X, Below b w X → Row X a1 n1 ys) (hn : n1 ≤ 4611686018427387904) :
    Calls Try.prog 23 #[.pointer (some ⟨b, 0, none⟩), .slice a1 n1 c1] w fun e w' => e = .returned (.tuple #[]) ∧ OutG w' b (textG st ys) ∧ BK b w w' := by
  obtain ⟨a, n, c, lb, p, hb, hn0⟩ := h.any
  have HY : Hid (ys.length = n1) := Lib.hid (hr w (Below.refl _ _)).1
  have HB := Lib.hid hb
  have HO := Lib.hid h
  have HR := Lib.hid hr
  have HN := Lib.hid (And.intro hn0 hn)
  clear hb h hr hn hn0
  by_cases hgt : 4096 < n1
  · have GT := Lib.hid hgt
    clear hgt
    go_enter Try.func23, Try.ntmps23
    go_upto_region 0 with (fail)
    refine wp_region_lit ?_
    refine wpL_pure (.slice a1 n1 c1) rfl (by kernel_rfl) ?_
    simp only [Act.put, List.setIfInBounds_toArray, List.set_cons_zero, List.set_cons_succ]
    refine wpL_pure (.int .i64 (n1 : Int)) rfl (by kernel_rfl) ?_
    simp only [Act.put, List.setIfInBounds_toArray, List.set_cons_zero, List.set_cons_succ]
    refine wpL_pure (.bool true) rfl (run_gti Try.underlying3 rfl rfl rfl (by have := GT.out; rw [decide_eq_true_eq]; omega)) ?_
    simp only [Act.put, List.setIfInBounds_toArray, List.set_cons_zero, List.set_cons_succ]
    go_upto_region 1 with (fail)
    refine wp_region_lit ?_
    refine wpL_pure (.pointer (some ⟨b, 0, none⟩)) rfl (by kernel_rfl) ?_
    simp only [Act.put, List.setIfInBounds_toArray, List.set_cons_zero, List.set_cons_succ]
    refine wpL_pure (.pointer (some ⟨b, 0, none⟩)) rfl (by kernel_rfl) ?_
    simp only [Act.put, List.setIfInBounds_toArray, List.set_cons_zero, List.set_cons_succ]
    refine wpL_pure (.pointer (some ⟨b, 0, none⟩)) rfl (by kernel_rfl) ?_
    simp only [Act.put, List.setIfInBounds_toArray, List.set_cons_zero, List.set_cons_succ]
    refine wpL_pure (.pointer (some ⟨b, 1, none⟩)) rfl (by kernel_rfl) ?_
    simp only [Act.put, List.setIfInBounds_toArray, List.set_cons_zero, List.set_cons_succ]
    refine wpL_store_one rfl rfl (b) (1) rfl (.bool true) rfl rfl size4 (by rw [HB.out.cell]; rfl) (HB.out.free _) ?_
    simp only [Act.put, List.setIfInBounds_toArray, List.set_cons_zero, List.set_cons_succ]
    obtain ⟨w1, hw1⟩ : ∃ V, V = w.setCell ⟨b, 1, none⟩ (.bool true) := ⟨_, rfl⟩
    rw [← hw1]
    have O1 : Hid (OutG w1 b none ∧ BK b w w1) := Lib.hid (by rw [hw1]; exact ⟨⟨a, n, c, p, Blk.set (l := [.slice a n c, .bool lb, .pointer p]) HB.out 1 _, HN.out.1⟩, BK.set1 HB.out⟩)
    clear hw1 HB
    go_upto_region 2 with (fail)
    refine wp_region_lit ?_
    refine wpL_pure (.pointer (some ⟨b, 0, none⟩)) rfl (by kernel_rfl) ?_
    simp only [Act.put, List.setIfInBounds_toArray, List.set_cons_zero, List.set_cons_succ]
    refine wpL_pure (.slice a1 n1 c1) rfl (by kernel_rfl) ?_
    simp only [Act.put, List.setIfInBounds_toArray, List.set_cons_zero, List.set_cons_succ]
    refine wpL_pure (.int .i64 (n1 : Int)) rfl (by kernel_rfl) ?_
    simp only [Act.put, List.setIfInBounds_toArray, List.set_cons_zero, List.set_cons_succ]
    refine wpL_pure (.int .u64 (n1 : Int)) rfl (run_convi Try.underlying3 Try.underlying33 rfl rfl _ (u64_in _ (by omega) (by have := HN.out.2; omega))) ?_
    simp only [Act.put, List.setIfInBounds_toArray, List.set_cons_zero, List.set_cons_succ]
    refine wpL_call 20 #[.pointer (some ⟨b, 0, none⟩), .int .u64 (n1 : Int)] rfl (by kernel_rfl) (((onum_genK w1 b n1 none O1.out.1 (by have := HN.out.2; omega))).mono fun e w2 ⟨he, q1, q2⟩ => ⟨.tuple #[], he, ?_⟩)
    simp only [Act.put, List.setIfInBounds_toArray, List.set_cons_zero, List.set_cons_succ]
    have O2 := Lib.hid (And.intro q1 (O1.out.2.trans q2))
    clear q1 q2 O1
    go_upto_region 3 with (fail)
    refine wp_region_lit ?_
    refine wpL_pure (.pointer (some ⟨b, 0, none⟩)) rfl (by kernel_rfl) ?_
    simp only [Act.put, List.setIfInBounds_toArray, List.set_cons_zero, List.set_cons_succ]
    refine wpL_pure (.pointer (some ⟨b, 0, none⟩)) rfl (by kernel_rfl) ?_
    simp only [Act.put, List.setIfInBounds_toArray, List.set_cons_zero, List.set_cons_succ]
    refine wpL_pure (.pointer (some ⟨b, 0, none⟩)) rfl (by kernel_rfl) ?_
    simp only [Act.put, List.setIfInBounds_toArray, List.set_cons_zero, List.set_cons_succ]
    refine wpL_pure (.slice a1 n1 c1) rfl (by kernel_rfl) ?_
    simp only [Act.put, List.setIfInBounds_toArray, List.set_cons_zero, List.set_cons_succ]
    refine wpL_call 31 #[.pointer (some ⟨b, 0, none⟩), .slice a1 n1 c1] rfl (by kernel_rfl) (((put_genK w2 b (putG none (enc n1)) ys a1 n1 c1 O2.out.1 (fun X hX => HR.out X (O2.out.2.1.trans (gb_below hX (Nat.le_refl _) (Nat.le_of_lt O2.out.1.lt)))) (by have := HN.out.2; omega))).mono fun e w3 ⟨he, q1, q2⟩ => ⟨.tuple #[], he, ?_⟩)
    simp only [Act.put, List.setIfInBounds_toArray, List.set_cons_zero, List.set_cons_succ]
    have O3 := Lib.hid (And.intro q1 (O2.out.2.trans q2))
    clear q1 q2 O2
    go_wp2_with fail
    go_end0
    refine ⟨rfl, ?_, O3.out.2⟩
    have := O3.out.1
    have LY := HY.out
    unfold textG
    rw [if_pos (by have := GT.out; omega)]
    exact this
  · have GT := Lib.hid hgt
    clear hgt
    go_enter Try.func23, Try.ntmps23
    go_upto_region 0 with (fail)
    refine wp_region_lit ?_
    refine wpL_pure (.slice a1 n1 c1) rfl (by kernel_rfl) ?_
    simp only [Act.put, List.setIfInBounds_toArray, List.set_cons_zero, List.set_cons_succ]
    refine wpL_pure (.int .i64 (n1 : Int)) rfl (by kernel_rfl) ?_
    simp only [Act.put, List.setIfInBounds_toArray, List.set_cons_zero, List.set_cons_succ]
    refine wpL_pure (.bool false) rfl (run_gti Try.underlying3 rfl rfl rfl (by have := GT.out; rw [decide_eq_false_iff_not]; omega)) ?_
    simp only [Act.put, List.setIfInBounds_toArray, List.set_cons_zero, List.set_cons_succ]
    have O1 : Hid (OutG w b st ∧ BK b w w) := Lib.hid ⟨HO.out, BK.refl _ _⟩
    go_upto_region 2 with (fail)
    refine wp_region_lit ?_
    refine wpL_pure (.pointer (some ⟨b, 0, none⟩)) rfl (by kernel_rfl) ?_
    simp only [Act.put, List.setIfInBounds_toArray, List.set_cons_zero, List.set_cons_succ]
    refine wpL_pure (.slice a1 n1 c1) rfl (by kernel_rfl) ?_
    simp only [Act.put, List.setIfInBounds_toArray, List.set_cons_zero, List.set_cons_succ]
    refine wpL_pure (.int .i64 (n1 : Int)) rfl (by kernel_rfl) ?_
    simp only [Act.put, List.setIfInBounds_toArray, List.set_cons_zero, List.set_cons_succ]
    refine wpL_pure (.int .u64 (n1 : Int)) rfl (run_convi Try.underlying3 Try.underlying33 rfl rfl _ (u64_in _ (by omega) (by have := HN.out.2; omega))) ?_
    simp only [Act.put, List.setIfInBounds_toArray, List.set_cons_zero, List.set_cons_succ]
    refine wpL_call 20 #[.pointer (some ⟨b, 0, none⟩), .int .u64 (n1 : Int)] rfl (by kernel_rfl) (((onum_genK w b n1 st O1.out.1 (by have := HN.out.2; omega))).mono fun e w2 ⟨he, q1, q2⟩ => ⟨.tuple #[], he, ?_⟩)
    simp only [Act.put, List.setIfInBounds_toArray, List.set_cons_zero, List.set_cons_succ]
    have O2 := Lib.hid (And.intro q1 (O1.out.2.trans q2))
    clear q1 q2 O1
    go_upto_region 3 with (fail)
    refine wp_region_lit ?_
    refine wpL_pure (.pointer (some ⟨b, 0, none⟩)) rfl (by kernel_rfl) ?_
    simp only [Act.put, List.setIfInBounds_toArray, List.set_cons_zero, List.set_cons_succ]
    refine wpL_pure (.pointer (some ⟨b, 0, none⟩)) rfl (by kernel_rfl) ?_
    simp only [Act.put, List.setIfInBounds_toArray, List.set_cons_zero, List.set_cons_succ]
    refine wpL_pure (.pointer (some ⟨b, 0, none⟩)) rfl (by kernel_rfl) ?_
    simp only [Act.put, List.setIfInBounds_toArray, List.set_cons_zero, List.set_cons_succ]
    refine wpL_pure (.slice a1 n1 c1) rfl (by kernel_rfl) ?_
    simp only [Act.put, List.setIfInBounds_toArray, List.set_cons_zero, List.set_cons_succ]
    refine wpL_call 31 #[.pointer (some ⟨b, 0, none⟩), .slice a1 n1 c1] rfl (by kernel_rfl) (((put_genK w2 b (putG st (enc n1)) ys a1 n1 c1 O2.out.1 (fun X hX => HR.out X (O2.out.2.1.trans (gb_below hX (Nat.le_refl _) (Nat.le_of_lt O2.out.1.lt)))) (by have := HN.out.2; omega))).mono fun e w3 ⟨he, q1, q2⟩ => ⟨.tuple #[], he, ?_⟩)
    simp only [Act.put, List.setIfInBounds_toArray, List.set_cons_zero, List.set_cons_succ]
    have O3 := Lib.hid (And.intro q1 (O2.out.2.trans q2))
    clear q1 q2 O2
    go_wp2_with fail
    go_end0
    refine ⟨rfl, ?_, O3.out.2⟩
    have := O3.out.1
    have LY := HY.out
    unfold textG
    rw [if_neg (by have := GT.out; omega), LY]
    rw [putG_putG] at this
    exact this
set_option maxHeartbeats 1000000 in
theorem oflag_genK (w : World) (b : Nat) (st : Option (List Int)) (fl : Bool) (h : OutG w b st) :
    Calls Try.prog 24 #[.pointer (some ⟨b, 0, none⟩), .bool fl] w fun e w' => e = .returned (.tuple #[]) ∧ OutG w' b (putG st [if fl = true then 1 else 0]) ∧ BK b w w' := by
  have HO := Lib.hid h
  clear h
  go_enter Try.func24, Try.ntmps24
  cases fl
  · go_upto_region 0 with (fail)
    refine wp_region_lit ?_
    refine wpL_pure (.bool false) rfl (by kernel_rfl) ?_
    simp only [Act.put, List.setIfInBounds_toArray, List.set_cons_zero, List.set_cons_succ]
    go_upto_region 2 with (fail)
    refine wp_region_lit ?_
    obtain ⟨w1, hw1⟩ : ∃ V, V = w.alloc (.cells #[.int .u8 0] 5) := ⟨_, rfl⟩
    have PU := Lib.hid (put_genK w1 b st [0] (some ⟨w.heap.size, 0, none⟩) 1 1 (by rw [hw1]; exact HO.out.below ((Below.refl _ _).alloc (Nat.le_refl _) _)) (fun X hX => Row.grown (by rw [hw1]; exact row_one w _ (by omega) (by omega)) hX (fun p hp => by cases hp; intro e; have := HO.out.lt; simp at e; omega)) (by omega))
    have BW : Hid (BK b w w1) := Lib.hid (by rw [hw1]; exact BK.alloc _ _ _ HO.out.lt)
    refine wpL_pure (.pointer (some ⟨b, 0, none⟩)) rfl (by kernel_rfl) ?_
    simp only [Act.put, List.setIfInBounds_toArray, List.set_cons_zero, List.set_cons_succ]
    refine wpL_pure (.pointer (some ⟨b, 0, none⟩)) rfl (by kernel_rfl) ?_
    simp only [Act.put, List.setIfInBounds_toArray, List.set_cons_zero, List.set_cons_succ]
    refine wpL_pure (.pointer (some ⟨b, 0, none⟩)) rfl (by kernel_rfl) ?_
    simp only [Act.put, List.setIfInBounds_toArray, List.set_cons_zero, List.set_cons_succ]
    refine wpL_value (.slice (some ⟨w.heap.size, 0, none⟩) 1 1) (w1) rfl (by rw [hw1]; kernel_rfl) ?_
    simp only [Act.put, List.setIfInBounds_toArray, List.set_cons_zero, List.set_cons_succ]
    refine wpL_call 31 #[.pointer (some ⟨b, 0, none⟩), .slice (some ⟨w.heap.size, 0, none⟩) 1 1] rfl (by kernel_rfl) ((PU.out).mono fun e w2 ⟨he, hO, hB⟩ => ⟨.tuple #[], he, ?_⟩)
    simp only [Act.put, List.setIfInBounds_toArray, List.set_cons_zero, List.set_cons_succ]
    have NX := Lib.hid (And.intro hO (BW.out.trans hB))
    clear hO hB PU hw1
    go_wp2_with fail
    go_end0
    exact ⟨rfl, NX.out⟩
  · go_upto_region 0 with (fail)
    refine wp_region_lit ?_
    refine wpL_pure (.bool true) rfl (by kernel_rfl) ?_
    simp only [Act.put, List.setIfInBounds_toArray, List.set_cons_zero, List.set_cons_succ]
    go_upto_region 1 with (fail)
    refine wp_region_lit ?_
    obtain ⟨w1, hw1⟩ : ∃ V, V = w.alloc (.cells #[.int .u8 1] 5) := ⟨_, rfl⟩
    have PU := Lib.hid (put_genK w1 b st [1] (some ⟨w.heap.size, 0, none⟩) 1 1 (by rw [hw1]; exact HO.out.below ((Below.refl _ _).alloc (Nat.le_refl _) _)) (fun X hX => Row.grown (by rw [hw1]; exact row_one w _ (by omega) (by omega)) hX (fun p hp => by cases hp; intro e; have := HO.out.lt; simp at e; omega)) (by omega))
    have BW : Hid (BK b w w1) := Lib.hid (by rw [hw1]; exact BK.alloc _ _ _ HO.out.lt)
    refine wpL_pure (.pointer (some ⟨b, 0, none⟩)) rfl (by kernel_rfl) ?_
    simp only [Act.put, List.setIfInBounds_toArray, List.set_cons_zero, List.set_cons_succ]
    refine wpL_pure (.pointer (some ⟨b, 0, none⟩)) rfl (by kernel_rfl) ?_
    simp only [Act.put, List.setIfInBounds_toArray, List.set_cons_zero, List.set_cons_succ]
    refine wpL_pure (.pointer (some ⟨b, 0, none⟩)) rfl (by kernel_rfl) ?_
    simp only [Act.put, List.setIfInBounds_toArray, List.set_cons_zero, List.set_cons_succ]
    refine wpL_value (.slice (some ⟨w.heap.size, 0, none⟩) 1 1) (w1) rfl (by rw [hw1]; kernel_rfl) ?_
    simp only [Act.put, List.setIfInBounds_toArray, List.set_cons_zero, List.set_cons_succ]
    refine wpL_call 31 #[.pointer (some ⟨b, 0, none⟩), .slice (some ⟨w.heap.size, 0, none⟩) 1 1] rfl (by kernel_rfl) ((PU.out).mono fun e w2 ⟨he, hO, hB⟩ => ⟨.tuple #[], he, ?_⟩)
    simp only [Act.put, List.setIfInBounds_toArray, List.set_cons_zero, List.set_cons_succ]
    have NX := Lib.hid (And.intro hO (BW.out.trans hB))
    clear hO hB PU hw1
    go_wp2_with fail
    refine bodyPost_ret (results_none rfl _ _ _) rfl ?_
    exact ⟨rfl, NX.out⟩
set_option maxHeartbeats 1000000 in
theorem lawput_genK (w : World) (b : Nat) (st : Option (List Int)) (q X : Nat) (a : Option Addr) (n c : Nat) (bs : List Int) (h : OutG w b st) (hr : ∀ X, Below b w X → Row X a n bs) (hn : n ≤ 4611686018427387904) (hq : q < 256) (hX : X < 18446744073709551616) :
    Calls Try.prog 10 #[.pointer (some ⟨b, 0, none⟩), .agg #[.int .u8 (q : Int), .int .u64 (X : Int), .slice a n c]] w fun e w' => e = .returned (.tuple #[]) ∧ OutG w' b (partG st q X bs) ∧ BK b w w' := by
  have QL := Lib.hid hq
  have XL := Lib.hid hX
  have HN := Lib.hid hn
  obtain ⟨W0, hW0⟩ : ∃ V, V = w.alloc (.cells #[.int .u8 (q : Int), .int .u64 (X : Int), .slice a n c] 35) := ⟨_, rfl⟩
  have HO : Hid (OutG W0 b st) := Lib.hid (by rw [hW0]; exact h.below ((Below.refl _ _).alloc (Nat.le_refl _) _))
  have HB : Hid (Blk W0 w.heap.size 35 #[.int .u8 (q : Int), .int .u64 (X : Int), .slice a n c]) := Lib.hid (by rw [hW0]; exact Blk.new _ _ _)
  have GB : Hid (BK b w W0) := Lib.hid (by rw [hW0]; exact BK.alloc _ _ _ h.lt)
  have HR : Hid (∀ X, Below b W0 X → Row X a n bs) := Lib.hid (fun X hX => hr X (GB.out.1.trans hX))
  obtain ⟨g1, hg1⟩ : ∃ q, w.heap.size = q := ⟨_, rfl⟩
  rw [hg1] at HB
  clear h hX hq hn hr
  have hq : q % 4 = 0 ∨ q % 4 = 1 ∨ q % 4 = 2 ∨ q % 4 = 3 := by omega
  rcases hq with hq | hq | hq | hq
  · have HQ : Hid (q % 4 = 0) := Lib.hid hq
    clear hq
    go_enter Try.func10, Try.ntmps10
    go_upto_region 1 with (fail)
    try rw [← hW0]
    try rw [hg1]
    clear hW0 hg1
    refine wp_region_lit ?_
    refine wpL_pure (.pointer (some ⟨g1, 0, none⟩)) rfl (by kernel_rfl) ?_
    simp only [Act.put, List.setIfInBounds_toArray, List.set_cons_zero, List.set_cons_succ]
    refine wpL_pure (.int .u8 (q : Int)) rfl (run_load_one _ _ _ 5 _ _ rfl (g1) (0) rfl (by rw [HB.out.cell]; rfl) (by kernel_rfl)) ?_
    simp only [Act.put, List.setIfInBounds_toArray, List.set_cons_zero, List.set_cons_succ]
    refine wpL_pure (.int .u8 ((q % 4 : Nat) : Int)) rfl (run_rem4 _ _ _ _ _ q rfl rfl rfl QL.out) ?_
    simp only [Act.put, List.setIfInBounds_toArray, List.set_cons_zero, List.set_cons_succ]
    go_upto_region 3 with (fail)
    refine wp_region_lit ?_
    refine wpL_pure (.bool true) rfl (run_eqi Try.underlying5 rfl rfl rfl (by have := HQ.out; rw [decide_eq_true_eq]; omega)) ?_
    simp only [Act.put, List.setIfInBounds_toArray, List.set_cons_zero, List.set_cons_succ]
    refine wpL_pure (.bool true) rfl (by kernel_rfl) ?_
    simp only [Act.put, List.setIfInBounds_toArray, List.set_cons_zero, List.set_cons_succ]
    go_upto_region 4 with (fail)
    refine wp_region_lit ?_
    refine wpL_pure (.pointer (some ⟨b, 0, none⟩)) rfl (by kernel_rfl) ?_
    simp only [Act.put, List.setIfInBounds_toArray, List.set_cons_zero, List.set_cons_succ]
    refine wpL_pure (.pointer (some ⟨g1, 1, none⟩)) rfl (by kernel_rfl) ?_
    simp only [Act.put, List.setIfInBounds_toArray, List.set_cons_zero, List.set_cons_succ]
    refine wpL_pure (.int .u64 (X : Int)) rfl (run_load_one _ _ _ 33 _ _ rfl (g1) (1) rfl (by rw [HB.out.cell]; rfl) (by kernel_rfl)) ?_
    simp only [Act.put, List.setIfInBounds_toArray, List.set_cons_zero, List.set_cons_succ]
    refine wpL_call 20 #[.pointer (some ⟨b, 0, none⟩), .int .u64 (X : Int)] rfl (by kernel_rfl) (((onum_genK W0 b X st HO.out XL.out)).mono fun e w1 ⟨he, q1, q2⟩ => ⟨.tuple #[], he, ?_⟩)
    simp only [Act.put, List.setIfInBounds_toArray, List.set_cons_zero, List.set_cons_succ]
    have Q := Lib.hid (And.intro q1 q2)
    clear q1 q2
    go_wp2_with fail
    go_end0
    refine ⟨rfl, ?_, GB.out.trans Q.out.2⟩
    unfold partG
    rw [if_pos HQ.out]
    exact Q.out.1
  · have HQ : Hid (q % 4 = 1) := Lib.hid hq
    clear hq
    go_enter Try.func10, Try.ntmps10
    go_upto_region 1 with (fail)
    try rw [← hW0]
    try rw [hg1]
    clear hW0 hg1
    refine wp_region_lit ?_
    refine wpL_pure (.pointer (some ⟨g1, 0, none⟩)) rfl (by kernel_rfl) ?_
    simp only [Act.put, List.setIfInBounds_toArray, List.set_cons_zero, List.set_cons_succ]
    refine wpL_pure (.int .u8 (q : Int)) rfl (run_load_one _ _ _ 5 _ _ rfl (g1) (0) rfl (by rw [HB.out.cell]; rfl) (by kernel_rfl)) ?_
    simp only [Act.put, List.setIfInBounds_toArray, List.set_cons_zero, List.set_cons_succ]
    refine wpL_pure (.int .u8 ((q % 4 : Nat) : Int)) rfl (run_rem4 _ _ _ _ _ q rfl rfl rfl QL.out) ?_
    simp only [Act.put, List.setIfInBounds_toArray, List.set_cons_zero, List.set_cons_succ]
    go_upto_region 3 with (fail)
    refine wp_region_lit ?_
    refine wpL_pure (.bool false) rfl (run_eqi Try.underlying5 rfl rfl rfl (by have := HQ.out; rw [decide_eq_false_iff_not]; omega)) ?_
    simp only [Act.put, List.setIfInBounds_toArray, List.set_cons_zero, List.set_cons_succ]
    refine wpL_pure (.bool false) rfl (by kernel_rfl) ?_
    simp only [Act.put, List.setIfInBounds_toArray, List.set_cons_zero, List.set_cons_succ]
    go_upto_region 5 with (fail)
    refine wp_region_lit ?_
    refine wpL_pure (.bool true) rfl (run_eqi Try.underlying5 rfl rfl rfl (by have := HQ.out; rw [decide_eq_true_eq]; omega)) ?_
    simp only [Act.put, List.setIfInBounds_toArray, List.set_cons_zero, List.set_cons_succ]
    refine wpL_pure (.bool true) rfl (by kernel_rfl) ?_
    simp only [Act.put, List.setIfInBounds_toArray, List.set_cons_zero, List.set_cons_succ]
    go_upto_region 6 with (fail)
    refine wp_region_lit ?_
    refine wpL_pure (.pointer (some ⟨b, 0, none⟩)) rfl (by kernel_rfl) ?_
    simp only [Act.put, List.setIfInBounds_toArray, List.set_cons_zero, List.set_cons_succ]
    refine wpL_pure (.pointer (some ⟨g1, 2, none⟩)) rfl (by kernel_rfl) ?_
    simp only [Act.put, List.setIfInBounds_toArray, List.set_cons_zero, List.set_cons_succ]
    refine wpL_pure (.slice a n c) rfl (run_load_one _ _ _ 25 _ _ rfl (g1) (2) rfl (by rw [HB.out.cell]; rfl) (by kernel_rfl)) ?_
    simp only [Act.put, List.setIfInBounds_toArray, List.set_cons_zero, List.set_cons_succ]
    refine wpL_call 23 #[.pointer (some ⟨b, 0, none⟩), .slice a n c] rfl (by kernel_rfl) (((otext_genK W0 b st bs a n c HO.out HR.out HN.out)).mono fun e w1 ⟨he, q1, q2⟩ => ⟨.tuple #[], he, ?_⟩)
    simp only [Act.put, List.setIfInBounds_toArray, List.set_cons_zero, List.set_cons_succ]
    have Q := Lib.hid (And.intro q1 q2)
    clear q1 q2
    go_wp2_with fail
    go_end0
    refine ⟨rfl, ?_, GB.out.trans Q.out.2⟩
    unfold partG
    rw [if_neg (by have := HQ.out; omega), if_pos HQ.out]
    exact Q.out.1
  · have HQ : Hid (q % 4 = 2) := Lib.hid hq
    clear hq
    go_enter Try.func10, Try.ntmps10
    go_upto_region 1 with (fail)
    try rw [← hW0]
    try rw [hg1]
    clear hW0 hg1
    refine wp_region_lit ?_
    refine wpL_pure (.pointer (some ⟨g1, 0, none⟩)) rfl (by kernel_rfl) ?_
    simp only [Act.put, List.setIfInBounds_toArray, List.set_cons_zero, List.set_cons_succ]
    refine wpL_pure (.int .u8 (q : Int)) rfl (run_load_one _ _ _ 5 _ _ rfl (g1) (0) rfl (by rw [HB.out.cell]; rfl) (by kernel_rfl)) ?_
    simp only [Act.put, List.setIfInBounds_toArray, List.set_cons_zero, List.set_cons_succ]
    refine wpL_pure (.int .u8 ((q % 4 : Nat) : Int)) rfl (run_rem4 _ _ _ _ _ q rfl rfl rfl QL.out) ?_
    simp only [Act.put, List.setIfInBounds_toArray, List.set_cons_zero, List.set_cons_succ]
    go_upto_region 3 with (fail)
    refine wp_region_lit ?_
    refine wpL_pure (.bool false) rfl (run_eqi Try.underlying5 rfl rfl rfl (by have := HQ.out; rw [decide_eq_false_iff_not]; omega)) ?_
    simp only [Act.put, List.setIfInBounds_toArray, List.set_cons_zero, List.set_cons_succ]
    refine wpL_pure (.bool false) rfl (by kernel_rfl) ?_
    simp only [Act.put, List.setIfInBounds_toArray, List.set_cons_zero, List.set_cons_succ]
    go_upto_region 5 with (fail)
    refine wp_region_lit ?_
    refine wpL_pure (.bool false) rfl (run_eqi Try.underlying5 rfl rfl rfl (by have := HQ.out; rw [decide_eq_false_iff_not]; omega)) ?_
    simp only [Act.put, List.setIfInBounds_toArray, List.set_cons_zero, List.set_cons_succ]
    refine wpL_pure (.bool false) rfl (by kernel_rfl) ?_
    simp only [Act.put, List.setIfInBounds_toArray, List.set_cons_zero, List.set_cons_succ]
    go_upto_region 7 with (fail)
    refine wp_region_lit ?_
    refine wpL_pure (.bool true) rfl (run_eqi Try.underlying5 rfl rfl rfl (by have := HQ.out; rw [decide_eq_true_eq]; omega)) ?_
    simp only [Act.put, List.setIfInBounds_toArray, List.set_cons_zero, List.set_cons_succ]
    refine wpL_pure (.bool true) rfl (by kernel_rfl) ?_
    simp only [Act.put, List.setIfInBounds_toArray, List.set_cons_zero, List.set_cons_succ]
    go_upto_region 8 with (fail)
    refine wp_region_lit ?_
    refine wpL_pure (.pointer (some ⟨b, 0, none⟩)) rfl (by kernel_rfl) ?_
    simp only [Act.put, List.setIfInBounds_toArray, List.set_cons_zero, List.set_cons_succ]
    refine wpL_pure (.pointer (some ⟨g1, 2, none⟩)) rfl (by kernel_rfl) ?_
    simp only [Act.put, List.setIfInBounds_toArray, List.set_cons_zero, List.set_cons_succ]
    refine wpL_pure (.slice a n c) rfl (run_load_one _ _ _ 25 _ _ rfl (g1) (2) rfl (by rw [HB.out.cell]; rfl) (by kernel_rfl)) ?_
    simp only [Act.put, List.setIfInBounds_toArray, List.set_cons_zero, List.set_cons_succ]
    refine wpL_call 22 #[.pointer (some ⟨b, 0, none⟩), .slice a n c] rfl (by kernel_rfl) (((oraw_genK W0 b st bs a n c HO.out (fun X hX => HR.out X (gb_below hX (Nat.le_refl _) (Nat.le_of_lt HO.out.lt))) HN.out)).mono fun e w1 ⟨he, q1, q2⟩ => ⟨.tuple #[], he, ?_⟩)
    simp only [Act.put, List.setIfInBounds_toArray, List.set_cons_zero, List.set_cons_succ]
    have Q := Lib.hid (And.intro q1 q2)
    clear q1 q2
    go_wp2_with fail
    go_end0
    refine ⟨rfl, ?_, GB.out.trans Q.out.2⟩
    unfold partG
    rw [if_neg (by have := HQ.out; omega), if_neg (by have := HQ.out; omega), if_pos HQ.out]
    exact Q.out.1
  · have HQ : Hid (q % 4 = 3) := Lib.hid hq
    clear hq
    go_enter Try.func10, Try.ntmps10
    go_upto_region 1 with (fail)
    try rw [← hW0]
    try rw [hg1]
    clear hW0 hg1
    refine wp_region_lit ?_
    refine wpL_pure (.pointer (some ⟨g1, 0, none⟩)) rfl (by kernel_rfl) ?_
    simp only [Act.put, List.setIfInBounds_toArray, List.set_cons_zero, List.set_cons_succ]
    refine wpL_pure (.int .u8 (q : Int)) rfl (run_load_one _ _ _ 5 _ _ rfl (g1) (0) rfl (by rw [HB.out.cell]; rfl) (by kernel_rfl)) ?_
    simp only [Act.put, List.setIfInBounds_toArray, List.set_cons_zero, List.set_cons_succ]
    refine wpL_pure (.int .u8 ((q % 4 : Nat) : Int)) rfl (run_rem4 _ _ _ _ _ q rfl rfl rfl QL.out) ?_
    simp only [Act.put, List.setIfInBounds_toArray, List.set_cons_zero, List.set_cons_succ]
    go_upto_region 3 with (fail)
    refine wp_region_lit ?_
    refine wpL_pure (.bool false) rfl (run_eqi Try.underlying5 rfl rfl rfl (by have := HQ.out; rw [decide_eq_false_iff_not]; omega)) ?_
    simp only [Act.put, List.setIfInBounds_toArray, List.set_cons_zero, List.set_cons_succ]
    refine wpL_pure (.bool false) rfl (by kernel_rfl) ?_
    simp only [Act.put, List.setIfInBounds_toArray, List.set_cons_zero, List.set_cons_succ]
    go_upto_region 5 with (fail)
    refine wp_region_lit ?_
    refine wpL_pure (.bool false) rfl (run_eqi Try.underlying5 rfl rfl rfl (by have := HQ.out; rw [decide_eq_false_iff_not]; omega)) ?_
    simp only [Act.put, List.setIfInBounds_toArray, List.set_cons_zero, List.set_cons_succ]
    refine wpL_pure (.bool false) rfl (by kernel_rfl) ?_
    simp only [Act.put, List.setIfInBounds_toArray, List.set_cons_zero, List.set_cons_succ]
    go_upto_region 7 with (fail)
    refine wp_region_lit ?_
    refine wpL_pure (.bool false) rfl (run_eqi Try.underlying5 rfl rfl rfl (by have := HQ.out; rw [decide_eq_false_iff_not]; omega)) ?_
    simp only [Act.put, List.setIfInBounds_toArray, List.set_cons_zero, List.set_cons_succ]
    refine wpL_pure (.bool false) rfl (by kernel_rfl) ?_
    simp only [Act.put, List.setIfInBounds_toArray, List.set_cons_zero, List.set_cons_succ]
    obtain ⟨fl, hfl⟩ : ∃ z, decide (X % 2 = 1) = z := ⟨_, rfl⟩
    have FL := Lib.hid hfl
    clear hfl
    go_upto_region 2 with (fail)
    refine wp_region_lit ?_
    refine wpL_pure (.pointer (some ⟨b, 0, none⟩)) rfl (by kernel_rfl) ?_
    simp only [Act.put, List.setIfInBounds_toArray, List.set_cons_zero, List.set_cons_succ]
    refine wpL_pure (.pointer (some ⟨g1, 1, none⟩)) rfl (by kernel_rfl) ?_
    simp only [Act.put, List.setIfInBounds_toArray, List.set_cons_zero, List.set_cons_succ]
    refine wpL_pure (.int .u64 (X : Int)) rfl (run_load_one _ _ _ 33 _ _ rfl (g1) (1) rfl (by rw [HB.out.cell]; rfl) (by kernel_rfl)) ?_
    simp only [Act.put, List.setIfInBounds_toArray, List.set_cons_zero, List.set_cons_succ]
    refine wpL_pure (.int .u64 ((X % 2 : Nat) : Int)) rfl (run_rem2 _ _ _ _ X rfl rfl XL.out) ?_
    simp only [Act.put, List.setIfInBounds_toArray, List.set_cons_zero, List.set_cons_succ]
    refine wpL_pure (.bool fl) rfl (run_eqi Try.underlying33 rfl rfl rfl (by have := FL.out; rw [← this]; apply decide_eq_decide.mpr; omega)) ?_
    simp only [Act.put, List.setIfInBounds_toArray, List.set_cons_zero, List.set_cons_succ]
    refine wpL_call 24 #[.pointer (some ⟨b, 0, none⟩), .bool fl] rfl (by kernel_rfl) (((oflag_genK W0 b st fl HO.out)).mono fun e w1 ⟨he, q1, q2⟩ => ⟨.tuple #[], he, ?_⟩)
    simp only [Act.put, List.setIfInBounds_toArray, List.set_cons_zero, List.set_cons_succ]
    have Q := Lib.hid (And.intro q1 q2)
    clear q1 q2
    go_wp2_with fail
    go_end0
    refine ⟨rfl, ?_, GB.out.trans Q.out.2⟩
    unfold partG
    rw [if_neg (by have := HQ.out; omega), if_neg (by have := HQ.out; omega), if_neg (by have := HQ.out; omega)]
    have h1 := Q.out.1
    have h2 := FL.out
    cases fl
    · rw [decide_eq_false_iff_not] at h2
      rw [show X % 2 = 0 by omega]
      exact h1
    · rw [decide_eq_true_eq] at h2
      rw [h2]
      exact h1
end Go.Proofs.Yteblaknbehfkgaa
