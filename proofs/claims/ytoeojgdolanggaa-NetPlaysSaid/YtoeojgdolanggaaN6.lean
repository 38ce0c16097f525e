import Derived.Test.YtoeojgdolanggaaN5
namespace Go.Proofs.Ytoeojgdolanggaa
open Go Go.RowKit
theorem gb_row {w X : World} {r : Option Nat} (h : w.grownBy X r) (g : Nat) (hg : w.heap.size ≤ g) (cs : Array Value) : w.grownBy (X.setRow g cs) r :=
  ⟨h.os, h.tape, h.output, Nat.le_trans h.size (by simp), fun k hk hr => (setRow_other _ _ _ _ (by omega)).trans (h.block k hk hr)⟩
theorem box_frame (W1 : World) (f t : Int) (u : Value) :
    Blk ((W1.alloc (.cells #[.int .i64 0, .int .i64 0, .slice none 0 0] 43)).setRow W1.heap.size #[.int .i64 f, .int .i64 t, u]) W1.heap.size 43 #[.int .i64 f, .int .i64 t, u] ∧ Below W1.heap.size W1 ((W1.alloc (.cells #[.int .i64 0, .int .i64 0, .slice none 0 0] 43)).setRow W1.heap.size #[.int .i64 f, .int .i64 t, u]) :=
  ⟨setRow_heap _ _ _ _ _ _ (Blk.new _ _ _), below_setRow ((Below.refl _ _).alloc (Nat.le_refl _) _) (Nat.le_refl _) _⟩
theorem own_ne {W : World} {g4 B t : Nat} {cs : Array Value} {v : Value} {ys : List Int} (h1 : Blk W g4 t cs) (ht : t ≠ 5) (ho : Own W B v ys) : v.ownBlock ≠ some g4 := by
  intro e
  rcases ho.form with ⟨e', _⟩ | ⟨g, cap, cur, e', _, hg', _⟩
  · rw [e'] at e; cases e
  · rw [e'] at e
    simp [Value.ownBlock] at e
    subst e
    unfold Blk at h1 hg'
    rw [h1] at hg'
    simp at hg'
    exact ht hg'.2
theorem blk_ne {W : World} {a b t t' : Nat} {cs cs' : Array Value} (h : Blk W a t cs) (h' : Blk W b t' cs') (ht : t ≠ t') : a ≠ b := by
  rintro rfl
  unfold Blk at h h'
  rw [h] at h'
  simp at h'
  exact ht h'.2
theorem res_frame {W : World} {b G4 B : Nat} {s u0 : Value} {ls : List Ltr} {xs : List Int} (f t : Int) (u : Value) (h1 : Blk W G4 43 #[.int .i64 0, .int .i64 0, .slice none 0 0]) (h2 : NetSt W b s ls) (h3 : Own W B u0 xs) (hs : s.ownBlock ≠ some G4) :
    Blk (W.setRow G4 #[.int .i64 f, .int .i64 t, u]) G4 43 #[.int .i64 f, .int .i64 t, u] ∧ NetSt (W.setRow G4 #[.int .i64 f, .int .i64 t, u]) b s ls ∧ Own (W.setRow G4 #[.int .i64 f, .int .i64 t, u]) B u0 xs := by
  have gb : W.grownBy (W.setRow G4 #[.int .i64 f, .int .i64 t, u]) (some G4) := ⟨rfl, rfl, rfl, by simp, fun k _ hr => setRow_other _ _ _ _ (fun e => hr (congrArg some e))⟩
  have nb : b ≠ G4 := blk_ne h2.1 h1 (by omega)
  exact ⟨setRow_heap _ _ _ _ _ _ h1, ⟨h2.1.grown gb (by simpa using nb), h2.2.1.grown gb (.inr hs), fun l hl => ⟨(h2.2.2 l hl).1.grown gb (.inr (own_ne h1 (by omega) (h2.2.2 l hl).1)), (h2.2.2 l hl).2⟩⟩, h3.grown gb (.inr (own_ne h1 (by omega) h3))⟩
theorem take_frame {w W3 W4 : World} {b G4 g6 B3 k : Nat} {s v3 v4 u : Value} {ls : List Ltr} {l : Ltr}
    (h : Blk W3 g6 43 #[.int .i64 l.f, .int .i64 l.t, u] ∧ Own W3 (G4 + 1) u l.xs ∧ NetSt W3 b s ls ∧ w.grownBy W3 (some b) ∧ Blk W3 G4 43 #[.int .i64 0, .int .i64 0, .slice none 0 0] ∧ LRow W3 B3 v3 ls.length (flat ls) ∧ g6 < B3 ∧ G4 < B3 ∧ b < B3 ∧ w.heap.size ≤ B3)
    (q1 : LRow W4 B3 v4 (ls.length - 1) ((flat ls).take (k * 3) ++ (flat ls).drop ((k + 1) * 3))) (q2 : W3.grownBy W4 v3.ownBlock) (hk : k < ls.length) :
    Blk (W4.setCell ⟨b, 0, none⟩ v4) g6 43 #[.int .i64 l.f, .int .i64 l.t, u] ∧ Own (W4.setCell ⟨b, 0, none⟩ v4) (G4 + 1) u l.xs ∧ NetSt (W4.setCell ⟨b, 0, none⟩ v4) b v4 (ls.eraseIdx k) ∧ w.grownBy (W4.setCell ⟨b, 0, none⟩ v4) (some b) ∧ Blk (W4.setCell ⟨b, 0, none⟩ v4) G4 43 #[.int .i64 0, .int .i64 0, .slice none 0 0] ∧ v4.ownBlock ≠ some G4 ∧ ∀ g, v4.ownBlock = some g → w.heap.size ≤ g := by
  obtain ⟨a1, a2, a3, a4, a5, a6, l6, l4, lb, lw⟩ := h
  have lo : ∀ j, v3.ownBlock = some j → B3 ≤ j := fun j hj => (a6.lt j hj).1
  have c1 : Blk W4 g6 43 #[.int .i64 l.f, .int .i64 l.t, u] := a1.grown q2 (fun e => by have := lo _ e.symm; omega)
  have c5 : Blk W4 G4 43 #[.int .i64 0, .int .i64 0, .slice none 0 0] := a5.grown q2 (fun e => by have := lo _ e.symm; omega)
  have cb : Blk W4 b 56 #[s] := a3.1.grown q2 (fun e => by have := lo _ e.symm; omega)
  have cu : Own W4 (G4 + 1) u l.xs := a2.grown q2 (kinds_ne a6 a2)
  have cm : ∀ m ∈ ls, Own W4 (b + 1) m.v m.xs ∧ m.xs.length ≤ 16384 := fun m hm => ⟨(a3.2.2 m hm).1.grown q2 (kinds_ne a6 (a3.2.2 m hm).1), (a3.2.2 m hm).2⟩
  have e : flat (ls.eraseIdx k) = (flat ls).take (k * 3) ++ (flat ls).drop ((k + 1) * 3) := by rw [List.eraseIdx_eq_take_drop_succ, flat_append, flat_take, flat_drop]
  have hl : (ls.eraseIdx k).length = ls.length - 1 := by rw [List.length_eraseIdx, if_pos hk]
  have gw : w.grownBy W4 (some b) := ⟨q2.os.trans a4.os, q2.tape.trans a4.tape, q2.output.trans a4.output, Nat.le_trans a4.size q2.size, fun j hj hr => (q2.block j (Nat.lt_of_lt_of_le hj a4.size) (fun e => by have := lo _ e.symm; omega)).trans (a4.block j hj hr)⟩
  have n6 : g6 ≠ b := blk_ne c1 cb (by omega)
  have n4 : G4 ≠ b := blk_ne c5 cb (by omega)
  refine ⟨c1.other _ _ n6, cu.other _ _ (own_ne cb (by omega) cu), ⟨Blk.set (l := [s]) cb 0 v4, ?_, fun m hm => ⟨(cm m (List.mem_of_mem_eraseIdx hm)).1.other _ _ (own_ne cb (by omega) (cm m (List.mem_of_mem_eraseIdx hm)).1), (cm m (List.mem_of_mem_eraseIdx hm)).2⟩⟩, gb_set gw _ _, c5.other _ _ n4, fun e => (by have := (q1.lt _ e).1; omega), fun g hg => by have := (q1.lt _ hg).1; omega⟩
  rw [hl, e]
  exact (q1.mono (by omega)).other _ _ (fun e => by have := (q1.lt b e).1; omega)
def TakeOk (w : World) (b : Nat) (i : Int) (ls : List Ltr) (e : Ending) (w' : World) : Prop :=
  ∃ l v s', ls[plc i ls.length]? = some l ∧ e = .returned (.tuple #[.agg #[.int .i64 l.f, .int .i64 l.t, v], .bool true]) ∧ Own w' w.heap.size v l.xs ∧ NetSt w' b s' (ls.eraseIdx (plc i ls.length)) ∧ w.grownBy w' (some b) ∧ ∀ g, s'.ownBlock = some g → w.heap.size ≤ g
set_option maxHeartbeats 1000000 in
theorem take_any (w : World) (b : Nat) (i : Int) (s : Value) (ls : List Ltr) (h : NetSt w b s ls) (hn : 0 < ls.length) (h3 : ls.length ≤ 300) : Calls Try.prog 22 #[.pointer (some ⟨b, 0, none⟩), .int .i64 i] w (TakeOk w b i ls) := by
  obtain ⟨w1, hw1⟩ : ∃ V, V = w.alloc (.cells #[.int .i64 0, .int .i64 0, .slice none 0 0] 43) := ⟨_, rfl⟩
  obtain ⟨G4, hg4⟩ : ∃ q, w.heap.size = q := ⟨_, rfl⟩
  have F0 : Hid (NetSt w1 b s ls ∧ Blk w1 G4 43 #[.int .i64 0, .int .i64 0, .slice none 0 0] ∧ w.grownBy w1 (some b) ∧ G4 + 1 ≤ w1.heap.size) := Lib.hid (by
    rw [hw1, ← hg4]
    have hb : Below w.heap.size w (w.alloc (.cells #[.int .i64 0, .int .i64 0, .slice none 0 0] 43)) := (Below.refl _ _).alloc (Nat.le_refl _) _
    exact ⟨h.below hb, Blk.new _ _ _, gb_of hb _, by simp⟩)
  have AT := Lib.hid (at_any w1 b i s ls F0.out.1 hn h3)
  have HN := Lib.hid hn
  have HN3 := Lib.hid h3
  have GW : Hid (w.heap.size ≤ G4) := Lib.hid (by omega)
  clear h hn h3
  go_enter Try.func22, Try.ntmps22
  go_upto_region 1 with (fail)
  try rw [← hw1]
  try rw [hg4]
  clear hw1 hg4
  go_upto_region 1 with (fail)
  refine wp_region_lit ?_
  refine wpL_pure (.pointer (some ⟨b, 0, none⟩)) rfl (by kernel_rfl) ?_
  simp only [Act.put, List.setIfInBounds_toArray, List.set_cons_zero, List.set_cons_succ]
  refine wpL_pure (.int .i64 i) rfl (by kernel_rfl) ?_
  simp only [Act.put, List.setIfInBounds_toArray, List.set_cons_zero, List.set_cons_succ]
  refine wpL_call 27 #[.pointer (some ⟨b, 0, none⟩), .int .i64 i] rfl (by kernel_rfl) ((AT.out).mono fun e W1 ⟨l, u, hl, he, hu, hs, hb⟩ => ⟨.tuple #[.agg #[.int .i64 l.f, .int .i64 l.t, u], .bool true], he, ?_⟩)
  simp only [Act.put, List.setIfInBounds_toArray, List.set_cons_zero, List.set_cons_succ]
  have ONEU : u.oneCell' = true := by obtain ⟨a, c, e⟩ := hu.slice; rw [e]; rfl
  have HL := Lib.hid hl
  have A1 : Hid (Own W1 (G4 + 1) u l.xs ∧ NetSt W1 b s ls ∧ w.grownBy W1 (some b) ∧ Blk W1 G4 43 #[.int .i64 0, .int .i64 0, .slice none 0 0]) := Lib.hid ⟨hu.mono F0.out.2.2.2, hs, gb_trans F0.out.2.2.1 (gb_of hb _), F0.out.2.1.below hb⟩
  clear hu hs hb hl AT F0
  refine wpL_pure (.tuple #[.agg #[.int .i64 l.f, .int .i64 l.t, u], .bool true]) rfl (by kernel_rfl) ?_
  simp only [Act.put, List.setIfInBounds_toArray, List.set_cons_zero, List.set_cons_succ]
  refine wpL_pure (.agg #[.int .i64 l.f, .int .i64 l.t, u]) rfl (by kernel_rfl) ?_
  simp only [Act.put, List.setIfInBounds_toArray, List.set_cons_zero, List.set_cons_succ]
  refine wpL_pure (.bool true) rfl (by kernel_rfl) ?_
  simp only [Act.put, List.setIfInBounds_toArray, List.set_cons_zero, List.set_cons_succ]
  have BX := Lib.hid (box_frame W1 l.f l.t u)
  obtain ⟨W2, hW2⟩ : ∃ V, V = (W1.alloc (.cells #[.int .i64 0, .int .i64 0, .slice none 0 0] 43)).setRow W1.heap.size #[.int .i64 l.f, .int .i64 l.t, u] := ⟨_, rfl⟩
  rw [← hW2] at BX
  refine wpL_value (.pointer (some ⟨W1.heap.size, 0, none⟩)) (W1.alloc (.cells #[.int .i64 0, .int .i64 0, .slice none 0 0] 43)) rfl (by kernel_rfl) ?_
  simp only [Act.put, List.setIfInBounds_toArray, List.set_cons_zero, List.set_cons_succ]
  refine wpList_store_row rfl 43 _ _ rfl (W1.heap.size) (#[.int .i64 l.f, .int .i64 l.t, u]) rfl rfl _ _ (Blk.new W1 43 _) (by kernel_rfl) rfl (all3 _ _ _ ONEU) ?_
  simp only [Act.put, List.setIfInBounds_toArray, List.set_cons_zero, List.set_cons_succ]
  rw [← hW2]
  have A2 : Hid (Blk W2 W1.heap.size 43 #[.int .i64 l.f, .int .i64 l.t, u] ∧ Own W2 (G4 + 1) u l.xs ∧ NetSt W2 b s ls ∧ w.grownBy W2 (some b) ∧ Blk W2 G4 43 #[.int .i64 0, .int .i64 0, .slice none 0 0]) := Lib.hid ⟨BX.out.1, A1.out.1.below BX.out.2, A1.out.2.1.below BX.out.2, gb_trans A1.out.2.2.1 (gb_of BX.out.2 _), A1.out.2.2.2.below BX.out.2⟩
  clear BX A1 hW2
  generalize W1.heap.size = g6 at A2 ⊢
  refine wpL_pure (.bool true) rfl (by kernel_rfl) ?_
  simp only [Act.put, List.setIfInBounds_toArray, List.set_cons_zero, List.set_cons_succ]
  go_upto_region 2 with (fail)
  refine wp_region_lit ?_
  refine wpL_pure (.bool true) rfl (by kernel_rfl) ?_
  simp only [Act.put, List.setIfInBounds_toArray, List.set_cons_zero, List.set_cons_succ]
  go_upto_region 3 with (fail)
  refine wp_region_lit ?_
  refine wpL_pure (.pointer (some ⟨b, 0, none⟩)) rfl (by kernel_rfl) ?_
  simp only [Act.put, List.setIfInBounds_toArray, List.set_cons_zero, List.set_cons_succ]
  refine wpL_pure (.int .i64 i) rfl (by kernel_rfl) ?_
  simp only [Act.put, List.setIfInBounds_toArray, List.set_cons_zero, List.set_cons_succ]
  refine wpL_call 31 #[.pointer (some ⟨b, 0, none⟩), .int .i64 i] rfl (by kernel_rfl) ((place_any W2 b i s ls A2.out.2.2.1 HN.out).mono fun e w9 ⟨he, hx⟩ => ⟨.int .i64 ((plc i ls.length : Nat) : Int), he, ?_⟩)
  simp only [Act.put, List.setIfInBounds_toArray, List.set_cons_zero, List.set_cons_succ]
  subst hx
  refine wpL_pure (.int .i64 ((plc i ls.length : Nat) : Int)) rfl (by kernel_rfl) ?_
  simp only [Act.put, List.setIfInBounds_toArray, List.set_cons_zero, List.set_cons_succ]
  obtain ⟨k, hk⟩ : ∃ k, plc i ls.length = k := ⟨_, rfl⟩
  have HPK := Lib.hid hk
  rw [hk] at HL ⊢
  have KLT : Hid (k < ls.length) := Lib.hid (by rw [← hk]; exact plc_lt _ _ HN.out)
  clear hk
  obtain ⟨sa, sc, hs, _⟩ := A2.out.2.2.1.2.1.slice
  subst hs
  have CLN := Lib.hid (lclone_any W2 (b + 1) _ _ _ A2.out.2.2.1.2.1 HN3.out)
  go_upto_region 4 with (fail)
  refine wp_region_lit ?_
  refine wpL_pure (.pointer (some ⟨b, 0, none⟩)) rfl (by kernel_rfl) ?_
  simp only [Act.put, List.setIfInBounds_toArray, List.set_cons_zero, List.set_cons_succ]
  refine wpL_pure (.pointer (some ⟨b, 0, none⟩)) rfl (by kernel_rfl) ?_
  simp only [Act.put, List.setIfInBounds_toArray, List.set_cons_zero, List.set_cons_succ]
  refine wpL_pure (.pointer (some ⟨b, 0, none⟩)) rfl (by kernel_rfl) ?_
  simp only [Act.put, List.setIfInBounds_toArray, List.set_cons_zero, List.set_cons_succ]
  refine wpL_pure (.pointer (some ⟨b, 0, none⟩)) rfl (by kernel_rfl) ?_
  simp only [Act.put, List.setIfInBounds_toArray, List.set_cons_zero, List.set_cons_succ]
  refine wpL_pure (.slice sa ls.length sc) rfl (run_load_one _ _ _ 39 _ _ rfl b 0 rfl (by rw [A2.out.2.2.1.1.cell]; rfl) (by kernel_rfl)) ?_
  simp only [Act.put, List.setIfInBounds_toArray, List.set_cons_zero, List.set_cons_succ]
  refine wpL_call 33 #[.slice sa ls.length sc] rfl (by kernel_rfl) ((CLN.out).mono fun e W3 ⟨v3, he, q1, q2⟩ => ⟨v3, he, ?_⟩)
  simp only [Act.put, List.setIfInBounds_toArray, List.set_cons_zero, List.set_cons_succ]
  have A3 : Hid (Blk W3 g6 43 #[.int .i64 l.f, .int .i64 l.t, u] ∧ Own W3 (G4 + 1) u l.xs ∧ NetSt W3 b (.slice sa ls.length sc) ls ∧ w.grownBy W3 (some b) ∧ Blk W3 G4 43 #[.int .i64 0, .int .i64 0, .slice none 0 0] ∧ LRow W3 W2.heap.size v3 ls.length (flat ls) ∧ g6 < W2.heap.size ∧ G4 < W2.heap.size ∧ b < W2.heap.size ∧ w.heap.size ≤ W2.heap.size) := Lib.hid ⟨A2.out.1.below q2, A2.out.2.1.below q2, A2.out.2.2.1.below q2, gb_trans A2.out.2.2.2.1 (gb_of q2 _), A2.out.2.2.2.2.below q2, q1, A2.out.1.lt, A2.out.2.2.2.2.lt, A2.out.2.2.1.lt, A2.out.2.2.2.1.size⟩
  have DEL := Lib.hid (delete_any W3 W2.heap.size ls.length k v3 (flat ls) q1 KLT.out HN3.out q2.size)
  clear q1 q2 CLN A2
  refine wpL_pure (.int .i64 (k : Int)) rfl (by kernel_rfl) ?_
  simp only [Act.put, List.setIfInBounds_toArray, List.set_cons_zero, List.set_cons_succ]
  refine wpL_pure (.int .i64 (k : Int)) rfl (by kernel_rfl) ?_
  simp only [Act.put, List.setIfInBounds_toArray, List.set_cons_zero, List.set_cons_succ]
  refine wpL_pure (.int .i64 ((k + 1 : Nat) : Int)) rfl (run_addi Try.underlying3 rfl rfl rfl _ (by have := KLT.out; have := HN3.out; rw [wrap_in _ (by omega) (by omega)]; omega)) ?_
  simp only [Act.put, List.setIfInBounds_toArray, List.set_cons_zero, List.set_cons_succ]
  refine wpL_call 32 #[v3, .int .i64 (k : Int), .int .i64 ((k + 1 : Nat) : Int)] rfl (by kernel_rfl) ((DEL.out).mono fun e W4 ⟨v4, he, q1, q2, q3⟩ => ⟨v4, he, ?_⟩)
  simp only [Act.put, List.setIfInBounds_toArray, List.set_cons_zero, List.set_cons_succ]
  have A5 := Lib.hid (take_frame A3.out q1 q2 KLT.out)
  have ONE4 : v4.oneCell' = true := by obtain ⟨a, c, e, _⟩ := q1.slice; rw [e]; rfl
  have A4 : Hid (Blk W4 b 56 #[.slice sa ls.length sc]) := Lib.hid (A3.out.2.2.1.1.grown q2 (fun e => by have := (A3.out.2.2.2.2.2.1.lt b e.symm).1; have := A3.out.2.2.2.2.2.2.2.2.1; omega))
  clear q1 q2 q3 DEL A3
  refine wpL_pure (.pointer (some ⟨b, 0, none⟩)) rfl (by kernel_rfl) ?_
  simp only [Act.put, List.setIfInBounds_toArray, List.set_cons_zero, List.set_cons_succ]
  refine wpL_pure (.pointer (some ⟨b, 0, none⟩)) rfl (by kernel_rfl) ?_
  simp only [Act.put, List.setIfInBounds_toArray, List.set_cons_zero, List.set_cons_succ]
  refine wpL_store_one rfl rfl (b) (0) rfl (v4) rfl ONE4 size39 (by rw [A4.out.cell]; rfl) (A4.out.free _) ?_
  simp only [Act.put, List.setIfInBounds_toArray, List.set_cons_zero, List.set_cons_succ]
  obtain ⟨W5, hW5⟩ : ∃ V, V = W4.setCell ⟨b, 0, none⟩ v4 := ⟨_, rfl⟩
  rw [← hW5] at A5 ⊢
  clear hW5 A4
  go_upto_region 5 with (fail)
  refine wp_region_lit ?_
  refine wpL_load 43 _ rfl rfl g6 0 rfl [.int .i64 l.f, .int .i64 l.t, u] _ (range_blk (t := 43) A5.out.1) Try.underlying43 rfl (by kernel_rfl) ?_
  simp only [Act.put, List.setIfInBounds_toArray, List.set_cons_zero, List.set_cons_succ]
  refine wpL_pure (.bool true) rfl (by kernel_rfl) ?_
  simp only [Act.put, List.setIfInBounds_toArray, List.set_cons_zero, List.set_cons_succ]
  refine wpList_store_row rfl 43 _ _ rfl (G4) (#[.int .i64 l.f, .int .i64 l.t, u]) rfl rfl _ _ (A5.out.2.2.2.2.1) (by kernel_rfl) rfl (all3 _ _ _ ONEU) ?_
  simp only [Act.put, List.setIfInBounds_toArray, List.set_cons_zero, List.set_cons_succ]
  have A6 := Lib.hid (res_frame l.f l.t u A5.out.2.2.2.2.1 A5.out.2.2.1 A5.out.2.1 A5.out.2.2.2.2.2.1)
  have A8 := Lib.hid A5.out.2.2.2.2.2.2
  have A7 := Lib.hid (gb_row A5.out.2.2.2.1 G4 GW.out #[.int .i64 l.f, .int .i64 l.t, u])
  obtain ⟨W6, hW6⟩ : ∃ V, V = W5.setRow G4 #[.int .i64 l.f, .int .i64 l.t, u] := ⟨_, rfl⟩
  rw [← hW6] at A6 A7 ⊢
  clear hW6 A5
  refine wpL_pure (.bool true) rfl (by kernel_rfl) ?_
  simp only [Act.put, List.setIfInBounds_toArray, List.set_cons_zero, List.set_cons_succ]
  go_wp2_with fail
  exact bodyPost_ret (results_ct rfl _ _ G4 43 _ (0, 0) _ rfl A6.out.1 Try.underlying43 rfl (by kernel_rfl)) rfl ⟨l, u, v4, by rw [HPK.out]; exact HL.out, rfl, A6.out.2.2.mono (by have := GW.out; omega), by rw [HPK.out]; exact A6.out.2.1, A7.out, A8.out⟩
set_option maxHeartbeats 1000000 in
theorem take_none (w : World) (b : Nat) (i : Int) (s : Value) (h : NetSt w b s []) : Calls Try.prog 22 #[.pointer (some ⟨b, 0, none⟩), .int .i64 i] w fun e w' => e = .returned (.tuple #[.agg #[.int .i64 0, .int .i64 0, .slice none 0 0], .bool false]) ∧ NetSt w' b s [] ∧ Below w.heap.size w w' := by
  obtain ⟨w1, hw1⟩ : ∃ V, V = w.alloc (.cells #[.int .i64 0, .int .i64 0, .slice none 0 0] 43) := ⟨_, rfl⟩
  obtain ⟨G4, hg4⟩ : ∃ q, w.heap.size = q := ⟨_, rfl⟩
  have F0 : Hid (NetSt w1 b s [] ∧ Blk w1 G4 43 #[.int .i64 0, .int .i64 0, .slice none 0 0] ∧ Below w.heap.size w w1 ∧ w.heap.size ≤ w1.heap.size) := Lib.hid (by
    rw [hw1, ← hg4]
    have hb : Below w.heap.size w (w.alloc (.cells #[.int .i64 0, .int .i64 0, .slice none 0 0] 43)) := (Below.refl _ _).alloc (Nat.le_refl _) _
    exact ⟨h.below hb, Blk.new _ _ _, hb, by simp⟩)
  have AT := Lib.hid (at_none w1 b i s F0.out.1)
  have GE : Hid (w.heap.size = G4) := Lib.hid hg4
  have NS : Hid (s.ownBlock ≠ some G4) := Lib.hid (fun e => by have := (h.2.1.lt G4 e).2; omega)
  clear h
  go_enter Try.func22, Try.ntmps22
  go_upto_region 1 with (fail)
  try rw [← hw1]
  try rw [hg4]
  clear hw1 hg4
  go_upto_region 1 with (fail)
  refine wp_region_lit ?_
  refine wpL_pure (.pointer (some ⟨b, 0, none⟩)) rfl (by kernel_rfl) ?_
  simp only [Act.put, List.setIfInBounds_toArray, List.set_cons_zero, List.set_cons_succ]
  refine wpL_pure (.int .i64 i) rfl (by kernel_rfl) ?_
  simp only [Act.put, List.setIfInBounds_toArray, List.set_cons_zero, List.set_cons_succ]
  refine wpL_call 27 #[.pointer (some ⟨b, 0, none⟩), .int .i64 i] rfl (by kernel_rfl) ((AT.out).mono fun e W1 ⟨he, hs, hb⟩ => ⟨.tuple #[.agg #[.int .i64 0, .int .i64 0, .slice none 0 0], .bool false], he, ?_⟩)
  simp only [Act.put, List.setIfInBounds_toArray, List.set_cons_zero, List.set_cons_succ]
  have A1 : Hid (NetSt W1 b s [] ∧ Below w.heap.size w W1 ∧ Blk W1 G4 43 #[.int .i64 0, .int .i64 0, .slice none 0 0]) := Lib.hid ⟨hs, F0.out.2.2.1.trans (hb.mono F0.out.2.2.2), F0.out.2.1.below hb⟩
  clear hs hb AT F0
  refine wpL_pure (.tuple #[.agg #[.int .i64 0, .int .i64 0, .slice none 0 0], .bool false]) rfl (by kernel_rfl) ?_
  simp only [Act.put, List.setIfInBounds_toArray, List.set_cons_zero, List.set_cons_succ]
  refine wpL_pure (.agg #[.int .i64 0, .int .i64 0, .slice none 0 0]) rfl (by kernel_rfl) ?_
  simp only [Act.put, List.setIfInBounds_toArray, List.set_cons_zero, List.set_cons_succ]
  refine wpL_pure (.bool false) rfl (by kernel_rfl) ?_
  simp only [Act.put, List.setIfInBounds_toArray, List.set_cons_zero, List.set_cons_succ]
  have BX := Lib.hid (box_frame W1 0 0 (.slice none 0 0))
  obtain ⟨W2, hW2⟩ : ∃ V, V = (W1.alloc (.cells #[.int .i64 0, .int .i64 0, .slice none 0 0] 43)).setRow W1.heap.size #[.int .i64 0, .int .i64 0, .slice none 0 0] := ⟨_, rfl⟩
  rw [← hW2] at BX
  refine wpL_value (.pointer (some ⟨W1.heap.size, 0, none⟩)) (W1.alloc (.cells #[.int .i64 0, .int .i64 0, .slice none 0 0] 43)) rfl (by kernel_rfl) ?_
  simp only [Act.put, List.setIfInBounds_toArray, List.set_cons_zero, List.set_cons_succ]
  refine wpList_store_row rfl 43 _ _ rfl (W1.heap.size) (#[.int .i64 0, .int .i64 0, .slice none 0 0]) rfl rfl _ _ (Blk.new W1 43 _) (by kernel_rfl) rfl (by kernel_rfl) ?_
  simp only [Act.put, List.setIfInBounds_toArray, List.set_cons_zero, List.set_cons_succ]
  rw [← hW2]
  have A2 : Hid (Blk W2 W1.heap.size 43 #[.int .i64 0, .int .i64 0, .slice none 0 0] ∧ NetSt W2 b s [] ∧ Below w.heap.size w W2 ∧ Blk W2 G4 43 #[.int .i64 0, .int .i64 0, .slice none 0 0]) := Lib.hid ⟨BX.out.1, A1.out.1.below BX.out.2, A1.out.2.1.trans (BX.out.2.mono A1.out.2.1.size), A1.out.2.2.below BX.out.2⟩
  clear BX A1 hW2
  generalize W1.heap.size = g6 at A2 ⊢
  refine wpL_pure (.bool false) rfl (by kernel_rfl) ?_
  simp only [Act.put, List.setIfInBounds_toArray, List.set_cons_zero, List.set_cons_succ]
  go_upto_region 2 with (fail)
  refine wp_region_lit ?_
  refine wpL_pure (.bool false) rfl (by kernel_rfl) ?_
  simp only [Act.put, List.setIfInBounds_toArray, List.set_cons_zero, List.set_cons_succ]
  go_upto_region 5 with (fail)
  refine wp_region_lit ?_
  refine wpL_load 43 _ rfl rfl g6 0 rfl [.int .i64 0, .int .i64 0, .slice none 0 0] _ (range_blk (t := 43) A2.out.1) Try.underlying43 rfl (by kernel_rfl) ?_
  simp only [Act.put, List.setIfInBounds_toArray, List.set_cons_zero, List.set_cons_succ]
  refine wpL_pure (.bool false) rfl (by kernel_rfl) ?_
  simp only [Act.put, List.setIfInBounds_toArray, List.set_cons_zero, List.set_cons_succ]
  refine wpList_store_row rfl 43 _ _ rfl (G4) (#[.int .i64 0, .int .i64 0, .slice none 0 0]) rfl rfl _ _ (A2.out.2.2.2) (by kernel_rfl) rfl (by kernel_rfl) ?_
  simp only [Act.put, List.setIfInBounds_toArray, List.set_cons_zero, List.set_cons_succ]
  have A6 := Lib.hid (res_frame 0 0 (.slice none 0 0) A2.out.2.2.2 A2.out.2.1 (Own.nil W2 0) (fun e => by have := (A2.out.2.1.2.1.lt G4 e).1; exact NS.out e))
  have A7 := Lib.hid (below_setRow A2.out.2.2.1 (Nat.le_of_eq GE.out) #[.int .i64 0, .int .i64 0, .slice none 0 0] (g := G4))
  obtain ⟨W6, hW6⟩ : ∃ V, V = W2.setRow G4 #[.int .i64 0, .int .i64 0, .slice none 0 0] := ⟨_, rfl⟩
  rw [← hW6] at A6 A7 ⊢
  clear hW6 A2
  refine wpL_pure (.bool false) rfl (by kernel_rfl) ?_
  simp only [Act.put, List.setIfInBounds_toArray, List.set_cons_zero, List.set_cons_succ]
  go_wp2_with fail
  exact bodyPost_ret (results_ct rfl _ _ G4 43 _ (0, 0) _ rfl A6.out.1 Try.underlying43 rfl (by kernel_rfl)) rfl ⟨rfl, A6.out.2.1, A7.out⟩
end Go.Proofs.Ytoeojgdolanggaa
