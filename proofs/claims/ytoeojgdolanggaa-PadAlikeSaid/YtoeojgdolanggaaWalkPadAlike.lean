import Derived.Test.YtoeojgdolanggaaPadE
import Derived.Laws.BytesString
import Derived.OpenShut
namespace Go.Proofs.Ytoeojgdolanggaa
open Go.RowKit

theorem IsRow.below {k : IntKind} {w w' : World} {a : Option Addr} {len cap : Nat} {zs : List Int} (h : IsRow k w a len cap zs) (B : Nat) (hb : Below B w w') (hB : w.heap.size ≤ B) : IsRow k w' a len cap zs := by
  rcases h with h | ⟨x, h1, h2, h3, h4, h5, h6⟩
  · exact .inl h
  · refine .inr ⟨x, h1, h2, h3, h4, fun i hi => ?_, h6⟩
    have := h5 i hi
    rw [hb.cell (Nat.lt_of_lt_of_le (World.block_lt_of_cell? w _ this) hB)]
    exact this
theorem IsRow.take {k : IntKind} {w : World} {a : Option Addr} {len cap : Nat} {zs : List Int} (h : IsRow k w a len cap zs) : (zs.take len).length = len ∧ ∀ x ∈ zs.take len, (Lit.int k x).wf = true := by
  rcases h with ⟨_, rfl, _, rfl⟩ | ⟨x, h1, h2, h3, h4, h5, h6⟩
  · simp
  · exact ⟨by simp; omega, fun y hy => h6 y (List.mem_of_mem_take hy)⟩
theorem Blk_lt {w : World} {g : Nat} {o : Obj} (h : w.heap[g]? = some o) : g < w.heap.size := by
  rcases Nat.lt_or_ge g w.heap.size with h1 | h1
  · exact h1
  · rw [Array.getElem?_eq_none h1] at h; cases h
theorem conv_zero (w : World) (p : Option Addr) (c : Nat) : (convert 30 9 (.slice p 0 c)).run Try.prog w = .ok (.string (strOfNums [])) w := by
  rw [run_convert_bytes_string w 30 9 5 _ 0 c Try.underlying30 Try.underlying5 Try.underlying9]
  cases p <;> simp [Conv.bytesToString, loadCells]
  all_goals rfl
theorem conv_row (w : World) (a : Option Addr) (len cap : Nat) (zs : List Int) (h : IsRow .u8 w a len cap zs) :
    (convert 30 9 (.slice a len cap)).run Try.prog w = .ok (.string (strOfNums (zs.take len))) w := by
  by_cases h0 : len = 0
  · subst h0
    rw [List.take_zero]
    exact conv_zero w a cap
  · rcases h with ⟨rfl, rfl, rfl, rfl⟩ | ⟨⟨b, off, spot⟩, rfl, h2, h3, h4, h5, h6⟩
    · exact absurd rfl h0
    · have hs : spot = none := by simpa [Addr.add] using World.cell?_spot (h5 0 (by omega))
      subst hs
      refine run_convert_bytes_arg w 30 5 Try.underlying30 Try.underlying5 b off len cap (zs.take len) (by simp; omega) (fun i hi => ?_) 9 Try.underlying9
      have := h5 i (by omega)
      have e : (⟨b, off, none⟩ : Addr).add i = ⟨b, off + i, none⟩ := by unfold Addr.add; split <;> simp_all
      rw [e] at this
      rw [this]
      simp [List.getD, List.getElem?_take, hi]
theorem conv_blk (w : World) (g sz : Nat) (xs : List Int) (hl : xs.length = sz) (h : w.heap[g]? = some (.cells (xs.map (Value.int .u8)).toArray 5 (0, 0))) :
    (convert 30 9 (.slice (some ⟨g, 0, none⟩) sz sz)).run Try.prog w = .ok (.string (strOfNums xs)) w := by
  refine run_convert_bytes_arg w 30 5 Try.underlying30 Try.underlying5 g 0 sz sz xs hl (fun i hi => ?_) 9 Try.underlying9
  rw [cell_of_row w _ _ _ _ _ h]
  simp [List.getD, List.getElem?_eq_getElem (show i < xs.length by omega)]

theorem num_inj : ∀ (xs ys : List Int), (∀ x ∈ xs, 0 ≤ x ∧ x ≤ 255) → (∀ y ∈ ys, 0 ≤ y ∧ y ≤ 255) → xs.map (fun n => UInt8.ofNat n.toNat) = ys.map (fun n => UInt8.ofNat n.toNat) → xs = ys := by
  intro xs
  induction xs with
  | nil => intro ys _ _ h; cases ys with
    | nil => rfl
    | cons y ys => simp at h
  | cons x xs ih =>
    intro ys hx hy h
    cases ys with
    | nil => simp at h
    | cons y ys =>
      simp only [List.map_cons, List.cons.injEq] at h
      have h1 := hx x (by simp)
      have h2 := hy y (by simp)
      have h3 := congrArg UInt8.toNat h.1
      simp at h3
      have : x = y := by omega
      rw [this, ih ys (fun a ha => hx a (by simp [ha])) (fun a ha => hy a (by simp [ha])) h.2]
theorem str_beq (xs ys : List Int) (hx : ∀ x ∈ xs, 0 ≤ x ∧ x ≤ 255) (hy : ∀ y ∈ ys, 0 ≤ y ∧ y ≤ 255) : ((strOfNums xs).toList == (strOfNums ys).toList) = decide (xs = ys) := by
  rw [Bool.eq_iff_iff, beq_iff_eq, decide_eq_true_eq, ByteArray.toList_eq, ByteArray.toList_eq]
  constructor
  · intro h
    exact num_inj xs ys hx hy (by simpa [strOfNums] using h)
  · rintro rfl; rfl
theorem padded_byte (l : List Int) (n : Nat) (h : ∀ x ∈ l, 0 ≤ x ∧ x ≤ 255) : ∀ x ∈ padded l n, 0 ≤ x ∧ x ≤ 255 := by
  intro x hx
  simp only [padded, List.mem_append, List.mem_cons, List.mem_replicate] at hx
  rcases hx with hx | rfl | ⟨_, rfl⟩
  · exact h x hx
  · omega
  · omega
theorem pads_beq (xs ys : List Int) (n m : Nat) (hx : ∀ x ∈ xs, 0 ≤ x ∧ x ≤ 255) (hy : ∀ y ∈ ys, 0 ≤ y ∧ y ≤ 255) (hn : xs = ys → n = m) :
    ((strOfNums (padded xs n)).toList == (strOfNums (padded ys m)).toList) = ((strOfNums xs).toList == (strOfNums ys).toList) := by
  rw [str_beq _ _ (padded_byte xs n hx) (padded_byte ys m hy), str_beq _ _ hx hy, Bool.eq_iff_iff, decide_eq_true_eq, decide_eq_true_eq]
  exact ⟨padded_inj xs ys n m, fun h => by rw [h, hn h]⟩

theorem byte_of (xs : List Int) (h : ∀ x ∈ xs, (Lit.int .u8 x).wf = true) : ∀ x ∈ xs, 0 ≤ x ∧ x ≤ 255 := fun x hx => bounds_u8 (h x hx)

set_option maxHeartbeats 2000000 in
theorem walkPadAlike (a0 : Option Addr) (len0 cap0 : Nat) (z0 : List Int) (a1 : Option Addr) (len1 cap1 : Nat) (z1 : List Int) (w : World) (h0 : IsRow .u8 w a0 len0 cap0 z0) (h1 : IsRow .u8 w a1 len1 cap1 z1) :
    Calls Try.prog 5 #[.slice a0 len0 cap0, .slice a1 len1 cap1] w fun e w' => e = .returned (.bool true) ∧ Below w.heap.size w w' := by
  by_cases g0 : len0 ≤ 2047
  · by_cases g1 : len1 ≤ 2047
    · obtain ⟨s0, e0⟩ : ∃ s : Nat, bkv len0 = s := ⟨(bkv len0).toNat, by have := bkv_low len0 (by omega) (by omega); omega⟩
      obtain ⟨s1, e1⟩ : ∃ s : Nat, bkv len1 = s := ⟨(bkv len1).toNat, by have := bkv_low len1 (by omega) (by omega); omega⟩
      have i0 : ¬ (2047 : Int) < (len0 : Int) := by omega
      have i1 : ¬ (2047 : Int) < (len1 : Int) := by omega
      have t0 := h0.take
      have t1 := h1.take
      have H0 := Lib.hid h0
      have H1 := Lib.hid h1
      have E0 := Lib.hid e0
      have E1 := Lib.hid e1
      have T0 := Lib.hid t0
      have T1 := Lib.hid t1
      clear h0 h1 e0 e1 t0 t1
      go_enter Try.func5, Try.ntmps5
      go_wp2_with fail
      refine (awake6 _).mono ?_
      rintro e w' ⟨rfl, rfl⟩
      go_wp2_with fail
      refine (pad_any a0 len0 cap0 z0 _ H0.out g0 s0 E0.out).mono ?_
      rintro e wa ⟨rfl, ra, ba⟩
      have RA := Lib.hid ra
      have BA := Lib.hid ba
      clear ra ba
      go_wp2_with fail
      refine (pad_any a1 len1 cap1 z1 _ (H1.out.below _ BA.out (Nat.le_refl _)) g1 s1 E1.out).mono ?_
      rintro e wb ⟨rfl, rb, bb⟩
      have RB := Lib.hid rb
      have BB := Lib.hid bb
      clear rb bb
      go_wp2_with fail
      refine (bucket_low _ _ (by omega) (by omega)).mono ?_
      rintro e w' ⟨rfl, rfl⟩
      go_wp2_with fail
      refine (bucket_low _ _ (by omega) (by omega)).mono ?_
      rintro e w' ⟨rfl, rfl⟩
      go_wp2_with fail
      refine (is_set _ _ (by have := bkv_set len0 (by omega) (by omega); rw [E0.out] at this; exact this)).mono ?_
      rintro e w' ⟨rfl, rfl⟩
      have k0 : (convert 30 9 (.slice (some ⟨w.heap.size, 0, none⟩) s0 s0)).run Try.prog wb = .ok (.string (strOfNums (padded (z0.take len0) s0))) wb :=
        conv_blk wb _ _ _ (length_padded _ _ (by have := bkv_low len0 (by omega) (by omega); rw [E0.out] at this; rw [T0.out.1]; omega)) ((BB.out.block _ (Blk_lt RA.out)).trans RA.out)
      have k1 : (convert 30 9 (.slice (some ⟨wa.heap.size, 0, none⟩) s1 s1)).run Try.prog wb = .ok (.string (strOfNums (padded (z1.take len1) s1))) wb :=
        conv_blk wb _ _ _ (length_padded _ _ (by have := bkv_low len1 (by omega) (by omega); rw [E1.out] at this; rw [T1.out.1]; omega)) RB.out
      have bz : Below w.heap.size w wb := BA.out.trans (BB.out.mono BA.out.size)
      have k2 := conv_row wb a0 len0 cap0 z0 (H0.out.below _ bz (Nat.le_refl _))
      have k3 := conv_row wb a1 len1 cap1 z1 (H1.out.below _ bz (Nat.le_refl _))
      have kb := pads_beq (z0.take len0) (z1.take len1) s0 s1 (byte_of _ T0.out.2) (byte_of _ T1.out.2) (fun h => by
        have hl : len0 = len1 := by rw [← T0.out.1, ← T1.out.1, h]
        have := E0.out; rw [hl, E1.out] at this; omega)
      have q0 := E0.out
      have q1 := E1.out
      clear E0 E1
      have BZ := Lib.hid bz
      clear bz
      go_wp2_with fail
      go_ret
      exact ⟨rfl, BZ.out⟩
    · have i0 : ¬ (2047 : Int) < (len0 : Int) := by omega
      have i1 : (2047 : Int) < (len1 : Int) := by omega
      go_enter Try.func5, Try.ntmps5
      go_wp2_with fail
      refine (awake6 _).mono ?_
      rintro e w' ⟨rfl, rfl⟩
      go_wp2_with fail
      refine (awake6 _).mono ?_
      rintro e w' ⟨rfl, rfl⟩
      go_wp2_with fail
      go_ret
      exact ⟨rfl, Below.refl _ _⟩
  · have i0 : (2047 : Int) < (len0 : Int) := by omega
    go_enter Try.func5, Try.ntmps5
    go_wp2_with fail
    refine (awake6 _).mono ?_
    rintro e w' ⟨rfl, rfl⟩
    go_wp2_with fail
    refine (awake6 _).mono ?_
    rintro e w' ⟨rfl, rfl⟩
    go_wp2_with fail
    go_ret
    exact ⟨rfl, Below.refl _ _⟩
end Go.Proofs.Ytoeojgdolanggaa
