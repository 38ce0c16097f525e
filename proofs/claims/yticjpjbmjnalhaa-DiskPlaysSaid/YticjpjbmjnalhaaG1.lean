/- Both disks say the same. -/
import Derived.Test.YticjpjbmjnalhaaF9
namespace Go.Proofs.Yticjpjbmjnalhaa
open Go Go.RowKit
set_option maxRecDepth 100000
def Lnk (n : Nat) (L : List (Int × List Int × Nat)) (S : List (List Int)) (N W : Nat → List Int) (I : Nat → Bool) : Prop :=
  (∀ k, k < n → S[k]? = some (N k)) ∧ (∀ k, k < n → (I k = true ↔ ∃ e ∈ L, e.1 = (k : Int))) ∧ (∀ e ∈ L, W e.1.toNat = e.2.1) ∧ ∀ k, k < n → I k = false → W k = N k
def LnF (fu : Bool) (fz fr : Int) : Prop := (fu = true → fr = fz) ∧ (fu = false → fr = -1)
theorem may_ch {fu go : Bool} {fz fr : Int} (h : LnF fu fz fr) (hp : fu = true → 0 ≤ fz) : mayB fu fz go = chB fr go ∧ LnF fu (mayF fu fz go) (chF fr go) := by
  cases fu
  · have e := h.2 rfl
    subst e
    cases go <;> simp [mayB, chB, chF, mayF, LnF]
  · have e := h.1 rfl
    subst e
    have p := hp rfl
    cases go
    · by_cases z : fr = 0
      · subst z; simp [mayB, chB, chF, mayF, LnF]
      · have q : 0 < fr := by omega
        simp [mayB, chB, chF, mayF, LnF, z, q]
    · simp [mayB, chB, chF, mayF, LnF]
theorem lnk_put {n c k : Nat} {L : List (Int × List Int × Nat)} {S : List (List Int)} {N W : Nat → List Int} {I : Nat → Bool} {s xs : List Int} (h : Lnk n L S N W I) (hS : S.length = n) (hk : k < n) (hs : S[k]? = some s) : Lnk n (wrL L c (k : Int) s).1 (S.set k xs) (upF N k xs) W (upF I k true) := by
  have es : N k = s := by have q := h.1 k hk; rw [hs] at q; exact (Option.some.inj q).symm
  refine ⟨fun j hj => ?_, fun j hj => ?_, fun e he => ?_, fun j hj hi => ?_⟩
  · by_cases e : j = k
    · subst e
      rw [upF_same, List.getElem?_set_self (by omega)]
    · rw [upF_ne _ _ e, List.getElem?_set_ne (Ne.symm e)]
      exact h.1 j hj
  · unfold wrL
    by_cases hx : ∃ e ∈ L, e.1 = (k : Int)
    · rw [if_pos hx]
      by_cases e : j = k
      · subst e
        simp only [upF_same, true_iff]
        exact hx
      · rw [upF_ne _ _ e]
        exact h.2.1 j hj
    · rw [if_neg hx]
      by_cases e : j = k
      · subst e
        simp only [upF_same, true_iff]
        exact ⟨_, List.mem_append_right _ (List.mem_singleton.2 rfl), rfl⟩
      · rw [upF_ne _ _ e, h.2.1 j hj]
        constructor
        · rintro ⟨x, hx1, hx2⟩
          exact ⟨x, List.mem_append_left _ hx1, hx2⟩
        · rintro ⟨x, hx1, hx2⟩
          rcases List.mem_append.1 hx1 with q | q
          · exact ⟨x, q, hx2⟩
          · obtain rfl := List.mem_singleton.1 q
            simp at hx2
            omega
  · unfold wrL at he
    by_cases hx : ∃ e ∈ L, e.1 = (k : Int)
    · rw [if_pos hx] at he
      exact h.2.2.1 e he
    · rw [if_neg hx] at he
      rcases List.mem_append.1 he with q | q
      · exact h.2.2.1 e q
      · obtain rfl := List.mem_singleton.1 q
        have hf : I k = false := by
          cases hi : I k
          · rfl
          · exact absurd ((h.2.1 k hk).1 hi) hx
        simp only [Int.toNat_natCast]
        rw [h.2.2.2 k hk hf, es]
  · by_cases e : j = k
    · subst e
      rw [upF_same] at hi
      cases hi
    · rw [upF_ne _ _ e] at hi ⊢
      exact h.2.2.2 j hj hi
theorem lnk_sync {n : Nat} {L : List (Int × List Int × Nat)} {S : List (List Int)} {N W : Nat → List Int} {I : Nat → Bool} (h : Lnk n L S N W I) : Lnk n [] S N N (fun _ => false) :=
  ⟨h.1, fun k _ => by simp, fun e he => by simp at he, fun _ _ _ => rfl⟩
theorem torn_in {O L : List Int} (hO : SOk O) (hL : SOk L) (f : Nat) : tornV O L f = inP O L f 64 := by
  have lo := hO.1
  have ll := hL.1
  apply List.ext_getElem?
  intro i
  unfold inP tornV stB
  rw [List.getElem?_map]
  by_cases hi : i < 64
  · rw [List.getElem?_range hi]
    simp only [Option.map_some]
    have eo : O[i]? = some (O.getD i 0) := by rw [List.getElem?_eq_getElem (by omega)]; simp [List.getD, List.getElem?_eq_getElem (show i < O.length by omega)]
    have el : L[i]? = some (L.getD i 0) := by rw [List.getElem?_eq_getElem (by omega)]; simp [List.getD, List.getElem?_eq_getElem (show i < L.length by omega)]
    by_cases h1 : f < 128
    · rw [if_pos h1]
      by_cases h2 : i < f
      · have hm : i < Nat.min f 64 := Nat.lt_min.2 ⟨h2, hi⟩
        rw [List.getElem?_append_left (by rw [List.length_take, ll]; exact Nat.lt_min.2 ⟨hm, hi⟩), List.getElem?_take, if_pos hm, el]
        simp [h1, h2]
      · have hm : Nat.min f 64 = f := Nat.min_eq_left (by omega)
        rw [hm, List.getElem?_append_right (by rw [List.length_take]; omega), List.getElem?_drop, List.length_take, ll, Nat.min_eq_left (show f ≤ 64 by omega), show f + (i - f) = i by omega, eo]
        simp [hi, h1, h2, show ¬ 128 ≤ f by omega]
    · rw [if_neg h1]
      by_cases h2 : 192 ≤ f + i
      · have hm : 64 - Nat.min (f - 128) 64 ≤ i := by
          rcases Nat.le_total (f - 128) 64 with q | q
          · rw [show Nat.min (f - 128) 64 = f - 128 from Nat.min_eq_left q]; omega
          · rw [show Nat.min (f - 128) 64 = 64 from Nat.min_eq_right q]; omega
        obtain ⟨m, hme⟩ : ∃ m, 64 - Nat.min (f - 128) 64 = m := ⟨_, rfl⟩
        rw [hme] at hm ⊢
        rw [List.getElem?_append_right (by rw [List.length_take]; omega), List.getElem?_drop, List.length_take, lo, Nat.min_eq_left (show m ≤ 64 by omega), show m + (i - m) = i by omega, el]
        simp [h1, h2, show 128 ≤ f by omega]
      · have hm : i < 64 - Nat.min (f - 128) 64 := by
          rw [show Nat.min (f - 128) 64 = f - 128 from Nat.min_eq_left (by omega)]; omega
        obtain ⟨m, hme⟩ : ∃ m, 64 - Nat.min (f - 128) 64 = m := ⟨_, rfl⟩
        rw [hme] at hm ⊢
        rw [List.getElem?_append_left (by rw [List.length_take]; omega), List.getElem?_take, if_pos hm, eo]
        simp [hi, h1, h2, show 128 ≤ f by omega]
  · have hl : (tornV O L f).length = 64 := (tornV_ok hO hL f).1
    unfold tornV at hl
    rw [List.getElem?_eq_none (by omega), List.getElem?_eq_none (by simp; omega)]; rfl
/-- the sorted keys, cut at i. -/
theorem keys_cut {I : Nat → Bool} {ks : List Int} {n : Nat} (hs : ks.Pairwise (· ≤ ·)) (hd : ks.Nodup) (hm : ∀ k : Nat, k < n → (I k = true ↔ (k : Int) ∈ ks)) (h0 : ∀ x ∈ ks, 0 ≤ x ∧ x < (n : Int)) :
    ∀ i, i ≤ n → ∃ l1 l2, ks = l1 ++ l2 ∧ l1.length = cntB I i ∧ (∀ x ∈ l1, x < (i : Int)) ∧ ∀ x ∈ l2, (i : Int) ≤ x
  | 0, _ => ⟨[], ks, rfl, rfl, by simp, fun x hx => by have := h0 x hx; omega⟩
  | i + 1, hi => by
    obtain ⟨l1, l2, e, hl, h1, h2⟩ := keys_cut hs hd hm h0 i (by omega)
    cases hI : I i with
    | false =>
      refine ⟨l1, l2, e, by simp [cntB, hI, hl], fun x hx => by have := h1 x hx; omega, fun x hx => ?_⟩
      have q := h2 x hx
      have ne : x ≠ (i : Int) := by
        rintro rfl
        have := (hm i (by omega)).2 (by rw [e]; exact List.mem_append_right _ hx)
        rw [hI] at this
        cases this
      omega
    | true =>
      have hmem := (hm i (by omega)).1 hI
      rw [e] at hmem
      rcases List.mem_append.1 hmem with q | q
      · have := h1 _ q; omega
      · cases l2 with
        | nil => simp at q
        | cons y l2 =>
          have hy : y = (i : Int) := by
            rcases List.mem_cons.1 q with q | q
            · exact q.symm
            · rw [e] at hs
              have h3 := (List.pairwise_append.1 hs).2.1
              have h4 := (List.pairwise_cons.1 h3).1 _ q
              have h5 := h2 y (by simp)
              omega
          subst hy
          refine ⟨l1 ++ [(i : Int)], l2, by rw [e]; simp, by simp [cntB, hI, hl], fun x hx => ?_, fun x hx => ?_⟩
          · rcases List.mem_append.1 hx with q | q
            · have := h1 x q; omega
            · obtain rfl := List.mem_singleton.1 q; omega
          · have q := h2 x (by simp [hx])
            have ne : x ≠ (i : Int) := by
              rintro rfl
              rw [e] at hd
              have h3 := (List.nodup_append.1 hd).2.1
              exact (List.nodup_cons.1 h3).1 hx
            omega
theorem crs_len (F : List Int) (L : List (Int × List Int × Nat)) (ks : List Int) (S : List (List Int)) : ∀ j, (crS F L ks S j).length = S.length
  | 0 => rfl
  | j + 1 => by rw [crS, crStep, List.length_set]; exact crs_len F L ks S j
theorem crs_eq {n c : Nat} {F ks : List Int} {L : List (Int × List Int × Nat)} {S : List (List Int)} {N W : Nat → List Int} {I : Nat → Bool} (hL : LOk n c L) (h : Lnk n L S N W I) (hS : S.length = n) (hO : ∀ k, k < n → SOk (N k) ∧ SOk (W k)) (hp : ks.Perm (L.map (·.1))) (hs : ks.Pairwise (· ≤ ·)) :
    ∀ k, k < n → (crS F L ks S ks.length)[k]? = some (crN F N W I k) := by
  have hd : ks.Nodup := hp.nodup_iff.2 hL.2.1
  have hm : ∀ k : Nat, k < n → (I k = true ↔ (k : Int) ∈ ks) := fun k hk => by
    rw [h.2.1 k hk, hp.mem_iff, List.mem_map]
  have h0 : ∀ x ∈ ks, 0 ≤ x ∧ x < (n : Int) := fun x hx => by
    obtain ⟨e, he, rfl⟩ := List.mem_map.1 (hp.mem_iff.1 hx)
    exact ⟨(hL.1 e he).1, (hL.1 e he).2.1⟩
  have cut := keys_cut hs hd hm h0
  have step : ∀ i, i ≤ n → ∀ k, k < n → (crS F L ks S (cntB I i))[k]? = some (ouN F N W I i k) := by
    intro i
    induction i with
    | zero => intro _ k hk; simpa [cntB, crS, ouN] using h.1 k hk
    | succ i ih =>
      intro hi k hk
      have ih := ih (by omega)
      cases hI : I i with
      | false =>
        rw [show cntB I (i + 1) = cntB I i by simp [cntB, hI], ouN_skip hI]
        exact ih k hk
      | true =>
        rw [show cntB I (i + 1) = cntB I i + 1 by simp [cntB, hI], ouN_next hI, crS, crStep]
        obtain ⟨l1, l2, e, hl, h1, h2⟩ := cut i (by omega)
        have hki : ks.getD (cntB I i) 0 = (i : Int) := by
          have hmem := (hm i (by omega)).1 hI
          have h1' : (i : Int) ∈ l2 := by
            rw [e] at hmem
            rcases List.mem_append.1 hmem with q | q
            · have := h1 _ q; omega
            · exact q
          cases l2 with
          | nil => simp at h1'
          | cons y l2 =>
            have hy : y = (i : Int) := by
              rcases List.mem_cons.1 h1' with q | q
              · exact q.symm
              · rw [e] at hs
                have h3 := (List.pairwise_append.1 hs).2.1
                have h4 := (List.pairwise_cons.1 h3).1 _ q
                have h5 := h2 y (by simp)
                omega
            rw [e, ← hl, hy]
            simp [List.getD]
        rw [hki, Int.toNat_natCast]
        obtain ⟨en, hen, hek⟩ := (h.2.1 i (by omega)).1 hI
        have hv : valOf L (i : Int) = W i := by
          have q := h.2.2.1 en hen
          rw [hek, Int.toNat_natCast] at q
          rw [q]
          exact valOf_mem (br := en.2.2) hL.2.1 (by rw [← hek]; exact hen)
        have hg : (crS F L ks S (cntB I i)).getD i [] = N i := by
          have q := ih i (by omega)
          rw [ouN_self] at q
          simp [List.getD, q]
        rw [hv, hg, torn_in (hO i (by omega)).2 (hO i (by omega)).1]
        by_cases e2 : k = i
        · subst e2
          rw [List.getElem?_set_self (by rw [crs_len, hS]; exact hk), upF_same]
        · rw [List.getElem?_set_ne (Ne.symm e2), upF_ne _ _ e2]
          exact ih k hk
  intro k hk
  obtain ⟨l1, l2, e, hl, h1, h2⟩ := cut n (Nat.le_refl _)
  have hn : l2 = [] := by
    cases l2 with
    | nil => rfl
    | cons y l2 =>
      have q1 := h2 y (by simp)
      have q2 := h0 y (by rw [e]; simp)
      omega
  have hlen : ks.length = cntB I n := by rw [e, hn, List.append_nil, hl]
  rw [hlen, step n (Nat.le_refl _) k hk]
  simp [ouN, hk]
theorem lnk_crash {n c : Nat} {F ks : List Int} {L : List (Int × List Int × Nat)} {S : List (List Int)} {N W : Nat → List Int} {I : Nat → Bool} (hL : LOk n c L) (h : Lnk n L S N W I) (hS : S.length = n) (hO : ∀ k, k < n → SOk (N k) ∧ SOk (W k)) (hp : ks.Perm (L.map (·.1))) (hs : ks.Pairwise (· ≤ ·)) :
    Lnk n [] (crS F L ks S ks.length) (crN F N W I) (fun j => if I j = true then crN F N W I j else W j) (fun _ => false) :=
  ⟨crs_eq hL h hS hO hp hs, fun k _ => by simp, fun e he => by simp at he, fun k hk _ => by
    cases hi : I k
    · simp only [Bool.false_eq_true, if_false]
      rw [h.2.2.2 k hk hi]
      simp [crN, hi]
    · simp [hi]⟩
theorem lnk_cnt {n c : Nat} {L : List (Int × List Int × Nat)} {S : List (List Int)} {N W : Nat → List Int} {I : Nat → Bool} (hL : LOk n c L) (h : Lnk n L S N W I) : cntB I n = L.length := by
  have hp := List.mergeSort_perm (L.map (·.1)) (fun x y => decide (x ≤ y))
  obtain ⟨ks, hks⟩ : ∃ q, (L.map (·.1)).mergeSort (fun x y => decide (x ≤ y)) = q := ⟨_, rfl⟩
  rw [hks] at hp
  have hs : ks.Pairwise (· ≤ ·) := by rw [← hks]; exact sorted_ints _
  have hd : ks.Nodup := hp.nodup_iff.2 hL.2.1
  have hm : ∀ k : Nat, k < n → (I k = true ↔ (k : Int) ∈ ks) := fun k hk => by
    rw [h.2.1 k hk, hp.mem_iff, List.mem_map]
  have h0 : ∀ x ∈ ks, 0 ≤ x ∧ x < (n : Int) := fun x hx => by
    obtain ⟨e, he, rfl⟩ := List.mem_map.1 (hp.mem_iff.1 hx)
    exact ⟨(hL.1 e he).1, (hL.1 e he).2.1⟩
  obtain ⟨l1, l2, e, hl, h1, h2⟩ := keys_cut hs hd hm h0 n (Nat.le_refl _)
  have hn : l2 = [] := by
    cases l2 with
    | nil => rfl
    | cons y l2 =>
      have q1 := h2 y (by simp)
      have q2 := h0 y (by rw [e]; simp)
      omega
  have hlen : ks.length = cntB I n := by rw [e, hn, List.append_nil, hl]
  rw [← hlen, hp.length_eq, List.length_map]
/-- both disks. -/
def LK (w : World) (base b gs gm r n : Nat) : Prop := ∃ L c S fu fz go N W I fr, DS w b gs gm n L c S fu fz go ∧ RS w base r n N W I fr go ∧ Lnk n L S N W I ∧ LnF fu fz fr ∧ base ≤ b ∧ base ≤ gs ∧ base ≤ gm
theorem RS.keepFd {w w' : World} {base r n n' b gs gm c : Nat} {N W : Nat → List Int} {I : Nat → Bool} {fz fz' : Int} {go go' fu : Bool} {L : List (Int × List Int × Nat)} {S : List (List Int)} (h : RS w base r n N W I fz go) (d : DS w b gs gm n' L c S fu fz' go') (f : Fd b gs gm w w') : RS w' base r n N W I fz go := by
  obtain ⟨D, e, hd⟩ := h
  exact ⟨D, e, hd.fd d f⟩
theorem RS.below {w w' : World} {base r n : Nat} {N W : Nat → List Int} {I : Nat → Bool} {fz : Int} {go : Bool} (h : RS w base r n N W I fz go) (hb : Below w.heap.size w w') : RS w' base r n N W I fz go := by
  obtain ⟨D, e, hd⟩ := h
  exact ⟨D, e, hd.below hb⟩
theorem LK.below {w w' : World} {base b gs gm r n : Nat} (h : LK w base b gs gm r n) (hb : Below w.heap.size w w') : LK w' base b gs gm r n := by
  obtain ⟨L, c, S, fu, fz, go, N, W, I, fr, d, rs, l, q, bs⟩ := h
  exact ⟨L, c, S, fu, fz, go, N, W, I, fr, d.below hb, rs.below hb, l, q, bs⟩
theorem LK.ns {w : World} {base b gs gm r n : Nat} (h : LK w base b gs gm r n) : (b < w.heap.size ∧ gs < w.heap.size ∧ gm < w.heap.size ∧ r < w.heap.size) ∧ (base ≤ b ∧ base ≤ gs ∧ base ≤ gm ∧ base ≤ r) ∧ n ≤ 12 := by
  obtain ⟨L, c, S, fu, fz, go, N, W, I, fr, d, ⟨D, rfl, rs⟩, l, q, bs⟩ := h
  exact ⟨⟨d.lts.1, d.lts.2.1, d.lts.2.2, rs.cells.lt⟩, ⟨bs.1, bs.2.1, bs.2.2, rs.base0⟩, rs.few⟩
theorem Fd.toB {w w' : World} {base b gs gm : Nat} (f : Fd b gs gm w w') (bs : base ≤ b ∧ base ≤ gs ∧ base ≤ gm) (hb : base ≤ w.heap.size) : Below base w w' :=
  ⟨f.1, f.2.1, f.2.2.1, f.2.2.2.1, fun k hk => f.2.2.2.2 k (by omega) (by omega) (by omega) (by omega)⟩
theorem FR.toB {w w' : World} {base : Nat} (f : FR base w w') (hb : base ≤ w.heap.size) : Below base w w' := f.below (Below.refl _ _) hb
theorem Fd.blk {w w' : World} {b gs gm g t : Nat} {cs : Array Value} (f : Fd b gs gm w w') (hb : Blk w g t cs) (h1 : g ≠ b) (h2 : g ≠ gs) (h3 : g ≠ gm) : Blk w' g t cs := (f.2.2.2.2 g hb.lt h1 h2 h3).trans hb
theorem LK.far {w : World} {base b gs gm r n g t : Nat} {cs : Array Value} (h : LK w base b gs gm r n) (hb : Blk w g t cs) (ht : t ≠ 51 ∧ t ≠ 53) : g ≠ b ∧ g ≠ gs ∧ g ≠ gm := by
  obtain ⟨L, c, S, fu, fz, go, N, W, I, fr, d, rs, l, q, bs⟩ := h
  refine ⟨?_, ?_, ?_⟩
  · rintro rfl
    have h3 := d.1
    unfold Blk at hb h3
    rw [hb] at h3
    simp at h3
    exact ht.1 h3.2
  · rintro rfl
    have h3 := d.2.1
    unfold Blk at hb h3
    rw [hb] at h3
    simp at h3
    exact ht.2 h3.2
  · rintro rfl
    have h3 := d.2.2.1
    unfold Blk at hb
    rw [hb] at h3
    simp at h3
/-- between the program's Write and the reference's. -/
def MidW (w1 : World) (base b gs gm r n : Nat) (i : Int) (m : Nat) (xs : List Int) (x : Int) : Prop :=
  ∃ N W I fr go, RS w1 base r n N W I fr go ∧ (base ≤ b ∧ base ≤ gs ∧ base ≤ gm) ∧
    ((¬ ((0 ≤ i ∧ i < (n : Int)) ∧ m = 64) ∧ x = 1 ∧ ∃ L c S fu fz, DS w1 b gs gm n L c S fu fz go ∧ Lnk n L S N W I ∧ LnF fu fz fr) ∨
     ((0 ≤ i ∧ i < (n : Int)) ∧ m = 64 ∧ chB fr go = false ∧ x = 5 ∧ ∃ L c S fu fz, DS w1 b gs gm n L c S fu fz true ∧ Lnk n L S N W I ∧ LnF fu fz (chF fr go)) ∨
     ((0 ≤ i ∧ i < (n : Int)) ∧ m = 64 ∧ chB fr go = true ∧ x = 0 ∧ ∃ k : Nat, ∃ L c S fu fz, i = (k : Int) ∧ DS w1 b gs gm n L c S fu fz false ∧ Lnk n L S (upF N k xs) W (upF I k true) ∧ LnF fu fz (chF fr go)))
theorem mid_write {w : World} {base b gs gm r n : Nat} (h : LK w base b gs gm r n) (i : Int) (a : Option Addr) (m cx : Nat) (xs : List Int) (hr : Row w a m xs) (ng : 0 < m → ∀ p, a = some p → p.block ≠ b ∧ p.block ≠ gs ∧ p.block ≠ gm) :
    Calls Try.prog 11 #[.pointer (some ⟨b, 0, none⟩), .int .i64 i, .slice a m cx] w fun e w1 => ∃ x, e = .returned (.int .i64 x) ∧ MidW w1 base b gs gm r n i m xs x ∧ Fd b gs gm w w1 := by
  obtain ⟨L, c, S, fu, fz, go, N, W, I, fr, d, rs, l, q, bs⟩ := h
  have mc := may_ch (go := go) q d.2.2.2.2.2.2.2.2.1
  refine (writeD2 d i a m cx xs hr ng).mono fun e w1 hw => ?_
  rcases hw with ⟨h1, he, d1, f1⟩ | ⟨h1, h2, h3, he, d1, f1⟩ | ⟨h1, h2, h3, he, k, s, hk, hs, d1, f1⟩
  · exact ⟨1, he, ⟨N, W, I, fr, go, rs.keepFd d f1, bs, .inl ⟨h1, rfl, L, c, S, fu, fz, d1, l, q⟩⟩, f1⟩
  · exact ⟨5, he, ⟨N, W, I, fr, go, rs.keepFd d f1, bs, .inr (.inl ⟨h1, h2, by rw [← mc.1]; exact h3, rfl, L, c, S, fu, _, d1, l, mc.2⟩)⟩, f1⟩
  · refine ⟨0, he, ⟨N, W, I, fr, go, rs.keepFd d f1, bs, .inr (.inr ⟨h1, h2, by rw [← mc.1]; exact h3, rfl, k, _, _, _, fu, _, hk, d1, ?_, mc.2⟩)⟩, f1⟩
    subst hk
    exact lnk_put l d.2.2.2.1 (by omega) hs
theorem ref_write {w1 : World} {base b gs gm r n : Nat} {i x : Int} {m : Nat} {xs : List Int} (h : MidW w1 base b gs gm r n i m xs x) (hb : base ≤ w1.heap.size) (a : Option Addr) (cx : Nat) (hr : Row w1 a m xs) (ng : 0 < m → ∀ p, a = some p → p.block ≠ r) :
    Calls Try.prog 26 #[.pointer (some ⟨r, 0, none⟩), .int .i64 i, .slice a m cx] w1 fun e w2 => e = .returned (.int .i64 x) ∧ LK w2 base b gs gm r n ∧ FR base w1 w2 := by
  obtain ⟨N, W, I, fr, go, ⟨D, rfl, rd⟩, bs, hc⟩ := h
  refine (refwrite w1 base n D N W I fr go rd hb i a m cx xs hr ng).mono fun e w2 hw => ?_
  rcases hw with ⟨h1, he, r2, f2⟩ | ⟨h1, h2, h3, he, r2, f2⟩ | ⟨h1, h2, h3, he, k, hk, r2, f2⟩
  · rcases hc with ⟨_, rfl, L, c, S, fu, fz, d, l, q⟩ | ⟨g1, g2, _⟩ | ⟨g1, g2, _⟩
    · exact ⟨he, ⟨L, c, S, fu, fz, go, N, W, I, fr, f2.ds d, r2, l, q, bs⟩, f2⟩
    · exact absurd ⟨g1, g2⟩ h1
    · exact absurd ⟨g1, g2⟩ h1
  · rcases hc with ⟨g1, _⟩ | ⟨_, _, _, rfl, L, c, S, fu, fz, d, l, q⟩ | ⟨_, _, g3, _⟩
    · exact absurd ⟨h1, h2⟩ g1
    · exact ⟨he, ⟨L, c, S, fu, fz, true, N, W, I, _, f2.ds d, r2, l, q, bs⟩, f2⟩
    · rw [h3] at g3; cases g3
  · rcases hc with ⟨g1, _⟩ | ⟨_, _, g3, _⟩ | ⟨_, _, _, rfl, k', L, c, S, fu, fz, hk', d, l, q⟩
    · exact absurd ⟨h1, h2⟩ g1
    · rw [h3] at g3; cases g3
    · obtain rfl : k = k' := by omega
      exact ⟨he, ⟨L, c, S, fu, fz, false, _, _, _, _, f2.ds d, r2, l, q, bs⟩, f2⟩
def MidS (w1 : World) (base b gs gm r n : Nat) (x : Int) : Prop :=
  ∃ N W I fr go, RS w1 base r n N W I fr go ∧ (base ≤ b ∧ base ≤ gs ∧ base ≤ gm) ∧
    ((chB fr go = false ∧ x = 5 ∧ ∃ L c S fu fz, DS w1 b gs gm n L c S fu fz true ∧ Lnk n L S N W I ∧ LnF fu fz (chF fr go)) ∨
     (chB fr go = true ∧ x = 0 ∧ ∃ L c S fu fz, DS w1 b gs gm n L c S fu fz false ∧ Lnk n L S N N (fun _ => false) ∧ LnF fu fz (chF fr go)))
theorem mid_sync {w : World} {base b gs gm r n : Nat} (h : LK w base b gs gm r n) :
    Calls Try.prog 17 #[.pointer (some ⟨b, 0, none⟩)] w fun e w1 => ∃ x, e = .returned (.int .i64 x) ∧ MidS w1 base b gs gm r n x ∧ Fd b gs gm w w1 := by
  obtain ⟨L, c, S, fu, fz, go, N, W, I, fr, d, rs, l, q, bs⟩ := h
  have mc := may_ch (go := go) q d.2.2.2.2.2.2.2.2.1
  refine (syncD d).mono fun e w1 hw => ?_
  rcases hw with ⟨h3, he, d1, f1⟩ | ⟨h3, he, d1, f1⟩
  · exact ⟨5, he, ⟨N, W, I, fr, go, rs.keepFd d f1, bs, .inl ⟨by rw [← mc.1]; exact h3, rfl, L, c, S, fu, _, d1, l, mc.2⟩⟩, f1⟩
  · exact ⟨0, he, ⟨N, W, I, fr, go, rs.keepFd d f1, bs, .inr ⟨by rw [← mc.1]; exact h3, rfl, _, c, S, fu, _, d1, lnk_sync l, mc.2⟩⟩, f1⟩
theorem ref_sync {w1 : World} {base b gs gm r n : Nat} {x : Int} (h : MidS w1 base b gs gm r n x) (hb : base ≤ w1.heap.size) :
    Calls Try.prog 27 #[.pointer (some ⟨r, 0, none⟩)] w1 fun e w2 => e = .returned (.int .i64 x) ∧ LK w2 base b gs gm r n ∧ FR base w1 w2 := by
  obtain ⟨N, W, I, fr, go, ⟨D, rfl, rd⟩, bs, hc⟩ := h
  refine (refsync w1 base n D N W I fr go rd hb).mono fun e w2 hw => ?_
  rcases hw with ⟨h3, he, r2, f2⟩ | ⟨h3, he, r2, f2⟩
  · rcases hc with ⟨_, rfl, L, c, S, fu, fz, d, l, q⟩ | ⟨g3, _⟩
    · exact ⟨he, ⟨L, c, S, fu, fz, true, N, W, I, _, f2.ds d, r2, l, q, bs⟩, f2⟩
    · rw [h3] at g3; cases g3
  · rcases hc with ⟨g3, _⟩ | ⟨_, rfl, L, c, S, fu, fz, d, l, q⟩
    · rw [h3] at g3; cases g3
    · exact ⟨he, ⟨L, c, S, fu, fz, false, _, _, _, _, f2.ds d, r2, l, q, bs⟩, f2⟩
def MidF (w1 : World) (base b gs gm r n : Nat) (k : Int) : Prop :=
  ∃ N W I fr go L c S, RS w1 base r n N W I fr go ∧ (base ≤ b ∧ base ≤ gs ∧ base ≤ gm) ∧ DS w1 b gs gm n L c S (decide (0 ≤ k)) k go ∧ Lnk n L S N W I
theorem mid_fuse {w : World} {base b gs gm r n : Nat} (h : LK w base b gs gm r n) (k : Int) (hk : -9223372036854775808 ≤ k ∧ k ≤ 9223372036854775807) :
    Calls Try.prog 21 #[.pointer (some ⟨b, 0, none⟩), .int .i64 k] w fun e w1 => e = .returned (.tuple #[]) ∧ MidF w1 base b gs gm r n k ∧ Fd b gs gm w w1 := by
  obtain ⟨L, c, S, fu, fz, go, N, W, I, fr, d, rs, l, q, bs⟩ := h
  exact (fuseD d k hk).mono fun e w1 ⟨he, d1, f1⟩ => ⟨he, ⟨N, W, I, fr, go, L, c, S, rs.keepFd d f1, bs, d1, l⟩, f1⟩
def maxF (k : Int) : Int := if k < -1 then -1 else k
theorem lnf_fuse (k : Int) : LnF (decide (0 ≤ k)) k (maxF k) := by
  refine ⟨fun h => ?_, fun h => ?_⟩
  · have : 0 ≤ k := by simpa using h
    rw [maxF, if_neg (by omega)]
  · have : ¬ 0 ≤ k := by simpa using h
    unfold maxF
    split <;> omega
theorem ref_fuse {w1 : World} {base b gs gm r n : Nat} {k : Int} (h : MidF w1 base b gs gm r n k) (hk : k ≤ 9223372036854775807) : (w1.cell? ⟨r, 3, none⟩).isSome = true ∧ w1.frozen? ⟨r, 3, none⟩ = false ∧ LK (w1.setCell ⟨r, 3, none⟩ (.int .i64 (maxF k))) base b gs gm r n ∧ FR base w1 (w1.setCell ⟨r, 3, none⟩ (.int .i64 (maxF k))) := by
  obtain ⟨N, W, I, fr, go, L, c, S, ⟨D, rfl, rd⟩, bs, d, l⟩ := h
  have BC := rd.cells
  have hf : FR base w1 (w1.setCell ⟨D.r, 3, none⟩ (.int .i64 (maxF k))) := (FR.refl w1).set rd.base0 (RTg.blk BC (by decide)) _ _
  refine ⟨by rw [BC.cell]; rfl, BC.free 3, ⟨L, c, S, _, k, go, N, W, I, maxF k, hf.ds d, ⟨D, rfl, ?_⟩, l, lnf_fuse k, bs⟩, hf⟩
  exact rd.setRec (gb_set (gb_refl _ _) _ _) (RL.setFuse BC (maxF k)) (by unfold maxF; split <;> omega)
def MidC (w1 : World) (base b gs gm r n : Nat) (F : List Int) : Prop :=
  ∃ N W I fr go c S fz, RS w1 base r n N W I fr go ∧ (base ≤ b ∧ base ≤ gs ∧ base ≤ gm) ∧ DS w1 b gs gm n [] c S false fz false ∧ Lnk n [] S (crN F N W I) (fun j => if I j = true then crN F N W I j else W j) (fun _ => false)
theorem mid_crash {w : World} {base b gs gm r n : Nat} (h : LK w base b gs gm r n) (a : Option Addr) (q cx : Nat) (F : List Int) (hr : Row w a q F) (ng : 0 < q → ∀ p, a = some p → p.block ≠ b ∧ p.block ≠ gs ∧ p.block ≠ gm) :
    Calls Try.prog 18 #[.pointer (some ⟨b, 0, none⟩), .slice a q cx] w fun e w1 => e = .returned (.tuple #[]) ∧ MidC w1 base b gs gm r n F ∧ Fd b gs gm w w1 := by
  obtain ⟨L, c, S, fu, fz, go, N, W, I, fr, d, rs, l, qf, bs⟩ := h
  refine (crashD d a q cx F hr ng).mono fun e w1 ⟨he, ks, hp, hs, d1, f1⟩ => ?_
  have hO : ∀ k, k < n → SOk (N k) ∧ SOk (W k) := by
    obtain ⟨D, _, rd⟩ := rs
    exact fun k hk => ⟨rd.oN k hk, rd.oW k hk⟩
  exact ⟨he, ⟨N, W, I, fr, go, c, _, fz, rs.keepFd d f1, bs, d1, lnk_crash d.2.2.2.2.2.2.2.1 l d.2.2.2.1 hO hp hs⟩, f1⟩
theorem ref_crash {w1 : World} {base b gs gm r n : Nat} {F : List Int} (h : MidC w1 base b gs gm r n F) (hb : base ≤ w1.heap.size) (a : Option Addr) (q cx : Nat) (hr : Row w1 a q F) (ng : 0 < q → ∀ p, a = some p → p.block < base) :
    Calls Try.prog 28 #[.pointer (some ⟨r, 0, none⟩), .slice a q cx] w1 fun e w2 => e = .returned (.tuple #[]) ∧ LK w2 base b gs gm r n ∧ FR base w1 w2 := by
  obtain ⟨N, W, I, fr, go, c, S, fz, ⟨D, rfl, rd⟩, bs, d, l⟩ := h
  refine (refcrash w1 base n D N W I fr go rd hb a q cx F hr ng).mono fun e w2 ⟨he, r2, f2⟩ => ?_
  exact ⟨he, ⟨[], c, S, false, fz, false, _, _, _, _, f2.ds d, r2, l, ⟨fun q => (by cases q), fun _ => rfl⟩, bs⟩, f2⟩
end Go.Proofs.Yticjpjbmjnalhaa
