/- What torn heads tell: lists alone. -/
import Derived.Test.YteabblmhcjpboaaC8
namespace Go.Proofs.Yteabblmhcjpboaa.D
open Go Go.RowKit
set_option maxRecDepth 100000
theorem be_get (s j : Nat) (h : j < 8) : (be s).getD j 0 = ((s / 2 ^ (8 * (7 - j)) % 256 : Nat) : Int) := by
  rw [List.getD, be, beU, List.getElem?_map, List.getElem?_range h, Option.map_some, if_pos h, Option.getD_some]
theorem num_be_take (s : Nat) (h : U64 s) : ∀ j, j ≤ 8 → numA ((be s).take j) = s / 2 ^ (8 * (8 - j))
  | 0, _ => by
    unfold U64 at h
    rw [List.take_zero, show 8 * (8 - 0) = 64 from rfl, Nat.div_eq_of_lt (by omega)]; rfl
  | j + 1, hj => by
    rw [numA_next _ _ (by rw [be_len]; omega), num_be_take s h j (by omega), be_get s j (by omega)]
    have e : 2 ^ (8 * (8 - j)) = 2 ^ (8 * (7 - j)) * 256 := by
      rw [show 8 * (8 - j) = 8 * (7 - j) + 8 by omega, Nat.pow_add]
    rw [e, ← Nat.div_div_eq_div_mul, show 8 - (j + 1) = 7 - j by omega]
    generalize s / 2 ^ (8 * (7 - j)) = a
    omega
theorem num_be (s : Nat) (h : U64 s) : numA (be s) = s := by
  have q := num_be_take s h 8 (Nat.le_refl _)
  rw [List.take_of_length_le (by rw [be_len]; exact Nat.le_refl _)] at q
  simpa using q
theorem sec_eq (s c : Nat) (nt : List Int) : secV s c nt = hhL s c nt ++ hhL s c nt := by simp [secV, repL]
theorem sec_take {s c : Nat} {nt : List Int} (h : NtOk nt) : (secV s c nt).take 32 = hhL s c nt := by
  rw [sec_eq, List.take_append_of_le_length (by rw [hhL_len h]; exact Nat.le_refl _), List.take_of_length_le (by rw [hhL_len h]; exact Nat.le_refl _)]
theorem sec_drop {s c : Nat} {nt : List Int} (h : NtOk nt) : (secV s c nt).drop 32 = hhL s c nt := by
  rw [sec_eq, List.drop_append_of_le_length (by rw [hhL_len h]; exact Nat.le_refl _), List.drop_of_length_le (by rw [hhL_len h]; exact Nat.le_refl _), List.nil_append]
theorem sec_whole {s c : Nat} {nt : List Int} (h : NtOk nt) : whole (secV s c nt) = true := by
  unfold whole; rw [sec_take h, sec_drop h]; simp
theorem sec_srl {s c : Nat} {nt : List Int} (h : NtOk nt) (hs : U64 s) : srl (secV s c nt) = s := by
  have e : ((secV s c nt).drop 0).take 8 = be s := by
    rw [← sl_take 0 8 _ (by omega), sec_take h]
    simp [hhL, List.take_append_of_le_length, be_len, List.take_of_length_le]
  rw [srl, e, num_be s hs]
theorem sec_cnt {s c : Nat} {nt : List Int} (h : NtOk nt) (hc : U64 c) : cntL (secV s c nt) = c := by
  have e : ((secV s c nt).drop 8).take 8 = be c := by
    rw [← sl_take 8 8 _ (by omega), sec_take h, hhL, List.drop_append_of_le_length (by rw [be_len]; exact Nat.le_refl _), List.drop_of_length_le (by rw [be_len]; exact Nat.le_refl _), List.nil_append, List.take_append_of_le_length (by rw [be_len]; exact Nat.le_refl _), List.take_of_length_le (by rw [be_len]; exact Nat.le_refl _)]
  rw [cntL, e, num_be c hc]
theorem sec_nte {s c : Nat} {nt : List Int} (h : NtOk nt) : nteL (secV s c nt) = nt := by
  rw [nteL, ← sl_take 16 16 _ (by omega), sec_take h, hhL, ← List.append_assoc]
  have e : (be s ++ be c).length = 16 := by simp [be_len]
  rw [List.drop_append_of_le_length (by rw [e]; exact Nat.le_refl _), List.drop_of_length_le (by rw [e]; exact Nat.le_refl _), List.nil_append, List.take_of_length_le (by rw [h.1]; exact Nat.le_refl _)]
/-- what is not taken for a state behind s, in the place of the next one. -/
def Harm (rm s : Nat) (Y : List Int) : Prop := ¬ (whole Y = true ∧ fitB rm (srl Y) (cntL Y) ((s + 1) % 2) = true ∧ s < srl Y)
def Nxt (s1 c1 : Nat) (nt1 : List Int) (Y : List Int) : Prop := whole Y = true ∧ srl Y = s1 ∧ cntL Y = c1 ∧ nteL Y = nt1
def GoodY (rm s c1 : Nat) (nt1 : List Int) (Y : List Int) : Prop := Nxt (s + 1) c1 nt1 Y ∨ Harm rm s Y
theorem good_lies {rm s c1 : Nat} {nt1 Y : List Int} (h : liesB rm s Y (s + 1) c1 nt1 = false) : GoodY rm s c1 nt1 Y := by
  by_cases hw : whole Y = true
  · by_cases hf : fitB rm (srl Y) (cntL Y) ((s + 1) % 2) = true
    · by_cases hl : s < srl Y
      · left
        simp only [liesB, hw, hf, decide_eq_true hl, Bool.true_and, Bool.not_eq_false', Bool.and_eq_true, decide_eq_true_eq] at h
        exact ⟨hw, h.1.1, h.1.2, h.2⟩
      · exact .inr fun q => hl q.2.2
    · exact .inr fun q => hf q.2.1
  · exact .inr fun q => hw q.1
theorem bb8 (xs : List Int) : ((blankV xs).drop 8).take 8 = List.replicate 8 255 := rfl
theorem blank_cnt (xs : List Int) : cntL (blankV xs) = 18446744073709551615 := by rw [cntL, bb8]; decide
theorem blank_whole (xs : List Int) : whole (blankV xs) = true := by
  unfold whole blankV
  rw [List.take_append_of_le_length (by rw [bb_len]; exact Nat.le_refl _), List.take_of_length_le (by rw [bb_len]; exact Nat.le_refl _), List.drop_append_of_le_length (by rw [bb_len]; exact Nat.le_refl _), List.drop_of_length_le (by rw [bb_len]; exact Nat.le_refl _)]
  simp
theorem harm_blank {rm : Nat} (s : Nat) (xs : List Int) (hr : rm ≤ 1000) : Harm rm s (blankV xs) := fun q => by
  have h := q.2.1
  rw [fitB, blank_cnt, Bool.and_eq_true] at h
  have := of_decide_eq_true h.2
  omega
theorem whole_iff (Y : List Int) : whole Y = true ↔ Y.take 32 = Y.drop 32 := by simp [whole]
theorem whole_get {Y : List Int} (h : whole Y = true) (j : Nat) (hj : j < 32) : Y[j]? = Y[32 + j]? := by
  have e := (whole_iff Y).1 h
  have q := congrArg (fun l => l[j]?) e
  simp only [List.getElem?_take, hj, if_true, List.getElem?_drop] at q
  exact q
/-- halves: what is whole is twice its first half, or its second. -/
theorem whole_fst {Y A : List Int} (h : whole Y = true) (ha : Y.take 32 = A) : Y = A ++ A := by
  have e := (whole_iff Y).1 h
  rw [← List.take_append_drop 32 Y, ← e, ha]
theorem whole_snd {Y A : List Int} (h : whole Y = true) (ha : Y.drop 32 = A) : Y = A ++ A := by
  have e := (whole_iff Y).1 h
  rw [← List.take_append_drop 32 Y, e, ha]
theorem pre_take {A B : List Int} {m : Nat} (ha : A.length = 64) (hm : 32 ≤ m) (hm2 : m ≤ 64) : (A.take m ++ B.drop m).take 32 = A.take 32 := by
  rw [List.take_append_of_le_length (by rw [List.length_take, ha]; omega), List.take_take, Nat.min_eq_left hm]
theorem pre_drop {A B : List Int} {m : Nat} (ha : A.length = 64) (hm : m ≤ 32) : (A.take m ++ B.drop m).drop 32 = B.drop 32 := by
  have e : (A.take m).length = m := by rw [List.length_take, ha]; omega
  rw [List.drop_append, List.drop_of_length_le (by omega), List.nil_append, e, List.drop_drop]
  congr 1; omega
/-- torn: some of the first bytes are new, or some of the last. -/
theorem torn_cases {O L : List Int} (hO : SOk O) (hL : SOk L) (k : Nat) : ∃ m, m ≤ 64 ∧ (tornV O L k = L.take m ++ O.drop m ∨ tornV O L k = O.take m ++ L.drop m) := by
  unfold tornV
  have h1 := Nat.min_le_right k 64
  change Nat.min k 64 ≤ 64 at h1
  by_cases h : k < 128
  · rw [if_pos h]; exact ⟨_, h1, .inl rfl⟩
  · rw [if_neg h]; exact ⟨64 - Nat.min (k - 128) 64, by omega, .inr rfl⟩
theorem mix_whole {A B : List Int} {m : Nat} (ha : A.length = 64) (hb : B.length = 64) (hm : m ≤ 64) (wa : whole A = true) (wb : whole B = true) (hw : whole (A.take m ++ B.drop m) = true) : A.take m ++ B.drop m = A ∨ A.take m ++ B.drop m = B := by
  rcases Nat.le_total m 32 with h | h
  · right
    have e := whole_snd hw (pre_drop (B := B) ha h)
    rw [e]
    exact (whole_snd wb rfl).symm
  · left
    have e := whole_fst hw (pre_take (B := B) ha h hm)
    rw [e]
    exact (whole_fst wa rfl).symm
/-- torn over what is whole, and does no harm. -/
theorem torn_whole {rm s c1 : Nat} {nt1 O : List Int} (hn : NtOk nt1) (hs : U64 (s + 1)) (hc : U64 c1) (hO : SOk O) (wO : whole O = true) (hO2 : Harm rm s O) (k : Nat) : GoodY rm s c1 nt1 (tornV O (secV (s + 1) c1 nt1) k) := by
  have hL := secV_ok (s := s + 1) (c := c1) hn
  have wL : whole (secV (s + 1) c1 nt1) = true := sec_whole hn
  have nx : Nxt (s + 1) c1 nt1 (secV (s + 1) c1 nt1) := ⟨wL, sec_srl hn hs, sec_cnt hn hc, sec_nte hn⟩
  obtain ⟨m, hm, e | e⟩ := torn_cases hO hL k <;> rw [e]
  · by_cases hw : whole ((secV (s + 1) c1 nt1).take m ++ O.drop m) = true
    · rcases mix_whole hL.1 hO.1 hm wL wO hw with q | q <;> rw [q]
      · exact .inl nx
      · exact .inr hO2
    · exact .inr fun q => hw q.1
  · by_cases hw : whole (O.take m ++ (secV (s + 1) c1 nt1).drop m) = true
    · rcases mix_whole hO.1 hL.1 hm wO wL hw with q | q <;> rw [q]
      · exact .inr hO2
      · exact .inl nx
    · exact .inr fun q => hw q.1
/-- torn over what is not whole, where nothing lies. -/
theorem torn_clear {rm s c1 : Nat} {nt1 O : List Int} (hn : NtOk nt1) (hs : U64 (s + 1)) (hc : U64 c1) (hO : SOk O) (wO : whole O = false)
    (hl : ∀ j, 1 ≤ j → j < 64 → liesB rm s ((secV (s + 1) c1 nt1).take j ++ O.drop j) (s + 1) c1 nt1 = false ∧ liesB rm s (O.take j ++ (secV (s + 1) c1 nt1).drop j) (s + 1) c1 nt1 = false) (k : Nat) : GoodY rm s c1 nt1 (tornV O (secV (s + 1) c1 nt1) k) := by
  have hL := secV_ok (s := s + 1) (c := c1) hn
  have nx : Nxt (s + 1) c1 nt1 (secV (s + 1) c1 nt1) := ⟨sec_whole hn, sec_srl hn hs, sec_cnt hn hc, sec_nte hn⟩
  have hO2 : Harm rm s O := fun q => by rw [wO] at q; exact absurd q.1 (by simp)
  obtain ⟨m, hm, e | e⟩ := torn_cases hO hL k <;> rw [e]
  · rcases Nat.eq_zero_or_pos m with h0 | h0
    · subst h0; rw [List.take_zero, List.drop_zero, List.nil_append]; exact .inr hO2
    · rcases Nat.lt_or_ge m 64 with h1 | h1
      · exact good_lies (hl m h0 h1).1
      · rw [List.take_of_length_le (by rw [hL.1]; exact h1), List.drop_of_length_le (by rw [hO.1]; exact h1), List.append_nil]; exact .inl nx
  · rcases Nat.eq_zero_or_pos m with h0 | h0
    · subst h0; rw [List.take_zero, List.drop_zero, List.nil_append]; exact .inl nx
    · rcases Nat.lt_or_ge m 64 with h1 | h1
      · exact good_lies (hl m h0 h1).2
      · rw [List.take_of_length_le (by rw [hO.1]; exact h1), List.drop_of_length_le (by rw [hL.1]; exact h1), List.append_nil]; exact .inr hO2
theorem blank_take (O : List Int) : (blankV O).take 32 = bbL O := by
  rw [blankV, List.take_append_of_le_length (by rw [bb_len]; exact Nat.le_refl _), List.take_of_length_le (by rw [bb_len]; exact Nat.le_refl _)]
theorem blank_drop (O : List Int) : (blankV O).drop 32 = bbL O := by
  rw [blankV, List.drop_append_of_le_length (by rw [bb_len]; exact Nat.le_refl _), List.drop_of_length_le (by rw [bb_len]; exact Nat.le_refl _), List.nil_append]
/-- a blank, torn over what is not whole. -/
theorem torn_blank {rm s : Nat} {O : List Int} (hr : rm ≤ 1000) (hO : SOk O) (wO : whole O = false) (k : Nat) : Harm rm s (tornV O (blankV O) k) := by
  have hB := blank_ok hO.2
  have nw : ∀ Y : List Int, (whole Y = true → Y = blankV O ∨ Y = O ∨ False) → Harm rm s Y := fun Y h => fun q => by
    rcases h q.1 with e | e | e
    · rw [e] at q; exact harm_blank s O hr q
    · rw [e, wO] at q; exact absurd q.1 (by simp)
    · exact e
  have g0 : (blankV O)[0]? = some (255 - O.getD 32 0) := rfl
  have g63 : (blankV O)[63]? = some (255 - O.getD 31 0) := rfl
  have o32 : O[32]? = some (O.getD 32 0) := by simp [List.getD, List.getElem?_eq_getElem (show 32 < O.length by rw [hO.1]; omega)]
  have o31 : O[31]? = some (O.getD 31 0) := by simp [List.getD, List.getElem?_eq_getElem (show 31 < O.length by rw [hO.1]; omega)]
  obtain ⟨m, hm, e | e⟩ := torn_cases hO hB k <;> rw [e] <;> apply nw <;> intro hw
  · rcases Nat.eq_zero_or_pos m with h0 | h0
    · subst h0; right; left; simp
    · rcases Nat.lt_or_ge 32 m with h1 | h1
      · left
        have q := whole_fst hw ((pre_take (B := O) hB.1 (by omega) hm).trans (blank_take O))
        rw [q]; rfl
      · right; right
        have q := whole_get hw 0 (by omega)
        rw [List.getElem?_append_left (by rw [List.length_take, hB.1]; omega), List.getElem?_take, if_pos h0, g0, List.getElem?_append_right (by rw [List.length_take, hB.1]; omega), List.getElem?_drop, List.length_take, hB.1, Nat.min_eq_left hm, show m + (32 + 0 - m) = 32 by omega, o32] at q
        simp only [Option.some.injEq] at q
        omega
  · rcases Nat.lt_or_ge m 64 with h2 | h2
    · rcases Nat.lt_or_ge m 32 with h1 | h1
      · left
        have q := whole_snd hw ((pre_drop (B := blankV O) hO.1 (by omega)).trans (blank_drop O))
        rw [q]; rfl
      · right; right
        have q := whole_get hw 31 (by omega)
        rcases Nat.eq_or_lt_of_le h1 with h3 | h3
        · subst h3
          rw [List.getElem?_append_left (by rw [List.length_take, hO.1]; omega), List.getElem?_take, if_pos (by omega), o31, List.getElem?_append_right (by rw [List.length_take, hO.1]; omega), List.getElem?_drop, List.length_take, hO.1, show 32 + (32 + 31 - Nat.min 32 64) = 63 from rfl, g63] at q
          simp only [Option.some.injEq] at q
          omega
        · rw [List.getElem?_append_left (by rw [List.length_take, hO.1]; omega), List.getElem?_take, if_pos (by omega), o31, List.getElem?_append_right (by rw [List.length_take, hO.1]; omega), List.getElem?_drop, List.length_take, hO.1, Nat.min_eq_left hm, show m + (32 + 31 - m) = 63 by omega, g63] at q
          simp only [Option.some.injEq] at q
          omega
    · right; left
      rw [List.take_of_length_le (by rw [hO.1]; exact h2), List.drop_of_length_le (by rw [hB.1]; exact h2), List.append_nil]
/-- what two heads tell. -/
def opA (rm : Nat) (X0 : List Int) : Nat × Nat × List Int := if whole X0 && fitB rm (srl X0) (cntL X0) 0 then (srl X0, cntL X0, nteL X0) else (0, 0, List.replicate 16 0)
def opH (rm : Nat) (X0 X1 : List Int) : Nat × Nat × List Int := if whole X1 && (fitB rm (srl X1) (cntL X1) 1 && decide ((opA rm X0).1 ≤ srl X1)) then (srl X1, cntL X1, nteL X1) else opA rm X0
theorem fit_par {rm a c p : Nat} (h : fitB rm a c p = true) : a % 2 = p := by
  rw [fitB, Bool.and_eq_true] at h; exact of_decide_eq_true h.1
theorem opA_even (rm : Nat) (X0 : List Int) : (opA rm X0).1 % 2 = 0 := by
  unfold opA
  split
  · rename_i h; rw [Bool.and_eq_true] at h; exact fit_par h.2
  · rfl
/-- which head the state comes of. -/
theorem opH_even {rm : Nat} {X0 X1 : List Int} (h : (opH rm X0 X1).1 % 2 = 0) : opH rm X0 X1 = opA rm X0 := by
  unfold opH at *
  split
  · rename_i q
    rw [if_pos q] at h
    rw [Bool.and_eq_true, Bool.and_eq_true] at q
    have := fit_par q.2.1
    simp only at h
    omega
  · rfl
theorem opH_odd {rm : Nat} {X0 X1 : List Int} (h : (opH rm X0 X1).1 % 2 = 1) : whole X1 = true ∧ fitB rm (srl X1) (cntL X1) 1 = true ∧ opH rm X0 X1 = (srl X1, cntL X1, nteL X1) := by
  unfold opH at *
  split
  · rename_i q
    rw [Bool.and_eq_true, Bool.and_eq_true] at q
    exact ⟨q.1, q.2.1, rfl⟩
  · rename_i q
    rw [if_neg q] at h
    have := opA_even rm X0
    omega
/-- no harm: the state stays. -/
theorem op_keep {rm s c : Nat} {nt X0 X1 Y : List Int} (h : opH rm X0 X1 = (s, c, nt)) (hY : Harm rm s Y) : (s % 2 = 0 → opH rm X0 Y = (s, c, nt)) ∧ (s % 2 = 1 → opH rm Y X1 = (s, c, nt)) := by
  constructor
  · intro hs
    have e := opH_even (rm := rm) (X0 := X0) (X1 := X1) (by rw [h]; exact hs)
    rw [h] at e
    unfold opH
    rw [← e, if_neg]
    intro q
    rw [Bool.and_eq_true, Bool.and_eq_true, decide_eq_true_eq] at q
    have p := fit_par q.2.1
    exact hY ⟨q.1, by rw [show (s + 1) % 2 = 1 by omega]; exact q.2.1, by have := q.2.2; simp only at this; omega⟩
  · intro hs
    obtain ⟨w1, f1, e⟩ := opH_odd (rm := rm) (X0 := X0) (X1 := X1) (by rw [h]; exact hs)
    rw [h] at e
    have e1 : srl X1 = s := (congrArg (·.1) e).symm
    have le : (opA rm Y).1 ≤ srl X1 := by
      unfold opA
      split
      · rename_i q
        rw [Bool.and_eq_true] at q
        rw [e1]
        rcases Nat.lt_or_ge s (srl Y) with h1 | h1
        · exact absurd ⟨q.1, by rw [show (s + 1) % 2 = 0 by omega]; exact q.2, h1⟩ hY
        · exact h1
      · exact Nat.zero_le _
    unfold opH
    rw [if_pos (by rw [w1, f1, decide_eq_true le]; rfl)]
    exact e.symm
/-- the next head: the next state. -/
theorem op_next {rm s c c1 : Nat} {nt nt1 X0 X1 Y : List Int} (h : opH rm X0 X1 = (s, c, nt)) (hY : Nxt (s + 1) c1 nt1 Y) (hc : c1 ≤ rm * 64) : (s % 2 = 0 → opH rm X0 Y = (s + 1, c1, nt1)) ∧ (s % 2 = 1 → opH rm Y X1 = (s + 1, c1, nt1)) := by
  obtain ⟨w, a, b, d⟩ := hY
  constructor
  · intro hs
    have e := opH_even (rm := rm) (X0 := X0) (X1 := X1) (by rw [h]; exact hs)
    rw [h] at e
    unfold opH
    rw [← e, w, a, b, d, if_pos]
    simp only [fitB, Bool.true_and, Bool.and_eq_true, decide_eq_true_eq]
    omega
  · intro hs
    obtain ⟨w1, f1, e⟩ := opH_odd (rm := rm) (X0 := X0) (X1 := X1) (by rw [h]; exact hs)
    rw [h] at e
    have e1 : srl X1 = s := (congrArg (·.1) e).symm
    have ea : opA rm Y = (s + 1, c1, nt1) := by
      unfold opA
      rw [w, a, b, d, if_pos]
      simp only [fitB, Bool.true_and, Bool.and_eq_true, decide_eq_true_eq]
      omega
    unfold opH
    rw [ea, if_neg]
    intro q
    rw [Bool.and_eq_true, Bool.and_eq_true, decide_eq_true_eq] at q
    have := q.2.2
    simp only at this
    omega
/-- the other head does no harm. -/
theorem op_other {rm s c : Nat} {nt X0 X1 : List Int} (h : opH rm X0 X1 = (s, c, nt)) : (s % 2 = 0 → Harm rm s X1) ∧ (s % 2 = 1 → Harm rm s X0) := by
  constructor
  · intro hs q
    have e := opH_even (rm := rm) (X0 := X0) (X1 := X1) (by rw [h]; exact hs)
    rw [h] at e
    rw [show (s + 1) % 2 = 1 by omega] at q
    have e2 : opH rm X0 X1 = (srl X1, cntL X1, nteL X1) := by
      unfold opH
      rw [if_pos]
      rw [q.1, q.2.1, ← e]
      simp only [Bool.true_and, decide_eq_true_eq]
      exact Nat.le_of_lt q.2.2
    rw [h] at e2
    have := congrArg (·.1) e2
    have q3 := q.2.2
    simp only at this
    omega
  · intro hs q
    obtain ⟨w1, f1, e⟩ := opH_odd (rm := rm) (X0 := X0) (X1 := X1) (by rw [h]; exact hs)
    rw [h] at e
    have e1 : srl X1 = s := (congrArg (·.1) e).symm
    rw [show (s + 1) % 2 = 0 by omega] at q
    have ea : (opA rm X0).1 = srl X0 := by
      unfold opA
      rw [if_pos (by rw [q.1, q.2.1]; rfl)]
    have e2 : opH rm X0 X1 = opA rm X0 := by
      unfold opH
      rw [if_neg]
      intro p
      rw [Bool.and_eq_true, Bool.and_eq_true, decide_eq_true_eq, ea] at p
      have := p.2.2
      have := q.2.2
      omega
    rw [h] at e2
    have := congrArg (·.1) e2
    simp only at this
    have := q.2.2
    omega
end Go.Proofs.Yteabblmhcjpboaa.D
