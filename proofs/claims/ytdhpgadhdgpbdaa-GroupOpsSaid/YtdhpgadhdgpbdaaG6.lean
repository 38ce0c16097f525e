import Derived.Test.YtdhpgadhdgpbdaaG5
namespace Go.Proofs.Ytdhpgadhdgpbdaa
open Go.RowKit

/-- what stays true of a group: its owner is a member; who is gone is none; a group without an owner has nobody. -/
structure Inv (g : Grp) : Prop where
  own : g.o = 0 ∨ ∃ k : Nat, k < 6 ∧ g.o = (k : Int) + 1 ∧ g.M k = true
  e0 : 0 ≤ g.e
  e1 : g.e ≤ 255
  apart : ∀ k : Nat, k < 6 → g.M k = true → g.G k = false
  none : g.o = 0 → ∀ k : Nat, k < 6 → g.G k = false
theorem inv_zero : Inv zg := ⟨.inl rfl, by decide, by decide, fun _ _ _ => rfl, fun _ _ _ => rfl⟩
theorem upd_same {α : Type} (f : Nat → α) (k : Nat) (v : α) : upd f k v k = v := by simp [upd]
theorem upd_other {α : Type} (f : Nat → α) (k i : Nat) (v : α) (h : i ≠ k) : upd f k v i = f i := by simp [upd, h]
theorem kn (k : Nat) : ((k : Int) + 1 - 1).toNat = k := by omega

/-- what is known behind a step that may be. -/
structure Stepped (g g' : Grp) (wr op mb cut : Int) : Prop where
  inv : Inv g'
  own : ∃ k : Nat, k < 6 ∧ g'.o = (k : Int) + 1 ∧ g'.M k = true
  ops : op = 1 ∨ op = 2 ∨ op = 3 ∨ op = 4 ∨ op = 5
  e : g.e ≤ g'.e
  s : g'.s = g.s + 1
  add : op = 2 → ∃ k : Nat, k < 6 ∧ mb = (k : Int) + 1 ∧ g'.M k = true
  remove : op = 3 → ∃ k : Nat, k < 6 ∧ mb = (k : Int) + 1 ∧ g'.M k = false ∧ g'.G k = true ∧ g'.C k = cut
  gone : ∀ k : Nat, k < 6 → g.G k = true → g'.G k = true ∧ g'.C k = g.C k
theorem stepped (g : Grp) (wr op mb cut : Int) (hI : Inv g) (hm : mayI g wr op mb = 0) : Stepped g (behindG g wr op mb cut) wr op mb cut := by
  unfold mayI at hm
  cases ha : askedB wr op mb
  · rw [if_pos ha] at hm; omega
  rw [if_neg (by rw [ha]; simp)] at hm
  cases hf : fitsB g wr op mb
  · rw [if_pos hf] at hm; omega
  rw [if_neg (by rw [hf]; simp)] at hm
  have he : ¬ (op ≠ 5 ∧ 255 ≤ g.e) := fun h => by rw [if_pos h] at hm; omega
  have ha' := ha
  unfold askedB at ha'
  simp only [Bool.and_eq_true, decide_eq_true_eq] at ha'
  obtain ⟨⟨hw, hop1, hop5⟩, hmb⟩ := ha'
  have hop : op = 1 ∨ op = 2 ∨ op = 3 ∨ op = 4 ∨ op = 5 := by omega
  have e0 := hI.e0
  have e1 := hI.e1
  unfold behindG
  rw [if_neg (by rw [ha]; simp)]
  unfold fitsB at hf
  rcases hop with rfl | rfl | rfl | rfl | rfl
  · obtain ⟨k, hk, rfl⟩ := known_nat wr hw
    simp at hf
    simp only [if_true, kn]
    refine ⟨⟨.inr ⟨k, hk, rfl, upd_same _ _ _⟩, by simp; omega, by simp; omega, fun i hi _ => hI.none hf i hi, fun h => by simp at h; omega⟩, ⟨k, hk, rfl, upd_same _ _ _⟩, by simp, by simp; omega, rfl, fun h => by omega, fun h => by omega, fun i hi h => ⟨h, rfl⟩⟩
  · rw [if_pos (by simp)] at hmb
    obtain ⟨k, hk, rfl⟩ := known_nat mb hmb
    simp [kn] at hf
    obtain ⟨hwo, hM, hG⟩ := hf
    have hn : g.o ≠ 0 := by
      intro h0
      obtain ⟨j, hj, hj2⟩ := known_nat wr hw
      omega
    obtain ⟨ko, hko, hko2, hko3⟩ := hI.own.resolve_left hn
    have hM2 : upd g.M k true ko = true := by
      by_cases h : ko = k
      · subst h; exact upd_same _ _ _
      · rw [upd_other _ _ _ _ h]; exact hko3
    simp only [kn]
    refine ⟨⟨.inr ⟨ko, hko, hko2, hM2⟩, by simp; omega, by simp; omega, fun i hi h => ?_, fun h => absurd h hn⟩, ⟨ko, hko, hko2, hM2⟩, by simp, by simp; omega, rfl, fun _ => ⟨k, hk, rfl, upd_same _ _ _⟩, fun h => by omega, fun i hi h => ⟨h, rfl⟩⟩
    by_cases hik : i = k
    · subst hik; exact hG
    · exact hI.apart i hi (by simpa [upd_other _ _ _ _ hik] using h)
  · rw [if_pos (by simp)] at hmb
    obtain ⟨k, hk, rfl⟩ := known_nat mb hmb
    simp [kn] at hf
    obtain ⟨hwo, hM, hno⟩ := hf
    have hn : g.o ≠ 0 := by
      intro h0
      obtain ⟨j, hj, hj2⟩ := known_nat wr hw
      omega
    obtain ⟨ko, hko, hko2, hko3⟩ := hI.own.resolve_left hn
    have hkk : ko ≠ k := fun h => by subst h; omega
    have hM2 : upd g.M k false ko = true := by rw [upd_other _ _ _ _ hkk]; exact hko3
    have hgk := hI.apart k hk hM
    simp only [kn]
    refine ⟨⟨.inr ⟨ko, hko, hko2, hM2⟩, by simp; omega, by simp; omega, fun i hi h => ?_, fun h => absurd h hn⟩, ⟨ko, hko, hko2, hM2⟩, by simp, by simp; omega, rfl, fun h => by omega, fun _ => ⟨k, hk, rfl, upd_same _ _ _, upd_same _ _ _, upd_same _ _ _⟩, fun i hi h => ?_⟩
    · by_cases hik : i = k
      · subst hik; simp [upd_same] at h
      · have h2 : g.M i = true := by simpa [upd_other _ _ _ _ hik] using h
        simp [upd_other _ _ _ _ hik, hI.apart i hi h2]
    · have hik : i ≠ k := fun e => by subst e; rw [hgk] at h; cases h
      simp [upd_other _ _ _ _ hik, h]
  · have hn : g.o ≠ 0 := by
      intro h0
      obtain ⟨j, hj, hj2⟩ := known_nat wr hw
      simp at hf
      omega
    obtain ⟨ko, hko, hko2, hko3⟩ := hI.own.resolve_left hn
    refine ⟨⟨.inr ⟨ko, hko, hko2, hko3⟩, by simp; omega, by simp; omega, hI.apart, fun h => absurd h hn⟩, ⟨ko, hko, hko2, hko3⟩, by simp, by simp; omega, rfl, fun h => by omega, fun h => by omega, fun i hi h => ⟨h, rfl⟩⟩
  · rw [if_pos (by simp)] at hmb
    obtain ⟨k, hk, rfl⟩ := known_nat mb hmb
    simp [kn] at hf
    obtain ⟨hwo, hM, hno⟩ := hf
    refine ⟨⟨.inr ⟨k, hk, rfl, hM⟩, e0, e1, hI.apart, fun h => by simp at h; omega⟩, ⟨k, hk, rfl, hM⟩, by simp, by simp, rfl, fun h => by omega, fun h => by omega, fun i hi h => ⟨h, rfl⟩⟩
end Go.Proofs.Ytdhpgadhdgpbdaa
