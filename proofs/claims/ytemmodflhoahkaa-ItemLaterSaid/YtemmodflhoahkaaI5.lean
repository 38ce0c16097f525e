import Derived.Test.YtemmodflhoahkaaI3
import Derived.OpenShut
import Derived.ProofKit
namespace Go.Proofs.Ytemmodflhoahkaa
open Go.RowKit

theorem head_of {l : List Value} {k : Nat} {v : Value} (h : (l.drop k).take 1 = [v]) : l[k]? = some v := by
  have h1 : ((l.drop k).take 1)[0]? = some v := by rw [h]; rfl
  simpa using h1
theorem open_hdr {H : Type} {enc : TypeId × Value → H} {W : World} {base b0 : Nat} {r : Reach} {spare : Nat → Bool} {held : Bool} {v : Value} {d : DataW H} {ps : List MemPlace}
    (hval : Value.okWide Try.prog W r b0 30 v) (hd : DataW.Trod enc Try.prog W base spare held 30 v d ps) : ∃ (l : List Value) (a b c : Int), v = .agg l.toArray ∧ Hd l.toArray a b c := by
  simp only [Value.okWide, Try.underlying30] at hval
  obtain ⟨cs, rfl, hsz, _⟩ := hval
  obtain ⟨fuel, hf⟩ := hd
  simp only [Value.cells] at hf
  obtain ⟨xs, m, _, _, hlen, hl, hel⟩ := DataW.trod_struct Try.underlying30 hf
  have c3 : Try.prog.cellsOf 3 = 1 := by kernel_rfl
  have c22 : Try.prog.cellsOf 22 = 1 := by kernel_rfl
  have c30 : Try.prog.cellsOf 30 = 125 := by kernel_rfl
  have e0 : DataW.trod enc Try.prog W base spare held m 3 ((cs.toList.drop 0).take (Try.prog.cellsOf 3)) = xs[0]? := hel 0 _ rfl
  have e1 : DataW.trod enc Try.prog W base spare held m 22 ((cs.toList.drop 1).take (Try.prog.cellsOf 22)) = xs[1]? := hel 1 _ rfl
  have e5 : DataW.trod enc Try.prog W base spare held m 22 ((cs.toList.drop 36).take (Try.prog.cellsOf 22)) = xs[5]? := hel 5 _ rfl
  simp only [c3, c22] at e0 e1 e5
  rw [List.getElem?_eq_getElem (by rw [hl]; decide)] at e0 e1 e5
  obtain ⟨a, h0, _, _⟩ := DataW.trod_int Try.underlying3 e0
  obtain ⟨b, h1, _, _⟩ := DataW.trod_int Try.underlying22 e1
  obtain ⟨c, h5, _, _⟩ := DataW.trod_int Try.underlying22 e5
  refine ⟨cs.toList, a, b, c, by simp, ?_, ?_, ?_, ?_⟩
  · simp [hsz, c30]
  · have := head_of h0; simpa using this
  · have := head_of h1; simpa using this
  · have := head_of h5; simpa using this
end Go.Proofs.Ytemmodflhoahkaa
