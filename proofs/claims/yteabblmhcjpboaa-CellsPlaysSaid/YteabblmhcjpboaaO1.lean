import Derived.Test.YteabblmhcjpboaaC18
import Derived.Test.YteabblmhcjpboaaOpen
import Derived.OpenShut
import Derived.StillTailTactics
namespace Go.Proofs.Yteabblmhcjpboaa.D
open Go Go.RowKit Go.ChangeShapes Go.WideShapes Go.ChangeAt
set_option maxRecDepth 100000
theorem add_off (b off n : Nat) (sp : Option Nat) (h : sp = none) : (⟨b, off, sp⟩ : Addr).add n = ⟨b, off + n, none⟩ := by
  subst h
  unfold Addr.add
  split
  · rename_i h0; subst h0; rfl
  · rfl
theorem cell_spot {w : World} {b o : Nat} {sp : Option Nat} {v : Value} (h : w.cell? ⟨b, o, sp⟩ = some v) : sp = none := by
  cases sp with
  | none => rfl
  | some x =>
    unfold World.cell? at h
    split at h <;> simp at h
theorem cell_of_head {l : List Value} {k : Nat} {v : Value} (h : (l.drop k).take 1 = [v]) : l[k]? = some v := by
  have h1 : ((l.drop k).take 1)[0]? = some v := by rw [h]; rfl
  simpa using h1
/-- a call that lies at an address: its kind, its number, its byte, its bytes. -/
def OpAt (w : World) (g o : Nat) (q I X : Int) (a : Option Addr) (n c : Nat) (bs : List Int) : Prop :=
  w.cell? ⟨g, o, none⟩ = some (.int .u8 q) ∧ w.cell? ⟨g, o + 1, none⟩ = some (.int .u8 X) ∧ w.cell? ⟨g, o + 2, none⟩ = some (.int .i64 I) ∧ w.cell? ⟨g, o + 3, none⟩ = some (.slice a n c) ∧ (0 ≤ q ∧ q < 256) ∧ (-9223372036854775808 ≤ I ∧ I < 9223372036854775808) ∧ (0 ≤ X ∧ X < 256) ∧ IsRow .u8 w a n c bs
/-- a slice of calls. -/
def OpsAt (w : World) (a : Option Addr) (len cap : Nat) : Prop :=
  len = 0 ∨ ∃ g o, a = some ⟨g, o, none⟩ ∧ len ≤ cap ∧ cap ≤ maxLen ∧ ∀ k, k < len → ∃ q I X a' n c bs, OpAt w g (o + k * 4) q I X a' n c bs
theorem open_ops {H : Type} {enc : TypeId × Value → H} {W : World} {held : Bool} {a : Option Addr} {len cap : Nat} {d : DataW H} {ps : List MemPlace}
    (hd : DataW.Trod enc Try.prog W 0 (fun _ => true) held 49 (.slice a len cap) d ps) : OpsAt W a len cap := by
  obtain ⟨fuel, hf⟩ := hd
  simp only [Value.cells] at hf
  rcases DataW.trod_slice Try.underlying49 hf with ⟨hcs, _⟩ | ⟨x, l, c, elems, rest, n, _, hcs, _, _, hl, hm, hlen, hel, _, _⟩
  · simp at hcs
    obtain ⟨rfl, rfl, rfl⟩ := hcs
    exact .inl rfl
  · simp at hcs
    obtain ⟨rfl, rfl, rfl⟩ := hcs
    have c38 : Try.prog.cellsOf 52 = 4 := by kernel_rfl
    have c5 : Try.prog.cellsOf 5 = 1 := by kernel_rfl
    have c3 : Try.prog.cellsOf 3 = 1 := by kernel_rfl
    have c22 : Try.prog.cellsOf 26 = 1 := by kernel_rfl
    have key : ∀ k, k < len → ∃ q I X : Int, ∃ a' n c bs, W.cell? ((x.add (k * 4)).add 0) = some (.int .u8 q) ∧ W.cell? ((x.add (k * 4)).add 1) = some (.int .u8 X) ∧ W.cell? ((x.add (k * 4)).add 2) = some (.int .i64 I) ∧ W.cell? ((x.add (k * 4)).add 3) = some (.slice a' n c) ∧ (0 ≤ q ∧ q < 256) ∧ (-9223372036854775808 ≤ I ∧ I < 9223372036854775808) ∧ (0 ≤ X ∧ X < 256) ∧ IsRow .u8 W a' n c bs := by
      intro k hk
      have h1 := hel k hk
      rw [List.getElem?_eq_getElem (by omega), c38] at h1
      obtain ⟨cs, hc, ht⟩ := Option.bind_eq_some_iff.1 h1
      obtain ⟨_, hcl, hat⟩ := World.cells?_some hc
      obtain ⟨xs, m, _, _, hlen2, hxs, hfl⟩ := DataW.trod_struct Try.underlying52 ht
      have e0 : DataW.trod enc Try.prog W 0 (fun _ => true) held m 5 ((cs.drop 0).take (Try.prog.cellsOf 5)) = xs[0]? := hfl 0 _ rfl
      have e1 : DataW.trod enc Try.prog W 0 (fun _ => true) held m 5 ((cs.drop 1).take (Try.prog.cellsOf 5)) = xs[1]? := hfl 1 _ rfl
      have e2 : DataW.trod enc Try.prog W 0 (fun _ => true) held m 3 ((cs.drop 2).take (Try.prog.cellsOf 3)) = xs[2]? := hfl 2 _ rfl
      have e3 : DataW.trod enc Try.prog W 0 (fun _ => true) held m 26 ((cs.drop 3).take (Try.prog.cellsOf 26)) = xs[3]? := hfl 3 _ rfl
      simp only [c5, c3, c22] at e0 e1 e2 e3
      rw [List.getElem?_eq_getElem (by rw [hxs]; decide)] at e0 e1 e2 e3
      obtain ⟨q, h0, _, q0⟩ := DataW.trod_int Try.underlying5 e0
      obtain ⟨X, h1, _, q1⟩ := DataW.trod_int Try.underlying5 e1
      obtain ⟨I, h2, _, q2⟩ := DataW.trod_int Try.underlying3 e2
      have g0 := bounds_u8 q0
      have g1 := bounds_u8 q1
      have g2 := bounds_i64 q2
      refine ⟨q, I, X, ?_⟩
      rcases open_ints Try.underlying26 Try.underlying5 (by kernel_rfl) e3 with ⟨hcs, _⟩ | ⟨y, l, c, zs, hcs, _, hl', hm', hz, _, hcell, hwz⟩
      · exact ⟨none, 0, 0, [], (hat 0 (by omega)).trans (cell_of_head h0), (hat 1 (by omega)).trans (cell_of_head h1), (hat 2 (by omega)).trans (cell_of_head h2), (hat 3 (by omega)).trans (cell_of_head hcs), by omega, by omega, by omega, .inl ⟨rfl, rfl, rfl, rfl⟩⟩
      · exact ⟨some y, l, c, zs, (hat 0 (by omega)).trans (cell_of_head h0), (hat 1 (by omega)).trans (cell_of_head h1), (hat 2 (by omega)).trans (cell_of_head h2), (hat 3 (by omega)).trans (cell_of_head hcs), by omega, by omega, by omega, .inr ⟨_, rfl, hl', hm', hz, hcell, hwz⟩⟩
    obtain ⟨b, off, sp⟩ := x
    by_cases h0 : len = 0
    · exact .inl h0
    · have hsp : sp = none := by
        obtain ⟨_, _, _, _, _, _, _, h, _⟩ := key 0 (by omega)
        exact cell_spot h
      refine .inr ⟨b, off, by rw [hsp], hl, hm, fun k hk => ?_⟩
      have h := key k hk
      subst hsp
      simpa only [add_off, Nat.add_zero, OpAt] using h
end Go.Proofs.Yteabblmhcjpboaa.D
