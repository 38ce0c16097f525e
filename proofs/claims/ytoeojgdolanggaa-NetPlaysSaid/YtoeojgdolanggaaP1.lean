import Derived.Test.YtoeojgdolanggaaN7
import Derived.Test.YtoeojgdolanggaaN10
import Derived.Test.YtoeojgdolanggaaOps
import Derived.Test.YtoeojgdolanggaaHeldAll
import Derived.Test.YtoeojgdolanggaaOpen
import Derived.OpenShut
import Derived.StillTailTactics
namespace Go.Proofs.Ytoeojgdolanggaa
open Go Go.RowKit Go.ChangeShapes Go.WideShapes Go.ChangeAt
set_option maxRecDepth 100000
theorem add_off (b off n : Nat) (sp : Option Nat) (h : sp = none) : (⟨b, off, sp⟩ : Addr).add n = ⟨b, off + n, none⟩ := by
  subst h
  unfold Addr.add
  split
  · rename_i h0; subst h0; rfl
  · rfl
theorem cell_spot {w : World} {b o : Nat} {sp : Option Nat} {v : Value} (h : w.cell? ⟨b, o, sp⟩ = some v) : sp = none := by
  cases sp with
  | none => rfl
  | some x =>
    unfold World.cell? at h
    split at h <;> simp at h
theorem cell_of_head {l : List Value} {k : Nat} {v : Value} (h : (l.drop k).take 1 = [v]) : l[k]? = some v := by
  have h1 : ((l.drop k).take 1)[0]? = some v := by rw [h]; rfl
  simpa using h1
/-- a call that lies at an address: its kind, its number, its letter. -/
def OpAt (w : World) (g o : Nat) (q I f t : Int) (a : Option Addr) (n c : Nat) (bs : List Int) : Prop :=
  w.cell? ⟨g, o, none⟩ = some (.int .u8 q) ∧ w.cell? ⟨g, o + 1, none⟩ = some (.int .i64 I) ∧ w.cell? ⟨g, o + 2, none⟩ = some (.int .i64 f) ∧ w.cell? ⟨g, o + 3, none⟩ = some (.int .i64 t) ∧ w.cell? ⟨g, o + 4, none⟩ = some (.slice a n c) ∧ (0 ≤ q ∧ q < 256) ∧ (-9223372036854775808 ≤ I ∧ I < 9223372036854775808) ∧ IsRow .u8 w a n c bs
/-- a slice of calls. -/
def OpsAt (w : World) (a : Option Addr) (len cap : Nat) : Prop :=
  len = 0 ∨ ∃ g o, a = some ⟨g, o, none⟩ ∧ len ≤ cap ∧ cap ≤ maxLen ∧ ∀ k, k < len → ∃ q I f t a' n c bs, OpAt w g (o + k * 5) q I f t a' n c bs
theorem open_ops {H : Type} {enc : TypeId × Value → H} {W : World} {held : Bool} {a : Option Addr} {len cap : Nat} {d : DataW H} {ps : List MemPlace}
    (hd : DataW.Trod enc Try.prog W 0 (fun _ => true) held 34 (.slice a len cap) d ps) : OpsAt W a len cap := by
  obtain ⟨fuel, hf⟩ := hd
  simp only [Value.cells] at hf
  rcases DataW.trod_slice Try.underlying34 hf with ⟨hcs, _⟩ | ⟨x, l, c, elems, rest, n, _, hcs, _, _, hl, hm, hlen, hel, _, _⟩
  · simp at hcs
    obtain ⟨rfl, rfl, rfl⟩ := hcs
    exact .inl rfl
  · simp at hcs
    obtain ⟨rfl, rfl, rfl⟩ := hcs
    have c45 : Try.prog.cellsOf 45 = 5 := by kernel_rfl
    have c43 : Try.prog.cellsOf 43 = 3 := by kernel_rfl
    have c5 : Try.prog.cellsOf 5 = 1 := by kernel_rfl
    have c3 : Try.prog.cellsOf 3 = 1 := by kernel_rfl
    have c30 : Try.prog.cellsOf 30 = 1 := by kernel_rfl
    have key : ∀ k, k < len → ∃ q I f t : Int, ∃ a' n c bs, W.cell? ((x.add (k * 5)).add 0) = some (.int .u8 q) ∧ W.cell? ((x.add (k * 5)).add 1) = some (.int .i64 I) ∧ W.cell? ((x.add (k * 5)).add 2) = some (.int .i64 f) ∧ W.cell? ((x.add (k * 5)).add 3) = some (.int .i64 t) ∧ W.cell? ((x.add (k * 5)).add 4) = some (.slice a' n c) ∧ (0 ≤ q ∧ q < 256) ∧ (-9223372036854775808 ≤ I ∧ I < 9223372036854775808) ∧ IsRow .u8 W a' n c bs := by
      intro k hk
      have h1 := hel k hk
      rw [List.getElem?_eq_getElem (by omega), c45] at h1
      obtain ⟨cs, hc, ht⟩ := Option.bind_eq_some_iff.1 h1
      obtain ⟨_, hcl, hat⟩ := World.cells?_some hc
      obtain ⟨xs, m, _, _, hlen2, hxs, hfl⟩ := DataW.trod_struct Try.underlying45 ht
      have e0 : DataW.trod enc Try.prog W 0 (fun _ => true) held m 5 ((cs.drop 0).take (Try.prog.cellsOf 5)) = xs[0]? := hfl 0 _ rfl
      have e1 : DataW.trod enc Try.prog W 0 (fun _ => true) held m 3 ((cs.drop 1).take (Try.prog.cellsOf 3)) = xs[1]? := hfl 1 _ rfl
      have e2 : DataW.trod enc Try.prog W 0 (fun _ => true) held m 43 ((cs.drop 2).take (Try.prog.cellsOf 43)) = xs[2]? := hfl 2 _ rfl
      simp only [c5, c3, c43] at e0 e1 e2
      rw [List.getElem?_eq_getElem (by rw [hxs]; decide)] at e0 e1 e2
      obtain ⟨ys, m2, _, _, hlen3, hys, hfl2⟩ := DataW.trod_struct Try.underlying43 e2
      have d0 : DataW.trod enc Try.prog W 0 (fun _ => true) held m2 3 ((((cs.drop 2).take 3).drop 0).take (Try.prog.cellsOf 3)) = ys[0]? := hfl2 0 _ rfl
      have d1 : DataW.trod enc Try.prog W 0 (fun _ => true) held m2 3 ((((cs.drop 2).take 3).drop 1).take (Try.prog.cellsOf 3)) = ys[1]? := hfl2 1 _ rfl
      have d2 : DataW.trod enc Try.prog W 0 (fun _ => true) held m2 30 ((((cs.drop 2).take 3).drop 2).take (Try.prog.cellsOf 30)) = ys[2]? := hfl2 2 _ rfl
      simp only [c3, c30] at d0 d1 d2
      rw [List.getElem?_eq_getElem (by rw [hys]; decide)] at d0 d1 d2
      have q2 : (((cs.drop 2).take 3).drop 0).take 1 = (cs.drop 2).take 1 := by simp [List.drop_take, List.take_take]
      have q3 : (((cs.drop 2).take 3).drop 1).take 1 = (cs.drop 3).take 1 := by simp [List.drop_take, List.take_take]
      have q4 : (((cs.drop 2).take 3).drop 2).take 1 = (cs.drop 4).take 1 := by simp [List.drop_take, List.take_take]
      rw [q2] at d0
      rw [q3] at d1
      rw [q4] at d2
      obtain ⟨q, h0, _, p0⟩ := DataW.trod_int Try.underlying5 e0
      obtain ⟨I, h1, _, p1⟩ := DataW.trod_int Try.underlying3 e1
      obtain ⟨f, h2, _, p2⟩ := DataW.trod_int Try.underlying3 d0
      obtain ⟨t, h3, _, p3⟩ := DataW.trod_int Try.underlying3 d1
      have g0 := bounds_u8 p0
      have g1 := bounds_i64 p1
      refine ⟨q, I, f, t, ?_⟩
      have C0 := (hat 0 (by omega)).trans (cell_of_head h0)
      have C1 := (hat 1 (by omega)).trans (cell_of_head h1)
      have C2 := (hat 2 (by omega)).trans (cell_of_head h2)
      have C3 := (hat 3 (by omega)).trans (cell_of_head h3)
      rcases open_ints Try.underlying30 Try.underlying5 (by kernel_rfl) d2 with ⟨hcs, _⟩ | ⟨y, l, c, zs, hcs, _, hl', hm', hz, _, hcell, hwz⟩
      · exact ⟨none, 0, 0, [], C0, C1, C2, C3, (hat 4 (by omega)).trans (cell_of_head hcs), by omega, by omega, .inl ⟨rfl, rfl, rfl, rfl⟩⟩
      · exact ⟨some y, l, c, zs, C0, C1, C2, C3, (hat 4 (by omega)).trans (cell_of_head hcs), by omega, by omega, .inr ⟨_, rfl, hl', hm', hz, hcell, hwz⟩⟩
    obtain ⟨b, off, sp⟩ := x
    by_cases h0 : len = 0
    · exact .inl h0
    · have hsp : sp = none := by
        obtain ⟨_, _, _, _, _, _, _, _, h, _⟩ := key 0 (by omega)
        exact cell_spot h
      refine .inr ⟨b, off, by rw [hsp], hl, hm, fun k hk => ?_⟩
      have h := key k hk
      subst hsp
      simpa only [add_off, Nat.add_zero, OpAt] using h
end Go.Proofs.Ytoeojgdolanggaa
