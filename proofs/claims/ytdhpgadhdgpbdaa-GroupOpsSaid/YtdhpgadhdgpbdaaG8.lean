import Derived.Test.YtdhpgadhdgpbdaaG7
import Derived.OpenShut
import Derived.ProofKit
import Derived.ChangeArms
namespace Go.Proofs.Ytdhpgadhdgpbdaa
open Go.RowKit

/-- a slice of steps that came in. -/
def AreSteps (w : World) (a : Option Addr) (len cap : Nat) : Prop :=
  len = 0 ∨ ∃ b off : Nat, a = some ⟨b, off, none⟩ ∧ len ≤ cap ∧ cap ≤ maxLen ∧
    ∀ k, k < len → ∃ wr op mb cut : Int, w.cell? ⟨b, off + k * 4, none⟩ = some (.int .i64 wr) ∧ w.cell? ⟨b, off + k * 4 + 1, none⟩ = some (.int .i64 op) ∧ w.cell? ⟨b, off + k * 4 + 2, none⟩ = some (.int .i64 mb) ∧ w.cell? ⟨b, off + k * 4 + 3, none⟩ = some (.int .u64 cut)
theorem counts_long (a : Option Addr) (len cap : Nat) (q : Int) (w : World) (hlen : 60 < len) (hm : len ≤ maxLen) :
    Calls Try.prog 3 #[.slice a len cap, .int .u64 q] w fun e w' => e = .returned (.bool true) ∧ Below w.heap.size w w' := by
  have hl : (60 : Int) < (len : Int) := by omega
  unfold maxLen at hm
  go_enter Try.func3, Try.ntmps3
  go_wp2_with fail
  refine (awake_any _).mono ?_
  rintro e w1 ⟨rfl, hb⟩
  have HB := Lib.hid hb
  clear hb
  go_wp2_with fail
  refine (awake_any _).mono ?_
  rintro e w2 ⟨rfl, hb2⟩
  have B2 : Hid (Below w.heap.size w w2) := Lib.hid (HB.out.trans (hb2.mono HB.out.size))
  clear hb2 HB
  go_wp2_with fail
  go_ret
  exact ⟨rfl, B2.out⟩
theorem counts_none (a : Option Addr) (cap : Nat) (q : Int) (w : World) :
    Calls Try.prog 3 #[.slice a 0 cap, .int .u64 q] w fun e w' => e = .returned (.bool true) ∧ Below w.heap.size w w' := by
  go_enter Try.func3, Try.ntmps3
  go_wp2_with fail
  refine (awake_any _).mono ?_
  rintro e w1 ⟨rfl, hb⟩
  have HB := Lib.hid hb
  clear hb
  go_wp2_with fail
  refine wp_loop_rounds 1 ?_
  rw [rounds_succ]
  go_wp2_with fail
  go_ret
  exact ⟨rfl, HB.out.alloc HB.out.size _⟩
theorem add_off (b off n : Nat) (sp : Option Nat) (h : sp = none) : (⟨b, off, sp⟩ : Addr).add n = ⟨b, off + n, none⟩ := by
  subst h
  unfold Addr.add
  split
  · rename_i h0; subst h0; rfl
  · rfl
theorem cell_spot {w : World} {b o : Nat} {sp : Option Nat} {v : Value} (h : w.cell? ⟨b, o, sp⟩ = some v) : sp = none := by
  cases sp with
  | none => rfl
  | some x =>
    unfold World.cell? at h
    split at h <;> simp at h
theorem cell_of_head {l : List Value} {k : Nat} {v : Value} (h : (l.drop k).take 1 = [v]) : l[k]? = some v := by
  have h1 : ((l.drop k).take 1)[0]? = some v := by rw [h]; rfl
  simpa using h1
theorem open_steps {H : Type} {enc : TypeId × Value → H} {W : World} {held : Bool} {a : Option Addr} {len cap : Nat} {d : DataW H} {ps : List MemPlace}
    (hd : DataW.Trod enc Try.prog W 0 (fun _ => true) held 22 (.slice a len cap) d ps) : AreSteps W a len cap := by
  obtain ⟨fuel, hf⟩ := hd
  simp only [Value.cells] at hf
  rcases DataW.trod_slice Try.underlying22 hf with ⟨hcs, _⟩ | ⟨x, l, c, elems, rest, n, _, hcs, _, _, hl, hm, hlen, hel, _, _⟩
  · simp at hcs
    obtain ⟨rfl, rfl, rfl⟩ := hcs
    exact .inl rfl
  · simp at hcs
    obtain ⟨rfl, rfl, rfl⟩ := hcs
    have c30 : Try.prog.cellsOf 30 = 4 := by kernel_rfl
    have c3 : Try.prog.cellsOf 3 = 1 := by kernel_rfl
    have c23 : Try.prog.cellsOf 23 = 1 := by kernel_rfl
    have key : ∀ k, k < len → ∃ wr op mb cut : Int, W.cell? ((x.add (k * 4)).add 0) = some (.int .i64 wr) ∧ W.cell? ((x.add (k * 4)).add 1) = some (.int .i64 op) ∧ W.cell? ((x.add (k * 4)).add 2) = some (.int .i64 mb) ∧ W.cell? ((x.add (k * 4)).add 3) = some (.int .u64 cut) := by
      intro k hk
      have h1 := hel k hk
      rw [List.getElem?_eq_getElem (by omega), c30] at h1
      obtain ⟨cs, hc, ht⟩ := Option.bind_eq_some_iff.1 h1
      obtain ⟨_, hcl, hat⟩ := World.cells?_some hc
      obtain ⟨xs, m, _, _, hlen2, hxs, hfl⟩ := DataW.trod_struct Try.underlying30 ht
      have e0 : DataW.trod enc Try.prog W 0 (fun _ => true) held m 3 ((cs.drop 0).take (Try.prog.cellsOf 3)) = xs[0]? := hfl 0 _ rfl
      have e1 : DataW.trod enc Try.prog W 0 (fun _ => true) held m 3 ((cs.drop 1).take (Try.prog.cellsOf 3)) = xs[1]? := hfl 1 _ rfl
      have e2 : DataW.trod enc Try.prog W 0 (fun _ => true) held m 3 ((cs.drop 2).take (Try.prog.cellsOf 3)) = xs[2]? := hfl 2 _ rfl
      have e3 : DataW.trod enc Try.prog W 0 (fun _ => true) held m 23 ((cs.drop 3).take (Try.prog.cellsOf 23)) = xs[3]? := hfl 3 _ rfl
      simp only [c3, c23] at e0 e1 e2 e3
      rw [List.getElem?_eq_getElem (by rw [hxs]; decide)] at e0 e1 e2 e3
      obtain ⟨p, h0, _, _⟩ := DataW.trod_int Try.underlying3 e0
      obtain ⟨q, h1, _, _⟩ := DataW.trod_int Try.underlying3 e1
      obtain ⟨r, h2, _, _⟩ := DataW.trod_int Try.underlying3 e2
      obtain ⟨s, h3, _, _⟩ := DataW.trod_int Try.underlying23 e3
      exact ⟨p, q, r, s, (hat 0 (by omega)).trans (cell_of_head h0), (hat 1 (by omega)).trans (cell_of_head h1), (hat 2 (by omega)).trans (cell_of_head h2), (hat 3 (by omega)).trans (cell_of_head h3)⟩
    obtain ⟨b, off, sp⟩ := x
    by_cases h0 : len = 0
    · exact .inl h0
    · have hsp : sp = none := by
        obtain ⟨_, _, _, _, h, _⟩ := key 0 (by omega)
        exact cell_spot h
      refine .inr ⟨b, off, by rw [hsp], hl, hm, fun k hk => ?_⟩
      have h := key k hk
      subst hsp
      simpa only [add_off, Nat.add_zero] using h
theorem walkGroupCounts (a : Option Addr) (len cap : Nat) (q : Int) (wq : (Lit.int .u64 q).wf = true) (w : World) (hs : AreSteps w a len cap) :
    Calls Try.prog 3 #[.slice a len cap, .int .u64 q] w fun e w' => e = .returned (.bool true) ∧ Below w.heap.size w w' := by
  rcases hs with rfl | ⟨b, off, rfl, hl, hm, hst⟩
  · exact counts_none a cap q w
  · by_cases h60 : len ≤ 60
    · by_cases h0 : len = 0
      · subst h0; exact counts_none _ cap q w
      · exact walkCounts b off len cap q w (by omega) hst hm h60
    · exact counts_long _ len cap q w (by omega) (by omega)
end Go.Proofs.Ytdhpgadhdgpbdaa
