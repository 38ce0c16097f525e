/- A header, from what an argument reads as. -/
import Derived.Test.YthkhlkiemldbaaaKF3
import Derived.Test.YthkhlkiemldbaaaKOpen
namespace Go.Proofs.Ythkhlkiemldbaaa.K.Ha
open Go Go.RowKit
set_option maxRecDepth 100000
theorem add_off (b off n : Nat) (sp : Option Nat) (h : sp = none) : (⟨b, off, sp⟩ : Addr).add n = ⟨b, off + n, none⟩ := by
  subst h
  unfold Addr.add
  split
  · rename_i h0; subst h0; rfl
  · rfl
theorem cell_spot {w : World} {b o : Nat} {sp : Option Nat} {v : Value} (h : w.cell? ⟨b, o, sp⟩ = some v) : sp = none := by
  cases sp with
  | none => rfl
  | some x =>
    unfold World.cell? at h
    split at h <;> simp at h
theorem cell_of_head {l : List Value} {k : Nat} {v : Value} (h : (l.drop k).take 1 = [v]) : l[k]? = some v := by
  have h1 : ((l.drop k).take 1)[0]? = some v := by rw [h]; rfl
  simpa using h1
theorem tok_ints : ∀ {cs : List Value}, (∀ i, i < cs.length → ∃ a, cs[i]? = some (.int .u8 a) ∧ (Lit.int .u8 a).wf = true) → ∃ t : List Int, cs = u8l t ∧ ∀ x ∈ t, 0 ≤ x ∧ x ≤ 255
  | [], _ => ⟨[], rfl, by simp⟩
  | v :: cs, h => by
    obtain ⟨a, e, hw⟩ := h 0 (by simp)
    obtain ⟨t, et, hb⟩ := tok_ints (cs := cs) (fun i hi => by
      obtain ⟨a, e, hw⟩ := h (i + 1) (by simpa using hi)
      exact ⟨a, by simpa using e, hw⟩)
    have hv := bounds_u8 hw
    refine ⟨a :: t, ?_, ?_⟩
    · simp at e
      rw [e, et]; rfl
    · intro x hx
      rcases List.mem_cons.1 hx with rfl | hx
      · omega
      · exact hb x hx
theorem tok_lists : ∀ (P : Nat → List Int → Prop) (n : Nat), (∀ k, k < n → ∃ x, P k x) → ∃ L : List (List Int), L.length = n ∧ ∀ k, k < n → P k (L.getD k [])
  | _, 0, _ => ⟨[], rfl, fun k hk => by omega⟩
  | P, n + 1, h => by
    obtain ⟨L, hl, hL⟩ := tok_lists P n (fun k hk => h k (by omega))
    obtain ⟨x, hx⟩ := h n (by omega)
    refine ⟨L ++ [x], by simp [hl], fun k hk => ?_⟩
    by_cases hkn : k < n
    · have q := hL k hkn
      rwa [List.getD, List.getElem?_append_left (by omega)]
    · obtain rfl : k = n := by omega
      rw [List.getD, List.getElem?_append_right (by omega), hl, Nat.sub_self]
      exact hx
theorem int_list {k : IntKind} : ∀ {cs : List Value}, (∀ i, i < cs.length → ∃ a, cs[i]? = some (.int k a) ∧ (Lit.int k a).wf = true) → ∃ t : List Int, cs = t.map (Value.int k) ∧ ∀ x ∈ t, (Lit.int k x).wf = true
  | [], _ => ⟨[], rfl, by simp⟩
  | v :: cs, h => by
    obtain ⟨a, e, hw⟩ := h 0 (by simp)
    obtain ⟨t, et, hb⟩ := int_list (cs := cs) (fun i hi => by
      obtain ⟨a, e, hw⟩ := h (i + 1) (by simpa using hi)
      exact ⟨a, by simpa using e, hw⟩)
    refine ⟨a :: t, ?_, ?_⟩
    · simp at e
      rw [e, et]; rfl
    · intro x hx
      rcases List.mem_cons.1 hx with rfl | hx
      · exact hw
      · exact hb x hx
theorem open_toks {H : Type} {enc : TypeId × Value → H} {W : World} {held : Bool} {m0 : Nat} {cs0 : List Value} {d : DataW H × List MemPlace}
    (hf : DataW.trod enc Try.prog W 0 (fun _ => true) held m0 35 cs0 = some d) : ∃ a len cap L, cs0 = [.slice a len cap] ∧ Toks W a len L := by
  rcases DataW.trod_slice Try.underlying35 hf with ⟨hcs, _⟩ | ⟨x, l, c, elems, rest, n, _, hcs, _, _, hl, hm, hlen, hel, _, _⟩
  · exact ⟨none, 0, 0, [], hcs, rfl, fun h => by omega⟩
  · have c34x : Try.prog.cellsOf 34 = 16 := by kernel_rfl
    have c5 : Try.prog.cellsOf 5 = 1 := by kernel_rfl
    have key : ∀ k, k < l → ∃ t : List Int, t.length = 16 ∧ (∀ x ∈ t, 0 ≤ x ∧ x ≤ 255) ∧ ∀ j, j < 16 → W.cell? ((x.add (k * 16)).add j) = (u8l t)[j]? := by
      intro k hk
      have h1 := hel k hk
      rw [List.getElem?_eq_getElem (by omega), c34x] at h1
      obtain ⟨cs, hc, ht⟩ := Option.bind_eq_some_iff.1 h1
      obtain ⟨_, hcl, hat⟩ := World.cells?_some hc
      obtain ⟨xs, m, _, _, hlen2, hxs, hfl⟩ := DataW.trod_array Try.underlying34 ht
      rw [c34x] at hlen2
      obtain ⟨t, et, hb⟩ := tok_ints (cs := cs) (fun i hi => by
        have h := hfl i (by omega)
        rw [c5, Nat.mul_one, List.getElem?_eq_getElem (by omega)] at h
        obtain ⟨a, h1, _, h2⟩ := DataW.trod_int Try.underlying5 h
        exact ⟨a, cell_of_head h1, h2⟩)
      subst et
      exact ⟨t, by rw [← u8l_len]; exact hlen2, hb, fun j hj => hat j (by omega)⟩
    obtain ⟨L, hL, hP⟩ := tok_lists _ l key
    obtain ⟨b, off, sp⟩ := x
    refine ⟨some ⟨b, off, sp⟩, _, _, L, hcs, hL, fun h0 => ?_⟩
    have hsp : sp = none := by
      obtain ⟨h1, _, h⟩ := hP 0 h0
      have q := h 0 (by omega)
      rw [List.getElem?_eq_getElem (by rw [u8l_len, h1]; omega)] at q
      cases sp with
      | none => rfl
      | some s => exact cell_spot (b := b) (o := off) q
    subst hsp
    refine ⟨b, off, rfl, by omega, fun k hk => ?_⟩
    obtain ⟨h1, h2, h⟩ := hP k hk
    refine ⟨h1, h2, fun j v hj => ?_⟩
    have hj16 : j < 16 := by have := (List.getElem?_eq_some_iff.1 hj).1; rw [u8l_len, h1] at this; exact this
    have q := h j hj16
    rw [add_off _ _ _ _ rfl, add_off _ _ _ _ rfl, hj] at q
    exact q
theorem arr32 {H : Type} {enc : TypeId × Value → H} {W : World} {base : Nat} {spare : Nat → Bool} {held : Bool} {m0 : Nat} {cs : List Value} {d : DataW H × List MemPlace} (ht : DataW.trod enc Try.prog W base spare held m0 32 cs = some d) : ∃ t : List Int, cs = t.map (Value.int .u8) ∧ t.length = 32 ∧ ∀ x ∈ t, (Lit.int .u8 x).wf = true := by
  have ca : Try.prog.cellsOf 32 = 32 := by kernel_rfl
  have ce : Try.prog.cellsOf 5 = 1 := by kernel_rfl
  obtain ⟨xs, m, _, _, hlen2, hxs, hfl⟩ := DataW.trod_array Try.underlying32 ht
  rw [ca] at hlen2
  obtain ⟨t, et, hb⟩ := int_list (k := .u8) (cs := cs) (fun i hi => by
    have h := hfl i (by omega)
    rw [ce, Nat.mul_one, List.getElem?_eq_getElem (by omega)] at h
    obtain ⟨a, h1, _, h2⟩ := DataW.trod_int Try.underlying5 h
    exact ⟨a, cell_of_head h1, h2⟩)
  subst et
  exact ⟨t, rfl, by simpa using hlen2, hb⟩
theorem arr34 {H : Type} {enc : TypeId × Value → H} {W : World} {base : Nat} {spare : Nat → Bool} {held : Bool} {m0 : Nat} {cs : List Value} {d : DataW H × List MemPlace} (ht : DataW.trod enc Try.prog W base spare held m0 34 cs = some d) : ∃ t : List Int, cs = t.map (Value.int .u8) ∧ t.length = 16 ∧ ∀ x ∈ t, (Lit.int .u8 x).wf = true := by
  have ca : Try.prog.cellsOf 34 = 16 := by kernel_rfl
  have ce : Try.prog.cellsOf 5 = 1 := by kernel_rfl
  obtain ⟨xs, m, _, _, hlen2, hxs, hfl⟩ := DataW.trod_array Try.underlying34 ht
  rw [ca] at hlen2
  obtain ⟨t, et, hb⟩ := int_list (k := .u8) (cs := cs) (fun i hi => by
    have h := hfl i (by omega)
    rw [ce, Nat.mul_one, List.getElem?_eq_getElem (by omega)] at h
    obtain ⟨a, h1, _, h2⟩ := DataW.trod_int Try.underlying5 h
    exact ⟨a, cell_of_head h1, h2⟩)
  subst et
  exact ⟨t, rfl, by simpa using hlen2, hb⟩
theorem arr23 {H : Type} {enc : TypeId × Value → H} {W : World} {base : Nat} {spare : Nat → Bool} {held : Bool} {m0 : Nat} {cs : List Value} {d : DataW H × List MemPlace} (ht : DataW.trod enc Try.prog W base spare held m0 23 cs = some d) : ∃ t : List Int, cs = t.map (Value.int .u64) ∧ t.length = 6 ∧ ∀ x ∈ t, (Lit.int .u64 x).wf = true := by
  have ca : Try.prog.cellsOf 23 = 6 := by kernel_rfl
  have ce : Try.prog.cellsOf 22 = 1 := by kernel_rfl
  obtain ⟨xs, m, _, _, hlen2, hxs, hfl⟩ := DataW.trod_array Try.underlying23 ht
  rw [ca] at hlen2
  obtain ⟨t, et, hb⟩ := int_list (k := .u64) (cs := cs) (fun i hi => by
    have h := hfl i (by omega)
    rw [ce, Nat.mul_one, List.getElem?_eq_getElem (by omega)] at h
    obtain ⟨a, h1, _, h2⟩ := DataW.trod_int Try.underlying22 h
    exact ⟨a, cell_of_head h1, h2⟩)
  subst et
  exact ⟨t, rfl, by simpa using hlen2, hb⟩
theorem open_hdr {H : Type} {enc : TypeId × Value → H} {W : World} {b0 : Nat} {r : Reach} {held : Bool} {v : Value} {d : DataW H} {ps : List MemPlace}
    (hval : Value.okWide Try.prog W r b0 37 v) (hd : DataW.Trod enc Try.prog W 0 (fun _ => true) held 37 v d ps) : ∃ (h : Hdr) (T : List (List Int)), v = .agg h.L.toArray ∧ HOk h ∧ Toks W h.ta h.tn T := by
  simp only [Value.okWide, Try.underlying37] at hval
  obtain ⟨cs, rfl, hsz, _⟩ := hval
  obtain ⟨fuel, hf⟩ := hd
  simp only [Value.cells] at hf
  obtain ⟨xs, m, _, _, hlen, hl, hel⟩ := DataW.trod_struct Try.underlying37 hf
  have c3 : Try.prog.cellsOf 3 = 1 := by kernel_rfl
  have c22 : Try.prog.cellsOf 22 = 1 := by kernel_rfl
  have c32 : Try.prog.cellsOf 32 = 32 := by kernel_rfl
  have c4 : Try.prog.cellsOf 4 = 1 := by kernel_rfl
  have c34 : Try.prog.cellsOf 34 = 16 := by kernel_rfl
  have c35 : Try.prog.cellsOf 35 = 1 := by kernel_rfl
  have c23 : Try.prog.cellsOf 23 = 6 := by kernel_rfl
  have c37 : Try.prog.cellsOf 37 = 125 := by kernel_rfl
  have e0 : DataW.trod enc Try.prog W 0 (fun _ => true) held m 3 ((cs.toList.drop 0).take (Try.prog.cellsOf 3)) = xs[0]? := hel 0 _ rfl
  have e1 : DataW.trod enc Try.prog W 0 (fun _ => true) held m 22 ((cs.toList.drop 1).take (Try.prog.cellsOf 22)) = xs[1]? := hel 1 _ rfl
  have e2 : DataW.trod enc Try.prog W 0 (fun _ => true) held m 32 ((cs.toList.drop 2).take (Try.prog.cellsOf 32)) = xs[2]? := hel 2 _ rfl
  have e3 : DataW.trod enc Try.prog W 0 (fun _ => true) held m 3 ((cs.toList.drop 34).take (Try.prog.cellsOf 3)) = xs[3]? := hel 3 _ rfl
  have e4 : DataW.trod enc Try.prog W 0 (fun _ => true) held m 4 ((cs.toList.drop 35).take (Try.prog.cellsOf 4)) = xs[4]? := hel 4 _ rfl
  have e5 : DataW.trod enc Try.prog W 0 (fun _ => true) held m 22 ((cs.toList.drop 36).take (Try.prog.cellsOf 22)) = xs[5]? := hel 5 _ rfl
  have e6 : DataW.trod enc Try.prog W 0 (fun _ => true) held m 34 ((cs.toList.drop 37).take (Try.prog.cellsOf 34)) = xs[6]? := hel 6 _ rfl
  have e7 : DataW.trod enc Try.prog W 0 (fun _ => true) held m 35 ((cs.toList.drop 53).take (Try.prog.cellsOf 35)) = xs[7]? := hel 7 _ rfl
  have e8 : DataW.trod enc Try.prog W 0 (fun _ => true) held m 23 ((cs.toList.drop 54).take (Try.prog.cellsOf 23)) = xs[8]? := hel 8 _ rfl
  have e9 : DataW.trod enc Try.prog W 0 (fun _ => true) held m 32 ((cs.toList.drop 60).take (Try.prog.cellsOf 32)) = xs[9]? := hel 9 _ rfl
  have e10 : DataW.trod enc Try.prog W 0 (fun _ => true) held m 3 ((cs.toList.drop 92).take (Try.prog.cellsOf 3)) = xs[10]? := hel 10 _ rfl
  have e11 : DataW.trod enc Try.prog W 0 (fun _ => true) held m 32 ((cs.toList.drop 93).take (Try.prog.cellsOf 32)) = xs[11]? := hel 11 _ rfl
  simp only [c3, c22, c32, c4, c34, c35, c23] at e0 e1 e2 e3 e4 e5 e6 e7 e8 e9 e10 e11
  rw [List.getElem?_eq_getElem (by rw [hl]; decide)] at e0 e1 e2 e3 e4 e5 e6 e7 e8 e9 e10 e11
  obtain ⟨w, h0, _, q0⟩ := DataW.trod_int Try.underlying3 e0
  obtain ⟨s, h1, _, q1⟩ := DataW.trod_int Try.underlying22 e1
  obtain ⟨pv, h2, l2, b2⟩ := arr32 e2
  obtain ⟨ep, h3, _, q3⟩ := DataW.trod_int Try.underlying3 e3
  obtain ⟨ct, h4, _⟩ := DataW.trod_bool Try.underlying4 e4
  obtain ⟨tm, h5, _, q5⟩ := DataW.trod_int Try.underlying22 e5
  obtain ⟨it, h6, l6, b6⟩ := arr34 e6
  obtain ⟨ta, tn, tc, T, h7, hT⟩ := open_toks e7
  obtain ⟨kn, h8, l8, b8⟩ := arr23 e8
  obtain ⟨sm, h9, l9, _⟩ := arr32 e9
  obtain ⟨sz, h10, _, q10⟩ := DataW.trod_int Try.underlying3 e10
  obtain ⟨cd, h11, l11, _⟩ := arr32 e11
  have g0 := bounds_i64 q0
  have g1 := bounds_u64 q1
  have g3 := bounds_i64 q3
  have g5 := bounds_u64 q5
  have g10 := bounds_i64 q10
  have hl125 : cs.toList.length = 125 := by simp [hsz, c37]
  have s0 : cs.toList.drop 0 = (cs.toList.drop 0).take 1 ++ cs.toList.drop 1 := by rw [show cs.toList.drop 1 = (cs.toList.drop 0).drop 1 by rw [List.drop_drop]]; exact (List.take_append_drop _ _).symm
  have s1 : cs.toList.drop 1 = (cs.toList.drop 1).take 1 ++ cs.toList.drop 2 := by rw [show cs.toList.drop 2 = (cs.toList.drop 1).drop 1 by rw [List.drop_drop]]; exact (List.take_append_drop _ _).symm
  have s2 : cs.toList.drop 2 = (cs.toList.drop 2).take 32 ++ cs.toList.drop 34 := by rw [show cs.toList.drop 34 = (cs.toList.drop 2).drop 32 by rw [List.drop_drop]]; exact (List.take_append_drop _ _).symm
  have s3 : cs.toList.drop 34 = (cs.toList.drop 34).take 1 ++ cs.toList.drop 35 := by rw [show cs.toList.drop 35 = (cs.toList.drop 34).drop 1 by rw [List.drop_drop]]; exact (List.take_append_drop _ _).symm
  have s4 : cs.toList.drop 35 = (cs.toList.drop 35).take 1 ++ cs.toList.drop 36 := by rw [show cs.toList.drop 36 = (cs.toList.drop 35).drop 1 by rw [List.drop_drop]]; exact (List.take_append_drop _ _).symm
  have s5 : cs.toList.drop 36 = (cs.toList.drop 36).take 1 ++ cs.toList.drop 37 := by rw [show cs.toList.drop 37 = (cs.toList.drop 36).drop 1 by rw [List.drop_drop]]; exact (List.take_append_drop _ _).symm
  have s6 : cs.toList.drop 37 = (cs.toList.drop 37).take 16 ++ cs.toList.drop 53 := by rw [show cs.toList.drop 53 = (cs.toList.drop 37).drop 16 by rw [List.drop_drop]]; exact (List.take_append_drop _ _).symm
  have s7 : cs.toList.drop 53 = (cs.toList.drop 53).take 1 ++ cs.toList.drop 54 := by rw [show cs.toList.drop 54 = (cs.toList.drop 53).drop 1 by rw [List.drop_drop]]; exact (List.take_append_drop _ _).symm
  have s8 : cs.toList.drop 54 = (cs.toList.drop 54).take 6 ++ cs.toList.drop 60 := by rw [show cs.toList.drop 60 = (cs.toList.drop 54).drop 6 by rw [List.drop_drop]]; exact (List.take_append_drop _ _).symm
  have s9 : cs.toList.drop 60 = (cs.toList.drop 60).take 32 ++ cs.toList.drop 92 := by rw [show cs.toList.drop 92 = (cs.toList.drop 60).drop 32 by rw [List.drop_drop]]; exact (List.take_append_drop _ _).symm
  have s10 : cs.toList.drop 92 = (cs.toList.drop 92).take 1 ++ cs.toList.drop 93 := by rw [show cs.toList.drop 93 = (cs.toList.drop 92).drop 1 by rw [List.drop_drop]]; exact (List.take_append_drop _ _).symm
  have s11 : cs.toList.drop 93 = (cs.toList.drop 93).take 32 := by rw [List.take_of_length_le (by rw [List.length_drop, hl125]; omega)]
  rw [h0] at s0
  rw [h1] at s1
  rw [h2] at s2
  rw [h3] at s3
  rw [h4] at s4
  rw [h5] at s5
  rw [h6] at s6
  rw [h7] at s7
  rw [h8] at s8
  rw [h9] at s9
  rw [h10] at s10
  rw [h11] at s11
  refine ⟨⟨w, s, pv, ep, ct, tm, it, ta, tn, tc, kn, sm, sz, cd⟩, T, ?_, ?_, hT⟩
  · have e : cs.toList = Hdr.L ⟨w, s, pv, ep, ct, tm, it, ta, tn, tc, kn, sm, sz, cd⟩ := by
      have e0 : cs.toList = cs.toList.drop 0 := rfl
      rw [e0, s0, s1, s2, s3, s4, s5, s6, s7, s8, s9, s10, s11]
      simp [Hdr.L, u8l]
    rw [← e]
  · exact { pl := l2, pb := fun x hx => by (have := bounds_u8 (b2 x hx)); omega, il := l6, ib := fun x hx => by (have := bounds_u8 (b6 x hx)); omega, kl := l8, kb := fun x hx => by (have := bounds_u64 (b8 x hx)); omega, sl := l9, cl := l11, wb := by dsimp only; omega, sb := by dsimp only; omega, eb := by dsimp only; omega, tb := by dsimp only; omega, zb := by dsimp only; omega }
end Go.Proofs.Ythkhlkiemldbaaa.K.Ha
