/- All of a disk's sectors. -/
import Derived.Test.YteabblmhcjpboaaC15
namespace Go.Proofs.Yteabblmhcjpboaa.D
open Go Go.RowKit
set_option maxRecDepth 100000
/-- a row of slices of one's own. -/
def OwnR (w : World) (B : Nat) (v : Value) (vals : List Value) : Prop := w.ownsRow B 26 1 v vals.length vals ∧ ∀ u ∈ vals, u.oneCell' = true
theorem OwnR.nil (w : World) (B : Nat) : OwnR w B (.slice none 0 0) [] := ⟨World.ownsRow_nil _ _ _ _, by simp⟩
theorem OwnR.below {w w' : World} {B : Nat} {v : Value} {vals : List Value} (h : OwnR w B v vals) (hb : Below w.heap.size w w') : OwnR w' B v vals := ⟨h.1.kept (gb_of hb none) (by cases hv : v.ownBlock <;> simp), h.2⟩
/-- the sectors that slices show. -/
def LR (w : World) (vals : List Value) (L : List (List Int)) : Prop := vals.length = L.length ∧ ∀ k, k < L.length → ∃ g c, vals[k]? = some (.slice (some ⟨g, 0, none⟩) 64 c) ∧ (64 ≤ c ∧ c < 9223372036854775808) ∧ Row w (some ⟨g, 0, none⟩) 64 (L.getD k [])
def LA (vals : List Value) (B : Nat) : Prop := ∀ u ∈ vals, ∃ g c, u = .slice (some ⟨g, 0, none⟩) 64 c ∧ B ≤ g
def NA (v : Value) (vals : List Value) : Prop := ∀ u ∈ vals, ∀ q, v.ownBlock = some q → u.ownBlock ≠ some q
theorem LA.nil (B : Nat) : LA [] B := fun u hu => by cases hu
theorem NA.nil (v : Value) : NA v [] := fun u hu => by cases hu
theorem LR.nil (w : World) : LR w [] ([] : List (List Int)) := ⟨rfl, fun k hk => by simp at hk⟩
theorem LR.below {w w' : World} {vals : List Value} {L : List (List Int)} (h : LR w vals L) (hb : Below w.heap.size w w') : LR w' vals L := ⟨h.1, fun k hk => by
  obtain ⟨g, c, e, cb, r⟩ := h.2 k hk
  exact ⟨g, c, e, cb, r.keep hb⟩⟩
theorem LR.far {w w' : World} {vals : List Value} {L : List (List Int)} {v : Value} (h : LR w vals L) (q : w.grownBy w' v.ownBlock) (na : NA v vals) : LR w' vals L := ⟨h.1, fun k hk => by
  obtain ⟨g, c, e, cb, r⟩ := h.2 k hk
  exact ⟨g, c, e, cb, r.grown q (fun p hp z => by cases hp; exact na _ (List.mem_of_getElem? e) g z.symm rfl)⟩⟩
theorem LR.snoc {w : World} {vals : List Value} {L : List (List Int)} {g c : Nat} {xs : List Int} (h : LR w vals L) (cb : 64 ≤ c ∧ c < 9223372036854775808) (hx : Row w (some ⟨g, 0, none⟩) 64 xs) : LR w (vals ++ [.slice (some ⟨g, 0, none⟩) 64 c]) (L ++ [xs]) := ⟨by simp [h.1], fun k hk => by
  rw [List.length_append] at hk
  by_cases q : k < L.length
  · obtain ⟨g, c, e, cb, r⟩ := h.2 k q
    refine ⟨g, c, by rw [List.getElem?_append_left (by rw [h.1]; exact q)]; exact e, cb, ?_⟩
    rw [List.getD, List.getElem?_append_left q]; exact r
  · obtain rfl : k = L.length := by simp at hk; omega
    refine ⟨g, c, by rw [← h.1, List.getElem?_append_right (Nat.le_refl _), Nat.sub_self]; rfl, cb, ?_⟩
    rw [List.getD, List.getElem?_append_right (Nat.le_refl _), Nat.sub_self]; exact hx⟩
theorem LA.snoc {vals : List Value} {B g c : Nat} (h : LA vals B) (hg : B ≤ g) : LA (vals ++ [.slice (some ⟨g, 0, none⟩) 64 c]) B := fun u hu => by
  rcases List.mem_append.1 hu with q | q
  · exact h u q
  · exact ⟨g, c, List.mem_singleton.1 q, hg⟩
theorem LR.lt {w : World} {vals : List Value} {L : List (List Int)} (h : LR w vals L) : ∀ u ∈ vals, ∀ q, u.ownBlock = some q → q < w.heap.size := fun u hu q hq => by
  obtain ⟨k, hk, e⟩ := List.getElem_of_mem hu
  obtain ⟨g, c, e2, _, r⟩ := h.2 k (by rw [← h.1]; exact hk)
  rw [List.getElem?_eq_getElem hk, e] at e2
  cases e2
  cases hq
  obtain ⟨g', o', e3, hc⟩ := r.2.2.2 0 (by omega)
  cases e3
  exact World.block_lt_of_cell? w _ hc
theorem NA.next {w : World} {v v' : Value} {vals : List Value} {L : List (List Int)} {g c : Nat} {xs : List Int} (h : NA v vals) (r4 : v'.ownBlock = v.ownBlock ∨ v'.ownBlock = some w.heap.size) (hL : LR w vals L) (hx : Row w (some ⟨g, 0, none⟩) 64 xs) (hg : ∀ q, v.ownBlock = some q → q ≠ g) : NA v' (vals ++ [.slice (some ⟨g, 0, none⟩) 64 c]) := fun u hu q hq e => by
  have hgl : g < w.heap.size := by
    obtain ⟨g', o', e3, hc⟩ := hx.2.2.2 0 (by omega)
    cases e3
    exact World.block_lt_of_cell? w _ hc
  rcases r4 with z | z
  · rw [z] at hq
    rcases List.mem_append.1 hu with k | k
    · exact h u k q hq e
    · obtain rfl := List.mem_singleton.1 k
      cases e
      exact hg g hq rfl
  · rw [z] at hq
    have hq : w.heap.size = q := by simpa using hq
    subst hq
    rcases List.mem_append.1 hu with k | k
    · have := hL.lt u k _ e; omega
    · obtain rfl := List.mem_singleton.1 k
      have e2 : some g = some w.heap.size := e
      have := Option.some.inj e2
      omega
theorem drop_get {S : List (List Int)} {fr k : Nat} {xs : List Int} (h : S[fr + k]? = some xs) : (S.drop fr)[k]? = some xs := by rw [List.getElem?_drop]; exact h
theorem take_next {S : List (List Int)} {k : Nat} {xs : List Int} (h : S[k]? = some xs) : S.take (k + 1) = S.take k ++ [xs] := by rw [List.take_add_one, h]; rfl
theorem append_row (w : World) (base : Nat) (v : Value) (vals : List Value) (u : Value) (g c : Nat) (hown : OwnR w base v vals) (hc : w.cell? ⟨g, 0, none⟩ = some u) (h1 : u.oneCell' = true) (hn : vals.length ≤ 100000) (hbase : base ≤ w.heap.size) :
    ∃ v' w', (Builtin.append_ #[22, 22] 22 #[v, .slice (some ⟨g, 0, none⟩) 1 c]).run Try.prog w = .ok v' w' ∧ OwnR w' base v' (vals ++ [u]) ∧ w.grownBy w' v.ownBlock ∧ (v'.ownBlock = v.ownBlock ∨ v'.ownBlock = some w.heap.size) := by
  obtain ⟨i, hi⟩ : ∃ i, Try.prog.info? 26 = some i := Option.isSome_iff_exists.1 (by kernel_rfl)
  have hsz : i.size = 1 := by
    have h : (Try.prog.info? 26).map (·.size) = some 1 := by kernel_rfl
    rw [hi] at h; simpa using h
  have hby : i.bytes = 24 := by
    have h : (Try.prog.info? 26).map (·.bytes) = some 24 := by kernel_rfl
    rw [hi] at h; simpa using h
  have hz : i.zero = some (.slice none 0 0) := by
    have h : (Try.prog.info? 26).bind (·.zero) = some (.slice none 0 0) := by kernel_rfl
    rw [hi] at h; simpa using h
  obtain ⟨v', w', r1, r2, r3, _, r5⟩ := run_append_own_at (P := Try.prog) w base 22 22 26 i (.slice none 0 0) 1 24 Try.underlying22 hi hz hsz hby (by rfl) (by omega) v vals.length vals hown.1
    ⟨g, 0, none⟩ 1 c [u] (by simp) (fun j z hz => by
      match j, hz with
      | 0, hz =>
        simp only [List.getElem?_cons_zero, Option.some.injEq] at hz
        subst hz
        rw [Addr.add_lit]; exact hc) (by intro z hz; obtain rfl := List.mem_singleton.1 hz; exact h1) (by unfold maxLen; omega) (by omega) hbase
  exact ⟨v', w', r1, ⟨by rw [List.length_append]; exact r2, fun z hz => by
    rcases List.mem_append.1 hz with q | q
    · exact hown.2 z q
    · obtain rfl := List.mem_singleton.1 q; exact h1⟩, r3, r5⟩
theorem run_app22 (a : Act) (o : Oper) (w w' : World) (x y : Operand) (v u r : Value) (ho : o.op = .call { callee := .builtin .append, args := #[x, y], argTypes := #[22, 22] }) (ht : o.type = 22) (hx : a.eval x = v) (hy : a.eval y = u)
    (h : (Builtin.append_ #[22, 22] 22 #[v, u]).run Try.prog w = .ok r w') : (execOp a.eval o).run Try.prog w = .ok (.value r) w' := by
  unfold execOp
  simp only [ho, resolve, invoke, builtin, Sem.run_bind, Sem.run_pure, Result.andThen_ok, List.map_toArray, List.map_cons, List.map_nil, hx, hy, ht, h]
attribute [local irreducible] wpList
set_option maxHeartbeats 8000000
theorem secs_any {w : World} {b gs gm n dc : Nat} {L : List (Int × List Int × Nat)} {S : List (List Int)} {fu : Bool} {fz : Int} (d : DS w b gs gm n L dc S fu fz false) (fr : Nat) (hf : fr ≤ n) : Calls Try.prog 19 #[.pointer (some ⟨b, 0, none⟩), .int .i64 ((fr : Nat) : Int)] w fun e w' => ∃ (v : Value) (vals : List Value), e = .returned v ∧ Below w.heap.size w w' ∧ OwnR w' w.heap.size v vals ∧ LR w' vals (S.drop fr) := by
  have D := Lib.hid d
  have HF : Hid (fr + 0 ≤ n) := Lib.hid hf
  have HN := Lib.hid d.2.2.2.2.1
  clear d hf
  go_enter Try.func19, Try.ntmps19
  go_upto_region 0 with (fail)
  refine wp_region_lit ?_
  refine wpL_pure (.slice none 0 0) rfl (by kernel_rfl) ?_
  simp only [Act.put, List.setIfInBounds_toArray, List.set_cons_zero, List.set_cons_succ]
  go_upto_region 1 with (fail)
  refine wp_region_lit ?_
  refine wpL_pure (.slice none 0 0) rfl (by kernel_rfl) ?_
  simp only [Act.put, List.setIfInBounds_toArray, List.set_cons_zero, List.set_cons_succ]
  go_upto_region 2 with (fail)
  refine wp_region_lit ?_
  refine wpL_pure (.int .i64 ((fr : Nat) : Int)) rfl (by kernel_rfl) ?_
  simp only [Act.put, List.setIfInBounds_toArray, List.set_cons_zero, List.set_cons_succ]
  refine wpL_pure (.int .i64 ((fr : Nat) : Int)) rfl (by kernel_rfl) ?_
  simp only [Act.put, List.setIfInBounds_toArray, List.set_cons_zero, List.set_cons_succ]
  unfold wpList
  go_wp2_with fail
  go_loopw [5, 6] (fun s5 s6 wr => ∃ k : Nat, s6 = .int .i64 ((fr + k : Nat) : Int) ∧ Hid (fr + k ≤ n ∧ Below w.heap.size w wr ∧ ∃ vals, OwnR wr w.heap.size s5 vals ∧ (LR wr vals ((S.drop fr).take k) ∧ LA vals w.heap.size ∧ NA s5 vals))) (fun _ s6 _ => n - (intOf s6).toNat)
  case atStart => exact ⟨0, rfl, Lib.hid ⟨HF.out, Below.refl _ _, [], OwnR.nil _ _, LR.nil _, LA.nil _, NA.nil _⟩⟩
  case round =>
    obtain ⟨k, rfl, RI0⟩ := hrel
    obtain ⟨k1, k2, vals, k3, k4⟩ := RI0.out
    have RK := Lib.hid k1
    have RB := Lib.hid k2
    have RO := Lib.hid k3
    have RL := Lib.hid k4
    clear RI0 k1 k2 k3 k4
    by_cases hlt : fr + k < n
    · have HK := Lib.hid hlt
      clear hlt
      have D := Lib.hid (D.out.below RB.out)
      go_upto_region 3 with (fail)
      refine wp_region_lit ?_
      refine wpL_pure (.int .i64 ((fr + k : Nat) : Int)) rfl (by kernel_rfl) ?_
      simp only [Act.put, List.setIfInBounds_toArray, List.set_cons_zero, List.set_cons_succ]
      refine wpL_pure (.pointer (some ⟨b, 0, none⟩)) rfl (by kernel_rfl) ?_
      simp only [Act.put, List.setIfInBounds_toArray, List.set_cons_zero, List.set_cons_succ]
      refine wpL_call 29 #[.pointer (some ⟨b, 0, none⟩)] rfl (by kernel_rfl) ((secD D.out).mono fun e X ⟨he, hx⟩ => ⟨.int .i64 (n : Int), he, ?_⟩)
      simp only [Act.put, List.setIfInBounds_toArray, List.set_cons_zero, List.set_cons_succ]
      subst hx
      refine wpL_pure (.bool true) rfl (run_lti Try.underlying3 rfl rfl rfl (by have := HK.out; rw [decide_eq_true_eq]; omega)) ?_
      simp only [Act.put, List.setIfInBounds_toArray, List.set_cons_zero, List.set_cons_succ]
      go_upto_region 5 with (fail)
      refine wp_region_lit ?_
      refine wpL_pure (.pointer (some ⟨b, 0, none⟩)) rfl (by kernel_rfl) ?_
      simp only [Act.put, List.setIfInBounds_toArray, List.set_cons_zero, List.set_cons_succ]
      refine wpL_pure (.int .i64 ((fr + k : Nat) : Int)) rfl (by kernel_rfl) ?_
      simp only [Act.put, List.setIfInBounds_toArray, List.set_cons_zero, List.set_cons_succ]
      refine wpL_call 30 #[.pointer (some ⟨b, 0, none⟩), .int .i64 ((fr + k : Nat) : Int)] rfl (by kernel_rfl) ((read_in D.out (fr + k) HK.out).mono ?_)
      rintro e W5 ⟨xs, v9, hO, he, ho, bb⟩
      have OO : Hid (SOk xs) := Lib.hid (D.out.2.2.2.2.2.1 xs (List.mem_of_getElem? hO))
      obtain ⟨g9, c9, e9, r9, k9, l9, m9⟩ := own_slice64 ho OO.out.1
      subst e9
      have F5 : Hid (Below w.heap.size w W5 ∧ OwnR W5 w.heap.size u5 vals ∧ LR W5 vals ((S.drop fr).take k) ∧ Row W5 (some ⟨g9, 0, none⟩) 64 xs ∧ w.heap.size ≤ g9 ∧ (∀ q, u5.ownBlock = some q → q ≠ g9) ∧ LA vals w.heap.size) := Lib.hid ⟨RB.out.trans (bb.mono RB.out.size), RO.out.below bb, RL.out.1.below bb, r9, Nat.le_trans RB.out.size m9, fun q hq e => by have := (RO.out.1.lt q hq).2; omega, RL.out.2.1⟩
      have HO := Lib.hid hO
      have CB := Lib.hid (And.intro k9 l9)
      clear hO bb ho r9 k9 l9 m9
      refine ⟨.tuple #[.slice (some ⟨g9, 0, none⟩) 64 c9, .int .i64 0], he, ?_⟩
      simp only [Act.put, List.setIfInBounds_toArray, List.set_cons_zero, List.set_cons_succ]
      clear he
      refine wpL_pure (.tuple #[.slice (some ⟨g9, 0, none⟩) 64 c9, .int .i64 0]) rfl (by kernel_rfl) ?_
      simp only [Act.put, List.setIfInBounds_toArray, List.set_cons_zero, List.set_cons_succ]
      refine wpL_pure (.slice (some ⟨g9, 0, none⟩) 64 c9) rfl (by kernel_rfl) ?_
      simp only [Act.put, List.setIfInBounds_toArray, List.set_cons_zero, List.set_cons_succ]
      refine wpL_pure (.int .i64 0) rfl (by kernel_rfl) ?_
      simp only [Act.put, List.setIfInBounds_toArray, List.set_cons_zero, List.set_cons_succ]
      refine wpL_pure (.slice (some ⟨g9, 0, none⟩) 64 c9) rfl (by kernel_rfl) ?_
      simp only [Act.put, List.setIfInBounds_toArray, List.set_cons_zero, List.set_cons_succ]
      refine wpL_pure (.int .i64 0) rfl (by kernel_rfl) ?_
      simp only [Act.put, List.setIfInBounds_toArray, List.set_cons_zero, List.set_cons_succ]
      go_upto_region 6 with (fail)
      refine wp_region_lit ?_
      refine wpL_pure (u5) rfl (by kernel_rfl) ?_
      simp only [Act.put, List.setIfInBounds_toArray, List.set_cons_zero, List.set_cons_succ]
      refine wpL_pure (.slice (some ⟨g9, 0, none⟩) 64 c9) rfl (by kernel_rfl) ?_
      simp only [Act.put, List.setIfInBounds_toArray, List.set_cons_zero, List.set_cons_succ]
      obtain ⟨W6, hW6⟩ : ∃ V, V = W5.alloc (.cells #[.slice (some ⟨g9, 0, none⟩) 64 c9] 26) := ⟨_, rfl⟩
      refine wpL_value (.slice (some ⟨W5.heap.size, 0, none⟩) 1 1) W6 rfl (by rw [hW6]; kernel_rfl) ?_
      simp only [Act.put, List.setIfInBounds_toArray, List.set_cons_zero, List.set_cons_succ]
      obtain ⟨g6, hg6⟩ : ∃ q, W5.heap.size = q := ⟨_, rfl⟩
      have F6 : Hid (Below w.heap.size w W6 ∧ OwnR W6 w.heap.size u5 vals ∧ LR W6 vals ((S.drop fr).take k) ∧ Row W6 (some ⟨g9, 0, none⟩) 64 xs ∧ W6.cell? ⟨g6, 0, none⟩ = some (.slice (some ⟨g9, 0, none⟩) 64 c9)) := Lib.hid (by have bb : Below W5.heap.size W5 W6 := (by rw [hW6]; exact (Below.refl _ _).alloc (Nat.le_refl _) _); exact ⟨F5.out.1.trans (bb.mono F5.out.1.size), F5.out.2.1.below bb, F5.out.2.2.1.below bb, F5.out.2.2.2.1.keep bb, by rw [hW6, ← hg6, (Blk.new W5 26 _).cell]; rfl⟩)
      rw [hg6]
      clear hW6 hg6
      obtain ⟨v7, W7, r1, r2, r3, r4⟩ := append_row W6 w.heap.size u5 vals (.slice (some ⟨g9, 0, none⟩) 64 c9) g6 1 F6.out.2.1 F6.out.2.2.2.2 rfl (by have := F6.out.2.2.1.1; have q : ((S.drop fr).take k).length ≤ k := List.length_take_le _ _; have := RK.out; have := HN.out; omega) F6.out.1.size
      have R1 := Lib.hid r1
      have NX : Hid (fr + (k + 1) ≤ n ∧ Below w.heap.size w W7 ∧ ∃ vals, OwnR W7 w.heap.size v7 vals ∧ (LR W7 vals ((S.drop fr).take (k + 1)) ∧ LA vals w.heap.size ∧ NA v7 vals)) := Lib.hid ⟨HK.out, F6.out.1.grown r3 F6.out.1.size (fun j hj => (F6.out.2.1.1.lt j hj).1), vals ++ [.slice (some ⟨g9, 0, none⟩) 64 c9], r2, by rw [take_next (drop_get HO.out)]; exact (F6.out.2.2.1.far r3 RL.out.2.2).snoc CB.out (F6.out.2.2.2.1.grown r3 (fun p hp z => by cases hp; exact F5.out.2.2.2.2.2.1 g9 z.symm rfl)), F5.out.2.2.2.2.2.2.snoc F5.out.2.2.2.2.1, RL.out.2.2.next r4 F6.out.2.2.1 F6.out.2.2.2.1 F5.out.2.2.2.2.2.1⟩
      clear r1 r2 r3 r4
      refine wpL_value v7 W7 rfl (run_app22 _ _ _ _ _ _ _ _ _ rfl rfl rfl rfl R1.out) ?_
      simp only [Act.put, List.setIfInBounds_toArray, List.set_cons_zero, List.set_cons_succ]
      clear R1
      refine wpL_pure (v7) rfl (by kernel_rfl) ?_
      simp only [Act.put, List.setIfInBounds_toArray, List.set_cons_zero, List.set_cons_succ]
      go_upto_region 4 with (fail)
      refine wp_region_lit ?_
      refine wpL_pure (.int .i64 ((fr + k : Nat) : Int)) rfl (by kernel_rfl) ?_
      simp only [Act.put, List.setIfInBounds_toArray, List.set_cons_zero, List.set_cons_succ]
      refine wpL_pure (.int .i64 ((fr + (k + 1) : Nat) : Int)) rfl (run_addi Try.underlying3 rfl rfl rfl _ (by have := HK.out; have := HN.out; rw [wrap_in _ (by omega) (by omega)]; omega)) ?_
      simp only [Act.put, List.setIfInBounds_toArray, List.set_cons_zero, List.set_cons_succ]
      refine wpL_pure (.int .i64 ((fr + (k + 1) : Nat) : Int)) rfl (by kernel_rfl) ?_
      simp only [Act.put, List.setIfInBounds_toArray, List.set_cons_zero, List.set_cons_succ]
      unfold wpList
      go_roundw
      case rel => first | exact ⟨_, rfl, NX⟩ | ((repeat apply Exists.intro); exact ⟨⟨_, rfl, NX⟩, rfl⟩)
      case measure => simp [intOf]; have := HK.out; omega
    · have EK : Hid (fr + k = n) := Lib.hid (by have := RK.out; omega)
      clear hlt
      have D := Lib.hid (D.out.below RB.out)
      go_upto_region 3 with (fail)
      refine wp_region_lit ?_
      refine wpL_pure (.int .i64 ((fr + k : Nat) : Int)) rfl (by kernel_rfl) ?_
      simp only [Act.put, List.setIfInBounds_toArray, List.set_cons_zero, List.set_cons_succ]
      refine wpL_pure (.pointer (some ⟨b, 0, none⟩)) rfl (by kernel_rfl) ?_
      simp only [Act.put, List.setIfInBounds_toArray, List.set_cons_zero, List.set_cons_succ]
      refine wpL_call 29 #[.pointer (some ⟨b, 0, none⟩)] rfl (by kernel_rfl) ((secD D.out).mono fun e X ⟨he, hx⟩ => ⟨.int .i64 (n : Int), he, ?_⟩)
      simp only [Act.put, List.setIfInBounds_toArray, List.set_cons_zero, List.set_cons_succ]
      subst hx
      refine wpL_pure (.bool false) rfl (run_lti Try.underlying3 rfl rfl rfl (by have := EK.out; rw [decide_eq_false_iff_not]; omega)) ?_
      simp only [Act.put, List.setIfInBounds_toArray, List.set_cons_zero, List.set_cons_succ]
      go_upto_region 7 with (fail)
      refine wp_region_lit ?_
      refine wpL_pure (u5) rfl (by kernel_rfl) ?_
      simp only [Act.put, List.setIfInBounds_toArray, List.set_cons_zero, List.set_cons_succ]
      refine wpL_pure (u5) rfl (by kernel_rfl) ?_
      simp only [Act.put, List.setIfInBounds_toArray, List.set_cons_zero, List.set_cons_succ]
      go_wp2_with fail
      go_ret
      refine ⟨_, rfl, RB.out, vals, RO.out, ?_⟩; exact (by have q := RL.out.1; rw [List.take_of_length_le (by rw [List.length_drop, D.out.2.2.2.1]; have := EK.out; omega)] at q; exact q)
end Go.Proofs.Yteabblmhcjpboaa.D
