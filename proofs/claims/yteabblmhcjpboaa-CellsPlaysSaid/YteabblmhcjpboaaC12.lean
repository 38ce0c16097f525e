/- Append, Clear; what a log tells. -/
import Derived.Test.YteabblmhcjpboaaC11
namespace Go.Proofs.Yteabblmhcjpboaa.D
open Go Go.RowKit
set_option maxRecDepth 100000
/-- the blocks that Append may change. -/
def Pv (lb b gs gm : Nat) (v : Value) (k : Nat) : Prop := k = b ∨ k = gs ∨ k = gm ∨ k = lb ∨ v.ownBlock = some k
theorem Pq_Pv {lb b gs gm : Nat} {v : Value} {k : Nat} (h : Pq lb b gs gm k) : Pv lb b gs gm v k := by
  rcases h with h | h | h | h
  · exact .inl h
  · exact .inr (.inl h)
  · exact .inr (.inr (.inl h))
  · exact .inr (.inr (.inr (.inl h)))
def Room (S : List (List Int)) (fr : Nat) (bs : List Int) : Prop := ∀ j, j < bs.length → bt S ((fr + 2) * 64 + j) = bs.getD j 0
/-- the state that stands on the disk. -/
def OpenIs (S : List (List Int)) (fr rm s : Nat) (nt bs : List Int) : Prop := (∃ X0 X1, S[fr]? = some X0 ∧ S[fr + 1]? = some X1 ∧ opH rm X0 X1 = (s, bs.length, nt)) ∧ Room S fr bs
theorem sec_same {S S' : List (List Int)} (hS : ∀ s ∈ S, SOk s) (hS' : ∀ s ∈ S', SOk s) (hl : S'.length = S.length) {i : Nat} (h : ∀ r, r < 64 → bt S' (i * 64 + r) = bt S (i * 64 + r)) : S'[i]? = S[i]? := by
  rcases Nat.lt_or_ge i S.length with hi | hi
  · have hi' : i < S'.length := by omega
    rw [List.getElem?_eq_getElem hi, List.getElem?_eq_getElem hi']
    congr 1
    exact sec_ext (hS' _ (List.getElem_mem hi')).1 (hS _ (List.getElem_mem hi)).1 (fun r hr => by
      have q := h r hr
      rwa [bt_get (List.getElem?_eq_getElem hi') r hr, bt_get (List.getElem?_eq_getElem hi) r hr] at q)
  · rw [List.getElem?_eq_none hi, List.getElem?_eq_none (by omega)]
theorem FillRel.outs {S S' : List (List Int)} {fr rm vl : Nat} {ys : List Int} (h : FillRel S S' ((fr + 2) * 64 + vl) ys) (hS : ∀ s ∈ S, SOk s) (hS' : ∀ s ∈ S', SOk s) (hb : vl + ys.length ≤ rm * 64) (i : Nat) (hi : ¬ (fr ≤ i ∧ i < fr + 2 + rm)) : S'[i]? = S[i]? :=
  sec_same hS hS' h.1 (fun r hr => by rw [h.2, if_neg (by omega)])
theorem FillRel.heads {S S' : List (List Int)} {fr vl : Nat} {ys : List Int} (h : FillRel S S' ((fr + 2) * 64 + vl) ys) (hS : ∀ s ∈ S, SOk s) (hS' : ∀ s ∈ S', SOk s) {i : Nat} (hi : i < fr + 2) : S'[i]? = S[i]? :=
  sec_same hS hS' h.1 (fun r hr => by rw [h.2, if_neg (by omega)])
theorem getD_app (xs ys : List Int) (j : Nat) : (xs ++ ys).getD j 0 = if j < xs.length then xs.getD j 0 else ys.getD (j - xs.length) 0 := by
  simp only [List.getD_eq_getElem?_getD]
  by_cases h : j < xs.length
  · rw [if_pos h, List.getElem?_append_left h]
  · rw [if_neg h, List.getElem?_append_right (by omega)]
theorem FillRel.room {S S' : List (List Int)} {fr vl : Nat} {ys bs : List Int} (h : FillRel S S' ((fr + 2) * 64 + vl) ys) (hr : Room S fr bs) (hl : bs.length = vl) : Room S' fr (bs ++ ys) := fun j hj => by
  rw [List.length_append] at hj
  rw [h.2, getD_app]
  by_cases q : j < vl
  · rw [if_neg (by omega), if_pos (by omega)]; exact hr j (by omega)
  · rw [if_pos (by omega), if_neg (by omega)]; congr 1; omega
theorem OpenIs.fill {S S' : List (List Int)} {fr rm s vl : Nat} {nt bs ys : List Int} (h : OpenIs S fr rm s nt bs) (r : FillRel S S' ((fr + 2) * 64 + vl) ys) (hS : ∀ s ∈ S, SOk s) (hS' : ∀ s ∈ S', SOk s) (hl : bs.length = vl) : OpenIs S' fr rm s nt bs := by
  obtain ⟨⟨X0, X1, h0, h1, ho⟩, hr⟩ := h
  exact ⟨⟨X0, X1, (r.heads hS hS' (by omega)).trans h0, (r.heads hS hS' (by omega)).trans h1, ho⟩, fun j hj => by rw [r.2, if_neg (by omega)]; exact hr j hj⟩
theorem OpenIs.harm {S : List (List Int)} {fr rm s : Nat} {nt bs : List Int} (h : OpenIs S fr rm s nt bs) : ∀ O, S[fr + (s + 1) % 2]? = some O → Harm rm s O := fun O hO => by
  obtain ⟨⟨X0, X1, h0, h1, ho⟩, _⟩ := h
  have q := op_other ho
  rcases Nat.mod_two_eq_zero_or_one s with e | e
  · rw [show (s + 1) % 2 = 1 by omega, h1] at hO; cases hO; exact q.1 e
  · rw [show (s + 1) % 2 = 0 by omega, Nat.add_zero, h0] at hO; cases hO; exact q.2 e
theorem room_set {S : List (List Int)} {fr at_ : Nat} {Y : List Int} {bs : List Int} (h : Room S fr bs) (ha : at_ < fr + 2) (hi : at_ < S.length) : Room (S.set at_ Y) fr bs := fun j hj => by
  rw [bt_set hi, if_neg (by omega)]; exact h j hj
theorem open_set {S : List (List Int)} {fr rm s s' c' : Nat} {nt nt' bs bs' : List Int} (h : OpenIs S fr rm s nt bs) {Y : List Int} (hr : Room S fr bs') (hc : bs'.length = c')
    (k : ∀ X0 X1, opH rm X0 X1 = (s, bs.length, nt) → (s % 2 = 0 → opH rm X0 Y = (s', c', nt')) ∧ (s % 2 = 1 → opH rm Y X1 = (s', c', nt'))) : OpenIs (S.set (fr + (s + 1) % 2) Y) fr rm s' nt' bs' := by
  obtain ⟨⟨X0, X1, h0, h1, ho⟩, _⟩ := h
  have q := k X0 X1 ho
  have l0 := lt_of_some h0
  have l1 := lt_of_some h1
  rw [hc.symm] at q
  rcases Nat.mod_two_eq_zero_or_one s with e | e
  · rw [show (s + 1) % 2 = 1 by omega]
    exact ⟨⟨X0, Y, by rw [List.getElem?_set_ne (by omega)]; exact h0, by rw [List.getElem?_set_self l1], q.1 e⟩, room_set hr (by omega) l1⟩
  · rw [show (s + 1) % 2 = 0 by omega, Nat.add_zero]
    exact ⟨⟨Y, X1, by rw [List.getElem?_set_self l0], by rw [List.getElem?_set_ne (by omega)]; exact h1, q.2 e⟩, room_set hr (by omega) l0⟩
theorem OpenIs.next {S : List (List Int)} {fr rm s c1 : Nat} {nt bs nt1 bs1 O : List Int} (h : OpenIs S fr rm s nt bs) (hc : bs1.length = c1) (_hO : S[fr + (s + 1) % 2]? = some O) (hn : NtOk nt1) (hs : s < 9223372036854775808) (hb : c1 ≤ rm * 64) (hr : Room S fr bs1) (_ : (secV (s + 1) c1 nt1).length = 64) (hrm : c1 < 18446744073709551616 := by omega) : OpenIs (S.set (fr + (s + 1) % 2) (secV (s + 1) c1 nt1)) fr rm (s + 1) nt1 bs1 :=
  open_set h hr hc (fun X0 X1 ho => op_next ho ⟨sec_whole hn, sec_srl hn (by unfold U64; omega), sec_cnt hn hrm, sec_nte hn⟩ hb)
theorem OpenIs.good {S : List (List Int)} {fr rm s c1 : Nat} {nt bs nt1 bs1 Y : List Int} (h : OpenIs S fr rm s nt bs) (hc : bs1.length = c1) (hY : GoodY rm s c1 nt1 Y) (hb : c1 ≤ rm * 64) (hr : Room S fr bs1) : OpenIs (S.set (fr + (s + 1) % 2) Y) fr rm s nt bs ∨ OpenIs (S.set (fr + (s + 1) % 2) Y) fr rm (s + 1) nt1 bs1 := by
  rcases hY with q | q
  · exact .inr (open_set h hr hc (fun X0 X1 ho => op_next ho q hb))
  · exact .inl (open_set h h.2 rfl (fun X0 X1 ho => op_keep ho q))
/-- what a crash may leave. -/
def CrashRel (L : List (Int × List Int × Nat)) (S S' : List (List Int)) : Prop := S'.length = S.length ∧ ∀ (i : Nat) (s : List Int), S[i]? = some s → ((∀ e ∈ L, e.1 ≠ (i : Int)) → S'[i]? = some s) ∧ (∀ e ∈ L, e.1 = (i : Int) → ∃ k, S'[i]? = some (tornV e.2.1 s k))
theorem OpenIs.cut {S S5 S6 : List (List Int)} {fr rm s c1 : Nat} {nt bs nt1 bs1 O : List Int} {L : List (Int × List Int × Nat)} (h : OpenIs S fr rm s nt bs) (hc : bs1.length = c1) (hO : S[fr + (s + 1) % 2]? = some O) (ct : CutH rm s c1 nt1 (fr + (s + 1) % 2) S L S5) (cr : CrashRel L S5 S6) (hb : c1 ≤ rm * 64) (hr : Room S fr bs1) : OpenIs S6 fr rm s nt bs ∨ OpenIs S6 fr rm (s + 1) nt1 bs1 := by
  obtain ⟨N', rfl, hN, ⟨rfl, hg⟩ | ⟨O', br, rfl, hO', hg⟩⟩ := ct
  · have e : S6 = S.set (fr + (s + 1) % 2) N' := by
      apply List.ext_getElem?
      intro i
      rcases Nat.lt_or_ge i (S.set (fr + (s + 1) % 2) N').length with q | q
      · rw [List.getElem?_eq_getElem q]
        exact (cr.2 i _ (List.getElem?_eq_getElem q)).1 (fun e he => absurd he (by simp))
      · rw [List.getElem?_eq_none q, List.getElem?_eq_none (by rw [cr.1]; exact q)]
    rw [e]
    exact h.good hc hg hb hr
  · have li := lt_of_some hO
    obtain ⟨k, hk⟩ := (cr.2 (fr + (s + 1) % 2) N' (by rw [List.getElem?_set_self li])).2 _ (List.mem_singleton.2 rfl) rfl
    have e : S6 = S.set (fr + (s + 1) % 2) (tornV O' N' k) := by
      apply List.ext_getElem?
      intro i
      by_cases q : fr + (s + 1) % 2 = i
      · rw [← q, hk, List.getElem?_set_self li]
      · rw [List.getElem?_set_ne q]
        rcases Nat.lt_or_ge i S.length with p | p
        · rw [List.getElem?_eq_getElem p]
          exact (cr.2 i _ (by rw [List.getElem?_set_ne q, List.getElem?_eq_getElem p])).1 (fun e he z => by obtain rfl := List.mem_singleton.1 he; simp only at z; omega)
        · rw [List.getElem?_eq_none p, List.getElem?_eq_none (by rw [cr.1, List.length_set]; exact p)]
    rw [e]
    exact h.good hc (hg k) hb hr
theorem torn_get {O L : List Int} (hO : O.length = 64) (hL : L.length = 64) (k r : Nat) (e : O.getD r 0 = L.getD r 0) : (tornV O L k).getD r 0 = O.getD r 0 := by
  have key : ∀ (A B : List Int) (m : Nat), A.length = 64 → A.getD r 0 = B.getD r 0 → m ≤ 64 → (A.take m ++ B.drop m).getD r 0 = A.getD r 0 := fun A B m hA e hm => by
    have l : (A.take m).length = m := by rw [List.length_take, hA]; omega
    rw [getD_app, l]
    by_cases q : r < m
    · rw [if_pos q, getD_take' _ q]
    · rw [if_neg q, getD_drop', show m + (r - m) = r by omega, e]
  unfold tornV
  have h1 := Nat.min_le_right k 64
  change Nat.min k 64 ≤ 64 at h1
  split
  · rw [key L O _ hL e.symm h1, e]
  · exact key O L _ hO e (by omega)
theorem OpenIs.lost {S S3 S6 : List (List Int)} {fr rm s vl : Nat} {nt bs ys : List Int} {L : List (Int × List Int × Nat)} (h : OpenIs S fr rm s nt bs) (r : FillRel S S3 ((fr + 2) * 64 + vl) ys) (hL : LIn fr rm S L) (hS : ∀ s ∈ S, SOk s) (hS3 : ∀ s ∈ S3, SOk s) (hl : bs.length = vl) (cr : CrashRel L S3 S6) : OpenIs S6 fr rm s nt bs := by
  have h3 := h.fill r hS hS3 hl
  obtain ⟨⟨X0, X1, h0, h1, ho⟩, hr⟩ := h3
  have nl : ∀ i, i < fr + 2 → ∀ e ∈ L, e.1 ≠ (i : Int) := fun i hi e he q => by
    obtain ⟨k, h1, h2, _⟩ := hL e he
    omega
  refine ⟨⟨X0, X1, (cr.2 fr X0 h0).1 (nl fr (by omega)), (cr.2 (fr + 1) X1 h1).1 (nl (fr + 1) (by omega)), ho⟩, fun j hj => ?_⟩
  have b3 := hr j hj
  have b0 := h.2 j hj
  rw [← b0]
  rw [← b0] at b3
  generalize (fr + 2) * 64 + j = p at b3
  unfold bt at b3 ⊢
  rcases Nat.lt_or_ge (p / 64) S3.length with hp | hp
  · have g3 : S3[p / 64]? = some S3[p / 64] := List.getElem?_eq_getElem hp
    by_cases q : ∃ e ∈ L, e.1 = ((p / 64 : Nat) : Int)
    · obtain ⟨e, he, q⟩ := q
      obtain ⟨k, hk⟩ := (cr.2 (p / 64) _ g3).2 e he q
      obtain ⟨i, i1, i2, i3, i4⟩ := hL e he
      obtain rfl : i = p / 64 := by omega
      have g0 := getD_some i4
      rw [getD_some g3, g0] at b3
      rw [getD_some hk, g0]
      exact torn_get (hS _ (List.mem_of_getElem? i4)).1 (hS3 _ (List.getElem_mem hp)).1 k _ b3.symm
    · rw [getD_some ((cr.2 (p / 64) _ g3).1 (fun e he z => q ⟨e, he, z⟩)), ← b3, getD_some g3]
  · have g6 : S6[p / 64]? = none := List.getElem?_eq_none (by rw [cr.1]; exact hp)
    have g0 : S[p / 64]? = none := List.getElem?_eq_none (by rw [← r.1]; exact hp)
    simp only [List.getD_eq_getElem?_getD, g6, g0]
def Outs (fr rm : Nat) (S S' : List (List Int)) : Prop := ∀ i, ¬ (fr ≤ i ∧ i < fr + 2 + rm) → S'[i]? = S[i]?
theorem outs_set {S S' : List (List Int)} {fr rm p : Nat} {Y : List Int} {i : Nat} (hi : ¬ (fr ≤ i ∧ i < fr + 2 + rm)) (h : S'[i]? = S[i]?) : (S'.set (fr + p % 2) Y)[i]? = S[i]? := by
  rw [List.getElem?_set_ne (by have := Nat.mod_lt p (show 0 < 2 by omega); omega)]; exact h
/-- what the append leaves. -/
def AK (w W4 : World) (lb b gs gm n fr rm s c : Nat) (nt : List Int) (v : Value) (ov : Bool) (dc : Nat) (S : List (List Int)) (fu : Bool) (fz : Int) (u : Value) (xs : List Int) (g5 : Nat) (nt1 : List Int) : Prop :=
  Fl (Pv lb b gs gm v) w W4 ∧ LS W4 lb b fr rm s c nt v ov ∧ DS W4 b gs gm n [] dc S fu fz false ∧ Own W4 0 u xs ∧ Blk W4 g5 32 (u8l nt1).toArray ∧ ∀ k, u.ownBlock = some k → k ≠ b ∧ k ≠ gs ∧ k ≠ gm ∧ k ≠ lb ∧ (w.heap.size ≤ k ∨ v.ownBlock = some k)
theorem ds_farO {w w' : World} {b gs gm n c : Nat} {r : Option Nat} {L : List (Int × List Int × Nat)} {S : List (List Int)} {fu go : Bool} {fz : Int} (h : DS w b gs gm n L c S fu fz go) (q : w.grownBy w' r) (hr : some b ≠ r ∧ some gs ≠ r ∧ some gm ≠ r) : DS w' b gs gm n L c S fu fz go :=
  ⟨h.1.grown q hr.1, h.2.1.grown q hr.2.1, (q.block _ h.2.2.2.2.2.2.1 hr.2.2).trans h.2.2.1, h.2.2.2.1, h.2.2.2.2.1, h.2.2.2.2.2.1, Nat.lt_of_lt_of_le h.2.2.2.2.2.2.1 q.size, h.2.2.2.2.2.2.2⟩
theorem app_keep {w W3 W4 : World} {lb b gs gm n fr rm s c dc g5 : Nat} {nt nt1 xs : List Int} {v u : Value} {ov : Bool} {S : List (List Int)} {fu : Bool} {fz : Int} (f : Fl (Pv lb b gs gm v) w W3) (l : LS W3 lb b fr rm s c nt v ov) (d : DS W3 b gs gm n [] dc S fu fz false) (g : Blk W3 g5 32 (u8l nt1).toArray)
    (nv : ∀ k, v.ownBlock = some k → k ≠ b ∧ k ≠ gs ∧ k ≠ gm ∧ k ≠ lb) (n5 : ∀ k, v.ownBlock = some k → g5 ≠ k) (r2 : Own W4 0 u xs) (r3 : W3.drew.grownBy W4 v.ownBlock) (r4 : u.ownBlock = v.ownBlock ∨ u.ownBlock = some W3.drew.heap.size) : AK w W4 lb b gs gm n fr rm s c nt v ov dc S fu fz u xs g5 nt1 := by
  have r3' : W3.grownBy W4 v.ownBlock := ⟨r3.os, r3.tape, r3.output, r3.size, r3.block⟩
  have l3 := d.lts
  have l1 := l.1.lt
  refine ⟨f.trans (Fl.gb r3' (fun k hk _ => .inr (.inr (.inr (.inr hk))))), ⟨l.1.grown r3' (fun e => (nv lb e.symm).2.2.2 rfl), l.2⟩, ds_farO d r3' ⟨fun e => (nv b e.symm).1 rfl, fun e => (nv gs e.symm).2.1 rfl, fun e => (nv gm e.symm).2.2.1 rfl⟩, r2, g.grown r3' (fun e => n5 g5 e.symm rfl), fun k hk => ?_⟩
  rcases r4 with e | e
  · rw [e] at hk
    have z := nv k hk
    exact ⟨z.1, z.2.1, z.2.2.1, z.2.2.2, .inr hk⟩
  · rw [e] at hk
    have hk : W3.heap.size = k := by simpa using hk
    have := f.2.2.2.1
    exact ⟨by omega, by omega, by omega, by omega, .inl (by omega)⟩
theorem own_fit {w : World} {a : Option Addr} {n c : Nat} {xs : List Int} (h : Own w 0 (.slice a n c) xs) : Row w a n xs ∧ (a = none → c = 0) := ⟨h.row.1, fun e => by
  subst e
  rcases h.form with ⟨q, _⟩ | ⟨_, _, _, q, _⟩
  · simp only [Value.slice.injEq] at q; exact q.2.2
  · simp at q⟩
def ApPost (lb b gs gm n fr rm s : Nat) (nt : List Int) (v : Value) (bs : List Int) (S : List (List Int)) (fu : Bool) (m : Nat) (ys nt1 : List Int) (w : World) (e : Ending) (w' : World) : Prop :=
  (rm * 64 < bs.length + m ∧ e = .returned (.int .i64 4) ∧ Below w.heap.size w w') ∨
  (bs.length + m ≤ rm * 64 ∧ e = .returned (.int .i64 0) ∧ ∃ (dc' : Nat) (fz' : Int) (S' : List (List Int)) (xa : Option Addr) (xc : Nat), LS w' lb b fr rm (s + 1) (bs.length + m) nt1 (.slice xa (bs.length + m) xc) false ∧ DS w' b gs gm n [] dc' S' fu fz' false ∧ Fl (Pv lb b gs gm v) w w' ∧ Own w' 0 (.slice xa (bs.length + m) xc) (bs ++ ys) ∧
    (∀ k, (Value.slice xa (bs.length + m) xc).ownBlock = some k → k ≠ b ∧ k ≠ gs ∧ k ≠ gm ∧ k ≠ lb ∧ (w.heap.size ≤ k ∨ v.ownBlock = some k)) ∧ OpenIs S' fr rm (s + 1) nt1 (bs ++ ys) ∧ Outs fr rm S S') ∨
  (bs.length + m ≤ rm * 64 ∧ fu = true ∧ e = .returned (.int .i64 5) ∧ LS w' lb b fr rm s bs.length nt v true ∧ ∃ (L' : List (Int × List Int × Nat)) (dc' : Nat) (fz' : Int) (S' : List (List Int)), DS w' b gs gm n L' dc' S' fu fz' true ∧ Fl (Pv lb b gs gm v) w w' ∧ ∀ S'', CrashRel L' S' S'' → OpenIs S'' fr rm s nt bs ∨ OpenIs S'' fr rm (s + 1) nt1 (bs ++ ys))
def ClPost (lb b gs gm n fr rm s : Nat) (nt : List Int) (v : Value) (bs : List Int) (S : List (List Int)) (fu : Bool) (w : World) (e : Ending) (w' : World) : Prop :=
  (e = .returned (.int .i64 0) ∧ ∃ (dc' : Nat) (fz' : Int) (S' : List (List Int)), LS w' lb b fr rm (s + 1) 0 nt (.slice none 0 0) false ∧ DS w' b gs gm n [] dc' S' fu fz' false ∧ Fl (Pq lb b gs gm) w w' ∧ OpenIs S' fr rm (s + 1) nt [] ∧ Outs fr rm S S') ∨
  (fu = true ∧ e = .returned (.int .i64 5) ∧ LS w' lb b fr rm s bs.length nt v true ∧ ∃ (L' : List (Int × List Int × Nat)) (dc' : Nat) (fz' : Int) (S' : List (List Int)), DS w' b gs gm n L' dc' S' fu fz' true ∧ Fl (Pq lb b gs gm) w w' ∧ ∀ S'', CrashRel L' S' S'' → OpenIs S'' fr rm s nt bs ∨ OpenIs S'' fr rm (s + 1) nt [])
attribute [local irreducible] wpList
set_option maxHeartbeats 8000000
theorem bytes_any {w : World} {lb b fr rm : Nat} {s c : Nat} {nt : List Int} {v : Value} {ov : Bool} {va : Option Addr} {vl vc : Nat} {bs : List Int} (h : LS w lb b fr rm s c nt (.slice va vl vc) ov) (ho : Own w 0 (.slice va vl vc) bs) (hb : vl ≤ 1000000) : Calls Try.prog 13 #[.pointer (some ⟨lb, 0, none⟩)] w fun e w' => ∃ u, e = .returned u ∧ Below w.heap.size w w' ∧ Own w' w.heap.size u bs := by
  have H := Lib.hid h
  have HO := Lib.hid (And.intro (own_fit ho) hb)
  clear h ho hb
  go_enter Try.func13, Try.ntmps13
  go_upto_region 0 with (fail)
  refine wp_region_lit ?_
  refine wpL_pure (.slice none 0 0) rfl (by kernel_rfl) ?_
  simp only [Act.put, List.setIfInBounds_toArray, List.set_cons_zero, List.set_cons_succ]
  go_upto_region 1 with (fail)
  refine wp_region_lit ?_
  refine wpL_pure (.pointer (some ⟨lb, 0, none⟩)) rfl (by kernel_rfl) ?_
  simp only [Act.put, List.setIfInBounds_toArray, List.set_cons_zero, List.set_cons_succ]
  refine wpL_pure (.pointer (some ⟨lb, 0, none⟩)) rfl (by kernel_rfl) ?_
  simp only [Act.put, List.setIfInBounds_toArray, List.set_cons_zero, List.set_cons_succ]
  refine wpL_pure (.pointer (some ⟨lb, 21, none⟩)) rfl (by kernel_rfl) ?_
  simp only [Act.put, List.setIfInBounds_toArray, List.set_cons_zero, List.set_cons_succ]
  refine wpL_pure (.slice va vl vc) rfl (run_load_one _ _ _ 26 _ _ rfl (lb) (21) rfl (H.out.c21) (by kernel_rfl)) ?_
  simp only [Act.put, List.setIfInBounds_toArray, List.set_cons_zero, List.set_cons_succ]
  refine wpL_call 37 #[.slice va vl vc] rfl (by kernel_rfl) ((clone_any w va vl vc bs HO.out.1.1 (by have := HO.out.2; omega) HO.out.1.2).mono fun e X ⟨u, he, ho, bb, _⟩ => ⟨u, he, ?_⟩)
  simp only [Act.put, List.setIfInBounds_toArray, List.set_cons_zero, List.set_cons_succ]
  have F1 : Hid (Below w.heap.size w X ∧ Own X w.heap.size u bs) := Lib.hid ⟨bb, ho⟩
  clear bb ho
  refine wpL_pure (u) rfl (by kernel_rfl) ?_
  simp only [Act.put, List.setIfInBounds_toArray, List.set_cons_zero, List.set_cons_succ]
  go_wp2_with fail
  go_ret
  exact ⟨_, rfl, F1.out⟩
theorem note_any {w : World} {lb b fr rm : Nat} {s c : Nat} {nt : List Int} {v : Value} {ov : Bool} (h : LS w lb b fr rm s c nt v ov) : Calls Try.prog 15 #[.pointer (some ⟨lb, 0, none⟩)] w fun e w' => e = .returned (.agg (u8l nt).toArray) ∧ Below w.heap.size w w' := by
  have H := Lib.hid h
  clear h
  go_enter Try.func15, Try.ntmps15
  go_upto_region 0 with (fail)
  refine wp_region_lit ?_
  obtain ⟨W1, hW1⟩ : ∃ V, V = w.alloc (.cells (u8l (List.replicate 16 0)).toArray 32) := ⟨_, rfl⟩
  refine wpL_value (.pointer (some ⟨w.heap.size, 0, none⟩)) W1 rfl (by rw [hW1]; kernel_rfl) ?_
  simp only [Act.put, List.setIfInBounds_toArray, List.set_cons_zero, List.set_cons_succ]
  obtain ⟨g2, hg2⟩ : ∃ q, w.heap.size = q := ⟨_, rfl⟩
  have F1 : Hid (Below w.heap.size w W1 ∧ Blk W1 g2 32 (u8l (List.replicate 16 0)).toArray ∧ LS W1 lb b fr rm s c nt v ov ∧ w.heap.size ≤ g2) := Lib.hid (by rw [hW1, ← hg2]; exact ⟨(Below.refl _ _).alloc (Nat.le_refl _) _, Blk.new _ _ _, H.out.below ((Below.refl _ _).alloc (Nat.le_refl _) _), Nat.le_refl _⟩)
  rw [hg2]
  clear hW1 hg2
  go_upto_region 1 with (fail)
  refine wp_region_lit ?_
  refine wpL_pure (.pointer (some ⟨lb, 0, none⟩)) rfl (by kernel_rfl) ?_
  simp only [Act.put, List.setIfInBounds_toArray, List.set_cons_zero, List.set_cons_succ]
  refine wpL_pure (.pointer (some ⟨lb, 0, none⟩)) rfl (by kernel_rfl) ?_
  simp only [Act.put, List.setIfInBounds_toArray, List.set_cons_zero, List.set_cons_succ]
  refine wpL_pure (.pointer (some ⟨lb, 3, none⟩)) rfl (by kernel_rfl) ?_
  simp only [Act.put, List.setIfInBounds_toArray, List.set_cons_zero, List.set_cons_succ]
  refine wpL_pure (.pointer (some ⟨lb, 5, none⟩)) rfl (by kernel_rfl) ?_
  simp only [Act.put, List.setIfInBounds_toArray, List.set_cons_zero, List.set_cons_succ]
  refine wpL_pure (.agg (u8l nt).toArray) rfl (run_load_mid _ _ _ 32 _ rfl lb 5 rfl (u8l nt) _ F1.out.2.2.1.note Try.underlying32 rfl (by simp only [List.size_toArray, u8l_len, H.out.2.1.1] <;> kernel_rfl)) ?_
  simp only [Act.put, List.setIfInBounds_toArray, List.set_cons_zero, List.set_cons_succ]
  refine wpList_store_row rfl 32 _ _ rfl g2 (u8l nt).toArray rfl rfl 32 _ F1.out.2.1 (by simp only [List.size_toArray, u8l_len, H.out.2.1.1] <;> kernel_rfl) (by simp only [List.size_toArray, u8l_len, H.out.2.1.1, List.length_replicate]) (u8l_one _) ?_
  simp only [Act.put, List.setIfInBounds_toArray, List.set_cons_zero, List.set_cons_succ]
  obtain ⟨W2, hW2⟩ : ∃ V, V = W1.setRow g2 (u8l nt).toArray := ⟨_, rfl⟩
  rw [← hW2]
  have F2 : Hid (Below w.heap.size w W2 ∧ Blk W2 g2 32 (u8l nt).toArray) := Lib.hid (by rw [hW2]; exact ⟨below_setRow F1.out.1 F1.out.2.2.2 _, setRow_heap _ _ _ _ _ _ F1.out.2.1⟩)
  clear hW2
  go_wp2_with fail
  exact bodyPost_ret (results_cell_row rfl _ _ g2 32 _ (0, 0) _ rfl F2.out.2 Try.underlying32 rfl (by simp only [List.size_toArray, u8l_len, H.out.2.1.1] <;> kernel_rfl)) rfl ⟨rfl, F2.out.1⟩
theorem append_over {w : World} {lb b fr rm : Nat} {s c : Nat} {nt : List Int} {v : Value} {ov : Bool} (h : LS w lb b fr rm s c nt v true) (a : Option Addr) (m cx : Nat) (nt1 : List Int) (hn : NtOk nt1) : Calls Try.prog 11 #[.pointer (some ⟨lb, 0, none⟩), .slice a m cx, .agg (u8l nt1).toArray] w fun e w' => e = .returned (.int .i64 5) ∧ Below w.heap.size w w' := by
  have H := Lib.hid h
  have HN := Lib.hid hn
  clear h hn
  go_enter Try.func11, Try.ntmps11
  go_upto_region 0 with (fail)
  refine wp_region_lit ?_
  obtain ⟨W1, hW1⟩ : ∃ V, V = w.alloc (.cells (u8l nt1).toArray 32) := ⟨_, rfl⟩
  refine wpL_value (.pointer (some ⟨w.heap.size, 0, none⟩)) W1 rfl (by rw [hW1]; exact run_box32 _ _ _ _ _ nt1 rfl rfl HN.out.1 rfl) ?_
  simp only [Act.put, List.setIfInBounds_toArray, List.set_cons_zero, List.set_cons_succ]
  obtain ⟨g5, hg5⟩ : ∃ q, w.heap.size = q := ⟨_, rfl⟩
  have B1 : Hid (Below w.heap.size w W1 ∧ Blk W1 g5 32 (u8l nt1).toArray ∧ w.heap.size = g5) := Lib.hid (by rw [hW1, ← hg5]; exact ⟨(Below.refl _ _).alloc (Nat.le_refl _) _, Blk.new _ _ _, rfl⟩)
  rw [hg5]
  clear hW1 hg5
  have H1 : Hid (LS W1 lb b fr rm s c nt (v) true) := Lib.hid (H.out.below B1.out.1)
  refine wpL_pure (.int .i64 0) rfl (by kernel_rfl) ?_
  simp only [Act.put, List.setIfInBounds_toArray, List.set_cons_zero, List.set_cons_succ]
  go_upto_region 1 with (fail)
  refine wp_region_lit ?_
  refine wpL_pure (.pointer (some ⟨lb, 0, none⟩)) rfl (by kernel_rfl) ?_
  simp only [Act.put, List.setIfInBounds_toArray, List.set_cons_zero, List.set_cons_succ]
  refine wpL_call 23 #[.pointer (some ⟨lb, 0, none⟩)] rfl (by kernel_rfl) ((overD H1.out).mono fun e X ⟨he, hx⟩ => ⟨.bool true, he, ?_⟩)
  simp only [Act.put, List.setIfInBounds_toArray, List.set_cons_zero, List.set_cons_succ]
  subst hx
  refine wpL_pure (.bool true) rfl (by kernel_rfl) ?_
  simp only [Act.put, List.setIfInBounds_toArray, List.set_cons_zero, List.set_cons_succ]
  go_upto_region 2 with (fail)
  refine wp_region_lit ?_
  refine wpL_pure (.int .i64 5) rfl (by kernel_rfl) ?_
  simp only [Act.put, List.setIfInBounds_toArray, List.set_cons_zero, List.set_cons_succ]
  go_wp2_with fail
  go_ret
  exact ⟨rfl, B1.out.1⟩
theorem append_spent {w : World} {lb b fr rm : Nat} {s c : Nat} {nt : List Int} {v : Value} {ov : Bool} (h : LS w lb b fr rm s c nt v false) (hs : 4611686018427387904 ≤ s) (a : Option Addr) (m cx : Nat) (nt1 : List Int) (hn : NtOk nt1) : Calls Try.prog 11 #[.pointer (some ⟨lb, 0, none⟩), .slice a m cx, .agg (u8l nt1).toArray] w fun e w' => e = .returned (.int .i64 14) ∧ Below w.heap.size w w' := by
  have H := Lib.hid h
  have HS := Lib.hid hs
  have HN := Lib.hid hn
  clear h hs hn
  go_enter Try.func11, Try.ntmps11
  go_upto_region 0 with (fail)
  refine wp_region_lit ?_
  obtain ⟨W1, hW1⟩ : ∃ V, V = w.alloc (.cells (u8l nt1).toArray 32) := ⟨_, rfl⟩
  refine wpL_value (.pointer (some ⟨w.heap.size, 0, none⟩)) W1 rfl (by rw [hW1]; exact run_box32 _ _ _ _ _ nt1 rfl rfl HN.out.1 rfl) ?_
  simp only [Act.put, List.setIfInBounds_toArray, List.set_cons_zero, List.set_cons_succ]
  obtain ⟨g5, hg5⟩ : ∃ q, w.heap.size = q := ⟨_, rfl⟩
  have B1 : Hid (Below w.heap.size w W1 ∧ Blk W1 g5 32 (u8l nt1).toArray ∧ w.heap.size = g5) := Lib.hid (by rw [hW1, ← hg5]; exact ⟨(Below.refl _ _).alloc (Nat.le_refl _) _, Blk.new _ _ _, rfl⟩)
  rw [hg5]
  clear hW1 hg5
  have H1 : Hid (LS W1 lb b fr rm s c nt (v) false) := Lib.hid (H.out.below B1.out.1)
  refine wpL_pure (.int .i64 0) rfl (by kernel_rfl) ?_
  simp only [Act.put, List.setIfInBounds_toArray, List.set_cons_zero, List.set_cons_succ]
  go_upto_region 1 with (fail)
  refine wp_region_lit ?_
  refine wpL_pure (.pointer (some ⟨lb, 0, none⟩)) rfl (by kernel_rfl) ?_
  simp only [Act.put, List.setIfInBounds_toArray, List.set_cons_zero, List.set_cons_succ]
  refine wpL_call 23 #[.pointer (some ⟨lb, 0, none⟩)] rfl (by kernel_rfl) ((overD H1.out).mono fun e X ⟨he, hx⟩ => ⟨.bool false, he, ?_⟩)
  simp only [Act.put, List.setIfInBounds_toArray, List.set_cons_zero, List.set_cons_succ]
  subst hx
  refine wpL_pure (.bool false) rfl (by kernel_rfl) ?_
  simp only [Act.put, List.setIfInBounds_toArray, List.set_cons_zero, List.set_cons_succ]
  go_upto_region 3 with (fail)
  refine wp_region_lit ?_
  refine wpL_pure (.pointer (some ⟨lb, 0, none⟩)) rfl (by kernel_rfl) ?_
  simp only [Act.put, List.setIfInBounds_toArray, List.set_cons_zero, List.set_cons_succ]
  refine wpL_pure (.pointer (some ⟨lb, 0, none⟩)) rfl (by kernel_rfl) ?_
  simp only [Act.put, List.setIfInBounds_toArray, List.set_cons_zero, List.set_cons_succ]
  refine wpL_pure (.pointer (some ⟨lb, 3, none⟩)) rfl (by kernel_rfl) ?_
  simp only [Act.put, List.setIfInBounds_toArray, List.set_cons_zero, List.set_cons_succ]
  refine wpL_pure (.pointer (some ⟨lb, 3, none⟩)) rfl (by kernel_rfl) ?_
  simp only [Act.put, List.setIfInBounds_toArray, List.set_cons_zero, List.set_cons_succ]
  refine wpL_pure (.int .u64 ((s : Nat) : Int)) rfl (run_load_one _ _ _ 35 _ _ rfl (lb) (3) rfl (H1.out.c3) (by kernel_rfl)) ?_
  simp only [Act.put, List.setIfInBounds_toArray, List.set_cons_zero, List.set_cons_succ]
  refine wpL_pure (.bool true) rfl (run_gei Try.underlying35 rfl rfl rfl (by have := HS.out; rw [decide_eq_true_eq]; omega)) ?_
  simp only [Act.put, List.setIfInBounds_toArray, List.set_cons_zero, List.set_cons_succ]
  refine wpL_pure (.bool true) rfl (by kernel_rfl) ?_
  simp only [Act.put, List.setIfInBounds_toArray, List.set_cons_zero, List.set_cons_succ]
  go_upto_region 4 with (fail)
  refine wp_region_lit ?_
  refine wpL_pure (.int .i64 14) rfl (by kernel_rfl) ?_
  simp only [Act.put, List.setIfInBounds_toArray, List.set_cons_zero, List.set_cons_succ]
  go_wp2_with fail
  go_ret
  exact ⟨rfl, B1.out.1⟩
theorem clear_over {w : World} {lb b fr rm : Nat} {s c : Nat} {nt : List Int} {v : Value} {ov : Bool} (h : LS w lb b fr rm s c nt v true) : Calls Try.prog 25 #[.pointer (some ⟨lb, 0, none⟩)] w fun e w' => e = .returned (.int .i64 5) ∧ w = w' := by
  have H := Lib.hid h
  clear h
  go_enter Try.func25, Try.ntmps25
  go_upto_region 0 with (fail)
  refine wp_region_lit ?_
  refine wpL_pure (.int .i64 0) rfl (by kernel_rfl) ?_
  simp only [Act.put, List.setIfInBounds_toArray, List.set_cons_zero, List.set_cons_succ]
  go_upto_region 1 with (fail)
  refine wp_region_lit ?_
  refine wpL_pure (.pointer (some ⟨lb, 0, none⟩)) rfl (by kernel_rfl) ?_
  simp only [Act.put, List.setIfInBounds_toArray, List.set_cons_zero, List.set_cons_succ]
  refine wpL_call 23 #[.pointer (some ⟨lb, 0, none⟩)] rfl (by kernel_rfl) ((overD H.out).mono fun e X ⟨he, hx⟩ => ⟨.bool true, he, ?_⟩)
  simp only [Act.put, List.setIfInBounds_toArray, List.set_cons_zero, List.set_cons_succ]
  subst hx
  refine wpL_pure (.bool true) rfl (by kernel_rfl) ?_
  simp only [Act.put, List.setIfInBounds_toArray, List.set_cons_zero, List.set_cons_succ]
  go_upto_region 2 with (fail)
  refine wp_region_lit ?_
  refine wpL_pure (.int .i64 5) rfl (by kernel_rfl) ?_
  simp only [Act.put, List.setIfInBounds_toArray, List.set_cons_zero, List.set_cons_succ]
  go_wp2_with fail
  go_ret
  exact ⟨rfl, rfl⟩
theorem clear_spent {w : World} {lb b fr rm : Nat} {s c : Nat} {nt : List Int} {v : Value} {ov : Bool} (h : LS w lb b fr rm s c nt v false) (hs : 4611686018427387904 ≤ s) : Calls Try.prog 25 #[.pointer (some ⟨lb, 0, none⟩)] w fun e w' => e = .returned (.int .i64 14) ∧ w = w' := by
  have H := Lib.hid h
  have HS := Lib.hid hs
  clear h hs
  go_enter Try.func25, Try.ntmps25
  go_upto_region 0 with (fail)
  refine wp_region_lit ?_
  refine wpL_pure (.int .i64 0) rfl (by kernel_rfl) ?_
  simp only [Act.put, List.setIfInBounds_toArray, List.set_cons_zero, List.set_cons_succ]
  go_upto_region 1 with (fail)
  refine wp_region_lit ?_
  refine wpL_pure (.pointer (some ⟨lb, 0, none⟩)) rfl (by kernel_rfl) ?_
  simp only [Act.put, List.setIfInBounds_toArray, List.set_cons_zero, List.set_cons_succ]
  refine wpL_call 23 #[.pointer (some ⟨lb, 0, none⟩)] rfl (by kernel_rfl) ((overD H.out).mono fun e X ⟨he, hx⟩ => ⟨.bool false, he, ?_⟩)
  simp only [Act.put, List.setIfInBounds_toArray, List.set_cons_zero, List.set_cons_succ]
  subst hx
  refine wpL_pure (.bool false) rfl (by kernel_rfl) ?_
  simp only [Act.put, List.setIfInBounds_toArray, List.set_cons_zero, List.set_cons_succ]
  go_upto_region 3 with (fail)
  refine wp_region_lit ?_
  refine wpL_pure (.pointer (some ⟨lb, 0, none⟩)) rfl (by kernel_rfl) ?_
  simp only [Act.put, List.setIfInBounds_toArray, List.set_cons_zero, List.set_cons_succ]
  refine wpL_pure (.pointer (some ⟨lb, 0, none⟩)) rfl (by kernel_rfl) ?_
  simp only [Act.put, List.setIfInBounds_toArray, List.set_cons_zero, List.set_cons_succ]
  refine wpL_pure (.pointer (some ⟨lb, 3, none⟩)) rfl (by kernel_rfl) ?_
  simp only [Act.put, List.setIfInBounds_toArray, List.set_cons_zero, List.set_cons_succ]
  refine wpL_pure (.pointer (some ⟨lb, 3, none⟩)) rfl (by kernel_rfl) ?_
  simp only [Act.put, List.setIfInBounds_toArray, List.set_cons_zero, List.set_cons_succ]
  refine wpL_pure (.int .u64 ((s : Nat) : Int)) rfl (run_load_one _ _ _ 35 _ _ rfl (lb) (3) rfl (H.out.c3) (by kernel_rfl)) ?_
  simp only [Act.put, List.setIfInBounds_toArray, List.set_cons_zero, List.set_cons_succ]
  refine wpL_pure (.bool true) rfl (run_gei Try.underlying35 rfl rfl rfl (by have := HS.out; rw [decide_eq_true_eq]; omega)) ?_
  simp only [Act.put, List.setIfInBounds_toArray, List.set_cons_zero, List.set_cons_succ]
  refine wpL_pure (.bool true) rfl (by kernel_rfl) ?_
  simp only [Act.put, List.setIfInBounds_toArray, List.set_cons_zero, List.set_cons_succ]
  go_upto_region 4 with (fail)
  refine wp_region_lit ?_
  refine wpL_pure (.int .i64 14) rfl (by kernel_rfl) ?_
  simp only [Act.put, List.setIfInBounds_toArray, List.set_cons_zero, List.set_cons_succ]
  go_wp2_with fail
  go_ret
  exact ⟨rfl, rfl⟩
theorem append_any {w : World} {lb b fr rm : Nat} {s : Nat} {nt : List Int} {va : Option Addr} {vc gs gm n dc : Nat} {bs : List Int} {S : List (List Int)} {fu : Bool} {fz : Int} (h : LS w lb b fr rm s bs.length nt (.slice va bs.length vc) false) (d : DS w b gs gm n [] dc S fu fz false) (ho : Own w 0 (.slice va bs.length vc) bs) (hb : bs.length ≤ rm * 64) (nv : ∀ k, (Value.slice va bs.length vc).ownBlock = some k → k ≠ b ∧ k ≠ gs ∧ k ≠ gm ∧ k ≠ lb) (ne : lb ≠ b ∧ lb ≠ gs ∧ lb ≠ gm) (hfr : fr + 2 + rm ≤ n) (op : OpenIs S fr rm s nt bs) (hs : s < 4611686018427387904) (a : Option Addr) (m cx : Nat) (ys : List Int) (hy : Sl w a m cx ys) (ha : 0 < m → ∀ p, a = some p → p.block ≠ b ∧ p.block ≠ gs ∧ p.block ≠ gm) (nt1 : List Int) (hn : NtOk nt1) :
    Calls Try.prog 11 #[.pointer (some ⟨lb, 0, none⟩), .slice a m cx, .agg (u8l nt1).toArray] w fun e w' => ApPost lb b gs gm n fr rm s nt (.slice va bs.length vc) bs S fu m ys nt1 w e w' := by
  obtain ⟨vl, hvl⟩ : ∃ k, bs.length = k := ⟨_, rfl⟩
  unfold ApPost
  rw [hvl] at h ho hb nv ⊢
  have H := Lib.hid h
  have D := Lib.hid d
  have NE := Lib.hid ne
  have NV := Lib.hid nv
  have HFR := Lib.hid hfr
  have HB : Hid (vl ≤ rm * 64 ∧ rm ≤ 1000 ∧ fr ≤ 1000) := Lib.hid ⟨hb, h.2.2.2.2.2, h.2.2.2.2.1⟩
  have HO := Lib.hid (And.intro ho hvl)
  have HY := Lib.hid (And.intro hy (And.intro ha True.intro))
  have OP := Lib.hid op
  have HS : Hid (¬ 4611686018427387904 ≤ s) := Lib.hid (by omega)
  have HN := Lib.hid hn
  clear h d ho hb nv ne hfr op hs hy ha hn hvl
  go_enter Try.func11, Try.ntmps11
  go_upto_region 0 with (fail)
  refine wp_region_lit ?_
  obtain ⟨W1, hW1⟩ : ∃ V, V = w.alloc (.cells (u8l nt1).toArray 32) := ⟨_, rfl⟩
  refine wpL_value (.pointer (some ⟨w.heap.size, 0, none⟩)) W1 rfl (by rw [hW1]; exact run_box32 _ _ _ _ _ nt1 rfl rfl HN.out.1 rfl) ?_
  simp only [Act.put, List.setIfInBounds_toArray, List.set_cons_zero, List.set_cons_succ]
  obtain ⟨g5, hg5⟩ : ∃ q, w.heap.size = q := ⟨_, rfl⟩
  have B1 : Hid (Below w.heap.size w W1 ∧ Blk W1 g5 32 (u8l nt1).toArray ∧ w.heap.size = g5) := Lib.hid (by rw [hW1, ← hg5]; exact ⟨(Below.refl _ _).alloc (Nat.le_refl _) _, Blk.new _ _ _, rfl⟩)
  rw [hg5]
  clear hW1 hg5
  have H1 : Hid (LS W1 lb b fr rm s vl nt (.slice va vl vc) false) := Lib.hid (H.out.below B1.out.1)
  refine wpL_pure (.int .i64 0) rfl (by kernel_rfl) ?_
  simp only [Act.put, List.setIfInBounds_toArray, List.set_cons_zero, List.set_cons_succ]
  go_upto_region 1 with (fail)
  refine wp_region_lit ?_
  refine wpL_pure (.pointer (some ⟨lb, 0, none⟩)) rfl (by kernel_rfl) ?_
  simp only [Act.put, List.setIfInBounds_toArray, List.set_cons_zero, List.set_cons_succ]
  refine wpL_call 23 #[.pointer (some ⟨lb, 0, none⟩)] rfl (by kernel_rfl) ((overD H1.out).mono fun e X ⟨he, hx⟩ => ⟨.bool false, he, ?_⟩)
  simp only [Act.put, List.setIfInBounds_toArray, List.set_cons_zero, List.set_cons_succ]
  subst hx
  refine wpL_pure (.bool false) rfl (by kernel_rfl) ?_
  simp only [Act.put, List.setIfInBounds_toArray, List.set_cons_zero, List.set_cons_succ]
  go_upto_region 3 with (fail)
  refine wp_region_lit ?_
  refine wpL_pure (.pointer (some ⟨lb, 0, none⟩)) rfl (by kernel_rfl) ?_
  simp only [Act.put, List.setIfInBounds_toArray, List.set_cons_zero, List.set_cons_succ]
  refine wpL_pure (.pointer (some ⟨lb, 0, none⟩)) rfl (by kernel_rfl) ?_
  simp only [Act.put, List.setIfInBounds_toArray, List.set_cons_zero, List.set_cons_succ]
  refine wpL_pure (.pointer (some ⟨lb, 3, none⟩)) rfl (by kernel_rfl) ?_
  simp only [Act.put, List.setIfInBounds_toArray, List.set_cons_zero, List.set_cons_succ]
  refine wpL_pure (.pointer (some ⟨lb, 3, none⟩)) rfl (by kernel_rfl) ?_
  simp only [Act.put, List.setIfInBounds_toArray, List.set_cons_zero, List.set_cons_succ]
  refine wpL_pure (.int .u64 ((s : Nat) : Int)) rfl (run_load_one _ _ _ 35 _ _ rfl (lb) (3) rfl (H1.out.c3) (by kernel_rfl)) ?_
  simp only [Act.put, List.setIfInBounds_toArray, List.set_cons_zero, List.set_cons_succ]
  refine wpL_pure (.bool false) rfl (run_gei Try.underlying35 rfl rfl rfl (by have := HS.out; rw [decide_eq_false_iff_not]; omega)) ?_
  simp only [Act.put, List.setIfInBounds_toArray, List.set_cons_zero, List.set_cons_succ]
  refine wpL_pure (.bool false) rfl (by kernel_rfl) ?_
  simp only [Act.put, List.setIfInBounds_toArray, List.set_cons_zero, List.set_cons_succ]
  by_cases hf : rm * 64 - vl < m
  · have HF := Lib.hid hf
    clear hf
    go_upto_region 5 with (fail)
    refine wp_region_lit ?_
    refine wpL_pure (.slice a m cx) rfl (by kernel_rfl) ?_
    simp only [Act.put, List.setIfInBounds_toArray, List.set_cons_zero, List.set_cons_succ]
    refine wpL_pure (.int .i64 (m : Int)) rfl (by kernel_rfl) ?_
    simp only [Act.put, List.setIfInBounds_toArray, List.set_cons_zero, List.set_cons_succ]
    refine wpL_pure (.pointer (some ⟨lb, 0, none⟩)) rfl (by kernel_rfl) ?_
    simp only [Act.put, List.setIfInBounds_toArray, List.set_cons_zero, List.set_cons_succ]
    refine wpL_call 22 #[.pointer (some ⟨lb, 0, none⟩)] rfl (by kernel_rfl) ((roomD H1.out va vl vc rfl (by have := HB.out; omega)).mono fun e W2 ⟨he, bb⟩ => ⟨.int .i64 ((rm : Int) * 64 - (vl : Int)), he, ?_⟩)
    simp only [Act.put, List.setIfInBounds_toArray, List.set_cons_zero, List.set_cons_succ]
    have B2 : Hid (Below w.heap.size w W2 ∧ Blk W2 g5 32 (u8l nt1).toArray) := Lib.hid ⟨B1.out.1.trans (bb.mono B1.out.1.size), B1.out.2.1.below bb⟩
    clear bb
    refine wpL_pure (.bool true) rfl (run_gti Try.underlying3 rfl rfl rfl (by have := HF.out; have := HB.out; rw [decide_eq_true_eq]; omega)) ?_
    simp only [Act.put, List.setIfInBounds_toArray, List.set_cons_zero, List.set_cons_succ]
    refine wpL_pure (.bool true) rfl (by kernel_rfl) ?_
    simp only [Act.put, List.setIfInBounds_toArray, List.set_cons_zero, List.set_cons_succ]
    go_upto_region 6 with (fail)
    refine wp_region_lit ?_
    refine wpL_pure (.int .i64 4) rfl (by kernel_rfl) ?_
    simp only [Act.put, List.setIfInBounds_toArray, List.set_cons_zero, List.set_cons_succ]
    go_wp2_with fail
    go_ret
    exact .inl ⟨by have := HF.out; have := HB.out; omega, rfl, B2.out.1⟩
  · have HF : Hid (¬ rm * 64 - vl < m) := Lib.hid hf
    clear hf
    go_upto_region 5 with (fail)
    refine wp_region_lit ?_
    refine wpL_pure (.slice a m cx) rfl (by kernel_rfl) ?_
    simp only [Act.put, List.setIfInBounds_toArray, List.set_cons_zero, List.set_cons_succ]
    refine wpL_pure (.int .i64 (m : Int)) rfl (by kernel_rfl) ?_
    simp only [Act.put, List.setIfInBounds_toArray, List.set_cons_zero, List.set_cons_succ]
    refine wpL_pure (.pointer (some ⟨lb, 0, none⟩)) rfl (by kernel_rfl) ?_
    simp only [Act.put, List.setIfInBounds_toArray, List.set_cons_zero, List.set_cons_succ]
    refine wpL_call 22 #[.pointer (some ⟨lb, 0, none⟩)] rfl (by kernel_rfl) ((roomD H1.out va vl vc rfl (by have := HB.out; omega)).mono fun e W2 ⟨he, bb⟩ => ⟨.int .i64 ((rm : Int) * 64 - (vl : Int)), he, ?_⟩)
    simp only [Act.put, List.setIfInBounds_toArray, List.set_cons_zero, List.set_cons_succ]
    have B2 : Hid (Below w.heap.size w W2 ∧ Blk W2 g5 32 (u8l nt1).toArray) := Lib.hid ⟨B1.out.1.trans (bb.mono B1.out.1.size), B1.out.2.1.below bb⟩
    clear bb
    refine wpL_pure (.bool false) rfl (run_gti Try.underlying3 rfl rfl rfl (by have := HF.out; have := HB.out; rw [decide_eq_false_iff_not]; omega)) ?_
    simp only [Act.put, List.setIfInBounds_toArray, List.set_cons_zero, List.set_cons_succ]
    refine wpL_pure (.bool false) rfl (by kernel_rfl) ?_
    simp only [Act.put, List.setIfInBounds_toArray, List.set_cons_zero, List.set_cons_succ]
    have F2 : Hid (LS W2 lb b fr rm s vl nt (.slice va vl vc) false ∧ DS W2 b gs gm n [] dc S fu fz false ∧ Own W2 0 (.slice va vl vc) bs ∧ Sl W2 a m cx ys) := Lib.hid ⟨H.out.below B2.out.1, D.out.below B2.out.1, HO.out.1.below B2.out.1, HY.out.1.below' B2.out.1⟩
    have G5 : Hid (g5 ≠ b ∧ g5 ≠ gs ∧ g5 ≠ gm ∧ g5 ≠ lb ∧ ∀ k, (Value.slice va vl vc).ownBlock = some k → g5 ≠ k) := Lib.hid (by have l1 := D.out.lts; have l2 := H.out.1.lt; have l3 := B1.out.2.2; exact ⟨by omega, by omega, by omega, by omega, fun k hk => by have := (HO.out.1.lt k hk).2; omega⟩)
    go_upto_region 7 with (fail)
    refine wp_region_lit ?_
    refine wpL_pure (.pointer (some ⟨lb, 0, none⟩)) rfl (by kernel_rfl) ?_
    simp only [Act.put, List.setIfInBounds_toArray, List.set_cons_zero, List.set_cons_succ]
    refine wpL_pure (.slice a m cx) rfl (by kernel_rfl) ?_
    simp only [Act.put, List.setIfInBounds_toArray, List.set_cons_zero, List.set_cons_succ]
    refine wpL_call 34 #[.pointer (some ⟨lb, 0, none⟩), .slice a m cx] rfl (by kernel_rfl) ((fill_any (v := undef) F2.out.1 F2.out.2.1 NE.out HFR.out a m cx ys F2.out.2.2.2 HY.out.2.1 (by have := HF.out; have := HB.out; omega)).mono ?_)
    rintro e W3 ⟨f3, ⟨rfl, dc3, fz3, S3, d3, r3⟩ | ⟨q, rfl, t, L3, dc3, fz3, S3, ht, d3, r3, l3⟩⟩
    · have F3 : Hid (Fl (Pv lb b gs gm (.slice va vl vc)) w W3 ∧ LS W3 lb b fr rm s vl nt (.slice va vl vc) false ∧ DS W3 b gs gm n [] dc3 S3 fu fz3 false ∧ Own W3 0 (.slice va vl vc) bs ∧ Row W3 a m ys ∧ Blk W3 g5 32 (u8l nt1).toArray) := Lib.hid (by have fl : Fl (Pv lb b gs gm (.slice va vl vc)) W2 W3 := Fl.fd f3 (.inl rfl) (.inr (.inl rfl)) (.inr (.inr (.inl rfl))); exact ⟨(Fl.of B2.out.1).trans fl, F2.out.1.fd f3 NE.out.1 NE.out.2.1 NE.out.2.2, d3, (Fl.fd (p := fun k => k = b ∨ k = gs ∨ k = gm) f3 (.inl rfl) (.inr (.inl rfl)) (.inr (.inr rfl))).own F2.out.2.2.1 (fun k hk q => by have z := NV.out k hk; rcases q with q | q | q <;> omega), fd_row0 f3 F2.out.2.2.2.1 HY.out.2.1, (Fl.fd (p := fun k => k = b ∨ k = gs ∨ k = gm) f3 (.inl rfl) (.inr (.inl rfl)) (.inr (.inr rfl))).blk B2.out.2 (by have z := G5.out; rintro (q | q | q) <;> omega)⟩)
      have R3 := Lib.hid r3
      have O3 := Lib.hid (OP.out.fill r3 D.out.2.2.2.2.2.1 d3.2.2.2.2.2.1 HO.out.2)
      clear f3 d3 r3
      refine ⟨.int .i64 0, rfl, ?_⟩
      simp only [Act.put, List.setIfInBounds_toArray, List.set_cons_zero, List.set_cons_succ]
      refine wpL_pure (.int .i64 0) rfl (by kernel_rfl) ?_
      simp only [Act.put, List.setIfInBounds_toArray, List.set_cons_zero, List.set_cons_succ]
      go_upto_region 8 with (fail)
      refine wp_region_lit ?_
      refine wpL_pure (.int .i64 0) rfl (by kernel_rfl) ?_
      simp only [Act.put, List.setIfInBounds_toArray, List.set_cons_zero, List.set_cons_succ]
      refine wpL_pure (.bool false) rfl (by kernel_rfl) ?_
      simp only [Act.put, List.setIfInBounds_toArray, List.set_cons_zero, List.set_cons_succ]
      go_upto_region 10 with (fail)
      refine region_anyT (fun X => Blk X g5 32 (u8l nt1).toArray) (by kernel_rfl) 10 10 rfl ?_
      refine wpAnyT_take (i := 0) (oi := ⟨some 32, _, _, _, _, _⟩) (v := .pointer (some ⟨lb, 0, none⟩)) rfl (by kernel_rfl) (by kernel_rfl) (by kernel_rfl) (fun _ _ _ h => h) (by kernel_rfl) (Or.inl ⟨rfl, fun w h => by kernel_rfl⟩) (F3.out.2.2.2.2.2) ?_
      simp only [Act.put, List.setIfInBounds_toArray, List.set_cons_zero, List.set_cons_succ]
      refine wpAnyT_take (i := 1) (oi := ⟨some 33, _, _, _, _, _⟩) (v := .pointer (some ⟨lb, 0, none⟩)) rfl (by kernel_rfl) (by kernel_rfl) (by kernel_rfl) (fun _ _ _ h => h) (by kernel_rfl) (Or.inl ⟨rfl, fun w h => by kernel_rfl⟩) (F3.out.2.2.2.2.2) ?_
      simp only [Act.put, List.setIfInBounds_toArray, List.set_cons_zero, List.set_cons_succ]
      refine wpAnyT_take (i := 2) (oi := ⟨some 34, _, _, _, _, _⟩) (v := .pointer (some ⟨lb, 0, none⟩)) rfl (by kernel_rfl) (by kernel_rfl) (by kernel_rfl) (fun _ _ _ h => h) (by kernel_rfl) (Or.inl ⟨rfl, fun w h => by kernel_rfl⟩) (F3.out.2.2.2.2.2) ?_
      simp only [Act.put, List.setIfInBounds_toArray, List.set_cons_zero, List.set_cons_succ]
      refine wpAnyT_take (i := 3) (oi := ⟨some 35, _, _, _, _, _⟩) (v := .pointer (some ⟨lb, 21, none⟩)) rfl (by kernel_rfl) (by kernel_rfl) (by kernel_rfl) (fun _ _ _ h => h) (by kernel_rfl) (Or.inl ⟨rfl, fun w h => by kernel_rfl⟩) (F3.out.2.2.2.2.2) ?_
      simp only [Act.put, List.setIfInBounds_toArray, List.set_cons_zero, List.set_cons_succ]
      refine wpAnyT_take (i := 5) (oi := ⟨some 37, _, _, _, _, _⟩) (v := .slice a m cx) rfl (by kernel_rfl) (by kernel_rfl) (by kernel_rfl) (fun _ _ _ h => h) (by kernel_rfl) (Or.inl ⟨rfl, fun w h => by kernel_rfl⟩) (F3.out.2.2.2.2.2) ?_
      simp only [Act.put, List.setIfInBounds_toArray, List.set_cons_zero, List.set_cons_succ]
      refine wpAnyT_take (i := 7) (oi := ⟨some 39, _, _, _, _, _⟩) (v := .agg (u8l nt1).toArray) rfl (by kernel_rfl) (by kernel_rfl) (by kernel_rfl) (fun _ _ _ h => h) (by kernel_rfl) (Or.inl ⟨rfl, fun w h => run_load_mid _ _ _ 32 _ rfl g5 0 rfl (u8l nt1) _ (blk_range h) Try.underlying32 rfl (by simp only [List.size_toArray, u8l_len, HN.out.1] <;> kernel_rfl)⟩) (F3.out.2.2.2.2.2) ?_
      simp only [Act.put, List.setIfInBounds_toArray, List.set_cons_zero, List.set_cons_succ]
      refine wpAnyT_one (i := 4) (by kernel_rfl) ?_
      refine op_valw (o := ⟨some 36, _, _, _, _, _⟩) (.slice va vl vc) W3.drew rfl rfl (run_load_one _ _ _ 26 _ _ rfl (lb) (21) rfl F3.out.2.1.c21 (by kernel_rfl)) ?_
      refine ⟨fun _ => F3.out.2.2.2.2.2, ?_⟩
      simp only [Act.put, List.setIfInBounds_toArray, List.set_cons_zero, List.set_cons_succ]
      refine wpAnyT_one (i := 6) (by kernel_rfl) ?_
      obtain ⟨v4, W4, r1, r2, r3, r4, r5⟩ := append_own W3.drew 0 (.slice va vl vc) bs ys a m cx F3.out.2.2.2.1.drew F3.out.2.2.2.2.1 (by have := HF.out; have := HB.out; have := HO.out.2; omega) (Nat.zero_le _)
      have R1 := Lib.hid r1
      obtain ⟨xa, xc, e4⟩ := r2.slice
      have e5 : v4 = .slice xa (vl + m) xc := by rw [e4, List.length_append, HO.out.2, HY.out.1.1.1]
      subst e5
      have F4 : Hid (AK w W4 lb b gs gm n fr rm s vl nt (.slice va vl vc) false dc3 S3 fu fz3 (.slice xa (vl + m) xc) (bs ++ ys) g5 nt1) := Lib.hid (app_keep F3.out.1 F3.out.2.1 F3.out.2.2.1 F3.out.2.2.2.2.2 NV.out G5.out.2.2.2.2 r2 r3 r4)
      clear r1 r2 r3 r4 r5 e4
      refine op_valw (o := ⟨some 38, _, _, _, _, _⟩) (.slice xa (vl + m) xc) W4 rfl rfl (run_app _ _ _ _ _ _ _ _ _ rfl rfl rfl rfl R1.out) ?_
      refine ⟨fun _ => F4.out.2.2.2.2.1, ?_⟩
      simp only [Act.put, List.setIfInBounds_toArray, List.set_cons_zero, List.set_cons_succ]
      clear R1 F3
      refine wpAnyT_one (i := 8) (by kernel_rfl) ?_
      refine op_call (o := ⟨some 40, _, _, _, _, _⟩) 36 #[.pointer (some ⟨lb, 0, none⟩), .slice xa (vl + m) xc, .agg (u8l nt1).toArray] rfl rfl (by kernel_rfl) ((commit_any F4.out.2.1 F4.out.2.2.1 NE.out HFR.out xa (vl + m) xc (by have := HF.out; have := HB.out; omega) nt1 HN.out (by have := HS.out; omega) O3.out.harm).mono ?_)
      rintro e W5 ⟨O, hO, ⟨rfl, dc5, fz5, l5, d5, f5⟩ | ⟨q, rfl, l5, L5, dc5, S5, fz5, d5, f5, ct⟩⟩
      · refine ⟨.int .i64 0, rfl, fun _ => f5.blk F4.out.2.2.2.2.1 (by have z := G5.out; rintro (q | q | q | q) <;> omega), ?_⟩
        simp only [Act.put, List.setIfInBounds_toArray, List.set_cons_zero, List.set_cons_succ]
        refine wpAnyT_take (i := 9) (oi := ⟨some 6, _, _, _, _, _⟩) (v := .int .i64 0) rfl (by kernel_rfl) (by kernel_rfl) (by kernel_rfl) (fun _ _ _ h => h) (by kernel_rfl) (Or.inl ⟨rfl, fun w h => by kernel_rfl⟩) (f5.blk F4.out.2.2.2.2.1 (by have z := G5.out; rintro (q | q | q | q) <;> omega)) ?_
        simp only [Act.put, List.setIfInBounds_toArray, List.set_cons_zero, List.set_cons_succ]
        refine wpAnyT_done (by kernel_rfl) ?_ _
        go_wp2_with fail
        go_ret
        exact .inr (.inl ⟨by have := HF.out; have := HB.out; omega, rfl, dc5, fz5, _, xa, xc, l5, d5, F4.out.1.trans (f5.mono (fun k hk => Pq_Pv hk)), f5.own F4.out.2.2.2.1 (fun k hk q => by have z := F4.out.2.2.2.2.2 k hk; rcases q with q | q | q | q <;> omega), F4.out.2.2.2.2.2, O3.out.next (by simp only [List.length_append, HO.out.2, HY.out.1.1.1]) hO HN.out (by have := HS.out; omega) (by have := HF.out; have := HB.out; omega) (R3.out.room OP.out.2 HO.out.2) (secV_ok HN.out).1 (by have := HF.out; have := HB.out; omega), fun i hi => outs_set hi (R3.out.outs D.out.2.2.2.2.2.1 F4.out.2.2.1.2.2.2.2.2.1 (by have := HF.out; have := HB.out; have := HY.out.1.1.1; omega) i hi)⟩)
      · have Q5 := Lib.hid q
        clear q
        refine ⟨.int .i64 5, rfl, fun _ => f5.blk F4.out.2.2.2.2.1 (by have z := G5.out; rintro (q | q | q | q) <;> omega), ?_⟩
        simp only [Act.put, List.setIfInBounds_toArray, List.set_cons_zero, List.set_cons_succ]
        refine wpAnyT_take (i := 9) (oi := ⟨some 6, _, _, _, _, _⟩) (v := .int .i64 5) rfl (by kernel_rfl) (by kernel_rfl) (by kernel_rfl) (fun _ _ _ h => h) (by kernel_rfl) (Or.inl ⟨rfl, fun w h => by kernel_rfl⟩) (f5.blk F4.out.2.2.2.2.1 (by have z := G5.out; rintro (q | q | q | q) <;> omega)) ?_
        simp only [Act.put, List.setIfInBounds_toArray, List.set_cons_zero, List.set_cons_succ]
        refine wpAnyT_done (by kernel_rfl) ?_ _
        go_wp2_with fail
        go_ret
        exact .inr (.inr ⟨by have := HF.out; have := HB.out; omega, Q5.out, rfl, l5, L5, dc5, fz5, S5, d5, F4.out.1.trans (f5.mono (fun k hk => Pq_Pv hk)), fun S6 cr => O3.out.cut (by simp only [List.length_append, HO.out.2, HY.out.1.1.1]) hO ct cr (by have := HF.out; have := HB.out; omega) (R3.out.room OP.out.2 HO.out.2)⟩)
    · have F3 : Hid (Fl (Pv lb b gs gm (.slice va vl vc)) w W3 ∧ LS W3 lb b fr rm s vl nt (.slice va vl vc) false ∧ DS W3 b gs gm n L3 dc3 S3 fu fz3 true) := Lib.hid ⟨(Fl.of B2.out.1).trans (Fl.fd f3 (.inl rfl) (.inr (.inl rfl)) (.inr (.inr (.inl rfl)))), F2.out.1.fd f3 NE.out.1 NE.out.2.1 NE.out.2.2, d3⟩
      have R3 := Lib.hid r3
      have L3' := Lib.hid l3
      have Q3 := Lib.hid (And.intro q ht)
      clear f3 d3 r3 l3 q ht
      refine ⟨.int .i64 5, rfl, ?_⟩
      simp only [Act.put, List.setIfInBounds_toArray, List.set_cons_zero, List.set_cons_succ]
      refine wpL_pure (.int .i64 5) rfl (by kernel_rfl) ?_
      simp only [Act.put, List.setIfInBounds_toArray, List.set_cons_zero, List.set_cons_succ]
      go_upto_region 8 with (fail)
      refine wp_region_lit ?_
      refine wpL_pure (.int .i64 5) rfl (by kernel_rfl) ?_
      simp only [Act.put, List.setIfInBounds_toArray, List.set_cons_zero, List.set_cons_succ]
      refine wpL_pure (.bool true) rfl (by kernel_rfl) ?_
      simp only [Act.put, List.setIfInBounds_toArray, List.set_cons_zero, List.set_cons_succ]
      go_upto_region 9 with (fail)
      refine wp_region_lit ?_
      refine wpL_pure (.pointer (some ⟨lb, 0, none⟩)) rfl (by kernel_rfl) ?_
      simp only [Act.put, List.setIfInBounds_toArray, List.set_cons_zero, List.set_cons_succ]
      refine wpL_pure (.int .i64 5) rfl (by kernel_rfl) ?_
      simp only [Act.put, List.setIfInBounds_toArray, List.set_cons_zero, List.set_cons_succ]
      refine wpL_call 35 #[.pointer (some ⟨lb, 0, none⟩), .int .i64 5] rfl (by kernel_rfl) ((endD F3.out.2.1 5).mono ?_)
      rintro e V3 ⟨he, hV3⟩
      have A3 : Hid (Fl (Pv lb b gs gm (.slice va vl vc)) w V3 ∧ LS V3 lb b fr rm s vl nt (.slice va vl vc) true ∧ DS V3 b gs gm n L3 dc3 S3 fu fz3 true) := Lib.hid (by rw [hV3]; exact ⟨F3.out.1.trans (Fl.gb (gb_set (gb_refl W3 (some lb)) 22 _) (fun k hk _ => by cases hk; exact .inr (.inr (.inr (.inl rfl))))), F3.out.2.1.over, ds_far F3.out.2.2 (gb_set (gb_refl W3 (some lb)) 22 _) ⟨NE.out.1.symm, NE.out.2.1.symm, NE.out.2.2.symm⟩⟩)
      clear hV3
      refine ⟨.int .i64 5, he, ?_⟩
      simp only [Act.put, List.setIfInBounds_toArray, List.set_cons_zero, List.set_cons_succ]
      clear he
      refine wpL_pure (.int .i64 5) rfl (by kernel_rfl) ?_
      simp only [Act.put, List.setIfInBounds_toArray, List.set_cons_zero, List.set_cons_succ]
      go_wp2_with fail
      go_ret
      exact .inr (.inr ⟨by have := HF.out; have := HB.out; omega, Q3.out.1, rfl, A3.out.2.1, L3, _, _, S3, A3.out.2.2, A3.out.1, fun S6 cr => .inl (OP.out.lost R3.out L3'.out D.out.2.2.2.2.2.1 A3.out.2.2.2.2.2.2.2.1 HO.out.2 cr)⟩)
theorem clear_any {w : World} {lb b fr rm : Nat} {s : Nat} {nt : List Int} {va : Option Addr} {vc gs gm n dc : Nat} {bs : List Int} {S : List (List Int)} {fu : Bool} {fz : Int} (h : LS w lb b fr rm s bs.length nt (.slice va bs.length vc) false) (d : DS w b gs gm n [] dc S fu fz false) (ho : Own w 0 (.slice va bs.length vc) bs) (hb : bs.length ≤ rm * 64) (nv : ∀ k, (Value.slice va bs.length vc).ownBlock = some k → k ≠ b ∧ k ≠ gs ∧ k ≠ gm ∧ k ≠ lb) (ne : lb ≠ b ∧ lb ≠ gs ∧ lb ≠ gm) (hfr : fr + 2 + rm ≤ n) (op : OpenIs S fr rm s nt bs) (hs : s < 4611686018427387904) : Calls Try.prog 25 #[.pointer (some ⟨lb, 0, none⟩)] w fun e w' => ClPost lb b gs gm n fr rm s nt (.slice va bs.length vc) bs S fu w e w' := by
  have H := Lib.hid h
  have D := Lib.hid d
  have NE := Lib.hid ne
  have HFR := Lib.hid hfr
  have OP := Lib.hid op
  have HS : Hid (¬ 4611686018427387904 ≤ s) := Lib.hid (by omega)
  clear h d ho hb nv ne hfr op hs
  go_enter Try.func25, Try.ntmps25
  go_upto_region 0 with (fail)
  refine wp_region_lit ?_
  refine wpL_pure (.int .i64 0) rfl (by kernel_rfl) ?_
  simp only [Act.put, List.setIfInBounds_toArray, List.set_cons_zero, List.set_cons_succ]
  go_upto_region 1 with (fail)
  refine wp_region_lit ?_
  refine wpL_pure (.pointer (some ⟨lb, 0, none⟩)) rfl (by kernel_rfl) ?_
  simp only [Act.put, List.setIfInBounds_toArray, List.set_cons_zero, List.set_cons_succ]
  refine wpL_call 23 #[.pointer (some ⟨lb, 0, none⟩)] rfl (by kernel_rfl) ((overD H.out).mono fun e X ⟨he, hx⟩ => ⟨.bool false, he, ?_⟩)
  simp only [Act.put, List.setIfInBounds_toArray, List.set_cons_zero, List.set_cons_succ]
  subst hx
  refine wpL_pure (.bool false) rfl (by kernel_rfl) ?_
  simp only [Act.put, List.setIfInBounds_toArray, List.set_cons_zero, List.set_cons_succ]
  go_upto_region 3 with (fail)
  refine wp_region_lit ?_
  refine wpL_pure (.pointer (some ⟨lb, 0, none⟩)) rfl (by kernel_rfl) ?_
  simp only [Act.put, List.setIfInBounds_toArray, List.set_cons_zero, List.set_cons_succ]
  refine wpL_pure (.pointer (some ⟨lb, 0, none⟩)) rfl (by kernel_rfl) ?_
  simp only [Act.put, List.setIfInBounds_toArray, List.set_cons_zero, List.set_cons_succ]
  refine wpL_pure (.pointer (some ⟨lb, 3, none⟩)) rfl (by kernel_rfl) ?_
  simp only [Act.put, List.setIfInBounds_toArray, List.set_cons_zero, List.set_cons_succ]
  refine wpL_pure (.pointer (some ⟨lb, 3, none⟩)) rfl (by kernel_rfl) ?_
  simp only [Act.put, List.setIfInBounds_toArray, List.set_cons_zero, List.set_cons_succ]
  refine wpL_pure (.int .u64 ((s : Nat) : Int)) rfl (run_load_one _ _ _ 35 _ _ rfl (lb) (3) rfl (H.out.c3) (by kernel_rfl)) ?_
  simp only [Act.put, List.setIfInBounds_toArray, List.set_cons_zero, List.set_cons_succ]
  refine wpL_pure (.bool false) rfl (run_gei Try.underlying35 rfl rfl rfl (by have := HS.out; rw [decide_eq_false_iff_not]; omega)) ?_
  simp only [Act.put, List.setIfInBounds_toArray, List.set_cons_zero, List.set_cons_succ]
  refine wpL_pure (.bool false) rfl (by kernel_rfl) ?_
  simp only [Act.put, List.setIfInBounds_toArray, List.set_cons_zero, List.set_cons_succ]
  go_upto_region 5 with (fail)
  refine wp_region_lit ?_
  refine wpL_pure (.pointer (some ⟨lb, 0, none⟩)) rfl (by kernel_rfl) ?_
  simp only [Act.put, List.setIfInBounds_toArray, List.set_cons_zero, List.set_cons_succ]
  refine wpL_pure (.pointer (some ⟨lb, 0, none⟩)) rfl (by kernel_rfl) ?_
  simp only [Act.put, List.setIfInBounds_toArray, List.set_cons_zero, List.set_cons_succ]
  refine wpL_pure (.pointer (some ⟨lb, 0, none⟩)) rfl (by kernel_rfl) ?_
  simp only [Act.put, List.setIfInBounds_toArray, List.set_cons_zero, List.set_cons_succ]
  refine wpL_pure (.pointer (some ⟨lb, 3, none⟩)) rfl (by kernel_rfl) ?_
  simp only [Act.put, List.setIfInBounds_toArray, List.set_cons_zero, List.set_cons_succ]
  refine wpL_pure (.pointer (some ⟨lb, 5, none⟩)) rfl (by kernel_rfl) ?_
  simp only [Act.put, List.setIfInBounds_toArray, List.set_cons_zero, List.set_cons_succ]
  refine wpL_pure (.agg (u8l nt).toArray) rfl (run_load_mid _ _ _ 32 _ rfl lb 5 rfl (u8l nt) _ H.out.note Try.underlying32 rfl (by simp only [List.size_toArray, u8l_len, H.out.2.1.1] <;> kernel_rfl)) ?_
  simp only [Act.put, List.setIfInBounds_toArray, List.set_cons_zero, List.set_cons_succ]
  refine wpL_call 36 #[.pointer (some ⟨lb, 0, none⟩), .slice none 0 0, .agg (u8l nt).toArray] rfl (by kernel_rfl) ((commit_any H.out D.out NE.out HFR.out none 0 0 (by omega) nt H.out.2.1 (by have := HS.out; omega) OP.out.harm).mono ?_)
  rintro e W5 ⟨O, hO, ⟨rfl, dc5, fz5, l5, d5, f5⟩ | ⟨q, rfl, l5, L5, dc5, S5, fz5, d5, f5, ct⟩⟩
  · refine ⟨.int .i64 0, rfl, ?_⟩
    simp only [Act.put, List.setIfInBounds_toArray, List.set_cons_zero, List.set_cons_succ]
    refine wpL_pure (.int .i64 0) rfl (by kernel_rfl) ?_
    simp only [Act.put, List.setIfInBounds_toArray, List.set_cons_zero, List.set_cons_succ]
    go_wp2_with fail
    go_ret
    exact .inl ⟨rfl, dc5, fz5, _, l5, d5, f5, OP.out.next (by rfl) hO H.out.2.1 (by have := HS.out; omega) (by omega) (fun j hj => absurd hj (by simp)) (secV_ok H.out.2.1).1, fun i hi => outs_set hi rfl⟩
  · have Q5 := Lib.hid q
    clear q
    refine ⟨.int .i64 5, rfl, ?_⟩
    simp only [Act.put, List.setIfInBounds_toArray, List.set_cons_zero, List.set_cons_succ]
    refine wpL_pure (.int .i64 5) rfl (by kernel_rfl) ?_
    simp only [Act.put, List.setIfInBounds_toArray, List.set_cons_zero, List.set_cons_succ]
    go_wp2_with fail
    go_ret
    exact .inr ⟨Q5.out, rfl, l5, L5, dc5, fz5, S5, d5, f5, fun S6 cr => OP.out.cut (by rfl) hO ct cr (by omega) (fun j hj => absurd hj (by simp))⟩
end Go.Proofs.Yteabblmhcjpboaa.D
