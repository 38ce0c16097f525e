import Derived.Test.YteblaknbehfkgaaK16
import Derived.SizedLaws
namespace Go.Proofs.Yteblaknbehfkgaa
open Go Go.RowKit Go.ChangeShapes Go.WideShapes Go.ChangeAt

theorem byt_zero (v : Int) (l : List Int) : byt (v :: l) 0 = v.toNat := rfl
theorem byt_succ (v : Int) (l : List Int) (j : Nat) : byt (v :: l) (j + 1) = byt l j := rfl
theorem enc_props : ∀ (n x : Nat), x ≤ n → ∀ r : List Int, ∃ k, (enc x).length = k + 1 ∧ accN (byt (enc x ++ r)) (k + 1) = x ∧ (∀ j, j < k → 128 ≤ byt (enc x ++ r) j) ∧ byt (enc x ++ r) k < 128 ∧ (0 < byt (enc x ++ r) k ∨ k = 0)
  | n, x, hn, r => by
    by_cases hx : x < 128
    · refine ⟨0, ?_, ?_, fun j hj => absurd hj (by omega), ?_, .inr rfl⟩ <;> rw [enc_lo x hx]
      · rfl
      · simp [accN, byt]; omega
      · simp [byt]; omega
    · rcases n with _ | n
      · omega
      · obtain ⟨k, h1, h2, h3, h4, h5⟩ := enc_props n (x / 128) (by omega) r
        have e0 : byt (enc x ++ r) 0 = x % 128 + 128 := by rw [enc_hi x hx, List.cons_append, byt_zero]; omega
        have es : ∀ j, byt (enc x ++ r) (j + 1) = byt (enc (x / 128) ++ r) j := fun j => by rw [enc_hi x hx, List.cons_append, byt_succ]
        refine ⟨k + 1, by rw [enc_hi x hx, List.length_cons, h1], ?_, ?_, ?_, .inl ?_⟩
        · rw [accN_succ]
          have : (fun j => byt (enc x ++ r) (j + 1)) = byt (enc (x / 128) ++ r) := funext es
          rw [this, h2, e0]
          omega
        · intro j hj
          rcases j with _ | j
          · omega
          · rw [es]; exact h3 j (by omega)
        · rw [es]; exact h4
        · rw [es]
          rcases h5 with h5 | h5
          · exact h5
          · subst h5
            simp only [accN, Nat.zero_add, Nat.mul_zero, Nat.pow_zero, Nat.mul_one] at h2
            omega
theorem num_enc (x : Nat) (hx : x < 18446744073709551616) (r : List Int) : numO (enc x ++ r) = some (x, (enc x).length) := by
  obtain ⟨k, h1, h2, h3, h4, h5⟩ := enc_props x x (Nat.le_refl _) r
  have h10 := enc_10 x hx
  have hg : Good (byt (enc x ++ r)) (enc x ++ r).length k := by
    refine ⟨by rw [List.length_append]; omega, by omega, h3, h4, fun h9 => ?_, h5⟩
    subst h9
    have e := (enc_last 9 x h1).1
    have e2 : byt (enc x ++ r) 9 = ((enc x).getD 9 0).toNat := by unfold byt; rw [List.getD, List.getElem?_append_left (by omega), ← List.getD]
    rw [e2, e]
    have e3 : (2 : Nat) ^ (7 * 9) = 9223372036854775808 := by decide
    rw [e3]
    omega
  rw [numO_some hg, h2, h1]
/-- a part's bytes. -/
def partB (q X : Nat) (bs : List Int) : List Int := if q % 4 = 0 then enc X else if q % 4 = 1 then enc bs.length ++ bs else if q % 4 = 2 then bs else [((X % 2 : Nat) : Int)]
theorem putG_some {st : Option (List Int)} {ys z : List Int} (h : putG st ys = some z) : ∃ y, st = some y ∧ z = y ++ ys ∧ z.length ≤ 16384 := by
  cases st with
  | none => cases h
  | some y =>
    simp only [putG] at h
    split at h
    · cases h; exact ⟨y, rfl, rfl, by rw [List.length_append]; assumption⟩
    · cases h
theorem partG_some {st : Option (List Int)} {q X : Nat} {bs z : List Int} (h : partG st q X bs = some z) : ∃ y, st = some y ∧ z = y ++ partB q X bs ∧ (q % 4 = 1 → bs.length ≤ 4096) := by
  unfold partG at h
  unfold partB
  by_cases h0 : q % 4 = 0
  · rw [if_pos h0] at h ⊢
    obtain ⟨y, e1, e2, _⟩ := putG_some h
    exact ⟨y, e1, e2, by omega⟩
  · rw [if_neg h0] at h ⊢
    by_cases h1 : q % 4 = 1
    · rw [if_pos h1] at h ⊢
      unfold textG at h
      split at h
      · cases h
      · obtain ⟨y, e1, e2, _⟩ := putG_some h
        exact ⟨y, e1, e2, fun _ => by omega⟩
    · rw [if_neg h1] at h ⊢
      by_cases h2 : q % 4 = 2
      · rw [if_pos h2] at h ⊢
        obtain ⟨y, e1, e2, _⟩ := putG_some h
        exact ⟨y, e1, e2, by omega⟩
      · rw [if_neg h2] at h ⊢
        obtain ⟨y, e1, e2, _⟩ := putG_some h
        exact ⟨y, e1, e2, by omega⟩
def backX (q X : Nat) (bs : List Int) : Nat := if q % 4 = 1 ∨ q % 4 = 2 then bs.length else X
def backV (q X : Nat) : Nat := if q % 4 = 0 then X else if q % 4 = 3 then X % 2 else 0
def backT (q : Nat) (bs : List Int) : List Int := if q % 4 = 1 ∨ q % 4 = 2 then bs else []
theorem i64_nat (n : Nat) (h : n ≤ 4611686018427387904) : IntKind.i64.wrap (n : Int) = (n : Int) := wrap_in _ (by omega) (by omega)
theorem got_back (q X : Nat) (bs r : List Int) (hX : X < 18446744073709551616) (hb : q % 4 = 1 → bs.length ≤ 4096) (hl : bs.length ≤ 4611686018427387904) : gotO (q % 4) (backX q X bs) (partB q X bs ++ r) = some (backV q X, backT q bs, (partB q X bs).length) := by
  unfold gotO backX backV backT partB
  by_cases h0 : q % 4 = 0
  · rw [if_pos h0, if_pos h0, if_pos h0, if_neg (by omega), if_neg (by omega)]
    simp only [numT, num_enc X hX, Nat.le_refl, if_true]
  · by_cases h1 : q % 4 = 1
    · have hb1 := hb h1
      rw [if_neg h0, if_neg h0, if_neg h0, if_pos h1, if_pos (.inl h1), if_pos h1, if_neg (by omega), if_pos (.inl h1), i64_nat _ (by omega), List.append_assoc]
      simp only [textO, num_enc bs.length (by omega)]
      rw [if_pos ⟨by omega, by omega, hb1, by simp; omega⟩]
      simp
    · by_cases h2 : q % 4 = 2
      · rw [if_neg h0, if_neg h1, if_pos h2, if_pos (.inr h2), i64_nat _ (by omega), if_neg h0, if_neg h1, if_pos h2, if_neg h0, if_neg (by omega), if_pos (.inr h2)]
        simp only [rawO]
        rw [if_pos ⟨by omega, by simp; omega⟩]
        simp
      · rw [if_neg h0, if_neg h1, if_neg h2, if_neg h0, if_neg h1, if_neg h2, if_neg h0, if_pos (by omega), if_neg (by omega)]
        simp only [flagO]
        have e : byt ([((X % 2 : Nat) : Int)] ++ r) 0 = X % 2 := by simp [byt]; omega
        rw [e, if_pos ⟨by simp, by omega⟩]
        rfl
/-- what so many parts leave. -/
def stk (Q X : Nat → Nat) (B : Nat → List Int) : Nat → Option (List Int)
  | 0 => some []
  | k + 1 => partG (stk Q X B k) (Q k) (X k) (B k)
theorem stk_pre {Q X : Nat → Nat} {B : Nat → List Int} : ∀ (n : Nat) {xs : List Int}, stk Q X B n = some xs → ∀ k, k ≤ n → ∃ y r, stk Q X B k = some y ∧ xs = y ++ r
  | 0, xs, h, k, hk => by obtain rfl : k = 0 := by omega
                          exact ⟨xs, [], h, by simp⟩
  | n + 1, xs, h, k, hk => by
    by_cases e : k = n + 1
    · subst e; exact ⟨xs, [], h, by simp⟩
    · obtain ⟨y, e1, e2, _⟩ := partG_some h
      obtain ⟨y', r', e3, e4⟩ := stk_pre n e1 k (by omega)
      exact ⟨y', r' ++ partB (Q n) (X n) (B n), e3, by rw [e2, e4, List.append_assoc]⟩
theorem stk_step {Q X : Nat → Nat} {B : Nat → List Int} {n k : Nat} {xs y r : List Int} (h : stk Q X B n = some xs) (hk : k < n) (h1 : stk Q X B k = some y) (h2 : xs = y ++ r) : ∃ r', r = partB (Q k) (X k) (B k) ++ r' ∧ stk Q X B (k + 1) = some (y ++ partB (Q k) (X k) (B k)) ∧ xs = (y ++ partB (Q k) (X k) (B k)) ++ r' ∧ (Q k % 4 = 1 → (B k).length ≤ 4096) := by
  obtain ⟨z, r', e1, e2⟩ := stk_pre n h (k + 1) hk
  obtain ⟨y', e3, e4, e5⟩ := partG_some e1
  rw [h1] at e3
  cases e3
  subst e4
  refine ⟨r', ?_, e1, e2, e5⟩
  rw [h2, List.append_assoc] at e2
  exact List.append_cancel_left e2
theorem stk_len {Q X : Nat → Nat} {B : Nat → List Int} : ∀ (n : Nat) {xs : List Int}, stk Q X B n = some xs → xs.length ≤ 16384
  | 0, xs, h => by cases h; simp
  | n + 1, xs, h => by
    unfold stk partG at h
    split at h
    · obtain ⟨_, _, _, q⟩ := putG_some h; exact q
    · split at h
      · unfold textG at h
        split at h
        · cases h
        · obtain ⟨_, _, _, q⟩ := putG_some h; exact q
      · split at h
        · obtain ⟨_, _, _, q⟩ := putG_some h; exact q
        · obtain ⟨_, _, _, q⟩ := putG_some h; exact q
/-- parts whose bytes are at most M, by their fields. -/
def PartsF (M : Nat) (w : World) (a : Option Addr) (len cap : Nat) (Q X : Nat → Nat) (B : Nat → List Int) : Prop :=
  len = 0 ∨ ∃ g o, a = some ⟨g, o, none⟩ ∧ len ≤ cap ∧ cap ≤ maxLen ∧ ∀ k, k < len → ∃ a' n c, PartAt w g (o + k * 3) (Q k) (X k) a' n c (B k) ∧ n ≤ M
theorem weights_all {H : Type} {P : Program} {e : TypeId} : ∀ {l : List (DataW H)} {d : DataW H}, d ∈ l → ∀ n ∈ d.weights P e, n ∈ DataW.weightsAll P e l
  | x :: l, d, h, n, hn => by
    simp only [DataW.weightsAll, List.mem_append]
    rcases List.mem_cons.1 h with rfl | h
    · exact .inl hn
    · exact .inr (weights_all h n hn)
/-- each part, with its datum. -/
theorem parts_data {H : Type} {en : TypeId × Value → H} {W : World} {held : Bool} {a : Option Addr} {len cap : Nat} {d : DataW H} {ps : List MemPlace}
    (hd : DataW.Trod en Try.prog W 0 (fun _ => true) held 22 (.slice a len cap) d ps) :
    len = 0 ∨ ∃ elems spare g o, d = .slice elems spare ∧ a = some ⟨g, o, none⟩ ∧ len ≤ cap ∧ cap ≤ maxLen ∧ ∀ k, k < len → ∃ q X a' n c bs d0 d1 d2, PartAt W g (o + k * 3) q X a' n c bs ∧ .agg [d0, d1, d2] ∈ elems ∧ (n = 0 ∨ ∃ es sp, d2 = .slice es sp ∧ es.length = n) := by
  obtain ⟨fuel, hf⟩ := hd
  simp only [Value.cells] at hf
  rcases DataW.trod_slice Try.underlying22 hf with ⟨hcs, _⟩ | ⟨x, l, c, elems, rest, n, _, hcs, hx, _, hl, hm, hlen, hel, _, _⟩
  · simp at hcs
    obtain ⟨rfl, rfl, rfl⟩ := hcs
    exact .inl rfl
  · simp at hcs
    obtain ⟨rfl, rfl, rfl⟩ := hcs
    have c35 : Try.prog.cellsOf 35 = 3 := by kernel_rfl
    have c5 : Try.prog.cellsOf 5 = 1 := by kernel_rfl
    have c33 : Try.prog.cellsOf 33 = 1 := by kernel_rfl
    have c25 : Try.prog.cellsOf 25 = 1 := by kernel_rfl
    have key : ∀ k, k < len → ∃ q X : Nat, ∃ a' n c bs d0 d1 d2, W.cell? ((x.add (k * 3)).add 0) = some (.int .u8 (q : Int)) ∧ W.cell? ((x.add (k * 3)).add 1) = some (.int .u64 (X : Int)) ∧ W.cell? ((x.add (k * 3)).add 2) = some (.slice a' n c) ∧ q < 256 ∧ X < 18446744073709551616 ∧ Row W a' n bs ∧ (a' = none → c = 0) ∧
        DataW.agg [d0, d1, d2] ∈ elems.map (fun x => x.fst) ∧ (n = 0 ∨ ∃ es sp, d2 = .slice es sp ∧ es.length = n) := by
      intro k hk
      have h1 := hel k hk
      rw [List.getElem?_eq_getElem (by omega), c35] at h1
      obtain ⟨cs, hc, ht⟩ := Option.bind_eq_some_iff.1 h1
      obtain ⟨_, hcl, hat⟩ := World.cells?_some hc
      obtain ⟨xs, m, _, hxe, hlen2, hxs, hfl⟩ := DataW.trod_struct Try.underlying35 ht
      have e0 : DataW.trod en Try.prog W 0 (fun _ => true) held m 5 ((cs.drop 0).take (Try.prog.cellsOf 5)) = xs[0]? := hfl 0 _ rfl
      have e1 : DataW.trod en Try.prog W 0 (fun _ => true) held m 33 ((cs.drop 1).take (Try.prog.cellsOf 33)) = xs[1]? := hfl 1 _ rfl
      have e2 : DataW.trod en Try.prog W 0 (fun _ => true) held m 25 ((cs.drop 2).take (Try.prog.cellsOf 25)) = xs[2]? := hfl 2 _ rfl
      simp only [c5, c33, c25] at e0 e1 e2
      match xs, hxs with
      | [x0, x1, x2], _ =>
        simp only [List.getElem?_cons_zero, List.getElem?_cons_succ] at e0 e1 e2
        obtain ⟨q, h0, _, q0⟩ := DataW.trod_int Try.underlying5 e0
        obtain ⟨X, h1, _, q1⟩ := DataW.trod_int Try.underlying33 e1
        have g0 := bounds_u8 q0
        have g1 := bounds_u64 q1
        have hmem : DataW.agg [x0.1, x1.1, x2.1] ∈ elems.map (fun x => x.fst) := by
          refine List.mem_map.2 ⟨elems[k], List.getElem_mem _, ?_⟩
          rw [hxe]; rfl
        refine ⟨q.toNat, X.toNat, ?_⟩
        rw [Int.toNat_of_nonneg g0.1, Int.toNat_of_nonneg g1.1]
        rcases open_ints Try.underlying25 Try.underlying5 (by kernel_rfl) e2 with ⟨hcs, _⟩ | ⟨y, l, c, zs, hcs, _, hl', hm', hz, hdz, hcell, hwz⟩
        · exact ⟨none, 0, 0, [], x0.1, x1.1, x2.1, (hat 0 (by omega)).trans (cell_of_head h0), (hat 1 (by omega)).trans (cell_of_head h1), (hat 2 (by omega)).trans (cell_of_head hcs), by omega, by omega, Row.nil _ _, fun _ => rfl, hmem, .inl rfl⟩
        · refine ⟨some y, l, c, zs.take l, x0.1, x1.1, x2.1, (hat 0 (by omega)).trans (cell_of_head h0), (hat 1 (by omega)).trans (cell_of_head h1), (hat 2 (by omega)).trans (cell_of_head hcs), by omega, by omega, row_of (.inr ⟨_, rfl, hl', hm', by simpa using hz, hcell, hwz⟩), by simp, hmem, .inr ⟨_, _, by rw [hdz], ?_⟩⟩
          simp at hz
          simp [lits]
          omega
    obtain ⟨b, off, sp⟩ := x
    by_cases h0 : len = 0
    · exact .inl h0
    · have hsp : sp = none := by
        obtain ⟨_, _, _, _, _, _, _, _, _, h, _⟩ := key 0 (by omega)
        exact cell_spot h
      have hx' : d = .slice (elems.map (fun x => x.fst)) (rest.map (fun x => x.fst)) := congrArg Prod.fst hx
      refine .inr ⟨_, _, b, off, hx', by rw [hsp], hl, hm, fun k hk => ?_⟩
      obtain ⟨q, X, a', n', c', bs, d0, d1, d2, h1, h2, h3, h4, h5, h6, h7, h8, h9⟩ := key k hk
      subst hsp
      simp only [add_off, Nat.add_zero] at h1 h2 h3
      exact ⟨q, X, a', n', c', bs, d0, d1, d2, ⟨h1, h2, h3, h4, h5, h6, h7⟩, h8, h9⟩
theorem parts_of (M : Nat) {H : Type} {en : TypeId × Value → H} {W : World} {held : Bool} {a : Option Addr} {len cap : Nat} {d : DataW H} {ps : List MemPlace}
    (hd : DataW.Trod en Try.prog W 0 (fun _ => true) held 22 (.slice a len cap) d ps) (hM : ∀ elems spare d0 d1 (es sp : List (DataW H)), d = .slice elems spare → .agg [d0, d1, .slice es sp] ∈ elems → es.length ≤ M) :
    ∃ Q X B, PartsF M W a len cap Q X B := by
  rcases parts_data hd with h | ⟨elems, spare, g, o, he, ha, hl, hm, hk⟩
  · exact ⟨fun _ => 0, fun _ => 0, fun _ => [], .inl h⟩
  · have : ∀ k, ∃ p : Nat × Nat × List Int, k < len → ∃ a' n c, PartAt W g (o + k * 3) p.1 p.2.1 a' n c p.2.2 ∧ n ≤ M := by
      intro k
      by_cases hkl : k < len
      · obtain ⟨q, X, a', n, c, bs, d0, d1, d2, h1, h2, h3⟩ := hk k hkl
        refine ⟨(q, X, bs), fun _ => ⟨a', n, c, h1, ?_⟩⟩
        rcases h3 with h3 | ⟨es, sp, rfl, h4⟩
        · omega
        · rw [← h4]; exact hM _ _ _ _ _ _ he h2
      · exact ⟨(0, 0, []), fun h => absurd h hkl⟩
    exact ⟨fun k => (Classical.choose (this k)).1, fun k => (Classical.choose (this k)).2.1, fun k => (Classical.choose (this k)).2.2, .inr ⟨g, o, ha, hl, hm, fun k hk => Classical.choose_spec (this k) hk⟩⟩
theorem open_parts_sized {H : Type} {en : TypeId × Value → H} {W : World} {held : Bool} {a : Option Addr} {len cap : Nat} {d : DataW H} {ps : List MemPlace}
    (hd : DataW.Trod en Try.prog W 0 (fun _ => true) held 22 (.slice a len cap) d ps) (hz : (DataW.weightsEach Try.prog [22] [d]).all (· ≤ reachBytes) = true) : ∃ Q X B, PartsF 140737488355328 W a len cap Q X B := by
  refine parts_of 140737488355328 hd fun elems spare d0 d1 es sp he hmem => ?_
  subst he
  have hw : (es.length + sp.length) * Try.prog.bytesOf 5 ∈ DataW.weightsEach Try.prog [22] [.slice elems spare] := by
    simp only [DataW.weightsEach, List.append_nil, DataW.weights, Try.underlying22]
    refine List.mem_cons_of_mem _ (List.mem_append_left _ (weights_all hmem _ ?_))
    simp only [DataW.weights, Try.underlying35]
    show _ ∈ DataW.weightsEach Try.prog [5, 33, 25] [d0, d1, .slice es sp]
    simp only [DataW.weightsEach, DataW.weights, Try.underlying25]
    refine List.mem_append_right _ (List.mem_append_right _ (List.mem_append_left _ List.mem_cons_self))
  have h := List.all_eq_true.1 hz _ hw
  have hb : Try.prog.bytesOf 5 = 1 := by kernel_rfl
  rw [hb, decide_eq_true_eq] at h
  have := reachBytes_lt
  have e : (2 : Nat) ^ 47 = 140737488355328 := by decide
  omega
theorem bulk_mem {H : Type} {d : DataW H} {l : List (DataW H)} (h : d ∈ l) : Rows.uptoBulk d ≤ Rows.uptoBulkAll l := by
  induction l with
  | nil => cases h
  | cons x r ih =>
    simp only [Rows.uptoBulkAll]
    rcases List.mem_cons.1 h with e | e
    · subst e; omega
    · have := ih e; omega
theorem bulk_one {H : Type} (d : DataW H) : 1 ≤ Rows.uptoBulk d := by
  cases d with
  | lit l => cases l <;> simp [Rows.uptoBulk]
  | nil => simp [Rows.uptoBulk]
  | ptr d => simp [Rows.uptoBulk]
  | slice elems spare => simp [Rows.uptoBulk]
  | agg parts => simp [Rows.uptoBulk]
  | iface t d => simp [Rows.uptoBulk]
  | map entries => simp [Rows.uptoBulk]
  | held h => simp [Rows.uptoBulk]
theorem bulk_len {H : Type} (l : List (DataW H)) : l.length ≤ Rows.uptoBulkAll l := by
  induction l with
  | nil => simp [Rows.uptoBulkAll]
  | cons x r ih => have := bulk_one x; simp only [Rows.uptoBulkAll, List.length_cons]; omega
theorem open_parts_upto {H : Type} {en : TypeId × Value → H} {W : World} {held : Bool} {a : Option Addr} {len cap : Nat} {d : DataW H} {ps : List MemPlace}
    (hd : DataW.Trod en Try.prog W 0 (fun _ => true) held 22 (.slice a len cap) d ps) (hk : Rows.uptoSmall H [d] = true) : ∃ Q X B, PartsF 1048576 W a len cap Q X B := by
  refine parts_of 1048576 hd fun elems spare d0 d1 es sp he hmem => ?_
  subst he
  have h : Rows.uptoBulkAll [DataW.slice elems spare] ≤ 1048576 := of_decide_eq_true hk
  have h1 := bulk_mem hmem
  have h2 := bulk_len es
  simp only [Rows.uptoBulkAll, Rows.uptoBulk] at h h1
  omega
theorem run_idxp (a : Act) (o : Oper) (w : World) (x i : Operand) (g off n c k : Nat) (ho : o.op = .indexAddr 22 x i) (hx : a.eval x = .slice (some ⟨g, off, none⟩) n c) (hi : a.eval i = .int .i64 (k : Int)) (hk : k < n) (hn : n ≤ maxLen) : (execOp a.eval o).run Try.prog w = .ok (.value (.pointer (some ⟨g, off + k * 3, none⟩))) w := by
  unfold maxLen at hn
  have j0 : (0 : Int) ≤ (k : Int) := by omega
  have j6 : (k : Int) < (n : Int) := by omega
  unfold execOp
  simp only [ho, hx, hi]
  go_simp
def min2n (x y : Nat) : Nat := if y < x then y else x
theorem min2n_le (x : Nat) : min2n x 6000 ≤ 6000 := by unfold min2n; split <;> omega
theorem run_min2n (a : Act) (o : Oper) (w : World) (x y : Operand) (p q : Nat) (ts : Array TypeId) (ho : o.op = .call { callee := .builtin .min, args := #[x, y], argTypes := ts }) (hx : a.eval x = .int .i64 (p : Int)) (hy : a.eval y = .int .i64 (q : Int)) :
    (execOp a.eval o).run Try.prog w = .ok (.value (.int .i64 ((min2n p q : Nat) : Int))) w := by
  generalize a.eval = ev at hx hy ⊢
  unfold execOp
  simp only [ho]
  go_simp
  trace_state
  by_cases h : q < p
  · have : min2n p q = q := by unfold min2n; rw [if_pos h]
    simp [h, this]
  · have : min2n p q = p := by unfold min2n; rw [if_neg h]
    simp [h, this]
attribute [local irreducible] wpList
set_option maxHeartbeats 1000000 in
theorem few_any (w : World) (M : Nat) (la : Option Addr) (ln lc : Nat) (Q X : Nat → Nat) (B : Nat → List Int) (h : PartsF M w la ln lc Q X B) :
    Calls Try.prog 9 #[.slice la ln lc] w fun e w' => ∃ z, e = .returned (.bool z) ∧ w = w' ∧ (z = true → ln ≤ 40) := by
  have HP := Lib.hid h
  clear h
  go_enter Try.func9, Try.ntmps9
  go_wp2_with fail
  go_loopw [3, 4] (fun s3 s4 wr => ∃ (m k : Nat), s3 = .int .i64 (m : Int) ∧ s4 = .int .i64 (k : Int) ∧ Hid (k ≤ ln ∧ k ≤ 50 ∧ m ≤ 6000 * k) ∧ wr = w) (fun _ s4 _ => ln - (intOf s4).toNat)
  case atStart => exact ⟨0, 0, rfl, rfl, Lib.hid (by omega), rfl⟩
  case round =>
    obtain ⟨m, k, rfl, rfl, RI, rfl⟩ := hrel
    by_cases hlt : k < ln
    · by_cases h50 : k < 50
      · have HK : Hid (k < ln ∧ k < 50 ∧ m ≤ 6000 * k) := Lib.hid ⟨hlt, h50, RI.out.2.2⟩
        obtain ⟨gp, op, ea, hl1, hl2, hparts⟩ : ∃ g o, la = some ⟨g, o, none⟩ ∧ ln ≤ lc ∧ lc ≤ maxLen ∧ ∀ k, k < ln → ∃ a' n c, PartAt wr g (o + k * 3) (Q k) (X k) a' n c (B k) ∧ n ≤ M := by
          rcases HP.out with h | h
          · omega
          · exact h
        obtain ⟨pa, pn, pc, hpa, _⟩ := hparts k hlt
        have AE := Lib.hid ea
        have LL : Hid (ln ≤ maxLen) := Lib.hid (Nat.le_trans hl1 hl2)
        have PA : Hid (wr.cell? ⟨gp, op + k * 3 + 2, none⟩ = some (.slice pa pn pc)) := Lib.hid hpa.2.2.1
        clear ea hl1 hl2 hparts hpa hlt h50
        go_upto_region 3 with (fail)
        refine wp_region_lit ?_
        refine wpL_pure (.int .i64 (k : Int)) rfl (by kernel_rfl) ?_
        simp only [Act.put, List.setIfInBounds_toArray, List.set_cons_zero, List.set_cons_succ]
        refine wpL_pure (.slice la ln lc) rfl (by kernel_rfl) ?_
        simp only [Act.put, List.setIfInBounds_toArray, List.set_cons_zero, List.set_cons_succ]
        refine wpL_pure (.int .i64 (ln : Int)) rfl (by kernel_rfl) ?_
        simp only [Act.put, List.setIfInBounds_toArray, List.set_cons_zero, List.set_cons_succ]
        refine wpL_pure (.bool true) rfl (run_lti Try.underlying3 rfl rfl rfl (by have := HK.out; rw [decide_eq_true_eq]; omega)) ?_
        simp only [Act.put, List.setIfInBounds_toArray, List.set_cons_zero, List.set_cons_succ]
        refine wpL_pure (.bool true) rfl (by kernel_rfl) ?_
        simp only [Act.put, List.setIfInBounds_toArray, List.set_cons_zero, List.set_cons_succ]
        refine wpL_pure (.int .i64 (k : Int)) rfl (by kernel_rfl) ?_
        simp only [Act.put, List.setIfInBounds_toArray, List.set_cons_zero, List.set_cons_succ]
        refine wpL_pure (.bool true) rfl (run_lti Try.underlying3 rfl rfl rfl (by have := HK.out; rw [decide_eq_true_eq]; omega)) ?_
        simp only [Act.put, List.setIfInBounds_toArray, List.set_cons_zero, List.set_cons_succ]
        refine wpL_pure (.bool true) rfl (by kernel_rfl) ?_
        simp only [Act.put, List.setIfInBounds_toArray, List.set_cons_zero, List.set_cons_succ]
        go_upto_region 5 with (fail)
        refine wp_region_lit ?_
        refine wpL_pure (.int .i64 (m : Int)) rfl (by kernel_rfl) ?_
        simp only [Act.put, List.setIfInBounds_toArray, List.set_cons_zero, List.set_cons_succ]
        refine wpL_pure (.slice la ln lc) rfl (by kernel_rfl) ?_
        simp only [Act.put, List.setIfInBounds_toArray, List.set_cons_zero, List.set_cons_succ]
        refine wpL_pure (.int .i64 (k : Int)) rfl (by kernel_rfl) ?_
        simp only [Act.put, List.setIfInBounds_toArray, List.set_cons_zero, List.set_cons_succ]
        refine wpL_pure (.pointer (some ⟨gp, op + k * 3, none⟩)) rfl (run_idxp _ _ _ _ _ gp op ln lc k rfl (by rw [AE.out]; rfl) rfl (by have := HK.out; omega) LL.out) ?_
        simp only [Act.put, List.setIfInBounds_toArray, List.set_cons_zero, List.set_cons_succ]
        refine wpL_pure (.pointer (some ⟨gp, op + k * 3 + 2, none⟩)) rfl (by kernel_rfl) ?_
        simp only [Act.put, List.setIfInBounds_toArray, List.set_cons_zero, List.set_cons_succ]
        refine wpL_pure (.slice pa pn pc) rfl (run_load_one _ _ _ 25 _ _ rfl (gp) (op + k * 3 + 2) rfl (PA.out) (by kernel_rfl)) ?_
        simp only [Act.put, List.setIfInBounds_toArray, List.set_cons_zero, List.set_cons_succ]
        refine wpL_pure (.int .i64 (pn : Int)) rfl (by kernel_rfl) ?_
        simp only [Act.put, List.setIfInBounds_toArray, List.set_cons_zero, List.set_cons_succ]
        refine wpL_pure (.int .i64 ((min2n pn 6000 : Nat) : Int)) rfl (run_min2n _ _ _ _ _ _ _ _ rfl rfl rfl) ?_
        simp only [Act.put, List.setIfInBounds_toArray, List.set_cons_zero, List.set_cons_succ]
        refine wpL_pure (.int .i64 ((m + min2n pn 6000 : Nat) : Int)) rfl (run_addi Try.underlying3 rfl rfl rfl _ (by have := HK.out; have := min2n_le pn; rw [wrap_in _ (by omega) (by omega)]; omega)) ?_
        simp only [Act.put, List.setIfInBounds_toArray, List.set_cons_zero, List.set_cons_succ]
        refine wpL_pure (.int .i64 ((m + min2n pn 6000 : Nat) : Int)) rfl (by kernel_rfl) ?_
        simp only [Act.put, List.setIfInBounds_toArray, List.set_cons_zero, List.set_cons_succ]
        go_upto_region 4 with (fail)
        refine wp_region_lit ?_
        refine wpL_pure (.int .i64 (k : Int)) rfl (by kernel_rfl) ?_
        simp only [Act.put, List.setIfInBounds_toArray, List.set_cons_zero, List.set_cons_succ]
        refine wpL_pure (.int .i64 ((k + 1 : Nat) : Int)) rfl (run_addi Try.underlying3 rfl rfl rfl _ (by have := HK.out; rw [wrap_in _ (by omega) (by omega)]; omega)) ?_
        simp only [Act.put, List.setIfInBounds_toArray, List.set_cons_zero, List.set_cons_succ]
        refine wpL_pure (.int .i64 ((k + 1 : Nat) : Int)) rfl (by kernel_rfl) ?_
        simp only [Act.put, List.setIfInBounds_toArray, List.set_cons_zero, List.set_cons_succ]
        have NX : Hid (k + 1 ≤ ln ∧ k + 1 ≤ 50 ∧ m + min2n pn 6000 ≤ 6000 * (k + 1)) := Lib.hid (by have := HK.out; have := min2n_le pn; omega)
        unfold wpList
        go_roundw
        case rel => first | exact ⟨_, _, rfl, rfl, NX, rfl⟩ | ((repeat apply Exists.intro); exact ⟨⟨_, _, rfl, rfl, NX, rfl⟩, rfl⟩)
        case measure => simp [intOf]; have := HK.out; omega
      · have HK : Hid (k < ln ∧ ¬ k < 50) := Lib.hid ⟨hlt, h50⟩
        clear hlt h50
        go_upto_region 3 with (fail)
        refine wp_region_lit ?_
        refine wpL_pure (.int .i64 (k : Int)) rfl (by kernel_rfl) ?_
        simp only [Act.put, List.setIfInBounds_toArray, List.set_cons_zero, List.set_cons_succ]
        refine wpL_pure (.slice la ln lc) rfl (by kernel_rfl) ?_
        simp only [Act.put, List.setIfInBounds_toArray, List.set_cons_zero, List.set_cons_succ]
        refine wpL_pure (.int .i64 (ln : Int)) rfl (by kernel_rfl) ?_
        simp only [Act.put, List.setIfInBounds_toArray, List.set_cons_zero, List.set_cons_succ]
        refine wpL_pure (.bool true) rfl (run_lti Try.underlying3 rfl rfl rfl (by have := HK.out; rw [decide_eq_true_eq]; omega)) ?_
        simp only [Act.put, List.setIfInBounds_toArray, List.set_cons_zero, List.set_cons_succ]
        refine wpL_pure (.bool true) rfl (by kernel_rfl) ?_
        simp only [Act.put, List.setIfInBounds_toArray, List.set_cons_zero, List.set_cons_succ]
        refine wpL_pure (.int .i64 (k : Int)) rfl (by kernel_rfl) ?_
        simp only [Act.put, List.setIfInBounds_toArray, List.set_cons_zero, List.set_cons_succ]
        refine wpL_pure (.bool false) rfl (run_lti Try.underlying3 rfl rfl rfl (by have := HK.out; rw [decide_eq_false_iff_not]; omega)) ?_
        simp only [Act.put, List.setIfInBounds_toArray, List.set_cons_zero, List.set_cons_succ]
        refine wpL_pure (.bool false) rfl (by kernel_rfl) ?_
        simp only [Act.put, List.setIfInBounds_toArray, List.set_cons_zero, List.set_cons_succ]
        obtain ⟨z, hz⟩ : ∃ z, decide ((ln : Int) ≤ 40) = z := ⟨_, rfl⟩
        have HZ := Lib.hid hz
        clear hz
        cases z
        · go_upto_region 6 with (fail)
          refine wp_region_lit ?_
          refine wpL_pure (.slice la ln lc) rfl (by kernel_rfl) ?_
          simp only [Act.put, List.setIfInBounds_toArray, List.set_cons_zero, List.set_cons_succ]
          refine wpL_pure (.int .i64 (ln : Int)) rfl (by kernel_rfl) ?_
          simp only [Act.put, List.setIfInBounds_toArray, List.set_cons_zero, List.set_cons_succ]
          refine wpL_pure (.bool false) rfl (run_lei Try.underlying3 rfl rfl rfl (HZ.out)) ?_
          simp only [Act.put, List.setIfInBounds_toArray, List.set_cons_zero, List.set_cons_succ]
          refine wpL_pure (.bool false) rfl (by kernel_rfl) ?_
          simp only [Act.put, List.setIfInBounds_toArray, List.set_cons_zero, List.set_cons_succ]
          obtain ⟨zz, hzz⟩ : ∃ zz, decide ((m : Int) ≤ 25000) = zz := ⟨_, rfl⟩
          have HZZ := Lib.hid hzz
          clear hzz
          refine wpL_skip (by kernel_rfl) ?_
          simp only [Act.put, List.setIfInBounds_toArray, List.set_cons_zero, List.set_cons_succ]
          refine wpL_skip (by kernel_rfl) ?_
          simp only [Act.put, List.setIfInBounds_toArray, List.set_cons_zero, List.set_cons_succ]
          refine wpL_pure (.bool false) rfl (by kernel_rfl) ?_
          simp only [Act.put, List.setIfInBounds_toArray, List.set_cons_zero, List.set_cons_succ]
          refine wpL_pure (.bool false) rfl (by kernel_rfl) ?_
          simp only [Act.put, List.setIfInBounds_toArray, List.set_cons_zero, List.set_cons_succ]
          go_wp2_with fail
          go_ret
          exact ⟨_, rfl, rfl, fun h => by cases h⟩
        · go_upto_region 6 with (fail)
          refine wp_region_lit ?_
          refine wpL_pure (.slice la ln lc) rfl (by kernel_rfl) ?_
          simp only [Act.put, List.setIfInBounds_toArray, List.set_cons_zero, List.set_cons_succ]
          refine wpL_pure (.int .i64 (ln : Int)) rfl (by kernel_rfl) ?_
          simp only [Act.put, List.setIfInBounds_toArray, List.set_cons_zero, List.set_cons_succ]
          refine wpL_pure (.bool true) rfl (run_lei Try.underlying3 rfl rfl rfl (HZ.out)) ?_
          simp only [Act.put, List.setIfInBounds_toArray, List.set_cons_zero, List.set_cons_succ]
          refine wpL_pure (.bool true) rfl (by kernel_rfl) ?_
          simp only [Act.put, List.setIfInBounds_toArray, List.set_cons_zero, List.set_cons_succ]
          obtain ⟨zz, hzz⟩ : ∃ zz, decide ((m : Int) ≤ 25000) = zz := ⟨_, rfl⟩
          have HZZ := Lib.hid hzz
          clear hzz
          refine wpL_pure (.int .i64 (m : Int)) rfl (by kernel_rfl) ?_
          simp only [Act.put, List.setIfInBounds_toArray, List.set_cons_zero, List.set_cons_succ]
          refine wpL_pure (.bool zz) rfl (run_lei Try.underlying3 rfl rfl rfl (HZZ.out)) ?_
          simp only [Act.put, List.setIfInBounds_toArray, List.set_cons_zero, List.set_cons_succ]
          refine wpL_pure (.bool zz) rfl (by kernel_rfl) ?_
          simp only [Act.put, List.setIfInBounds_toArray, List.set_cons_zero, List.set_cons_succ]
          refine wpL_pure (.bool zz) rfl (by kernel_rfl) ?_
          simp only [Act.put, List.setIfInBounds_toArray, List.set_cons_zero, List.set_cons_succ]
          go_wp2_with fail
          go_ret
          exact ⟨_, rfl, rfl, fun h => by have := HZ.out; rw [decide_eq_true_eq] at this; omega⟩
    · have HK : Hid (¬ k < ln) := Lib.hid hlt
      clear hlt
      go_upto_region 3 with (fail)
      refine wp_region_lit ?_
      refine wpL_pure (.int .i64 (k : Int)) rfl (by kernel_rfl) ?_
      simp only [Act.put, List.setIfInBounds_toArray, List.set_cons_zero, List.set_cons_succ]
      refine wpL_pure (.slice la ln lc) rfl (by kernel_rfl) ?_
      simp only [Act.put, List.setIfInBounds_toArray, List.set_cons_zero, List.set_cons_succ]
      refine wpL_pure (.int .i64 (ln : Int)) rfl (by kernel_rfl) ?_
      simp only [Act.put, List.setIfInBounds_toArray, List.set_cons_zero, List.set_cons_succ]
      refine wpL_pure (.bool false) rfl (run_lti Try.underlying3 rfl rfl rfl (by have := HK.out; rw [decide_eq_false_iff_not]; omega)) ?_
      simp only [Act.put, List.setIfInBounds_toArray, List.set_cons_zero, List.set_cons_succ]
      refine wpL_pure (.bool false) rfl (by kernel_rfl) ?_
      simp only [Act.put, List.setIfInBounds_toArray, List.set_cons_zero, List.set_cons_succ]
      refine wpL_skip (by kernel_rfl) ?_
      simp only [Act.put, List.setIfInBounds_toArray, List.set_cons_zero, List.set_cons_succ]
      refine wpL_skip (by kernel_rfl) ?_
      simp only [Act.put, List.setIfInBounds_toArray, List.set_cons_zero, List.set_cons_succ]
      refine wpL_pure (.bool false) rfl (by kernel_rfl) ?_
      simp only [Act.put, List.setIfInBounds_toArray, List.set_cons_zero, List.set_cons_succ]
      obtain ⟨z, hz⟩ : ∃ z, decide ((ln : Int) ≤ 40) = z := ⟨_, rfl⟩
      have HZ := Lib.hid hz
      clear hz
      cases z
      · go_upto_region 6 with (fail)
        refine wp_region_lit ?_
        refine wpL_pure (.slice la ln lc) rfl (by kernel_rfl) ?_
        simp only [Act.put, List.setIfInBounds_toArray, List.set_cons_zero, List.set_cons_succ]
        refine wpL_pure (.int .i64 (ln : Int)) rfl (by kernel_rfl) ?_
        simp only [Act.put, List.setIfInBounds_toArray, List.set_cons_zero, List.set_cons_succ]
        refine wpL_pure (.bool false) rfl (run_lei Try.underlying3 rfl rfl rfl (HZ.out)) ?_
        simp only [Act.put, List.setIfInBounds_toArray, List.set_cons_zero, List.set_cons_succ]
        refine wpL_pure (.bool false) rfl (by kernel_rfl) ?_
        simp only [Act.put, List.setIfInBounds_toArray, List.set_cons_zero, List.set_cons_succ]
        obtain ⟨zz, hzz⟩ : ∃ zz, decide ((m : Int) ≤ 25000) = zz := ⟨_, rfl⟩
        have HZZ := Lib.hid hzz
        clear hzz
        refine wpL_skip (by kernel_rfl) ?_
        simp only [Act.put, List.setIfInBounds_toArray, List.set_cons_zero, List.set_cons_succ]
        refine wpL_skip (by kernel_rfl) ?_
        simp only [Act.put, List.setIfInBounds_toArray, List.set_cons_zero, List.set_cons_succ]
        refine wpL_pure (.bool false) rfl (by kernel_rfl) ?_
        simp only [Act.put, List.setIfInBounds_toArray, List.set_cons_zero, List.set_cons_succ]
        refine wpL_pure (.bool false) rfl (by kernel_rfl) ?_
        simp only [Act.put, List.setIfInBounds_toArray, List.set_cons_zero, List.set_cons_succ]
        go_wp2_with fail
        go_ret
        exact ⟨_, rfl, rfl, fun h => by cases h⟩
      · go_upto_region 6 with (fail)
        refine wp_region_lit ?_
        refine wpL_pure (.slice la ln lc) rfl (by kernel_rfl) ?_
        simp only [Act.put, List.setIfInBounds_toArray, List.set_cons_zero, List.set_cons_succ]
        refine wpL_pure (.int .i64 (ln : Int)) rfl (by kernel_rfl) ?_
        simp only [Act.put, List.setIfInBounds_toArray, List.set_cons_zero, List.set_cons_succ]
        refine wpL_pure (.bool true) rfl (run_lei Try.underlying3 rfl rfl rfl (HZ.out)) ?_
        simp only [Act.put, List.setIfInBounds_toArray, List.set_cons_zero, List.set_cons_succ]
        refine wpL_pure (.bool true) rfl (by kernel_rfl) ?_
        simp only [Act.put, List.setIfInBounds_toArray, List.set_cons_zero, List.set_cons_succ]
        obtain ⟨zz, hzz⟩ : ∃ zz, decide ((m : Int) ≤ 25000) = zz := ⟨_, rfl⟩
        have HZZ := Lib.hid hzz
        clear hzz
        refine wpL_pure (.int .i64 (m : Int)) rfl (by kernel_rfl) ?_
        simp only [Act.put, List.setIfInBounds_toArray, List.set_cons_zero, List.set_cons_succ]
        refine wpL_pure (.bool zz) rfl (run_lei Try.underlying3 rfl rfl rfl (HZZ.out)) ?_
        simp only [Act.put, List.setIfInBounds_toArray, List.set_cons_zero, List.set_cons_succ]
        refine wpL_pure (.bool zz) rfl (by kernel_rfl) ?_
        simp only [Act.put, List.setIfInBounds_toArray, List.set_cons_zero, List.set_cons_succ]
        refine wpL_pure (.bool zz) rfl (by kernel_rfl) ?_
        simp only [Act.put, List.setIfInBounds_toArray, List.set_cons_zero, List.set_cons_succ]
        go_wp2_with fail
        go_ret
        exact ⟨_, rfl, rfl, fun h => by have := HZ.out; rw [decide_eq_true_eq] at this; omega⟩
end Go.Proofs.Yteblaknbehfkgaa
