/- The sorted keys of what is loose. -/
import Derived.Test.YteabblmhcjpboaaDK
import Derived.Test.YteabblmhcjpboaaDE1
import Derived.WalkKit
namespace Go.Proofs.Yteabblmhcjpboaa.D
open Go Go.RowKit Go.Maps Go.Sort Go.Shelf
theorem Try.sortsA (m : Nat) : AnyZI.SortsIn Try.prog Try.sortedA_ren Fence.wide m :=
  ⟨fun blk off cap ss W hH hblk hsz => callsIn_wide.2 (AnyM.slices_Sort_int Try.sortA blk off cap ss W hH hblk hsz),
   fun p cap W => callsIn_wide.2 (AnyM.slices_Sort_int_none Try.sortA p cap W)⟩
def RT : Value → Option (DataW Unit × List MemPlace) := fun _ => some (.lit (.bool true), [])
noncomputable def dat (L : List (Int × List Int × Nat)) : DataW Unit := .map (((ents L).toList.map (Go.WideElems.rg Try.prog 3 RT)).foldr DataW.insert [])
theorem insert_perm {H : Type} (x : Lit × DataW H) : ∀ l : List (Lit × DataW H), (DataW.insert x l).Perm (x :: l)
  | [] => List.Perm.refl _
  | y :: r => by
    unfold DataW.insert
    split
    · exact List.Perm.refl _
    · exact ((insert_perm x r).cons y).trans (List.Perm.swap x y r)
theorem foldr_perm {H : Type} : ∀ l : List (Lit × DataW H), (l.foldr DataW.insert []).Perm l
  | [] => List.Perm.refl _
  | x :: l => (insert_perm x _).trans ((foldr_perm l).cons x)
theorem wf64 {x : Int} (h0 : 0 ≤ x) (h1 : x < 1000) : (Lit.int .i64 x).wf = true := by
  simp [Lit.wf, show IntKind.i64.min = -9223372036854775808 from by decide, show IntKind.i64.max = 9223372036854775807 from by decide]
  omega
theorem rd_ent (e : Int × List Int × Nat) (h0 : 0 ≤ e.1) (h1 : e.1 < 1000) : Go.WideElems.rd Try.prog 3 RT (ent e) = some (.int .i64 e.1, .lit (.bool true)) := by
  unfold Go.WideElems.rd
  have k : keyOf Try.prog 3 (ent e).key = some (.int .i64 e.1) := Go.Maps.keyOf_int_mk Try.underlying3 (wf64 h0 h1)
  rw [k]
  rfl
theorem keys_dat {n c : Nat} {L : List (Int × List Int × Nat)} (h : LOk n c L) (hn : n ≤ 200) : (intKeys (dat L)).Perm (L.map (·.1)) := by
  have q := foldr_perm ((ents L).toList.map (Go.WideElems.rg Try.prog 3 RT))
  have q2 := q.map (fun p => _root_.Go.intOf p.1)
  refine q2.trans (List.Perm.of_eq ?_)
  simp only [ents, List.map_map]
  apply List.map_congr_left
  intro e he
  have b := h.1 e he
  simp [Go.WideElems.rg, rd_ent e b.1 (by omega), _root_.Go.intOf]
theorem owns_dat {w : World} {gm n c : Nat} {L : List (Int × List Int × Nat)} (h : LOk n c L) (hn : n ≤ 200) (hm : w.heap[gm]? = some (.map (ents L) c)) : w.ownsMap Try.prog 3 RT gm L.length (dat L) := by
  refine ⟨ents L, c, hm, ⟨?_, ⟨?_, ?_, ?_⟩, ?_⟩, by rw [ents_size]; exact Nat.le_refl _, rfl⟩
  · rw [ents_size]; have := h.len; unfold maxLen; omega
  · intro x hx
    obtain ⟨e, he, rfl⟩ := List.mem_map.1 (by simpa only [ents, List.toList_toArray] using hx : x ∈ L.map ent)
    exact (h.1 e he).2.2.2
  · have e : (ents L).toList.map (·.born) = L.map (·.2.2) := by simp [ents, ent, Function.comp_def]
    rw [e]; exact h.2.2
  · have e : (ents L).toList.map (·.key) = (L.map (·.1)).map (Value.int .i64) := by simp [ents, ent, Function.comp_def]
    rw [e]
    unfold List.Nodup
    rw [List.pairwise_map]
    exact List.Pairwise.imp (fun q e => q (by simpa using e)) h.2.1
  · intro x hx
    obtain ⟨e, he, rfl⟩ := List.mem_map.1 (by simpa only [ents, List.toList_toArray] using hx : x ∈ L.map ent)
    have b := h.1 e he
    exact ⟨_, rd_ent e b.1 (by omega)⟩
theorem keys_call (mb : Option Nat) (W : World) : Calls Try.prog 42 #[.map mb] W fun e w' => e = .returned (.func (.func 54) #[] #[.pointer (some ⟨W.heap.size, 0, none⟩)]) ∧ w' = W.alloc (.cells #[.map mb] 60) :=
  (callsIn_wide (n := 5)).1 (AnyZI.keys_in Try.keysA Fence.wide 5 trivial rfl mb W)
theorem sorted_call (gm n c : Nat) (L : List (Int × List Int × Nat)) (w : World) (h : LOk n c L) (hn : n ≤ 200) (hm : w.heap[gm]? = some (.map (ents L) c)) :
    Calls Try.prog 41 #[.func (.func 54) #[] #[.pointer (some ⟨w.heap.size, 0, none⟩)]] (w.alloc (.cells #[.map (some gm)] 60)) fun e w' => ∃ (v : Value) (ss : List Int), e = .returned v ∧ ss.Perm (L.map (·.1)) ∧
      w'.ownsRow (w.alloc (.cells #[.map (some gm)] 60)).heap.size 3 1 v ss.length ((ss.mergeSort (fun x y => decide (x ≤ y))).map encZ) ∧ (v = .slice none 0 0 ↔ ss = []) ∧ Below (w.alloc (.cells #[.map (some gm)] 60)).heap.size (w.alloc (.cells #[.map (some gm)] 60)) w' := by
  have hown := owns_dat h hn hm
  have hbl := hown.lt
  have hl := h.len
  have hsz : Maps.size (dat L) = L.length := by
    have q := (keys_dat h hn).length_eq
    simpa only [dat, intKeys, Maps.size, List.length_map] using q
  have hseq : SeqGives Fence.wide 2 Try.prog 54 #[.pointer (some ⟨w.heap.size, 0, none⟩)] encZ (fun ss => ss.Perm (intKeys (dat L))) (Maps.size (dat L)) (w.alloc (.cells #[.map (some gm)] 60)) :=
    AnyZI.keys_gives (ρ := Try.keysA_ren) { Try.keysA with } Fence.wide _ trivial rfl (by omega) w.heap.size gm L.length (dat L) _ (by simp) (by simp) (by
      obtain ⟨es, clock, hb, Ft, hs, hD⟩ := hown
      exact ⟨es, clock, (Below.heap_alloc _ _ gm hbl).trans hb, Ft, hs, hD⟩)
  have cS := AnyZI.sorted_in Try.sortedA Fence.wide 5 trivial trivial trivial trivial rfl (by omega) (Try.sortsA _) (enters_of Try.func53 (by kernel_rfl) rfl) 54 #[.pointer (some ⟨w.heap.size, 0, none⟩)] trivial (enters_of Try.func54 (by kernel_rfl) rfl) _ _ (by rw [hsz]; unfold maxLen; omega) (by rw [hsz]; omega) _ hseq
  change CallsIn _ _ Try.prog 41 _ _ _ at cS
  refine ((callsIn_wide (n := _)).1 cS).mono ?_
  rintro e w' ⟨v, ss, rfl, hS, hrow, hnil, hb⟩
  exact ⟨v, ss, rfl, hS.trans (keys_dat h hn), hrow, hnil, hb⟩
end Go.Proofs.Yteabblmhcjpboaa.D
