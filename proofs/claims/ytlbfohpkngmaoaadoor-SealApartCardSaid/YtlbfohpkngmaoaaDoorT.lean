/- Texts of use, in one. -/
import Derived.Test.YtlbfohpkngmaoaaDoorProg
import Derived.WalkKit
import Derived.LaidEql
import Derived.Stop.Asserts
import Derived.RowKitTokens
import Derived.KernelRfl
import Derived.Lib.Hide
import Derived.Below
namespace Go.Proofs.YtlbfohpkngmaoaaDoor.As
open Go Go.RowKit Go.Extern.Stop Go.Stop Go.Extern
theorem as_nil (t : Value) (w : World) :
  Calls Tryd.prog 14 #[.nilIface, t] w fun e w' => e = .returned (.bool false) ∧ w' = w := by
 go_enter Tryd.func14, Tryd.ntmps14
 go_wp2
 go_ret
 exact ⟨rfl, rfl⟩
theorem valueOf48 (t : Addr) (w : World) : (ReflectliteValue.unpack (.iface 48 (.pointer (some t)))).run Tryd.prog w
  = .ok (.agg #[.pointer (some ⟨1, 48, none⟩), .pointer (some ⟨w.heap.size, 0, none⟩), .int .u64 150]) (w.alloc (.cells #[.pointer (some t)] 48)) := by kernel_rfl
theorem type48 (a : Addr) (w : World) : (ReflectliteValue.methodAny (ReflectliteValue.valueError "reflectlite.Value.Type" 0) (fun t _ _ _ => ReflectliteType.toType t) #[.agg #[.pointer (some ⟨1, 48, none⟩), .pointer (some a), .int .u64 150]]).run Tryd.prog w
  = .ok (.iface 92 (.agg #[.pointer (some ⟨1, 48, none⟩)])) w := by kernel_rfl
theorem methodKind (h : Value) (w : World) : (Go.method 247 92 (.agg #[h]) "Kind").run Tryd.prog w = .ok (71, h) w := by kernel_rfl
theorem kind48 (w : World) : ((ReflectliteType.abiMethod fun t => (fun a : Nat => Value.int IntKind.u8 (a : Int)) <$> Rtype.kind t) #[.pointer (some ⟨1, 48, none⟩)]).run Tryd.prog w = .ok (.int .u8 22) w := by kernel_rfl
theorem kind46 (w : World) : ((ReflectliteType.abiMethod fun t => (fun a : Nat => Value.int IntKind.u8 (a : Int)) <$> Rtype.kind t) #[.pointer (some ⟨1, 46, none⟩)]).run Tryd.prog w = .ok (.int .u8 25) w := by kernel_rfl
theorem rlm (z : Sem Value) (f : TypeId → Addr → Nat → Nat → Sem Value) (v : Value) :
  ReflectliteValue.method z f #[v] = (do match ← ReflectliteValue.parts v with | none => z | some (t, a, fl) => f t a fl (fl % 32)) := rfl
theorem parts48 (a : Addr) (w : World) : (ReflectliteValue.parts (.agg #[.pointer (some ⟨1, 48, none⟩), .pointer (some a), .int .u64 150])).run Tryd.prog w = .ok (some (48, a, 150)) w := by kernel_rfl
theorem isNil48 (a p : Addr) (W : World) (ha : W.cell? a = some (.pointer (some p))) :
  (ReflectliteValue.method (ReflectliteValue.valueError "reflectlite.Value.IsNil" 0) ReflectliteValue.isNil #[.agg #[.pointer (some ⟨1, 48, none⟩), .pointer (some a), .int .u64 150]]).run Tryd.prog W = .ok (.bool false) W := by
 rw [rlm]
 simp only [Sem.run_bind, parts48, Result.andThen]
 simp [ReflectliteValue.isNil, loadVar, isAgg, underlying, Tryd.underlying48, ha, Result.andThen]
theorem methodElem (h : Value) (w : World) : (Go.method 247 92 (.agg #[h]) "Elem").run Tryd.prog w = .ok (83, .agg #[h]) w := by kernel_rfl
theorem methodImplements (h : Value) (w : World) : (Go.method 247 92 (.agg #[h]) "Implements").run Tryd.prog w = .ok (84, .agg #[h]) w := by kernel_rfl
theorem methodAssignableTo (h : Value) (w : World) : (Go.method 247 92 (.agg #[h]) "AssignableTo").run Tryd.prog w = .ok (81, .agg #[h]) w := by kernel_rfl
theorem methodUnwrap (h : Value) (w : World) : (Go.method 247 58 h "Unwrap").run Tryd.prog w = .ok (76, h) w := by kernel_rfl
theorem elem48 (w : World) : (ReflectliteType.method ReflectliteType.elem #[.agg #[.pointer (some ⟨1, 48, none⟩)]]).run Tryd.prog w = .ok (.iface 92 (.agg #[.pointer (some ⟨1, 46, none⟩)])) w := by kernel_rfl
theorem implements46 (w : World) : (ReflectliteType.relation "Implements" ReflectliteType.implements_ #[.agg #[.pointer (some ⟨1, 46, none⟩)], .iface 92 (.agg #[.pointer (some ⟨1, 42, none⟩)])]).run Tryd.prog w = .ok (.bool true) w := by kernel_rfl
theorem typeOf46 (v : Value) (w : World) : (ReflectliteType.typeOf #[.iface 46 v]).run Tryd.prog w = .ok (.iface 92 (.agg #[.pointer (some ⟨1, 46, none⟩)])) w := by kernel_rfl
theorem typeOf58 (v : Value) (w : World) : (ReflectliteType.typeOf #[.iface 58 v]).run Tryd.prog w = .ok (.iface 92 (.agg #[.pointer (some ⟨1, 58, none⟩)])) w := by kernel_rfl
theorem assignable46 (w : World) : (ReflectliteType.relation "AssignableTo" ReflectliteType.assignableTo #[.agg #[.pointer (some ⟨1, 46, none⟩)], .iface 92 (.agg #[.pointer (some ⟨1, 46, none⟩)])]).run Tryd.prog w = .ok (.bool true) w := by kernel_rfl
theorem assignable58 (w : World) : (ReflectliteType.relation "AssignableTo" ReflectliteType.assignableTo #[.agg #[.pointer (some ⟨1, 58, none⟩)], .iface 92 (.agg #[.pointer (some ⟨1, 46, none⟩)])]).run Tryd.prog w = .ok (.bool false) w := by kernel_rfl
theorem valueOf46 (k : Int) (w : World) : (ReflectliteValue.unpack (.iface 46 (.agg #[.int .i64 k]))).run Tryd.prog w
  = .ok (.agg #[.pointer (some ⟨1, 46, none⟩), .pointer (some ⟨w.heap.size, 0, none⟩), .int .u64 153]) (w.alloc (.cells #[.int .i64 k] 46)) := by kernel_rfl
theorem elemOf48 (w : World) : (Rtype.elem? 48).run Tryd.prog w = .ok (some 46) w := by kernel_rfl
theorem mk46 (p : Addr) (w : World) : (ReflectliteValue.mk 46 p ReflectliteValue.flagAddr).run Tryd.prog w = .ok (.agg #[.pointer (some ⟨1, 46, none⟩), .pointer (some p), .int .u64 409]) w := by kernel_rfl
theorem elemV48 (a p : Addr) (W : World) (ha : W.cell? a = some (.pointer (some p))) :
  (ReflectliteValue.method (ReflectliteValue.valueError "reflectlite.Value.Elem" 0) ReflectliteValue.elem #[.agg #[.pointer (some ⟨1, 48, none⟩), .pointer (some a), .int .u64 150]]).run Tryd.prog W
   = .ok (.agg #[.pointer (some ⟨1, 46, none⟩), .pointer (some p), .int .u64 409]) W := by
 rw [rlm]
 simp only [Sem.run_bind, parts48, Result.andThen]
 simp [ReflectliteValue.elem, loadVar, isAgg, underlying, Tryd.underlying48, ha, Result.andThen, elemOf48, mk46]
theorem rls (v x : Value) : ReflectliteValue.set #[v, x] = (do
  let (some (dst, a, fl), some (src, b, _)) := (← ReflectliteValue.parts v, ← ReflectliteValue.parts x)
   | unsupported (.noEntry "extern/(internal/reflectlite.Value).Set.zeroValue")
  if fl / ReflectliteValue.flagAddr % 2 == 0 then unsupported (.noEntry "extern/(internal/reflectlite.Value).Set.unaddressable")
  let val ← loadVar src b
  if ← Rtype.directlyAssignable dst src then storeVar dst a val
  else if ← Rtype.implements dst src then
   if (← Rtype.kind src) == 20 then
    match val with
    | .nilIface => unsupported (.noEntry "extern/reflectlite: a nil value of one interface type handed on as a value of another")
    | _ => storeVar dst a val
   else storeVar dst a (.iface src val)
  else panicString ("reflectlite.Set: value of type " ++ (← Rtype.spelt src) ++ " is not assignable to type " ++ (← Rtype.spelt dst))
  pure (.tuple #[])) := rfl
theorem parts46a (a : Addr) (w : World) : (ReflectliteValue.parts (.agg #[.pointer (some ⟨1, 46, none⟩), .pointer (some a), .int .u64 409])).run Tryd.prog w = .ok (some (46, a, 409)) w := by kernel_rfl
theorem parts46 (a : Addr) (w : World) : (ReflectliteValue.parts (.agg #[.pointer (some ⟨1, 46, none⟩), .pointer (some a), .int .u64 153])).run Tryd.prog w = .ok (some (46, a, 153)) w := by kernel_rfl
theorem direct46 (w : World) : (Rtype.directlyAssignable 46 46).run Tryd.prog w = .ok true w := by kernel_rfl
theorem agg46 (w : World) : (isAgg 46).run Tryd.prog w = .ok true w := by kernel_rfl
theorem size46 (w : World) : (sizeOf 46).run Tryd.prog w = .ok 1 w := by kernel_rfl
theorem load46 (b : Addr) (k : Int) (W : World) (hb : W.cell? b = some (.int .i64 k)) : (loadVar 46 b).run Tryd.prog W = .ok (.agg #[.int .i64 k]) W := by
 unfold loadVar
 simp [Sem.run_bind, agg46, size46, Result.andThen, loadCells, loadCellsFrom, Addr.add, hb]
theorem store46 (t : Addr) (k : Int) (old : Value) (W : World) (ht : W.cell? t = some old) (hf : W.frozen? t = false) : (storeVar 46 t (.agg #[.int .i64 k])).run Tryd.prog W = .ok () (W.setCell t (.int .i64 k)) := by
 unfold storeVar
 simp [Sem.run_bind, size46, Result.andThen, Value.cells, storeCells, Addr.add]
 rw [run_store Tryd.prog W t _ _ (by rfl)]
 simp [ht, hf]
theorem set46 (ta b : Addr) (k : Int) (old : Value) (W : World) (hb : W.cell? b = some (.int .i64 k)) (ht : W.cell? ta = some old) (hf : W.frozen? ta = false) :
  (ReflectliteValue.set #[.agg #[.pointer (some ⟨1, 46, none⟩), .pointer (some ta), .int .u64 409], .agg #[.pointer (some ⟨1, 46, none⟩), .pointer (some b), .int .u64 153]]).run Tryd.prog W
   = .ok (.tuple #[]) (W.setCell ta (.int .i64 k)) := by
 rw [rls]
 simp only [Sem.run_bind, parts46a, parts46, Result.andThen]
 simp [ReflectliteValue.flagAddr, Result.andThen, direct46, load46 b k W hb, store46 ta k old W ht hf]
theorem no97 (v : Value) (xT : TypeId) (w : World) : (Instr.typeAssert (.iface 58 v) xT 97 true).run Tryd.prog w = .ok (.tuple #[.nilIface, .bool false]) w := run_typeAssert_lacksB Tryd.underlying97 (by kernel_rfl) (by kernel_rfl) v xT w
theorem has100 (v : Value) (xT : TypeId) (w : World) : (Instr.typeAssert (.iface 58 v) xT 100 true).run Tryd.prog w = .ok (.tuple #[.iface 58 v, .bool true]) w := by kernel_rfl
set_option maxHeartbeats 4000000 in
set_option maxRecDepth 100000 in
theorem as_hit (k : Int) (t b : Addr) (old : Value) (w : World) (hb : w.cell? b = some (.pointer (some t))) (ht0 : w.cell? t = some old) (hf0 : w.frozen? t = false) :
  Calls Tryd.prog 25 #[.iface 58 (.agg #[.iface 46 (.agg #[.int .i64 k])]), .iface 48 (.pointer (some t)), .agg #[.pointer (some ⟨1, 48, none⟩), .pointer (some b), .int .u64 150], .iface 92 (.agg #[.pointer (some ⟨1, 46, none⟩)])] w fun ev w' => ev = .returned (.bool true) ∧ w' = (((w.alloc (.cells #[.pointer (some ⟨1, 48, none⟩), .pointer (some b), .int .u64 150] 63)).alloc (.cells #[.iface 46 (.agg #[.int .i64 k])] 58)).alloc (.cells #[.int .i64 k] 46)).setCell t (.int .i64 k) := by
 have h22 := @run_callFunc_extern Tryd.prog 22 _ (fun args => ReflectliteValue.unpack (args.getD 0 (.tuple #[]))) Tryd.func22 (by kernel_rfl) (by kernel_rfl) (by kernel_rfl) (by kernel_rfl)
 have h38 := @run_callFunc_extern Tryd.prog 38 _ ReflectliteType.typeOf Tryd.func38 (by kernel_rfl) (by kernel_rfl) (by kernel_rfl) (by kernel_rfl)
 have h81 := @run_callFunc_extern Tryd.prog 81 _ (ReflectliteType.relation "AssignableTo" ReflectliteType.assignableTo) Tryd.func81 (by kernel_rfl) (by kernel_rfl) (by kernel_rfl) (by kernel_rfl)
 have h39 := @run_callFunc_extern Tryd.prog 39 _ (ReflectliteValue.method (ReflectliteValue.valueError "reflectlite.Value.Elem" 0) ReflectliteValue.elem) Tryd.func39 (by kernel_rfl) (by kernel_rfl) (by kernel_rfl) (by kernel_rfl)
 have h40 := @run_callFunc_extern Tryd.prog 40 _ ReflectliteValue.set Tryd.func40 (by kernel_rfl) (by kernel_rfl) (by kernel_rfl) (by kernel_rfl)
 have tO := typeOf46
 have tP := typeOf58
 have mA := methodAssignableTo
 have mU := methodUnwrap
 have n97 := no97
 have a100 := has100
 have aA := assignable46
 have aB := assignable58
 have v46 := valueOf46
 have hbl : b.block < w.heap.size := by
  rcases Nat.lt_or_ge b.block w.heap.size with h | h
  ·exact h
  ·simp [World.cell?, Array.getElem?_eq_none h] at hb
 have htl : t.block < w.heap.size := by
  rcases Nat.lt_or_ge t.block w.heap.size with h | h
  ·exact h
  ·simp [World.cell?, Array.getElem?_eq_none h] at ht0
 obtain ⟨V, hV⟩ : ∃ V, V = (w.alloc (.cells #[.pointer (some ⟨1, 48, none⟩), .pointer (some b), .int .u64 150] 63)).alloc (.cells #[.iface 46 (.agg #[.int .i64 k])] 58) := ⟨_, rfl⟩
 have sV : V.heap.size = w.heap.size + 1 + 1 := by rw [hV]; simp
 have el := elemV48 b t V (by rw [hV, World.cell?_alloc_lt _ _ b (by simp; omega), World.cell?_alloc_lt _ _ b hbl]; exact hb)
 have st := set46 t ⟨V.heap.size, 0, none⟩ k old (V.alloc (.cells #[.int .i64 k] 46))
  (by rw [World.cell?_alloc_at _ _ _ _ (by simp)]; rfl)
  (by rw [hV, World.cell?_alloc_lt _ _ t (by simp; omega), World.cell?_alloc_lt _ _ t (by simp; omega), World.cell?_alloc_lt _ _ t htl]; exact ht0)
  (by rw [hV, World.frozen?_alloc_old _ _ t (by simp; omega), World.frozen?_alloc_old _ _ t (by simp; omega), World.frozen?_alloc_old _ _ t (Nat.ne_of_lt htl)]; exact hf0)
 rw [sV] at st
 have c6 : V.cell? ⟨w.heap.size, 0, none⟩ = some (.pointer (some ⟨1, 48, none⟩)) := by rw [hV, World.cell?_alloc_lt _ _ _ (by simp), World.cell?_alloc_at _ _ _ _ (by simp)]; rfl
 have c7 : V.cell? ⟨w.heap.size, 1, none⟩ = some (.pointer (some b)) := by rw [hV, World.cell?_alloc_lt _ _ _ (by simp), World.cell?_alloc_at _ _ _ _ (by simp)]; rfl
 have c8 : V.cell? ⟨w.heap.size, 2, none⟩ = some (.int .u64 150) := by rw [hV, World.cell?_alloc_lt _ _ _ (by simp), World.cell?_alloc_at _ _ _ _ (by simp)]; rfl
 go_enter Tryd.func25, Tryd.ntmps25
 go_wp2
 refine wp_loop_rounds 2 ?_
 rw [rounds_succ]
 go_wp2
 rw [show (#[Value.agg #[.iface 46 (.agg #[.int .i64 k])], .pointer (some ⟨w.heap.size + 1, 0, none⟩), .iface 46 (.agg #[.int .i64 k]), .pointer (some ⟨w.heap.size + 1, 0, none⟩), .iface 46 (.agg #[.int .i64 k])] : Array Value).getD 2 undef = .iface 46 (.agg #[.int .i64 k]) from rfl]
 rw [← hV]
 have HV := Lib.hid hV
 clear hV
 rw [rounds_succ]
 go_wp2
 go_ret
 exact ⟨rfl, by rw [HV.out]⟩
end Go.Proofs.YtlbfohpkngmaoaaDoor.As

namespace Go.Proofs.YtlbfohpkngmaoaaDoor.As
open Go Go.RowKit Go.Extern.Stop Go.Stop Go.Extern
set_option maxHeartbeats 4000000 in
set_option maxRecDepth 100000 in
theorem As_hit (k : Int) (t : Addr) (old : Value) (w : World) (hg : w.cell? ⟨0, 0, none⟩ = some (.iface 92 (.agg #[.pointer (some ⟨1, 42, none⟩)]))) (ht0 : w.cell? t = some old) (hf0 : w.frozen? t = false) :
  Calls Tryd.prog 14 #[.iface 58 (.agg #[.iface 46 (.agg #[.int .i64 k])]), .iface 48 (.pointer (some t))] w fun ev w' => ev = .returned (.bool true) ∧ Below t.block w w' ∧ w'.cell? t = some (.int .i64 k) := by
 have h22 := @run_callFunc_extern Tryd.prog 22 _ (fun args => ReflectliteValue.unpack (args.getD 0 (.tuple #[]))) Tryd.func22 (by kernel_rfl) (by kernel_rfl) (by kernel_rfl) (by kernel_rfl)
 have h23 := @run_callFunc_extern Tryd.prog 23 _ (ReflectliteValue.methodAny (ReflectliteValue.valueError "reflectlite.Value.Type" 0) (fun t _ _ _ => ReflectliteType.toType t)) Tryd.func23 (by kernel_rfl) (by kernel_rfl) (by kernel_rfl) (by kernel_rfl)
 have h24 := @run_callFunc_extern Tryd.prog 24 _ (ReflectliteValue.method (ReflectliteValue.valueError "reflectlite.Value.IsNil" 0) ReflectliteValue.isNil) Tryd.func24 (by kernel_rfl) (by kernel_rfl) (by kernel_rfl) (by kernel_rfl)
 have h71 := @run_callFunc_extern Tryd.prog 71 _ (ReflectliteType.abiMethod fun t => do pure (.int .u8 (← Rtype.kind t))) Tryd.func71 (by kernel_rfl) (by kernel_rfl) (by kernel_rfl) (by kernel_rfl)
 have h83 := @run_callFunc_extern Tryd.prog 83 _ (ReflectliteType.method ReflectliteType.elem) Tryd.func83 (by kernel_rfl) (by kernel_rfl) (by kernel_rfl) (by kernel_rfl)
 have h84 := @run_callFunc_extern Tryd.prog 84 _ (ReflectliteType.relation "Implements" ReflectliteType.implements_) Tryd.func84 (by kernel_rfl) (by kernel_rfl) (by kernel_rfl) (by kernel_rfl)
 have f6 := valueOf48
 have f7 := type48
 have mK := methodKind
 have mE := methodElem
 have mI := methodImplements
 have k48 := kind48
 have k46 := kind46
 have e48 := elem48
 have i46 := implements46
 have htl : t.block < w.heap.size := by
  rcases Nat.lt_or_ge t.block w.heap.size with h | h
  ·exact h
  ·simp [World.cell?, Array.getElem?_eq_none h] at ht0
 have hlt : 0 < w.heap.size := by omega
 obtain ⟨V, hV⟩ : ∃ V, V = (w.alloc (.cells #[.pointer (some t)] 48)).alloc (.cells #[.pointer (some ⟨1, 48, none⟩), .pointer (some ⟨w.heap.size, 0, none⟩), .int .u64 150] 63) := ⟨_, rfl⟩
 have cb : V.cell? ⟨w.heap.size, 0, none⟩ = some (.pointer (some t)) := by rw [hV, World.cell?_alloc_lt _ _ _ (by simp), World.cell?_alloc_at _ _ _ _ (by simp)]; rfl
 have n8 := isNil48 ⟨w.heap.size, 0, none⟩ t V cb
 have hg2 : V.cell? ⟨0, 0, none⟩ = some (.iface 92 (.agg #[.pointer (some ⟨1, 42, none⟩)])) := by
  rw [hV, World.cell?_alloc_lt _ _ ⟨0, 0, none⟩ (by simp), World.cell?_alloc_lt _ _ ⟨0, 0, none⟩ hlt]; exact hg
 have ct : V.cell? t = some old := by rw [hV, World.cell?_alloc_lt _ _ t (by simp; omega), World.cell?_alloc_lt _ _ t htl]; exact ht0
 have ft : V.frozen? t = false := by rw [hV, World.frozen?_alloc_old _ _ t (by simp; omega), World.frozen?_alloc_old _ _ t (Nat.ne_of_lt htl)]; exact hf0
 have c6 : V.cell? ⟨w.heap.size + 1, 0, none⟩ = some (.pointer (some ⟨1, 48, none⟩)) := by rw [hV, World.cell?_alloc_at _ _ _ _ (by simp)]; rfl
 have c7 : V.cell? ⟨w.heap.size + 1, 1, none⟩ = some (.pointer (some ⟨w.heap.size, 0, none⟩)) := by rw [hV, World.cell?_alloc_at _ _ _ _ (by simp)]; rfl
 have c8 : V.cell? ⟨w.heap.size + 1, 2, none⟩ = some (.int .u64 150) := by rw [hV, World.cell?_alloc_at _ _ _ _ (by simp)]; rfl
 have H := Lib.hid (as_hit k t ⟨w.heap.size, 0, none⟩ old V cb ct ft)
 have BV : Hid (Below t.block w V ∧ t.block < V.heap.size) := Lib.hid (by rw [hV]; exact ⟨((Below.refl _ _).alloc (by omega) _).alloc (by simp; omega) _, by simp; omega⟩)
 have CT := Lib.hid ct
 clear ct
 go_enter Tryd.func14, Tryd.ntmps14
 go_wp2
 rw [← hV]
 clear hV
 simp only [n8, Result.andThen]
 go_wp2_with fail
 refine H.out.mono ?_
 rintro e w' ⟨rfl, rfl⟩
 go_wp2
 go_ret
 refine ⟨rfl, (((BV.out.1.alloc (Nat.le_of_lt BV.out.2) _).alloc (by simp; have := BV.out.2; omega) _).alloc (by simp; have := BV.out.2; omega) _).setCell (Nat.le_refl _) _, ?_⟩
 have l := BV.out.2
 exact World.cell?_setCell_same' _ _ _ (by rw [World.cell?_alloc_lt _ _ t (by simp; omega), World.cell?_alloc_lt _ _ t (by simp; omega), World.cell?_alloc_lt _ _ t l, CT.out]; rfl)
end Go.Proofs.YtlbfohpkngmaoaaDoor.As

