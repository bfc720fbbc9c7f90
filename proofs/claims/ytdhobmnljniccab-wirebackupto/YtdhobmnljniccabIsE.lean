/- errors.Is of a *wire.Error and a number: walks. -/
import Derived.Test.YtdhobmnljniccabRows
import Derived.WalkKit
import Derived.LaidEql
import Derived.Stop.Asserts
import Derived.RowKitTokens
namespace Go.Proofs.Ytdhobmnljniccab
open Go.RowKit Go.Extern.Stop Go.Stop Go.Extern

/-- Two numbers of type api.Errno, each behind an error. -/
theorem eq_errno (w : World) (a c : Int) : (binOp .eql 41 (.iface 43 (.int .i64 a)) (.iface 43 (.int .i64 c))).run Try.prog w = .ok (.bool (a == c)) w := by
  obtain ⟨ti, h1, h2⟩ := Option.map_eq_some_iff.1 (show (Try.prog.info? 43).map (·.comparable) = some true by kernel_rfl)
  have key : ∀ d : Nat, (Op.equalIn (d + 2) 41 (.iface 43 (.int .i64 a)) (.iface 43 (.int .i64 c))).run Try.prog w = .ok (a == c) w := fun d => by
    simp [Op.equalIn, typeInfo, h1, h2, run_underlying Try.underlying41, run_underlying Try.underlying43]
  have h3 : (Op.equal 41 (.iface 43 (.int .i64 a)) (.iface 43 (.int .i64 c))).run Try.prog w = .ok (a == c) w := key 9998
  simp [binOp, h3]

theorem Try.isTypeOf (v : Value) (w : World) : (Extern.ReflectliteType.typeOf #[.iface 43 v]).run Try.prog w = .ok (.iface 90 (.agg #[.pointer (some ⟨0, 43, none⟩)])) w := by kernel_rfl
theorem Try.isComparable (w : World) : ((Extern.ReflectliteType.method fun t => do Go.Extern.Rtype.noPackHeld "Comparable" t; pure (.bool (← typeInfo t).comparable)) #[.agg #[.pointer (some ⟨0, 43, none⟩)]]).run Try.prog w = .ok (.bool true) w := by kernel_rfl
theorem Try.isMethodComparable (v : Value) (w : World) : (Go.method 234 90 v "Comparable").run Try.prog w = .ok (70, v) w := by kernel_rfl
theorem Try.methodUnwrap (v : Value) (w : World) : (Go.method 234 81 v "Unwrap").run Try.prog w = .ok (66, v) w := by kernel_rfl
theorem Try.noIsN (v : Value) (xT : TypeId) (w : World) : (Instr.typeAssert (.iface 43 v) xT 92 true).run Try.prog w = .ok (.tuple #[.nilIface, .bool false]) w := run_typeAssert_lacksB Try.underlying92 (by kernel_rfl) (by kernel_rfl) v xT w
theorem Try.noUnwrapN (v : Value) (xT : TypeId) (w : World) : (Instr.typeAssert (.iface 43 v) xT 95 true).run Try.prog w = .ok (.tuple #[.nilIface, .bool false]) w := run_typeAssert_lacksB Try.underlying95 (by kernel_rfl) (by kernel_rfl) v xT w
theorem Try.noUnwrapsN (v : Value) (xT : TypeId) (w : World) : (Instr.typeAssert (.iface 43 v) xT 96 true).run Try.prog w = .ok (.tuple #[.nilIface, .bool false]) w := run_typeAssert_lacksB Try.underlying96 (by kernel_rfl) (by kernel_rfl) v xT w
theorem Try.noIsW (v : Value) (xT : TypeId) (w : World) : (Instr.typeAssert (.iface 81 v) xT 92 true).run Try.prog w = .ok (.tuple #[.nilIface, .bool false]) w := run_typeAssert_lacksB Try.underlying92 (by kernel_rfl) (by kernel_rfl) v xT w
theorem Try.hasUnwrapW (v : Value) (xT : TypeId) (w : World) : (Instr.typeAssert (.iface 81 v) xT 95 true).run Try.prog w = .ok (.tuple #[.iface 81 v, .bool true]) w := run_typeAssert_hasB Try.underlying95 (by kernel_rfl) v xT w

theorem unwrap_any (pb : Nat) (en at' : Value) (w : World) (h : w.heap[pb]? = some (.cells #[en, at'] 73 (0, 0))) :
    Calls Try.prog 66 #[.pointer (some ⟨pb, 0, none⟩)] w fun e w' => e = .returned (.iface 43 en) ∧ w' = w := by
  have c0 : w.cell? ⟨pb, 0, none⟩ = some en := by simp [World.cell?, h]
  go_enter Try.func66, Try.ntmps66
  go_wp2
  go_ret
  exact ⟨rfl, rfl⟩

set_option maxHeartbeats 800000 in
set_option maxRecDepth 100000 in
theorem is_any (pb : Nat) (a c : Int) (at' : Value) (w : World) (h : w.heap[pb]? = some (.cells #[.int .i64 a, at'] 73 (0, 0))) :
    Calls Try.prog 19 #[.iface 81 (.pointer (some ⟨pb, 0, none⟩)), .iface 43 (.int .i64 c)] w fun e w' => e = .returned (.bool (a == c)) ∧ w' = w := by
  have c0 : w.cell? ⟨pb, 0, none⟩ = some (.int .i64 a) := by simp [World.cell?, h]
  have h8 := @run_callFunc_extern Try.prog 38 _ Extern.ReflectliteType.typeOf Try.func38 (by kernel_rfl) (by kernel_rfl) (by kernel_rfl) (by kernel_rfl)
  have h32 := @run_callFunc_extern Try.prog 70 _ (Extern.ReflectliteType.method fun t => do Go.Extern.Rtype.noPackHeld "Comparable" t; pure (.bool (← typeInfo t).comparable)) Try.func70 (by kernel_rfl) (by kernel_rfl) (by kernel_rfl) (by kernel_rfl)
  have tT := Try.isTypeOf
  have cT : ∀ W : World, (callFunc 70 #[.agg #[.pointer (some ⟨0, 43, none⟩)]]).run Try.prog W = .ok (Next.value (.bool true)) W := fun W => by rw [h32, Try.isComparable]; rfl
  clear h32
  have mR := Try.isMethodComparable
  have mU := Try.methodUnwrap
  have nN := Try.noIsN
  have uN := Try.noUnwrapN
  have vN := Try.noUnwrapsN
  have nW := Try.noIsW
  have uW := Try.hasUnwrapW
  have heq := eq_errno w a c
  have hty := run_eql_iface_types (P := Try.prog) 81 43 (.pointer (some ⟨pb, 0, none⟩)) (.int .i64 c) Try.underlying41 (by decide) w
  by_cases hac : a = c
  · subst hac
    rw [beq_self_eq_true] at heq
    rw [beq_self_eq_true]
    go_enter Try.func19, Try.ntmps19
    go_wp2
    refine wp_loop_rounds 2 ?_
    rw [rounds_succ]
    go_wp2
    rw [rounds_succ]
    go_wp2
    go_ret
    exact ⟨rfl, rfl⟩
  · have hb : (a == c) = false := by simpa using hac
    rw [hb] at heq
    rw [hb]
    go_enter Try.func19, Try.ntmps19
    go_wp2
    refine wp_loop_rounds 2 ?_
    rw [rounds_succ]
    go_wp2
    rw [rounds_succ]
    go_wp2
    go_ret
    exact ⟨rfl, rfl⟩
end Go.Proofs.Ytdhobmnljniccab
