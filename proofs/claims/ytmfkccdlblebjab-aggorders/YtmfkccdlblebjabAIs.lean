/- errors.Is of an *agg.Overflow and a number: walks. -/
import Derived.Test.YtmfkccdlblebjabAAgg
import Derived.WalkKit
import Derived.LaidEql
import Derived.Stop.Asserts
import Derived.RowKitTokens
namespace Go.Proofs.Ytmfkccdlblebjab
open Go.RowKit Go.Extern.Stop Go.Stop Go.Extern

/-- Two numbers of type api.Errno, each behind an error. -/
theorem eq_errno (w : World) (a c : Int) : (binOp .eql 27 (.iface 32 (.int .i64 a)) (.iface 32 (.int .i64 c))).run Try.prog w = .ok (.bool (a == c)) w := by
  obtain ⟨ti, h1, h2⟩ := Option.map_eq_some_iff.1 (show (Try.prog.info? 32).map (·.comparable) = some true by kernel_rfl)
  have key : ∀ d : Nat, (Op.equalIn (d + 2) 27 (.iface 32 (.int .i64 a)) (.iface 32 (.int .i64 c))).run Try.prog w = .ok (a == c) w := fun d => by
    simp [Op.equalIn, typeInfo, h1, h2, run_underlying Try.underlying27, run_underlying Try.underlying32]
  have h3 : (Op.equal 27 (.iface 32 (.int .i64 a)) (.iface 32 (.int .i64 c))).run Try.prog w = .ok (a == c) w := key 9998
  simp [binOp, h3]

theorem Try.isTypeOf (v : Value) (w : World) : (Extern.ReflectliteType.typeOf #[.iface 32 v]).run Try.prog w = .ok (.iface 60 (.agg #[.pointer (some ⟨0, 32, none⟩)])) w := by kernel_rfl
theorem Try.isComparable (w : World) : ((Extern.ReflectliteType.method fun t => do Go.Extern.Rtype.noPackHeld "Comparable" t; pure (.bool (← typeInfo t).comparable)) #[.agg #[.pointer (some ⟨0, 32, none⟩)]]).run Try.prog w = .ok (.bool true) w := by kernel_rfl
theorem Try.isMethodComparable (v : Value) (w : World) : (Go.method 209 60 v "Comparable").run Try.prog w = .ok (55, v) w := by kernel_rfl
theorem Try.methodUnwrap (v : Value) (w : World) : (Go.method 209 48 v "Unwrap").run Try.prog w = .ok (51, v) w := by kernel_rfl
theorem Try.noIsN (v : Value) (xT : TypeId) (w : World) : (Instr.typeAssert (.iface 32 v) xT 62 true).run Try.prog w = .ok (.tuple #[.nilIface, .bool false]) w := run_typeAssert_lacksB Try.underlying62 (by kernel_rfl) (by kernel_rfl) v xT w
theorem Try.noUnwrapN (v : Value) (xT : TypeId) (w : World) : (Instr.typeAssert (.iface 32 v) xT 65 true).run Try.prog w = .ok (.tuple #[.nilIface, .bool false]) w := run_typeAssert_lacksB Try.underlying65 (by kernel_rfl) (by kernel_rfl) v xT w
theorem Try.noUnwrapsN (v : Value) (xT : TypeId) (w : World) : (Instr.typeAssert (.iface 32 v) xT 67 true).run Try.prog w = .ok (.tuple #[.nilIface, .bool false]) w := run_typeAssert_lacksB Try.underlying67 (by kernel_rfl) (by kernel_rfl) v xT w
theorem Try.noIsW (v : Value) (xT : TypeId) (w : World) : (Instr.typeAssert (.iface 48 v) xT 62 true).run Try.prog w = .ok (.tuple #[.nilIface, .bool false]) w := run_typeAssert_lacksB Try.underlying62 (by kernel_rfl) (by kernel_rfl) v xT w
theorem Try.hasUnwrapW (v : Value) (xT : TypeId) (w : World) : (Instr.typeAssert (.iface 48 v) xT 65 true).run Try.prog w = .ok (.tuple #[.iface 48 v, .bool true]) w := run_typeAssert_hasB Try.underlying65 (by kernel_rfl) v xT w

theorem unwrap_any (v : Value) (w : World) :
    Calls Try.prog 51 #[v] w fun e w' => e = .returned (.iface 32 (.int .i64 25)) ∧ w' = w := by
  go_enter Try.func51, Try.ntmps51
  go_wp2
  go_ret
  exact ⟨rfl, rfl⟩

theorem eq_nil_iface (w : World) (c : Int) : (binOp .eql 27 .nilIface (.iface 32 (.int .i64 c))).run Try.prog w = .ok (.bool false) w := by
  have key : ∀ d : Nat, (Op.equalIn (d + 2) 27 .nilIface (.iface 32 (.int .i64 c))).run Try.prog w = .ok false w := fun d => by
    simp [Op.equalIn, run_underlying Try.underlying27]
  have h3 : (Op.equal 27 .nilIface (.iface 32 (.int .i64 c))).run Try.prog w = .ok false w := key 9998
  simp [binOp, h3]
theorem is_nil (c : Int) (w : World) : Calls Try.prog 10 #[.nilIface, .iface 32 (.int .i64 c)] w fun e w' => e = .returned (.bool false) ∧ w' = w := by
  have heq := eq_nil_iface w c
  go_enter Try.func10, Try.ntmps10
  go_wp2
  go_ret
  exact ⟨rfl, rfl⟩

set_option maxHeartbeats 800000 in
set_option maxRecDepth 100000 in
theorem is_over (pb : Nat) (w : World) :
    Calls Try.prog 10 #[.iface 48 (.pointer (some ⟨pb, 0, none⟩)), .iface 32 (.int .i64 25)] w fun e w' => e = .returned (.bool true) ∧ w' = w := by
  have h8 := @run_callFunc_extern Try.prog 21 _ Extern.ReflectliteType.typeOf Try.func21 (by kernel_rfl) (by kernel_rfl) (by kernel_rfl) (by kernel_rfl)
  have h32 := @run_callFunc_extern Try.prog 55 _ (Extern.ReflectliteType.method fun t => do Go.Extern.Rtype.noPackHeld "Comparable" t; pure (.bool (← typeInfo t).comparable)) Try.func55 (by kernel_rfl) (by kernel_rfl) (by kernel_rfl) (by kernel_rfl)
  have tT := Try.isTypeOf
  have cT : ∀ W : World, (callFunc 55 #[.agg #[.pointer (some ⟨0, 32, none⟩)]]).run Try.prog W = .ok (Next.value (.bool true)) W := fun W => by rw [h32, Try.isComparable]; rfl
  clear h32
  have mR := Try.isMethodComparable
  have mU := Try.methodUnwrap
  have nN := Try.noIsN
  have uN := Try.noUnwrapN
  have vN := Try.noUnwrapsN
  have nW := Try.noIsW
  have uW := Try.hasUnwrapW
  have heq := eq_errno w 25 25
  rw [beq_self_eq_true] at heq
  have hty := run_eql_iface_types (P := Try.prog) 48 32 (.pointer (some ⟨pb, 0, none⟩)) (.int .i64 25) Try.underlying27 (by decide) w
  go_enter Try.func10, Try.ntmps10
  go_wp2
  refine wp_loop_rounds 2 ?_
  rw [rounds_succ]
  go_wp2
  rw [rounds_succ]
  go_wp2
  go_ret
  exact ⟨rfl, rfl⟩
end Go.Proofs.Ytmfkccdlblebjab
