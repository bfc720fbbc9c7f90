/- errors.Is of an *agg.Overflow and a number: walks. -/
import Derived.Test.YtbhhpkbiflolfaaAOvA
import Derived.WalkKit
import Derived.LaidEql
import Derived.Stop.Asserts
import Derived.RowKitTokens
namespace Go.Proofs.Ytbhhpkbiflolfaa.A
open Go.RowKit Go.Extern.Stop Go.Stop Go.Extern

/-- Two numbers of type api.Errno, each behind an error. -/
theorem eq_errno (w : World) (a c : Int) : (binOp .eql 51 (.iface 27 (.int .i64 a)) (.iface 27 (.int .i64 c))).run Try.prog w = .ok (.bool (a == c)) w := by
  obtain ⟨ti, h1, h2⟩ := Option.map_eq_some_iff.1 (show (Try.prog.info? 27).map (·.comparable) = some true by kernel_rfl)
  have key : ∀ d : Nat, (Op.equalIn (d + 2) 51 (.iface 27 (.int .i64 a)) (.iface 27 (.int .i64 c))).run Try.prog w = .ok (a == c) w := fun d => by
    simp [Op.equalIn, typeInfo, h1, h2, run_underlying Try.underlying51, run_underlying Try.underlying27]
  have h3 : (Op.equal 51 (.iface 27 (.int .i64 a)) (.iface 27 (.int .i64 c))).run Try.prog w = .ok (a == c) w := key 9998
  simp [binOp, h3]

theorem Try.AisTypeOf (v : Value) (w : World) : (Extern.ReflectliteType.typeOf #[.iface 27 v]).run Try.prog w = .ok (.iface 142 (.agg #[.pointer (some ⟨1, 27, none⟩)])) w := by kernel_rfl
theorem Try.AisComparable (w : World) : ((Extern.ReflectliteType.method fun t => do Go.Extern.Rtype.noPackHeld "Comparable" t; pure (.bool (← typeInfo t).comparable)) #[.agg #[.pointer (some ⟨1, 27, none⟩)]]).run Try.prog w = .ok (.bool true) w := by kernel_rfl
theorem Try.AisMethodComparable (v : Value) (w : World) : (Go.method 318 142 v "Comparable").run Try.prog w = .ok (132, v) w := by kernel_rfl
theorem Try.AmethodUnwrap (v : Value) (w : World) : (Go.method 318 173 v "Unwrap").run Try.prog w = .ok (142, v) w := by kernel_rfl
theorem Try.AnoIsN (v : Value) (xT : TypeId) (w : World) : (Instr.typeAssert (.iface 27 v) xT 144 true).run Try.prog w = .ok (.tuple #[.nilIface, .bool false]) w := run_typeAssert_lacksB Try.underlying144 (by kernel_rfl) (by kernel_rfl) v xT w
theorem Try.AnoUnwrapN (v : Value) (xT : TypeId) (w : World) : (Instr.typeAssert (.iface 27 v) xT 147 true).run Try.prog w = .ok (.tuple #[.nilIface, .bool false]) w := run_typeAssert_lacksB Try.underlying147 (by kernel_rfl) (by kernel_rfl) v xT w
theorem Try.AnoUnwrapsN (v : Value) (xT : TypeId) (w : World) : (Instr.typeAssert (.iface 27 v) xT 149 true).run Try.prog w = .ok (.tuple #[.nilIface, .bool false]) w := run_typeAssert_lacksB Try.underlying149 (by kernel_rfl) (by kernel_rfl) v xT w
theorem Try.AnoIsW (v : Value) (xT : TypeId) (w : World) : (Instr.typeAssert (.iface 173 v) xT 144 true).run Try.prog w = .ok (.tuple #[.nilIface, .bool false]) w := run_typeAssert_lacksB Try.underlying144 (by kernel_rfl) (by kernel_rfl) v xT w
theorem Try.AhasUnwrapW (v : Value) (xT : TypeId) (w : World) : (Instr.typeAssert (.iface 173 v) xT 147 true).run Try.prog w = .ok (.tuple #[.iface 173 v, .bool true]) w := run_typeAssert_hasB Try.underlying147 (by kernel_rfl) v xT w

theorem unwrap_any (v : Value) (w : World) :
    Calls Try.prog 142 #[v] w fun e w' => e = .returned (.iface 27 (.int .i64 25)) ∧ w' = w := by
  go_enter Try.func142, Try.ntmps142
  go_wp2
  go_ret
  exact ⟨rfl, rfl⟩

theorem eq_nil_iface (w : World) (c : Int) : (binOp .eql 51 .nilIface (.iface 27 (.int .i64 c))).run Try.prog w = .ok (.bool false) w := by
  have key : ∀ d : Nat, (Op.equalIn (d + 2) 51 .nilIface (.iface 27 (.int .i64 c))).run Try.prog w = .ok false w := fun d => by
    simp [Op.equalIn, run_underlying Try.underlying51]
  have h3 : (Op.equal 51 .nilIface (.iface 27 (.int .i64 c))).run Try.prog w = .ok false w := key 9998
  simp [binOp, h3]
theorem is_nil (c : Int) (w : World) : Calls Try.prog 22 #[.nilIface, .iface 27 (.int .i64 c)] w fun e w' => e = .returned (.bool false) ∧ w' = w := by
  have heq := eq_nil_iface w c
  go_enter Try.func22, Try.ntmps22
  go_wp2
  go_ret
  exact ⟨rfl, rfl⟩

set_option maxHeartbeats 800000 in
set_option maxRecDepth 100000 in
theorem is_over (pb : Nat) (w : World) :
    Calls Try.prog 22 #[.iface 173 (.pointer (some ⟨pb, 0, none⟩)), .iface 27 (.int .i64 25)] w fun e w' => e = .returned (.bool true) ∧ w' = w := by
  have h8 := @run_callFunc_extern Try.prog 55 _ Extern.ReflectliteType.typeOf Try.func55 (by kernel_rfl) (by kernel_rfl) (by kernel_rfl) (by kernel_rfl)
  have h32 := @run_callFunc_extern Try.prog 132 _ (Extern.ReflectliteType.method fun t => do Go.Extern.Rtype.noPackHeld "Comparable" t; pure (.bool (← typeInfo t).comparable)) Try.func132 (by kernel_rfl) (by kernel_rfl) (by kernel_rfl) (by kernel_rfl)
  have tT := Try.AisTypeOf
  have cT : ∀ W : World, (callFunc 132 #[.agg #[.pointer (some ⟨1, 27, none⟩)]]).run Try.prog W = .ok (Next.value (.bool true)) W := fun W => by rw [h32, Try.AisComparable]; rfl
  clear h32
  have mR := Try.AisMethodComparable
  have mU := Try.AmethodUnwrap
  have nN := Try.AnoIsN
  have uN := Try.AnoUnwrapN
  have vN := Try.AnoUnwrapsN
  have nW := Try.AnoIsW
  have uW := Try.AhasUnwrapW
  have heq := eq_errno w 25 25
  rw [beq_self_eq_true] at heq
  have hty := run_eql_iface_types (P := Try.prog) 173 27 (.pointer (some ⟨pb, 0, none⟩)) (.int .i64 25) Try.underlying51 (by decide) w
  go_enter Try.func22, Try.ntmps22
  go_wp2
  refine wp_loop_rounds 2 ?_
  rw [rounds_succ]
  go_wp2
  rw [rounds_succ]
  go_wp2
  go_ret
  exact ⟨rfl, rfl⟩
end Go.Proofs.Ytbhhpkbiflolfaa.A
