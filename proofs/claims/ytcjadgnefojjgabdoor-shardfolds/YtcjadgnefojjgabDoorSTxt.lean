/- shard: mayBe, check, text: walks. -/
import Derived.Test.YtcjadgnefojjgabDoorSRep
import Derived.Test.YtcjadgnefojjgabDoorTBase
import Derived.Test.YtcjadgnefojjgabDoorCLayG
import Derived.Maps.AppendAt
import Derived.Deep.DeepCutAuto
import Derived.Deep.DeepMust
namespace Go.Proofs.YtcjadgnefojjgabDoor.S
open Go.RowKit

theorem cells3 {w : World} {N : Nat} {a b c : Value} {e : TypeId} (h : w.heap[N]? = some (.cells #[a, b, c] e (0, 0))) : w.cell? ⟨N, 0, none⟩ = some a ∧ w.cell? ⟨N, 1, none⟩ = some b ∧ w.cell? ⟨N, 2, none⟩ = some c := by
  refine ⟨?_, ?_, ?_⟩ <;> simp [World.cell?, h]

theorem mayBe_any (c : Cl) (w : World) (hk : c.k.size ≤ 9223372036854775807) :
    Calls Tryd.prog 23 #[.agg #[.int .i64 c.v, .string c.k, .int .i64 c.s]] w fun e w' => e = .returned (.int .i64 (mayE c)) ∧ Fr w w' (fun _ => False) := by
  obtain ⟨v, k, s⟩ := c
  dsimp only at hk ⊢
  unfold mayE
  dsimp only
  have key : ∀ n : Int, (n = if v < 0 ∨ 4 ≤ v then 23 else if k.size < 1 ∨ 32 < k.size then 21 else if s < -2305843009213693952 ∨ 2305843009213693952 < s then 22 else 0) → Calls Tryd.prog 23 #[.agg #[.int .i64 v, .string k, .int .i64 s]] w fun e w' => e = .returned (.int .i64 n) ∧ Fr w w' (fun _ => False) := by
    intro n hn
    by_cases h1 : v < 0
    · rw [if_pos (Or.inl h1)] at hn
      subst hn
      go_enter Tryd.func23, Tryd.ntmps23
      go_wp2_with fail
      go_ret
      exact ⟨rfl, alloc_fr _ _ _⟩
    by_cases h2 : 4 ≤ v
    · rw [if_pos (Or.inr h2)] at hn
      subst hn
      go_enter Tryd.func23, Tryd.ntmps23
      go_wp2_with fail
      go_ret
      exact ⟨rfl, alloc_fr _ _ _⟩
    rw [if_neg (by omega)] at hn
    by_cases h3 : k.size < 1
    · rw [if_pos (Or.inl h3)] at hn
      subst hn
      have t3 : (k.size : Int) < 1 := by omega
      clear h3
      go_enter Tryd.func23, Tryd.ntmps23
      go_wp2_with fail
      go_ret
      exact ⟨rfl, alloc_fr _ _ _⟩
    have t3 : ¬ (k.size : Int) < 1 := by omega
    by_cases h4 : 32 < k.size
    · rw [if_pos (Or.inr h4)] at hn
      subst hn
      have t4 : (32 : Int) < (k.size : Int) := by omega
      clear h3 h4
      go_enter Tryd.func23, Tryd.ntmps23
      go_wp2_with fail
      go_ret
      exact ⟨rfl, alloc_fr _ _ _⟩
    have t4 : ¬ (32 : Int) < (k.size : Int) := by omega
    rw [if_neg (by omega)] at hn
    clear h3 h4
    by_cases h5 : s < -2305843009213693952
    · rw [if_pos (Or.inl h5)] at hn
      subst hn
      go_enter Tryd.func23, Tryd.ntmps23
      go_wp2_with fail
      go_ret
      exact ⟨rfl, alloc_fr _ _ _⟩
    by_cases h6 : 2305843009213693952 < s
    · rw [if_pos (Or.inr h6)] at hn
      subst hn
      go_enter Tryd.func23, Tryd.ntmps23
      go_wp2_with fail
      go_ret
      exact ⟨rfl, alloc_fr _ _ _⟩
    rw [if_neg (by omega)] at hn
    subst hn
    go_enter Tryd.func23, Tryd.ntmps23
    go_wp2_with fail
    go_ret
    exact ⟨rfl, alloc_fr _ _ _⟩
  exact key _ rfl

theorem Tryd.info_u8 : (Tryd.prog.info? 5).map (fun i => (i.zero, i.size, i.bytes)) = some (some (.int .u8 0), 1, 1) := by kernel_rfl
/-- append of a text, at an operation. -/
theorem wp_append_str_at {P : Program} (w : World) {o : Oper} {a : Act} {K : Act → World → Prop} {Q : Exit → Act → World → Prop} (sl x : Operand) (t u : TypeId)
    (ho : o.op = .call { callee := .builtin .append, args := #[sl, x], argTypes := #[t, u] })
    (base : Nat) (e : TypeId) (i : TypeInfo) (ht : P.underlying t = some (.slice e)) (hu : P.underlying u = some .string) (hi : P.info? e = some i) (hz : i.zero = some (.int .u8 0))
    (hsize : i.size = 1) (hby : i.bytes = 1)
    (v : Value) (n : Nat) (xs : List Value) (hs : a.eval sl = v) (hown : w.ownsRow base e 1 v n xs) (s : ByteArray) (hx : a.eval x = .string s)
    (hbytes : n + s.size ≤ 140737488355328) (hbase : base ≤ w.heap.size)
    (h : ∀ v' w', w'.ownsRow base e 1 v' (n + s.size) (xs ++ Lib.strCells s) → w.grownBy w' v.ownBlock → K (a.put o.dst v') w') : o.wp P a w K Q := by
  obtain ⟨v', w', hr, h2, h3, _⟩ := run_append_str_at (P := P) w base t u o.type e i ht hu hi hz hsize hby v n xs hown s hbytes hbase
  unfold Oper.wp execOp
  simp only [ho, resolve, invoke, builtin, Sem.run_bind, Sem.run_pure, Result.andThen_ok, List.map_toArray, List.map_cons, List.map_nil, hs, hx, hr]
  exact h v' w' h2 h3

/-- Bytes of one's own that lie behind a world. -/
def Bo (w wx : World) (v : Value) (l : List Nat) : Prop := wx.ownsRow w.heap.size 5 1 v l.length (by8 l) ∧ Fr w wx (fun _ => False)
theorem Bo.shape {w wx : World} {v : Value} {l : List Nat} (h : Bo w wx v l) : ∃ ao cap, v = .slice ao l.length cap := own_nil_shape h.1
theorem Bo.fr {w wx w' : World} {v : Value} {l : List Nat} (h : Bo w wx v l) (hf : Fr wx w' (fun _ => False)) : Bo w w' v l := ⟨own_fr h.1 hf (fun _ _ h => h), h.2.trans hf⟩
theorem Bo.grown {w wx w' : World} {v v' : Value} {l m : List Nat} (h : Bo w wx v l) (ho : w'.ownsRow w.heap.size 5 1 v' (l ++ m).length (by8 (l ++ m))) (hg : wx.grownBy w' v.ownBlock) : Bo w w' v' (l ++ m) :=
  ⟨ho, h.2.grown hg (fun k hk e => by
    have := (h.1.lt k e).1
    omega)⟩
theorem two_new (w : World) (a b : Value) (e : TypeId) : ∀ (j : Nat) (u : Value), [a, b][j]? = some u → (w.alloc (.cells #[a, b] e)).cell? ((⟨w.heap.size, 0, none⟩ : Addr).add j) = some u := by
  intro j u hj
  match j, hj with
  | 0, hj => simp at hj; subst hj; simp [Addr.add]
  | 1, hj => simp at hj; subst hj; simp [Addr.add]
theorem strCells_esc (k : ByteArray) : Lib.strCells ⟨(esc8 k.data.toList).toArray⟩ = by8 (esc (nums8 k)) := by
  rw [nums8_cells]
  unfold nums8
  rw [← esc8_nums]
theorem xor_top (a : Nat) (h : a < 18446744073709551616) : a ^^^ 9223372036854775808 = if a < 9223372036854775808 then a + 9223372036854775808 else a - 9223372036854775808 := by
  have h1 : (a ^^^ 9223372036854775808) % 9223372036854775808 = a % 9223372036854775808 := by
    have := Nat.xor_mod_two_pow (a := a) (b := 9223372036854775808) (n := 63)
    simpa using this
  have h2 : (a ^^^ 9223372036854775808) / 9223372036854775808 = (a / 9223372036854775808) ^^^ 1 := by
    have := Nat.xor_div_two_pow (a := a) (b := 9223372036854775808) (n := 63)
    simpa using this
  have h3 := Nat.div_add_mod (a ^^^ 9223372036854775808) 9223372036854775808
  rw [h1, h2] at h3
  have h4 : a / 9223372036854775808 = 0 ∨ a / 9223372036854775808 = 1 := by omega
  rcases h4 with h4 | h4
  · rw [h4] at h3
    rw [if_pos (by omega), ← h3]
    rw [show (0 : Nat) ^^^ 1 = 1 from rfl]
    omega
  · rw [h4] at h3
    rw [if_neg (by omega), ← h3]
    rw [show (1 : Nat) ^^^ 1 = 0 from rfl]
    omega
theorem xor_sign (s : Int) (h1 : -2305843009213693952 ≤ s) (h2 : s ≤ 2305843009213693952) : Go.bits .xor .u64 (IntKind.u64.wrap s) 9223372036854775808 = ((s + 9223372036854775808).toNat : Int) := by
  have key : ∀ a : Nat, a < 18446744073709551616 → Go.bits .xor .u64 (a : Int) 9223372036854775808 = ((a ^^^ 9223372036854775808 : Nat) : Int) := fun a ha => bits_xor_u64_nat a 9223372036854775808 ha (by decide)
  rw [IntKind.wrap_u64]
  by_cases h : 0 ≤ s
  · rw [show s % 18446744073709551616 = ((s.toNat : Nat) : Int) by omega, key _ (by omega), xor_top _ (by omega), if_pos (by omega)]
    omega
  · rw [show s % 18446744073709551616 = ((s + 18446744073709551616).toNat : Int) by omega, key _ (by omega), xor_top _ (by omega), if_neg (by omega)]
    omega
end Go.Proofs.YtcjadgnefojjgabDoor.S
