import Derived.Test.YtilgkfpicdmkkaaMCmp
import Derived.Maps.AppendAt
import Derived.Deep.DeepCutAuto
import Derived.Deep.DeepMust
/- merge: check, Key; the document's wrong, Key: walks. -/
namespace Go.Proofs.Ytilgkfpicdmkkaa.M
open Go.RowKit

theorem check_any (c : Cl) (w : World) (hk : c.k.size ≤ 9223372036854775807) :
    Calls Try.prog 38 #[vC c] w fun e w' => e = .returned (.int .i64 (mE c)) ∧ Fr w w' (fun _ => False) := by
  obtain ⟨v, k, s⟩ := c
  unfold vC
  dsimp only at hk ⊢
  unfold mE
  dsimp only
  have key : ∀ n : Int, (n = if v < 0 ∨ 4 < v then 23 else if 32 < k.size then 21 else if s < -2305843009213693952 ∨ 2305843009213693952 < s then 22 else 0) → Calls Try.prog 38 #[.agg #[.int .i64 v, .string k, .int .i64 s]] w fun e w' => e = .returned (.int .i64 n) ∧ Fr w w' (fun _ => False) := by
    intro n hn
    by_cases h1 : v < 0
    · rw [if_pos (Or.inl h1)] at hn
      subst hn
      go_enter Try.func38, Try.ntmps38
      go_wp2_with fail
      go_ret
      exact ⟨rfl, alloc_fr _ _ _⟩
    by_cases h2 : 4 < v
    · rw [if_pos (Or.inr h2)] at hn
      subst hn
      go_enter Try.func38, Try.ntmps38
      go_wp2_with fail
      go_ret
      exact ⟨rfl, alloc_fr _ _ _⟩
    rw [if_neg (by omega)] at hn
    by_cases h4 : 32 < k.size
    · rw [if_pos h4] at hn
      subst hn
      have t4 : (32 : Int) < (k.size : Int) := by omega
      clear h4
      go_enter Try.func38, Try.ntmps38
      go_wp2_with fail
      go_ret
      exact ⟨rfl, alloc_fr _ _ _⟩
    have t4 : ¬ (32 : Int) < (k.size : Int) := by omega
    rw [if_neg (by omega)] at hn
    clear h4
    by_cases h5 : s < -2305843009213693952
    · rw [if_pos (Or.inl h5)] at hn
      subst hn
      go_enter Try.func38, Try.ntmps38
      go_wp2_with fail
      go_ret
      exact ⟨rfl, alloc_fr _ _ _⟩
    by_cases h6 : 2305843009213693952 < s
    · rw [if_pos (Or.inr h6)] at hn
      subst hn
      go_enter Try.func38, Try.ntmps38
      go_wp2_with fail
      go_ret
      exact ⟨rfl, alloc_fr _ _ _⟩
    rw [if_neg (by omega)] at hn
    subst hn
    go_enter Try.func38, Try.ntmps38
    go_wp2_with fail
    go_ret
    exact ⟨rfl, alloc_fr _ _ _⟩
  exact key _ rfl

theorem Try.info_u8 : (Try.prog.info? 5).map (fun i => (i.zero, i.size, i.bytes)) = some (some (.int .u8 0), 1, 1) := by kernel_rfl
theorem infoP {o : Option TypeInfo} {z : Value} {n b : Nat} (h : o.map (fun i => (i.zero, i.size, i.bytes)) = some (some z, n, b)) : ∃ i, o = some i ∧ i.zero = some z ∧ i.size = n ∧ i.bytes = b := by
  obtain ⟨i, hi, hx⟩ := Option.map_eq_some_iff.1 h
  simp only [Prod.mk.injEq] at hx
  exact ⟨i, hi, hx.1, hx.2.1, hx.2.2⟩
/-- Bytes of one's own that lie behind a world. -/
def Bo (w wx : World) (v : Value) (l : List Nat) : Prop := wx.ownsRow w.heap.size 5 1 v l.length (by8 l) ∧ Fr w wx (fun _ => False)
theorem Bo.shape {w wx : World} {v : Value} {l : List Nat} (h : Bo w wx v l) : ∃ ao cap, v = .slice ao l.length cap := own_nil_shape h.1
theorem Bo.fr {w wx w' : World} {v : Value} {l : List Nat} (h : Bo w wx v l) (hf : Fr wx w' (fun _ => False)) : Bo w w' v l := ⟨own_fr h.1 hf (fun _ _ h => h), h.2.trans hf⟩
theorem Bo.grown {w wx w' : World} {v v' : Value} {l m : List Nat} (h : Bo w wx v l) (ho : w'.ownsRow w.heap.size 5 1 v' (l ++ m).length (by8 (l ++ m))) (hg : wx.grownBy w' v.ownBlock) : Bo w w' v' (l ++ m) :=
  ⟨ho, h.2.grown hg (fun k hk e => by
    have := (h.1.lt k e).1
    omega)⟩
theorem xor_top (a : Nat) (h : a < 18446744073709551616) : a ^^^ 9223372036854775808 = if a < 9223372036854775808 then a + 9223372036854775808 else a - 9223372036854775808 := by
  have h1 : (a ^^^ 9223372036854775808) % 9223372036854775808 = a % 9223372036854775808 := by
    have := Nat.xor_mod_two_pow (a := a) (b := 9223372036854775808) (n := 63)
    simpa using this
  have h2 : (a ^^^ 9223372036854775808) / 9223372036854775808 = (a / 9223372036854775808) ^^^ 1 := by
    have := Nat.xor_div_two_pow (a := a) (b := 9223372036854775808) (n := 63)
    simpa using this
  have h3 := Nat.div_add_mod (a ^^^ 9223372036854775808) 9223372036854775808
  rw [h1, h2] at h3
  have h4 : a / 9223372036854775808 = 0 ∨ a / 9223372036854775808 = 1 := by omega
  rcases h4 with h4 | h4
  · rw [h4] at h3
    rw [if_pos (by omega), ← h3]
    rw [show (0 : Nat) ^^^ 1 = 1 from rfl]
    omega
  · rw [h4] at h3
    rw [if_neg (by omega), ← h3]
    rw [show (1 : Nat) ^^^ 1 = 0 from rfl]
    omega
theorem xor_sign (s : Int) (h1 : -2305843009213693952 ≤ s) (h2 : s ≤ 2305843009213693952) : Go.bits .xor .u64 (IntKind.u64.wrap s) 9223372036854775808 = ((s + 9223372036854775808).toNat : Int) := by
  have key : ∀ a : Nat, a < 18446744073709551616 → Go.bits .xor .u64 (a : Int) 9223372036854775808 = ((a ^^^ 9223372036854775808 : Nat) : Int) := fun a ha => bits_xor_u64_nat a 9223372036854775808 ha (by decide)
  rw [IntKind.wrap_u64]
  by_cases h : 0 ≤ s
  · rw [show s % 18446744073709551616 = ((s.toNat : Nat) : Int) by omega, key _ (by omega), xor_top _ (by omega), if_pos (by omega)]
    omega
  · rw [show s % 18446744073709551616 = ((s + 18446744073709551616).toNat : Int) by omega, key _ (by omega), xor_top _ (by omega), if_neg (by omega)]
    omega

theorem be8_eq (n : Nat) : be 8 n = [n / 72057594037927936 % 256, n / 281474976710656 % 256, n / 1099511627776 % 256, n / 4294967296 % 256, n / 16777216 % 256, n / 65536 % 256, n / 256 % 256, n % 256] := by
  simp [be]
theorem be8_step (n i : Nat) (hi : i < 8) : (be 8 n).take (i + 1) = (be 8 n).take i ++ [n / 2 ^ (56 - 8 * i) % 256] := by
  rw [be8_eq]
  match i, hi with
  | 0, _ => rfl
  | 1, _ => rfl
  | 2, _ => rfl
  | 3, _ => rfl
  | 4, _ => rfl
  | 5, _ => rfl
  | 6, _ => rfl
  | 7, _ => simp
theorem Bo.lit (w wx : World) (n : Nat) (hf : Fr w wx (fun _ => False)) (x : Value) (hx : x = .int .u8 (n : Int)) : Bo w (wx.alloc (.cells #[x] 5)) (.slice (some ⟨wx.heap.size, 0, none⟩) 1 1) [n] := by
  subst hx
  exact ⟨own_mono (lit_own wx [n] #[.int .u8 (n : Int)] 5 1 rfl rfl (by decide)) hf.size, hf.trans (alloc_fr _ _ _)⟩
theorem wpl_bo {W wb : World} {ops : Array Oper} {rest : List Oper} {o : Oper} {a : Act} {Q : Exit → Act → World → Prop} (hgd : o.guard = none) (sl x : Operand)
    (ho : o.op = .call { callee := .builtin .append, args := #[sl, x], argTypes := #[76, 76] }) (v : Value) (l : List Nat) (hs : a.eval sl = v) (N c : Nat) (ys : List Nat) (hx : a.eval x = .slice (some ⟨N, 0, none⟩) ys.length c) (hn : l.length + ys.length ≤ 140737488355328) (hb : Bo wb W v l) (hy : W.heap[N]? = some (.cells (by8 ys).toArray 5 (0, 0)))
    (h : ∀ v' w', Bo wb w' v' (l ++ ys) → wpList Try.prog ops Q rest (a.put o.dst v') w') : wpList Try.prog ops Q (o :: rest) a W := by
  obtain ⟨i0, hi, hz0, hz1, hz2⟩ := infoP Try.info_u8
  refine wpList_append_own_at W hgd sl x 76 ho wb.heap.size 5 i0 (.int .u8 0) 1 1 Try.underlying76 hi hz0 hz1 hz2 rfl (by decide) v l.length (by8 l) hs hb.1 ⟨N, 0, none⟩ ys.length c (by8 ys) hx (by rw [by8_length, Nat.mul_one]) ?_ (by8_one ys) (by unfold maxLen; omega) (by omega) hb.2.size ?_
  · intro j u hj
    rw [Addr.add_lit, Nat.zero_add, cell_of_row W N j _ _ (0, 0) hy]
    simpa using hj
  · intro v' w' hown hgr _ _
    refine h v' w' (hb.grown ?_ hgr)
    rw [← by8_append] at hown
    rw [List.length_append]
    exact hown
theorem nums8_at {k : ByteArray} {i : Nat} (h : i < k.size) : (k[i]'h).toNat = (nums8 k).getD i 0 := by
  have h2 : i < k.data.size := h
  have h3 : i < k.data.toList.length := by simpa using h2
  unfold nums8
  simp only [List.getD_eq_getElem?_getD, List.getElem?_map, List.getElem?_eq_getElem h3]
  simp
  rfl
theorem nums8_take {k : ByteArray} {i : Nat} (h : i < k.size) : (nums8 k).take (i + 1) = (nums8 k).take i ++ [(nums8 k).getD i 0] := by
  have h2 : i < (nums8 k).length := by rw [nums8_length]; exact h
  rw [List.take_succ_eq_append_getElem h2]
  simp [h2]
theorem nums8_lt (k : ByteArray) (i : Nat) : (nums8 k).getD i 0 < 256 := by
  by_cases h : i < (nums8 k).length
  · rw [List.getD_eq_getElem?_getD, List.getElem?_eq_getElem h]
    exact nums8_byte k _ (List.getElem_mem h)
  · rw [List.getD_eq_getElem?_getD, List.getElem?_eq_none (by omega)]
    decide
end Go.Proofs.Ytilgkfpicdmkkaa.M
