/- Texts of one proof, joined. -/
import Derived.Test.YtgbkihkefdoddaaGreatDoorJoin14
import Derived.Test.YtgbkihkefdoddaaGreatDoorJoin3
import Derived.Test.YtgbkihkefdoddaaGreatDoorJoin10
import Derived.Maps.AppendAt
import Derived.Deep.DeepCutAuto
import Derived.Deep.DeepMust
section
/- shard: mayBe, check, text: walks. -/
namespace Go.Proofs.YtgbkihkefdoddaaGreatDoor.S
open Go.RowKit

theorem cells3 {w : World} {N : Nat} {a b c : Value} {e : TypeId} (h : w.heap[N]? = some (.cells #[a, b, c] e (0, 0))) : w.cell? ⟨N, 0, none⟩ = some a ∧ w.cell? ⟨N, 1, none⟩ = some b ∧ w.cell? ⟨N, 2, none⟩ = some c := by
  refine ⟨?_, ?_, ?_⟩ <;> simp [World.cell?, h]

theorem mayBe_any (c : Cl) (w : World) (hk : c.k.size ≤ 9223372036854775807) :
    Calls Tryz.prog 80 #[.agg #[.int .i64 c.v, .string c.k, .int .i64 c.s]] w fun e w' => e = .returned (.int .i64 (mayE c)) ∧ Fr w w' (fun _ => False) := by
  obtain ⟨v, k, s⟩ := c
  dsimp only at hk ⊢
  unfold mayE
  dsimp only
  have key : ∀ n : Int, (n = if v < 0 ∨ 4 ≤ v then 23 else if k.size < 1 ∨ 32 < k.size then 21 else if s < -2305843009213693952 ∨ 2305843009213693952 < s then 22 else 0) → Calls Tryz.prog 80 #[.agg #[.int .i64 v, .string k, .int .i64 s]] w fun e w' => e = .returned (.int .i64 n) ∧ Fr w w' (fun _ => False) := by
    intro n hn
    by_cases h1 : v < 0
    · rw [if_pos (Or.inl h1)] at hn
      subst hn
      go_enter Tryz.func80, Tryz.ntmps80
      go_wp2_with fail
      go_ret
      exact ⟨rfl, alloc_fr _ _ _⟩
    by_cases h2 : 4 ≤ v
    · rw [if_pos (Or.inr h2)] at hn
      subst hn
      go_enter Tryz.func80, Tryz.ntmps80
      go_wp2_with fail
      go_ret
      exact ⟨rfl, alloc_fr _ _ _⟩
    rw [if_neg (by omega)] at hn
    by_cases h3 : k.size < 1
    · rw [if_pos (Or.inl h3)] at hn
      subst hn
      have t3 : (k.size : Int) < 1 := by omega
      clear h3
      go_enter Tryz.func80, Tryz.ntmps80
      go_wp2_with fail
      go_ret
      exact ⟨rfl, alloc_fr _ _ _⟩
    have t3 : ¬ (k.size : Int) < 1 := by omega
    by_cases h4 : 32 < k.size
    · rw [if_pos (Or.inr h4)] at hn
      subst hn
      have t4 : (32 : Int) < (k.size : Int) := by omega
      clear h3 h4
      go_enter Tryz.func80, Tryz.ntmps80
      go_wp2_with fail
      go_ret
      exact ⟨rfl, alloc_fr _ _ _⟩
    have t4 : ¬ (32 : Int) < (k.size : Int) := by omega
    rw [if_neg (by omega)] at hn
    clear h3 h4
    by_cases h5 : s < -2305843009213693952
    · rw [if_pos (Or.inl h5)] at hn
      subst hn
      go_enter Tryz.func80, Tryz.ntmps80
      go_wp2_with fail
      go_ret
      exact ⟨rfl, alloc_fr _ _ _⟩
    by_cases h6 : 2305843009213693952 < s
    · rw [if_pos (Or.inr h6)] at hn
      subst hn
      go_enter Tryz.func80, Tryz.ntmps80
      go_wp2_with fail
      go_ret
      exact ⟨rfl, alloc_fr _ _ _⟩
    rw [if_neg (by omega)] at hn
    subst hn
    go_enter Tryz.func80, Tryz.ntmps80
    go_wp2_with fail
    go_ret
    exact ⟨rfl, alloc_fr _ _ _⟩
  exact key _ rfl

theorem Tryz.info_u8 : (Tryz.prog.info? 5).map (fun i => (i.zero, i.size, i.bytes)) = some (some (.int .u8 0), 1, 1) := by kernel_rfl
/-- append of a text, at an operation. -/
theorem wp_append_str_at {P : Program} (w : World) {o : Oper} {a : Act} {K : Act → World → Prop} {Q : Exit → Act → World → Prop} (sl x : Operand) (t u : TypeId)
    (ho : o.op = .call { callee := .builtin .append, args := #[sl, x], argTypes := #[t, u] })
    (base : Nat) (e : TypeId) (i : TypeInfo) (ht : P.underlying t = some (.slice e)) (hu : P.underlying u = some .string) (hi : P.info? e = some i) (hz : i.zero = some (.int .u8 0))
    (hsize : i.size = 1) (hby : i.bytes = 1)
    (v : Value) (n : Nat) (xs : List Value) (hs : a.eval sl = v) (hown : w.ownsRow base e 1 v n xs) (s : ByteArray) (hx : a.eval x = .string s)
    (hbytes : n + s.size ≤ 140737488355328) (hbase : base ≤ w.heap.size)
    (h : ∀ v' w', w'.ownsRow base e 1 v' (n + s.size) (xs ++ Lib.strCells s) → w.grownBy w' v.ownBlock → K (a.put o.dst v') w') : o.wp P a w K Q := by
  obtain ⟨v', w', hr, h2, h3, _⟩ := run_append_str_at (P := P) w base t u o.type e i ht hu hi hz hsize hby v n xs hown s hbytes hbase
  unfold Oper.wp execOp
  simp only [ho, resolve, invoke, builtin, Sem.run_bind, Sem.run_pure, Result.andThen_ok, List.map_toArray, List.map_cons, List.map_nil, hs, hx, hr]
  exact h v' w' h2 h3

/-- Bytes of one's own that lie behind a world. -/
def Bo (w wx : World) (v : Value) (l : List Nat) : Prop := wx.ownsRow w.heap.size 5 1 v l.length (by8 l) ∧ Fr w wx (fun _ => False)
theorem Bo.shape {w wx : World} {v : Value} {l : List Nat} (h : Bo w wx v l) : ∃ ao cap, v = .slice ao l.length cap := own_nil_shape h.1
theorem Bo.fr {w wx w' : World} {v : Value} {l : List Nat} (h : Bo w wx v l) (hf : Fr wx w' (fun _ => False)) : Bo w w' v l := ⟨own_fr h.1 hf (fun _ _ h => h), h.2.trans hf⟩
theorem Bo.grown {w wx w' : World} {v v' : Value} {l m : List Nat} (h : Bo w wx v l) (ho : w'.ownsRow w.heap.size 5 1 v' (l ++ m).length (by8 (l ++ m))) (hg : wx.grownBy w' v.ownBlock) : Bo w w' v' (l ++ m) :=
  ⟨ho, h.2.grown hg (fun k hk e => by
    have := (h.1.lt k e).1
    omega)⟩
theorem two_new (w : World) (a b : Value) (e : TypeId) : ∀ (j : Nat) (u : Value), [a, b][j]? = some u → (w.alloc (.cells #[a, b] e)).cell? ((⟨w.heap.size, 0, none⟩ : Addr).add j) = some u := by
  intro j u hj
  match j, hj with
  | 0, hj => simp at hj; subst hj; simp [Addr.add]
  | 1, hj => simp at hj; subst hj; simp [Addr.add]
theorem strCells_esc (k : ByteArray) : Lib.strCells ⟨(esc8 k.data.toList).toArray⟩ = by8 (esc (nums8 k)) := by
  rw [nums8_cells]
  unfold nums8
  rw [← esc8_nums]
theorem xor_top (a : Nat) (h : a < 18446744073709551616) : a ^^^ 9223372036854775808 = if a < 9223372036854775808 then a + 9223372036854775808 else a - 9223372036854775808 := by
  have h1 : (a ^^^ 9223372036854775808) % 9223372036854775808 = a % 9223372036854775808 := by
    have := Nat.xor_mod_two_pow (a := a) (b := 9223372036854775808) (n := 63)
    simpa using this
  have h2 : (a ^^^ 9223372036854775808) / 9223372036854775808 = (a / 9223372036854775808) ^^^ 1 := by
    have := Nat.xor_div_two_pow (a := a) (b := 9223372036854775808) (n := 63)
    simpa using this
  have h3 := Nat.div_add_mod (a ^^^ 9223372036854775808) 9223372036854775808
  rw [h1, h2] at h3
  have h4 : a / 9223372036854775808 = 0 ∨ a / 9223372036854775808 = 1 := by omega
  rcases h4 with h4 | h4
  · rw [h4] at h3
    rw [if_pos (by omega), ← h3]
    rw [show (0 : Nat) ^^^ 1 = 1 from rfl]
    omega
  · rw [h4] at h3
    rw [if_neg (by omega), ← h3]
    rw [show (1 : Nat) ^^^ 1 = 0 from rfl]
    omega
theorem xor_sign (s : Int) (h1 : -2305843009213693952 ≤ s) (h2 : s ≤ 2305843009213693952) : Go.bits .xor .u64 (IntKind.u64.wrap s) 9223372036854775808 = ((s + 9223372036854775808).toNat : Int) := by
  have key : ∀ a : Nat, a < 18446744073709551616 → Go.bits .xor .u64 (a : Int) 9223372036854775808 = ((a ^^^ 9223372036854775808 : Nat) : Int) := fun a ha => bits_xor_u64_nat a 9223372036854775808 ha (by decide)
  rw [IntKind.wrap_u64]
  by_cases h : 0 ≤ s
  · rw [show s % 18446744073709551616 = ((s.toNat : Nat) : Int) by omega, key _ (by omega), xor_top _ (by omega), if_pos (by omega)]
    omega
  · rw [show s % 18446744073709551616 = ((s + 18446744073709551616).toNat : Int) by omega, key _ (by omega), xor_top _ (by omega), if_neg (by omega)]
    omega
end Go.Proofs.YtgbkihkefdoddaaGreatDoor.S
end

section
/- shard: text: a walk. -/
namespace Go.Proofs.YtgbkihkefdoddaaGreatDoor.S
open Go.RowKit

/-- The first so many of the eight bytes. -/
theorem be8_step (n i : Nat) (hi : i < 8) : (be8 n).take (i + 1) = (be8 n).take i ++ [n / 2 ^ (56 - 8 * i) % 256] := by
  match i, hi with
  | 0, _ => rfl
  | 1, _ => rfl
  | 2, _ => rfl
  | 3, _ => rfl
  | 4, _ => rfl
  | 5, _ => rfl
  | 6, _ => rfl
  | 7, _ => simp [be8]

theorem Bo.lit (w wx : World) (n : Nat) (hf : Fr w wx (fun _ => False)) (x : Value) (hx : x = .int .u8 (n : Int)) : Bo w (wx.alloc (.cells #[x] 5)) (.slice (some ⟨wx.heap.size, 0, none⟩) 1 1) [n] := by
  subst hx
  exact ⟨own_mono (lit_own wx [n] #[.int .u8 (n : Int)] 5 1 rfl rfl (by decide)) hf.size, hf.trans (alloc_fr _ _ _)⟩

theorem wp_bo_str {W wb : World} {o : Oper} {a : Act} {K : Act → World → Prop} {Q : Exit → Act → World → Prop} (sl x : Operand)
    (ho : o.op = .call { callee := .builtin .append, args := #[sl, x], argTypes := #[102, 9] }) (v : Value) (l : List Nat) (hs : a.eval sl = v) (s : ByteArray) (hx : a.eval x = .string s) (hn : l.length + s.size ≤ 100000) (hb : Bo wb W v l)
    (h : ∀ v' w', Bo wb w' v' (l ++ nums8 s) → K (a.put o.dst v') w') : o.wp Tryz.prog a W K Q := by
  obtain ⟨i0, hi, hz0, hz1, hz2⟩ := info_parts Tryz.info_u8
  refine wp_append_str_at W sl x 102 9 ho wb.heap.size 5 i0 Tryz.underlying102 Tryz.underlying9 hi hz0 hz1 hz2 v l.length (by8 l) hs hb.1 s hx (by omega) hb.2.size ?_
  intro v' w' hown hgr
  refine h v' w' (hb.grown ?_ hgr)
  rw [nums8_cells, ← by8_append] at hown
  rw [List.length_append, nums8_length]
  exact hown

theorem wpl_bo {W wb : World} {ops : Array Oper} {rest : List Oper} {o : Oper} {a : Act} {Q : Exit → Act → World → Prop} (hgd : o.guard = none) (sl x : Operand)
    (ho : o.op = .call { callee := .builtin .append, args := #[sl, x], argTypes := #[102, 102] }) (v : Value) (l : List Nat) (hs : a.eval sl = v) (N c : Nat) (ys : List Nat) (hx : a.eval x = .slice (some ⟨N, 0, none⟩) ys.length c) (hn : l.length + ys.length ≤ 100000) (hb : Bo wb W v l) (hy : W.heap[N]? = some (.cells (by8 ys).toArray 5 (0, 0)))
    (h : ∀ v' w', Bo wb w' v' (l ++ ys) → wpList Tryz.prog ops Q rest (a.put o.dst v') w') : wpList Tryz.prog ops Q (o :: rest) a W := by
  obtain ⟨i0, hi, hz0, hz1, hz2⟩ := info_parts Tryz.info_u8
  refine wpList_append_own_at W hgd sl x 102 ho wb.heap.size 5 i0 (.int .u8 0) 1 1 Tryz.underlying102 hi hz0 hz1 hz2 rfl (by decide) v l.length (by8 l) hs hb.1 ⟨N, 0, none⟩ ys.length c (by8 ys) hx (by rw [by8_length, Nat.mul_one]) ?_ (by8_one ys) (by unfold maxLen; omega) (by omega) hb.2.size ?_
  · intro j u hj
    rw [Addr.add_lit, Nat.zero_add, cell_of_row W N j _ _ (0, 0) hy]
    simpa using hj
  · intro v' w' hown hgr _ _
    refine h v' w' (hb.grown ?_ hgr)
    rw [← by8_append] at hown
    rw [List.length_append]
    exact hown

set_option maxHeartbeats 4000000 in
set_option maxRecDepth 100000 in
theorem text_any (c : Cl) (w : World) (hm : mayE c = 0) (hg : Gl w) :
    Calls Tryz.prog 106 #[.agg #[.int .i64 c.v, .string c.k, .int .i64 c.s]] w fun e w' => e = .returned (.string (key c)) ∧ Fr w w' (fun _ => False) := by
  obtain ⟨⟨m1, m2⟩, ⟨_, m3⟩, m4, m5⟩ := mayE_zero hm
  have HXor := hid (xor_sign c.s m4 m5)
  have HKey : Hid (key c = str8 (c.v.toNat :: (esc (nums8 c.k) ++ (0 :: 0 :: be8 (c.s + 9223372036854775808).toNat)))) := rfl
  have HEl := hid (esc_le (nums8 c.k))
  have HEn : Hid ((nums8 c.k).length ≤ 32) := by show _ ≤ _; rw [nums8_length]; exact m3
  have HSz : Hid ((⟨(esc8 c.k.data.toList).toArray⟩ : ByteArray).size ≤ 64) := by
    have h1 := HEl.out
    have h2 := HEn.out
    have h3 : (⟨(esc8 c.k.data.toList).toArray⟩ : ByteArray).size = (esc (nums8 c.k)).length := by rw [nums8, ← esc8_nums]; simp [ByteArray.size]
    show _ ≤ 64
    omega
  generalize key c = kk at *
  obtain ⟨v, k, s⟩ := c
  dsimp only at *
  obtain ⟨n, rfl⟩ : ∃ n : Nat, v = (n : Int) := ⟨v.toNat, by omega⟩
  rw [show ((n : Int)).toNat = n by omega] at HKey
  have HRep := hid (fun (W : World) (hf : Fr w W (fun _ => False)) => replace_any k W (hg.fr hf (fun h => h)) m3)
  have HWr : Hid (Value.int .u8 (IntKind.u8.wrap (n : Int)) = .int .u8 (n : Int)) := by show _ = _; rw [show IntKind.u8.wrap (n : Int) = (n : Int) % 256 by simp [IntKind.wrap, IntKind.bits, IntKind.signed], show (n : Int) % 256 = n by omega]
  have HST : Hid ((s + 9223372036854775808).toNat < 18446744073709551616) := by show _ < _; omega
  generalize (s + 9223372036854775808).toNat = st at *
  clear hm hg m3
  obtain ⟨i0, hi, hz0, hz1, hz2⟩ := info_parts Tryz.info_u8
  go_enter Tryz.func106, Tryz.ntmps106
  go_wp2_with fail
  have HB0 := hid (heap_last w (.cells #[.int .i64 (n : Int), .string k, .int .i64 s] 33) _ rfl)
  have HF0 := hid (alloc_fr w (.cells #[.int .i64 (n : Int), .string k, .int .i64 s] 33) (fun _ => False))
  have HC := hid (fun (W' : World) (hf : Fr (w.alloc (.cells #[.int .i64 (n : Int), .string k, .int .i64 s] 33)) W' (fun _ => False)) => (show W'.cell? ⟨w.heap.size, 0, none⟩ = some (.int .i64 (n : Int)) ∧ W'.cell? ⟨w.heap.size, 1, none⟩ = some (.string k) ∧ W'.cell? ⟨w.heap.size, 2, none⟩ = some (.int .i64 s) from cells3 ((hf.block _ (lt_of_block HB0.out) (fun h => h)).trans HB0.out)))
  generalize w.alloc (.cells #[.int .i64 (n : Int), .string k, .int .i64 s] 33) = wb at *
  have HFb := hid (Fr.refl wb (fun _ => False))
  go_cut [3] (fun sl wx => Hid (Bo wb wx sl (n :: esc (nums8 k))))
  case first =>
    have HF := hid (Fr.refl wb (fun _ => False))
    go_region_held3 (fun W' => Hid (Fr wb W' (fun _ => False)) ∧ W'.cell? ⟨w.heap.size, 0, none⟩ = some (.int .i64 (n : Int)) ∧ W'.cell? ⟨w.heap.size, 1, none⟩ = some (.string k))
      ((refine (fun h => ⟨h, (HC.out _ h).1, (HC.out _ h).2.1⟩ : Fr wb _ (fun _ => False) → _) ?_; repeat (first | with_reducible exact HF.out | with_reducible exact Fr.refl _ _ | with_reducible apply Fr.drew | with_reducible apply Fr.alloc)))
      ((first
        | (go_at_call 137; refine (HRep.out _ (HF0.out.trans (by repeat (first | with_reducible exact HF.out | with_reducible exact Fr.refl _ _ | with_reducible apply Fr.drew | with_reducible apply Fr.alloc)))).mono ?_; rintro e w1 ⟨rfl, hf⟩; (try (have HZ := hid (Bo.fr (by first | exact Bo.lit wb _ n (by repeat (first | with_reducible exact Fr.refl _ _ | with_reducible apply Fr.drew)) _ HWr.out | exact (Bo.lit wb _ n (by repeat (first | with_reducible exact Fr.refl _ _ | with_reducible apply Fr.drew)) _ HWr.out).fr ((Fr.refl _ _).drew)) hf))); have HF := hid (Fr.trans (a := wb) (by repeat (first | with_reducible exact HF.out | with_reducible exact Fr.refl _ _ | with_reducible apply Fr.drew | with_reducible apply Fr.alloc)) hf); clear hf)
        | (refine wp_bo_str (wb := wb) (.tmp 9) (.tmp 12) rfl _ [n] rfl ⟨(esc8 k.data.toList).toArray⟩ rfl (by have := HSz.out; simp only [List.length_cons, List.length_nil]; omega) (by first | exact HZ.out | exact HZ.out.fr ((Fr.refl _ _).drew) | exact Bo.lit wb _ n HF.out _ HWr.out | exact Bo.lit wb _ n (HF.out.drew) _ HWr.out) ?_; intro v' w2 hX; have HX := hid hX; have HF := hid hX.2; clear hX)))
    all_goals (go_wp2_with fail)
    all_goals go_meet
    all_goals (
      have h := HX.out
      rw [show nums8 ⟨(esc8 k.data.toList).toArray⟩ = esc (nums8 k) from by rw [nums8, nums8, ← esc8_nums]] at h
      exact h)
  case rest =>
    have HX := hcut
    obtain ⟨_, _, hc2⟩ := HC.out _ HX.out.2
    obtain ⟨ao, cap, hsl⟩ := HX.out.shape
    have hwl := lt_of_block HB0.out
    have HLn : Hid ((n :: esc (nums8 k)).length ≤ 65) := by
      have h1 := HEl.out
      have h2 := HEn.out
      show _ ≤ 65
      simp only [List.length_cons]
      omega
    generalize hl0 : n :: esc (nums8 k) = l0 at *
    have HL0 := hid hl0
    subst hsl
    clear hl0 hi hz0 hz1 hz2 hcut
    go_wp2_with (at_builtin; go_must (refine wpl_bo (wb := wb) rfl (.tmp 14) (.tmp 15) rfl _ l0 rfl wc.heap.size 2 [0, 0] rfl ?c1 ?c2 ?c3 ?_))
    case c1 => have := HLn.out; simp only [List.length_cons, List.length_nil]; omega
    case c2 => exact HX.out.fr (alloc_fr _ _ _)
    case c3 => exact heap_last _ _ _ rfl
    intro v' w2 hX2
    have HX2 := hid hX2
    obtain ⟨_, _, hc3⟩ := HC.out _ hX2.2
    obtain ⟨ao2, cap2, hsl⟩ := hX2.shape
    have hwl2 : w.heap.size < w2.heap.size := Nat.lt_of_lt_of_le (lt_of_block HB0.out) hX2.2.size
    clear hc2 HX hwl hX2
    generalize hl1 : l0 ++ [0, 0] = l1 at *
    have HL1 := hid hl1
    subst hsl
    clear hl1
    go_wp2_with fail
    rw [HXor.out]
    go_loopg [3, 5] 8 (fun gk s3 s5 wx => ∃ i : Nat, s5 = .int .i64 (56 - 8 * (i : Int)) ∧ i + gk = 8 ∧ Hid (Bo wb wx s3 (l1 ++ (be8 st).take i)))
    case atStart => exact ⟨0, rfl, by omega, by show Bo _ _ _ (l1 ++ []); rw [List.append_nil]; exact HX2.out⟩
    case round =>
      obtain ⟨i, rfl, hg, HXi⟩ := hrel
      obtain ⟨aoi, capi, hsl⟩ := HXi.out.shape
      generalize hli : l1 ++ (be8 st).take i = li at *
      have HLi := hid hli
      subst hsl
      clear hli hc3 hwl2
      have HLl : Hid (li.length ≤ 80) := by
        have h1 := HLn.out
        have h2 : l1.length = l0.length + 2 := by rw [← HL1.out]; simp
        show _ ≤ _
        rw [← HLi.out, List.length_append, List.length_take, be8_len]
        omega
      cases gk with
      | zero =>
        obtain rfl : i = 8 := by omega
        clear hg
        have hcv := run_str8 Tryz.underlying102 Tryz.underlying5 Tryz.underlying9 (own_bs HXi.out.1)
        rw [show (56 : Int) - 8 * ((8 : Nat) : Int) = -8 from rfl]
        go_wp2_with fail
        go_ret
        refine ⟨congrArg (fun x => Ending.returned (.string x)) ?_, HF0.out.trans HXi.out.2⟩
        rw [HKey.out, ← HLi.out, ← HL1.out, ← HL0.out]
        simp [be8]
      | succ g =>
        have HG := hid hg
        have hi8 : i < 8 := by omega
        have HS := hid (be8_step st i hi8)
        have HX1 := hid (fun (x : Value) => HXi.out.fr (alloc_fr wr (.cells #[x] 5) (fun _ => False)))
        have HSt := HST.out
        clear hg
        have hcases : i = 0 ∨ i = 1 ∨ i = 2 ∨ i = 3 ∨ i = 4 ∨ i = 5 ∨ i = 6 ∨ i = 7 := by omega
        rcases hcases with rfl | rfl | rfl | rfl | rfl | rfl | rfl | rfl
        · go_wp2_with (at_builtin; go_must (refine wpl_bo (wb := wb) rfl (.tmp 25) (.tmp 30) rfl _ li rfl wr.heap.size 1 [st / 72057594037927936 % 256] rfl ?c1 ?c2 ?c3 ?_))
          case c1 => have := HLl.out; simp only [List.length_cons, List.length_nil]; omega
          case c2 => exact HX1.out _
          case c3 => rw [heap_last _ _ _ rfl]; simp [by8]; try omega
          intro v' w3 hX3
          have HX3 := hid hX3
          obtain ⟨ao3, cap3, rfl⟩ := hX3.shape
          clear hX3 HX1
          go_wp2_with fail
          go_roundg g
          case measure => omega
          case rel => exact ⟨1, by go_num, by have := HG.out; omega, by show Bo wb w3 _ (l1 ++ (be8 st).take (0 + 1)); rw [HS.out, ← List.append_assoc, HLi.out]; exact HX3.out⟩
        · go_wp2_with (at_builtin; go_must (refine wpl_bo (wb := wb) rfl (.tmp 25) (.tmp 30) rfl _ li rfl wr.heap.size 1 [st / 281474976710656 % 256] rfl ?c1 ?c2 ?c3 ?_))
          case c1 => have := HLl.out; simp only [List.length_cons, List.length_nil]; omega
          case c2 => exact HX1.out _
          case c3 => rw [heap_last _ _ _ rfl]; simp [by8]; try omega
          intro v' w3 hX3
          have HX3 := hid hX3
          obtain ⟨ao3, cap3, rfl⟩ := hX3.shape
          clear hX3 HX1
          go_wp2_with fail
          go_roundg g
          case measure => omega
          case rel => exact ⟨2, by go_num, by have := HG.out; omega, by show Bo wb w3 _ (l1 ++ (be8 st).take (1 + 1)); rw [HS.out, ← List.append_assoc, HLi.out]; exact HX3.out⟩
        · go_wp2_with (at_builtin; go_must (refine wpl_bo (wb := wb) rfl (.tmp 25) (.tmp 30) rfl _ li rfl wr.heap.size 1 [st / 1099511627776 % 256] rfl ?c1 ?c2 ?c3 ?_))
          case c1 => have := HLl.out; simp only [List.length_cons, List.length_nil]; omega
          case c2 => exact HX1.out _
          case c3 => rw [heap_last _ _ _ rfl]; simp [by8]; try omega
          intro v' w3 hX3
          have HX3 := hid hX3
          obtain ⟨ao3, cap3, rfl⟩ := hX3.shape
          clear hX3 HX1
          go_wp2_with fail
          go_roundg g
          case measure => omega
          case rel => exact ⟨3, by go_num, by have := HG.out; omega, by show Bo wb w3 _ (l1 ++ (be8 st).take (2 + 1)); rw [HS.out, ← List.append_assoc, HLi.out]; exact HX3.out⟩
        · go_wp2_with (at_builtin; go_must (refine wpl_bo (wb := wb) rfl (.tmp 25) (.tmp 30) rfl _ li rfl wr.heap.size 1 [st / 4294967296 % 256] rfl ?c1 ?c2 ?c3 ?_))
          case c1 => have := HLl.out; simp only [List.length_cons, List.length_nil]; omega
          case c2 => exact HX1.out _
          case c3 => rw [heap_last _ _ _ rfl]; simp [by8]; try omega
          intro v' w3 hX3
          have HX3 := hid hX3
          obtain ⟨ao3, cap3, rfl⟩ := hX3.shape
          clear hX3 HX1
          go_wp2_with fail
          go_roundg g
          case measure => omega
          case rel => exact ⟨4, by go_num, by have := HG.out; omega, by show Bo wb w3 _ (l1 ++ (be8 st).take (3 + 1)); rw [HS.out, ← List.append_assoc, HLi.out]; exact HX3.out⟩
        · go_wp2_with (at_builtin; go_must (refine wpl_bo (wb := wb) rfl (.tmp 25) (.tmp 30) rfl _ li rfl wr.heap.size 1 [st / 16777216 % 256] rfl ?c1 ?c2 ?c3 ?_))
          case c1 => have := HLl.out; simp only [List.length_cons, List.length_nil]; omega
          case c2 => exact HX1.out _
          case c3 => rw [heap_last _ _ _ rfl]; simp [by8]; try omega
          intro v' w3 hX3
          have HX3 := hid hX3
          obtain ⟨ao3, cap3, rfl⟩ := hX3.shape
          clear hX3 HX1
          go_wp2_with fail
          go_roundg g
          case measure => omega
          case rel => exact ⟨5, by go_num, by have := HG.out; omega, by show Bo wb w3 _ (l1 ++ (be8 st).take (4 + 1)); rw [HS.out, ← List.append_assoc, HLi.out]; exact HX3.out⟩
        · go_wp2_with (at_builtin; go_must (refine wpl_bo (wb := wb) rfl (.tmp 25) (.tmp 30) rfl _ li rfl wr.heap.size 1 [st / 65536 % 256] rfl ?c1 ?c2 ?c3 ?_))
          case c1 => have := HLl.out; simp only [List.length_cons, List.length_nil]; omega
          case c2 => exact HX1.out _
          case c3 => rw [heap_last _ _ _ rfl]; simp [by8]; try omega
          intro v' w3 hX3
          have HX3 := hid hX3
          obtain ⟨ao3, cap3, rfl⟩ := hX3.shape
          clear hX3 HX1
          go_wp2_with fail
          go_roundg g
          case measure => omega
          case rel => exact ⟨6, by go_num, by have := HG.out; omega, by show Bo wb w3 _ (l1 ++ (be8 st).take (5 + 1)); rw [HS.out, ← List.append_assoc, HLi.out]; exact HX3.out⟩
        · go_wp2_with (at_builtin; go_must (refine wpl_bo (wb := wb) rfl (.tmp 25) (.tmp 30) rfl _ li rfl wr.heap.size 1 [st / 256 % 256] rfl ?c1 ?c2 ?c3 ?_))
          case c1 => have := HLl.out; simp only [List.length_cons, List.length_nil]; omega
          case c2 => exact HX1.out _
          case c3 => rw [heap_last _ _ _ rfl]; simp [by8]; try omega
          intro v' w3 hX3
          have HX3 := hid hX3
          obtain ⟨ao3, cap3, rfl⟩ := hX3.shape
          clear hX3 HX1
          go_wp2_with fail
          go_roundg g
          case measure => omega
          case rel => exact ⟨7, by go_num, by have := HG.out; omega, by show Bo wb w3 _ (l1 ++ (be8 st).take (6 + 1)); rw [HS.out, ← List.append_assoc, HLi.out]; exact HX3.out⟩
        · go_wp2_with (at_builtin; go_must (refine wpl_bo (wb := wb) rfl (.tmp 25) (.tmp 30) rfl _ li rfl wr.heap.size 1 [st / 1 % 256] rfl ?c1 ?c2 ?c3 ?_))
          case c1 => have := HLl.out; simp only [List.length_cons, List.length_nil]; omega
          case c2 => exact HX1.out _
          case c3 => rw [heap_last _ _ _ rfl]; simp [by8]; try omega
          intro v' w3 hX3
          have HX3 := hid hX3
          obtain ⟨ao3, cap3, rfl⟩ := hX3.shape
          clear hX3 HX1
          go_wp2_with fail
          go_roundg g
          case measure => omega
          case rel => exact ⟨8, by go_num, by have := HG.out; omega, by show Bo wb w3 _ (l1 ++ (be8 st).take (7 + 1)); rw [HS.out, ← List.append_assoc, HLi.out, show st / 2 ^ (56 - 8 * 7) % 256 = st % 256 by simp]; exact HX3.out⟩
end Go.Proofs.YtgbkihkefdoddaaGreatDoor.S
end
