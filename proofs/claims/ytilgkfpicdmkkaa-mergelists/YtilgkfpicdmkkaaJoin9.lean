/- Texts of one proof, joined. -/
import Derived.Test.YtilgkfpicdmkkaaJoin4
import Derived.Maps.AppendAt
import Derived.Deep.DeepCutAuto
import Derived.Deep.DeepMust
import Derived.Laws.Bits64b
section
/- merge: check, Key; the document's wrong, Key: walks. -/
namespace Go.Proofs.Ytilgkfpicdmkkaa.M
open Go.RowKit

theorem check_any (c : Cl) (w : World) (hk : c.k.size ≤ 9223372036854775807) :
    Calls Try.prog 38 #[vC c] w fun e w' => e = .returned (.int .i64 (mE c)) ∧ Fr w w' (fun _ => False) := by
  obtain ⟨v, k, s⟩ := c
  unfold vC
  dsimp only at hk ⊢
  unfold mE
  dsimp only
  have key : ∀ n : Int, (n = if v < 0 ∨ 4 < v then 23 else if 32 < k.size then 21 else if s < -2305843009213693952 ∨ 2305843009213693952 < s then 22 else 0) → Calls Try.prog 38 #[.agg #[.int .i64 v, .string k, .int .i64 s]] w fun e w' => e = .returned (.int .i64 n) ∧ Fr w w' (fun _ => False) := by
    intro n hn
    by_cases h1 : v < 0
    · rw [if_pos (Or.inl h1)] at hn
      subst hn
      go_enter Try.func38, Try.ntmps38
      go_wp2_with fail
      go_ret
      exact ⟨rfl, alloc_fr _ _ _⟩
    by_cases h2 : 4 < v
    · rw [if_pos (Or.inr h2)] at hn
      subst hn
      go_enter Try.func38, Try.ntmps38
      go_wp2_with fail
      go_ret
      exact ⟨rfl, alloc_fr _ _ _⟩
    rw [if_neg (by omega)] at hn
    by_cases h4 : 32 < k.size
    · rw [if_pos h4] at hn
      subst hn
      have t4 : (32 : Int) < (k.size : Int) := by omega
      clear h4
      go_enter Try.func38, Try.ntmps38
      go_wp2_with fail
      go_ret
      exact ⟨rfl, alloc_fr _ _ _⟩
    have t4 : ¬ (32 : Int) < (k.size : Int) := by omega
    rw [if_neg (by omega)] at hn
    clear h4
    by_cases h5 : s < -2305843009213693952
    · rw [if_pos (Or.inl h5)] at hn
      subst hn
      go_enter Try.func38, Try.ntmps38
      go_wp2_with fail
      go_ret
      exact ⟨rfl, alloc_fr _ _ _⟩
    by_cases h6 : 2305843009213693952 < s
    · rw [if_pos (Or.inr h6)] at hn
      subst hn
      go_enter Try.func38, Try.ntmps38
      go_wp2_with fail
      go_ret
      exact ⟨rfl, alloc_fr _ _ _⟩
    rw [if_neg (by omega)] at hn
    subst hn
    go_enter Try.func38, Try.ntmps38
    go_wp2_with fail
    go_ret
    exact ⟨rfl, alloc_fr _ _ _⟩
  exact key _ rfl

theorem Try.info_u8 : (Try.prog.info? 5).map (fun i => (i.zero, i.size, i.bytes)) = some (some (.int .u8 0), 1, 1) := by kernel_rfl
theorem infoP {o : Option TypeInfo} {z : Value} {n b : Nat} (h : o.map (fun i => (i.zero, i.size, i.bytes)) = some (some z, n, b)) : ∃ i, o = some i ∧ i.zero = some z ∧ i.size = n ∧ i.bytes = b := by
  obtain ⟨i, hi, hx⟩ := Option.map_eq_some_iff.1 h
  simp only [Prod.mk.injEq] at hx
  exact ⟨i, hi, hx.1, hx.2.1, hx.2.2⟩
/-- Bytes of one's own that lie behind a world. -/
def Bo (w wx : World) (v : Value) (l : List Nat) : Prop := wx.ownsRow w.heap.size 5 1 v l.length (by8 l) ∧ Fr w wx (fun _ => False)
theorem Bo.shape {w wx : World} {v : Value} {l : List Nat} (h : Bo w wx v l) : ∃ ao cap, v = .slice ao l.length cap := own_nil_shape h.1
theorem Bo.fr {w wx w' : World} {v : Value} {l : List Nat} (h : Bo w wx v l) (hf : Fr wx w' (fun _ => False)) : Bo w w' v l := ⟨own_fr h.1 hf (fun _ _ h => h), h.2.trans hf⟩
theorem Bo.grown {w wx w' : World} {v v' : Value} {l m : List Nat} (h : Bo w wx v l) (ho : w'.ownsRow w.heap.size 5 1 v' (l ++ m).length (by8 (l ++ m))) (hg : wx.grownBy w' v.ownBlock) : Bo w w' v' (l ++ m) :=
  ⟨ho, h.2.grown hg (fun k hk e => by
    have := (h.1.lt k e).1
    omega)⟩
theorem xor_top (a : Nat) (h : a < 18446744073709551616) : a ^^^ 9223372036854775808 = if a < 9223372036854775808 then a + 9223372036854775808 else a - 9223372036854775808 := by
  have h1 : (a ^^^ 9223372036854775808) % 9223372036854775808 = a % 9223372036854775808 := by
    have := Nat.xor_mod_two_pow (a := a) (b := 9223372036854775808) (n := 63)
    simpa using this
  have h2 : (a ^^^ 9223372036854775808) / 9223372036854775808 = (a / 9223372036854775808) ^^^ 1 := by
    have := Nat.xor_div_two_pow (a := a) (b := 9223372036854775808) (n := 63)
    simpa using this
  have h3 := Nat.div_add_mod (a ^^^ 9223372036854775808) 9223372036854775808
  rw [h1, h2] at h3
  have h4 : a / 9223372036854775808 = 0 ∨ a / 9223372036854775808 = 1 := by omega
  rcases h4 with h4 | h4
  · rw [h4] at h3
    rw [if_pos (by omega), ← h3]
    rw [show (0 : Nat) ^^^ 1 = 1 from rfl]
    omega
  · rw [h4] at h3
    rw [if_neg (by omega), ← h3]
    rw [show (1 : Nat) ^^^ 1 = 0 from rfl]
    omega
theorem xor_sign (s : Int) (h1 : -2305843009213693952 ≤ s) (h2 : s ≤ 2305843009213693952) : Go.bits .xor .u64 (IntKind.u64.wrap s) 9223372036854775808 = ((s + 9223372036854775808).toNat : Int) := by
  have key : ∀ a : Nat, a < 18446744073709551616 → Go.bits .xor .u64 (a : Int) 9223372036854775808 = ((a ^^^ 9223372036854775808 : Nat) : Int) := fun a ha => bits_xor_u64_nat a 9223372036854775808 ha (by decide)
  rw [IntKind.wrap_u64]
  by_cases h : 0 ≤ s
  · rw [show s % 18446744073709551616 = ((s.toNat : Nat) : Int) by omega, key _ (by omega), xor_top _ (by omega), if_pos (by omega)]
    omega
  · rw [show s % 18446744073709551616 = ((s + 18446744073709551616).toNat : Int) by omega, key _ (by omega), xor_top _ (by omega), if_neg (by omega)]
    omega

theorem be8_eq (n : Nat) : be 8 n = [n / 72057594037927936 % 256, n / 281474976710656 % 256, n / 1099511627776 % 256, n / 4294967296 % 256, n / 16777216 % 256, n / 65536 % 256, n / 256 % 256, n % 256] := by
  simp [be]
theorem be8_step (n i : Nat) (hi : i < 8) : (be 8 n).take (i + 1) = (be 8 n).take i ++ [n / 2 ^ (56 - 8 * i) % 256] := by
  rw [be8_eq]
  match i, hi with
  | 0, _ => rfl
  | 1, _ => rfl
  | 2, _ => rfl
  | 3, _ => rfl
  | 4, _ => rfl
  | 5, _ => rfl
  | 6, _ => rfl
  | 7, _ => simp
theorem Bo.lit (w wx : World) (n : Nat) (hf : Fr w wx (fun _ => False)) (x : Value) (hx : x = .int .u8 (n : Int)) : Bo w (wx.alloc (.cells #[x] 5)) (.slice (some ⟨wx.heap.size, 0, none⟩) 1 1) [n] := by
  subst hx
  exact ⟨own_mono (lit_own wx [n] #[.int .u8 (n : Int)] 5 1 rfl rfl (by decide)) hf.size, hf.trans (alloc_fr _ _ _)⟩
theorem wpl_bo {W wb : World} {ops : Array Oper} {rest : List Oper} {o : Oper} {a : Act} {Q : Exit → Act → World → Prop} (hgd : o.guard = none) (sl x : Operand)
    (ho : o.op = .call { callee := .builtin .append, args := #[sl, x], argTypes := #[76, 76] }) (v : Value) (l : List Nat) (hs : a.eval sl = v) (N c : Nat) (ys : List Nat) (hx : a.eval x = .slice (some ⟨N, 0, none⟩) ys.length c) (hn : l.length + ys.length ≤ 140737488355328) (hb : Bo wb W v l) (hy : W.heap[N]? = some (.cells (by8 ys).toArray 5 (0, 0)))
    (h : ∀ v' w', Bo wb w' v' (l ++ ys) → wpList Try.prog ops Q rest (a.put o.dst v') w') : wpList Try.prog ops Q (o :: rest) a W := by
  obtain ⟨i0, hi, hz0, hz1, hz2⟩ := infoP Try.info_u8
  refine wpList_append_own_at W hgd sl x 76 ho wb.heap.size 5 i0 (.int .u8 0) 1 1 Try.underlying76 hi hz0 hz1 hz2 rfl (by decide) v l.length (by8 l) hs hb.1 ⟨N, 0, none⟩ ys.length c (by8 ys) hx (by rw [by8_length, Nat.mul_one]) ?_ (by8_one ys) (by unfold maxLen; omega) (by omega) hb.2.size ?_
  · intro j u hj
    rw [Addr.add_lit, Nat.zero_add, cell_of_row W N j _ _ (0, 0) hy]
    simpa using hj
  · intro v' w' hown hgr _ _
    refine h v' w' (hb.grown ?_ hgr)
    rw [← by8_append] at hown
    rw [List.length_append]
    exact hown
theorem nums8_at {k : ByteArray} {i : Nat} (h : i < k.size) : (k[i]'h).toNat = (nums8 k).getD i 0 := by
  have h2 : i < k.data.size := h
  have h3 : i < k.data.toList.length := by simpa using h2
  unfold nums8
  simp only [List.getD_eq_getElem?_getD, List.getElem?_map, List.getElem?_eq_getElem h3]
  simp
  rfl
theorem nums8_take {k : ByteArray} {i : Nat} (h : i < k.size) : (nums8 k).take (i + 1) = (nums8 k).take i ++ [(nums8 k).getD i 0] := by
  have h2 : i < (nums8 k).length := by rw [nums8_length]; exact h
  rw [List.take_succ_eq_append_getElem h2]
  simp [h2]
theorem nums8_lt (k : ByteArray) (i : Nat) : (nums8 k).getD i 0 < 256 := by
  by_cases h : i < (nums8 k).length
  · rw [List.getD_eq_getElem?_getD, List.getElem?_eq_getElem h]
    exact nums8_byte k _ (List.getElem_mem h)
  · rw [List.getD_eq_getElem?_getD, List.getElem?_eq_none (by omega)]
    decide
end Go.Proofs.Ytilgkfpicdmkkaa.M
end

section
/- merge: Key; the document's Key: walks (written by wip/gen/genmkey.py). -/
namespace Go.Proofs.Ytilgkfpicdmkkaa.M
open Go.RowKit

theorem add_sign (s : Int) (h1 : -2305843009213693952 ≤ s) (h2 : s ≤ 2305843009213693952) : IntKind.u64.wrap (IntKind.u64.wrap s + 9223372036854775808) = ((s + 9223372036854775808).toNat : Int) := by
  rw [IntKind.wrap_u64, IntKind.wrap_u64]
  omega

set_option maxHeartbeats 4000000 in
set_option maxRecDepth 100000 in
theorem key_any (c : Cl) (w : World) (hk : c.k.size ≤ 9223372036854775807) :
    Calls Try.prog 22 #[vC c] w fun e w' => e = .returned (.tuple #[.string (key c), .int .i64 (mE c)]) ∧ Fr w w' (fun _ => False) := by
  have HCk := hid (fun W => check_any c W hk)
  have HKy : Hid (key c = if mE c = 0 then str8 (txt c) else ⟨#[]⟩) := rfl
  by_cases hm : mE c = 0
  · obtain ⟨⟨m1, m2⟩, m3, m4, m5⟩ := mE_zero hm
    have HXor := hid (xor_sign c.s m4 m5)
    have HKey : Hid (key c = str8 (c.v.toNat :: (esc (nums8 c.k) ++ (0 :: 1 :: be 8 (c.s + 9223372036854775808).toNat)))) := by
      show key c = _
      rw [HKy.out, if_pos hm]
      rfl
    rw [hm] at HCk ⊢
    generalize key c = kk at *
    obtain ⟨v, k, s⟩ := c
    unfold vC at HCk ⊢
    dsimp only at *
    obtain ⟨n, rfl⟩ : ∃ n : Nat, v = (n : Int) := ⟨v.toNat, by omega⟩
    rw [show ((n : Int)).toNat = n by omega] at HKey
    have HWr : Hid (Value.int .u8 (IntKind.u8.wrap (n : Int)) = .int .u8 (n : Int)) := by show _ = _; rw [show IntKind.u8.wrap (n : Int) = (n : Int) % 256 by simp [IntKind.wrap, IntKind.bits, IntKind.signed], show (n : Int) % 256 = n by omega]
    have HST : Hid ((s + 9223372036854775808).toNat < 18446744073709551616) := by show _ < _; omega
    generalize (s + 9223372036854775808).toNat = st at *
    clear hm HKy
    go_enter Try.func22, Try.ntmps22
    go_wp2_with fail
    refine (HCk.out _).mono ?_
    rintro e w1 ⟨rfl, hf1⟩
    have HB0 : Hid (w1.heap[w.heap.size]? = some (.cells #[.int .i64 (n : Int), .string k, .int .i64 s] 52 (0, 0))) := by
      show w1.heap[w.heap.size]? = _
      rw [hf1.block _ (by simp) (fun h => h)]
      exact heap_last _ _ _ rfl
    have HF0 := hid ((alloc_fr w (.cells #[.int .i64 (n : Int), .string k, .int .i64 s] 52) (fun _ => False)).trans hf1)
    clear hf1
    have HC := hid (fun (W' : World) (hf : Fr w1 W' (fun _ => False)) => (show W'.cell? ⟨w.heap.size, 0, none⟩ = some (.int .i64 (n : Int)) ∧ W'.cell? ⟨w.heap.size, 1, none⟩ = some (.string k) ∧ W'.cell? ⟨w.heap.size, 2, none⟩ = some (.int .i64 s) ∧ w.heap.size < W'.heap.size from by
      have hb := (hf.block _ (lt_of_block HB0.out) (fun h => h)).trans HB0.out
      obtain ⟨c0, c1, c2⟩ := cells3 hb
      exact ⟨c0, c1, c2, lt_of_block hb⟩))
    generalize w1 = wb at *
    obtain ⟨c0, c1, c2, c3⟩ := HC.out _ (Fr.refl wb _)
    go_wp2_with fail
    try rw [HWr.out]
    have HX0 := hid (Bo.lit wb wb n (Fr.refl _ _) (.int .u8 (n : Int)) rfl)
    clear c0 c1 c2 c3
    generalize hwl : wb.alloc (.cells #[.int .u8 (n : Int)] 5) = wl at *
    clear hwl
    go_loopg [5, 21] k.size (fun gk s5 s21 wx => ∃ i : Nat, s21 = .int .i64 (i : Int) ∧ i + gk = k.size ∧ Hid (Bo wb wx s5 (n :: esc ((nums8 k).take i))))
    case atStart => exact ⟨0, rfl, by omega, by show Bo _ _ _ (n :: esc []); exact HX0.out⟩
    case round =>
      obtain ⟨i, rfl, hg, HXi⟩ := hrel
      clear HX0
      obtain ⟨aoi, capi, hsl⟩ := HXi.out.shape
      obtain ⟨_, c1, c2, c3⟩ := HC.out _ HXi.out.2
      have HLl : Hid ((n :: esc ((nums8 k).take i)).length ≤ 65) := by
        have h1 := esc_le ((nums8 k).take i)
        have h2 : ((nums8 k).take i).length ≤ 32 := by rw [List.length_take, nums8_length]; omega
        show _ ≤ _
        simp only [List.length_cons]
        omega
      generalize hli : n :: esc ((nums8 k).take i) = li at *
      have HLi := hid hli
      subst hsl
      clear hli
      cases gk with
      | zero =>
        have t1 : ¬ (i : Int) < (k.size : Int) := by omega
        have HE := hid (show i = k.size by omega)
        have HL0 : Hid (n :: esc (nums8 k) = li) := by
          show n :: esc (nums8 k) = li
          rw [← HLi.out, HE.out, List.take_of_length_le (by rw [nums8_length]; exact Nat.le_refl _)]
        clear hg HLi HE
        go_wp2_with (at_builtin; go_must (refine wpl_bo (wb := wb) rfl (.tmp 40) (.tmp 41) rfl _ li rfl wr.heap.size 2 [0, 1] rfl ?c1 ?c2 ?c3 ?_))
        case c1 => have := HLl.out; (try simp only [List.length_cons, List.length_nil]); omega
        case c2 => exact HXi.out.fr (alloc_fr _ _ _)
        case c3 => first | exact heap_last _ _ _ rfl | exact Option.some.inj ((Array.getElem?_eq_getElem _).symm.trans (heap_last _ _ _ rfl))
        intro v' w2 hX2
        have HX2 := hid hX2
        obtain ⟨_, _, d2, d3⟩ := HC.out _ hX2.2
        obtain ⟨ao2, cap2, hsl⟩ := hX2.shape
        clear c1 c2 c3 hX2 HXi
        generalize hl1 : li ++ [0, 1] = l1 at *
        have HL1 := hid hl1
        subst hsl
        clear hl1
        go_wp2_with fail
        rw [HXor.out]
        go_loopg [5, 8] 8 (fun gk s5 s8 wx => ∃ i : Nat, s8 = .int .i64 (56 - 8 * (i : Int)) ∧ i + gk = 8 ∧ Hid (Bo wb wx s5 (l1 ++ (be 8 st).take i)))
        case atStart => exact ⟨0, rfl, by omega, by show Bo _ _ _ (l1 ++ []); rw [List.append_nil]; exact HX2.out⟩
        case round =>
          obtain ⟨i, rfl, hg, HXi⟩ := hrel
          obtain ⟨aoi, capi, hsl⟩ := HXi.out.shape
          have HLn := HLl
          have HLL := HL0
          clear HLl HX2
          generalize hlj : li = l0 at *
          clear hlj HL0
          generalize hli : l1 ++ (be 8 st).take i = li at *
          have HLi := hid hli
          subst hsl
          clear hli d2 d3
          have HLl : Hid (li.length ≤ 80) := by
            have h1 := HLn.out
            have h2 : l1.length = l0.length + 2 := by rw [← HL1.out]; simp
            show _ ≤ _
            rw [← HLi.out, List.length_append, List.length_take, be_len]
            omega
          cases gk with
          | zero =>
            obtain rfl : i = 8 := by omega
            clear hg
            have hcv := run_str8 Try.underlying76 Try.underlying5 Try.underlying9 (own_bs HXi.out.1)
            rw [show (56 : Int) - 8 * ((8 : Nat) : Int) = -8 from rfl]
            go_wp2_with fail
            go_ret2
            refine ⟨congrArg (fun x => Ending.returned (.tuple #[.string x, .int .i64 0])) ?_, HF0.out.trans HXi.out.2⟩
            rw [HKey.out, ← HLi.out, ← HL1.out, ← HLL.out]
            simp [be]
          | succ g =>
            have HG := hid hg
            have hi8 : i < 8 := by omega
            have HS := hid (be8_step st i hi8)
            have HX1 := hid (fun (x : Value) => HXi.out.fr (alloc_fr wr (.cells #[x] 5) (fun _ => False)))
            have HSt := HST.out
            clear hg
            have hcases : i = 0 ∨ i = 1 ∨ i = 2 ∨ i = 3 ∨ i = 4 ∨ i = 5 ∨ i = 6 ∨ i = 7 := by omega
            rcases hcases with rfl | rfl | rfl | rfl | rfl | rfl | rfl | rfl
            · go_wp2_with (at_builtin; go_must (refine wpl_bo (wb := wb) rfl (.tmp 51) (.tmp 56) rfl _ li rfl wr.heap.size 1 [st / 72057594037927936 % 256] rfl ?c1 ?c2 ?c3 ?_))
              case c1 => have := HLl.out; (try simp only [List.length_cons, List.length_nil]); omega
              case c2 => exact HX1.out _
              case c3 => rw [heap_last _ _ _ rfl]; simp [by8]; try omega
              intro v' w3 hX3
              have HX3 := hid hX3
              obtain ⟨ao3, cap3, rfl⟩ := hX3.shape
              clear hX3 HX1
              go_wp2_with fail
              go_roundg g
              case measure => omega
              case rel => exact ⟨1, by go_num, by have := HG.out; omega, by show Bo wb w3 _ (l1 ++ (be 8 st).take (0 + 1)); rw [HS.out, ← List.append_assoc, HLi.out]; exact HX3.out⟩
            · go_wp2_with (at_builtin; go_must (refine wpl_bo (wb := wb) rfl (.tmp 51) (.tmp 56) rfl _ li rfl wr.heap.size 1 [st / 281474976710656 % 256] rfl ?c1 ?c2 ?c3 ?_))
              case c1 => have := HLl.out; (try simp only [List.length_cons, List.length_nil]); omega
              case c2 => exact HX1.out _
              case c3 => rw [heap_last _ _ _ rfl]; simp [by8]; try omega
              intro v' w3 hX3
              have HX3 := hid hX3
              obtain ⟨ao3, cap3, rfl⟩ := hX3.shape
              clear hX3 HX1
              go_wp2_with fail
              go_roundg g
              case measure => omega
              case rel => exact ⟨2, by go_num, by have := HG.out; omega, by show Bo wb w3 _ (l1 ++ (be 8 st).take (1 + 1)); rw [HS.out, ← List.append_assoc, HLi.out]; exact HX3.out⟩
            · go_wp2_with (at_builtin; go_must (refine wpl_bo (wb := wb) rfl (.tmp 51) (.tmp 56) rfl _ li rfl wr.heap.size 1 [st / 1099511627776 % 256] rfl ?c1 ?c2 ?c3 ?_))
              case c1 => have := HLl.out; (try simp only [List.length_cons, List.length_nil]); omega
              case c2 => exact HX1.out _
              case c3 => rw [heap_last _ _ _ rfl]; simp [by8]; try omega
              intro v' w3 hX3
              have HX3 := hid hX3
              obtain ⟨ao3, cap3, rfl⟩ := hX3.shape
              clear hX3 HX1
              go_wp2_with fail
              go_roundg g
              case measure => omega
              case rel => exact ⟨3, by go_num, by have := HG.out; omega, by show Bo wb w3 _ (l1 ++ (be 8 st).take (2 + 1)); rw [HS.out, ← List.append_assoc, HLi.out]; exact HX3.out⟩
            · go_wp2_with (at_builtin; go_must (refine wpl_bo (wb := wb) rfl (.tmp 51) (.tmp 56) rfl _ li rfl wr.heap.size 1 [st / 4294967296 % 256] rfl ?c1 ?c2 ?c3 ?_))
              case c1 => have := HLl.out; (try simp only [List.length_cons, List.length_nil]); omega
              case c2 => exact HX1.out _
              case c3 => rw [heap_last _ _ _ rfl]; simp [by8]; try omega
              intro v' w3 hX3
              have HX3 := hid hX3
              obtain ⟨ao3, cap3, rfl⟩ := hX3.shape
              clear hX3 HX1
              go_wp2_with fail
              go_roundg g
              case measure => omega
              case rel => exact ⟨4, by go_num, by have := HG.out; omega, by show Bo wb w3 _ (l1 ++ (be 8 st).take (3 + 1)); rw [HS.out, ← List.append_assoc, HLi.out]; exact HX3.out⟩
            · go_wp2_with (at_builtin; go_must (refine wpl_bo (wb := wb) rfl (.tmp 51) (.tmp 56) rfl _ li rfl wr.heap.size 1 [st / 16777216 % 256] rfl ?c1 ?c2 ?c3 ?_))
              case c1 => have := HLl.out; (try simp only [List.length_cons, List.length_nil]); omega
              case c2 => exact HX1.out _
              case c3 => rw [heap_last _ _ _ rfl]; simp [by8]; try omega
              intro v' w3 hX3
              have HX3 := hid hX3
              obtain ⟨ao3, cap3, rfl⟩ := hX3.shape
              clear hX3 HX1
              go_wp2_with fail
              go_roundg g
              case measure => omega
              case rel => exact ⟨5, by go_num, by have := HG.out; omega, by show Bo wb w3 _ (l1 ++ (be 8 st).take (4 + 1)); rw [HS.out, ← List.append_assoc, HLi.out]; exact HX3.out⟩
            · go_wp2_with (at_builtin; go_must (refine wpl_bo (wb := wb) rfl (.tmp 51) (.tmp 56) rfl _ li rfl wr.heap.size 1 [st / 65536 % 256] rfl ?c1 ?c2 ?c3 ?_))
              case c1 => have := HLl.out; (try simp only [List.length_cons, List.length_nil]); omega
              case c2 => exact HX1.out _
              case c3 => rw [heap_last _ _ _ rfl]; simp [by8]; try omega
              intro v' w3 hX3
              have HX3 := hid hX3
              obtain ⟨ao3, cap3, rfl⟩ := hX3.shape
              clear hX3 HX1
              go_wp2_with fail
              go_roundg g
              case measure => omega
              case rel => exact ⟨6, by go_num, by have := HG.out; omega, by show Bo wb w3 _ (l1 ++ (be 8 st).take (5 + 1)); rw [HS.out, ← List.append_assoc, HLi.out]; exact HX3.out⟩
            · go_wp2_with (at_builtin; go_must (refine wpl_bo (wb := wb) rfl (.tmp 51) (.tmp 56) rfl _ li rfl wr.heap.size 1 [st / 256 % 256] rfl ?c1 ?c2 ?c3 ?_))
              case c1 => have := HLl.out; (try simp only [List.length_cons, List.length_nil]); omega
              case c2 => exact HX1.out _
              case c3 => rw [heap_last _ _ _ rfl]; simp [by8]; try omega
              intro v' w3 hX3
              have HX3 := hid hX3
              obtain ⟨ao3, cap3, rfl⟩ := hX3.shape
              clear hX3 HX1
              go_wp2_with fail
              go_roundg g
              case measure => omega
              case rel => exact ⟨7, by go_num, by have := HG.out; omega, by show Bo wb w3 _ (l1 ++ (be 8 st).take (6 + 1)); rw [HS.out, ← List.append_assoc, HLi.out]; exact HX3.out⟩
            · go_wp2_with (at_builtin; go_must (refine wpl_bo (wb := wb) rfl (.tmp 51) (.tmp 56) rfl _ li rfl wr.heap.size 1 [st % 256] rfl ?c1 ?c2 ?c3 ?_))
              case c1 => have := HLl.out; (try simp only [List.length_cons, List.length_nil]); omega
              case c2 => exact HX1.out _
              case c3 => rw [heap_last _ _ _ rfl]; simp [by8]; try omega
              intro v' w3 hX3
              have HX3 := hid hX3
              obtain ⟨ao3, cap3, rfl⟩ := hX3.shape
              clear hX3 HX1
              go_wp2_with fail
              go_roundg g
              case measure => omega
              case rel => exact ⟨8, by go_num, by have := HG.out; omega, by show Bo wb w3 _ (l1 ++ (be 8 st).take (7 + 1)); rw [HS.out, ← List.append_assoc, HLi.out, show st / 2 ^ (56 - 8 * 7) = st from by simp]; exact HX3.out⟩

      | succ g =>
        have hi : i < k.size := by omega
        have t1 : (i : Int) < (k.size : Int) := by omega
        have HG := hid hg
        have hx := nums8_at hi
        have hxl := nums8_lt k i
        have HT := hid (nums8_take hi)
        generalize (nums8 k).getD i 0 = x at *
        have HX1 := hid (HXi.out.fr (alloc_fr wr (.cells #[.int .u8 (x : Int)] 5) (fun _ => False)))
        clear hg HXi
        go_wp2_with (at_builtin; go_must (refine wpl_bo (wb := wb) rfl (.tmp 24) (.tmp 29) rfl _ li rfl wr.heap.size 1 [x] rfl ?c1 ?c2 ?c3 ?_))
        case c1 => have := HLl.out; (try simp only [List.length_cons, List.length_nil]); omega
        case c2 => exact HX1.out
        case c3 => rw [heap_last _ _ _ rfl]; simp [by8]
        intro v' w3 hX3
        have HX3 := hid hX3
        obtain ⟨ao3, cap3, rfl⟩ := hX3.shape
        obtain ⟨_, d1, d2, d3⟩ := HC.out _ hX3.2
        clear hX3 HX1 c1 c2 c3
        by_cases h0 : x = 0
        · subst h0
          have HN : Hid (n :: esc ((nums8 k).take (i + 1)) = (li ++ [0]) ++ [255]) := by
            show _ = _
            rw [HT.out, esc_append, ← HLi.out]
            simp [esc]
          clear HT HLi
          have HX4 := hid (HX3.out.fr (alloc_fr w3 (.cells #[.int .u8 255] 5) (fun _ => False)))
          generalize hl5 : li ++ [0] = l5 at *
          have hl5l : l5.length ≤ 66 := by rw [← hl5]; have := HLl.out; simp; omega
          clear hl5
          go_wp2_with (at_builtin; go_must (refine wpl_bo (wb := wb) rfl (.tmp 36) (.tmp 37) rfl _ l5 rfl w3.heap.size 1 [255] rfl ?c1 ?c2 ?c3 ?_))
          case c1 => (try simp only [List.length_cons, List.length_nil]); omega
          case c2 => exact HX4.out
          case c3 => rw [heap_last _ _ _ rfl]; simp [by8]
          intro v5 w5 hX5
          have HX5 := hid hX5
          obtain ⟨ao5, cap5, rfl⟩ := hX5.shape
          clear hX5 HX4 HX3
          go_wp2_with fail
          go_roundg g
          case measure => omega
          case rel => exact ⟨i + 1, by go_num, by have := HG.out; omega, by show Bo wb w5 _ _; rw [HN.out]; exact HX5.out⟩
        · have HN : Hid (n :: esc ((nums8 k).take (i + 1)) = li ++ [x]) := by
            show _ = _
            rw [HT.out, esc_append, ← HLi.out]
            simp [esc, h0]
          have t0 : ((x : Int) == 0) = false := by simp; omega
          clear HT HLi
          go_wp2_with fail
          go_roundg g
          case measure => omega
          case rel => exact ⟨i + 1, by go_num, by have := HG.out; omega, by show Bo wb w3 _ _; rw [HN.out]; exact HX3.out⟩
  · have hk2 : key c = ⟨#[]⟩ := by rw [HKy.out, if_neg hm]
    rw [hk2]
    clear hk2 HKy
    generalize mE c = m at *
    have t1 : (m != 0) = true := by simpa using hm
    obtain ⟨v, k, s⟩ := c
    unfold vC at HCk ⊢
    dsimp only at *
    go_enter Try.func22, Try.ntmps22
    go_wp2_with fail
    refine (HCk.out _).mono ?_
    rintro e w1 ⟨rfl, hf1⟩
    have HF0 := hid ((alloc_fr w _ (fun _ => False)).trans hf1)
    clear hf1
    go_wp2_with fail
    go_ret2
    exact ⟨rfl, HF0.out⟩
end Go.Proofs.Ytilgkfpicdmkkaa.M
end

section
/- merge: cutKey, startOf, Cell: walks. -/
namespace Go.Proofs.Ytilgkfpicdmkkaa.M
open Go.RowKit

/-- What is cut behind some of the key. -/
def comb (acc : List Nat) (c : Int × List Nat × List Nat) : Int × List Nat × List Nat := if c.1 = 0 then (0, acc ++ c.2.1, c.2.2) else (c.1, [], [])
theorem comb_ne (acc : List Nat) {x : Nat} (t : List Nat) (hx : x ≠ 0) : comb acc (cut (x :: t)) = comb (acc ++ [x]) (cut t) := by
  rw [cut_ne t hx]
  unfold comb
  by_cases h : (cut t).1 = 0
  · rw [if_pos h, if_pos rfl, if_pos h]
    simp
  · rw [if_neg h, if_neg h, if_neg h]
theorem comb_z (acc : List Nat) (u : List Nat) : comb acc (cut (0 :: 255 :: u)) = comb (acc ++ [0]) (cut u) := by
  rw [cut_z, if_neg (by decide), if_neg (by decide)]
  unfold comb
  by_cases h : (cut u).1 = 0
  · rw [if_pos h, if_pos rfl, if_pos h]
    simp
  · rw [if_neg h, if_neg h, if_neg h]
theorem cut_nil_comb (c : Int × List Nat × List Nat) (h : c.1 ≠ 0 → c.2.1 = [] ∧ c.2.2 = []) : comb [] c = c := by
  unfold comb
  obtain ⟨a, b, d⟩ := c
  by_cases h0 : a = 0
  · simp [h0]
  · have := h h0
    simp only at this
    simp [h0, this.1, this.2]
theorem cut_err (n : Nat) : ∀ l : List Nat, l.length ≤ n → (cut l).1 ≠ 0 → (cut l).2.1 = [] ∧ (cut l).2.2 = [] := by
  induction n with
  | zero =>
    intro l hl h
    match l, hl with
    | [], _ => simp [cut]
  | succ n ih =>
    intro l hl h
    match l, hl with
    | [], _ => simp [cut]
    | x :: t, hl =>
      by_cases hx : x ≠ 0
      · rw [cut_ne t hx] at h ⊢
        by_cases hc : (cut t).1 = 0
        · rw [if_pos hc] at h
          exact absurd rfl h
        · rw [if_neg hc]
          exact ⟨rfl, rfl⟩
      · have hx0 : x = 0 := by omega
        subst hx0
        match t, hl with
        | [], _ => rw [cut_zz]; exact ⟨rfl, rfl⟩
        | y :: u, hl =>
          rw [cut_z] at h ⊢
          by_cases h1 : y = 1
          · rw [if_pos h1] at h
            exact absurd rfl h
          · rw [if_neg h1] at h ⊢
            by_cases h2 : y ≠ 255
            · rw [if_pos h2]
              exact ⟨rfl, rfl⟩
            · rw [if_neg h2] at h ⊢
              by_cases hc : (cut u).1 = 0
              · rw [if_pos hc] at h
                exact absurd rfl h
              · rw [if_neg hc]
                exact ⟨rfl, rfl⟩
theorem drop_at {s : ByteArray} {i : Nat} (h : i < s.size) : (nums8 s).drop i = (nums8 s).getD i 0 :: (nums8 s).drop (i + 1) := by
  have h2 : i < (nums8 s).length := by rw [nums8_length]; exact h
  rw [List.drop_eq_getElem_cons h2]
  simp [h2]
theorem nums8_extract (s : ByteArray) (i : Nat) : nums8 (s.extract i s.size) = (nums8 s).drop i := by
  unfold nums8
  rw [ByteArray.data_extract, ← List.map_drop]
  congr 1
  rw [Array.toList_extract, List.extract_eq_take_drop]
  apply List.take_of_length_le
  rw [List.length_drop, Array.length_toList]
  exact Nat.le_refl _
theorem extract_str8 (s : ByteArray) (i : Nat) : s.extract i s.size = str8 ((nums8 s).drop i) := by
  rw [← nums8_extract, str8_nums8]

set_option maxHeartbeats 4000000 in
set_option maxRecDepth 100000 in
theorem cut_any (s : ByteArray) (w : World) (hs : s.size ≤ 140737488355327) :
    Calls Try.prog 39 #[.string s] w fun e w' => e = .returned (.tuple #[.string (str8 (cut (nums8 s)).2.1), .string (str8 (cut (nums8 s)).2.2), .int .i64 (cut (nums8 s)).1]) ∧ Fr w w' (fun _ => False) := by
  have HC0 : Hid (comb [] (cut ((nums8 s).drop 0)) = cut (nums8 s)) := by
    show _ = _
    rw [List.drop_zero]
    exact cut_nil_comb _ (cut_err _ _ (Nat.le_refl _))
  generalize cut (nums8 s) = R at *
  go_enter Try.func39, Try.ntmps39
  go_wp2_with fail
  go_loopg [5, 6] s.size (fun g s5 s6 wx => ∃ (i : Nat) (acc : List Nat), s6 = .int .i64 (i : Int) ∧ i ≤ s.size ∧ s.size - i ≤ g ∧ acc.length ≤ i ∧ Hid (Bo w wx s5 acc) ∧ Hid (comb acc (cut ((nums8 s).drop i)) = R))
  case atStart => exact ⟨0, [], rfl, by omega, by omega, by simp, ⟨⟨rfl, Or.inl ⟨rfl, rfl⟩⟩, Fr.refl _ _⟩, HC0⟩
  case round =>
    obtain ⟨i, acc, rfl, hi, hg, hal, HB, HR⟩ := hrel
    clear HC0
    obtain ⟨ao, cap, rfl⟩ := HB.out.shape
    by_cases h1 : i < s.size
    · have t1 : (i : Int) < (s.size : Int) := by omega
      have hx := nums8_at h1
      have hxl := nums8_lt s i
      have hd := drop_at h1
      rw [hd] at HR
      clear hd
      generalize (nums8 s).getD i 0 = x at *
      by_cases hx0 : x = 0
      · subst hx0
        obtain ⟨j, hj⟩ : ∃ j, j = i + 1 := ⟨_, rfl⟩
        obtain ⟨k, hk⟩ : ∃ k, k = i + 2 := ⟨_, rfl⟩
        have e1 : (i : Int) + 1 = (j : Int) := by omega
        have e2 : (j : Int) + 1 = (k : Int) := by omega
        by_cases h2 : j < s.size
        · have t2 : ((j : Int) == (s.size : Int)) = false := by simp; omega
          have t3 : (j : Int) < (s.size : Int) := by omega
          have hy := nums8_at h2
          have hyl := nums8_lt s j
          have hd := drop_at h2
          rw [← hj, hd, show j + 1 = k by omega] at HR
          clear hd
          generalize (nums8 s).getD j 0 = y at *
          by_cases hy1 : y = 1
          · subst hy1
            have HR2 : Hid (R = (0, acc, (nums8 s).drop k)) := by
              show _ = _
              rw [← HR.out, cut_z, if_pos rfl]
              unfold comb
              rw [if_pos rfl]
              simp
            have HEx := hid (extract_str8 s k)
            have hcv := run_str8 (w := wr.drew) Try.underlying76 Try.underlying5 Try.underlying9 (own_bs (HB.out.fr ((Fr.refl _ _).drew)).1)
            have t4 : (k : Int) ≤ (s.size : Int) := by omega
            clear HR hj hk
            go_wp2_with fail
            go_region
            go_wp2_with fail
            go_ret3
            rw [HR2.out, ← HEx.out]
            exact ⟨rfl, HB.out.2.drew⟩
          · have t4 : ((y : Int) == 1) = false := by simp; omega
            by_cases hy2 : y = 255
            · subst hy2
              have HR2 : Hid (comb (acc ++ [0]) (cut ((nums8 s).drop k)) = R) := by
                show _ = _
                rw [← comb_z]
                exact HR.out
              have HX1 := hid (HB.out.fr (alloc_fr wr (.cells #[.int .u8 0] 5) (fun _ => False)))
              have HK := hid hk
              have HKs : Hid (k ≤ s.size) := by show k ≤ s.size; omega
              have HGk : Hid (s.size - k < gk) := by show s.size - k < gk; omega
              have HAl : Hid ((acc ++ [0]).length ≤ k) := by show (acc ++ [0]).length ≤ k; simp; omega
              clear HR HB hj hk
              go_wp2_with (at_builtin; go_must (refine wpl_bo (wb := w) rfl (.tmp 46) (.tmp 47) rfl _ acc rfl wr.heap.size 1 [0] rfl ?c1 ?c2 ?c3 ?_))
              case c1 => (try simp only [List.length_cons, List.length_nil]); omega
              case c2 => exact HX1.out
              case c3 => rw [heap_last _ _ _ rfl]; simp [by8]
              intro v' w3 hX3
              have HX3 := hid hX3
              obtain ⟨ao3, cap3, rfl⟩ := hX3.shape
              clear hX3 HX1
              go_wp2_with fail
              go_roundg (gk - 1)
              case measure => have := HGk.out; omega
              case rel => exact ⟨k, acc ++ [0], by first | rfl | go_num, HKs.out, by have := HGk.out; omega, HAl.out, HX3, HR2⟩
            · have t5 : ((y : Int) != 255) = true := by simp; omega
              have HR2 : Hid (R = (12, [], [])) := by
                show _ = _
                rw [← HR.out, cut_z, if_neg hy1, if_pos hy2]
                rfl
              clear HR hj hk
              go_wp2_with fail
              go_ret3
              rw [HR2.out]
              exact ⟨rfl, HB.out.2⟩
        · have t2 : ((j : Int) == (s.size : Int)) = true := by simp; omega
          have HR2 : Hid (R = (11, [], [])) := by
            show _ = _
            rw [← HR.out, ← hj, List.drop_eq_nil_of_le (by rw [nums8_length]; omega), cut_zz]
            rfl
          clear HR hj hk
          go_wp2_with fail
          go_ret3
          rw [HR2.out]
          exact ⟨rfl, HB.out.2⟩
      · have t2 : ((x : Int) != 0) = true := by simp; omega
        have HR2 : Hid (comb (acc ++ [x]) (cut ((nums8 s).drop (i + 1))) = R) := by
          show _ = _
          rw [← comb_ne _ _ hx0]
          exact HR.out
        have HX1 := hid (HB.out.fr (alloc_fr wr (.cells #[.int .u8 (x : Int)] 5) (fun _ => False)))
        clear HR HB
        go_wp2_with (at_builtin; go_must (refine wpl_bo (wb := w) rfl (.tmp 17) (.tmp 21) rfl _ acc rfl wr.heap.size 1 [x] rfl ?c1 ?c2 ?c3 ?_))
        case c1 => (try simp only [List.length_cons, List.length_nil]); omega
        case c2 => exact HX1.out
        case c3 => rw [heap_last _ _ _ rfl]; simp [by8]
        intro v' w3 hX3
        have HX3 := hid hX3
        obtain ⟨ao3, cap3, rfl⟩ := hX3.shape
        clear hX3 HX1
        go_wp2_with fail
        go_roundg (gk - 1)
        case measure => omega
        case rel => exact ⟨i + 1, acc ++ [x], by go_num, by omega, by omega, by simp; omega, HX3, HR2⟩
    · have t1 : ¬ (i : Int) < (s.size : Int) := by omega
      have HR2 : Hid (R = (11, [], [])) := by
        show _ = _
        rw [← HR.out, List.drop_eq_nil_of_le (by rw [nums8_length]; omega)]
        rfl
      clear HR
      go_wp2_with fail
      go_ret3
      rw [HR2.out]
      exact ⟨rfl, HB.out.2⟩
end Go.Proofs.Ytilgkfpicdmkkaa.M
end
