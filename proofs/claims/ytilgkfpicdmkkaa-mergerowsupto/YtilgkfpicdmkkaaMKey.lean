import Derived.Test.YtilgkfpicdmkkaaMTxt
/- merge: Key; the document's Key: walks (written by wip/gen/genmkey.py). -/
namespace Go.Proofs.Ytilgkfpicdmkkaa.M
open Go.RowKit

theorem add_sign (s : Int) (h1 : -2305843009213693952 ≤ s) (h2 : s ≤ 2305843009213693952) : IntKind.u64.wrap (IntKind.u64.wrap s + 9223372036854775808) = ((s + 9223372036854775808).toNat : Int) := by
  rw [IntKind.wrap_u64, IntKind.wrap_u64]
  omega

set_option maxHeartbeats 4000000 in
set_option maxRecDepth 100000 in
theorem key_any (c : Cl) (w : World) (hk : c.k.size ≤ 9223372036854775807) :
    Calls Try.prog 22 #[vC c] w fun e w' => e = .returned (.tuple #[.string (key c), .int .i64 (mE c)]) ∧ Fr w w' (fun _ => False) := by
  have HCk := hid (fun W => check_any c W hk)
  have HKy : Hid (key c = if mE c = 0 then str8 (txt c) else ⟨#[]⟩) := rfl
  by_cases hm : mE c = 0
  · obtain ⟨⟨m1, m2⟩, m3, m4, m5⟩ := mE_zero hm
    have HXor := hid (xor_sign c.s m4 m5)
    have HKey : Hid (key c = str8 (c.v.toNat :: (esc (nums8 c.k) ++ (0 :: 1 :: be 8 (c.s + 9223372036854775808).toNat)))) := by
      show key c = _
      rw [HKy.out, if_pos hm]
      rfl
    rw [hm] at HCk ⊢
    generalize key c = kk at *
    obtain ⟨v, k, s⟩ := c
    unfold vC at HCk ⊢
    dsimp only at *
    obtain ⟨n, rfl⟩ : ∃ n : Nat, v = (n : Int) := ⟨v.toNat, by omega⟩
    rw [show ((n : Int)).toNat = n by omega] at HKey
    have HWr : Hid (Value.int .u8 (IntKind.u8.wrap (n : Int)) = .int .u8 (n : Int)) := by show _ = _; rw [show IntKind.u8.wrap (n : Int) = (n : Int) % 256 by simp [IntKind.wrap, IntKind.bits, IntKind.signed], show (n : Int) % 256 = n by omega]
    have HST : Hid ((s + 9223372036854775808).toNat < 18446744073709551616) := by show _ < _; omega
    generalize (s + 9223372036854775808).toNat = st at *
    clear hm HKy
    go_enter Try.func22, Try.ntmps22
    go_wp2_with fail
    refine (HCk.out _).mono ?_
    rintro e w1 ⟨rfl, hf1⟩
    have HB0 : Hid (w1.heap[w.heap.size]? = some (.cells #[.int .i64 (n : Int), .string k, .int .i64 s] 52 (0, 0))) := by
      show w1.heap[w.heap.size]? = _
      rw [hf1.block _ (by simp) (fun h => h)]
      exact heap_last _ _ _ rfl
    have HF0 := hid ((alloc_fr w (.cells #[.int .i64 (n : Int), .string k, .int .i64 s] 52) (fun _ => False)).trans hf1)
    clear hf1
    have HC := hid (fun (W' : World) (hf : Fr w1 W' (fun _ => False)) => (show W'.cell? ⟨w.heap.size, 0, none⟩ = some (.int .i64 (n : Int)) ∧ W'.cell? ⟨w.heap.size, 1, none⟩ = some (.string k) ∧ W'.cell? ⟨w.heap.size, 2, none⟩ = some (.int .i64 s) ∧ w.heap.size < W'.heap.size from by
      have hb := (hf.block _ (lt_of_block HB0.out) (fun h => h)).trans HB0.out
      obtain ⟨c0, c1, c2⟩ := cells3 hb
      exact ⟨c0, c1, c2, lt_of_block hb⟩))
    generalize w1 = wb at *
    obtain ⟨c0, c1, c2, c3⟩ := HC.out _ (Fr.refl wb _)
    go_wp2_with fail
    try rw [HWr.out]
    have HX0 := hid (Bo.lit wb wb n (Fr.refl _ _) (.int .u8 (n : Int)) rfl)
    clear c0 c1 c2 c3
    generalize hwl : wb.alloc (.cells #[.int .u8 (n : Int)] 5) = wl at *
    clear hwl
    go_loopg [5, 21] k.size (fun gk s5 s21 wx => ∃ i : Nat, s21 = .int .i64 (i : Int) ∧ i + gk = k.size ∧ Hid (Bo wb wx s5 (n :: esc ((nums8 k).take i))))
    case atStart => exact ⟨0, rfl, by omega, by show Bo _ _ _ (n :: esc []); exact HX0.out⟩
    case round =>
      obtain ⟨i, rfl, hg, HXi⟩ := hrel
      clear HX0
      obtain ⟨aoi, capi, hsl⟩ := HXi.out.shape
      obtain ⟨_, c1, c2, c3⟩ := HC.out _ HXi.out.2
      have HLl : Hid ((n :: esc ((nums8 k).take i)).length ≤ 65) := by
        have h1 := esc_le ((nums8 k).take i)
        have h2 : ((nums8 k).take i).length ≤ 32 := by rw [List.length_take, nums8_length]; omega
        show _ ≤ _
        simp only [List.length_cons]
        omega
      generalize hli : n :: esc ((nums8 k).take i) = li at *
      have HLi := hid hli
      subst hsl
      clear hli
      cases gk with
      | zero =>
        have t1 : ¬ (i : Int) < (k.size : Int) := by omega
        have HE := hid (show i = k.size by omega)
        have HL0 : Hid (n :: esc (nums8 k) = li) := by
          show n :: esc (nums8 k) = li
          rw [← HLi.out, HE.out, List.take_of_length_le (by rw [nums8_length]; exact Nat.le_refl _)]
        clear hg HLi HE
        go_wp2_with (at_builtin; go_must (refine wpl_bo (wb := wb) rfl (.tmp 40) (.tmp 41) rfl _ li rfl wr.heap.size 2 [0, 1] rfl ?c1 ?c2 ?c3 ?_))
        case c1 => have := HLl.out; (try simp only [List.length_cons, List.length_nil]); omega
        case c2 => exact HXi.out.fr (alloc_fr _ _ _)
        case c3 => first | exact heap_last _ _ _ rfl | exact Option.some.inj ((Array.getElem?_eq_getElem _).symm.trans (heap_last _ _ _ rfl))
        intro v' w2 hX2
        have HX2 := hid hX2
        obtain ⟨_, _, d2, d3⟩ := HC.out _ hX2.2
        obtain ⟨ao2, cap2, hsl⟩ := hX2.shape
        clear c1 c2 c3 hX2 HXi
        generalize hl1 : li ++ [0, 1] = l1 at *
        have HL1 := hid hl1
        subst hsl
        clear hl1
        go_wp2_with fail
        rw [HXor.out]
        go_loopg [5, 8] 8 (fun gk s5 s8 wx => ∃ i : Nat, s8 = .int .i64 (56 - 8 * (i : Int)) ∧ i + gk = 8 ∧ Hid (Bo wb wx s5 (l1 ++ (be 8 st).take i)))
        case atStart => exact ⟨0, rfl, by omega, by show Bo _ _ _ (l1 ++ []); rw [List.append_nil]; exact HX2.out⟩
        case round =>
          obtain ⟨i, rfl, hg, HXi⟩ := hrel
          obtain ⟨aoi, capi, hsl⟩ := HXi.out.shape
          have HLn := HLl
          have HLL := HL0
          clear HLl HX2
          generalize hlj : li = l0 at *
          clear hlj HL0
          generalize hli : l1 ++ (be 8 st).take i = li at *
          have HLi := hid hli
          subst hsl
          clear hli d2 d3
          have HLl : Hid (li.length ≤ 80) := by
            have h1 := HLn.out
            have h2 : l1.length = l0.length + 2 := by rw [← HL1.out]; simp
            show _ ≤ _
            rw [← HLi.out, List.length_append, List.length_take, be_len]
            omega
          cases gk with
          | zero =>
            obtain rfl : i = 8 := by omega
            clear hg
            have hcv := run_str8 Try.underlying76 Try.underlying5 Try.underlying9 (own_bs HXi.out.1)
            rw [show (56 : Int) - 8 * ((8 : Nat) : Int) = -8 from rfl]
            go_wp2_with fail
            go_ret2
            refine ⟨congrArg (fun x => Ending.returned (.tuple #[.string x, .int .i64 0])) ?_, HF0.out.trans HXi.out.2⟩
            rw [HKey.out, ← HLi.out, ← HL1.out, ← HLL.out]
            simp [be]
          | succ g =>
            have HG := hid hg
            have hi8 : i < 8 := by omega
            have HS := hid (be8_step st i hi8)
            have HX1 := hid (fun (x : Value) => HXi.out.fr (alloc_fr wr (.cells #[x] 5) (fun _ => False)))
            have HSt := HST.out
            clear hg
            have hcases : i = 0 ∨ i = 1 ∨ i = 2 ∨ i = 3 ∨ i = 4 ∨ i = 5 ∨ i = 6 ∨ i = 7 := by omega
            rcases hcases with rfl | rfl | rfl | rfl | rfl | rfl | rfl | rfl
            · go_wp2_with (at_builtin; go_must (refine wpl_bo (wb := wb) rfl (.tmp 51) (.tmp 56) rfl _ li rfl wr.heap.size 1 [st / 72057594037927936 % 256] rfl ?c1 ?c2 ?c3 ?_))
              case c1 => have := HLl.out; (try simp only [List.length_cons, List.length_nil]); omega
              case c2 => exact HX1.out _
              case c3 => rw [heap_last _ _ _ rfl]; simp [by8]; try omega
              intro v' w3 hX3
              have HX3 := hid hX3
              obtain ⟨ao3, cap3, rfl⟩ := hX3.shape
              clear hX3 HX1
              go_wp2_with fail
              go_roundg g
              case measure => omega
              case rel => exact ⟨1, by go_num, by have := HG.out; omega, by show Bo wb w3 _ (l1 ++ (be 8 st).take (0 + 1)); rw [HS.out, ← List.append_assoc, HLi.out]; exact HX3.out⟩
            · go_wp2_with (at_builtin; go_must (refine wpl_bo (wb := wb) rfl (.tmp 51) (.tmp 56) rfl _ li rfl wr.heap.size 1 [st / 281474976710656 % 256] rfl ?c1 ?c2 ?c3 ?_))
              case c1 => have := HLl.out; (try simp only [List.length_cons, List.length_nil]); omega
              case c2 => exact HX1.out _
              case c3 => rw [heap_last _ _ _ rfl]; simp [by8]; try omega
              intro v' w3 hX3
              have HX3 := hid hX3
              obtain ⟨ao3, cap3, rfl⟩ := hX3.shape
              clear hX3 HX1
              go_wp2_with fail
              go_roundg g
              case measure => omega
              case rel => exact ⟨2, by go_num, by have := HG.out; omega, by show Bo wb w3 _ (l1 ++ (be 8 st).take (1 + 1)); rw [HS.out, ← List.append_assoc, HLi.out]; exact HX3.out⟩
            · go_wp2_with (at_builtin; go_must (refine wpl_bo (wb := wb) rfl (.tmp 51) (.tmp 56) rfl _ li rfl wr.heap.size 1 [st / 1099511627776 % 256] rfl ?c1 ?c2 ?c3 ?_))
              case c1 => have := HLl.out; (try simp only [List.length_cons, List.length_nil]); omega
              case c2 => exact HX1.out _
              case c3 => rw [heap_last _ _ _ rfl]; simp [by8]; try omega
              intro v' w3 hX3
              have HX3 := hid hX3
              obtain ⟨ao3, cap3, rfl⟩ := hX3.shape
              clear hX3 HX1
              go_wp2_with fail
              go_roundg g
              case measure => omega
              case rel => exact ⟨3, by go_num, by have := HG.out; omega, by show Bo wb w3 _ (l1 ++ (be 8 st).take (2 + 1)); rw [HS.out, ← List.append_assoc, HLi.out]; exact HX3.out⟩
            · go_wp2_with (at_builtin; go_must (refine wpl_bo (wb := wb) rfl (.tmp 51) (.tmp 56) rfl _ li rfl wr.heap.size 1 [st / 4294967296 % 256] rfl ?c1 ?c2 ?c3 ?_))
              case c1 => have := HLl.out; (try simp only [List.length_cons, List.length_nil]); omega
              case c2 => exact HX1.out _
              case c3 => rw [heap_last _ _ _ rfl]; simp [by8]; try omega
              intro v' w3 hX3
              have HX3 := hid hX3
              obtain ⟨ao3, cap3, rfl⟩ := hX3.shape
              clear hX3 HX1
              go_wp2_with fail
              go_roundg g
              case measure => omega
              case rel => exact ⟨4, by go_num, by have := HG.out; omega, by show Bo wb w3 _ (l1 ++ (be 8 st).take (3 + 1)); rw [HS.out, ← List.append_assoc, HLi.out]; exact HX3.out⟩
            · go_wp2_with (at_builtin; go_must (refine wpl_bo (wb := wb) rfl (.tmp 51) (.tmp 56) rfl _ li rfl wr.heap.size 1 [st / 16777216 % 256] rfl ?c1 ?c2 ?c3 ?_))
              case c1 => have := HLl.out; (try simp only [List.length_cons, List.length_nil]); omega
              case c2 => exact HX1.out _
              case c3 => rw [heap_last _ _ _ rfl]; simp [by8]; try omega
              intro v' w3 hX3
              have HX3 := hid hX3
              obtain ⟨ao3, cap3, rfl⟩ := hX3.shape
              clear hX3 HX1
              go_wp2_with fail
              go_roundg g
              case measure => omega
              case rel => exact ⟨5, by go_num, by have := HG.out; omega, by show Bo wb w3 _ (l1 ++ (be 8 st).take (4 + 1)); rw [HS.out, ← List.append_assoc, HLi.out]; exact HX3.out⟩
            · go_wp2_with (at_builtin; go_must (refine wpl_bo (wb := wb) rfl (.tmp 51) (.tmp 56) rfl _ li rfl wr.heap.size 1 [st / 65536 % 256] rfl ?c1 ?c2 ?c3 ?_))
              case c1 => have := HLl.out; (try simp only [List.length_cons, List.length_nil]); omega
              case c2 => exact HX1.out _
              case c3 => rw [heap_last _ _ _ rfl]; simp [by8]; try omega
              intro v' w3 hX3
              have HX3 := hid hX3
              obtain ⟨ao3, cap3, rfl⟩ := hX3.shape
              clear hX3 HX1
              go_wp2_with fail
              go_roundg g
              case measure => omega
              case rel => exact ⟨6, by go_num, by have := HG.out; omega, by show Bo wb w3 _ (l1 ++ (be 8 st).take (5 + 1)); rw [HS.out, ← List.append_assoc, HLi.out]; exact HX3.out⟩
            · go_wp2_with (at_builtin; go_must (refine wpl_bo (wb := wb) rfl (.tmp 51) (.tmp 56) rfl _ li rfl wr.heap.size 1 [st / 256 % 256] rfl ?c1 ?c2 ?c3 ?_))
              case c1 => have := HLl.out; (try simp only [List.length_cons, List.length_nil]); omega
              case c2 => exact HX1.out _
              case c3 => rw [heap_last _ _ _ rfl]; simp [by8]; try omega
              intro v' w3 hX3
              have HX3 := hid hX3
              obtain ⟨ao3, cap3, rfl⟩ := hX3.shape
              clear hX3 HX1
              go_wp2_with fail
              go_roundg g
              case measure => omega
              case rel => exact ⟨7, by go_num, by have := HG.out; omega, by show Bo wb w3 _ (l1 ++ (be 8 st).take (6 + 1)); rw [HS.out, ← List.append_assoc, HLi.out]; exact HX3.out⟩
            · go_wp2_with (at_builtin; go_must (refine wpl_bo (wb := wb) rfl (.tmp 51) (.tmp 56) rfl _ li rfl wr.heap.size 1 [st % 256] rfl ?c1 ?c2 ?c3 ?_))
              case c1 => have := HLl.out; (try simp only [List.length_cons, List.length_nil]); omega
              case c2 => exact HX1.out _
              case c3 => rw [heap_last _ _ _ rfl]; simp [by8]; try omega
              intro v' w3 hX3
              have HX3 := hid hX3
              obtain ⟨ao3, cap3, rfl⟩ := hX3.shape
              clear hX3 HX1
              go_wp2_with fail
              go_roundg g
              case measure => omega
              case rel => exact ⟨8, by go_num, by have := HG.out; omega, by show Bo wb w3 _ (l1 ++ (be 8 st).take (7 + 1)); rw [HS.out, ← List.append_assoc, HLi.out, show st / 2 ^ (56 - 8 * 7) = st from by simp]; exact HX3.out⟩

      | succ g =>
        have hi : i < k.size := by omega
        have t1 : (i : Int) < (k.size : Int) := by omega
        have HG := hid hg
        have hx := nums8_at hi
        have hxl := nums8_lt k i
        have HT := hid (nums8_take hi)
        generalize (nums8 k).getD i 0 = x at *
        have HX1 := hid (HXi.out.fr (alloc_fr wr (.cells #[.int .u8 (x : Int)] 5) (fun _ => False)))
        clear hg HXi
        go_wp2_with (at_builtin; go_must (refine wpl_bo (wb := wb) rfl (.tmp 24) (.tmp 29) rfl _ li rfl wr.heap.size 1 [x] rfl ?c1 ?c2 ?c3 ?_))
        case c1 => have := HLl.out; (try simp only [List.length_cons, List.length_nil]); omega
        case c2 => exact HX1.out
        case c3 => rw [heap_last _ _ _ rfl]; simp [by8]
        intro v' w3 hX3
        have HX3 := hid hX3
        obtain ⟨ao3, cap3, rfl⟩ := hX3.shape
        obtain ⟨_, d1, d2, d3⟩ := HC.out _ hX3.2
        clear hX3 HX1 c1 c2 c3
        by_cases h0 : x = 0
        · subst h0
          have HN : Hid (n :: esc ((nums8 k).take (i + 1)) = (li ++ [0]) ++ [255]) := by
            show _ = _
            rw [HT.out, esc_append, ← HLi.out]
            simp [esc]
          clear HT HLi
          have HX4 := hid (HX3.out.fr (alloc_fr w3 (.cells #[.int .u8 255] 5) (fun _ => False)))
          generalize hl5 : li ++ [0] = l5 at *
          have hl5l : l5.length ≤ 66 := by rw [← hl5]; have := HLl.out; simp; omega
          clear hl5
          go_wp2_with (at_builtin; go_must (refine wpl_bo (wb := wb) rfl (.tmp 36) (.tmp 37) rfl _ l5 rfl w3.heap.size 1 [255] rfl ?c1 ?c2 ?c3 ?_))
          case c1 => (try simp only [List.length_cons, List.length_nil]); omega
          case c2 => exact HX4.out
          case c3 => rw [heap_last _ _ _ rfl]; simp [by8]
          intro v5 w5 hX5
          have HX5 := hid hX5
          obtain ⟨ao5, cap5, rfl⟩ := hX5.shape
          clear hX5 HX4 HX3
          go_wp2_with fail
          go_roundg g
          case measure => omega
          case rel => exact ⟨i + 1, by go_num, by have := HG.out; omega, by show Bo wb w5 _ _; rw [HN.out]; exact HX5.out⟩
        · have HN : Hid (n :: esc ((nums8 k).take (i + 1)) = li ++ [x]) := by
            show _ = _
            rw [HT.out, esc_append, ← HLi.out]
            simp [esc, h0]
          have t0 : ((x : Int) == 0) = false := by simp; omega
          clear HT HLi
          go_wp2_with fail
          go_roundg g
          case measure => omega
          case rel => exact ⟨i + 1, by go_num, by have := HG.out; omega, by show Bo wb w3 _ _; rw [HN.out]; exact HX3.out⟩
  · have hk2 : key c = ⟨#[]⟩ := by rw [HKy.out, if_neg hm]
    rw [hk2]
    clear hk2 HKy
    generalize mE c = m at *
    have t1 : (m != 0) = true := by simpa using hm
    obtain ⟨v, k, s⟩ := c
    unfold vC at HCk ⊢
    dsimp only at *
    go_enter Try.func22, Try.ntmps22
    go_wp2_with fail
    refine (HCk.out _).mono ?_
    rintro e w1 ⟨rfl, hf1⟩
    have HF0 := hid ((alloc_fr w _ (fun _ => False)).trans hf1)
    clear hf1
    go_wp2_with fail
    go_ret2
    exact ⟨rfl, HF0.out⟩
end Go.Proofs.Ytilgkfpicdmkkaa.M
