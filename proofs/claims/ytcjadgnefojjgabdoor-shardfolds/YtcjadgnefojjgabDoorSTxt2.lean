/- shard: text: a walk. -/
import Derived.Test.YtcjadgnefojjgabDoorSTxt
namespace Go.Proofs.YtcjadgnefojjgabDoor.S
open Go.RowKit

/-- The first so many of the eight bytes. -/
theorem be8_step (n i : Nat) (hi : i < 8) : (be8 n).take (i + 1) = (be8 n).take i ++ [n / 2 ^ (56 - 8 * i) % 256] := by
  match i, hi with
  | 0, _ => rfl
  | 1, _ => rfl
  | 2, _ => rfl
  | 3, _ => rfl
  | 4, _ => rfl
  | 5, _ => rfl
  | 6, _ => rfl
  | 7, _ => simp [be8]

theorem Bo.lit (w wx : World) (n : Nat) (hf : Fr w wx (fun _ => False)) (x : Value) (hx : x = .int .u8 (n : Int)) : Bo w (wx.alloc (.cells #[x] 5)) (.slice (some ⟨wx.heap.size, 0, none⟩) 1 1) [n] := by
  subst hx
  exact ⟨own_mono (lit_own wx [n] #[.int .u8 (n : Int)] 5 1 rfl rfl (by decide)) hf.size, hf.trans (alloc_fr _ _ _)⟩

theorem wp_bo_str {W wb : World} {o : Oper} {a : Act} {K : Act → World → Prop} {Q : Exit → Act → World → Prop} (sl x : Operand)
    (ho : o.op = .call { callee := .builtin .append, args := #[sl, x], argTypes := #[54, 9] }) (v : Value) (l : List Nat) (hs : a.eval sl = v) (s : ByteArray) (hx : a.eval x = .string s) (hn : l.length + s.size ≤ 100000) (hb : Bo wb W v l)
    (h : ∀ v' w', Bo wb w' v' (l ++ nums8 s) → K (a.put o.dst v') w') : o.wp Tryd.prog a W K Q := by
  obtain ⟨i0, hi, hz0, hz1, hz2⟩ := info_parts Tryd.info_u8
  refine wp_append_str_at W sl x 54 9 ho wb.heap.size 5 i0 Tryd.underlying54 Tryd.underlying9 hi hz0 hz1 hz2 v l.length (by8 l) hs hb.1 s hx (by omega) hb.2.size ?_
  intro v' w' hown hgr
  refine h v' w' (hb.grown ?_ hgr)
  rw [nums8_cells, ← by8_append] at hown
  rw [List.length_append, nums8_length]
  exact hown

theorem wpl_bo {W wb : World} {ops : Array Oper} {rest : List Oper} {o : Oper} {a : Act} {Q : Exit → Act → World → Prop} (hgd : o.guard = none) (sl x : Operand)
    (ho : o.op = .call { callee := .builtin .append, args := #[sl, x], argTypes := #[54, 54] }) (v : Value) (l : List Nat) (hs : a.eval sl = v) (N c : Nat) (ys : List Nat) (hx : a.eval x = .slice (some ⟨N, 0, none⟩) ys.length c) (hn : l.length + ys.length ≤ 100000) (hb : Bo wb W v l) (hy : W.heap[N]? = some (.cells (by8 ys).toArray 5 (0, 0)))
    (h : ∀ v' w', Bo wb w' v' (l ++ ys) → wpList Tryd.prog ops Q rest (a.put o.dst v') w') : wpList Tryd.prog ops Q (o :: rest) a W := by
  obtain ⟨i0, hi, hz0, hz1, hz2⟩ := info_parts Tryd.info_u8
  refine wpList_append_own_at W hgd sl x 54 ho wb.heap.size 5 i0 (.int .u8 0) 1 1 Tryd.underlying54 hi hz0 hz1 hz2 rfl (by decide) v l.length (by8 l) hs hb.1 ⟨N, 0, none⟩ ys.length c (by8 ys) hx (by rw [by8_length, Nat.mul_one]) ?_ (by8_one ys) (by unfold maxLen; omega) (by omega) hb.2.size ?_
  · intro j u hj
    rw [Addr.add_lit, Nat.zero_add, cell_of_row W N j _ _ (0, 0) hy]
    simpa using hj
  · intro v' w' hown hgr _ _
    refine h v' w' (hb.grown ?_ hgr)
    rw [← by8_append] at hown
    rw [List.length_append]
    exact hown

set_option maxHeartbeats 4000000 in
set_option maxRecDepth 100000 in
theorem text_any (c : Cl) (w : World) (hm : mayE c = 0) (hg : Gl w) :
    Calls Tryd.prog 33 #[.agg #[.int .i64 c.v, .string c.k, .int .i64 c.s]] w fun e w' => e = .returned (.string (key c)) ∧ Fr w w' (fun _ => False) := by
  obtain ⟨⟨m1, m2⟩, ⟨_, m3⟩, m4, m5⟩ := mayE_zero hm
  have HXor := hid (xor_sign c.s m4 m5)
  have HKey : Hid (key c = str8 (c.v.toNat :: (esc (nums8 c.k) ++ (0 :: 0 :: be8 (c.s + 9223372036854775808).toNat)))) := rfl
  have HEl := hid (esc_le (nums8 c.k))
  have HEn : Hid ((nums8 c.k).length ≤ 32) := by show _ ≤ _; rw [nums8_length]; exact m3
  have HSz : Hid ((⟨(esc8 c.k.data.toList).toArray⟩ : ByteArray).size ≤ 64) := by
    have h1 := HEl.out
    have h2 := HEn.out
    have h3 : (⟨(esc8 c.k.data.toList).toArray⟩ : ByteArray).size = (esc (nums8 c.k)).length := by rw [nums8, ← esc8_nums]; simp [ByteArray.size]
    show _ ≤ 64
    omega
  generalize key c = kk at *
  obtain ⟨v, k, s⟩ := c
  dsimp only at *
  obtain ⟨n, rfl⟩ : ∃ n : Nat, v = (n : Int) := ⟨v.toNat, by omega⟩
  rw [show ((n : Int)).toNat = n by omega] at HKey
  have HRep := hid (fun (W : World) (hf : Fr w W (fun _ => False)) => replace_any k W (hg.fr hf (fun h => h)) m3)
  have HWr : Hid (Value.int .u8 (IntKind.u8.wrap (n : Int)) = .int .u8 (n : Int)) := by show _ = _; rw [show IntKind.u8.wrap (n : Int) = (n : Int) % 256 by simp [IntKind.wrap, IntKind.bits, IntKind.signed], show (n : Int) % 256 = n by omega]
  have HST : Hid ((s + 9223372036854775808).toNat < 18446744073709551616) := by show _ < _; omega
  generalize (s + 9223372036854775808).toNat = st at *
  clear hm hg m3
  obtain ⟨i0, hi, hz0, hz1, hz2⟩ := info_parts Tryd.info_u8
  go_enter Tryd.func33, Tryd.ntmps33
  go_wp2_with fail
  have HB0 := hid (heap_last w (.cells #[.int .i64 (n : Int), .string k, .int .i64 s] 23) _ rfl)
  have HF0 := hid (alloc_fr w (.cells #[.int .i64 (n : Int), .string k, .int .i64 s] 23) (fun _ => False))
  have HC := hid (fun (W' : World) (hf : Fr (w.alloc (.cells #[.int .i64 (n : Int), .string k, .int .i64 s] 23)) W' (fun _ => False)) => (show W'.cell? ⟨w.heap.size, 0, none⟩ = some (.int .i64 (n : Int)) ∧ W'.cell? ⟨w.heap.size, 1, none⟩ = some (.string k) ∧ W'.cell? ⟨w.heap.size, 2, none⟩ = some (.int .i64 s) from cells3 ((hf.block _ (lt_of_block HB0.out) (fun h => h)).trans HB0.out)))
  generalize w.alloc (.cells #[.int .i64 (n : Int), .string k, .int .i64 s] 23) = wb at *
  have HFb := hid (Fr.refl wb (fun _ => False))
  go_cut [3] (fun sl wx => Hid (Bo wb wx sl (n :: esc (nums8 k))))
  case first =>
    have HF := hid (Fr.refl wb (fun _ => False))
    go_region_held3 (fun W' => Hid (Fr wb W' (fun _ => False)) ∧ W'.cell? ⟨w.heap.size, 0, none⟩ = some (.int .i64 (n : Int)) ∧ W'.cell? ⟨w.heap.size, 1, none⟩ = some (.string k))
      ((refine (fun h => ⟨h, (HC.out _ h).1, (HC.out _ h).2.1⟩ : Fr wb _ (fun _ => False) → _) ?_; repeat (first | with_reducible exact HF.out | with_reducible exact Fr.refl _ _ | with_reducible apply Fr.drew | with_reducible apply Fr.alloc)))
      ((first
        | (go_at_call 46; refine (HRep.out _ (HF0.out.trans (by repeat (first | with_reducible exact HF.out | with_reducible exact Fr.refl _ _ | with_reducible apply Fr.drew | with_reducible apply Fr.alloc)))).mono ?_; rintro e w1 ⟨rfl, hf⟩; (try (have HZ := hid (Bo.fr (by first | exact Bo.lit wb _ n (by repeat (first | with_reducible exact Fr.refl _ _ | with_reducible apply Fr.drew)) _ HWr.out | exact (Bo.lit wb _ n (by repeat (first | with_reducible exact Fr.refl _ _ | with_reducible apply Fr.drew)) _ HWr.out).fr ((Fr.refl _ _).drew)) hf))); have HF := hid (Fr.trans (a := wb) (by repeat (first | with_reducible exact HF.out | with_reducible exact Fr.refl _ _ | with_reducible apply Fr.drew | with_reducible apply Fr.alloc)) hf); clear hf)
        | (refine wp_bo_str (wb := wb) (.tmp 9) (.tmp 12) rfl _ [n] rfl ⟨(esc8 k.data.toList).toArray⟩ rfl (by have := HSz.out; simp only [List.length_cons, List.length_nil]; omega) (by first | exact HZ.out | exact HZ.out.fr ((Fr.refl _ _).drew) | exact Bo.lit wb _ n HF.out _ HWr.out | exact Bo.lit wb _ n (HF.out.drew) _ HWr.out) ?_; intro v' w2 hX; have HX := hid hX; have HF := hid hX.2; clear hX)))
    all_goals (go_wp2_with fail)
    all_goals go_meet
    all_goals (
      have h := HX.out
      rw [show nums8 ⟨(esc8 k.data.toList).toArray⟩ = esc (nums8 k) from by rw [nums8, nums8, ← esc8_nums]] at h
      exact h)
  case rest =>
    have HX := hcut
    obtain ⟨_, _, hc2⟩ := HC.out _ HX.out.2
    obtain ⟨ao, cap, hsl⟩ := HX.out.shape
    have hwl := lt_of_block HB0.out
    have HLn : Hid ((n :: esc (nums8 k)).length ≤ 65) := by
      have h1 := HEl.out
      have h2 := HEn.out
      show _ ≤ 65
      simp only [List.length_cons]
      omega
    generalize hl0 : n :: esc (nums8 k) = l0 at *
    have HL0 := hid hl0
    subst hsl
    clear hl0 hi hz0 hz1 hz2 hcut
    go_wp2_with (at_builtin; go_must (refine wpl_bo (wb := wb) rfl (.tmp 14) (.tmp 15) rfl _ l0 rfl wc.heap.size 2 [0, 0] rfl ?c1 ?c2 ?c3 ?_))
    case c1 => have := HLn.out; simp only [List.length_cons, List.length_nil]; omega
    case c2 => exact HX.out.fr (alloc_fr _ _ _)
    case c3 => exact heap_last _ _ _ rfl
    intro v' w2 hX2
    have HX2 := hid hX2
    obtain ⟨_, _, hc3⟩ := HC.out _ hX2.2
    obtain ⟨ao2, cap2, hsl⟩ := hX2.shape
    have hwl2 : w.heap.size < w2.heap.size := Nat.lt_of_lt_of_le (lt_of_block HB0.out) hX2.2.size
    clear hc2 HX hwl hX2
    generalize hl1 : l0 ++ [0, 0] = l1 at *
    have HL1 := hid hl1
    subst hsl
    clear hl1
    go_wp2_with fail
    rw [HXor.out]
    go_loopg [3, 5] 8 (fun gk s3 s5 wx => ∃ i : Nat, s5 = .int .i64 (56 - 8 * (i : Int)) ∧ i + gk = 8 ∧ Hid (Bo wb wx s3 (l1 ++ (be8 st).take i)))
    case atStart => exact ⟨0, rfl, by omega, by show Bo _ _ _ (l1 ++ []); rw [List.append_nil]; exact HX2.out⟩
    case round =>
      obtain ⟨i, rfl, hg, HXi⟩ := hrel
      obtain ⟨aoi, capi, hsl⟩ := HXi.out.shape
      generalize hli : l1 ++ (be8 st).take i = li at *
      have HLi := hid hli
      subst hsl
      clear hli hc3 hwl2
      have HLl : Hid (li.length ≤ 80) := by
        have h1 := HLn.out
        have h2 : l1.length = l0.length + 2 := by rw [← HL1.out]; simp
        show _ ≤ _
        rw [← HLi.out, List.length_append, List.length_take, be8_len]
        omega
      cases gk with
      | zero =>
        obtain rfl : i = 8 := by omega
        clear hg
        have hcv := run_str8 Tryd.underlying54 Tryd.underlying5 Tryd.underlying9 (own_bs HXi.out.1)
        rw [show (56 : Int) - 8 * ((8 : Nat) : Int) = -8 from rfl]
        go_wp2_with fail
        go_ret
        refine ⟨congrArg (fun x => Ending.returned (.string x)) ?_, HF0.out.trans HXi.out.2⟩
        rw [HKey.out, ← HLi.out, ← HL1.out, ← HL0.out]
        simp [be8]
      | succ g =>
        have HG := hid hg
        have hi8 : i < 8 := by omega
        have HS := hid (be8_step st i hi8)
        have HX1 := hid (fun (x : Value) => HXi.out.fr (alloc_fr wr (.cells #[x] 5) (fun _ => False)))
        have HSt := HST.out
        clear hg
        have hcases : i = 0 ∨ i = 1 ∨ i = 2 ∨ i = 3 ∨ i = 4 ∨ i = 5 ∨ i = 6 ∨ i = 7 := by omega
        rcases hcases with rfl | rfl | rfl | rfl | rfl | rfl | rfl | rfl
        · go_wp2_with (at_builtin; go_must (refine wpl_bo (wb := wb) rfl (.tmp 25) (.tmp 30) rfl _ li rfl wr.heap.size 1 [st / 72057594037927936 % 256] rfl ?c1 ?c2 ?c3 ?_))
          case c1 => have := HLl.out; simp only [List.length_cons, List.length_nil]; omega
          case c2 => exact HX1.out _
          case c3 => rw [heap_last _ _ _ rfl]; simp [by8]; try omega
          intro v' w3 hX3
          have HX3 := hid hX3
          obtain ⟨ao3, cap3, rfl⟩ := hX3.shape
          clear hX3 HX1
          go_wp2_with fail
          go_roundg g
          case measure => omega
          case rel => exact ⟨1, by go_num, by have := HG.out; omega, by show Bo wb w3 _ (l1 ++ (be8 st).take (0 + 1)); rw [HS.out, ← List.append_assoc, HLi.out]; exact HX3.out⟩
        · go_wp2_with (at_builtin; go_must (refine wpl_bo (wb := wb) rfl (.tmp 25) (.tmp 30) rfl _ li rfl wr.heap.size 1 [st / 281474976710656 % 256] rfl ?c1 ?c2 ?c3 ?_))
          case c1 => have := HLl.out; simp only [List.length_cons, List.length_nil]; omega
          case c2 => exact HX1.out _
          case c3 => rw [heap_last _ _ _ rfl]; simp [by8]; try omega
          intro v' w3 hX3
          have HX3 := hid hX3
          obtain ⟨ao3, cap3, rfl⟩ := hX3.shape
          clear hX3 HX1
          go_wp2_with fail
          go_roundg g
          case measure => omega
          case rel => exact ⟨2, by go_num, by have := HG.out; omega, by show Bo wb w3 _ (l1 ++ (be8 st).take (1 + 1)); rw [HS.out, ← List.append_assoc, HLi.out]; exact HX3.out⟩
        · go_wp2_with (at_builtin; go_must (refine wpl_bo (wb := wb) rfl (.tmp 25) (.tmp 30) rfl _ li rfl wr.heap.size 1 [st / 1099511627776 % 256] rfl ?c1 ?c2 ?c3 ?_))
          case c1 => have := HLl.out; simp only [List.length_cons, List.length_nil]; omega
          case c2 => exact HX1.out _
          case c3 => rw [heap_last _ _ _ rfl]; simp [by8]; try omega
          intro v' w3 hX3
          have HX3 := hid hX3
          obtain ⟨ao3, cap3, rfl⟩ := hX3.shape
          clear hX3 HX1
          go_wp2_with fail
          go_roundg g
          case measure => omega
          case rel => exact ⟨3, by go_num, by have := HG.out; omega, by show Bo wb w3 _ (l1 ++ (be8 st).take (2 + 1)); rw [HS.out, ← List.append_assoc, HLi.out]; exact HX3.out⟩
        · go_wp2_with (at_builtin; go_must (refine wpl_bo (wb := wb) rfl (.tmp 25) (.tmp 30) rfl _ li rfl wr.heap.size 1 [st / 4294967296 % 256] rfl ?c1 ?c2 ?c3 ?_))
          case c1 => have := HLl.out; simp only [List.length_cons, List.length_nil]; omega
          case c2 => exact HX1.out _
          case c3 => rw [heap_last _ _ _ rfl]; simp [by8]; try omega
          intro v' w3 hX3
          have HX3 := hid hX3
          obtain ⟨ao3, cap3, rfl⟩ := hX3.shape
          clear hX3 HX1
          go_wp2_with fail
          go_roundg g
          case measure => omega
          case rel => exact ⟨4, by go_num, by have := HG.out; omega, by show Bo wb w3 _ (l1 ++ (be8 st).take (3 + 1)); rw [HS.out, ← List.append_assoc, HLi.out]; exact HX3.out⟩
        · go_wp2_with (at_builtin; go_must (refine wpl_bo (wb := wb) rfl (.tmp 25) (.tmp 30) rfl _ li rfl wr.heap.size 1 [st / 16777216 % 256] rfl ?c1 ?c2 ?c3 ?_))
          case c1 => have := HLl.out; simp only [List.length_cons, List.length_nil]; omega
          case c2 => exact HX1.out _
          case c3 => rw [heap_last _ _ _ rfl]; simp [by8]; try omega
          intro v' w3 hX3
          have HX3 := hid hX3
          obtain ⟨ao3, cap3, rfl⟩ := hX3.shape
          clear hX3 HX1
          go_wp2_with fail
          go_roundg g
          case measure => omega
          case rel => exact ⟨5, by go_num, by have := HG.out; omega, by show Bo wb w3 _ (l1 ++ (be8 st).take (4 + 1)); rw [HS.out, ← List.append_assoc, HLi.out]; exact HX3.out⟩
        · go_wp2_with (at_builtin; go_must (refine wpl_bo (wb := wb) rfl (.tmp 25) (.tmp 30) rfl _ li rfl wr.heap.size 1 [st / 65536 % 256] rfl ?c1 ?c2 ?c3 ?_))
          case c1 => have := HLl.out; simp only [List.length_cons, List.length_nil]; omega
          case c2 => exact HX1.out _
          case c3 => rw [heap_last _ _ _ rfl]; simp [by8]; try omega
          intro v' w3 hX3
          have HX3 := hid hX3
          obtain ⟨ao3, cap3, rfl⟩ := hX3.shape
          clear hX3 HX1
          go_wp2_with fail
          go_roundg g
          case measure => omega
          case rel => exact ⟨6, by go_num, by have := HG.out; omega, by show Bo wb w3 _ (l1 ++ (be8 st).take (5 + 1)); rw [HS.out, ← List.append_assoc, HLi.out]; exact HX3.out⟩
        · go_wp2_with (at_builtin; go_must (refine wpl_bo (wb := wb) rfl (.tmp 25) (.tmp 30) rfl _ li rfl wr.heap.size 1 [st / 256 % 256] rfl ?c1 ?c2 ?c3 ?_))
          case c1 => have := HLl.out; simp only [List.length_cons, List.length_nil]; omega
          case c2 => exact HX1.out _
          case c3 => rw [heap_last _ _ _ rfl]; simp [by8]; try omega
          intro v' w3 hX3
          have HX3 := hid hX3
          obtain ⟨ao3, cap3, rfl⟩ := hX3.shape
          clear hX3 HX1
          go_wp2_with fail
          go_roundg g
          case measure => omega
          case rel => exact ⟨7, by go_num, by have := HG.out; omega, by show Bo wb w3 _ (l1 ++ (be8 st).take (6 + 1)); rw [HS.out, ← List.append_assoc, HLi.out]; exact HX3.out⟩
        · go_wp2_with (at_builtin; go_must (refine wpl_bo (wb := wb) rfl (.tmp 25) (.tmp 30) rfl _ li rfl wr.heap.size 1 [st / 1 % 256] rfl ?c1 ?c2 ?c3 ?_))
          case c1 => have := HLl.out; simp only [List.length_cons, List.length_nil]; omega
          case c2 => exact HX1.out _
          case c3 => rw [heap_last _ _ _ rfl]; simp [by8]; try omega
          intro v' w3 hX3
          have HX3 := hid hX3
          obtain ⟨ao3, cap3, rfl⟩ := hX3.shape
          clear hX3 HX1
          go_wp2_with fail
          go_roundg g
          case measure => omega
          case rel => exact ⟨8, by go_num, by have := HG.out; omega, by show Bo wb w3 _ (l1 ++ (be8 st).take (7 + 1)); rw [HS.out, ← List.append_assoc, HLi.out, show st / 2 ^ (56 - 8 * 7) % 256 = st % 256 by simp]; exact HX3.out⟩
end Go.Proofs.YtcjadgnefojjgabDoor.S
