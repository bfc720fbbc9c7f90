import Derived.Test.YtilgkfpicdmkkaaMCut
import Derived.Handy
/- merge: startOf, Cell: walks. -/
namespace Go.Proofs.Ytilgkfpicdmkkaa.M
open Go.RowKit

theorem or_b8 (m b : Nat) (hm : m < 72057594037927936) (hb : b < 256) : Go.bits .or .u64 (IntKind.u64.wrap ((m : Int) * 256)) (b : Int) = ((m * 256 + b : Nat) : Int) := by
  have e : IntKind.u64.wrap ((m : Int) * 256) = ((m * 256 : Nat) : Int) := by rw [IntKind.wrap_u64]; omega
  rw [e, bits_or_u64_nat _ _ (by omega) (by omega)]
  have h : b < 2 ^ 8 := hb
  have := Nat.shiftLeft_add_eq_or_of_lt h m
  rw [Nat.shiftLeft_eq] at this
  rw [← this]
theorem num_take {s : ByteArray} {i : Nat} (h : i < s.size) : num ((nums8 s).take (i + 1)) = num ((nums8 s).take i) * 256 + (nums8 s).getD i 0 := by
  rw [nums8_take h, num_snoc]
theorem num_take_lt (s : ByteArray) (i : Nat) (h : i ≤ 7) : num ((nums8 s).take i) < 72057594037927936 := by
  have h1 := num_lt ((nums8 s).take i) (fun x hx => nums8_byte s x (List.mem_of_mem_take hx))
  have h2 : 256 ^ ((nums8 s).take i).length ≤ 256 ^ 7 := Nat.pow_le_pow_right (by decide) (by rw [List.length_take]; omega)
  have h3 : (256 : Nat) ^ 7 = 72057594037927936 := by decide
  omega
theorem xor_back (n : Nat) (h : n < 18446744073709551616) : wrap64 (Go.bits .xor .u64 (n : Int) 9223372036854775808) = (n : Int) - 9223372036854775808 := by
  rw [show (9223372036854775808 : Int) = ((9223372036854775808 : Nat) : Int) from rfl, bits_xor_u64_nat n 9223372036854775808 h (by decide), xor_top n h]
  unfold wrap64
  split <;> omega

set_option maxHeartbeats 1000000 in
set_option maxRecDepth 100000 in
theorem start_any (s : ByteArray) (w : World) (hs : s.size = 8) :
    Calls Try.prog 40 #[.string s] w fun e w' => e = .returned (.int .i64 ((num (nums8 s) : Int) - 9223372036854775808)) ∧ w' = w := by
  have HN : Hid (num ((nums8 s).take 8) = num (nums8 s)) := by
    show _ = _
    rw [List.take_of_length_le (by rw [nums8_length]; omega)]
  have HB := hid (xor_back (num (nums8 s)) (by
    have h1 := num_lt (nums8 s) (nums8_byte s)
    rw [nums8_length, hs] at h1
    have h3 : (256 : Nat) ^ 8 = 18446744073709551616 := by decide
    omega))
  generalize num (nums8 s) = R at *
  go_enter Try.func40, Try.ntmps40
  go_wp2_with fail
  go_loopg [3, 5] 8 (fun g s3 s5 wx => ∃ i : Nat, s5 = .int .i64 (i : Int) ∧ s3 = .int .u64 (num ((nums8 s).take i) : Int) ∧ i + g = 8 ∧ wx = w)
  case atStart => exact ⟨0, rfl, rfl, by omega, rfl⟩
  case round =>
    obtain ⟨i, rfl, rfl, hg, rfl⟩ := hrel
    cases gk with
    | zero =>
      obtain rfl : i = 8 := by omega
      rw [HN.out]
      go_wp2_with fail
      go_ret
      exact ⟨by rw [← HB.out]; rfl, rfl⟩
    | succ g =>
      have hi : i < s.size := by omega
      have t1 : (i : Int) < 8 := by omega
      have t2 : (i : Int) < (s.size : Int) := by omega
      have HG := hid hg
      have hx := nums8_at hi
      have hxl := nums8_lt s i
      have HT := hid (num_take hi)
      have HO := hid (or_b8 (num ((nums8 s).take i)) ((nums8 s).getD i 0) (num_take_lt s i (by omega)) hxl)
      generalize (nums8 s).getD i 0 = x at *
      generalize num ((nums8 s).take i) = m at *
      clear hg
      go_wp2_with fail
      go_roundg g
      case measure => omega
      case rel => exact ⟨i + 1, by go_num, by rw [HT.out, HO.out], by have := HG.out; omega, rfl⟩

theorem str_ne {a b : ByteArray} (h : a ≠ b) : (a.toList == b.toList) = false := by
  rw [beq_eq_false_iff_ne]
  intro e
  rw [ByteArray.toList_eq, ByteArray.toList_eq] at e
  apply h
  exact ByteArray.ext (Array.toList_inj.1 e)
theorem nums8_cons {s : ByteArray} (h : 0 < s.size) : nums8 s = (nums8 s).getD 0 0 :: nums8 (s.extract 1 s.size) := by
  rw [nums8_extract, ← drop_at h, List.drop_zero]
theorem cell_eq (v : Nat) (t : List Nat) : cell (v :: t) =
    if (cut t).1 ≠ 0 then ((cut t).1, c0) else if (cut t).2.2.length < 8 then (11, c0) else if 8 < (cut t).2.2.length then (13, c0) else
    if mE ⟨v, str8 (cut t).2.1, (num (cut t).2.2 : Int) - 9223372036854775808⟩ = 0 then (0, ⟨v, str8 (cut t).2.1, (num (cut t).2.2 : Int) - 9223372036854775808⟩) else (mE ⟨v, str8 (cut t).2.1, (num (cut t).2.2 : Int) - 9223372036854775808⟩, c0) := by
  have eC : cellE (v :: t) = if (cut t).1 ≠ 0 then ((cut t).1, c0) else if (cut t).2.2.length < 8 then (11, c0) else if 8 < (cut t).2.2.length then (13, c0) else (mE ⟨v, str8 (cut t).2.1, (num (cut t).2.2 : Int) - 9223372036854775808⟩, ⟨v, str8 (cut t).2.1, (num (cut t).2.2 : Int) - 9223372036854775808⟩) := rfl
  unfold cell
  rw [eC]
  by_cases h1 : (cut t).1 ≠ 0
  · simp only [if_pos h1]
    rw [if_neg h1]
  · simp only [if_neg h1]
    by_cases h2 : (cut t).2.2.length < 8
    · simp only [if_pos h2]
      rfl
    · simp only [if_neg h2]
      by_cases h3 : 8 < (cut t).2.2.length
      · simp only [if_pos h3]
        rfl
      · simp only [if_neg h3]
        by_cases h4 : mE ⟨v, str8 (cut t).2.1, (num (cut t).2.2 : Int) - 9223372036854775808⟩ = 0
        · rw [if_pos h4, if_pos h4, h4]
        · rw [if_neg h4, if_neg h4]
theorem cut_bytes (n : Nat) : ∀ l : List Nat, l.length ≤ n → (∀ x ∈ l, x < 256) → (∀ x ∈ (cut l).2.1, x < 256) ∧ (∀ x ∈ (cut l).2.2, x < 256) ∧ (cut l).2.1.length + (cut l).2.2.length ≤ l.length := by
  intro l hl hb
  by_cases h : (cut l).1 = 0
  · have e := esc_cut l h
    have key : ∀ (k : List Nat), (∀ x ∈ esc k, x < 256) → ∀ x ∈ k, x < 256 := by
      intro k
      induction k with
      | nil => intro _ x hx; simp at hx
      | cons y k ih =>
        intro h x hx
        unfold esc at h
        split at h
        · rcases List.mem_cons.1 hx with rfl | hx
          · omega
          · exact ih (fun z hz => h z (by simp [hz])) x hx
        · rcases List.mem_cons.1 hx with rfl | hx
          · exact h _ (by simp)
          · exact ih (fun z hz => h z (by simp [hz])) x hx
    have le : ∀ k : List Nat, k.length ≤ (esc k).length := by
      intro k
      induction k with
      | nil => simp
      | cons y k ih => unfold esc; split <;> simp <;> omega
    refine ⟨key _ (fun x hx => hb x (by rw [e]; simp [hx])), fun x hx => hb x (by rw [e]; simp [hx]), ?_⟩
    have h1 := le (cut l).2.1
    have h2 := congrArg List.length e
    simp only [List.length_append, List.length_cons] at h2
    omega
  · obtain ⟨h1, h2⟩ := cut_err n l hl h
    rw [h1, h2]
    simp
theorem vc0 : vC c0 = .agg #[.int .i64 0, .string ⟨#[]⟩, .int .i64 0] := rfl

/-- What a function answers whose first result lies in a block. -/
theorem resC {fn : Func} {t u : Tmp} (h : fn.results = #[.cell t 52, .tmp u]) (tmps : Array Value) (W : World) {N : Nat} {x y z : Value} (h2 : tmps.getD t undef = .pointer (some ⟨N, 0, none⟩)) (hB : W.heap[N]? = some (.cells #[x, y, z] 52 (0, 0))) :
    (results fn tmps).run Try.prog W = .ok (.tuple #[.agg #[x, y, z], tmps.getD u undef]) W := by
  obtain ⟨c0, c1, c2⟩ := cells3 hB
  rw [Array.getD_eq_getD_getElem?] at h2
  simp [results, h, h2, go_sem, c0, c1, c2]
/-- A block of three cells whose cells were stored. -/
theorem set3 {w : World} {N : Nat} {a b c x y z : Value} {e : TypeId} (h : w.heap[N]? = some (.cells #[a, b, c] e (0, 0))) : (((w.setCell ⟨N, 0, none⟩ x).setCell ⟨N, 1, none⟩ y).setCell ⟨N, 2, none⟩ z).heap[N]? = some (.cells #[x, y, z] e (0, 0)) := by
  rw [heap_setCell_same _ N 2 _ _ z (heap_setCell_same _ N 1 _ _ y (heap_setCell_same w N 0 _ _ x h))]
  rfl

set_option maxHeartbeats 4000000 in
set_option maxRecDepth 100000 in
theorem cell_any (s : ByteArray) (w : World) (hs : s.size ≤ 140737488355327) :
    Calls Try.prog 23 #[.string s] w fun e w' => e = .returned (.tuple #[vC (cell (nums8 s)).2, .int .i64 (cell (nums8 s)).1]) ∧ Fr w w' (fun _ => False) := by
  by_cases h0 : s.size = 0
  · have hs0 : s = ⟨#[]⟩ := by
      apply ByteArray.ext
      exact Array.eq_empty_of_size_eq_zero h0
    subst hs0
    have e0 : cell (nums8 ⟨#[]⟩) = (11, c0) := rfl
    rw [e0]
    dsimp only
    rw [vc0]
    go_enter Try.func23, Try.ntmps23
    go_wp2_with fail
    go_returns
    exact ⟨rfl, by repeat (first | exact Fr.refl _ _ | apply Fr.alloc | apply Fr.drew)⟩
  · have hpos : 0 < s.size := by omega
    have hne : s.toList.isEmpty = false := by
      rw [ByteArray.toList_eq]
      cases hl : s.data.toList with
      | nil =>
        exfalso
        apply h0
        have := congrArg List.length hl
        simpa using this
      | cons => rfl
    have hcons := nums8_cons hpos
    have HCut := hid (fun W => cut_any (s.extract 1 s.size) W (by simp; omega))
    have hv := nums8_at hpos
    have hvl := nums8_lt s 0
    have hbs := cut_bytes _ (nums8 (s.extract 1 s.size)) (Nat.le_refl _) (nums8_byte _)
    rw [hcons, cell_eq]
    rw [nums8_length] at hbs
    have hes : (s.extract 1 s.size).size ≤ s.size := by simp
    generalize (nums8 s).getD 0 0 = v at *
    generalize cut (nums8 (s.extract 1 s.size)) = c at *
    clear hcons
    obtain ⟨ce, ck, cr⟩ := c
    dsimp only at *
    obtain ⟨hb1, hb2, hb3⟩ := hbs
    have t0 : (1 : Int) ≤ (s.size : Int) := by omega
    have t00 : (0 : Int) < (s.size : Int) := by omega
    have hz : (str8 cr).size = cr.length := str8_size cr
    have HF1 := hid (alloc_fr w (.cells #[.int .i64 0, .string ⟨#[]⟩, .int .i64 0] 52) (fun _ => False))
    have HC0 := hid (fun (W' : World) (hf : Fr (w.alloc (.cells #[.int .i64 0, .string ⟨#[]⟩, .int .i64 0] 52)) W' (fun _ => False)) => (show W'.heap[w.heap.size]? = some (.cells #[.int .i64 0, .string ⟨#[]⟩, .int .i64 0] 52 (0, 0)) from by
      rw [hf.block _ (by simp) (fun h => h)]
      exact heap_last _ _ _ rfl))
    by_cases he : ce ≠ 0
    · rw [if_pos he]
      dsimp only
      rw [vc0]
      have t1 : (ce != 0) = true := by simpa using he
      clear he hb1 hb2
      go_enter Try.func23, Try.ntmps23
      go_wp2_with fail
      refine (HCut.out _).mono ?_
      rintro e w1 ⟨rfl, hf⟩
      obtain ⟨c0, c1, c2⟩ := cells3 (HC0.out _ hf)
      have cl := lt_of_block (HC0.out _ hf)
      have cf : ∀ o, w1.frozen? ⟨w.heap.size, o, none⟩ = false := fun o => by simp [World.frozen?, HC0.out _ hf]
      have HF := hid (HF1.out.trans hf)
      have HB := hid (HC0.out _ hf)
      clear hf
      go_wp2_with fail
      refine bodyPost_ret (resC Try.results23 _ _ rfl (set3 HB.out)) rfl ?_
      exact ⟨rfl, by repeat (first | exact HF.out | exact Fr.refl _ _ | apply Fr.alloc | apply Fr.drew | refine Fr.setCell ?_ (fun h => absurd h (Nat.lt_irrefl _)) _)⟩
    · rw [if_neg he]
      have he0 : ce = 0 := by omega
      subst he0
      try dsimp only
      by_cases h8 : cr.length < 8
      · rw [if_pos h8]
        dsimp only
        rw [vc0]
        have t1 : (((str8 cr).size : Nat) : Int) < 8 := by omega
        clear h8 hb1 hb2
        go_enter Try.func23, Try.ntmps23
        go_wp2_with fail
        refine (HCut.out _).mono ?_
        rintro e w1 ⟨rfl, hf⟩
        obtain ⟨c0, c1, c2⟩ := cells3 (HC0.out _ hf)
        have cl := lt_of_block (HC0.out _ hf)
        have cf : ∀ o, w1.frozen? ⟨w.heap.size, o, none⟩ = false := fun o => by simp [World.frozen?, HC0.out _ hf]
        have HF := hid (HF1.out.trans hf)
        have HB := hid (HC0.out _ hf)
        clear hf
        go_wp2_with fail
        refine bodyPost_ret (resC Try.results23 _ _ rfl (set3 HB.out)) rfl ?_
        exact ⟨rfl, by repeat (first | exact HF.out | exact Fr.refl _ _ | apply Fr.alloc | apply Fr.drew | refine Fr.setCell ?_ (fun h => absurd h (Nat.lt_irrefl _)) _)⟩
      · rw [if_neg h8]
        have t1 : ¬ (((str8 cr).size : Nat) : Int) < 8 := by omega
        by_cases h9 : 8 < cr.length
        · rw [if_pos h9]
          dsimp only
          rw [vc0]
          have t2 : (8 : Int) < (((str8 cr).size : Nat) : Int) := by omega
          clear h8 h9 hb1 hb2
          go_enter Try.func23, Try.ntmps23
          go_wp2_with fail
          refine (HCut.out _).mono ?_
          rintro e w1 ⟨rfl, hf⟩
          obtain ⟨c0, c1, c2⟩ := cells3 (HC0.out _ hf)
          have cl := lt_of_block (HC0.out _ hf)
          have cf : ∀ o, w1.frozen? ⟨w.heap.size, o, none⟩ = false := fun o => by simp [World.frozen?, HC0.out _ hf]
          have HF := hid (HF1.out.trans hf)
          have HB := hid (HC0.out _ hf)
          clear hf
          go_wp2_with fail
          refine bodyPost_ret (resC Try.results23 _ _ rfl (set3 HB.out)) rfl ?_
          exact ⟨rfl, by repeat (first | exact HF.out | exact Fr.refl _ _ | apply Fr.alloc | apply Fr.drew | refine Fr.setCell ?_ (fun h => absurd h (Nat.lt_irrefl _)) _)⟩
        · rw [if_neg h9]
          have t2 : ¬ (8 : Int) < (((str8 cr).size : Nat) : Int) := by omega
          have HSt := hid (fun W => start_any (str8 cr) W (by omega))
          rw [nums8_str8 hb2] at HSt
          have HCk := hid (fun W => check_any ⟨(v : Int), str8 ck, (num cr : Int) - 9223372036854775808⟩ W (by show (str8 ck).size ≤ _; rw [str8_size]; omega))
          generalize hcc : (⟨(v : Int), str8 ck, (num cr : Int) - 9223372036854775808⟩ : Cl) = cc at *
          have hcv : vC cc = .agg #[.int .i64 (v : Int), .string (str8 ck), .int .i64 ((num cr : Int) - 9223372036854775808)] := by rw [← hcc]; rfl
          generalize (num cr : Int) - 9223372036854775808 = st at *
          generalize str8 ck = kk at *
          generalize str8 cr = rr at *
          rw [hcv] at HCk
          clear hcc h8 h9 hb1 hb2 hb3 hz
          have key : Calls Try.prog 23 #[.string s] w fun e w' => e = .returned (.tuple #[if mE cc = 0 then .agg #[.int .i64 (v : Int), .string kk, .int .i64 st] else .agg #[.int .i64 0, .string ⟨#[]⟩, .int .i64 0], .int .i64 (mE cc)]) ∧ Fr w w' (fun _ => False) := by
            clear hcv
            generalize mE cc = m at *
            go_enter Try.func23, Try.ntmps23
            go_wp2_with fail
            refine (HCut.out _).mono ?_
            rintro e w1 ⟨rfl, hf⟩
            have HB := hid (HC0.out _ hf)
            have HF := hid (HF1.out.trans hf)
            clear hf
            go_wp2_with fail
            have hwv : IntKind.i64.wrap (v : Int) = (v : Int) := by rw [IntKind.wrap_i64]; omega
            go_cut [7] (fun s7 wx => ∃ N1, s7 = .pointer (some ⟨N1, 0, none⟩) ∧ Hid (Fr w1 wx (fun _ => False) ∧ wx.heap[N1]? = some (.cells #[.int .i64 (v : Int), .string kk, .int .i64 st] 52 (0, 0))))
            case first =>
              go_region_with (go_at_call 40; refine (HSt.out _).mono ?_; rintro e w2 ⟨rfl, rfl⟩)
              all_goals (go_wp2_with fail)
              all_goals go_meet
              all_goals exact ⟨_, rfl, by repeat (first | exact Fr.refl _ _ | apply Fr.alloc | apply Fr.drew), heap_last _ _ _ (by simp)⟩
            case rest =>
              obtain ⟨N1, rfl, HQ⟩ := hcut
              have HB2 := hid HQ.out.2
              have HF2 := hid HQ.out.1
              clear HQ HSt
              obtain ⟨b0, b1, b2⟩ := cells3 HB2.out
              have bl := lt_of_block HB2.out
              go_wp2_with fail
              refine (HCk.out _).mono ?_
              rintro e w3 ⟨rfl, hf3⟩
              have HB3 : Hid (w3.heap[w.heap.size]? = some (.cells #[.int .i64 0, .string ⟨#[]⟩, .int .i64 0] 52 (0, 0))) := by
                show w3.heap[w.heap.size]? = _
                rw [(HF2.out.trans hf3).block _ (lt_of_block HB.out) (fun h => h)]
                exact HB.out
              have HF3 := hid (HF.out.trans (HF2.out.trans hf3))
              obtain ⟨d0, d1, d2⟩ := cells3 HB3.out
              have dl := lt_of_block HB3.out
              have df : ∀ o, w3.frozen? ⟨w.heap.size, o, none⟩ = false := fun o => by simp [World.frozen?, HB3.out]
              have e0 : w3.cell? ⟨N1, 0, none⟩ = some (.int .i64 (v : Int)) := by rw [(fr_rules hf3).1 _ _ bl]; exact b0
              have e1 : w3.cell? ⟨N1, 1, none⟩ = some (.string kk) := by rw [(fr_rules hf3).1 _ _ bl]; exact b1
              have e2 : w3.cell? ⟨N1, 2, none⟩ = some (.int .i64 st) := by rw [(fr_rules hf3).1 _ _ bl]; exact b2
              have el : N1 < w3.heap.size := Nat.lt_of_lt_of_le bl hf3.size
              clear hf3 b0 b1 b2 bl
              by_cases hm : m = 0
              · subst hm
                go_wp2_with fail
                refine bodyPost_ret (resC Try.results23 _ _ rfl (set3 HB3.out)) rfl ?_
                exact ⟨rfl, by repeat (first | exact HF3.out | apply Fr.alloc | apply Fr.drew | refine Fr.setCell ?_ (fun h => absurd h (Nat.lt_irrefl _)) _)⟩
              · have tm : (m != 0) = true := by simpa using hm
                go_wp2_with fail
                refine bodyPost_ret (resC Try.results23 _ _ rfl (set3 HB3.out)) rfl ?_
                exact ⟨rfl, by repeat (first | exact HF3.out | apply Fr.alloc | apply Fr.drew | refine Fr.setCell ?_ (fun h => absurd h (Nat.lt_irrefl _)) _)⟩
          refine key.mono ?_
          rintro e w' ⟨rfl, hf⟩
          refine ⟨?_, hf⟩
          by_cases hm : mE cc = 0
          · rw [if_pos hm, if_pos hm]
            dsimp only
            rw [hcv, hm]
          · rw [if_neg hm, if_neg hm]
            dsimp only
            rw [vc0]
end Go.Proofs.Ytilgkfpicdmkkaa.M
