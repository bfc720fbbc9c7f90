import Derived.Test.YtahcbkkjlfdffaaMKnown
import Derived.Deep.DeepCutAuto
/- MergeOrder: a walk. -/
namespace Go.Proofs.Ytahcbkkjlfdffaa.M
open Go.RowKit

theorem key_size {c : Cl} : (key c).size ≤ 75 := by
  unfold key
  split
  · rename_i h
    rw [str8_size]
    exact txt_len h
  · exact Nat.zero_le _
theorem key_back {c : Cl} (h : mE c = 0) : cell (nums8 (key c)) = (0, c) := by
  unfold key
  rw [if_pos h, nums8_str8 (txt_byte h)]
  exact cell_txt h
theorem key_less {a b : Cl} (ha : mE a = 0) (hb : mE b = 0) : Op.bytesLess (key a).toList (key b).toList = decide (cmpC a b < 0) := by
  rw [ByteArray.toList_eq, ByteArray.toList_eq, less_cb]
  have e : ∀ c : Cl, mE c = 0 → (key c).data.toList.map UInt8.toNat = txt c := fun c hc => by
    have := nums8_str8 (txt_byte hc)
    unfold key
    rw [if_pos hc]
    exact this
  rw [e a ha, e b hb, cb_txt ha hb]
theorem key_eq {a b : Cl} (ha : mE a = 0) (hb : mE b = 0) : ((key a).toList == (key b).toList) = (cmpC a b == 0) := by
  by_cases h : a = b
  · subst h
    rw [show cmpC a a = 0 from cmpC_zero.2 rfl]
    simp
  · have h1 : cmpC a b ≠ 0 := fun e => h (cmpC_zero.1 e)
    rw [show (cmpC a b == 0) = false by simpa using h1]
    apply str_ne
    intro e
    apply h
    have h2 := key_back ha
    rw [e, key_back hb] at h2
    simp only [Prod.mk.injEq, true_and] at h2
    exact h2.symm

theorem eqC_same (av : Int) (ak : ByteArray) (az : Int) (W : World) : (binOp .eql 23 (.agg #[.int .i64 av, .string ak, .int .i64 az]) (.agg #[.int .i64 av, .string ak, .int .i64 az])).run Try.prog W = .ok (.bool true) W := by
  go_simp
theorem eqC_other {av bv az bz : Int} {ak bk : ByteArray} (h : ¬ (av = bv ∧ ak.toList = bk.toList ∧ az = bz)) (W : World) : (binOp .eql 23 (.agg #[.int .i64 av, .string ak, .int .i64 az]) (.agg #[.int .i64 bv, .string bk, .int .i64 bz])).run Try.prog W = .ok (.bool false) W := by
  go_simp
  by_cases h1 : av = bv
  · by_cases h2 : ak.toList = bk.toList
    · have h3 : ¬ az = bz := fun h3 => h ⟨h1, h2, h3⟩
      simp [h1, h2, h3]
    · simp [h1, h2]
  · simp [h1]
theorem eqS_other {ak bk : ByteArray} (h : ¬ ak.toList = bk.toList) (W : World) : (binOp .eql 9 (.string ak) (.string bk)).run Try.prog W = .ok (.bool false) W := by
  have h2 : (ak.toList == bk.toList) = false := by simpa using h
  go_simp
set_option maxHeartbeats 4000000 in
set_option maxRecDepth 100000 in
theorem order_walk (a b c : Cl) (w : World) (ha : a.k.size ≤ 9223372036854775807) (hb : b.k.size ≤ 9223372036854775807) : Calls Try.prog 7 #[vC a, vC b, vC c] w fun e w' => e = .returned (.bool true) ∧ Fr w w' (fun _ => False) := by
  have HKa := hid (fun W => key_any a W ha)
  have HKb := hid (fun W => key_any b W hb)
  have HCk := hid (fun W => cell_any (key a) W (by have := @key_size a; omega))
  have HAB := hid (fun W => compareC_any a b W)
  have HBA := hid (fun W => compareC_any b a W)
  have HBC := hid (fun W => compareC_any b c W)
  have HAC := hid (fun W => compareC_any a c W)
  unfold vC at HKa HKb HAB HBA HBC HAC ⊢
  go_enter Try.func7, Try.ntmps7
  go_wp2_with fail
  have h0 : (((w.alloc (.cells #[.int .i64 a.v, .string a.k, .int .i64 a.s] 23)).alloc (.cells #[.int .i64 b.v, .string b.k, .int .i64 b.s] 23)).alloc (.cells #[.int .i64 c.v, .string c.k, .int .i64 c.s] 23)).heap[w.heap.size]? = some (.cells #[.int .i64 a.v, .string a.k, .int .i64 a.s] 23 (0, 0)) := by
    rw [((alloc_fr _ _ (fun _ => False)).alloc _).block _ (by simp) (fun h => h)]
    exact heap_last _ _ _ rfl
  have h1 : (((w.alloc (.cells #[.int .i64 a.v, .string a.k, .int .i64 a.s] 23)).alloc (.cells #[.int .i64 b.v, .string b.k, .int .i64 b.s] 23)).alloc (.cells #[.int .i64 c.v, .string c.k, .int .i64 c.s] 23)).heap[w.heap.size + 1]? = some (.cells #[.int .i64 b.v, .string b.k, .int .i64 b.s] 23 (0, 0)) := by
    rw [(alloc_fr _ _ (fun _ => False)).block _ (by simp) (fun h => h)]
    exact heap_last _ _ _ (by simp)
  have h2 : (((w.alloc (.cells #[.int .i64 a.v, .string a.k, .int .i64 a.s] 23)).alloc (.cells #[.int .i64 b.v, .string b.k, .int .i64 b.s] 23)).alloc (.cells #[.int .i64 c.v, .string c.k, .int .i64 c.s] 23)).heap[w.heap.size + 1 + 1]? = some (.cells #[.int .i64 c.v, .string c.k, .int .i64 c.s] 23 (0, 0)) := heap_last _ _ _ (by simp)
  have HFa := hid (((alloc_fr w (.cells #[.int .i64 a.v, .string a.k, .int .i64 a.s] 23) (fun _ => False)).alloc (.cells #[.int .i64 b.v, .string b.k, .int .i64 b.s] 23)).alloc (.cells #[.int .i64 c.v, .string c.k, .int .i64 c.s] 23))
  generalize (((w.alloc (.cells #[.int .i64 a.v, .string a.k, .int .i64 a.s] 23)).alloc (.cells #[.int .i64 b.v, .string b.k, .int .i64 b.s] 23)).alloc (.cells #[.int .i64 c.v, .string c.k, .int .i64 c.s] 23)) = wa at *
  refine (known_any _).mono ?_
  rintro e wb ⟨rfl, hfb⟩
  have HC := hid (fun (W' : World) (hf : Fr wb W' (fun _ => False)) => (show (W'.cell? ⟨w.heap.size, 0, none⟩ = some (.int .i64 a.v) ∧ W'.cell? ⟨w.heap.size, 1, none⟩ = some (.string a.k) ∧ W'.cell? ⟨w.heap.size, 2, none⟩ = some (.int .i64 a.s)) ∧ (W'.cell? ⟨w.heap.size + 1, 0, none⟩ = some (.int .i64 b.v) ∧ W'.cell? ⟨w.heap.size + 1, 1, none⟩ = some (.string b.k) ∧ W'.cell? ⟨w.heap.size + 1, 2, none⟩ = some (.int .i64 b.s)) ∧ (W'.cell? ⟨w.heap.size + 1 + 1, 0, none⟩ = some (.int .i64 c.v) ∧ W'.cell? ⟨w.heap.size + 1 + 1, 1, none⟩ = some (.string c.k) ∧ W'.cell? ⟨w.heap.size + 1 + 1, 2, none⟩ = some (.int .i64 c.s)) from
    ⟨cells3 (((hfb.trans hf).block _ (lt_of_block h0) (fun h => h)).trans h0), cells3 (((hfb.trans hf).block _ (lt_of_block h1) (fun h => h)).trans h1), cells3 (((hfb.trans hf).block _ (lt_of_block h2) (fun h => h)).trans h2)⟩))
  have HF := hid (HFa.out.trans hfb)
  clear hfb h0 h1 h2 HFa
  generalize w.heap.size = N at *
  have HX := hid (Fr.refl wb (fun _ => False))
  obtain ⟨⟨a0, a1, a2⟩, ⟨b0, b1, b2⟩, _⟩ := HC.out _ HX.out
  go_wp2_with fail
  refine (HKa.out _).mono ?_
  rintro e w1 ⟨rfl, hf⟩
  have HX1 := hid (HX.out.trans hf)
  clear hf a0 a1 a2 b0 b1 b2 HX
  obtain ⟨⟨a0, a1, a2⟩, ⟨b0, b1, b2⟩, _⟩ := HC.out _ HX1.out
  go_wp2_with fail
  refine (HKb.out _).mono ?_
  rintro e w2 ⟨rfl, hf⟩
  have HX2 := hid (HX1.out.trans hf)
  clear hf a0 a1 a2 b0 b1 b2 HX1
  obtain ⟨⟨a0, a1, a2⟩, ⟨b0, b1, b2⟩, ⟨c0, c1, c2⟩⟩ := HC.out _ HX2.out
  have HX := HX2
  have HS := hid (fun (W' : World) (hf : Fr wb W' (fun _ => False)) => hf)
  clear HX2
  have hba : cmpC b a = - cmpC a b := cmpC_flip a b
  have hv := cmpC_vals a b
  have HKB := hid (@key_back a)
  have HLs := hid (@key_less a b)
  have HEq := hid (@key_eq a b)
  have HTr := hid (cmC.trans a b c)
  have HZ := hid (@cmpC_zero a b)
  have HDf : Hid (cmpC a b = if cmpI a.v b.v ≠ 0 then cmpI a.v b.v else if cb (nums8 a.k) (nums8 b.k) ≠ 0 then cb (nums8 a.k) (nums8 b.k) else cmpI a.s b.s) := rfl
  rw [hba] at HBA
  clear hba
  generalize cmpC a b = x at *
  generalize cmpC b c = y at *
  generalize cmpC a c = z at *
  generalize mE a = ea at *
  generalize mE b = eb at *
  generalize key a = ka at *
  generalize key b = kb at *
  go_upto_if 26 with (fail)
  go_cut [11, 12] (fun s11 s12 wx => Hid (Fr wb wx (fun _ => False)))
  case first =>
    by_cases h1 : ea = 0
    · have hk := HKB.out h1
      rw [hk] at HCk
      dsimp only at HCk
      unfold vC at HCk
      subst h1
      go_wp2_with fail
      refine (HCk.out _).mono ?_
      rintro e w3 ⟨rfl, hf⟩
      have HX := hid (HX.out.trans hf)
      clear hf a0 a1 a2 b0 b1 b2 c0 c1 c2
      obtain ⟨⟨a0, a1, a2⟩, ⟨b0, b1, b2⟩, ⟨c0, c1, c2⟩⟩ := HC.out _ HX.out
      have ln := World.block_lt_of_cell? _ _ a0
      dsimp only at ln
      go_wp2_with fail
      go_meet
      exact HX.out.alloc _
    · have t1 : (ea == 0) = false := by simpa using h1
      go_wp2_with fail
      go_meet
      exact HX.out
  case rest =>
    have HX := hcut
    clear hcut a0 a1 a2 b0 b1 b2 c0 c1 c2
    obtain ⟨⟨a0, a1, a2⟩, ⟨b0, b1, b2⟩, ⟨c0, c1, c2⟩⟩ := HC.out _ HX.out
    go_upto_region 9 with (fail)
    go_cut [64] (fun s64 wx => s64 = .bool false ∧ Hid (Fr wb wx (fun _ => False)))
    case first =>
      by_cases h1 : ea = 0
      · by_cases h2 : eb = 0
        · have hl := HLs.out h1 h2
          have he := HEq.out h1 h2
          subst h1
          subst h2
          go_wp2_with fail
          refine (HAB.out _).mono ?_
          rintro e w3 ⟨rfl, hf⟩
          have HX := hid (HX.out.trans hf)
          clear hf a0 a1 a2 b0 b1 b2 c0 c1 c2
          obtain ⟨⟨a0, a1, a2⟩, ⟨b0, b1, b2⟩, ⟨c0, c1, c2⟩⟩ := HC.out _ HX.out
          go_wp2_with fail
          refine (HAB.out _).mono ?_
          rintro e w4 ⟨rfl, hf⟩
          have HX := hid (HX.out.trans hf)
          clear hf a0 a1 a2 b0 b1 b2 c0 c1 c2
          obtain ⟨⟨a0, a1, a2⟩, ⟨b0, b1, b2⟩, ⟨c0, c1, c2⟩⟩ := HC.out _ HX.out
          go_wp2_with fail
          go_meet
          exact ⟨by simp, HX.out⟩
        · have t2 : (eb == 0) = false := by simpa using h2
          subst h1
          go_wp2_with fail
          go_meet
          exact ⟨rfl, HX.out⟩
      · have t1 : (ea == 0) = false := by simpa using h1
        go_wp2_with fail
        go_meet
        exact ⟨rfl, HX.out⟩
    case rest =>
      obtain ⟨rfl, HX⟩ := hcut
      clear a0 a1 a2 b0 b1 b2 c0 c1 c2
      obtain ⟨⟨a0, a1, a2⟩, ⟨b0, b1, b2⟩, ⟨c0, c1, c2⟩⟩ := HC.out _ HX.out
      go_upto_region 11 with (fail)
      go_cut [82] (fun s82 wx => s82 = .bool false ∧ Hid (Fr wb wx (fun _ => False)))
      case first =>
        have hw0 : IntKind.i64.wrap 0 = 0 := by decide
        have hw1 : IntKind.i64.wrap 1 = 1 := by decide
        have hwm : IntKind.i64.wrap (-1) = -1 := by decide
        rcases hv with h0 | h0 | h0
        · subst h0
          have hne : a ≠ b := fun e => absurd (HZ.out.2 e) (by decide)
          clear HZ HTr HDf HLs HEq HKB
          obtain ⟨av, ak, az⟩ := a
          obtain ⟨bv, bk, bz⟩ := b
          dsimp only at *
          by_cases e1 : av = bv
          · by_cases e2 : ak = bk
            · have e3 : ¬ az = bz := fun e3 => hne (by rw [e1, e2, e3])
              subst e1
              subst e2
              have heq := fun W => eqC_other (av := av) (bv := av) (az := az) (bz := bz) (ak := ak) (bk := ak) (fun h => e3 h.2.2) W
              clear hne
              go_region_held3 (fun W' => Hid (Fr wb W' (fun _ => False)) ∧ (W'.cell? ⟨N, 0, none⟩ = some (.int .i64 av) ∧ W'.cell? ⟨N, 1, none⟩ = some (.string ak) ∧ W'.cell? ⟨N, 2, none⟩ = some (.int .i64 az)) ∧ (W'.cell? ⟨N + 1, 0, none⟩ = some (.int .i64 av) ∧ W'.cell? ⟨N + 1, 1, none⟩ = some (.string ak) ∧ W'.cell? ⟨N + 1, 2, none⟩ = some (.int .i64 bz)) ∧ (W'.cell? ⟨N + 1 + 1, 0, none⟩ = some (.int .i64 c.v) ∧ W'.cell? ⟨N + 1 + 1, 1, none⟩ = some (.string c.k) ∧ W'.cell? ⟨N + 1 + 1, 2, none⟩ = some (.int .i64 c.s)))
                ((refine (fun h => ⟨h, HC.out _ h⟩ : Fr wb _ (fun _ => False) → _) ?_; repeat (first | exact HX.out | apply Fr.drew | apply Fr.alloc)))
                (first
                | (go_at_call 14; with_reducible refine (HAB.out _).mono ?_; rintro e w3 ⟨rfl, hf⟩; have HX := hid (Fr.trans (a := wb) (by repeat (first | exact HX.out | apply Fr.drew | apply Fr.alloc)) hf); clear hf)
                | (go_at_call 14; with_reducible refine (HBA.out _).mono ?_; rintro e w3 ⟨rfl, hf⟩; have HX := hid (Fr.trans (a := wb) (by repeat (first | exact HX.out | apply Fr.drew | apply Fr.alloc)) hf); clear hf)
                | fail)
              all_goals (go_wp2_with fail)
              all_goals go_meet
              all_goals exact ⟨by simp, by repeat (first | exact HX.out | apply Fr.drew | apply Fr.alloc)⟩
            · have e3 : ¬ ak.toList = bk.toList := by
                intro e3
                rw [ByteArray.toList_eq, ByteArray.toList_eq] at e3
                exact e2 (ByteArray.ext (Array.toList_inj.1 e3))
              subst e1
              have heq := fun W => eqC_other (av := av) (bv := av) (az := az) (bz := bz) (ak := ak) (bk := bk) (fun h => e3 h.2.1) W
              clear hne e2
              go_region_held3 (fun W' => Hid (Fr wb W' (fun _ => False)) ∧ (W'.cell? ⟨N, 0, none⟩ = some (.int .i64 av) ∧ W'.cell? ⟨N, 1, none⟩ = some (.string ak) ∧ W'.cell? ⟨N, 2, none⟩ = some (.int .i64 az)) ∧ (W'.cell? ⟨N + 1, 0, none⟩ = some (.int .i64 av) ∧ W'.cell? ⟨N + 1, 1, none⟩ = some (.string bk) ∧ W'.cell? ⟨N + 1, 2, none⟩ = some (.int .i64 bz)) ∧ (W'.cell? ⟨N + 1 + 1, 0, none⟩ = some (.int .i64 c.v) ∧ W'.cell? ⟨N + 1 + 1, 1, none⟩ = some (.string c.k) ∧ W'.cell? ⟨N + 1 + 1, 2, none⟩ = some (.int .i64 c.s)))
                ((refine (fun h => ⟨h, HC.out _ h⟩ : Fr wb _ (fun _ => False) → _) ?_; repeat (first | exact HX.out | apply Fr.drew | apply Fr.alloc)))
                (first
                | (go_at_call 14; with_reducible refine (HAB.out _).mono ?_; rintro e w3 ⟨rfl, hf⟩; have HX := hid (Fr.trans (a := wb) (by repeat (first | exact HX.out | apply Fr.drew | apply Fr.alloc)) hf); clear hf)
                | (go_at_call 14; with_reducible refine (HBA.out _).mono ?_; rintro e w3 ⟨rfl, hf⟩; have HX := hid (Fr.trans (a := wb) (by repeat (first | exact HX.out | apply Fr.drew | apply Fr.alloc)) hf); clear hf)
                | fail)
              all_goals (go_wp2_with fail)
              all_goals go_meet
              all_goals exact ⟨by simp, by repeat (first | exact HX.out | apply Fr.drew | apply Fr.alloc)⟩
          · clear hne
            have heq := fun W => eqC_other (av := av) (bv := bv) (az := az) (bz := bz) (ak := ak) (bk := bk) (fun h => e1 h.1) W
            go_region_held3 (fun W' => Hid (Fr wb W' (fun _ => False)) ∧ (W'.cell? ⟨N, 0, none⟩ = some (.int .i64 av) ∧ W'.cell? ⟨N, 1, none⟩ = some (.string ak) ∧ W'.cell? ⟨N, 2, none⟩ = some (.int .i64 az)) ∧ (W'.cell? ⟨N + 1, 0, none⟩ = some (.int .i64 bv) ∧ W'.cell? ⟨N + 1, 1, none⟩ = some (.string bk) ∧ W'.cell? ⟨N + 1, 2, none⟩ = some (.int .i64 bz)) ∧ (W'.cell? ⟨N + 1 + 1, 0, none⟩ = some (.int .i64 c.v) ∧ W'.cell? ⟨N + 1 + 1, 1, none⟩ = some (.string c.k) ∧ W'.cell? ⟨N + 1 + 1, 2, none⟩ = some (.int .i64 c.s)))
              ((refine (fun h => ⟨h, HC.out _ h⟩ : Fr wb _ (fun _ => False) → _) ?_; repeat (first | exact HX.out | apply Fr.drew | apply Fr.alloc)))
              (first
              | (go_at_call 14; with_reducible refine (HAB.out _).mono ?_; rintro e w3 ⟨rfl, hf⟩; have HX := hid (Fr.trans (a := wb) (by repeat (first | exact HX.out | apply Fr.drew | apply Fr.alloc)) hf); clear hf)
              | (go_at_call 14; with_reducible refine (HBA.out _).mono ?_; rintro e w3 ⟨rfl, hf⟩; have HX := hid (Fr.trans (a := wb) (by repeat (first | exact HX.out | apply Fr.drew | apply Fr.alloc)) hf); clear hf)
              | fail)
            all_goals (go_wp2_with fail)
            all_goals go_meet
            all_goals exact ⟨by simp, by repeat (first | exact HX.out | apply Fr.drew | apply Fr.alloc)⟩
        · have e0 := HZ.out.1 h0
          subst h0
          subst e0
          clear HZ HTr HDf HLs HEq HKB HBA
          obtain ⟨av, ak, az⟩ := a
          dsimp only at *
          have heq := fun W => eqC_same av ak az W
          go_region_held3 (fun W' => Hid (Fr wb W' (fun _ => False)) ∧ (W'.cell? ⟨N, 0, none⟩ = some (.int .i64 av) ∧ W'.cell? ⟨N, 1, none⟩ = some (.string ak) ∧ W'.cell? ⟨N, 2, none⟩ = some (.int .i64 az)) ∧ (W'.cell? ⟨N + 1, 0, none⟩ = some (.int .i64 av) ∧ W'.cell? ⟨N + 1, 1, none⟩ = some (.string ak) ∧ W'.cell? ⟨N + 1, 2, none⟩ = some (.int .i64 az)) ∧ (W'.cell? ⟨N + 1 + 1, 0, none⟩ = some (.int .i64 c.v) ∧ W'.cell? ⟨N + 1 + 1, 1, none⟩ = some (.string c.k) ∧ W'.cell? ⟨N + 1 + 1, 2, none⟩ = some (.int .i64 c.s)))
            ((refine (fun h => ⟨h, HC.out _ h⟩ : Fr wb _ (fun _ => False) → _) ?_; repeat (first | exact HX.out | apply Fr.drew | apply Fr.alloc)))
            (first
            | (go_at_call 14; with_reducible refine (HAB.out _).mono ?_; rintro e w3 ⟨rfl, hf⟩; have HX := hid (Fr.trans (a := wb) (by repeat (first | exact HX.out | apply Fr.drew | apply Fr.alloc)) hf); clear hf)
            | fail)
          all_goals (go_wp2_with fail)
          all_goals go_meet
          all_goals exact ⟨by simp, by repeat (first | exact HX.out | apply Fr.drew | apply Fr.alloc)⟩
        · subst h0
          have hne : a ≠ b := fun e => absurd (HZ.out.2 e) (by decide)
          clear HZ HTr HDf HLs HEq HKB
          obtain ⟨av, ak, az⟩ := a
          obtain ⟨bv, bk, bz⟩ := b
          dsimp only at *
          by_cases e1 : av = bv
          · by_cases e2 : ak = bk
            · have e3 : ¬ az = bz := fun e3 => hne (by rw [e1, e2, e3])
              subst e1
              subst e2
              have heq := fun W => eqC_other (av := av) (bv := av) (az := az) (bz := bz) (ak := ak) (bk := ak) (fun h => e3 h.2.2) W
              clear hne
              go_region_held3 (fun W' => Hid (Fr wb W' (fun _ => False)) ∧ (W'.cell? ⟨N, 0, none⟩ = some (.int .i64 av) ∧ W'.cell? ⟨N, 1, none⟩ = some (.string ak) ∧ W'.cell? ⟨N, 2, none⟩ = some (.int .i64 az)) ∧ (W'.cell? ⟨N + 1, 0, none⟩ = some (.int .i64 av) ∧ W'.cell? ⟨N + 1, 1, none⟩ = some (.string ak) ∧ W'.cell? ⟨N + 1, 2, none⟩ = some (.int .i64 bz)) ∧ (W'.cell? ⟨N + 1 + 1, 0, none⟩ = some (.int .i64 c.v) ∧ W'.cell? ⟨N + 1 + 1, 1, none⟩ = some (.string c.k) ∧ W'.cell? ⟨N + 1 + 1, 2, none⟩ = some (.int .i64 c.s)))
                ((refine (fun h => ⟨h, HC.out _ h⟩ : Fr wb _ (fun _ => False) → _) ?_; repeat (first | exact HX.out | apply Fr.drew | apply Fr.alloc)))
                (first
                | (go_at_call 14; with_reducible refine (HAB.out _).mono ?_; rintro e w3 ⟨rfl, hf⟩; have HX := hid (Fr.trans (a := wb) (by repeat (first | exact HX.out | apply Fr.drew | apply Fr.alloc)) hf); clear hf)
                | (go_at_call 14; with_reducible refine (HBA.out _).mono ?_; rintro e w3 ⟨rfl, hf⟩; have HX := hid (Fr.trans (a := wb) (by repeat (first | exact HX.out | apply Fr.drew | apply Fr.alloc)) hf); clear hf)
                | fail)
              all_goals (go_wp2_with fail)
              all_goals go_meet
              all_goals exact ⟨by simp, by repeat (first | exact HX.out | apply Fr.drew | apply Fr.alloc)⟩
            · have e3 : ¬ ak.toList = bk.toList := by
                intro e3
                rw [ByteArray.toList_eq, ByteArray.toList_eq] at e3
                exact e2 (ByteArray.ext (Array.toList_inj.1 e3))
              subst e1
              have heq := fun W => eqC_other (av := av) (bv := av) (az := az) (bz := bz) (ak := ak) (bk := bk) (fun h => e3 h.2.1) W
              clear hne e2
              go_region_held3 (fun W' => Hid (Fr wb W' (fun _ => False)) ∧ (W'.cell? ⟨N, 0, none⟩ = some (.int .i64 av) ∧ W'.cell? ⟨N, 1, none⟩ = some (.string ak) ∧ W'.cell? ⟨N, 2, none⟩ = some (.int .i64 az)) ∧ (W'.cell? ⟨N + 1, 0, none⟩ = some (.int .i64 av) ∧ W'.cell? ⟨N + 1, 1, none⟩ = some (.string bk) ∧ W'.cell? ⟨N + 1, 2, none⟩ = some (.int .i64 bz)) ∧ (W'.cell? ⟨N + 1 + 1, 0, none⟩ = some (.int .i64 c.v) ∧ W'.cell? ⟨N + 1 + 1, 1, none⟩ = some (.string c.k) ∧ W'.cell? ⟨N + 1 + 1, 2, none⟩ = some (.int .i64 c.s)))
                ((refine (fun h => ⟨h, HC.out _ h⟩ : Fr wb _ (fun _ => False) → _) ?_; repeat (first | exact HX.out | apply Fr.drew | apply Fr.alloc)))
                (first
                | (go_at_call 14; with_reducible refine (HAB.out _).mono ?_; rintro e w3 ⟨rfl, hf⟩; have HX := hid (Fr.trans (a := wb) (by repeat (first | exact HX.out | apply Fr.drew | apply Fr.alloc)) hf); clear hf)
                | (go_at_call 14; with_reducible refine (HBA.out _).mono ?_; rintro e w3 ⟨rfl, hf⟩; have HX := hid (Fr.trans (a := wb) (by repeat (first | exact HX.out | apply Fr.drew | apply Fr.alloc)) hf); clear hf)
                | fail)
              all_goals (go_wp2_with fail)
              all_goals go_meet
              all_goals exact ⟨by simp, by repeat (first | exact HX.out | apply Fr.drew | apply Fr.alloc)⟩
          · clear hne
            have heq := fun W => eqC_other (av := av) (bv := bv) (az := az) (bz := bz) (ak := ak) (bk := bk) (fun h => e1 h.1) W
            go_region_held3 (fun W' => Hid (Fr wb W' (fun _ => False)) ∧ (W'.cell? ⟨N, 0, none⟩ = some (.int .i64 av) ∧ W'.cell? ⟨N, 1, none⟩ = some (.string ak) ∧ W'.cell? ⟨N, 2, none⟩ = some (.int .i64 az)) ∧ (W'.cell? ⟨N + 1, 0, none⟩ = some (.int .i64 bv) ∧ W'.cell? ⟨N + 1, 1, none⟩ = some (.string bk) ∧ W'.cell? ⟨N + 1, 2, none⟩ = some (.int .i64 bz)) ∧ (W'.cell? ⟨N + 1 + 1, 0, none⟩ = some (.int .i64 c.v) ∧ W'.cell? ⟨N + 1 + 1, 1, none⟩ = some (.string c.k) ∧ W'.cell? ⟨N + 1 + 1, 2, none⟩ = some (.int .i64 c.s)))
              ((refine (fun h => ⟨h, HC.out _ h⟩ : Fr wb _ (fun _ => False) → _) ?_; repeat (first | exact HX.out | apply Fr.drew | apply Fr.alloc)))
              (first
              | (go_at_call 14; with_reducible refine (HAB.out _).mono ?_; rintro e w3 ⟨rfl, hf⟩; have HX := hid (Fr.trans (a := wb) (by repeat (first | exact HX.out | apply Fr.drew | apply Fr.alloc)) hf); clear hf)
              | (go_at_call 14; with_reducible refine (HBA.out _).mono ?_; rintro e w3 ⟨rfl, hf⟩; have HX := hid (Fr.trans (a := wb) (by repeat (first | exact HX.out | apply Fr.drew | apply Fr.alloc)) hf); clear hf)
              | fail)
            all_goals (go_wp2_with fail)
            all_goals go_meet
            all_goals exact ⟨by simp, by repeat (first | exact HX.out | apply Fr.drew | apply Fr.alloc)⟩
      case rest =>
        obtain ⟨rfl, HX⟩ := hcut
        clear a0 a1 a2 b0 b1 b2 c0 c1 c2
        obtain ⟨⟨a0, a1, a2⟩, ⟨b0, b1, b2⟩, ⟨c0, c1, c2⟩⟩ := HC.out _ HX.out
        go_upto_region 13 with (fail)
        go_cut [98] (fun s98 wx => s98 = .bool false ∧ Hid (Fr wb wx (fun _ => False)))
        case first =>
          by_cases h1 : x ≤ 0
          · by_cases h2 : y ≤ 0
            · have h3 : ¬ 0 < z := by have := HTr.out h1 h2; omega
              go_wp2_with fail
              refine (HAB.out _).mono ?_
              rintro e w3 ⟨rfl, hf⟩
              have HX := hid (HX.out.trans hf)
              clear hf a0 a1 a2 b0 b1 b2 c0 c1 c2
              obtain ⟨⟨a0, a1, a2⟩, ⟨b0, b1, b2⟩, ⟨c0, c1, c2⟩⟩ := HC.out _ HX.out
              go_wp2_with fail
              refine (HBC.out _).mono ?_
              rintro e w4 ⟨rfl, hf⟩
              have HX := hid (HX.out.trans hf)
              clear hf a0 a1 a2 b0 b1 b2 c0 c1 c2
              obtain ⟨⟨a0, a1, a2⟩, ⟨b0, b1, b2⟩, ⟨c0, c1, c2⟩⟩ := HC.out _ HX.out
              go_wp2_with fail
              refine (HAC.out _).mono ?_
              rintro e w5 ⟨rfl, hf⟩
              have HX := hid (HX.out.trans hf)
              clear hf a0 a1 a2 b0 b1 b2 c0 c1 c2
              obtain ⟨⟨a0, a1, a2⟩, ⟨b0, b1, b2⟩, ⟨c0, c1, c2⟩⟩ := HC.out _ HX.out
              go_wp2_with fail
              go_meet
              exact ⟨by simp; omega, HX.out⟩
            · go_wp2_with fail
              refine (HAB.out _).mono ?_
              rintro e w3 ⟨rfl, hf⟩
              have HX := hid (HX.out.trans hf)
              clear hf a0 a1 a2 b0 b1 b2 c0 c1 c2
              obtain ⟨⟨a0, a1, a2⟩, ⟨b0, b1, b2⟩, ⟨c0, c1, c2⟩⟩ := HC.out _ HX.out
              go_wp2_with fail
              refine (HBC.out _).mono ?_
              rintro e w4 ⟨rfl, hf⟩
              have HX := hid (HX.out.trans hf)
              clear hf a0 a1 a2 b0 b1 b2 c0 c1 c2
              obtain ⟨⟨a0, a1, a2⟩, ⟨b0, b1, b2⟩, ⟨c0, c1, c2⟩⟩ := HC.out _ HX.out
              go_wp2_with fail
              go_meet
              exact ⟨by simp, HX.out⟩
          · go_wp2_with fail
            refine (HAB.out _).mono ?_
            rintro e w3 ⟨rfl, hf⟩
            have HX := hid (HX.out.trans hf)
            clear hf a0 a1 a2 b0 b1 b2 c0 c1 c2
            obtain ⟨⟨a0, a1, a2⟩, ⟨b0, b1, b2⟩, ⟨c0, c1, c2⟩⟩ := HC.out _ HX.out
            go_wp2_with fail
            go_meet
            exact ⟨by simp, HX.out⟩
        case rest =>
          obtain ⟨rfl, HX⟩ := hcut
          clear a0 a1 a2 b0 b1 b2 c0 c1 c2
          obtain ⟨⟨a0, a1, a2⟩, ⟨b0, b1, b2⟩, ⟨c0, c1, c2⟩⟩ := HC.out _ HX.out
          go_upto_region 15 with (fail)
          go_cut [122] (fun s122 wx => s122 = .bool false ∧ Hid (Fr wb wx (fun _ => False)))
          case first =>
            obtain ⟨av, ak, az⟩ := a
            obtain ⟨bv, bk, bz⟩ := b
            dsimp only at *
            by_cases e1 : av = bv
            · by_cases e2 : ak = bk
              · have hz : (x < 0) ↔ (az < bz) := by
                  have hd := HDf.out
                  rw [e1, e2, if_neg (by rw [cmpI_zero.2 rfl]; decide), if_neg (by rw [cb_self]; decide)] at hd
                  rw [hd]
                  exact cmpI_lt
                subst e1
                subst e2
                clear hv HZ HTr HDf HLs HEq HKB
                by_cases h1 : x < 0
                · have h2 := hz.1 h1
                  clear hz
                  go_region_held3 (fun W' => Hid (Fr wb W' (fun _ => False)) ∧ (W'.cell? ⟨N, 0, none⟩ = some (.int .i64 av) ∧ W'.cell? ⟨N, 1, none⟩ = some (.string ak) ∧ W'.cell? ⟨N, 2, none⟩ = some (.int .i64 az)) ∧ (W'.cell? ⟨N + 1, 0, none⟩ = some (.int .i64 av) ∧ W'.cell? ⟨N + 1, 1, none⟩ = some (.string ak) ∧ W'.cell? ⟨N + 1, 2, none⟩ = some (.int .i64 bz)) ∧ (W'.cell? ⟨N + 1 + 1, 0, none⟩ = some (.int .i64 c.v) ∧ W'.cell? ⟨N + 1 + 1, 1, none⟩ = some (.string c.k) ∧ W'.cell? ⟨N + 1 + 1, 2, none⟩ = some (.int .i64 c.s)))
                    ((refine (fun h => ⟨h, HC.out _ h⟩ : Fr wb _ (fun _ => False) → _) ?_; repeat (first | exact HX.out | apply Fr.drew | apply Fr.alloc)))
                    (first
                    | (go_at_call 14; with_reducible refine (HAB.out _).mono ?_; rintro e w3 ⟨rfl, hf⟩; have HX := hid (Fr.trans (a := wb) (by repeat (first | exact HX.out | apply Fr.drew | apply Fr.alloc)) hf); clear hf)
                    | fail)
                  all_goals (go_wp2_with fail)
                  all_goals go_meet
                  all_goals exact ⟨by simp <;> omega, by repeat (first | exact HX.out | apply Fr.drew | apply Fr.alloc)⟩
                · have h2 : ¬ az < bz := fun h => h1 (hz.2 h)
                  clear hz
                  go_region_held3 (fun W' => Hid (Fr wb W' (fun _ => False)) ∧ (W'.cell? ⟨N, 0, none⟩ = some (.int .i64 av) ∧ W'.cell? ⟨N, 1, none⟩ = some (.string ak) ∧ W'.cell? ⟨N, 2, none⟩ = some (.int .i64 az)) ∧ (W'.cell? ⟨N + 1, 0, none⟩ = some (.int .i64 av) ∧ W'.cell? ⟨N + 1, 1, none⟩ = some (.string ak) ∧ W'.cell? ⟨N + 1, 2, none⟩ = some (.int .i64 bz)) ∧ (W'.cell? ⟨N + 1 + 1, 0, none⟩ = some (.int .i64 c.v) ∧ W'.cell? ⟨N + 1 + 1, 1, none⟩ = some (.string c.k) ∧ W'.cell? ⟨N + 1 + 1, 2, none⟩ = some (.int .i64 c.s)))
                    ((refine (fun h => ⟨h, HC.out _ h⟩ : Fr wb _ (fun _ => False) → _) ?_; repeat (first | exact HX.out | apply Fr.drew | apply Fr.alloc)))
                    (first
                    | (go_at_call 14; with_reducible refine (HAB.out _).mono ?_; rintro e w3 ⟨rfl, hf⟩; have HX := hid (Fr.trans (a := wb) (by repeat (first | exact HX.out | apply Fr.drew | apply Fr.alloc)) hf); clear hf)
                    | fail)
                  all_goals (go_wp2_with fail)
                  all_goals go_meet
                  all_goals exact ⟨by simp <;> omega, by repeat (first | exact HX.out | apply Fr.drew | apply Fr.alloc)⟩
              · have e3 : ¬ ak.toList = bk.toList := by
                  intro e3
                  rw [ByteArray.toList_eq, ByteArray.toList_eq] at e3
                  exact e2 (ByteArray.ext (Array.toList_inj.1 e3))
                have heq : decide (ak.toList = bk.toList) = false := by simpa using e3
                have heq2 : (ak.toList == bk.toList) = false := by simpa using e3
                clear e3
                subst e1
                clear hv HZ HTr HDf HLs HEq HKB e2
                go_quiet (fail)
                go_wp2_with fail
                go_meet
                exact ⟨by simp, by repeat (first | exact HX.out | apply Fr.drewN | apply Fr.drew | apply Fr.alloc)⟩
            · clear hv HZ HTr HDf HLs HEq HKB
              have e4 : decide (av = bv) = false := by simpa using e1
              have e5 : (av == bv) = false := by simpa using e1
              clear e1
              go_quiet (fail)
              go_wp2_with fail
              go_meet
              exact ⟨by simp, by repeat (first | exact HX.out | apply Fr.drewN | apply Fr.drew | apply Fr.alloc)⟩
          case rest =>
            obtain ⟨rfl, HX⟩ := hcut
            go_wp2_with fail
            go_ret
            exact ⟨rfl, HF.out.trans HX.out⟩
end Go.Proofs.Ytahcbkkjlfdffaa.M
