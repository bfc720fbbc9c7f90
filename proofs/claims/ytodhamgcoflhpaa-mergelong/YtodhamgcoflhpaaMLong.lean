import Derived.Test.YtodhamgcoflhpaaMLong0
/- MergeLong: a walk. -/
namespace Go.Proofs.Ytodhamgcoflhpaa.M
open Go.RowKit

/-- The lists of rows and of numbers that are laid so far. -/
structure LB (w W : World) (K n k : Nat) (v7 v8 : Value) (us us2 : List Value) (ls : List (List Nat)) : Prop where
  r : SpR w W v7 us (ls.map (fun l => l.map (rwN K)))
  j : SpJ w W v8 us2 (ls.map (fun l => l.map (fun i : Nat => (i : Int))))
  len : ls.length = k
  ser : ∀ p (hp : p < ls.length), Ser K n p ls[p]
theorem LB.step {w W W' : World} {K n k : Nat} {v7 v8 : Value} {us us2 : List Value} {ls : List (List Nat)} (h : LB w W K n k v7 v8 us us2 ls) (hf : Fr W W' (fun _ => False)) : LB w W' K n k v7 v8 us us2 ls := ⟨h.r.step hf, h.j.step hf, h.len, h.ser⟩
theorem LB.ul {w W : World} {K n k : Nat} {v7 v8 : Value} {us us2 : List Value} {ls : List (List Nat)} (h : LB w W K n k v7 v8 us us2 ls) : us.length = k ∧ us2.length = k := by
  have h1 := h.r.len
  have h2 := h.j.len
  rw [List.length_map, h.len] at h1 h2
  exact ⟨h1, h2⟩
/-- A list's rows, and its numbers. -/
def rowsK (K k j : Nat) : List Rw := ((List.range j).map (fun t => k + t * K)).map (rwN K)
def intsK (K k j : Nat) : List Int := ((List.range j).map (fun t => k + t * K)).map (fun i : Nat => (i : Int))
theorem rowsK_len (K k j : Nat) : (rowsK K k j).length = j := by simp [rowsK]
theorem intsK_len (K k j : Nat) : (intsK K k j).length = j := by simp [intsK]
/-- The two lists of a round. -/
structure LR (W1 W : World) (K k j : Nat) (v10 v11 : Value) : Prop where
  r : W1.heap.size ≤ W.heap.size ∧ W.ownsRow W1.heap.size 43 7 v10 j (rc (rowsK K k j))
  i : W.ownsRow W1.heap.size 3 1 v11 j (I.iv (intsK K k j))
  fr : Fr W1 W (fun _ => False)
theorem rwN_mod {K k j : Nat} (hk : k < K) : rwN K (k + j * K) = ⟨⟨0, ⟨#[107]⟩, ((k + j * K : Nat) : Int)⟩, ((k + 1 : Nat) : Int), 0, 0, 0⟩ := by
  unfold rwN
  rw [Nat.add_mul_mod_self_right, Nat.mod_eq_of_lt hk]

theorem rc_step {K k j x : Nat} (hk : k < K) (hx : x = k + j * K) : rc (rowsK K k (j + 1)) = rc (rowsK K k j) ++ [.int .i64 0, .string ⟨#[107]⟩, .int .i64 (x : Int), .int .i64 ((k : Int) + 1), .int .i64 0, .int .i64 0, .int .i64 0] := by
  unfold rowsK
  rw [List.range_succ, List.map_append, List.map_append, rc_append]
  congr 1
  simp only [List.map_cons, List.map_nil]
  rw [rwN_mod hk, ← hx]
  rfl
theorem iv_step {K k j x : Nat} (hx : x = k + j * K) : I.iv (intsK K k (j + 1)) = I.iv (intsK K k j) ++ [.int .i64 (x : Int)] := by
  unfold intsK
  rw [List.range_succ, List.map_append, List.map_append, I.iv_append]
  congr 1
  simp only [List.map_cons, List.map_nil]
  rw [← hx]
  rfl
theorem LR.row {W1 W : World} {K k j : Nat} {v10 v11 : Value} (h : LR W1 W K k j v10 v11) {w : World} (hw : w.heap.size ≤ W1.heap.size) : W.ownsRow w.heap.size 43 7 v10 (rowsK K k j).length (rc (rowsK K k j)) := by
  have := own_mono h.r.2 hw
  rw [rowsK_len]
  exact this
theorem LR.ints {W1 W : World} {K k j : Nat} {v10 v11 : Value} (h : LR W1 W K k j v10 v11) {w : World} (hw : w.heap.size ≤ W1.heap.size) : W.ownsRow w.heap.size 3 1 v11 (intsK K k j).length (I.iv (intsK K k j)) := by
  have := own_mono h.i hw
  rw [intsK_len]
  exact this

set_option maxHeartbeats 8000000 in
set_option maxRecDepth 100000 in
theorem long_walk (lists n0 most : Int) (w : World) :
    Calls Try.prog 7 #[.int .i64 lists, .int .i64 n0, .int .i64 most] w fun r w' => r = .returned (.bool true) ∧ Fr w w' (fun _ => False) := by
  obtain ⟨i0, hi0, hz0, hz1, hz2⟩ := M.W.infoP Try.info_rs
  obtain ⟨i1, hi1, hy0, hy1, hy2⟩ := M.W.infoP Try.info_is
  obtain ⟨i2, hi2, hx0, hx1, hx2⟩ := M.W.infoP M.W.Try.info_r7
  obtain ⟨i3, hi3, hw0, hw1', hw2'⟩ := M.W.infoP I.Try.info_elI
  obtain ⟨K, hK⟩ : ∃ K : Nat, 1 + lists % 50 = (K : Int) := ⟨(1 + lists % 50).toNat, by omega⟩
  obtain ⟨n, hn⟩ : ∃ n : Nat, n0 % 5000 = (n : Int) := ⟨(n0 % 5000).toNat, by omega⟩
  have hK1 : 1 ≤ K := by omega
  have hK2 : K ≤ 50 := by omega
  have hn2 : n < 5000 := by omega
  obtain ⟨mo, hmo⟩ : ∃ mo : Nat, most % ((n : Int) + 2) = (mo : Int) := ⟨(most % ((n : Int) + 2)).toNat, by have := Int.emod_nonneg most (show ((n : Int) + 2) ≠ 0 by omega); omega⟩
  have hmo2 : mo < n + 2 := by have := Int.emod_lt_of_pos most (show (0 : Int) < (n : Int) + 2 by omega); omega
  have HW1 := hid (fun (W : World) => within_any lists 50 (by decide) (by decide) W)
  have HW2 := hid (fun (W : World) => within_any n0 5000 (by decide) (by decide) W)
  have HW3 := hid (fun (W : World) => within_any most ((n : Int) + 2) (by omega) (by omega) W)
  rw [hn] at HW2
  rw [hmo] at HW3
  generalize lists % 50 = q at *
  clear hn hmo
  go_enter Try.func7, Try.ntmps7
  go_wp2_with fail
  refine (known_any _).mono ?_
  rintro r w1 ⟨rfl, hf⟩
  have HF1 := hid hf
  clear hf
  go_wp2_with fail
  refine (HW1.out _).mono ?_
  rintro r w2 ⟨rfl, hw⟩
  have hw := hw.symm
  subst hw
  go_wp2_with fail
  refine (HW2.out _).mono ?_
  rintro r w2 ⟨rfl, hw⟩
  have hw := hw.symm
  subst hw
  go_wp2_with fail
  have HB0 : Hid (LB w w1 K n 0 (.slice none 0 0) (.slice none 0 0) [] [] []) := ⟨SpR.nil w w1 HF1.out, SpJ.nil w w1 HF1.out, rfl, fun p hp => by simp at hp⟩
  go_loopg [7, 8, 9] K (fun gk s7 s8 s9 wx => ∃ (k : Nat) (us us2 : List Value) (ls : List (List Nat)), s9 = .int .i64 (k : Int) ∧ k + gk = K ∧ Hid (LB w wx K n k s7 s8 us us2 ls))
  case atStart => exact ⟨0, [], [], [], rfl, by omega, HB0⟩
  case round =>
    obtain ⟨k, us, us2, ls, rfl, hgk, HB⟩ := hrel
    clear HB0
    cases gk with
    | zero =>
      have t1 : ¬ (k : Int) < (K : Int) := by omega
      have hkK : k = K := by omega
      have hB := HB.out
      rw [hkK] at hB
      have HBK := hid hB
      obtain ⟨sv, hat⟩ := hB.r.at (by rw [List.length_map, hB.len]; omega)
      have HRw := hid (M.W.rows_any (mo : Int) wr hat (by rw [tot_ser (by omega) hB.len hB.ser]; omega))
      rw [merged_map M.W.cmE_cm (rwN K) (cmE_rwN K) (by omega) hB.len hB.ser, Int.toNat_natCast, ← List.map_take, List.take_range] at HRw
      have HLs := hid (fun (W : World) (hf : Fr wr W (fun _ => False)) => (show Calls Try.prog 19 #[u8] W fun e w' => ∃ v, e = .returned v ∧ I.Eo W w' v ((List.range n).map (fun i : Nat => (i : Int))) from by
        obtain ⟨sv2, hat2⟩ := (hB.j.step hf).at (by rw [List.length_map, hB.len]; omega)
        have := I.lists_any W hat2 (by rw [tot_ser (by omega) hB.len hB.ser]; omega)
        rw [merged_map I.cmE_cm (fun i : Nat => (i : Int)) (fun i j => rfl) (by omega) hB.len hB.ser, ded_rise] at this
        exact this))
      have HFw := hid hB.r.fr
      obtain ⟨a7, c7, e7⟩ := own_nil_shape hB.r.own
      obtain ⟨a8, c8, e8⟩ := own_nil_shape hB.j.own
      clear hB HBK HB hat hgk hkK
      subst e7 e8
      have HRl : Hid (((List.range (min mo n)).map (rwN K)).length = min mo n) := by show _ = _; simp
      have HRc : Hid (∀ (i : Nat), i < min mo n → ((List.range (min mo n)).map (rwN K))[i]?.getD default = rwN K i) := fun i hi => by simp [hi]
      generalize (List.range (min mo n)).map (rwN K) = R at *
      have HZl : Hid (((List.range n).map (fun i : Nat => (i : Int))).length = n) := by show _ = _; simp
      have HZc : Hid (∀ (i : Nat), i < n → ((List.range n).map (fun i : Nat => (i : Int)))[i]?.getD default = (i : Int)) := fun i hi => by simp [hi]
      generalize (List.range n).map (fun i : Nat => (i : Int)) = Z at *
      go_wp2_with fail
      refine (HW3.out _).mono ?_
      rintro r w2 ⟨rfl, hw⟩
      have hw := hw.symm
      subst hw
      go_wp2_with fail
      refine HRw.out.mono ?_
      rintro r w3 ⟨v3, rfl, ho3, hf3⟩
      have HO3 := hid ho3
      have HF3 := hid hf3
      obtain ⟨a3, c3, rfl⟩ := own_nil_shape ho3
      clear ho3 hf3 HRw
      go_wp2_with fail
      refine (HLs.out _ HF3.out).mono ?_
      rintro r w4 ⟨v4, rfl, ho4, hf4⟩
      have HO4 := hid ho4
      have HF4 := hid hf4
      obtain ⟨a4, c4, rfl⟩ := own_nil_shape ho4
      have HR4 := hid (own_fr HO3.out hf4 (fun _ _ h => h))
      have HFe := hid ((HFw.out.trans HF3.out).trans hf4)
      clear ho4 hf4 HLs HO3
      have hr1 : ((R.length : Nat) : Int) = min (mo : Int) (n : Int) := by rw [HRl.out]; omega
      have hr2 : ((Z.length : Nat) : Int) = (n : Int) := by rw [HZl.out]
      have hKz : ((K : Int) == 0) = false := by simp; omega
      have hK0 : ¬ (K : Int) = 0 := by omega
      have HRd := hid (fun (i : Nat) (hi : i < R.length) => (show ∃ g, a3 = some ⟨g, 0, none⟩ ∧ g < w4.heap.size ∧ w4.cell? ⟨g, i * 7 + 2, none⟩ = some (.int .i64 (i : Int)) ∧ w4.cell? ⟨g, i * 7 + 3, none⟩ = some (.int .i64 ((i : Int) % (K : Int) + 1)) from by
        rcases HR4.out.2 with ⟨_, h'⟩ | ⟨g, cap, cur, e, hb, hg, _⟩
        · omega
        · simp only [Value.slice.injEq] at e
          have e3 := HRc.out i (by rw [← HRl.out]; exact hi)
          refine ⟨g, e.1, lt_of_block hg, ?_, ?_⟩
          · have h1 := HR4.out.cells (g := g) (by rw [e.1]; rfl) _ _ (rc_get R i 2 hi (by decide))
            rw [Addr.add_lit, Nat.zero_add, e3] at h1
            exact h1
          · have h1 := HR4.out.cells (g := g) (by rw [e.1]; rfl) _ _ (rc_get R i 3 hi (by decide))
            rw [Addr.add_lit, Nat.zero_add, e3] at h1
            exact h1))
      have HZd := hid (fun (i : Nat) (hi : i < n) => (show ∃ g, a4 = some ⟨g, 0, none⟩ ∧ g < w4.heap.size ∧ w4.cell? ⟨g, i, none⟩ = some (.int .i64 (i : Int)) from by
        rcases HO4.out.2 with ⟨_, h'⟩ | ⟨g, cap, cur, e, hb, hg, _⟩
        · have := HZl.out; omega
        · simp only [Value.slice.injEq] at e
          have hi2 : i < Z.length := by rw [HZl.out]; exact hi
          refine ⟨g, e.1, lt_of_block hg, ?_⟩
          have h1 := HO4.out.cells (g := g) (by rw [e.1]; rfl) i (.int .i64 (i : Int)) (by have := HZc.out i hi; simp [I.iv, hi2] at this ⊢; exact this)
          rw [Addr.add_lit, Nat.zero_add] at h1
          exact h1))
      have hRb : R.length ≤ 5000 := by rw [HRl.out]; omega
      go_wp2_with fail
      go_loopg [15] R.length (fun g3 s15 wx => ∃ i : Nat, s15 = .int .i64 (i : Int) ∧ i + g3 = R.length ∧ Hid (Fr w4 wx (fun _ => False)))
      case atStart => exact ⟨0, rfl, by omega, Fr.refl _ _⟩
      case round =>
        obtain ⟨i, rfl, hi, HFi⟩ := hrel
        cases gk with
        | zero =>
          have t2 : ¬ (i : Int) < (R.length : Int) := by omega
          clear hi
          have hr1' := hr1
          rw [hr1] at t2
          generalize wr = w5 at *
          go_wp2_with fail
          go_loopg [16] n (fun g4 s16 wx => ∃ j : Nat, s16 = .int .i64 (j : Int) ∧ j + g4 = n ∧ Hid (Fr w4 wx (fun _ => False)))
          case atStart => exact ⟨0, rfl, by omega, HFi⟩
          case round =>
            obtain ⟨j, rfl, hj, HFj⟩ := hrel
            cases gk with
            | zero =>
              have t3 : ¬ (j : Int) < (n : Int) := by omega
              clear hj
              go_wp2_with fail
              go_ret
              exact ⟨rfl, HFe.out.trans HFj.out⟩
            | succ g4 =>
              have t3 : (j : Int) < (n : Int) := by omega
              have t4 : (0 : Int) ≤ (j : Int) := by omega
              have t5 : (j : Int) < ((Z.length : Nat) : Int) := by omega
              obtain ⟨g, rfl, hgl, hc⟩ := HZd.out j (by omega)
              have hc' : wr.cell? ⟨g, j, none⟩ = some (.int .i64 (j : Int)) := by rw [(M.fr_rules HFj.out).1 _ _ hgl]; exact hc
              have hgl' : g < wr.heap.size := Nat.lt_of_lt_of_le hgl HFj.out.size
              have HJ := hid hj
              clear hc hj
              go_wp2_with fail
              go_roundg g4
              case measure => omega
              case rel => exact ⟨j + 1, by go_num, by have := HJ.out; omega, HFj⟩
        | succ g3 =>
          have t2 : (i : Int) < (R.length : Int) := by omega
          have t4 : (0 : Int) ≤ (i : Int) := by omega
          obtain ⟨g, rfl, hgl, hc, hd⟩ := HRd.out i (by omega)
          have hc' : wr.cell? ⟨g, i * 7 + 2, none⟩ = some (.int .i64 (i : Int)) := by rw [(M.fr_rules HFi.out).1 _ _ hgl]; exact hc
          have hd' : wr.cell? ⟨g, i * 7 + 3, none⟩ = some (.int .i64 ((i : Int) % (K : Int) + 1)) := by rw [(M.fr_rules HFi.out).1 _ _ hgl]; exact hd
          have hgl' : g < wr.heap.size := Nat.lt_of_lt_of_le hgl HFi.out.size
          have HI := hid hi
          have hm1 : 0 ≤ (i : Int) % (K : Int) := Int.emod_nonneg _ hK0
          have hm2 : (i : Int) % (K : Int) < (K : Int) := Int.emod_lt_of_pos _ (by omega)
          have hm3 : (i : Int).tmod (K : Int) = (i : Int) % (K : Int) := Int.tmod_eq_emod_of_nonneg t4
          clear hc hd hi
          go_wp2_with fail
          go_quiet (fail)
          go_wp2_with fail
          go_roundg g3
          case measure => omega
          case rel => exact ⟨i + 1, by go_num, by have := HI.out; omega, HFi.out.trans (by repeat (first | with_reducible exact Fr.refl _ _ | with_reducible apply Fr.drew | with_reducible apply Fr.drewN))⟩
    | succ go =>
      have hkK : k < K := by omega
      have t1 : (k : Int) < (K : Int) := by omega
      have HG := hid hgk
      clear hgk
      generalize wr = W1 at *
      obtain ⟨hu1, hu2⟩ := HB.out.ul
      obtain ⟨a7, c7, e7⟩ := own_nil_shape HB.out.r.own
      obtain ⟨a8, c8, e8⟩ := own_nil_shape HB.out.j.own
      rw [hu1] at e7
      rw [hu2] at e8
      subst e7 e8
      have HU := hid (And.intro hu1 hu2)
      clear hu1 hu2
      go_wp2_with fail
      go_loopg [10, 11, 12] n (fun g2 s10 s11 s12 wx => ∃ j x : Nat, s12 = .int .i64 (x : Int) ∧ n ≤ x + g2 ∧ Hid (x = k + j * K) ∧ Hid (∀ t, t < j → k + t * K < n) ∧ Hid (LR W1 wx K k j s10 s11))
      case atStart => exact ⟨0, k, rfl, by omega, (by simp : k = k + 0 * K), fun t ht => by omega, ⟨Nat.le_refl _, ⟨rfl, Or.inl ⟨rfl, rfl⟩⟩⟩, ⟨rfl, Or.inl ⟨rfl, rfl⟩⟩, Fr.refl _ _⟩
      case round =>
        obtain ⟨j, x, rfl, hj, HX, HS, HL⟩ := hrel
        have hjb : j ≤ 5000 := by
          rcases Nat.eq_zero_or_pos j with h0 | h0
          · omega
          · have := HS.out (j - 1) (by omega)
            have h2 : (j - 1) * 1 ≤ (j - 1) * K := Nat.mul_le_mul_left _ hK1
            omega
        obtain ⟨a10, c10, e10⟩ := own_nil_shape HL.out.r.2
        obtain ⟨a11, c11, e11⟩ := own_nil_shape HL.out.i
        subst e10 e11
        have hxb : x ≤ 300000 := by
          have h1 := HX.out
          have h2 : j * K ≤ 5000 * 50 := Nat.mul_le_mul hjb hK2
          omega
        have hw1 : w.heap.size ≤ W1.heap.size := HB.out.r.fr.size
        have hw2 : W1.heap.size ≤ wr.heap.size := HL.out.r.1
        by_cases hlt : x < n
        · have t2 : (x : Int) < (n : Int) := by omega
          have HO := hid (own_fr HL.out.r.2 (alloc_fr wr (.cells #[.int .i64 0, .string ⟨#[107]⟩, .int .i64 (x : Int), .int .i64 ((k : Int) + 1), .int .i64 0, .int .i64 0, .int .i64 0] 43) (fun _ => False)) (fun _ _ h => h))
          go_wp2_with (at_builtin; go_must (refine wpList_append_own_at _ rfl (.tmp 36) (.tmp 43) 22 rfl W1.heap.size 43 i2 _ 7 64 Try.underlying22 hi2 hx0 hx1 hx2 rfl (by decide) _ j _ rfl HO.out ⟨wr.heap.size, 0, none⟩ 1 1 [.int .i64 0, .string ⟨#[107]⟩, .int .i64 (x : Int), .int .i64 ((k : Int) + 1), .int .i64 0, .int .i64 0, .int .i64 0] rfl rfl ?q1 ?q2 ?q3 ?q4 ?q5 ?_))
          case q1 => exact M.W.r7_new wr _ _ _ _ _ _ _ _
          case q2 => intro u hu; simp at hu; rcases hu with rfl | rfl | rfl | rfl | rfl | rfl | rfl <;> rfl
          case q3 => unfold maxLen; omega
          case q4 => omega
          case q5 => simp; omega
          intro v' w4 hown hgrow hnil hat
          rw [← rc_step hkK HX.out] at hown
          have hkp : KpC [43] _ w4 := KpC.grown HO.out hgrow
          have HR4 := hid hown
          have HI4 := hid (own_kpc (own_fr HL.out.i (alloc_fr wr (.cells #[.int .i64 0, .string ⟨#[107]⟩, .int .i64 (x : Int), .int .i64 ((k : Int) + 1), .int .i64 0, .int .i64 0, .int .i64 0] 43) (fun _ => False)) (fun _ _ h => h)) hkp (by decide))
          have HF4 : Hid (Fr W1 w4 (fun _ => False)) := (HL.out.fr.alloc _).grown hgrow (fun b hb e => by have := (HO.out.lt b e).1; omega)
          have hw4 : W1.heap.size ≤ w4.heap.size := HF4.out.size
          obtain ⟨a4, c4, rfl⟩ := own_nil_shape hown
          clear hown hgrow hnil hat hkp HO HL
          have HO5 := hid (own_fr HI4.out (alloc_fr w4 (.cells #[.int .i64 (x : Int)] 3) (fun _ => False)) (fun _ _ h => h))
          go_wp2_with (at_builtin; go_must (refine wpList_append_own_at _ rfl (.tmp 45) (.tmp 47) 44 rfl W1.heap.size 3 i3 _ 1 8 Try.underlying44 hi3 hw0 hw1' hw2' rfl (by decide) _ j _ rfl HO5.out ⟨w4.heap.size, 0, none⟩ 1 1 [.int .i64 (x : Int)] rfl rfl (cells_new w4 _ _) (fun u hu => by simp at hu; rw [hu]; rfl) (by unfold maxLen; omega) (by omega) (by simp; omega) ?_))
          intro v5 w5 hown hgrow hnil hat
          rw [← iv_step HX.out] at hown
          have hkp : KpC [3] _ w5 := KpC.grown HO5.out hgrow
          have HF5 : Hid (Fr W1 w5 (fun _ => False)) := (HF4.out.alloc _).grown hgrow (fun b hb e => by have := (HO5.out.lt b e).1; omega)
          have HR5 := hid (own_kpc (own_fr HR4.out (alloc_fr w4 (.cells #[.int .i64 (x : Int)] 3) (fun _ => False)) (fun _ _ h => h)) hkp (by decide))
          obtain ⟨a5, c5, rfl⟩ := own_nil_shape hown
          have HLn : Hid (LR W1 w5 K k (j + 1) (.slice a4 (j + 1) c4) (.slice a5 (j + 1) c5)) := ⟨⟨HF5.out.size, HR5.out⟩, hown, HF5.out⟩
          have HSn : Hid (∀ t, t < j + 1 → k + t * K < n) := fun t ht => by
            rcases Nat.lt_or_ge t j with h3 | h3
            · exact HS.out t h3
            · have : t = j := by omega
              rw [this, ← HX.out]
              exact hlt
          have HXn : Hid (x + K = k + (j + 1) * K) := by
            show x + K = _
            rw [HX.out, Nat.succ_mul]
            omega
          clear hown hgrow hnil hat hkp HO5 HI4 HR4
          go_wp2_with fail
          go_roundg (gk - K)
          case measure => omega
          case rel => exact ⟨j + 1, x + K, by go_num, by omega, HXn, HSn, HLn⟩
        · have t2 : ¬ (x : Int) < (n : Int) := by omega
          have HSer : Hid (Ser K n k ((List.range j).map (fun t => k + t * K))) := ⟨j, rfl, by rw [← HX.out]; omega, HS.out⟩
          have HB2 := hid ((HB.out.step HL.out.fr).step (alloc_fr wr (.cells #[.slice a10 j c10] 22) _))
          have HLr := hid (own_fr (HL.out.row hw1) (alloc_fr wr (.cells #[.slice a10 j c10] 22) (fun _ => False)) (fun _ _ h => h))
          have HLi := hid (own_fr (HL.out.ints hw1) (alloc_fr wr (.cells #[.slice a10 j c10] 22) (fun _ => False)) (fun _ _ h => h))
          have HO := hid HB2.out.r.own
          rw [HU.out.1] at HO
          go_wp2_with (at_builtin; go_must (refine wpList_append_own_at _ rfl (.tmp 49) (.tmp 51) 25 rfl w.heap.size 22 i0 _ 1 24 Try.underlying25 hi0 hz0 hz1 hz2 rfl (by decide) _ k us rfl HO.out ⟨wr.heap.size, 0, none⟩ 1 1 [.slice a10 j c10] rfl rfl (cells_new wr _ _) (fun u hu => by simp at hu; rw [hu]; rfl) (by unfold maxLen; omega) (by omega) (by simp; omega) ?_))
          intro v' w4 hown hgrow hnil hat
          have hkp : KpC [22] _ w4 := KpC.grown HO.out hgrow
          have hsp := HB2.out.r.snoc HLr.out (by rw [HU.out.1]; exact hown) hgrow
          have HSp := hid hsp
          have HJ4 := hid (HB2.out.j.kpc hkp (by decide) (by decide) hsp.fr)
          have HI4 := hid (own_kpc HLi.out hkp (by decide))
          have hw4 : w.heap.size ≤ w4.heap.size := hsp.fr.size
          obtain ⟨a4, c4, rfl⟩ := own_nil_shape hown
          clear hown hgrow hnil hat hkp HO hsp HL HLr HLi
          have HSp5 := hid (HSp.out.step (alloc_fr w4 (.cells #[.slice a11 j c11] 44) _))
          have HJ5 := hid (HJ4.out.step (alloc_fr w4 (.cells #[.slice a11 j c11] 44) _))
          have HI5 := hid (own_fr HI4.out (alloc_fr w4 (.cells #[.slice a11 j c11] 44) (fun _ => False)) (fun _ _ h => h))
          have HO5 := hid HJ5.out.own
          rw [HU.out.2] at HO5
          go_wp2_with (at_builtin; go_must (refine wpList_append_own_at _ rfl (.tmp 53) (.tmp 55) 49 rfl w.heap.size 44 i1 _ 1 24 Try.underlying49 hi1 hy0 hy1 hy2 rfl (by decide) _ k us2 rfl HO5.out ⟨w4.heap.size, 0, none⟩ 1 1 [.slice a11 j c11] rfl rfl (cells_new w4 _ _) (fun u hu => by simp at hu; rw [hu]; rfl) (by unfold maxLen; omega) (by omega) (by simp; omega) ?_))
          intro v5 w5 hown hgrow hnil hat
          have hkp : KpC [44] _ w5 := KpC.grown HO5.out hgrow
          have hsj := HJ5.out.snoc HI5.out (by rw [HU.out.2]; exact hown) hgrow
          have HBn : Hid (LB w w5 K n (k + 1) (.slice a4 (k + 1) c4) v5 (us ++ [.slice a10 j c10]) (us2 ++ [.slice a11 j c11]) (ls ++ [(List.range j).map (fun t => k + t * K)])) := by
            refine ⟨?_, ?_, by rw [List.length_append, HB.out.len]; rfl, fun p hp => ?_⟩
            · rw [List.map_append]
              exact HSp5.out.kpc hkp (by decide) (by decide) hsj.fr
            · rw [List.map_append]
              exact hsj
            · rw [List.length_append] at hp
              by_cases hpl : p < ls.length
              · rw [List.getElem_append_left hpl]
                exact HB.out.ser p hpl
              · have e1 : p = ls.length := by simp at hp; omega
                have e2 : p = k := by rw [e1, HB.out.len]
                have e3 : (ls ++ [(List.range j).map (fun t => k + t * K)])[p] = (List.range j).map (fun t => k + t * K) := by subst e1; simp
                rw [e3, e2]
                exact HSer.out
          obtain ⟨a5, c5, rfl⟩ := own_nil_shape hown
          clear hown hgrow hnil hat hkp HO5 hsj HSp5 HJ5 HI5
          go_wp2_with fail
          go_roundg go
          case measure => omega
          case rel => exact ⟨k + 1, _, _, _, by go_num, by have := HG.out; omega, HBn⟩
end Go.Proofs.Ytodhamgcoflhpaa.M
