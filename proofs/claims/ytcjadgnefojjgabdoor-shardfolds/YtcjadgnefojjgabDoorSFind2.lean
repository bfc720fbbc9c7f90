/- shard: find, check: walks. -/
import Derived.Test.YtcjadgnefojjgabDoorSFind
namespace Go.Proofs.YtcjadgnefojjgabDoor.S
open Go.RowKit G

theorem check_any (e : Int) (c : Cl) (w : World) (hk : c.k.size ≤ 9223372036854775807) :
    Calls Tryd.prog 14 #[.int .i64 e, .agg #[.int .i64 c.v, .string c.k, .int .i64 c.s]] w fun r w' => r = .returned (.int .i64 (if mayE c = 0 then (if e < 1 ∨ 1099511627776 < e then 1 else 0) else mayE c)) ∧ Fr w w' (fun _ => False) := by
  have HM := hid (fun W => mayBe_any c W hk)
  by_cases h0 : mayE c = 0
  · rw [if_pos h0]
    rw [h0] at HM
    by_cases h1 : e < 1
    · rw [if_pos (Or.inl h1)]
      go_enter Tryd.func14, Tryd.ntmps14
      go_wp2_with fail
      refine (HM.out _).mono ?_
      rintro r w1 ⟨rfl, hf⟩
      have HF := hid ((alloc_fr w _ _).trans hf)
      clear hf
      go_wp2_with fail
      go_ret
      exact ⟨rfl, HF.out⟩
    by_cases h2 : 1099511627776 < e
    · rw [if_pos (Or.inr h2)]
      go_enter Tryd.func14, Tryd.ntmps14
      go_wp2_with fail
      refine (HM.out _).mono ?_
      rintro r w1 ⟨rfl, hf⟩
      have HF := hid ((alloc_fr w _ _).trans hf)
      clear hf
      go_wp2_with fail
      go_ret
      exact ⟨rfl, HF.out⟩
    rw [if_neg (by omega)]
    go_enter Tryd.func14, Tryd.ntmps14
    go_wp2_with fail
    refine (HM.out _).mono ?_
    rintro r w1 ⟨rfl, hf⟩
    have HF := hid ((alloc_fr w _ _).trans hf)
    clear hf
    go_wp2_with fail
    go_ret
    exact ⟨rfl, HF.out⟩
  · rw [if_neg h0]
    generalize mayE c = m at *
    have t1 : (m != 0) = true := by simpa using h0
    clear h0
    go_enter Tryd.func14, Tryd.ntmps14
    go_wp2_with fail
    refine (HM.out _).mono ?_
    rintro r w1 ⟨rfl, hf⟩
    have HF := hid ((alloc_fr w _ _).trans hf)
    clear hf
    go_wp2_with fail
    go_ret
    exact ⟨rfl, HF.out⟩

/-- What Get tells of a shard's table. -/
theorem ShI.get {w : World} {base S slots B gr : Nat} {ge : Option Nat} {T : Tb} {M : List Ent} (h : ShI w base S slots B gr ge T M) {c : Cl} (hc : mayE c = 0) : getT zR T (key c) = match getM M c with | some e => (rwV e.c e.b, true) | none => (zR, false) := by
  cases hm : getM M c with
  | some e =>
    obtain ⟨h1, h2⟩ := getM_some hm
    exact get_has zR h.inv.i0 ((h.has _ _).2 ⟨e, h1, by rw [h2], rfl⟩)
  | none =>
    refine get_none zR h.inv.i0 (fun v hv => ?_)
    obtain ⟨e, he, h1, _⟩ := (h.has _ _).1 hv
    exact getM_none hm e he (key_inj (h.may e he) hc h1.symm)

/-- What find answers. -/
def Found (w w' : World) (base : Nat) (M : List Ent) (c : Cl) (e : Ent) : Prop :=
  e.c = c ∧ e.L = getV (M.map pr) c ∧ Ch w' base e.b e.cv e.L ∧ Fr w w' (fun _ => False) ∧ (getM M c = some e ∨ (getM M c = none ∧ w.heap.size ≤ e.b ∧ e.cv = .slice none 0 0))

set_option maxHeartbeats 8000000 in
set_option maxRecDepth 100000 in
theorem find_any {base S slots B gr : Nat} {ge : Option Nat} {T : Tb} {M : List Ent} (c : Cl) (w : World) (h : ShI w base S slots B gr ge T M) (hc : mayE c = 0) :
    Calls Tryd.prog 16 #[.agg #[.pointer (some ⟨B, 0, none⟩)], .agg #[.int .i64 c.v, .string c.k, .int .i64 c.s]] w fun r w' => ∃ e, r = .returned (rwV c e.b) ∧ Found w w' base M c e := by
  have HSh := hid h
  have HTx := hid (fun (W : World) (hf : Fr w W (fun _ => False)) => text_any c W hc ((h.step hf).gl))
  have HGt := hid (fun (W : World) (hf : Fr w W (fun _ => False)) => R.get_any (key c) W ((h.step hf).tb) (key_size hc))
  rw [show (.agg #[.int .i64 0, .string ⟨#[]⟩, .int .i64 0, .pointer none] : Value) = zR from rfl] at HGt
  rw [h.get hc] at HGt
  have HLv := hid (getM_getV M c)
  have HMl : Hid (∀ (W : World), Fr w W (fun _ => False) → ∀ e, getM M c = some e → ∃ e', Found w W base M c e' ∧ e'.b = e.b) := by
    intro W hf e he
    obtain ⟨h1, h2⟩ := getM_some he
    have h3 := HLv.out
    rw [he] at h3
    exact ⟨e, ⟨h2, h3.symm, ((h.step hf).ch e h1), hf, Or.inl he⟩, rfl⟩
  have HMn : Hid (getM M c = none → ∀ (W : World) (N : Nat), Fr w W (fun _ => False) → w.heap.size ≤ N → (∀ base, Ch W base N (.slice none 0 0) []) → Found w W base M c ⟨c, N, .slice none 0 0, []⟩) := by
    intro he W N hf hN hch
    have h3 := HLv.out
    rw [he] at h3
    exact ⟨rfl, h3.symm, hch base, hf, Or.inr ⟨he, hN, rfl⟩⟩
  clear h
  obtain ⟨x, t, HX⟩ : ∃ (x : R.Rw) (t : Bool), Hid ((∀ (W : World), Fr w W (fun _ => False) → Calls Tryd.prog 32 #[.pointer (some ⟨B, 0, none⟩), .string (key c)] W fun e w' => e = .returned (.tuple #[.agg #[.int .i64 x.v, .string x.k, .int .i64 x.s, .pointer x.p], .bool t]) ∧ Fr W w' (fun _ => False)) ∧ ((t = true ∧ ∃ e, getM M c = some e ∧ x = ⟨c.v, c.k, c.s, some ⟨e.b, 0, none⟩⟩) ∨ (t = false ∧ getM M c = none))) := by
    cases hm : getM M c with
    | some e =>
      have h2 := (getM_some hm).2
      refine ⟨⟨c.v, c.k, c.s, some ⟨e.b, 0, none⟩⟩, true, ?_, Or.inl ⟨rfl, e, rfl, rfl⟩⟩
      intro W hf
      have h5 := HGt.out W hf
      rw [hm] at h5
      dsimp only at h5
      rw [h2] at h5
      exact h5
    | none =>
      refine ⟨R.rz, false, ?_, Or.inr ⟨rfl, rfl⟩⟩
      intro W hf
      have h5 := HGt.out W hf
      rw [hm] at h5
      exact h5
  have HGx := hid HX.out.1
  have HXc := hid HX.out.2
  clear HGt HX HLv
  generalize key c = kk at *
  obtain ⟨v, k, s⟩ := c
  dsimp only at *
  go_enter Tryd.func16, Tryd.ntmps16
  go_wp2_with fail
  have HB0 : Hid (((((w.alloc (.cells #[.pointer (some ⟨B, 0, none⟩)] 48)).alloc (.cells #[.int .i64 v, .string k, .int .i64 s] 23)).alloc (.cells #[.int .i64 0, .string ⟨#[]⟩, .int .i64 0, .pointer none] 60)).heap[w.heap.size]? = some (.cells #[.pointer (some ⟨B, 0, none⟩)] 48 (0, 0)) ∧ (((w.alloc (.cells #[.pointer (some ⟨B, 0, none⟩)] 48)).alloc (.cells #[.int .i64 v, .string k, .int .i64 s] 23)).alloc (.cells #[.int .i64 0, .string ⟨#[]⟩, .int .i64 0, .pointer none] 60)).heap[w.heap.size + 1]? = some (.cells #[.int .i64 v, .string k, .int .i64 s] 23 (0, 0)) ∧ RwAt (((w.alloc (.cells #[.pointer (some ⟨B, 0, none⟩)] 48)).alloc (.cells #[.int .i64 v, .string k, .int .i64 s] 23)).alloc (.cells #[.int .i64 0, .string ⟨#[]⟩, .int .i64 0, .pointer none] 60)) (w.heap.size + 1 + 1) R.rz)) := by
    refine ⟨?_, ?_, ?_⟩
    · rw [Below.heap_alloc _ _ _ (by simp; omega), Below.heap_alloc _ _ _ (by simp)]; exact heap_last _ _ _ rfl
    · rw [Below.heap_alloc _ _ _ (by simp)]; exact heap_last _ _ _ (by simp)
    · exact heap_last _ _ _ (by simp [Nat.add_assoc])
  have HFa := hid (((alloc_fr w (.cells #[.pointer (some ⟨B, 0, none⟩)] 48) (fun _ => False)).alloc (.cells #[.int .i64 v, .string k, .int .i64 s] 23)).alloc (.cells #[.int .i64 0, .string ⟨#[]⟩, .int .i64 0, .pointer none] 60))
  generalize ((w.alloc (.cells #[.pointer (some ⟨B, 0, none⟩)] 48)).alloc (.cells #[.int .i64 v, .string k, .int .i64 s] 23)).alloc (.cells #[.int .i64 0, .string ⟨#[]⟩, .int .i64 0, .pointer none] 60) = wa at *
  have hsa : w.heap.size + 1 + 1 < wa.heap.size := lt_of_block HB0.out.2.2
  have HC := hid (fun (W' : World) (hf : Fr wa W' (fun _ => False)) => (show W'.cell? ⟨w.heap.size, 0, none⟩ = some (.pointer (some ⟨B, 0, none⟩)) ∧ W'.cell? ⟨w.heap.size + 1, 0, none⟩ = some (.int .i64 v) ∧ W'.cell? ⟨w.heap.size + 1, 1, none⟩ = some (.string k) ∧ W'.cell? ⟨w.heap.size + 1, 2, none⟩ = some (.int .i64 s) from
    ⟨cell_of_one ((hf.block _ (lt_of_block HB0.out.1) (fun h => h)).trans HB0.out.1), cells3 ((hf.block _ (lt_of_block HB0.out.2.1) (fun h => h)).trans HB0.out.2.1)⟩))
  have HF := hid (Fr.refl wa (fun _ => False))
  go_cut [5, 6] (fun s5 s6 wx => ∃ N, s5 = .pointer (some ⟨N, 0, none⟩) ∧ s6 = .bool t ∧ Hid (RwAt wx N x ∧ wa.heap.size ≤ N ∧ Fr wa wx (fun _ => False)))
  case first =>
    go_region_held3 (fun W' => Hid (Fr wa W' (fun _ => False)) ∧ W'.cell? ⟨w.heap.size, 0, none⟩ = some (.pointer (some ⟨B, 0, none⟩)) ∧ W'.cell? ⟨w.heap.size + 1, 0, none⟩ = some (.int .i64 v) ∧ W'.cell? ⟨w.heap.size + 1, 1, none⟩ = some (.string k) ∧ W'.cell? ⟨w.heap.size + 1, 2, none⟩ = some (.int .i64 s))
      ((refine (fun h => ⟨h, HC.out _ h⟩ : Fr wa _ (fun _ => False) → _) ?_; repeat (first | with_reducible exact HF.out | with_reducible exact Fr.refl _ _ | with_reducible apply Fr.drew | with_reducible apply Fr.alloc | (with_reducible refine Fr.setCell ?_ ?_ _; rotate_left; (intro h; exfalso; first | (dsimp only at h; omega) | (simp at h; omega))))))
      ((first
        | (go_at_call 33; refine (HTx.out _ (HFa.out.trans (by repeat (first | with_reducible exact HF.out | with_reducible exact Fr.refl _ _ | with_reducible apply Fr.drew | with_reducible apply Fr.alloc)))).mono ?_; rintro e w1 ⟨rfl, hf⟩; (try (have HZ := hid (RwAt.fr (by first | exact RwAt.new0 _ wa.heap.size rfl | exact RwAt.drew (RwAt.new0 _ wa.heap.size rfl)) hf (fun h => h)); have HZn := hid (Nat.le_refl wa.heap.size); have hzl := lt_of_block HZ.out)); have HF := hid (Fr.trans (a := wa) (by repeat (first | with_reducible exact HF.out | with_reducible exact Fr.refl _ _ | with_reducible apply Fr.drew | with_reducible apply Fr.alloc)) hf); have hs1 := HF.out.size; clear hf)
        | (go_at_call 32; refine (HGx.out _ (HFa.out.trans (by repeat (first | with_reducible exact HF.out | with_reducible exact Fr.refl _ _ | with_reducible apply Fr.drew | with_reducible apply Fr.alloc)))).mono ?_; rintro e w2 ⟨rfl, hf⟩; (try (have HZ := hid (RwAt.fr (by first | exact HZ.out | exact HZ.out.drew | exact RwAt.new0 _ _ rfl | exact RwAt.drew (RwAt.new0 _ _ rfl)) hf (fun h => h)); obtain ⟨⟨z0, z1, z2, z3⟩, y0⟩ := HZ.out.cells; have hzl2 := lt_of_block HZ.out)); have HF := hid (Fr.trans (a := wa) (by repeat (first | with_reducible exact HF.out | with_reducible exact Fr.refl _ _ | with_reducible apply Fr.drew | with_reducible apply Fr.alloc)) hf); have hs2 := HF.out.size; clear hf)))
    all_goals (go_wp2_with fail)
    all_goals go_meet
    all_goals refine ⟨_, rfl, rfl, hid ⟨(by first | (with_reducible apply RwAt.set; exact HZ.out) | (with_reducible apply RwAt.drew; with_reducible apply RwAt.set; exact HZ.out) | (with_reducible apply RwAt.new; rfl) | (with_reducible apply RwAt.drew; with_reducible apply RwAt.new; rfl)), (by first | omega | exact HZn.out | (simp; omega)), ?_⟩⟩
    all_goals (repeat (first | with_reducible exact HF.out | with_reducible exact Fr.refl _ _ | with_reducible apply Fr.drew | with_reducible apply Fr.alloc | (with_reducible refine Fr.setCell ?_ ?_ _; rotate_left; (intro h; exfalso; first | (dsimp only at h; omega) | (simp at h; omega)))))
  case rest =>
    obtain ⟨N, rfl, rfl, HX⟩ := hcut
    obtain ⟨⟨z0, z1, z2, z3⟩, _⟩ := HX.out.1.cells
    have hzl := lt_of_block HX.out.1
    have hNn := HX.out.2.1
    have hNe : N ≠ w.heap.size + 1 + 1 := by omega
    have hNe2 : w.heap.size + 1 + 1 ≠ N := by omega
    have HA := hid (HB0.out.2.2.fr HX.out.2.2 (fun h => h))
    obtain ⟨⟨q0, q1, q2, q3⟩, hqf⟩ := HA.out.cells
    have hql := lt_of_block HA.out
    have HFw := hid (HFa.out.trans HX.out.2.2)
    rcases HXc.out with ⟨rfl, e0, he0, rfl⟩ | ⟨rfl, he0⟩
    · obtain ⟨e1, h1, h2⟩ := HMl.out _ (show Fr w ((((wc.setCell ⟨w.heap.size + 1 + 1, 0, none⟩ (.int .i64 v)).setCell ⟨w.heap.size + 1 + 1, 1, none⟩ (.string k)).setCell ⟨w.heap.size + 1 + 1, 2, none⟩ (.int .i64 s)).setCell ⟨w.heap.size + 1 + 1, 3, none⟩ (.pointer (some ⟨e0.b, 0, none⟩))) (fun _ => False) from (((HFw.out.setCell (p := ⟨w.heap.size + 1 + 1, 0, none⟩) (fun h => absurd (show w.heap.size + 1 + 1 < w.heap.size from h) (by omega)) _).setCell (p := ⟨w.heap.size + 1 + 1, 1, none⟩) (fun h => absurd (show w.heap.size + 1 + 1 < w.heap.size from h) (by omega)) _).setCell (p := ⟨w.heap.size + 1 + 1, 2, none⟩) (fun h => absurd (show w.heap.size + 1 + 1 < w.heap.size from h) (by omega)) _).setCell (p := ⟨w.heap.size + 1 + 1, 3, none⟩) (fun h => absurd (show w.heap.size + 1 + 1 < w.heap.size from h) (by omega)) _) e0 he0
      have H1 := hid (And.intro h1 h2)
      clear h1 h2
      go_wp2_with fail
      refine bodyPost_ret (v := .agg #[.int .i64 v, .string k, .int .i64 s, .pointer (some ⟨e0.b, 0, none⟩)]) (by simp [results, Tryd.results16, go_sem, q0, q1, q2, q3]) rfl ?_
      exact ⟨e1, by rw [H1.out.2]; rfl, H1.out.1⟩
    · have HC2 := hid (fun (W' : World) (hf : Fr wc W' (fun _ => False)) => (HC.out W' (HX.out.2.2.trans hf)).2)
      obtain ⟨p0, p1, p2⟩ := HC2.out _ (Fr.refl _ _)
      have HQ := hid (fun (W' : World) (hf : Fr wc W' (fun _ => False)) => (HA.out.fr hf (fun h => h)).cells)
      have HN := hid (fun W => G.new_any W)
      have HF := hid (Fr.refl wc (fun _ => False))
      have HL := hid (fun (W' : World) (hf : Fr wc W' (fun _ => False)) => hf.size)
      have hsw := HFw.out.size
      go_wp2_with fail
      have HB1 := hid ((HX.out.2.2.block (w.heap.size + 1) (lt_of_block HB0.out.2.1) (fun h => h)).trans HB0.out.2.1)
      have HK := hid (fun (W' : World) (hf : Fr wc W' (fun b => b = w.heap.size + 1 + 1)) => cells3 ((hf.block (w.heap.size + 1) (lt_of_block HB1.out) (by omega)).trans HB1.out))
      have HFq := hid (Fr.refl wc (fun b => b = w.heap.size + 1 + 1))
      go_cut [18] (fun s18 wx => ∃ N2, s18 = .pointer (some ⟨N2, 0, none⟩) ∧ wc.heap.size ≤ N2 ∧ Hid (RwAt wx (w.heap.size + 1 + 1) ⟨v, k, s, some ⟨N2, 0, none⟩⟩ ∧ (∀ base, Ch wx base N2 (.slice none 0 0) []) ∧ Fr w wx (fun _ => False)))
      case first =>
        go_region_held3 (fun W' => Hid (Fr wc W' (fun b => b = w.heap.size + 1 + 1)) ∧ W'.cell? ⟨w.heap.size + 1, 0, none⟩ = some (.int .i64 v) ∧ W'.cell? ⟨w.heap.size + 1, 1, none⟩ = some (.string k) ∧ W'.cell? ⟨w.heap.size + 1, 2, none⟩ = some (.int .i64 s))
          ((refine (fun h => ⟨h, HK.out _ h⟩ : Fr wc _ (fun b => b = w.heap.size + 1 + 1) → _) ?_; repeat (first | with_reducible exact HFq.out | with_reducible exact Fr.refl _ _ | with_reducible apply Fr.drew | with_reducible apply Fr.alloc | (with_reducible refine Fr.setCell ?_ ?_ _; rotate_left; (intro h; rfl)))))
          ((go_at_call 34; refine (HN.out _).mono ?_; rintro e w3 ⟨rfl, hch, hf, hsz⟩; have HF := hid (Fr.trans (a := wc) (by repeat (first | with_reducible exact HF.out | with_reducible exact Fr.refl _ _ | with_reducible apply Fr.drew | with_reducible apply Fr.alloc)) hf); have HFq := hid (HF.out.mono (T := fun b => b = w.heap.size + 1 + 1) (fun _ _ h => h.elim)); have HCh := hid hch; have HA3 := hid (HA.out.fr HF.out (fun h => h)); obtain ⟨⟨q0, q1, q2, q3⟩, hqf⟩ := HA3.out.cells; have hs3 := HF.out.size; have hql3 := lt_of_block HA3.out; clear hch hf))
        all_goals (go_wp2_with fail)
        all_goals go_meet
        all_goals (
          have hS4 : Fr w3 ((((w3.setCell ⟨w.heap.size + 1 + 1, 0, none⟩ (.int .i64 v)).setCell ⟨w.heap.size + 1 + 1, 1, none⟩ (.string k)).setCell ⟨w.heap.size + 1 + 1, 2, none⟩ (.int .i64 s)).setCell ⟨w.heap.size + 1 + 1, 3, none⟩ (.pointer (some ⟨wc.heap.size, 0, none⟩))) (fun b => b = w.heap.size + 1 + 1) := ((((Fr.refl w3 (fun b => b = w.heap.size + 1 + 1)).setCell (p := ⟨w.heap.size + 1 + 1, 0, none⟩) (fun _ => rfl) _).setCell (p := ⟨w.heap.size + 1 + 1, 1, none⟩) (fun _ => rfl) _).setCell (p := ⟨w.heap.size + 1 + 1, 2, none⟩) (fun _ => rfl) _).setCell (p := ⟨w.heap.size + 1 + 1, 3, none⟩) (fun _ => rfl) _
          have hW := RwAt.set HA3.out ⟨v, k, s, some ⟨wc.heap.size, 0, none⟩⟩
          have hR : Fr w ((((w3.setCell ⟨w.heap.size + 1 + 1, 0, none⟩ (.int .i64 v)).setCell ⟨w.heap.size + 1 + 1, 1, none⟩ (.string k)).setCell ⟨w.heap.size + 1 + 1, 2, none⟩ (.int .i64 s)).setCell ⟨w.heap.size + 1 + 1, 3, none⟩ (.pointer (some ⟨wc.heap.size, 0, none⟩))) (fun _ => False) := (HFw.out.trans HF.out).trans2 hS4 (fun i hi e => by omega)
          have hC : ∀ base, Ch ((((w3.setCell ⟨w.heap.size + 1 + 1, 0, none⟩ (.int .i64 v)).setCell ⟨w.heap.size + 1 + 1, 1, none⟩ (.string k)).setCell ⟨w.heap.size + 1 + 1, 2, none⟩ (.int .i64 s)).setCell ⟨w.heap.size + 1 + 1, 3, none⟩ (.pointer (some ⟨wc.heap.size, 0, none⟩))) base wc.heap.size (.slice none 0 0) [] := fun base => (HCh.out base).fr hS4 (by omega) (fun k hk => by simp [Value.ownBlock] at hk)
          first
            | exact ⟨wc.heap.size, rfl, Nat.le_refl _, hid ⟨hW, hC, hR⟩⟩
            | exact ⟨wc.heap.size, rfl, Nat.le_refl _, hid ⟨hW.drew, fun base => (hC base).step ((Fr.refl _ _).drew), hR.drew⟩⟩)
      case rest =>
        obtain ⟨N2, rfl, hN2, HY⟩ := hcut
        obtain ⟨⟨y0, y1, y2, y3⟩, _⟩ := HY.out.1.cells
        have hyl := lt_of_block HY.out.1
        have HR := hid (HMn.out he0 _ N2 HY.out.2.2 (by omega) HY.out.2.1)
        go_wp2_with fail
        refine bodyPost_ret (v := .agg #[.int .i64 v, .string k, .int .i64 s, .pointer (some ⟨N2, 0, none⟩)]) (by simp [results, Tryd.results16, go_sem, y0, y1, y2, y3]) rfl ?_
        exact ⟨_, rfl, HR.out⟩
end Go.Proofs.YtcjadgnefojjgabDoor.S
