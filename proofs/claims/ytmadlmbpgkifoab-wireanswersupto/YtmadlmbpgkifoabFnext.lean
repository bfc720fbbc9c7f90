/- Frames.Next, a way each: walks. -/
import Derived.Test.YtmadlmbpgkifoabFgo
namespace Go.Proofs.Ytmadlmbpgkifoab
open Go.RowKit

/-- The three that Next tells where there is no frame. -/
def noFrame (c : Int) : Ending := .returned (.tuple #[.slice none 0 0, .bool false, .int .i64 c])

set_option maxHeartbeats 800000 in
set_option maxRecDepth 100000 in
theorem next_broken (base F : Nat) (v : Value) (most : Nat) (fed : List Nat) (told br : Nat) (w : World) (h : Fz w base F v most fed told br) (hbr : 0 < br) :
    Calls Try.prog 27 #[.pointer (some ⟨F, 0, none⟩)] w fun e w' => e = noFrame 14 ∧ w' = w := by
  obtain ⟨c0, c1, c2, c3⟩ := four_cells h.cell
  have hbr' : (0 : Int) < (br : Int) := by omega
  clear h c0 c1 c2
  go_enter Try.func27, Try.ntmps27
  go_wp2
  go_ret3
  exact ⟨rfl, rfl⟩

theorem Fz.shape {w : World} {base F : Nat} {v : Value} {most : Nat} {fed : List Nat} {told br : Nat} (h : Fz w base F v most fed told br) :
    ∃ ao cap, v = .slice ao fed.length cap ∧ fed.length ≤ cap ∧ cap ≤ maxLen ∧ (told < cap → ∃ g, ao = some ⟨g, 0, none⟩) := by
  rcases h.own.2 with ⟨rfl, h0⟩ | ⟨g, cap, cur, rfl, _, _, hle, hm, _⟩
  · rw [h0]
    exact ⟨none, 0, rfl, Nat.le_refl _, by unfold maxLen; omega, fun h => by omega⟩
  · exact ⟨_, cap, rfl, hle, hm, fun _ => ⟨g, rfl⟩⟩

set_option maxHeartbeats 800000 in
set_option maxRecDepth 100000 in
theorem next_short (base F : Nat) (v : Value) (most : Nat) (fed : List Nat) (told : Nat) (w : World) (h : Fz w base F v most fed told 0) (hs : fed.length - told < 4) :
    Calls Try.prog 27 #[.pointer (some ⟨F, 0, none⟩)] w fun e w' => e = noFrame 0 ∧ ∃ n, w' = w.drewN n := by
  obtain ⟨ao, cap, rfl, hlc, hcm, hao⟩ := h.shape
  obtain ⟨c0, c1, c2, c3⟩ := four_cells h.cell
  have hle := h.le
  have hsm := h.small
  have hs' : ((fed.length - told : Nat) : Int) < 4 := by omega
  unfold maxLen at hcm
  clear h c0
  by_cases hcap : cap = told
  · subst hcap
    clear hao
    go_enter Try.func27, Try.ntmps27
    go_wp2_with fail
    go_quiet (fail)
    go_wp2
    go_ret3
    exact ⟨rfl, _, rfl⟩
  · obtain ⟨g, rfl⟩ := hao (by omega)
    clear hao
    go_enter Try.func27, Try.ntmps27
    go_wp2_with fail
    go_quiet (fail)
    go_wp2
    go_ret3
    exact ⟨rfl, _, rfl⟩

/-- What lies ahead, at its slice. -/
theorem ahead_cells {w : World} {base F g cap : Nat} {most : Nat} {fed : List Nat} {told br : Nat} (h : Fz w base F (.slice (some ⟨g, 0, none⟩) fed.length cap) most fed told br) (j : Nat) (hj : told + j < fed.length) : w.cell? ⟨g, told + j, none⟩ = some (.int .u8 (((fed.drop told).getD j 0 : Nat) : Int)) := by
  have := h.own.cells (g := g) rfl (told + j) _ (by8_get fed (told + j) hj)
  rw [Addr.add_lit, Nat.zero_add] at this
  rw [this]
  simp [List.getD, List.getElem?_drop]
theorem getD_take_lt {ps : List Nat} (hb : ∀ j, ps.getD j 0 < 256) (q j : Nat) : (ps.take q).getD j 0 < 256 := by
  rcases Nat.lt_or_ge j q with h | h
  · have := hb j
    simpa [List.getD, List.getElem?_take, h] using this
  · rw [List.getD, List.getElem?_take_eq_none h]
    decide
theorem getD_take {ps : List Nat} (q j : Nat) (h : j < q) : (ps.take q).getD j 0 = ps.getD j 0 := by simp [List.getD, h]

/-- The number that a frame's head tells. -/
def headN (ps : List Nat) : Nat := beN (ps.take 4)
theorem headN_lt (ps : List Nat) (hb : ∀ j, ps.getD j 0 < 256) (h4 : 4 ≤ ps.length) : headN ps < 4294967296 := by
  have := beN_take_lt ps hb 4 h4
  exact this

set_option maxHeartbeats 800000 in
set_option maxRecDepth 100000 in
theorem next_bad (base F : Nat) (v : Value) (most : Nat) (fed : List Nat) (told : Nat) (w : World) (h : Fz w base F v most fed told 0) (hb8 : ∀ j, fed.getD j 0 < 256) (hs : 4 ≤ fed.length - told) (hbad : headN (fed.drop told) < 1 ∨ most < headN (fed.drop told)) :
    Calls Try.prog 27 #[.pointer (some ⟨F, 0, none⟩)] w fun e w' => e = noFrame 14 ∧ FzPost w base F v most [] 0 (fed.length - told) w' := by
  obtain ⟨ao, cap, rfl, hlc, hcm, hao⟩ := h.shape
  obtain ⟨c0, c1, c2, c3⟩ := four_cells h.cell
  have hle := h.le
  have hsm := h.small
  have hs' : ¬ ((fed.length - told : Nat) : Int) < 4 := by omega
  have hcap : ¬ cap = told := by omega
  obtain ⟨g, rfl⟩ := hao (by omega)
  have HL := hid (fun m => length_any g told (fed.length - told) (cap - told) ((fed.drop told).take 4) (w.drewN m) hs (by omega) (by omega) (by simp; omega) (getD_take_lt (getD_drop_lt hb8 told) 4) (fun j hj => by rw [getD_take 4 j hj]; exact ahead_cells h j (by omega)))
  have H := hid h
  unfold maxLen at hcm
  clear h hao hb8
  have hbad' : (headN (fed.drop told) : Int) < 1 ∨ (most : Int) < (headN (fed.drop told) : Int) := by omega
  unfold headN at hbad'
  generalize beN ((fed.drop told).take 4) = n at *
  clear hbad
  rcases hbad' with h1 | h1
  all_goals
    go_enter Try.func27, Try.ntmps27
    go_wp2_with fail
    go_quiet (fail)
    go_wp2_with fail
    refine (HL.out _).mono ?_
    rintro e w1 ⟨rfl, hw1⟩
    subst hw1
  · go_wp2_with fail
    refine (break_any base F _ most fed told _ (H.out.drewN _)).mono ?_
    rintro e w2 ⟨rfl, v2, hz2, hf2, hn2⟩
    have HS : Hid (FzPost w base F (.slice (some ⟨g, 0, none⟩) fed.length cap) most [] 0 (fed.length - told) w2) := ⟨v2, hz2, hf2.ofDrewN, hn2⟩
    clear hz2 hf2 hn2
    go_wp2
    go_ret3
    exact ⟨rfl, HS.out⟩
  · by_cases h0 : (n : Int) < 1
    all_goals
      go_wp2_with fail
      refine (break_any base F _ most fed told _ (H.out.drewN _)).mono ?_
      rintro e w2 ⟨rfl, v2, hz2, hf2, hn2⟩
      have HS : Hid (FzPost w base F (.slice (some ⟨g, 0, none⟩) fed.length cap) most [] 0 (fed.length - told) w2) := ⟨v2, hz2, hf2.ofDrewN, hn2⟩
      clear hz2 hf2 hn2
      go_wp2
      go_ret3
      exact ⟨rfl, HS.out⟩

set_option maxHeartbeats 800000 in
set_option maxRecDepth 100000 in
theorem next_wait (base F : Nat) (v : Value) (most : Nat) (fed : List Nat) (told : Nat) (w : World) (h : Fz w base F v most fed told 0) (hb8 : ∀ j, fed.getD j 0 < 256) (hs : 4 ≤ fed.length - told) (h1 : 1 ≤ headN (fed.drop told)) (h2 : headN (fed.drop told) ≤ most) (hw : fed.length - told < 4 + headN (fed.drop told)) :
    Calls Try.prog 27 #[.pointer (some ⟨F, 0, none⟩)] w fun e w' => e = noFrame 0 ∧ ∃ n, w' = w.drewN n := by
  obtain ⟨ao, cap, rfl, hlc, hcm, hao⟩ := h.shape
  obtain ⟨c0, c1, c2, c3⟩ := four_cells h.cell
  have hle := h.le
  have hsm := h.small
  have hs' : ¬ ((fed.length - told : Nat) : Int) < 4 := by omega
  have hcap : ¬ cap = told := by omega
  obtain ⟨g, rfl⟩ := hao (by omega)
  have HL := hid (fun m => length_any g told (fed.length - told) (cap - told) ((fed.drop told).take 4) (w.drewN m) hs (by omega) (by omega) (by simp; omega) (getD_take_lt (getD_drop_lt hb8 told) 4) (fun j hj => by rw [getD_take 4 j hj]; exact ahead_cells h j (by omega)))
  have hnl := headN_lt (fed.drop told) (getD_drop_lt hb8 told) (by simp; omega)
  unfold maxLen at hcm
  clear h hao hb8
  unfold headN at h1 h2 hw hnl
  generalize beN ((fed.drop told).take 4) = n at *
  have t1 : ¬ (n : Int) < 1 := by omega
  have t2 : ¬ (most : Int) < (n : Int) := by omega
  have t3 : ((fed.length - told : Nat) : Int) < 4 + (n : Int) := by omega
  go_enter Try.func27, Try.ntmps27
  go_wp2_with fail
  go_quiet (fail)
  go_wp2_with fail
  refine (HL.out _).mono ?_
  rintro e w1 ⟨rfl, hw1⟩
  subst hw1
  go_wp2
  go_ret3
  exact ⟨rfl, _, rfl⟩

/-- What Next leaves where it tells a frame. -/
def GoodPost (w : World) (base F : Nat) (v : Value) (most L : Nat) (body rest : List Nat) (e : Ending) (w' : World) : Prop :=
  ∃ bv v' fed told, e = .returned (.tuple #[bv, .bool true, .int .i64 0]) ∧ w'.ownsRow w.heap.size 5 1 bv body.length (by8 body) ∧ Fz w' base F v' most fed told 0 ∧ fed.drop told = rest ∧
    Fr w w' (fun k => k = F ∨ v.ownBlock = some k) ∧ Nw w v v' ∧ (∀ k, bv.ownBlock = some k → v'.ownBlock ≠ some k) ∧ fed.length ≤ L

theorem good_post {w w1 w2 : World} {base F : Nat} {v bv : Value} {most : Nat} {fed : List Nat} {told q : Nat} {body : List Nat} (h : Fz w base F v most fed told 0) (hf1 : Fr w w1 (fun _ => False))
    (ho : w1.ownsRow w.heap.size 5 1 bv body.length (by8 body)) (hp : NzPost w1 base F v most fed.length (fed.drop q) 0 w2) : GoodPost w base F v most fed.length body (fed.drop q) (.returned (.tuple #[bv, .bool true, .int .i64 0])) w2 := by
  obtain ⟨v', fed', told', hz, hd, hf2, hn, hlen⟩ := hp
  have hlt := lt_of_block h.cell
  have hs1 := hf1.size
  have hS : ∀ k, bv.ownBlock = some k → ¬ (k = F ∨ v.ownBlock = some k) := by
    intro k hk h'
    have := (ho.lt k hk).1
    rcases h' with h' | h'
    · omega
    · have := (h.own.lt k h').2
      omega
  refine ⟨bv, v', fed', told', rfl, own_fr ho hf2 hS, hz, hd, ?_, ?_, ?_, hlen⟩
  · exact (hf1.mono (fun _ _ h => h.elim)).trans hf2
  · intro k hk
    rcases hn k hk with h1 | h1
    · exact Or.inl h1
    · exact Or.inr (by omega)
  · intro k hk e
    have h0 := ho.lt k hk
    rcases hn k e with h1 | h1
    · have := (h.own.lt k h1).2
      omega
    · omega

set_option maxHeartbeats 800000 in
set_option maxRecDepth 100000 in
theorem next_good (base F : Nat) (v : Value) (most : Nat) (fed : List Nat) (told : Nat) (w : World) (h : Fz w base F v most fed told 0) (hbase : base ≤ w.heap.size) (hb8 : ∀ j, fed.getD j 0 < 256) (hs : 4 ≤ fed.length - told) (h1 : 1 ≤ headN (fed.drop told)) (h2 : headN (fed.drop told) ≤ most) (hw : 4 + headN (fed.drop told) ≤ fed.length - told) :
    Calls Try.prog 27 #[.pointer (some ⟨F, 0, none⟩)] w fun e w' => GoodPost w base F v most fed.length (((fed.drop told).drop 4).take (headN (fed.drop told))) (fed.drop (told + (4 + headN (fed.drop told)))) e w' := by
  obtain ⟨ao, cap, rfl, hlc, hcm, hao⟩ := h.shape
  obtain ⟨c0, c1, c2, c3⟩ := four_cells h.cell
  have hle := h.le
  have hsm := h.small
  have hs' : ¬ ((fed.length - told : Nat) : Int) < 4 := by omega
  have hcap : ¬ cap = told := by omega
  obtain ⟨g, rfl⟩ := hao (by omega)
  have HL := hid (fun m => length_any g told (fed.length - told) (cap - told) ((fed.drop told).take 4) (w.drewN m) hs (by omega) (by omega) (by simp; omega) (getD_take_lt (getD_drop_lt hb8 told) 4) (fun j hj => by rw [getD_take 4 j hj]; exact ahead_cells h j (by omega)))
  have hnl := headN_lt (fed.drop told) (getD_drop_lt hb8 told) (by simp; omega)
  unfold maxLen at hcm
  have H := hid h
  clear h hao hb8
  unfold headN at h1 h2 hw hnl ⊢
  generalize beN ((fed.drop told).take 4) = n at *
  have t1 : ¬ (n : Int) < 1 := by omega
  have t2 : ¬ (most : Int) < (n : Int) := by omega
  have t3 : ¬ ((fed.length - told : Nat) : Int) < 4 + (n : Int) := by omega
  have t4 : (4 : Int) + (n : Int) ≤ ((cap - told : Nat) : Int) := by omega
  have t5 : ¬ cap - told = 4 := by omega
  have HB : Hid (∀ m c, Bs (w.drewN m) (.slice (some ⟨g, told + 4, none⟩) n c) (((fed.drop told).drop 4).take n)) := by
    intro m c
    have hlen : (((fed.drop told).drop 4).take n).length = n := by simp; omega
    refine Or.inr ⟨⟨g, told + 4, none⟩, c, by rw [hlen], fun j u hu => ?_⟩
    have hj : j < n := by
      rcases Nat.lt_or_ge j n with h | h
      · exact h
      · rw [List.getElem?_eq_none (by rw [by8_length, hlen]; exact h)] at hu
        cases hu
    rw [Addr.add_lit, World.cell?_drewN, show told + 4 + j = told + (4 + j) from by omega, ahead_cells H.out (4 + j) (by omega), ← hu, by8_get _ j (by omega)]
    simp [List.getD, hj, Nat.add_assoc]
  have hbl : (((fed.drop told).drop 4).take n).length ≤ 140737488355328 := by simp; omega
  generalize ((fed.drop told).drop 4).take n = body at *
  go_enter Try.func27, Try.ntmps27
  go_wp2_with fail
  go_quiet (fail)
  go_wp2_with fail
  refine (HL.out _).mono ?_
  rintro e w1 ⟨rfl, hw1⟩
  subst hw1
  go_wp2_with fail
  refine (clone_any _ body _ (HB.out _ _) hbl).mono ?_
  rintro e w2 ⟨bv, rfl, ho2, hf2⟩
  obtain ⟨aob, capb, rfl⟩ := own_nil_shape ho2
  have HO2 := hid ho2
  have HF2 := hid hf2.ofDrewN
  have HZ2 := hid (H.out.fr HF2.out (fun h => h) (fun _ _ h => h))
  have hsz := HF2.out.size
  clear ho2 hf2 HB hbl
  go_wp2_with fail
  rw [show (4 : Int) + (n : Int) = ((4 + n : Nat) : Int) from by omega]
  refine (letGo_any base F _ most fed told (4 + n) w2 HZ2.out (by omega) (by omega)).mono ?_
  rintro e w3 ⟨rfl, hp3⟩
  have HG := hid (good_post H.out HF2.out HO2.out hp3)
  clear hp3
  go_wp2
  go_ret3
  exact HG.out
end Go.Proofs.Ytmadlmbpgkifoab
