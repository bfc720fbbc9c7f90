/- chain: Prune: the walk itself. -/
import Derived.Test.YtcmniejffpoinabCPrune
namespace Go.Proofs.Ytcmniejffpoinab
open Go.RowKit

set_option maxHeartbeats 4000000 in
set_option maxRecDepth 100000 in
theorem prune_some {base B g cap : Nat} {hv : Value} {L : List Vn} {xs : List Int} (w : World) (h : Ch w base B (.slice (some ⟨g, 0, none⟩) L.length cap) L) (hI : Is w hv xs) (hL : L ≠ []) :
    Calls Try.prog 9 #[.pointer (some ⟨B, 0, none⟩), hv] w fun r w' => r = .returned (.int .i64 ((L.length : Int) - ((pruneL xs L).length : Int))) ∧ ∃ v', Ch w' base B v' (pruneL xs L) ∧ Fr w w' (fun k => k = B ∨ (Value.slice (some ⟨g, 0, none⟩) L.length cap).ownBlock = some k) ∧ Nw w (.slice (some ⟨g, 0, none⟩) L.length cap) v' := by
  have hc := cell_of_one h.cell
  have hlt := h.lt
  have HCh := hid h
  have hlen := h.len
  have HNd := hid (needed_any w h hI)
  obtain ⟨rest, hrow, hcap, hbg, hc2⟩ := own_rowR h.own
  have hgl := hrow.lt
  have HBg := hid (show B ≠ g from fun e => h.ne (by rw [← e]; rfl))
  have HNg := hid (show w.heap.size ≠ g by omega)
  have hpos : 0 < L.length := List.length_pos_iff.2 hL
  have HGd := hid h.good
  have HBc := hid h.cell
  have HRow := hid hrow
  have HNB := hid (show w.heap.size ≠ g by omega)
  have hcl : L.length ≤ cap := by omega
  have HCap := hid hcap
  clear hcap
  clear h hI hrow
  go_enter Try.func9, Try.ntmps9
  go_wp2_with fail
  refine HNd.out.mono ?_
  rintro r w1 ⟨rfl, hf1, l, hl1, hl2, hl3⟩
  have hc1 : w1.cell? ⟨B, 0, none⟩ = some (.slice (some ⟨g, 0, none⟩) L.length cap) := by rw [(fr_rules hf1).1 _ _ hlt]; exact hc
  have hs1 := hf1.size
  have HB1 := hid (keepB_eq xs L HGd.out.2 l hl2 hl3)
  have HP0 : Hid (PI w w1 B g w.heap.size cap L l rest L 0 0) := ⟨(hf1.block B hlt (fun h => h)).trans HBc.out, HRow.out.fr hf1 (fun h => h), hl1, hf1.mono (fun _ _ h => h.elim), rfl, by simp [keepB], by simp [keepB], fun q _ => rfl⟩
  have HL2 := hid hl2
  clear hf1 hl1 hl2 hl3 HNd
  go_wp2_with fail
  clear hc1
  go_loopg [7, 28] L.length (fun gk s7 s28 wx => ∃ (i k : Nat) (R : List Vn), s7 = .slice (some ⟨g, 0, none⟩) k cap ∧ s28 = .int .i64 (i : Int) ∧ i + gk = L.length ∧ Hid (PI w wx B g w.heap.size cap L l rest R i k))
  case atStart => exact ⟨0, 0, L, rfl, rfl, by omega, HP0⟩
  case round =>
    obtain ⟨i, k, R, rfl, rfl, hg, HP⟩ := hrel
    clear HP0
    have hBl := lt_of_block HP.out.bc
    have hgl2 := HP.out.row.lt
    have hNl := HP.out.st.lt
    have hki := HP.out.le
    have hcB := cell_of_one HP.out.bc
    have hfB := free_of_one HP.out.bc
    cases gk with
    | zero =>
      have t1 : ¬ (i : Int) < (L.length : Int) := by omega
      have HE := hid (show i = L.length by omega)
      have HKq := hid (show R.take k = keepR xs L from by
        rw [HP.out.pre, HE.out, List.take_length, List.take_of_length_le (by rw [HL2.out]; exact Nat.le_refl _), HB1.out])
      have HKl := hid (show (keepR xs L).length = k from by
        have := HE.out
        rw [← HKq.out, List.length_take, HP.out.len]; omega)
      have hkpos : 1 ≤ k := by rw [← HKl.out]; exact keepR_one hL
      have hkL : k ≤ L.length := by have := HE.out; omega
      have t5 : (k : Int) ≤ (L.length : Int) := by omega
      have HN := hid (keepR_nw xs L)
      clear hg
      obtain ⟨c0, c1, c2⟩ := HP.out.row.cells 0 (by rw [HP.out.len]; omega)
      simp only [Nat.zero_mul, Nat.zero_add] at c0 c1 c2
      have HE0 := hid (fun (h1 : k = 1) => (show R.getD 0 z0 = nw L from by
        have h2 := HKq.out
        rw [single_nw (HKl.out.trans h1), HN.out, h1] at h2
        have h3 : (R.take 1).getD 0 z0 = nw L := by rw [h2]; rfl
        simpa [List.getD] using h3))
      by_cases hA : k = 1 ∧ (nw L).t = false
      · have tk : ((k : Int) == 1) = true := by simp; omega
        rw [HE0.out hA.1, hA.2] at c1
        have HPr : Hid (pruneL xs L = []) := by unfold pruneL Hid; rw [if_pos ⟨HKl.out.trans hA.1, hA.2⟩]
        obtain ⟨us, hus⟩ := clear_end (w := wr) g 0 L.length R rest HP.out.row (by rw [HP.out.len]; omega) hpos
        obtain ⟨b1, b2, b3⟩ := HP.out.after HBg.out 0 us
        rw [Nat.zero_mul] at hus
        clear hA c0 c2
        go_wp2_with fail
        go_ret
        have h1 := HP.out.fin (base := base) us 0 (by omega) hkL hbg HCap.out hc2 HBg.out [] rfl Good.nil hlen
        rw [Nat.zero_mul] at h1
        rw [HPr.out]
        exact ⟨by simp, _, h1.1, h1.2, fun q hq => Or.inl hq⟩
      · have HPr : Hid (pruneL xs L = keepR xs L) := by unfold pruneL Hid; rw [if_neg (fun h => hA ⟨HKl.out.symm.trans h.1, h.2⟩)]
        have HT := hid (fun (hk1 : k = 1) => (show (nw L).t = true from by
          cases h : (nw L).t
          · exact absurd ⟨hk1, h⟩ hA
          · rfl))
        clear hA
        rcases Nat.lt_or_ge k cap with hkc | hkc
        · obtain ⟨us, hus⟩ := clear_any (w := wr) g k R rest HP.out.row (by rw [HP.out.len]; omega) L.length HP.out.len.symm
          obtain ⟨b1, b2, b3⟩ := HP.out.after HBg.out (k * 3) us
          have HFin := hid (HP.out.fin (base := base) us k (Nat.le_refl _) hkL hbg HCap.out hc2 HBg.out (keepR xs L) HKq.out (keepR_good HGd.out) hlen)
          have t6 : ¬ cap = k := by omega
          have t7 : ¬ cap ≤ k := by omega
          have t8 : ¬ cap - k = 0 := by omega
          by_cases hk1 : k = 1
          · have tk : ((k : Int) == 1) = true := by simp; omega
            rw [HE0.out hk1, HT.out hk1] at c1
            clear hk1 c0 c2
            go_wp2_with fail
            go_ret
            rw [HPr.out, HKl.out]
            exact ⟨rfl, _, HFin.out.1, HFin.out.2, fun q hq => Or.inl hq⟩
          · have tk : ((k : Int) == 1) = false := by simp; omega
            clear hk1 c0 c1 c2
            go_wp2_with fail
            go_ret
            rw [HPr.out, HKl.out]
            exact ⟨rfl, _, HFin.out.1, HFin.out.2, fun q hq => Or.inl hq⟩
        · obtain rfl : cap = k := by omega
          have hus0 : ∀ ty : TypeId, (Builtin.clear_ #[41] ty #[.slice (some ⟨g, 0, none⟩) 0 0]).run Try.prog wr = .ok (.tuple #[]) wr := fun ty => clear_none ty _ _
          have HFin := hid (HP.out.fin (base := base) [] cap (Nat.le_refl _) hkL hbg HCap.out hc2 HBg.out (keepR xs L) HKq.out (keepR_good HGd.out) hlen)
          by_cases hk1 : cap = 1
          · have tk : ((cap : Int) == 1) = true := by simp; omega
            rw [HE0.out hk1, HT.out hk1] at c1
            clear hk1 c0 c2
            go_wp2_with fail
            go_ret
            rw [HPr.out, HKl.out]
            exact ⟨rfl, _, HFin.out.1, HFin.out.2, fun q hq => Or.inl hq⟩
          · have tk : ((cap : Int) == 1) = false := by simp; omega
            clear hk1 c0 c1 c2
            go_wp2_with fail
            go_ret
            rw [HPr.out, HKl.out]
            exact ⟨rfl, _, HFin.out.1, HFin.out.2, fun q hq => Or.inl hq⟩
    | succ g' =>
      have hi : i < L.length := by omega
      have t1 : (i : Int) < (L.length : Int) := by omega
      have HG := hid hg
      have HI := hid hi
      clear hg
      obtain ⟨c0, c1, c2⟩ := HP.out.row.cells i (by rw [HP.out.len]; exact hi)
      rw [HP.out.post i (Nat.le_refl _)] at c0 c1 c2
      have cs := HP.out.st.cell i (by rw [HL2.out]; exact hi)
      cases hb : l.getD i false with
      | false =>
        rw [hb] at cs
        have HBb := hid hb
        clear hb hi
        generalize L.getD i z0 = x at *
        go_wp2_with fail
        go_roundg g'
        case measure => omega
        case rel => exact ⟨i + 1, k, R, rfl, by go_num, by have := HG.out; omega, (HP.out.step (alloc_fr _ _ _)).skip HI.out HL2.out HBb.out⟩
      | true =>
        rw [hb] at cs
        have HBb := hid hb
        have hkR : k < R.length := by rw [HP.out.len]; omega
        have hRc : R.length ≤ cap := by rw [HP.out.len]; omega
        clear hb hi
        generalize hx : L.getD i z0 = x at c0 c1 c2
        have HX := hid hx
        clear hx
        go_wp2_with (at_builtin; go_must (refine append_room rfl (.tmp 37) (.tmp 39) rfl g k cap rfl (wr.heap.size + 1) x rfl (heap_last _ _ _ (by simp)) R rest (HP.out.row.fr ((alloc_fr wr _ (fun _ => False)).alloc _) (fun h => h)) hkR hRc ?_))
        go_roundg g'
        case measure => omega
        case rel => exact ⟨i + 1, k + 1, R.set k x, rfl, by go_num, by have := HG.out; omega, by rw [← HX.out]; exact (HP.out.step ((alloc_fr wr _ (fun _ => False)).alloc _)).put HI.out HL2.out HBb.out HBg.out HNB.out⟩

set_option maxHeartbeats 1000000 in
set_option maxRecDepth 100000 in
theorem prune_none {base B : Nat} {v hv : Value} {xs : List Int} (w : World) (h : Ch w base B v []) (hI : Is w hv xs) :
    Calls Try.prog 9 #[.pointer (some ⟨B, 0, none⟩), hv] w fun r w' => r = .returned (.int .i64 0) ∧ ∃ v', Ch w' base B v' [] ∧ Fr w w' (fun k => k = B ∨ v.ownBlock = some k) ∧ Nw w v v' := by
  have hc := cell_of_one h.cell
  have hlt := h.lt
  have HCh := hid h
  have HNd := hid (needed_any w h hI)
  obtain ⟨ao, cap, rfl, _⟩ := own_shape h.own
  have hno : ao = none → cap = 0 := by
    rintro rfl
    rcases h.own.2 with ⟨e, _⟩ | ⟨g, cap', cur, e, _⟩
    · simp at e; exact e
    · simp at e
  have hso : ∀ a, ao = some a → ∃ g, a = ⟨g, 0, none⟩ := by
    rintro a rfl
    rcases h.own.2 with ⟨e, _⟩ | ⟨g, cap', cur, e, _⟩
    · simp at e
    · simp at e; exact ⟨g, e.1⟩
  clear h hI
  have hclr : ∀ (W : World) (ty : TypeId) (a : Option Addr) (c : Nat), (Builtin.clear_ #[41] ty #[.slice a 0 c]).run Try.prog W = .ok (.tuple #[]) W := fun W ty a c => clear_none ty a c
  simp only [List.length_nil] at hc HNd HCh ⊢
  cases ao with
  | none =>
    obtain rfl := hno rfl
    clear hno hso
    go_enter Try.func9, Try.ntmps9
    go_wp2_with fail
    refine HNd.out.mono ?_
    rintro r w1 ⟨rfl, hf1, l, hl1, hl2, hl3⟩
    have hc1 := cell_of_one (HCh.out.step hf1).cell
    have hz1 := free_of_one (HCh.out.step hf1).cell
    have hs1 := hf1.size
    have HF1 := hid hf1
    have HC1 := hid (HCh.out.step hf1)
    clear hf1 hl1 hl2 hl3 HNd
    go_wp2_with fail
    go_loopg [7, 28] 0 (fun gk s7 s28 wx => s7 = .slice none 0 0 ∧ s28 = .int .i64 0 ∧ wx = w1)
    case atStart => exact ⟨rfl, rfl, rfl⟩
    case round =>
      obtain ⟨rfl, rfl, rfl⟩ := hrel
      go_wp2_with fail
      go_ret
      have hB := one_setCell (u := .slice none 0 0) HC1.out.cell
      refine ⟨by simp, _, ⟨hB, ownsRow_setCell_other (a := ⟨B, 0, none⟩) HC1.out.own HC1.out.ne _, Good.nil, by simp⟩, (HF1.out.mono (fun _ _ h => h.elim)).setCell (p := ⟨B, 0, none⟩) (fun _ => Or.inl rfl) _, Nw.refl _ _⟩
  | some a =>
    obtain ⟨g, rfl⟩ := hso a rfl
    clear hno hso
    go_enter Try.func9, Try.ntmps9
    go_wp2_with fail
    refine HNd.out.mono ?_
    rintro r w1 ⟨rfl, hf1, l, hl1, hl2, hl3⟩
    have hc1 := cell_of_one (HCh.out.step hf1).cell
    have hz1 := free_of_one (HCh.out.step hf1).cell
    have hs1 := hf1.size
    have HF1 := hid hf1
    have HC1 := hid (HCh.out.step hf1)
    clear hf1 hl1 hl2 hl3 HNd
    go_wp2_with fail
    go_loopg [7, 28] 0 (fun gk s7 s28 wx => s7 = .slice (some ⟨g, 0, none⟩) 0 cap ∧ s28 = .int .i64 0 ∧ wx = w1)
    case atStart => exact ⟨rfl, rfl, rfl⟩
    case round =>
      obtain ⟨rfl, rfl, rfl⟩ := hrel
      go_wp2_with fail
      go_ret
      have hB := one_setCell (u := .slice (some ⟨g, 0, none⟩) 0 cap) HC1.out.cell
      refine ⟨by simp, _, ⟨hB, ownsRow_setCell_other (a := ⟨B, 0, none⟩) HC1.out.own HC1.out.ne _, Good.nil, by simp⟩, (HF1.out.mono (fun _ _ h => h.elim)).setCell (p := ⟨B, 0, none⟩) (fun _ => Or.inl rfl) _, Nw.refl _ _⟩

theorem prune_any {base B : Nat} {v hv : Value} {L : List Vn} {xs : List Int} (w : World) (h : Ch w base B v L) (hI : Is w hv xs) :
    Calls Try.prog 9 #[.pointer (some ⟨B, 0, none⟩), hv] w fun r w' => r = .returned (.int .i64 ((L.length : Int) - ((pruneL xs L).length : Int))) ∧ ∃ v', Ch w' base B v' (pruneL xs L) ∧ Fr w w' (fun k => k = B ∨ v.ownBlock = some k) ∧ Nw w v v' := by
  by_cases hL : L = []
  · subst hL
    exact prune_none w h hI
  · rcases h.own.2 with ⟨_, h0⟩ | ⟨g, cap, cur, rfl, _⟩
    · exact absurd (List.eq_nil_of_length_eq_zero h0) hL
    · exact prune_some w h hI hL
end Go.Proofs.Ytcmniejffpoinab
