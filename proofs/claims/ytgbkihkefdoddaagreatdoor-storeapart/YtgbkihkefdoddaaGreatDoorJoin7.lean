/- table: All: a walk. -/
import Derived.Test.YtgbkihkefdoddaaGreatDoorJoin6
import Derived.OwnWalk
import Derived.Deep.DeepCutAuto
import Derived.Deep.DeepMust
namespace Go.Proofs.YtgbkihkefdoddaaGreatDoor.R
open Go.RowKit

/-- While All gathers: the slice's variable at N, the entries so far. -/
structure AI (w wx : World) (N : Nat) (v : Value) (xs : List En) : Prop where
  fr : Fr w wx (fun _ => False)
  lt : w.heap.size ≤ N
  cell : wx.heap[N]? = some (.cells #[v] 197 (0, 0))
  own : wx.ownsRow w.heap.size 193 5 v xs.length (ec xs)
  nn : v ≠ .slice none 0 0
theorem AI.drew {w wx : World} {N : Nat} {v : Value} {xs : List En} (h : AI w wx N v xs) : AI w wx.drew N v xs := ⟨h.fr.drew, h.lt, h.cell, own_fr h.own ((Fr.refl wx (fun _ => False)).drew) (fun _ _ h => h), h.nn⟩
theorem AI.drewN {w wx : World} {N : Nat} {v : Value} {xs : List En} (h : AI w wx N v xs) (n : Nat) : AI w (wx.drewN n) N v xs := ⟨h.fr.drewN n, h.lt, h.cell, own_fr h.own ((Fr.refl wx (fun _ => False)).drewN n) (fun _ _ h => h), h.nn⟩
theorem AI.ne {w wx : World} {N : Nat} {v : Value} {xs : List En} (h : AI w wx N v xs) : v.ownBlock ≠ some N := own_ne h.own h.cell (by decide)
/-- Gathered, not yet stored. -/
structure AJ (w wx : World) (N : Nat) (v v' : Value) (xs : List En) : Prop where
  fr : Fr w wx (fun _ => False)
  lt : w.heap.size ≤ N
  cell : wx.heap[N]? = some (.cells #[v] 197 (0, 0))
  own : wx.ownsRow w.heap.size 193 5 v' xs.length (ec xs)
  nn : v' ≠ .slice none 0 0
theorem AJ.drew {w wx : World} {N : Nat} {v v' : Value} {xs : List En} (h : AJ w wx N v v' xs) : AJ w wx.drew N v v' xs := ⟨h.fr.drew, h.lt, h.cell, own_fr h.own ((Fr.refl wx (fun _ => False)).drew) (fun _ _ h => h), h.nn⟩
theorem AJ.store {w wx : World} {N : Nat} {v v' : Value} {xs : List En} (h : AJ w wx N v v' xs) : AI w (wx.setCell ⟨N, 0, none⟩ v') N v' xs := by
  have hne : v'.ownBlock ≠ some N := own_ne h.own h.cell (by decide)
  refine ⟨h.fr.setCell (p := ⟨N, 0, none⟩) (fun hlt => ?_) _, h.lt, one_setCell h.cell, ?_, h.nn⟩
  · have h1 : N < w.heap.size := hlt
    have := h.lt
    omega
  · exact ownsRow_setCell_other (a := ⟨N, 0, none⟩) h.own hne v'

theorem AI.gath {w wx wy : World} {N : Nat} {v v' : Value} {xs ys : List En} (h : AI w wx N v xs) (ho : wy.ownsRow w.heap.size 193 5 v' ys.length (ec ys)) (hf : Fr wx wy (fun k => v.ownBlock = some k)) (hn : v ≠ .slice none 0 0 → v' ≠ .slice none 0 0) : AJ w wy N v v' ys :=
  ⟨h.fr.trans2 hf (fun k hk e => by have := (h.own.lt k e).1; omega), h.lt, (hf.block N (lt_of_block h.cell) (fun e => h.ne e)).trans h.cell, ho, hn h.nn⟩

/-- The variable alone. -/
structure A0 (w wx : World) (N : Nat) (v : Value) : Prop where
  fr : Fr w wx (fun _ => False)
  cell : wx.heap[N]? = some (.cells #[v] 197 (0, 0))
theorem A0.drew {w wx : World} {N : Nat} {v : Value} (h : A0 w wx N v) : A0 w wx.drew N v := ⟨h.fr.drew, h.cell⟩
theorem A0.drewN {w wx : World} {N : Nat} {v : Value} (h : A0 w wx N v) (n : Nat) : A0 w (wx.drewN n) N v := ⟨h.fr.drewN n, h.cell⟩

/-- A table's entries. -/
def entT (T : Tb) : List En := ents T.row ++ ents T.elder

/-- What All hands out: a sequence over the entries, by key. -/
def AllP (w w' : World) (N : Nat) (xs : List En) : Prop := ∃ S cap L, w.heap.size ≤ N ∧ w.heap.size ≤ S ∧ Sq w' N S cap L ∧ L.Perm xs ∧ L.Pairwise (fun a b => 0 ≤ cf b a) ∧ Fr w w' (fun _ => False)

set_option maxHeartbeats 2000000 in
set_option maxRecDepth 100000 in
theorem all_any {B gr : Nat} {ge : Option Nat} {T : Tb} (w : World) (h : TbAt w B gr ge T) :
    Calls Tryz.prog 111 #[.pointer (some ⟨B, 0, none⟩)] w fun r w' => ∃ N, r = .returned (.func (.func 141) #[] #[.pointer (some ⟨N, 0, none⟩)]) ∧ AllP w w' N (entT T) := by
  obtain ⟨i0, hi0, hz0, hz1, hz2⟩ := info_parts Tryz.info_entry
  have hlt := h.lt
  have HT := hid h
  have hlen := h.len
  have hel := h.elen
  have hkl : T.keys ≤ 1099511627776 := by have := h.inv.room; have := h.len; omega
  obtain ⟨rv, ev, hc, hr, he⟩ := h.ex
  obtain ⟨c0, c1, c2, c3⟩ := cells4 hc
  have HC := hid hc
  have HGr := hid (fun (W : World) (N : Nat) (v : Value) (hA : AI w W N v []) => gather_any (xs := []) W (hr.fr hA.fr (fun _ _ h => h)) h.rok hlen (by simp) hA.own hA.fr.size)
  have HGe := hid (fun (W : World) (N : Nat) (v : Value) (hA : AI w W N v ([] ++ ents T.row)) => gather_any (xs := [] ++ ents T.row) W (he.fr hA.fr (fun _ _ h => h)) h.eok hel (by rw [List.nil_append, ents_length]; exact Nat.le_trans (cnt_le _) hlen) hA.own hA.fr.size)
  have HK := hid (fun (W : World) (hf : Fr w W (fun _ => False)) => (show W.cell? ⟨B, 0, none⟩ = some rv ∧ W.cell? ⟨B, 1, none⟩ = some ev ∧ B < W.heap.size from ⟨by rw [(fr_rules hf).1 _ _ hlt]; exact c0, by rw [(fr_rules hf).1 _ _ hlt]; exact c1, Nat.lt_of_lt_of_le hlt hf.size⟩))
  clear h hc hr he c0 c1 c2
  have HE1 : Hid ([] ++ ents T.row ++ ents T.elder = entT T) := rfl
  have HE0 : Hid ((entT T).length ≤ 2199023255552) := by
    show (entT T).length ≤ _
    unfold entT
    rw [List.length_append, ents_length, ents_length]
    have := cnt_le T.row
    have := cnt_le T.elder
    omega
  have hE0 := HE0.out
  rw [HE1.out] at HGe
  generalize hxs : entT T = xs at *
  generalize [] ++ ents T.row = xr at *
  clear HE1 hxs
  go_enter Tryz.func111, Tryz.ntmps111
  go_wp2_with (at_make; go_must (refine wpList_make_own _ rfl (.const (.int .i64 0)) (.tmp 7) 197 rfl w.heap.size 193 i0 _ 5 Tryz.underlying197 hi0 hz0 hz1 .i64 .i64 _ T.keys rfl rfl rfl (by rw [hz2]; omega) (by unfold maxLen; omega) (Nat.le_refl _) ?_); intro w1 hown1 hgrow1; have HF1 := hid ((Fr.refl w (fun _ => False)).grown hgrow1 (fun k _ h => by cases h)); have HO1 := hid hown1; clear hown1 hgrow1)
  have hs1 := HF1.out.size
  have HA0 : Hid (AI w (w1.alloc (.cells #[.slice (some ⟨w.heap.size, 0, none⟩) 0 T.keys] 197)) w1.heap.size (.slice (some ⟨w.heap.size, 0, none⟩) 0 T.keys) []) := ⟨HF1.out.alloc _, hs1, heap_last _ _ _ rfl, own_fr HO1.out (alloc_fr _ _ (fun _ => False)) (fun _ _ h => h), by simp⟩
  clear HF1 HO1 hs1 c3
  generalize w1.alloc (.cells #[.slice (some ⟨w.heap.size, 0, none⟩) 0 T.keys] 197) = w2 at *
  generalize w1.heap.size = N at *
  generalize (Value.slice (some ⟨w.heap.size, 0, none⟩) 0 T.keys) = v0 at *
  obtain ⟨b0, b1, b2⟩ := HK.out _ HA0.out.fr
  have n0 := cell_of_one HA0.out.cell
  have nf := free_of_one HA0.out.cell
  have nl := lt_of_block HA0.out.cell
  have HF := HA0
  have HZ := hid (A0.mk HA0.out.fr HA0.out.cell)
  clear HA0
  go_cut [14] (fun s14 wx => ∃ v1, s14 = v1 ∧ Hid (AI w wx N v1 xr))
  case first =>
    go_region_with ((go_at_call 138; refine (HGr.out _ N v0 (by repeat (first | exact HF.out | apply AI.drewN | apply AI.drew))).mono ?_; rintro e w3 ⟨v1, rfl, ho3, hf3, _, hn3⟩; obtain ⟨ao1, cap1, rfl⟩ := own_nil_shape ho3; have HF := hid (AI.gath (by repeat (first | exact HF.out | apply AI.drewN | apply AI.drew)) ho3 hf3 hn3); have n3 := cell_of_one HF.out.cell; have f3 := free_of_one HF.out.cell; have l3 := lt_of_block HF.out.cell; clear ho3 hf3 hn3))
    all_goals (go_wp2_with fail)
    all_goals go_meet
    all_goals exact ⟨_, rfl, HF.out.store⟩
  case rest =>
    obtain ⟨v1, hv1, HF1⟩ := hcut
    subst hv1
    clear HF HZ b0 b1 b2 n0 nf nl HGr
    obtain ⟨b0, b1, b2⟩ := HK.out _ HF1.out.fr
    have n0 := cell_of_one HF1.out.cell
    have nf := free_of_one HF1.out.cell
    have nl := lt_of_block HF1.out.cell
    go_upto_region 3 with fail
    go_cut [20] (fun s20 wx => ∃ v2, s20 = v2 ∧ Hid (AI w wx N v2 xs))
    case first =>
      go_region_with ((go_at_call 138; refine (HGe.out _ N _ (by repeat (first | exact HF1.out | apply AI.drewN | apply AI.drew))).mono ?_; rintro e w3 ⟨v1, rfl, ho3, hf3, _, hn3⟩; obtain ⟨ao1, cap1, rfl⟩ := own_nil_shape ho3; have HF := hid (AI.gath (by repeat (first | exact HF1.out | apply AI.drewN | apply AI.drew)) ho3 hf3 hn3); have n3 := cell_of_one HF.out.cell; have f3 := free_of_one HF.out.cell; have l3 := lt_of_block HF.out.cell; clear ho3 hf3 hn3))
      all_goals (go_wp2_with fail)
      all_goals go_meet
      all_goals exact ⟨_, rfl, HF.out.store⟩
    case rest =>
      obtain ⟨v2, hv2, HF2⟩ := hcut
      subst hv2
      clear HF1 b0 b1 b2 n0 nf nl HGe
      have n0 := cell_of_one HF2.out.cell
      have nl := lt_of_block HF2.out.cell
      have hshape : ∃ S cap, u20 = .slice (some ⟨S, 0, none⟩) xs.length cap ∧ w.heap.size ≤ S := by
        rcases HF2.out.own.2 with ⟨e, _⟩ | ⟨g, cap', cur, e, hb, _⟩
        · exact absurd e HF2.out.nn
        · exact ⟨g, cap', e, hb⟩
      obtain ⟨S, cap, hu, hS⟩ := hshape
      subst hu
      have HSo := hid (fun (W : World) (hW : AI w W N (.slice (some ⟨S, 0, none⟩) xs.length cap) xs) => sort_any W hW.own hE0)
      go_wp2_with fail
      refine (HSo.out _ HF2.out).mono ?_
      rintro e w4 ⟨rfl, ys, hyl, hyp, hys, hyc, hyb, hf4⟩
      have hNS : N ≠ S := fun e => HF2.out.ne (by rw [e]; rfl)
      have HQ : Hid (Sq w4 N S cap ys) := ⟨by rw [hf4.block N nl hNS, hyl]; exact HF2.out.cell, hyc, by rw [hyl]; exact hE0, hyb⟩
      have HFr := hid (HF2.out.fr.trans2 hf4 (fun b hb e => by omega))
      have HP := hid hyp
      have HS := hid hys
      clear hyl hyp hys hyc hyb hf4
      go_wp2_with fail
      go_ret
      exact ⟨N, rfl, S, cap, ys, HF2.out.lt, hS, HQ.out, HP.out, HS.out, HFr.out⟩
end Go.Proofs.YtgbkihkefdoddaaGreatDoor.R
