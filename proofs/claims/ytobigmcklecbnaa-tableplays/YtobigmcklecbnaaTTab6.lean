/- table: Drop: a walk. -/
import Derived.Test.YtobigmcklecbnaaTTab5
namespace Go.Proofs.Ytobigmcklecbnaa
open Go.RowKit

theorem field_val (W : World) (k : ByteArray) (x : Int) : (Instr.field 75 (.agg #[.string k, .int .i64 x]) 1).run Try.prog W = .ok (.int .i64 x) W := by kernel_rfl

set_option maxHeartbeats 800000 in
set_option maxRecDepth 100000 in
theorem drop_any {B gr : Nat} {ge : Option Nat} {T : Tb} (k : ByteArray) (w : World) (h : TbAt w B gr ge T) (hI : Inv T) (hk : k.size ≤ 9223372036854775807) :
    Calls Try.prog 44 #[.pointer (some ⟨B, 0, none⟩), .string k] w fun e w' => e = .returned (.tuple #[(dropV (.int .i64 0) T k).1, .bool (dropV (.int .i64 0) T k).2]) ∧ (∃ ge', TbAt w' B gr ge' (dropT (.int .i64 0) T k) ∧ (ge' = ge ∨ ge' = none)) ∧ Fr w w' (bl B gr ge) := by
  have hlt := h.lt
  have HMv := hid (move_any 4 w h)
  have HDi := hid (drop_inv (z := .int .i64 0) hI k)
  have HLe := hid h.len
  have HPd : Hid (dropT (.int .i64 0) T k = (
    if (placeT (moveT (.int .i64 0) T 4) k).2.2 then
      (if (placeT (moveT (.int .i64 0) T 4) k).2.1 then ⟨(moveT (.int .i64 0) T 4).row, (moveT (.int .i64 0) T 4).elder.set (placeT (moveT (.int .i64 0) T 4) k).1 (pg (.int .i64 0)), (moveT (.int .i64 0) T 4).moved, (moveT (.int .i64 0) T 4).keys - 1⟩ else ⟨mendL (.int .i64 0) (moveT (.int .i64 0) T 4).row (placeT (moveT (.int .i64 0) T 4) k).1, (moveT (.int .i64 0) T 4).elder, (moveT (.int .i64 0) T 4).moved, (moveT (.int .i64 0) T 4).keys - 1⟩)
    else (moveT (.int .i64 0) T 4))) := rfl
  have HVd : Hid (dropV (.int .i64 0) T k = getT (.int .i64 0) (moveT (.int .i64 0) T 4) k) := rfl
  clear h hI
  go_enter Try.func44, Try.ntmps44
  go_wp2_with fail
  refine HMv.out.mono ?_
  rintro e w1 ⟨rfl, ⟨ge1, hT1, hge⟩, hf1⟩
  generalize moveT (.int .i64 0) T 4 = U at *
  have HT1 := hid hT1
  have HGe := hid hge
  have hs1 := hf1.size
  have HFm : Hid (∀ w' : World, Fr w1 w' (bl B gr ge1) → Fr w w' (bl B gr ge)) := fun w' hf => hf1.trans2 hf (fun b hb e => by
    rcases e with e | e | e
    · exact Or.inl e
    · exact Or.inr (Or.inl e)
    · rcases HGe.out with e2 | e2
      · rw [e2] at e; exact Or.inr (Or.inr e)
      · rw [e2] at e; cases e)
  clear hge hf1 HMv
  have HPl := hid (place_any k w1 hT1 hk)
  obtain ⟨rv, ev, hc, hr, he⟩ := hT1.ex
  obtain ⟨capr, restr, rfl, hRr, hrne⟩ := hr
  have HneB := hid hT1.neB
  have Hne := hid hT1.ne
  have HC := hid hc
  have HR := hid hRr
  have HE := hid he
  have hlt1 := hT1.lt
  have hrl := hT1.len
  obtain ⟨c0, c1, c2, c3⟩ := cells4 hc
  have f3 := free4 hc 3
  have hkl : U.keys ≤ 1099511627776 := by have := hT1.inv.room; have := hT1.len; omega
  rcases place_cases hT1.inv k with ⟨i, hf, hp⟩ | ⟨i, hf, hp⟩ | ⟨hn, hp⟩
  · have HGv := hid (get_has (.int .i64 0) hT1.inv (Or.inl hf.ent))
    rw [hp] at HPl HPd
    simp only [if_true, Bool.false_eq_true, if_false] at HPl HPd
    obtain ⟨⟨x, hx⟩, hks⟩ := hT1.rok i hf.1
    rw [hx] at HGv
    obtain ⟨b1, b2, b3⟩ := hRr.cells i hf.1
    rw [hx] at b3
    have hgl := hRr.lt
    obtain ⟨j, hj, hj0⟩ := hT1.inv.row_emp
    have HMe := hid (fun (W : World) (hW : RowG 77 W gr U.row restr) => mend_any (cap := capr) i j W hW hf.1 hj hj0 (by rintro rfl; rw [hf.2.1] at hj0; cases hj0) hT1.rok hrl)
    have HKp : Hid (1 ≤ U.keys) := by
      have h1 := hT1.inv.keys
      have : 0 < cnt U.row := by
        unfold cnt
        rw [List.countP_pos_iff]
        exact ⟨U.row[i]'hf.1, List.getElem_mem hf.1, by have := hf.2.1; rw [at_get hf.1] at this; simp [this]⟩
      show 1 ≤ U.keys
      omega
    have hkp := HKp.out
    have t0 : (0 : Int) ≤ (i : Int) := by omega
    have t1 : (i : Int) < (U.row.length : Int) := by have := hf.1; omega
    have HFd := hid hf
    clear hc he hRr hT1 hf hp b1 b2 hx hks hj hj0 c1 c2
    go_wp2_with fail
    refine HPl.out.mono ?_
    rintro e w2 ⟨rfl, hw2⟩
    have hw2 := hw2.symm
    subst hw2
    go_wp2_with fail
    have hS := set_fr w1 ⟨B, 3, none⟩ (.int .i64 ((U.keys : Int) - 1))
    refine (HMe.out _ (HR.out.fr hS HneB.out.1)).mono ?_
    rintro e w3 ⟨rfl, hR3, hV3, hf3⟩
    have HR3 := hid hR3
    have HV3 := hid hV3
    have HF3 := hid hf3
    have HS := hid hS
    clear hR3 hV3 hf3 hS
    go_wp2_with fail
    go_ret2
    rw [HVd.out, HGv.out]
    have hL : (mendL (.int .i64 0) U.row i).length = U.row.length := by
      have := HDi.out.2.2.1
      obtain ⟨j, hj, hj0⟩ := HT1.out.inv.row_emp
      exact (mend_spec (.int .i64 0) HFd.out.1 hj HFd.out.2.1 hj0 HT1.out.inv.prb HT1.out.inv.unq HT1.out.inv.st).1
    rw [HPd.out] at HDi ⊢
    have hC3 : w3.heap[B]? = _ := (HF3.out.block B (by simp [World.setCell]; exact hlt1) (fun e => HneB.out.1 e.symm)).trans (set43 (u := .int .i64 ((U.keys : Int) - 1)) HC.out)
    refine ⟨rfl, ⟨ge1, ⟨⟨_, _, by rw [show (((U.keys - 1 : Nat) : Int)) = (U.keys : Int) - 1 by omega]; exact hC3, ⟨capr, restr, by rw [hL], HR3.out, ?_⟩, (HE.out.fr HS.out (fun g e e2 => HneB.out.2 (by rw [e, e2]))).fr HF3.out (fun g e e2 => Hne.out (by rw [e, e2]))⟩, Hne.out, HDi.out.1.i0, HV3.out, HT1.out.eok, by rw [hL]; exact hrl⟩, HGe.out⟩, HFm.out _ ((HS.out.mono (fun b _ e => Or.inl e)).trans2 HF3.out (fun b _ e => Or.inr (Or.inl e)))⟩
    intro e
    apply hrne
    apply List.eq_nil_of_length_eq_zero
    rw [← hL]
    simp only at e
    rw [e]; rfl
  · have HGv := hid (get_has (.int .i64 0) hT1.inv (Or.inr hf.ent))
    rw [hp] at HPl HPd
    simp only [if_true] at HPl HPd
    have hi := hf.1
    have hene : U.elder ≠ [] := by intro e; rw [e] at hi; simp at hi
    have hel := hT1.elen
    cases ge1 with
    | none => exact absurd he.1 hene
    | some g =>
      obtain ⟨cape, reste, rfl, hRe, _⟩ := he
      obtain ⟨⟨x, hx⟩, hks⟩ := hT1.eok i hf.1
      rw [hx] at HGv
      have hgl := hRe.lt
      have HRe := hid hRe
      have HGi := hid (fun (W : World) (hW : RowG 77 W g U.elder reste) => give_any (cap := cape) i W hW hf.1 hT1.eok hel)
      rw [hx, hf.2.2] at HGi
      have HKp : Hid (1 ≤ U.keys) := by
        have h1 := hT1.inv.keys
        have : 0 < cnt U.elder := by
          unfold cnt
          rw [List.countP_pos_iff]
          exact ⟨U.elder[i]'hf.1, List.getElem_mem hf.1, by have := hf.2.1; rw [at_get hf.1] at this; simp [this]⟩
        show 1 ≤ U.keys
        omega
      have hkp := HKp.out
      have HFd := hid hf
      have hfv := field_val
      clear hc hRr hRe hT1 hf hp hx hks hi c2 c0
      go_wp2_with fail
      refine HPl.out.mono ?_
      rintro e w2 ⟨rfl, hw2⟩
      have hw2 := hw2.symm
      subst hw2
      go_wp2_with fail
      have hS := set_fr w1 ⟨B, 3, none⟩ (.int .i64 ((U.keys : Int) - 1))
      refine (HGi.out _ (HRe.out.fr hS (fun e => HneB.out.2 (by rw [e])))).mono ?_
      rintro e w3 ⟨rfl, hR3, hf3⟩
      have HR3 := hid hR3
      have HF3 := hid hf3
      have HS := hid hS
      clear hR3 hf3 hS
      go_wp2_with fail
      go_ret2
      rw [HVd.out, HGv.out]
      have hL : (U.elder.set i (pg (.int .i64 0))).length = U.elder.length := by simp
      rw [HPd.out] at HDi ⊢
      have hC3 : w3.heap[B]? = _ := (HF3.out.block B (by simp [World.setCell]; exact hlt1) (fun e => HneB.out.2 (by rw [e]))).trans (set43 (u := .int .i64 ((U.keys : Int) - 1)) HC.out)
      refine ⟨rfl, ⟨some g, ⟨⟨_, _, by rw [show (((U.keys - 1 : Nat) : Int)) = (U.keys : Int) - 1 by omega]; exact hC3, ⟨capr, restr, rfl, (HR.out.fr HS.out HneB.out.1).fr HF3.out (fun e => Hne.out (by rw [e])), hrne⟩, ⟨cape, reste, by rw [hL], HR3.out, ?_⟩⟩, Hne.out, HDi.out.1.i0, HT1.out.rok, HT1.out.eok.set i _ HFd.out.1 okP_g, hrl⟩, HGe.out⟩, HFm.out _ ((HS.out.mono (fun b _ e => Or.inl e)).trans2 HF3.out (fun b _ e => Or.inr (Or.inr (by rw [e]))))⟩
      intro e
      apply hene
      apply List.eq_nil_of_length_eq_zero
      rw [← hL]
      simp only at e
      rw [e]; rfl
  · have HGv := hid (get_none (.int .i64 0) hT1.inv hn)
    rw [hp] at HPl HPd
    simp only [Bool.false_eq_true, if_false] at HPl HPd
    clear hc he hRr hT1 hp hn c0 c1 c2 c3
    go_wp2_with fail
    refine HPl.out.mono ?_
    rintro e w2 ⟨rfl, hw2⟩
    have hw2 := hw2.symm
    subst hw2
    go_wp2_with fail
    go_ret2
    rw [HVd.out, HGv.out, HPd.out]
    exact ⟨rfl, ⟨ge1, HT1.out, HGe.out⟩, HFm.out _ (Fr.refl _ _)⟩
end Go.Proofs.Ytobigmcklecbnaa
