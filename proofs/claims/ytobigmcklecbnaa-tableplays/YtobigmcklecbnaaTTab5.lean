/- table: Put: a walk. -/
import Derived.Test.YtobigmcklecbnaaTTab4
namespace Go.Proofs.Ytobigmcklecbnaa
open Go.RowKit

/-- What a call leaves of a table's blocks: the old ones, or new ones. -/
def Nb (w : World) (B gr : Nat) (ge : Option Nat) (gr' : Nat) (ge' : Option Nat) : Prop := ∀ b, bl B gr' ge' b → bl B gr ge b ∨ w.heap.size ≤ b

set_option maxHeartbeats 800000 in
set_option maxRecDepth 100000 in
theorem put_any {B gr : Nat} {ge : Option Nat} {T : Tb} (k : ByteArray) (x : Int) (w : World) (h : TbAt w B gr ge T) (hI : Inv T) (hk : k.size ≤ 9223372036854775807) (hlen : 2 * T.row.length ≤ 1099511627776) :
    Calls Try.prog 33 #[.pointer (some ⟨B, 0, none⟩), .string k, .int .i64 x] w fun e w' => e = .returned (.tuple #[]) ∧ (∃ gr' ge', TbAt w' B gr' ge' (putT (.int .i64 0) T k (.int .i64 x)) ∧ Nb w B gr ge gr' ge') ∧ Fr w w' (bl B gr ge) := by
  have hlt := h.lt
  have HT := hid h
  have HMi := hid (move_inv (.int .i64 0) h.inv 4)
  have HMv := hid (move_any 4 w h)
  have HPd : Hid (putT (.int .i64 0) T k (.int .i64 x) = (
    if (placeT (moveT (.int .i64 0) T 4) k).2.2 then
      (if (placeT (moveT (.int .i64 0) T 4) k).2.1 then ⟨(moveT (.int .i64 0) T 4).row, putIn (moveT (.int .i64 0) T 4).elder (placeT (moveT (.int .i64 0) T 4) k).1 (.int .i64 x), (moveT (.int .i64 0) T 4).moved, (moveT (.int .i64 0) T 4).keys⟩ else ⟨putIn (moveT (.int .i64 0) T 4).row (placeT (moveT (.int .i64 0) T 4) k).1 (.int .i64 x), (moveT (.int .i64 0) T 4).elder, (moveT (.int .i64 0) T 4).moved, (moveT (.int .i64 0) T 4).keys⟩)
    else
      ⟨layP (if 3 * (moveT (.int .i64 0) T 4).row.length < 4 * ((moveT (.int .i64 0) T 4).keys + 1) then growT (.int .i64 0) (moveT (.int .i64 0) T 4) else (moveT (.int .i64 0) T 4)).row k (.int .i64 x), (if 3 * (moveT (.int .i64 0) T 4).row.length < 4 * ((moveT (.int .i64 0) T 4).keys + 1) then growT (.int .i64 0) (moveT (.int .i64 0) T 4) else (moveT (.int .i64 0) T 4)).elder, (if 3 * (moveT (.int .i64 0) T 4).row.length < 4 * ((moveT (.int .i64 0) T 4).keys + 1) then growT (.int .i64 0) (moveT (.int .i64 0) T 4) else (moveT (.int .i64 0) T 4)).moved, (if 3 * (moveT (.int .i64 0) T 4).row.length < 4 * ((moveT (.int .i64 0) T 4).keys + 1) then growT (.int .i64 0) (moveT (.int .i64 0) T 4) else (moveT (.int .i64 0) T 4)).keys + 1⟩)) := rfl
  clear h
  go_enter Try.func33, Try.ntmps33
  go_wp2_with fail
  refine HMv.out.mono ?_
  rintro e w1 ⟨rfl, ⟨ge1, hT1, hge⟩, hf1⟩
  generalize moveT (.int .i64 0) T 4 = U at *
  have HT1 := hid hT1
  have HF1 := hid hf1
  have HGe := hid hge
  have hs1 := hf1.size
  have hlU : 2 * U.row.length ≤ 1099511627776 := by rw [HMi.out.2.2.2.1]; exact hlen
  clear hge hf1 HMv
  have HFn := hid (find_any k w1 hT1 hk)
  obtain ⟨rv, ev, hc, hr, he⟩ := hT1.ex
  obtain ⟨capr, restr, rfl, hRr, hrne⟩ := hr
  unfold spot at HFn
  have HNb0 : Hid (Nb w B gr ge gr ge1) := by
    intro b hb
    left
    rcases hb with hb | hb | hb
    · exact Or.inl hb
    · exact Or.inr (Or.inl hb)
    · rcases HGe.out with e | e
      · rw [e] at hb; exact Or.inr (Or.inr hb)
      · rw [e] at hb; cases hb
  have HFm : Hid (∀ w' : World, Fr w1 w' (bl B gr ge1) → Fr w w' (bl B gr ge)) := fun w' hf => HF1.out.trans2 hf (fun b hb e => by
    rcases HNb0.out b e with h1 | h1
    · exact h1
    · omega)
  have hfB := free4 hc
  have hmI := HMi.out.1
  have hmH := HMi.out.2.1
  have HIP : Hid (Inv (putT (.int .i64 0) T k (.int .i64 x)) ∧ (putT (.int .i64 0) T k (.int .i64 x)).row.length ≤ 1099511627776) := by
    rcases Classical.em (∃ v, Has T k v) with ⟨v, hv⟩ | hv
    · obtain ⟨a1, _, _, a4, _⟩ := put_there (z := .int .i64 0) hI (.int .i64 x) hv
      exact ⟨a1, by rw [a4]; omega⟩
    · obtain ⟨a1, _, _, a4, _⟩ := put_new (z := .int .i64 0) hI (.int .i64 x) (fun v h => hv ⟨v, h⟩)
      refine ⟨a1, ?_⟩
      rw [a4]
      split <;> omega
  have HneB := hid hT1.neB
  have Hne := hid hT1.ne
  have HC := hid hc
  have HR := hid hRr
  have HE := hid he
  have hlt1 := hT1.lt
  have HOkx : Hid (okP ⟨1, k, .int .i64 x⟩) := ⟨⟨x, rfl⟩, hk⟩
  rcases place_cases hT1.inv k with ⟨i, hf, hp⟩ | ⟨i, hf, hp⟩ | ⟨hn, hp⟩
  · rw [hp] at HFn HPd
    simp only [if_true, Bool.false_eq_true, if_false] at HFn HPd
    obtain ⟨b1, b2, b3⟩ := hRr.cells i hf.1
    have f2 := hRr.free (i * 3 + 2)
    have hgl := hRr.lt
    have HFd := hid hf
    clear hc he hRr hT1 hf hp b1 b2 hfB hmI hmH hI
    go_wp2_with fail
    refine HFn.out.mono ?_
    rintro e w2 ⟨rfl, hw2⟩
    have hw2 := hw2.symm
    subst hw2
    go_wp2_with fail
    refine bodyPost_ret (results_none Try.results33 _ _ _) rfl ?_
    rw [HPd.out] at HIP ⊢
    have hS := set_fr w1 ⟨gr, i * 3 + 2, none⟩ (.int .i64 x)
    have hL : (putIn U.row i (.int .i64 x)).length = U.row.length := by simp [putIn]
    refine ⟨rfl, ⟨gr, ge1, ⟨⟨_, _, by rw [hS.block B hlt1 (fun e => HneB.out.1 e.symm)]; exact HC.out, ⟨capr, restr, by rw [hL], HR.out.setv i HFd.out.1 (.int .i64 x), ?_⟩, HE.out.fr hS (fun g e e2 => Hne.out (by rw [e, e2]))⟩, Hne.out, HIP.out.1.i0, ?_, HT1.out.eok, HIP.out.2⟩, HNb0.out⟩, HFm.out _ (hS.mono (fun b _ e => Or.inr (Or.inl e)))⟩
    · intro e
      apply hrne
      apply List.eq_nil_of_length_eq_zero
      rw [← hL]
      simp only at e
      rw [e]; rfl
    · exact HT1.out.rok.set i _ HFd.out.1 ⟨⟨x, rfl⟩, (HT1.out.rok i HFd.out.1).2⟩
  · rw [hp] at HFn HPd
    simp only [if_true] at HFn HPd
    have hi := hf.1
    have hene : U.elder ≠ [] := by intro e; rw [e] at hi; simp at hi
    cases ge1 with
    | none => exact absurd he.1 hene
    | some g =>
      obtain ⟨cape, reste, rfl, hRe, _⟩ := he
      obtain ⟨b1, b2, b3⟩ := hRe.cells i hf.1
      have f2 := hRe.free (i * 3 + 2)
      have hgl := hRe.lt
      have HFd := hid hf
      have HRe := hid hRe
      simp only [Option.getD_some] at HFn
      clear hc hRr hRe hT1 hf hp b1 b2 hfB hmI hmH hI hi
      go_wp2_with fail
      refine HFn.out.mono ?_
      rintro e w2 ⟨rfl, hw2⟩
      have hw2 := hw2.symm
      subst hw2
      go_wp2_with fail
      refine bodyPost_ret (results_none Try.results33 _ _ _) rfl ?_
      rw [HPd.out] at HIP ⊢
      have hS := set_fr w1 ⟨g, i * 3 + 2, none⟩ (.int .i64 x)
      have hL : (putIn U.elder i (.int .i64 x)).length = U.elder.length := by simp [putIn]
      refine ⟨rfl, ⟨gr, some g, ⟨⟨_, _, by rw [hS.block B hlt1 (fun e => HneB.out.2 (by rw [e]))]; exact HC.out, ⟨capr, restr, rfl, HR.out.fr hS (fun e => Hne.out (by rw [e])), hrne⟩, ⟨cape, reste, by rw [hL], HRe.out.setv i HFd.out.1 (.int .i64 x), ?_⟩⟩, Hne.out, HIP.out.1.i0, HT1.out.rok, ?_, HIP.out.2⟩, HNb0.out⟩, HFm.out _ (hS.mono (fun b _ e => Or.inr (Or.inr (by rw [e]))))⟩
      · intro e
        apply hene
        apply List.eq_nil_of_length_eq_zero
        rw [← hL]
        simp only at e
        rw [e]; rfl
      · exact HT1.out.eok.set i _ HFd.out.1 ⟨⟨x, rfl⟩, (HT1.out.eok i HFd.out.1).2⟩
  · rw [hp] at HFn HPd
    simp only [Bool.false_eq_true, if_false] at HFn HPd
    obtain ⟨c0, c1, c2, c3⟩ := cells4 hc
    have hnT : ∀ v, ¬ Has U k v := hn
    have hkl : U.keys ≤ 1099511627776 := by have := hT1.inv.room; have := hT1.len; omega
    have hrl := hT1.len
    by_cases hg : 3 * U.row.length < 4 * (U.keys + 1)
    · rw [if_pos hg] at HPd
      have t1 : 3 * (U.row.length : Int) < 4 * ((U.keys : Int) + 1) := by omega
      have HGi := hid (grow_inv (.int .i64 0) hmI)
      have HGr := hid (fun (W : World) (hW : Fr w1 W (fun _ => False)) => grow_any W (hT1.step hW) hmI (by omega))
      have HnG := hid (fun v h => hn v ((HGi.out.2.1 k v).1 h))
      clear hc he hRr hT1 hp hfB hmI hmH hI hg c1 c2 hn hnT
      go_wp2_with fail
      refine HFn.out.mono ?_
      rintro e w2 ⟨rfl, hw2⟩
      have hw2 := hw2.symm
      subst hw2
      go_wp2_with fail
      go_quiet (fail)
      go_wp2_with fail
      refine (HGr.out _ ((Fr.refl _ _).drewN _)).mono ?_
      rintro e w3 ⟨rfl, ⟨gn, hT3, hgn⟩, hf3⟩
      have HF3 := hid (HF1.out.trans2 ((Fr.refl w1 (fun _ => False)).drewN nq) (fun _ _ h => h.elim))
      have HF3b := hid (show Fr w1 w3 (bl B gr ge1) from hf3.ofDrewN)
      have hgn1 : w.heap.size ≤ gn := Nat.le_trans hs1 hgn
      clear hf3 c0 c3
      have hlt3 := hT3.lt
      have HT3 := hid hT3
      obtain ⟨rv3, ev3, hc3, hr3, he3⟩ := hT3.ex
      obtain ⟨cap3, rest3, rfl, hR3, hrne3⟩ := hr3
      obtain ⟨d0, d1, d2, d3⟩ := cells4 hc3
      have e3 := free4 hc3 3
      have HLy := hid (lay_any (cap := cap3) k x w3 hR3 hT3.inv.row_emp hk hT3.len)
      have HC3 := hid hc3
      have HE3 := hid he3
      have HkG : Hid ((growT (.int .i64 0) U).keys ≤ 1099511627776) := by have := hT3.inv.room; have := hT3.len; show (growT (.int .i64 0) U).keys ≤ _; omega
      have hkG := HkG.out
      clear hc3 hR3 he3 hT3 d1 d2
      generalize hGG : (growT (.int .i64 0) U) = G at *
      have HGG := hid hGG
      clear hGG
      go_wp2_with fail
      refine HLy.out.mono ?_
      rintro e w4 ⟨rfl, hR4, hf4⟩
      have HR4 := hid hR4
      have HF4 := hid hf4
      have hB4 : w4.heap[B]? = _ := (hf4.block B hlt3 (fun e => HT3.out.neB.1 e.symm)).trans HC3.out
      obtain ⟨d0', d1', d2', d3'⟩ := cells4 hB4
      have e3' := free4 hB4 3
      have hlt4 := lt_of_block hB4
      have HB4 := hid hB4
      clear hR4 hf4 hB4 d0' d1' d2' d0 d3
      go_wp2_with fail
      go_end0
      rw [HPd.out] at HIP ⊢
      have hS := set_fr w4 ⟨B, 3, none⟩ (.int .i64 ((G.keys : Int) + 1))
      have hL : (layP G.row k (.int .i64 x)).length = G.row.length := layP_len _ _ _
      refine ⟨rfl, ⟨gn, some gr, ⟨⟨_, _, set43 HB4.out, ⟨cap3, rest3, by rw [hL], HR4.out.fr hS HT3.out.neB.1, ?_⟩, (HE3.out.fr HF4.out (fun g e e2 => HT3.out.ne (by rw [e, e2]))).fr hS (fun g e e2 => HT3.out.neB.2 (by rw [e, e2]))⟩, HT3.out.ne, HIP.out.1.i0, layP_vok HT3.out.rok HT3.out.inv.row_emp HOkx.out, HT3.out.eok, HIP.out.2⟩, (fun b hb => by
        rcases hb with hb | hb | hb
        · exact Or.inl (Or.inl hb)
        · exact Or.inr (by omega)
        · exact Or.inl (Or.inr (Or.inl (by cases hb; rfl))))⟩, HFm.out _ ((HF3b.out.trans2 HF4.out (fun b hb e => by have := HF3b.out.size; have h5 := hgn; simp at h5; omega)).trans2 hS (fun b _ e => Or.inl e))⟩
      · intro e
        apply hrne3
        apply List.eq_nil_of_length_eq_zero
        rw [← hL]
        simp only at e
        rw [e]; rfl
    · rw [if_neg hg] at HPd
      have t1 : ¬ 3 * (U.row.length : Int) < 4 * ((U.keys : Int) + 1) := by omega
      clear hc he hRr hT1 hp hfB hmI hmH hI hg c1 c2 hn hnT
      go_wp2_with fail
      refine HFn.out.mono ?_
      rintro e w2 ⟨rfl, hw2⟩
      have hw2 := hw2.symm
      subst hw2
      go_wp2_with fail
      go_quiet (fail)
      have e3 := free4 HC.out 3
      have HLy := hid (lay_any (cap := capr) k x (w1.drewN nq) HR.out HT1.out.inv.row_emp hk hrl)
      go_wp2_with fail
      refine HLy.out.mono ?_
      rintro e w4 ⟨rfl, hR4, hf4⟩
      have HR4 := hid hR4
      have HF4 := hid (show Fr w1 w4 (fun b => b = gr) from hf4.ofDrewN)
      clear hR4 hf4 c0 c3 e3
      have hB4 : w4.heap[B]? = _ := (HF4.out.block B hlt1 (fun e => HneB.out.1 e.symm)).trans HC.out
      obtain ⟨d0', d1', d2', d3'⟩ := cells4 hB4
      have e3' := free4 hB4 3
      have hlt4 := lt_of_block hB4
      have HB4 := hid hB4
      clear hB4 d0' d1' d2'
      go_wp2_with fail
      go_end0
      rw [HPd.out] at HIP ⊢
      have hS := set_fr w4 ⟨B, 3, none⟩ (.int .i64 ((U.keys : Int) + 1))
      have hL : (layP U.row k (.int .i64 x)).length = U.row.length := layP_len _ _ _
      refine ⟨rfl, ⟨gr, ge1, ⟨⟨_, _, set43 HB4.out, ⟨capr, restr, by rw [hL], HR4.out.fr hS HneB.out.1, ?_⟩, (HE.out.fr HF4.out (fun g e e2 => Hne.out (by rw [e, e2]))).fr hS (fun g e e2 => HneB.out.2 (by rw [e, e2]))⟩, Hne.out, HIP.out.1.i0, layP_vok HT1.out.rok HT1.out.inv.row_emp HOkx.out, HT1.out.eok, HIP.out.2⟩, HNb0.out⟩, HFm.out _ ((HF4.out.mono (fun b _ e => Or.inr (Or.inl e))).trans2 hS (fun b _ e => Or.inl e))⟩
      · intro e
        apply hrne
        apply List.eq_nil_of_length_eq_zero
        rw [← hL]
        simp only at e
        rw [e]; rfl
end Go.Proofs.Ytobigmcklecbnaa
