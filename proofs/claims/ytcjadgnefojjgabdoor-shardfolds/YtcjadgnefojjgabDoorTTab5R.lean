/- table: Put: a walk. -/
import Derived.Test.YtcjadgnefojjgabDoorTTab4R
namespace Go.Proofs.YtcjadgnefojjgabDoor.R
open Go.RowKit

/-- What a call leaves of a table's blocks: the old ones, or new ones. -/
def Nb (w : World) (B gr : Nat) (ge : Option Nat) (gr' : Nat) (ge' : Option Nat) : Prop := ∀ b, bl B gr' ge' b → bl B gr ge b ∨ w.heap.size ≤ b

theorem TbAt.bl_lt {w : World} {B gr : Nat} {ge : Option Nat} {T : Tb} (h : TbAt w B gr ge T) {b : Nat} (hb : bl B gr ge b) : b < w.heap.size := by
  obtain ⟨rv, ev, hc, hr, he⟩ := h.ex
  rcases hb with rfl | rfl | hb
  · exact h.lt
  · exact hr.lt
  · rw [hb] at he
    exact he.lt
theorem TbAt.nb {w : World} {B gr : Nat} {ge : Option Nat} {T : Tb} (h : TbAt w B gr ge T) : ¬ bl B gr ge w.heap.size := fun hb => Nat.lt_irrefl _ (h.bl_lt hb)

set_option maxHeartbeats 800000 in
set_option maxRecDepth 100000 in
theorem put_any {B gr : Nat} {ge : Option Nat} {T : Tb} (k : ByteArray) (x : Rw) (w : World) (h : TbAt w B gr ge T) (hI : Inv T) (hk : k.size ≤ 9223372036854775807) (hlen : 2 * T.row.length ≤ 1099511627776) :
    Calls Tryd.prog 39 #[.pointer (some ⟨B, 0, none⟩), .string k, .agg #[.int .i64 x.v, .string x.k, .int .i64 x.s, .pointer x.p]] w fun e w' => e = .returned (.tuple #[]) ∧ (∃ gr' ge', TbAt w' B gr' ge' (putT (.agg #[.int .i64 0, .string ⟨#[]⟩, .int .i64 0, .pointer none]) T k (.agg #[.int .i64 x.v, .string x.k, .int .i64 x.s, .pointer x.p])) ∧ Nb w B gr ge gr' ge') ∧ Fr w w' (bl B gr ge) := by
  have hlt := h.lt
  have HT := hid h
  have HMi := hid (move_inv (.agg #[.int .i64 0, .string ⟨#[]⟩, .int .i64 0, .pointer none]) h.inv 4)
  have HMv := hid (fun (W : World) (hf : Fr w W (fun _ => False)) => move_any 4 W (h.step hf))
  have HNB := hid h.nb
  have HPd : Hid (putT (.agg #[.int .i64 0, .string ⟨#[]⟩, .int .i64 0, .pointer none]) T k (.agg #[.int .i64 x.v, .string x.k, .int .i64 x.s, .pointer x.p]) = (
    if (placeT (moveT (.agg #[.int .i64 0, .string ⟨#[]⟩, .int .i64 0, .pointer none]) T 4) k).2.2 then
      (if (placeT (moveT (.agg #[.int .i64 0, .string ⟨#[]⟩, .int .i64 0, .pointer none]) T 4) k).2.1 then ⟨(moveT (.agg #[.int .i64 0, .string ⟨#[]⟩, .int .i64 0, .pointer none]) T 4).row, putIn (moveT (.agg #[.int .i64 0, .string ⟨#[]⟩, .int .i64 0, .pointer none]) T 4).elder (placeT (moveT (.agg #[.int .i64 0, .string ⟨#[]⟩, .int .i64 0, .pointer none]) T 4) k).1 (.agg #[.int .i64 x.v, .string x.k, .int .i64 x.s, .pointer x.p]), (moveT (.agg #[.int .i64 0, .string ⟨#[]⟩, .int .i64 0, .pointer none]) T 4).moved, (moveT (.agg #[.int .i64 0, .string ⟨#[]⟩, .int .i64 0, .pointer none]) T 4).keys⟩ else ⟨putIn (moveT (.agg #[.int .i64 0, .string ⟨#[]⟩, .int .i64 0, .pointer none]) T 4).row (placeT (moveT (.agg #[.int .i64 0, .string ⟨#[]⟩, .int .i64 0, .pointer none]) T 4) k).1 (.agg #[.int .i64 x.v, .string x.k, .int .i64 x.s, .pointer x.p]), (moveT (.agg #[.int .i64 0, .string ⟨#[]⟩, .int .i64 0, .pointer none]) T 4).elder, (moveT (.agg #[.int .i64 0, .string ⟨#[]⟩, .int .i64 0, .pointer none]) T 4).moved, (moveT (.agg #[.int .i64 0, .string ⟨#[]⟩, .int .i64 0, .pointer none]) T 4).keys⟩)
    else
      ⟨layP (if 3 * (moveT (.agg #[.int .i64 0, .string ⟨#[]⟩, .int .i64 0, .pointer none]) T 4).row.length < 4 * ((moveT (.agg #[.int .i64 0, .string ⟨#[]⟩, .int .i64 0, .pointer none]) T 4).keys + 1) then growT (.agg #[.int .i64 0, .string ⟨#[]⟩, .int .i64 0, .pointer none]) (moveT (.agg #[.int .i64 0, .string ⟨#[]⟩, .int .i64 0, .pointer none]) T 4) else (moveT (.agg #[.int .i64 0, .string ⟨#[]⟩, .int .i64 0, .pointer none]) T 4)).row k (.agg #[.int .i64 x.v, .string x.k, .int .i64 x.s, .pointer x.p]), (if 3 * (moveT (.agg #[.int .i64 0, .string ⟨#[]⟩, .int .i64 0, .pointer none]) T 4).row.length < 4 * ((moveT (.agg #[.int .i64 0, .string ⟨#[]⟩, .int .i64 0, .pointer none]) T 4).keys + 1) then growT (.agg #[.int .i64 0, .string ⟨#[]⟩, .int .i64 0, .pointer none]) (moveT (.agg #[.int .i64 0, .string ⟨#[]⟩, .int .i64 0, .pointer none]) T 4) else (moveT (.agg #[.int .i64 0, .string ⟨#[]⟩, .int .i64 0, .pointer none]) T 4)).elder, (if 3 * (moveT (.agg #[.int .i64 0, .string ⟨#[]⟩, .int .i64 0, .pointer none]) T 4).row.length < 4 * ((moveT (.agg #[.int .i64 0, .string ⟨#[]⟩, .int .i64 0, .pointer none]) T 4).keys + 1) then growT (.agg #[.int .i64 0, .string ⟨#[]⟩, .int .i64 0, .pointer none]) (moveT (.agg #[.int .i64 0, .string ⟨#[]⟩, .int .i64 0, .pointer none]) T 4) else (moveT (.agg #[.int .i64 0, .string ⟨#[]⟩, .int .i64 0, .pointer none]) T 4)).moved, (if 3 * (moveT (.agg #[.int .i64 0, .string ⟨#[]⟩, .int .i64 0, .pointer none]) T 4).row.length < 4 * ((moveT (.agg #[.int .i64 0, .string ⟨#[]⟩, .int .i64 0, .pointer none]) T 4).keys + 1) then growT (.agg #[.int .i64 0, .string ⟨#[]⟩, .int .i64 0, .pointer none]) (moveT (.agg #[.int .i64 0, .string ⟨#[]⟩, .int .i64 0, .pointer none]) T 4) else (moveT (.agg #[.int .i64 0, .string ⟨#[]⟩, .int .i64 0, .pointer none]) T 4)).keys + 1⟩)) := rfl
  clear h
  go_enter Tryd.func39, Tryd.ntmps39
  go_wp2_with fail
  refine (HMv.out _ (alloc_fr _ _ _)).mono ?_
  rintro e w1 ⟨rfl, ⟨ge1, hT1, hge⟩, hf0⟩
  have HVX := hid ((hf0.block w.heap.size (by simp) HNB.out).trans (heap_last _ _ _ rfl))
  obtain ⟨v0, v1, v2, v3⟩ := cells4 HVX.out
  have hvl := lt_of_block HVX.out
  have hf1 := (alloc_fr w _ (bl B gr ge)).trans hf0
  clear hf0
  generalize moveT (.agg #[.int .i64 0, .string ⟨#[]⟩, .int .i64 0, .pointer none]) T 4 = U at *
  have HT1 := hid hT1
  have HF1 := hid hf1
  have HGe := hid hge
  have hs1 := hf1.size
  have hlU : 2 * U.row.length ≤ 1099511627776 := by rw [HMi.out.2.2.2.1]; exact hlen
  clear hge hf1 HMv
  have HFn := hid (find_any k w1 hT1 hk)
  obtain ⟨rv, ev, hc, hr, he⟩ := hT1.ex
  obtain ⟨capr, restr, rfl, hRr, hrne⟩ := hr
  unfold spot at HFn
  have HNb0 : Hid (Nb w B gr ge gr ge1) := by
    intro b hb
    left
    rcases hb with hb | hb | hb
    · exact Or.inl hb
    · exact Or.inr (Or.inl hb)
    · rcases HGe.out with e | e
      · rw [e] at hb; exact Or.inr (Or.inr hb)
      · rw [e] at hb; cases hb
  have HFm : Hid (∀ w' : World, Fr w1 w' (bl B gr ge1) → Fr w w' (bl B gr ge)) := fun w' hf => HF1.out.trans2 hf (fun b hb e => by
    rcases HNb0.out b e with h1 | h1
    · exact h1
    · omega)
  have HNB1 : Hid (¬ bl B gr ge1 w.heap.size) := fun hb => by
    rcases hb with hb | hb | hb
    · exact HNB.out (Or.inl hb)
    · exact HNB.out (Or.inr (Or.inl hb))
    · rcases HGe.out with e | e
      · rw [e] at hb; exact HNB.out (Or.inr (Or.inr hb))
      · rw [e] at hb; cases hb
  have hfB := free4 hc
  have hmI := HMi.out.1
  have hmH := HMi.out.2.1
  have HIP : Hid (Inv (putT (.agg #[.int .i64 0, .string ⟨#[]⟩, .int .i64 0, .pointer none]) T k (.agg #[.int .i64 x.v, .string x.k, .int .i64 x.s, .pointer x.p])) ∧ (putT (.agg #[.int .i64 0, .string ⟨#[]⟩, .int .i64 0, .pointer none]) T k (.agg #[.int .i64 x.v, .string x.k, .int .i64 x.s, .pointer x.p])).row.length ≤ 1099511627776) := by
    rcases Classical.em (∃ v, Has T k v) with ⟨v, hv⟩ | hv
    · obtain ⟨a1, _, _, a4, _⟩ := put_there (z := .agg #[.int .i64 0, .string ⟨#[]⟩, .int .i64 0, .pointer none]) hI (.agg #[.int .i64 x.v, .string x.k, .int .i64 x.s, .pointer x.p]) hv
      exact ⟨a1, by rw [a4]; omega⟩
    · obtain ⟨a1, _, _, a4, _⟩ := put_new (z := .agg #[.int .i64 0, .string ⟨#[]⟩, .int .i64 0, .pointer none]) hI (.agg #[.int .i64 x.v, .string x.k, .int .i64 x.s, .pointer x.p]) (fun v h => hv ⟨v, h⟩)
      refine ⟨a1, ?_⟩
      rw [a4]
      split <;> omega
  have HneB := hid hT1.neB
  have Hne := hid hT1.ne
  have HC := hid hc
  have HR := hid hRr
  have HE := hid he
  have hlt1 := hT1.lt
  have HOkx : Hid (okP ⟨1, k, .agg #[.int .i64 x.v, .string x.k, .int .i64 x.s, .pointer x.p]⟩) := ⟨⟨x, rfl⟩, hk⟩
  rcases place_cases hT1.inv k with ⟨i, hf, hp⟩ | ⟨i, hf, hp⟩ | ⟨hn, hp⟩
  · rw [hp] at HFn HPd
    simp only [if_true, Bool.false_eq_true, if_false] at HFn HPd
    obtain ⟨b1, b2, b3, b4, b5, b6⟩ := hRr.cells i hf.1
    have f2 := hRr.free (i * 6 + 2)
    have f3 := hRr.free (i * 6 + 3)
    have f4 := hRr.free (i * 6 + 4)
    have f5 := hRr.free (i * 6 + 5)
    have hgl := hRr.lt
    have HFd := hid hf
    clear hc he hRr hT1 hf hp b1 b2 hfB hmI hmH hI
    go_wp2_with fail
    refine HFn.out.mono ?_
    rintro e w2 ⟨rfl, hw2⟩
    have hw2 := hw2.symm
    subst hw2
    go_wp2_with fail
    refine bodyPost_ret (results_none Tryd.results39 _ _ _) rfl ?_
    rw [HPd.out] at HIP ⊢
    have hS := set4_fr w1 gr (i * 6) x (Fr.refl w1 (fun b => b = gr)) (fun _ => rfl)
    have hL : (putIn U.row i (.agg #[.int .i64 x.v, .string x.k, .int .i64 x.s, .pointer x.p])).length = U.row.length := by simp [putIn]
    refine ⟨rfl, ⟨gr, ge1, ⟨⟨_, _, (hS.block B hlt1 (fun e => HneB.out.1 e.symm)).trans HC.out, ⟨capr, restr, by rw [hL], HR.out.setv i HFd.out.1 x, ?_⟩, HE.out.fr hS (fun g e e2 => Hne.out (by rw [e, e2]))⟩, Hne.out, HIP.out.1.i0, ?_, HT1.out.eok, HIP.out.2⟩, HNb0.out⟩, HFm.out _ (hS.mono (fun b _ e => Or.inr (Or.inl e)))⟩
    · intro e
      apply hrne
      apply List.eq_nil_of_length_eq_zero
      rw [← hL]
      simp only at e
      rw [e]; rfl
    · exact HT1.out.rok.set i _ HFd.out.1 ⟨⟨x, rfl⟩, (HT1.out.rok i HFd.out.1).2⟩
  · rw [hp] at HFn HPd
    simp only [if_true] at HFn HPd
    have hi := hf.1
    have hene : U.elder ≠ [] := by intro e; rw [e] at hi; simp at hi
    cases ge1 with
    | none => exact absurd he.1 hene
    | some g =>
      obtain ⟨cape, reste, rfl, hRe, _⟩ := he
      obtain ⟨b1, b2, b3, b4, b5, b6⟩ := hRe.cells i hf.1
      have f2 := hRe.free (i * 6 + 2)
      have f3 := hRe.free (i * 6 + 3)
      have f4 := hRe.free (i * 6 + 4)
      have f5 := hRe.free (i * 6 + 5)
      have hgl := hRe.lt
      have HFd := hid hf
      have HRe := hid hRe
      simp only [Option.getD_some] at HFn
      clear hc hRr hRe hT1 hf hp b1 b2 hfB hmI hmH hI hi
      go_wp2_with fail
      refine HFn.out.mono ?_
      rintro e w2 ⟨rfl, hw2⟩
      have hw2 := hw2.symm
      subst hw2
      go_wp2_with fail
      refine bodyPost_ret (results_none Tryd.results39 _ _ _) rfl ?_
      rw [HPd.out] at HIP ⊢
      have hS := set4_fr w1 g (i * 6) x (Fr.refl w1 (fun b => b = g)) (fun _ => rfl)
      have hL : (putIn U.elder i (.agg #[.int .i64 x.v, .string x.k, .int .i64 x.s, .pointer x.p])).length = U.elder.length := by simp [putIn]
      refine ⟨rfl, ⟨gr, some g, ⟨⟨_, _, (hS.block B hlt1 (fun e => HneB.out.2 (by rw [e]))).trans HC.out, ⟨capr, restr, rfl, HR.out.fr hS (fun e => Hne.out (by rw [e])), hrne⟩, ⟨cape, reste, by rw [hL], HRe.out.setv i HFd.out.1 x, ?_⟩⟩, Hne.out, HIP.out.1.i0, HT1.out.rok, ?_, HIP.out.2⟩, HNb0.out⟩, HFm.out _ (hS.mono (fun b _ e => Or.inr (Or.inr (by rw [e]))))⟩
      · intro e
        apply hene
        apply List.eq_nil_of_length_eq_zero
        rw [← hL]
        simp only at e
        rw [e]; rfl
      · exact HT1.out.eok.set i _ HFd.out.1 ⟨⟨x, rfl⟩, (HT1.out.eok i HFd.out.1).2⟩
  · rw [hp] at HFn HPd
    simp only [Bool.false_eq_true, if_false] at HFn HPd
    obtain ⟨c0, c1, c2, c3⟩ := cells4 hc
    have hnT : ∀ v, ¬ Has U k v := hn
    have hkl : U.keys ≤ 1099511627776 := by have := hT1.inv.room; have := hT1.len; omega
    have hrl := hT1.len
    by_cases hg : 3 * U.row.length < 4 * (U.keys + 1)
    · rw [if_pos hg] at HPd
      have t1 : 3 * (U.row.length : Int) < 4 * ((U.keys : Int) + 1) := by omega
      have HGi := hid (grow_inv (.agg #[.int .i64 0, .string ⟨#[]⟩, .int .i64 0, .pointer none]) hmI)
      have HGr := hid (fun (W : World) (hW : Fr w1 W (fun _ => False)) => grow_any W (hT1.step hW) hmI (by omega))
      have HnG := hid (fun v h => hn v ((HGi.out.2.1 k v).1 h))
      clear hc he hRr hT1 hp hfB hmI hmH hI hg c1 c2 hn hnT
      go_wp2_with fail
      refine HFn.out.mono ?_
      rintro e w2 ⟨rfl, hw2⟩
      have hw2 := hw2.symm
      subst hw2
      go_wp2_with fail
      go_quiet (fail)
      go_wp2_with fail
      refine (HGr.out _ ((Fr.refl _ _).drewN _)).mono ?_
      rintro e w3 ⟨rfl, ⟨gn, hT3, hgn⟩, hf3⟩
      have HF3 := hid (HF1.out.trans2 ((Fr.refl w1 (fun _ => False)).drewN nq) (fun _ _ h => h.elim))
      have HF3b := hid (show Fr w1 w3 (bl B gr ge1) from hf3.ofDrewN)
      have hgn1 : w.heap.size ≤ gn := Nat.le_trans hs1 hgn
      have HVX3 := hid ((HF3b.out.block w.heap.size (lt_of_block HVX.out) HNB1.out).trans HVX.out)
      obtain ⟨y0, y1, y2, y3⟩ := cells4 HVX3.out
      have hvl3 := lt_of_block HVX3.out
      clear hf3 c0 c3 v0 v1 v2 v3
      have hlt3 := hT3.lt
      have HT3 := hid hT3
      obtain ⟨rv3, ev3, hc3, hr3, he3⟩ := hT3.ex
      obtain ⟨cap3, rest3, rfl, hR3, hrne3⟩ := hr3
      obtain ⟨d0, d1, d2, d3⟩ := cells4 hc3
      have e3 := free4 hc3 3
      have HLy := hid (fun (W : World) (hW : RowG 113 W gn (growT (.agg #[.int .i64 0, .string ⟨#[]⟩, .int .i64 0, .pointer none]) U).row rest3) => lay_any (cap := cap3) k x W hW hT3.inv.row_emp hk hT3.len)
      have HR3 := hid hR3
      have HC3 := hid hc3
      have HE3 := hid he3
      have HkG : Hid ((growT (.agg #[.int .i64 0, .string ⟨#[]⟩, .int .i64 0, .pointer none]) U).keys ≤ 1099511627776) := by have := hT3.inv.room; have := hT3.len; show (growT (.agg #[.int .i64 0, .string ⟨#[]⟩, .int .i64 0, .pointer none]) U).keys ≤ _; omega
      have hkG := HkG.out
      clear hc3 hR3 he3 hT3 d1 d2
      generalize hGG : (growT (.agg #[.int .i64 0, .string ⟨#[]⟩, .int .i64 0, .pointer none]) U) = G at *
      have HGG := hid hGG
      clear hGG
      have HNeB := hid (show B ≠ gn from fun e => HT3.out.neB.1 e.symm)
      have HNeV := hid (show w.heap.size ≠ gn from fun e => by have h5 := hgn; simp at h5; omega)
      have HK := hid (fun (W' : World) (hf : Fr w3 W' (fun b => b = gn)) => (show W'.cell? ⟨B, 0, none⟩ = some (.slice (some ⟨gn, 0, none⟩) G.row.length cap3) ∧ W'.cell? ⟨w.heap.size, 0, none⟩ = some (.int .i64 x.v) ∧ W'.cell? ⟨w.heap.size, 1, none⟩ = some (.string x.k) ∧ W'.cell? ⟨w.heap.size, 2, none⟩ = some (.int .i64 x.s) ∧ W'.cell? ⟨w.heap.size, 3, none⟩ = some (.pointer x.p) from by
        obtain ⟨q0, _⟩ := cells4 ((hf.block B hlt3 HNeB.out).trans HC3.out)
        exact ⟨q0, cells4 ((hf.block w.heap.size hvl3 HNeV.out).trans HVX3.out)⟩))
      have HF := hid (Fr.refl w3 (fun b => b = gn))
      go_wp2_with fail
      first
        | go_region_held3 (fun W' => Hid (Fr w3 W' (fun b => b = gn)) ∧ W'.cell? ⟨B, 0, none⟩ = some (.slice (some ⟨gn, 0, none⟩) G.row.length cap3) ∧ W'.cell? ⟨w.heap.size, 0, none⟩ = some (.int .i64 x.v) ∧ W'.cell? ⟨w.heap.size, 1, none⟩ = some (.string x.k) ∧ W'.cell? ⟨w.heap.size, 2, none⟩ = some (.int .i64 x.s) ∧ W'.cell? ⟨w.heap.size, 3, none⟩ = some (.pointer x.p))
            ((refine (fun h => ⟨h, HK.out _ h⟩ : Fr w3 _ (fun b => b = gn) → _) ?_; repeat (first | exact HF.out | apply Fr.drewN | apply Fr.drew)))
            ((go_at_call 50; refine (HLy.out _ (by exact HR3.out)).mono ?_; rintro e w4 ⟨rfl, hR4, hf4⟩; have HF := hid (Fr.trans (a := w3) (by repeat (first | exact HF.out | apply Fr.drewN | apply Fr.drew)) hf4); have HR4 := hid hR4; clear hR4 hf4))
        | fail
      have HF4 := HF
      have hf4 := HF.out
      have hB4 : w4.heap[B]? = _ := (hf4.block B hlt3 (fun e => HT3.out.neB.1 e.symm)).trans HC3.out
      obtain ⟨d0', d1', d2', d3'⟩ := cells4 hB4
      have e3' := free4 hB4 3
      have hlt4 := lt_of_block hB4
      have HB4 := hid hB4
      clear hf4 hB4 d0' d1' d2' d0 d3 y0 y1 y2 y3
      go_wp2_with fail
      go_end0
      rw [HPd.out] at HIP ⊢
      have hS := set_fr w4 ⟨B, 3, none⟩ (.int .i64 ((G.keys : Int) + 1))
      have hL : (layP G.row k (.agg #[.int .i64 x.v, .string x.k, .int .i64 x.s, .pointer x.p])).length = G.row.length := layP_len _ _ _
      refine ⟨rfl, ⟨gn, some gr, ⟨⟨_, _, set43 HB4.out, ⟨cap3, rest3, by rw [hL], HR4.out.fr hS HT3.out.neB.1, ?_⟩, (HE3.out.fr HF4.out (fun g e e2 => HT3.out.ne (by rw [e, e2]))).fr hS (fun g e e2 => HT3.out.neB.2 (by rw [e, e2]))⟩, HT3.out.ne, HIP.out.1.i0, layP_vok HT3.out.rok HT3.out.inv.row_emp HOkx.out, HT3.out.eok, HIP.out.2⟩, (fun b hb => by
        rcases hb with hb | hb | hb
        · exact Or.inl (Or.inl hb)
        · exact Or.inr (by omega)
        · exact Or.inl (Or.inr (Or.inl (by cases hb; rfl))))⟩, HFm.out _ ((HF3b.out.trans2 HF4.out (fun b hb e => by have := HF3b.out.size; have h5 := hgn; simp at h5; omega)).trans2 hS (fun b _ e => Or.inl e))⟩
      · intro e
        apply hrne3
        apply List.eq_nil_of_length_eq_zero
        rw [← hL]
        simp only at e
        rw [e]; rfl
    · rw [if_neg hg] at HPd
      have t1 : ¬ 3 * (U.row.length : Int) < 4 * ((U.keys : Int) + 1) := by omega
      clear hc he hRr hT1 hp hfB hmI hmH hI hg c1 c2 hn hnT
      go_wp2_with fail
      refine HFn.out.mono ?_
      rintro e w2 ⟨rfl, hw2⟩
      have hw2 := hw2.symm
      subst hw2
      go_wp2_with fail
      go_quiet (fail)
      have e3 := free4 HC.out 3
      have HLy := hid (fun (W : World) (hW : RowG 113 W gr U.row restr) => lay_any (cap := capr) k x W hW HT1.out.inv.row_emp hk hrl)
      have HNeV := hid (show w.heap.size ≠ gr from fun e => HNB.out (Or.inr (Or.inl e)))
      have HK := hid (fun (W' : World) (hf : Fr w1 W' (fun b => b = gr)) => (show W'.cell? ⟨B, 0, none⟩ = some (.slice (some ⟨gr, 0, none⟩) U.row.length capr) ∧ W'.cell? ⟨w.heap.size, 0, none⟩ = some (.int .i64 x.v) ∧ W'.cell? ⟨w.heap.size, 1, none⟩ = some (.string x.k) ∧ W'.cell? ⟨w.heap.size, 2, none⟩ = some (.int .i64 x.s) ∧ W'.cell? ⟨w.heap.size, 3, none⟩ = some (.pointer x.p) from by
        obtain ⟨q0, _⟩ := cells4 ((hf.block B hlt1 (fun e => HneB.out.1 e.symm)).trans HC.out)
        exact ⟨q0, cells4 ((hf.block w.heap.size hvl HNeV.out).trans HVX.out)⟩))
      have HF := hid (Fr.refl w1 (fun b => b = gr))
      go_wp2_with fail
      first
        | go_region_held3 (fun W' => Hid (Fr w1 W' (fun b => b = gr)) ∧ W'.cell? ⟨B, 0, none⟩ = some (.slice (some ⟨gr, 0, none⟩) U.row.length capr) ∧ W'.cell? ⟨w.heap.size, 0, none⟩ = some (.int .i64 x.v) ∧ W'.cell? ⟨w.heap.size, 1, none⟩ = some (.string x.k) ∧ W'.cell? ⟨w.heap.size, 2, none⟩ = some (.int .i64 x.s) ∧ W'.cell? ⟨w.heap.size, 3, none⟩ = some (.pointer x.p))
            ((refine (fun h => ⟨h, HK.out _ h⟩ : Fr w1 _ (fun b => b = gr) → _) ?_; repeat (first | exact HF.out | apply Fr.drewN | apply Fr.drew)))
            ((go_at_call 50; refine (HLy.out _ (by exact HR.out)).mono ?_; rintro e w4 ⟨rfl, hR4, hf4⟩; have HF := hid (Fr.trans (a := w1) (by repeat (first | exact HF.out | apply Fr.drewN | apply Fr.drew)) hf4); have HR4 := hid hR4; clear hR4 hf4))
        | fail
      have HF4 := HF
      clear c0 c3 e3
      have hB4 : w4.heap[B]? = _ := (HF4.out.block B hlt1 (fun e => HneB.out.1 e.symm)).trans HC.out
      obtain ⟨d0', d1', d2', d3'⟩ := cells4 hB4
      have e3' := free4 hB4 3
      have hlt4 := lt_of_block hB4
      have HB4 := hid hB4
      clear hB4 d0' d1' d2'
      go_wp2_with fail
      go_end0
      rw [HPd.out] at HIP ⊢
      have hS := set_fr w4 ⟨B, 3, none⟩ (.int .i64 ((U.keys : Int) + 1))
      have hL : (layP U.row k (.agg #[.int .i64 x.v, .string x.k, .int .i64 x.s, .pointer x.p])).length = U.row.length := layP_len _ _ _
      refine ⟨rfl, ⟨gr, ge1, ⟨⟨_, _, set43 HB4.out, ⟨capr, restr, by rw [hL], HR4.out.fr hS HneB.out.1, ?_⟩, (HE.out.fr HF4.out (fun g e e2 => Hne.out (by rw [e, e2]))).fr hS (fun g e e2 => HneB.out.2 (by rw [e, e2]))⟩, Hne.out, HIP.out.1.i0, layP_vok HT1.out.rok HT1.out.inv.row_emp HOkx.out, HT1.out.eok, HIP.out.2⟩, HNb0.out⟩, HFm.out _ ((HF4.out.mono (fun b _ e => Or.inr (Or.inl e))).trans2 hS (fun b _ e => Or.inl e))⟩
      · intro e
        apply hrne
        apply List.eq_nil_of_length_eq_zero
        rw [← hL]
        simp only at e
        rw [e]; rfl
end Go.Proofs.YtcjadgnefojjgabDoor.R
