/- table: New, Get, moveOne, Move: walks. -/
import Derived.Test.YtcjadgnefojjgabDoorTTabR
namespace Go.Proofs.YtcjadgnefojjgabDoor.R
open Go.RowKit

set_option maxHeartbeats 1000000 in
theorem get_any {B gr : Nat} {ge : Option Nat} {T : Tb} (k : ByteArray) (w : World) (h : TbAt w B gr ge T) (hk : k.size ≤ 9223372036854775807) :
    Calls Tryd.prog 32 #[.pointer (some ⟨B, 0, none⟩), .string k] w fun e w' => e = .returned (.tuple #[(getT (.agg #[.int .i64 0, .string ⟨#[]⟩, .int .i64 0, .pointer none]) T k).1, .bool (getT (.agg #[.int .i64 0, .string ⟨#[]⟩, .int .i64 0, .pointer none]) T k).2]) ∧ Fr w w' (fun _ => False) := by
  have hlt := h.lt
  have HFn := hid (fun (W : World) (hf : Fr w W (fun _ => False)) => find_any k W (h.step hf) hk)
  obtain ⟨rv, ev, hc, hr, he⟩ := h.ex
  obtain ⟨capr, restr, rfl, hRr, _⟩ := hr
  unfold spot at HFn
  unfold getT
  rcases place_cases h.inv k with ⟨i, hf, hp⟩ | ⟨i, hf, hp⟩ | ⟨hn, hp⟩
  · rw [hp] at HFn ⊢
    simp only [if_true] at HFn ⊢
    obtain ⟨⟨x, hx⟩, _⟩ := h.rok i hf.1
    obtain ⟨c0, c1, c2, c3, c4, c5⟩ := hRr.cellx i hf.1 hx
    simp only [hx]
    have hgl := hRr.lt
    clear h hc he hRr hf hp c0 c1 hx
    go_enter Tryd.func32, Tryd.ntmps32
    go_wp2_with fail
    refine (HFn.out _ (alloc_fr _ _ _)).mono ?_
    rintro e w1 ⟨rfl, hw1⟩
    subst hw1
    go_wp2_with fail
    refine bodyPost_ret (v := (.tuple #[.agg #[.int .i64 x.v, .string x.k, .int .i64 x.s, .pointer x.p], .bool true])) (by simp [results, Tryd.results32, go_sem]) rfl ⟨rfl, by repeat (first | exact Fr.refl _ _ | apply Fr.alloc | (refine Fr.setCell ?_ (p := ⟨w.heap.size, _, none⟩) (fun h => absurd h (Nat.lt_irrefl _)) _))⟩
  · rw [hp] at HFn ⊢
    simp only [if_true] at HFn ⊢
    have hi := hf.1
    have hne : T.elder ≠ [] := by intro e; rw [e] at hi; simp at hi
    cases ge with
    | none => exact absurd he.1 hne
    | some g =>
      obtain ⟨cape, reste, rfl, hRe, _⟩ := he
      obtain ⟨⟨x, hx⟩, _⟩ := h.eok i hf.1
      obtain ⟨c0, c1, c2, c3, c4, c5⟩ := hRe.cellx i hf.1 hx
      simp only [hx]
      have hgl := hRe.lt
      simp only [Option.getD_some] at HFn
      clear h hc hRr hRe hf hp c0 c1 hx hi hne
      go_enter Tryd.func32, Tryd.ntmps32
      go_wp2_with fail
      refine (HFn.out _ (alloc_fr _ _ _)).mono ?_
      rintro e w1 ⟨rfl, hw1⟩
      subst hw1
      go_wp2_with fail
      refine bodyPost_ret (v := (.tuple #[.agg #[.int .i64 x.v, .string x.k, .int .i64 x.s, .pointer x.p], .bool true])) (by simp [results, Tryd.results32, go_sem]) rfl ⟨rfl, by repeat (first | exact Fr.refl _ _ | apply Fr.alloc | (refine Fr.setCell ?_ (p := ⟨w.heap.size, _, none⟩) (fun h => absurd h (Nat.lt_irrefl _)) _))⟩
  · rw [hp] at HFn ⊢
    simp only [Bool.false_eq_true, if_false] at HFn ⊢
    clear h hc he hRr hn hp
    go_enter Tryd.func32, Tryd.ntmps32
    go_wp2_with fail
    refine (HFn.out _ (alloc_fr _ _ _)).mono ?_
    rintro e w1 ⟨rfl, hw1⟩
    subst hw1
    go_wp2_with fail
    refine bodyPost_ret (v := (.tuple #[.agg #[.int .i64 0, .string ⟨#[]⟩, .int .i64 0, .pointer none], .bool false])) (by simp [results, Tryd.results32, go_sem]) rfl ⟨rfl, by repeat (first | exact Fr.refl _ _ | apply Fr.alloc | (refine Fr.setCell ?_ (p := ⟨w.heap.size, _, none⟩) (fun h => absurd h (Nat.lt_irrefl _)) _))⟩

/-- Amid moving a place: the elder row at g, the row at gr. -/
structure Mv (w W : World) (g gr : Nat) (E R : List Pl) (re rr : List Value) : Prop where
  fr : Fr w W (fun b => b = g ∨ b = gr)
  e : RowG 113 W g E re
  r : RowG 113 W gr R rr
theorem Mv.drew {w W : World} {g gr : Nat} {E R : List Pl} {re rr : List Value} (h : Mv w W g gr E R re rr) : Mv w W.drew g gr E R re rr := ⟨h.fr.drew, h.e, h.r⟩

theorem Mv.drewN {w W : World} {g gr : Nat} {E R : List Pl} {re rr : List Value} (h : Mv w W g gr E R re rr) (n : Nat) : Mv w (W.drewN n) g gr E R re rr := ⟨h.fr.drewN n, h.e, h.r⟩

theorem Mv.give {w W W' : World} {g gr : Nat} {E E' R : List Pl} {re rr : List Value} (hne : g ≠ gr) (h : Mv w W g gr E R re rr) (h1 : RowG 113 W' g E' re) (hf : Fr W W' (fun b => b = g)) : Mv w W' g gr E' R re rr :=
  ⟨h.fr.trans2 hf (fun _ _ h => Or.inl h), h1, h.r.fr hf (fun e => hne e.symm)⟩
theorem Mv.lay {w W W' : World} {g gr : Nat} {E R R' : List Pl} {re rr : List Value} (hne : g ≠ gr) (h : Mv w W g gr E R re rr) (h1 : RowG 113 W' gr R' rr) (hf : Fr W W' (fun b => b = gr)) : Mv w W' g gr E R' re rr :=
  ⟨h.fr.trans2 hf (fun _ _ h => Or.inr h), h.e.fr hf hne, h1⟩
theorem layP_vok {r : List Pl} {k : ByteArray} {v : Value} (h : Vok r) (he : Emp r) (hp : okP ⟨1, k, v⟩) : Vok (layP r k v) := h.set _ _ (lookL_spec k he).1 hp

set_option maxHeartbeats 2000000 in
set_option maxRecDepth 100000 in
theorem one_any {B gr g : Nat} {T : Tb} (w : World) (h : TbAt w B gr (some g) T) (hm : T.moved < T.elder.length) :
    Calls Tryd.prog 58 #[.pointer (some ⟨B, 0, none⟩)] w fun e w' => e = .returned (.tuple #[]) ∧ TbAt w' B gr (some g) (one (.agg #[.int .i64 0, .string ⟨#[]⟩, .int .i64 0, .pointer none]) T) ∧ Fr w w' (bl B gr (some g)) := by
  have HOI := hid (one_inv (.agg #[.int .i64 0, .string ⟨#[]⟩, .int .i64 0, .pointer none]) h.inv hm)
  have hlt := h.lt
  have hnb := h.neB
  have HT := hid h
  have hlen := h.len
  have hel := h.elen
  have hne : g ≠ gr := fun e => h.ne (by rw [e])
  obtain ⟨rv, ev, hc, hr, he⟩ := h.ex
  obtain ⟨c0, c1, c2, c3⟩ := cells4 hc
  have hz := free4 hc 2
  obtain ⟨capr, restr, rfl, hRr, hrne⟩ := hr
  obtain ⟨cape, reste, rfl, hRe, hene⟩ := he
  obtain ⟨d0, _⟩ := hRe.cells T.moved hm
  have hgl := hRe.lt
  have hgrl := hRr.lt
  have t0 : (0 : Int) ≤ (T.moved : Int) := by omega
  have t1 : (T.moved : Int) < (T.elder.length : Int) := by omega
  have HNe := hid hne
  have HgB := hid (show g ≠ B from fun e => hnb.2 (by rw [e]))
  have HgrB := hid hnb.1
  have HCell := hid hc
  have HCm := hid (show w.cell? ⟨g, T.moved * 6, none⟩ = some (.int .u8 ((at' T.elder T.moved).st : Int)) from d0)
  by_cases h1 : (at' T.elder T.moved).st = 1
  · obtain ⟨⟨x, hx⟩, hks⟩ := h.eok T.moved hm
    have HGv := hid (fun (W : World) (hM : Mv w W g gr T.elder T.row reste restr) => give_any (cap := cape) T.moved W hM.e hm h.eok hel)
    have HLy := hid (fun (W : World) (hM : Mv w W g gr (T.elder.set T.moved (pg (.agg #[.int .i64 0, .string ⟨#[]⟩, .int .i64 0, .pointer none]))) T.row reste restr) => lay_any (cap := capr) (at' T.elder T.moved).key x W hM.r h.inv.row_emp hks hlen)
    have HF := hid (Mv.mk (Fr.refl w _) hRe hRr)
    have HK := hid (fun (W' : World) (hf : Fr w W' (fun b => b = g ∨ b = gr)) => (show W'.cell? ⟨B, 0, none⟩ = some (.slice (some ⟨gr, 0, none⟩) T.row.length capr) ∧ W'.cell? ⟨B, 1, none⟩ = some (.slice (some ⟨g, 0, none⟩) T.elder.length cape) ∧ W'.cell? ⟨B, 2, none⟩ = some (.int .i64 (T.moved : Int)) from by
      have hb := hf.block B hlt (fun e => by rcases e with e | e; exact HgB.out e.symm; exact HgrB.out e.symm)
      have := cells4 (hb.trans hc)
      exact ⟨this.1, this.2.1, this.2.2.1⟩))
    have HO : Hid (one (.agg #[.int .i64 0, .string ⟨#[]⟩, .int .i64 0, .pointer none]) T = ⟨layP T.row (at' T.elder T.moved).key (.agg #[.int .i64 x.v, .string x.k, .int .i64 x.s, .pointer x.p]), T.elder.set T.moved (pg (.agg #[.int .i64 0, .string ⟨#[]⟩, .int .i64 0, .pointer none])), T.moved + 1, T.keys⟩) := by
      unfold Hid one
      rw [if_pos h1, hx]
    have HV1 := hid (layP_vok h.rok h.inv.row_emp (k := (at' T.elder T.moved).key) (v := .agg #[.int .i64 x.v, .string x.k, .int .i64 x.s, .pointer x.p]) ⟨⟨x, rfl⟩, hks⟩)
    have HV2 := hid (h.eok.set T.moved (pg (.agg #[.int .i64 0, .string ⟨#[]⟩, .int .i64 0, .pointer none])) hm okP_g)
    rw [h1] at d0
    rw [hx, vl_x] at HGv
    generalize hkk : (at' T.elder T.moved).key = key at *
    clear h hc hRr hRe hx h1 hks hkk c3
    go_enter Tryd.func58, Tryd.ntmps58
    go_wp2_with fail
    go_quiet (fail)
    go_wp2_with fail
    first
      | go_region_held3 (fun W' => Hid (Fr w W' (fun b => b = g ∨ b = gr)) ∧ W'.cell? ⟨B, 0, none⟩ = some (.slice (some ⟨gr, 0, none⟩) T.row.length capr) ∧ W'.cell? ⟨B, 1, none⟩ = some (.slice (some ⟨g, 0, none⟩) T.elder.length cape) ∧ W'.cell? ⟨B, 2, none⟩ = some (.int .i64 (T.moved : Int)))
          ((refine (fun h => ⟨h, (HK.out _ h).1, (HK.out _ h).2.1, (HK.out _ h).2.2⟩ : Fr w _ (fun b => b = g ∨ b = gr) → _) ?_; repeat (first | exact HF.out.fr | apply Fr.drewN | apply Fr.drew)))
          (first
            | (go_at_call 68; refine (HGv.out _ (by repeat (first | exact HF.out | apply Mv.drewN | apply Mv.drew))).mono ?_; rintro e w1 ⟨rfl, hR1, hf1⟩; have HF := hid (Mv.give HNe.out (by repeat (first | exact HF.out | apply Mv.drewN | apply Mv.drew)) hR1 hf1); clear hR1 hf1)
            | (go_at_call 50; refine (HLy.out _ (by repeat (first | exact HF.out | apply Mv.drewN | apply Mv.drew))).mono ?_; rintro e w2 ⟨rfl, hR2, hf2⟩; have HF := hid (Mv.lay HNe.out (by repeat (first | exact HF.out | apply Mv.drewN | apply Mv.drew)) hR2 hf2); clear hR2 hf2))
      | fail
    have HB2 := hid ((HF.out.fr.block B hlt (fun e => by rcases e with e | e; exact HgB.out e.symm; exact HgrB.out e.symm)).trans HCell.out)
    obtain ⟨c0, c1, c2, c3⟩ := cells4 HB2.out
    have hz2 := free4 HB2.out 2
    have hlt2 := lt_of_block HB2.out
    clear c0 c1 c3
    go_wp2_with fail
    go_end0
    rw [HO.out] at HOI ⊢
    have hS := set_fr w2 ⟨B, 2, none⟩ (.int .i64 ((T.moved : Int) + 1))
    refine ⟨rfl, ⟨⟨_, _, set42 HB2.out, ⟨capr, restr, by rw [layP_len], HF.out.r.fr hS HgrB.out, ?_⟩, ⟨cape, reste, by rw [List.length_set], HF.out.e.fr hS HgB.out, ?_⟩⟩, fun e => HNe.out (by cases e; rfl), HOI.out.1, HV1.out, HV2.out, by rw [layP_len]; exact hlen⟩, ?_⟩
    · intro e
      apply hrne
      apply List.eq_nil_of_length_eq_zero
      rw [← layP_len T.row key (.agg #[.int .i64 x.v, .string x.k, .int .i64 x.s, .pointer x.p])]
      simp only at e
      rw [e]; rfl
    · intro e
      apply hene
      apply List.eq_nil_of_length_eq_zero
      simp only at e
      have h3 : (T.elder.set T.moved (pg (.agg #[.int .i64 0, .string ⟨#[]⟩, .int .i64 0, .pointer none]))).length = T.elder.length := by simp
      rw [← h3, e]
      rfl
    · exact (HF.out.fr.mono (fun b _ e => by rcases e with e | e; exact Or.inr (Or.inr (by rw [e])); exact Or.inr (Or.inl e))).trans2 hS (fun b _ e => Or.inl e)
  · have HO : Hid (one (.agg #[.int .i64 0, .string ⟨#[]⟩, .int .i64 0, .pointer none]) T = ⟨T.row, T.elder, T.moved + 1, T.keys⟩) := by
      unfold Hid one
      rw [if_neg h1]
    have t2 : (((at' T.elder T.moved).st : Int) == 1) = false := by simp; omega
    have HRr := hid hRr
    have HRe := hid hRe
    have HVr := hid h.rok
    have HVe := hid h.eok
    clear h hc hRr hRe h1 c3
    generalize (at' T.elder T.moved).st = st at *
    go_enter Tryd.func58, Tryd.ntmps58
    go_wp2_with fail
    go_quiet (fail)
    go_wp2_with fail
    go_end0
    rw [HO.out] at HOI ⊢
    have hS := ((Fr.refl w (fun b => b = B)).drewN nq).setCell (p := ⟨B, 2, none⟩) (fun _ => rfl) (.int .i64 ((T.moved : Int) + 1))
    refine ⟨rfl, ⟨⟨_, _, set42 HCell.out, ⟨capr, restr, rfl, HRr.out.fr hS HgrB.out, hrne⟩, ⟨cape, reste, rfl, HRe.out.fr hS HgB.out, hene⟩⟩, fun e => HNe.out (by cases e; rfl), HOI.out.1, HVr.out, HVe.out, hlen⟩, ?_⟩
    exact hS.mono (fun b _ e => Or.inl e)
end Go.Proofs.YtcjadgnefojjgabDoor.R
