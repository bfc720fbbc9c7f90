import Derived.Test.YtilgkfpicdmkkaaMTakeI
/- merge: newRests: a walk (lists of int). -/
namespace Go.Proofs.Ytilgkfpicdmkkaa.M.I
open Go.RowKit

/-- Where a list lies: its block, its offset, its capacity. -/
structure Sv where
  b : Nat
  o : Nat
  c : Nat
/-- The list at a place. -/
def gl (ls : List (List Int)) (p : Nat) : List Int := ls[p]?.getD []
/-- The slice of what is left of a list. -/
def slv (sv : Nat → Sv) (ls : List (List Int)) (r : Rt) : Value := .slice (some ⟨(sv r.p).b, (sv r.p).o + 1 * min ((gl ls r.p).length - r.l.length) ((sv r.p).c - 1), none⟩) r.l.length ((sv r.p).c - ((gl ls r.p).length - r.l.length))
/-- Lists that can be read. -/
def Ls (w : World) (sv : Nat → Sv) (ls : List (List Int)) : Prop := ∀ p, (gl ls p).length ≤ (sv p).c ∧ (sv p).c ≤ 9223372036854775807 ∧ ∀ j, j < (gl ls p).length → ElAt w (sv p).b ((sv p).o + 1 * j) ((gl ls p)[j]?.getD default)
theorem Ls.fr {w w' : World} {sv : Nat → Sv} {ls : List (List Int)} (h : Ls w sv ls) (hf : Fr w w' (fun _ => False)) : Ls w' sv ls := fun p => ⟨(h p).1, (h p).2.1, fun j hj => ((h p).2.2 j hj).fr hf⟩
/-- What is left is an end of a list. -/
def Sf (ls : List (List Int)) (r : Rt) : Prop := r.l ≠ [] ∧ ∃ d, r.l = (gl ls r.p).drop d
theorem slv_slice (sv : Nat → Sv) (ls : List (List Int)) (r : Rt) : ∃ a n c, slv sv ls r = .slice a n c := ⟨_, _, _, rfl⟩
theorem Sf.len {ls : List (List Int)} {r : Rt} (h : Sf ls r) : r.l = (gl ls r.p).drop ((gl ls r.p).length - r.l.length) ∧ r.l.length ≤ (gl ls r.p).length ∧ 0 < r.l.length := by
  obtain ⟨h1, d, h2⟩ := h
  have h3 : 0 < r.l.length := List.length_pos_iff.2 h1
  have h4 : r.l.length = (gl ls r.p).length - d := by rw [h2]; simp
  refine ⟨?_, by omega, h3⟩
  rw [h4, show (gl ls r.p).length - ((gl ls r.p).length - d) = d by omega]
  exact h2
theorem Sf.hd {w : World} {sv : Nat → Sv} {ls : List (List Int)} (hL : Ls w sv ls) {r : Rt} (h : Sf ls r) : Hd (slv sv ls) w r := by
  obtain ⟨h1, h2, h3⟩ := h.len
  obtain ⟨l1, l2, l3⟩ := hL r.p
  have hm : min ((gl ls r.p).length - r.l.length) ((sv r.p).c - 1) = (gl ls r.p).length - r.l.length := by omega
  refine ⟨(sv r.p).b, (sv r.p).o + 1 * ((gl ls r.p).length - r.l.length), (sv r.p).c - ((gl ls r.p).length - r.l.length), ?_, h3, by omega, ?_⟩
  · unfold slv
    rw [hm]
  · have := l3 ((gl ls r.p).length - r.l.length) (by omega)
    have e : r.hd = (gl ls r.p)[(gl ls r.p).length - r.l.length]?.getD default := by
      unfold R.hd
      conv => lhs; rw [h1]
      rw [List.headD_eq_head?_getD, List.head?_drop]
    rw [e]
    exact this
theorem Sf.tail {ls : List (List Int)} {r : Rt} (h : Sf ls r) (ht : r.l.tail ≠ []) : Sf ls ⟨r.p, r.l.tail⟩ := by
  obtain ⟨_, d, h2⟩ := h
  refine ⟨ht, d + 1, ?_⟩
  show r.l.tail = _
  rw [h2, List.tail_drop]
theorem slv_tail {w : World} {sv : Nat → Sv} {ls : List (List Int)} (hL : Ls w sv ls) {x : Rt} (h : Sf ls x) : ∀ b o c, slv sv ls x = .slice (some ⟨b, o, none⟩) x.l.length c → x.l.length ≤ c ∧ slv sv ls ⟨x.p, x.l.tail⟩ = .slice (some ⟨b, if c = 1 then o else o + 1, none⟩) (x.l.length - 1) (c - 1) := by
  intro b o c e
  obtain ⟨h1, h2, h3⟩ := h.len
  obtain ⟨l1, l2, l3⟩ := hL x.p
  unfold slv at e
  simp only [Value.slice.injEq, Option.some.injEq, Addr.mk.injEq, and_true, true_and] at e
  obtain ⟨⟨e1, e2⟩, e3⟩ := e
  refine ⟨by omega, ?_⟩
  unfold slv
  simp only [List.length_tail, Value.slice.injEq, Option.some.injEq, Addr.mk.injEq, and_true, true_and]
  refine ⟨⟨e1, ?_⟩, by omega⟩
  by_cases hc : c = 1
  · rw [if_pos hc]
    omega
  · rw [if_neg hc]
    omega

/-- Lists as an argument. -/
def LsAt (w : World) (sv : Nat → Sv) (ls : List (List Int)) (lv : Value) : Prop :=
  ∃ ao cap, lv = .slice ao ls.length cap ∧ ls.length ≤ 900000 ∧ Ls w sv ls ∧ (0 < ls.length → ∃ G off, ao = some ⟨G, off, none⟩ ∧ ∀ p, p < ls.length → ∃ a c, w.cell? ⟨G, off + p, none⟩ = some (.slice a (gl ls p).length c) ∧ (gl ls p ≠ [] → .slice a (gl ls p).length c = slv sv ls ⟨p, gl ls p⟩))

theorem take_snoc {ls : List (List Int)} {i : Nat} (h : i < ls.length) : ls.take (i + 1) = ls.take i ++ [gl ls i] := by
  rw [List.take_succ_eq_append_getElem h]
  simp [gl, h]
theorem mem_sf {ls : List (List Int)} {hs : List Rt} {F : List (List Int)} (h : HR cmE hs F) (hF : ∀ p, p < F.length → ∃ d, gl F p = (gl ls p).drop d) : ∀ r ∈ hs, Sf ls r := by
  intro r hr
  obtain ⟨_, h1, h2⟩ := rs_mem (h.perm.mem_iff.1 hr)
  rw [Nat.sub_zero] at h1
  have hlt : r.p < F.length := (List.getElem?_eq_some_iff.1 h1).1
  obtain ⟨d, hd⟩ := hF r.p hlt
  refine ⟨h2, d, ?_⟩
  rw [← hd]
  unfold gl
  rw [h1]
  rfl

set_option maxHeartbeats 1000000 in
set_option maxRecDepth 100000 in
theorem new_any {sv : Nat → Sv} {ls : List (List Int)} {lv : Value} (w : World) (h : LsAt w sv ls lv) :
    Calls Try.prog 30 #[fv, lv] w fun e w' => ∃ B, e = .returned (.pointer (some ⟨B, 0, none⟩)) ∧ ∃ v hs, Rs (slv sv ls) fv w w w' B v hs ∧ HR cmE hs ls := by
  obtain ⟨ao, cap, rfl, hlen, hL, hc⟩ := h
  have HL := hid hL
  have HC := hid hc
  have HFv : Hid (fv = fv) := rfl
  clear hL hc
  unfold fv
  go_enter Try.func30, Try.ntmps30
  go_wp2_with fail
  have HR0 : Hid (Rs (slv sv ls) fv w w (w.alloc (.cells #[fv, .slice none 0 0] 93)) w.heap.size (.slice none 0 0) []) :=
    ⟨heap_last _ _ _ rfl, ⟨rfl, Or.inl ⟨rfl, rfl⟩⟩, alloc_fr _ _ _, Nat.le_refl _, by simp, (Kps.refl w).fr (alloc_fr _ _ _)⟩
  have HFe : Hid (.func (.func 31) #[] #[] = fv) := rfl
  rw [HFe.out]
  generalize w.alloc (.cells #[fv, .slice none 0 0] 93) = wa at *
  have HN : Hid (w.heap.size = w.heap.size) := rfl
  go_loopg [13] ls.length (fun g s13 wx => ∃ (i : Nat) (v : Value) (hs : List Rt), s13 = .int .i64 (i : Int) ∧ i + g = ls.length ∧ hs.length ≤ i ∧ Hid (Rs (slv sv ls) fv w w wx w.heap.size v hs) ∧ Hid (HR cmE hs (ls.take i)))
  case atStart => exact ⟨0, _, [], rfl, by omega, by simp, HR0, HR.nil⟩
  case round =>
    obtain ⟨i, v, hs, rfl, hg, hhl, HX, HM⟩ := hrel
    clear HR0
    cases gk with
    | zero =>
      have t1 : ¬ (i : Int) < (ls.length : Int) := by omega
      have HE := hid (show i = ls.length by omega)
      clear hg
      go_wp2_with fail
      go_ret
      have hm := HM.out
      rw [HE.out, List.take_length] at hm
      exact ⟨_, rfl, _, _, HX.out, hm⟩
    | succ g =>
      have hi : i < ls.length := by omega
      have t1 : (i : Int) < (ls.length : Int) := by omega
      have HG := hid hg
      obtain ⟨G, off, rfl, hcl⟩ := HC.out (by omega)
      obtain ⟨a, c, hci, hsi⟩ := hcl i hi
      have hbl := World.block_lt_of_cell? w _ hci
      dsimp only at hbl
      have hx1 : wr.cell? ⟨G, off + i, none⟩ = some (.slice a (gl ls i).length c) := by rw [(fr_rules HX.out.fr).1 _ _ hbl]; exact hci
      have hbr : G < wr.heap.size := Nat.lt_of_lt_of_le hbl HX.out.fr.size
      have HT := hid (take_snoc hi)
      have HSi := hid hsi
      clear hci hcl hsi hg
      by_cases hl0 : gl ls i = []
      · have t2 : ¬ (0 : Int) < ((gl ls i).length : Int) := by rw [hl0]; simp
        have t3 : ¬ 0 < (gl ls i).length := by rw [hl0]; simp
        have HM2 : Hid (HR cmE hs (ls.take (i + 1))) := by
          show HR cmE hs (ls.take (i + 1))
          rw [HT.out, hl0]
          exact HM.out.skip
        clear hl0
        go_wp2_with fail
        go_roundg g
        case measure => omega
        case rel => exact ⟨i + 1, v, hs, by go_num, by have := HG.out; omega, by omega, HX, HM2⟩
      · have t2 : (0 : Int) < ((gl ls i).length : Int) := by have := List.length_pos_iff.2 hl0; omega
        have t3 : 0 < (gl ls i).length := List.length_pos_iff.2 hl0
        have hsl := HSi.out hl0
        have HM2 : Hid (HR cmE (up (ltR cmE) (hs ++ [⟨i, gl ls i⟩]) hs.length) (ls.take (i + 1))) := by
          have := HM.out.push cmE_cm hl0
          rw [← HT.out] at this
          rw [List.length_take, show min i ls.length = i by omega] at this
          exact this
        have HP := hid (hpush_any ⟨i, gl ls i⟩ wr HX.out (fun r hr => (mem_sf HM.out (ls := ls) (fun p hp => ⟨0, by
          simp at hp
          unfold gl
          rw [List.getElem?_take, if_pos (by omega)]
          simp⟩) r hr).hd HL.out) (Sf.hd HL.out ⟨hl0, 0, by simp⟩) (slv_slice sv ls) (by omega))
        rw [← hsl] at HP
        clear hl0 hsl HSi
        generalize hgl : gl ls i = l at *
        clear hgl
        go_wp2_with fail
        refine HP.out.mono ?_
        rintro e w1 ⟨rfl, v', hr⟩
        have HX2 := hid hr
        clear hr
        go_wp2_with fail
        go_roundg g
        case measure => omega
        case rel => exact ⟨i + 1, v', _, by go_num, by have := HG.out; omega, by rw [(up_perm _ _ (by simp)).length_eq]; simp; omega, HX2, HM2⟩
end Go.Proofs.Ytilgkfpicdmkkaa.M.I
