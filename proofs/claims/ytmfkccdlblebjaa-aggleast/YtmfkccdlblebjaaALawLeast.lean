/- AggLeast returns true for every row of int64, of int and of float64; no conditions. -/
import Derived.Test.YtmfkccdlblebjaaFlLaw
import Derived.Test.YtmfkccdlblebjaaAArgs
import Derived.ProofKit
import Derived.OpenShut
import Derived.Below
import Derived.Deep.Draws
namespace Go.Proofs.Ytmfkccdlblebjaa
open Go.ChangeShapes Go.WideShapes Go.ChangeAt Go.RowKit

theorem Try.cells_int : Try.prog.cellsOf 3 = 1 := by kernel_rfl
theorem Try.bytes_int : Try.prog.bytesOf 3 = 8 := by kernel_rfl
theorem Try.cells_flo : Try.prog.cellsOf 29 = 1 := by kernel_rfl
theorem Try.bytes_flo : Try.prog.bytesOf 29 = 8 := by kernel_rfl

theorem iis_of_trod {H : Type} {enc : TypeId × Value → H} {W : World} {base : Nat} {held : Bool} {fuel : Nat} {a0 : Option Addr} {len cap : Nat} {x : DataW H × List MemPlace} (h : DataW.trod enc Try.prog W base (fun _ => true) held fuel 27 [.slice a0 len cap] = some x) (hlen : len ≤ 140737488355328) :
    ∃ xs : List Int, Is W (.slice a0 len cap) xs := by
  rcases open_ints Try.underlying27 Try.underlying3 Try.cells_int h with ⟨hcs, hx⟩ | ⟨a, len', cap', zs, hcs, _, hl, hm, hz, hx, hcell, hwz⟩
  · simp at hcs
    obtain ⟨rfl, rfl, rfl⟩ := hcs
    exact ⟨[], ⟨none, 0, rfl, by simp, by simp, fun h => absurd rfl h⟩⟩
  · simp at hcs
    obtain ⟨rfl, rfl, rfl⟩ := hcs
    simp only [if_true] at hz
    have hlt : (zs.take len).length = len := by simp; omega
    refine ⟨zs.take len, ⟨some a, cap, by rw [hlt], by rw [hlt]; exact hlen, fun y hy => bounds_i64 (hwz y (List.mem_of_mem_take hy)), fun hne => ?_⟩⟩
    have hpos : 0 < len := by
      rcases Nat.eq_zero_or_pos len with h0 | h0
      · subst h0
        simp at hne
      · exact h0
    obtain ⟨b, off, rfl⟩ := addr_plain (hcell 0 (by omega))
    refine ⟨b, off, rfl, fun i hi => ?_⟩
    rw [hlt] at hi
    have hc := hcell i (by omega)
    rw [Addr.add_lit] at hc
    rw [hc]
    simp [List.getD, hi]

theorem flo_of_trod {H : Type} {enc : TypeId × Value → H} {W : World} {base : Nat} {spare : Nat → Bool} {held : Bool} {fuel : Nat} {v : Value} {x : DataW H × List MemPlace} (h : DataW.trod enc Try.prog W base spare held fuel 29 [v] = some x) : ∃ b, v = .float .f64 b := by
  cases fuel with
  | zero => simp [DataW.trod] at h
  | succ n =>
    have hu := Try.underlying29
    cases v <;> simp [DataW.trod, hu] at h
    rename_i k b
    exact ⟨b, by rw [h.1.1]⟩

theorem fs_of_trod {H : Type} {enc : TypeId × Value → H} {W : World} {base : Nat} {held : Bool} {fuel : Nat} {a0 : Option Addr} {len cap : Nat} {x : DataW H × List MemPlace} (h : DataW.trod enc Try.prog W base (fun _ => true) held fuel 28 [.slice a0 len cap] = some x) (hlen : len ≤ 140737488355328) :
    ∃ fs : List Nat, Fs W (.slice a0 len cap) fs := by
  rcases Go.Deep.open_slice1 Try.underlying28 Try.cells_flo h with ⟨hcs, _⟩ | ⟨a, len', cap', m, n, V, D, Pl, hcs, _, hl, hm, hmm, _, hV⟩
  · simp at hcs
    obtain ⟨rfl, rfl, rfl⟩ := hcs
    exact ⟨[], ⟨none, 0, rfl, by simp, fun h => absurd rfl h⟩⟩
  · simp at hcs
    obtain ⟨rfl, rfl, rfl⟩ := hcs
    simp only [if_true] at hmm
    obtain ⟨F, hF⟩ := Go.Deep.choose_lt (α := Nat) (p := fun i b => V i = .float .f64 b) (n := len) (fun i hi => flo_of_trod (hV i (by omega)).2)
    refine ⟨(List.range len).map F, ⟨some a, cap, by simp, by simpa using hlen, fun hne => ?_⟩⟩
    have hpos : 0 < len := by
      rcases Nat.eq_zero_or_pos len with h0 | h0
      · subst h0
        simp at hne
      · exact h0
    obtain ⟨b, off, rfl⟩ := addr_plain (hV 0 (by omega)).1
    refine ⟨b, off, rfl, fun i hi => ?_⟩
    simp at hi
    have hc := (hV i (by omega)).1
    rw [Addr.add_lit] at hc
    rw [hc, hF i hi]
    simp [List.getD, hi]

theorem least_lifted (os : Os) (started : os.Started) (H : Type) (enc : TypeId × Value → H) :
    ReturnsInHanded {} Try.checked os 4 .any (Rows.aggLeastSpec.pre6 enc Try.prog Try.f4 Rows.aggLeastRow.domain false) (Rows.aggLeastSpec.post enc Try.prog Try.f4 false true false false) := by
  refine returnsInHanded_of_change_sized (C := Try.checked) argOwn started (by kernel_rfl) Try.func4
    (ChangeSpec.witness6 (enc := enc) (C := Try.checked) false ⟨#[], #[.slice none 0 0, .slice none 0 0, .slice none 0 0], []⟩ 8 (by kernel_rfl) (by kernel_rfl) (by kernel_rfl) (by kernel_rfl)) ?_
  intro W base args ds gs before hval0 hW _ hsz0 _
  have hsz : (DataW.weightsEach Try.prog (Try.f4.params.toList ++ Rows.aggLeastSpec.plain.varTypes Try.prog) (ds ++ gs)).all (· ≤ reachBytes) = true := hsz0
  clear hsz0
  have hval : ∀ (j : Nat) t v, Try.f4.params[j]? = some t → args[j]? = some v → Value.okWide Try.prog W .any base t v := hval0
  have hW' := hW
  obtain ⟨p, q, hA0, hV, rfl, _, _⟩ := hW
  have hA : DataW.TrodAll enc Try.prog W 0 (fun _ => true) true Try.f4.params.toList args.toList ds p := hA0
  rw [Try.params4] at hA hval hsz
  obtain ⟨v0, v1, v2, d0, d1, d2, p0, p1, p2, rfl, rfl, rfl, h0, h1, h2⟩ := trodAll_three hA
  obtain ⟨rfl, rfl⟩ := trodVars_none hV
  obtain ⟨a0, len0, cap0, rfl⟩ := okWide_slice Try.underlying26 (hval 0 26 v0 rfl rfl)
  have k0 := h0
  have lt0 : ∀ x ∈ p0, x.block < W.heap.size := by obtain ⟨m, hm⟩ := k0; exact DataW.trod_lt m _ _ _ hm
  obtain ⟨f0, hf0⟩ := h0
  have hf0' : DataW.trod enc Try.prog W 0 (fun _ => true) true f0 26 [.slice a0 len0 cap0] = some (d0, p0) := by simpa [Value.cells] using hf0
  have hl0 := len_of_trod Try.underlying26 (by rw [Try.bytes_i64]; decide) hf0' hsz (j := 0) rfl rfl
  obtain ⟨xs, hxs⟩ := is_of_trod hf0' hl0
  obtain ⟨a1, len1, cap1, rfl⟩ := okWide_slice Try.underlying27 (hval 1 27 v1 rfl rfl)
  have k1 := h1
  have lt1 : ∀ x ∈ p1, x.block < W.heap.size := by obtain ⟨m, hm⟩ := k1; exact DataW.trod_lt m _ _ _ hm
  obtain ⟨f1, hf1⟩ := h1
  have hf1' : DataW.trod enc Try.prog W 0 (fun _ => true) true f1 27 [.slice a1 len1 cap1] = some (d1, p1) := by simpa [Value.cells] using hf1
  have hl1 := len_of_trod Try.underlying27 (by rw [Try.bytes_int]; decide) hf1' hsz (j := 1) rfl rfl
  obtain ⟨ys, hys⟩ := iis_of_trod hf1' hl1
  obtain ⟨a2, len2, cap2, rfl⟩ := okWide_slice Try.underlying28 (hval 2 28 v2 rfl rfl)
  have k2 := h2
  have lt2 : ∀ x ∈ p2, x.block < W.heap.size := by obtain ⟨m, hm⟩ := k2; exact DataW.trod_lt m _ _ _ hm
  obtain ⟨f2, hf2⟩ := h2
  have hf2' : DataW.trod enc Try.prog W 0 (fun _ => true) true f2 28 [.slice a2 len2 cap2] = some (d2, p2) := by simpa [Value.cells] using hf2
  have hl2 := len_of_trod Try.underlying28 (by rw [Try.bytes_flo]; decide) hf2' hsz (j := 2) rfl rfl
  obtain ⟨zs, hzs⟩ := fs_of_trod hf2' hl2
  clear hA0 hval0
  refine (least_walk _ _ _ xs ys zs W hxs hys hzs).mono fun e W' ⟨he, hf⟩ => ?_
  subst he
  have bel : Below W.heap.size W W' := hf.below (Nat.le_refl _) (fun _ h => h.elim)
  exact ⟨_, rfl, _, _, _, [], _, [], hW', trodAll_mk1 (shut_bool Try.underlying4 _), trodAll_mk3 (Below.trod argLaid (by kernel_rfl) (of_decide_eq_true (by kernel_rfl)) k0 bel lt0) (Below.trod argLaid (by kernel_rfl) (of_decide_eq_true (by kernel_rfl)) k1 bel lt1) (Below.trod argLaid (by kernel_rfl) (of_decide_eq_true (by kernel_rfl)) k2 bel lt2), rfl, bel.frame _, fun h => by cases h⟩

theorem least_over : Rows.aggLeastRow.holds Try.pinned (OpenSpec.ofChange Rows.aggLeastSpec) :=
  OpenClaim.holds_of_wide 4 Try.f4 rfl rfl rfl rfl rfl rfl rfl ⟨rfl, rfl, rfl, rfl, rfl⟩ rfl rfl rfl rfl rfl (by kernel_rfl) Try.func4 (by kernel_rfl)
    (of_decide_eq_true (by kernel_rfl)) (by unfold Func.isWrapper; first | (rw [if_pos (by decide +kernel)]; kernel_rfl) | (rw [if_neg (by decide +kernel)]; exact ⟨rfl, rfl⟩))
    (fun os started H enc _ => least_lifted os started H enc)

theorem aggLeast_holds : Rows.AggLeastSaid := least_over
#print axioms aggLeast_holds
end Go.Proofs.Ytmfkccdlblebjaa
