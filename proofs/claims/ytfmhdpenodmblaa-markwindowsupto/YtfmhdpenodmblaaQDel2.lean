/- slices.DeleteFunc, pane.Open: walks. -/
import Derived.Test.YtfmhdpenodmblaaQDel
namespace Go.Proofs.Ytfmhdpenodmblaa
open Go.RowKit

theorem DI.start {w wx : World} {b N0 N1 : Nat} {s d l m : Int} {xs : List Int} {k : Nat} (hc : CL wx N0 N1 s d l m) (hf : Fr w wx (fun _ => False)) (hr : RowV wx b (iv xs)) (hk : k < xs.length) (hn : ∀ j, j < k → shutB s l m (xs.getD j 0) = false) (hs : shutB s l m (xs.getD k 0) = true) : DI w wx b N0 N1 s d l m xs k (k + 1) := by
  have e := openL_take (s := s) (l := l) (m := m) hk
  rw [hs, if_pos rfl, openL_none k (by omega) hn] at e
  refine ⟨hc, hf.mono (fun _ _ h => h.elim), ⟨iv xs, hr, iv_length _, ?_, fun _ _ => rfl⟩, by rw [e, List.length_take]; omega, by omega, by omega⟩
  rw [e]
  simp [iv, List.map_take]

set_option maxHeartbeats 2000000 in
theorem delete_any {N0 N1 : Nat} {s d l m : Int} (b : Nat) (xs : List Int) (hn : Near s l xs) (hl : xs.length ≤ 64) (w : World) (hc : CL w N0 N1 s d l m) (hr : RowV w b (iv xs)) (h0 : N0 ≠ b) (h1 : N1 ≠ b) :
    Calls Try.prog 45 #[.slice (some ⟨b, 0, none⟩) xs.length xs.length, clV N0 N1] w fun e w' => e = .returned (.slice (some ⟨b, 0, none⟩) (openL s l m xs).length xs.length) ∧ Fr w w' (fun k => k = b) ∧
      ∃ rest, RowV w' b (iv (openL s l m xs) ++ rest) ∧ rest.length + (openL s l m xs).length = xs.length := by
  have HX := hid (index_any b xs hn hl w hc hr)
  have HN := hid hn
  have HC := hid hc
  have HR := hid hr
  have H0 := hid h0
  have H1 := hid h1
  clear hn hc hr h0 h1
  unfold clV at HX ⊢
  go_enter Try.func45, Try.ntmps45
  go_wp2_with fail
  refine HX.out.mono ?_
  rintro e w1 ⟨k, hk, hnot, hf1, hcase⟩
  clear HX
  rcases hcase with ⟨hk2, rfl⟩ | ⟨hk2, hs, rfl⟩
  · have e : openL s l m xs = xs := by
      have := openL_none k hk hnot
      rwa [hk2, List.take_length] at this
    have HF := hid hf1
    have HE := hid e
    clear hk2 hk hnot hf1 e
    go_wp2_with fail
    go_ret
    rw [HE.out]
    exact ⟨rfl, HF.out.mono (fun _ _ h => h.elim), [], by rw [List.append_nil]; exact HR.out.fr HF.out (fun h => h), by simp⟩
  · have HD := hid (DI.start (HC.out.fr hf1 (fun h => h) (fun h => h)) hf1 (HR.out.fr hf1 (fun h => h)) hk2 hnot hs)
    have hk0 : ((k : Int) == -1) = false := by simp
    clear hs hnot hf1
    go_wp2_with fail
    go_loopg [5, 6] (xs.length - (k + 1)) (fun g s5 s6 wx => ∃ i j : Nat, s5 = .int .i64 (i : Int) ∧ s6 = .int .i64 (j : Int) ∧ j + g = xs.length ∧ i < j ∧ Hid (DI w wx b N0 N1 s d l m xs i j))
    case atStart => exact ⟨k, k + 1, rfl, rfl, by omega, by omega, HD⟩
    case round =>
      obtain ⟨i, j, rfl, rfl, hg, hij, HI⟩ := hrel
      clear HD hk0
      cases gk with
      | zero =>
        have t1 : ¬ (j : Int) < (xs.length : Int) := by omega
        obtain rfl : j = xs.length := by omega
        have hclr := fun ty => HI.out.clear ty
        have HDN := hid HI.out.done
        clear hg
        go_wp2_with fail
        go_ret
        obtain ⟨rest, h1, h2, h3, h4⟩ := HDN.out
        exact ⟨by rw [h4]; rfl, h3, rest, h1, h2⟩
      | succ g =>
        have hj : j < xs.length := by omega
        have t1 : (j : Int) < (xs.length : Int) := by omega
        have hcell := HI.out.cell hj
        obtain ⟨u, hu⟩ := HI.out.there (o := i) (by omega)
        have hfz := HI.out.free i
        obtain ⟨f0, f1, f2⟩ := HN.out.at hj
        have HO := hid (fun W h => opn_any (N0 := N0) (N1 := N1) (d := d) (m := m) (xs.getD j 0) f1 f2 W h)
        have HJ := hid hj
        have HG := hid hg
        clear f0 f1 f2 hg
        cases hsb : shutB s l m (xs.getD j 0) with
        | true =>
          have HI1 := hid (HI.out.skip hj hsb)
          rw [hsb] at HO
          clear hsb
          generalize xs.getD j 0 = x at *
          go_wp2_with fail
          refine (HO.out _ HI.out.cl).mono ?_
          rintro e w2 ⟨rfl, hf2⟩
          have HI2 := hid (HI1.out.call hf2)
          clear hf2
          go_wp2_with fail
          go_roundg g
          case measure => omega
          case rel => exact ⟨i, j + 1, rfl, by go_num, by have := HG.out; omega, by omega, HI2⟩
        | false =>
          rw [hsb] at HO
          have HSB := hid hsb
          clear hsb hu
          generalize hx : xs.getD j 0 = x at *
          have HX := hid hx
          clear hx
          go_wp2_with fail
          refine (HO.out _ HI.out.cl).mono ?_
          rintro e w2 ⟨rfl, hf2⟩
          have HI2 := hid (HI.out.call hf2)
          clear hf2 hcell hfz
          obtain ⟨u, hu⟩ := HI2.out.there (o := i) (by have := HJ.out; omega)
          have hfz := HI2.out.free i
          have HI3 := hid (HI2.out.put HJ.out (by rw [HX.out]; exact HSB.out) H0.out H1.out)
          rw [HX.out] at HI3
          go_wp2_with fail
          go_roundg g
          case measure => omega
          case rel => exact ⟨i + 1, j + 1, by go_num, by go_num, by have := HG.out; omega, by omega, HI3⟩

theorem near_starts {s d l t : Int} (h : OkV s d l) (ht : Ti t) : Near s l (startsL s d t) := by
  intro x hx
  obtain ⟨k, _, h1, h2⟩ := (startsL_mem h.s1 h.d1).1 hx
  have := h.s1
  have := h.s2
  have := h.l1
  have := h.l2
  unfold Ti at ht
  unfold fits
  omega

/-- What Open answers: the open ones, at a block of their own. -/
structure OpenRow (w w' : World) (v : Value) (xs : List Int) (n : Nat) : Prop where
  row : ∃ b rest, v = .slice (some ⟨b, 0, none⟩) xs.length n ∧ w.heap.size < b ∧ RowV w' b (iv xs ++ rest) ∧ rest.length + xs.length = n
  fr : Fr w w' (fun _ => False)

set_option maxHeartbeats 2000000 in
theorem open_ok {s d l t : Int} (m : Int) (h : OkV s d l) (ht : Ti t) (w : World) : Calls Try.prog 39 #[.agg #[.int .i64 s, .int .i64 d, .int .i64 l], .int .i64 t, .int .i64 m] w fun e w' =>
    ∃ v, e = .returned (.tuple #[v, .int .i64 0]) ∧ OpenRow w w' v (openL s l m (startsL s d t)) (startsL s d t).length := by
  have HS := hid (fun W : World => starts_ok h ht W)
  have HD := hid (fun b W hc hr h0 h1 => delete_any (N0 := w.heap.size) (N1 := w.heap.size + 1) (d := d) (m := m) b (startsL s d t) (near_starts h ht) (startsL_short h) W hc hr h0 h1)
  unfold clV at HD
  clear h ht
  generalize startsL s d t = xs at *
  go_enter Try.func39, Try.ntmps39
  go_wp2_with fail
  refine (HS.out _).mono ?_
  rintro e w1 ⟨b, rfl, hb, hr, hf⟩
  have hb2 : w.heap.size + 1 + 1 < b := by simpa using hb
  have HCL : Hid (CL w1 w.heap.size (w.heap.size + 1) s d l m) := ⟨((VwAt.new w s d l).fr (alloc_fr _ _ (fun _ => False)) (fun h => h)).fr hf (fun h => h), by rw [hf.block (w.heap.size + 1) (by simp) (fun h => h)]; exact heap_last _ _ _ (by simp)⟩
  have HR := hid hr
  have HF := hid (((alloc_fr w _ (fun _ => False)).alloc _).trans hf)
  have HB := hid hb2
  clear hr hf hb hb2
  go_wp2_with fail
  refine (HD.out b _ HCL.out HR.out (by have := HB.out; omega) (by have := HB.out; omega)).mono ?_
  rintro e w2 ⟨rfl, hf2, rest, hr2, hl2⟩
  have HF2 := hid (HF.out.trans2 hf2 (fun i hi e => by have := HB.out; omega))
  have HR2 := hid hr2
  have HL2 := hid hl2
  clear hf2 hr2 hl2
  go_wp2_with fail
  go_ret2
  exact ⟨_, rfl, ⟨b, rest, rfl, by have := HB.out; omega, HR2.out, HL2.out⟩, HF2.out⟩
theorem open_bad {s d l t : Int} (m : Int) (h : ¬ OkV s d l) (w : World) : Calls Try.prog 39 #[.agg #[.int .i64 s, .int .i64 d, .int .i64 l], .int .i64 t, .int .i64 m] w fun e w' =>
    e = .returned (.tuple #[.slice none 0 0, .int .i64 23]) ∧ Fr w w' (fun _ => False) := by
  have HS := hid (fun W : World => starts_bad (t := t) h W)
  clear h
  go_enter Try.func39, Try.ntmps39
  go_wp2_with fail
  refine (HS.out _).mono ?_
  rintro e w1 ⟨rfl, hf⟩
  have HF := hid (((alloc_fr w _ (fun _ => False)).alloc _).trans hf)
  clear hf
  go_wp2_with fail
  go_ret2
  exact ⟨rfl, HF.out⟩
theorem open_late {s d l t : Int} (m : Int) (h : OkV s d l) (ht : ¬ Ti t) (w : World) : Calls Try.prog 39 #[.agg #[.int .i64 s, .int .i64 d, .int .i64 l], .int .i64 t, .int .i64 m] w fun e w' =>
    e = .returned (.tuple #[.slice none 0 0, .int .i64 22]) ∧ Fr w w' (fun _ => False) := by
  have HS := hid (fun W : World => starts_late (t := t) h ht W)
  clear h ht
  go_enter Try.func39, Try.ntmps39
  go_wp2_with fail
  refine (HS.out _).mono ?_
  rintro e w1 ⟨rfl, hf⟩
  have HF := hid (((alloc_fr w _ (fun _ => False)).alloc _).trans hf)
  clear hf
  go_wp2_with fail
  go_ret2
  exact ⟨rfl, HF.out⟩
end Go.Proofs.Ytfmhdpenodmblaa
