/- hand.list, held, Held, Dying, Live, Drop: walks. -/
import Derived.Test.YtimefcmemklhpaaEOps3
import Derived.Test.YtimefcmemklhpaaESort
import Derived.Deep.DeepMust
namespace Go.Proofs.Ytimefcmemklhpaa.E
open Go.RowKit Go.Maps Go.MuLone

theorem cells_newI (w : World) (x : Int) : ∀ (j : Nat) (u : Value), (zv [x])[j]? = some u → (w.alloc (.cells #[.int .i64 x] 3)).cell? ((⟨w.heap.size, 0, none⟩ : Addr).add j) = some u := cells_new w _ _

/-- A list of one's own, of these in whatever order. -/
def Lst (w w' : World) (v : Value) (l : List Int) : Prop := ∃ ss, ss.Perm l ∧ OwI w' w.heap.size v ss ∧ Fr w w' (fun _ => False)
set_option maxHeartbeats 2000000 in
set_option maxRecDepth 100000 in
theorem hlist_any {w : World} {m : Option Nat} {l : List Int} (h : Mo w m l) (hr : Ri l) (hlen : l.length ≤ 1099511627776) (x : Int) :
    Calls Try.prog 67 #[.agg #[.map m, .int .i64 x]] w fun e w' => ∃ v : Value, e = .returned v ∧ Lst w w' v (l ++ if x = 0 then [] else [x]) := by
  have H := hid h
  have HR := hid hr
  clear h hr
  go_enter Try.func67, Try.ntmps67
  go_wp2_with fail
  refine (list_any (H.out.fr (alloc_fr _ _ (fun _ => False)) (fun _ _ h => h)) HR.out hlen).mono ?_
  rintro e w1 ⟨v, ss, rfl, hp, ho, hf⟩
  have HP := hid hp
  have HO := hid (ho.mono (base' := w.heap.size) (by simp))
  have HF := hid ((alloc_fr w _ (fun _ => False)).trans hf)
  obtain ⟨r1, r2⟩ : w1.cell? ⟨w.heap.size, 0, none⟩ = some (.map m) ∧ w1.cell? ⟨w.heap.size, 1, none⟩ = some (.int .i64 x) := by
    have hb : Below (w.heap.size + 1) (w.alloc (.cells #[.map m, .int .i64 x] 72)) w1 := hf.below (by simp) (fun _ h => h.elim)
    exact ⟨(hb.cell (p := ⟨w.heap.size, 0, none⟩) (by simp)).trans (by simp), (hb.cell (p := ⟨w.heap.size, 1, none⟩) (by simp)).trans (by simp)⟩
  have hsz : w.heap.size < w1.heap.size := by have := hf.size; simp at this; omega
  clear hp ho hf
  by_cases t1 : x = 0
  · have T1 := hid t1
    go_wp2_with fail
    go_ret
    exact ⟨v, rfl, ss, by simpa using HP.out, HO.out, HF.out⟩
  · have T1 := hid t1
    have hL : ss.length = l.length := HP.out.length_eq
    go_wp2_with (at_builtin; go_must (refine wpl_app rfl (.tmp 10) (.tmp 13) rfl w.heap.size v (.slice (some ⟨w1.heap.size, 0, none⟩) 1 1) ss [x] rfl rfl (HO.out.fr (alloc_fr w1 (.cells #[.int .i64 x] 3) (fun _ => False)) (fun _ _ h => h)) (Or.inr ⟨_, _, rfl, cells_newI w1 x⟩) ?c1 ?c2 ?_))
    case c1 => simp; omega
    case c2 => simp; omega
    intro v' w2 ho2 hg2 hat
    have HO2 := hid ho2
    have HF2 := hid ((HF.out.alloc (.cells #[.int .i64 x] 3)).grown hg2 (fun k hk e => by
      have := (World.ownsRow.lt HO.out k e).1
      omega))
    clear ho2 hg2 hat hL
    go_wp2_with fail
    go_ret
    exact ⟨v', rfl, ss ++ [x], by first | exact HP.out.append_right _ | (rw [if_neg T1.out]; exact HP.out.append_right _), HO2.out, HF2.out⟩

set_option maxHeartbeats 4000000 in
set_option maxRecDepth 100000 in
theorem heldB_any {w : World} {lk : Int} {B : Nat} {m : Nat → Option Nat} {b : Bo} (h : Bk w lk B m b) :
    Calls Try.prog 53 #[.pointer (some ⟨B, 0, none⟩)] w fun e w' => ∃ v, e = .returned v ∧ OwI w' w.heap.size v (heldL b) ∧ Fr w w' (fun _ => False) := by
  have HR := hid h.range
  have HNF := hid (hands_info lk b m)
  have hlt := h.lt
  have H := hid h
  have HX := hid (hand_at lk b m)
  generalize hcs lk b m = hv at *
  clear h
  go_enter Try.func53, Try.ntmps53
  go_wp2_with (refine wpList_load_mid rfl 73 (.tmp 8) rfl B 4 rfl hv _ HR.out Try.underlying73 rfl HNF.out ?_)
  go_loopg [10, 3] 65 (fun g s10 s3 wx => ∃ (i : Nat) (ss : List Int), s10 = .int .i64 (i : Int) ∧ i + g = 65 ∧ Hid (ss.Perm ((List.range i).flatMap (lst b))) ∧ Hid (ss.length ≤ i * 65) ∧ Hid (OwI wx w.heap.size s3 ss) ∧ Hid (Fr w wx (fun _ => False)))
  case atStart => exact ⟨0, [], rfl, rfl, List.Perm.refl _, Nat.le_refl _, World.ownsRow_nil _ _ _ _, Fr.refl _ _⟩
  case round =>
    obtain ⟨i, ss, rfl, hg, HP, HL, HO, HF⟩ := hrel
    cases gk with
    | zero =>
      have t1 : ¬ (i : Int) < 65 := by omega
      have HI := hid (show i = 65 by omega)
      clear hg
      have hL := HL.out
      have hI := HI.out
      go_wp2_with fail
      refine (sort_own HO.out (by omega)).mono ?_
      rintro e w1 ⟨rfl, ho1, hf1⟩
      have HO1 := hid ho1
      have HF1 := hid (HF.out.trans2 hf1 (fun k hk e => by have := (World.ownsRow.lt HO.out k e).1; omega))
      clear ho1 hf1
      go_wp2_with fail
      refine (compact_own HO1.out (by omega)).mono ?_
      rintro e w2 ⟨v2, rfl, ho2, hv2, hf2⟩
      have HO2 := hid ho2
      have HF2 := hid (HF1.out.trans2 hf2 (fun k hk e => by have := (World.ownsRow.lt HO1.out k e).1; omega))
      clear ho2 hf2 hv2
      go_wp2_with fail
      go_ret
      refine ⟨v2, rfl, ?_, HF2.out⟩
      have : heldL b = up ss := by
        unfold heldL
        refine ri_ext (ri_up _) (ri_up _) (fun x => ?_)
        rw [mem_up, mem_up, HP.out.mem_iff, HI.out]
      rw [this]
      exact HO2.out
    | succ g =>
      have hi : i < 65 := by omega
      have t1 : (i : Int) < 65 := by omega
      have hix := fun W => HX.out W i hi
      have HG := hid hg
      have HI := hid hi
      clear hg
      go_wp2_with fail
      refine (hlist_any (((H.out.map i (by omega)).fr HF.out (fun _ _ h => h)).fr (alloc_fr _ _ (fun _ => False)) (fun _ _ h => h)) (H.out.wf.ri i) (H.out.wf.len i) (b.inn i)).mono ?_
      rintro e w1 ⟨v1, rfl, s1, hp1, ho1, hf1⟩
      have HP1 := hid hp1
      have HO1 := hid ho1
      have HF1 := hid ((HF.out.alloc _).trans hf1)
      have HOA := hid (HO.out.fr ((alloc_fr _ _ (fun _ => False)).trans hf1) (fun _ _ h => h))
      have hl1 : s1.length ≤ 65 := by
        have h1 := HP1.out.length_eq
        have h2 := H.out.wf.lst_len HI.out
        unfold lst at h2
        omega
      have hL := HL.out
      have hsz := HF1.out.size
      clear hp1 ho1 hf1 hix
      go_wp2_with (at_builtin; go_must (refine wpl_app rfl (.tmp 13) (.tmp 15) rfl w.heap.size u3 v1 ss s1 rfl rfl HOA.out HO1.out.rd ?c1 ?c2 ?_))
      case c1 => omega
      case c2 => omega
      intro v2 w2 ho2 hg2 hat
      have HO2 := hid ho2
      have HF2 := hid (HF1.out.grown hg2 (fun k hk e => by
        have := (World.ownsRow.lt HO.out k e).1
        omega))
      have HL1 := hid hl1
      clear ho2 hg2 hat hL hsz hl1
      go_wp2_with fail
      go_roundg g
      case rel =>
        refine ⟨i + 1, ss ++ s1, by simp, by have := HG.out; omega, ?_, ?_, HO2.out, HF2.out⟩
        · show (ss ++ s1).Perm _
          rw [List.range_succ, List.flatMap_append]
          refine HP.out.append ?_
          simp only [List.flatMap_cons, List.flatMap_nil, List.append_nil]
          exact HP1.out
        · show (ss ++ s1).length ≤ _
          have h1 := HL1.out
          have h2 := HL.out
          rw [List.length_append]
          omega
      case measure => omega
end Go.Proofs.Ytimefcmemklhpaa.E
