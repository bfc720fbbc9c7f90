/- The document's Frames.Next, where it tells a frame: a walk. -/
import Derived.Test.YtdhobmnljniccaaRNext
namespace Go.Proofs.Ytdhobmnljniccaa
open Go.RowKit
attribute [local go_sem ↓] Go.wp_at_zero Go.wp_at_succ

set_option maxHeartbeats 800000 in
set_option maxRecDepth 100000 in
theorem rnext_good (base F : Nat) (v : Value) (most : Nat) (B : List Nat) (w : World) (h : Rz w base F v most B false) (hb8 : ∀ j, B.getD j 0 < 256) (h4 : 4 ≤ B.length) (h1 : 1 ≤ headN B) (h2 : headN B ≤ most) (hw : 4 + headN B ≤ B.length) :
    Calls Try.prog 25 #[.pointer (some ⟨F, 0, none⟩)] w fun e w' => RGood w base F v most ((B.drop 4).take (headN B)) (B.drop (4 + headN B)) e w' := by
  have t1 : ¬ (headN B : Int) < 1 := by omega
  have t2 : ¬ (most : Int) < (headN B : Int) := by omega
  have t3 : ¬ (B.length : Int) - 4 < (headN B : Int) := by omega
  have t4 : ¬ (B.length : Int) < 4 := by omega
  obtain ⟨i0, hi, hz0, hz1, hz2⟩ := info_parts Try.info5
  obtain ⟨b, off, cap, a0, a1, a2, a3, rfl, hlc, hcm, k0, k1, k2, k3, l0, l1, l2, l3, HB⟩ := head_facts h hb8 h4
  obtain ⟨c0, c1, c2⟩ := three_cells h.cell
  have f1 := free_of h.cell 1
  have hnl := headN_lt B hb8 h4
  have q0 := k0 0
  have q1 := k1 0
  have q2 := k2 0
  have q3 := k3 0
  rw [World.drewN_zero] at q0 q1 q2 q3
  have H := hid h
  clear h hb8 k0 k1 k2 k3
  generalize headN B = n at *
  have HBits := hid HB
  clear HB
  have t5 : (4 : Int) + (n : Int) ≤ (cap : Int) := by omega
  have t6 : ¬ cap = 4 := by omega
  have HS : Hid (∀ (m c j : Nat) (u : Value), (by8 ((B.drop 4).take n))[j]? = some u → (w.drewN m).cell? ((⟨b, off + 4, none⟩ : Addr).add j) = some u) := by
    intro m c j u hu
    rcases (H.out.own.drewN m).bs 4 n c (by omega) with ⟨he, _⟩ | ⟨a, c', he, hcs⟩
    · simp at he
    · simp only [Value.slice.injEq, Option.some.injEq] at he
      rw [he.1]
      exact hcs j u hu
  have hbl : ((B.drop 4).take n).length = n := by simp; omega
  have HBL := hid hbl
  clear hbl
  generalize (B.drop 4).take n = body at *
  have HN := hid (fun W => World.ownsRow_nil W w.heap.size 5 1)
  have HB := HBits.out
  go_enter Try.func25, Try.ntmps25
  go_wp2_with fail
  go_quiet (fail)
  clear HB HBits q0 q1 q2 q3
  go_wp2_with (at_builtin; go_must (refine wpList_append_own_at _ rfl (.tmp 72) (.tmp 79) 27 rfl w.heap.size 5 i0 (.int .u8 0) 1 1 Try.underlying27 hi hz0 hz1 hz2 rfl (by decide) _ _ _ rfl (HN.out _) ⟨b, off + 4, none⟩ n (cap - 4) (by8 body) ?hx (by rw [by8_length, Nat.mul_one, HBL.out]) (HS.out _ 0) (by8_one _) (by unfold maxLen; omega) (by omega) (Nat.le_refl _) ?_))
  case hx => simp [Act.eval]
  intro bv w1 hown hgrow _ _
  have HF1 : Hid (Fr w w1 (fun _ => False)) := ((Fr.refl w (fun _ => False)).drewN _).grown hgrow (fun k _ e => by simp [Value.ownBlock] at e)
  have HO1 : Hid (w1.ownsRow w.heap.size 5 1 bv body.length (by8 body)) := by
    show w1.ownsRow w.heap.size 5 1 bv body.length (by8 body)
    rw [HBL.out]
    simpa using hown
  obtain ⟨aob, capb, rfl⟩ := own_nil_shape hown
  have hcF : w1.heap[F]? = some (.cells #[.int .i64 (most : Int), .slice (some ⟨b, off, none⟩) B.length cap, .bool false] 58 (0, 0)) := by
    rw [HF1.out.block F (lt_of_block H.out.cell) (fun h => h)]
    exact H.out.cell
  obtain ⟨d0, d1, d2⟩ := three_cells hcF
  have g1 := free_of hcF 1
  clear hown hgrow c0 c1 c2 f1 hcF HN HS
  by_cases hcap : cap = 4 + n
  · have HG := hid (rgood_post (v2 := .slice (some ⟨b, off, none⟩) 0 0) (rest := B.drop (4 + n)) H.out HF1.out HO1.out rfl (fun W h => h.dropAll (4 + n) (by omega)))
    have hbn : B.length = 4 + n := by omega
    subst hcap
    go_wp2
    go_ret3
    exact HG.out
  · have HG := hid (rgood_post (v2 := .slice (some ⟨b, off + (4 + n), none⟩) (B.length - (4 + n)) (cap - (4 + n))) (rest := B.drop (4 + n)) H.out HF1.out HO1.out rfl (fun W h => h.drop (4 + n) hw hcap))
    go_wp2
    go_ret3
    exact HG.out
end Go.Proofs.Ytdhobmnljniccaa
