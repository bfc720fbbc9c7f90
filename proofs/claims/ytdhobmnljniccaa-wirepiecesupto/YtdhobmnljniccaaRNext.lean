/- The document's Frames.Next: walks. -/
import Derived.Test.YtdhobmnljniccaaRFz
namespace Go.Proofs.Ytdhobmnljniccaa
open Go.RowKit
attribute [local go_sem ↓] Go.wp_at_zero Go.wp_at_succ

theorem or_i64 (x y : Nat) (hx : x < 4611686018427387904) (hy : y < 4611686018427387904) : Go.bits .or .i64 (x : Int) (y : Int) = ((x ||| y : Nat) : Int) :=
  (bits_nat .i64 62 (by decide) (fun n h0 h1 => by rw [IntKind.wrap_i64]; omega) x y hx hy).2
theorem or_add (x y k : Nat) (hy : y < 2 ^ k) : (x * 2 ^ k ||| y) = x * 2 ^ k + y := by
  have := Nat.shiftLeft_add_eq_or_of_lt hy x
  rw [Nat.shiftLeft_eq] at this
  exact this.symm
theorem or_head (a b c d : Nat) (ha : a < 256) (hb : b < 256) (hc : c < 256) (hd : d < 256) :
    Go.bits .or .i64 (Go.bits .or .i64 (Go.bits .or .i64 ((a : Int) * 16777216) ((b : Int) * 65536)) ((c : Int) * 256)) (d : Int) = ((((a * 256 + b) * 256 + c) * 256 + d : Nat) : Int) := by
  rw [show ((a : Int) * 16777216) = ((a * 16777216 : Nat) : Int) from by omega, show ((b : Int) * 65536) = ((b * 65536 : Nat) : Int) from by omega, show ((c : Int) * 256) = ((c * 256 : Nat) : Int) from by omega]
  rw [or_i64 _ _ (by omega) (by omega)]
  rw [show (a * 16777216 ||| b * 65536) = a * 16777216 + b * 65536 from or_add a (b * 65536) 24 (by omega)]
  rw [or_i64 _ _ (by omega) (by omega)]
  rw [show (a * 16777216 + b * 65536 ||| c * 256) = a * 16777216 + b * 65536 + c * 256 from by
    have := or_add (a * 256 + b) (c * 256) 16 (by omega)
    rw [show (a * 256 + b) * 2 ^ 16 = a * 16777216 + b * 65536 from by omega] at this
    exact this]
  rw [or_i64 _ _ (by omega) (by omega)]
  rw [show (a * 16777216 + b * 65536 + c * 256 ||| d) = a * 16777216 + b * 65536 + c * 256 + d from by
    have := or_add ((a * 256 + b) * 256 + c) d 8 (by omega)
    rw [show ((a * 256 + b) * 256 + c) * 2 ^ 8 = a * 16777216 + b * 65536 + c * 256 from by omega] at this
    exact this]
  omega
theorem headN_four (B : List Nat) (h : 4 ≤ B.length) : headN B = ((B.getD 0 0 * 256 + B.getD 1 0) * 256 + B.getD 2 0) * 256 + B.getD 3 0 := by
  match B, h with
  | a :: b :: c :: d :: r, _ => simp [headN, beN, List.getD]
  | [], h => simp at h
  | [_], h => simp at h
  | [_, _], h => simp at h
  | [_, _, _], h => simp at h

set_option maxHeartbeats 800000 in
set_option maxRecDepth 100000 in
theorem rnext_broken (base F : Nat) (v : Value) (most : Nat) (B : List Nat) (w : World) (h : Rz w base F v most B true) :
    Calls Try.prog 25 #[.pointer (some ⟨F, 0, none⟩)] w fun e w' => e = noFrame 14 ∧ w' = w := by
  obtain ⟨c0, c1, c2⟩ := three_cells h.cell
  clear h
  go_enter Try.func25, Try.ntmps25
  go_wp2
  go_ret3
  exact ⟨rfl, rfl⟩

set_option maxHeartbeats 800000 in
set_option maxRecDepth 100000 in
theorem rnext_short (base F : Nat) (v : Value) (most : Nat) (B : List Nat) (w : World) (h : Rz w base F v most B false) (hs : B.length < 4) :
    Calls Try.prog 25 #[.pointer (some ⟨F, 0, none⟩)] w fun e w' => e = noFrame 0 ∧ w' = w := by
  obtain ⟨ao, cap, rfl, _, _⟩ := h.own.shape
  obtain ⟨c0, c1, c2⟩ := three_cells h.cell
  have hs' : (B.length : Int) < 4 := by omega
  clear h
  go_enter Try.func25, Try.ntmps25
  go_wp2
  go_ret3
  exact ⟨rfl, rfl⟩

/-- What is known ahead of the head's reading. -/
theorem head_facts {w : World} {base F : Nat} {v : Value} {most : Nat} {B : List Nat} (h : Rz w base F v most B false) (hb8 : ∀ j, B.getD j 0 < 256) (h4 : 4 ≤ B.length) :
    ∃ b off cap a0 a1 a2 a3, v = .slice (some ⟨b, off, none⟩) B.length cap ∧ B.length ≤ cap ∧ cap ≤ 9223372036854775807 ∧ (∀ n, (w.drewN n).cell? ⟨b, off, none⟩ = some (.int .u8 ((a0 : Nat) : Int))) ∧ (∀ n, (w.drewN n).cell? ⟨b, off + 1, none⟩ = some (.int .u8 ((a1 : Nat) : Int))) ∧ (∀ n, (w.drewN n).cell? ⟨b, off + 2, none⟩ = some (.int .u8 ((a2 : Nat) : Int))) ∧
      (∀ n, (w.drewN n).cell? ⟨b, off + 3, none⟩ = some (.int .u8 ((a3 : Nat) : Int))) ∧ a0 < 256 ∧ a1 < 256 ∧ a2 < 256 ∧ a3 < 256 ∧
      Go.bits .or .i64 (Go.bits .or .i64 (Go.bits .or .i64 ((a0 : Int) * 16777216) ((a1 : Int) * 65536)) ((a2 : Int) * 256)) (a3 : Int) = (headN B : Int) := by
  obtain ⟨ao, cap, rfl, hlc, hcm⟩ := h.own.shape
  obtain ⟨b, off, rfl⟩ := h.own.addr (by omega)
  unfold maxLen at hcm
  refine ⟨b, off, cap, _, _, _, _, rfl, hlc, by omega, fun n => (h.own.drewN n).cells 0 (by omega), fun n => (h.own.drewN n).cells 1 (by omega), fun n => (h.own.drewN n).cells 2 (by omega), fun n => (h.own.drewN n).cells 3 (by omega), hb8 0, hb8 1, hb8 2, hb8 3, ?_⟩
  rw [or_head _ _ _ _ (hb8 0) (hb8 1) (hb8 2) (hb8 3), headN_four B h4]

set_option maxHeartbeats 800000 in
set_option maxRecDepth 100000 in
theorem rnext_wait (base F : Nat) (v : Value) (most : Nat) (B : List Nat) (w : World) (h : Rz w base F v most B false) (hb8 : ∀ j, B.getD j 0 < 256) (h4 : 4 ≤ B.length) (h1 : 1 ≤ headN B) (h2 : headN B ≤ most) (hw : B.length < 4 + headN B) :
    Calls Try.prog 25 #[.pointer (some ⟨F, 0, none⟩)] w fun e w' => e = noFrame 0 ∧ ∃ n, w' = w.drewN n := by
  obtain ⟨b, off, cap, a0, a1, a2, a3, rfl, hlc, hcm, k0, k1, k2, k3, l0, l1, l2, l3, HB⟩ := head_facts h hb8 h4
  obtain ⟨c0, c1, c2⟩ := three_cells h.cell
  have hnl := headN_lt B hb8 h4
  have q0 := k0 0
  have q1 := k1 0
  have q2 := k2 0
  have q3 := k3 0
  rw [World.drewN_zero] at q0 q1 q2 q3
  clear h hb8 k0 k1 k2 k3
  generalize headN B = n at *
  have t1 : ¬ (n : Int) < 1 := by omega
  have t2 : ¬ (most : Int) < (n : Int) := by omega
  have t3 : (B.length : Int) - 4 < (n : Int) := by omega
  have t4 : ¬ (B.length : Int) < 4 := by omega
  go_enter Try.func25, Try.ntmps25
  go_wp2_with fail
  go_quiet (fail)
  clear HB
  go_wp2
  go_ret3
  exact ⟨rfl, _, rfl⟩

set_option maxHeartbeats 800000 in
set_option maxRecDepth 100000 in
theorem rnext_bad (base F : Nat) (v : Value) (most : Nat) (B : List Nat) (w : World) (h : Rz w base F v most B false) (hb8 : ∀ j, B.getD j 0 < 256) (h4 : 4 ≤ B.length) (hbad : headN B < 1 ∨ most < headN B) :
    Calls Try.prog 25 #[.pointer (some ⟨F, 0, none⟩)] w fun e w' => e = noFrame 14 ∧ Rz w' base F v most B true ∧ Fr w w' (fun k => k = F) := by
  obtain ⟨b, off, cap, a0, a1, a2, a3, rfl, hlc, hcm, k0, k1, k2, k3, l0, l1, l2, l3, HB⟩ := head_facts h hb8 h4
  obtain ⟨c0, c1, c2⟩ := three_cells h.cell
  have f2 := free_of h.cell 2
  have hnl := headN_lt B hb8 h4
  have q0 := k0 0
  have q1 := k1 0
  have q2 := k2 0
  have q3 := k3 0
  rw [World.drewN_zero] at q0 q1 q2 q3
  have HP : Hid (∀ m, Rz ((w.drewN m).setCell ⟨F, 2, none⟩ (.bool true)) base F (.slice (some ⟨b, off, none⟩) B.length cap) most B true ∧ Fr w ((w.drewN m).setCell ⟨F, 2, none⟩ (.bool true)) (fun k => k = F)) := by
    intro m
    have hf : Fr w ((w.drewN m).setCell ⟨F, 2, none⟩ (.bool true)) (fun k => k = F) := Fr.setCell (S := fun k => k = F) ((Fr.refl _ _).drewN m) (fun _ => rfl) _
    exact ⟨⟨last_stored (w := w.drewN m) h.cell, h.own.fr hf (fun k hk e => h.nf (by rw [← e]; exact hk)), h.nf, h.base⟩, hf⟩
  clear h hb8 k0 k1 k2 k3
  have t4 : ¬ (B.length : Int) < 4 := by omega
  generalize headN B = n at *
  by_cases h0 : n < 1
  · have t1 : (n : Int) < 1 := by omega
    clear hbad h0
    go_enter Try.func25, Try.ntmps25
    go_wp2_with fail
    go_quiet (fail)
    clear HB
    go_wp2
    go_ret3
    exact ⟨rfl, HP.out _⟩
  · have t1 : ¬ (n : Int) < 1 := by omega
    have t2 : (most : Int) < (n : Int) := by omega
    clear hbad h0
    go_enter Try.func25, Try.ntmps25
    go_wp2_with fail
    go_quiet (fail)
    clear HB
    go_wp2
    go_ret3
    exact ⟨rfl, HP.out _⟩

/-- What the document's Next leaves where it tells a frame. -/
def RGood (w : World) (base F : Nat) (v : Value) (most : Nat) (body rest : List Nat) (e : Ending) (w' : World) : Prop :=
  ∃ bv v', e = .returned (.tuple #[bv, .bool true, .int .i64 0]) ∧ w'.ownsRow w.heap.size 5 1 bv body.length (by8 body) ∧ Rz w' base F v' most rest false ∧
    Fr w w' (fun k => k = F) ∧ v'.ownBlock = v.ownBlock

theorem rgood_post {w w1 : World} {base F : Nat} {v v2 bv : Value} {most : Nat} {B body rest : List Nat} (h : Rz w base F v most B false) (hf1 : Fr w w1 (fun _ => False)) (ho : w1.ownsRow w.heap.size 5 1 bv body.length (by8 body))
    (hb : v2.ownBlock = v.ownBlock) (hr : ∀ W : World, Of 5 W base v B → Of 5 W base v2 rest) : RGood w base F v most body rest (.returned (.tuple #[bv, .bool true, .int .i64 0])) (w1.setCell ⟨F, 1, none⟩ v2) := by
  have hlt := lt_of_block h.cell
  have hne : bv.ownBlock ≠ some F := fun e => by have := (ho.lt F e).1; omega
  have hc1 : w1.heap[F]? = some (.cells #[.int .i64 (most : Int), v, .bool false] 58 (0, 0)) := by
    rw [hf1.block F hlt (fun h => h)]
    exact h.cell
  have hf : Fr w (w1.setCell ⟨F, 1, none⟩ v2) (fun k => k = F) := Fr.setCell (S := fun k => k = F) (hf1.mono (fun _ _ h => h.elim)) (fun _ => rfl) _
  exact ⟨bv, v2, rfl, ownsRow_setCell_other ho hne _, ⟨mid_stored hc1, hr _ (h.own.fr hf (fun k hk e => h.nf (by rw [← e]; exact hk))), by rw [hb]; exact h.nf, h.base⟩, hf, hb⟩

end Go.Proofs.Ytdhobmnljniccaa
