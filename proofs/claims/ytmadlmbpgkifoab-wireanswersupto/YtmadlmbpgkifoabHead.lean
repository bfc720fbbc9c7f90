/- head: the law's first numbers come out true. -/
import Derived.Test.YtmadlmbpgkifoabRnum
import Derived.Deep.RegionWith
import Derived.Deep.DrawnRows
namespace Go.Proofs.Ytmadlmbpgkifoab
open Go.RowKit
attribute [local go_sem ↓] Go.wp_at_zero Go.wp_at_succ

theorem Wr.made (w : World) : Wr 26 5 (w.alloc (.cells #[.slice none 0 0] 26)) w.heap.size w.heap.size (.slice none 0 0) [] :=
  ⟨heap_alloc_new w _, World.ownsRow_nil _ _ _ _⟩

theorem wr_below {w w1 : World} {N B : Nat} {v : Value} (h : Fr w w1 (fun k => k = B ∨ v.ownBlock = some k)) (hN : N ≤ w.heap.size) (hB : N ≤ B) (hv : ∀ k, v.ownBlock = some k → N ≤ k) : Below N w w1 :=
  h.below hN (fun k hk => by
    rcases hk with hk | hk
    · rw [hk]; exact hB
    · exact hv k hk)

def headBytes : List Nat := [172, 2, 127, 2, 97, 98]
def headStr : ByteArray := str8 headBytes
theorem conv_own {W : World} {N : Nat} {ao : Option Addr} {cap : Nat} (h : W.ownsRow N 5 1 (.slice ao 6 cap) 6 (by8 [172, 2, 127, 2, 97, 98])) :
    (convert 24 9 (.slice ao 6 cap)).run Try.prog W = .ok (.string headStr) W :=
  run_str8 (xs := headBytes) Try.underlying24 Try.underlying5 Try.underlying9 (own_bs (xs := headBytes) h)
theorem lit_head (W : World) : (W.alloc (.cells #[.int .u8 172, .int .u8 2, .int .u8 127, .int .u8 2, .int .u8 97, .int .u8 98] 5)).ownsRow W.heap.size 5 1 (.slice (some ⟨W.heap.size, 0, none⟩) 6 6) 6 (by8 [172, 2, 127, 2, 97, 98]) :=
  lit_own W [172, 2, 127, 2, 97, 98] _ 5 6 rfl rfl (by omega)
theorem own_drew {w : World} {base : Nat} {e : TypeId} {size : Nat} {v : Value} {n : Nat} {xs : List Value} (h : w.ownsRow base e size v n xs) : w.drew.ownsRow base e size v n xs := own_fr (S := fun _ => False) h (Fr.refl _ _).drew (fun _ _ h => h)

theorem rb_head : rb [172, 2] 0 9 0 0 = (0, 0, 300, 2) := by decide
theorem head_num (base R : Nat) (v : Value) (w : World) (h : Rd w base R v [172, 2] 0 0 0) :
    Calls Try.prog 22 #[.pointer (some ⟨R, 0, none⟩), .int .i64 300] w fun e w' => e = .returned (.int .i64 300) ∧ RdPost w base R v [172, 2] 2 0 0 w' := by
  have H := rnum_any base R v [172, 2] 0 0 300 w h (by simp) (by simp) (fun j => by match j with | 0 => decide | 1 => decide | j + 2 => simp)
  rw [rb_head] at H
  exact H

/-- What stands while head goes on: the Writer at N, the Reader at R with its place. -/
structure HInv (w : World) (N : Nat) (v : Value) (R : Nat) (vr : Value) (p : Nat) (W : World) : Prop where
  wr : Wr 26 5 W w.heap.size N v [172, 2, 127, 2, 97, 98]
  rd : Rd W w.heap.size R vr [172, 2] p 0 0
  ge : w.heap.size ≤ R
  below : Below w.heap.size w W

theorem HInv.fr {w : World} {N : Nat} {v : Value} {R : Nat} {vr : Value} {p : Nat} {W W' : World} (h : HInv w N v R vr p W) (hf : Fr W W' (fun _ => False)) : HInv w N v R vr p W' :=
  ⟨h.wr.fr hf (fun h => h) (fun _ _ h => h), ⟨by rw [hf.block R (lt_of_block h.rd.cell) (fun h => h)]; exact h.rd.cell, own_fr h.rd.own hf (fun _ _ h => h)⟩, h.ge, h.below.trans (hf.below h.below.size (fun _ h => h.elim))⟩

theorem HInv.drew {w : World} {N : Nat} {v : Value} {R : Nat} {vr : Value} {p : Nat} {W : World} (h : HInv w N v R vr p W) : HInv w N v R vr p W.drew := h.fr (Fr.refl W _).drew
theorem HInv.alloc {w : World} {N : Nat} {v : Value} {R : Nat} {vr : Value} {p : Nat} {W : World} (h : HInv w N v R vr p W) (o : Obj) : HInv w N v R vr p (W.alloc o) := h.fr (alloc_fr W o _)

theorem HInv.num {w : World} {N : Nat} {v : Value} {R : Nat} {vr : Value} {p : Nat} {W W' : World} (h : HInv w N v R vr p W) (hf : Fr W W' (fun k => k = R)) : Below w.heap.size w W' :=
  h.below.trans (hf.below h.below.size (fun k e => by rw [e]; exact h.ge))

theorem HInv.start {w w3 w4 : World} {v : Value} {R : Nat} {vr : Value} {o : Obj} (hb : Below w.heap.size w w3) (hw : Wr 26 5 w3 w.heap.size w.heap.size v [172, 2, 127, 2, 97, 98])
    (hr : Rd w4 (w3.alloc o).heap.size R vr [172, 2] 0 0 0) (hR : (w3.alloc o).heap.size ≤ R) (hf : Fr (w3.alloc o) w4 (fun _ => False)) : HInv w w.heap.size v R vr 0 w4 := by
  have h1 : w3.heap.size ≤ (w3.alloc o).heap.size := by simp
  have h2 := hb.size
  have hfr : Fr w3 w4 (fun _ => False) := (alloc_fr w3 o _).trans hf
  exact ⟨hw.fr hfr (fun h => h) (fun _ _ h => h), ⟨hr.cell, own_mono hr.own (by omega)⟩, by omega, hb.trans (hfr.below h2 (fun _ h => h.elim))⟩

set_option maxHeartbeats 1000000 in
set_option maxRecDepth 100000 in
theorem head_any (w : World) : Calls Try.prog 21 #[] w fun e w' => e = .returned (.bool true) ∧ Below w.heap.size w w' := by
  go_enter Try.func21, Try.ntmps21
  go_wp2_with fail
  refine (num_any w.heap.size w.heap.size _ [] 300 _ (by omega) (by omega) (Wr.made w) (by simp) (by simp)).mono ?_
  rintro e w1 ⟨rfl, v1, hW1, hf1, hn1⟩
  have HW1 : Hid (Wr 26 5 w1 w.heap.size w.heap.size v1 [172, 2]) := hW1
  have HF1 : Hid (Below w.heap.size w w1) := ((Below.refl w.heap.size w).alloc (Nat.le_refl _) _).trans (wr_below hf1 (by simp) (Nat.le_refl _) (fun k h => by simp [Value.ownBlock] at h))
  have hb1 : w.heap.size ≤ w1.heap.size := HF1.out.size
  clear hW1 hf1 hn1
  go_wp2_with fail
  refine (int_any w.heap.size w.heap.size v1 [172, 2] (-64) _ (by omega) (by omega) HW1.out hb1 (by simp)).mono ?_
  rintro e w2 ⟨rfl, v2, hW2, hf2, hn2⟩
  have HW2 : Hid (Wr 26 5 w2 w.heap.size w.heap.size v2 [172, 2, 127]) := hW2
  have HF2 : Hid (Below w.heap.size w w2) := HF1.out.trans (wr_below hf2 hb1 (Nat.le_refl _) (fun k h => (HW1.out.own.lt k h).1))
  have hb2 : w.heap.size ≤ w2.heap.size := HF2.out.size
  clear hW2 hf2 hn2
  go_wp2_with fail
  refine (text_any w.heap.size w.heap.size v2 [172, 2, 127] ⟨#[97, 98]⟩ _ HW2.out hb2 (by decide)).mono ?_
  rintro e w3 ⟨rfl, v3, hW3, hf3, hn3⟩
  have HW3 : Hid (Wr 26 5 w3 w.heap.size w.heap.size v3 [172, 2, 127, 2, 97, 98]) := hW3
  have HF3 : Hid (Below w.heap.size w w3) := HF2.out.trans (wr_below hf3 hb2 (Nat.le_refl _) (fun k h => (HW2.out.own.lt k h).1))
  have hb3 : w.heap.size ≤ w3.heap.size := HF3.out.size
  clear hW3 hf3 hn3 HW1 HW2 HF1 HF2
  go_wp2_with fail
  refine (read_any _ [172, 2] _ (own_bs (lit_own w3 [172, 2] _ 5 2 rfl rfl (by omega))) (by simp)).mono ?_
  rintro e w4 ⟨R, vr, rfl, hR, hRn, hf4⟩
  have hI : HInv w w.heap.size v3 R vr 0 w4 := HInv.start HF3.out HW3.out hR hRn hf4
  have HI : Hid (HInv w w.heap.size v3 R vr 0 w4) := hI
  clear hI hR hf4 HF3 HW3
  have hu27 := Try.underlying24
  have hu5 := Try.underlying5
  have hu9 := Try.underlying9
  have hl1 := conv_own (lit_head w4.drew)
  have hl2 := conv_own (own_drew (lit_head w4))
  have hl3 := lit_head w4.drew
  have hl4 := own_drew (lit_head w4)
  clear hu27 hu5 hu9
  go_wp2_with fail
  go_region_with (first
    | (go_at_call 12; go_must (refine (bytes_any w.heap.size w.heap.size v3 [172, 2, 127, 2, 97, 98] _ ?_ (by simp)).mono ?_; (first | exact HI.out.drew.wr | exact (HI.out.drew.alloc _).wr | exact (HI.out.alloc _).drew.wr)); rintro e w5 ⟨v5, rfl, ho5, hf5⟩; obtain ⟨ao5, cap5, rfl⟩ := own_nil_shape ho5; have HI5 : Hid (HInv w w.heap.size v3 R vr 0 w5) := (by first | exact HI.out.drew.fr hf5 | exact (HI.out.drew.alloc _).fr hf5 | exact (HI.out.alloc _).drew.fr hf5); have hc5 := conv_own ho5; have hc6 := (fun o => conv_own (ho5.alloc o)); have hl5 := conv_own (lit_head w5); (try (have hc7 := conv_own (own_fr hl3 hf5 (fun _ _ h => h)))); (try (have hc8 := conv_own (own_fr hl4 hf5 (fun _ _ h => h)))); clear ho5 hf5)
    | (go_at_call 22; go_must (refine (head_num w.heap.size R vr _ ?_).mono ?_; (first | exact HI5.out.rd | exact (HI5.out.alloc _).rd)); rintro e w6 ⟨rfl, hw6⟩; have HI6 : Hid (Rd w6 w.heap.size R vr [172, 2] 2 0 0 ∧ Below w.heap.size w w6) := (by first | exact ⟨hw6.1, HI5.out.num hw6.2⟩ | exact ⟨hw6.1, (HI5.out.alloc _).num hw6.2⟩); clear hw6)
    | (go_at_call 20; go_must (refine (err_ok w.heap.size R vr [172, 2] 2 0 _ HI6.out.1).mono ?_); rintro e w7 ⟨rfl, hw7⟩; have hw7 := hw7.symm; subst hw7))
  all_goals go_wp2
  all_goals go_ret
  all_goals exact ⟨rfl, HI6.out.2⟩
end Go.Proofs.Ytmadlmbpgkifoab
