/- known() is true: a walk. -/
import Derived.Test.YtobigmcklecbnaaTTab6
namespace Go.Proofs.Ytobigmcklecbnaa
open Go.RowKit

/-- The keys a, b, ..: how the table stands behind so many Puts. -/
def ky (j : Nat) : ByteArray := str8 [97 + j]
theorem ky_size (j : Nat) : (ky j).size = 1 := rfl
def kv (j : Nat) : Value := .int .i64 (j : Int)
structure Kn (T : Tb) (i : Nat) : Prop where
  inv : Inv T
  keys : T.keys = i
  len : T.row.length = 8
  left : T.left = 0
  has : ∀ k v, Has T k v ↔ ∃ j, j < i ∧ k = ky j ∧ v = kv j
theorem Kn.zero : Kn (newT (.int .i64 0)) 0 := ⟨new_inv _, rfl, by simp [newT], rfl, fun k v => ⟨fun h => absurd h (new_has _ k v), fun ⟨j, h, _⟩ => absurd h (Nat.not_lt_zero _)⟩⟩
theorem ky_inj {i j : Nat} (hi : i < 100) (hj : j < 100) (h : ky i = ky j) : i = j := by
  have h1 := congrArg (fun s => s.data.toList.map UInt8.toNat) h
  simp [ky, str8] at h1
  omega
theorem Kn.put {T : Tb} {i : Nat} (h : Kn T i) (hi : i < 6) : Kn (putT (.int .i64 0) T (ky i) (kv i)) (i + 1) := by
  have hn : ∀ v, ¬ Has T (ky i) v := by
    intro v hv
    obtain ⟨j, hj, e, _⟩ := (h.has _ _).1 hv
    have := ky_inj (by omega) (by omega) e
    omega
  obtain ⟨a1, a2, a3, a4, a5⟩ := put_new (z := .int .i64 0) h.inv (kv i) hn
  have hm := (move_inv (.int .i64 0) h.inv.i0 4).2.2.1
  have hg : ¬ 3 * T.row.length < 4 * (T.keys + 1) := by rw [h.len, h.keys]; omega
  rw [if_neg hg] at a4 a5
  refine ⟨a1, by rw [a3, h.keys], by rw [a4, h.len], by rw [a5, hm, h.left]; omega, ?_⟩
  intro k v
  rw [a2, h.has]
  constructor
  · rintro (⟨rfl, rfl⟩ | ⟨_, j, hj, e1, e2⟩)
    · exact ⟨i, by omega, rfl, rfl⟩
    · exact ⟨j, by omega, e1, e2⟩
  · rintro ⟨j, hj, rfl, rfl⟩
    by_cases e : j = i
    · subst e; exact Or.inl ⟨rfl, rfl⟩
    · exact Or.inr ⟨fun e2 => e (ky_inj (by omega) (by omega) e2), j, by omega, rfl, rfl⟩
/-- Behind the seventh. -/
theorem Kn.last {T : Tb} (h : Kn T 6) : (putT (.int .i64 0) T (ky 6) (kv 6)).row.length = 16 ∧ (putT (.int .i64 0) T (ky 6) (kv 6)).left = 8 ∧ Inv (putT (.int .i64 0) T (ky 6) (kv 6)) ∧ getT (.int .i64 0) (putT (.int .i64 0) T (ky 6) (kv 6)) (ky 2) = (kv 2, true) ∧ getT (.int .i64 0) (putT (.int .i64 0) T (ky 6) (kv 6)) (ky 23) = (.int .i64 0, false) := by
  have hn : ∀ v, ¬ Has T (ky 6) v := by
    intro v hv
    obtain ⟨j, hj, e, _⟩ := (h.has _ _).1 hv
    have := ky_inj (by omega) (by omega) e
    omega
  obtain ⟨a1, a2, a3, a4, a5⟩ := put_new (z := .int .i64 0) h.inv (kv 6) hn
  have hg : 3 * T.row.length < 4 * (T.keys + 1) := by rw [h.len, h.keys]; omega
  rw [if_pos hg] at a4 a5
  refine ⟨by rw [a4, h.len], by rw [a5, h.len], a1, ?_, ?_⟩
  · refine get_has _ a1.i0 ((a2 _ _).2 (Or.inr ⟨fun e => by have := ky_inj (by omega) (by omega) e; omega, (h.has _ _).2 ⟨2, by omega, rfl, rfl⟩⟩))
  · refine get_none _ a1.i0 (fun v hv => ?_)
    rcases (a2 _ _).1 hv with ⟨e, _⟩ | ⟨_, h2⟩
    · have := ky_inj (by omega) (by omega) e; omega
    · obtain ⟨j, hj, e, _⟩ := (h.has _ _).1 h2
      have := ky_inj (by omega) (by omega) e; omega

theorem ky6 : ky 6 = ⟨#[103]⟩ := rfl
theorem ky2 : ky 2 = ⟨#[99]⟩ := rfl
theorem ky23 : ky 23 = ⟨#[120]⟩ := rfl
theorem tab_nil (W : World) (B : Nat) : (binOp .eql 31 (.pointer (some ⟨B, 0, none⟩)) (.pointer none)).run Try.prog W = .ok (.bool false) W := by kernel_rfl
theorem hash_a : (hashL (ky 0) : Int) = 12638187200555641996 := by decide +kernel
theorem hash_0 : (hashL none8 : Int) = 14695981039346656037 := by decide +kernel

set_option maxHeartbeats 1000000 in
set_option maxRecDepth 100000 in
theorem known_any (w : World) : Calls Try.prog 15 #[] w fun e w' => e = .returned (.bool true) ∧ Fr w w' (fun _ => False) := by
  have hbn := tab_nil
  have HA := hid (fun W => hash_any (ky 0) W (by rw [ky_size]; omega))
  rw [hash_a] at HA
  have H0 := hid (fun W => hash_any none8 W (by show 0 ≤ _; omega))
  rw [hash_0] at H0
  go_enter Try.func15, Try.ntmps15
  go_wp2_with fail
  refine (new_any _).mono ?_
  rintro e w1 ⟨rfl, hT1, hf1, hs1⟩
  have HT1 := hid hT1
  have HF1 := hid hf1
  clear hT1 hf1
  go_wp2_with fail
  refine (HA.out _).mono ?_
  rintro e w2 ⟨rfl, hw2⟩
  have hw2 := hw2.symm
  subst hw2
  go_wp2_with fail
  refine (H0.out _).mono ?_
  rintro e w2 ⟨rfl, hw2⟩
  have hw2 := hw2.symm
  subst hw2
  clear HA H0
  go_wp2_with fail
  go_loopg [2] 6 (fun gk s2 wx => ∃ (i gr : Nat) (ge : Option Nat) (T : Tb), s2 = .int .i64 (i : Int) ∧ i + gk = 6 ∧ Hid (Kn T i) ∧ Hid (TbAt wx (w.heap.size + 1) gr ge T) ∧ Hid (∀ b, bl (w.heap.size + 1) gr ge b → w.heap.size ≤ b) ∧ Hid (Fr w wx (fun _ => False)))
  case atStart => exact ⟨0, w.heap.size, none, newT (.int .i64 0), rfl, by omega, Kn.zero, HT1, (show ∀ b, bl (w.heap.size + 1) w.heap.size none b → w.heap.size ≤ b from fun b hb => by rcases hb with hb | hb | hb; omega; omega; cases hb), HF1⟩
  case round =>
    obtain ⟨i, gr, ge, T, rfl, hg, HK, HT, HB, HF⟩ := hrel
    have hlt := HT.out.lt
    cases gk with
    | zero =>
      have t1 : ¬ (i : Int) < 6 := by omega
      obtain rfl : i = 6 := by omega
      clear hg
      obtain ⟨l1, l2, l3, l4, l5⟩ := HK.out.last
      have HPut := hid (fun (W : World) (hW : TbAt W (w.heap.size + 1) gr ge T) => put_any (ky 6) 6 W hW HK.out.inv (by rw [ky_size]; omega) (by rw [HK.out.len]; omega))
      have hL3 := l3
      have HU : Hid (putT (.int .i64 0) T (ky 6) (.int .i64 6) = putT (.int .i64 0) T (ky 6) (kv 6)) := rfl
      rw [HU.out] at HPut
      generalize putT (.int .i64 0) T (ky 6) (kv 6) = U at *
      rw [ky6] at HPut
      rw [ky2] at l4
      rw [ky23] at l5
      have Hl1 := hid l1
      have Hl2 := hid l2
      have Hl4 := hid l4
      have Hl5 := hid l5
      clear l1 l2 l3 l4 l5 hL3
      go_wp2_with fail
      refine (len_any _ HT.out).mono ?_
      rintro e w2 ⟨rfl, hw2⟩
      have hw2 := hw2.symm
      subst hw2
      rw [HK.out.keys]
      go_wp2_with fail
      refine (slots_any _ HT.out).mono ?_
      rintro e w2 ⟨rfl, hw2⟩
      have hw2 := hw2.symm
      subst hw2
      rw [HK.out.len]
      go_wp2_with fail
      refine (left_any _ HT.out).mono ?_
      rintro e w3 ⟨rfl, hf3⟩
      rw [HK.out.left]
      have HT3 := hid (HT.out.step hf3)
      have HF3 := hid (HF.out.trans hf3)
      have hs3 := HF3.out.size
      clear hf3
      go_wp2_with fail
      refine (HPut.out _ HT3.out).mono ?_
      rintro e w4 ⟨rfl, ⟨gr', ge', hT4, _⟩, hf4⟩
      have HT4 := hid hT4
      have HF4 := hid (HF3.out.trans2 hf4 (fun b hb e => by have := HB.out b e; omega))
      clear hT4 hf4
      go_wp2_with fail
      refine (get_any _ _ HT4.out (by show 1 ≤ _; omega)).mono ?_
      rintro e w5 ⟨rfl, hw5⟩
      have hw5 := hw5.symm
      subst hw5
      rw [Hl4.out]
      unfold kv
      go_wp2_with fail
      refine (get_any _ _ HT4.out (by show 1 ≤ _; omega)).mono ?_
      rintro e w5 ⟨rfl, hw5⟩
      have hw5 := hw5.symm
      subst hw5
      rw [Hl5.out]
      go_wp2_with fail
      refine (slots_any _ HT4.out).mono ?_
      rintro e w5 ⟨rfl, hw5⟩
      have hw5 := hw5.symm
      subst hw5
      rw [Hl1.out]
      go_wp2_with fail
      refine (left_any _ HT4.out).mono ?_
      rintro e w6 ⟨rfl, hf6⟩
      rw [Hl2.out]
      have HF6 := hid (HF4.out.trans hf6)
      clear hf6
      go_wp2_with fail
      go_ret
      exact ⟨rfl, HF6.out⟩
    | succ f =>
      have t1 : (i : Int) < 6 := by omega
      have hi : i < 6 := by omega
      have HG := hid hg
      have hcv : (convert 64 9 (.slice (some ⟨wr.heap.size, 0, none⟩) 1 1)).run Try.prog (wr.alloc (.cells #[.int .u8 (97 + (i : Int))] 5)) = .ok (.string (ky i)) (wr.alloc (.cells #[.int .u8 (97 + (i : Int))] 5)) := by
        refine run_str8 Try.underlying64 Try.underlying5 Try.underlying9 (xs := [97 + i]) (Or.inr ⟨_, 1, rfl, ?_⟩)
        have := cells_new wr (.int .u8 (97 + (i : Int))) 5
        simpa [by8] using this
      have HPut := hid (fun (W : World) (hW : TbAt W (w.heap.size + 1) gr ge T) => put_any (ky i) (i : Int) W hW HK.out.inv (by rw [ky_size]; omega) (by rw [HK.out.len]; omega))
      have HKs := hid (HK.out.put hi)
      have HTa := hid (HT.out.step (alloc_fr wr (.cells #[.int .u8 (97 + (i : Int))] 5) (fun _ => False)))
      have HFa := hid (HF.out.alloc (.cells #[.int .u8 (97 + (i : Int))] 5))
      have hsz := HFa.out.size
      unfold kv at HKs
      generalize hkk : ky i = kk at *
      clear hg hkk
      go_wp2_with fail
      refine (HPut.out _ HTa.out).mono ?_
      rintro e w2 ⟨rfl, ⟨gr', ge', hT2, hnb⟩, hf2⟩
      have HT2 := hid hT2
      have HF2 := hid (HFa.out.trans2 hf2 (fun b hb e => by have := HB.out b e; omega))
      have HB2 := hid (show ∀ b, bl (w.heap.size + 1) gr' ge' b → w.heap.size ≤ b from fun b hb => by
        rcases hnb b hb with h | h
        · exact HB.out b h
        · omega)
      clear hT2 hf2 hnb
      go_wp2_with fail
      go_roundg f
      case measure => omega
      case rel => exact ⟨i + 1, gr', ge', _, by go_num, by have := HG.out; omega, HKs, HT2, HB2, HF2⟩
end Go.Proofs.Ytobigmcklecbnaa
