/- told: a Writer and the document's bytes of the same calls: a walk. -/
import Derived.Test.YtmadlmbpgkifoabRint
import Derived.Test.YtmadlmbpgkifoabCargs
import Derived.Test.YtmadlmbpgkifoabHead
import Derived.WalkSmall
namespace Go.Proofs.Ytmadlmbpgkifoab
open Go.RowKit

/-- A Writer at the first new block, and bytes beside it. -/
structure TW (w : World) (v bv : Value) (xs bs : List Nat) (wx : World) : Prop where
  wr : Wr 26 5 wx w.heap.size w.heap.size v xs
  own : wx.ownsRow w.heap.size 5 1 bv bs.length (by8 bs)
  ap : ∀ k, v.ownBlock = some k → bv.ownBlock ≠ some k
  below : Below w.heap.size w wx

theorem TW.bN {w : World} {v bv : Value} {xs bs : List Nat} {wx : World} (h : TW w v bv xs bs wx) : bv.ownBlock ≠ some w.heap.size := own_ne h.own h.wr.cell (by decide)
theorem TW.w {w : World} {v bv v' : Value} {xs bs ys : List Nat} {wx w' : World} (h : TW w v bv xs bs wx) (hw : Wr 26 5 w' w.heap.size w.heap.size v' ys) (hf : Fr wx w' (fun k => k = w.heap.size ∨ v.ownBlock = some k)) (hn : Nw wx v v') : TW w v' bv ys bs w' := by
  refine ⟨hw, own_fr h.own hf (fun k hk s => ?_), fun k hk e => ?_, h.below.trans (hf.below h.below.size (fun k s => ?_))⟩
  · rcases s with s | s
    · exact h.bN (by rw [← s]; exact hk)
    · exact h.ap k s hk
  · rcases hn k hk with s | s
    · exact h.ap k s e
    · have := (h.own.lt k e).2
      omega
  · rcases s with s | s
    · omega
    · exact (h.wr.own.lt k s).1
theorem TW.b {w : World} {v bv bv' : Value} {xs bs ys : List Nat} {wx w' : World} (h : TW w v bv xs bs wx) (ho : w'.ownsRow w.heap.size 5 1 bv' ys.length (by8 ys)) (hf : Fr wx w' (fun k => bv.ownBlock = some k)) (hn : Nw wx bv bv') : TW w v bv' xs ys w' := by
  refine ⟨h.wr.fr hf (fun s => h.bN s) (fun k hk s => h.ap k hk s), ho, fun k hk e => ?_, h.below.trans (hf.below h.below.size (fun k s => (h.own.lt k s).1))⟩
  rcases hn k e with s | s
  · exact h.ap k hk s
  · have := (h.wr.own.lt k hk).2
    omega
theorem TW.none {w : World} {v bv : Value} {xs bs : List Nat} {wx w' : World} (h : TW w v bv xs bs wx) (hf : Fr wx w' (fun _ => False)) : TW w v bv xs bs w' :=
  ⟨h.wr.fr hf (fun h => h) (fun _ _ h => h), own_fr h.own hf (fun _ _ h => h), h.ap, h.below.trans (hf.below h.below.size (fun _ h => h.elim))⟩

def ToldPost (w : World) (e : Ending) (w' : World) : Prop :=
  ∃ v bv xs, e = .returned (.tuple #[.pointer (some ⟨w.heap.size, 0, none⟩), bv]) ∧ TW w v bv xs xs w' ∧ xs.length ≤ 3000000

set_option maxHeartbeats 2000000 in
set_option maxRecDepth 100000 in
theorem told_any (lv : Value) (cs : List CallV) (w : World) (hl : Cls w lv cs) :
    Calls Try.prog 29 #[lv] w fun e w' => ToldPost w e w' := by
  obtain ⟨lao, lcap, rfl, hcl, hfine, hcells⟩ := hl
  have HC := hidR hcells
  have HFI := hidR hfine
  clear hcells hfine
  have HT0 : Hid (TW w (.slice none 0 0) (.slice none 0 0) [] [] (w.alloc (.cells #[.slice none 0 0] 26))) :=
    ⟨Wr.made w, World.ownsRow_nil _ _ _ _, fun k hk => by simp [Value.ownBlock] at hk, (Below.refl w.heap.size w).alloc (Nat.le_refl _) _⟩
  go_enter Try.func29, Try.ntmps29
  go_wp2_with fail
  go_loopw [5, 6] (fun b i wx => ∃ (k : Nat) (v : Value) (xs : List Nat), k ≤ cs.length ∧ i = .int .i64 (k : Int) ∧ Hid (TW w v b xs xs wx) ∧ xs.length ≤ 3000000) (fun _ i _ => cs.length - (intOf i).toNat)
  case atStart => exact ⟨0, _, [], Nat.zero_le _, rfl, HT0, by simp⟩
  case round =>
    obtain ⟨k, v, xs, hk, rfl, HT, hxl⟩ := hrel
    obtain ⟨aob, capb, rfl⟩ := own_nil_shape HT.out.own
    have hsz := HT.out.below.size
    by_cases hgo : k < cs.length ∧ xs.length < 1048576
    · obtain ⟨g1, g2⟩ := hgo
      obtain ⟨b, off, rfl, hcell⟩ := HC.out (by intro e; subst e; simp at g1)
      have hck := hcell k g1
      obtain ⟨c, hc⟩ : ∃ c, c = cs.getD k noCall := ⟨_, rfl⟩
      have hcm : c ∈ cs := by rw [hc]; simp only [List.getD, List.getElem?_eq_getElem g1, Option.getD_some]; exact List.getElem_mem g1
      have hcf := HFI.out c hcm
      rw [← hc] at hck
      have HCK := hidR (fun W (hW : Below w.heap.size w W) => hck.below hW rfl)
      obtain ⟨⟨n0, n1⟩, ⟨i0, i1⟩, _, hss⟩ := hcf
      clear hcell hck hc hcm
      have t1 : (k : Int) < (cs.length : Int) := by omega
      have t2 : (xs.length : Int) < 1048576 := by omega
      obtain ⟨d0, d1, d2, d3, _⟩ := HCK.out wr HT.out.below
      obtain ⟨kind, cn, ci, s, most⟩ := c
      simp only at n0 n1 i0 i1 hss d0 d1 d2 d3
      by_cases k1 : kind = 1
      · subst k1
        go_wp2_with fail
        refine (num_any w.heap.size w.heap.size v xs cn wr n0 n1 HT.out.wr hsz (by omega)).mono ?_
        rintro e w1 ⟨rfl, v1, hw1, hf1, hn1⟩
        have HT1 := hidR (HT.out.w hw1 hf1 hn1)
        have hs1 := hf1.size
        obtain ⟨e0, e1, e2, e3, _⟩ := HCK.out w1 HT1.out.below
        simp only at e0 e1 e2 e3
        clear hw1 hf1 hn1
        go_wp2_with fail
        refine (refnum_any w.heap.size _ xs cn w1 n0 n1 HT1.out.own (by omega) (by omega)).mono ?_
        rintro e w2 ⟨bv2, rfl, ho2, hf2, hn2⟩
        have HT2 := hidR (HT1.out.b ho2 hf2 hn2)
        have hl2 : (xs ++ numB cn).length ≤ 3000000 := by
          rw [List.length_append]; have := numB_length cn
          omega
        obtain ⟨ao2, cap2, rfl⟩ := own_nil_shape ho2
        clear ho2 hf2 hn2
        generalize xs ++ numB cn = ys at *
        go_wp2
        exact ⟨⟨k + 1, v1, ys, by omega, by go_num, HT2, hl2⟩, by simp [intOf]; omega⟩
      · have q1 : (kind == 1) = false := by simpa using k1
        by_cases k2 : kind = 2
        · subst k2
          go_wp2_with fail
          refine (int_any w.heap.size w.heap.size v xs ci wr i0 i1 HT.out.wr hsz (by omega)).mono ?_
          rintro e w1 ⟨rfl, v1, hw1, hf1, hn1⟩
          have HT1 := hidR (HT.out.w hw1 hf1 hn1)
          have hs1 := hf1.size
          obtain ⟨e0, e1, e2, e3, _⟩ := HCK.out w1 HT1.out.below
          simp only at e0 e1 e2 e3
          clear hw1 hf1 hn1
          go_wp2_with fail
          refine (refint_any w.heap.size _ xs ci w1 i0 i1 HT1.out.own (by omega) (by omega)).mono ?_
          rintro e w2 ⟨bv2, rfl, ho2, hf2, hn2⟩
          have HT2 := hidR (HT1.out.b ho2 hf2 hn2)
          have hl2 : (xs ++ intB ci).length ≤ 3000000 := by
            rw [List.length_append]; have := intB_length ci
            omega
          obtain ⟨ao2, cap2, rfl⟩ := own_nil_shape ho2
          clear ho2 hf2 hn2
          generalize xs ++ intB ci = ys at *
          go_wp2
          exact ⟨⟨k + 1, v1, ys, by omega, by go_num, HT2, hl2⟩, by simp [intOf]; omega⟩
        · have q2 : (kind == 2) = false := by simpa using k2
          by_cases k3 : kind = 3
          · subst k3
            go_wp2_with fail
            refine (text_any w.heap.size w.heap.size v xs s wr HT.out.wr hsz (by omega)).mono ?_
            rintro e w1 ⟨rfl, v1, hw1, hf1, hn1⟩
            have HT1 := hidR (HT.out.w hw1 hf1 hn1)
            have hs1 := hf1.size
            obtain ⟨e0, e1, e2, e3, _⟩ := HCK.out w1 HT1.out.below
            simp only at e0 e1 e2 e3
            clear hw1 hf1 hn1
            go_wp2_with fail
            refine (reftext_any w.heap.size _ xs s w1 HT1.out.own (by omega) (by omega)).mono ?_
            rintro e w2 ⟨bv2, rfl, ho2, hf2, hn2⟩
            have HT2 := hidR (HT1.out.b ho2 hf2 hn2)
            have hl2 : (xs ++ numB s.size ++ nums8 s).length ≤ 3000000 := by
              rw [List.length_append, List.length_append, nums8_length]; have := numB_length s.size
              omega
            obtain ⟨ao2, cap2, rfl⟩ := own_nil_shape ho2
            clear ho2 hf2 hn2
            generalize xs ++ numB s.size ++ nums8 s = ys at *
            go_wp2
            exact ⟨⟨k + 1, v1, ys, by omega, by go_num, HT2, hl2⟩, by simp [intOf]; omega⟩
          · have q3 : (kind == 3) = false := by simpa using k3
            go_wp2
            exact ⟨⟨k + 1, v, xs, by omega, by go_num, HT, hxl⟩, by simp [intOf]; omega⟩
    · by_cases g1 : k < cs.length
      · have t1 : (k : Int) < (cs.length : Int) := by omega
        have t2 : ¬ (xs.length : Int) < 1048576 := by omega
        go_wp2
        go_ret2
        exact ⟨v, _, xs, rfl, HT.out, hxl⟩
      · have t1 : ¬ (k : Int) < (cs.length : Int) := by omega
        go_wp2
        go_ret2
        exact ⟨v, _, xs, rfl, HT.out, hxl⟩
end Go.Proofs.Ytmadlmbpgkifoab
