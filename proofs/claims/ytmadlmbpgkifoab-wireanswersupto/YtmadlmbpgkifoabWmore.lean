/- The Writer's calls Num, Int, Text, Bytes, and bytes.Clone: walks. -/
import Derived.Test.YtmadlmbpgkifoabWbits
import Derived.Lib.SliceRun
namespace Go.Proofs.Ytmadlmbpgkifoab
open Go.RowKit

/-- What Num lays. -/
def numB (n : Int) : List Nat := sev 9 n.toNat
/-- What Int lays: the sign in the lowest bit. -/
def intB (n : Int) : List Nat := sev 9 (zig n)
theorem numB_length (n : Int) : (numB n).length ≤ 10 := (sev_length 9 _).1
theorem intB_length (n : Int) : (intB n).length ≤ 10 := (sev_length 9 _).1

def WrPost (w : World) (base B : Nat) (v : Value) (ys : List Nat) (e : Ending) (w' : World) : Prop :=
  e = .returned (.tuple #[]) ∧ ∃ v', Wr 26 5 w' base B v' ys ∧ Fr w w' (fun k => k = B ∨ v.ownBlock = some k) ∧ Nw w v v'

set_option maxHeartbeats 800000 in
set_option maxRecDepth 100000 in
theorem num_any (base B : Nat) (v : Value) (xs : List Nat) (n : Int) (w : World) (h0 : -9223372036854775808 ≤ n) (h1 : n ≤ 9223372036854775807) (hB : Wr 26 5 w base B v xs) (hb : base ≤ w.heap.size) (hl : xs.length + 10 ≤ 140737488355328) :
    Calls Try.prog 9 #[.pointer (some ⟨B, 0, none⟩), .int .i64 n] w fun e w' => WrPost w base B v (xs ++ numB n) e w' := by
  by_cases hn : 0 ≤ n
  · obtain ⟨m, rfl⟩ := Int.eq_ofNat_of_zero_le hn
    go_enter Try.func9, Try.ntmps9
    go_wp2_with fail
    refine (bits_any base B v xs m w (by omega) hB hb hl).mono ?_
    rintro e w' ⟨rfl, hp⟩
    have HP : Hid (WrPost w base B v (xs ++ numB (m : Int)) (.returned (.tuple #[])) w') := ⟨rfl, hp⟩
    clear hp
    go_wp2
    go_end0
    exact HP.out
  · have hn' : n < 0 := by omega
    go_enter Try.func9, Try.ntmps9
    go_wp2_with fail
    refine (bits_any base B v xs 0 w (by omega) hB hb hl).mono ?_
    rintro e w' ⟨rfl, hp⟩
    have HP : Hid (WrPost w base B v (xs ++ numB n) (.returned (.tuple #[])) w') := ⟨rfl, by rw [numB, show n.toNat = 0 from by omega]; exact hp⟩
    clear hp
    go_wp2
    go_end0
    exact HP.out

set_option maxHeartbeats 800000 in
set_option maxRecDepth 100000 in
theorem int_any (base B : Nat) (v : Value) (xs : List Nat) (n : Int) (w : World) (h0 : -9223372036854775808 ≤ n) (h1 : n ≤ 9223372036854775807) (hB : Wr 26 5 w base B v xs) (hb : base ≤ w.heap.size) (hl : xs.length + 10 ≤ 140737488355328) :
    Calls Try.prog 10 #[.pointer (some ⟨B, 0, none⟩), .int .i64 n] w fun e w' => WrPost w base B v (xs ++ intB n) e w' := by
  have hz := zig_lt n h0 h1
  have Hz : Hid (zig n < 2 * 128 ^ 9) := by show zig n < 2 * 128 ^ 9; omega
  clear hz
  by_cases hn : 0 ≤ n
  · have H := zig_pos n hn h1
    have HZ : Hid (Go.bits .xor .u64 (n * 2) (n / 9223372036854775808) = (zig n : Int)) := H
    clear H
    go_enter Try.func10, Try.ntmps10
    go_wp2_with fail
    rw [HZ.out]
    refine (bits_any base B v xs (zig n) w Hz.out hB hb hl).mono ?_
    rintro e w' ⟨rfl, hp⟩
    have HP : Hid (WrPost w base B v (xs ++ intB n) (.returned (.tuple #[])) w') := ⟨rfl, hp⟩
    clear hp
    go_wp2
    go_end0
    exact HP.out
  · have hn' : n < 0 := by omega
    have H := zig_neg n h0 hn'
    have HZ : Hid (Go.bits .xor .u64 (IntKind.u64.wrap (IntKind.u64.wrap n * 2)) (IntKind.u64.wrap (n / 9223372036854775808)) = (zig n : Int)) := H
    clear H
    go_enter Try.func10, Try.ntmps10
    go_wp2_with fail
    rw [HZ.out]
    refine (bits_any base B v xs (zig n) w Hz.out hB hb hl).mono ?_
    rintro e w' ⟨rfl, hp⟩
    have HP : Hid (WrPost w base B v (xs ++ intB n) (.returned (.tuple #[])) w') := ⟨rfl, hp⟩
    clear hp
    go_wp2
    go_end0
    exact HP.out

set_option maxHeartbeats 800000 in
set_option maxRecDepth 100000 in
theorem text_any (base B : Nat) (v : Value) (xs : List Nat) (s : ByteArray) (w : World) (hB : Wr 26 5 w base B v xs) (hb : base ≤ w.heap.size) (hl : xs.length + s.size + 10 ≤ 140737488355328) :
    Calls Try.prog 11 #[.pointer (some ⟨B, 0, none⟩), .string s] w fun e w' => WrPost w base B v (xs ++ numB s.size ++ nums8 s) e w' := by
  obtain ⟨i0, hi, hz0, hz1, hz2⟩ := info_parts Try.info5
  have hnl := numB_length s.size
  go_enter Try.func11, Try.ntmps11
  go_wp2_with fail
  refine (num_any base B v xs (s.size : Int) w (by omega) (by omega) hB hb (by omega)).mono ?_
  rintro e w1 ⟨rfl, v1, hW, hfr, hnw⟩
  have hly : (xs ++ numB s.size).length ≤ xs.length + 10 := by rw [List.length_append]; omega
  have Hfr : Hid (Fr w w1 (fun k => k = B ∨ v.ownBlock = some k)) := hfr
  have hs1 := hfr.size
  have Hnw : Hid (Nw w v v1) := hnw
  clear hfr hnw
  generalize hys : xs ++ numB s.size = ys at *
  have Hys : Hid (xs ++ numB s.size = ys) := hys
  clear hys hB
  obtain ⟨ao, cap, rfl⟩ := own_nil_shape hW.own
  have hc := cell_of_one hW.cell
  have hf := free_of_one hW.cell
  have ho := hW.own
  go_wp2_with (at_builtin; go_must (refine wpList_append_str_at _ rfl (.tmp 12) (.tmp 13) 24 9 rfl base 5 i0 Try.underlying24 Try.underlying9 hi hz0 hz1 hz2 _ _ _ rfl ho s rfl ?c4 ?c5 ?_))
  case c4 => omega
  case c5 => omega
  intro v' w2 hown hgrow hat
  rw [nums8_cells] at hown
  have S := wr_step (cs := nums8 s) (by decide) Hfr.out Hnw.out hW (Fr.refl w1 _) (nums8_length s) hown hgrow hat rfl
  obtain ⟨ao', cap', rfl⟩ := own_nil_shape hown
  have hc1 := cell_of_one S.2.2.2
  have hf1 := free_of_one S.2.2.2
  have HS : Hid (WrPost w base B v (ys ++ nums8 s) (.returned (.tuple #[])) (w2.setCell ⟨B, 0, none⟩ (.slice ao' (ys.length + s.size) cap'))) := ⟨rfl, _, S.1, S.2.1, S.2.2.1⟩
  clear S hown hgrow hat ho hW hc hf
  go_wp2
  go_end0
  rw [Hys.out]
  exact HS.out

/-- bytes.Clone: the same bytes in new memory. -/
def FreshPost (w : World) (xs : List Nat) (e : Ending) (w' : World) : Prop :=
  ∃ v', e = .returned v' ∧ w'.ownsRow w.heap.size 5 1 v' xs.length (by8 xs) ∧ Fr w w' (fun _ => False)

set_option maxHeartbeats 800000 in
set_option maxRecDepth 100000 in
theorem clone_any (sv : Value) (xs : List Nat) (w : World) (hs : Bs w sv xs) (hl : xs.length ≤ 140737488355328) :
    Calls Try.prog 34 #[sv] w fun e w' => FreshPost w xs e w' := by
  obtain ⟨i0, hi, hz0, hz1, hz2⟩ := info_parts Try.info5
  have hq := fun (w : World) (a : Option Addr) (n c : Nat) => Lib.run_eql_slice_nil (P := Try.prog) w 24 5 a n c 0 0 Try.underlying24
  rcases hs with ⟨rfl, rfl⟩ | ⟨a, cap, rfl, hs⟩
  · go_enter Try.func34, Try.ntmps34
    go_wp2
    go_ret
    exact ⟨_, rfl, World.ownsRow_nil _ _ _ _, Fr.refl _ _⟩
  · have ho : (w.alloc (.cells #[] 5)).ownsRow w.heap.size 5 1 (.slice (some ⟨w.heap.size, 0, none⟩) 0 0) 0 [] := World.ownsRow_made w #[] 0 (Nat.le_refl _) (by unfold maxLen; omega) rfl
    have Hcells : Hid (∀ j u, (by8 xs)[j]? = some u → (w.alloc (.cells #[] 5)).cell? (a.add j) = some u) := fun j u hu => by
      rw [World.cell?_of_block (w := w) (Below.heap_alloc w _ _ (World.block_lt_of_cell? w _ (hs j u hu)))]
      exact hs j u hu
    clear hs
    go_enter Try.func34, Try.ntmps34
    go_wp2_with (at_builtin; go_must (refine wpList_append_own_at _ rfl (.tmp 5) (.tmp 6) 24 rfl w.heap.size 5 i0 (.int .u8 0) 1 1 Try.underlying24 hi hz0 hz1 hz2 rfl (by decide) _ _ _ rfl ho a xs.length cap (by8 xs) rfl (by rw [by8_length, Nat.mul_one]) Hcells.out (by8_one xs) ?c3 ?c4 ?c5 ?_))
    case c3 => unfold maxLen; omega
    case c4 => omega
    case c5 => simp
    intro v' w1 hown hgrow _ hat
    have HP : Hid (FreshPost w xs (.returned v') w1) := ⟨v', rfl, by simpa using hown, ((Fr.refl w _).alloc _).grown hgrow (fun k hk e => by simp [Value.ownBlock] at e; omega)⟩
    obtain ⟨ao', cap', rfl⟩ := own_nil_shape hown
    clear hown hgrow hat ho
    go_wp2
    go_ret
    exact HP.out

set_option maxHeartbeats 800000 in
set_option maxRecDepth 100000 in
theorem bytes_any (base B : Nat) (v : Value) (xs : List Nat) (w : World) (hB : Wr 26 5 w base B v xs) (hl : xs.length ≤ 140737488355328) :
    Calls Try.prog 12 #[.pointer (some ⟨B, 0, none⟩)] w fun e w' => FreshPost w xs e w' := by
  obtain ⟨ao, cap, rfl⟩ := own_nil_shape hB.own
  have hc := cell_of_one hB.cell
  have hs := own_bs hB.own
  have Hs : Hid (Bs w (.slice ao xs.length cap) xs) := hs
  clear hs hB
  go_enter Try.func12, Try.ntmps12
  go_wp2_with fail
  refine (clone_any _ xs _ Hs.out hl).mono ?_
  rintro e w' ⟨v', rfl, hown, hfr⟩
  have HP : Hid (FreshPost w xs (.returned v') w') := ⟨v', rfl, hown, hfr⟩
  obtain ⟨ao', cap', rfl⟩ := own_nil_shape hown
  clear hown hfr
  go_wp2
  go_ret
  exact HP.out
end Go.Proofs.Ytmadlmbpgkifoab
