/- The laws' words: texts that rise as numbers do: a walk. Written by wip/gen/genwords.py. -/
import Derived.Test.YtilgkfpicdmkkaaJoin20
import Derived.Test.YtilgkfpicdmkkaaJoin21
import Derived.Test.YtilgkfpicdmkkaaJoin12
import Derived.Deep.OwnRows
namespace Go.Proofs.Ytilgkfpicdmkkaa.M
open Go.RowKit

/-- A number that may be an int. -/
def Fit (x : Int) : Prop := -9223372036854775808 ≤ x ∧ x < 9223372036854775808
/-- A number's text. -/
def wd (x : Int) : ByteArray := str8 (be 8 (x + 9223372036854775808).toNat)
theorem wd_cb {x y : Int} (hx : Fit x) (hy : Fit y) : cb (nums8 (wd x)) (nums8 (wd y)) = cmpI x y := by
  unfold wd
  unfold Fit at hx hy
  rw [nums8_str8 (be_byte 8 _), nums8_str8 (be_byte 8 _), cb_be, Nat.mod_eq_of_lt (by omega), Nat.mod_eq_of_lt (by omega)]
  unfold cmpI
  repeat' split
  all_goals omega
theorem add_sgn (s : Int) (h : Fit s) : IntKind.u64.wrap (IntKind.u64.wrap s + 9223372036854775808) = ((s + 9223372036854775808).toNat : Int) := by
  unfold Fit at h
  have h0 : IntKind.u64.wrap s = s % 18446744073709551616 := by simp [IntKind.wrap, IntKind.bits, IntKind.signed]
  have h1 : ∀ t, IntKind.u64.wrap t = t % 18446744073709551616 := fun t => by simp [IntKind.wrap, IntKind.bits, IntKind.signed]
  rw [h1, h0]
  omega
/-- Eight bytes, of which the first ones are laid. -/
def bl (st : Nat) (i : Nat) : List Nat := (be 8 st).take i ++ List.replicate (8 - i) 0
theorem bl_len (st i : Nat) (h : i ≤ 8) : (bl st i).length = 8 := by
  unfold bl
  rw [List.length_append, List.length_take, be_len, List.length_replicate]
  omega
theorem bl_end (st : Nat) : bl st 8 = be 8 st := by
  unfold bl
  rw [List.take_of_length_le (by rw [be_len]; exact Nat.le_refl _)]
  simp
theorem bl_step (st i : Nat) (hi : i < 8) : (by8 (bl st i)).set i (.int .u8 ((st / 2 ^ (56 - 8 * i) % 256 : Nat) : Int)) = by8 (bl st (i + 1)) := by
  unfold by8
  rw [← List.map_set (f := fun c : Nat => Value.int .u8 (c : Int)) (a := st / 2 ^ (56 - 8 * i) % 256)]
  congr 1
  unfold bl
  rw [be8_step st i hi, List.append_assoc]
  have e : (List.take i (be 8 st)).length = i := by rw [List.length_take, be_len]; omega
  rw [List.set_append_right _ _ (by omega), e, Nat.sub_self]
  congr 1
  rw [show 8 - i = (8 - (i + 1)) + 1 by omega, List.replicate_succ, List.set_cons_zero]
  rfl
theorem Try.info_b : (Try.prog.info? 5).map (fun i => (i.zero, i.size, i.bytes)) = some (some (.int .u8 0), 1, 1) := by kernel_rfl
theorem made_b (w : World) (st : Nat) : (w.alloc (.cells (madeCells #[Value.int .u8 0] 8) 5)).ownsRow w.heap.size 5 1 (.slice (some ⟨w.heap.size, 0, none⟩) 8 8) 8 (by8 (bl st 0)) := by
  have e : madeCells #[Value.int .u8 0] 8 = (by8 (bl st 0)).toArray := by
    apply Array.ext'
    apply List.ext_getElem
    · simp [madeCells, by8, bl]
    · intro i h1 h2
      have hi : i < 8 := by simpa [by8, bl] using h2
      have hc : i = 0 ∨ i = 1 ∨ i = 2 ∨ i = 3 ∨ i = 4 ∨ i = 5 ∨ i = 6 ∨ i = 7 := by omega
      simp only [madeCells, by8, bl]
      rcases hc with rfl | rfl | rfl | rfl | rfl | rfl | rfl | rfl <;> simp
  rw [e]
  have := World.ownsRow_lit (size := 1) (e := 5) w (by8 (bl st 0)).toArray 8 (Nat.le_refl _) (by unfold maxLen; omega) (by simp [by8, bl])
  simpa [by8, bl] using this

set_option maxHeartbeats 8000000 in
set_option maxRecDepth 100000 in
theorem words_any {L : List Int} {v : Value} (w : World) (hv : RdI w v L) (hb : ∀ x ∈ L, Fit x) (hl9 : L.length ≤ 1000000) :
    Calls Try.prog 19 #[v] w fun r w' => ∃ u, r = .returned u ∧ T.Eo w w' u (L.map wd) := by
  obtain ⟨ao, cap, rfl, hl, hv⟩ := hv
  have HV := hid hv
  have HB := hid hb
  clear hv hb
  go_enter Try.func19, Try.ntmps19
  go_wp2_with fail
  go_loopg [3, 4] L.length (fun g s3 s4 wx => ∃ i : Nat, s4 = .int .i64 (i : Int) ∧ i + g = L.length ∧ Hid (T.Eo w wx s3 ((L.take i).map wd)))
  case atStart => exact ⟨0, rfl, by omega, ⟨rfl, Or.inl ⟨rfl, rfl⟩⟩, Fr.refl _ _⟩
  case round =>
    obtain ⟨i, rfl, hg, HO⟩ := hrel
    obtain ⟨a3, c3, e3⟩ := T.Eo.shape HO.out
    cases gk with
    | zero =>
      have hi : i = L.length := by omega
      have HE : Hid (T.Eo w wr u3 (L.map wd)) := by
        have := HO.out
        rw [hi, List.take_length] at this
        exact this
      have t1 : ¬ (i : Int) < (L.length : Int) := by omega
      clear hg hi e3
      go_wp2_with fail
      go_ret
      exact ⟨_, rfl, HE.out⟩
    | succ go =>
      generalize wr = Wa at *
      have t0 : (0 : Int) ≤ (i : Int) := by omega
      have t1 : (i : Int) < (L.length : Int) := by omega
      have HG := hid hg
      obtain ⟨b, o, rfl, hel⟩ := HV.out (by omega)
      have hx := ci_fr (hel i (by omega)) HO.out.2
      have hxl := World.block_lt_of_cell? _ _ hx
      have hiL : i < L.length := by omega
      have HFx : Hid (Fit (L[i]?.getD default)) := HB.out _ (by rw [List.getElem?_eq_getElem hiL]; exact List.getElem_mem hiL)
      have HTk : Hid ((L.take (i + 1)).map wd = (L.take i).map wd ++ [wd (L[i]?.getD default)]) := by
        show _ = _
        rw [List.take_add_one, List.getElem?_eq_getElem hiL, List.map_append]
        rfl
      have hDl : ((L.take i).map wd).length ≤ 1000000 := by rw [List.length_map, List.length_take]; omega
      clear hg hel hiL
      generalize L[i]?.getD default = x at *
      have HAd := hid (add_sgn x HFx.out)
      have HWd : Hid (wd x = str8 (be 8 (x + 9223372036854775808).toNat)) := rfl
      have hst : (x + 9223372036854775808).toNat < 18446744073709551616 := by have := HFx.out; unfold Fit at this; omega
      generalize (x + 9223372036854775808).toNat = st at *
      generalize hD : (L.take i).map wd = D at *
      have HD := hid hD
      clear hD
      subst e3
      have HM := hid (made_b Wa st)
      have HF0 := hid (alloc_fr Wa (.cells (madeCells #[Value.int .u8 0] 8) 5) (fun _ => False))
      have hmk : (Instr.makeSlice 76 (.int .i64 8) (.int .i64 8)).run Try.prog Wa = .ok (.slice (some ⟨Wa.heap.size, 0, none⟩) 8 8) (Wa.alloc (.cells (madeCells #[Value.int .u8 0] 8) 5)) := run_make_row' (P := Try.prog) 76 5 (.int .u8 0) 1 Try.underlying76 Try.info_b rfl .i64 .i64 8 (by omega) (by omega) Wa
      go_wp2_with fail
      rw [HAd.out]
      generalize hN : Wa.heap.size = N at *
      generalize Wa.alloc (.cells (madeCells #[Value.int .u8 0] 8) 5) = W1 at *
      clear hmk hx hxl
      go_loopg [7] 8 (fun g s7 wx => ∃ k : Nat, s7 = .int .i64 (k : Int) ∧ k + g = 8 ∧ Hid (wx.ownsRow N 5 1 (.slice (some ⟨N, 0, none⟩) 8 8) 8 (by8 (bl st k))) ∧ Hid (Fr Wa wx (fun _ => False)))
      case atStart => exact ⟨0, rfl, by omega, HM, HF0⟩
      case round =>
        obtain ⟨k, rfl, hk, HR, HF⟩ := hrel
        clear HM HF0
        cases gk with
        | zero =>
          obtain rfl : k = 8 := by omega
          have h8 := HR.out
          rw [bl_end] at h8
          have hcv := run_str8 Try.underlying76 Try.underlying5 Try.underlying9 (own_bs (xs := be 8 st) (by rw [be_len]; exact h8))
          rw [← HWd.out] at hcv
          clear hk h8
          have HO2 := hid (T.Eo.fr HO.out HF.out)
          go_wp2_with (at_builtin; go_must (refine T.wpl_eo (wb := w) rfl (.tmp 34) (.tmp 37) rfl _ D rfl wr.heap.size (wd x) rfl ?c1 ?c2 ?c3 ?_))
          case c1 => omega
          case c2 => exact T.Eo.fr HO2.out (alloc_fr _ _ _)
          case c3 => exact cell_of_one (heap_last wr (.cells #[.string (wd x)] 9) _ rfl)
          intro v2 w4 hE4 hg4
          have HE4 : Hid (T.Eo w w4 v2 ((L.take (i + 1)).map wd)) := by
            show T.Eo w w4 v2 _
            rw [HTk.out]
            exact hE4
          clear hE4 hg4
          go_wp2_with fail
          go_roundg go
          case measure => omega
          case rel => exact ⟨i + 1, by go_num, by have := HG.out; omega, HE4⟩
        | succ g2 =>
          have HK := hid hk
          obtain ⟨f1, f2⟩ := own_freeN HR.out
          obtain ⟨cv, f3⟩ := own_atN HR.out k (by omega)
          have HS := hid (bl_step st k (by omega))
          have HRn := hid (own_setN HR.out (g := N) rfl k (.int .u8 ((st / 2 ^ (56 - 8 * k) % 256 : Nat) : Int)))
          rw [HS.out] at HRn
          have HNN := hid hN
          have hk8 : k < 8 := by omega
          have HRz := hid (fun (z : Int) (hz : ((st / 2 ^ (56 - 8 * k) % 256 : Nat) : Int) = z) => (show (wr.setCell ⟨N, k, none⟩ (.int .u8 z)).ownsRow N 5 1 (.slice (some ⟨N, 0, none⟩) 8 8) 8 (by8 (bl st (k + 1))) from hz ▸ HRn.out))
          clear hk HS HR hN HRn
          have hcases : k = 0 ∨ k = 1 ∨ k = 2 ∨ k = 3 ∨ k = 4 ∨ k = 5 ∨ k = 6 ∨ k = 7 := by omega
          rcases hcases with rfl | rfl | rfl | rfl | rfl | rfl | rfl | rfl
          · go_wp2_with fail
            go_roundg g2
            case measure => omega
            case rel => exact ⟨1, by go_num, by have := HK.out; omega, HRz.out _ (by rw [show (2 : Nat) ^ (56 - 8 * 0) = 72057594037927936 by decide]; omega), HF.out.setCell (p := ⟨N, 0, none⟩) (fun h => by have := HNN.out; simp only at h; omega) _⟩
          · go_wp2_with fail
            go_roundg g2
            case measure => omega
            case rel => exact ⟨2, by go_num, by have := HK.out; omega, HRz.out _ (by rw [show (2 : Nat) ^ (56 - 8 * 1) = 281474976710656 by decide]; omega), HF.out.setCell (p := ⟨N, 1, none⟩) (fun h => by have := HNN.out; simp only at h; omega) _⟩
          · go_wp2_with fail
            go_roundg g2
            case measure => omega
            case rel => exact ⟨3, by go_num, by have := HK.out; omega, HRz.out _ (by rw [show (2 : Nat) ^ (56 - 8 * 2) = 1099511627776 by decide]; omega), HF.out.setCell (p := ⟨N, 2, none⟩) (fun h => by have := HNN.out; simp only at h; omega) _⟩
          · go_wp2_with fail
            go_roundg g2
            case measure => omega
            case rel => exact ⟨4, by go_num, by have := HK.out; omega, HRz.out _ (by rw [show (2 : Nat) ^ (56 - 8 * 3) = 4294967296 by decide]; omega), HF.out.setCell (p := ⟨N, 3, none⟩) (fun h => by have := HNN.out; simp only at h; omega) _⟩
          · go_wp2_with fail
            go_roundg g2
            case measure => omega
            case rel => exact ⟨5, by go_num, by have := HK.out; omega, HRz.out _ (by rw [show (2 : Nat) ^ (56 - 8 * 4) = 16777216 by decide]; omega), HF.out.setCell (p := ⟨N, 4, none⟩) (fun h => by have := HNN.out; simp only at h; omega) _⟩
          · go_wp2_with fail
            go_roundg g2
            case measure => omega
            case rel => exact ⟨6, by go_num, by have := HK.out; omega, HRz.out _ (by rw [show (2 : Nat) ^ (56 - 8 * 5) = 65536 by decide]; omega), HF.out.setCell (p := ⟨N, 5, none⟩) (fun h => by have := HNN.out; simp only at h; omega) _⟩
          · go_wp2_with fail
            go_roundg g2
            case measure => omega
            case rel => exact ⟨7, by go_num, by have := HK.out; omega, HRz.out _ (by rw [show (2 : Nat) ^ (56 - 8 * 6) = 256 by decide]; omega), HF.out.setCell (p := ⟨N, 6, none⟩) (fun h => by have := HNN.out; simp only at h; omega) _⟩
          · go_wp2_with fail
            go_roundg g2
            case measure => omega
            case rel => exact ⟨8, by go_num, by have := HK.out; omega, HRz.out _ (by rw [show (2 : Nat) ^ (56 - 8 * 7) = 1 by decide]; omega), HF.out.setCell (p := ⟨N, 7, none⟩) (fun h => by have := HNN.out; simp only at h; omega) _⟩
end Go.Proofs.Ytilgkfpicdmkkaa.M
