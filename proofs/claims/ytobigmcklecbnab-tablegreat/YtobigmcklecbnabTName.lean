/- spatelaw6.name: the n-th key: a walk. -/
import Derived.Test.YtobigmcklecbnabTKnown
import Derived.Lib.ConvBytes
import Derived.ArgAppend
import Derived.Deep.DeepMust
namespace Go.Proofs.Ytobigmcklecbnab
open Go.RowKit

/-- The digits of a number, the last one first. -/
def dg (m : Nat) : List Nat := (48 + m % 10) :: (if h : m / 10 = 0 then [] else dg (m / 10))
termination_by m
decreasing_by omega
theorem dg_eq (m : Nat) : dg m = (48 + m % 10) :: (if m / 10 = 0 then [] else dg (m / 10)) := by
  rw [dg]
  split <;> rfl
theorem dg_inj : ∀ m n : Nat, dg m = dg n → m = n := by
  intro m
  induction m using Nat.strongRecOn with
  | _ m ih =>
    intro n h
    rw [dg_eq m, dg_eq n] at h
    simp only [List.cons.injEq] at h
    obtain ⟨h1, h2⟩ := h
    have hne : ∀ q, dg q ≠ [] := fun q => by rw [dg_eq]; simp
    by_cases hm : m / 10 = 0
    · by_cases hn : n / 10 = 0
      · omega
      · rw [if_pos hm, if_neg hn] at h2
        exact absurd h2.symm (hne _)
    · by_cases hn : n / 10 = 0
      · rw [if_neg hm, if_pos hn] at h2
        exact absurd h2 (hne _)
      · rw [if_neg hm, if_neg hn] at h2
        have := ih (m / 10) (by omega) _ h2
        omega
theorem dg_len : ∀ m : Nat, (dg m).length ≤ m + 1 := by
  intro m
  induction m using Nat.strongRecOn with
  | _ m ih =>
    rw [dg_eq]
    split
    · simp
    · have := ih (m / 10) (by omega)
      simp only [List.length_cons]
      omega
theorem dg_lt : ∀ m : Nat, ∀ c ∈ dg m, c < 256 := by
  intro m
  induction m using Nat.strongRecOn with
  | _ m ih =>
    intro c hc
    rw [dg_eq] at hc
    rcases List.mem_cons.1 hc with rfl | hc
    · omega
    · split at hc
      · simp at hc
      · exact ih (m / 10) (by omega) c hc
def sb (s : ByteArray) : List Nat := s.data.toList.map UInt8.toNat
theorem sb_len (s : ByteArray) : (sb s).length = s.size := by unfold sb; rw [List.length_map]; rfl
theorem sb_lt (s : ByteArray) : ∀ c ∈ sb s, c < 256 := by
  intro c hc
  simp only [sb, List.mem_map] at hc
  obtain ⟨b, _, rfl⟩ := hc
  exact UInt8.toNat_lt b
/-- The n-th key. -/
def nk (s : ByteArray) (m : Nat) : ByteArray := str8 (sb s ++ dg m)
theorem str8_inj {xs ys : List Nat} (hx : ∀ c ∈ xs, c < 256) (hy : ∀ c ∈ ys, c < 256) (h : str8 xs = str8 ys) : xs = ys := by
  have key : ∀ zs : List Nat, (∀ c ∈ zs, c < 256) → (str8 zs).data.toList.map UInt8.toNat = zs := by
    intro zs hz
    simp only [str8, List.toList_toArray, List.map_map]
    conv => rhs; rw [← List.map_id zs]
    apply List.map_congr_left
    intro c hc
    have := hz c hc
    simp
    omega
  rw [← key xs hx, ← key ys hy, h]
theorem nk_inj {s : ByteArray} {m n : Nat} (h : nk s m = nk s n) : m = n := by
  have h1 := str8_inj (fun c hc => by rcases List.mem_append.1 hc with h | h; exact sb_lt s c h; exact dg_lt m c h) (fun c hc => by rcases List.mem_append.1 hc with h | h; exact sb_lt s c h; exact dg_lt n c h) h
  exact dg_inj m n (List.append_cancel_left h1)
theorem nk_size (s : ByteArray) (m : Nat) (hs : s.size ≤ 100) (hm : m ≤ 30001) : (nk s m).size ≤ 9223372036854775807 := by
  rw [nk, str8_size, List.length_append, sb_len]
  have := dg_len m
  omega

/-- Bytes at a slice of the call's own, with room behind them. -/
def Nm (w : World) (N : Nat) (v : Value) (xs : List Nat) : Prop :=
  ∃ g cap, v = .slice (some ⟨g, 0, none⟩) xs.length cap ∧ N ≤ g ∧ g < w.heap.size ∧ xs.length ≤ cap ∧ (∀ j, j < xs.length → w.cell? ⟨g, j, none⟩ = some (.int .u8 (xs.getD j 0 : Int))) ∧ (∀ j, xs.length ≤ j → j < cap → (w.cell? ⟨g, j, none⟩).isSome = true ∧ w.frozen? ⟨g, j, none⟩ = false)
theorem Nm.fr {w w' : World} {N : Nat} {v : Value} {xs : List Nat} (h : Nm w N v xs) (hf : Fr w w' (fun _ => False)) : Nm w' N v xs := by
  obtain ⟨g, cap, rfl, h1, h2, h3, h4, h5⟩ := h
  have hr := fr_rules hf
  refine ⟨g, cap, rfl, h1, Nat.lt_of_lt_of_le h2 hf.size, h3, fun j hj => ?_, fun j hj hc => ?_⟩
  · rw [hr.1 _ _ h2]; exact h4 j hj
  · rw [hr.1 _ _ h2, hr.2 _ _ h2]; exact h5 j hj hc
theorem Nm.bs {w : World} {N : Nat} {v : Value} {xs : List Nat} (h : Nm w N v xs) : Bs w v xs := by
  obtain ⟨g, cap, rfl, h1, h2, h3, h4, h5⟩ := h
  refine Or.inr ⟨⟨g, 0, none⟩, cap, rfl, fun j u hu => ?_⟩
  have hj : j < xs.length := by
    rcases Nat.lt_or_ge j xs.length with h | h
    · exact h
    · rw [List.getElem?_eq_none (by rw [by8_length]; exact h)] at hu; cases hu
  rw [by8_get xs j hj] at hu
  rw [Addr.add_lit, Nat.zero_add, h4 j hj]
  exact hu

theorem Try.info_u8 : (Try.prog.info? 5).map (fun i => (i.zero, i.size, i.bytes)) = some (some (.int .u8 0), 1, 1) := by kernel_rfl

/-- []byte(s). -/
theorem conv_bytes (w : World) (s : ByteArray) : ∃ v w', (convert 9 44 (.string s)).run Try.prog w = .ok v w' ∧ Nm w' w.heap.size v (sb s) ∧ Fr w w' (fun _ => False) := by
  refine ⟨_, _, Lib.run_convert_string_bytes w 9 44 5 s Try.underlying9 Try.underlying44 Try.underlying5, ?_, ?_⟩
  · have hge := grownCap_ge w s.size 0 5
    have hsz : (Lib.bytesCells w 5 s).size = grownCap w s.size 0 5 := by
      simp only [Lib.bytesCells, Array.size_append, Array.size_map, Array.size_replicate]
      have : s.data.size = s.size := rfl
      omega
    refine ⟨w.heap.size, grownCap w s.size 0 5, by rw [sb_len], Nat.le_refl _, by rw [Lib.bytesWorld_size]; omega, by rw [sb_len]; exact hge, fun j hj => ?_, fun j hj hc => ⟨?_, ?_⟩⟩
    · rw [sb_len] at hj
      rw [Lib.bytesWorld_cell w _ s j hj]
      have h2 : j < s.data.size := hj
      simp only [sb, List.getD_eq_getElem?_getD, List.getElem?_map, Array.getElem?_toList, Array.getElem?_eq_getElem h2]
      rfl
    · have := Lib.bytesWorld_at_new w 5 s
      simp [World.cell?, this, hsz, hc]
    · have := Lib.bytesWorld_at_new w 5 s
      simp [World.frozen?, this, hsz]
      omega
  · refine ⟨rfl, rfl, rfl, by rw [Lib.bytesWorld_size]; omega, fun k hk _ => Lib.bytesWorld_at_old w _ s k hk⟩

theorem getD_app {xs : List Nat} (c : Nat) {j : Nat} (h : j < xs.length) : (xs ++ [c]).getD j 0 = xs.getD j 0 := by
  rw [List.getD_eq_getElem?_getD, List.getElem?_append_left h, ← List.getD_eq_getElem?_getD]
/-- One byte more. -/
theorem nm_append {w : World} {N : Nat} {v : Value} {xs : List Nat} (h : Nm w N v xs) (hl : xs.length ≤ 40000) (M c : Nat) (hM : w.heap[M]? = some (.cells #[.int .u8 (c : Int)] 5 (0, 0))) (ty : TypeId) (hN : N ≤ w.heap.size) :
    ∃ v' w', (Builtin.append_ #[44, 44] ty #[v, .slice (some ⟨M, 0, none⟩) 1 1]).run Try.prog w = .ok v' w' ∧ Nm w' N v' (xs ++ [c]) ∧ (∀ a, N = a.heap.size → Fr a w (fun _ => False) → Fr a w' (fun _ => False)) := by
  obtain ⟨i0, hi, hz0, hz1, hz2⟩ := info_parts Try.info_u8
  obtain ⟨g, cap, rfl, h1, h2, h3, h4, h5⟩ := h
  have hnews : ∀ (j : Nat) (u : Value), [Value.int .u8 (c : Int)][j]? = some u → w.cell? ((⟨M, 0, none⟩ : Addr).add j) = some u := by
    intro j u hj
    match j, hj with
    | 0, hj => simp at hj; subst hj; simp [Addr.add, World.cell?, hM]
  have hlen : (xs ++ [c]).length = xs.length + 1 := by simp
  by_cases hroom : xs.length + 1 ≤ cap
  · have hr := run_append_room_cells (P := Try.prog) w 44 ty 5 i0 Try.underlying44 hi g 0 xs.length cap ⟨M, 0, none⟩ 1 1 [.int .u8 (c : Int)] (by rw [hz1]; rfl) hnews (fun u hu => by simp at hu; subst hu; rfl) hroom
      (fun j hj => by simp at hj; subst hj; rw [hz1]; simpa using (h5 xs.length (Nat.le_refl _) (by omega)).1) (fun j hj => by simp at hj; subst hj; rw [hz1]; simpa using (h5 xs.length (Nat.le_refl _) (by omega)).2)
    rw [hz1, Nat.zero_add, Nat.mul_one] at hr
    obtain ⟨hs1, hs2⟩ := h5 xs.length (Nat.le_refl _) (by omega)
    obtain ⟨u0, hu0⟩ := Option.isSome_iff_exists.1 hs1
    have hW : w.setCells g xs.length [.int .u8 (c : Int)] = w.setCell ⟨g, xs.length, none⟩ (.int .u8 (c : Int)) := rfl
    rw [hW] at hr
    refine ⟨_, _, hr, ⟨g, cap, by rw [hlen], h1, by simp [World.setCell]; exact h2, by rw [hlen]; exact hroom, fun j hj => ?_, fun j hj hc => ?_⟩, fun a ha hf => hf.setCell (fun hlt => by have : g < a.heap.size := hlt; omega) _⟩
    · rw [hlen] at hj
      by_cases e : j = xs.length
      · subst e
        rw [World.cell?_setCell_same w _ _ hu0]
        simp [List.getD]
      · rw [World.cell?_setCell_other (a := ⟨g, xs.length, none⟩) (b := ⟨g, j, none⟩) w _ (by intro he; have h9 := congrArg Addr.off he; simp only at h9; omega)]
        rw [h4 j (by omega), getD_app c (show j < xs.length by omega)]
    · rw [hlen] at hj
      rw [World.cell?_setCell_other (a := ⟨g, xs.length, none⟩) (b := ⟨g, j, none⟩) w _ (by intro he; have h9 := congrArg Addr.off he; simp only at h9; omega)]
      refine ⟨(h5 j (by omega) hc).1, ?_⟩
      rw [← (h5 j (by omega) hc).2]
      simp
  · have hold : ∀ (j : Nat) (u : Value), (by8 xs)[j]? = some u → w.cell? ((⟨g, 0, none⟩ : Addr).add j) = some u := by
      intro j u hu
      have hj : j < xs.length := by
        rcases Nat.lt_or_ge j xs.length with h | h
        · exact h
        · rw [List.getElem?_eq_none (by rw [by8_length]; exact h)] at hu; cases hu
      rw [by8_get xs j hj] at hu
      rw [Addr.add_lit, Nat.zero_add, h4 j hj]
      exact hu
    have hr := run_append_grow (P := Try.prog) w 44 ty 5 i0 (.int .u8 0) Try.underlying44 hi hz0 ⟨g, 0, none⟩ xs.length cap (by8 xs) (by rw [hz1, by8_length, Nat.mul_one]) hold ⟨M, 0, none⟩ 1 1 [.int .u8 (c : Int)] (by rw [hz1]; rfl) hnews (by omega) (by omega)
      (growslice_fits (by omega) (by rw [hz2]; omega))
    have hge := grownCap_ge w (xs.length + 1) cap 5
    generalize hcc : grownCap w (xs.length + 1) cap 5 = cc at *
    refine ⟨_, _, hr, ?_, fun a ha hf => hf.drew.alloc _⟩
    generalize hzc : Builtin.zeroCells (Value.int .u8 0).cells (cc - (xs.length + 1)) = zc
    have hzs : zc.size = cc - (xs.length + 1) := by rw [← hzc]; simp [Builtin.zeroCells, Value.cells]
    have hL : (w.drew.alloc (.cells ((by8 xs).toArray ++ [Value.int .u8 (c : Int)].toArray ++ zc) 5)).heap[w.heap.size]? = some (.cells ((by8 xs).toArray ++ [Value.int .u8 (c : Int)].toArray ++ zc) 5 (0, 0)) := heap_last w.drew _ _ rfl
    have hcell : ∀ j, (w.drew.alloc (.cells ((by8 xs).toArray ++ [Value.int .u8 (c : Int)].toArray ++ zc) 5)).cell? ⟨w.heap.size, j, none⟩ = ((by8 xs).toArray ++ [Value.int .u8 (c : Int)].toArray ++ zc)[j]? := by
      intro j
      simp only [World.cell?, hL]
      rfl
    have h8 := by8_length xs
    refine ⟨w.heap.size, cc, by rw [hlen], hN, lt_of_block hL, by rw [hlen]; exact hge, fun j hj => ?_, fun j hj hc => ⟨?_, ?_⟩⟩
    · rw [hlen] at hj
      rw [hcell, Array.getElem?_append_left (by simp [h8]; omega)]
      by_cases e : j = xs.length
      · subst e
        rw [Array.getElem?_append_right (by simp [h8])]
        simp [h8, List.getD]
      · rw [Array.getElem?_append_left (by simp [h8]; omega)]
        have := by8_get xs j (by omega)
        rw [List.getElem?_toArray, this, getD_app c (show j < xs.length by omega)]
    · rw [hcell]
      rw [hlen] at hj
      rw [Array.getElem?_eq_getElem (by simp [h8, hzs]; omega)]
      rfl
    · simp only [World.frozen?, hL]
      simp

/-- The append at an operation. -/
theorem wp_nm_append {w : World} {ops : Array Oper} {rest : List Oper} {o : Oper} {a : Act} {Q : Exit → Act → World → Prop} (hgd : o.guard = none) (s x : Operand)
    (ho : o.op = .call { callee := .builtin .append, args := #[s, x], argTypes := #[44, 44] })
    {N : Nat} {v : Value} {xs : List Nat} (hs : a.eval s = v) (hn : Nm w N v xs) (hl : xs.length ≤ 40000) (M c : Nat) (hx : a.eval x = .slice (some ⟨M, 0, none⟩) 1 1) (hM : w.heap[M]? = some (.cells #[.int .u8 (c : Int)] 5 (0, 0))) (hN : N ≤ w.heap.size)
    (h : ∀ v' w', Nm w' N v' (xs ++ [c]) → (∀ a, N = a.heap.size → Fr a w (fun _ => False) → Fr a w' (fun _ => False)) → wpList Try.prog ops Q rest (a.put o.dst v') w') :
    wpList Try.prog ops Q (o :: rest) a w := by
  obtain ⟨v', w', hr, h2, h3⟩ := nm_append hn hl M c hM o.type hN
  refine wpList_plain hgd fun K hK => ?_
  unfold Oper.wp execOp
  simp only [ho, resolve, invoke, builtin, Sem.run_bind, Sem.run_pure, Result.andThen_ok, List.map_toArray, List.map_cons, List.map_nil, hs, hx, hr]
  exact hK _ _ (h v' w' h2 h3)

set_option maxHeartbeats 1000000 in
set_option maxRecDepth 100000 in
theorem name_any (m0 : Nat) (s : ByteArray) (w : World) (hm0 : m0 ≤ 30001) (hs : s.size ≤ 100) :
    Calls Try.prog 12 #[.int .i64 (m0 : Int), .string s] w fun e w' => e = .returned (.string (nk s m0)) ∧ Fr w w' (fun _ => False) := by
  obtain ⟨v0, w0, hcv, hN0, hf0⟩ := conv_bytes w s
  have HN0 := hid hN0
  have HF0 := hid hf0
  obtain ⟨g0, cap0, hv0, _⟩ := hN0
  rw [sb_len] at hv0
  subst hv0
  clear hf0
  go_enter Try.func12, Try.ntmps12
  go_wp2_with fail
  go_loopg [0, 5] (m0 + 1) (fun gk s0 s5 wx => ∃ (m : Nat) (ys : List Nat), s0 = .int .i64 (m : Int) ∧ m ≤ 30001 ∧ Hid (ys.length ≤ 31000) ∧ Hid (gk = if ys = [] then m + 1 else m) ∧ Hid (ys.length + m ≤ m0 + 1) ∧ Hid (Nm wx w.heap.size s5 (sb s ++ ys)) ∧ Hid (Fr w wx (fun _ => False)) ∧ Hid (ys ++ (if 0 < m ∨ ys = [] then dg m else []) = dg m0))
  case atStart => exact ⟨m0, [], rfl, hm0, by show 0 ≤ _; omega, by show _ = if ([] : List Nat) = [] then _ else _; rw [if_pos rfl], by show 0 + m0 ≤ _; omega, by show Nm _ _ _ (sb s ++ []); rw [List.append_nil]; exact HN0.out, HF0, by show [] ++ _ = _; rw [if_pos (Or.inr rfl)]; rfl⟩
  case round =>
    obtain ⟨m, ys, rfl, hm, HYl, HGk, HYm, HNm, HF, HD⟩ := hrel
    clear HN0 HF0 hcv
    generalize hxs : sb s ++ ys = xs at HNm
    have HXS := hid hxs
    clear hxs
    have HXL : Hid (xs.length = s.size + ys.length) := by show _ = _; rw [← HXS.out, List.length_append, sb_len]
    have hxl : xs.length ≤ 40000 := by have := HXL.out; have := HYl.out; omega
    obtain ⟨g, cap, hv, hN, hgl, _, _, _⟩ := HNm.out
    subst hv
    by_cases hc : 0 < m ∨ ys = []
    · have HCC := hid hc
      by_cases hm1 : 0 < m
      · have t1 : (0 : Int) < (m : Int) := by omega
        obtain ⟨i0, hi0, hz0, hz1, hz2⟩ := info_parts Try.info_u8
        have HDn : Hid (dg m = (48 + m % 10) :: (if m / 10 = 0 then [] else dg (m / 10))) := dg_eq m
        have hq : m / 10 ≤ m := Nat.div_le_self _ _
        have hmod : (48 : Int) + (m : Int) % 10 < 256 := by omega
        have HC : Hid ((48 : Int) + (m : Int) % 10 = ((48 + m % 10 : Nat) : Int)) := by show _ = _; omega
        have HHs := hid (show w.heap.size ≤ wr.heap.size from HF.out.size)
        clear hc
        go_wp2_with (at_builtin; go_must (refine wp_nm_append rfl (.tmp 17) (.tmp 22) rfl rfl (HNm.out.fr (alloc_fr wr _ (fun _ => False))) hxl wr.heap.size (48 + m % 10) rfl ?c2 ?c3 ?_))
        case c2 => have h9 := heap_last wr (.cells #[.int .u8 ((48 + m % 10 : Nat) : Int)] 5) _ rfl; rw [← HC.out] at h9; simpa using h9
        case c3 => have := HHs.out; simp; omega
        intro v' w' hN2 hF2
        have HN2 := hid hN2
        have HF2 := hid (hF2 w rfl (HF.out.alloc _))
        clear hN2 hF2
        go_wp2_with fail
        go_roundg (m / 10)
        case measure => have := HGk.out; split at this <;> omega
        case rel =>
          refine ⟨m / 10, ys ++ [48 + m % 10], by go_num, by omega, ?_, ?_, ?_, ?_, HF2, ?_⟩
          · show (ys ++ [48 + m % 10]).length ≤ 31000
            have h1 := HYm.out
            rw [List.length_append, List.length_singleton]
            omega
          · show m / 10 = if ys ++ [48 + m % 10] = [] then _ else _
            rw [if_neg (by simp)]
          · show (ys ++ [48 + m % 10]).length + m / 10 ≤ m0 + 1
            have h1 := HYm.out
            rw [List.length_append, List.length_singleton]
            omega
          · show Nm w' w.heap.size v' (sb s ++ (ys ++ [48 + m % 10]))
            rw [← List.append_assoc, HXS.out]
            exact HN2.out
          · show ys ++ [48 + m % 10] ++ (if 0 < m / 10 ∨ ys ++ [48 + m % 10] = [] then dg (m / 10) else []) = dg m0
            have h1 := HD.out
            rw [if_pos HCC.out, HDn.out] at h1
            rw [← h1, List.append_assoc]
            congr 1
            by_cases hz : m / 10 = 0
            · rw [if_pos hz, if_neg (by simp; omega), List.append_nil]
            · rw [if_neg hz, if_pos (Or.inl (by omega))]
              rfl
      · have HM0 := hid (show m = 0 by omega)
        have HY0 : Hid (ys = []) := by rcases hc with h | h; exact absurd h hm1; exact h
        have t1 : ¬ (0 : Int) < (m : Int) := by omega
        have hq0 : ((xs.length : Int) == (s.size : Int)) = true := by have h8 := HXL.out; rw [HY0.out] at h8; simp at h8; simp [h8]
        obtain ⟨i0, hi0, hz0, hz1, hz2⟩ := info_parts Try.info_u8
        have HDn : Hid (dg m = (48 + m % 10) :: (if m / 10 = 0 then [] else dg (m / 10))) := dg_eq m
        have hq : m / 10 ≤ m := Nat.div_le_self _ _
        have hmod : (48 : Int) + (m : Int) % 10 < 256 := by omega
        have HC : Hid ((48 : Int) + (m : Int) % 10 = ((48 + m % 10 : Nat) : Int)) := by show _ = _; omega
        have HHs := hid (show w.heap.size ≤ wr.heap.size from HF.out.size)
        clear hc
        go_wp2_with (at_builtin; go_must (refine wp_nm_append rfl (.tmp 17) (.tmp 22) rfl rfl (HNm.out.fr (alloc_fr wr _ (fun _ => False))) hxl wr.heap.size (48 + m % 10) rfl ?c2 ?c3 ?_))
        case c2 => have h9 := heap_last wr (.cells #[.int .u8 ((48 + m % 10 : Nat) : Int)] 5) _ rfl; rw [← HC.out] at h9; simpa using h9
        case c3 => have := HHs.out; simp; omega
        intro v' w' hN2 hF2
        have HN2 := hid hN2
        have HF2 := hid (hF2 w rfl (HF.out.alloc _))
        clear hN2 hF2
        go_wp2_with fail
        go_roundg (m / 10)
        case measure => have := HGk.out; rw [if_pos HY0.out] at this; omega
        case rel =>
          refine ⟨m / 10, ys ++ [48 + m % 10], by go_num, by omega, ?_, ?_, ?_, ?_, HF2, ?_⟩
          · show (ys ++ [48 + m % 10]).length ≤ 31000
            have h1 := HYm.out
            rw [List.length_append, List.length_singleton]
            omega
          · show m / 10 = if ys ++ [48 + m % 10] = [] then _ else _
            rw [if_neg (by simp)]
          · show (ys ++ [48 + m % 10]).length + m / 10 ≤ m0 + 1
            have h1 := HYm.out
            rw [List.length_append, List.length_singleton]
            rw [HY0.out]; simp; omega
          · show Nm w' w.heap.size v' (sb s ++ (ys ++ [48 + m % 10]))
            rw [← List.append_assoc, HXS.out]
            exact HN2.out
          · show ys ++ [48 + m % 10] ++ (if 0 < m / 10 ∨ ys ++ [48 + m % 10] = [] then dg (m / 10) else []) = dg m0
            have h1 := HD.out
            rw [if_pos HCC.out, HDn.out] at h1
            rw [← h1, List.append_assoc]
            congr 1
            by_cases hz : m / 10 = 0
            · rw [if_pos hz, if_neg (by simp; omega), List.append_nil]
            · rw [if_neg hz, if_pos (Or.inl (by omega))]
              rfl
    · have hm0' : m = 0 := by
        rcases Nat.eq_zero_or_pos m with h | h
        · exact h
        · exact absurd (Or.inl h) hc
      have t1 : ¬ (0 : Int) < (m : Int) := by omega
      have hys : ys ≠ [] := fun h => hc (Or.inr h)
      have hyl : 0 < ys.length := List.length_pos_iff.2 hys
      have hq0 : ((xs.length : Int) == (s.size : Int)) = false := by
        have := HXL.out
        simp
        omega
      have hq2 : ¬ xs.length = s.size := by have := HXL.out; omega
      have hcv : (convert 44 9 (.slice (some ⟨g, 0, none⟩) xs.length cap)).run Try.prog wr = .ok (.string (str8 xs)) wr := run_str8 Try.underlying44 Try.underlying5 Try.underlying9 HNm.out.bs
      have HDd : Hid (ys = dg m0) := by
        have h1 := HD.out
        rw [if_neg hc, List.append_nil] at h1
        exact h1
      have HK : Hid (str8 xs = nk s m0) := by show _ = nk s m0; rw [← HXS.out, HDd.out]; rfl
      clear hc hys hyl hm0'
      go_wp2_with fail
      go_ret
      exact ⟨by rw [HK.out]; rfl, HF.out⟩
end Go.Proofs.Ytobigmcklecbnab
