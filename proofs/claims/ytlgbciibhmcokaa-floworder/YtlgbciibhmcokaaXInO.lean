/- FlowOrder: inOrder: the walk. -/
import Derived.Test.YtlgbciibhmcokaaXOrd
namespace Go.Proofs.Ytlgbciibhmcokaa
open Go.RowKit

/-- Items that can be read at a slice; what was taken, likewise. -/
def ItR (w : World) (v : Value) (P : List It) : Prop := ∃ ao cap, v = .slice ao P.length cap ∧ (P ≠ [] → ∃ g, ao = some ⟨g, 0, none⟩ ∧ ∀ k, k < P.length → w.cell? ⟨g, k * 4, none⟩ = some (.bool (P.getD k it0).m) ∧ w.cell? ⟨g, k * 4 + 1, none⟩ = some (.string (P.getD k it0).k) ∧ w.cell? ⟨g, k * 4 + 2, none⟩ = some (.int .i64 (P.getD k it0).t) ∧ w.cell? ⟨g, k * 4 + 3, none⟩ = some (.int .i64 (P.getD k it0).v))
def MsR (w : World) (v : Value) (P : List Ms) : Prop := ∃ ao cap, v = .slice ao P.length cap ∧ (P ≠ [] → ∃ g, ao = some ⟨g, 0, none⟩ ∧ ∀ k, k < P.length → w.cell? ⟨g, k * 5, none⟩ = some (.int .i64 (P.getD k ms0).s) ∧ w.cell? ⟨g, k * 5 + 1, none⟩ = some (.bool (P.getD k ms0).x.m) ∧ w.cell? ⟨g, k * 5 + 2, none⟩ = some (.string (P.getD k ms0).x.k) ∧ w.cell? ⟨g, k * 5 + 3, none⟩ = some (.int .i64 (P.getD k ms0).x.t) ∧ w.cell? ⟨g, k * 5 + 4, none⟩ = some (.int .i64 (P.getD k ms0).x.v))
theorem own_el {α : Type} {f : α → List Value} {T : TypeId} {K lo : Nat} (hlen : ∀ x, (f x).length = K) {W : World} {g n cap : Nat} {L : List α} (h : W.ownsRow lo T K (.slice (some ⟨g, 0, none⟩) n cap) L.length (fl f L)) {k : Nat} (hk : k < L.length) (z : α) {j : Nat} (hj : j < K) {u : Value} (hu : (f (L.getD k z))[j]? = some u) : W.cell? ⟨g, k * K + j, none⟩ = some u := by
  have h1 := h.cells (g := g) rfl (k * K + j) u (by
    have := fl_at (f := f) hlen hk z hj []
    rw [List.append_nil] at this
    rw [this]; exact hu)
  rw [Addr.add_lit] at h1
  simpa using h1
theorem own_itR {T : TypeId} {lo : Nat} {W : World} {v : Value} {L : List It} (h : W.ownsRow lo T 4 v L.length (fl elI L)) : ItR W v L := by
  rcases h.2 with ⟨rfl, h0⟩ | ⟨g, cap, cur, rfl, _⟩
  · obtain rfl := List.eq_nil_of_length_eq_zero h0
    exact ⟨none, 0, rfl, fun h => absurd rfl h⟩
  · refine ⟨_, cap, rfl, fun _ => ⟨g, rfl, fun k hk => ⟨?_, ?_, ?_, ?_⟩⟩⟩
    · simpa using own_el elI_len h hk it0 (j := 0) (by decide) rfl
    · exact own_el elI_len h hk it0 (j := 1) (by decide) rfl
    · exact own_el elI_len h hk it0 (j := 2) (by decide) rfl
    · exact own_el elI_len h hk it0 (j := 3) (by decide) rfl
theorem own_msR {T : TypeId} {lo : Nat} {W : World} {v : Value} {L : List Ms} (h : W.ownsRow lo T 5 v L.length (fl elM L)) : MsR W v L := by
  rcases h.2 with ⟨rfl, h0⟩ | ⟨g, cap, cur, rfl, _⟩
  · obtain rfl := List.eq_nil_of_length_eq_zero h0
    exact ⟨none, 0, rfl, fun h => absurd rfl h⟩
  · refine ⟨_, cap, rfl, fun _ => ⟨g, rfl, fun k hk => ⟨?_, ?_, ?_, ?_, ?_⟩⟩⟩
    · simpa using own_el elM_len h hk ms0 (j := 0) (by decide) rfl
    · exact own_el elM_len h hk ms0 (j := 1) (by decide) rfl
    · exact own_el elM_len h hk ms0 (j := 2) (by decide) rfl
    · exact own_el elM_len h hk ms0 (j := 3) (by decide) rfl
    · exact own_el elM_len h hk ms0 (j := 4) (by decide) rfl
theorem ItR.at {w : World} {ao : Option Addr} {n cap : Nat} {P : List It} (h : ItR w (.slice ao n cap) P) {k : Nat} (hk : k < P.length) : ∃ g, ao = some ⟨g, 0, none⟩ ∧ ∀ W : World, Fr w W (fun _ => False) → W.cell? ⟨g, k * 4, none⟩ = some (.bool (P.getD k it0).m) ∧ W.cell? ⟨g, k * 4 + 1, none⟩ = some (.string (P.getD k it0).k) ∧ W.cell? ⟨g, k * 4 + 2, none⟩ = some (.int .i64 (P.getD k it0).t) ∧ W.cell? ⟨g, k * 4 + 3, none⟩ = some (.int .i64 (P.getD k it0).v) ∧ g < W.heap.size := by
  obtain ⟨ao', cap', e, h1⟩ := h
  obtain ⟨g, e2, hc⟩ := h1 (by intro e; subst e; simp at hk)
  simp only [Value.slice.injEq] at e
  refine ⟨g, by rw [e.1, e2], fun W hW => ?_⟩
  obtain ⟨c0, c1, c2, c3⟩ := hc k hk
  have hlt : g < w.heap.size := World.block_lt_of_cell? w _ c0
  have hr := (fr_rules hW).1 g
  exact ⟨by rw [hr _ hlt]; exact c0, by rw [hr _ hlt]; exact c1, by rw [hr _ hlt]; exact c2, by rw [hr _ hlt]; exact c3, Nat.lt_of_lt_of_le hlt hW.size⟩
theorem MsR.at {w : World} {ao : Option Addr} {n cap : Nat} {P : List Ms} (h : MsR w (.slice ao n cap) P) {k : Nat} (hk : k < P.length) : ∃ g, ao = some ⟨g, 0, none⟩ ∧ ∀ W : World, Fr w W (fun _ => False) → W.cell? ⟨g, k * 5, none⟩ = some (.int .i64 (P.getD k ms0).s) ∧ W.cell? ⟨g, k * 5 + 1, none⟩ = some (.bool (P.getD k ms0).x.m) ∧ W.cell? ⟨g, k * 5 + 2, none⟩ = some (.string (P.getD k ms0).x.k) ∧ W.cell? ⟨g, k * 5 + 3, none⟩ = some (.int .i64 (P.getD k ms0).x.t) ∧ W.cell? ⟨g, k * 5 + 4, none⟩ = some (.int .i64 (P.getD k ms0).x.v) ∧ g < W.heap.size := by
  obtain ⟨ao', cap', e, h1⟩ := h
  obtain ⟨g, e2, hc⟩ := h1 (by intro e; subst e; simp at hk)
  simp only [Value.slice.injEq] at e
  refine ⟨g, by rw [e.1, e2], fun W hW => ?_⟩
  obtain ⟨c0, c1, c2, c3, c4⟩ := hc k hk
  have hlt : g < w.heap.size := World.block_lt_of_cell? w _ c0
  have hr := (fr_rules hW).1 g
  exact ⟨by rw [hr _ hlt]; exact c0, by rw [hr _ hlt]; exact c1, by rw [hr _ hlt]; exact c2, by rw [hr _ hlt]; exact c3, by rw [hr _ hlt]; exact c4, Nat.lt_of_lt_of_le hlt hW.size⟩
theorem neqI_same (m : Bool) (k : ByteArray) (t v : Int) (W : World) : (binOp .neq 33 (.agg #[.bool m, .string k, .int .i64 t, .int .i64 v]) (.agg #[.bool m, .string k, .int .i64 t, .int .i64 v])).run Try.prog W = .ok (.bool false) W := by
  go_simp
/-- An item of operator j's is found or passed by. -/
theorem drop_mine {P : List It} {a : Nat} (ha : a < P.length) (n j : Nat) : (P.drop a).filter (mine n j) = (if mine n j (P.getD a it0) = true then [P.getD a it0] else []) ++ (P.drop (a + 1)).filter (mine n j) := by
  have e : P.drop a = P.getD a it0 :: P.drop (a + 1) := by
    have : P.getD a it0 = P[a] := by simp [List.getD, ha]
    rw [this, List.getElem_cons_drop]
  rw [e, List.filter_cons]
  split
  · rfl
  · rfl
theorem drop_from {Tk : List Ms} {k : Nat} (hk : k < Tk.length) (i : Nat) : fromI i (Tk.drop k) = (if (Tk.getD k ms0).s = (i : Int) then [(Tk.getD k ms0).x] else []) ++ fromI i (Tk.drop (k + 1)) := by
  have e : Tk.drop k = [Tk.getD k ms0] ++ Tk.drop (k + 1) := by
    have : Tk.getD k ms0 = Tk[k] := by simp [List.getD, hk]
    rw [this, List.singleton_append, List.getElem_cons_drop]
  rw [e, fromI_append]
  congr 1
  unfold fromI
  by_cases h : (Tk.getD k ms0).s = (i : Int)
  · rw [if_pos h, List.filter_cons, if_pos (decide_eq_true h)]; rfl
  · rw [if_neg h, List.filter_cons, if_neg (by simpa using h)]; rfl
theorem key32 {x : It} (h : errC x = 0) (hm : x.m = false) : x.k.size ≤ 9223372036854775807 := by
  unfold errC at h
  by_cases hk : keyB x.k = false
  · rw [if_pos ⟨hm, hk⟩] at h; omega
  · have : keyB x.k = true := by simpa using hk
    unfold keyB at this
    have := of_decide_eq_true this
    omega

set_option maxHeartbeats 8000000 in
set_option maxRecDepth 100000 in
theorem inorder_any {w : World} {B n i j : Nat} {v0 v1 : Value} {P : List It} {Tk : List Ms} (hp : ItR w v0 P) (ht : MsR w v1 Tk) (hpl : P.length ≤ 1000000) (htl : Tk.length ≤ 1000000) (hij : i ≤ 100 ∧ j ≤ 100)
    (hrt : ∀ (W : World) (key : ByteArray), Fr w W (fun _ => False) → key.size ≤ 9223372036854775807 → Calls Try.prog 13 #[.pointer (some ⟨B, 0, none⟩), .string key] W fun e w' => e = .returned (.int .i64 (rtF n key : Int)) ∧ Fr W w' (fun _ => False))
    (he : ∀ x ∈ P, errC x = 0) (heq : P.filter (mine n j) = fromI i Tk) :
    Calls Try.prog 20 #[v0, v1, .int .i64 (i : Int), .int .i64 (j : Int), .pointer (some ⟨B, 0, none⟩)] w fun e w' => e = .returned (.bool true) ∧ Fr w w' (fun _ => False) := by
  have HP := hid hp
  have HT := hid ht
  have HRT := hid hrt
  have HE := hid he
  obtain ⟨ao, cap, rfl, _⟩ := id hp
  obtain ⟨bo, cap2, rfl, _⟩ := id ht
  have HQ0 : Hid (fromI i (Tk.drop 0) = (P.drop 0).filter (mine n j)) := heq.symm
  obtain ⟨hi9, hj9⟩ := hij
  clear hp ht hrt he heq
  go_enter Try.func20, Try.ntmps20
  go_wp2_with fail
  go_loopg [11, 12] Tk.length (fun q s11 s12 wx => ∃ k a : Nat, s12 = .int .i64 (k : Int) ∧ s11 = .int .i64 (a : Int) ∧ Hid (k + q = Tk.length) ∧ Hid (a ≤ P.length) ∧ Hid (fromI i (Tk.drop k) = (P.drop a).filter (mine n j)) ∧ Hid (Fr w wx (fun _ => False)))
  case atStart => exact ⟨0, 0, rfl, rfl, by show _ = _; omega, Nat.zero_le _, HQ0, Fr.refl _ _⟩
  case round =>
    obtain ⟨k, a, rfl, rfl, HG, HA, HQ, HF⟩ := hrel
    clear HQ0
    cases gk with
    | zero =>
      have t1 : ¬ (k : Int) < (Tk.length : Int) := by have := HG.out; omega
      have HQ1 : Hid ((P.drop a).filter (mine n j) = []) := by
        show _ = _
        rw [← HQ.out, List.drop_eq_nil_of_le (by have := HG.out; omega)]
        rfl
      clear HQ
      go_wp2_with fail
      generalize wr = W0 at *
      clear t1
      go_loopg [11] (P.length - a) (fun r s11 wx => ∃ a : Nat, s11 = .int .i64 (a : Int) ∧ Hid (a + r = P.length) ∧ Hid ((P.drop a).filter (mine n j) = []) ∧ Hid (Fr w wx (fun _ => False)))
      case atStart => exact ⟨a, rfl, by have := HA.out; show _ = _; omega, HQ1, HF⟩
      case round =>
        obtain ⟨a, rfl, HA2, HQ2, HF2⟩ := hrel
        clear HQ1 HF
        cases gk with
        | zero =>
          have t1 : ¬ (a : Int) < (P.length : Int) := by have := HA2.out; omega
          go_wp2_with fail
          go_ret
          exact ⟨rfl, HF2.out⟩
        | succ r =>
          have ha : a < P.length := by have := HA2.out; omega
          have t1 : (a : Int) < (P.length : Int) := by omega
          obtain ⟨g, rfl, hc⟩ := HP.out.at ha
          obtain ⟨c0, c1, c2, c3, hgl⟩ := hc _ HF2.out
          have hd := drop_mine ha n j
          rw [HQ2.out] at hd
          have hx : P.getD a it0 ∈ P := by
            have : P.getD a it0 = P[a] := by simp [List.getD, ha]
            rw [this]; exact List.getElem_mem ha
          have hxe := HE.out _ hx
          have hmn : mine n j (P.getD a it0) = false := by
            rcases hm : mine n j (P.getD a it0) with _ | _
            · rfl
            · rw [hm] at hd; simp at hd
          rw [hmn] at hd
          have HQ3 : Hid ((P.drop (a + 1)).filter (mine n j) = []) := by show _ = _; simpa using hd.symm
          unfold mine at hmn
          simp only [Bool.or_eq_false_iff, decide_eq_false_iff_not] at hmn
          obtain ⟨hm1, hm2⟩ := hmn
          have hks := key32 hxe hm1
          have HR := hid (fun (W : World) (hW : Fr w W (fun _ => False)) => HRT.out W _ hW hks)
          have HAL := hid ha
          clear hd hx hxe hks hc ha
          generalize (P.getD a it0).m = xm at *
          generalize (P.getD a it0).k = xk at *
          generalize (P.getD a it0).t = xt at *
          generalize (P.getD a it0).v = xv at *
          generalize rtF n xk = rt at *
          have q1 : ((rt : Int) == (j : Int)) = false := by simp; omega
          subst hm1
          clear hm2
          go_wp2_with fail
          refine (HR.out _ HF2.out).mono ?_
          rintro e w5 ⟨rfl, hf5⟩
          have HF3 := hid (HF2.out.trans hf5)
          clear hf5
          go_wp2_with fail
          go_roundg r
          case measure => omega
          case rel => exact ⟨a + 1, by go_num, by have := HA2.out; show _ = _; omega, HQ3, HF3⟩
    | succ q =>
      have hk : k < Tk.length := by have := HG.out; omega
      have t1 : (k : Int) < (Tk.length : Int) := by omega
      obtain ⟨g2, rfl, hc2⟩ := HT.out.at hk
      have HC2 := hid hc2
      obtain ⟨e0, e1, e2, e3, e4, hgl2⟩ := hc2 _ HF.out
      have hdf := drop_from hk i
      rw [HQ.out] at hdf
      have HKL := hid hk
      clear hc2 hk
      generalize Tk.getD k ms0 = m at *
      obtain ⟨ms, mx⟩ := m
      dsimp only at e0 e1 e2 e3 e4 hdf HC2
      by_cases hms : ms = (i : Int)
      · subst hms
        rw [if_pos rfl] at hdf
        have HDF := hid hdf
        clear hdf e1 e2 e3 e4
        go_wp2_with fail
        generalize wr = W0 at *
        go_loopg [11] (P.length - a) (fun r s11 wx => ∃ a : Nat, s11 = .int .i64 (a : Int) ∧ Hid (a + r = P.length) ∧ Hid ((P.drop a).filter (mine n j) = [mx] ++ fromI i (Tk.drop (k + 1))) ∧ Hid (Fr w wx (fun _ => False)))
        case atStart => exact ⟨a, rfl, by have := HA.out; show _ = _; omega, HDF, HF⟩
        case round =>
          obtain ⟨a, rfl, HA2, HQ2, HF2⟩ := hrel
          clear HDF HF e0 hgl2
          have ha : a < P.length := by
            rcases Nat.lt_or_ge a P.length with h | h
            · exact h
            · have := HQ2.out
              rw [List.drop_eq_nil_of_le h] at this
              simp at this
          cases gk with
          | zero => have := HA2.out; omega
          | succ r =>
            have t2 : (a : Int) < (P.length : Int) := by omega
            obtain ⟨g, rfl, hc⟩ := HP.out.at ha
            have HC := hid hc
            obtain ⟨c0, c1, c2, c3, hgl⟩ := hc _ HF2.out
            have hd := drop_mine ha n j
            rw [HQ2.out] at hd
            have hx : P.getD a it0 ∈ P := by
              have : P.getD a it0 = P[a] := by simp [List.getD, ha]
              rw [this]; exact List.getElem_mem ha
            have hxe := HE.out _ hx
            have HAL := hid ha
            clear hx hc ha
            generalize P.getD a it0 = x at *
            rcases hmn : mine n j x with _ | _
            · -- passed by
              rw [hmn] at hd
              have HQ3 : Hid ((P.drop (a + 1)).filter (mine n j) = [mx] ++ fromI i (Tk.drop (k + 1))) := by show _ = _; simpa using hd.symm
              unfold mine at hmn
              simp only [Bool.or_eq_false_iff, decide_eq_false_iff_not] at hmn
              obtain ⟨hm1, hm2⟩ := hmn
              have hks := key32 hxe hm1
              have HR := hid (fun (W : World) (hW : Fr w W (fun _ => False)) => HRT.out W _ hW hks)
              clear hd hxe hks
              obtain ⟨xm, xk, xt, xv⟩ := x
              dsimp only at *
              generalize rtF n xk = rt at *
              have q1 : ((rt : Int) != (j : Int)) = true := by simp; omega
              subst hm1
              clear hm2 c2 c3
              go_wp2_with fail
              refine (HR.out _ HF2.out).mono ?_
              rintro e w5 ⟨rfl, hf5⟩
              have HF3 := hid (HF2.out.trans hf5)
              clear hf5
              go_wp2_with fail
              go_roundg r
              case measure => omega
              case rel => exact ⟨a + 1, by go_num, by have := HA2.out; show _ = _; omega, HQ3, HF3⟩
            · -- found
              rw [hmn] at hd
              simp only [if_true, List.singleton_append, List.cons.injEq] at hd
              obtain ⟨hx1, hx2⟩ := hd
              subst hx1
              have HQ3 := hid hx2
              clear hx2
              have hmk : mx.m = true ∨ (mx.m = false ∧ rtF n mx.k = j) := by
                unfold mine at hmn
                rcases h : mx.m with _ | _
                · rw [h] at hmn
                  simp at hmn
                  exact Or.inr ⟨rfl, hmn⟩
                · exact Or.inl rfl
              clear hmn
              obtain ⟨xm, xk, xt, xv⟩ := mx
              dsimp only at *
              have q2 : ((a : Int) == (P.length : Int)) = false := by simp; have := HAL.out; omega
              have q3 : decide ((a : Int) = (P.length : Int)) = false := decide_eq_false (by have := HAL.out; omega)
              have hnq := fun W => neqI_same xm xk xt xv W
              rcases hmk with rfl | ⟨rfl, hrj⟩
              · clear hxe c2 c3
                go_wp2_with fail
                clear c0 c1 hgl
                obtain ⟨b0, b1, b2, b3, hgb⟩ := HC.out _ HF2.out
                obtain ⟨f0, f1, f2, f3, f4, hgf⟩ := HC2.out _ HF2.out
                go_quiet (fail)
                go_wp2_with fail
                go_roundg q
                case measure => omega
                case rel => exact ⟨k + 1, a + 1, by go_num, by go_num, by have := HG.out; show _ = _; omega, by have := HAL.out; show _ ≤ _; omega, HQ3, HF2.out.drewN _⟩
              · have hks := key32 hxe rfl
                have HR := hid (fun (W : World) (hW : Fr w W (fun _ => False)) => HRT.out W _ hW hks)
                dsimp only at HR
                rw [hrj] at HR
                clear hxe hks hrj c2 c3
                go_wp2_with fail
                refine (HR.out _ HF2.out).mono ?_
                rintro e w5 ⟨rfl, hf5⟩
                have HF3 := hid (HF2.out.trans hf5)
                clear hf5
                go_wp2_with fail
                clear c0 c1 hgl
                obtain ⟨b0, b1, b2, b3, hgb⟩ := HC.out _ HF3.out
                obtain ⟨f0, f1, f2, f3, f4, hgf⟩ := HC2.out _ HF3.out
                go_quiet (fail)
                go_wp2_with fail
                go_roundg q
                case measure => omega
                case rel => exact ⟨k + 1, a + 1, by go_num, by go_num, by have := HG.out; show _ = _; omega, by have := HAL.out; show _ ≤ _; omega, HQ3, HF3.out.drewN _⟩
      · have q1 : (ms != (i : Int)) = true := by simpa using hms
        rw [if_neg hms, List.nil_append] at hdf
        have HQ3 := hid hdf.symm
        rw [← HQ.out] at HQ3
        have HQ4 : Hid (fromI i (Tk.drop (k + 1)) = (P.drop a).filter (mine n j)) := by show _ = _; rw [← hdf]
        clear hdf HQ3 e1 e2 e3 e4
        go_wp2_with fail
        go_roundg q
        case measure => omega
        case rel => exact ⟨k + 1, a, by go_num, rfl, by have := HG.out; show _ = _; omega, HA, HQ4, HF⟩
end Go.Proofs.Ytlgbciibhmcokaa
