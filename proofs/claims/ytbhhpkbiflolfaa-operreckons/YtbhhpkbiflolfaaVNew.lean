/- oper: areRight, slices.Clone of views, New: walks. -/
import Derived.Test.YtbhhpkbiflolfaaVBase
namespace Go.Proofs.Ytbhhpkbiflolfaa.V
open Go.RowKit Go.Maps
open M (Cl cmpC vC)

/-- May a configuration have these views? -/
def rightVs (vs : List Vw) : Bool := decide (1 ≤ vs.length ∧ vs.length ≤ 4 ∧ okVs vs = true)
set_option maxHeartbeats 1000000 in
theorem areRight_any {w : World} {v : Value} {vs : List Vw} (h : Vs w v vs) : Calls Try.prog 34 #[v] w fun e w' => e = .returned (.bool (rightVs vs)) ∧ Fr w w' (fun _ => False) := by
  have HV := hid h
  obtain ⟨ao, cap, rfl, hl, _⟩ := id h
  clear h
  by_cases h4 : 1 ≤ vs.length ∧ vs.length ≤ 4
  · have u1 : ¬ (vs.length : Int) < 1 := by omega
    have u2 : ¬ (4 : Int) < (vs.length : Int) := by omega
    have u3 : ¬ (vs.length : Int) > 4 := by omega
    go_enter Try.func34, Try.ntmps34
    go_wp2_with fail
    go_loopg [4, 15] vs.length (fun n s4 s15 wx => ∃ i : Nat, s15 = .int .i64 (i : Int) ∧ Hid (i + n = vs.length) ∧ Hid (∀ j, j < i → OkV (vs.getD j vw0).s (vs.getD j vw0).d (vs.getD j vw0).l) ∧ Hid (Fr w wx (fun _ => False)))
    case atStart => exact ⟨0, rfl, by show _ = _; omega, (by intro j hj; omega), Fr.refl _ _⟩
    case round =>
      obtain ⟨i, rfl, HG, HA, HF⟩ := hrel
      cases gk with
      | zero =>
        have t1 : ¬ (i : Int) < (vs.length : Int) := by have := HG.out; omega
        have hok : okVs vs = true := okVs_all (fun j hj => HA.out j (by have := HG.out; omega))
        have HE : Hid (rightVs vs = true) := decide_eq_true ⟨h4.1, h4.2, hok⟩
        clear hok
        go_wp2_with fail
        go_ret
        exact ⟨by rw [HE.out]; rfl, HF.out⟩
      | succ n =>
        have hi : i < vs.length := by have := HG.out; omega
        have t1 : (i : Int) < (vs.length : Int) := by omega
        obtain ⟨b, off, rfl, c0, c1, c2⟩ := (HV.out.fr HF.out (fun _ _ _ _ _ h => h)).at hi
        have hbl : b < wr.heap.size := World.block_lt_of_cell? wr _ c0
        have HI := hid hi
        by_cases hok : OkV (vs.getD i vw0).s (vs.getD i vw0).d (vs.getD i vw0).l
        · have HC := hid (fun W : World => check_ok hok W)
          have HA1 : Hid (∀ j, j < i + 1 → OkV (vs.getD j vw0).s (vs.getD j vw0).d (vs.getD j vw0).l) := fun j hj => by
            rcases Nat.lt_or_ge j i with h | h
            · exact HA.out j h
            · rw [show j = i by omega]; exact hok
          clear hok hi HA
          generalize (vs.getD i vw0).s = vs0 at *
          generalize (vs.getD i vw0).d = vd0 at *
          generalize (vs.getD i vw0).l = vl0 at *
          go_wp2_with fail
          refine (HC.out _).mono ?_
          rintro e w1 ⟨rfl, hf⟩
          have HF1 := hid ((HF.out.alloc _).trans hf)
          clear hf
          go_wp2_with fail
          go_roundg n
          case measure => omega
          case rel => exact ⟨i + 1, by go_num, by have := HG.out; show _ = _; omega, HA1, HF1⟩
        · have HC := hid (fun W : World => check_bad hok W)
          have HE : Hid (rightVs vs = false) := decide_eq_false (fun h => by rw [okVs_not hi hok] at h; exact absurd h.2.2 (by decide))
          clear hok hi
          generalize (vs.getD i vw0).s = vs0 at *
          generalize (vs.getD i vw0).d = vd0 at *
          generalize (vs.getD i vw0).l = vl0 at *
          go_wp2_with fail
          refine (HC.out _).mono ?_
          rintro e w1 ⟨rfl, hf⟩
          have HF1 := hid ((HF.out.alloc _).trans hf)
          clear hf
          go_wp2_with fail
          try rw [Exit.noGoto_ret]
          go_ret
          exact ⟨by rw [HE.out]; rfl, HF1.out⟩
  · have e : rightVs vs = false := decide_eq_false (fun h => h4 ⟨h.1, h.2.1⟩)
    rw [e]
    have hc : (vs.length : Int) < 1 ∨ (¬ (vs.length : Int) < 1 ∧ 4 < (vs.length : Int)) := by omega
    clear h4 e
    rcases hc with u1 | ⟨u1, u2⟩
    all_goals
      go_enter Try.func34, Try.ntmps34
      go_wp2_with fail
      go_ret
      exact ⟨rfl, Fr.refl _ _⟩

theorem view_nil (W : World) (b off n cap : Nat) : (binOp .eql 22 (.slice (some ⟨b, off, none⟩) n cap) (.slice none 0 0)).run Try.prog W = .ok (.bool false) W := by kernel_rfl
/-- The append of all views behind none. -/
theorem vclone_app {w : World} {b off : Nat} {vs : List Vw} (h : ∀ i, i < vs.length → w.cell? ⟨b, off + i * 3, none⟩ = some (.int .i64 (vs.getD i vw0).s) ∧ w.cell? ⟨b, off + i * 3 + 1, none⟩ = some (.int .i64 (vs.getD i vw0).d) ∧ w.cell? ⟨b, off + i * 3 + 2, none⟩ = some (.int .i64 (vs.getD i vw0).l)) (hne : 1 ≤ vs.length) (hl : vs.length ≤ 100) (M cap : Nat) (ty : TypeId) :
    ∃ cap' w', (Builtin.append_ #[22, 22] ty #[.slice (some ⟨M, 0, none⟩) 0 0, .slice (some ⟨b, off, none⟩) vs.length cap]).run Try.prog w = .ok (.slice (some ⟨w.heap.size, 0, none⟩) vs.length cap') w' ∧ (∃ rest, RowW w' w.heap.size vs rest) ∧ Fr w w' (fun _ => False) := by
  obtain ⟨i0, hi, hz0, hz1, hz2⟩ := infoP Try.info_view
  have hnews := vs_cells h
  have hr := run_append_grow (P := Try.prog) w 22 ty 49 i0 _ Try.underlying22 hi hz0 ⟨M, 0, none⟩ 0 0 [] (by simp) (fun j v hj => by simp at hj) ⟨b, off, none⟩ vs.length cap (vc vs) (by rw [hz1, vc_length]) hnews (by omega) (by omega)
    (growslice_fits (by omega) (by rw [hz2]; omega))
  rw [Nat.zero_add] at hr
  generalize hzc : Builtin.zeroCells (Value.agg #[.int .i64 0, .int .i64 0, .int .i64 0]).cells (grownCap w vs.length 0 49 - vs.length) = zc at hr
  refine ⟨_, _, hr, ⟨zc.toList, ?_⟩, (Fr.refl w _).drew.alloc _⟩
  unfold RowW
  have h2 := heap_last w.drew (.cells ([].toArray ++ (vc vs).toArray ++ zc) 49) _ rfl
  have h3 : ([].toArray ++ (vc vs).toArray ++ zc) = (vc vs ++ zc.toList).toArray := by
    apply Array.ext'
    simp
  rw [h3] at h2 ⊢
  exact h2
theorem wp_vclone {w : World} {ops : Array Oper} {rest : List Oper} {o : Oper} {a : Act} {Q : Exit → Act → World → Prop} (hgd : o.guard = none) (s x : Operand)
    (ho : o.op = .call { callee := .builtin .append, args := #[s, x], argTypes := #[22, 22] })
    {b off M cap : Nat} {vs : List Vw} (hs : a.eval s = .slice (some ⟨M, 0, none⟩) 0 0) (hx : a.eval x = .slice (some ⟨b, off, none⟩) vs.length cap) (hR : ∀ i, i < vs.length → w.cell? ⟨b, off + i * 3, none⟩ = some (.int .i64 (vs.getD i vw0).s) ∧ w.cell? ⟨b, off + i * 3 + 1, none⟩ = some (.int .i64 (vs.getD i vw0).d) ∧ w.cell? ⟨b, off + i * 3 + 2, none⟩ = some (.int .i64 (vs.getD i vw0).l)) (hne : 1 ≤ vs.length) (hl : vs.length ≤ 100)
    (h : ∀ cap' w', Hid (∃ rest, RowW w' w.heap.size vs rest) → Fr w w' (fun _ => False) → wpList Try.prog ops Q rest (a.put o.dst (.slice (some ⟨w.heap.size, 0, none⟩) vs.length cap')) w') :
    wpList Try.prog ops Q (o :: rest) a w := by
  obtain ⟨cap', w', hr, h2, h3⟩ := vclone_app hR hne hl M cap o.type
  refine wpList_plain hgd fun K hK => ?_
  unfold Oper.wp execOp
  simp only [ho, resolve, invoke, builtin, Sem.run_bind, Sem.run_pure, Result.andThen_ok, List.map_toArray, List.map_cons, List.map_nil, hs, hx, hr]
  exact hK _ _ (h cap' w' h2 h3)
set_option maxHeartbeats 1000000 in
theorem vclone_any {w : World} {v : Value} {vs : List Vw} (h : Vs w v vs) (hne : 1 ≤ vs.length) (hl : vs.length ≤ 100) :
    Calls Try.prog 36 #[v] w fun e w' => ∃ g cap, e = .returned (.slice (some ⟨g, 0, none⟩) vs.length cap) ∧ (∃ rest, RowW w' g vs rest) ∧ w.heap.size ≤ g ∧ Fr w w' (fun _ => False) := by
  obtain ⟨ao, cap, rfl, _, hcell⟩ := h
  obtain ⟨b, off, rfl, hc⟩ := hcell (by intro e; subst e; simp at hne)
  have hrn := view_nil
  have HC : Hid (∀ W : World, Fr w W (fun _ => False) → ∀ i, i < vs.length → W.cell? ⟨b, off + i * 3, none⟩ = some (.int .i64 (vs.getD i vw0).s) ∧ W.cell? ⟨b, off + i * 3 + 1, none⟩ = some (.int .i64 (vs.getD i vw0).d) ∧ W.cell? ⟨b, off + i * 3 + 2, none⟩ = some (.int .i64 (vs.getD i vw0).l)) := fun W hW i hi => by
    obtain ⟨h0, h1, h2⟩ := hc i hi
    have hlt : b < w.heap.size := World.block_lt_of_cell? w _ h0
    have hr := (fr_rules hW).1 b
    exact ⟨by rw [hr _ hlt]; exact h0, by rw [hr _ hlt]; exact h1, by rw [hr _ hlt]; exact h2⟩
  clear hc hcell
  go_enter Try.func36, Try.ntmps36
  go_wp2_with (at_builtin; go_must (refine wp_vclone rfl (.tmp 5) (.tmp 6) rfl rfl rfl (HC.out _ (alloc_fr w _ _)) hne hl ?_))
  intro cap' w' H1 h2
  have H2 := hid h2
  clear h2
  go_wp2_with fail
  go_ret
  exact ⟨_, cap', rfl, H1.out, by simp, (alloc_fr w _ _).trans H2.out⟩

/-- What New leaves. -/
def NewO (w w' : World) (vs : List Vw) (n : Nat) (e : Ending) : Prop :=
  ∃ x : Ox, e = .returned (.tuple #[.pointer (some ⟨x.B, 0, none⟩), .int .i64 0]) ∧ Op w' x vs (List.replicate n noM) [] ∧ (w.heap.size ≤ x.B ∧ w.heap.size ≤ x.mb ∧ w.heap.size ≤ x.Bm ∧ w.heap.size ≤ x.gm ∧ w.heap.size ≤ x.gv) ∧ Fr w w' (fun _ => False)
set_option maxHeartbeats 2000000 in
theorem onew_ok {w : World} {v : Value} {vs : List Vw} (h : Vs w v vs) (hr : rightVs vs = true) {n : Nat} (h1 : 1 ≤ n) (h8 : n ≤ 8) : Calls Try.prog 11 #[v, .int .i64 (n : Int)] w fun e w' => NewO w w' vs n e := by
  have hrr : 1 ≤ vs.length ∧ vs.length ≤ 4 ∧ okVs vs = true := of_decide_eq_true hr
  have HR := hid (areRight_any h)
  rw [hr] at HR
  have HN := hid (fun W : World => new_ok h1 h8 W)
  have HC := hid (fun (W : World) (hW : Fr w W (fun _ => False)) => vclone_any (h.fr hW (fun _ _ _ _ _ h => h)) hrr.1 (by omega))
  obtain ⟨ao, cap, rfl, hl, _⟩ := id h
  have hmm := @run_makeMap Try.prog
  clear h hr
  go_enter Try.func11, Try.ntmps11
  go_wp2_with fail
  refine HR.out.mono ?_
  rintro e w1 ⟨rfl, hf1⟩
  have HF1 := hid hf1
  clear hf1 HR
  go_wp2_with fail
  refine (HN.out _).mono ?_
  rintro e w2 ⟨B, g, rfl, hK, hB, hg, hf⟩
  have HK := hid hK
  have HBG := hid (And.intro hB hg)
  have HF2 := hid (HF1.out.trans hf)
  clear hK hB hg hf HN
  go_wp2_with fail
  refine (HC.out _ HF2.out).mono ?_
  rintro e w3 ⟨gv, cap', rfl, hrow, hgv, hf⟩
  have HK3 := hid (HK.out.fr hf (fun h => h) (fun h => h))
  have HF3 := hid (HF2.out.trans hf)
  have HROW := hid hrow
  have HGV := hid hgv
  clear hrow hgv hf HC HK
  go_wp2_with fail
  go_ret2
  have hz1 := HF1.out.size
  have hz2 := HF2.out.size
  have hz3 := HF3.out.size
  have hbg := HBG.out
  have hgv := HGV.out
  have hA := alloc_fr w3 (.map #[] 0) (fun _ => False)
  have hA2 := hA.alloc (.cells (oc ⟨w3.heap.size + 1, w3.heap.size, B, g, gv, cap'⟩ vs.length) 87)
  obtain ⟨rest, hrow⟩ := HROW.out
  refine ⟨⟨w3.heap.size + 1, w3.heap.size, B, g, gv, cap'⟩, by first | rfl | simp, ⟨?_, ⟨rest, hrow.fr hA2 (fun h => h)⟩, HK3.out.fr hA2 (fun h => h) (fun h => h), ?_, hrr.2.2, hrr.1, hrr.2.1, List.Pairwise.nil, by simp⟩, ⟨by show _ ≤ w3.heap.size + 1; omega, by show _ ≤ w3.heap.size; omega, by show _ ≤ B; omega, by show _ ≤ g; omega, by show _ ≤ gv; omega⟩, HF3.out.trans hA2⟩
  · exact heap_last _ _ _ (by simp)
  · exact (Mc.new w3).fr (alloc_fr _ _ (fun _ => False)) (fun h => h)
theorem onew_bad {w : World} {v : Value} {vs : List Vw} (h : Vs w v vs) (hr : rightVs vs = false) (s : Int) : Calls Try.prog 11 #[v, .int .i64 s] w fun e w' => e = .returned (.tuple #[.pointer none, .int .i64 24]) ∧ Fr w w' (fun _ => False) := by
  have HR := hid (areRight_any h)
  rw [hr] at HR
  obtain ⟨ao, cap, rfl, hl, _⟩ := id h
  clear h hr
  go_enter Try.func11, Try.ntmps11
  go_wp2_with fail
  refine HR.out.mono ?_
  rintro e w1 ⟨rfl, hf1⟩
  have HF1 := hid hf1
  clear hf1 HR
  go_wp2_with fail
  go_ret2
  exact ⟨rfl, HF1.out⟩
theorem onew_arg {w : World} {v : Value} {vs : List Vw} (h : Vs w v vs) (hr : rightVs vs = true) {s : Int} (hs : ¬ (1 ≤ s ∧ s ≤ 8)) : Calls Try.prog 11 #[v, .int .i64 s] w fun e w' => e = .returned (.tuple #[.pointer none, .int .i64 1]) ∧ Fr w w' (fun _ => False) := by
  have HR := hid (areRight_any h)
  rw [hr] at HR
  have HN := hid (fun W : World => new_bad hs W)
  obtain ⟨ao, cap, rfl, hl, _⟩ := id h
  clear h hr
  go_enter Try.func11, Try.ntmps11
  go_wp2_with fail
  refine HR.out.mono ?_
  rintro e w1 ⟨rfl, hf1⟩
  have HF1 := hid hf1
  clear hf1 HR
  go_wp2_with fail
  refine (HN.out _).mono ?_
  rintro e w2 ⟨rfl, hf2⟩
  have HF2 := hid (HF1.out.trans hf2)
  clear hf2
  go_wp2_with fail
  go_ret2
  exact ⟨rfl, HF2.out⟩
end Go.Proofs.Ytbhhpkbiflolfaa.V
