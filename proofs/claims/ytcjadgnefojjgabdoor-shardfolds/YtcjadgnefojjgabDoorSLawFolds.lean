/- ShardFolds returns true for every cell and every two lists, which read afterwards as before; unicode/utf8's two tables hold what the program's text lays in them (the card ties that); no further conditions. -/
import Derived.Test.YtcjadgnefojjgabDoorSLaid
import Derived.Test.YtcjadgnefojjgabDoorSFold
import Derived.SizedLaws
import Derived.ChangeSlices
import Derived.Deep.Slices
import Derived.Carry
namespace Go.Proofs.YtcjadgnefojjgabDoor.S
open Go.ChangeShapes Go.WideShapes Go.ChangeAt Go.RowKit G

theorem lawLaid : laidOutB Tryd.prog = true := by kernel_rfl
theorem Tryd.cells_i64 : Tryd.prog.cellsOf 2 = 1 := by kernel_rfl
theorem Tryd.cells_int : Tryd.prog.cellsOf 3 = 1 := by kernel_rfl
theorem Tryd.cells_str : Tryd.prog.cellsOf 9 = 1 := by kernel_rfl
theorem Tryd.cells_cell : Tryd.prog.cellsOf 23 = 3 := by kernel_rfl
theorem Tryd.bytes_i64 : Tryd.prog.bytesOf 2 = 8 := by kernel_rfl
theorem Tryd.bytes_int : Tryd.prog.bytesOf 3 = 8 := by kernel_rfl

theorem addr_plain {W : World} {a : Addr} {v : Value} (h : W.cell? (a.add 0) = some v) : ∃ b off, a = ⟨b, off, none⟩ := by
  obtain ⟨b, off, spot⟩ := a
  have hspot : spot = none := by simpa [Addr.add] using World.cell?_spot h
  exact ⟨b, off, by rw [hspot]⟩

theorem is_of_trod {H : Type} {enc : TypeId × Value → H} {W : World} {base : Nat} {held : Bool} {fuel : Nat} {a0 : Option Addr} {len cap : Nat} {x : DataW H × List MemPlace} {t e : TypeId} (hu : Tryd.prog.underlying t = some (.slice e)) (he : Tryd.prog.underlying e = some (.int .i64)) (h1 : Tryd.prog.cellsOf e = 1) (h : DataW.trod enc Tryd.prog W base (fun _ => true) held fuel t [.slice a0 len cap] = some x) (hlen : len ≤ 140737488355328) :
    ∃ xs : List Int, Is W (.slice a0 len cap) xs := by
  rcases open_ints hu he h1 h with ⟨hcs, hx⟩ | ⟨a, len', cap', zs, hcs, _, hl, hm, hz, hx, hcell, hwz⟩
  · simp at hcs
    obtain ⟨rfl, rfl, rfl⟩ := hcs
    exact ⟨[], ⟨none, 0, rfl, by simp, by simp, fun h => absurd rfl h⟩⟩
  · simp at hcs
    obtain ⟨rfl, rfl, rfl⟩ := hcs
    simp only [if_true] at hz
    have hlt : (zs.take len).length = len := by simp; omega
    refine ⟨zs.take len, ⟨some a, cap, by rw [hlt], by rw [hlt]; exact hlen, fun y hy => bounds_i64 (hwz y (List.mem_of_mem_take hy)), fun hne => ?_⟩⟩
    have hpos : 0 < len := by
      rcases Nat.eq_zero_or_pos len with h0 | h0
      · subst h0
        simp at hne
      · exact h0
    obtain ⟨b, off, rfl⟩ := addr_plain (hcell 0 (by omega))
    refine ⟨b, off, rfl, fun i hi => ?_⟩
    rw [hlt] at hi
    have hc := hcell i (by omega)
    rw [Addr.add_lit] at hc
    rw [hc]
    simp [List.getD, hi]

/-- A slice's length, by the reach. -/
theorem len_of_trod {H : Type} {enc : TypeId × Value → H} {W : World} {base : Nat} {held : Bool} {fuel : Nat} {a0 : Option Addr} {len cap : Nat} {d : DataW H} {pl : List MemPlace} {t e : TypeId} (hu : Tryd.prog.underlying t = some (.slice e)) (hb : 1 ≤ Tryd.prog.bytesOf e) (h : DataW.trod enc Tryd.prog W base (fun _ => true) held fuel t [.slice a0 len cap] = some (d, pl))
    {ts : List TypeId} {ds : List (DataW H)} (hsz : (DataW.weightsEach Tryd.prog ts ds).all (· ≤ reachBytes) = true) {j : Nat} (ht : ts[j]? = some t) (hd : ds[j]? = some d) : len ≤ 140737488355328 := by
  rcases Go.Deep.open_slice hu h with ⟨hcs, _⟩ | ⟨a, len', cap', m, n, D, Pl, hcs, _, hl, hm, hmm, hx, _⟩
  · simp at hcs
    omega
  · simp at hcs
    obtain ⟨rfl, rfl, rfl⟩ := hcs
    simp only [Prod.mk.injEq] at hx
    have := sized_slice hsz ht (by rw [hd, hx.1]) hu
    simp only [List.length_map, List.length_range, reachBytes] at this
    have h2 : len ≤ (len + (m - len)) * Tryd.prog.bytesOf e := Nat.le_trans (Nat.le_add_right _ _) (Nat.le_mul_of_pos_right _ hb)
    omega

set_option maxRecDepth 100000 in
theorem Tryd.cell_struct : ∃ f0 f1 f2 : Field, Tryd.prog.underlying 23 = some (.struct #[f0, f1, f2]) ∧ (f0.offset = 0 ∧ f0.type = 3) ∧ (f1.offset = 1 ∧ f1.type = 9) ∧ (f2.offset = 2 ∧ f2.type = 2) :=
  ⟨_, _, _, Tryd.underlying23, ⟨rfl, rfl⟩, ⟨rfl, rfl⟩, ⟨rfl, rfl⟩⟩

set_option maxRecDepth 100000 in
theorem cell_of_trod {H : Type} {enc : TypeId × Value → H} {W : World} {base : Nat} {spare : Nat → Bool} {held : Bool} {fuel : Nat} {cs : List Value} {x : DataW H × List MemPlace} (hl : cs.length = 3) (h : DataW.trod enc Tryd.prog W base spare held fuel 23 cs = some x) :
    ∃ c : Cl, c.k.size ≤ 9223372036854775807 ∧ cs = [.int .i64 c.v, .string c.k, .int .i64 c.s] := by
  obtain ⟨f0, f1, f2, hs, ⟨o0, t0⟩, ⟨o1, t1⟩, ⟨o2, t2⟩⟩ := Tryd.cell_struct
  obtain ⟨xs, n, _, hx, hlen, hxl, hf⟩ := DataW.trod_struct hs h
  match cs, hl with
  | [c0, c1, c2], _ =>
    match xs, hxl with
    | [y0, y1, y2], _ =>
      have g0 := hf 0 f0 rfl
      have g1 := hf 1 f1 rfl
      have g2 := hf 2 f2 rfl
      rw [o0, t0, Tryd.cells_int] at g0
      rw [o1, t1, Tryd.cells_str] at g1
      rw [o2, t2, Tryd.cells_i64] at g2
      simp only [List.drop_succ_cons, List.drop_zero, List.take_succ_cons, List.take_zero, List.getElem?_cons_zero, List.getElem?_cons_succ] at g0 g1 g2
      obtain ⟨n0, e0, _, w0⟩ := DataW.trod_int Tryd.underlying3 g0
      obtain ⟨s1, e1, _, w1⟩ := DataW.trod_string Tryd.underlying9 g1
      obtain ⟨n2, e2, _, w2⟩ := DataW.trod_int Tryd.underlying2 g2
      simp only [List.cons.injEq, and_true] at e0 e1 e2
      subst e0 e1 e2
      exact ⟨⟨n0, s1, n2⟩, by unfold maxLen at w1; exact w1, rfl⟩

set_option maxRecDepth 100000 in
/-- A cell as an argument. -/
theorem cell_of_arg {H : Type} {enc : TypeId × Value → H} {W : World} {base b0 : Nat} {r : Reach} {spare : Nat → Bool} {held : Bool} {v : Value} {d : DataW H} {p : List MemPlace} (hok : Value.okWide Tryd.prog W r b0 23 v) (h : DataW.Trod enc Tryd.prog W base spare held 23 v d p) :
    ∃ c : Cl, c.k.size ≤ 9223372036854775807 ∧ v = .agg #[.int .i64 c.v, .string c.k, .int .i64 c.s] := by
  obtain ⟨cs, rfl, hsz⟩ := okWide_struct Tryd.underlying23 hok
  rw [Tryd.cells_cell] at hsz
  obtain ⟨f, hf⟩ := h
  have hf' : DataW.trod enc Tryd.prog W base spare held f 23 cs.toList = some (d, p) := by simpa [Value.cells] using hf
  obtain ⟨a, ha, e⟩ := cell_of_trod (by simpa using hsz) hf'
  refine ⟨a, ha, ?_⟩
  congr 1
  apply Array.ext'
  rw [e]

abbrev foldsArgs : Array Value := #[.agg #[.int .i64 0, .string ⟨#[]⟩, .int .i64 0], .slice none 0 0, .slice none 0 0]
theorem folds_met (os : Os) : laidMet Tryd.prog Rows.shardFoldsRow.laid ((laidWorld os).forCall (fun _ _ => 0) ⟨#[], foldsArgs, []⟩).memory :=
  laidMet_of_run' 8 (by kernel_rfl) (by kernel_rfl)
theorem folds_reads (os : Os) {H : Type} (enc : TypeId × Value → H) : ∃ places, DataW.whole enc Tryd.prog ((laidWorld os).forCall (fun _ _ => 0) ⟨#[], foldsArgs, []⟩).memory Tryd.f3.params.toList Rows.shardFoldsSpec.vars false foldsArgs.toList 8 = some ([.agg [.lit (.int .i64 0), .lit (.string []), .lit (.int .i64 0)], .nil, .nil], [], places) :=
  ⟨[], by kernel_rfl⟩

set_option maxRecDepth 100000 in
theorem folds_lifted (os : Os) (started : os.Started) (H : Type) (enc : TypeId × Value → H) (F : Stop.Interp) :
    ReturnsInHanded {} Tryd.checked os 3 .any ((OpenSpec.ofChange Rows.shardFoldsSpec).preRow enc Tryd.prog Tryd.f3 Rows.shardFoldsRow.domain false Rows.shardFoldsRow.laid) (((OpenSpec.ofChange Rows.shardFoldsSpec).at F).post enc Tryd.prog Tryd.f3 false true false false) := by
  obtain ⟨places, hx⟩ := folds_reads os enc
  refine returnsInHanded_of_row (C := Tryd.checked) (s := OpenSpec.ofChange Rows.shardFoldsSpec) lawOwn started (by kernel_rfl) Tryd.func3
    (witness_row_at (enc := enc) (C := Tryd.checked) false (laidWorld os) foldsArgs rfl (by kernel_rfl) (by kernel_rfl) (by kernel_rfl)
      (OpenSpec.preRow_of_cond 8 hx (by kernel_rfl) (fun k hk => by cases hk) (by kernel_rfl) (folds_met os))) ?_
  intro W base args ds gs before hval hW _ _ hsz0 hL hsh _
  have hsz : (DataW.weightsEach Tryd.prog (Tryd.f3.params.toList ++ (OpenSpec.ofChange Rows.shardFoldsSpec).bare.plain.varTypes Tryd.prog) (ds ++ gs)).all (· ≤ reachBytes) = true := hsz0
  clear hsz0
  have hW' := hW
  obtain ⟨p, q, hA0, hV, rfl, hfz, hnd⟩ := hW
  have hA : DataW.TrodAll enc Tryd.prog W 0 (fun _ => true) true Tryd.f3.params.toList args.toList ds p := hA0
  rw [Tryd.params3] at hA hval hsz
  obtain ⟨v0, v1, v2, d0, d1, d2, p0, p1, p2, rfl, rfl, rfl, h0, h1, h2⟩ := trodAll_three hA
  obtain ⟨rfl, rfl⟩ := trodVars_none hV
  obtain ⟨a1, len1, cap1, rfl⟩ := okWide_slice Tryd.underlying24 (hval 1 24 v1 rfl rfl)
  obtain ⟨a2, len2, cap2, rfl⟩ := okWide_slice Tryd.underlying25 (hval 2 25 v2 rfl rfl)
  obtain ⟨c, hk, rfl⟩ := cell_of_arg (hval 0 23 v0 rfl rfl) h0
  have k0 := h0
  have k1 := h1
  have k2 := h2
  have lt0 : ∀ x ∈ p0, x.block < W.heap.size := by obtain ⟨m, hm⟩ := k0; exact DataW.trod_lt m _ _ _ hm
  have lt1 : ∀ x ∈ p1, x.block < W.heap.size := by obtain ⟨m, hm⟩ := k1; exact DataW.trod_lt m _ _ _ hm
  have lt2 : ∀ x ∈ p2, x.block < W.heap.size := by obtain ⟨m, hm⟩ := k2; exact DataW.trod_lt m _ _ _ hm
  obtain ⟨f1, hf1⟩ := h1
  have hf1' : DataW.trod enc Tryd.prog W 0 (fun _ => true) true f1 24 [.slice a1 len1 cap1] = some (d1, p1) := by simpa [Value.cells] using hf1
  have hl1 := len_of_trod Tryd.underlying24 (by rw [Tryd.bytes_i64]; decide) hf1' hsz (j := 1) rfl rfl
  obtain ⟨xs, hxs⟩ := is_of_trod Tryd.underlying24 Tryd.underlying2 Tryd.cells_i64 hf1' hl1
  obtain ⟨f2, hf2⟩ := h2
  have hf2' : DataW.trod enc Tryd.prog W 0 (fun _ => true) true f2 25 [.slice a2 len2 cap2] = some (d2, p2) := by simpa [Value.cells] using hf2
  have hl2 := len_of_trod Tryd.underlying25 (by rw [Tryd.bytes_int]; decide) hf2' hsz (j := 2) rfl rfl
  obtain ⟨ys, hys⟩ := is_of_trod Tryd.underlying25 Tryd.underlying3 Tryd.cells_int hf2' hl2
  refine (folds_walk c _ _ xs ys W (gl_of_shaped hsh) hk hxs hys).mono fun e W' ⟨he, hf⟩ => ?_
  subst he
  have bel : Below W.heap.size W W' := hf.below (Nat.le_refl _) (fun _ h => h.elim)
  exact ⟨_, rfl, _, _, _, [], _, [], hW', trodAll_mk1 (shut_bool Tryd.underlying4 _), trodAll_mk3 (Below.trod lawLaid (by kernel_rfl) (of_decide_eq_true (by kernel_rfl)) k0 bel lt0) (Below.trod lawLaid (by kernel_rfl) (of_decide_eq_true (by kernel_rfl)) k1 bel lt1) (Below.trod lawLaid (by kernel_rfl) (of_decide_eq_true (by kernel_rfl)) k2 bel lt2), rfl, bel.frame _, fun h => by cases h⟩

theorem folds_said : Rows.ShardFoldsSaid :=
  OpenClaim.holds_of_cond 3 Tryd.f3 rfl rfl rfl rfl rfl rfl rfl ⟨rfl, rfl, rfl, rfl, rfl⟩ rfl rfl rfl rfl rfl (by kernel_rfl) Tryd.func3 (by kernel_rfl)
    (of_decide_eq_true (by kernel_rfl)) (by unfold Func.isWrapper; first | (rw [if_pos (by decide +kernel)]; kernel_rfl) | (rw [if_neg (by decide +kernel)]; exact ⟨rfl, rfl⟩))
    (fun os started H enc _ F => by rw [OpenClaim.pre_eq_preRow]; exact folds_lifted os started H enc F)
/-- No parameter wants a stand-in. -/
theorem folds_plain (f : FuncId) (fn : Func) (hf : Tryd.pinned.checked.prog.funcNamed "spate/spatelaw7.ShardFolds" = some f) (hfn : Tryd.pinned.checked.prog.funcs[f]? = some fn) :
    false = Tryd.pinned.checked.prog.looks [] ∧ ∀ (j : Nat) t, fn.params[j]? = some t → Tryd.pinned.checked.prog.wantsStandIn t = false := by
  obtain rfl : f = 3 := Option.some.inj ((show Tryd.prog.funcNamed "spate/spatelaw7.ShardFolds" = some 3 by kernel_rfl).symm.trans hf) |>.symm
  obtain rfl : fn = Tryd.f3 := (Option.some.inj (Tryd.func3.symm.trans hfn)).symm
  refine ⟨by kernel_rfl, fun j t ht => ?_⟩
  rw [Tryd.params3] at ht
  have h3 : t = 23 ∨ t = 24 ∨ t = 25 := by
    rcases j with _ | _ | _ | j
    · exact Or.inl (by simpa using ht.symm)
    · exact Or.inr (Or.inl (by simpa using ht.symm))
    · exact Or.inr (Or.inr (by simpa using ht.symm))
    · simp at ht
  rcases h3 with rfl | rfl | rfl
  · exact (show Tryd.prog.wantsStandIn 23 = false by kernel_rfl)
  · exact (show Tryd.prog.wantsStandIn 24 = false by kernel_rfl)
  · exact (show Tryd.prog.wantsStandIn 25 = false by kernel_rfl)
end Go.Proofs.YtcjadgnefojjgabDoor.S
namespace Go.Proofs.YtcjadgnefojjgabDoor
set_option maxRecDepth 100000 in
theorem shardFolds_card : Rows.ShardFoldsCardSaid :=
  Claim7.holds_tied_plain_at .later [] _ _ _ _ S.folds_said (fun _ h => by cases h) (by kernel_rfl) (fun _ h => by cases h) shardFolds_row_tie rfl ⟨rfl, rfl⟩ (by kernel_rfl) rfl S.folds_plain (by kernel_rfl)
#print axioms shardFolds_card
end Go.Proofs.YtcjadgnefojjgabDoor
