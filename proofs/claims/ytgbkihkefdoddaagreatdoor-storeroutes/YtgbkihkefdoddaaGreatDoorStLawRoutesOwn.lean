/- StoreRoutes returns true for every number of shards and every list of texts, which read afterwards as before; unicode/utf8's two tables hold what the program's text lays in them (the card ties that); no further conditions. -/
import Derived.Test.YtgbkihkefdoddaaGreatDoorJoin31
import Derived.Test.YtgbkihkefdoddaaGreatDoorJoin32
import Derived.SizedLaws
import Derived.ChangeSlices
import Derived.Deep.Slices
import Derived.Carry
namespace Go.Proofs.YtgbkihkefdoddaaGreatDoor.St
open Go.ChangeShapes Go.WideShapes Go.ChangeAt Go.RowKit G S

theorem lawLaid : laidOutB Tryz.prog = true := by kernel_rfl
theorem Tryz.cells_string : Tryz.prog.cellsOf 9 = 1 := by kernel_rfl
theorem addr_plain {W : World} {a : Addr} {v : Value} (h : W.cell? (a.add 0) = some v) : ∃ b off, a = ⟨b, off, none⟩ := by
  obtain ⟨b, off, spot⟩ := a
  have hspot : spot = none := by simpa [Addr.add] using World.cell?_spot h
  exact ⟨b, off, by rw [hspot]⟩
set_option maxRecDepth 100000 in
/-- Texts as an argument. -/
theorem ks_of_trod {H : Type} {enc : TypeId × Value → H} {W : World} {base : Nat} {held : Bool} {fuel : Nat} {c : Value} {x : DataW H × List MemPlace} (h : DataW.trod enc Tryz.prog W base (fun _ => true) held fuel 45 [c] = some x) :
    ∃ ks : List ByteArray, KsAt W c ks := by
  rcases Go.Deep.open_slice Tryz.underlying45 h with ⟨hcs, _⟩ | ⟨a, len, cap, m, n, D, Pl, hcs, _, hl, hm, hmm, hx, hV⟩
  · simp at hcs
    subst hcs
    exact ⟨[], ⟨none, 0, rfl, by simp, fun h => by simp at h⟩, fun k hk => by simp at hk⟩
  · simp at hcs
    subst hcs
    simp only [if_true] at hmm
    rw [Tryz.cells_string] at hV
    obtain ⟨F, hF⟩ := Go.Deep.choose_lt (α := ByteArray) (p := fun i s => W.cell? (a.add i) = some (.string s) ∧ s.size ≤ 9223372036854775807) (n := len) (fun i hi => by
      obtain ⟨cs', h1, h2⟩ := hV i (by omega)
      obtain ⟨_, hl1, hcell⟩ := World.cells?_some h1
      match cs', hl1 with
      | [c0], _ =>
        obtain ⟨s1, e1, _, w1⟩ := DataW.trod_string Tryz.underlying9 h2
        simp only [List.cons.injEq, and_true] at e1
        subst e1
        have h0 := hcell 0 (by omega)
        refine ⟨s1, ?_, by unfold maxLen at w1; exact w1⟩
        rw [Nat.mul_one] at h0
        simpa [Addr.add] using h0)
    have hl2 : ((List.range len).map F).length = len := by simp
    unfold maxLen at hm
    refine ⟨(List.range len).map F, ⟨some a, cap, by rw [hl2], by rw [hl2]; omega, fun hpos => ?_⟩, fun k hk => ?_⟩
    · rw [hl2] at hpos
      obtain ⟨b, o, rfl⟩ := addr_plain (hF 0 hpos).1
      refine ⟨b, o, rfl, fun i hi => ?_⟩
      rw [hl2] at hi
      have := (hF i hi).1
      rw [Addr.add_lit] at this
      rw [this]
      simp [List.getD, hi]
    · obtain ⟨i, hi, rfl⟩ := List.mem_map.1 hk
      exact (hF i (by simpa using hi)).2

abbrev routesArgs : Array Value := #[.int .i64 0, .slice none 0 0]
theorem routes_met (os : Os) : laidMet Tryz.prog Rows.storeRoutesRow.laid ((laidWorld os).forCall (fun _ _ => 0) ⟨#[], routesArgs, []⟩).memory :=
  laidMet_of_run' 8 (by kernel_rfl) (by kernel_rfl)
theorem routes_reads (os : Os) {H : Type} (enc : TypeId × Value → H) : ∃ places, DataW.whole enc Tryz.prog ((laidWorld os).forCall (fun _ _ => 0) ⟨#[], routesArgs, []⟩).memory Tryz.f5.params.toList Rows.storeRoutesSpec.vars false routesArgs.toList 8 = some ([.lit (.int .i64 0), .nil], [], places) :=
  ⟨[], by kernel_rfl⟩

set_option maxRecDepth 100000 in
theorem routes_lifted (os : Os) (started : os.Started) (H : Type) (enc : TypeId × Value → H) (F : Stop.Interp) :
    ReturnsInHanded {} Tryz.checked os 5 .any ((OpenSpec.ofChange Rows.storeRoutesSpec).preRow enc Tryz.prog Tryz.f5 Rows.storeRoutesRow.domain false Rows.storeRoutesRow.laid) (((OpenSpec.ofChange Rows.storeRoutesSpec).at F).post enc Tryz.prog Tryz.f5 false true false false) := by
  obtain ⟨places, hx⟩ := routes_reads os enc
  refine returnsInHanded_of_row (C := Tryz.checked) (s := OpenSpec.ofChange Rows.storeRoutesSpec) lawOwn started (by kernel_rfl) Tryz.func5
    (witness_row_at (enc := enc) (C := Tryz.checked) false (laidWorld os) routesArgs rfl (by kernel_rfl) (by kernel_rfl) (by kernel_rfl)
      (OpenSpec.preRow_of_cond 8 hx (by kernel_rfl) (fun k hk => by cases hk) (by kernel_rfl) (routes_met os))) ?_
  intro W base args ds gs before hval hW _ _ hsz0 hL hsh _
  have hW' := hW
  obtain ⟨p, q, hA0, hV, rfl, hfz, hnd⟩ := hW
  have hA : DataW.TrodAll enc Tryz.prog W 0 (fun _ => true) true Tryz.f5.params.toList args.toList ds p := hA0
  rw [Tryz.params5] at hA hval
  obtain ⟨v0, v1, d0, d1, p0, p1, rfl, rfl, rfl, h0, h1⟩ := trodAll_two hA
  obtain ⟨rfl, rfl⟩ := trodVars_none hV
  obtain ⟨n0, rfl⟩ := okWide_int Tryz.underlying3 (hval 0 3 v0 rfl rfl)
  obtain ⟨a1, len1, cap1, rfl⟩ := okWide_slice Tryz.underlying45 (hval 1 45 v1 rfl rfl)
  have k0 := h0
  have k1 := h1
  have lt0 : ∀ x ∈ p0, x.block < W.heap.size := by obtain ⟨m, hm⟩ := k0; exact DataW.trod_lt m _ _ _ hm
  have lt1 : ∀ x ∈ p1, x.block < W.heap.size := by obtain ⟨m, hm⟩ := k1; exact DataW.trod_lt m _ _ _ hm
  obtain ⟨f1, hf1⟩ := h1
  have hf1' : DataW.trod enc Tryz.prog W 0 (fun _ => true) true f1 45 [.slice a1 len1 cap1] = some (d1, p1) := by simpa [Value.cells] using hf1
  obtain ⟨ks, hks⟩ := ks_of_trod hf1'
  refine (routes_walk n0 ks _ W (gl_of_shaped hsh) hks).mono fun e W' ⟨he, hf⟩ => ?_
  subst he
  have bel : Below W.heap.size W W' := hf.below (Nat.le_refl _) (fun _ h => h.elim)
  exact ⟨_, rfl, _, _, _, [], _, [], hW', trodAll_mk1 (shut_bool Tryz.underlying4 _), trodAll_mk2 (Below.trod lawLaid (by kernel_rfl) (of_decide_eq_true (by kernel_rfl)) k0 bel lt0) (Below.trod lawLaid (by kernel_rfl) (of_decide_eq_true (by kernel_rfl)) k1 bel lt1), rfl, bel.frame _, fun h => by cases h⟩

theorem routes_said : Rows.StoreRoutesSaid :=
  OpenClaim.holds_of_cond 5 Tryz.f5 rfl rfl rfl rfl rfl rfl rfl ⟨rfl, rfl, rfl, rfl, rfl⟩ rfl rfl rfl rfl rfl (by kernel_rfl) Tryz.func5 (by kernel_rfl)
    (of_decide_eq_true (by kernel_rfl)) (by unfold Func.isWrapper; first | (rw [if_pos (by decide +kernel)]; kernel_rfl) | (rw [if_neg (by decide +kernel)]; exact ⟨rfl, rfl⟩))
    (fun os started H enc _ F => by rw [OpenClaim.pre_eq_preRow]; exact routes_lifted os started H enc F)
/-- No parameter wants a stand-in. -/
theorem routes_plain (f : FuncId) (fn : Func) (hf : Tryz.pinned.checked.prog.funcNamed "spate/spatelaw10.StoreRoutes" = some f) (hfn : Tryz.pinned.checked.prog.funcs[f]? = some fn) :
    true = Tryz.pinned.checked.prog.looks [] ∧ ∀ (j : Nat) t, fn.params[j]? = some t → Tryz.pinned.checked.prog.wantsStandIn t = false := by
  obtain rfl : f = 5 := Option.some.inj ((show Tryz.prog.funcNamed "spate/spatelaw10.StoreRoutes" = some 5 by kernel_rfl).symm.trans hf) |>.symm
  obtain rfl : fn = Tryz.f5 := (Option.some.inj (Tryz.func5.symm.trans hfn)).symm
  refine ⟨by kernel_rfl, fun j t ht => ?_⟩
  rw [Tryz.params5] at ht
  have h3 : t = 3 ∨ t = 45 := by
    rcases j with _ | _ | j
    · exact Or.inl (by simpa using ht.symm)
    · exact Or.inr (by simpa using ht.symm)
    · simp at ht
  rcases h3 with rfl | rfl
  · exact (show Tryz.prog.wantsStandIn 3 = false by kernel_rfl)
  · exact (show Tryz.prog.wantsStandIn 45 = false by kernel_rfl)
end Go.Proofs.YtgbkihkefdoddaaGreatDoor.St
namespace Go.Proofs.YtgbkihkefdoddaaGreatDoor
set_option maxRecDepth 100000 in
theorem storeRoutes_card : Rows.StoreRoutesCardSaid :=
  Claim7.holds_tied_plain_at .later [] _ _ _ _ St.routes_said (fun _ h => by cases h) (by kernel_rfl) (fun _ h => by cases h) storeRoutes_row_tie rfl ⟨rfl, rfl⟩ (by kernel_rfl) rfl St.routes_plain (by kernel_rfl)
#print axioms storeRoutes_card
end Go.Proofs.YtgbkihkefdoddaaGreatDoor
