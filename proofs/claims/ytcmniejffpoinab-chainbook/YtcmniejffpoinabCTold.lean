/- told: a walk. -/
import Derived.Test.YtcmniejffpoinabCSeq
namespace Go.Proofs.Ytcmniejffpoinab
open Go.RowKit Go.Shelf

attribute [local go_sem] Oper.semAt_some

/-- A version as one number. -/
def codB (e : Int) (t : Bool) : Int := if t then 2 * e + 1 else 2 * e
def cod (x : Vn) : Int := codB x.e x.t
def cods (L : List Vn) : List Int := L.map cod

theorem coded_any (e : Int) (t : Bool) (h1 : 1 ≤ e) (h2 : e ≤ 1099511627776) (w : World) : Calls Try.prog 19 #[.int .i64 e, .bool t] w fun r w' => r = .returned (.int .i64 (codB e t)) ∧ w' = w := by
  cases t with
  | true =>
    go_enter Try.func19, Try.ntmps19
    go_wp2_with fail
    go_ret
    exact ⟨rfl, rfl⟩
  | false =>
    go_enter Try.func19, Try.ntmps19
    go_wp2_with fail
    go_ret
    exact ⟨rfl, rfl⟩

/-- append of one's own row, as one step of a region in a fence. -/
theorem stepIn_append {F : Fence} {n : Nat} {P : Program} {w : World} {ops : Array Oper} {o : Oper} {a : Act} {K : Act → World → Prop} {Q : Exit → Act → World → Prop} {E : Prop}
    (hg : o.guard = none) (s x : Operand) (t : TypeId) (hop : o.op = Op.call { callee := Callee.builtin Builtin.append, args := #[s, x], argTypes := #[t, t] })
    (base : Nat) (e : TypeId) (i : TypeInfo) (z : Value) (size bytes : Nat) (h1 : P.underlying t = some (.slice e)) (h2 : P.info? e = some i) (h3 : i.zero = some z) (h4 : i.size = size) (h5 : i.bytes = bytes) (h6 : z.cells.size = size) (h7 : 0 < size)
    (v : Value) (k : Nat) (xs : List Value) (hs : a.eval s = v) (hown : w.ownsRow base e size v k xs) (ad : Addr) (m c : Nat) (news : List Value) (hx : a.eval x = .slice (some ad) m c) (hn : news.length = m * size)
    (hc : ∀ j u, news[j]? = some u → w.cell? (ad.add j) = some u) (h1c : ∀ u ∈ news, u.oneCell' = true) (b1 : k + m ≤ maxLen) (b2 : (k + m) * bytes ≤ 140737488355328) (b3 : base ≤ w.heap.size)
    (hK : ∀ v' w', w'.ownsRow base e size v' (k + m) (xs ++ news) → w.grownBy w' v.ownBlock → K (a.put o.dst v') w') :
    if Region.wanted o (yielded ops a.tmps) = true then Oper.wpIn F n P o a w K Q else E := by
  have hw : Region.wanted o (yielded ops a.tmps) = true := by simp [Region.wanted, hg]
  rw [if_pos hw]
  obtain ⟨v', w', hrun, r1, r2, r3⟩ := run_append_own (P := P) w base t o.type e i z size bytes h1 h2 h3 h4 h5 h6 h7 v k xs hown ad m c news hn hc h1c b1 b2 b3
  unfold Oper.wpIn
  refine ⟨?_, ?_⟩
  · simp [Oper.about, hop, resolve, Target.leads, Sem.run_pure]
  · rw [Oper.semAt_plain F _ _ (by rw [hop]; intro c hc'; cases hc')]
    simp [execOp, hop, resolve, invoke, builtin, hs, hx, hrun, Result.andThen]
    exact hK v' w' r1 r2

theorem cods_snoc (pre : List VO) (x : VO) : cods (vals (pre ++ [x])) = cods (vals pre) ++ [codB x.1.e x.1.t] := by rw [vals_snoc]; simp [cods, cod]

set_option maxRecDepth 100000 in
set_option maxHeartbeats 8000000 in
theorem told_any {base B : Nat} {v : Value} {L : List Vn} (w : World) (h : Ch w base B v L) :
    Calls Try.prog 11 #[.pointer (some ⟨B, 0, none⟩)] w fun e w' => ∃ u, e = .returned u ∧ w'.ownsRow w.heap.size 3 1 u (cods L).length (iv (cods L)) ∧ Below w.heap.size w w' := by
  obtain ⟨i0, hi, hz0, hz1, hz2⟩ := info_parts Try.info_int
  obtain ⟨Ls, hLs⟩ := lift_vo h.good.1
  have hll : Ls.length ≤ L.length := by rw [← hLs, vals_length]; exact Nat.le_refl _
  have hlb := h.len
  have hsn := seq_nil
  have HAll := hid (fun (W : World) (hf : Fr w W (fun _ => False)) => all_any W (h.step hf))
  refine (callsIn_wide (n := 3)).1 ?_
  refine callsIn_of_wp_marks Try.func11 rfl trivial ?_ rfl
  simp only [Try.ntmps11, List.size_toArray, List.length_cons, List.length_nil, Nat.reduceAdd, Nat.reduceSub, Array.replicate_succ, Array.replicate_zero, List.push_toArray, List.append_toArray, List.nil_append, List.cons_append]
  gi_wp2_with (refine ⟨trivial, ?_⟩; gi_at_call 12; refine (callsIn_wide.2 (HAll.out _ (alloc_fr w _ _))).mono ?_; rintro e w1 ⟨N, rfl, hN, hq, hf⟩)
  have hBx : Boxed w1 w.heap.size 22 (.slice none 0 0) := (hf.block w.heap.size (by simp) (fun h => h)).trans (heap_last w _ _ rfl)
  have hB0 : Below w.heap.size w w1 := ((alloc_fr w (.cells #[.slice none 0 0] 22) (fun _ => False)).trans hf).below (Nat.le_refl _) (fun _ h => h.elim)
  rw [← hLs] at hq
  refine wpIn_rangeFunc_ownG rfl (by decide) (gf := 20) (lb := #[.pointer (some ⟨N, 0, none⟩)]) rfl trivial (enters_of Try.func20 (by kernel_rfl) rfl)
    (seq_stops Fence.wide 2 trivial rfl (by decide) N _ Ls w1 hq) (fun h k => fun z => k (h z)) (fun W l o o' _ hl ho _ => fun z => z.putObj o' hl ho) (Below.refl _ _) (fun _ => rfl)
    (fun pre W => (∃ u, Boxed W w.heap.size 22 u ∧ W.ownsRow w.heap.size 3 1 u (cods (vals pre)).length (iv (cods (vals pre)))) ∧ Below w.heap.size w W)
    (fun _ _ _ => False)
    (OwnFrom.and (Own.from (holds_own w.heap.size w.heap.size (fun pre : List VO => cods (vals pre))) _) (ownFrom_below (Nat.le_refl _) hB0.size))
    (fun _ _ _ _ _ hs _ _ => hs)
    ⟨⟨_, hBx, World.ownsRow_nil _ _ _ _⟩, hB0⟩
    (fun x => { tmps := #[.pointer (some ⟨B, 0, none⟩), undef, .slice none 0 0, .pointer (some ⟨w.heap.size, 0, none⟩), .func (.func 20) #[] #[.pointer (some ⟨N, 0, none⟩)], .int .i64 x.1.e, .bool x.1.t, .pointer (some ⟨B, 0, none⟩), .func (.func 20) #[] #[.pointer (some ⟨N, 0, none⟩)], .func (.func 20) #[] #[.pointer (some ⟨N, 0, none⟩)], .bool false, .func (.func 20) #[] #[.pointer (some ⟨N, 0, none⟩)], .int .i64 x.1.e, .bool x.1.t, undef, undef, undef, undef, undef, undef, undef], defers := [] }) ?assign ?body ?done ?stop
  case assign =>
    intro l x W K hK
    unfold encV
    gi_wp2
    exact hK
  case body =>
    rintro l pre x W ⟨⟨u, hv, hrow⟩, hB⟩ hlt
    have hc := hv.cell
    have hvl := hv.lt
    have hpl : (cods (vals pre)).length ≤ pre.length := by simp [cods, vals]
    have hpb : pre.length ≤ 1000000 := by omega
    have HV := hid hv
    have HR := hid hrow
    have xb : 1 ≤ x.1.e ∧ x.1.e ≤ 1099511627776 := ⟨x.2.1, x.2.2.1⟩
    gi_wp2
    refine wpIn_region_any (by kernel_rfl) ?_
    change wpAnyIn _ _ _ _ _ _ _ _ _ (World.drew _)
    refine wpAnyIn_ready (rs := [0, 1, 2]) (by kernel_rfl) (by simp) ?_
    refine AllReadyIn.cons rfl (fun K hK => ?_) ?_
    · go_simp
      refine hK _ _ ?_
      clear hK K
      refine wpAnyIn_ready (rs := [1, 2]) (by kernel_rfl) (by simp) ?_
      refine AllReadyIn.cons rfl (fun K hK => ?_) ?_
      · go_simp
        refine hK _ _ ?_
        clear hK K
        refine wpAnyIn_ready (rs := [2]) (by kernel_rfl) (by simp) ?_
        refine AllReadyIn.cons rfl (fun K hK => ?_) ?_
        · go_simp
          refine hK _ _ ?_
          clear hK K
          refine wpAnyIn_ready (rs := [3]) (by kernel_rfl) (by simp) ?_
          refine AllReadyIn.cons rfl (fun K hK => ?_) ?_
          · go_simp
            gi_wp2_with (refine ⟨trivial, ?_⟩; gi_at_call 19; refine (CallsIn.inRound l (callsIn_wide.2 (coded_any x.1.e x.1.t xb.1 xb.2 _))).mono ?_; rintro e' w' ⟨rfl, rfl⟩)
            refine wpAnyIn_ready (rs := [4]) (by kernel_rfl) (by simp) ?_
            refine AllReadyIn.cons rfl (fun K hK => ?_) ?_
            · go_simp
              refine hK _ _ ?_
              clear hK K
              refine wpAnyIn_ready (rs := [5]) (by kernel_rfl) (by simp) ?_
              refine AllReadyIn.cons rfl (fun K hK => ?_) ?_
              · refine stepIn_append rfl (.tmp 14) (.tmp 18) 22 rfl w.heap.size 3 i0 (.int .i64 0) 1 8 Try.underlying22 hi hz0 hz1 hz2 rfl (by decide) u _ _ (by simp [Act.eval]) (own_fr HR.out (((Fr.refl W (fun _ => False)).drew).alloc _) (fun _ _ h => h)) ⟨W.heap.size, 0, none⟩ 1 1 [.int .i64 (codB x.1.e x.1.t)] (by simp [Act.eval]) rfl (cell_one_new W.drew _ _) (by simp [Value.oneCell']) (by unfold maxLen; omega) (by omega) (by have := hB.size; simp; omega) ?_
                intro u' w2 hown' hgrow
                obtain ⟨g', cap', rfl⟩ := ownsRow_succ hown'
                obtain ⟨hv1, hv2, hr2, hk2, hb2⟩ := Boxed.appended (W := W.drew) HV.out (by decide) (own_fr HR.out ((Fr.refl W (fun _ => False)).drew) (fun _ _ h => h)) hB.size (Nat.le_refl _) hown' hgrow
                have hc1 := hv1.cell
                have hf1 := hv1.frozen
                have HKs := hid (ks_append (W := W.drew) (N := N) (S := (w.alloc (.cells #[.slice none 0 0] 22)).heap.size) (L := vals Ls) (u' := .slice (some ⟨g', 0, none⟩) ((cods (vals pre)).length + 1) cap') HV.out (own_fr HR.out ((Fr.refl W (fun _ => False)).drew) (fun _ _ h => h)) hgrow)
                refine hK _ _ ?_
                clear hK K
                refine wpAnyIn_ready (rs := [6]) (by kernel_rfl) (by simp) ?_
                refine AllReadyIn.cons rfl (fun K hK => ?_) ?_
                · go_simp
                  refine hK _ _ ?_
                  clear hK K
                  refine wpAnyIn_done (by kernel_rfl) ?_ _
                  refine ⟨((KeepsOthers.drew W).trans hk2).from _, fun z => HKs.out (z.fr ((Fr.refl W (fun _ => False)).drew) (fun h => h) (fun h => h)), ⟨_, hv2, ?_⟩, hB.trans ((Below.refl _ W).drew.trans hb2)⟩
                  rw [cods_snoc, iv_append, List.length_append, List.length_singleton]
                  exact hr2
                exact AllReadyIn.nil
              exact AllReadyIn.nil
            exact AllReadyIn.nil
          exact AllReadyIn.nil
        exact AllReadyIn.nil
      refine AllReadyIn.cons rfl (fun K hK => ?_) ?_
      · go_simp
        refine hK _ _ ?_
        clear hK K
        refine wpAnyIn_ready (rs := [1]) (by kernel_rfl) (by simp) ?_
        refine AllReadyIn.cons rfl (fun K hK => ?_) ?_
        · go_simp
          refine hK _ _ ?_
          clear hK K
          refine wpAnyIn_ready (rs := [3]) (by kernel_rfl) (by simp) ?_
          refine AllReadyIn.cons rfl (fun K hK => ?_) ?_
          · go_simp
            gi_wp2_with (refine ⟨trivial, ?_⟩; gi_at_call 19; refine (CallsIn.inRound l (callsIn_wide.2 (coded_any x.1.e x.1.t xb.1 xb.2 _))).mono ?_; rintro e' w' ⟨rfl, rfl⟩)
            refine wpAnyIn_ready (rs := [4]) (by kernel_rfl) (by simp) ?_
            refine AllReadyIn.cons rfl (fun K hK => ?_) ?_
            · go_simp
              refine hK _ _ ?_
              clear hK K
              refine wpAnyIn_ready (rs := [5]) (by kernel_rfl) (by simp) ?_
              refine AllReadyIn.cons rfl (fun K hK => ?_) ?_
              · refine stepIn_append rfl (.tmp 14) (.tmp 18) 22 rfl w.heap.size 3 i0 (.int .i64 0) 1 8 Try.underlying22 hi hz0 hz1 hz2 rfl (by decide) u _ _ (by simp [Act.eval]) (own_fr HR.out (((Fr.refl W (fun _ => False)).drew).alloc _) (fun _ _ h => h)) ⟨W.heap.size, 0, none⟩ 1 1 [.int .i64 (codB x.1.e x.1.t)] (by simp [Act.eval]) rfl (cell_one_new W.drew _ _) (by simp [Value.oneCell']) (by unfold maxLen; omega) (by omega) (by have := hB.size; simp; omega) ?_
                intro u' w2 hown' hgrow
                obtain ⟨g', cap', rfl⟩ := ownsRow_succ hown'
                obtain ⟨hv1, hv2, hr2, hk2, hb2⟩ := Boxed.appended (W := W.drew) HV.out (by decide) (own_fr HR.out ((Fr.refl W (fun _ => False)).drew) (fun _ _ h => h)) hB.size (Nat.le_refl _) hown' hgrow
                have hc1 := hv1.cell
                have hf1 := hv1.frozen
                have HKs := hid (ks_append (W := W.drew) (N := N) (S := (w.alloc (.cells #[.slice none 0 0] 22)).heap.size) (L := vals Ls) (u' := .slice (some ⟨g', 0, none⟩) ((cods (vals pre)).length + 1) cap') HV.out (own_fr HR.out ((Fr.refl W (fun _ => False)).drew) (fun _ _ h => h)) hgrow)
                refine hK _ _ ?_
                clear hK K
                refine wpAnyIn_ready (rs := [6]) (by kernel_rfl) (by simp) ?_
                refine AllReadyIn.cons rfl (fun K hK => ?_) ?_
                · go_simp
                  refine hK _ _ ?_
                  clear hK K
                  refine wpAnyIn_done (by kernel_rfl) ?_ _
                  refine ⟨((KeepsOthers.drew W).trans hk2).from _, fun z => HKs.out (z.fr ((Fr.refl W (fun _ => False)).drew) (fun h => h) (fun h => h)), ⟨_, hv2, ?_⟩, hB.trans ((Below.refl _ W).drew.trans hb2)⟩
                  rw [cods_snoc, iv_append, List.length_append, List.length_singleton]
                  exact hr2
                exact AllReadyIn.nil
              exact AllReadyIn.nil
            exact AllReadyIn.nil
          exact AllReadyIn.nil
        exact AllReadyIn.nil
      exact AllReadyIn.nil
    refine AllReadyIn.cons rfl (fun K hK => ?_) ?_
    · go_simp
      refine hK _ _ ?_
      clear hK K
      refine wpAnyIn_ready (rs := [0, 2]) (by kernel_rfl) (by simp) ?_
      refine AllReadyIn.cons rfl (fun K hK => ?_) ?_
      · go_simp
        refine hK _ _ ?_
        clear hK K
        refine wpAnyIn_ready (rs := [2]) (by kernel_rfl) (by simp) ?_
        refine AllReadyIn.cons rfl (fun K hK => ?_) ?_
        · go_simp
          refine hK _ _ ?_
          clear hK K
          refine wpAnyIn_ready (rs := [3]) (by kernel_rfl) (by simp) ?_
          refine AllReadyIn.cons rfl (fun K hK => ?_) ?_
          · go_simp
            gi_wp2_with (refine ⟨trivial, ?_⟩; gi_at_call 19; refine (CallsIn.inRound l (callsIn_wide.2 (coded_any x.1.e x.1.t xb.1 xb.2 _))).mono ?_; rintro e' w' ⟨rfl, rfl⟩)
            refine wpAnyIn_ready (rs := [4]) (by kernel_rfl) (by simp) ?_
            refine AllReadyIn.cons rfl (fun K hK => ?_) ?_
            · go_simp
              refine hK _ _ ?_
              clear hK K
              refine wpAnyIn_ready (rs := [5]) (by kernel_rfl) (by simp) ?_
              refine AllReadyIn.cons rfl (fun K hK => ?_) ?_
              · refine stepIn_append rfl (.tmp 14) (.tmp 18) 22 rfl w.heap.size 3 i0 (.int .i64 0) 1 8 Try.underlying22 hi hz0 hz1 hz2 rfl (by decide) u _ _ (by simp [Act.eval]) (own_fr HR.out (((Fr.refl W (fun _ => False)).drew).alloc _) (fun _ _ h => h)) ⟨W.heap.size, 0, none⟩ 1 1 [.int .i64 (codB x.1.e x.1.t)] (by simp [Act.eval]) rfl (cell_one_new W.drew _ _) (by simp [Value.oneCell']) (by unfold maxLen; omega) (by omega) (by have := hB.size; simp; omega) ?_
                intro u' w2 hown' hgrow
                obtain ⟨g', cap', rfl⟩ := ownsRow_succ hown'
                obtain ⟨hv1, hv2, hr2, hk2, hb2⟩ := Boxed.appended (W := W.drew) HV.out (by decide) (own_fr HR.out ((Fr.refl W (fun _ => False)).drew) (fun _ _ h => h)) hB.size (Nat.le_refl _) hown' hgrow
                have hc1 := hv1.cell
                have hf1 := hv1.frozen
                have HKs := hid (ks_append (W := W.drew) (N := N) (S := (w.alloc (.cells #[.slice none 0 0] 22)).heap.size) (L := vals Ls) (u' := .slice (some ⟨g', 0, none⟩) ((cods (vals pre)).length + 1) cap') HV.out (own_fr HR.out ((Fr.refl W (fun _ => False)).drew) (fun _ _ h => h)) hgrow)
                refine hK _ _ ?_
                clear hK K
                refine wpAnyIn_ready (rs := [6]) (by kernel_rfl) (by simp) ?_
                refine AllReadyIn.cons rfl (fun K hK => ?_) ?_
                · go_simp
                  refine hK _ _ ?_
                  clear hK K
                  refine wpAnyIn_done (by kernel_rfl) ?_ _
                  refine ⟨((KeepsOthers.drew W).trans hk2).from _, fun z => HKs.out (z.fr ((Fr.refl W (fun _ => False)).drew) (fun h => h) (fun h => h)), ⟨_, hv2, ?_⟩, hB.trans ((Below.refl _ W).drew.trans hb2)⟩
                  rw [cods_snoc, iv_append, List.length_append, List.length_singleton]
                  exact hr2
                exact AllReadyIn.nil
              exact AllReadyIn.nil
            exact AllReadyIn.nil
          exact AllReadyIn.nil
        exact AllReadyIn.nil
      refine AllReadyIn.cons rfl (fun K hK => ?_) ?_
      · go_simp
        refine hK _ _ ?_
        clear hK K
        refine wpAnyIn_ready (rs := [0, 3]) (by kernel_rfl) (by simp) ?_
        refine AllReadyIn.cons rfl (fun K hK => ?_) ?_
        · go_simp
          refine hK _ _ ?_
          clear hK K
          refine wpAnyIn_ready (rs := [3]) (by kernel_rfl) (by simp) ?_
          refine AllReadyIn.cons rfl (fun K hK => ?_) ?_
          · go_simp
            gi_wp2_with (refine ⟨trivial, ?_⟩; gi_at_call 19; refine (CallsIn.inRound l (callsIn_wide.2 (coded_any x.1.e x.1.t xb.1 xb.2 _))).mono ?_; rintro e' w' ⟨rfl, rfl⟩)
            refine wpAnyIn_ready (rs := [4]) (by kernel_rfl) (by simp) ?_
            refine AllReadyIn.cons rfl (fun K hK => ?_) ?_
            · go_simp
              refine hK _ _ ?_
              clear hK K
              refine wpAnyIn_ready (rs := [5]) (by kernel_rfl) (by simp) ?_
              refine AllReadyIn.cons rfl (fun K hK => ?_) ?_
              · refine stepIn_append rfl (.tmp 14) (.tmp 18) 22 rfl w.heap.size 3 i0 (.int .i64 0) 1 8 Try.underlying22 hi hz0 hz1 hz2 rfl (by decide) u _ _ (by simp [Act.eval]) (own_fr HR.out (((Fr.refl W (fun _ => False)).drew).alloc _) (fun _ _ h => h)) ⟨W.heap.size, 0, none⟩ 1 1 [.int .i64 (codB x.1.e x.1.t)] (by simp [Act.eval]) rfl (cell_one_new W.drew _ _) (by simp [Value.oneCell']) (by unfold maxLen; omega) (by omega) (by have := hB.size; simp; omega) ?_
                intro u' w2 hown' hgrow
                obtain ⟨g', cap', rfl⟩ := ownsRow_succ hown'
                obtain ⟨hv1, hv2, hr2, hk2, hb2⟩ := Boxed.appended (W := W.drew) HV.out (by decide) (own_fr HR.out ((Fr.refl W (fun _ => False)).drew) (fun _ _ h => h)) hB.size (Nat.le_refl _) hown' hgrow
                have hc1 := hv1.cell
                have hf1 := hv1.frozen
                have HKs := hid (ks_append (W := W.drew) (N := N) (S := (w.alloc (.cells #[.slice none 0 0] 22)).heap.size) (L := vals Ls) (u' := .slice (some ⟨g', 0, none⟩) ((cods (vals pre)).length + 1) cap') HV.out (own_fr HR.out ((Fr.refl W (fun _ => False)).drew) (fun _ _ h => h)) hgrow)
                refine hK _ _ ?_
                clear hK K
                refine wpAnyIn_ready (rs := [6]) (by kernel_rfl) (by simp) ?_
                refine AllReadyIn.cons rfl (fun K hK => ?_) ?_
                · go_simp
                  refine hK _ _ ?_
                  clear hK K
                  refine wpAnyIn_done (by kernel_rfl) ?_ _
                  refine ⟨((KeepsOthers.drew W).trans hk2).from _, fun z => HKs.out (z.fr ((Fr.refl W (fun _ => False)).drew) (fun h => h) (fun h => h)), ⟨_, hv2, ?_⟩, hB.trans ((Below.refl _ W).drew.trans hb2)⟩
                  rw [cods_snoc, iv_append, List.length_append, List.length_singleton]
                  exact hr2
                exact AllReadyIn.nil
              exact AllReadyIn.nil
            exact AllReadyIn.nil
          exact AllReadyIn.nil
        refine AllReadyIn.cons rfl (fun K hK => ?_) ?_
        · go_simp
          gi_wp2_with (refine ⟨trivial, ?_⟩; gi_at_call 19; refine (CallsIn.inRound l (callsIn_wide.2 (coded_any x.1.e x.1.t xb.1 xb.2 _))).mono ?_; rintro e' w' ⟨rfl, rfl⟩)
          refine wpAnyIn_ready (rs := [0, 4]) (by kernel_rfl) (by simp) ?_
          refine AllReadyIn.cons rfl (fun K hK => ?_) ?_
          · go_simp
            refine hK _ _ ?_
            clear hK K
            refine wpAnyIn_ready (rs := [4]) (by kernel_rfl) (by simp) ?_
            refine AllReadyIn.cons rfl (fun K hK => ?_) ?_
            · go_simp
              refine hK _ _ ?_
              clear hK K
              refine wpAnyIn_ready (rs := [5]) (by kernel_rfl) (by simp) ?_
              refine AllReadyIn.cons rfl (fun K hK => ?_) ?_
              · refine stepIn_append rfl (.tmp 14) (.tmp 18) 22 rfl w.heap.size 3 i0 (.int .i64 0) 1 8 Try.underlying22 hi hz0 hz1 hz2 rfl (by decide) u _ _ (by simp [Act.eval]) (own_fr HR.out (((Fr.refl W (fun _ => False)).drew).alloc _) (fun _ _ h => h)) ⟨W.heap.size, 0, none⟩ 1 1 [.int .i64 (codB x.1.e x.1.t)] (by simp [Act.eval]) rfl (cell_one_new W.drew _ _) (by simp [Value.oneCell']) (by unfold maxLen; omega) (by omega) (by have := hB.size; simp; omega) ?_
                intro u' w2 hown' hgrow
                obtain ⟨g', cap', rfl⟩ := ownsRow_succ hown'
                obtain ⟨hv1, hv2, hr2, hk2, hb2⟩ := Boxed.appended (W := W.drew) HV.out (by decide) (own_fr HR.out ((Fr.refl W (fun _ => False)).drew) (fun _ _ h => h)) hB.size (Nat.le_refl _) hown' hgrow
                have hc1 := hv1.cell
                have hf1 := hv1.frozen
                have HKs := hid (ks_append (W := W.drew) (N := N) (S := (w.alloc (.cells #[.slice none 0 0] 22)).heap.size) (L := vals Ls) (u' := .slice (some ⟨g', 0, none⟩) ((cods (vals pre)).length + 1) cap') HV.out (own_fr HR.out ((Fr.refl W (fun _ => False)).drew) (fun _ _ h => h)) hgrow)
                refine hK _ _ ?_
                clear hK K
                refine wpAnyIn_ready (rs := [6]) (by kernel_rfl) (by simp) ?_
                refine AllReadyIn.cons rfl (fun K hK => ?_) ?_
                · go_simp
                  refine hK _ _ ?_
                  clear hK K
                  refine wpAnyIn_done (by kernel_rfl) ?_ _
                  refine ⟨((KeepsOthers.drew W).trans hk2).from _, fun z => HKs.out (z.fr ((Fr.refl W (fun _ => False)).drew) (fun h => h) (fun h => h)), ⟨_, hv2, ?_⟩, hB.trans ((Below.refl _ W).drew.trans hb2)⟩
                  rw [cods_snoc, iv_append, List.length_append, List.length_singleton]
                  exact hr2
                exact AllReadyIn.nil
              exact AllReadyIn.nil
            exact AllReadyIn.nil
          refine AllReadyIn.cons rfl (fun K hK => ?_) ?_
          · go_simp
            refine hK _ _ ?_
            clear hK K
            refine wpAnyIn_ready (rs := [0]) (by kernel_rfl) (by simp) ?_
            refine AllReadyIn.cons rfl (fun K hK => ?_) ?_
            · go_simp
              refine hK _ _ ?_
              clear hK K
              refine wpAnyIn_ready (rs := [5]) (by kernel_rfl) (by simp) ?_
              refine AllReadyIn.cons rfl (fun K hK => ?_) ?_
              · refine stepIn_append rfl (.tmp 14) (.tmp 18) 22 rfl w.heap.size 3 i0 (.int .i64 0) 1 8 Try.underlying22 hi hz0 hz1 hz2 rfl (by decide) u _ _ (by simp [Act.eval]) (own_fr HR.out (((Fr.refl W (fun _ => False)).drew).alloc _) (fun _ _ h => h)) ⟨W.heap.size, 0, none⟩ 1 1 [.int .i64 (codB x.1.e x.1.t)] (by simp [Act.eval]) rfl (cell_one_new W.drew _ _) (by simp [Value.oneCell']) (by unfold maxLen; omega) (by omega) (by have := hB.size; simp; omega) ?_
                intro u' w2 hown' hgrow
                obtain ⟨g', cap', rfl⟩ := ownsRow_succ hown'
                obtain ⟨hv1, hv2, hr2, hk2, hb2⟩ := Boxed.appended (W := W.drew) HV.out (by decide) (own_fr HR.out ((Fr.refl W (fun _ => False)).drew) (fun _ _ h => h)) hB.size (Nat.le_refl _) hown' hgrow
                have hc1 := hv1.cell
                have hf1 := hv1.frozen
                have HKs := hid (ks_append (W := W.drew) (N := N) (S := (w.alloc (.cells #[.slice none 0 0] 22)).heap.size) (L := vals Ls) (u' := .slice (some ⟨g', 0, none⟩) ((cods (vals pre)).length + 1) cap') HV.out (own_fr HR.out ((Fr.refl W (fun _ => False)).drew) (fun _ _ h => h)) hgrow)
                refine hK _ _ ?_
                clear hK K
                refine wpAnyIn_ready (rs := [6]) (by kernel_rfl) (by simp) ?_
                refine AllReadyIn.cons rfl (fun K hK => ?_) ?_
                · go_simp
                  refine hK _ _ ?_
                  clear hK K
                  refine wpAnyIn_done (by kernel_rfl) ?_ _
                  refine ⟨((KeepsOthers.drew W).trans hk2).from _, fun z => HKs.out (z.fr ((Fr.refl W (fun _ => False)).drew) (fun h => h) (fun h => h)), ⟨_, hv2, ?_⟩, hB.trans ((Below.refl _ W).drew.trans hb2)⟩
                  rw [cods_snoc, iv_append, List.length_append, List.length_singleton]
                  exact hr2
                exact AllReadyIn.nil
              exact AllReadyIn.nil
            exact AllReadyIn.nil
          exact AllReadyIn.nil
        exact AllReadyIn.nil
      exact AllReadyIn.nil
    refine AllReadyIn.cons rfl (fun K hK => ?_) ?_
    · go_simp
      refine hK _ _ ?_
      clear hK K
      refine wpAnyIn_ready (rs := [0, 1]) (by kernel_rfl) (by simp) ?_
      refine AllReadyIn.cons rfl (fun K hK => ?_) ?_
      · go_simp
        refine hK _ _ ?_
        clear hK K
        refine wpAnyIn_ready (rs := [1]) (by kernel_rfl) (by simp) ?_
        refine AllReadyIn.cons rfl (fun K hK => ?_) ?_
        · go_simp
          refine hK _ _ ?_
          clear hK K
          refine wpAnyIn_ready (rs := [3]) (by kernel_rfl) (by simp) ?_
          refine AllReadyIn.cons rfl (fun K hK => ?_) ?_
          · go_simp
            gi_wp2_with (refine ⟨trivial, ?_⟩; gi_at_call 19; refine (CallsIn.inRound l (callsIn_wide.2 (coded_any x.1.e x.1.t xb.1 xb.2 _))).mono ?_; rintro e' w' ⟨rfl, rfl⟩)
            refine wpAnyIn_ready (rs := [4]) (by kernel_rfl) (by simp) ?_
            refine AllReadyIn.cons rfl (fun K hK => ?_) ?_
            · go_simp
              refine hK _ _ ?_
              clear hK K
              refine wpAnyIn_ready (rs := [5]) (by kernel_rfl) (by simp) ?_
              refine AllReadyIn.cons rfl (fun K hK => ?_) ?_
              · refine stepIn_append rfl (.tmp 14) (.tmp 18) 22 rfl w.heap.size 3 i0 (.int .i64 0) 1 8 Try.underlying22 hi hz0 hz1 hz2 rfl (by decide) u _ _ (by simp [Act.eval]) (own_fr HR.out (((Fr.refl W (fun _ => False)).drew).alloc _) (fun _ _ h => h)) ⟨W.heap.size, 0, none⟩ 1 1 [.int .i64 (codB x.1.e x.1.t)] (by simp [Act.eval]) rfl (cell_one_new W.drew _ _) (by simp [Value.oneCell']) (by unfold maxLen; omega) (by omega) (by have := hB.size; simp; omega) ?_
                intro u' w2 hown' hgrow
                obtain ⟨g', cap', rfl⟩ := ownsRow_succ hown'
                obtain ⟨hv1, hv2, hr2, hk2, hb2⟩ := Boxed.appended (W := W.drew) HV.out (by decide) (own_fr HR.out ((Fr.refl W (fun _ => False)).drew) (fun _ _ h => h)) hB.size (Nat.le_refl _) hown' hgrow
                have hc1 := hv1.cell
                have hf1 := hv1.frozen
                have HKs := hid (ks_append (W := W.drew) (N := N) (S := (w.alloc (.cells #[.slice none 0 0] 22)).heap.size) (L := vals Ls) (u' := .slice (some ⟨g', 0, none⟩) ((cods (vals pre)).length + 1) cap') HV.out (own_fr HR.out ((Fr.refl W (fun _ => False)).drew) (fun _ _ h => h)) hgrow)
                refine hK _ _ ?_
                clear hK K
                refine wpAnyIn_ready (rs := [6]) (by kernel_rfl) (by simp) ?_
                refine AllReadyIn.cons rfl (fun K hK => ?_) ?_
                · go_simp
                  refine hK _ _ ?_
                  clear hK K
                  refine wpAnyIn_done (by kernel_rfl) ?_ _
                  refine ⟨((KeepsOthers.drew W).trans hk2).from _, fun z => HKs.out (z.fr ((Fr.refl W (fun _ => False)).drew) (fun h => h) (fun h => h)), ⟨_, hv2, ?_⟩, hB.trans ((Below.refl _ W).drew.trans hb2)⟩
                  rw [cods_snoc, iv_append, List.length_append, List.length_singleton]
                  exact hr2
                exact AllReadyIn.nil
              exact AllReadyIn.nil
            exact AllReadyIn.nil
          exact AllReadyIn.nil
        exact AllReadyIn.nil
      refine AllReadyIn.cons rfl (fun K hK => ?_) ?_
      · go_simp
        refine hK _ _ ?_
        clear hK K
        refine wpAnyIn_ready (rs := [0, 3]) (by kernel_rfl) (by simp) ?_
        refine AllReadyIn.cons rfl (fun K hK => ?_) ?_
        · go_simp
          refine hK _ _ ?_
          clear hK K
          refine wpAnyIn_ready (rs := [3]) (by kernel_rfl) (by simp) ?_
          refine AllReadyIn.cons rfl (fun K hK => ?_) ?_
          · go_simp
            gi_wp2_with (refine ⟨trivial, ?_⟩; gi_at_call 19; refine (CallsIn.inRound l (callsIn_wide.2 (coded_any x.1.e x.1.t xb.1 xb.2 _))).mono ?_; rintro e' w' ⟨rfl, rfl⟩)
            refine wpAnyIn_ready (rs := [4]) (by kernel_rfl) (by simp) ?_
            refine AllReadyIn.cons rfl (fun K hK => ?_) ?_
            · go_simp
              refine hK _ _ ?_
              clear hK K
              refine wpAnyIn_ready (rs := [5]) (by kernel_rfl) (by simp) ?_
              refine AllReadyIn.cons rfl (fun K hK => ?_) ?_
              · refine stepIn_append rfl (.tmp 14) (.tmp 18) 22 rfl w.heap.size 3 i0 (.int .i64 0) 1 8 Try.underlying22 hi hz0 hz1 hz2 rfl (by decide) u _ _ (by simp [Act.eval]) (own_fr HR.out (((Fr.refl W (fun _ => False)).drew).alloc _) (fun _ _ h => h)) ⟨W.heap.size, 0, none⟩ 1 1 [.int .i64 (codB x.1.e x.1.t)] (by simp [Act.eval]) rfl (cell_one_new W.drew _ _) (by simp [Value.oneCell']) (by unfold maxLen; omega) (by omega) (by have := hB.size; simp; omega) ?_
                intro u' w2 hown' hgrow
                obtain ⟨g', cap', rfl⟩ := ownsRow_succ hown'
                obtain ⟨hv1, hv2, hr2, hk2, hb2⟩ := Boxed.appended (W := W.drew) HV.out (by decide) (own_fr HR.out ((Fr.refl W (fun _ => False)).drew) (fun _ _ h => h)) hB.size (Nat.le_refl _) hown' hgrow
                have hc1 := hv1.cell
                have hf1 := hv1.frozen
                have HKs := hid (ks_append (W := W.drew) (N := N) (S := (w.alloc (.cells #[.slice none 0 0] 22)).heap.size) (L := vals Ls) (u' := .slice (some ⟨g', 0, none⟩) ((cods (vals pre)).length + 1) cap') HV.out (own_fr HR.out ((Fr.refl W (fun _ => False)).drew) (fun _ _ h => h)) hgrow)
                refine hK _ _ ?_
                clear hK K
                refine wpAnyIn_ready (rs := [6]) (by kernel_rfl) (by simp) ?_
                refine AllReadyIn.cons rfl (fun K hK => ?_) ?_
                · go_simp
                  refine hK _ _ ?_
                  clear hK K
                  refine wpAnyIn_done (by kernel_rfl) ?_ _
                  refine ⟨((KeepsOthers.drew W).trans hk2).from _, fun z => HKs.out (z.fr ((Fr.refl W (fun _ => False)).drew) (fun h => h) (fun h => h)), ⟨_, hv2, ?_⟩, hB.trans ((Below.refl _ W).drew.trans hb2)⟩
                  rw [cods_snoc, iv_append, List.length_append, List.length_singleton]
                  exact hr2
                exact AllReadyIn.nil
              exact AllReadyIn.nil
            exact AllReadyIn.nil
          exact AllReadyIn.nil
        refine AllReadyIn.cons rfl (fun K hK => ?_) ?_
        · go_simp
          gi_wp2_with (refine ⟨trivial, ?_⟩; gi_at_call 19; refine (CallsIn.inRound l (callsIn_wide.2 (coded_any x.1.e x.1.t xb.1 xb.2 _))).mono ?_; rintro e' w' ⟨rfl, rfl⟩)
          refine wpAnyIn_ready (rs := [0, 4]) (by kernel_rfl) (by simp) ?_
          refine AllReadyIn.cons rfl (fun K hK => ?_) ?_
          · go_simp
            refine hK _ _ ?_
            clear hK K
            refine wpAnyIn_ready (rs := [4]) (by kernel_rfl) (by simp) ?_
            refine AllReadyIn.cons rfl (fun K hK => ?_) ?_
            · go_simp
              refine hK _ _ ?_
              clear hK K
              refine wpAnyIn_ready (rs := [5]) (by kernel_rfl) (by simp) ?_
              refine AllReadyIn.cons rfl (fun K hK => ?_) ?_
              · refine stepIn_append rfl (.tmp 14) (.tmp 18) 22 rfl w.heap.size 3 i0 (.int .i64 0) 1 8 Try.underlying22 hi hz0 hz1 hz2 rfl (by decide) u _ _ (by simp [Act.eval]) (own_fr HR.out (((Fr.refl W (fun _ => False)).drew).alloc _) (fun _ _ h => h)) ⟨W.heap.size, 0, none⟩ 1 1 [.int .i64 (codB x.1.e x.1.t)] (by simp [Act.eval]) rfl (cell_one_new W.drew _ _) (by simp [Value.oneCell']) (by unfold maxLen; omega) (by omega) (by have := hB.size; simp; omega) ?_
                intro u' w2 hown' hgrow
                obtain ⟨g', cap', rfl⟩ := ownsRow_succ hown'
                obtain ⟨hv1, hv2, hr2, hk2, hb2⟩ := Boxed.appended (W := W.drew) HV.out (by decide) (own_fr HR.out ((Fr.refl W (fun _ => False)).drew) (fun _ _ h => h)) hB.size (Nat.le_refl _) hown' hgrow
                have hc1 := hv1.cell
                have hf1 := hv1.frozen
                have HKs := hid (ks_append (W := W.drew) (N := N) (S := (w.alloc (.cells #[.slice none 0 0] 22)).heap.size) (L := vals Ls) (u' := .slice (some ⟨g', 0, none⟩) ((cods (vals pre)).length + 1) cap') HV.out (own_fr HR.out ((Fr.refl W (fun _ => False)).drew) (fun _ _ h => h)) hgrow)
                refine hK _ _ ?_
                clear hK K
                refine wpAnyIn_ready (rs := [6]) (by kernel_rfl) (by simp) ?_
                refine AllReadyIn.cons rfl (fun K hK => ?_) ?_
                · go_simp
                  refine hK _ _ ?_
                  clear hK K
                  refine wpAnyIn_done (by kernel_rfl) ?_ _
                  refine ⟨((KeepsOthers.drew W).trans hk2).from _, fun z => HKs.out (z.fr ((Fr.refl W (fun _ => False)).drew) (fun h => h) (fun h => h)), ⟨_, hv2, ?_⟩, hB.trans ((Below.refl _ W).drew.trans hb2)⟩
                  rw [cods_snoc, iv_append, List.length_append, List.length_singleton]
                  exact hr2
                exact AllReadyIn.nil
              exact AllReadyIn.nil
            exact AllReadyIn.nil
          refine AllReadyIn.cons rfl (fun K hK => ?_) ?_
          · go_simp
            refine hK _ _ ?_
            clear hK K
            refine wpAnyIn_ready (rs := [0]) (by kernel_rfl) (by simp) ?_
            refine AllReadyIn.cons rfl (fun K hK => ?_) ?_
            · go_simp
              refine hK _ _ ?_
              clear hK K
              refine wpAnyIn_ready (rs := [5]) (by kernel_rfl) (by simp) ?_
              refine AllReadyIn.cons rfl (fun K hK => ?_) ?_
              · refine stepIn_append rfl (.tmp 14) (.tmp 18) 22 rfl w.heap.size 3 i0 (.int .i64 0) 1 8 Try.underlying22 hi hz0 hz1 hz2 rfl (by decide) u _ _ (by simp [Act.eval]) (own_fr HR.out (((Fr.refl W (fun _ => False)).drew).alloc _) (fun _ _ h => h)) ⟨W.heap.size, 0, none⟩ 1 1 [.int .i64 (codB x.1.e x.1.t)] (by simp [Act.eval]) rfl (cell_one_new W.drew _ _) (by simp [Value.oneCell']) (by unfold maxLen; omega) (by omega) (by have := hB.size; simp; omega) ?_
                intro u' w2 hown' hgrow
                obtain ⟨g', cap', rfl⟩ := ownsRow_succ hown'
                obtain ⟨hv1, hv2, hr2, hk2, hb2⟩ := Boxed.appended (W := W.drew) HV.out (by decide) (own_fr HR.out ((Fr.refl W (fun _ => False)).drew) (fun _ _ h => h)) hB.size (Nat.le_refl _) hown' hgrow
                have hc1 := hv1.cell
                have hf1 := hv1.frozen
                have HKs := hid (ks_append (W := W.drew) (N := N) (S := (w.alloc (.cells #[.slice none 0 0] 22)).heap.size) (L := vals Ls) (u' := .slice (some ⟨g', 0, none⟩) ((cods (vals pre)).length + 1) cap') HV.out (own_fr HR.out ((Fr.refl W (fun _ => False)).drew) (fun _ _ h => h)) hgrow)
                refine hK _ _ ?_
                clear hK K
                refine wpAnyIn_ready (rs := [6]) (by kernel_rfl) (by simp) ?_
                refine AllReadyIn.cons rfl (fun K hK => ?_) ?_
                · go_simp
                  refine hK _ _ ?_
                  clear hK K
                  refine wpAnyIn_done (by kernel_rfl) ?_ _
                  refine ⟨((KeepsOthers.drew W).trans hk2).from _, fun z => HKs.out (z.fr ((Fr.refl W (fun _ => False)).drew) (fun h => h) (fun h => h)), ⟨_, hv2, ?_⟩, hB.trans ((Below.refl _ W).drew.trans hb2)⟩
                  rw [cods_snoc, iv_append, List.length_append, List.length_singleton]
                  exact hr2
                exact AllReadyIn.nil
              exact AllReadyIn.nil
            exact AllReadyIn.nil
          exact AllReadyIn.nil
        exact AllReadyIn.nil
      exact AllReadyIn.nil
    exact AllReadyIn.nil
  case done =>
    rintro D ys W hD rfl ⟨⟨u, hv, hrow⟩, hB⟩ hK
    have hc := hv.cell
    gi_wp2
    refine ⟨by simp, .inl ⟨_, _, rfl, run_takeDeferred hK, ?_⟩⟩
    rw [hLs] at hrow
    exact ⟨_, results_tmp rfl _ _ _, u, rfl, ownsRow_putObj hrow _ hK rfl, hB.trans (belowK_b (w := w) (Nat.le_refl _) W D _ _ (by have := hB0.size; omega) hK rfl rfl)⟩
  case stop =>
    rintro D c pre W _ _ h _
    exact h.elim
end Go.Proofs.Ytcmniejffpoinab
