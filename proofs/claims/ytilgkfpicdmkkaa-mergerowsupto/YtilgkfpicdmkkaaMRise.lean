/- The laws' rising, once, same over numbers: walks. Written by wip/gen/genrise.py. -/
import Derived.Test.YtilgkfpicdmkkaaMSame
import Derived.Test.YtilgkfpicdmkkaaMListsI
namespace Go.Proofs.Ytilgkfpicdmkkaa.M
open Go.RowKit

/-- Numbers that can be read at a slice. -/
def RdI (w : World) (v : Value) (L : List Int) : Prop := ∃ ao cap, v = .slice ao L.length cap ∧ L.length ≤ 9223372036854775807 ∧ (0 < L.length → ∃ b o, ao = some ⟨b, o, none⟩ ∧ ∀ i, i < L.length → w.cell? ⟨b, o + i, none⟩ = some (.int .i64 (L[i]?.getD default)))
theorem ci_fr {w w' : World} {b o : Nat} {v : Value} (h : w.cell? ⟨b, o, none⟩ = some v) (hf : Fr w w' (fun _ => False)) : w'.cell? ⟨b, o, none⟩ = some v := by
  rw [(fr_rules hf).1 _ _ (World.block_lt_of_cell? w _ h)]
  exact h
theorem RdI.step {w w' : World} {v : Value} {L : List Int} (h : RdI w v L) (hf : Fr w w' (fun _ => False)) : RdI w' v L := by
  obtain ⟨ao, cap, h1, h2, h3⟩ := h
  refine ⟨ao, cap, h1, h2, fun hp => ?_⟩
  obtain ⟨b, o, h4, h5⟩ := h3 hp
  exact ⟨b, o, h4, fun i hi => ci_fr (h5 i hi) hf⟩
theorem owni_el {base : Nat} {w : World} {g c : Nat} {L : List Int} (h : w.ownsRow base 3 1 (.slice (some ⟨g, 0, none⟩) L.length c) L.length (I.iv L)) : ∀ i, i < L.length → w.cell? ⟨g, i, none⟩ = some (.int .i64 (L[i]?.getD default)) := fun i hi => by
  have hc := h.cells (g := g) rfl i (.int .i64 (L[i]?.getD default)) (by simp [I.iv, hi])
  rw [Addr.add_lit, Nat.zero_add] at hc
  exact hc
theorem owni_cases {base : Nat} {w : World} {v : Value} {L : List Int} (h : w.ownsRow base 3 1 v L.length (I.iv L)) : (v = .slice none 0 0 ∧ L = []) ∨ ∃ g c, v = .slice (some ⟨g, 0, none⟩) L.length c ∧ L.length ≤ c ∧ c ≤ 9223372036854775807 ∧ g < w.heap.size := by
  rcases h.2 with ⟨e, h'⟩ | ⟨g, c, cur, e3, hb, hg, hn, hm, _⟩
  · exact Or.inl ⟨e, List.eq_nil_of_length_eq_zero h'⟩
  · unfold maxLen at hm
    exact Or.inr ⟨g, c, e3, hn, by omega, lt_of_block hg⟩
theorem RdI.of {base : Nat} {w : World} {v : Value} {L : List Int} (h : w.ownsRow base 3 1 v L.length (I.iv L)) (hl : L.length ≤ 1000000000) : RdI w v L := by
  rcases owni_cases h with ⟨e, e2⟩ | ⟨g, c, e, _⟩
  · subst e2
    exact ⟨none, 0, e, by simp, fun h => by simp at h⟩
  · refine ⟨_, _, e, by omega, fun _ => ⟨g, 0, rfl, fun i hi => ?_⟩⟩
    rw [e] at h
    rw [Nat.zero_add]
    exact owni_el h i hi
/-- Numbers that an append can read. -/
def RzI (w : World) (u : Value) (ys : List Int) : Prop := (u = .slice none 0 0 ∧ ys = []) ∨ ∃ b o c, u = .slice (some ⟨b, o, none⟩) ys.length c ∧ ∀ i, i < ys.length → w.cell? ⟨b, o + i, none⟩ = some (.int .i64 (ys[i]?.getD default))
theorem wpl_ai {V wb : World} {ops : Array Oper} {rest : List Oper} {o : Oper} {a : Act} {Q : Exit → Act → World → Prop} (hgd : o.guard = none) (sl x : Operand)
    (ho : o.op = .call { callee := .builtin .append, args := #[sl, x], argTypes := #[36, 36] }) (v : Value) (l : List Int) (hs : a.eval sl = v) (hb : I.Eo wb V v l) (u : Value) (ys : List Int) (hx : a.eval x = u) (hu : RzI V u ys) (hn : l.length + ys.length ≤ 1000000000)
    (h : ∀ v' w', I.Eo wb w' v' (l ++ ys) → V.grownBy w' v.ownBlock → wpList Try.prog ops Q rest (a.put o.dst v') w') : wpList Try.prog ops Q (o :: rest) a V := by
  obtain ⟨i0, hi, hz0, hz1, hz2⟩ := M.W.infoP I.Try.info_elI
  rcases hu with ⟨rfl, rfl⟩ | ⟨b, off, c, rfl, hel⟩
  · refine wpList_append_own_none hgd sl x 36 ho wb.heap.size 3 i0 1 Try.underlying36 hi v l.length (I.iv l) hs hb.1 hx ?_
    exact h v V (by rw [List.append_nil]; exact hb) ⟨rfl, rfl, rfl, Nat.le_refl _, fun _ _ _ => rfl⟩
  · refine wpList_append_own_at _ hgd sl x 36 ho wb.heap.size 3 i0 _ 1 8 Try.underlying36 hi hz0 hz1 hz2 rfl (by decide) v l.length (I.iv l) hs hb.1 ⟨b, off, none⟩ ys.length c (I.iv ys) hx (by rw [I.iv_length, Nat.mul_one]) ?_ (by intro u hu; simp [I.iv] at hu; obtain ⟨z, _, rfl⟩ := hu; rfl) (by unfold maxLen; omega) (by omega) hb.2.size ?_
    · intro j z hz
      have hj : j < ys.length := by
        rcases Nat.lt_or_ge j ys.length with h | h
        · exact h
        · rw [List.getElem?_eq_none (by rw [I.iv_length]; exact h)] at hz
          cases hz
      have e2 : (I.iv ys)[j]? = some (.int .i64 (ys[j]?.getD default)) := by simp [I.iv, hj]
      rw [e2] at hz
      rw [Addr.add_lit, ← hz]
      exact hel j hj
    · intro v' w' hown hgr _ hat
      refine h v' w' ⟨?_, hb.2.grown hgr (fun k hk e => by have := hb.1.lt k e; omega)⟩ hgr
      rw [I.iv_append, List.length_append]
      exact hown
theorem Eo.behind {w V U : World} {v : Value} {l : List Int} (h : I.Eo V U v l) (hf : Fr w V (fun _ => False)) : I.Eo w U v l := ⟨own_mono h.1 hf.size, hf.trans h.2⟩
theorem owni_take {base : Nat} {w : World} {g c k : Nat} {L : List Int} (h : w.ownsRow base 3 1 (.slice (some ⟨g, 0, none⟩) L.length c) L.length (I.iv L)) (hk : k ≤ L.length) (c' : Nat) : RzI w (.slice (some ⟨g, 0, none⟩) k c') (L.take k) := by
  refine Or.inr ⟨g, 0, c', by rw [List.length_take, Nat.min_eq_left hk], fun i hi => ?_⟩
  rw [List.length_take] at hi
  rw [Nat.zero_add, List.getElem?_take, if_pos (by omega)]
  exact owni_el h i (by omega)
theorem owni_drop {base : Nat} {w : World} {g c k : Nat} {L : List Int} (h : w.ownsRow base 3 1 (.slice (some ⟨g, 0, none⟩) L.length c) L.length (I.iv L)) (hk : k ≤ L.length) (c' : Nat) : RzI w (.slice (some ⟨g, k, none⟩) (L.length - k) c') (L.drop k) := by
  refine Or.inr ⟨g, k, c', by rw [List.length_drop], fun i hi => ?_⟩
  rw [List.length_drop] at hi
  rw [List.getElem?_drop]
  exact owni_el h (k + i) (by omega)

set_option maxHeartbeats 2000000 in
set_option maxRecDepth 100000 in
theorem samei_any {L : List Int} {v u : Value} (w : World) (hv : RdI w v L) (hu : RdI w u L) :
    Calls Try.prog 17 #[v, u] w fun r w' => r = .returned (.bool true) ∧ Fr w w' (fun _ => False) := by
  obtain ⟨ao, cap, rfl, hl, hv⟩ := hv
  obtain ⟨ao2, cap2, rfl, _, hu⟩ := hu
  have HV := hid hv
  have HU := hid hu
  clear hv hu
  go_enter Try.func17, Try.ntmps17
  go_wp2_with fail
  go_loopg [5] L.length (fun g s5 wx => ∃ i : Nat, s5 = .int .i64 (i : Int) ∧ i + g = L.length ∧ Hid (Fr w wx (fun _ => False)))
  case atStart => exact ⟨0, rfl, by omega, Fr.refl _ _⟩
  case round =>
    obtain ⟨i, rfl, hg, HF⟩ := hrel
    cases gk with
    | zero =>
      have t1 : ¬ (i : Int) < (L.length : Int) := by omega
      clear hg
      go_wp2_with fail
      go_ret
      exact ⟨rfl, HF.out⟩
    | succ gk =>
      have t0 : (0 : Int) ≤ (i : Int) := by omega
      have t1 : (i : Int) < (L.length : Int) := by omega
      have HG := hid hg
      obtain ⟨b, o, rfl, h1⟩ := HV.out (by omega)
      obtain ⟨b2, o2, rfl, h2⟩ := HU.out (by omega)
      have e1 := ci_fr (h1 i (by omega)) HF.out
      have e2 := ci_fr (h2 i (by omega)) HF.out
      have l1 := World.block_lt_of_cell? _ _ e1
      have l2 := World.block_lt_of_cell? _ _ e2
      generalize L[i]?.getD default = x at *
      clear h1 h2 hg
      go_wp2_with fail
      go_quiet (fail)
      go_wp2_with fail
      go_roundg gk
      case measure => omega
      case rel => exact ⟨i + 1, by go_num, by have := HG.out; omega, HF.out.trans (by repeat (first | with_reducible exact Fr.refl _ _ | with_reducible apply Fr.drew | with_reducible apply Fr.drewN))⟩

theorem ins_srt {out : List Int} {x : Int} {k : Nat} (hs : out.Pairwise (fun a b => a ≤ b)) (hk : k ≤ out.length) (h1 : ∀ j, j < k → out[j]?.getD default ≤ x) (h2 : ∀ j, k ≤ j → j < out.length → x ≤ out[j]?.getD default) : (out.take k ++ x :: out.drop k).Pairwise (fun a b => a ≤ b) := by
  have e : out = out.take k ++ out.drop k := (List.take_append_drop k out).symm
  rw [e, List.pairwise_append] at hs
  obtain ⟨s1, s2, s3⟩ := hs
  have m1 : ∀ a ∈ out.take k, a ≤ x := fun a ha => by
    obtain ⟨j, hj, rfl⟩ := List.mem_iff_getElem.1 ha
    rw [List.length_take] at hj
    have := h1 j (by omega)
    rw [List.getElem?_eq_getElem (by omega)] at this
    rw [List.getElem_take]
    exact this
  have m2 : ∀ a ∈ out.drop k, x ≤ a := fun a ha => by
    obtain ⟨j, hj, rfl⟩ := List.mem_iff_getElem.1 ha
    rw [List.length_drop] at hj
    have := h2 (k + j) (by omega) (by omega)
    rw [List.getElem?_eq_getElem (by omega)] at this
    rw [List.getElem_drop]
    exact this
  rw [List.pairwise_append]
  refine ⟨s1, ?_, fun a ha b hb => ?_⟩
  · rw [List.pairwise_cons]
    exact ⟨m2, s2⟩
  · rw [List.mem_cons] at hb
    rcases hb with rfl | hb
    · exact m1 a ha
    · exact s3 a ha b hb
theorem srt_behind {out : List Int} {x y : Int} {k : Nat} (hs : out.Pairwise (fun a b => a ≤ b)) (hy : out[k]?.getD default = y) (hk : k < out.length) (hxy : ¬ y ≤ x) : ∀ j, k ≤ j → j < out.length → x ≤ out[j]?.getD default := fun j hj hl => by
  rw [List.getElem?_eq_getElem hk] at hy
  simp only [Option.getD_some] at hy
  rw [List.getElem?_eq_getElem hl]
  simp only [Option.getD_some]
  rcases Nat.lt_or_ge k j with h | h
  · have := List.pairwise_iff_getElem.1 hs k j hk hl h
    omega
  · have : j = k := by omega
    subst this
    omega
theorem below_snoc {out : List Int} {x y : Int} {k : Nat} (h1 : ∀ j, j < k → out[j]?.getD default ≤ x) (hy : out[k]?.getD default = y) (hd : y ≤ x) : ∀ j, j < k + 1 → out[j]?.getD default ≤ x := fun j hj => by
  rcases Nat.lt_or_ge j k with h | h
  · exact h1 j h
  · have : j = k := by omega
    rw [this, hy]
    exact hd

theorem mem_ins {out L : List Int} {x : Int} (k : Nat) (h : ∀ a ∈ out, a ∈ L) (hx : x ∈ L) : ∀ a ∈ out.take k ++ x :: out.drop k, a ∈ L := fun a ha => by
  rw [List.mem_append, List.mem_cons] at ha
  rcases ha with ha | rfl | ha
  · exact h a (List.mem_of_mem_take ha)
  · exact hx
  · exact h a (List.mem_of_mem_drop ha)

set_option maxHeartbeats 8000000 in
set_option maxRecDepth 100000 in
theorem rising_mem {L : List Int} {v : Value} (w : World) (hv : RdI w v L) :
    Calls Try.prog 14 #[v] w fun r w' => ∃ u, r = .returned u ∧ ∃ l, I.Eo w w' u l ∧ l.length ≤ 200 ∧ l.Pairwise (fun a b => a ≤ b) ∧ ∀ a ∈ l, a ∈ L := by
  obtain ⟨ao, cap, rfl, hl, hv⟩ := hv
  have HV := hid hv
  clear hv
  go_enter Try.func14, Try.ntmps14
  go_wp2_with fail
  go_loopg [3, 4] (min L.length 200) (fun g s3 s4 wx => ∃ (i : Nat) (out : List Int), s4 = .int .i64 (i : Int) ∧ i + g = min L.length 200 ∧ out.length ≤ i ∧ Hid (out.Pairwise (fun a b => a ≤ b)) ∧ Hid (∀ a ∈ out, a ∈ L) ∧ Hid (I.Eo w wx s3 out))
  case atStart => exact ⟨0, [], rfl, by omega, by simp, List.Pairwise.nil, fun a ha => by simp at ha, ⟨rfl, Or.inl ⟨rfl, rfl⟩⟩, Fr.refl _ _⟩
  case round =>
    obtain ⟨i, out, rfl, hg, hol, HSo, HMo, HO⟩ := hrel
    cases gk with
    | zero =>
      have hi : i = min L.length 200 := by omega
      have HE := hid (show out.length ≤ 200 by omega)
      by_cases hlt : i < L.length
      · have t1 : (i : Int) < (L.length : Int) := by omega
        have t2 : ¬ (i : Int) < 200 := by omega
        clear hg hi hlt
        go_wp2_with fail
        go_ret
        exact ⟨_, rfl, out, HO.out, HE.out, HSo.out, HMo.out⟩
      · have t1 : ¬ (i : Int) < (L.length : Int) := by omega
        clear hg hi hlt
        go_wp2_with fail
        go_ret
        exact ⟨_, rfl, out, HO.out, HE.out, HSo.out, HMo.out⟩
    | succ go =>
      have t0 : (0 : Int) ≤ (i : Int) := by omega
      have t1 : (i : Int) < (L.length : Int) := by omega
      have t2 : (i : Int) < 200 := by omega
      have hi200 : i < 200 := by omega
      have HG := hid hg
      obtain ⟨b, o, rfl, hel⟩ := HV.out (by omega)
      have HX := hid (ci_fr (hel i (by omega)) HO.out.2)
      clear hg hel
      have HxL : Hid (L[i]?.getD default ∈ L) := by
        have hiL : i < L.length := by omega
        show L[i]?.getD default ∈ L
        rw [List.getElem?_eq_getElem hiL]
        exact List.getElem_mem hiL
      generalize L[i]?.getD default = x at *
      generalize wr = V at *
      obtain ⟨a3, c3, e3⟩ := own_nil_shape HO.out.1
      subst e3
      have hxl := World.block_lt_of_cell? _ _ HX.out
      go_wp2_with fail
      go_loopg [5] out.length (fun g s5 wx => ∃ k : Nat, s5 = .int .i64 (k : Int) ∧ k + g = out.length ∧ Hid (∀ j, j < k → out[j]?.getD default ≤ x) ∧ Hid (Fr V wx (fun _ => False)))
      case atStart => exact ⟨0, rfl, by omega, fun j hj => by omega, Fr.refl _ _⟩
      case round =>
        obtain ⟨k, rfl, hk, HB, HF⟩ := hrel
        generalize wr = V1 at *
        have HX1 := hid (ci_fr HX.out HF.out)
        have HO1 := hid (I.Eo.fr HO.out HF.out)
        have hxl1 := World.block_lt_of_cell? _ _ HX1.out
        cases gk with
        | zero =>
          have hke : k = out.length := by omega
          have s1 : decide ((k : Int) < (out.length : Int)) = false := decide_eq_false (by omega)
          have s2 : decide (k < out.length) = false := decide_eq_false (by omega)
          have s3 : ¬ (k : Int) < (out.length : Int) := by omega
          have hkl : k ≤ out.length := by omega
          have HKe := hid hke
          have HSn : Hid ((out.take k ++ x :: out.drop k).Pairwise (fun a b => a ≤ b)) := ins_srt HSo.out hkl HB.out (fun j h1 h2 => by omega)
          clear HB
          clear hk hke
          have HOz := HO1
          have HXz := HX1
          have HFz := HF
          clear HO1 HX1 HF
          go_wp2_with fail
          go_quiet (fail)
          generalize V1 = Vz at *
          rcases owni_cases HOz.out.1 with ⟨e, e2⟩ | ⟨g, c, e, hc1, hc2, hg1⟩
          · obtain ⟨e5, e6, e7⟩ : a3 = none ∧ out.length = 0 ∧ c3 = 0 := by simpa using e
            subst e5 e7
            have hk0 : k = 0 := by rw [HKe.out, e2]; rfl
            clear HKe HSn
            subst hk0
            subst e2
            try simp only [List.length_nil, Int.natCast_zero] at *
            go_wp2_with (at_builtin; go_must (refine wpl_ai (wb := Vz) rfl (.tmp 34) (.tmp 37) rfl _ [] rfl ⟨⟨rfl, Or.inl ⟨rfl, rfl⟩⟩, by repeat (first | with_reducible exact Fr.refl _ _ | with_reducible apply Fr.drew | with_reducible apply Fr.drewN)⟩ _ [] rfl (Or.inl ⟨rfl, rfl⟩) (by simp) ?_))
            intro v1 w1 hR hgr
            try rw [List.nil_append] at hR
            have HR1 := hid hR
            have q0 := ci_fr HXz.out hR.2
            have hbl := World.block_lt_of_cell? _ _ q0
            clear hR hgr
            obtain ⟨a1, c1, e1⟩ := I.Eo.shape HR1.out
            subst e1
            go_wp2_with (at_builtin; go_must (refine I.wpl_eo (wb := Vz) rfl (.tmp 39) (.tmp 44) rfl _ [] rfl w1.heap.size x rfl (by simp) (I.Eo.fr HR1.out (alloc_fr w1 _ _)) (by first | (simp; done) | (simp; rfl)) ?_))
            intro v2 w2 hR hgr
            have HR2 := hid hR
            clear hR hgr
            obtain ⟨a2, c2, e2'⟩ := I.Eo.shape HR2.out
            subst e2'
            go_wp2_with (at_builtin; go_must (refine wpl_ai (wb := Vz) rfl (.tmp 46) (.tmp 49) rfl _ _ rfl HR2.out _ [] rfl (Or.inl ⟨rfl, rfl⟩) (by simp) ?_))
            intro v3 w3 hR hgr
            have HR3 := hid (Eo.behind (Eo.behind hR HFz.out) HO.out.2)
            clear hR hgr
            go_wp2_with fail
            go_roundg go
            case measure => omega
            case rel => exact ⟨i + 1, _, by go_num, by have := HG.out; omega, by simp, List.pairwise_singleton _ _, fun a ha => by rw [List.mem_singleton] at ha; rw [ha]; exact HxL.out, HR3⟩
          · obtain ⟨e5, e7⟩ : a3 = some ⟨g, 0, none⟩ ∧ c3 = c := by simpa using e
            subst e5 e7
            by_cases hck : c3 = k
            · have z0 : (0 : Int) ≤ (k : Int) := by omega
              have z1 : (k : Int) ≤ (out.length : Int) := by omega
              have z2 : (k : Int) ≤ (c3 : Int) := by omega
              have z3 : (out.length : Int) ≤ (c3 : Int) := by omega
              go_wp2_with (at_builtin; go_must (refine wpl_ai (wb := Vz) rfl (.tmp 34) (.tmp 37) rfl _ [] rfl ⟨⟨rfl, Or.inl ⟨rfl, rfl⟩⟩, by repeat (first | with_reducible exact Fr.refl _ _ | with_reducible apply Fr.drew | with_reducible apply Fr.drewN)⟩ _ (out.take k) rfl ?z1 ?z2 ?_))
              case z1 => exact owni_take (c := c3) (own_fr HOz.out.1 (show Fr Vz (World.drewN Vz _) (fun _ => False) from by repeat (first | with_reducible exact Fr.refl _ _ | with_reducible apply Fr.drew | with_reducible apply Fr.drewN)) (fun _ _ h => h)) hkl _
              case z2 => rw [List.length_take]; simp; omega
              intro v1 w1 hR hgr
              try rw [List.nil_append] at hR
              have HR1 := hid hR
              have q0 := ci_fr HXz.out hR.2
              have hbl := World.block_lt_of_cell? _ _ q0
              clear hR hgr
              obtain ⟨a1, c1, e1⟩ := I.Eo.shape HR1.out
              subst e1
              go_wp2_with (at_builtin; go_must (refine I.wpl_eo (wb := Vz) rfl (.tmp 39) (.tmp 44) rfl _ (out.take k) rfl w1.heap.size x rfl ?z3 (I.Eo.fr HR1.out (alloc_fr w1 _ _)) (by first | (simp; done) | (simp; rfl)) ?_))
              case z3 => first | (rw [List.length_take]; omega) | omega
              intro v2 w2 hR hgr
              have HR2 := hid hR
              clear hR hgr
              obtain ⟨a2, c2, e2'⟩ := I.Eo.shape HR2.out
              subst e2'
              go_wp2_with (at_builtin; go_must (refine wpl_ai (wb := Vz) rfl (.tmp 46) (.tmp 49) rfl _ (out.take k ++ [x]) rfl HR2.out _ (out.drop k) rfl ?z4 ?z5 ?_))
              case z4 => exact Or.inr ⟨g, 0, 0, by rw [List.length_drop]; rfl, fun i hi => by rw [List.length_drop] at hi; have := HKe.out; omega⟩
              case z5 => rw [List.length_append, List.length_take, List.length_drop]; simp; omega
              intro v3 w3 hR hgr
              have HR3 := hid (Eo.behind (Eo.behind hR HFz.out) HO.out.2)
              clear hR hgr
              go_wp2_with fail
              go_roundg go
              case measure => omega
              case rel => exact ⟨i + 1, _, by go_num, by have := HG.out; omega, by simp only [List.length_append, List.length_cons, List.length_take, List.length_drop]; omega, HSn, mem_ins k HMo.out HxL.out, HR3⟩
            · have z0 : (0 : Int) ≤ (k : Int) := by omega
              have z1 : (k : Int) ≤ (out.length : Int) := by omega
              have z2 : (k : Int) ≤ (c3 : Int) := by omega
              have z3 : (out.length : Int) ≤ (c3 : Int) := by omega
              go_wp2_with (at_builtin; go_must (refine wpl_ai (wb := Vz) rfl (.tmp 34) (.tmp 37) rfl _ [] rfl ⟨⟨rfl, Or.inl ⟨rfl, rfl⟩⟩, by repeat (first | with_reducible exact Fr.refl _ _ | with_reducible apply Fr.drew | with_reducible apply Fr.drewN)⟩ _ (out.take k) rfl ?z1 ?z2 ?_))
              case z1 => exact owni_take (c := c3) (own_fr HOz.out.1 (show Fr Vz (World.drewN Vz _) (fun _ => False) from by repeat (first | with_reducible exact Fr.refl _ _ | with_reducible apply Fr.drew | with_reducible apply Fr.drewN)) (fun _ _ h => h)) hkl _
              case z2 => rw [List.length_take]; simp; omega
              intro v1 w1 hR hgr
              try rw [List.nil_append] at hR
              have HR1 := hid hR
              have q0 := ci_fr HXz.out hR.2
              have hbl := World.block_lt_of_cell? _ _ q0
              clear hR hgr
              obtain ⟨a1, c1, e1⟩ := I.Eo.shape HR1.out
              subst e1
              go_wp2_with (at_builtin; go_must (refine I.wpl_eo (wb := Vz) rfl (.tmp 39) (.tmp 44) rfl _ (out.take k) rfl w1.heap.size x rfl ?z3 (I.Eo.fr HR1.out (alloc_fr w1 _ _)) (by first | (simp; done) | (simp; rfl)) ?_))
              case z3 => first | (rw [List.length_take]; omega) | omega
              intro v2 w2 hR hgr
              have HR2 := hid hR
              clear hR hgr
              obtain ⟨a2, c2, e2'⟩ := I.Eo.shape HR2.out
              subst e2'
              go_wp2_with (at_builtin; go_must (refine wpl_ai (wb := Vz) rfl (.tmp 46) (.tmp 49) rfl _ (out.take k ++ [x]) rfl HR2.out _ (out.drop k) rfl ?z4 ?z5 ?_))
              case z4 => exact owni_drop (own_fr HOz.out.1 HR2.out.2 (fun _ _ h => h)) hkl _
              case z5 => rw [List.length_append, List.length_take, List.length_drop]; simp; omega
              intro v3 w3 hR hgr
              have HR3 := hid (Eo.behind (Eo.behind hR HFz.out) HO.out.2)
              clear hR hgr
              go_wp2_with fail
              go_roundg go
              case measure => omega
              case rel => exact ⟨i + 1, _, by go_num, by have := HG.out; omega, by simp only [List.length_append, List.length_cons, List.length_take, List.length_drop]; omega, HSn, mem_ins k HMo.out HxL.out, HR3⟩
        | succ g2 =>
          have hkl : k ≤ out.length := by omega
          have s1 : (k : Int) < (out.length : Int) := by omega
          have s0 : (0 : Int) ≤ (k : Int) := by omega
          have HY : Hid (∃ g, a3 = some ⟨g, 0, none⟩ ∧ c3 ≤ 9223372036854775807 ∧ out.length ≤ c3 ∧ V1.cell? ⟨g, k, none⟩ = some (.int .i64 (out[k]?.getD default))) := by
            rcases owni_cases HO1.out.1 with ⟨e, e2⟩ | ⟨g, c, e, hc1, hc2, hg1⟩
            · rw [e2] at s1; simp at s1; omega
            · have h := HO1.out.1
              rw [e] at h
              obtain ⟨e5, e7⟩ : a3 = some ⟨g, 0, none⟩ ∧ c3 = c := by simpa using e
              exact ⟨g, e5, by omega, by omega, owni_el h k (by omega)⟩
          obtain ⟨g, rfl, hc2, hc1, hey⟩ := HY.out
          clear HY
          have hyl := World.block_lt_of_cell? _ _ hey
          have hx1 := HX1.out
          have HS2 := hid (show k + (g2 + 1) = out.length from hk)
          have HFk := HF
          clear hk
          have hk3 : k < out.length := by omega
          generalize hye : out[k]?.getD default = y at *
          have HYe := hid hye
          clear hye
          by_cases hd : y ≤ x
          · have hd2 : decide (y ≤ x) = true := decide_eq_true hd
            have HB2 := hid (below_snoc HB.out HYe.out hd)
            clear HB HYe
            go_wp2_with fail
            go_quiet (fail)
            go_wp2_with fail
            go_roundg g2
            case measure => omega
            case rel => exact ⟨k + 1, by go_num, by have := HS2.out; omega, HB2, HFk.out.trans (by repeat (first | with_reducible exact Fr.refl _ _ | with_reducible apply Fr.drew | with_reducible apply Fr.drewN))⟩
          · have hd2 : decide (y ≤ x) = false := decide_eq_false hd
            have HSn : Hid ((out.take k ++ x :: out.drop k).Pairwise (fun a b => a ≤ b)) := ins_srt HSo.out hkl HB.out (srt_behind HSo.out HYe.out hk3 hd)
            clear HB HYe
            have HOz := HO1
            have HXz := HX1
            have HFz := HF
            clear HO1 HX1 HF
            go_wp2_with fail
            go_quiet (fail)
            clear hey hx1
            generalize V1 = Vz at *
            have z0 : (0 : Int) ≤ (k : Int) := by omega
            have z1 : (k : Int) ≤ (out.length : Int) := by omega
            have z2 : (k : Int) ≤ (c3 : Int) := by omega
            have z3 : (out.length : Int) ≤ (c3 : Int) := by omega
            go_wp2_with (at_builtin; go_must (refine wpl_ai (wb := Vz) rfl (.tmp 34) (.tmp 37) rfl _ [] rfl ⟨⟨rfl, Or.inl ⟨rfl, rfl⟩⟩, by repeat (first | with_reducible exact Fr.refl _ _ | with_reducible apply Fr.drew | with_reducible apply Fr.drewN)⟩ _ (out.take k) rfl ?z1 ?z2 ?_))
            case z1 => exact owni_take (c := c3) (own_fr HOz.out.1 (show Fr Vz (World.drewN Vz _) (fun _ => False) from by repeat (first | with_reducible exact Fr.refl _ _ | with_reducible apply Fr.drew | with_reducible apply Fr.drewN)) (fun _ _ h => h)) hkl _
            case z2 => rw [List.length_take]; simp; omega
            intro v1 w1 hR hgr
            try rw [List.nil_append] at hR
            have HR1 := hid hR
            have q0 := ci_fr HXz.out hR.2
            have hbl := World.block_lt_of_cell? _ _ q0
            clear hR hgr
            obtain ⟨a1, c1, e1⟩ := I.Eo.shape HR1.out
            subst e1
            go_wp2_with (at_builtin; go_must (refine I.wpl_eo (wb := Vz) rfl (.tmp 39) (.tmp 44) rfl _ (out.take k) rfl w1.heap.size x rfl ?z3 (I.Eo.fr HR1.out (alloc_fr w1 _ _)) (by first | (simp; done) | (simp; rfl)) ?_))
            case z3 => first | (rw [List.length_take]; omega) | omega
            intro v2 w2 hR hgr
            have HR2 := hid hR
            clear hR hgr
            obtain ⟨a2, c2, e2'⟩ := I.Eo.shape HR2.out
            subst e2'
            go_wp2_with (at_builtin; go_must (refine wpl_ai (wb := Vz) rfl (.tmp 46) (.tmp 49) rfl _ (out.take k ++ [x]) rfl HR2.out _ (out.drop k) rfl ?z4 ?z5 ?_))
            case z4 => exact owni_drop (own_fr HOz.out.1 HR2.out.2 (fun _ _ h => h)) hkl _
            case z5 => rw [List.length_append, List.length_take, List.length_drop]; simp; omega
            intro v3 w3 hR hgr
            have HR3 := hid (Eo.behind (Eo.behind hR HFz.out) HO.out.2)
            clear hR hgr
            go_wp2_with fail
            go_roundg go
            case measure => omega
            case rel => exact ⟨i + 1, _, by go_num, by have := HG.out; omega, by simp only [List.length_append, List.length_cons, List.length_take, List.length_drop]; omega, HSn, mem_ins k HMo.out HxL.out, HR3⟩

theorem rising_srt {L : List Int} {v : Value} (w : World) (hv : RdI w v L) :
    Calls Try.prog 14 #[v] w fun r w' => ∃ u, r = .returned u ∧ ∃ l, I.Eo w w' u l ∧ l.length ≤ 200 ∧ l.Pairwise (fun a b => a ≤ b) :=
  (rising_mem w hv).mono (fun r w' h => by
    obtain ⟨u, e, l, h1, h2, h3, _⟩ := h
    exact ⟨u, e, l, h1, h2, h3⟩)
theorem rising_any {L : List Int} {v : Value} (w : World) (hv : RdI w v L) :
    Calls Try.prog 14 #[v] w fun r w' => ∃ u, r = .returned u ∧ ∃ l, I.Eo w w' u l ∧ l.length ≤ 200 :=
  (rising_srt w hv).mono (fun r w' h => by
    obtain ⟨u, e, l, h1, h2, _⟩ := h
    exact ⟨u, e, l, h1, h2⟩)

end Go.Proofs.Ytilgkfpicdmkkaa.M
