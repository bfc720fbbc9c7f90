/- table: slices.Clone of a row, Twin: walks. -/
import Derived.Test.YtobigmcklecbnaaTTab6
import Derived.Deep.DeepMust
namespace Go.Proofs.Ytobigmcklecbnaa
open Go.RowKit

theorem oneV {v : Value} (h : isV v) : v.oneCell' = true := by
  obtain ⟨x, rfl⟩ := h
  rfl
theorem pc_one {L : List Pl} (h : Vok L) : ∀ u ∈ pc L, u.oneCell' = true := by
  have key : ∀ M : List Pl, (∀ p ∈ M, isV p.val) → ∀ u ∈ pc M, u.oneCell' = true := by
    intro M
    induction M with
    | nil => intro _ u hu; simp [pc] at hu
    | cons x M ih =>
      intro hM u hu
      simp only [pc, List.mem_cons] at hu
      rcases hu with rfl | rfl | rfl | hu
      · rfl
      · rfl
      · exact oneV (hM x (by simp))
      · exact ih (fun p hp => hM p (List.mem_cons_of_mem _ hp)) u hu
  refine key L (fun p hp => ?_)
  obtain ⟨i, hi, rfl⟩ := List.mem_iff_getElem.1 hp
  have := (h i hi).1
  rw [at_get hi] at this
  exact this

/-- The append of a whole row behind none. -/
theorem clone_app {w : World} {g : Nat} {L : List Pl} {rest : List Value} (h : RowG 77 w g L rest) (hne : L ≠ []) (hl : L.length ≤ 1099511627776) (M cap : Nat) (ty : TypeId) :
    ∃ v' w', (Builtin.append_ #[66, 66] ty #[.slice (some ⟨M, 0, none⟩) 0 0, .slice (some ⟨g, 0, none⟩) L.length cap]).run Try.prog w = .ok v' w' ∧ Ro w' L v' (some w.heap.size) ∧ Fr w w' (fun _ => False) := by
  obtain ⟨i0, hi, hz0, hz1, hz2⟩ := info_parts Try.info_place
  have hpos : 0 < L.length := List.length_pos_iff.2 hne
  have hnews : ∀ (j : Nat) (u : Value), (pc L)[j]? = some u → w.cell? ((⟨g, 0, none⟩ : Addr).add j) = some u := by
    intro j u hj
    have hjl : j < (pc L).length := by
      rcases Nat.lt_or_ge j (pc L).length with h | h
      · exact h
      · rw [List.getElem?_eq_none h] at hj; cases hj
    rw [Addr.add_lit, Nat.zero_add, cell_of_row w g _ _ _ (0, 0) h]
    simp [List.getElem?_append_left hjl, hj]
  have hr := run_append_grow (P := Try.prog) w 66 ty 77 i0 _ Try.underlying66 hi hz0 ⟨M, 0, none⟩ 0 0 [] (by simp) (fun j v hj => by simp at hj) ⟨g, 0, none⟩ L.length cap (pc L) (by rw [hz1, pc_length]) hnews (by omega) (by omega)
    (growslice_fits (by omega) (by rw [hz2]; omega))
  rw [Nat.zero_add] at hr
  generalize hzc : Builtin.zeroCells (Value.agg #[.int .u8 0, .string ⟨#[]⟩, .int .i64 0]).cells (grownCap w L.length 0 77 - L.length) = zc at hr
  refine ⟨_, _, hr, ⟨_, zc.toList, rfl, ?_, hne⟩, (Fr.refl w _).drew.alloc _⟩
  unfold RowG
  have h2 := heap_last w.drew (.cells ([].toArray ++ (pc L).toArray ++ zc) 77) _ rfl
  have h3 : ([].toArray ++ (pc L).toArray ++ zc) = (pc L ++ zc.toList).toArray := by
    apply Array.ext'
    simp
  rw [h3] at h2 ⊢
  exact h2

theorem wp_clone {w : World} {ops : Array Oper} {rest : List Oper} {o : Oper} {a : Act} {Q : Exit → Act → World → Prop} (hgd : o.guard = none) (s x : Operand)
    (ho : o.op = .call { callee := .builtin .append, args := #[s, x], argTypes := #[66, 66] })
    {g M cap : Nat} {L : List Pl} {rs : List Value} (hs : a.eval s = .slice (some ⟨M, 0, none⟩) 0 0) (hx : a.eval x = .slice (some ⟨g, 0, none⟩) L.length cap) (hR : RowG 77 w g L rs) (hne : L ≠ []) (hl : L.length ≤ 1099511627776)
    (h : ∀ v' w', Ro w' L v' (some w.heap.size) → Fr w w' (fun _ => False) → wpList Try.prog ops Q rest (a.put o.dst v') w') :
    wpList Try.prog ops Q (o :: rest) a w := by
  obtain ⟨v', w', hr, h2, h3⟩ := clone_app hR hne hl M cap o.type
  refine wpList_plain hgd fun K hK => ?_
  unfold Oper.wp execOp
  simp only [ho, resolve, invoke, builtin, Sem.run_bind, Sem.run_pure, Result.andThen_ok, List.map_toArray, List.map_cons, List.map_nil, hs, hx, hr]
  exact hK _ _ (h v' w' h2 h3)

set_option maxHeartbeats 1000000 in
theorem clone_any {L : List Pl} {v : Value} {b : Option Nat} (w : World) (h : Ro w L v b) (hl : L.length ≤ 1099511627776) :
    Calls Try.prog 42 #[v] w fun e w' => ∃ v' b', e = .returned v' ∧ Ro w' L v' b' ∧ (∀ g, b' = some g → w.heap.size ≤ g) ∧ Fr w w' (fun _ => False) := by
  cases b with
  | none =>
    obtain ⟨rfl, rfl⟩ := h
    have hrn := row_is_nil
    go_enter Try.func42, Try.ntmps42
    go_wp2_with fail
    go_ret
    exact ⟨_, none, rfl, ⟨rfl, rfl⟩, (fun g e => by cases e), Fr.refl _ _⟩
  | some g =>
    obtain ⟨cap, rest, rfl, hR, hne⟩ := h
    have hrn := row_nil
    have HR := hid hR
    have HNe := hid hne
    have hgl := hR.lt
    clear hR hne
    go_enter Try.func42, Try.ntmps42
    go_wp2_with (at_builtin; go_must (refine wp_clone rfl (.tmp 5) (.tmp 6) rfl rfl rfl (HR.out.fr (alloc_fr w _ (fun _ => False)) (fun h => h)) HNe.out hl ?_))
    intro v' w' h1 h2
    have H1 := hid h1
    have H2 := hid h2
    clear h1 h2
    go_wp2_with fail
    go_ret
    exact ⟨v', _, rfl, H1.out, (fun q e => by cases e; simp), (alloc_fr w _ _).trans H2.out⟩

set_option maxHeartbeats 1000000 in
theorem twin_any {B gr : Nat} {ge : Option Nat} {T : Tb} (w : World) (h : TbAt w B gr ge T) :
    Calls Try.prog 19 #[.pointer (some ⟨B, 0, none⟩)] w fun e w' => ∃ B' gr' ge', e = .returned (.pointer (some ⟨B', 0, none⟩)) ∧ TbAt w' B' gr' ge' T ∧ (∀ b, bl B' gr' ge' b → w.heap.size ≤ b) ∧ Fr w w' (fun _ => False) := by
  have hlt := h.lt
  have HT := hid h
  have hlen := h.len
  have hel := h.elen
  obtain ⟨rv, ev, hc, hr, he⟩ := h.ex
  have HC := hid hc
  have HR := hid hr
  have HE := hid he
  obtain ⟨ao, cap, rfl⟩ := hr.shape
  obtain ⟨ae, cape, rfl⟩ := he.shape
  obtain ⟨c0, c1, c2, c3⟩ := cells4 hc
  clear h hc hr he
  go_enter Try.func19, Try.ntmps19
  go_wp2_with fail
  have hA := alloc_fr w (.cells #[.slice ao T.row.length cap, .slice ae T.elder.length cape, .int .i64 (T.moved : Int), .int .i64 (T.keys : Int)] 68) (fun _ => False)
  have hL := heap_last w (.cells #[.slice ao T.row.length cap, .slice ae T.elder.length cape, .int .i64 (T.moved : Int), .int .i64 (T.keys : Int)] 68) _ rfl
  refine (clone_any _ (HR.out.fr hA (fun _ _ h => h)) hlen).mono ?_
  rintro e w1 ⟨v1, b1, rfl, hr1, hb1, hf1⟩
  have HF1 := hid (hA.trans hf1)
  have hL1 := (hf1.block w.heap.size (by simp) (fun h => h)).trans hL
  have HL1 := hid hL1
  obtain ⟨d0, d1, d2, d3⟩ := cells4 hL1
  have f0 := free4 hL1 0
  have hl1 := lt_of_block hL1
  have HR1 := hid hr1
  have HB1 := hid hb1
  have hs1 := hf1.size
  simp at hs1
  obtain ⟨ao1, cap1, rfl⟩ := hr1.shape
  have e1 : w1.cell? ⟨B, 1, none⟩ = some (.slice ae T.elder.length cape) := by rw [(fr_rules HF1.out).1 _ _ hlt]; exact c1
  have hB1 : B < w1.heap.size := by omega
  have hBn : ¬ B = w.heap.size := by omega
  clear hA hL hf1 hL1 hr1 hb1 c0 c1 c2 c3 d1 d2 d3
  go_wp2_with fail
  have hS1 := set_fr w1 ⟨w.heap.size, 0, none⟩ (.slice ao1 T.row.length cap1)
  have HE1 : Hid (Ro (w1.setCell ⟨w.heap.size, 0, none⟩ (.slice ao1 T.row.length cap1)) T.elder (.slice ae T.elder.length cape) ge) := (HE.out.fr HF1.out (fun _ _ h => h)).fr hS1 (fun g e e2 => by
    have h3 := e2
    subst e
    have := HE.out.lt
    simp only at h3
    omega)
  refine (clone_any _ HE1.out hel).mono ?_
  rintro e w2 ⟨v2, b2, rfl, hr2, hb2, hf2⟩
  have HF2 := hid hf2
  have hL2 := (hf2.block w.heap.size (by simp [World.setCell]; exact hl1) (fun h => h)).trans (set40 (u := .slice ao1 T.row.length cap1) HL1.out)
  have HL2 := hid hL2
  obtain ⟨d0, d1, d2, d3⟩ := cells4 hL2
  have f1 := free4 hL2 1
  have hl2 := lt_of_block hL2
  have HR2 := hid hr2
  have HB2 := hid hb2
  have hs2 := hf2.size
  simp [World.setCell] at hs2
  obtain ⟨ae2, cape2, rfl⟩ := hr2.shape
  clear hf2 hL2 hr2 hb2 d0 d2 d3 e1
  go_wp2_with fail
  go_ret
  have hS2 := set_fr w2 ⟨w.heap.size, 1, none⟩ (.slice ae2 T.elder.length cape2)
  have hpos := HT.out.inv.pos
  cases b1 with
  | none => have := HR1.out.1; rw [this] at hpos; simp at hpos
  | some g1 =>
    have hg1 := HB1.out g1 rfl
    simp at hg1
    have hg1l := HR1.out.lt
    have hr3 : Ro (w2.setCell ⟨w.heap.size, 1, none⟩ (.slice ae2 T.elder.length cape2)) T.row (.slice ao1 T.row.length cap1) (some g1) := ((HR1.out.fr hS1 (fun g e e2 => by cases e; have h3 : g1 = w.heap.size := e2; omega)).fr HF2.out (fun _ _ h => h)).fr hS2 (fun g e e2 => by cases e; have h3 : g1 = w.heap.size := e2; omega)
    have hbb : ∀ g, b2 = some g → w1.heap.size ≤ g := fun g e => by have := HB2.out g e; simp [World.setCell] at this; exact this
    have he3 : Ro (w2.setCell ⟨w.heap.size, 1, none⟩ (.slice ae2 T.elder.length cape2)) T.elder (.slice ae2 T.elder.length cape2) b2 := HR2.out.fr hS2 (fun g e e2 => by have := hbb g e; have h3 : g = w.heap.size := e2; omega)
    refine ⟨w.heap.size, g1, b2, rfl, ⟨⟨_, _, set41 HL2.out, hr3, he3⟩, fun e => by have := hbb g1 e; omega, HT.out.inv, HT.out.rok, HT.out.eok, hlen⟩, fun b hb => ?_, ?_⟩
    · rcases hb with hb | hb | hb
      · omega
      · omega
      · have := hbb b hb; omega
    · refine ((HF1.out.setCell (p := ⟨w.heap.size, 0, none⟩) (fun h => absurd h (Nat.lt_irrefl _)) _).trans HF2.out).setCell (p := ⟨w.heap.size, 1, none⟩) (fun h => absurd h (Nat.lt_irrefl _)) _
end Go.Proofs.Ytobigmcklecbnaa
