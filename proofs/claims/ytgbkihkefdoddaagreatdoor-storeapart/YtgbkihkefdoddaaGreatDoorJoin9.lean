/- Texts of one proof, joined. -/
import Derived.Test.YtgbkihkefdoddaaGreatDoorJoin8
import Derived.Test.YtgbkihkefdoddaaGreatDoorJoin2
import Derived.Test.YtgbkihkefdoddaaGreatDoorRows
import Derived.WalkKit
import Derived.Below
import Derived.Deep.RegionWith
import Derived.Deep.RegionHeld3
import Derived.Deep.LoopGhost
import Derived.BigQuiet
section
/- A chain in memory: a block with a slice, the slice's row of versions, three cells a version. -/
namespace Go.Proofs.YtgbkihkefdoddaaGreatDoor.G
open Go.RowKit

theorem hid {p : Prop} (h : p) : Hid p := h
theorem wrap_fit {x : Int} (h : fits x) : IntKind.i64.wrap x = x := by unfold fits at h; rw [IntKind.wrap_i64]; omega
/-- Behind a call that turns nothing old, every old cell reads as before. -/
theorem fr_rules {a w' : World} (h : Fr a w' (fun _ => False)) : (∀ b o, b < a.heap.size → w'.cell? ⟨b, o, none⟩ = a.cell? ⟨b, o, none⟩) ∧ (∀ b o, b < a.heap.size → w'.frozen? ⟨b, o, none⟩ = a.frozen? ⟨b, o, none⟩) := by
  have hb : Below a.heap.size a w' := h.below (Nat.le_refl _) (fun _ h => h.elim)
  exact ⟨fun b o h => hb.cell (p := ⟨b, o, none⟩) h, fun b o h => hb.frozen (p := ⟨b, o, none⟩) h⟩
theorem heap_last (w : World) (o : Obj) (k : Nat) (h : w.heap.size = k) : (w.alloc o).heap[k]? = some o := by subst h; exact heap_alloc_new w o

/-- Versions as values. -/
def vv (x : Vn) : List Value := [.int .i64 x.e, .bool x.t, .int .i64 x.v.c, .int .i64 x.v.s, .int .i64 x.v.m, .int .i64 x.v.x]
def vc : List Vn → List Value
  | [] => []
  | x :: L => .int .i64 x.e :: .bool x.t :: .int .i64 x.v.c :: .int .i64 x.v.s :: .int .i64 x.v.m :: .int .i64 x.v.x :: vc L
def vA (x : Vn) : Value := .agg #[.int .i64 x.e, .bool x.t, .int .i64 x.v.c, .int .i64 x.v.s, .int .i64 x.v.m, .int .i64 x.v.x]
theorem vc_append (a b : List Vn) : vc (a ++ b) = vc a ++ vc b := by
  induction a with
  | nil => rfl
  | cons x a ih => simp [vc, ih]
theorem vc_length (L : List Vn) : (vc L).length = L.length * 6 := by
  induction L with
  | nil => rfl
  | cons x L ih => simp only [vc, List.length_cons, ih]; omega
theorem vc_one (L : List Vn) : ∀ u ∈ vc L, u.oneCell' = true := by
  induction L with
  | nil => intro u hu; simp [vc] at hu
  | cons x L ih =>
    intro u hu
    simp only [vc, List.mem_cons] at hu
    rcases hu with rfl | rfl | rfl | rfl | rfl | rfl | hu
    · rfl
    · rfl
    · rfl
    · rfl
    · rfl
    · rfl
    · exact ih u hu
theorem vc_get : ∀ (L : List Vn) (i : Nat), i < L.length → (vc L)[i * 6]? = some (.int .i64 (L.getD i z0).e) ∧ (vc L)[i * 6 + 1]? = some (.bool (L.getD i z0).t) ∧ (vc L)[i * 6 + 2]? = some (.int .i64 (L.getD i z0).v.c) ∧ (vc L)[i * 6 + 3]? = some (.int .i64 (L.getD i z0).v.s) ∧ (vc L)[i * 6 + 4]? = some (.int .i64 (L.getD i z0).v.m) ∧ (vc L)[i * 6 + 5]? = some (.int .i64 (L.getD i z0).v.x)
  | [], i, h => by simp at h
  | x :: L, 0, _ => ⟨rfl, rfl, rfl, rfl, rfl, rfl⟩
  | x :: L, i + 1, h => by
    have := vc_get L i (by simpa using h)
    rw [show (i + 1) * 6 = i * 6 + 6 by omega]
    simpa [vc] using this
theorem vc_take (L : List Vn) (k : Nat) : vc (L.take k) = (vc L).take (k * 6) := by
  induction L generalizing k with
  | nil => simp [vc]
  | cons x L ih =>
    cases k with
    | zero => simp [vc]
    | succ k =>
      rw [show (k + 1) * 6 = k * 6 + 6 by omega]
      simp [vc, ih]

/-- A version in six cells. -/
def C6 (w : World) (b o : Nat) (x : Vn) : Prop := w.cell? ⟨b, o, none⟩ = some (.int .i64 x.e) ∧ w.cell? ⟨b, o + 1, none⟩ = some (.bool x.t) ∧ w.cell? ⟨b, o + 2, none⟩ = some (.int .i64 x.v.c) ∧ w.cell? ⟨b, o + 3, none⟩ = some (.int .i64 x.v.s) ∧ w.cell? ⟨b, o + 4, none⟩ = some (.int .i64 x.v.m) ∧ w.cell? ⟨b, o + 5, none⟩ = some (.int .i64 x.v.x)
/-- Versions that can be read at a slice. -/
def Vs (w : World) (v : Value) (L : List Vn) : Prop :=
  ∃ ao cap, v = .slice ao L.length cap ∧ L.length ≤ cap ∧ L.length ≤ 2000000 ∧ (L ≠ [] → ∃ b : Nat, ao = some ⟨b, 0, none⟩ ∧ ∀ i, i < L.length → C6 w b (i * 6) (L.getD i z0))

/-- A chain at block B, its slice, its versions. -/
structure Ch (w : World) (base B : Nat) (v : Value) (L : List Vn) : Prop where
  cell : w.heap[B]? = some (.cells #[v] 147 (0, 0))
  own : w.ownsRow base 143 6 v L.length (vc L)
  good : Good L
  len : L.length ≤ 2000000

theorem Ch.lt {w : World} {base B : Nat} {v : Value} {L : List Vn} (h : Ch w base B v L) : B < w.heap.size := lt_of_block h.cell
theorem Ch.ne {w : World} {base B : Nat} {v : Value} {L : List Vn} (h : Ch w base B v L) : v.ownBlock ≠ some B := own_ne h.own h.cell (by decide)
theorem Ch.fr {w w' : World} {S : Nat → Prop} {base B : Nat} {v : Value} {L : List Vn} (h : Ch w base B v L) (hf : Fr w w' S) (hB : ¬ S B) (hv : ∀ k, v.ownBlock = some k → ¬ S k) : Ch w' base B v L :=
  ⟨by rw [hf.block B h.lt hB]; exact h.cell, own_fr h.own hf hv, h.good, h.len⟩
theorem Ch.step {w w' : World} {base B : Nat} {v : Value} {L : List Vn} (h : Ch w base B v L) (hf : Fr w w' (fun _ => False)) : Ch w' base B v L := h.fr hf (fun h => h) (fun _ _ h => h)
theorem own_shape {w : World} {base : Nat} {v : Value} {n : Nat} {xs : List Value} (h : w.ownsRow base 143 6 v n xs) : ∃ ao cap, v = .slice ao n cap ∧ n ≤ cap := by
  rcases h.2 with ⟨rfl, rfl⟩ | ⟨g, cap, cur, rfl, _, _, hn, _⟩
  · exact ⟨_, _, rfl, Nat.le_refl _⟩
  · exact ⟨_, _, rfl, hn⟩
theorem own_vs {w : World} {base : Nat} {v : Value} {L : List Vn} (h : w.ownsRow base 143 6 v L.length (vc L)) (hl : L.length ≤ 2000000) : Vs w v L := by
  rcases h.2 with ⟨rfl, h0⟩ | ⟨g, cap, cur, rfl, _, _, hn, _⟩
  · have : L = [] := List.eq_nil_of_length_eq_zero h0
    subst this
    exact ⟨none, 0, rfl, Nat.le_refl _, hl, fun h => absurd rfl h⟩
  · refine ⟨_, _, rfl, hn, hl, fun _ => ⟨g, rfl, fun i hi => ?_⟩⟩
    obtain ⟨h1, h2, h3, h4, h5, h6⟩ := vc_get L i hi
    have c1 := h.cells (g := g) rfl _ _ h1
    have c2 := h.cells (g := g) rfl _ _ h2
    have c3 := h.cells (g := g) rfl _ _ h3
    have c4 := h.cells (g := g) rfl _ _ h4
    have c5 := h.cells (g := g) rfl _ _ h5
    have c6 := h.cells (g := g) rfl _ _ h6
    rw [Addr.add_lit, Nat.zero_add] at c1 c2 c3 c4 c5 c6
    exact ⟨c1, c2, c3, c4, c5, c6⟩
theorem Ch.vs {w : World} {base B : Nat} {v : Value} {L : List Vn} (h : Ch w base B v L) : Vs w v L := own_vs h.own h.len
theorem Vs.fr {w w' : World} {v : Value} {L : List Vn} (h : Vs w v L) (hf : Fr w w' (fun _ => False)) : Vs w' v L := by
  obtain ⟨ao, cap, rfl, hc, hl, hcell⟩ := h
  refine ⟨ao, cap, rfl, hc, hl, fun hne => ?_⟩
  obtain ⟨b, rfl, hb⟩ := hcell hne
  refine ⟨b, rfl, fun i hi => ?_⟩
  obtain ⟨h1, h2, h3, h4, h5, h6⟩ := hb i hi
  have hlt := World.block_lt_of_cell? w _ h1
  unfold C6
  rw [(fr_rules hf).1 b _ hlt, (fr_rules hf).1 b _ hlt, (fr_rules hf).1 b _ hlt, (fr_rules hf).1 b _ hlt, (fr_rules hf).1 b _ hlt, (fr_rules hf).1 b _ hlt]
  exact ⟨h1, h2, h3, h4, h5, h6⟩
/-- The front of a row. -/
theorem Vs.take {w : World} {ao : Option Addr} {n cap : Nat} {L : List Vn} (h : Vs w (.slice ao n cap) L) (k : Nat) (hk : k ≤ L.length) : Vs w (.slice ao k cap) (L.take k) := by
  obtain ⟨ao', cap', e, hc, hl, hcell⟩ := h
  simp only [Value.slice.injEq] at e
  obtain ⟨rfl, rfl, rfl⟩ := e
  refine ⟨ao, cap, by rw [List.length_take, Nat.min_eq_left hk], by rw [List.length_take]; omega, by rw [List.length_take]; omega, fun hne => ?_⟩
  obtain ⟨b, rfl, hb⟩ := hcell (by rintro rfl; simp at hne)
  refine ⟨b, rfl, fun i hi => ?_⟩
  rw [List.length_take] at hi
  have e : (L.take k).getD i z0 = L.getD i z0 := by simp [List.getD, show i < k by omega]
  rw [e]
  exact hb i (by omega)

set_option maxHeartbeats 2000000 in
theorem last_any (v : Value) (L : List Vn) (w : World) (h : Vs w v L) :
    Calls Tryz.prog 109 #[v] w fun e w' => e = .returned (vA (nw L)) ∧ Fr w w' (fun _ => False) := by
  obtain ⟨ao, cap, rfl, hc, hl, hcell⟩ := h
  unfold vA
  by_cases hL : L = []
  · subst hL
    clear hcell
    go_enter Tryz.func109, Tryz.ntmps109
    go_wp2_with fail
    refine bodyPost_ret (v := .agg #[.int .i64 0, .bool false, .int .i64 0, .int .i64 0, .int .i64 0, .int .i64 0]) (by simp [results, Tryz.results109, go_sem]) rfl ⟨rfl, ?_⟩
    repeat (first | exact Fr.refl _ _ | refine Fr.setCell ?_ (p := ⟨w.heap.size, _, none⟩) (fun h => absurd h (Nat.lt_irrefl _)) _ | apply Fr.alloc)
  · obtain ⟨b, rfl, hb⟩ := hcell hL
    have hpos : 0 < L.length := List.length_pos_iff.2 hL
    obtain ⟨h1, h2, h3, h4, h5, h6⟩ := hb (L.length - 1) (by omega)
    have hlt := World.block_lt_of_cell? w _ h1
    rw [← nw_getD L hL] at h1 h2 h3 h4 h5 h6
    generalize nw L = x at *
    clear hb hcell
    have t1 : ((L.length : Int) == 0) = false := by simp; exact hL
    have t2 : 0 ≤ (L.length : Int) - 1 := by omega
    have t3 : (L.length : Int) - 1 < (L.length : Int) := by omega
    have HL := hid hL
    clear hL
    dsimp only at hlt
    go_enter Tryz.func109, Tryz.ntmps109
    go_wp2_with fail
    refine bodyPost_ret (v := .agg #[.int .i64 x.e, .bool x.t, .int .i64 x.v.c, .int .i64 x.v.s, .int .i64 x.v.m, .int .i64 x.v.x]) (by simp [results, Tryz.results109, go_sem]) rfl ⟨rfl, ?_⟩
    repeat (first | exact Fr.refl _ _ | refine Fr.setCell ?_ (p := ⟨w.heap.size, _, none⟩) (fun h => absurd h (Nat.lt_irrefl _)) _ | apply Fr.alloc)
end Go.Proofs.YtgbkihkefdoddaaGreatDoor.G
end

section
/- chain: New, Len, Newest, check: walks. -/
namespace Go.Proofs.YtgbkihkefdoddaaGreatDoor.G
open Go.RowKit

theorem new_any (w : World) :
    Calls Tryz.prog 107 #[] w fun e w' => e = .returned (.pointer (some ⟨w.heap.size, 0, none⟩)) ∧ (∀ base, Ch w' base w.heap.size (.slice none 0 0) []) ∧ Fr w w' (fun _ => False) ∧ w'.heap.size = w.heap.size + 1 := by
  go_enter Tryz.func107, Tryz.ntmps107
  go_wp2_with fail
  go_ret
  exact ⟨rfl, fun base => ⟨heap_last _ _ _ rfl, ⟨rfl, Or.inl ⟨rfl, rfl⟩⟩, Good.nil, by simp⟩, alloc_fr _ _ _, by simp⟩

theorem len_any {base B : Nat} {v : Value} {L : List Vn} (w : World) (h : Ch w base B v L) :
    Calls Tryz.prog 68 #[.pointer (some ⟨B, 0, none⟩)] w fun e w' => e = .returned (.int .i64 (L.length : Int)) ∧ w' = w := by
  have hc := cell_of_one h.cell
  obtain ⟨ao, cap, rfl, _⟩ := own_shape h.own
  have hlt := h.lt
  clear h
  go_enter Tryz.func68, Tryz.ntmps68
  go_wp2_with fail
  go_ret
  exact ⟨rfl, rfl⟩

theorem cells6 {w : World} {N : Nat} {a b c d f g : Value} {e : TypeId} (h : w.heap[N]? = some (.cells #[a, b, c, d, f, g] e (0, 0))) : w.cell? ⟨N, 0, none⟩ = some a ∧ w.cell? ⟨N, 1, none⟩ = some b ∧ w.cell? ⟨N, 2, none⟩ = some c ∧ w.cell? ⟨N, 3, none⟩ = some d ∧ w.cell? ⟨N, 4, none⟩ = some f ∧ w.cell? ⟨N, 5, none⟩ = some g := by
  refine ⟨?_, ?_, ?_, ?_, ?_, ?_⟩ <;> simp [World.cell?, h]

set_option maxHeartbeats 2000000 in
theorem cells4 {w : World} {N : Nat} {a b c d : Value} {e : TypeId} (h : w.heap[N]? = some (.cells #[a, b, c, d] e (0, 0))) : w.cell? ⟨N, 0, none⟩ = some a ∧ w.cell? ⟨N, 1, none⟩ = some b ∧ w.cell? ⟨N, 2, none⟩ = some c ∧ w.cell? ⟨N, 3, none⟩ = some d := by
  refine ⟨?_, ?_, ?_, ?_⟩ <;> simp [World.cell?, h]
theorem free4 {w : World} {N : Nat} {a b c d : Value} {e : TypeId} (h : w.heap[N]? = some (.cells #[a, b, c, d] e (0, 0))) (o : Nat) : w.frozen? ⟨N, o, none⟩ = false := by
  simp [World.frozen?, h]

set_option maxHeartbeats 1000000 in
theorem newest_any {base B : Nat} {v : Value} {L : List Vn} (w : World) (h : Ch w base B v L) :
    Calls Tryz.prog 115 #[.pointer (some ⟨B, 0, none⟩)] w fun e w' => e = .returned (.tuple #[.agg #[.int .i64 (nw L).v.c, .int .i64 (nw L).v.s, .int .i64 (nw L).v.m, .int .i64 (nw L).v.x], .int .i64 (nw L).e, .bool (nw L).t]) ∧ Fr w w' (fun _ => False) := by
  have hc := cell_of_one h.cell
  have HV := hid h.vs
  obtain ⟨ao, cap, rfl, _⟩ := own_shape h.own
  have hlt := h.lt
  clear h
  have HL := hid (fun W h => last_any (.slice ao L.length cap) L W h)
  unfold vA at HL
  generalize nw L = x at *
  go_enter Tryz.func115, Tryz.ntmps115
  go_wp2_with fail
  refine (HL.out _ (HV.out.fr (alloc_fr _ _ _))).mono ?_
  rintro e w1 ⟨rfl, hf1⟩
  have HZ := (hf1.block w.heap.size (by simp) (fun h => h)).trans (heap_last _ _ _ rfl)
  obtain ⟨z0, z1, z2, z3⟩ := cells4 HZ
  have hzf := free4 HZ
  have HF1 := hid ((alloc_fr w _ _).trans hf1)
  have hzl := lt_of_block HZ
  clear hf1 HZ
  go_wp2_with fail
  go_region
  go_wp2_with fail
  refine bodyPost_ret (v := .tuple #[.agg #[.int .i64 x.v.c, .int .i64 x.v.s, .int .i64 x.v.m, .int .i64 x.v.x], .int .i64 x.e, .bool x.t]) (by simp [results, Tryz.results115, go_sem, hzl, z0, z1, z2, z3]) rfl ⟨rfl, ?_⟩
  repeat (first | exact HF1.out | refine Fr.setCell ?_ (p := ⟨w.heap.size, _, none⟩) (fun h => absurd h (Nat.lt_irrefl _)) _ | apply Fr.alloc | apply Fr.drewN | apply Fr.drew)

/-- The stamp of a version, the epoch of a stamp, and whether it is a value. -/
theorem field_st (W : World) (a b c d f g : Value) : (Instr.field 143 (.agg #[a, b, c, d, f, g]) 0).run Tryz.prog W = .ok (.agg #[a, b]) W := by kernel_rfl
theorem field_ep (W : World) (a : Int) (b : Bool) : (Instr.field 141 (.agg #[.int .i64 a, .bool b]) 0).run Tryz.prog W = .ok (.int .i64 a) W := by kernel_rfl
theorem field_th (W : World) (a : Int) (b : Bool) : (Instr.field 141 (.agg #[.int .i64 a, .bool b]) 1).run Tryz.prog W = .ok (.bool b) W := by kernel_rfl

set_option maxRecDepth 100000 in
theorem check_any {base B : Nat} {v : Value} {L : List Vn} (e : Int) (w : World) (h : Ch w base B v L) :
    Calls Tryz.prog 108 #[.pointer (some ⟨B, 0, none⟩), .int .i64 e] w fun r w' => r = .returned (.int .i64 (wrong L e)) ∧ Fr w w' (fun _ => False) := by
  have hc := cell_of_one h.cell
  have HV := hid h.vs
  obtain ⟨ao, cap, rfl, _⟩ := own_shape h.own
  have hlt := h.lt
  clear h
  unfold wrong
  by_cases h1 : e < 1
  · rw [if_pos (Or.inl h1)]
    go_enter Tryz.func108, Tryz.ntmps108
    go_wp2_with fail
    go_ret
    exact ⟨rfl, Fr.refl _ _⟩
  · by_cases h2 : 1099511627776 < e
    · rw [if_pos (Or.inr h2)]
      go_enter Tryz.func108, Tryz.ntmps108
      go_wp2_with fail
      go_ret
      exact ⟨rfl, Fr.refl _ _⟩
    · rw [if_neg (by omega)]
      have HL := hid (fun W h => last_any (.slice ao L.length cap) L W h)
      unfold vA at HL
      generalize nw L = x at *
      have hfs := field_st
      have hfe := field_ep
      by_cases h3 : e < x.e
      · rw [if_pos h3]
        go_enter Tryz.func108, Tryz.ntmps108
        go_wp2_with fail
        refine (HL.out _ HV.out).mono ?_
        rintro r w1 ⟨rfl, hf1⟩
        have HF1 := hid hf1
        clear hf1
        go_wp2_with fail
        go_ret
        exact ⟨rfl, HF1.out⟩
      · rw [if_neg h3]
        go_enter Tryz.func108, Tryz.ntmps108
        go_wp2_with fail
        refine (HL.out _ HV.out).mono ?_
        rintro r w1 ⟨rfl, hf1⟩
        have HF1 := hid hf1
        clear hf1
        go_wp2_with fail
        go_ret
        exact ⟨rfl, HF1.out⟩
end Go.Proofs.YtgbkihkefdoddaaGreatDoor.G
end
