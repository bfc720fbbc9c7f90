/- Live cells as a map in memory. -/
import Derived.Test.YtbhhpkbiflolfaaVPure
import Derived.Test.YtbhhpkbiflolfaaMCmp
import Derived.Test.YtbhhpkbiflolfaaRows
import Derived.Maps.OwnSet
import Derived.Maps.RangeWalk
import Derived.DeepKeys4
import Derived.WalkKit
namespace Go.Proofs.Ytbhhpkbiflolfaa.V
open Go.RowKit Go.Maps
open M (Cl cmpC cmC cmpC_zero cmpC_flip vC)

theorem wideC : (match Try.prog.underlying 64 with | some (.array _ _) | some (.struct _) => true | _ => false) = true := by kernel_rfl
set_option maxRecDepth 100000 in
theorem law : Keyed Try.prog 64 := Keyed.of_law (deep_law_laid (m := 218) (by kernel_rfl) (by decide) (Nat.lt_of_lt_of_eq (by decide) (show 218 = Try.prog.types.size by kernel_rfl)) (by kernel_rfl) wideC)
theorem zeroU (w : World) : (zeroValue 99).run Try.prog w = .ok (.agg #[]) w := by kernel_rfl
/-- A cell that a map can hold. -/
def FitC (c : Cl) : Prop := fits c.v ∧ fits c.s ∧ c.k.size ≤ maxLen
/-- What it reads as. -/
def kl (c : Cl) : Lit := .string (keyBytes [.int .i64 c.v, .string c.k.data.toList, .int .i64 c.s])
theorem wf64 {x : Int} (h : fits x) : (Lit.int .i64 x).wf = true := WalkArith.wf_i64 h
theorem fits64 {x : Int} (h : (Lit.int .i64 x).wf = true) : fits x := by
  simp [Lit.wf, IntKind.min, IntKind.max, IntKind.signed, IntKind.bits] at h
  unfold fits
  omega
theorem cell_struct : ∃ f0 f1 f2 : Field, Try.prog.underlying 64 = some (.struct #[f0, f1, f2]) ∧ (f0.offset = 0 ∧ f0.type = 3) ∧ (f1.offset = 1 ∧ f1.type = 9) ∧ (f2.offset = 2 ∧ f2.type = 2) ∧ (#[f0, f1, f2].all (·.name != "_") = true) :=
  ⟨_, _, _, Try.underlying64, ⟨rfl, rfl⟩, ⟨rfl, rfl⟩, ⟨rfl, rfl⟩, by kernel_rfl⟩
theorem cellsC : Try.prog.cellsOf 64 = 3 ∧ Try.prog.cellsOf 3 = 1 ∧ Try.prog.cellsOf 9 = 1 ∧ Try.prog.cellsOf 2 = 1 := ⟨by kernel_rfl, by kernel_rfl, by kernel_rfl, by kernel_rfl⟩
def litC : List Value → Option (List Lit)
  | [.int q a, .string s, .int q' b] => if (q = .i64 ∧ (Lit.int .i64 a).wf = true) ∧ s.size ≤ maxLen ∧ (q' = .i64 ∧ (Lit.int .i64 b).wf = true) then some [.int .i64 a, .string s.data.toList, .int .i64 b] else none
  | _ => none
theorem lits_eq (d : Nat) (cs : List Value) (h : cs.length = 3) : Try.prog.keyLits (d + 2) 64 cs = litC cs := by
  obtain ⟨f0, f1, f2, hu, ⟨o0, t0⟩, ⟨o1, t1⟩, ⟨o2, t2⟩, hn⟩ := cell_struct
  obtain ⟨c3, c1, c2, c4⟩ := cellsC
  match cs, h with
  | [x, y, z], _ =>
    unfold Program.keyLits litC
    rw [hu]
    simp only [c3, hn, List.length_cons, List.length_nil, and_true, if_pos]
    unfold Program.keyLits
    simp only [List.mapM_cons, List.mapM_nil, o0, t0, o1, t1, o2, t2, c1, c2, c4, List.drop_zero, List.drop_succ_cons, List.take_succ_cons, List.take_zero, Try.underlying3, Try.underlying9, Try.underlying2]
    cases x with
    | int q a =>
      cases y with
      | string s =>
        cases z with
        | int q' b =>
          by_cases h1 : q = .i64 ∧ (Lit.int .i64 a).wf = true
          · by_cases h2 : s.size ≤ maxLen
            · by_cases h3 : q' = .i64 ∧ (Lit.int .i64 b).wf = true
              · simp only [if_pos h1, if_pos h2, if_pos h3, if_pos (And.intro h1 (And.intro h2 h3))]; rfl
              · simp only [if_pos h1, if_pos h2, if_neg h3, if_neg (fun h : (q = .i64 ∧ (Lit.int .i64 a).wf = true) ∧ s.size ≤ maxLen ∧ (q' = .i64 ∧ (Lit.int .i64 b).wf = true) => h3 h.2.2)]; rfl
            · simp only [if_pos h1, if_neg h2, if_neg (fun h : (q = .i64 ∧ (Lit.int .i64 a).wf = true) ∧ s.size ≤ maxLen ∧ (q' = .i64 ∧ (Lit.int .i64 b).wf = true) => h2 h.2.1)]; rfl
          · simp only [if_neg h1, if_neg (fun h : (q = .i64 ∧ (Lit.int .i64 a).wf = true) ∧ s.size ≤ maxLen ∧ (q' = .i64 ∧ (Lit.int .i64 b).wf = true) => h1 h.1)]; rfl
        | _ => simp
      | _ => simp
    | _ => simp
set_option maxRecDepth 100000 in
theorem keyC {c : Cl} (h : FitC c) : keyOf Try.prog 64 (vC c) = some (kl c) := by
  obtain ⟨f0, f1, f2, hu, _⟩ := cell_struct
  have hk : Try.prog.keyType 64 = true := by kernel_rfl
  have hf : (vC c).formed Try.prog 64 = true := by
    unfold vC
    simp [Value.formed, hu, cellsC.1]
  have hs : Try.prog.types.size + 1 = (218 - 1) + 2 := by kernel_rfl
  unfold keyOf
  rw [hu]
  simp only [hk, hf, Bool.and_self, if_true]
  rw [hs, lits_eq _ _ (by simp [vC, Value.cells])]
  simp only [vC, Value.cells, litC]
  simp only [wf64 h.1, wf64 h.2.1, h.2.2, and_self, if_true, Option.map_some]
  rfl
set_option maxRecDepth 100000 in
theorem keyC_inv {v : Value} {l : Lit} (h : keyOf Try.prog 64 v = some l) : ∃ c, v = vC c ∧ FitC c ∧ l = kl c := by
  obtain ⟨xs, L, rfl, hL, rfl⟩ := keyOf_top wideC h
  have hs : Try.prog.types.size + 1 = (218 - 1) + 2 := by kernel_rfl
  obtain ⟨f0, f1, f2, hu, _, _, _, hn⟩ := cell_struct
  have hl : xs.toList.length = 3 := by
    rw [hs] at hL
    unfold Program.keyLits at hL
    rw [hu] at hL
    simp only [cellsC.1] at hL
    by_cases h3 : xs.toList.length = 3
    · exact h3
    · rw [if_neg (fun h => h3 h.1)] at hL; cases hL
  rw [hs, lits_eq _ _ hl] at hL
  match hx : xs.toList, hl with
  | [x, y, z], _ =>
    rw [hx] at hL
    unfold litC at hL
    cases x with
    | int q a =>
      cases y with
      | string s =>
        cases z with
        | int q' b =>
          by_cases hh : (q = .i64 ∧ (Lit.int .i64 a).wf = true) ∧ s.size ≤ maxLen ∧ (q' = .i64 ∧ (Lit.int .i64 b).wf = true)
          · simp only [if_pos hh, Option.some.injEq] at hL
            obtain ⟨⟨rfl, h1⟩, h2, rfl, h3⟩ := hh
            subst hL
            have e : xs = #[.int .i64 a, .string s, .int .i64 b] := Array.ext' hx
            exact ⟨⟨a, s, b⟩, by rw [e]; rfl, ⟨fits64 h1, fits64 h3, h2⟩, rfl⟩
          · simp only [if_neg hh] at hL
            cases hL
        | _ => simp at hL
      | _ => simp at hL
    | _ => simp at hL
theorem vC_inj {a b : Cl} (h : vC a = vC b) : a = b := by
  unfold vC at h
  simp at h
  cases a; cases b
  simp at h
  obtain ⟨rfl, rfl, rfl⟩ := h
  rfl
theorem kl_inj {a b : Cl} (ha : FitC a) (hb : FitC b) (h : kl a = kl b) : a = b := vC_inj (law.inj (keyC ha) (h ▸ keyC hb))
theorem kl_key (c : Cl) : WideAt.IsKeyLit (kl c) := trivial
theorem kl_same (c : Cl) : (kl c).sameKey (kl c) = true := WideAt.sameKey_self (kl_key c)

/-- Block b is a map whose keys are the list's cells. -/
def Mc (w : World) (b : Nat) (L : List Cl) : Prop := ∃ D : DataW Unit, w.ownsMap Try.prog 64 unitElem b L.length D ∧ (∀ c, FitC c → Maps.has D (kl c) = decide (c ∈ L)) ∧ Maps.size D = L.length ∧ ∀ c ∈ L, FitC c
theorem Mc.lt {w : World} {b : Nat} {L : List Cl} (h : Mc w b L) : b < w.heap.size := by obtain ⟨D, h, _⟩ := h; exact h.lt
theorem Mc.at {w w' : World} {b : Nat} {L : List Cl} (h : Mc w b L) (hb : w'.heap[b]? = w.heap[b]?) : Mc w' b L := by
  obtain ⟨D, ⟨es, c, h1, r⟩, h2⟩ := h
  exact ⟨D, ⟨es, c, hb.trans h1, r⟩, h2⟩
theorem Mc.fr {w w' : World} {S : Nat → Prop} {b : Nat} {L : List Cl} (h : Mc w b L) (hf : Fr w w' S) (hS : ¬ S b) : Mc w' b L := h.at (hf.block b h.lt hS)
theorem Mc.new (w : World) : Mc (w.alloc (.map #[] 0)) w.heap.size [] := ⟨.map [], World.ownsMap_made w _ _ _, fun c _ => by simp [Maps.has], rfl, by simp⟩
theorem Mc.isMap {w : World} {b : Nat} {L : List Cl} (h : Mc w b L) : ∃ es c, w.heap[b]? = some (.map es c) := by obtain ⟨D, ⟨es, c, h1, _⟩, _⟩ := h; exact ⟨es, c, h1⟩
theorem tight {w : World} {b n : Nat} {D : DataW Unit} (h : w.ownsMap Try.prog 64 unitElem b n D) : w.ownsMap Try.prog 64 unitElem b (Maps.size D) D := by
  obtain ⟨es, c, h1, h2, h3, rfl⟩ := h
  exact ⟨es, c, h1, h2, by simp [Maps.size, length_sorted], rfl⟩
/-- What a map holds behind a store. -/
theorem Mc.put {w : World} {b : Nat} {L : List Cl} (h : Mc w b L) (hr : Ri L) (hlen : L.length < maxLen) {c : Cl} (hc : FitC c) :
    ∃ w', (Instr.mapUpdate 83 (.map (some b)) (vC c) (.agg #[])).run Try.prog w = .ok () w' ∧ Mc w' b (ins c L) ∧ w.grownBy w' (some b) := by
  obtain ⟨D, h1, h2, h3, h4⟩ := h
  have ht := h1.tidy law
  obtain ⟨w', hrun, hown, hg⟩ := h1.update law Try.underlying83 hlen (keyC hc) unitElem_mk
  have hsz : Maps.size (D.put (kl c) (.agg [])) = (ins c L).length := by
    rw [size_put ht, h2 c hc, ins_len hr, h3]
    by_cases hm : c ∈ L <;> simp [hm]
  refine ⟨w', hrun, ⟨_, ?_, fun x hx => ?_, hsz, fun x hx => ?_⟩, hg⟩
  · rw [← hsz]; exact tight hown
  · by_cases hxc : x = c
    · subst hxc
      rw [has_put_same h1.isMap (kl_key x)]
      exact (decide_eq_true (mem_ins.2 (Or.inl rfl))).symm
    · rw [has_put_other (fun e => hxc (kl_inj hx hc e)), h2 x hx]
      simp [mem_ins, hxc]
  · rcases mem_ins.1 hx with rfl | hx
    · exact hc
    · exact h4 x hx
end Go.Proofs.Ytbhhpkbiflolfaa.V
