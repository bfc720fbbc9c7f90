/- Marks in memory; mark.has, isTime, Of, Least: walks. -/
import Derived.Test.YtbhhpkbiflolfaaQPure
import Derived.Test.YtbhhpkbiflolfaaPWalk3
namespace Go.Proofs.Ytbhhpkbiflolfaa
open Go.RowKit

/-- Marks at block B, their row at block g. -/
structure Km (w : World) (B g : Nat) (ms : List Int) : Prop where
  cell : w.heap[B]? = some (.cells #[.slice (some ⟨g, 0, none⟩) ms.length ms.length] 124 (0, 0))
  row : RowV w g (iv ms)
  ok : OkM ms
theorem Km.lt {w : World} {B g : Nat} {ms : List Int} (h : Km w B g ms) : B < w.heap.size ∧ g < w.heap.size := ⟨lt_of_block h.cell, h.row.lt⟩
theorem Km.ne {w : World} {B g : Nat} {ms : List Int} (h : Km w B g ms) : B ≠ g := by
  rintro rfl
  have h1 := h.cell
  have h2 : w.heap[B]? = some (.cells (iv ms).toArray 2 (0, 0)) := h.row
  rw [h1] at h2
  simp at h2
theorem Km.fr {w w' : World} {S : Nat → Prop} {B g : Nat} {ms : List Int} (h : Km w B g ms) (hf : Fr w w' S) (hB : ¬ S B) (hg : ¬ S g) : Km w' B g ms :=
  ⟨by rw [hf.block B h.lt.1 hB]; exact h.cell, h.row.fr hf hg, h.ok⟩
theorem Km.at {w : World} {B g : Nat} {ms : List Int} (h : Km w B g ms) : w.cell? ⟨B, 0, none⟩ = some (.slice (some ⟨g, 0, none⟩) ms.length ms.length) := by
  simp [World.cell?, h.cell]
theorem Km.get {w : World} {B g : Nat} {ms : List Int} (h : Km w B g ms) {i : Nat} (hi : i < ms.length) : w.cell? ⟨g, i, none⟩ = some (.int .i64 (ms.getD i 0)) := by
  rw [h.row.cell, iv_get _ _ hi]
theorem Km.set {w : World} {B g : Nat} {ms : List Int} (h : Km w B g ms) {s : Nat} {x : Int} (hok : OkM (ms.set s x)) : Km (w.setCell ⟨g, s, none⟩ (.int .i64 x)) B g (ms.set s x) := by
  refine ⟨?_, ?_, hok⟩
  · rw [Below.heap_setCell _ _ _ _ (by simpa using h.ne), List.length_set]
    exact h.cell
  · have := h.row.set s (.int .i64 x)
    have e : (iv ms).set s (.int .i64 x) = iv (ms.set s x) := by unfold iv; rw [List.map_set]
    rwa [e] at this

/-- Is there such a source? -/
def hasB (n : Nat) (s : Int) : Bool := decide (0 ≤ s ∧ s < n)
theorem has_any {w : World} {B g : Nat} {ms : List Int} (h : Km w B g ms) (s : Int) : Calls Try.prog 70 #[.pointer (some ⟨B, 0, none⟩), .int .i64 s] w fun e w' => e = .returned (.bool (hasB ms.length s)) ∧ Fr w w' (fun _ => False) := by
  have hc := h.at
  have hlt := h.lt.1
  have HK := hid h
  clear h
  by_cases h0 : 0 ≤ s
  · by_cases h1 : s < (ms.length : Int)
    · have e : hasB ms.length s = true := by unfold hasB; exact decide_eq_true ⟨h0, h1⟩
      rw [e]
      go_enter Try.func70, Try.ntmps70
      go_wp2
      go_ret
      exact ⟨rfl, Fr.refl _ _⟩
    · have e : hasB ms.length s = false := by unfold hasB; exact decide_eq_false (fun h => h1 h.2)
      rw [e]
      go_enter Try.func70, Try.ntmps70
      go_wp2
      go_ret
      exact ⟨rfl, Fr.refl _ _⟩
  · have e : hasB ms.length s = false := by unfold hasB; exact decide_eq_false (fun h => h0 h.1)
    rw [e]
    go_enter Try.func70, Try.ntmps70
    go_wp2
    go_ret
    exact ⟨rfl, Fr.refl _ _⟩
/-- Is it a time? -/
def isT (t : Int) : Bool := decide (-1152921504606846976 ≤ t ∧ t ≤ 1152921504606846976)
theorem isTime_any (t : Int) (w : World) : Calls Try.prog 71 #[.int .i64 t] w fun e w' => e = .returned (.bool (isT t)) ∧ Fr w w' (fun _ => False) := by
  by_cases h0 : -1152921504606846976 ≤ t
  · by_cases h1 : t ≤ 1152921504606846976
    · have e : isT t = true := by unfold isT; exact decide_eq_true ⟨h0, h1⟩
      rw [e]
      go_enter Try.func71, Try.ntmps71
      go_wp2
      go_ret
      exact ⟨rfl, Fr.refl _ _⟩
    · have e : isT t = false := by unfold isT; exact decide_eq_false (fun h => h1 h.2)
      rw [e]
      go_enter Try.func71, Try.ntmps71
      go_wp2
      go_ret
      exact ⟨rfl, Fr.refl _ _⟩
  · have e : isT t = false := by unfold isT; exact decide_eq_false (fun h => h0 h.1)
    rw [e]
    go_enter Try.func71, Try.ntmps71
    go_wp2
    go_ret
    exact ⟨rfl, Fr.refl _ _⟩

/-- A source's mark. -/
def ofM (ms : List Int) (s : Int) : Int := if hasB ms.length s then ms.getD s.toNat 0 else noM
theorem of_any {w : World} {B g : Nat} {ms : List Int} (h : Km w B g ms) (s : Int) : Calls Try.prog 72 #[.pointer (some ⟨B, 0, none⟩), .int .i64 s] w fun e w' => e = .returned (.int .i64 (ofM ms s)) ∧ Fr w w' (fun _ => False) := by
  have HH := hid (has_any h s)
  have HK := hid h
  clear h
  by_cases hb : hasB ms.length s = true
  · have e : ofM ms s = ms.getD s.toNat 0 := by unfold ofM; rw [if_pos hb]
    rw [e]
    rw [hb] at HH
    have hs : 0 ≤ s ∧ s < (ms.length : Int) := by unfold hasB at hb; exact of_decide_eq_true hb
    clear hb e
    obtain ⟨k, rfl⟩ : ∃ k : Nat, s = (k : Int) := ⟨s.toNat, by omega⟩
    have hk : k < ms.length := by omega
    have hk2 : (k : Int) < (ms.length : Int) := by omega
    clear hs
    rw [Int.toNat_natCast]
    go_enter Try.func72, Try.ntmps72
    go_wp2_with fail
    refine HH.out.mono ?_
    rintro e w1 ⟨rfl, hf⟩
    have HF := hid hf
    have hc := (HK.out.fr hf (fun h => h) (fun h => h)).at
    have hr := (HK.out.fr hf (fun h => h) (fun h => h)).get hk
    have hlt := (HK.out.fr hf (fun h => h) (fun h => h)).lt.1
    have hlt2 := (HK.out.fr hf (fun h => h) (fun h => h)).lt.2
    clear hf
    obtain ⟨x, hx⟩ : ∃ x, x = ms.getD k 0 := ⟨_, rfl⟩
    rw [← hx] at hr
    have HX := hid hx
    clear hx
    go_wp2_with fail
    go_ret
    exact ⟨by rw [← HX.out]; rfl, HF.out⟩
  · have hb' : hasB ms.length s = false := by simpa using hb
    have e : ofM ms s = -4611686018427387904 := by unfold ofM; rw [if_neg hb]; rfl
    rw [e]
    rw [hb'] at HH
    clear hb hb' e
    go_enter Try.func72, Try.ntmps72
    go_wp2_with fail
    refine HH.out.mono ?_
    rintro e w1 ⟨rfl, hf⟩
    have HF := hid hf
    clear hf
    go_wp2_with fail
    go_ret
    exact ⟨rfl, HF.out⟩
theorem least_any {w : World} {B g : Nat} {ms : List Int} (h : Km w B g ms) : Calls Try.prog 39 #[.pointer (some ⟨B, 0, none⟩)] w fun e w' => e = .returned (.int .i64 (leastL ms)) ∧ Fr w w' (fun _ => False) := by
  have hz : ofM ms 0 = headM ms := by
    have := h.ok.one
    unfold ofM hasB
    rw [if_pos (decide_eq_true ⟨by omega, by omega⟩)]
    cases ms with
    | nil => simp at this
    | cons y ys => rfl
  have hle : leastL ms = ms.foldl min (headM ms) := rfl
  rw [hle]
  have HO := hid (of_any h 0)
  rw [hz] at HO
  have HK := hid h
  have hms := h.ok.most
  clear h hz
  go_enter Try.func39, Try.ntmps39
  go_wp2_with fail
  refine HO.out.mono ?_
  rintro e w1 ⟨rfl, hf⟩
  have HF := hid hf
  have HK1 := hid (HK.out.fr hf (fun h => h) (fun h => h))
  have hc := HK1.out.at
  have hlt := HK1.out.lt.1
  clear hf
  go_wp2_with fail
  go_loopg [3, 5, 13] ms.length (fun n s3 s5 s13 wx => ∃ i : Nat, s13 = .int .i64 (i : Int) ∧ Hid (i + n = ms.length) ∧ s3 = .int .i64 ((ms.take i).foldl min (headM ms)) ∧ wx = w1)
  case atStart => exact ⟨0, rfl, by show _ = _; omega, rfl, rfl⟩
  case round =>
    obtain ⟨i, rfl, HG, rfl, rfl⟩ := hrel
    cases gk with
    | zero =>
      have e : i = ms.length := by have := HG.out; omega
      have t1 : ¬ (i : Int) < (ms.length : Int) := by omega
      have e2 : (ms.take i).foldl min (headM ms) = ms.foldl min (headM ms) := by rw [e, List.take_length]
      rw [e2]
      obtain ⟨L, hL⟩ : ∃ L, L = ms.foldl min (headM ms) := ⟨_, rfl⟩
      rw [← hL]
      have HL := hid hL
      clear hL
      clear e e2
      go_wp2_with fail
      go_ret
      exact ⟨by rw [← HL.out]; rfl, HF.out⟩
    | succ n =>
      have hi : i < ms.length := by have := HG.out; omega
      have t1 : (i : Int) < (ms.length : Int) := by omega
      have hr := HK1.out.get hi
      have hlt2 := HK1.out.lt.2
      have HT := hid (take_min hi (headM ms))
      generalize (ms.take i).foldl min (headM ms) = a at *
      generalize ms.getD i 0 = b at *
      have HI := hid hi
      clear hi
      rcases Int.le_total a b with hab | hab
      · rw [Int.min_eq_left hab] at HT
        go_wp2_with fail
        all_goals
          go_roundg n
          case measure => omega
          case rel => exact ⟨i + 1, by go_num, by have := HG.out; show _ = _; omega, by rw [HT.out], rfl⟩
      · rw [Int.min_eq_right hab] at HT
        have hab2 : a ≤ b → a = b := fun h => by omega
        go_wp2_with fail
        all_goals
          go_roundg n
          case measure => omega
          case rel => exact ⟨i + 1, by go_num, by have := HG.out; show _ = _; omega, by first | rw [HT.out] | (rw [HT.out, hab2 (by assumption)]), rfl⟩
end Go.Proofs.Ytbhhpkbiflolfaa
