/- What is written at an epoch changes nothing of lower ones (P508). Nothing of the program is used here. -/
import Derived.Test.YtcmniejffpoinaaCPure
namespace Go.Proofs.Ytcmniejffpoinaa

theorem atR_snoc {y : Vn} {h : Int} (hy : h < y.e) : ∀ (D : List Vn) (d : Vn), atR d (D ++ [y]) h = atR d D h
  | [], d => by
    simp only [List.nil_append, atR]
    rw [if_neg (by omega)]
  | x :: D, d => by
    simp only [List.cons_append, atR]
    rw [atR_snoc hy D x]
theorem lay_old {L : List Vn} {x : Vn} (hx : x.ok) {h : Int} (hh : h < x.e) (hle : (nw L).e ≤ x.e) : atL (layL L x) h = atL L h := by
  rw [atL_eq, atL_eq]
  unfold layL
  by_cases he : x.e = (nw L).e
  · rw [if_pos he, atR_snoc hh]
    have hL : L ≠ [] := by
      intro e
      subst e
      have := hx.1
      simp [nw, z0] at he
      omega
    conv => rhs; rw [snoc_of hL]
    rw [atR_snoc (by omega)]
  · rw [if_neg he, atR_snoc hh]
/-- The chain behind the write, its error, how many more. -/
def oldL (L : List Vn) (E v : Int) (kill : Bool) : List Vn := if kill then killL L E else putL L E v
def oldE (L : List Vn) (E : Int) (kill : Bool) : Int := if kill then gone L E else wrong L E
def oldN (L : List Vn) (E : Int) (kill : Bool) : Int := if kill then killN L E else putN L E
def oldX (E v : Int) (kill : Bool) : Vn := if kill then ⟨E, false, 0⟩ else ⟨E, true, v⟩
theorem old_arg {L : List Vn} {E : Int} (kill : Bool) (h : E < 1 ∨ 1099511627776 < E) : oldE L E kill = 1 := by
  have hw : wrong L E = 1 := by unfold wrong; rw [if_pos h]
  cases kill
  · exact hw
  · show gone L E = 1
    unfold gone
    rw [hw]
    rfl
theorem old_gone {L : List Vn} {E v : Int} (h1 : 1 ≤ E) (h2 : E ≤ 1099511627776) (hle : (nw L).e ≤ E) (ht : (nw L).t = false) : oldE L E true = 44 ∧ oldL L E v true = L := by
  have hw : wrong L E = 0 := by unfold wrong; rw [if_neg (by omega), if_neg (by omega)]
  have hg : gone L E = 44 := by unfold gone; rw [if_pos hw, ht]; rfl
  refine ⟨hg, ?_⟩
  show killL L E = L
  unfold killL
  rw [if_neg (by rw [hg]; decide)]
theorem old_ok {L : List Vn} {E v : Int} {kill : Bool} (hg : Good L) (hv : fits v) (h1 : 1 ≤ E) (h2 : E ≤ 1099511627776) (hle : (nw L).e ≤ E) (ht : kill = true → (nw L).t = true) :
    oldE L E kill = 0 ∧ oldN L E kill = (if E = (nw L).e then 0 else 1) ∧ ((oldL L E v kill).length : Int) = (L.length : Int) + oldN L E kill ∧ nw (oldL L E v kill) = oldX E v kill ∧ ∀ h, h < E → atL (oldL L E v kill) h = atL L h := by
  have hw : wrong L E = 0 := by unfold wrong; rw [if_neg (by omega), if_neg (by omega)]
  have hxo : (oldX E v kill).ok := by
    unfold oldX Vn.ok
    cases kill
    · exact ⟨h1, h2, hv, fun h => by cases h⟩
    · exact ⟨h1, h2, by unfold fits; simp, fun _ => rfl⟩
  have hxe : (oldX E v kill).e = E := by unfold oldX; cases kill <;> rfl
  have hge : kill = true → gone L E = 0 := fun h => by unfold gone; rw [if_pos hw, ht h]; rfl
  have hL : oldL L E v kill = layL L (oldX E v kill) := by
    cases kill
    · show putL L E v = _
      unfold putL
      rw [if_pos hw]
      rfl
    · show killL L E = _
      unfold killL
      rw [if_pos (hge rfl)]
      rfl
  have hN : oldN L E kill = layN L (oldX E v kill) := by
    unfold layN
    rw [hxe]
    cases kill
    · show putN L E = _
      unfold putN
      rw [if_pos hw]
    · show killN L E = _
      unfold killN
      rw [if_pos (hge rfl)]
  refine ⟨?_, ?_, ?_, ?_, fun h hh => ?_⟩
  · cases kill
    · exact hw
    · exact hge rfl
  · rw [hN]
    unfold layN
    rw [hxe]
  · rw [hL, hN]
    exact layL_len hg _ hxo
  · rw [hL]
    exact layL_nw _ _
  · rw [hL]
    exact lay_old hxo (by rw [hxe]; exact hh) (by rw [hxe]; exact hle)
/-- The epochs that are asked. -/
def askL (L : List Vn) (E : Int) : List Int := (L.map (·.e)).map (· - 1) ++ [E - 1, 0, -5]
theorem ask_lt {L : List Vn} (hg : Good L) {E : Int} (h1 : 1 ≤ E) (hle : (nw L).e ≤ E) : ∀ h ∈ askL L E, h < E := by
  intro h hh
  unfold askL at hh
  rw [List.mem_append] at hh
  rcases hh with hh | hh
  · simp only [List.mem_map] at hh
    obtain ⟨y, ⟨x, hx, rfl⟩, rfl⟩ := hh
    have := hg.last hx
    omega
  · simp only [List.mem_cons, List.not_mem_nil, or_false] at hh
    rcases hh with rfl | rfl | rfl <;> omega
theorem ask_fits {L : List Vn} (hg : Good L) {E : Int} (h0 : 0 ≤ E) (h1 : E ≤ 2000000000000) : ∀ h ∈ askL L E, fits h := by
  intro h hh
  unfold askL at hh
  rw [List.mem_append] at hh
  unfold fits
  rcases hh with hh | hh
  · simp only [List.mem_map] at hh
    obtain ⟨y, ⟨x, hx, rfl⟩, rfl⟩ := hh
    have := hg.1 x hx
    have h2 := this.1
    have h3 := this.2.1
    omega
  · simp only [List.mem_cons, List.not_mem_nil, or_false] at hh
    rcases hh with rfl | rfl | rfl <;> omega
end Go.Proofs.Ytcmniejffpoinaa
