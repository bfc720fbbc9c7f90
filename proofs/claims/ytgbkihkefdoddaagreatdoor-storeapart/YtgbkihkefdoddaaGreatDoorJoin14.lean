/- strings.ReplaceAll of a nought by a nought and a one: the shelf's contract, laid here. -/
import Derived.Shelf.Strings.SplitShaped
import Derived.Shelf.Lay
import Derived.Ground.NamesProg
import Derived.Test.YtgbkihkefdoddaaGreatDoorRows
import Derived.Test.YtgbkihkefdoddaaGreatDoorJoin13
namespace Go.Proofs
open Go.Shelf
shelf_lay LaysM.n155 Nm 155 at Tryz as Tryz.lays155
theorem Tryz.extra155 : Builder.Extra Tryz.prog Tryz.lays155_ren where
  sizeBuilder := by kernel_rfl
  liesBuilder := by kernel_rfl
  t5 := Tryz.lays155.t5
  a5 := Tryz.lays155.a5
  z5 := Tryz.lays155.z5
  v5 := Tryz.lays155.v5
  infoByte := by kernel_rfl
  cellsByte := by kernel_rfl
  sizeByte := by kernel_rfl
  neB5 := by decide
end Go.Proofs
namespace Go.Proofs.YtgbkihkefdoddaaGreatDoor.S
open Go.RowKit Go.Shelf

/-- Where bytealg.MaxLen lies, and that it holds a number. -/
def gM : Nat := Tryz.lays155_ren.g 1
def Gl (w : World) : Prop := ∃ m, w.cell? ⟨gM, 0, none⟩ = some (.int .i64 m)
theorem gl_of_shaped {w : World} (h : w.ShapedOpen Tryz.prog) : Gl w := Tryz.lays155.s1_3 w h
theorem Gl.lt {w : World} (h : Gl w) : gM < w.heap.size := by
  obtain ⟨m, hm⟩ := h
  exact World.block_lt_of_cell? w _ hm
theorem Gl.fr {w w' : World} {S : Nat → Prop} (h : Gl w) (hf : Fr w w' S) (hS : ¬ S gM) : Gl w' := by
  have hl := h.lt
  obtain ⟨m, hm⟩ := h
  refine ⟨m, ?_⟩
  have hb := hf.block gM hl hS
  unfold World.cell? at hm ⊢
  rw [show (⟨gM, 0, none⟩ : Addr).block = gM from rfl] at hm ⊢
  rw [hb]
  exact hm

/-- Bytes in which each nought has a one behind it. -/
def esc8 : List UInt8 → List UInt8
  | [] => []
  | x :: l => if x = 0 then 0 :: 1 :: esc8 l else x :: esc8 l
theorem esc8_nums (l : List UInt8) : (esc8 l).map UInt8.toNat = esc (l.map UInt8.toNat) := by
  induction l with
  | nil => rfl
  | cons x l ih =>
    unfold esc8
    simp only [List.map_cons, esc]
    by_cases h : x = 0
    · subst h
      simp [ih]
    · have h2 : ¬ x.toNat = 0 := fun e => h (UInt8.toNat_inj.1 e)
      rw [if_neg h, if_neg h2]
      simp [ih]
theorem esc8_of_no : ∀ (l : List UInt8), (∀ x ∈ l, x ≠ 0) → esc8 l = l
  | [], _ => rfl
  | x :: l, h => by
    unfold esc8
    rw [if_neg (h x (by simp)), esc8_of_no l (fun y hy => h y (List.mem_cons_of_mem _ hy))]
theorem esc8_app : ∀ (a b : List UInt8), esc8 (a ++ b) = esc8 a ++ esc8 b
  | [], b => rfl
  | x :: a, b => by
    simp only [List.cons_append, esc8]
    split <;> simp [esc8_app a b]
theorem rep_k : ∀ (k : Nat) (s : List UInt8), Lib.count s [0] = k → Lib.replaceK [0] [0, 1] k s = esc8 s
  | 0, s, h => by
    unfold Lib.replaceK
    refine (esc8_of_no s fun x hx e => ?_).symm
    subst e
    rcases Int.lt_or_le (Lib.index s [0]) 0 with h1 | h1
    · have h2 : Lib.index s [0] = -1 := by have := Lib.index_ge s [0]; omega
      rw [Lib.index_one] at h2
      obtain ⟨j, hj, e⟩ := List.getElem_of_mem hx
      exact Lib.indexByte_none h2 j (by rw [List.getElem?_eq_getElem hj, e])
    · obtain ⟨i, hi⟩ : ∃ i : Nat, Lib.index s [0] = i := ⟨(Lib.index s [0]).toNat, by omega⟩
      have := Lib.count_hit (by simp) hi
      omega
  | k + 1, s, h => by
    obtain ⟨i, hi⟩ := Lib.index_of_count (show 0 < Lib.count s [0] by omega)
    have hc := Lib.count_hit (by simp) hi
    rw [Lib.replaceK_hit _ _ _ _ i hi, rep_k k _ (by simp only [List.length_cons, List.length_nil] at hc ⊢; omega)]
    rw [Lib.index_one] at hi
    obtain ⟨h1, h2⟩ := Lib.indexByte_some hi
    have hil : i < s.length := by
      rcases Nat.lt_or_ge i s.length with h3 | h3
      · exact h3
      · rw [List.getElem?_eq_none h3] at h1; cases h1
    have e : s = s.take i ++ (0 :: s.drop (i + 1)) := by
      conv => lhs; rw [← List.take_append_drop i s]
      congr 1
      rw [List.drop_eq_getElem_cons hil]
      congr 1
      rw [List.getElem?_eq_getElem hil] at h1
      exact Option.some.inj h1
    conv => rhs; rw [e]
    rw [esc8_app, esc8_of_no (s.take i) (fun x hx e => by
      obtain ⟨j, hj, e2⟩ := List.getElem_of_mem hx
      rw [List.length_take] at hj
      subst e
      refine h2 j (by omega) ?_
      rw [List.getElem_take] at e2
      rw [List.getElem?_eq_getElem (by omega), e2])]
    simp [esc8]
theorem rep_all (s : List UInt8) : Lib.replaceAll s [0] [0, 1] = esc8 s := by
  unfold Lib.replaceAll Lib.replace Lib.replaceNum
  rw [if_neg (by decide), if_pos (Or.inl (by decide))]
  exact rep_k _ s rfl

theorem replace_any (k : ByteArray) (w : World) (hg : Gl w) (hk : k.size ≤ 32) :
    Calls Tryz.prog 137 #[.string k, .string ⟨#[0]⟩, .string ⟨#[0, 1]⟩] w fun e w' => e = .returned (.string ⟨(esc8 k.data.toList).toArray⟩) ∧ Fr w w' (fun _ => False) := by
  obtain ⟨m, hm⟩ := hg
  have hc : Lib.countB k ⟨#[0]⟩ ≤ k.size + 1 := Lib.count_le _ _
  have h2 : Lib.countB k ⟨#[0]⟩ * (⟨#[0, 1]⟩ : ByteArray).size ≤ 66 := by
    rw [show (⟨#[0, 1]⟩ : ByteArray).size = 2 from rfl]
    omega
  have c := Any.strings_ReplaceAll { Tryz.lays155 with } Tryz.extra155 k ⟨#[0]⟩ ⟨#[0, 1]⟩ m w (by omega) hm (by decide) (by omega)
  refine Calls.mono c ?_
  rintro e w' ⟨rfl, hb⟩
  refine ⟨?_, Fr.ofBelow hb⟩
  rw [show (⟨#[0]⟩ : ByteArray).data.toList = [0] from rfl, show (⟨#[0, 1]⟩ : ByteArray).data.toList = [0, 1] from rfl, rep_all]
end Go.Proofs.YtgbkihkefdoddaaGreatDoor.S
