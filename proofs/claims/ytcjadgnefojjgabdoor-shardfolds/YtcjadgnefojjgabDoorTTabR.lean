/- table: a table in memory; Len, Slots, Left, Place, find, Get: walks. -/
import Derived.Test.YtcjadgnefojjgabDoorTRow2R
namespace Go.Proofs.YtcjadgnefojjgabDoor.R
open Go.RowKit

/-- A row at a block, or none. -/
def Ro (w : World) (L : List Pl) (v : Value) : Option Nat → Prop
  | none => L = [] ∧ v = .slice none 0 0
  | some g => ∃ cap rest, v = .slice (some ⟨g, 0, none⟩) L.length cap ∧ RowG 113 w g L rest ∧ L ≠ []
theorem Ro.shape {w : World} {L : List Pl} {v : Value} {b : Option Nat} (h : Ro w L v b) : ∃ ao cap, v = .slice ao L.length cap := by
  cases b with
  | none => obtain ⟨rfl, rfl⟩ := h; exact ⟨none, 0, rfl⟩
  | some g => obtain ⟨cap, rest, rfl, _, _⟩ := h; exact ⟨_, cap, rfl⟩
theorem Ro.fr {w w' : World} {S : Nat → Prop} {L : List Pl} {v : Value} {b : Option Nat} (h : Ro w L v b) (hf : Fr w w' S) (hS : ∀ g, b = some g → ¬ S g) : Ro w' L v b := by
  cases b with
  | none => exact h
  | some g => obtain ⟨cap, rest, rfl, hR, hne⟩ := h; exact ⟨cap, rest, rfl, hR.fr hf (hS g rfl), hne⟩
theorem Ro.lt {w : World} {L : List Pl} {v : Value} {g : Nat} (h : Ro w L v (some g)) : g < w.heap.size := by
  obtain ⟨cap, rest, rfl, hR, hne⟩ := h; exact hR.lt

/-- A table at block B, its rows at blocks gr and (perhaps) ge. -/
structure TbAt (w : World) (B gr : Nat) (ge : Option Nat) (T : Tb) : Prop where
  ex : ∃ rv ev, w.heap[B]? = some (.cells #[rv, ev, .int .i64 (T.moved : Int), .int .i64 (T.keys : Int)] 97 (0, 0)) ∧ Ro w T.row rv (some gr) ∧ Ro w T.elder ev ge
  ne : ge ≠ some gr
  inv : Inv0 T
  rok : Vok T.row
  eok : Vok T.elder
  len : T.row.length ≤ 1099511627776
/-- Its blocks. -/
def bl (B gr : Nat) (ge : Option Nat) (b : Nat) : Prop := b = B ∨ b = gr ∨ ge = some b

theorem cells4 {w : World} {N : Nat} {a b c d : Value} {e : TypeId} (h : w.heap[N]? = some (.cells #[a, b, c, d] e (0, 0))) : w.cell? ⟨N, 0, none⟩ = some a ∧ w.cell? ⟨N, 1, none⟩ = some b ∧ w.cell? ⟨N, 2, none⟩ = some c ∧ w.cell? ⟨N, 3, none⟩ = some d := by
  refine ⟨?_, ?_, ?_, ?_⟩ <;> simp [World.cell?, h]
theorem free4 {w : World} {N : Nat} {a b c d : Value} {e : TypeId} (h : w.heap[N]? = some (.cells #[a, b, c, d] e (0, 0))) (o : Nat) : w.frozen? ⟨N, o, none⟩ = false := by
  simp [World.frozen?, h]
theorem set40 {w : World} {N : Nat} {a b c d u : Value} {e : TypeId} (h : w.heap[N]? = some (.cells #[a, b, c, d] e (0, 0))) : (w.setCell ⟨N, 0, none⟩ u).heap[N]? = some (.cells #[u, b, c, d] e (0, 0)) := by rw [heap_setCell_same w N 0 _ _ u h]; rfl
theorem set41 {w : World} {N : Nat} {a b c d u : Value} {e : TypeId} (h : w.heap[N]? = some (.cells #[a, b, c, d] e (0, 0))) : (w.setCell ⟨N, 1, none⟩ u).heap[N]? = some (.cells #[a, u, c, d] e (0, 0)) := by rw [heap_setCell_same w N 1 _ _ u h]; rfl
theorem set42 {w : World} {N : Nat} {a b c d u : Value} {e : TypeId} (h : w.heap[N]? = some (.cells #[a, b, c, d] e (0, 0))) : (w.setCell ⟨N, 2, none⟩ u).heap[N]? = some (.cells #[a, b, u, d] e (0, 0)) := by rw [heap_setCell_same w N 2 _ _ u h]; rfl
theorem set43 {w : World} {N : Nat} {a b c d u : Value} {e : TypeId} (h : w.heap[N]? = some (.cells #[a, b, c, d] e (0, 0))) : (w.setCell ⟨N, 3, none⟩ u).heap[N]? = some (.cells #[a, b, c, u] e (0, 0)) := by rw [heap_setCell_same w N 3 _ _ u h]; rfl
theorem set_fr (w : World) (p : Addr) (u : Value) : Fr w (w.setCell p u) (fun b => b = p.block) := Fr.setCell (Fr.refl w (fun b => b = p.block)) (fun _ => rfl) u
theorem TbAt.lt {w : World} {B gr : Nat} {ge : Option Nat} {T : Tb} (h : TbAt w B gr ge T) : B < w.heap.size := by
  obtain ⟨rv, ev, hc, _⟩ := h.ex; exact lt_of_block hc
theorem TbAt.neB {w : World} {B gr : Nat} {ge : Option Nat} {T : Tb} (h : TbAt w B gr ge T) : gr ≠ B ∧ ge ≠ some B := by
  obtain ⟨rv, ev, hc, hr, he⟩ := h.ex
  have key : ∀ {g : Nat} {L : List Pl} {v : Value}, Ro w L v (some g) → g ≠ B := by
    rintro g L v ⟨cap, rest, _, hR, _⟩ rfl
    unfold RowG at hR
    rw [hc] at hR
    simp at hR
  exact ⟨key hr, fun e => by subst e; exact key he rfl⟩
theorem TbAt.fr {w w' : World} {S : Nat → Prop} {B gr : Nat} {ge : Option Nat} {T : Tb} (h : TbAt w B gr ge T) (hf : Fr w w' S) (hS : ∀ b, bl B gr ge b → ¬ S b) : TbAt w' B gr ge T := by
  obtain ⟨rv, ev, hc, hr, he⟩ := h.ex
  exact ⟨⟨rv, ev, by rw [hf.block B h.lt (hS B (Or.inl rfl))]; exact hc, hr.fr hf (fun g e => hS g (Or.inr (Or.inl (by cases e; rfl)))), he.fr hf (fun g e => hS g (Or.inr (Or.inr e)))⟩, h.ne, h.inv, h.rok, h.eok, h.len⟩
theorem TbAt.step {w w' : World} {B gr : Nat} {ge : Option Nat} {T : Tb} (h : TbAt w B gr ge T) (hf : Fr w w' (fun _ => False)) : TbAt w' B gr ge T := h.fr hf (fun _ _ h => h)
theorem TbAt.elen {w : World} {B gr : Nat} {ge : Option Nat} {T : Tb} (h : TbAt w B gr ge T) : T.elder.length ≤ 1099511627776 := by
  have := h.len
  rcases Classical.em (T.elder = []) with e | e
  · rw [e]; exact Nat.zero_le _
  · have := h.inv.half e; omega

theorem left_any {B gr : Nat} {ge : Option Nat} {T : Tb} (w : World) (h : TbAt w B gr ge T) :
    Calls Tryd.prog 57 #[.pointer (some ⟨B, 0, none⟩)] w fun e w' => e = .returned (.int .i64 (T.left : Int)) ∧ Fr w w' (fun _ => False) := by
  have hlt := h.lt
  have hmv := h.inv.mv
  have hel := h.elen
  have HL := hid (show (T.elder.length : Int) - (T.moved : Int) = (T.left : Int) by unfold Tb.left; omega)
  obtain ⟨rv, ev, hc, hr, he⟩ := h.ex
  obtain ⟨c0, c1, c2, c3⟩ := cells4 hc
  obtain ⟨ao, cap, rfl⟩ := he.shape
  clear h hc hr he
  go_enter Tryd.func57, Tryd.ntmps57
  go_wp2_with fail
  go_quiet (fail)
  go_wp2_with fail
  go_ret
  exact ⟨congrArg (fun x => Ending.returned (.int .i64 x)) HL.out, by repeat (first | exact Fr.refl _ _ | apply Fr.drewN | apply Fr.drew)⟩

theorem lookR_any {L : List Pl} {v : Value} {b : Option Nat} (k : ByteArray) (w : World) (h : Ro w L v b) (hE : L ≠ [] → Emp L) (hk : k.size ≤ 9223372036854775807) (hb : L.length ≤ 1099511627776) :
    Calls Tryd.prog 59 #[v, .string k] w fun e w' => e = .returned (.tuple #[.int .i64 ((lookL L k).1 : Int), .bool (lookL L k).2]) ∧ w' = w := by
  cases b with
  | none =>
    obtain ⟨rfl, rfl⟩ := h
    exact look_nil k w
  | some g =>
    obtain ⟨cap, rest, rfl, hR, hne⟩ := h
    exact look_any k w hR (hE hne) hk hb

set_option maxHeartbeats 1000000 in
theorem place_any {B gr : Nat} {ge : Option Nat} {T : Tb} (k : ByteArray) (w : World) (h : TbAt w B gr ge T) (hk : k.size ≤ 9223372036854775807) :
    Calls Tryd.prog 55 #[.pointer (some ⟨B, 0, none⟩), .string k] w fun e w' => e = .returned (.tuple #[.int .i64 ((placeT T k).1 : Int), .bool (placeT T k).2.1, .bool (placeT T k).2.2]) ∧ w' = w := by
  have hlt := h.lt
  obtain ⟨rv, ev, hc, hr, he⟩ := h.ex
  obtain ⟨c0, c1, c2, c3⟩ := cells4 hc
  have HR := hid (lookR_any k w hr (fun _ => h.inv.row_emp) hk h.len)
  have HE := hid (lookR_any k w he h.inv.emp hk h.elen)
  clear h hc hr he
  cases hb1 : (lookL T.row k).2 with
  | true =>
    have HP : Hid (placeT T k = ((lookL T.row k).1, false, true)) := by
      unfold Hid placeT
      rw [if_pos hb1]
    rw [hb1] at HR
    rw [HP.out]
    clear hb1
    go_enter Tryd.func55, Tryd.ntmps55
    go_wp2_with fail
    refine HR.out.mono ?_
    rintro e w1 ⟨rfl, hw1⟩
    have hw1 := hw1.symm
    subst hw1
    go_wp2_with fail
    go_ret3
    exact ⟨rfl, rfl⟩
  | false =>
    rw [hb1] at HR
    cases hb2 : (lookL T.elder k).2 with
    | true =>
      have HP : Hid (placeT T k = ((lookL T.elder k).1, true, true)) := by
        unfold Hid placeT
        rw [if_neg (by rw [hb1]; simp), if_pos hb2]
      rw [hb2] at HE
      rw [HP.out]
      clear hb1 hb2
      go_enter Tryd.func55, Tryd.ntmps55
      go_wp2_with fail
      refine HR.out.mono ?_
      rintro e w1 ⟨rfl, hw1⟩
      have hw1 := hw1.symm
      subst hw1
      go_wp2_with fail
      refine HE.out.mono ?_
      rintro e w1 ⟨rfl, hw1⟩
      have hw1 := hw1.symm
      subst hw1
      go_wp2_with fail
      go_ret3
      exact ⟨rfl, rfl⟩
    | false =>
      have HP : Hid (placeT T k = (0, false, false)) := by
        unfold Hid placeT
        rw [if_neg (by rw [hb1]; simp), if_neg (by rw [hb2]; simp)]
      rw [hb2] at HE
      rw [HP.out]
      clear hb1 hb2
      go_enter Tryd.func55, Tryd.ntmps55
      go_wp2_with fail
      refine HR.out.mono ?_
      rintro e w1 ⟨rfl, hw1⟩
      have hw1 := hw1.symm
      subst hw1
      go_wp2_with fail
      refine HE.out.mono ?_
      rintro e w1 ⟨rfl, hw1⟩
      have hw1 := hw1.symm
      subst hw1
      go_wp2_with fail
      go_ret3
      exact ⟨rfl, rfl⟩

/-- Where find points. -/
def spot (T : Tb) (gr : Nat) (ge : Option Nat) (k : ByteArray) : Value :=
  if (placeT T k).2.2 then (if (placeT T k).2.1 then .pointer (some ⟨ge.getD 0, (placeT T k).1 * 6, none⟩) else .pointer (some ⟨gr, (placeT T k).1 * 6, none⟩)) else .pointer none

set_option maxHeartbeats 1000000 in
theorem find_any {B gr : Nat} {ge : Option Nat} {T : Tb} (k : ByteArray) (w : World) (h : TbAt w B gr ge T) (hk : k.size ≤ 9223372036854775807) :
    Calls Tryd.prog 45 #[.pointer (some ⟨B, 0, none⟩), .string k] w fun e w' => e = .returned (spot T gr ge k) ∧ w' = w := by
  have hlt := h.lt
  have HPl := hid (place_any k w h hk)
  have HT := hid h
  obtain ⟨rv, ev, hc, hr, he⟩ := h.ex
  obtain ⟨c0, c1, c2, c3⟩ := cells4 hc
  obtain ⟨capr, restr, rfl, hRr, _⟩ := hr
  unfold spot
  rcases place_cases h.inv k with ⟨i, hf, hp⟩ | ⟨i, hf, hp⟩ | ⟨hn, hp⟩
  · rw [hp] at HPl ⊢
    dsimp only at HPl
    have hi := hf.1
    have t0 : (0 : Int) ≤ (i : Int) := by omega
    have t1 : (i : Int) < (T.row.length : Int) := by omega
    have hgl := hRr.lt
    clear h hc he hRr hf hi hp
    go_enter Tryd.func45, Tryd.ntmps45
    go_wp2_with fail
    refine HPl.out.mono ?_
    rintro e w1 ⟨rfl, hw1⟩
    have hw1 := hw1.symm
    subst hw1
    go_wp2_with fail
    go_ret
    exact ⟨rfl, rfl⟩
  · rw [hp] at HPl ⊢
    dsimp only at HPl
    have hi := hf.1
    have hne : T.elder ≠ [] := by intro e; rw [e] at hi; simp at hi
    cases ge with
    | none => exact absurd he.1 hne
    | some g =>
      obtain ⟨cape, reste, rfl, hRe, _⟩ := he
      have t0 : (0 : Int) ≤ (i : Int) := by omega
      have t1 : (i : Int) < (T.elder.length : Int) := by omega
      have hgl := hRe.lt
      clear h hc hRr hRe hf hi hp hne
      go_enter Tryd.func45, Tryd.ntmps45
      go_wp2_with fail
      refine HPl.out.mono ?_
      rintro e w1 ⟨rfl, hw1⟩
      have hw1 := hw1.symm
      subst hw1
      go_wp2_with fail
      go_ret
      exact ⟨rfl, rfl⟩
  · rw [hp] at HPl ⊢
    dsimp only at HPl
    clear h hc he hRr hn hp
    go_enter Tryd.func45, Tryd.ntmps45
    go_wp2_with fail
    refine HPl.out.mono ?_
    rintro e w1 ⟨rfl, hw1⟩
    have hw1 := hw1.symm
    subst hw1
    go_wp2_with fail
    go_ret
    exact ⟨rfl, rfl⟩
end Go.Proofs.YtcjadgnefojjgabDoor.R
