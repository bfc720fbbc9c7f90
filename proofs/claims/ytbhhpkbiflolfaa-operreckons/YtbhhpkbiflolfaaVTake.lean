/- oper: Take: the walk. -/
import Derived.Test.YtbhhpkbiflolfaaVWrote
namespace Go.Proofs.Ytbhhpkbiflolfaa.V
open Go.RowKit Go.Maps
open M (Cl cmpC vC)

/-- Block g holds these cells, and something behind them. -/
def RowK (w : World) (g : Nat) (L : List Cl) (rest : List Value) : Prop := w.heap[g]? = some (.cells (kv L ++ rest).toArray 64 (0, 0))
theorem RowK.lt {w : World} {g : Nat} {L : List Cl} {rest : List Value} (h : RowK w g L rest) : g < w.heap.size := lt_of_block h
theorem RowK.fr {w w' : World} {S : Nat → Prop} {g : Nat} {L : List Cl} {rest : List Value} (h : RowK w g L rest) (hf : Fr w w' S) (hS : ¬ S g) : RowK w' g L rest := by
  unfold RowK
  rw [hf.block g h.lt hS]
  exact h
theorem RowK.free {w : World} {g : Nat} {L : List Cl} {rest : List Value} (h : RowK w g L rest) (o : Nat) : w.frozen? ⟨g, o, none⟩ = false := by
  unfold RowK at h
  simp [World.frozen?, h]
theorem RowK.get {w : World} {g : Nat} {L : List Cl} {rest : List Value} (h : RowK w g L rest) {i : Nat} (hi : i < L.length) : w.cell? ⟨g, i * 3, none⟩ = some (.int .i64 (L[i]?.getD default).v) ∧ w.cell? ⟨g, i * 3 + 1, none⟩ = some (.string (L[i]?.getD default).k) ∧ w.cell? ⟨g, i * 3 + 2, none⟩ = some (.int .i64 (L[i]?.getD default).s) := by
  obtain ⟨h1, h2, h3⟩ := kv_get hi rest
  refine ⟨?_, ?_, ?_⟩
  · rw [cell_of_row w g _ _ _ (0, 0) h]; simpa using h1
  · rw [cell_of_row w g _ _ _ (0, 0) h]; simpa using h2
  · rw [cell_of_row w g _ _ _ (0, 0) h]; simpa using h3
theorem RowK.set1 {w : World} {g : Nat} {L : List Cl} {rest : List Value} (h : RowK w g L rest) {i : Nat} (hi : i < L.length) (k : ByteArray) : RowK (w.setCell ⟨g, i * 3 + 1, none⟩ (.string k)) g (L.set i ⟨(L[i]?.getD default).v, k, (L[i]?.getD default).s⟩) rest := by
  unfold RowK at h ⊢
  rw [heap_setCell_same _ _ _ _ _ _ h]
  have hl : (kv (L.take i)).length = i * 3 := by rw [kv_length, List.length_take]; omega
  have e : L.set i ⟨(L[i]?.getD default).v, k, (L[i]?.getD default).s⟩ = L.take i ++ (⟨(L[i]?.getD default).v, k, (L[i]?.getD default).s⟩ : Cl) :: L.drop (i + 1) := by rw [List.set_eq_take_append_cons_drop, if_pos hi]
  have e2 : (kv L ++ rest).set (i * 3 + 1) (.string k) = kv (L.set i ⟨(L[i]?.getD default).v, k, (L[i]?.getD default).s⟩) ++ rest := by
    rw [e, kv_append, kv_cons, kv_split hi, List.append_assoc, List.set_append_right _ _ (by omega), hl, show i * 3 + 1 - i * 3 = 1 by omega]
    simp
  rw [← e2]
  simp
theorem RowK.set {w : World} {g : Nat} {L : List Cl} {rest : List Value} (h : RowK w g L rest) {i : Nat} (hi : i < L.length) (c : Cl) : RowK (((w.setCell ⟨g, i * 3, none⟩ (.int .i64 c.v)).setCell ⟨g, i * 3 + 1, none⟩ (.string c.k)).setCell ⟨g, i * 3 + 2, none⟩ (.int .i64 c.s)) g (L.set i c) rest := by
  unfold RowK at h ⊢
  rw [heap_setCell_same _ _ _ _ _ _ (heap_setCell_same _ _ _ _ _ _ (heap_setCell_same _ _ _ _ _ _ h)), ← kv_set hi c rest]
  simp
theorem cv_kv (L : List Ce) : cv L = kv (keyed ⟨#[]⟩ L) := by
  unfold cv kv keyed
  rw [List.flatMap_map]
theorem keyed_len (k : ByteArray) (L : List Ce) : (keyed k L).length = L.length := by simp [keyed]
/-- The first i bear the key. -/
def mix (k : ByteArray) (L : List Ce) (i : Nat) : List Cl := keyed k (L.take i) ++ keyed ⟨#[]⟩ (L.drop i)
theorem mix_len (k : ByteArray) (L : List Ce) (i : Nat) : (mix k L i).length = L.length := by
  unfold mix
  rw [List.length_append, keyed_len, keyed_len, List.length_take, List.length_drop]
  omega
theorem mix_zero (k : ByteArray) (L : List Ce) : mix k L 0 = keyed ⟨#[]⟩ L := by simp [mix, keyed]
theorem mix_all (k : ByteArray) (L : List Ce) : mix k L L.length = keyed k L := by simp [mix, keyed]
theorem mix_step (k : ByteArray) {L : List Ce} {i : Nat} (hi : i < L.length) : (mix k L i).set i ⟨((mix k L i)[i]?.getD default).v, k, ((mix k L i)[i]?.getD default).s⟩ = mix k L (i + 1) := by
  have hl : (keyed k (L.take i)).length = i := by rw [keyed_len, List.length_take]; omega
  have e1 : L.drop i = L[i] :: L.drop (i + 1) := (List.getElem_cons_drop (h := hi)).symm
  have e2 : L.take (i + 1) = L.take i ++ [L[i]] := by rw [List.take_add_one]; simp [hi]
  have e3 : mix k L i = keyed k (L.take i) ++ (⟨(L[i].v : Int), ⟨#[]⟩, L[i].s⟩ : Cl) :: keyed ⟨#[]⟩ (L.drop (i + 1)) := by
    unfold mix; rw [e1]; rfl
  have e4 : mix k L (i + 1) = keyed k (L.take i) ++ (⟨(L[i].v : Int), k, L[i].s⟩ : Cl) :: keyed ⟨#[]⟩ (L.drop (i + 1)) := by
    unfold mix; rw [e2]; unfold keyed; rw [List.map_append, List.append_assoc]; rfl
  rw [e3, e4, List.getElem?_append_right (by omega), hl, Nat.sub_self, List.set_append_right _ _ (by omega), hl, Nat.sub_self]
  simp

/-- Cells in memory of one's own, with no room behind them. -/
def Ko (w w' : World) (u : Value) (L : List Cl) : Prop := (u = .slice none 0 0 ∧ L = []) ∨ ∃ g rest, u = .slice (some ⟨g, 0, none⟩) L.length L.length ∧ w.heap.size ≤ g ∧ RowK w' g L rest
theorem Ko.shape {w w' : World} {u : Value} {L : List Cl} (h : Ko w w' u L) : ∃ ao, u = .slice ao L.length L.length := by
  rcases h with ⟨rfl, rfl⟩ | ⟨g, rest, rfl, _⟩
  · exact ⟨none, rfl⟩
  · exact ⟨_, rfl⟩
theorem Ko.step {w w' w'' : World} {u : Value} {L : List Cl} (h : Ko w w' u L) (hf : Fr w' w'' (fun _ => False)) : Ko w w'' u L := by
  rcases h with h | ⟨g, rest, h1, h2, h3⟩
  · exact Or.inl h
  · exact Or.inr ⟨g, rest, h1, h2, h3.fr hf (fun h => h)⟩
theorem Ko.ks {w w' : World} {u : Value} {L : List Cl} (h : Ko w w' u L) (hl : L.length ≤ 9223372036854775807) : Ks w' u L := by
  rcases h with ⟨rfl, rfl⟩ | ⟨g, rest, rfl, h2, h3⟩
  · exact ⟨none, 0, rfl, by simp, fun h => absurd rfl h⟩
  · exact ⟨_, _, rfl, hl, fun _ => ⟨g, 0, rfl, fun i hi => by simpa using h3.get hi⟩⟩
/-- What Take tells. -/
def takeL (vs : List Vw) (m : Int) (k : ByteArray) (t : Int) : List Cl := if keyB k then keyed k (opnL vs m t) else []
def takeB (vs : List Vw) (m : Int) (k : ByteArray) (t : Int) : Bool := if keyB k then opnB vs m t else false
def takeE (vs : List Vw) (k : ByteArray) (t : Int) : Int := if keyB k then chkN vs t else 21
theorem opnL_small {vs : List Vw} {m t : Int} (hok : okVs vs = true) (h4 : vs.length ≤ 4) : (opnL vs m t).length ≤ 256 := by
  unfold opnL
  split
  · exact Nat.le_trans (List.length_filter_le _ _) (winL_len hok h4 t)
  · simp
theorem takeL_small {vs : List Vw} {m t : Int} {k : ByteArray} (hok : okVs vs = true) (h4 : vs.length ≤ 4) : (takeL vs m k t).length ≤ 256 := by
  unfold takeL
  split
  · rw [keyed_len]; exact opnL_small hok h4
  · simp

set_option maxHeartbeats 2000000 in
set_option maxRecDepth 100000 in
theorem take_any {w : World} {x : Ox} {vs : List Vw} {ms : List Int} {L : List Cl} (h : Op w x vs ms L) (k : ByteArray) (t : Int) :
    Calls Try.prog 27 #[.pointer (some ⟨x.B, 0, none⟩), .string k, .int .i64 t] w fun e w' => ∃ u, e = .returned (.tuple #[u, .bool (takeB vs (leastL ms) k t), .int .i64 (takeE vs k t)]) ∧ Ko w w' u (takeL vs (leastL ms) k t) ∧ Fr w w' (fun _ => False) := by
  have HK := hid (fun W : World => isKey_any k W)
  have HO := hid h
  have HOP := hid (fun (W : World) (hW : Fr w W (fun _ => False)) => mopen_any (h.step hW).marks (h.step hW).views t)
  have HSM := hid (opnL_small (m := leastL ms) (t := t) h.okv h.four)
  clear h
  have e1 : takeB vs (leastL ms) k t = if keyB k then opnB vs (leastL ms) t else false := rfl
  have e2 : takeL vs (leastL ms) k t = if keyB k then keyed k (opnL vs (leastL ms) t) else [] := rfl
  have e3 : takeE vs k t = if keyB k then chkN vs t else 21 := rfl
  rw [e1, e2, e3]
  clear e1 e2 e3
  generalize opnB vs (leastL ms) t = ob at *
  generalize opnL vs (leastL ms) t = ol at *
  generalize chkN vs t = cn at *
  generalize keyB k = kb at *
  cases kb with
  | false =>
    go_enter Try.func27, Try.ntmps27
    go_wp2_with fail
    refine (HK.out _).mono ?_
    rintro e w1 ⟨rfl, hw1⟩
    obtain rfl : w = w1 := hw1.symm
    clear hw1
    go_wp2_with fail
    go_ret3
    exact ⟨_, rfl, Or.inl ⟨rfl, rfl⟩, Fr.refl _ _⟩
  | true =>
    rw [if_pos rfl, if_pos rfl, if_pos rfl]
    have HC : Hid (∀ W : World, Fr w W (fun _ => False) → Hid (Fr w W (fun _ => False)) ∧ (W.cell? ⟨x.B, 0, none⟩ = some (.slice (some ⟨x.gv, 0, none⟩) vs.length x.cap) ∧ W.cell? ⟨x.B, 2, none⟩ = some (.func (.func 37) #[.pointer (some ⟨x.Bm, 0, none⟩)] #[]) ∧ x.B < W.heap.size)) := fun W hW => by
      obtain ⟨⟨c0, c1, c2, c3, c4⟩, hlt⟩ := (HO.out.step hW).cells
      exact ⟨hW, c0, c2, hlt⟩
    go_enter Try.func27, Try.ntmps27
    go_wp2_with fail
    refine (HK.out _).mono ?_
    rintro e w1 ⟨rfl, hw1⟩
    obtain rfl : w = w1 := hw1.symm
    clear hw1
    go_wp2_with fail
    have HS := hid (Fr.refl w (fun _ => False))
    go_region_held3 (fun W' => Hid (Fr w W' (fun _ => False)) ∧ (W'.cell? ⟨x.B, 0, none⟩ = some (.slice (some ⟨x.gv, 0, none⟩) vs.length x.cap) ∧ W'.cell? ⟨x.B, 2, none⟩ = some (.func (.func 37) #[.pointer (some ⟨x.Bm, 0, none⟩)] #[]) ∧ x.B < W'.heap.size))
      ((refine HC.out _ ?_; first | exact HS.out | exact HS.out.drew | exact HS.out.drew.drew))
      (((with_reducible refine (HOP.out _ (by first | exact HS.out | exact HS.out.drew)).mono ?_); rintro e w9 ⟨u, rfl, hco, hf9⟩; have HS9 := hid ((by first | exact HS.out | exact HS.out.drew : Fr w _ (fun _ => False)).trans hf9); have HCO := hid hco; clear hf9 hco HS; have HS := HS9; clear HS9))
    rcases HCO.out with ⟨rfl, rfl⟩ | ⟨g, rest, rfl, hg, hrow⟩
    · clear HCO
      go_wp2_with fail
      go_loopg [12, 32] 0 (fun n s12 s32 wx => s32 = .int .i64 0 ∧ Hid (Fr w wx (fun _ => False)))
      case atStart => exact ⟨rfl, HS⟩
      case round =>
        obtain ⟨rfl, HF⟩ := hrel
        go_wp2_with fail
        go_ret3
        exact ⟨_, rfl, Or.inl ⟨rfl, rfl⟩, HF.out⟩
    · have HR0 : Hid (RowK w9 g (mix k ol 0) rest) := by
        have h2 : w9.heap[g]? = some (.cells (cv ol ++ rest).toArray 64 (0, 0)) := hrow
        show w9.heap[g]? = _
        rw [mix_zero, ← cv_kv]
        exact h2
      have HG0 := hid (show w.heap.size ≤ g from hg)
      have hsm := HSM.out
      clear HCO hg hrow
      go_wp2_with fail
      go_loopg [12, 32] ol.length (fun n s12 s32 wx => ∃ i : Nat, s32 = .int .i64 (i : Int) ∧ Hid (i + n = ol.length) ∧ Hid (RowK wx g (mix k ol i) rest) ∧ Hid (Fr w wx (fun _ => False)))
      case atStart => exact ⟨0, rfl, by show _ = _; omega, HR0, HS⟩
      case round =>
        obtain ⟨i, rfl, HG, HR, HF⟩ := hrel
        clear HR0 HS
        cases gk with
        | succ n =>
          have hi : i < ol.length := by have := HG.out; omega
          have t1 : (i : Int) < (ol.length : Int) := by omega
          have hml := mix_len k ol i
          obtain ⟨c0, c1, c2⟩ := HR.out.get (i := i) (by omega)
          have hgl := HR.out.lt
          have hfz := HR.out.free (i * 3 + 1)
          have HST := hid (HR.out.set1 (i := i) (by omega) k)
          rw [mix_step k hi] at HST
          have HFS : Hid (Fr w (wr.setCell ⟨g, i * 3 + 1, none⟩ (.string k)) (fun _ => False)) := HF.out.setCell (fun h => by have := HG0.out; simp at h; omega) _
          generalize ((mix k ol i)[i]?.getD default) = c at *
          obtain ⟨cv0, ck0, cs0⟩ := c
          simp only at *
          have HI := hid hi
          have HML := hid hml
          clear hi hml
          go_wp2_with fail
          go_roundg n
          case measure => omega
          case rel => exact ⟨i + 1, by go_num, by have := HG.out; show _ = _; omega, HST, HFS⟩
        | zero =>
          have t1 : ¬ (i : Int) < (ol.length : Int) := by have := HG.out; omega
          have HE : Hid (mix k ol i = keyed k ol) := by have := HG.out; rw [show i = ol.length by omega]; exact mix_all k ol
          go_wp2_with fail
          go_ret3
          exact ⟨.slice (some ⟨g, 0, none⟩) ol.length ol.length, rfl, Or.inr ⟨g, rest, by rw [keyed_len], HG0.out, by rw [← HE.out]; exact HR.out⟩, HF.out⟩
end Go.Proofs.Ytbhhpkbiflolfaa.V
