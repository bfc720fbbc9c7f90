/- mark.openFirst, Open: walks. -/
import Derived.Test.YtbhhpkbiflolfaaQOpen1
import Derived.Deep.DeepCutAuto
namespace Go.Proofs.Ytbhhpkbiflolfaa
open Go.RowKit

/-- Block g holds these cells, and something behind them. -/
def RowC (w : World) (g : Nat) (L : List Ce) (rest : List Value) : Prop := w.heap[g]? = some (.cells (cv L ++ rest).toArray 64 (0, 0))
theorem RowC.lt {w : World} {g : Nat} {L : List Ce} {rest : List Value} (h : RowC w g L rest) : g < w.heap.size := lt_of_block h
theorem RowC.fr {w w' : World} {S : Nat → Prop} {g : Nat} {L : List Ce} {rest : List Value} (h : RowC w g L rest) (hf : Fr w w' S) (hS : ¬ S g) : RowC w' g L rest := by
  unfold RowC
  rw [hf.block g h.lt hS]
  exact h
theorem RowC.free {w : World} {g : Nat} {L : List Ce} {rest : List Value} (h : RowC w g L rest) (o : Nat) : w.frozen? ⟨g, o, none⟩ = false := by
  have h' : w.heap[g]? = some (.cells (cv L ++ rest).toArray 64 (0, 0)) := h
  simp [World.frozen?, h']
theorem RowC.get {w : World} {g : Nat} {L : List Ce} {rest : List Value} (h : RowC w g L rest) {i : Nat} (hi : i < L.length) : w.cell? ⟨g, i * 3, none⟩ = some (.int .i64 ((L.getD i ce0).v : Int)) ∧ w.cell? ⟨g, i * 3 + 1, none⟩ = some (.string ⟨#[]⟩) ∧ w.cell? ⟨g, i * 3 + 2, none⟩ = some (.int .i64 (L.getD i ce0).s) := by
  obtain ⟨h1, h2, h3⟩ := cv_get hi rest
  refine ⟨?_, ?_, ?_⟩
  · rw [cell_of_row w g _ _ _ (0, 0) h]; simpa using h1
  · rw [cell_of_row w g _ _ _ (0, 0) h]; simpa using h2
  · rw [cell_of_row w g _ _ _ (0, 0) h]; simpa using h3
theorem RowC.set {w : World} {g : Nat} {L : List Ce} {rest : List Value} (h : RowC w g L rest) {i : Nat} (hi : i < L.length) (c : Ce) : RowC (((w.setCell ⟨g, i * 3, none⟩ (.int .i64 (c.v : Int))).setCell ⟨g, i * 3 + 1, none⟩ (.string ⟨#[]⟩)).setCell ⟨g, i * 3 + 2, none⟩ (.int .i64 c.s)) g (L.set i c) rest := by
  have h0 : w.heap[g]? = some (.cells (cv L ++ rest).toArray 64 (0, 0)) := h
  have h1 := heap_setCell_same w g (i * 3) _ _ (.int .i64 (c.v : Int)) h0
  have h2 := heap_setCell_same _ g (i * 3 + 1) _ _ (.string ⟨#[]⟩) h1
  have h3 := heap_setCell_same _ g (i * 3 + 2) _ _ (.int .i64 c.s) h2
  unfold RowC
  rw [h3]
  congr 2
  apply Array.ext'
  have := cv_set hi c rest
  simpa using this
/-- An owned row of cells: its block, whole. -/
theorem Cw.row {w wx : World} {v : Value} {L : List Ce} (h : Cw w wx v L) : (v = .slice none 0 0 ∧ L = []) ∨ ∃ g cap rest, v = .slice (some ⟨g, 0, none⟩) L.length cap ∧ L.length ≤ cap ∧ cap ≤ maxLen ∧ w.heap.size ≤ g ∧ RowC wx g L rest ∧ rest.length + L.length * 3 = cap * 3 := by
  rcases h.1.2 with ⟨rfl, h0⟩ | ⟨g, cap, cur, rfl, hb, hg, hn, hm, hcs, htake⟩
  · exact Or.inl ⟨rfl, List.eq_nil_of_length_eq_zero h0⟩
  · refine Or.inr ⟨g, cap, cur.toList.drop (L.length * 3), rfl, hn, hm, hb, ?_, ?_⟩
    · unfold RowC
      rw [hg]
      congr 2
      apply Array.ext'
      rw [List.toList_toArray, ← htake, List.take_append_drop]
    · rw [List.length_drop]
      simp
      omega

/-- Between the rounds: those that are open, moved ahead; the others behind. -/
def mvL (vs : List Vw) (m : Int) (L : List Ce) (i : Nat) : List Ce := opL vs m (L.take i) ++ L.drop (opL vs m (L.take i)).length
theorem mvL_length (vs : List Vw) (m : Int) (L : List Ce) (i : Nat) (hi : i ≤ L.length) : (mvL vs m L i).length = L.length := by
  have := opL_len vs m L i
  unfold mvL
  rw [List.length_append, List.length_drop]
  omega
theorem mvL_get {vs : List Vw} {m : Int} {L : List Ce} {i : Nat} : (mvL vs m L i).getD i ce0 = L.getD i ce0 := by
  have := opL_len vs m L i
  unfold mvL
  simp only [List.getD]
  rw [List.getElem?_append_right this, List.getElem?_drop]
  congr 2
  omega
theorem mvL_shut {vs : List Vw} {m : Int} {L : List Ce} {i : Nat} (hi : i < L.length) (h : shutC vs m (L.getD i ce0) = true) : opL vs m (L.take (i + 1)) = opL vs m (L.take i) ∧ mvL vs m L (i + 1) = mvL vs m L i := by
  have e := opL_take (vs := vs) (m := m) hi
  rw [h, if_pos rfl, List.append_nil] at e
  exact ⟨e, by unfold mvL; rw [e]⟩
theorem mvL_open {vs : List Vw} {m : Int} {L : List Ce} {i : Nat} (hi : i < L.length) (h : shutC vs m (L.getD i ce0) = false) : (opL vs m (L.take (i + 1))).length = (opL vs m (L.take i)).length + 1 ∧ mvL vs m L (i + 1) = (mvL vs m L i).set (opL vs m (L.take i)).length (L.getD i ce0) := by
  have e := opL_take (vs := vs) (m := m) hi
  have hl := opL_len vs m L i
  rw [h, if_neg (by simp)] at e
  have e2 : (opL vs m (L.take (i + 1))).length = (opL vs m (L.take i)).length + 1 := by rw [e]; simp
  refine ⟨e2, ?_⟩
  unfold mvL
  rw [e2, e, List.set_append_right _ _ (Nat.le_refl _), Nat.sub_self, List.append_assoc]
  congr 1
  rw [List.drop_eq_getElem_cons (i := (opL vs m (L.take i)).length) (by omega), List.set_cons_zero]
  rfl

/-- What openFirst stands in. -/
structure OF (w0 w : World) (g : Nat) (M : List Ce) (rest : List Value) : Prop where
  row : RowC w g M rest
  fr : Fr w0 w (fun _ => False)
  bn : w0.heap.size ≤ g
theorem OF.step {w0 w w' : World} {g : Nat} {M : List Ce} {rest : List Value} (h : OF w0 w g M rest) (hf : Fr w w' (fun _ => False)) : OF w0 w' g M rest := ⟨h.row.fr hf (fun h => h), h.fr.trans hf, h.bn⟩
theorem OF.set {w0 w : World} {g : Nat} {M : List Ce} {rest : List Value} (h : OF w0 w g M rest) {k : Nat} (hk : k < M.length) (c : Ce) : OF w0 (((w.setCell ⟨g, k * 3, none⟩ (.int .i64 (c.v : Int))).setCell ⟨g, k * 3 + 1, none⟩ (.string ⟨#[]⟩)).setCell ⟨g, k * 3 + 2, none⟩ (.int .i64 c.s)) g (M.set k c) rest :=
  ⟨h.row.set hk c, Fr.setCell (Fr.setCell (Fr.setCell h.fr (fun e => by have := h.bn; simp at e; omega) _) (fun e => by have := h.bn; simp at e; omega) _) (fun e => by have := h.bn; simp at e; omega) _, h.bn⟩

set_option maxHeartbeats 4000000 in
set_option maxRecDepth 100000 in
theorem first_any {w0 w : World} {v : Value} {vs : List Vw} (hv : Vs w0 v vs) {g cap : Nat} {L : List Ce} {rest : List Value} (h : OF w0 w g L rest) (hcl : ∀ c ∈ L, c.v < vs.length ∧ fits c.s ∧ fits (c.s + (vs.getD c.v vw0).s) ∧ fits (c.s + (vs.getD c.v vw0).s + (vs.getD c.v vw0).l)) (hl : L.length ≤ 1000) (m : Int) :
    Calls Try.prog 69 #[.slice (some ⟨g, 0, none⟩) L.length cap, .int .i64 m, v] w fun e w' => e = .returned (.int .i64 ((opL vs m L).length : Int)) ∧ OF w0 w' g (mvL vs m L L.length) rest := by
  have HV := hid hv
  obtain ⟨ao, capv, rfl, hvl, _⟩ := id hv
  have HO := hid h
  have HCL := hid hcl
  clear hv h hcl
  go_enter Try.func69, Try.ntmps69
  go_wp2_with fail
  go_loopg [7, 9, 12] L.length (fun n s7 s9 s12 wx => ∃ i : Nat, s12 = .int .i64 (i : Int) ∧ Hid (i + n = L.length) ∧ s7 = .int .i64 ((opL vs m (L.take i)).length : Int) ∧ Hid (OF w0 wx g (mvL vs m L i) rest))
  case atStart => exact ⟨0, rfl, by show _ = _; omega, rfl, HO⟩
  case round =>
    obtain ⟨i, rfl, HG, rfl, HO1⟩ := hrel
    clear HO
    cases gk with
    | zero =>
      have t1 : ¬ (i : Int) < (L.length : Int) := by have := HG.out; omega
      have e : i = L.length := by have := HG.out; omega
      have HE : Hid ((opL vs m (L.take i)).length = (opL vs m L).length) := by show _ = _; rw [e, List.take_length]
      have HE2 := hid e
      clear e
      generalize (opL vs m (L.take i)).length = k at *
      go_wp2_with fail
      go_ret
      exact ⟨by rw [← HE.out]; rfl, by rw [← HE2.out]; exact HO1.out⟩
    | succ n =>
      have hi : i < L.length := by have := HG.out; omega
      have t1 : (i : Int) < (L.length : Int) := by omega
      have hml := mvL_length vs m L i (by omega)
      obtain ⟨c0, c1, c2⟩ := HO1.out.row.get (i := i) (by omega)
      rw [mvL_get] at c0 c2
      have hbl := HO1.out.row.lt
      have hmem : L.getD i ce0 ∈ L := by
        have : L.getD i ce0 = L[i] := by simp [List.getD, hi]
        rw [this]
        exact List.getElem_mem hi
      obtain ⟨hv1, hf0, hf1, hf2⟩ := HCL.out _ hmem
      have hkl : (opL vs m (L.take i)).length < L.length := by have := opL_len vs m L i; omega
      have HSH := hid (fun h => mvL_shut (vs := vs) (m := m) hi h)
      have HOP := hid (fun h => mvL_open (vs := vs) (m := m) hi h)
      generalize hc : L.getD i ce0 = c at *
      have HSC : Hid (shutC vs m c = decide (c.s + (vs.getD c.v vw0).s + (vs.getD c.v vw0).l ≤ m)) := rfl
      have HCLO := hid (fun W : World => closed_any (vs.getD c.v vw0).s (vs.getD c.v vw0).d (vs.getD c.v vw0).l c.s m hf1 hf2 W)
      rw [← HSC.out] at HCLO
      have hv2 : (c.v : Int) < (vs.length : Int) := by omega
      obtain ⟨b, off, rfl, _, _, _⟩ := (HV.out.fr HO1.out.fr (fun _ _ _ _ _ h => h)).at hv1
      have HVC : Hid (∀ W : World, Fr w0 W (fun _ => False) → (W.cell? ⟨b, off + c.v * 3, none⟩ = some (.int .i64 (vs.getD c.v vw0).s) ∧ W.cell? ⟨b, off + c.v * 3 + 1, none⟩ = some (.int .i64 (vs.getD c.v vw0).d) ∧ W.cell? ⟨b, off + c.v * 3 + 2, none⟩ = some (.int .i64 (vs.getD c.v vw0).l)) ∧ b < W.heap.size) := fun W hW => by
        obtain ⟨b', off', e, h1, h2, h3⟩ := (HV.out.fr hW (fun _ _ _ _ _ h => h)).at hv1
        simp only [Option.some.injEq, Addr.mk.injEq, and_true] at e
        obtain ⟨rfl, rfl⟩ := e
        exact ⟨⟨h1, h2, h3⟩, World.block_lt_of_cell? W _ h1⟩
      generalize (vs.getD c.v vw0).s = vs0 at *
      generalize (vs.getD c.v vw0).d = vd0 at *
      generalize (vs.getD c.v vw0).l = vl0 at *
      generalize shutC vs m c = sh at *
      obtain ⟨M, hM⟩ : ∃ M, M = mvL vs m L i := ⟨_, rfl⟩
      obtain ⟨k, hk⟩ : ∃ k, k = (opL vs m (L.take i)).length := ⟨_, rfl⟩
      rw [← hM] at HO1 hml
      rw [← hk] at hkl ⊢
      have HME := hid hM.symm
      have HKE := hid hk.symm
      clear hM hk
      obtain ⟨cvn, cs⟩ := c
      have HI := hid hi
      have HML := hid hml
      clear hi hml hmem hf0 hf1 hf2 hc HSC
      go_upto_region 5 with (fail)
      have HOW : Hid (OF w0 (wr.alloc (.cells #[.int .i64 (cvn : Int), .string ⟨#[]⟩, .int .i64 cs] 64)) g M rest) := HO1.out.step (alloc_fr _ _ _)
      have HN : Hid ((wr.alloc (.cells #[.int .i64 (cvn : Int), .string ⟨#[]⟩, .int .i64 cs] 64)).heap[wr.heap.size]? = some (.cells #[.int .i64 (cvn : Int), .string ⟨#[]⟩, .int .i64 cs] 64 (0, 0))) := heap_last _ _ _ rfl
      generalize (wr.alloc (.cells #[.int .i64 (cvn : Int), .string ⟨#[]⟩, .int .i64 cs] 64)) = w2 at *
      generalize wr.heap.size = N at *
      have HNC : Hid (∀ W : World, Fr w2 W (fun _ => False) → W.cell? ⟨N, 0, none⟩ = some (.int .i64 (cvn : Int)) ∧ W.cell? ⟨N, 2, none⟩ = some (.int .i64 cs) ∧ W.cell? ⟨N, 1, none⟩ = some (.string ⟨#[]⟩) ∧ N < W.heap.size) := fun W hW => by
        have hb : W.heap[N]? = some (.cells #[.int .i64 (cvn : Int), .string ⟨#[]⟩, .int .i64 cs] 64 (0, 0)) := by rw [hW.block N (lt_of_block HN.out) (fun h => h)]; exact HN.out
        refine ⟨?_, ?_, ?_, lt_of_block hb⟩ <;> simp [World.cell?, hb]
      have HS := hid (Fr.refl w2 (fun _ => False))
      clear HO1 c0 c1 c2 hbl HN
      go_region_held3 (fun W' => Hid (Fr w2 W' (fun _ => False)) ∧ W'.cell? ⟨N, 0, none⟩ = some (.int .i64 (cvn : Int)) ∧ W'.cell? ⟨N, 2, none⟩ = some (.int .i64 cs) ∧ N < W'.heap.size ∧ (W'.cell? ⟨b, off + cvn * 3, none⟩ = some (.int .i64 vs0) ∧ W'.cell? ⟨b, off + cvn * 3 + 1, none⟩ = some (.int .i64 vd0) ∧ W'.cell? ⟨b, off + cvn * 3 + 2, none⟩ = some (.int .i64 vl0)) ∧ b < W'.heap.size)
        ((refine (fun hh => ⟨hh, (HNC.out _ hh).1, (HNC.out _ hh).2.1, (HNC.out _ hh).2.2.2, (HVC.out _ (HOW.out.step hh).fr).1, (HVC.out _ (HOW.out.step hh).fr).2⟩ : Fr w2 _ (fun _ => False) → _) ?_; first | exact HS.out | exact HS.out.drew | exact HS.out.drew.drew))
        ((go_at_call 25; refine (HCLO.out _).mono ?_; rintro e w9 ⟨rfl, hf9⟩; have HS9 := hid ((by first | exact HS.out | exact HS.out.drew : Fr w2 _ (fun _ => False)).trans hf9); clear hf9 HS; have HS := HS9; clear HS9))
      have HOX := hid (HOW.out.step HS.out)
      obtain ⟨n0, n2, n1, nN⟩ := HNC.out _ HS.out
      clear HNC HVC HCLO HOW HS
      cases sh with
      | true =>
        obtain ⟨e1, e2⟩ := HSH.out rfl
        have HE1 := hid (congrArg List.length e1)
        have HE2 := hid e2
        clear e1 e2 HSH HOP
        go_wp2_with fail
        go_roundg n
        case measure => omega
        case rel => exact ⟨i + 1, by go_num, by have := HG.out; show _ = _; omega, by rw [HE1.out, HKE.out], by rw [HE2.out, HME.out]; exact HOX⟩
      | false =>
        obtain ⟨e1, e2⟩ := HOP.out rfl
        have HE1 := hid e1
        have HE2 := hid e2
        clear e1 e2 HSH HOP
        have hkM : k < M.length := by have := HML.out; omega
        obtain ⟨d0, d1, d2⟩ := HOX.out.row.get hkM
        have f0 := HOX.out.row.free (k * 3)
        have f1 := HOX.out.row.free (k * 3 + 1)
        have f2 := HOX.out.row.free (k * 3 + 2)
        have hbl := HOX.out.row.lt
        have hk2 : (k : Int) < (L.length : Int) := by omega
        have HST := hid (HOX.out.set hkM ⟨cvn, cs⟩)
        generalize (M.getD k ce0).v = mv at *
        generalize (M.getD k ce0).s = ms0 at *
        have HKM := hid hkM
        clear hkM
        go_wp2_with fail
        go_roundg n
        case measure => omega
        case rel => exact ⟨i + 1, by go_num, by have := HG.out; show _ = _; omega, by rw [HE1.out, HKE.out]; go_num, by rw [HE2.out, HME.out, HKE.out]; exact HST⟩

end Go.Proofs.Ytbhhpkbiflolfaa
