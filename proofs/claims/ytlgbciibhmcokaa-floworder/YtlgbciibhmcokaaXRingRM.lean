/- flow.ring: a ring in memory; first, take: walks. -/
import Derived.Test.YtlgbciibhmcokaaXPure
import Derived.Test.YtlgbciibhmcokaaRows
import Derived.BigRegion
namespace Go.Proofs.Ytlgbciibhmcokaa.RM
open Go.RowKit

theorem el_len (x : Ms) : (elM x).length = 5 := rfl
/-- A ring's row: L lies in it from st on. -/
def RR (w : World) (v : Value) (st : Nat) (L : List Ms) : Prop := (v = .slice none 0 0 ∧ st = 0 ∧ L = []) ∨ ∃ g R, v = .slice (some ⟨g, 0, none⟩) R.length R.length ∧ Row elM 85 w g R [] ∧ Rot ms0 R st L ∧ R.length ≤ 65536
theorem RR.fr {w w' : World} {S : Nat → Prop} {v : Value} {st : Nat} {L : List Ms} (h : RR w v st L) (hf : Fr w w' S) (hS : ∀ k, v.ownBlock = some k → ¬ S k) : RR w' v st L := by
  rcases h with h | ⟨g, R, rfl, h1, h2, h3⟩
  · exact Or.inl h
  · exact Or.inr ⟨g, R, rfl, h1.fr hf (hS g rfl), h2, h3⟩
theorem RR.lt {w : World} {v : Value} {st : Nat} {L : List Ms} (h : RR w v st L) {k : Nat} (hk : v.ownBlock = some k) : k < w.heap.size := by
  rcases h with ⟨rfl, _⟩ | ⟨g, R, rfl, h1, h2, h3⟩
  · simp [Value.ownBlock] at hk
  · simp [Value.ownBlock] at hk; subst hk; exact h1.lt
theorem RR.ne {w : World} {v : Value} {st : Nat} {L : List Ms} (h : RR w v st L) {b : Nat} {cs : Array Value} {T : TypeId} {z : Nat × Nat} (hb : w.heap[b]? = some (.cells cs T z)) (ht : T ≠ 85) : v.ownBlock ≠ some b := by
  intro e
  rcases h with ⟨rfl, _⟩ | ⟨g, R, rfl, h1, h2, h3⟩
  · simp [Value.ownBlock] at e
  · simp [Value.ownBlock] at e
    subst e
    unfold Row at h1
    rw [hb] at h1
    simp at h1
    exact ht h1.2.1
theorem el_cells {w : World} {N : Nat} {x : Ms} {T : TypeId} (h : w.heap[N]? = some (.cells (elM x).toArray T (0, 0))) : w.cell? ⟨N, 0, none⟩ = some (.int .i64 x.s) ∧ w.cell? ⟨N, 1, none⟩ = some (.bool x.x.m) ∧ w.cell? ⟨N, 2, none⟩ = some (.string x.x.k) ∧ w.cell? ⟨N, 3, none⟩ = some (.int .i64 x.x.t) ∧ w.cell? ⟨N, 4, none⟩ = some (.int .i64 x.x.v) := by
  refine ⟨?_, ?_, ?_, ?_, ?_⟩ <;> simp [World.cell?, h, elM]
theorem Row.el {w : World} {g : Nat} {R : List Ms} {rest : List Value} (h : Row elM 85 w g R rest) {j : Nat} (hj : j < R.length) : w.cell? ⟨g, j * 5, none⟩ = some (.int .i64 (R.getD j ms0).s) ∧ w.cell? ⟨g, j * 5 + 1, none⟩ = some (.bool (R.getD j ms0).x.m) ∧ w.cell? ⟨g, j * 5 + 2, none⟩ = some (.string (R.getD j ms0).x.k) ∧ w.cell? ⟨g, j * 5 + 3, none⟩ = some (.int .i64 (R.getD j ms0).x.t) ∧ w.cell? ⟨g, j * 5 + 4, none⟩ = some (.int .i64 (R.getD j ms0).x.v) :=
  ⟨h.at elM_len hj ms0 (j := 0) (by omega) rfl, h.at elM_len hj ms0 (j := 1) (by omega) rfl, h.at elM_len hj ms0 (j := 2) (by omega) rfl, h.at elM_len hj ms0 (j := 3) (by omega) rfl, h.at elM_len hj ms0 (j := 4) (by omega) rfl⟩
/-- The world behind a record's store. -/
def puts (w : World) (g o : Nat) (x : Ms) : World := ((((w.setCell ⟨g, o, none⟩ (.int .i64 x.s)).setCell ⟨g, o + 1, none⟩ (.bool x.x.m)).setCell ⟨g, o + 2, none⟩ (.string x.x.k)).setCell ⟨g, o + 3, none⟩ (.int .i64 x.x.t)).setCell ⟨g, o + 4, none⟩ (.int .i64 x.x.v)
theorem puts_fr {a w : World} {S : Nat → Prop} {g o : Nat} (h : Fr a w S) (hp : g < a.heap.size → S g) (x : Ms) : Fr a (puts w g o x) S := ((((h.setCell (p := ⟨g, o, none⟩) hp _).setCell (p := ⟨g, o + 1, none⟩) hp _).setCell (p := ⟨g, o + 2, none⟩) hp _).setCell (p := ⟨g, o + 3, none⟩) hp _).setCell (p := ⟨g, o + 4, none⟩) hp _
theorem Row.puts {w : World} {g : Nat} {R : List Ms} {rest : List Value} (h : Row elM 85 w g R rest) {j : Nat} (hj : j < R.length) (x : Ms) : Row elM 85 (puts w g (j * 5) x) g (R.set j x) rest := by
  have hl : (fl elM (R.take j)).length = j * 5 := by rw [fl_length elM_len, List.length_take, Nat.min_eq_left (by omega)]
  have h0 : w.heap[g]? = some (.cells (fl elM R ++ rest).toArray 85 (0, 0)) := h
  rw [fl_parts elM hj ms0] at h0
  unfold Row RM.puts
  rw [← hl, heap_setCell_same _ g _ _ _ _ (heap_setCell_same _ g _ _ _ _ (heap_setCell_same _ g _ _ _ _ (heap_setCell_same _ g _ _ _ _ (heap_setCell_same w g _ _ _ _ h0)))), fl_set elM hj]
  simp [elM]
theorem puts_new {w : World} {N : Nat} {y : Ms} {T : TypeId} (h : w.heap[N]? = some (.cells (elM y).toArray T (0, 0))) (x : Ms) : (puts w N 0 x).heap[N]? = some (.cells (elM x).toArray T (0, 0)) := by
  unfold puts
  rw [heap_setCell_same _ N _ _ _ _ (heap_setCell_same _ N _ _ _ _ (heap_setCell_same _ N _ _ _ _ (heap_setCell_same _ N _ _ _ _ (heap_setCell_same w N _ _ _ _ h))))]
  simp [elM]
theorem resR {fn : Func} {t u : Tmp} (h : fn.results = #[.cell t 85, .tmp u]) (tmps : Array Value) (W : World) {N : Nat} {x : Ms} (h2 : tmps.getD t undef = .pointer (some ⟨N, 0, none⟩)) (hB : W.heap[N]? = some (.cells (elM x).toArray 85 (0, 0))) :
    (results fn tmps).run Try.prog W = .ok (.tuple #[vM x, tmps.getD u undef]) W := by
  obtain ⟨c0, c1, c2, c3, c4⟩ := el_cells hB
  rw [Array.getD_eq_getD_getElem?] at h2
  simp [results, h, h2, go_sem, c0, c1, c2, c3, c4, vM]
theorem puts_fr1 (w : World) (g o : Nat) (x : Ms) : Fr w (puts w g o x) (fun k => k = g) := puts_fr (S := fun k => k = g) (Fr.refl w _) (fun _ => rfl) x
theorem new_el {w : World} {cs : Array Value} {T : TypeId} {x : Ms} (hc : cs = (elM x).toArray) : (w.alloc (.cells cs T)).heap[w.heap.size]? = some (.cells (elM x).toArray T (0, 0)) := by subst hc; exact heap_last _ _ _ rfl

set_option maxHeartbeats 1000000 in
theorem first_nil {w : World} {b : Nat} {T : TypeId} {A C : List Value} {v : Value} {st most o : Nat} (hb : RB w b T A C v st 0 most) (ho : A.length = o) : Calls Try.prog 47 #[.pointer (some ⟨b, o, none⟩)] w fun e w' => e = .returned (.tuple #[vM ms0, .bool false]) ∧ Fr w w' (fun _ => False) := by
  obtain ⟨c0, c1, c2, c3⟩ := hb.cells ho
  have hlt := hb.lt
  clear hb c0 c1 c3
  go_enter Try.func47, Try.ntmps47
  go_wp2_with fail
  refine bodyPost_ret (resR (x := ms0) Try.results47 _ _ rfl ?_) rfl ?_
  · exact (((Fr.refl _ (fun _ => False)).alloc _).block _ (by simp) (fun h => h)).trans (new_el rfl)
  · exact ⟨rfl, ((Fr.refl _ _).alloc _).alloc _⟩

set_option maxHeartbeats 2000000 in
theorem first_cons {w : World} {b : Nat} {T : TypeId} {A C : List Value} {v : Value} {st most o : Nat} {x : Ms} {L : List Ms} (hb : RB w b T A C v st (L.length + 1) most) (ho : A.length = o) (hr : RR w v st (x :: L)) : Calls Try.prog 47 #[.pointer (some ⟨b, o, none⟩)] w fun e w' => e = .returned (.tuple #[vM x, .bool true]) ∧ Fr w w' (fun _ => False) := by
  obtain ⟨c0, c1, c2, c3⟩ := hb.cells ho
  have hlt := hb.lt
  obtain ⟨g, R, rfl, hR, hrot, hRl⟩ : ∃ g R, v = .slice (some ⟨g, 0, none⟩) R.length R.length ∧ Row elM 85 w g R [] ∧ Rot ms0 R st (x :: L) ∧ R.length ≤ 65536 := by
    rcases hr with ⟨_, _, h⟩ | h
    · cases h
    · exact h
  have hst : st < R.length := hrot.1
  have hx := (hrot.take ms0).1
  have he := Row.el hR hst
  rw [hx] at he
  have hgl := hR.lt
  have t0 : (((L.length + 1 : Nat) : Int) == 0) = false := by simp; omega
  clear hx hrot hR hr hb c3
  generalize R.length = n at *
  generalize L.length + 1 = cnt at *
  have tst : (st : Int) < (n : Int) := by omega
  have tst0 : (0 : Int) ≤ (st : Int) := by omega
  go_enter Try.func47, Try.ntmps47
  go_wp2_with fail
  have HB := hid (new_el (w := w) (T := 85) (x := ms0) rfl)
  have HF := hid (alloc_fr w (.cells (elM ms0).toArray 85) (fun _ => False))
  have d0 : (w.alloc (.cells (elM ms0).toArray 85)).cell? ⟨b, o, none⟩ = some (.slice (some ⟨g, 0, none⟩) n n) := by rw [(fr_rules HF.out).1 _ _ hlt]; exact c0
  have d1 : (w.alloc (.cells (elM ms0).toArray 85)).cell? ⟨b, o + 1, none⟩ = some (.int .i64 (st : Int)) := by rw [(fr_rules HF.out).1 _ _ hlt]; exact c1
  have de : ∀ q u, w.cell? ⟨g, q, none⟩ = some u → (w.alloc (.cells (elM ms0).toArray 85)).cell? ⟨g, q, none⟩ = some u := fun q u h => by rw [(fr_rules HF.out).1 _ _ hgl]; exact h
  have hN : w.heap.size < (w.alloc (.cells (elM ms0).toArray 85)).heap.size := by simp
  have hs1 := HF.out.size
  have hfz : ∀ q, (w.alloc (.cells (elM ms0).toArray 85)).frozen? ⟨w.heap.size, q, none⟩ = false := fun q => free_of HB.out q
  have hcN := el_cells HB.out
  obtain ⟨e0, e1, e2, e3, e4⟩ := he
  replace e3 := de _ _ e3
  replace e4 := de _ _ e4
  replace e0 := de _ _ e0
  replace e1 := de _ _ e1
  replace e2 := de _ _ e2
  have hlt1 : b < (w.alloc (.cells (elM ms0).toArray 85)).heap.size := by omega
  have hgl1 : g < (w.alloc (.cells (elM ms0).toArray 85)).heap.size := by omega
  have HFP : Hid (∀ (W : World) (y : Ms), Fr w W (fun _ => False) → Fr w (puts W w.heap.size 0 y) (fun _ => False)) := fun W y h => puts_fr h (fun h => absurd h (Nat.lt_irrefl _)) y
  clear de c0 c1 hlt hgl hs1
  unfold elM ms0 at *
  unfold it0 at *
  generalize (w.alloc (.cells _ 85)) = w1 at *
  generalize w.heap.size = N at *
  go_region
  go_wp2_with fail
  refine bodyPost_ret (resR (x := x) Try.results47 _ _ rfl (puts_new (y := ms0) HB.out x)) rfl ⟨rfl, ?_⟩
  exact Fr.drew (HFP.out _ x HF.out)

set_option maxHeartbeats 2000000 in
theorem take_nil {w : World} {b : Nat} {T : TypeId} {A C : List Value} {v : Value} {st most o : Nat} (hb : RB w b T A C v st 0 most) (ho : A.length = o) : Calls Try.prog 41 #[.pointer (some ⟨b, o, none⟩)] w fun e w' => e = .returned (.tuple #[vM ms0, .bool false]) ∧ Fr w w' (fun _ => False) := by
  have HFI := hid (fun (W : World) (hW : Fr w W (fun _ => False)) => first_nil (hb.fr hW (fun h => h)) ho)
  clear hb
  go_enter Try.func41, Try.ntmps41
  go_wp2_with fail
  refine (HFI.out _ (((Fr.refl _ _).alloc _).alloc _)).mono ?_
  rintro e w1 ⟨rfl, hf⟩
  have HB : Hid (w1.heap[w.heap.size]? = some (.cells (elM ms0).toArray 85 (0, 0))) := ((((alloc_fr _ _ _).trans hf).block _ (by simp) (fun h => h)).trans (new_el (x := ms0) rfl))
  have HC : Hid (w1.heap[w.heap.size + 1]? = some (.cells (elM ms0).toArray 85 (0, 0))) := (hf.block _ (by simp) (fun h => h)).trans (heap_last _ _ _ (by simp))
  have HF := hid ((((Fr.refl w _).alloc _).alloc _).trans hf)
  have hcB := el_cells HB.out
  have hcC := el_cells HC.out
  have hfB := free_of HB.out
  have hlB := lt_of_block HB.out
  have hlC := lt_of_block HC.out
  clear hf
  unfold vM
  have HFP : Hid (∀ (W : World) (y : Ms), Fr w W (fun _ => False) → Fr w (puts W w.heap.size 0 y) (fun _ => False)) := fun W y h => puts_fr h (fun h => absurd h (Nat.lt_irrefl _)) y
  generalize w.heap.size = N at *
  go_wp2_with fail
  have hp := puts_new (y := ms0) HB.out ms0
  refine bodyPost_ret (resR (x := ms0) Try.results41 _ _ rfl (((alloc_fr _ _ (fun _ => False)).block N (lt_of_block hp) (fun h => h)).trans hp)) rfl ⟨rfl, ?_⟩
  exact (HFP.out _ _ HF.out).alloc _

/-- What take leaves. -/
structure TK (w : World) (b : Nat) (T : TypeId) (A C : List Value) (v : Value) (st cnt most g : Nat) (R : List Ms) (w' : World) : Prop where
  rb : RB w' b T A C v st cnt most
  row : Row elM 85 w' g R []
  fr : Fr w w' (fun k => k = b ∨ k = g)
theorem TK.step {w w' w'' : World} {b : Nat} {T : TypeId} {A C : List Value} {v : Value} {st cnt most g : Nat} {R : List Ms} (h : TK w b T A C v st cnt most g R w') (hf : Fr w' w'' (fun _ => False)) : TK w b T A C v st cnt most g R w'' :=
  ⟨h.rb.fr hf (fun h => h), h.row.fr hf (fun h => h), h.fr.trans2 hf (fun _ _ h => h.elim)⟩
theorem TK.puts {w w' : World} {b : Nat} {T : TypeId} {A C : List Value} {v : Value} {st cnt most g : Nat} {R : List Ms} (h : TK w b T A C v st cnt most g R w') (hgb : g ≠ b) {j : Nat} (hj : j < R.length) (y : Ms) : TK w b T A C v st cnt most g (R.set j y) (puts w' g (j * 5) y) :=
  ⟨h.rb.fr (puts_fr1 _ _ _ y) (fun e => hgb e.symm), Row.puts h.row hj y, h.fr.trans2 (puts_fr1 _ _ _ y) (fun _ _ h => Or.inr h)⟩
theorem TK.set1 {w w' : World} {b : Nat} {T : TypeId} {A C : List Value} {v : Value} {st cnt most g : Nat} {R : List Ms} (h : TK w b T A C v st cnt most g R w') (hgb : g ≠ b) {o : Nat} (ho : A.length = o) (n : Nat) : TK w b T A C v n cnt most g R (w'.setCell ⟨b, o + 1, none⟩ (.int .i64 (n : Int))) :=
  ⟨h.rb.set1 ho n, h.row.fr (set_fr _ _ _ _) hgb, h.fr.trans2 (set_fr _ _ _ _) (fun _ _ h => Or.inl h)⟩
theorem TK.set2 {w w' : World} {b : Nat} {T : TypeId} {A C : List Value} {v : Value} {st cnt most g : Nat} {R : List Ms} (h : TK w b T A C v st cnt most g R w') (hgb : g ≠ b) {o : Nat} (ho : A.length = o) (n : Nat) : TK w b T A C v st n most g R (w'.setCell ⟨b, o + 2, none⟩ (.int .i64 (n : Int))) :=
  ⟨h.rb.set2 ho n, h.row.fr (set_fr _ _ _ _) hgb, h.fr.trans2 (set_fr _ _ _ _) (fun _ _ h => Or.inl h)⟩
set_option maxHeartbeats 4000000 in
theorem take_cons {w : World} {b : Nat} {T : TypeId} {A C : List Value} {v : Value} {st most o : Nat} {x : Ms} {L : List Ms} (hb : RB w b T A C v st (L.length + 1) most) (ho : A.length = o) (hr : RR w v st (x :: L)) (hT : T ≠ 85) : Calls Try.prog 41 #[.pointer (some ⟨b, o, none⟩)] w fun e w' => e = .returned (.tuple #[vM x, .bool true]) ∧ ∃ st', RB w' b T A C v st' L.length most ∧ RR w' v st' L ∧ Fr w w' (fun k => k = b ∨ v.ownBlock = some k) := by
  have HFI := hid (fun (W : World) (hW : Fr w W (fun _ => False)) => first_cons (hb.fr hW (fun h => h)) ho (hr.fr hW (fun _ _ h => h)))
  have hne := hr.ne hb hT
  obtain ⟨g, R, rfl, hR, hrot, hRl⟩ : ∃ g R, v = .slice (some ⟨g, 0, none⟩) R.length R.length ∧ Row elM 85 w g R [] ∧ Rot ms0 R st (x :: L) ∧ R.length ≤ 65536 := by
    rcases hr with ⟨_, _, h⟩ | h
    · cases h
    · exact h
  have hst : st < R.length := hrot.1
  have hgb : g ≠ b := fun e => hne (by simp [Value.ownBlock, e])
  have HX := hid (hrot.take ms0).2
  have HT0 : Hid (TK w b T A C (.slice (some ⟨g, 0, none⟩) R.length R.length) st (L.length + 1) most g R w) := ⟨hb, hR, Fr.refl _ _⟩
  have HGB := hid hgb
  have tst : (st : Int) < (R.length : Int) := by omega
  have tst0 : (0 : Int) ≤ (st : Int) := by omega
  have hLl : L.length + 1 ≤ R.length := by simpa using hrot.2.1
  have HLL := hid hLl
  have HRN : Hid (st < R.length) := hst
  clear hne hrot hr hR hb hgb hLl
  go_enter Try.func41, Try.ntmps41
  go_wp2_with fail
  refine (HFI.out _ (((Fr.refl _ _).alloc _).alloc _)).mono ?_
  rintro e w1 ⟨rfl, hf⟩
  have HB : Hid (w1.heap[w.heap.size]? = some (.cells (elM ms0).toArray 85 (0, 0))) := ((((alloc_fr _ _ _).trans hf).block _ (by simp) (fun h => h)).trans (new_el (x := ms0) rfl))
  have HC : Hid (w1.heap[w.heap.size + 1]? = some (.cells (elM ms0).toArray 85 (0, 0))) := (hf.block _ (by simp) (fun h => h)).trans (heap_last _ _ _ (by simp))
  have HT1 := hid (HT0.out.step ((((Fr.refl w _).alloc _).alloc _).trans hf))
  have HSZ : Hid (b < w.heap.size ∧ g < w.heap.size) := ⟨HT0.out.rb.lt, HT0.out.row.lt⟩
  have HFP : Hid (∀ (W : World) (y : Ms), Fr w W (fun k => k = b ∨ k = g) → Fr w (puts W w.heap.size 0 y) (fun k => k = b ∨ k = g)) := fun W y h => puts_fr h (fun h => absurd h (Nat.lt_irrefl _)) y
  clear hf HT0 HFI
  unfold vM
  generalize w.heap.size = N at *
  go_wp2_with fail
  have hA := alloc_fr w1 (.cells (elM x).toArray 85) (fun _ => False)
  have HT2 := hid (HT1.out.step hA)
  have HB2 := hid ((hA.block _ (lt_of_block HB.out) (fun h => h)).trans HB.out)
  have HC2 := hid ((hA.block _ (lt_of_block HC.out) (fun h => h)).trans HC.out)
  have HM2 : Hid ((w1.alloc (.cells (elM x).toArray 85)).heap[w1.heap.size]? = some (.cells (elM x).toArray 85 (0, 0))) := new_el rfl
  have HSM : Hid (N < w1.heap.size ∧ N + 1 < w1.heap.size) := ⟨lt_of_block HB.out, lt_of_block HC.out⟩
  clear hA HT1 HB HC
  unfold elM at HT2 HB2 HC2 HM2
  generalize (w1.alloc (.cells _ 85)) = w2 at *
  generalize w1.heap.size = M at *
  obtain ⟨c0, c1, c2, c3⟩ := HT2.out.rb.cells ho
  have hbl := HT2.out.rb.lt
  have hgl := HT2.out.row.lt
  have hz := el_cells (x := ms0) HC2.out
  have hzl := lt_of_block HC2.out
  have hfg := HT2.out.row.free
  have hg := Row.el HT2.out.row hst
  generalize hRn : R.length = n at *
  have HRL := hid hRn
  clear hRn
  go_region
  obtain ⟨w3, hw3⟩ : ∃ w3, w3 = (puts w2 g (st * 5) ms0).drew := ⟨_, rfl⟩
  have hfx : Fr w2 w3 (fun k => k = g) := by rw [hw3]; exact (puts_fr1 _ _ _ _).drew
  have HT3 : Hid (TK w b T A C (.slice (some ⟨g, 0, none⟩) n n) st (L.length + 1) most g (R.set st ms0) w3) := by rw [hw3]; exact (HT2.out.puts HGB.out (by have := HRN.out; have := HRL.out; omega) ms0).step (Fr.refl _ _).drew
  have HB3 := hid (keep_block HB2.out hfx (by have := HSZ.out; omega))
  have HM3 := hid (keep_block HM2.out hfx (by have := HSZ.out; have := HSM.out; omega))
  unfold puts at hw3
  rw [← hw3]
  clear hw3 hfx HT2 HB2 HC2 HM2 c0 c1 c2 c3 hbl hgl hz hzl hfg hg
  obtain ⟨c0, c1, c2, c3⟩ := HT3.out.rb.cells ho
  have hbl := HT3.out.rb.lt
  have hfb := HT3.out.rb.free
  have hm3 : ((st : Int) + 1).tmod (n : Int) = (((st + 1) % n : Nat) : Int) := by rw [Int.tmod_eq_emod_of_nonneg (by omega)]; rfl
  have hm4 : ¬ n = 0 := by omega
  have hm5 : ¬ (n : Int) = 0 := by omega
  have hmw : IntKind.i64.wrap (((st + 1) % n : Nat) : Int) = (((st + 1) % n : Nat) : Int) := wrap_fit (by have := Nat.mod_lt (st + 1) (show 0 < n by omega); unfold fits; omega)
  generalize (st + 1) % n = st' at *
  go_wp2_with fail
  go_region
  obtain ⟨w4, hw4⟩ : ∃ w4, w4 = (w3.setCell ⟨b, o + 1, none⟩ (.int .i64 (st' : Int))).drew := ⟨_, rfl⟩
  have hfx : Fr w3 w4 (fun k => k = b) := by rw [hw4]; exact (set_fr _ _ _ _).drew
  have HT4 : Hid (TK w b T A C (.slice (some ⟨g, 0, none⟩) n n) st' (L.length + 1) most g (R.set st ms0) w4) := by rw [hw4]; exact (HT3.out.set1 HGB.out ho st').step (Fr.refl _ _).drew
  have HB4 := hid (keep_block HB3.out hfx (by have := HSZ.out; omega))
  have HM4 := hid (keep_block HM3.out hfx (by have := HSZ.out; have := HSM.out; omega))
  rw [← hw4]
  clear hw4 hfx HT3 HB3 HM3 c0 c1 c2 c3 hbl hfb
  obtain ⟨c0, c1, c2, c3⟩ := HT4.out.rb.cells ho
  have hbl := HT4.out.rb.lt
  have hfb := HT4.out.rb.free
  have hL1 : ((L.length + 1 : Nat) : Int) - 1 = (L.length : Int) := by omega
  have hLw : IntKind.i64.wrap (L.length : Int) = (L.length : Int) := wrap_fit (by have := HLL.out; unfold fits; omega)
  have HT5 := hid (HT4.out.set2 HGB.out ho L.length)
  have hfx := set_fr w4 b (o + 2) (.int .i64 (L.length : Int))
  have HB5 := hid (keep_block HB4.out hfx (by have := HSZ.out; omega))
  have HM5 := hid (keep_block HM4.out hfx (by have := HSZ.out; have := HSM.out; omega))
  have hcM := el_cells HM5.out
  have hcB := el_cells HB5.out
  have hlM := lt_of_block HM5.out
  have hlB := lt_of_block HB5.out
  have hfB := free_of HB5.out
  clear hfx
  generalize hLm : L.length = m at *
  have HLM := hid hLm
  clear hLm
  generalize m + 1 = m1 at *
  go_wp2_with fail
  have hp := puts_fr1 (w4.setCell ⟨b, o + 2, none⟩ (.int .i64 (m : Int))) N 0 x
  refine bodyPost_ret (resR (x := x) Try.results41 _ _ rfl (puts_new (y := ms0) HB5.out x)) rfl ⟨rfl, st', ?_⟩
  have e1 := HRL.out
  have e2 := HLM.out
  subst e1 e2
  have hs := HSZ.out
  refine ⟨HT5.out.rb.fr hp (by omega), Or.inr ⟨g, R.set st ms0, by rw [List.length_set], HT5.out.row.fr hp (by omega), HX.out, by rw [List.length_set]; exact hRl⟩, (HFP.out _ _ HT5.out.fr).mono ?_⟩
  rintro k _ (h | h)
  · exact Or.inl h
  · exact Or.inr (by simp [Value.ownBlock, h])
end Go.Proofs.Ytlgbciibhmcokaa.RM
