/- The document's table: Move: a walk. -/
import Derived.Test.YtobigmcklecbnaaRTab
import Derived.Test.YtobigmcklecbnaaTTab3
namespace Go.Proofs.Ytobigmcklecbnaa
open Go.RowKit

/-- Behind draws and a new block every old cell reads as before, and the new ones are what they are. -/
theorem alloc_rules (w : World) : (∀ m a t b o, b < w.heap.size → ((w.drewN m).alloc (.cells a t)).cell? ⟨b, o, none⟩ = w.cell? ⟨b, o, none⟩) ∧ (∀ m a t o, ((w.drewN m).alloc (.cells a t)).cell? ⟨w.heap.size, o, none⟩ = a[o]?) ∧ (∀ m a t b o, ((w.drewN m).alloc (.cells a t)).frozen? ⟨b, o, none⟩ = w.frozen? ⟨b, o, none⟩) ∧ (∀ o, w.frozen? ⟨w.heap.size, o, none⟩ = false) := by
  have hs : ∀ m, (w.drewN m).heap = w.heap := fun m => by simp
  refine ⟨?_, ?_, ?_, ?_⟩
  · intro m a t b o hb
    have h1 : ((w.drewN m).alloc (.cells a t)).heap[b]? = w.heap[b]? := by
      rw [Below.heap_alloc _ _ b (by rw [hs]; exact hb), hs]
    simp only [World.cell?, h1]
  · intro m a t o
    have h1 : ((w.drewN m).alloc (.cells a t)).heap[w.heap.size]? = some (.cells a t) := heap_last _ _ _ (by rw [hs])
    simp only [World.cell?, h1]
    rfl
  · intro m a t b o
    rw [frozen?_alloc_cells]
    simp only [World.frozen?, hs]
  · intro o
    simp [World.frozen?]

/-- The world behind 'x := row[i]': a new block that holds a place. -/
theorem x_rules (w : World) (m : Nat) (a b : Value) (k : ByteArray) (v : Value) (t : TypeId) : Fr w ((((((w.drewN m).alloc (.cells #[.bool false, .bool false, .string ⟨#[]⟩, .int .i64 0] t)).setCell ⟨w.heap.size, 0, none⟩ a).setCell ⟨w.heap.size, 1, none⟩ b).setCell ⟨w.heap.size, 2, none⟩ (.string k)).setCell ⟨w.heap.size, 3, none⟩ v) (fun _ => False) ∧
    ((((((w.drewN m).alloc (.cells #[.bool false, .bool false, .string ⟨#[]⟩, .int .i64 0] t)).setCell ⟨w.heap.size, 0, none⟩ a).setCell ⟨w.heap.size, 1, none⟩ b).setCell ⟨w.heap.size, 2, none⟩ (.string k)).setCell ⟨w.heap.size, 3, none⟩ v).heap[w.heap.size]? = some (.cells #[a, b, .string k, v] t (0, 0)) := by
  refine ⟨?_, ?_⟩
  · exact (((((Fr.refl w (fun _ => False)).drewN m).alloc _).setCell (p := ⟨w.heap.size, 0, none⟩) (fun h => absurd h (Nat.lt_irrefl _)) _).setCell (p := ⟨w.heap.size, 1, none⟩) (fun h => absurd h (Nat.lt_irrefl _)) _).setCell (p := ⟨w.heap.size, 2, none⟩) (fun h => absurd h (Nat.lt_irrefl _)) _ |>.setCell (p := ⟨w.heap.size, 3, none⟩) (fun h => absurd h (Nat.lt_irrefl _)) _
  · have h0 : ((w.drewN m).alloc (.cells #[.bool false, .bool false, .string ⟨#[]⟩, .int .i64 0] t)).heap[w.heap.size]? = some (.cells #[.bool false, .bool false, .string ⟨#[]⟩, .int .i64 0] t (0, 0)) := heap_last _ _ _ (by simp)
    exact set43 (set42 (set41 (set40 h0)))

set_option maxHeartbeats 2000000 in
set_option maxRecDepth 100000 in
theorem rmove_any {B gr : Nat} {ge : Option Nat} {T : Tb} (n : Int) (w : World) (h : RfAt w B gr ge T) :
    Calls Try.prog 46 #[.pointer (some ⟨B, 0, none⟩), .int .i64 n] w fun e w' => e = .returned (.int .i64 ((moveT (.int .i64 0) T n).left : Int)) ∧ (∃ ge', RfAt w' B gr ge' (moveT (.int .i64 0) T n) ∧ (ge' = ge ∨ ge' = none)) ∧ Fr w w' (bl B gr ge) := by
  have hlt := h.lt
  have HT := hid h
  have hel : T.left ≤ 1099511627776 := by have := h.elen; unfold Tb.left; omega
  have HM : Hid (moveT (.int .i64 0) T n = shut (ones (.int .i64 0) (min n (T.left : Int)).toNat T)) := rfl
  have HMi := hid (move_inv (.int .i64 0) h.inv n)
  have HOs := hid (fun (i : Nat) (hi : i ≤ T.left) => ones_inv (.int .i64 0) i HT.out.inv hi)
  clear h
  go_enter Try.func46, Try.ntmps46
  generalize hq : min n (T.left : Int) = q at *
  have HQ := hid hq
  clear hq
  go_wp2_with fail
  go_loopg [5] q.toNat (fun gk s5 wx => ∃ i : Nat, s5 = .int .i64 (i : Int) ∧ Hid (i + gk = q.toNat) ∧ Hid (RfAt wx B gr ge (ones (.int .i64 0) i T)) ∧ Hid (Fr w wx (bl B gr ge)))
  case atStart => exact ⟨0, rfl, by show 0 + q.toNat = _; omega, HT, Fr.refl _ _⟩
  case round =>
    obtain ⟨i, rfl, HG, HTi, HFi⟩ := hrel
    have hltr := HTi.out.lt
    have hmn : (i : Int) ≤ (T.left : Int) := by have := HG.out; have := HQ.out; omega
    obtain ⟨HUi, _, u3, u4, u5, u6⟩ := HOs.out i (by omega)
    have HSu := hid (ones_succ (.int .i64 0) i T)
    have hml : T.moved ≤ T.elder.length := HT.out.inv.mv
    have HLf : Hid (T.left = T.elder.length - T.moved) := rfl
    cases gk with
    | zero =>
      have hiq : i = q.toNat := by have := HG.out; omega
      have hqn := HQ.out
      have hi2 : ¬ (i : Int) < n → True := fun _ => trivial
      have hex : (i : Int) < n → (T.moved + i = T.elder.length) := by
        intro h
        have : i = T.left := by omega
        unfold Tb.left at this
        omega
      rw [← u3, ← u4] at hex
      rw [← hiq] at HM
      clear hi2 hqn HOs u3 u4 u5 u6 HSu hmn hml hiq
      generalize ones (.int .i64 0) i T = U at *
      obtain ⟨rv, ev, hc, hr, he⟩ := HTi.out.ex
      obtain ⟨c0, c1, c2, c3⟩ := cells4 hc
      have f1 := free4 hc 1
      have f2 := free4 hc 2
      have HC := hid hc
      have HR := hid hr
      obtain ⟨ao, cap, rfl⟩ := he.shape
      clear hc hr he c0 c3
      by_cases t1 : (i : Int) < n
      · have t2 : decide (U.moved < U.elder.length) = false := by have := hex t1; simp; omega
        have t2' : ¬ U.moved < U.elder.length := by have := hex t1; omega
        have t1' : decide ((i : Int) < n) = true := by simpa using t1
        clear hex
        by_cases hz : U.left = 0
        · have HMo : Hid (moveT (.int .i64 0) T n = ⟨U.row, [], 0, U.keys⟩) := by
            have := HM.out
            unfold shut at this
            rw [if_pos hz] at this
            exact this
          have t3 : ((U.moved : Int) == (U.elder.length : Int)) = true := by
            unfold Tb.left at hz
            have hmv := HTi.out.inv.mv
            simp
            omega
          clear hz
          go_wp2_with fail
          go_quiet (fail)
          go_wp2_with fail
          go_quiet (fail)
          go_wp2_with fail
          have HTn : Hid (∀ m : Nat, RfAt (((wr.drewN m).setCell ⟨B, 1, none⟩ (.slice none 0 0)).setCell ⟨B, 2, none⟩ (.int .i64 0)) B gr none (moveT (.int .i64 0) T n)) := by
            intro m
            rw [HMo.out]
            have hS : Fr wr (((wr.drewN m).setCell ⟨B, 1, none⟩ (.slice none 0 0)).setCell ⟨B, 2, none⟩ (.int .i64 0)) (fun b => b = B) := (((Fr.refl wr (fun b => b = B)).drewN m).setCell (p := ⟨B, 1, none⟩) (fun _ => rfl) _).setCell (p := ⟨B, 2, none⟩) (fun _ => rfl) _
            have hI := HMi.out.1.i0
            rw [HMo.out] at hI
            have h0 : (wr.drewN m).heap[B]? = _ := HC.out
            exact ⟨⟨rv, _, set42 (set41 h0), HR.out.fr hS (fun g e => by cases e; exact HTi.out.neB.1), rfl, rfl⟩, by simp, hI, HTi.out.rok, fun i hi => by simp at hi, HTi.out.len⟩
          have HFn : Hid (∀ m : Nat, Fr w (((wr.drewN m).setCell ⟨B, 1, none⟩ (.slice none 0 0)).setCell ⟨B, 2, none⟩ (.int .i64 0)) (bl B gr ge)) := fun m => ((HFi.out.drewN m).setCell (p := ⟨B, 1, none⟩) (fun _ => Or.inl rfl) _).setCell (p := ⟨B, 2, none⟩) (fun _ => Or.inl rfl) _
          refine (rleft_any _ (HTn.out _)).mono ?_
          rintro e w3 ⟨rfl, hf3⟩
          have HT3 := hid ((HTn.out _).step hf3)
          have HF3 := hid ((HFn.out _).trans2 hf3 (fun _ _ h => h.elim))
          clear hf3
          go_wp2_with fail
          go_ret
          exact ⟨rfl, ⟨none, HT3.out, Or.inr rfl⟩, HF3.out⟩
        · have HMo : Hid (moveT (.int .i64 0) T n = U) := by
            have := HM.out
            unfold shut at this
            rw [if_neg hz] at this
            exact this
          have t3 : ((U.moved : Int) == (U.elder.length : Int)) = false := by
            unfold Tb.left at hz
            simp
            omega
          clear hz
          have HL2 := hid (fun (W : World) (hW : Fr wr W (fun _ => False)) => rleft_any W (HTi.out.step hW))
          go_wp2_with fail
          go_quiet (fail)
          go_wp2_with fail
          go_quiet (fail)
          go_wp2_with fail
          refine (HL2.out _ (by repeat (first | exact Fr.refl _ _ | apply Fr.drewN | apply Fr.drew))).mono ?_
          rintro e w3 ⟨rfl, hf3⟩
          have hf3' : Fr wr w3 (fun _ => False) := ⟨hf3.os, hf3.tape, hf3.output, hf3.size, hf3.block⟩
          have HT3 := hid (HTi.out.step hf3')
          have HF3 := hid (HFi.out.trans2 hf3' (fun _ _ h => h.elim))
          clear hf3 hf3'
          go_wp2_with fail
          go_ret
          rw [HMo.out]
          exact ⟨rfl, ⟨ge, HT3.out, Or.inl rfl⟩, HF3.out⟩
      · have t1' : decide ((i : Int) < n) = false := by simpa using t1
        clear hex
        by_cases hz : U.left = 0
        · have HMo : Hid (moveT (.int .i64 0) T n = ⟨U.row, [], 0, U.keys⟩) := by
            have := HM.out
            unfold shut at this
            rw [if_pos hz] at this
            exact this
          have t3 : ((U.moved : Int) == (U.elder.length : Int)) = true := by
            unfold Tb.left at hz
            have hmv := HTi.out.inv.mv
            simp
            omega
          clear hz
          go_wp2_with fail
          go_quiet (fail)
          go_wp2_with fail
          go_quiet (fail)
          go_wp2_with fail
          have HTn : Hid (∀ m : Nat, RfAt (((wr.drewN m).setCell ⟨B, 1, none⟩ (.slice none 0 0)).setCell ⟨B, 2, none⟩ (.int .i64 0)) B gr none (moveT (.int .i64 0) T n)) := by
            intro m
            rw [HMo.out]
            have hS : Fr wr (((wr.drewN m).setCell ⟨B, 1, none⟩ (.slice none 0 0)).setCell ⟨B, 2, none⟩ (.int .i64 0)) (fun b => b = B) := (((Fr.refl wr (fun b => b = B)).drewN m).setCell (p := ⟨B, 1, none⟩) (fun _ => rfl) _).setCell (p := ⟨B, 2, none⟩) (fun _ => rfl) _
            have hI := HMi.out.1.i0
            rw [HMo.out] at hI
            have h0 : (wr.drewN m).heap[B]? = _ := HC.out
            exact ⟨⟨rv, _, set42 (set41 h0), HR.out.fr hS (fun g e => by cases e; exact HTi.out.neB.1), rfl, rfl⟩, by simp, hI, HTi.out.rok, fun i hi => by simp at hi, HTi.out.len⟩
          have HFn : Hid (∀ m : Nat, Fr w (((wr.drewN m).setCell ⟨B, 1, none⟩ (.slice none 0 0)).setCell ⟨B, 2, none⟩ (.int .i64 0)) (bl B gr ge)) := fun m => ((HFi.out.drewN m).setCell (p := ⟨B, 1, none⟩) (fun _ => Or.inl rfl) _).setCell (p := ⟨B, 2, none⟩) (fun _ => Or.inl rfl) _
          refine (rleft_any _ (HTn.out _)).mono ?_
          rintro e w3 ⟨rfl, hf3⟩
          have HT3 := hid ((HTn.out _).step hf3)
          have HF3 := hid ((HFn.out _).trans2 hf3 (fun _ _ h => h.elim))
          clear hf3
          go_wp2_with fail
          go_ret
          exact ⟨rfl, ⟨none, HT3.out, Or.inr rfl⟩, HF3.out⟩
        · have HMo : Hid (moveT (.int .i64 0) T n = U) := by
            have := HM.out
            unfold shut at this
            rw [if_neg hz] at this
            exact this
          have t3 : ((U.moved : Int) == (U.elder.length : Int)) = false := by
            unfold Tb.left at hz
            simp
            omega
          clear hz
          have HL2 := hid (fun (W : World) (hW : Fr wr W (fun _ => False)) => rleft_any W (HTi.out.step hW))
          go_wp2_with fail
          go_quiet (fail)
          go_wp2_with fail
          go_quiet (fail)
          go_wp2_with fail
          refine (HL2.out _ (by repeat (first | exact Fr.refl _ _ | apply Fr.drewN | apply Fr.drew))).mono ?_
          rintro e w3 ⟨rfl, hf3⟩
          have hf3' : Fr wr w3 (fun _ => False) := ⟨hf3.os, hf3.tape, hf3.output, hf3.size, hf3.block⟩
          have HT3 := hid (HTi.out.step hf3')
          have HF3 := hid (HFi.out.trans2 hf3' (fun _ _ h => h.elim))
          clear hf3 hf3'
          go_wp2_with fail
          go_ret
          rw [HMo.out]
          exact ⟨rfl, ⟨ge, HT3.out, Or.inl rfl⟩, HF3.out⟩
    | succ f =>
      have hi := HG.out
      have hqn := HQ.out
      have t1 : (i : Int) < n := by omega
      have ti : (i : Int) < 1099511627776 := by omega
      have hm : (ones (.int .i64 0) i T).moved < (ones (.int .i64 0) i T).elder.length := by
        rw [u3, u4]
        have : i < T.left := by omega
        unfold Tb.left at this
        omega
      clear hi hqn HOs u3 u4 u5 u6 HUi hmn hml
      generalize ones (.int .i64 0) i T = U at *
      have h := HTi.out
      cases ge with
      | none =>
        obtain ⟨rv, ev, hc, hr, he⟩ := h.ex
        rw [he.1] at hm
        simp at hm
      | some g =>
      have HOI := hid (one_inv (.int .i64 0) h.inv hm)
      have hnb := h.neB
      have hlen := h.len
      have hel := h.elen
      have hne : g ≠ gr := fun e => h.ne (by rw [e])
      obtain ⟨rv, ev, hc, hr, he⟩ := h.ex
      obtain ⟨c0, c1, c2, c3⟩ := cells4 hc
      have hz := free4 hc 2
      obtain ⟨capr, restr, rfl, hRr, hrne⟩ := hr
      obtain ⟨cape, reste, rfl, hRe, hene⟩ := he
      obtain ⟨d0, d1, d2, d3⟩ := hRe.cells U.moved hm
      have hgl := hRe.lt
      have hgrl := hRr.lt
      have t2 : (0 : Int) ≤ (U.moved : Int) := by omega
      have t3 : (U.moved : Int) < (U.elder.length : Int) := by omega
      have HgB := hid (show g ≠ B from fun e => hnb.2 (by rw [e]))
      have HgrB := hid hnb.1
      have HNe := hid hne
      have HRr := hid hRr
      have HRe := hid hRe
      have HC := hid hc
      have HVr := hid h.rok
      have HVe := hid h.eok
      have HrE := hid h.inv.row_emp
      obtain ⟨⟨x, hx⟩, hks⟩ := h.eok U.moved hm
      rw [hx] at d3
      by_cases h1 : (at' U.elder U.moved).st = 1
      · rw [(bt1 h1).1] at d0
        rw [(bt1 h1).2] at d1
        obtain ⟨r1, r2, r3, r4⟩ := alloc_rules wr
        clear h hc hRr hRe c3
        generalize hkk : (at' U.elder U.moved).key = key at *
        go_wp2_with fail
        go_quiet (fail)
        go_wp2_with fail
        have HX := hid (x_rules wr (nq + 1) (.bool true) (.bool false) key (.int .i64 x) 115)
        go_region
        go_wp2_with fail
        generalize (((((wr.drewN (nq + 1)).alloc (.cells #[.bool false, .bool false, .string ⟨#[]⟩, .int .i64 0] 115)).setCell ⟨wr.heap.size, 0, none⟩ (.bool true)).setCell ⟨wr.heap.size, 1, none⟩ (.bool false)).setCell ⟨wr.heap.size, 2, none⟩ (.string key)).setCell ⟨wr.heap.size, 3, none⟩ (.int .i64 x) = W1 at *
        have HF1 := hid HX.out.1
        have hx1 := HX.out.2
        clear HX r1 r2 r3 r4 c0 c1 c2 d0 d1 d2 d3 hz
        have HC1 := hid ((HF1.out.block B hltr (fun h => h)).trans HC.out)
        have HRr1 := hid (HRr.out.fr HF1.out (fun h => h))
        have HRe1 := hid (HRe.out.fr HF1.out (fun h => h))
        have hl := (lookL_spec key HrE.out).1
        have HFd := hid (fun (W : World) (hM : RowH W gr U.row restr) => rfind_any (cap := capr) key W hM HrE.out hks hlen)
        have HO : Hid (one (.int .i64 0) U = ⟨U.row.set (lookL U.row key).1 ⟨1, key, .int .i64 x⟩, U.elder.set U.moved (pg (.int .i64 0)), U.moved + 1, U.keys⟩) := by
          unfold Hid one
          rw [if_pos h1, hx, hkk]
          rfl
        have HNN := hid (show wr.heap.size ≠ B ∧ wr.heap.size ≠ gr ∧ wr.heap.size ≠ g by omega)
        obtain ⟨c0, c1, c2, c3⟩ := cells4 HC1.out
        obtain ⟨x0, x1, x2, x3⟩ := cells4 hx1
        have l1 := HC1.out
        have l1 := lt_of_block HC1.out
        have l2 := lt_of_block hx1
        have l3 := HRr1.out.lt
        have l4 := HRe1.out.lt
        generalize (lookL U.row key).1 = j at *
        generalize (lookL U.row key).2 = there at *
        have t4 : (0 : Int) ≤ (j : Int) := by omega
        have t5 : (j : Int) < (U.row.length : Int) := by omega
        obtain ⟨e0, e1, e2, e3⟩ := HRr1.out.cells j hl
        have f0 := HRr1.out.free (j * 4)
        have f1 := HRr1.out.free (j * 4 + 1)
        have f2 := HRr1.out.free (j * 4 + 2)
        have f3 := HRr1.out.free (j * 4 + 3)
        clear hx1 c3
        go_quiet ((go_at_call 72; exact Calls.quiet_of_same (HFd.out _ HRr1.out)))
        go_wp2_with fail
        go_region
        go_wp2_with fail
        have HX2 : Hid (Fr W1 (((((W1.drewN (nq + 1)).setCell ⟨gr, j * 4, none⟩ (.bool true)).setCell ⟨gr, j * 4 + 1, none⟩ (.bool false)).setCell ⟨gr, j * 4 + 2, none⟩ (.string key)).setCell ⟨gr, j * 4 + 3, none⟩ (.int .i64 x)) (fun b => b = gr) ∧ RowH (((((W1.drewN (nq + 1)).setCell ⟨gr, j * 4, none⟩ (.bool true)).setCell ⟨gr, j * 4 + 1, none⟩ (.bool false)).setCell ⟨gr, j * 4 + 2, none⟩ (.string key)).setCell ⟨gr, j * 4 + 3, none⟩ (.int .i64 x)) gr (U.row.set j ⟨1, key, .int .i64 x⟩) restr) :=
          ⟨set4w_fr (W1.drewN (nq + 1)) gr (j * 4) ⟨1, key, .int .i64 x⟩ ((Fr.refl W1 (fun b => b = gr)).drewN _) (fun _ => rfl), RowH.set (w := W1.drewN (nq + 1)) HRr1.out j hl ⟨1, key, .int .i64 x⟩⟩
        generalize ((((W1.drewN (nq + 1)).setCell ⟨gr, j * 4, none⟩ (.bool true)).setCell ⟨gr, j * 4 + 1, none⟩ (.bool false)).setCell ⟨gr, j * 4 + 2, none⟩ (.string key)).setCell ⟨gr, j * 4 + 3, none⟩ (.int .i64 x) = W2 at *
        have HF2 := hid HX2.out.1
        have HRr2 := hid HX2.out.2
        clear HX2 c0 c1 c2 x0 x1 x2 x3 e0 e1 e2 e3 f0 f1 f2 f3 l1 l2 l3 l4
        have HC2 := hid ((HF2.out.block B (lt_of_block HC1.out) (fun e => HgrB.out e.symm)).trans HC1.out)
        have HRe2 := hid (HRe1.out.fr HF2.out HNe.out)
        obtain ⟨c0, c1, c2, c3⟩ := cells4 HC2.out
        have l1 := lt_of_block HC2.out
        have l4 := HRe2.out.lt
        obtain ⟨d0, d1, d2, d3⟩ := HRe2.out.cells U.moved hm
        have f0 := HRe2.out.free (U.moved * 4)
        have f1 := HRe2.out.free (U.moved * 4 + 1)
        have f2 := HRe2.out.free (U.moved * 4 + 2)
        have f3 := HRe2.out.free (U.moved * 4 + 3)
        clear c0 c3
        go_region
        have HX3 : Hid (Fr W2 (((((W2.setCell ⟨g, U.moved * 4, none⟩ (.bool false)).setCell ⟨g, U.moved * 4 + 1, none⟩ (.bool true)).setCell ⟨g, U.moved * 4 + 2, none⟩ (.string ⟨#[]⟩)).setCell ⟨g, U.moved * 4 + 3, none⟩ (.int .i64 0)).drew) (fun b => b = g) ∧ RowH (((((W2.setCell ⟨g, U.moved * 4, none⟩ (.bool false)).setCell ⟨g, U.moved * 4 + 1, none⟩ (.bool true)).setCell ⟨g, U.moved * 4 + 2, none⟩ (.string ⟨#[]⟩)).setCell ⟨g, U.moved * 4 + 3, none⟩ (.int .i64 0)).drew) g (U.elder.set U.moved (pg (.int .i64 0))) reste) :=
          ⟨(set4w_fr W2 g (U.moved * 4) (pg (.int .i64 0)) (Fr.refl W2 (fun b => b = g)) (fun _ => rfl)).drew, RowH.set (w := W2) HRe2.out U.moved hm (pg (.int .i64 0))⟩
        generalize ((((W2.setCell ⟨g, U.moved * 4, none⟩ (.bool false)).setCell ⟨g, U.moved * 4 + 1, none⟩ (.bool true)).setCell ⟨g, U.moved * 4 + 2, none⟩ (.string ⟨#[]⟩)).setCell ⟨g, U.moved * 4 + 3, none⟩ (.int .i64 0)).drew = W3 at *
        have HF3 := hid HX3.out.1
        have HRe3 := hid HX3.out.2
        clear HX3 c1 c2 d0 d1 d2 d3 f0 f1 f2 f3 l1 l4
        have HC3 := hid ((HF3.out.block B (lt_of_block HC2.out) (fun e => HgB.out e.symm)).trans HC2.out)
        have HRr3 := hid (HRr2.out.fr HF3.out (fun e => HNe.out e.symm))
        obtain ⟨c0, c1, c2, c3⟩ := cells4 HC3.out
        have hz := free4 HC3.out 2
        have l1 := lt_of_block HC3.out
        clear c0 c1 c3
        go_wp2_with fail
        go_roundg f
        case measure => omega
        case rel =>
          refine ⟨i + 1, by go_num, by have := HG.out; show i + 1 + f = q.toNat; omega, ?_, ?_⟩
          · show RfAt _ B gr (some g) (ones (.int .i64 0) (i + 1) T)
            rw [HSu.out]
            have hOI := HOI.out.1
            rw [HO.out] at hOI ⊢
            have hS := set_fr W3 ⟨B, 2, none⟩ (.int .i64 ((U.moved : Int) + 1))
            refine ⟨⟨_, _, set42 HC3.out, ⟨capr, restr, by rw [List.length_set], HRr3.out.fr hS HgrB.out, ?_⟩, ⟨cape, reste, by rw [List.length_set], HRe3.out.fr hS HgB.out, ?_⟩⟩, fun e => HNe.out (by cases e; rfl), hOI, HVr.out.set j _ hl ⟨⟨x, rfl⟩, hks⟩, HVe.out.set U.moved _ hm okP_g, by rw [List.length_set]; exact hlen⟩
            · intro e
              apply hrne
              apply List.eq_nil_of_length_eq_zero
              have := congrArg List.length e
              simpa using this
            · intro e
              apply hene
              apply List.eq_nil_of_length_eq_zero
              have := congrArg List.length e
              simpa using this
          · show Fr w _ _
            refine ((((HFi.out.trans2 HF1.out (fun _ _ h => h.elim)).trans2 HF2.out (fun b _ e => Or.inr (Or.inl e))).trans2 HF3.out (fun b _ e => Or.inr (Or.inr (by rw [e]))))).trans2 (set_fr W3 ⟨B, 2, none⟩ (.int .i64 ((U.moved : Int) + 1))) (fun b _ e => Or.inl e)
      · have HX := hid (fun (m : Nat) (b : Value) => x_rules wr m (.bool false) b (at' U.elder U.moved).key (.int .i64 x) 115)
        have hbt : bt (at' U.elder U.moved) = .bool false := by
          unfold bt
          rw [show ((at' U.elder U.moved).st == 1) = false by simp; exact h1]
        rw [hbt] at d0
        have HO : Hid (one (.int .i64 0) U = ⟨U.row, U.elder, U.moved + 1, U.keys⟩) := by
          unfold Hid one
          rw [if_neg h1]
        obtain ⟨r1, r2, r3, r4⟩ := alloc_rules wr
        unfold bg at d1
        generalize decide (1 < (at' U.elder U.moved).st) = gone at *
        clear h hc hRr hRe c3 hbt
        generalize hkk : (at' U.elder U.moved).key = key at *
        go_wp2_with fail
        go_quiet (fail)
        go_wp2_with fail
        have HX := hid (HX.out (nq + 1) (.bool gone))
        go_region
        generalize (((((wr.drewN (nq + 1)).alloc (.cells #[.bool false, .bool false, .string ⟨#[]⟩, .int .i64 0] 115)).setCell ⟨wr.heap.size, 0, none⟩ (.bool false)).setCell ⟨wr.heap.size, 1, none⟩ (.bool gone)).setCell ⟨wr.heap.size, 2, none⟩ (.string key)).setCell ⟨wr.heap.size, 3, none⟩ (.int .i64 x) = W1 at *
        have HF1 := hid HX.out.1
        have hx1 := HX.out.2
        clear HX r1 r2 r3 r4 c0 c1 c2 d0 d1 d2 d3 hz
        have HC1 := hid ((HF1.out.block B hltr (fun h => h)).trans HC.out)
        have HRr1 := hid (HRr.out.fr HF1.out (fun h => h))
        have HRe1 := hid (HRe.out.fr HF1.out (fun h => h))
        obtain ⟨c0, c1, c2, c3⟩ := cells4 HC1.out
        have hz := free4 HC1.out 2
        obtain ⟨x0, x1, x2, x3⟩ := cells4 hx1
        have l1 := lt_of_block HC1.out
        have l2 := lt_of_block hx1
        clear hx1 c0 c1 c3 x1 x2 x3
        go_wp2_with fail
        go_roundg f
        case measure => omega
        case rel =>
          refine ⟨i + 1, by go_num, by have := HG.out; show i + 1 + f = q.toNat; omega, ?_, ?_⟩
          · show RfAt _ B gr (some g) (ones (.int .i64 0) (i + 1) T)
            rw [HSu.out]
            have hOI := HOI.out.1
            rw [HO.out] at hOI ⊢
            have hS := set_fr W1 ⟨B, 2, none⟩ (.int .i64 ((U.moved : Int) + 1))
            exact ⟨⟨_, _, set42 HC1.out, ⟨capr, restr, rfl, HRr1.out.fr hS HgrB.out, hrne⟩, ⟨cape, reste, rfl, HRe1.out.fr hS HgB.out, hene⟩⟩, fun e => HNe.out (by cases e; rfl), hOI, HVr.out, HVe.out, hlen⟩
          · show Fr w _ _
            exact (HFi.out.trans2 HF1.out (fun _ _ h => h.elim)).trans2 (set_fr W1 ⟨B, 2, none⟩ (.int .i64 ((U.moved : Int) + 1))) (fun b _ e => Or.inl e)
end Go.Proofs.Ytobigmcklecbnaa
