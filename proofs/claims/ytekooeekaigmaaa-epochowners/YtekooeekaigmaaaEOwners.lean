/- EpochOwners: the walk. -/
import Derived.Test.YtekooeekaigmaaaEArgs
import Derived.Test.YtekooeekaigmaaaERen
namespace Go.Proofs.Ytekooeekaigmaaa.E
open Go.RowKit Go.Maps Go.MuLone

/-- A step's box. -/
def Bx (W : World) (N : Nat) (s : Stp) : Prop := W.heap[N]? = some (.cells #[.int .i64 s.k, .int .i64 s.o, .int .i64 s.e, .bool s.l] 32 (0, 0))
theorem Bx.cells {W : World} {N : Nat} {s : Stp} (h : Bx W N s) : W.cell? ⟨N, 0, none⟩ = some (.int .i64 s.k) ∧ W.cell? ⟨N, 1, none⟩ = some (.int .i64 s.o) ∧ W.cell? ⟨N, 2, none⟩ = some (.int .i64 s.e) ∧ W.cell? ⟨N, 3, none⟩ = some (.bool s.l) := by
  refine ⟨?_, ?_, ?_, ?_⟩ <;> (rw [cell_of_row W N _ _ _ (0, 0) h]; rfl)
theorem Bx.free {W : World} {N : Nat} {s : Stp} (h : Bx W N s) (o : Nat) : W.frozen? ⟨N, o, none⟩ = false := by
  have h' : W.heap[N]? = _ := h
  simp [World.frozen?, h']
theorem Bx.new (W : World) (s : Stp) : Bx (W.alloc (.cells #[.int .i64 s.k, .int .i64 s.o, .int .i64 s.e, .bool s.l] 32)) W.heap.size s := heap_alloc_new W _
theorem Bx.lt {W : World} {N : Nat} {s : Stp} (h : Bx W N s) : N < W.heap.size := lt_of_block h
theorem Bx.fr {W W' : World} {S : Nat → Prop} {N : Nat} {s : Stp} (h : Bx W N s) (hf : Fr W W' S) (hS : ¬ S N) : Bx W' N s := (hf.block N h.lt hS).trans h
theorem Bx.kb {W W' : World} {N : Nat} {s : Stp} (h : Bx W N s) (hf : Fr W W' (KB W)) : Bx W' N s := kb_stay hf h (by decide)
theorem Bx.setO {W : World} {N : Nat} {s : Stp} (h : Bx W N s) (o : Int) : Bx (W.setCell ⟨N, 1, none⟩ (.int .i64 o)) N { s with o := o } := by
  unfold Bx
  rw [heap_setCell_same W N 1 _ _ _ h]
  rfl
/-- Two boxes. -/
def Bx2 (W : World) (N M : Nat) (s x : Stp) : Prop := Bx W N s ∧ Bx W M x
theorem Bx2.kb {W W' : World} {N M : Nat} {s x : Stp} (h : Bx2 W N M s x) (hf : Fr W W' (KB W)) : Bx2 W' N M s x := ⟨h.1.kb hf, h.2.kb hf⟩
theorem Bx2.fr {W W' : World} {N M : Nat} {s x : Stp} (h : Bx2 W N M s x) (hf : Fr W W' (fun _ => False)) : Bx2 W' N M s x := ⟨Bx.fr h.1 hf (fun h => h), Bx.fr h.2 hf (fun h => h)⟩
theorem Bx2.cells {W : World} {N M : Nat} {s x : Stp} (h : Bx2 W N M s x) : (W.cell? ⟨N, 0, none⟩ = some (.int .i64 s.k) ∧ W.cell? ⟨N, 1, none⟩ = some (.int .i64 s.o) ∧ W.cell? ⟨N, 2, none⟩ = some (.int .i64 s.e) ∧ W.cell? ⟨N, 3, none⟩ = some (.bool s.l)) ∧ (W.cell? ⟨M, 0, none⟩ = some (.int .i64 x.k) ∧ W.cell? ⟨M, 1, none⟩ = some (.int .i64 x.o) ∧ W.cell? ⟨M, 2, none⟩ = some (.int .i64 x.e) ∧ W.cell? ⟨M, 3, none⟩ = some (.bool x.l)) := ⟨h.1.cells, h.2.cells⟩
theorem Bx2.drew {W : World} {N M : Nat} {s x : Stp} (h : Bx2 W N M s x) : Bx2 W.drew N M s x := h
theorem OwI.step {w w' : World} {base : Nat} {v : Value} {l : List Int} (h : OwI w base v l) (hf : Fr w w' (fun _ => False)) : OwI w' base v l := h.fr hf (fun _ _ h => h)
theorem OwI.drew {w : World} {base : Nat} {v : Value} {l : List Int} (h : OwI w base v l) : OwI w.drew base v l := h.step ((Fr.refl _ _).drew)
theorem emod_of_tmod (a : Int) : a % 64 = if a.tmod 64 < 0 then a.tmod 64 + 64 else a.tmod 64 := by
  have hq := Int.tmod_add_mul_tdiv a 64
  have h1 : -64 < a.tmod 64 := Int.lt_tmod_of_pos a (by omega)
  have h2 : a.tmod 64 < 64 := Int.tmod_lt_of_pos a (by omega)
  split <;> omega

theorem piS_fits {d : Nat} {s : Stp} (h : s.fits) : (piS d s).fits := by
  refine ⟨h.1, ?_, h.2.2⟩
  show fits (piI d s.o)
  have := h.2.1
  unfold piI
  unfold fits at *
  split <;> omega
set_option maxHeartbeats 8000000 in
set_option maxRecDepth 100000 in
theorem owners_walk (w : World) (pins by' : Int) {v : Value} {ss : List Stp} (hs : Sc w v ss) :
    Calls Try.prog 7 #[.int .i64 pins, v, .int .i64 by'] w fun e w' => e = .returned (.bool true) ∧ Fr w w' (fun _ => False) := by
  obtain ⟨ao, cap, rfl, hsc⟩ := hs
  have HSC := hid hsc
  clear hsc
  have hm1 : -64 < by'.tmod 64 := Int.lt_tmod_of_pos by' (by omega)
  have hm2 : by'.tmod 64 < 64 := Int.tmod_lt_of_pos by' (by omega)
  by_cases hb : 3000 < ss.length ∨ pins < 1 ∨ 64 < pins
  · have HBB := hid hb
    go_enter Try.func7, Try.ntmps7
    go_wp2_with fail
    refine (known_any w).mono ?_
    rintro e w1 ⟨rfl, hf1⟩
    have HF := hid hf1
    clear hf1
    rcases hb with hb | hb | hb
    · have t1 : (3000 : Int) < (ss.length : Int) := by omega
      go_wp2_with fail
      go_ret
      exact ⟨rfl, HF.out⟩
    · by_cases t1 : (3000 : Int) < (ss.length : Int)
      · go_wp2_with fail
        go_ret
        exact ⟨rfl, HF.out⟩
      · go_wp2_with fail
        go_ret
        exact ⟨rfl, HF.out⟩
    · by_cases t1 : (3000 : Int) < (ss.length : Int)
      · go_wp2_with fail
        go_ret
        exact ⟨rfl, HF.out⟩
      · have t2 : ¬ pins < 1 := by omega
        go_wp2_with fail
        go_ret
        exact ⟨rfl, HF.out⟩
  · have t1 : ¬ (3000 : Int) < (ss.length : Int) := by omega
    have t2 : ¬ pins < 1 := by omega
    have t3 : ¬ 64 < pins := by omega
    have HP := hid (show 1 ≤ pins ∧ pins ≤ 64 by omega)
    clear hb
    go_enter Try.func7, Try.ntmps7
    go_wp2_with fail
    refine (known_any w).mono ?_
    rintro e w1 ⟨rfl, hf1⟩
    have HF := hid hf1
    clear hf1
    go_upto_if 30 with fail
    go_cut [2] (fun s wx => ∃ d : Nat, s = .int .i64 (d : Int) ∧ d < 64 ∧ w1 = wx)
    case first =>
      by_cases hq : by'.tmod 64 < 0
      · go_wp2_with fail
        go_meet
        exact ⟨(by'.tmod 64 + 64).toNat, by congr 1; omega, by omega, rfl⟩
      · go_wp2_with fail
        go_meet
        exact ⟨(by'.tmod 64).toNat, by congr 1; omega, by omega, rfl⟩
    case rest =>
      obtain ⟨d, rfl, hd, rfl⟩ := hcut
      have HD := hid hd
      clear hm1 hm2
      go_wp2_with fail
      refine (new_any pins HP.out.1 HP.out.2 _).mono ?_
      rintro e w2 ⟨A, rfl, m1, hb1, hlo1, hf2⟩
      have HA := hid (((Fm.none w1 (fun _ => 0) (fun _ => newB pins)).later HF.out).add hb1 hlo1 hf2)
      clear hb1 hlo1 hf2
      go_wp2_with fail
      refine (new_any pins HP.out.1 HP.out.2 _).mono ?_
      rintro e w3 ⟨B, rfl, m2, hb2, hlo2, hf3⟩
      have HAB := hid (HA.out.add hb2 hlo2 hf3)
      clear hb2 hlo2 hf3 HA
      generalize hBs : upd (upd (fun _ => 0) 0 A) (0 + 1) B = Bs at *
      have hA : Bs 0 = A := by rw [← hBs]; rfl
      have hB : Bs 1 = B := by rw [← hBs]; rfl
      have HBA := hid hA
      have HBB := hid hB
      clear hBs hA hB
      go_wp2_with fail
      go_loopg [11] ss.length (fun g s11 wx => ∃ (i : Nat) (st : Nat → Bo), s11 = .int .i64 (i : Int) ∧ i + g = ss.length ∧ Hid (Fm w wx 2 Bs st) ∧ Hid (Rn d (st 0) (st 1)))
      case atStart => exact ⟨0, _, rfl, by omega, HAB, Rn.new d pins⟩
      case round =>
        obtain ⟨i, st, rfl, hg, HFm, HRn⟩ := hrel
        clear HAB
        cases gk with
        | zero =>
          have t4 : ¬ (i : Int) < (ss.length : Int) := by omega
          clear hg
          go_wp2_with fail
          go_ret
          exact ⟨rfl, HFm.out.fr⟩
        | succ g =>
          have hi : i < ss.length := by omega
          have t4 : (i : Int) < (ss.length : Int) := by omega
          obtain ⟨sb, so, rfl, hst⟩ := HSC.out (by rintro rfl; simp at hi)
          obtain ⟨q0, q1, q2, q3, hfit⟩ := hst i hi
          have hbw := HFm.out.fr.below (Nat.le_refl _) (fun _ h => h.elim)
          have qb := World.block_lt_of_cell? w _ q0
          have q0 := (hbw.cell (p := ⟨sb, so + i * 4, none⟩) qb).trans q0
          have q1 := (hbw.cell (p := ⟨sb, so + i * 4 + 1, none⟩) qb).trans q1
          have q2 := (hbw.cell (p := ⟨sb, so + i * 4 + 2, none⟩) qb).trans q2
          have q3 := (hbw.cell (p := ⟨sb, so + i * 4 + 3, none⟩) qb).trans q3
          have qb2 := World.block_lt_of_cell? wr _ q0
          dsimp only at qb2
          generalize ss.getD i st0 = s at *
          obtain ⟨sk, sow, se, sl⟩ := s
          dsimp only at q0 q1 q2 q3
          have HFit := hid hfit
          have HG := hid hg
          have HI := hid hi
          clear hg hst hbw qb hfit hi
          by_cases h1 : 1 ≤ sow
          · by_cases h2 : sow ≤ 64
            · go_wp2_with fail
              have HBX : Hid (Bx2 ((wr.alloc (.cells #[.int .i64 sk, .int .i64 sow, .int .i64 se, .bool sl] 32)).alloc (.cells #[.int .i64 sk, .int .i64 ((sow - 1 + (d : Int)) % 64 + 1), .int .i64 se, .bool sl] 32)) wr.heap.size (wr.heap.size + 1) ⟨sk, sow, se, sl⟩ ⟨sk, ((sow - 1 + (d : Int)) % 64 + 1), se, sl⟩) := ⟨(Bx.new wr ⟨sk, sow, se, sl⟩).fr (alloc_fr _ _ (fun _ => False)) (fun h => h), by have := Bx.new (wr.alloc (.cells #[.int .i64 sk, .int .i64 sow, .int .i64 se, .bool sl] 32)) ⟨sk, ((sow - 1 + (d : Int)) % 64 + 1), se, sl⟩; simpa using this⟩
              have HFm := hid ((HFm.out.step (alloc_fr _ (.cells #[.int .i64 sk, .int .i64 sow, .int .i64 se, .bool sl] 32) _)).step (alloc_fr _ (.cells #[.int .i64 sk, .int .i64 ((sow - 1 + (d : Int)) % 64 + 1), .int .i64 se, .bool sl] 32) _))
              generalize (wr.alloc (.cells #[.int .i64 sk, .int .i64 sow, .int .i64 se, .bool sl] 32)).alloc (.cells #[.int .i64 sk, .int .i64 ((sow - 1 + (d : Int)) % 64 + 1), .int .i64 se, .bool sl] 32) = wb at *
              have HEq := hid (show piS d ⟨sk, sow, se, sl⟩ = ⟨sk, ((sow - 1 + (d : Int)) % 64 + 1), se, sl⟩ from by unfold piS piI; rw [if_pos (show 1 ≤ sow ∧ sow ≤ 64 by omega)])
              obtain ⟨hR1, hR2⟩ := HRn.out.step HD.out ⟨sk, sow, se, sl⟩
              rw [HEq.out] at hR1 hR2
              have HRn1 := hid hR1
              have HFitX : Hid (Stp.fits ⟨sk, ((sow - 1 + (d : Int)) % 64 + 1), se, sl⟩) := by rw [← HEq.out]; exact piS_fits HFit.out
              have HRa : Hid (∀ W, Fm w W 2 Bs st → Calls Try.prog 19 #[.pointer (some ⟨A, 0, none⟩), .agg #[.int .i64 sk, .int .i64 sow, .int .i64 se, .bool sl]] W fun x w' => x = .returned (.bool (doR (st 0) ⟨sk, sow, se, sl⟩)) ∧ Fm w w' 2 Bs (upd st 0 (doB (st 0) ⟨sk, sow, se, sl⟩)) ∧ Fr W w' (KB W)) := fun W h => h.run (by omega) HBA.out (fun m hb => do_any hb ⟨sk, sow, se, sl⟩ HFit.out)
              have HRb : Hid (∀ W, Fm w W 2 Bs (upd st 0 (doB (st 0) ⟨sk, sow, se, sl⟩)) → Calls Try.prog 19 #[.pointer (some ⟨B, 0, none⟩), .agg #[.int .i64 sk, .int .i64 ((sow - 1 + (d : Int)) % 64 + 1), .int .i64 se, .bool sl]] W fun x w' => x = .returned (.bool (doR (st 0) ⟨sk, sow, se, sl⟩)) ∧ Fm w w' 2 Bs (upd (upd st 0 (doB (st 0) ⟨sk, sow, se, sl⟩)) 1 (doB (st 1) ⟨sk, ((sow - 1 + (d : Int)) % 64 + 1), se, sl⟩)) ∧ Fr W w' (KB W)) := fun W h => by
                rw [← hR2]
                exact h.run (by omega) HBB.out (fun m hb => do_any (b := st 1) hb ⟨sk, ((sow - 1 + (d : Int)) % 64 + 1), se, sl⟩ HFitX.out)
              generalize hst2 : upd (upd st 0 (doB (st 0) ⟨sk, sow, se, sl⟩)) 1 (doB (st 1) ⟨sk, ((sow - 1 + (d : Int)) % 64 + 1), se, sl⟩) = st2 at *
              have e20 : st2 0 = doB (st 0) ⟨sk, sow, se, sl⟩ := by rw [← hst2]; rfl
              have e21 : st2 1 = doB (st 1) ⟨sk, ((sow - 1 + (d : Int)) % 64 + 1), se, sl⟩ := by rw [← hst2]; rfl
              rw [← e20, ← e21] at hR1
              have HRn2 := hid hR1
              generalize doR (st 0) ⟨sk, sow, se, sl⟩ = RR at *
              generalize upd st 0 (doB (st 0) ⟨sk, sow, se, sl⟩) = st1 at *
              have HHa : Hid (∀ W, Fm w W 2 Bs st2 → Calls Try.prog 17 #[.pointer (some ⟨A, 0, none⟩)] W fun x w' => ∃ v, x = .returned v ∧ OwI w' W.heap.size v (heldL (st2 0)) ∧ Fr W w' (fun _ => False)) := fun W h => h.ask (by omega) HBA.out (fun m hb => heldM_any hb)
              have HHb : Hid (∀ W, Fm w W 2 Bs st2 → Calls Try.prog 17 #[.pointer (some ⟨B, 0, none⟩)] W fun x w' => ∃ v, x = .returned v ∧ OwI w' W.heap.size v (heldL (st2 0)) ∧ Fr W w' (fun _ => False)) := fun W h => by
                rw [← HRn2.out.held HD.out]
                exact h.ask (by omega) HBB.out (fun m hb => heldM_any hb)
              have HDa : Hid (∀ W, Fm w W 2 Bs st2 → Calls Try.prog 18 #[.pointer (some ⟨A, 0, none⟩)] W fun x w' => ∃ v, x = .returned v ∧ OwI w' W.heap.size v (dyingL (st2 0)) ∧ Fr W w' (fun _ => False)) := fun W h => h.ask (by omega) HBA.out (fun m hb => dyingM_any hb)
              have HDb : Hid (∀ W, Fm w W 2 Bs st2 → Calls Try.prog 18 #[.pointer (some ⟨B, 0, none⟩)] W fun x w' => ∃ v, x = .returned v ∧ OwI w' W.heap.size v (dyingL (st2 0)) ∧ Fr W w' (fun _ => False)) := fun W h => by
                rw [← HRn2.out.dying]
                exact h.ask (by omega) HBB.out (fun m hb => dyingM_any hb)
              have HNa : Hid (∀ W, Fm w W 2 Bs st2 → Calls Try.prog 21 #[.pointer (some ⟨A, 0, none⟩)] W fun x w' => x = .returned (.int .i64 (st2 0).now) ∧ Fr W w' (fun _ => False)) := fun W h => h.ask (by omega) HBA.out (fun m hb => now_any hb)
              have HNb : Hid (∀ W, Fm w W 2 Bs st2 → Calls Try.prog 21 #[.pointer (some ⟨B, 0, none⟩)] W fun x w' => x = .returned (.int .i64 (st2 0).now) ∧ Fr W w' (fun _ => False)) := fun W h => by
                rw [← HRn2.out.now]
                exact h.ask (by omega) HBB.out (fun m hb => now_any hb)
              have HIn : Hid (∀ (W : World) (b1 b2 : Nat) (v u : Value) (l : List Int), OwI W b1 v l → OwI W b2 u l → Calls Try.prog 20 #[v, u] W fun e w' => e = .returned (.bool true) ∧ Fr W w' (fun _ => False)) := fun W b1 b2 v u l h1 h2 => by
                have h := ints_any h1 h2
                rwa [show eqB l l = true by simp [eqB]] at h
              generalize (st2 0).now = nn at *
              generalize heldL (st2 0) = LL at *
              generalize dyingL (st2 0) = DD at *
              generalize wr.heap.size = N1 at *
              have tok1 : Hid (0 = 0) := rfl
              have tok2 : Hid (1 = 1) := rfl
              obtain ⟨⟨x0, x1, x2, x3⟩, y0, y1, y2, y3⟩ := HBX.out.cells
              dsimp only at x0 x1 x2 x3 y0 y1 y2 y3
              clear hR1 hR2 e20 e21 hst2 HRn HRn1 HEq HFitX q0 q1 q2 q3 qb2
              go_cut [113] (fun s wx => s = .bool false ∧ Hid (Fm w wx 2 Bs st2))
              case first =>
                go_region_held3 (fun W' => Hid (Bx2 W' N1 (N1 + 1) ⟨sk, sow, se, sl⟩ ⟨sk, ((sow - 1 + (d : Int)) % 64 + 1), se, sl⟩) ∧ (W'.cell? ⟨N1, 0, none⟩ = some (.int .i64 sk) ∧ W'.cell? ⟨N1, 1, none⟩ = some (.int .i64 sow) ∧ W'.cell? ⟨N1, 2, none⟩ = some (.int .i64 se) ∧ W'.cell? ⟨N1, 3, none⟩ = some (.bool sl)) ∧ (W'.cell? ⟨N1 + 1, 0, none⟩ = some (.int .i64 sk) ∧ W'.cell? ⟨N1 + 1, 1, none⟩ = some (.int .i64 ((sow - 1 + (d : Int)) % 64 + 1)) ∧ W'.cell? ⟨N1 + 1, 2, none⟩ = some (.int .i64 se) ∧ W'.cell? ⟨N1 + 1, 3, none⟩ = some (.bool sl)))
                  ((refine (fun h => ⟨h, h.cells⟩ : Bx2 _ N1 (N1 + 1) ⟨sk, sow, se, sl⟩ ⟨sk, ((sow - 1 + (d : Int)) % 64 + 1), se, sl⟩ → _) ?_; first | with_reducible exact HBX.out | with_reducible exact Bx2.drew HBX.out | with_reducible exact Bx2.drew (Bx2.drew HBX.out)))
                  ((first
                    | (go_at_call 19; with_reducible refine (HRa.out _ (by first | with_reducible exact HFm.out | with_reducible exact Fm.drew HFm.out | with_reducible exact Fm.drew (Fm.drew HFm.out))).mono ?_; rintro xe w10 ⟨rfl, hfm, hfk⟩; have HBX := hid (Bx2.kb (by first | with_reducible exact HBX.out | with_reducible exact Bx2.drew HBX.out | with_reducible exact Bx2.drew (Bx2.drew HBX.out)) hfk); have HFm := hid hfm; clear hfm hfk)
                    | (go_at_call 19; with_reducible refine (HRb.out _ (by first | with_reducible exact HFm.out | with_reducible exact Fm.drew HFm.out | with_reducible exact Fm.drew (Fm.drew HFm.out))).mono ?_; rintro xe w11 ⟨rfl, hfm, hfk⟩; have HBX := hid (Bx2.kb (by first | with_reducible exact HBX.out | with_reducible exact Bx2.drew HBX.out | with_reducible exact Bx2.drew (Bx2.drew HBX.out)) hfk); have HFm := hid hfm; clear hfm hfk)
                    | (go_at_call 17; with_reducible refine (HHa.out _ (by first | with_reducible exact HFm.out | with_reducible exact Fm.drew HFm.out | with_reducible exact Fm.drew (Fm.drew HFm.out))).mono ?_; rintro xe w12 ⟨v12, rfl, ho, hfk⟩; have HBX := hid (Bx2.fr (by first | with_reducible exact HBX.out | with_reducible exact Bx2.drew HBX.out | with_reducible exact Bx2.drew (Bx2.drew HBX.out)) hfk); have HFm := hid (Fm.step (by first | with_reducible exact HFm.out | with_reducible exact Fm.drew HFm.out | with_reducible exact Fm.drew (Fm.drew HFm.out)) hfk); have HO1 := hid ho; clear ho hfk)
                    | (go_at_call 17; with_reducible refine (HHb.out _ (by first | with_reducible exact HFm.out | with_reducible exact Fm.drew HFm.out | with_reducible exact Fm.drew (Fm.drew HFm.out))).mono ?_; rintro xe w13 ⟨v13, rfl, ho, hfk⟩; have HBX := hid (Bx2.fr (by first | with_reducible exact HBX.out | with_reducible exact Bx2.drew HBX.out | with_reducible exact Bx2.drew (Bx2.drew HBX.out)) hfk); have HFm := hid (Fm.step (by first | with_reducible exact HFm.out | with_reducible exact Fm.drew HFm.out | with_reducible exact Fm.drew (Fm.drew HFm.out)) hfk); have HO1 := hid (OwI.step (by first | with_reducible exact HO1.out | with_reducible exact OwI.drew HO1.out | with_reducible exact OwI.drew (OwI.drew HO1.out)) hfk); have HO2 := hid ho; clear ho hfk)
                    | (go_at_call 20; have _t := tok1; with_reducible refine (HIn.out _ _ _ _ _ _ (by first | with_reducible exact HO1.out | with_reducible exact OwI.drew HO1.out | with_reducible exact OwI.drew (OwI.drew HO1.out)) (by first | with_reducible exact HO2.out | with_reducible exact OwI.drew HO2.out | with_reducible exact OwI.drew (OwI.drew HO2.out))).mono ?_; rintro xe w14 ⟨rfl, hfk⟩; have HBX := hid (Bx2.fr (by first | with_reducible exact HBX.out | with_reducible exact Bx2.drew HBX.out | with_reducible exact Bx2.drew (Bx2.drew HBX.out)) hfk); have HFm := hid (Fm.step (by first | with_reducible exact HFm.out | with_reducible exact Fm.drew HFm.out | with_reducible exact Fm.drew (Fm.drew HFm.out)) hfk); clear hfk _t tok1)
                    | (go_at_call 18; with_reducible refine (HDa.out _ (by first | with_reducible exact HFm.out | with_reducible exact Fm.drew HFm.out | with_reducible exact Fm.drew (Fm.drew HFm.out))).mono ?_; rintro xe w15 ⟨v15, rfl, ho, hfk⟩; have HBX := hid (Bx2.fr (by first | with_reducible exact HBX.out | with_reducible exact Bx2.drew HBX.out | with_reducible exact Bx2.drew (Bx2.drew HBX.out)) hfk); have HFm := hid (Fm.step (by first | with_reducible exact HFm.out | with_reducible exact Fm.drew HFm.out | with_reducible exact Fm.drew (Fm.drew HFm.out)) hfk); have HO3 := hid ho; clear ho hfk)
                    | (go_at_call 18; with_reducible refine (HDb.out _ (by first | with_reducible exact HFm.out | with_reducible exact Fm.drew HFm.out | with_reducible exact Fm.drew (Fm.drew HFm.out))).mono ?_; rintro xe w16 ⟨v16, rfl, ho, hfk⟩; have HBX := hid (Bx2.fr (by first | with_reducible exact HBX.out | with_reducible exact Bx2.drew HBX.out | with_reducible exact Bx2.drew (Bx2.drew HBX.out)) hfk); have HFm := hid (Fm.step (by first | with_reducible exact HFm.out | with_reducible exact Fm.drew HFm.out | with_reducible exact Fm.drew (Fm.drew HFm.out)) hfk); have HO3 := hid (OwI.step (by first | with_reducible exact HO3.out | with_reducible exact OwI.drew HO3.out | with_reducible exact OwI.drew (OwI.drew HO3.out)) hfk); have HO4 := hid ho; clear ho hfk)
                    | (go_at_call 20; have _t := tok2; with_reducible refine (HIn.out _ _ _ _ _ _ (by first | with_reducible exact HO3.out | with_reducible exact OwI.drew HO3.out | with_reducible exact OwI.drew (OwI.drew HO3.out)) (by first | with_reducible exact HO4.out | with_reducible exact OwI.drew HO4.out | with_reducible exact OwI.drew (OwI.drew HO4.out))).mono ?_; rintro xe w17 ⟨rfl, hfk⟩; have HBX := hid (Bx2.fr (by first | with_reducible exact HBX.out | with_reducible exact Bx2.drew HBX.out | with_reducible exact Bx2.drew (Bx2.drew HBX.out)) hfk); have HFm := hid (Fm.step (by first | with_reducible exact HFm.out | with_reducible exact Fm.drew HFm.out | with_reducible exact Fm.drew (Fm.drew HFm.out)) hfk); clear hfk _t tok2)
                    | (go_at_call 21; with_reducible refine (HNa.out _ (by first | with_reducible exact HFm.out | with_reducible exact Fm.drew HFm.out | with_reducible exact Fm.drew (Fm.drew HFm.out))).mono ?_; rintro xe w18 ⟨rfl, hfk⟩; have HBX := hid (Bx2.fr (by first | with_reducible exact HBX.out | with_reducible exact Bx2.drew HBX.out | with_reducible exact Bx2.drew (Bx2.drew HBX.out)) hfk); have HFm := hid (Fm.step (by first | with_reducible exact HFm.out | with_reducible exact Fm.drew HFm.out | with_reducible exact Fm.drew (Fm.drew HFm.out)) hfk); clear hfk)
                    | (go_at_call 21; with_reducible refine (HNb.out _ (by first | with_reducible exact HFm.out | with_reducible exact Fm.drew HFm.out | with_reducible exact Fm.drew (Fm.drew HFm.out))).mono ?_; rintro xe w19 ⟨rfl, hfk⟩; have HBX := hid (Bx2.fr (by first | with_reducible exact HBX.out | with_reducible exact Bx2.drew HBX.out | with_reducible exact Bx2.drew (Bx2.drew HBX.out)) hfk); have HFm := hid (Fm.step (by first | with_reducible exact HFm.out | with_reducible exact Fm.drew HFm.out | with_reducible exact Fm.drew (Fm.drew HFm.out)) hfk); clear hfk)))
                all_goals (go_wp2_with fail)
                all_goals go_meet
                all_goals exact ⟨rfl, HFm.out⟩
              case rest =>
                obtain ⟨rfl, HX⟩ := hcut
                go_wp2_with fail
                go_roundg g
                case rel => exact ⟨i + 1, st2, by simp, by have := HG.out; omega, HX, HRn2⟩
                case measure => omega
            · go_wp2_with fail
              have HBX : Hid (Bx2 ((wr.alloc (.cells #[.int .i64 sk, .int .i64 sow, .int .i64 se, .bool sl] 32)).alloc (.cells #[.int .i64 sk, .int .i64 sow, .int .i64 se, .bool sl] 32)) wr.heap.size (wr.heap.size + 1) ⟨sk, sow, se, sl⟩ ⟨sk, sow, se, sl⟩) := ⟨(Bx.new wr ⟨sk, sow, se, sl⟩).fr (alloc_fr _ _ (fun _ => False)) (fun h => h), by have := Bx.new (wr.alloc (.cells #[.int .i64 sk, .int .i64 sow, .int .i64 se, .bool sl] 32)) ⟨sk, sow, se, sl⟩; simpa using this⟩
              have HFm := hid ((HFm.out.step (alloc_fr _ (.cells #[.int .i64 sk, .int .i64 sow, .int .i64 se, .bool sl] 32) _)).step (alloc_fr _ (.cells #[.int .i64 sk, .int .i64 sow, .int .i64 se, .bool sl] 32) _))
              generalize (wr.alloc (.cells #[.int .i64 sk, .int .i64 sow, .int .i64 se, .bool sl] 32)).alloc (.cells #[.int .i64 sk, .int .i64 sow, .int .i64 se, .bool sl] 32) = wb at *
              have HEq := hid (show piS d ⟨sk, sow, se, sl⟩ = ⟨sk, sow, se, sl⟩ from by unfold piS piI; rw [if_neg (show ¬ (1 ≤ sow ∧ sow ≤ 64) by omega)])
              obtain ⟨hR1, hR2⟩ := HRn.out.step HD.out ⟨sk, sow, se, sl⟩
              rw [HEq.out] at hR1 hR2
              have HRn1 := hid hR1
              have HFitX : Hid (Stp.fits ⟨sk, sow, se, sl⟩) := by rw [← HEq.out]; exact piS_fits HFit.out
              have HRa : Hid (∀ W, Fm w W 2 Bs st → Calls Try.prog 19 #[.pointer (some ⟨A, 0, none⟩), .agg #[.int .i64 sk, .int .i64 sow, .int .i64 se, .bool sl]] W fun x w' => x = .returned (.bool (doR (st 0) ⟨sk, sow, se, sl⟩)) ∧ Fm w w' 2 Bs (upd st 0 (doB (st 0) ⟨sk, sow, se, sl⟩)) ∧ Fr W w' (KB W)) := fun W h => h.run (by omega) HBA.out (fun m hb => do_any hb ⟨sk, sow, se, sl⟩ HFit.out)
              have HRb : Hid (∀ W, Fm w W 2 Bs (upd st 0 (doB (st 0) ⟨sk, sow, se, sl⟩)) → Calls Try.prog 19 #[.pointer (some ⟨B, 0, none⟩), .agg #[.int .i64 sk, .int .i64 (sow), .int .i64 se, .bool sl]] W fun x w' => x = .returned (.bool (doR (st 0) ⟨sk, sow, se, sl⟩)) ∧ Fm w w' 2 Bs (upd (upd st 0 (doB (st 0) ⟨sk, sow, se, sl⟩)) 1 (doB (st 1) ⟨sk, sow, se, sl⟩)) ∧ Fr W w' (KB W)) := fun W h => by
                rw [← hR2]
                exact h.run (by omega) HBB.out (fun m hb => do_any (b := st 1) hb ⟨sk, sow, se, sl⟩ HFitX.out)
              generalize hst2 : upd (upd st 0 (doB (st 0) ⟨sk, sow, se, sl⟩)) 1 (doB (st 1) ⟨sk, sow, se, sl⟩) = st2 at *
              have e20 : st2 0 = doB (st 0) ⟨sk, sow, se, sl⟩ := by rw [← hst2]; rfl
              have e21 : st2 1 = doB (st 1) ⟨sk, sow, se, sl⟩ := by rw [← hst2]; rfl
              rw [← e20, ← e21] at hR1
              have HRn2 := hid hR1
              generalize doR (st 0) ⟨sk, sow, se, sl⟩ = RR at *
              generalize upd st 0 (doB (st 0) ⟨sk, sow, se, sl⟩) = st1 at *
              have HHa : Hid (∀ W, Fm w W 2 Bs st2 → Calls Try.prog 17 #[.pointer (some ⟨A, 0, none⟩)] W fun x w' => ∃ v, x = .returned v ∧ OwI w' W.heap.size v (heldL (st2 0)) ∧ Fr W w' (fun _ => False)) := fun W h => h.ask (by omega) HBA.out (fun m hb => heldM_any hb)
              have HHb : Hid (∀ W, Fm w W 2 Bs st2 → Calls Try.prog 17 #[.pointer (some ⟨B, 0, none⟩)] W fun x w' => ∃ v, x = .returned v ∧ OwI w' W.heap.size v (heldL (st2 0)) ∧ Fr W w' (fun _ => False)) := fun W h => by
                rw [← HRn2.out.held HD.out]
                exact h.ask (by omega) HBB.out (fun m hb => heldM_any hb)
              have HDa : Hid (∀ W, Fm w W 2 Bs st2 → Calls Try.prog 18 #[.pointer (some ⟨A, 0, none⟩)] W fun x w' => ∃ v, x = .returned v ∧ OwI w' W.heap.size v (dyingL (st2 0)) ∧ Fr W w' (fun _ => False)) := fun W h => h.ask (by omega) HBA.out (fun m hb => dyingM_any hb)
              have HDb : Hid (∀ W, Fm w W 2 Bs st2 → Calls Try.prog 18 #[.pointer (some ⟨B, 0, none⟩)] W fun x w' => ∃ v, x = .returned v ∧ OwI w' W.heap.size v (dyingL (st2 0)) ∧ Fr W w' (fun _ => False)) := fun W h => by
                rw [← HRn2.out.dying]
                exact h.ask (by omega) HBB.out (fun m hb => dyingM_any hb)
              have HNa : Hid (∀ W, Fm w W 2 Bs st2 → Calls Try.prog 21 #[.pointer (some ⟨A, 0, none⟩)] W fun x w' => x = .returned (.int .i64 (st2 0).now) ∧ Fr W w' (fun _ => False)) := fun W h => h.ask (by omega) HBA.out (fun m hb => now_any hb)
              have HNb : Hid (∀ W, Fm w W 2 Bs st2 → Calls Try.prog 21 #[.pointer (some ⟨B, 0, none⟩)] W fun x w' => x = .returned (.int .i64 (st2 0).now) ∧ Fr W w' (fun _ => False)) := fun W h => by
                rw [← HRn2.out.now]
                exact h.ask (by omega) HBB.out (fun m hb => now_any hb)
              have HIn : Hid (∀ (W : World) (b1 b2 : Nat) (v u : Value) (l : List Int), OwI W b1 v l → OwI W b2 u l → Calls Try.prog 20 #[v, u] W fun e w' => e = .returned (.bool true) ∧ Fr W w' (fun _ => False)) := fun W b1 b2 v u l h1 h2 => by
                have h := ints_any h1 h2
                rwa [show eqB l l = true by simp [eqB]] at h
              generalize (st2 0).now = nn at *
              generalize heldL (st2 0) = LL at *
              generalize dyingL (st2 0) = DD at *
              generalize wr.heap.size = N1 at *
              have tok1 : Hid (0 = 0) := rfl
              have tok2 : Hid (1 = 1) := rfl
              obtain ⟨⟨x0, x1, x2, x3⟩, y0, y1, y2, y3⟩ := HBX.out.cells
              dsimp only at x0 x1 x2 x3 y0 y1 y2 y3
              clear hR1 hR2 e20 e21 hst2 HRn HRn1 HEq HFitX q0 q1 q2 q3 qb2
              go_cut [113] (fun s wx => s = .bool false ∧ Hid (Fm w wx 2 Bs st2))
              case first =>
                go_region_held3 (fun W' => Hid (Bx2 W' N1 (N1 + 1) ⟨sk, sow, se, sl⟩ ⟨sk, sow, se, sl⟩) ∧ (W'.cell? ⟨N1, 0, none⟩ = some (.int .i64 sk) ∧ W'.cell? ⟨N1, 1, none⟩ = some (.int .i64 sow) ∧ W'.cell? ⟨N1, 2, none⟩ = some (.int .i64 se) ∧ W'.cell? ⟨N1, 3, none⟩ = some (.bool sl)) ∧ (W'.cell? ⟨N1 + 1, 0, none⟩ = some (.int .i64 sk) ∧ W'.cell? ⟨N1 + 1, 1, none⟩ = some (.int .i64 (sow)) ∧ W'.cell? ⟨N1 + 1, 2, none⟩ = some (.int .i64 se) ∧ W'.cell? ⟨N1 + 1, 3, none⟩ = some (.bool sl)))
                  ((refine (fun h => ⟨h, h.cells⟩ : Bx2 _ N1 (N1 + 1) ⟨sk, sow, se, sl⟩ ⟨sk, sow, se, sl⟩ → _) ?_; first | with_reducible exact HBX.out | with_reducible exact Bx2.drew HBX.out | with_reducible exact Bx2.drew (Bx2.drew HBX.out)))
                  ((first
                    | (go_at_call 19; with_reducible refine (HRa.out _ (by first | with_reducible exact HFm.out | with_reducible exact Fm.drew HFm.out | with_reducible exact Fm.drew (Fm.drew HFm.out))).mono ?_; rintro xe w10 ⟨rfl, hfm, hfk⟩; have HBX := hid (Bx2.kb (by first | with_reducible exact HBX.out | with_reducible exact Bx2.drew HBX.out | with_reducible exact Bx2.drew (Bx2.drew HBX.out)) hfk); have HFm := hid hfm; clear hfm hfk)
                    | (go_at_call 19; with_reducible refine (HRb.out _ (by first | with_reducible exact HFm.out | with_reducible exact Fm.drew HFm.out | with_reducible exact Fm.drew (Fm.drew HFm.out))).mono ?_; rintro xe w11 ⟨rfl, hfm, hfk⟩; have HBX := hid (Bx2.kb (by first | with_reducible exact HBX.out | with_reducible exact Bx2.drew HBX.out | with_reducible exact Bx2.drew (Bx2.drew HBX.out)) hfk); have HFm := hid hfm; clear hfm hfk)
                    | (go_at_call 17; with_reducible refine (HHa.out _ (by first | with_reducible exact HFm.out | with_reducible exact Fm.drew HFm.out | with_reducible exact Fm.drew (Fm.drew HFm.out))).mono ?_; rintro xe w12 ⟨v12, rfl, ho, hfk⟩; have HBX := hid (Bx2.fr (by first | with_reducible exact HBX.out | with_reducible exact Bx2.drew HBX.out | with_reducible exact Bx2.drew (Bx2.drew HBX.out)) hfk); have HFm := hid (Fm.step (by first | with_reducible exact HFm.out | with_reducible exact Fm.drew HFm.out | with_reducible exact Fm.drew (Fm.drew HFm.out)) hfk); have HO1 := hid ho; clear ho hfk)
                    | (go_at_call 17; with_reducible refine (HHb.out _ (by first | with_reducible exact HFm.out | with_reducible exact Fm.drew HFm.out | with_reducible exact Fm.drew (Fm.drew HFm.out))).mono ?_; rintro xe w13 ⟨v13, rfl, ho, hfk⟩; have HBX := hid (Bx2.fr (by first | with_reducible exact HBX.out | with_reducible exact Bx2.drew HBX.out | with_reducible exact Bx2.drew (Bx2.drew HBX.out)) hfk); have HFm := hid (Fm.step (by first | with_reducible exact HFm.out | with_reducible exact Fm.drew HFm.out | with_reducible exact Fm.drew (Fm.drew HFm.out)) hfk); have HO1 := hid (OwI.step (by first | with_reducible exact HO1.out | with_reducible exact OwI.drew HO1.out | with_reducible exact OwI.drew (OwI.drew HO1.out)) hfk); have HO2 := hid ho; clear ho hfk)
                    | (go_at_call 20; have _t := tok1; with_reducible refine (HIn.out _ _ _ _ _ _ (by first | with_reducible exact HO1.out | with_reducible exact OwI.drew HO1.out | with_reducible exact OwI.drew (OwI.drew HO1.out)) (by first | with_reducible exact HO2.out | with_reducible exact OwI.drew HO2.out | with_reducible exact OwI.drew (OwI.drew HO2.out))).mono ?_; rintro xe w14 ⟨rfl, hfk⟩; have HBX := hid (Bx2.fr (by first | with_reducible exact HBX.out | with_reducible exact Bx2.drew HBX.out | with_reducible exact Bx2.drew (Bx2.drew HBX.out)) hfk); have HFm := hid (Fm.step (by first | with_reducible exact HFm.out | with_reducible exact Fm.drew HFm.out | with_reducible exact Fm.drew (Fm.drew HFm.out)) hfk); clear hfk _t tok1)
                    | (go_at_call 18; with_reducible refine (HDa.out _ (by first | with_reducible exact HFm.out | with_reducible exact Fm.drew HFm.out | with_reducible exact Fm.drew (Fm.drew HFm.out))).mono ?_; rintro xe w15 ⟨v15, rfl, ho, hfk⟩; have HBX := hid (Bx2.fr (by first | with_reducible exact HBX.out | with_reducible exact Bx2.drew HBX.out | with_reducible exact Bx2.drew (Bx2.drew HBX.out)) hfk); have HFm := hid (Fm.step (by first | with_reducible exact HFm.out | with_reducible exact Fm.drew HFm.out | with_reducible exact Fm.drew (Fm.drew HFm.out)) hfk); have HO3 := hid ho; clear ho hfk)
                    | (go_at_call 18; with_reducible refine (HDb.out _ (by first | with_reducible exact HFm.out | with_reducible exact Fm.drew HFm.out | with_reducible exact Fm.drew (Fm.drew HFm.out))).mono ?_; rintro xe w16 ⟨v16, rfl, ho, hfk⟩; have HBX := hid (Bx2.fr (by first | with_reducible exact HBX.out | with_reducible exact Bx2.drew HBX.out | with_reducible exact Bx2.drew (Bx2.drew HBX.out)) hfk); have HFm := hid (Fm.step (by first | with_reducible exact HFm.out | with_reducible exact Fm.drew HFm.out | with_reducible exact Fm.drew (Fm.drew HFm.out)) hfk); have HO3 := hid (OwI.step (by first | with_reducible exact HO3.out | with_reducible exact OwI.drew HO3.out | with_reducible exact OwI.drew (OwI.drew HO3.out)) hfk); have HO4 := hid ho; clear ho hfk)
                    | (go_at_call 20; have _t := tok2; with_reducible refine (HIn.out _ _ _ _ _ _ (by first | with_reducible exact HO3.out | with_reducible exact OwI.drew HO3.out | with_reducible exact OwI.drew (OwI.drew HO3.out)) (by first | with_reducible exact HO4.out | with_reducible exact OwI.drew HO4.out | with_reducible exact OwI.drew (OwI.drew HO4.out))).mono ?_; rintro xe w17 ⟨rfl, hfk⟩; have HBX := hid (Bx2.fr (by first | with_reducible exact HBX.out | with_reducible exact Bx2.drew HBX.out | with_reducible exact Bx2.drew (Bx2.drew HBX.out)) hfk); have HFm := hid (Fm.step (by first | with_reducible exact HFm.out | with_reducible exact Fm.drew HFm.out | with_reducible exact Fm.drew (Fm.drew HFm.out)) hfk); clear hfk _t tok2)
                    | (go_at_call 21; with_reducible refine (HNa.out _ (by first | with_reducible exact HFm.out | with_reducible exact Fm.drew HFm.out | with_reducible exact Fm.drew (Fm.drew HFm.out))).mono ?_; rintro xe w18 ⟨rfl, hfk⟩; have HBX := hid (Bx2.fr (by first | with_reducible exact HBX.out | with_reducible exact Bx2.drew HBX.out | with_reducible exact Bx2.drew (Bx2.drew HBX.out)) hfk); have HFm := hid (Fm.step (by first | with_reducible exact HFm.out | with_reducible exact Fm.drew HFm.out | with_reducible exact Fm.drew (Fm.drew HFm.out)) hfk); clear hfk)
                    | (go_at_call 21; with_reducible refine (HNb.out _ (by first | with_reducible exact HFm.out | with_reducible exact Fm.drew HFm.out | with_reducible exact Fm.drew (Fm.drew HFm.out))).mono ?_; rintro xe w19 ⟨rfl, hfk⟩; have HBX := hid (Bx2.fr (by first | with_reducible exact HBX.out | with_reducible exact Bx2.drew HBX.out | with_reducible exact Bx2.drew (Bx2.drew HBX.out)) hfk); have HFm := hid (Fm.step (by first | with_reducible exact HFm.out | with_reducible exact Fm.drew HFm.out | with_reducible exact Fm.drew (Fm.drew HFm.out)) hfk); clear hfk)))
                all_goals (go_wp2_with fail)
                all_goals go_meet
                all_goals exact ⟨rfl, HFm.out⟩
              case rest =>
                obtain ⟨rfl, HX⟩ := hcut
                go_wp2_with fail
                go_roundg g
                case rel => exact ⟨i + 1, st2, by simp, by have := HG.out; omega, HX, HRn2⟩
                case measure => omega
          · go_wp2_with fail
            have HBX : Hid (Bx2 ((wr.alloc (.cells #[.int .i64 sk, .int .i64 sow, .int .i64 se, .bool sl] 32)).alloc (.cells #[.int .i64 sk, .int .i64 sow, .int .i64 se, .bool sl] 32)) wr.heap.size (wr.heap.size + 1) ⟨sk, sow, se, sl⟩ ⟨sk, sow, se, sl⟩) := ⟨(Bx.new wr ⟨sk, sow, se, sl⟩).fr (alloc_fr _ _ (fun _ => False)) (fun h => h), by have := Bx.new (wr.alloc (.cells #[.int .i64 sk, .int .i64 sow, .int .i64 se, .bool sl] 32)) ⟨sk, sow, se, sl⟩; simpa using this⟩
            have HFm := hid ((HFm.out.step (alloc_fr _ (.cells #[.int .i64 sk, .int .i64 sow, .int .i64 se, .bool sl] 32) _)).step (alloc_fr _ (.cells #[.int .i64 sk, .int .i64 sow, .int .i64 se, .bool sl] 32) _))
            generalize (wr.alloc (.cells #[.int .i64 sk, .int .i64 sow, .int .i64 se, .bool sl] 32)).alloc (.cells #[.int .i64 sk, .int .i64 sow, .int .i64 se, .bool sl] 32) = wb at *
            have HEq := hid (show piS d ⟨sk, sow, se, sl⟩ = ⟨sk, sow, se, sl⟩ from by unfold piS piI; rw [if_neg (show ¬ (1 ≤ sow ∧ sow ≤ 64) by omega)])
            obtain ⟨hR1, hR2⟩ := HRn.out.step HD.out ⟨sk, sow, se, sl⟩
            rw [HEq.out] at hR1 hR2
            have HRn1 := hid hR1
            have HFitX : Hid (Stp.fits ⟨sk, sow, se, sl⟩) := by rw [← HEq.out]; exact piS_fits HFit.out
            have HRa : Hid (∀ W, Fm w W 2 Bs st → Calls Try.prog 19 #[.pointer (some ⟨A, 0, none⟩), .agg #[.int .i64 sk, .int .i64 sow, .int .i64 se, .bool sl]] W fun x w' => x = .returned (.bool (doR (st 0) ⟨sk, sow, se, sl⟩)) ∧ Fm w w' 2 Bs (upd st 0 (doB (st 0) ⟨sk, sow, se, sl⟩)) ∧ Fr W w' (KB W)) := fun W h => h.run (by omega) HBA.out (fun m hb => do_any hb ⟨sk, sow, se, sl⟩ HFit.out)
            have HRb : Hid (∀ W, Fm w W 2 Bs (upd st 0 (doB (st 0) ⟨sk, sow, se, sl⟩)) → Calls Try.prog 19 #[.pointer (some ⟨B, 0, none⟩), .agg #[.int .i64 sk, .int .i64 (sow), .int .i64 se, .bool sl]] W fun x w' => x = .returned (.bool (doR (st 0) ⟨sk, sow, se, sl⟩)) ∧ Fm w w' 2 Bs (upd (upd st 0 (doB (st 0) ⟨sk, sow, se, sl⟩)) 1 (doB (st 1) ⟨sk, sow, se, sl⟩)) ∧ Fr W w' (KB W)) := fun W h => by
              rw [← hR2]
              exact h.run (by omega) HBB.out (fun m hb => do_any (b := st 1) hb ⟨sk, sow, se, sl⟩ HFitX.out)
            generalize hst2 : upd (upd st 0 (doB (st 0) ⟨sk, sow, se, sl⟩)) 1 (doB (st 1) ⟨sk, sow, se, sl⟩) = st2 at *
            have e20 : st2 0 = doB (st 0) ⟨sk, sow, se, sl⟩ := by rw [← hst2]; rfl
            have e21 : st2 1 = doB (st 1) ⟨sk, sow, se, sl⟩ := by rw [← hst2]; rfl
            rw [← e20, ← e21] at hR1
            have HRn2 := hid hR1
            generalize doR (st 0) ⟨sk, sow, se, sl⟩ = RR at *
            generalize upd st 0 (doB (st 0) ⟨sk, sow, se, sl⟩) = st1 at *
            have HHa : Hid (∀ W, Fm w W 2 Bs st2 → Calls Try.prog 17 #[.pointer (some ⟨A, 0, none⟩)] W fun x w' => ∃ v, x = .returned v ∧ OwI w' W.heap.size v (heldL (st2 0)) ∧ Fr W w' (fun _ => False)) := fun W h => h.ask (by omega) HBA.out (fun m hb => heldM_any hb)
            have HHb : Hid (∀ W, Fm w W 2 Bs st2 → Calls Try.prog 17 #[.pointer (some ⟨B, 0, none⟩)] W fun x w' => ∃ v, x = .returned v ∧ OwI w' W.heap.size v (heldL (st2 0)) ∧ Fr W w' (fun _ => False)) := fun W h => by
              rw [← HRn2.out.held HD.out]
              exact h.ask (by omega) HBB.out (fun m hb => heldM_any hb)
            have HDa : Hid (∀ W, Fm w W 2 Bs st2 → Calls Try.prog 18 #[.pointer (some ⟨A, 0, none⟩)] W fun x w' => ∃ v, x = .returned v ∧ OwI w' W.heap.size v (dyingL (st2 0)) ∧ Fr W w' (fun _ => False)) := fun W h => h.ask (by omega) HBA.out (fun m hb => dyingM_any hb)
            have HDb : Hid (∀ W, Fm w W 2 Bs st2 → Calls Try.prog 18 #[.pointer (some ⟨B, 0, none⟩)] W fun x w' => ∃ v, x = .returned v ∧ OwI w' W.heap.size v (dyingL (st2 0)) ∧ Fr W w' (fun _ => False)) := fun W h => by
              rw [← HRn2.out.dying]
              exact h.ask (by omega) HBB.out (fun m hb => dyingM_any hb)
            have HNa : Hid (∀ W, Fm w W 2 Bs st2 → Calls Try.prog 21 #[.pointer (some ⟨A, 0, none⟩)] W fun x w' => x = .returned (.int .i64 (st2 0).now) ∧ Fr W w' (fun _ => False)) := fun W h => h.ask (by omega) HBA.out (fun m hb => now_any hb)
            have HNb : Hid (∀ W, Fm w W 2 Bs st2 → Calls Try.prog 21 #[.pointer (some ⟨B, 0, none⟩)] W fun x w' => x = .returned (.int .i64 (st2 0).now) ∧ Fr W w' (fun _ => False)) := fun W h => by
              rw [← HRn2.out.now]
              exact h.ask (by omega) HBB.out (fun m hb => now_any hb)
            have HIn : Hid (∀ (W : World) (b1 b2 : Nat) (v u : Value) (l : List Int), OwI W b1 v l → OwI W b2 u l → Calls Try.prog 20 #[v, u] W fun e w' => e = .returned (.bool true) ∧ Fr W w' (fun _ => False)) := fun W b1 b2 v u l h1 h2 => by
              have h := ints_any h1 h2
              rwa [show eqB l l = true by simp [eqB]] at h
            generalize (st2 0).now = nn at *
            generalize heldL (st2 0) = LL at *
            generalize dyingL (st2 0) = DD at *
            generalize wr.heap.size = N1 at *
            have tok1 : Hid (0 = 0) := rfl
            have tok2 : Hid (1 = 1) := rfl
            obtain ⟨⟨x0, x1, x2, x3⟩, y0, y1, y2, y3⟩ := HBX.out.cells
            dsimp only at x0 x1 x2 x3 y0 y1 y2 y3
            clear hR1 hR2 e20 e21 hst2 HRn HRn1 HEq HFitX q0 q1 q2 q3 qb2
            go_cut [113] (fun s wx => s = .bool false ∧ Hid (Fm w wx 2 Bs st2))
            case first =>
              go_region_held3 (fun W' => Hid (Bx2 W' N1 (N1 + 1) ⟨sk, sow, se, sl⟩ ⟨sk, sow, se, sl⟩) ∧ (W'.cell? ⟨N1, 0, none⟩ = some (.int .i64 sk) ∧ W'.cell? ⟨N1, 1, none⟩ = some (.int .i64 sow) ∧ W'.cell? ⟨N1, 2, none⟩ = some (.int .i64 se) ∧ W'.cell? ⟨N1, 3, none⟩ = some (.bool sl)) ∧ (W'.cell? ⟨N1 + 1, 0, none⟩ = some (.int .i64 sk) ∧ W'.cell? ⟨N1 + 1, 1, none⟩ = some (.int .i64 (sow)) ∧ W'.cell? ⟨N1 + 1, 2, none⟩ = some (.int .i64 se) ∧ W'.cell? ⟨N1 + 1, 3, none⟩ = some (.bool sl)))
                ((refine (fun h => ⟨h, h.cells⟩ : Bx2 _ N1 (N1 + 1) ⟨sk, sow, se, sl⟩ ⟨sk, sow, se, sl⟩ → _) ?_; first | with_reducible exact HBX.out | with_reducible exact Bx2.drew HBX.out | with_reducible exact Bx2.drew (Bx2.drew HBX.out)))
                ((first
                  | (go_at_call 19; with_reducible refine (HRa.out _ (by first | with_reducible exact HFm.out | with_reducible exact Fm.drew HFm.out | with_reducible exact Fm.drew (Fm.drew HFm.out))).mono ?_; rintro xe w10 ⟨rfl, hfm, hfk⟩; have HBX := hid (Bx2.kb (by first | with_reducible exact HBX.out | with_reducible exact Bx2.drew HBX.out | with_reducible exact Bx2.drew (Bx2.drew HBX.out)) hfk); have HFm := hid hfm; clear hfm hfk)
                  | (go_at_call 19; with_reducible refine (HRb.out _ (by first | with_reducible exact HFm.out | with_reducible exact Fm.drew HFm.out | with_reducible exact Fm.drew (Fm.drew HFm.out))).mono ?_; rintro xe w11 ⟨rfl, hfm, hfk⟩; have HBX := hid (Bx2.kb (by first | with_reducible exact HBX.out | with_reducible exact Bx2.drew HBX.out | with_reducible exact Bx2.drew (Bx2.drew HBX.out)) hfk); have HFm := hid hfm; clear hfm hfk)
                  | (go_at_call 17; with_reducible refine (HHa.out _ (by first | with_reducible exact HFm.out | with_reducible exact Fm.drew HFm.out | with_reducible exact Fm.drew (Fm.drew HFm.out))).mono ?_; rintro xe w12 ⟨v12, rfl, ho, hfk⟩; have HBX := hid (Bx2.fr (by first | with_reducible exact HBX.out | with_reducible exact Bx2.drew HBX.out | with_reducible exact Bx2.drew (Bx2.drew HBX.out)) hfk); have HFm := hid (Fm.step (by first | with_reducible exact HFm.out | with_reducible exact Fm.drew HFm.out | with_reducible exact Fm.drew (Fm.drew HFm.out)) hfk); have HO1 := hid ho; clear ho hfk)
                  | (go_at_call 17; with_reducible refine (HHb.out _ (by first | with_reducible exact HFm.out | with_reducible exact Fm.drew HFm.out | with_reducible exact Fm.drew (Fm.drew HFm.out))).mono ?_; rintro xe w13 ⟨v13, rfl, ho, hfk⟩; have HBX := hid (Bx2.fr (by first | with_reducible exact HBX.out | with_reducible exact Bx2.drew HBX.out | with_reducible exact Bx2.drew (Bx2.drew HBX.out)) hfk); have HFm := hid (Fm.step (by first | with_reducible exact HFm.out | with_reducible exact Fm.drew HFm.out | with_reducible exact Fm.drew (Fm.drew HFm.out)) hfk); have HO1 := hid (OwI.step (by first | with_reducible exact HO1.out | with_reducible exact OwI.drew HO1.out | with_reducible exact OwI.drew (OwI.drew HO1.out)) hfk); have HO2 := hid ho; clear ho hfk)
                  | (go_at_call 20; have _t := tok1; with_reducible refine (HIn.out _ _ _ _ _ _ (by first | with_reducible exact HO1.out | with_reducible exact OwI.drew HO1.out | with_reducible exact OwI.drew (OwI.drew HO1.out)) (by first | with_reducible exact HO2.out | with_reducible exact OwI.drew HO2.out | with_reducible exact OwI.drew (OwI.drew HO2.out))).mono ?_; rintro xe w14 ⟨rfl, hfk⟩; have HBX := hid (Bx2.fr (by first | with_reducible exact HBX.out | with_reducible exact Bx2.drew HBX.out | with_reducible exact Bx2.drew (Bx2.drew HBX.out)) hfk); have HFm := hid (Fm.step (by first | with_reducible exact HFm.out | with_reducible exact Fm.drew HFm.out | with_reducible exact Fm.drew (Fm.drew HFm.out)) hfk); clear hfk _t tok1)
                  | (go_at_call 18; with_reducible refine (HDa.out _ (by first | with_reducible exact HFm.out | with_reducible exact Fm.drew HFm.out | with_reducible exact Fm.drew (Fm.drew HFm.out))).mono ?_; rintro xe w15 ⟨v15, rfl, ho, hfk⟩; have HBX := hid (Bx2.fr (by first | with_reducible exact HBX.out | with_reducible exact Bx2.drew HBX.out | with_reducible exact Bx2.drew (Bx2.drew HBX.out)) hfk); have HFm := hid (Fm.step (by first | with_reducible exact HFm.out | with_reducible exact Fm.drew HFm.out | with_reducible exact Fm.drew (Fm.drew HFm.out)) hfk); have HO3 := hid ho; clear ho hfk)
                  | (go_at_call 18; with_reducible refine (HDb.out _ (by first | with_reducible exact HFm.out | with_reducible exact Fm.drew HFm.out | with_reducible exact Fm.drew (Fm.drew HFm.out))).mono ?_; rintro xe w16 ⟨v16, rfl, ho, hfk⟩; have HBX := hid (Bx2.fr (by first | with_reducible exact HBX.out | with_reducible exact Bx2.drew HBX.out | with_reducible exact Bx2.drew (Bx2.drew HBX.out)) hfk); have HFm := hid (Fm.step (by first | with_reducible exact HFm.out | with_reducible exact Fm.drew HFm.out | with_reducible exact Fm.drew (Fm.drew HFm.out)) hfk); have HO3 := hid (OwI.step (by first | with_reducible exact HO3.out | with_reducible exact OwI.drew HO3.out | with_reducible exact OwI.drew (OwI.drew HO3.out)) hfk); have HO4 := hid ho; clear ho hfk)
                  | (go_at_call 20; have _t := tok2; with_reducible refine (HIn.out _ _ _ _ _ _ (by first | with_reducible exact HO3.out | with_reducible exact OwI.drew HO3.out | with_reducible exact OwI.drew (OwI.drew HO3.out)) (by first | with_reducible exact HO4.out | with_reducible exact OwI.drew HO4.out | with_reducible exact OwI.drew (OwI.drew HO4.out))).mono ?_; rintro xe w17 ⟨rfl, hfk⟩; have HBX := hid (Bx2.fr (by first | with_reducible exact HBX.out | with_reducible exact Bx2.drew HBX.out | with_reducible exact Bx2.drew (Bx2.drew HBX.out)) hfk); have HFm := hid (Fm.step (by first | with_reducible exact HFm.out | with_reducible exact Fm.drew HFm.out | with_reducible exact Fm.drew (Fm.drew HFm.out)) hfk); clear hfk _t tok2)
                  | (go_at_call 21; with_reducible refine (HNa.out _ (by first | with_reducible exact HFm.out | with_reducible exact Fm.drew HFm.out | with_reducible exact Fm.drew (Fm.drew HFm.out))).mono ?_; rintro xe w18 ⟨rfl, hfk⟩; have HBX := hid (Bx2.fr (by first | with_reducible exact HBX.out | with_reducible exact Bx2.drew HBX.out | with_reducible exact Bx2.drew (Bx2.drew HBX.out)) hfk); have HFm := hid (Fm.step (by first | with_reducible exact HFm.out | with_reducible exact Fm.drew HFm.out | with_reducible exact Fm.drew (Fm.drew HFm.out)) hfk); clear hfk)
                  | (go_at_call 21; with_reducible refine (HNb.out _ (by first | with_reducible exact HFm.out | with_reducible exact Fm.drew HFm.out | with_reducible exact Fm.drew (Fm.drew HFm.out))).mono ?_; rintro xe w19 ⟨rfl, hfk⟩; have HBX := hid (Bx2.fr (by first | with_reducible exact HBX.out | with_reducible exact Bx2.drew HBX.out | with_reducible exact Bx2.drew (Bx2.drew HBX.out)) hfk); have HFm := hid (Fm.step (by first | with_reducible exact HFm.out | with_reducible exact Fm.drew HFm.out | with_reducible exact Fm.drew (Fm.drew HFm.out)) hfk); clear hfk)))
              all_goals (go_wp2_with fail)
              all_goals go_meet
              all_goals exact ⟨rfl, HFm.out⟩
            case rest =>
              obtain ⟨rfl, HX⟩ := hcut
              go_wp2_with fail
              go_roundg g
              case rel => exact ⟨i + 1, st2, by simp, by have := HG.out; omega, HX, HRn2⟩
              case measure => omega
end Go.Proofs.Ytekooeekaigmaaa.E
