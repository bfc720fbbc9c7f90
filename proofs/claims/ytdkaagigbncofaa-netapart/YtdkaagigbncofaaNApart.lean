/- NetApart: the walk. -/
import Derived.Test.YtdkaagigbncofaaNApartP
import Derived.Deep.LoopGhost
namespace Go.Proofs.Ytdkaagigbncofaa
open Go.RowKit

/-- Both nets and the connection that both have. -/
structure PI (w W : World) (A B : Nat) (s t : Np) (a b n : Nat) (x : Cp) (P : List (Nat × Obj)) : Prop where
  n2 : N2 w W A B s t P
  os : ∃ m, m ≤ n ∧ One s 3 x a b m
  ot : ∃ m, m ≤ n ∧ One t 3 x a b m
theorem N2.forgetOf {w W : World} {A B : Nat} {s t : Np} {P : List (Nat × Obj)} (h : N2 w W A B s t P) : ∀ p ∈ P, W.heap[p.1]? = some p.2 := by
  obtain ⟨_, _, _, _, _, _, h5⟩ := h
  exact fun p hp => (h5 p hp).1
theorem PI.hm {w W : World} {A B : Nat} {s t : Np} {a b n : Nat} {x : Cp} {P : List (Nat × Obj)} (h : PI w W A B s t a b n x P) (hn : n ≤ 70368744177664) : s.m ≤ 70368744177664 ∧ t.m ≤ 70368744177664 := by
  obtain ⟨m, h1, h2⟩ := h.os
  obtain ⟨m', h3, h4⟩ := h.ot
  exact ⟨by rw [h2.m]; omega, by rw [h4.m]; omega⟩
theorem PI.box {w W W1 : World} {A B N : Nat} {s t : Np} {a b n : Nat} {x : Cp} {P : List (Nat × Obj)} {o : Obj} (h : PI w W A B s t a b n x P) (hf : Fr W W1 (fun _ => False)) (hN : W.heap.size ≤ N) (ho : W1.heap[N]? = some o) : PI w W1 A B s t a b n x ((N, o) :: P) := ⟨h.n2.box hf hN ho, h.os, h.ot⟩
/-- A step of another connection, by the second net. -/
theorem PI.other {w W : World} {A B : Nat} {s t : Np} {a b n : Nat} {x : Cp} {P : List (Nat × Obj)} (h : PI w W A B s t a b n x P) (hn : n ≤ 70368744177664) (st : Sp) (hc : st.c ≠ 3) {ao : Option Addr} {cap : Nat} (hb : BsC W (.slice ao st.b.length cap) st.b) : Calls Try.prog 28 #[.pointer (some ⟨B, 0, none⟩), .agg #[.int .i64 st.k, .int .i64 st.c, .slice ao st.b.length cap, .int .i64 st.m]] W fun e w' => (∃ E T, e = .returned (.tuple #[.int .i64 E, .string T])) ∧ ∃ t', PI w w' A B s t' a b (n + 131072) x P ∧ Fr w w' (fun _ => False) := by
  refine (h.n2.swap.did (h.hm hn).2 st hb).mono fun e w' ⟨he, h2⟩ => ⟨⟨_, _, he⟩, didS t st, ⟨h2.swap, ?_, ?_⟩, h2.fr⟩
  · obtain ⟨m, h3, h4⟩ := h.os
    exact ⟨m, by omega, h4⟩
  · obtain ⟨m, h3, h4⟩ := h.ot
    obtain ⟨j, h5, h6⟩ := did_other h4 h.n2.wf.2 st hc
    exact ⟨m + j, by omega, h6⟩
/-- A step of the connection, by both. -/
theorem PI.one {w W : World} {A B : Nat} {s t : Np} {a b n : Nat} {x : Cp} {P : List (Nat × Obj)} (h : PI w W A B s t a b n x P) (hn : n ≤ 70368744177664) (st : Sp) (hc : st.c = 3) : ∃ (E : Int) (Tt : ByteArray) (y : Cp), ∀ W', PI w W' A B s t a b n x P → ∀ (ao : Option Addr) (cap : Nat), BsC W' (.slice ao st.b.length cap) st.b → (Calls Try.prog 28 #[.pointer (some ⟨A, 0, none⟩), .agg #[.int .i64 st.k, .int .i64 st.c, .slice ao st.b.length cap, .int .i64 st.m]] W' fun e w1 => e = .returned (.tuple #[.int .i64 E, .string Tt]) ∧ ∃ s', Fr w w1 (fun _ => False) ∧ (∀ p ∈ P, w1.heap[p.1]? = some p.2) ∧ ∀ W2, Fr w1 W2 (fun _ => False) → BsC W2 (.slice ao st.b.length cap) st.b → Calls Try.prog 28 #[.pointer (some ⟨B, 0, none⟩), .agg #[.int .i64 st.k, .int .i64 st.c, .slice ao st.b.length cap, .int .i64 st.m]] W2 fun e w2 => e = .returned (.tuple #[.int .i64 E, .string Tt]) ∧ ∃ t', PI w w2 A B s' t' a b (n + 131072) y P) := by
  obtain ⟨m, h3, h4⟩ := h.os
  obtain ⟨m', h5, h6⟩ := h.ot
  have hwf := wf_at h.n2.wf.1 h4.at_
  have ha := h.n2.wf.1.a.2
  have hbb := h.n2.wf.1.b.2
  obtain ⟨E, Tt, y, j, hj, hall⟩ := did_one x a b st hc (by rw [← h4.a]; exact hwf.1) (by rw [← h4.a]; exact ha) (Nat.le_trans hwf.2.2.1 hbb)
  obtain ⟨e1, e2, e3⟩ := hall s m h4
  obtain ⟨k1, k2, k3⟩ := hall t m' h6
  refine ⟨E, Tt, y, fun W' hP ao cap hb => ?_⟩
  refine (hP.n2.did (h.hm hn).1 st hb).mono fun e w1 ⟨he, h2⟩ => ⟨by rw [he, e1, e2], didS s st, h2.fr, ?_, fun W2 hf hb2 => ?_⟩
  · obtain ⟨_, _, _, _, _, _, h9⟩ := h2
    exact fun p hp => (h9 p hp).1
  · refine ((h2.still hf).swap.did (h.hm hn).2 st hb2).mono fun e w2 ⟨he2, h8⟩ => ⟨by rw [he2, k1, k2], didS t st, h8.swap, ⟨m + j, by omega, e3⟩, ⟨m' + j, by omega, k3⟩⟩
/-- Both nets, made and opened. -/
theorem PI.start {w w1 w2 : World} {A B a b : Nat} {O Q : Nat → Prop} (h1 : NO w w1 A (np0 a b) O) (hf1 : Fr w w1 (fun _ => False)) (h2 : NO w w2 B (np0 a b) Q) (hq : ∀ k, Q k → w1.heap.size ≤ k) (hf2 : Fr w1 w2 (fun _ => False)) : N2 w w2 A B (np0 a b) (np0 a b) [] :=
  ⟨O, Q, h1.still hf2, h2, hf1.trans hf2, fun k ho hk => by have a1 := hq k hk; have a2 := h1.lt ho; omega, fun p hp => by cases hp⟩
theorem PI.ask {w W : World} {A B : Nat} {s t : Np} {a b n : Nat} {x : Cp} {P : List (Nat × Obj)} (h : PI w W A B s t a b n x P) : heardB s 3 = x.h ∧ heardN s 3 = x.end_ ∧ isO s 3 = (!x.shut) ∧ isT s 3 = x.ct ∧ undI s 3 = x.w.length + x.i.length ∧ undO s 3 = x.o.length ∧ heardB t 3 = x.h ∧ heardN t 3 = x.end_ ∧ isO t 3 = (!x.shut) ∧ isT t 3 = x.ct ∧ undI t 3 = x.w.length + x.i.length ∧ undO t 3 = x.o.length := by
  obtain ⟨m, _, h4⟩ := h.os
  obtain ⟨m', _, h6⟩ := h.ot
  exact ⟨h4.heard.1, h4.heard.2, h4.isx.1, h4.isx.2, h4.under.1, h4.under.2, h6.heard.1, h6.heard.2, h6.isx.1, h6.isx.2, h6.under.1, h6.under.2⟩
theorem BsC.lo {w W : World} {v : Value} {xs : List Nat} (h : BsC w v xs) (hf : Fr w W (fun _ => False)) : BsC W v xs := h.fr hf (fun _ h => h.elim)
set_option maxHeartbeats 16000000 in
set_option maxRecDepth 100000 in
theorem apart_walk {w : World} (n0 n1 : Int) {v2 v3 : Value} {L M : List Sp} (hL : Sps w v2 L) (hM : Sps w v3 M) : Calls Try.prog 8 #[.int .i64 n0, .int .i64 n1, v2, v3] w fun e w' => e = .returned (.bool true) ∧ Fr w w' (fun _ => False) := by
  have HW0 := hid (within_any n0 30 (by omega) (by omega) w)
  have HW1 := hid (within_any n1 30 (by omega) (by omega) w)
  obtain ⟨q0, hq0⟩ : ∃ q : Nat, n0 % 30 = (q : Int) := ⟨(n0 % 30).toNat, by omega⟩
  obtain ⟨q1, hq1⟩ : ∃ q : Nat, n1 % 30 = (q : Int) := ⟨(n1 % 30).toNat, by omega⟩
  have hl0 : q0 < 30 := by omega
  have hl1 : q1 < 30 := by omega
  rw [hq0] at HW0
  rw [hq1] at HW1
  have HL := hid hL
  have HM := hid hM
  obtain ⟨aL, cL, rfl, hLl, _⟩ := hL
  obtain ⟨aM, cM, rfl, hMl, _⟩ := hM
  obtain ⟨a, ha⟩ : ∃ a, 1 + q0 = a := ⟨_, rfl⟩
  obtain ⟨b, hb⟩ : ∃ b, 1 + q1 = b := ⟨_, rfl⟩
  have ea : (1 : Int) + (q0 : Int) = (a : Int) := by omega
  have eb : (1 : Int) + (q1 : Int) = (b : Int) := by omega
  have ha2 : a ≤ 30 := by omega
  have hb2 : b ≤ 30 := by omega
  have HN1 := hid (nnew_o (w := w) w (a := a) (b := b) (by omega) (by omega) (Nat.le_refl _))
  have HN2 := hid (fun (W : World) (hf : Fr w W (fun _ => False)) => nnew_o (w := w) W (a := a) (b := b) (by omega) (by omega) hf.size)
  obtain ⟨ho1, ho2⟩ := one_new (a := a) (b := b) (c := 3) (by decide)
  have HO1 := hid (fun (W : World) A B (h : N2 w W A B (np0 a b) (np0 a b) []) => h.open 3)
  have HO2 := hid (fun (W : World) A B (h : N2 w W A B (openS (np0 a b) 3) (np0 a b) []) => h.swap.open 3)
  rw [ho1] at HO1 HO2
  have HST : Hid (∀ W A B, N2 w W B A (openS (np0 a b) 3) (openS (np0 a b) 3) [] → PI w W A B (openS (np0 a b) 3) (openS (np0 a b) 3) a b 0 cp0 []) := fun W A B h => ⟨h.swap, ⟨0, by omega, ho2⟩, ⟨0, by omega, ho2⟩⟩
  clear ho1 ho2 ha hb hq0 hq1
  generalize openS (np0 a b) 3 = s0 at *
  go_enter Try.func8, Try.ntmps8
  go_wp2_with fail
  refine HW0.out.mono ?_
  rintro e w1 ⟨rfl, h9⟩
  obtain rfl : w = w1 := h9.symm
  clear h9
  go_wp2_with fail
  refine HW1.out.mono ?_
  rintro e w1 ⟨rfl, h9⟩
  obtain rfl : w = w1 := h9.symm
  clear h9
  go_wp2_with fail
  clear ea eb
  refine HN1.out.mono ?_
  rintro e w1 ⟨A, rfl, O, h1, _, h2⟩
  have H1 := hid (And.intro h1 h2)
  clear h1 h2
  go_wp2_with fail
  refine (HN2.out _ H1.out.2).mono ?_
  rintro e w2 ⟨B, rfl, Q, h1, h2, h3⟩
  have H2 := hid (PI.start H1.out.1 H1.out.2 h1 h2 h3)
  clear h1 h2 h3 H1 HN1 HN2
  go_wp2_with fail
  refine (HO1.out _ _ _ H2.out).mono ?_
  rintro e w3 ⟨rfl, h1⟩
  have H3 := hid h1
  clear h1 H2
  go_wp2_with fail
  refine (HO2.out _ _ _ H3.out).mono ?_
  rintro e w4 ⟨rfl, h1⟩
  have H4 := hid (HST.out _ _ _ h1)
  clear h1 H3 HST HO1 HO2
  go_wp2_with fail
  obtain ⟨NN, hNN⟩ : ∃ NN : Nat, NN = min L.length 80 := ⟨_, rfl⟩
  have HNN := hid hNN
  clear hNN
  go_loopg [13] NN (fun q s13 wx => ∃ (i : Nat) (s t : Np) (x : Cp), s13 = .int .i64 (i : Int) ∧ Hid (i + q = NN) ∧ Hid (PI w wx A B s t a b (i * 262144) x []))
  case atStart => exact ⟨0, s0, s0, cp0, rfl, by show _ = _; omega, by rw [Nat.zero_mul]; exact H4⟩
  case round =>
    obtain ⟨i, s, t, x, rfl, HG, HI⟩ := hrel
    clear H4
    cases gk with
    | zero =>
      have hi : i = min L.length 80 := by have := HG.out; have := HNN.out; omega
      have HF := hid HI.out.n2.fr
      by_cases hl : L.length ≤ 80
      · have t1 : ¬ (i : Int) < (L.length : Int) := by omega
        clear hi
        go_wp2_with fail
        refine (head_any _).mono ?_
        rintro e wz ⟨rfl, h1⟩
        have HZ := hid (HF.out.trans h1)
        clear h1
        go_wp2_with fail
        go_ret
        exact ⟨rfl, HZ.out⟩
      · have t1 : (i : Int) < (L.length : Int) := by omega
        have t2 : ¬ (i : Int) < 80 := by omega
        clear hi
        go_wp2_with fail
        refine (head_any _).mono ?_
        rintro e wz ⟨rfl, h1⟩
        have HZ := hid (HF.out.trans h1)
        clear h1
        go_wp2_with fail
        go_ret
        exact ⟨rfl, HZ.out⟩
    | succ q =>
      have hi : i < L.length ∧ i < 80 := by have := HG.out; have := HNN.out; omega
      have t1 : (i : Int) < (L.length : Int) := by omega
      have t2 : (i : Int) < 80 := by omega
      have t0 : (0 : Int) ≤ (i : Int) := by omega
      have hbn : i * 262144 ≤ 20971520 := by omega
      have HB0 : Hid (i * 262144 ≤ 70368744177664) := Nat.le_trans hbn (by decide)
      have HB1 : Hid (i * 262144 + 131072 ≤ 70368744177664) := Nat.le_trans (Nat.add_le_add_right hbn 131072) (by decide)
      have HB3 : Hid (i * 262144 + 131072 + 131072 ≤ 70368744177664) := Nat.le_trans (Nat.add_le_add_right (Nat.add_le_add_right hbn 131072) 131072) (by decide)
      obtain ⟨bL, oL, rfl, gx0, gx1, ⟨av, cv, gx2, gx3, gx4⟩, gx5, glL⟩ := HL.out.at hi.1
      have HB := hid gx4
      obtain ⟨st, hst⟩ : ∃ st, L.getD i sp0 = st := ⟨_, rfl⟩
      rw [hst] at gx0 gx1 gx2 gx3 gx5 HB
      obtain ⟨k, c, z, mo⟩ := st
      dsimp only at gx0 gx1 gx2 gx3 gx5 HB
      have hr := (fr_rules HI.out.n2.fr).1 bL
      have hx0 := (hr _ glL).trans gx0
      have hx1 := (hr _ glL).trans gx1
      have hx2 := (hr _ glL).trans gx2
      have hx3 := (hr _ glL).trans gx5
      have hlL : bL < wr.heap.size := Nat.lt_of_lt_of_le glL HI.out.n2.fr.size
      clear gx0 gx1 gx2 gx3 gx4 gx5 glL hr hst
      by_cases hio : i < M.length
      · have t3 : (i : Int) < (M.length : Int) := by omega
        obtain ⟨bM, oM, rfl, gx0, gx1, ⟨av2, cv2, gx2, gx3, gx4⟩, gx5, glM⟩ := HM.out.at hio
        have HB2 := hid gx4
        obtain ⟨st, hst⟩ : ∃ st, M.getD i sp0 = st := ⟨_, rfl⟩
        rw [hst] at gx0 gx1 gx2 gx3 gx5 HB2
        obtain ⟨k2, c2, z2, mo2⟩ := st
        dsimp only at gx0 gx1 gx2 gx3 gx5 HB2
        have hfa := HI.out.n2.fr.trans (alloc_fr wr (.cells #[.int .i64 k, .int .i64 3, .slice av z.length cv, .int .i64 mo] 35) (fun _ => False))
        have hr := (fr_rules hfa).1 bM
        have hy0 := (hr _ glM).trans gx0
        have hy1 := (hr _ glM).trans gx1
        have hy2 := (hr _ glM).trans gx2
        have hy3 := (hr _ glM).trans gx5
        have hlM : bM < wr.heap.size := Nat.lt_of_lt_of_le glM HI.out.n2.fr.size
        clear gx0 gx1 gx2 gx3 gx4 gx5 glM hr hst hfa hio
        have HW5 := hid (fun W => within_any c2 5 (by omega) (by omega) W)
        obtain ⟨q5, hq5⟩ : ∃ q : Nat, c2 % 5 = (q : Int) := ⟨(c2 % 5).toNat, by omega⟩
        have hq55 : q5 < 5 := by omega
        rw [hq5] at HW5
        clear hq5
        go_wp2_with fail
        refine (HW5.out _).mono ?_
        rintro e wq ⟨rfl, h9⟩
        subst h9
        go_wp2_with fail
        have HP0 := hid (HI.out.box (o := .cells #[.int .i64 k, .int .i64 3, .slice av z.length cv, .int .i64 mo] 35) (alloc_fr wr _ (fun _ => False)) (Nat.le_refl _) (heap_last _ _ _ rfl))
        have HP1 : Hid (∀ W, Fr (wr.alloc (.cells #[.int .i64 k, .int .i64 3, .slice av z.length cv, .int .i64 mo] 35)) W (fun _ => False) → PI w W A B s t a b (i * 262144) x [(wr.heap.size, .cells #[.int .i64 k, .int .i64 3, .slice av z.length cv, .int .i64 mo] 35)]) := fun W hf => ⟨HP0.out.n2.still hf, HP0.out.os, HP0.out.ot⟩
        refine ((HP1.out _ (alloc_fr _ _ _)).other HB0.out ⟨k2, 4 + (q5 : Int), z2, mo2⟩ (by show (4 + (q5 : Int)) ≠ 3; omega) (ao := av2) (cap := cv2) (HB2.out.lo (HI.out.n2.fr.trans ((alloc_fr wr _ (fun _ => False)).trans (alloc_fr _ _ _))))).mono ?_
        rintro e w20 ⟨⟨E0, T0, rfl⟩, t2, h1, h2⟩
        have HP := hid h1
        clear h1 h2 HP0 HP1 HB2 hy0 hy1 hy2 hy3 hlM
        have hbx := (HP.out.n2.forgetOf _ (List.mem_cons_self))
        dsimp only at hbx
        have y0 : w20.cell? ⟨wr.heap.size, 0, none⟩ = some (.int .i64 k) := by simp [World.cell?, hbx]
        have y1 : w20.cell? ⟨wr.heap.size, 1, none⟩ = some (.int .i64 3) := by simp [World.cell?, hbx]
        have y2 : w20.cell? ⟨wr.heap.size, 2, none⟩ = some (.slice av z.length cv) := by simp [World.cell?, hbx]
        have y3 : w20.cell? ⟨wr.heap.size, 3, none⟩ = some (.int .i64 mo) := by simp [World.cell?, hbx]
        have yl := lt_of_block hbx
        clear hbx
        go_wp2_with fail
        clear y0 y1 y2 y3 yl
        obtain ⟨E, Tt, y, hall⟩ := HP.out.one (HB1.out) ⟨k, 3, z, mo⟩ rfl
        have HALL := hid (hall _ HP.out av cv (HB.out.lo HP.out.n2.fr))
        clear hall
        refine HALL.out.mono ?_
        rintro e w21 ⟨rfl, s', h1, h2, h3⟩
        have hbx := h2 _ (List.mem_cons_self)
        have H21 := hid h3
        have HF21 := hid h1
        clear h1 h2 h3
        dsimp only at hbx
        have y0 : w21.cell? ⟨wr.heap.size, 0, none⟩ = some (.int .i64 k) := by simp [World.cell?, hbx]
        have y1 : w21.cell? ⟨wr.heap.size, 1, none⟩ = some (.int .i64 3) := by simp [World.cell?, hbx]
        have y2 : w21.cell? ⟨wr.heap.size, 2, none⟩ = some (.slice av z.length cv) := by simp [World.cell?, hbx]
        have y3 : w21.cell? ⟨wr.heap.size, 3, none⟩ = some (.int .i64 mo) := by simp [World.cell?, hbx]
        have yl := lt_of_block hbx
        clear hbx
        go_wp2_with fail
        refine (H21.out w21 (Fr.refl _ _) (HB.out.lo HF21.out)).mono ?_
        rintro e w22 ⟨rfl, t', h1⟩
        have H22 := hid h1
        clear h1 y0 y1 y2 y3 yl
        obtain ⟨p1, p2, p3, p4, p5, p6, p7, p8, p9, p10, p11, p12⟩ := H22.out.ask
        have hms := H22.out.hm (HB3.out)
        have HHA := hid (H22.out.n2.heard hms.1 3)
        rw [p1, p2] at HHA
        have HHB := hid (fun W (hf : Fr w22 W (fun _ => False)) => (H22.out.n2.still hf).swap.heard hms.2 3)
        rw [p7, p8] at HHB
        have HIA := hid (fun W (hf : Fr w22 W (fun _ => False)) => (H22.out.n2.still hf).is 3)
        rw [p3, p4] at HIA
        have HIB := hid (fun W (hf : Fr w22 W (fun _ => False)) => (H22.out.n2.still hf).swap.is 3)
        rw [p9, p10] at HIB
        have HUA := hid (fun W (hf : Fr w22 W (fun _ => False)) => (H22.out.n2.still hf).under 3)
        rw [p5, p6] at HUA
        have HUB := hid (fun W (hf : Fr w22 W (fun _ => False)) => (H22.out.n2.still hf).swap.under 3)
        rw [p11, p12] at HUB
        have HNX : Hid (∀ W, Fr w22 W (fun _ => False) → PI w W A B s' t' a b ((i + 1) * 262144) y []) := fun W hf => by
          have h9 := H22.out
          obtain ⟨m1, l1, o1⟩ := h9.os
          obtain ⟨m2, l2, o2⟩ := h9.ot
          exact ⟨(h9.n2.still hf).forget, ⟨m1, by omega, o1⟩, ⟨m2, by omega, o2⟩⟩
        clear p1 p2 p3 p4 p5 p6 p7 p8 p9 p10 p11 p12 hms
        generalize y.h = yh at *
        generalize y.end_ = ye at *
        generalize (!y.shut) = yo at *
        generalize y.ct = yc at *
        generalize y.w.length + y.i.length = yu at *
        generalize y.o.length = yv at *
        go_wp2_with fail
        refine HHA.out.mono ?_
        rintro e w23 ⟨u1, rfl, r1, _, f1⟩
        have R1 := hid r1
        have F1 := hid f1
        obtain ⟨au1, cu1, hu1, _, _⟩ := r1.shape
        subst hu1
        clear r1 f1
        go_wp2_with fail
        refine (HHB.out _ F1.out).mono ?_
        rintro e w24 ⟨u2, rfl, r2, _, f2⟩
        have R2 := hid r2
        have R12 := hid (R1.out.fr f2 (fun _ _ h => h))
        have F2 := hid (F1.out.trans f2)
        obtain ⟨au2, cu2, hu2, _, _⟩ := r2.shape
        subst hu2
        clear r2 f2
        go_wp2_with fail
        refine (HIA.out _ F2.out).mono ?_
        rintro e w25 ⟨rfl, _, f3⟩
        have R23 := hid (R2.out.fr f3 (fun _ _ h => h))
        have R13 := hid (R12.out.fr f3 (fun _ _ h => h))
        have F3 := hid (F2.out.trans f3)
        clear f3
        go_wp2_with fail
        refine (HIB.out _ F3.out).mono ?_
        rintro e w26 ⟨rfl, _, f3⟩
        have R24 := hid (R23.out.fr f3 (fun _ _ h => h))
        have R14 := hid (R13.out.fr f3 (fun _ _ h => h))
        have F4 := hid (F3.out.trans f3)
        clear f3
        go_wp2_with fail
        refine (HUA.out _ F4.out).mono ?_
        rintro e w27 ⟨rfl, _, f3⟩
        have R25 := hid (R24.out.fr f3 (fun _ _ h => h))
        have R15 := hid (R14.out.fr f3 (fun _ _ h => h))
        have F5 := hid (F4.out.trans f3)
        clear f3
        go_wp2_with fail
        refine (HUB.out _ F5.out).mono ?_
        rintro e w28 ⟨rfl, _, f3⟩
        have hc1 := run_str8 Try.underlying33 Try.underlying5 Try.underlying9 (bs_all (R15.out.fr f3 (fun _ _ h => h)))
        have hc2 := run_str8 Try.underlying33 Try.underlying5 Try.underlying9 (bs_all (R25.out.fr f3 (fun _ _ h => h)))
        have HF := hid (HNX.out _ (F5.out.trans f3))
        clear f3
        generalize str8 yh = SY at *
        go_wp2_with fail
        go_roundg q
        case measure => omega
        case rel => exact ⟨i + 1, s', t', y, by go_num, by have := HG.out; show _ = _; omega, HF⟩
      · have t3 : ¬ (i : Int) < (M.length : Int) := by omega
        clear hio
        go_wp2_with fail
        have HP := hid (HI.out.box (o := .cells #[.int .i64 k, .int .i64 3, .slice av z.length cv, .int .i64 mo] 35) (alloc_fr wr _ (fun _ => False)) (Nat.le_refl _) (heap_last _ _ _ rfl))
        obtain ⟨E, Tt, y, hall⟩ := HP.out.one (HB0.out) ⟨k, 3, z, mo⟩ rfl
        have HALL := hid (hall _ HP.out av cv (HB.out.lo HP.out.n2.fr))
        clear hall
        refine HALL.out.mono ?_
        rintro e w21 ⟨rfl, s', h1, h2, h3⟩
        have hbx := h2 _ (List.mem_cons_self)
        have H21 := hid h3
        have HF21 := hid h1
        clear h1 h2 h3
        dsimp only at hbx
        have y0 : w21.cell? ⟨wr.heap.size, 0, none⟩ = some (.int .i64 k) := by simp [World.cell?, hbx]
        have y1 : w21.cell? ⟨wr.heap.size, 1, none⟩ = some (.int .i64 3) := by simp [World.cell?, hbx]
        have y2 : w21.cell? ⟨wr.heap.size, 2, none⟩ = some (.slice av z.length cv) := by simp [World.cell?, hbx]
        have y3 : w21.cell? ⟨wr.heap.size, 3, none⟩ = some (.int .i64 mo) := by simp [World.cell?, hbx]
        have yl := lt_of_block hbx
        clear hbx
        go_wp2_with fail
        refine (H21.out w21 (Fr.refl _ _) (HB.out.lo HF21.out)).mono ?_
        rintro e w22 ⟨rfl, t', h1⟩
        have H22 := hid h1
        clear h1 y0 y1 y2 y3 yl
        obtain ⟨p1, p2, p3, p4, p5, p6, p7, p8, p9, p10, p11, p12⟩ := H22.out.ask
        have hms := H22.out.hm (HB1.out)
        have HHA := hid (H22.out.n2.heard hms.1 3)
        rw [p1, p2] at HHA
        have HHB := hid (fun W (hf : Fr w22 W (fun _ => False)) => (H22.out.n2.still hf).swap.heard hms.2 3)
        rw [p7, p8] at HHB
        have HIA := hid (fun W (hf : Fr w22 W (fun _ => False)) => (H22.out.n2.still hf).is 3)
        rw [p3, p4] at HIA
        have HIB := hid (fun W (hf : Fr w22 W (fun _ => False)) => (H22.out.n2.still hf).swap.is 3)
        rw [p9, p10] at HIB
        have HUA := hid (fun W (hf : Fr w22 W (fun _ => False)) => (H22.out.n2.still hf).under 3)
        rw [p5, p6] at HUA
        have HUB := hid (fun W (hf : Fr w22 W (fun _ => False)) => (H22.out.n2.still hf).swap.under 3)
        rw [p11, p12] at HUB
        have HNX : Hid (∀ W, Fr w22 W (fun _ => False) → PI w W A B s' t' a b ((i + 1) * 262144) y []) := fun W hf => by
          have h9 := H22.out
          obtain ⟨m1, l1, o1⟩ := h9.os
          obtain ⟨m2, l2, o2⟩ := h9.ot
          exact ⟨(h9.n2.still hf).forget, ⟨m1, by omega, o1⟩, ⟨m2, by omega, o2⟩⟩
        clear p1 p2 p3 p4 p5 p6 p7 p8 p9 p10 p11 p12 hms
        generalize y.h = yh at *
        generalize y.end_ = ye at *
        generalize (!y.shut) = yo at *
        generalize y.ct = yc at *
        generalize y.w.length + y.i.length = yu at *
        generalize y.o.length = yv at *
        go_wp2_with fail
        refine HHA.out.mono ?_
        rintro e w23 ⟨u1, rfl, r1, _, f1⟩
        have R1 := hid r1
        have F1 := hid f1
        obtain ⟨au1, cu1, hu1, _, _⟩ := r1.shape
        subst hu1
        clear r1 f1
        go_wp2_with fail
        refine (HHB.out _ F1.out).mono ?_
        rintro e w24 ⟨u2, rfl, r2, _, f2⟩
        have R2 := hid r2
        have R12 := hid (R1.out.fr f2 (fun _ _ h => h))
        have F2 := hid (F1.out.trans f2)
        obtain ⟨au2, cu2, hu2, _, _⟩ := r2.shape
        subst hu2
        clear r2 f2
        go_wp2_with fail
        refine (HIA.out _ F2.out).mono ?_
        rintro e w25 ⟨rfl, _, f3⟩
        have R23 := hid (R2.out.fr f3 (fun _ _ h => h))
        have R13 := hid (R12.out.fr f3 (fun _ _ h => h))
        have F3 := hid (F2.out.trans f3)
        clear f3
        go_wp2_with fail
        refine (HIB.out _ F3.out).mono ?_
        rintro e w26 ⟨rfl, _, f3⟩
        have R24 := hid (R23.out.fr f3 (fun _ _ h => h))
        have R14 := hid (R13.out.fr f3 (fun _ _ h => h))
        have F4 := hid (F3.out.trans f3)
        clear f3
        go_wp2_with fail
        refine (HUA.out _ F4.out).mono ?_
        rintro e w27 ⟨rfl, _, f3⟩
        have R25 := hid (R24.out.fr f3 (fun _ _ h => h))
        have R15 := hid (R14.out.fr f3 (fun _ _ h => h))
        have F5 := hid (F4.out.trans f3)
        clear f3
        go_wp2_with fail
        refine (HUB.out _ F5.out).mono ?_
        rintro e w28 ⟨rfl, _, f3⟩
        have hc1 := run_str8 Try.underlying33 Try.underlying5 Try.underlying9 (bs_all (R15.out.fr f3 (fun _ _ h => h)))
        have hc2 := run_str8 Try.underlying33 Try.underlying5 Try.underlying9 (bs_all (R25.out.fr f3 (fun _ _ h => h)))
        have HF := hid (HNX.out _ (F5.out.trans f3))
        clear f3
        generalize str8 yh = SY at *
        go_wp2_with fail
        go_roundg q
        case measure => omega
        case rel => exact ⟨i + 1, s', t', y, by go_num, by have := HG.out; show _ = _; omega, HF⟩
end Go.Proofs.Ytdkaagigbncofaa
