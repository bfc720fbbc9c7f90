/- FlowRoom: the walk. -/
import Derived.Test.YtekhpehficabmaaXMany
import Derived.Test.YtekhpehficabmaaXArgs
namespace Go.Proofs.Ytekhpehficabmaa
open Go.RowKit

theorem lenAt_box {s : Ps} {box : Nat} (h : Wf s box) (j : Int) : lenAt j s.b ≤ box := by
  unfold lenAt
  split
  · exact h.b _ (by omega)
  · omega
theorem put_same {s : Ps} {i : Int} {x : It} (h : putE s i x ≠ 0) : putS s i x = s := by unfold putS; rw [if_neg h]
theorem put_in {s : Ps} {i : Int} {x : It} (h : putE s i x = 0) : 0 ≤ i ∧ i < (s.q.length : Int) := by
  unfold putE at h
  split at h
  · cases h
  · rename_i h1
    exact Classical.not_not.1 h1
theorem put_len {s : Ps} {i : Int} {x : It} (h : putE s i x = 0) : lenAt i (putS s i x).q = lenAt i s.q + 1 := by
  have hi := put_in h
  unfold putS
  rw [if_pos h]
  unfold lenAt
  simp only [List.length_set]
  rw [if_pos hi, if_pos hi, getD_set_same (by omega), List.length_append]
  rfl
theorem pas_err {s : Ps} {box : Nat} {i : Int} (h : (firR s i).2.2 ≠ 0) : pasR s box i = (0, (firR s i).2.2) ∧ pasS s box i = s := by
  unfold pasR pasS
  rw [if_pos h, if_pos h]
  exact ⟨rfl, rfl⟩
theorem fir_ok {s : Ps} {i : Int} (h : (firR s i).2.2 = 0) : ∃ n : Nat, i = (n : Int) ∧ n < s.q.length ∧ ∃ x L, s.q.getD n [] = x :: L ∧ firR s i = (tow s n x, x, 0) := by
  by_cases hi : 0 ≤ i ∧ i < (s.q.length : Int)
  · obtain ⟨n, rfl⟩ : ∃ n : Nat, i = (n : Int) := ⟨i.toNat, by omega⟩
    have hn : n < s.q.length := by omega
    cases hq : s.q.getD n [] with
    | nil => rw [firR_nil hn hq] at h; cases h
    | cons x L => exact ⟨n, rfl, hn, x, L, hq, firR_cons hn hq⟩
  · rw [firR_out hi] at h; cases h
theorem tow_lt {s : Ps} {box : Nat} (h : Wf s box) {n : Nat} (hn : n < s.q.length) (x : It) : tow s n x < s.b.length := by
  unfold tow
  split
  · exact (h.q n hn).2.1
  · exact Nat.mod_lt _ h.nb.1
theorem pas_full {s : Ps} {box : Nat} {i : Int} (hw : Wf s box) (h : (firR s i).2.2 = 0) (hf : box ≤ lenAt ((firR s i).1 : Int) s.b) : pasR s box i = (0, 45) ∧ pasS s box i = s := by
  obtain ⟨n, rfl, hn, x, L, hq, hr⟩ := fir_ok h
  rw [hr] at hf
  simp only at hf
  rw [lenAt_nat (tow_lt hw hn x)] at hf
  unfold pasR pasS
  rw [hr]
  simp only
  rw [if_neg (by simp), if_pos hf, if_neg (by simp), if_pos hf]
  exact ⟨rfl, rfl⟩
theorem pasT_b (s : Ps) (n : Nat) (x : It) (j : Nat) : (pasT s n x j).b = s.b.set j (s.b.getD j [] ++ [⟨(n : Int), x⟩]) := by
  unfold pasT
  split <;> rfl
theorem pas_ok {s : Ps} {box : Nat} {i : Int} (hw : Wf s box) (h : (firR s i).2.2 = 0) (hf : ¬ box ≤ lenAt ((firR s i).1 : Int) s.b) : pasR s box i = ((firR s i).1, 0) ∧ lenAt ((firR s i).1 : Int) (pasS s box i).b = lenAt ((firR s i).1 : Int) s.b + 1 := by
  obtain ⟨n, rfl, hn, x, L, hq, hr⟩ := fir_ok h
  have hl := tow_lt hw hn x
  rw [hr] at hf ⊢
  simp only at hf ⊢
  rw [lenAt_nat hl] at hf ⊢
  unfold pasR pasS
  rw [hr]
  simp only
  rw [if_neg (by simp), if_neg hf, if_neg (by simp), if_neg hf]
  refine ⟨rfl, ?_⟩
  have e : (pasT s ((n : Int)).toNat x (tow s n x)).b = s.b.set (tow s n x) (s.b.getD (tow s n x) [] ++ [⟨(n : Int), x⟩]) := by rw [Int.toNat_natCast]; exact pasT_b _ _ _ _
  rw [e, lenAt_nat (by rw [List.length_set]; exact hl), getD_set_same hl, List.length_append]
  rfl
theorem tak_some {s : Ps} {i : Int} (h : 0 < lenAt i s.b) : (takR s i).2 = 0 ∧ lenAt i (takS s i).b = lenAt i s.b - 1 := by
  unfold lenAt at h
  split at h
  · rename_i hi
    unfold takR takS
    rw [if_neg (fun h' => h' hi), if_neg (fun h' => h' hi)]
    cases hq : s.b.getD i.toNat [] with
    | nil => rw [hq] at h; simp at h
    | cons m L =>
      refine ⟨rfl, ?_⟩
      unfold lenAt
      simp only [List.length_set]
      rw [if_pos hi, if_pos hi, getD_set_same (by omega), hq]
      simp
  · omega
theorem tak_none {s : Ps} {i : Int} (h : ¬ 0 < lenAt i s.b) : (takR s i).2 ≠ 0 ∧ takS s i = s := by
  unfold takR takS
  unfold lenAt at h
  by_cases hi : 0 ≤ i ∧ i < (s.b.length : Int)
  · rw [if_pos hi] at h
    rw [if_neg (fun h' => h' hi), if_neg (fun h' => h' hi)]
    cases hq : s.b.getD i.toNat [] with
    | nil =>
      refine ⟨by simp, ?_⟩
      have : s.b.set i.toNat ([] : List Ms).tail = s.b := by
        conv => rhs; rw [← set_getD_self s.b i.toNat []]
        rw [hq]; rfl
      rw [this]
    | cons m L => rw [hq] at h; simp at h
  · rw [if_pos hi, if_pos hi]
    exact ⟨by simp, rfl⟩
/-- A flow, and a block of another that stands as it is. -/
structure FB (w W : World) (B box : Nat) (s : Ps) (N : Nat) (o : Obj) : Prop where
  ex : ∃ O, FlO w W B box s O ∧ ¬ O N
  cell : W.heap[N]? = some o
theorem FB.fli {w W : World} {B box : Nat} {s : Ps} {N : Nat} {o : Obj} (h : FB w W B box s N o) : FlI w W B box s := by
  obtain ⟨O, h1, _⟩ := h.ex
  exact ⟨O, h1⟩
theorem FB.still {w W W' : World} {B box : Nat} {s : Ps} {N : Nat} {o : Obj} (h : FB w W B box s N o) (hf : Fr W W' (fun _ => False)) : FB w W' B box s N o := by
  obtain ⟨O, h1, h2⟩ := h.ex
  exact ⟨⟨O, h1.still hf, h2⟩, keep_block h.cell hf (fun h => h)⟩
theorem FB.fla {w W w' : World} {B box : Nat} {s' : Ps} {N : Nat} {o : Obj} {O : Nat → Prop} (h : FlA w W w' B box s' O) (hN : ¬ O N) (hc : W.heap[N]? = some o) : FB w w' B box s' N o := by
  obtain ⟨O', h1, h2, h3⟩ := h
  refine ⟨⟨O', h1, fun hk => ?_⟩, keep_block hc h3 hN⟩
  rcases h2 N hk with h | h
  · exact hN h
  · have := lt_of_block hc; omega
theorem FB.put {w W : World} {B box : Nat} {s : Ps} {N : Nat} {o : Obj} (h : FB w W B box s N o) (i : Int) (x : It) : Calls Try.prog 16 #[.pointer (some ⟨B, 0, none⟩), .int .i64 i, vI x] W fun e w' => e = .returned (.int .i64 (putE s i x)) ∧ FB w w' B box (putS s i x) N o := by
  obtain ⟨O, h1, h2⟩ := h.ex
  exact (h1.put i x).mono fun e w' ⟨he, ha⟩ => ⟨he, FB.fla ha h2 h.cell⟩
theorem FB.pass {w W : World} {B box : Nat} {s : Ps} {N : Nat} {o : Obj} (h : FB w W B box s N o) (i : Int) : Calls Try.prog 17 #[.pointer (some ⟨B, 0, none⟩), .int .i64 i] W fun e w' => e = .returned (.tuple #[.int .i64 ((pasR s box i).1 : Int), .int .i64 (pasR s box i).2]) ∧ FB w w' B box (pasS s box i) N o := by
  obtain ⟨O, h1, h2⟩ := h.ex
  exact (h1.pass i).mono fun e w' ⟨he, ha⟩ => ⟨he, FB.fla ha h2 h.cell⟩
theorem FB.take {w W : World} {B box : Nat} {s : Ps} {N : Nat} {o : Obj} (h : FB w W B box s N o) (i : Int) : Calls Try.prog 18 #[.pointer (some ⟨B, 0, none⟩), .int .i64 i] W fun e w' => e = .returned (.tuple #[.int .i64 (takR s i).1.s, vI (takR s i).1.x, .int .i64 (takR s i).2]) ∧ FB w w' B box (takS s i) N o := by
  obtain ⟨O, h1, h2⟩ := h.ex
  exact (h1.take i).mono fun e w' ⟨he, ha⟩ => ⟨he, FB.fla ha h2 h.cell⟩
theorem FB.toward {w W : World} {B box : Nat} {s : Ps} {N : Nat} {o : Obj} (h : FB w W B box s N o) (i : Int) : Calls Try.prog 22 #[.pointer (some ⟨B, 0, none⟩), .int .i64 i] W fun e w' => e = .returned (.tuple #[.int .i64 ((firR s i).1 : Int), .int .i64 (firR s i).2.2]) ∧ FB w w' B box s N o := by
  obtain ⟨O, h1, h2⟩ := h.ex
  exact (h1.toward i).mono fun e w' ⟨he, ha⟩ => ⟨he, h.still ha⟩
theorem FB.queued {w W : World} {B box : Nat} {s : Ps} {N : Nat} {o : Obj} (h : FB w W B box s N o) (i : Int) : Calls Try.prog 21 #[.pointer (some ⟨B, 0, none⟩), .int .i64 i] W fun e w' => e = .returned (.int .i64 (lenAt i s.q : Int)) ∧ FB w w' B box s N o := by
  obtain ⟨O, h1, h2⟩ := h.ex
  exact (h1.queued i).mono fun e w' ⟨he, ha⟩ => ⟨he, h.still ha⟩
theorem FB.boxed {w W : World} {B box : Nat} {s : Ps} {N : Nat} {o : Obj} (h : FB w W B box s N o) (i : Int) : Calls Try.prog 23 #[.pointer (some ⟨B, 0, none⟩), .int .i64 i] W fun e w' => e = .returned (.int .i64 (lenAt i s.b : Int)) ∧ FB w w' B box s N o := by
  obtain ⟨O, h1, h2⟩ := h.ex
  exact (h1.boxed i).mono fun e w' ⟨he, ha⟩ => ⟨he, h.still ha⟩
theorem FlI.beside {w W : World} {B box : Nat} {s : Ps} (h : FlI w W B box s) (o : Obj) : FB w (W.alloc o) B box s W.heap.size o := by
  obtain ⟨O, h1⟩ := h
  exact ⟨⟨O, h1.still (alloc_fr _ _ _), fun hk => absurd (h1.lt hk) (Nat.lt_irrefl _)⟩, heap_last _ _ _ rfl⟩
/-- A step as a block. -/
def spo (s : Sp) : Obj := .cells #[.int .i64 s.k, .int .i64 s.a, .bool s.x.m, .string s.x.k, .int .i64 s.x.t, .int .i64 s.x.v] 35 (0, 0)
theorem FB.cells {w W : World} {B box : Nat} {s : Ps} {N : Nat} {st : Sp} (h : FB w W B box s N (spo st)) : W.cell? ⟨N, 0, none⟩ = some (.int .i64 st.k) ∧ W.cell? ⟨N, 1, none⟩ = some (.int .i64 st.a) ∧ W.cell? ⟨N, 2, none⟩ = some (.bool st.x.m) ∧ W.cell? ⟨N, 3, none⟩ = some (.string st.x.k) ∧ W.cell? ⟨N, 4, none⟩ = some (.int .i64 st.x.t) ∧ W.cell? ⟨N, 5, none⟩ = some (.int .i64 st.x.v) ∧ N < W.heap.size := by
  have hc : W.heap[N]? = some (.cells #[.int .i64 st.k, .int .i64 st.a, .bool st.x.m, .string st.x.k, .int .i64 st.x.t, .int .i64 st.x.v] 35 (0, 0)) := h.cell
  refine ⟨?_, ?_, ?_, ?_, ?_, ?_, lt_of_block hc⟩ <;> simp [World.cell?, hc]
theorem lenAt_q {s : Ps} {box : Nat} (h : Wf s box) (j : Int) : lenAt j s.q ≤ 65536 := by
  unfold lenAt
  split
  · exact (h.q _ (by omega)).1
  · omega
set_option maxHeartbeats 16000000 in
set_option maxRecDepth 100000 in
theorem room_walk {w : World} {v3 : Value} {rs : List Sp} (n0 n1 n2 : Int) (hs : Sps w v3 rs) : Calls Try.prog 6 #[.int .i64 n0, .int .i64 n1, .int .i64 n2, v3] w fun e w' => e = .returned (.bool true) ∧ Fr w w' (fun _ => False) := by
  have HS := hid hs
  obtain ⟨ao, cap, rfl, hrl, _⟩ := id hs
  clear hs
  by_cases hlong : 5000 < rs.length
  · have u1 : (5000 : Int) < (rs.length : Int) := by omega
    clear hlong
    go_enter Try.func6, Try.ntmps6
    go_wp2_with fail
    refine (known_any _).mono ?_
    rintro e w1 ⟨rfl, hf⟩
    have HF := hid hf
    clear hf
    go_wp2_with fail
    go_ret
    exact ⟨rfl, HF.out⟩
  · have u1 : ¬ (5000 : Int) < (rs.length : Int) := by omega
    have HLL := hid hlong
    clear hlong
    have HS0 := hid (fun W => small_any n0 8 W (by omega) (by omega))
    have HS1 := hid (fun W => small_any n1 8 W (by omega) (by omega))
    have HS2 := hid (fun W => small_any n2 4 W (by omega) (by omega))
    obtain ⟨a1, a2⟩ := smF_bd n0 (m := 8) (by omega)
    obtain ⟨b1, b2⟩ := smF_bd n1 (m := 8) (by omega)
    obtain ⟨c1, c2⟩ := smF_bd n2 (m := 4) (by omega)
    obtain ⟨ns, hns⟩ : ∃ k : Nat, smF n0 8 = (k : Int) := ⟨(smF n0 8).toNat, by omega⟩
    obtain ⟨no, hno⟩ : ∃ k : Nat, smF n1 8 = (k : Int) := ⟨(smF n1 8).toNat, by omega⟩
    obtain ⟨box, hbox⟩ : ∃ k : Nat, smF n2 4 = (k : Int) := ⟨(smF n2 4).toNat, by omega⟩
    rw [hns] at HS0 a1 a2
    rw [hno] at HS1 b1 b2
    rw [hbox] at HS2 c1 c2
    have HN := hid (fun (W : World) (hW : Fr w W (fun _ => False)) => fnew_i (w0 := w) (ns := ns) (no := no) (box := box) W (by omega) (by omega) (by omega) hW)
    have hno8 : no ≤ 8 := by omega
    have hbx4 : box ≤ 4 := by omega
    clear hns hno hbox a1 a2 b1 b2 c1 c2
    go_enter Try.func6, Try.ntmps6
    go_wp2_with fail
    refine (known_any _).mono ?_
    rintro e w1 ⟨rfl, hf⟩
    have HF := hid hf
    clear hf
    go_wp2_with fail
    refine (HS0.out _).mono ?_
    rintro e w9 ⟨rfl, h9⟩
    obtain rfl : w1 = w9 := h9.symm
    clear h9
    go_wp2_with fail
    refine (HS1.out _).mono ?_
    rintro e w9 ⟨rfl, h9⟩
    obtain rfl : w1 = w9 := h9.symm
    clear h9
    go_wp2_with fail
    refine (HS2.out _).mono ?_
    rintro e w9 ⟨rfl, h9⟩
    obtain rfl : w1 = w9 := h9.symm
    clear h9
    go_wp2_with fail
    refine (HN.out _ HF.out).mono ?_
    rintro e w2 ⟨B, rfl, O, hO, _, _⟩
    have HO : Hid (FlI w w2 B box (newP ns no)) := ⟨O, hO⟩
    clear hO HN HF HS0 HS1 HS2
    go_wp2_with fail
    go_loopg [11] rs.length (fun q s11 wx => ∃ (i : Nat) (s : Ps), s11 = .int .i64 (i : Int) ∧ Hid (i + q = rs.length) ∧ Hid (FlI w wx B box s))
    case atStart => exact ⟨0, _, rfl, by show _ = _; omega, HO⟩
    case round =>
      obtain ⟨i, s, rfl, HG, H1⟩ := hrel
      clear HO
      cases gk with
      | zero =>
        have t1 : ¬ (i : Int) < (rs.length : Int) := by have := HG.out; omega
        go_wp2_with fail
        go_ret
        exact ⟨rfl, H1.out.fr⟩
      | succ q =>
        have hi : i < rs.length := by have := HG.out; omega
        have t1 : (i : Int) < (rs.length : Int) := by omega
        obtain ⟨b, off, rfl, p0, p1, p2, p3, p4, p5⟩ := (HS.out.step H1.out.fr).at hi
        have hbl := World.block_lt_of_cell? wr _ p0
        clear hi
        generalize rs.getD i sp0 = st at *
        obtain ⟨kd, A, x⟩ := st
        simp only at p0 p1 p2 p3 p4 p5
        go_upto_region 15 with fail
        have H2 := hid (H1.out.beside (spo ⟨kd, A, x⟩))
        unfold spo at H2
        generalize (wr.alloc (.cells _ 35)) = W2 at *
        generalize wr.heap.size = N at *
        replace H2 : Hid (FB w W2 B box s N (spo ⟨kd, A, x⟩)) := H2
        have hwf := H2.out.fli.wf
        have hq6 : lenAt A s.q ≤ 65536 := lenAt_q hwf A
        have hb1 : lenAt A s.b ≤ box := lenAt_box hwf A
        have hb2 : lenAt ((firR s A).1 : Int) s.b ≤ box := lenAt_box hwf _
        have HQU := hid (fun (W : World) (h : FB w W B box s N (spo ⟨kd, A, x⟩)) => h.queued A)
        have HTO := hid (fun (W : World) (h : FB w W B box s N (spo ⟨kd, A, x⟩)) => h.toward A)
        have HBT := hid (fun (W : World) (h : FB w W B box s N (spo ⟨kd, A, x⟩)) => h.boxed ((firR s A).1 : Int))
        have HBA := hid (fun (W : World) (h : FB w W B box s N (spo ⟨kd, A, x⟩)) => h.boxed A)
        have HWF := hid hwf
        clear hwf H1 p0 p1 p2 p3 p4 p5 hbl
        by_cases k1 : kd = 1
        · subst k1
          have HPU := hid (fun (W : World) (h : FB w W B box s N (spo ⟨1, A, x⟩)) => h.put A x)
          by_cases he : putE s A x = 0
          · have HQ2 := hid (fun (W : World) (h : FB w W B box (putS s A x) N (spo ⟨1, A, x⟩)) => h.queued A)
            rw [put_len he] at HQ2
            rw [he] at HPU
            clear he
            generalize hs2 : putS s A x = s2 at *
            clear hs2
            generalize lenAt A s.q = lq at *
            generalize (firR s A).1 = tw at *
            generalize (firR s A).2.2 = er at *
            generalize lenAt (tw : Int) s.b = lb at *
            generalize lenAt A s.b = la at *
            have z1 : (((lq + 1 : Nat) : Int) != (lq : Int)) = true := by simp; omega
            have z2 : ((lq + 1 : Nat) : Int) = (lq : Int) + 1 := by omega
            have HZ := hid z2
            clear z2
            unfold vI at HPU
            obtain ⟨q0, q1, q2, q3, q4, q5, hNl⟩ := H2.out.cells
            go_wp2_with fail
            refine (HQU.out _ H2.out).mono ?_
            rintro e w3 ⟨rfl, hx⟩
            have H3 := hid hx
            clear hx q0 q1 q2 q3 q4 q5 hNl H2
            obtain ⟨q0, q1, q2, q3, q4, q5, hNl⟩ := H3.out.cells
            go_wp2_with fail
            refine (HTO.out _ H3.out).mono ?_
            rintro e w4 ⟨rfl, hx⟩
            have H4 := hid hx
            clear hx q0 q1 q2 q3 q4 q5 hNl H3
            obtain ⟨q0, q1, q2, q3, q4, q5, hNl⟩ := H4.out.cells
            go_wp2_with fail
            refine (HBT.out _ H4.out).mono ?_
            rintro e w5 ⟨rfl, hx⟩
            have H5 := hid hx
            clear hx q0 q1 q2 q3 q4 q5 hNl H4
            obtain ⟨q0, q1, q2, q3, q4, q5, hNl⟩ := H5.out.cells
            go_wp2_with fail
            refine (HBA.out _ H5.out).mono ?_
            rintro e w6 ⟨rfl, hx⟩
            have H6 := hid hx
            clear hx q0 q1 q2 q3 q4 q5 hNl H5
            obtain ⟨q0, q1, q2, q3, q4, q5, hNl⟩ := H6.out.cells
            go_wp2_with fail
            refine (HPU.out _ H6.out).mono ?_
            rintro e w7 ⟨rfl, hx⟩
            have H7 := hid hx
            clear hx q0 q1 q2 q3 q4 q5 hNl H6
            obtain ⟨q0, q1, q2, q3, q4, q5, hNl⟩ := H7.out.cells
            go_wp2_with fail
            refine (HQ2.out _ H7.out).mono ?_
            rintro e w8 ⟨rfl, hx⟩
            have H8 := hid hx
            clear hx q0 q1 q2 q3 q4 q5 hNl H7
            obtain ⟨q0, q1, q2, q3, q4, q5, hNl⟩ := H8.out.cells
            go_wp2_with fail
            refine (HQ2.out _ H8.out).mono ?_
            rintro e w9 ⟨rfl, hx⟩
            have H9 := hid hx
            clear hx q0 q1 q2 q3 q4 q5 hNl H8
            have HX := hid H9.out.fli
            clear H9
            go_wp2_with fail
            have HBX := hid (fun j => lenAt_box HX.out.wf j)
            generalize hcur : w9 = W8 at *
            clear hcur
            go_loopg [25] no (fun q2 s25 wx => ∃ j : Nat, s25 = .int .i64 (j : Int) ∧ Hid (j + q2 = no) ∧ Hid (FlI w wx B box s2))
            case atStart => exact ⟨0, rfl, by show _ = _; omega, HX⟩
            case round =>
              obtain ⟨j, rfl, HGJ, H9⟩ := hrel
              clear HX
              cases gk with
              | zero =>
                have tj : ¬ (j : Int) < (no : Int) := by have := HGJ.out; omega
                go_wp2_with fail
                go_roundg q
                case measure => omega
                case rel => exact ⟨i + 1, _, by go_num, by have := HG.out; show _ = _; omega, H9⟩
              | succ q2 =>
                have tj : (j : Int) < (no : Int) := by have := HGJ.out; omega
                have HC := hid (H9.out.boxed (j : Int))
                have tb : ¬ (box : Int) < (lenAt (j : Int) s2.b : Int) := by have := HBX.out (j : Int); omega
                generalize lenAt (j : Int) s2.b = lb at *
                go_wp2_with fail
                refine HC.out.mono ?_
                rintro e w20 ⟨rfl, h20⟩
                have H20 := hid h20
                clear h20
                go_wp2_with fail
                go_roundg q2
                case measure => omega
                case rel => exact ⟨j + 1, by go_num, by have := HGJ.out; show _ = _; omega, H20⟩
          · have hsm : putS s A x = s := put_same he
            rw [hsm] at HPU
            have z1 : (putE s A x == 0) = false := by simpa using he
            have z2 : (putE s A x != 0) = true := by simpa using he
            clear he hsm
            generalize putE s A x = pe at *
            generalize lenAt A s.q = lq at *
            generalize (firR s A).1 = tw at *
            generalize (firR s A).2.2 = er at *
            generalize lenAt (tw : Int) s.b = lb at *
            generalize lenAt A s.b = la at *
            unfold vI at HPU
            obtain ⟨q0, q1, q2, q3, q4, q5, hNl⟩ := H2.out.cells
            go_wp2_with fail
            refine (HQU.out _ H2.out).mono ?_
            rintro e w3 ⟨rfl, hx⟩
            have H3 := hid hx
            clear hx q0 q1 q2 q3 q4 q5 hNl H2
            obtain ⟨q0, q1, q2, q3, q4, q5, hNl⟩ := H3.out.cells
            go_wp2_with fail
            refine (HTO.out _ H3.out).mono ?_
            rintro e w4 ⟨rfl, hx⟩
            have H4 := hid hx
            clear hx q0 q1 q2 q3 q4 q5 hNl H3
            obtain ⟨q0, q1, q2, q3, q4, q5, hNl⟩ := H4.out.cells
            go_wp2_with fail
            refine (HBT.out _ H4.out).mono ?_
            rintro e w5 ⟨rfl, hx⟩
            have H5 := hid hx
            clear hx q0 q1 q2 q3 q4 q5 hNl H4
            obtain ⟨q0, q1, q2, q3, q4, q5, hNl⟩ := H5.out.cells
            go_wp2_with fail
            refine (HBA.out _ H5.out).mono ?_
            rintro e w6 ⟨rfl, hx⟩
            have H6 := hid hx
            clear hx q0 q1 q2 q3 q4 q5 hNl H5
            obtain ⟨q0, q1, q2, q3, q4, q5, hNl⟩ := H6.out.cells
            go_wp2_with fail
            refine (HPU.out _ H6.out).mono ?_
            rintro e w7 ⟨rfl, hx⟩
            have H7 := hid hx
            clear hx q0 q1 q2 q3 q4 q5 hNl H6
            obtain ⟨q0, q1, q2, q3, q4, q5, hNl⟩ := H7.out.cells
            go_wp2_with fail
            refine (HQU.out _ H7.out).mono ?_
            rintro e w8 ⟨rfl, hx⟩
            have H8 := hid hx
            clear hx q0 q1 q2 q3 q4 q5 hNl H7
            have HX := hid H8.out.fli
            clear H8
            go_wp2_with fail
            have HBX := hid (fun j => lenAt_box HX.out.wf j)
            generalize hcur : w8 = W8 at *
            clear hcur
            go_loopg [25] no (fun q2 s25 wx => ∃ j : Nat, s25 = .int .i64 (j : Int) ∧ Hid (j + q2 = no) ∧ Hid (FlI w wx B box s))
            case atStart => exact ⟨0, rfl, by show _ = _; omega, HX⟩
            case round =>
              obtain ⟨j, rfl, HGJ, H9⟩ := hrel
              clear HX
              cases gk with
              | zero =>
                have tj : ¬ (j : Int) < (no : Int) := by have := HGJ.out; omega
                go_wp2_with fail
                go_roundg q
                case measure => omega
                case rel => exact ⟨i + 1, _, by go_num, by have := HG.out; show _ = _; omega, H9⟩
              | succ q2 =>
                have tj : (j : Int) < (no : Int) := by have := HGJ.out; omega
                have HC := hid (H9.out.boxed (j : Int))
                have tb : ¬ (box : Int) < (lenAt (j : Int) s.b : Int) := by have := HBX.out (j : Int); omega
                generalize lenAt (j : Int) s.b = lb at *
                go_wp2_with fail
                refine HC.out.mono ?_
                rintro e w20 ⟨rfl, h20⟩
                have H20 := hid h20
                clear h20
                go_wp2_with fail
                go_roundg q2
                case measure => omega
                case rel => exact ⟨j + 1, by go_num, by have := HGJ.out; show _ = _; omega, H20⟩
        · by_cases k2 : kd = 2
          · subst k2
            have HPA := hid (fun (W : World) (h : FB w W B box s N (spo ⟨2, A, x⟩)) => h.pass A)
            by_cases her : (firR s A).2.2 = 0
            · by_cases hfu : box ≤ lenAt ((firR s A).1 : Int) s.b
              · rw [(pas_full HWF.out her hfu).1, (pas_full HWF.out her hfu).2] at HPA
                rw [her] at HTO
                have z1 : (box : Int) ≤ (lenAt ((firR s A).1 : Int) s.b : Int) := by omega
                clear her hfu k1
                simp only at HPA
                generalize lenAt A s.q = lq at *
                generalize (firR s A).1 = tw at *
                generalize lenAt (tw : Int) s.b = lb at *
                generalize lenAt A s.b = la at *
                obtain ⟨q0, q1, q2, q3, q4, q5, hNl⟩ := H2.out.cells
                go_wp2_with fail
                refine (HQU.out _ H2.out).mono ?_
                rintro e w3 ⟨rfl, hx⟩
                have H3 := hid hx
                clear hx q0 q1 q2 q3 q4 q5 hNl H2
                obtain ⟨q0, q1, q2, q3, q4, q5, hNl⟩ := H3.out.cells
                go_wp2_with fail
                refine (HTO.out _ H3.out).mono ?_
                rintro e w4 ⟨rfl, hx⟩
                have H4 := hid hx
                clear hx q0 q1 q2 q3 q4 q5 hNl H3
                obtain ⟨q0, q1, q2, q3, q4, q5, hNl⟩ := H4.out.cells
                go_wp2_with fail
                refine (HBT.out _ H4.out).mono ?_
                rintro e w5 ⟨rfl, hx⟩
                have H5 := hid hx
                clear hx q0 q1 q2 q3 q4 q5 hNl H4
                obtain ⟨q0, q1, q2, q3, q4, q5, hNl⟩ := H5.out.cells
                go_wp2_with fail
                refine (HBA.out _ H5.out).mono ?_
                rintro e w6 ⟨rfl, hx⟩
                have H6 := hid hx
                clear hx q0 q1 q2 q3 q4 q5 hNl H5
                obtain ⟨q0, q1, q2, q3, q4, q5, hNl⟩ := H6.out.cells
                go_wp2_with fail
                refine (HPA.out _ H6.out).mono ?_
                rintro e w7 ⟨rfl, hx⟩
                have H7 := hid hx
                clear hx q0 q1 q2 q3 q4 q5 hNl H6
                obtain ⟨q0, q1, q2, q3, q4, q5, hNl⟩ := H7.out.cells
                go_wp2_with fail
                refine (HBT.out _ H7.out).mono ?_
                rintro e w8 ⟨rfl, hx⟩
                have H8 := hid hx
                clear hx q0 q1 q2 q3 q4 q5 hNl H7
                have HX := hid H8.out.fli
                clear H8
                go_wp2_with fail
                have HBX := hid (fun j => lenAt_box HX.out.wf j)
                generalize hcur : w8 = W8 at *
                clear hcur
                go_loopg [25] no (fun q2 s25 wx => ∃ j : Nat, s25 = .int .i64 (j : Int) ∧ Hid (j + q2 = no) ∧ Hid (FlI w wx B box s))
                case atStart => exact ⟨0, rfl, by show _ = _; omega, HX⟩
                case round =>
                  obtain ⟨j, rfl, HGJ, H9⟩ := hrel
                  clear HX
                  cases gk with
                  | zero =>
                    have tj : ¬ (j : Int) < (no : Int) := by have := HGJ.out; omega
                    go_wp2_with fail
                    go_roundg q
                    case measure => omega
                    case rel => exact ⟨i + 1, _, by go_num, by have := HG.out; show _ = _; omega, H9⟩
                  | succ q2 =>
                    have tj : (j : Int) < (no : Int) := by have := HGJ.out; omega
                    have HC := hid (H9.out.boxed (j : Int))
                    have tb : ¬ (box : Int) < (lenAt (j : Int) s.b : Int) := by have := HBX.out (j : Int); omega
                    generalize lenAt (j : Int) s.b = lb at *
                    go_wp2_with fail
                    refine HC.out.mono ?_
                    rintro e w20 ⟨rfl, h20⟩
                    have H20 := hid h20
                    clear h20
                    go_wp2_with fail
                    go_roundg q2
                    case measure => omega
                    case rel => exact ⟨j + 1, by go_num, by have := HGJ.out; show _ = _; omega, H20⟩
              · obtain ⟨hp1, hp2⟩ := pas_ok HWF.out her hfu
                rw [hp1] at HPA
                rw [her] at HTO
                have z1 : ¬ (box : Int) ≤ (lenAt ((firR s A).1 : Int) s.b : Int) := by omega
                have HB2 := hid (fun (W : World) (h : FB w W B box (pasS s box A) N (spo ⟨2, A, x⟩)) => h.boxed ((firR s A).1 : Int))
                rw [hp2] at HB2
                clear her hfu k1 hp1 hp2
                simp only at HPA
                generalize pasS s box A = s2 at *
                generalize lenAt A s.q = lq at *
                generalize (firR s A).1 = tw at *
                generalize lenAt (tw : Int) s.b = lb at *
                generalize lenAt A s.b = la at *
                have z2 : ((lb + 1 : Nat) : Int) = (lb : Int) + 1 := by omega
                obtain ⟨q0, q1, q2, q3, q4, q5, hNl⟩ := H2.out.cells
                go_wp2_with fail
                refine (HQU.out _ H2.out).mono ?_
                rintro e w3 ⟨rfl, hx⟩
                have H3 := hid hx
                clear hx q0 q1 q2 q3 q4 q5 hNl H2
                obtain ⟨q0, q1, q2, q3, q4, q5, hNl⟩ := H3.out.cells
                go_wp2_with fail
                refine (HTO.out _ H3.out).mono ?_
                rintro e w4 ⟨rfl, hx⟩
                have H4 := hid hx
                clear hx q0 q1 q2 q3 q4 q5 hNl H3
                obtain ⟨q0, q1, q2, q3, q4, q5, hNl⟩ := H4.out.cells
                go_wp2_with fail
                refine (HBT.out _ H4.out).mono ?_
                rintro e w5 ⟨rfl, hx⟩
                have H5 := hid hx
                clear hx q0 q1 q2 q3 q4 q5 hNl H4
                obtain ⟨q0, q1, q2, q3, q4, q5, hNl⟩ := H5.out.cells
                go_wp2_with fail
                refine (HBA.out _ H5.out).mono ?_
                rintro e w6 ⟨rfl, hx⟩
                have H6 := hid hx
                clear hx q0 q1 q2 q3 q4 q5 hNl H5
                obtain ⟨q0, q1, q2, q3, q4, q5, hNl⟩ := H6.out.cells
                go_wp2_with fail
                refine (HPA.out _ H6.out).mono ?_
                rintro e w7 ⟨rfl, hx⟩
                have H7 := hid hx
                clear hx q0 q1 q2 q3 q4 q5 hNl H6
                obtain ⟨q0, q1, q2, q3, q4, q5, hNl⟩ := H7.out.cells
                go_wp2_with fail
                refine (HB2.out _ H7.out).mono ?_
                rintro e w8 ⟨rfl, hx⟩
                have H8 := hid hx
                clear hx q0 q1 q2 q3 q4 q5 hNl H7
                have HX := hid H8.out.fli
                clear H8
                go_wp2_with fail
                have HBX := hid (fun j => lenAt_box HX.out.wf j)
                generalize hcur : w8 = W8 at *
                clear hcur
                go_loopg [25] no (fun q2 s25 wx => ∃ j : Nat, s25 = .int .i64 (j : Int) ∧ Hid (j + q2 = no) ∧ Hid (FlI w wx B box s2))
                case atStart => exact ⟨0, rfl, by show _ = _; omega, HX⟩
                case round =>
                  obtain ⟨j, rfl, HGJ, H9⟩ := hrel
                  clear HX
                  cases gk with
                  | zero =>
                    have tj : ¬ (j : Int) < (no : Int) := by have := HGJ.out; omega
                    go_wp2_with fail
                    go_roundg q
                    case measure => omega
                    case rel => exact ⟨i + 1, _, by go_num, by have := HG.out; show _ = _; omega, H9⟩
                  | succ q2 =>
                    have tj : (j : Int) < (no : Int) := by have := HGJ.out; omega
                    have HC := hid (H9.out.boxed (j : Int))
                    have tb : ¬ (box : Int) < (lenAt (j : Int) s2.b : Int) := by have := HBX.out (j : Int); omega
                    generalize lenAt (j : Int) s2.b = lb at *
                    go_wp2_with fail
                    refine HC.out.mono ?_
                    rintro e w20 ⟨rfl, h20⟩
                    have H20 := hid h20
                    clear h20
                    go_wp2_with fail
                    go_roundg q2
                    case measure => omega
                    case rel => exact ⟨j + 1, by go_num, by have := HGJ.out; show _ = _; omega, H20⟩
            · rw [(pas_err (box := box) her).1, (pas_err (box := box) her).2] at HPA
              have z1 : ((firR s A).2.2 != 0) = true := by simpa using her
              clear her k1
              simp only at HPA
              generalize (firR s A).2.2 = er at *
              generalize lenAt A s.q = lq at *
              generalize (firR s A).1 = tw at *
              generalize lenAt (tw : Int) s.b = lb at *
              generalize lenAt A s.b = la at *
              obtain ⟨q0, q1, q2, q3, q4, q5, hNl⟩ := H2.out.cells
              go_wp2_with fail
              refine (HQU.out _ H2.out).mono ?_
              rintro e w3 ⟨rfl, hx⟩
              have H3 := hid hx
              clear hx q0 q1 q2 q3 q4 q5 hNl H2
              obtain ⟨q0, q1, q2, q3, q4, q5, hNl⟩ := H3.out.cells
              go_wp2_with fail
              refine (HTO.out _ H3.out).mono ?_
              rintro e w4 ⟨rfl, hx⟩
              have H4 := hid hx
              clear hx q0 q1 q2 q3 q4 q5 hNl H3
              obtain ⟨q0, q1, q2, q3, q4, q5, hNl⟩ := H4.out.cells
              go_wp2_with fail
              refine (HBT.out _ H4.out).mono ?_
              rintro e w5 ⟨rfl, hx⟩
              have H5 := hid hx
              clear hx q0 q1 q2 q3 q4 q5 hNl H4
              obtain ⟨q0, q1, q2, q3, q4, q5, hNl⟩ := H5.out.cells
              go_wp2_with fail
              refine (HBA.out _ H5.out).mono ?_
              rintro e w6 ⟨rfl, hx⟩
              have H6 := hid hx
              clear hx q0 q1 q2 q3 q4 q5 hNl H5
              obtain ⟨q0, q1, q2, q3, q4, q5, hNl⟩ := H6.out.cells
              go_wp2_with fail
              refine (HPA.out _ H6.out).mono ?_
              rintro e w7 ⟨rfl, hx⟩
              have H7 := hid hx
              clear hx q0 q1 q2 q3 q4 q5 hNl H6
              go_wp2_with fail
              go_roundg q
              case measure => omega
              case rel => exact ⟨i + 1, _, by go_num, by have := HG.out; show _ = _; omega, H7.out.fli⟩
          · by_cases k3 : kd = 3
            · subst k3
              have HTK := hid (fun (W : World) (h : FB w W B box s N (spo ⟨3, A, x⟩)) => h.take A)
              by_cases hla : 0 < lenAt A s.b
              · obtain ⟨hp1, hp2⟩ := tak_some hla
                rw [hp1] at HTK
                have HB2 := hid (fun (W : World) (h : FB w W B box (takS s A) N (spo ⟨3, A, x⟩)) => h.boxed A)
                rw [hp2] at HB2
                have z1 : (0 : Int) < (lenAt A s.b : Int) := by omega
                clear k1 k2 hp1 hp2
                generalize takS s A = s2 at *
                generalize (takR s A).1 = mm at *
                generalize (firR s A).2.2 = er at *
                generalize lenAt A s.q = lq at *
                generalize (firR s A).1 = tw at *
                generalize lenAt (tw : Int) s.b = lb at *
                generalize lenAt A s.b = la at *
                have z2 : ((la - 1 : Nat) : Int) = (la : Int) - 1 := by omega
                clear hla
                unfold vI at HTK
                obtain ⟨q0, q1, q2, q3, q4, q5, hNl⟩ := H2.out.cells
                go_wp2_with fail
                refine (HQU.out _ H2.out).mono ?_
                rintro e w3 ⟨rfl, hx⟩
                have H3 := hid hx
                clear hx q0 q1 q2 q3 q4 q5 hNl H2
                obtain ⟨q0, q1, q2, q3, q4, q5, hNl⟩ := H3.out.cells
                go_wp2_with fail
                refine (HTO.out _ H3.out).mono ?_
                rintro e w4 ⟨rfl, hx⟩
                have H4 := hid hx
                clear hx q0 q1 q2 q3 q4 q5 hNl H3
                obtain ⟨q0, q1, q2, q3, q4, q5, hNl⟩ := H4.out.cells
                go_wp2_with fail
                refine (HBT.out _ H4.out).mono ?_
                rintro e w5 ⟨rfl, hx⟩
                have H5 := hid hx
                clear hx q0 q1 q2 q3 q4 q5 hNl H4
                obtain ⟨q0, q1, q2, q3, q4, q5, hNl⟩ := H5.out.cells
                go_wp2_with fail
                refine (HBA.out _ H5.out).mono ?_
                rintro e w6 ⟨rfl, hx⟩
                have H6 := hid hx
                clear hx q0 q1 q2 q3 q4 q5 hNl H5
                obtain ⟨q0, q1, q2, q3, q4, q5, hNl⟩ := H6.out.cells
                go_wp2_with fail
                refine (HTK.out _ H6.out).mono ?_
                rintro e w7 ⟨rfl, hx⟩
                have H7 := hid hx
                clear hx q0 q1 q2 q3 q4 q5 hNl H6
                obtain ⟨q0, q1, q2, q3, q4, q5, hNl⟩ := (H7.out.still (alloc_fr w7 (.cells #[.bool mm.x.m, .string mm.x.k, .int .i64 mm.x.t, .int .i64 mm.x.v] 33) (fun _ => False))).cells
                go_wp2_with fail
                refine (HB2.out _ (H7.out.still (alloc_fr _ _ _))).mono ?_
                rintro e w8 ⟨rfl, hx⟩
                have H8 := hid hx
                clear hx q0 q1 q2 q3 q4 q5 hNl H7
                have HX := hid H8.out.fli
                clear H8
                go_wp2_with fail
                have HBX := hid (fun j => lenAt_box HX.out.wf j)
                generalize hcur : w8 = W8 at *
                clear hcur
                go_loopg [25] no (fun q2 s25 wx => ∃ j : Nat, s25 = .int .i64 (j : Int) ∧ Hid (j + q2 = no) ∧ Hid (FlI w wx B box s2))
                case atStart => exact ⟨0, rfl, by show _ = _; omega, HX⟩
                case round =>
                  obtain ⟨j, rfl, HGJ, H9⟩ := hrel
                  clear HX
                  cases gk with
                  | zero =>
                    have tj : ¬ (j : Int) < (no : Int) := by have := HGJ.out; omega
                    go_wp2_with fail
                    go_roundg q
                    case measure => omega
                    case rel => exact ⟨i + 1, _, by go_num, by have := HG.out; show _ = _; omega, H9⟩
                  | succ q2 =>
                    have tj : (j : Int) < (no : Int) := by have := HGJ.out; omega
                    have HC := hid (H9.out.boxed (j : Int))
                    have tb : ¬ (box : Int) < (lenAt (j : Int) s2.b : Int) := by have := HBX.out (j : Int); omega
                    generalize lenAt (j : Int) s2.b = lb at *
                    go_wp2_with fail
                    refine HC.out.mono ?_
                    rintro e w20 ⟨rfl, h20⟩
                    have H20 := hid h20
                    clear h20
                    go_wp2_with fail
                    go_roundg q2
                    case measure => omega
                    case rel => exact ⟨j + 1, by go_num, by have := HGJ.out; show _ = _; omega, H20⟩
              · obtain ⟨hp1, hp2⟩ := tak_none hla
                rw [hp2] at HTK
                have z0 : ((takR s A).2 == 0) = false := by simpa using hp1
                have z1 : ¬ (0 : Int) < (lenAt A s.b : Int) := by omega
                clear k1 k2 hp1 hp2 hla
                generalize (takR s A).2 = te at *
                generalize (takR s A).1 = mm at *
                generalize (firR s A).2.2 = er at *
                generalize lenAt A s.q = lq at *
                generalize (firR s A).1 = tw at *
                generalize lenAt (tw : Int) s.b = lb at *
                generalize lenAt A s.b = la at *
                unfold vI at HTK
                obtain ⟨q0, q1, q2, q3, q4, q5, hNl⟩ := H2.out.cells
                go_wp2_with fail
                refine (HQU.out _ H2.out).mono ?_
                rintro e w3 ⟨rfl, hx⟩
                have H3 := hid hx
                clear hx q0 q1 q2 q3 q4 q5 hNl H2
                obtain ⟨q0, q1, q2, q3, q4, q5, hNl⟩ := H3.out.cells
                go_wp2_with fail
                refine (HTO.out _ H3.out).mono ?_
                rintro e w4 ⟨rfl, hx⟩
                have H4 := hid hx
                clear hx q0 q1 q2 q3 q4 q5 hNl H3
                obtain ⟨q0, q1, q2, q3, q4, q5, hNl⟩ := H4.out.cells
                go_wp2_with fail
                refine (HBT.out _ H4.out).mono ?_
                rintro e w5 ⟨rfl, hx⟩
                have H5 := hid hx
                clear hx q0 q1 q2 q3 q4 q5 hNl H4
                obtain ⟨q0, q1, q2, q3, q4, q5, hNl⟩ := H5.out.cells
                go_wp2_with fail
                refine (HBA.out _ H5.out).mono ?_
                rintro e w6 ⟨rfl, hx⟩
                have H6 := hid hx
                clear hx q0 q1 q2 q3 q4 q5 hNl H5
                obtain ⟨q0, q1, q2, q3, q4, q5, hNl⟩ := H6.out.cells
                go_wp2_with fail
                refine (HTK.out _ H6.out).mono ?_
                rintro e w7 ⟨rfl, hx⟩
                have H7 := hid hx
                clear hx q0 q1 q2 q3 q4 q5 hNl H6
                have HX := hid (H7.out.still (alloc_fr w7 (.cells #[.bool mm.x.m, .string mm.x.k, .int .i64 mm.x.t, .int .i64 mm.x.v] 33) (fun _ => False))).fli
                clear H7
                go_wp2_with fail
                have HBX := hid (fun j => lenAt_box HX.out.wf j)
                generalize hcur : (w7.alloc (.cells #[.bool mm.x.m, .string mm.x.k, .int .i64 mm.x.t, .int .i64 mm.x.v] 33)) = W8 at *
                clear hcur
                go_loopg [25] no (fun q2 s25 wx => ∃ j : Nat, s25 = .int .i64 (j : Int) ∧ Hid (j + q2 = no) ∧ Hid (FlI w wx B box s))
                case atStart => exact ⟨0, rfl, by show _ = _; omega, HX⟩
                case round =>
                  obtain ⟨j, rfl, HGJ, H9⟩ := hrel
                  clear HX
                  cases gk with
                  | zero =>
                    have tj : ¬ (j : Int) < (no : Int) := by have := HGJ.out; omega
                    go_wp2_with fail
                    go_roundg q
                    case measure => omega
                    case rel => exact ⟨i + 1, _, by go_num, by have := HG.out; show _ = _; omega, H9⟩
                  | succ q2 =>
                    have tj : (j : Int) < (no : Int) := by have := HGJ.out; omega
                    have HC := hid (H9.out.boxed (j : Int))
                    have tb : ¬ (box : Int) < (lenAt (j : Int) s.b : Int) := by have := HBX.out (j : Int); omega
                    generalize lenAt (j : Int) s.b = lb at *
                    go_wp2_with fail
                    refine HC.out.mono ?_
                    rintro e w20 ⟨rfl, h20⟩
                    have H20 := hid h20
                    clear h20
                    go_wp2_with fail
                    go_roundg q2
                    case measure => omega
                    case rel => exact ⟨j + 1, by go_num, by have := HGJ.out; show _ = _; omega, H20⟩
            · have z1 : (kd == 1) = false := by simpa using k1
              have z2 : (kd == 2) = false := by simpa using k2
              have z3 : (kd == 3) = false := by simpa using k3
              clear k1 k2 k3
              generalize (firR s A).2.2 = er at *
              generalize lenAt A s.q = lq at *
              generalize (firR s A).1 = tw at *
              generalize lenAt (tw : Int) s.b = lb at *
              generalize lenAt A s.b = la at *
              obtain ⟨q0, q1, q2, q3, q4, q5, hNl⟩ := H2.out.cells
              go_wp2_with fail
              refine (HQU.out _ H2.out).mono ?_
              rintro e w3 ⟨rfl, hx⟩
              have H3 := hid hx
              clear hx q0 q1 q2 q3 q4 q5 hNl H2
              obtain ⟨q0, q1, q2, q3, q4, q5, hNl⟩ := H3.out.cells
              go_wp2_with fail
              refine (HTO.out _ H3.out).mono ?_
              rintro e w4 ⟨rfl, hx⟩
              have H4 := hid hx
              clear hx q0 q1 q2 q3 q4 q5 hNl H3
              obtain ⟨q0, q1, q2, q3, q4, q5, hNl⟩ := H4.out.cells
              go_wp2_with fail
              refine (HBT.out _ H4.out).mono ?_
              rintro e w5 ⟨rfl, hx⟩
              have H5 := hid hx
              clear hx q0 q1 q2 q3 q4 q5 hNl H4
              obtain ⟨q0, q1, q2, q3, q4, q5, hNl⟩ := H5.out.cells
              go_wp2_with fail
              refine (HBA.out _ H5.out).mono ?_
              rintro e w6 ⟨rfl, hx⟩
              have H6 := hid hx
              clear hx q0 q1 q2 q3 q4 q5 hNl H5
              obtain ⟨q0, q1, q2, q3, q4, q5, hNl⟩ := H6.out.cells
              have HX := hid H6.out.fli
              clear H6
              go_wp2_with fail
              have HBX := hid (fun j => lenAt_box HX.out.wf j)
              generalize hcur : w6 = W8 at *
              clear hcur
              go_loopg [25] no (fun q2 s25 wx => ∃ j : Nat, s25 = .int .i64 (j : Int) ∧ Hid (j + q2 = no) ∧ Hid (FlI w wx B box s))
              case atStart => exact ⟨0, rfl, by show _ = _; omega, HX⟩
              case round =>
                obtain ⟨j, rfl, HGJ, H9⟩ := hrel
                clear HX
                cases gk with
                | zero =>
                  have tj : ¬ (j : Int) < (no : Int) := by have := HGJ.out; omega
                  go_wp2_with fail
                  go_roundg q
                  case measure => omega
                  case rel => exact ⟨i + 1, _, by go_num, by have := HG.out; show _ = _; omega, H9⟩
                | succ q2 =>
                  have tj : (j : Int) < (no : Int) := by have := HGJ.out; omega
                  have HC := hid (H9.out.boxed (j : Int))
                  have tb : ¬ (box : Int) < (lenAt (j : Int) s.b : Int) := by have := HBX.out (j : Int); omega
                  generalize lenAt (j : Int) s.b = lb at *
                  go_wp2_with fail
                  refine HC.out.mono ?_
                  rintro e w20 ⟨rfl, h20⟩
                  have H20 := hid h20
                  clear h20
                  go_wp2_with fail
                  go_roundg q2
                  case measure => omega
                  case rel => exact ⟨j + 1, by go_num, by have := HGJ.out; show _ = _; omega, H20⟩
end Go.Proofs.Ytekhpehficabmaa
