/- FlowMany: the walk. -/
import Derived.Test.YtlgbciibhmcokaaXKnown
namespace Go.Proofs.Ytlgbciibhmcokaa
open Go.RowKit

/-- A number brought into 1 to most. -/
def smF (n m : Int) : Int := if n.tmod m < 0 then n.tmod m + m + 1 else n.tmod m + 1
theorem tmod_bd (n : Int) {m : Int} (hm : 0 < m) : -m < n.tmod m ∧ n.tmod m < m := by
  refine ⟨?_, Int.tmod_lt_of_pos n hm⟩
  have h := Int.tmod_lt_of_pos (-n) hm
  rw [Int.neg_tmod] at h
  omega
theorem smF_bd (n : Int) {m : Int} (hm : 0 < m) : 1 ≤ smF n m ∧ smF n m ≤ m := by
  have := tmod_bd n hm
  unfold smF
  split <;> omega
set_option maxHeartbeats 1000000 in
theorem small_any (n m : Int) (w : World) (hm : 0 < m) (hm2 : m ≤ 64) : Calls Try.prog 15 #[.int .i64 n, .int .i64 m] w fun e w' => e = .returned (.int .i64 (smF n m)) ∧ w' = w := by
  have hb := tmod_bd n hm
  have h0 : ¬ m = 0 := by omega
  have hw : IntKind.i64.wrap (n.tmod m) = n.tmod m := wrap_fit (by unfold fits; omega)
  unfold smF
  by_cases hn : n.tmod m < 0
  · rw [if_pos hn]
    generalize ht : n.tmod m = t at *
    go_enter Try.func15, Try.ntmps15
    go_wp2_with fail
    go_ret
    exact ⟨rfl, rfl⟩
  · rw [if_neg hn]
    generalize ht : n.tmod m = t at *
    go_enter Try.func15, Try.ntmps15
    go_wp2_with fail
    go_ret
    exact ⟨rfl, rfl⟩
/-- The queue's items: the first ones. -/
def qi (key : ByteArray) (j : Nat) : It := ⟨false, key, 0, (j : Int)⟩
def qL (key : ByteArray) (n : Nat) : List It := (List.range n).map (qi key)
theorem qL_len (key : ByteArray) (n : Nat) : (qL key n).length = n := by simp [qL]
theorem qL_succ (key : ByteArray) (n : Nat) : qL key (n + 1) = qL key n ++ [qi key n] := by simp [qL, List.range_succ]
def ky (key : ByteArray) : It := ⟨false, key, 0, 0⟩
def mk0 : It := ⟨true, ⟨#[]⟩, 0, 0⟩
theorem errC_ev {key : ByteArray} (h1 : 1 ≤ key.size) (h2 : key.size ≤ 32) (v : Int) : errC ⟨false, key, 0, v⟩ = 0 := by
  unfold errC
  have hk : keyB key = true := decide_eq_true ⟨h1, h2⟩
  rw [if_neg (by simp [hk]), if_neg (by simp), if_neg (by simp)]
theorem errC_mk : errC mk0 = 0 := by decide +kernel
/-- Put into the first of two queues. -/
theorem put0 {A B : List It} {n : List Nat} {b : List (List Ms)} {x : It} (hx : errC x = 0) (hl : A.length < 65536) : putE ⟨[A, B], n, b⟩ 0 x = 0 ∧ putS ⟨[A, B], n, b⟩ 0 x = ⟨[A ++ [x], B], n, b⟩ := by
  have e : putE ⟨[A, B], n, b⟩ 0 x = 0 := by
    unfold putE
    rw [if_neg (by simp), if_neg (fun h => h hx), if_neg (by show ¬ 65536 ≤ A.length; omega)]
  refine ⟨e, ?_⟩
  unfold putS
  rw [if_pos e]
  rfl
theorem put0_full {A B : List It} {n : List Nat} {b : List (List Ms)} {x : It} (hx : errC x = 0) (hl : A.length = 65536) : putE ⟨[A, B], n, b⟩ 0 x = 2 ∧ putS ⟨[A, B], n, b⟩ 0 x = ⟨[A, B], n, b⟩ := by
  have e : putE ⟨[A, B], n, b⟩ 0 x = 2 := by
    unfold putE
    rw [if_neg (by simp), if_neg (fun h => h hx), if_pos (by show 65536 ≤ A.length; omega)]
  refine ⟨e, ?_⟩
  unfold putS
  rw [e, if_neg (by decide)]
theorem put1 {A B : List It} {n : List Nat} {b : List (List Ms)} {x : It} (hx : errC x = 0) (hl : B.length < 65536) : putE ⟨[A, B], n, b⟩ 1 x = 0 ∧ putS ⟨[A, B], n, b⟩ 1 x = ⟨[A, B ++ [x]], n, b⟩ := by
  have e : putE ⟨[A, B], n, b⟩ 1 x = 0 := by
    unfold putE
    rw [if_neg (by simp), if_neg (fun h => h hx), if_neg (by show ¬ 65536 ≤ B.length; omega)]
  refine ⟨e, ?_⟩
  unfold putS
  rw [if_pos e]
  rfl
theorem rt1 (k : ByteArray) : rtF 1 k = 0 := by unfold rtF; omega
/-- Pass and Take of an event, with one box. -/
theorem pass0 {A B : List It} {x : It} (hm : x.m = false) : pasS ⟨[x :: A, B], [0, 0], [[]]⟩ 1 0 = ⟨[A, B], [0, 0], [[⟨0, x⟩]]⟩ := by
  have h := firR_cons (s := ⟨[x :: A, B], [0, 0], [[]]⟩) (n := 0) (by simp) (x := x) (L := A) rfl
  have e : tow ⟨[x :: A, B], [0, 0], [[]]⟩ 0 x = 0 := by unfold tow; rw [if_neg (by rw [hm]; decide)]; exact rt1 _
  rw [e] at h
  unfold pasS
  rw [show ((0 : Int)) = ((0 : Nat) : Int) from rfl, h, if_neg (by simp), if_neg (by show ¬ 1 ≤ 0; omega)]
  unfold pasT
  rw [if_neg (by rw [hm]; intro h; cases h.1)]
  rfl
theorem take0 {Q : List (List It)} {n : List Nat} {m : Ms} : takR ⟨Q, n, [[m]]⟩ 0 = (m, 0) ∧ takS ⟨Q, n, [[m]]⟩ 0 = ⟨Q, n, [[]]⟩ := ⟨rfl, rfl⟩
/-- The queue behind i rounds: its first i are gone, as many others stand behind. -/
def qR (key : ByteArray) (i : Nat) : List It := (qL key 65536).drop i ++ List.replicate i (ky key)
theorem qR_len {key : ByteArray} {i : Nat} (h : i ≤ 65536) : (qR key i).length = 65536 := by
  unfold qR
  rw [List.length_append, List.length_drop, qL_len, List.length_replicate]
  omega
theorem qR_step {key : ByteArray} {i : Nat} (h : i < 65536) : ∃ A, qR key i = qi key i :: A ∧ A.length < 65536 ∧ A ++ [ky key] = qR key (i + 1) := by
  refine ⟨(qL key 65536).drop (i + 1) ++ List.replicate i (ky key), ?_, ?_, ?_⟩
  · unfold qR
    have hl : i < (qL key 65536).length := by rw [qL_len]; exact h
    rw [List.drop_eq_getElem_cons hl]
    have e : (qL key 65536)[i] = qi key i := by simp [qL]
    rw [e, List.cons_append]
  · rw [List.length_append, List.length_drop, qL_len, List.length_replicate]; omega
  · unfold qR
    rw [List.append_assoc, List.replicate_succ']
set_option maxHeartbeats 8000000 in
set_option maxRecDepth 100000 in
theorem many_walk {w : World} (key : ByteArray) (more : Int) : Calls Try.prog 7 #[.string key, .int .i64 more] w fun e w' => e = .returned (.bool true) ∧ Fr w w' (fun _ => False) := by
  by_cases hk : 1 ≤ key.size ∧ key.size ≤ 32
  case neg =>
    have hc : (key.size : Int) < 1 ∨ (¬ (key.size : Int) < 1 ∧ (32 : Int) < (key.size : Int)) := by omega
    clear hk
    rcases hc with u1 | ⟨u1, u2⟩
    all_goals
      go_enter Try.func7, Try.ntmps7
      go_wp2_with fail
      refine (known_any _).mono ?_
      rintro e w1 ⟨rfl, hf⟩
      have HF := hid hf
      clear hf
      go_wp2_with fail
      go_ret
      exact ⟨rfl, HF.out⟩
  case pos =>
    obtain ⟨hk1, hk2⟩ := hk
    have u1 : ¬ (key.size : Int) < 1 := by omega
    have u2 : ¬ (32 : Int) < (key.size : Int) := by omega
    have HN := hid (fun (W : World) (hW : Fr w W (fun _ => False)) => fnew_i (w0 := w) (ns := 2) (no := 1) (box := 1) W (by omega) (by omega) (by omega) hW)
    have HP : Hid (∀ (W : World) (B i : Nat), i < 65536 → FlI w W B 1 ⟨[qL key i, []], [0, 0], [[]]⟩ → Calls Try.prog 16 #[.pointer (some ⟨B, 0, none⟩), .int .i64 0, .agg #[.bool false, .string key, .int .i64 0, .int .i64 (i : Int)]] W fun e w' => e = .returned (.int .i64 0) ∧ FlI w w' B 1 ⟨[qL key (i + 1), []], [0, 0], [[]]⟩) := fun W B i hi h => by
      have hx := errC_ev hk1 hk2 (i : Int)
      have hp := put0 (A := qL key i) (B := []) (n := [0, 0]) (b := [[]]) hx (by rw [qL_len]; exact hi)
      have := h.put 0 ⟨false, key, 0, (i : Int)⟩
      rw [hp.1, hp.2] at this
      rw [qL_succ]
      exact this
    have HPF : Hid (∀ (W : World) (B : Nat) (A Z : List It), A.length = 65536 → FlI w W B 1 ⟨[A, Z], [0, 0], [[]]⟩ → Calls Try.prog 16 #[.pointer (some ⟨B, 0, none⟩), .int .i64 0, .agg #[.bool false, .string key, .int .i64 0, .int .i64 0]] W fun e w' => e = .returned (.int .i64 2) ∧ FlI w w' B 1 ⟨[A, Z], [0, 0], [[]]⟩) := fun W B A Z hA h => by
      have hp := put0_full (A := A) (B := Z) (n := [0, 0]) (b := [[]]) (errC_ev hk1 hk2 0) hA
      have := h.put 0 (ky key)
      rw [show putE ⟨[A, Z], [0, 0], [[]]⟩ 0 (ky key) = 2 from hp.1, show putS ⟨[A, Z], [0, 0], [[]]⟩ 0 (ky key) = ⟨[A, Z], [0, 0], [[]]⟩ from hp.2] at this
      exact this
    have HPK : Hid (∀ (W : World) (B i : Nat) (A Z : List It), A.length < 65536 → A ++ [ky key] = qR key i → FlI w W B 1 ⟨[A, Z], [0, 0], [[]]⟩ → Calls Try.prog 16 #[.pointer (some ⟨B, 0, none⟩), .int .i64 0, .agg #[.bool false, .string key, .int .i64 0, .int .i64 0]] W fun e w' => e = .returned (.int .i64 0) ∧ FlI w w' B 1 ⟨[qR key i, Z], [0, 0], [[]]⟩) := fun W B i A Z hA hq h => by
      have hp := put0 (A := A) (B := Z) (n := [0, 0]) (b := [[]]) (x := ky key) (errC_ev hk1 hk2 0) hA
      have := h.put 0 (ky key)
      rw [hp.1, hp.2, hq] at this
      exact this
    have HPM : Hid (∀ (W : World) (B : Nat), FlI w W B 1 ⟨[qR key 0, []], [0, 0], [[]]⟩ → Calls Try.prog 16 #[.pointer (some ⟨B, 0, none⟩), .int .i64 0, .agg #[.bool true, .string ⟨#[]⟩, .int .i64 0, .int .i64 0]] W fun e w' => e = .returned (.int .i64 2) ∧ FlI w w' B 1 ⟨[qR key 0, []], [0, 0], [[]]⟩) := fun W B h => by
      have hp := put0_full (A := qR key 0) (B := []) (n := [0, 0]) (b := [[]]) errC_mk (qR_len (by omega))
      have := h.put 0 mk0
      rw [hp.1, hp.2] at this
      exact this
    have HPM1 : Hid (∀ (W : World) (B : Nat), FlI w W B 1 ⟨[qR key 0, []], [0, 0], [[]]⟩ → Calls Try.prog 16 #[.pointer (some ⟨B, 0, none⟩), .int .i64 1, .agg #[.bool true, .string ⟨#[]⟩, .int .i64 0, .int .i64 0]] W fun e w' => e = .returned (.int .i64 0) ∧ FlI w w' B 1 ⟨[qR key 0, [mk0]], [0, 0], [[]]⟩) := fun W B h => by
      have hp := put1 (A := qR key 0) (B := []) (n := [0, 0]) (b := [[]]) errC_mk (by simp)
      have := h.put 1 mk0
      rw [hp.1, hp.2] at this
      exact this
    have HQ : Hid (∀ (W : World) (B : Nat), FlI w W B 1 ⟨[qR key 0, [mk0]], [0, 0], [[]]⟩ → Calls Try.prog 21 #[.pointer (some ⟨B, 0, none⟩), .int .i64 0] W fun e w' => e = .returned (.int .i64 65536) ∧ FlI w w' B 1 ⟨[qR key 0, [mk0]], [0, 0], [[]]⟩) := fun W B h => by
      have := h.queued 0
      have e : lenAt 0 [qR key 0, [mk0]] = 65536 := (lenAt_nat (i := 0) (l := [qR key 0, [mk0]]) (by simp)).trans (qR_len (by omega))
      rw [e] at this
      exact this
    have HPA : Hid (∀ (W : World) (B : Nat) (A Z : List It) (x : It), x.m = false → FlI w W B 1 ⟨[x :: A, Z], [0, 0], [[]]⟩ → Calls Try.prog 17 #[.pointer (some ⟨B, 0, none⟩), .int .i64 0] W fun e w' => (∃ a b : Int, e = .returned (.tuple #[.int .i64 a, .int .i64 b])) ∧ FlI w w' B 1 ⟨[A, Z], [0, 0], [[⟨0, x⟩]]⟩) := fun W B A Z x hx h => by
      refine (h.pass 0).mono fun e w' ⟨he, hs⟩ => ⟨⟨_, _, he⟩, ?_⟩
      rw [pass0 hx] at hs
      exact hs
    have HTA : Hid (∀ (W : World) (B : Nat) (Q : List (List It)) (m : Ms), FlI w W B 1 ⟨Q, [0, 0], [[m]]⟩ → Calls Try.prog 18 #[.pointer (some ⟨B, 0, none⟩), .int .i64 0] W fun e w' => e = .returned (.tuple #[.int .i64 m.s, vI m.x, .int .i64 0]) ∧ FlI w w' B 1 ⟨Q, [0, 0], [[]]⟩) := fun W B Q m h => by
      have := h.take 0
      rw [take0.1, take0.2] at this
      exact this
    have HSM := hid (fun W => small_any more 9 W (by omega) (by omega))
    obtain ⟨hs1, hs2⟩ := smF_bd more (m := 9) (by omega)
    obtain ⟨sm, hsm⟩ : ∃ sm : Nat, smF more 9 = (sm : Int) := ⟨(smF more 9).toNat, by omega⟩
    rw [hsm] at HSM hs1 hs2
    have hsm9 : sm ≤ 9 := by omega
    have HST : Hid (∀ i, i < 65536 → ∃ A, qR key i = qi key i :: A ∧ A.length < 65536 ∧ A ++ [ky key] = qR key (i + 1)) := fun i hi => qR_step hi
    have HQL : Hid (∀ i, i ≤ 65536 → (qR key i).length = 65536) := fun i hi => qR_len hi
    have HQ0 : Hid (qL key 65536 = qR key 0) := by show _ = _; simp [qR]
    clear hk1 hk2 hs1 hs2 hsm
    go_enter Try.func7, Try.ntmps7
    go_wp2_with fail
    refine (known_any _).mono ?_
    rintro e w1 ⟨rfl, hf⟩
    have HF := hid hf
    clear hf
    go_wp2_with fail
    refine (HN.out _ HF.out).mono ?_
    rintro e w2 ⟨B, rfl, O, hO, _, _⟩
    have HO : Hid (FlI w w2 B 1 ⟨[qL key 0, []], [0, 0], [[]]⟩) := ⟨O, hO⟩
    clear hO HN HF
    go_wp2_with fail
    obtain ⟨NN, hNN⟩ : ∃ NN : Nat, NN = 65536 := ⟨_, rfl⟩
    have HNN := hid hNN
    clear hNN
    go_loopg [7] NN (fun q s7 wx => ∃ i : Nat, s7 = .int .i64 (i : Int) ∧ Hid (i + q = NN) ∧ Hid (FlI w wx B 1 ⟨[qL key i, []], [0, 0], [[]]⟩))
    case atStart => exact ⟨0, rfl, by show _ = _; omega, HO⟩
    case round =>
      obtain ⟨i, rfl, HG, H1⟩ := hrel
      clear HO
      cases gk with
      | succ q =>
        have t1 : (i : Int) < 65536 := by have := HG.out; have := HNN.out; omega
        have HC := hid (HP.out _ _ i (by omega) H1.out)
        go_wp2_with fail
        refine HC.out.mono ?_
        rintro e w3 ⟨rfl, h3⟩
        have H3 := hid h3
        clear h3
        go_wp2_with fail
        go_roundg q
        case measure => omega
        case rel => exact ⟨i + 1, by go_num, by have := HG.out; show _ = _; omega, H3⟩
      | zero =>
        have t1 : ¬ (i : Int) < 65536 := by have := HG.out; have := HNN.out; omega
        have H2 : Hid (FlI w wr B 1 ⟨[qR key 0, []], [0, 0], [[]]⟩) := by
          have e : i = 65536 := by have := HG.out; have := HNN.out; omega
          rw [e] at H1
          rw [← HQ0.out]; exact H1.out
        clear H1 HG HP
        go_wp2_with fail
        refine (HPF.out _ _ _ _ (HQL.out 0 (by omega)) H2.out).mono ?_
        rintro e w3 ⟨rfl, h3⟩
        have H3 := hid h3
        clear h3 H2
        go_wp2_with fail
        refine (HPM.out _ _ H3.out).mono ?_
        rintro e w4 ⟨rfl, h4⟩
        have H4 := hid h4
        clear h4 H3
        go_wp2_with fail
        refine (HPM1.out _ _ H4.out).mono ?_
        rintro e w5 ⟨rfl, h5⟩
        have H5 := hid h5
        clear h5 H4
        go_wp2_with fail
        refine (HQ.out _ _ H5.out).mono ?_
        rintro e w6 ⟨rfl, h6⟩
        have H6 := hid h6
        clear h6 H5
        go_wp2_with fail
        generalize wr = W1 at *
        clear t1
        go_loopg [8] (sm + 1) (fun q s8 wx => ∃ i : Nat, s8 = .int .i64 (i : Int) ∧ Hid (i + q = sm + 1) ∧ Hid (FlI w wx B 1 ⟨[qR key i, [mk0]], [0, 0], [[]]⟩))
        case atStart => exact ⟨0, rfl, by show _ = _; omega, H6⟩
        case round =>
          obtain ⟨j, rfl, HG, H7⟩ := hrel
          clear H6
          go_wp2_with fail
          refine (HSM.out _).mono ?_
          rintro e w7 ⟨rfl, h9⟩
          obtain rfl : wr = w7 := h9.symm
          clear h9
          cases gk with
          | zero =>
            have t1 : ¬ (j : Int) < 1 + (sm : Int) := by have := HG.out; omega
            go_wp2_with fail
            go_ret
            exact ⟨rfl, H7.out.fr⟩
          | succ q =>
            have t1 : (j : Int) < 1 + (sm : Int) := by have := HG.out; omega
            have hj9 : j ≤ 10 := by have := HG.out; omega
            obtain ⟨A, hA1, hA2, hA3⟩ := HST.out j (by omega)
            rw [hA1] at H7
            have HAA := hid (And.intro hA2 hA3)
            clear hA1 hA2 hA3
            go_wp2_with fail
            refine (HPA.out _ _ _ _ _ rfl H7.out).mono ?_
            rintro e w8 ⟨⟨ra, rb, rfl⟩, h8⟩
            have H8 := hid h8
            clear h8 H7
            go_wp2_with fail
            refine (HTA.out _ _ _ _ H8.out).mono ?_
            rintro e w9 ⟨rfl, h9⟩
            have H9 := hid h9
            clear h9 H8
            simp only [vI, qi]
            go_wp2_with fail
            refine (HPK.out _ _ (j + 1) _ _ HAA.out.1 HAA.out.2 (H9.out.still (alloc_fr _ _ _))).mono ?_
            rintro e w10 ⟨rfl, h10⟩
            have H10 := hid h10
            clear h10 H9
            go_wp2_with fail
            refine (HPF.out _ _ _ _ (HQL.out (j + 1) (by omega)) H10.out).mono ?_
            rintro e w11 ⟨rfl, h11⟩
            have H11 := hid h11
            clear h11 H10
            go_wp2_with fail
            go_roundg q
            case measure => omega
            case rel => exact ⟨j + 1, by go_num, by have := HG.out; show _ = _; omega, H11⟩
end Go.Proofs.Ytlgbciibhmcokaa
