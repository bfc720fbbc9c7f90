/- OperMany: the walk. -/
import Derived.Test.YtglkjhpkeelajaaVOwnP
import Derived.Test.YtglkjhpkeelajaaVManyP
import Derived.BigRegion
namespace Go.Proofs.Ytglkjhpkeelajaa.V
open Go.RowKit Go.Maps
open M (Cl cmpC vC)

theorem vsM_lit (w : World) : Vs (w.alloc (.cells #[.int .i64 10, .int .i64 10, .int .i64 0, .int .i64 20, .int .i64 10, .int .i64 5] 49)) (.slice (some ⟨w.heap.size, 0, none⟩) 2 2) vsM := by
  have h := heap_last w (.cells #[.int .i64 10, .int .i64 10, .int .i64 0, .int .i64 20, .int .i64 10, .int .i64 5] 49) _ rfl
  refine ⟨_, _, rfl, by decide, fun _ => ⟨w.heap.size, 0, rfl, fun i hi => ?_⟩⟩
  match i, hi with
  | 0, _ => refine ⟨?_, ?_, ?_⟩ <;> (rw [cell_of_row _ _ _ _ _ (0, 0) h]; rfl)
  | 1, _ => refine ⟨?_, ?_, ?_⟩ <;> (rw [cell_of_row _ _ _ _ _ (0, 0) h]; rfl)
theorem Two.ks {W : World} {N : Nat} {y z : Cl} (h : Two W N y z) : Ks W (.slice (some ⟨N, 0, none⟩) 2 2) [y, z] := by
  have h' : W.heap[N]? = some (.cells #[.int .i64 y.v, .string y.k, .int .i64 y.s, .int .i64 z.v, .string z.k, .int .i64 z.s] 64 (0, 0)) := h
  refine ⟨_, _, rfl, by simp, fun _ => ⟨N, 0, rfl, fun i hi => ?_⟩⟩
  match i, hi with
  | 0, _ => refine ⟨?_, ?_, ?_⟩ <;> (rw [cell_of_row _ _ _ _ _ (0, 0) h']; rfl)
  | 1, _ => refine ⟨?_, ?_, ?_⟩ <;> (rw [cell_of_row _ _ _ _ _ (0, 0) h']; rfl)
/-- An operator alone, behind a world. -/
structure O1 (w : World) (x : Ox) (vs : List Vw) (st : Os2) (W : World) : Prop where
  a : Op W x vs st.ms st.L
  bx : Beh w.heap.size x
  fr : Fr w W (fun _ => False)
theorem O1.step {w : World} {x : Ox} {vs : List Vw} {st : Os2} {W W' : World} (p : O1 w x vs st W) (hf : Fr W W' (fun _ => False)) : O1 w x vs st W' := ⟨p.a.step hf, p.bx, p.fr.trans hf⟩
theorem O1.wrote {w : World} {x : Ox} {vs : List Vw} {st : Os2} {W : World} (p : O1 w x vs st W) {v : Value} {cs : List Cl} (hk : Ks W v cs) (hb : st.L.length + cs.length ≤ 1000000000) : Calls Try.prog 31 #[.pointer (some ⟨x.B, 0, none⟩), v] W fun e w' => e = .returned (.int .i64 (chkAll vs (leastL st.ms) cs)) ∧ O1 w x vs ⟨st.ms, wroteL vs (leastL st.ms) cs st.L⟩ w' := by
  refine (wrote_any p.a hk hb).mono ?_
  rintro e w' ⟨rfl, ho, hf⟩
  have hbx := p.bx
  unfold Beh at hbx
  exact ⟨rfl, ho, p.bx, fr_behind p.fr hf (fun k h => by omega)⟩
theorem O1.mark {w : World} {x : Ox} {vs : List Vw} {st : Os2} {W : World} (p : O1 w x vs st W) (hb : st.L.length ≤ 1000000000) (s t : Int) : Calls Try.prog 28 #[.pointer (some ⟨x.B, 0, none⟩), .int .i64 s, .int .i64 t] W fun e w' => ∃ u, e = .returned (.tuple #[u, .int .i64 (riseR st.ms s t).2]) ∧ O1 w x vs ⟨riseS st.ms s t, leftL vs (leastL (riseS st.ms s t)) st.L⟩ w' ∧ Kw W.heap.size w' u (goneL vs (leastL (riseS st.ms s t)) st.L) ∧ Fr W w' (fun b => b = x.gm ∨ b = x.mb) := by
  refine (mark_any p.a hb s t).mono ?_
  rintro e w' ⟨u, rfl, hk, ho, hf⟩
  have hbx := p.bx
  unfold Beh at hbx
  exact ⟨u, rfl, ⟨ho, p.bx, fr_behind p.fr hf (fun k h => by omega)⟩, hk, hf⟩
theorem O1.live {w : World} {x : Ox} {vs : List Vw} {st : Os2} {W : World} (p : O1 w x vs st W) (hl : st.L.length ≤ 1000000000) : Calls Try.prog 16 #[.pointer (some ⟨x.B, 0, none⟩)] W fun e w' => ∃ u, e = .returned u ∧ O1 w x vs st w' ∧ Kw W.heap.size w' u st.L ∧ Fr W w' (fun _ => False) := by
  refine (live_any p.a hl).mono ?_
  rintro e w' ⟨u, rfl, hk, hf⟩
  exact ⟨u, rfl, p.step hf, hk, hf⟩

set_option maxHeartbeats 8000000 in
set_option maxRecDepth 100000 in
theorem many_walk {w : World} (a0 a1 a2 a3 : Int) : Calls Try.prog 8 #[.int .i64 a0, .int .i64 a1, .int .i64 a2, .int .i64 a3] w fun e w' => e = .returned (.bool true) ∧ Fr w w' (fun _ => False) := by
  obtain ⟨n, hn⟩ : ∃ n : Nat, a0 % 1500 = (n : Int) := ⟨(a0 % 1500).toNat, by omega⟩
  obtain ⟨q, hq⟩ : ∃ q : Nat, 1 + a1 % 20 = (q : Int) := ⟨(1 + a1 % 20).toNat, by omega⟩
  obtain ⟨t, ht⟩ : ∃ t : Nat, a2 % 1000 = (t : Int) := ⟨(a2 % 1000).toNat, by omega⟩
  have hn2 : n < 1500 := by omega
  have hq1 : 1 ≤ q := by omega
  have hq2 : q ≤ 20 := by omega
  have ht2 : t < 1000 := by omega
  have HW0 := hid (fun W => within_o a0 1500 (by decide) (by decide) W)
  have HW1 := hid (fun W => within_o a1 20 (by decide) (by decide) W)
  have HW2 := hid (fun W => within_o a2 1000 (by decide) (by decide) W)
  have HW3 := hid (fun W => within_o a3 ((n : Int) * 5 + 40) (by omega) (by omega) W)
  rw [hn] at HW0
  rw [ht] at HW2
  obtain ⟨m, hm⟩ : ∃ m : Int, m = a3 % ((n : Int) * 5 + 40) := ⟨_, rfl⟩
  rw [← hm] at HW3
  have hm1 : 0 ≤ m ∧ m < 100000 := by
    have h1 := Int.emod_nonneg a3 (show (n : Int) * 5 + 40 ≠ 0 by omega)
    have h2 := Int.emod_lt_of_pos a3 (show (0 : Int) < (n : Int) * 5 + 40 by omega)
    omega
  obtain ⟨a1m, ha1m⟩ : ∃ a1m, a1m = a1 % 20 := ⟨_, rfl⟩
  rw [← ha1m] at HW1 hq
  have ha1b : 0 ≤ a1m ∧ a1m < 20 := by omega
  clear hn ht hm ha1m
  have HN := hid (fun W : World => onew_ok (vsM_lit W) exM.1 (n := 1) (by decide) (by decide))
  have HLM := hid exM.2
  have hrep : List.replicate 1 noM = [noM] := rfl
  go_enter Try.func8, Try.ntmps8
  go_wp2_with fail
  refine (known_any _).mono ?_
  rintro e w1 ⟨rfl, hf⟩
  have HF1 := hid hf
  clear hf
  go_wp2_with fail
  refine (HW0.out _).mono ?_
  rintro e w2 ⟨rfl, h9⟩
  obtain rfl := h9
  go_wp2_with fail
  refine (HW1.out _).mono ?_
  rintro e w3 ⟨rfl, h9⟩
  obtain rfl := h9
  go_wp2_with fail
  refine (HN.out _).mono ?_
  rintro e w4 ⟨x, rfl, hop, hbe, hf⟩
  rw [hrep] at hop
  have HP : Hid (O1 w x vsM ⟨[noM], []⟩ w4) := by
    have h1 := HF1.out.size
    simp at hbe
    exact ⟨hop, by unfold Beh; omega, (HF1.out.alloc _).trans hf⟩
  clear hop hbe hf hrep HN HF1
  go_wp2_with fail
  try rw [hq]
  clear hq ha1b HW0 HW1
  go_loopg [11] n (fun qq s11 wx => ∃ (i : Nat) (L : List Cl), s11 = .int .i64 (i : Int) ∧ Hid (i + qq = n) ∧ Hid (Mi q n t i L) ∧ Hid (O1 w x vsM ⟨[noM], L⟩ wx))
  case atStart => exact ⟨0, [], rfl, by show _ = _; omega, Mi.start q n t, HP⟩
  case round =>
    obtain ⟨i, L, rfl, HG, HM, HP1⟩ := hrel
    clear HP
    cases gk with
    | succ qq =>
      have hi : i < n := by have := HG.out; omega
      have t1 : (i : Int) < (n : Int) := by omega
      obtain ⟨k, hk⟩ : ∃ k, k = (i * 7919 + t) % n := ⟨_, rfl⟩
      have hkn : k < n := by rw [hk]; exact Nat.mod_lt _ (by omega)
      have e1 : ((i : Int) * 7919 + (t : Int)) % (n : Int) = (k : Int) := by rw [hk]; simp
      have HST := hid (HM.out.step (by omega) hi hq1 hq2)
      rw [← hk] at HST
      have HKK := hid hk
      clear hk
      go_wp2_with fail
      refine (HW2.out _).mono ?_
      rintro e w5 ⟨rfl, h9⟩
      obtain rfl := h9
      go_wp2_with fail
      rw [e1]
      obtain ⟨kv, hkv⟩ : ∃ kv, kv = k % 2 := ⟨_, rfl⟩
      obtain ⟨kh, hkh⟩ : ∃ kh, kh = k / 2 := ⟨_, rfl⟩
      obtain ⟨kr, hkr⟩ : ∃ kr, kr = kh % q := ⟨_, rfl⟩
      obtain ⟨kd, hkd⟩ : ∃ kd, kd = kh / q := ⟨_, rfl⟩
      have d1 : (k : Int) % 2 = (kv : Int) := by omega
      have d2 : (k : Int) / 2 = (kh : Int) := by omega
      have d3 : (kh : Int) % (q : Int) = (kr : Int) := by rw [hkr]; simp
      have d4 : (kh : Int) / (q : Int) = (kd : Int) := by rw [hkd]; simp
      have d5 : kr < 20 := by have : kr < q := by rw [hkr]; exact Nat.mod_lt _ (by omega)
                              omega
      have d6 : kd ≤ 1500 := by have : kd ≤ kh := by rw [hkd]; exact Nat.div_le_self _ _
                                omega
      have HCM : Hid (cellM q k = ⟨(kv : Int), str8 [97 + kr], ((kd * 10 : Nat) : Int)⟩) := by
        show _ = _
        rw [hkr, hkd, hkh, hkv]
        rfl
      have hcv : (convert 74 9 (.slice (some ⟨w5.heap.size, 0, none⟩) 1 1)).run Try.prog (w5.alloc (.cells #[.int .u8 (97 + (kr : Int))] 5)).drew = .ok (.string (str8 [97 + kr])) (w5.alloc (.cells #[.int .u8 (97 + (kr : Int))] 5)).drew := by
        refine run_str8 Try.underlying74 Try.underlying5 Try.underlying9 (xs := [97 + kr]) (Or.inr ⟨_, 1, rfl, ?_⟩)
        have := cells_new w5 (.int .u8 (97 + (kr : Int))) 5
        simpa [by8] using this
      have hcv2 : (convert 74 9 (.slice (some ⟨w5.heap.size + 1, 0, none⟩) 1 1)).run Try.prog ((w5.alloc (.cells #[.int .i64 0, .string ⟨#[]⟩, .int .i64 0] 64)).alloc (.cells #[.int .u8 (97 + (kr : Int))] 5)).drew = .ok (.string (str8 [97 + kr])) ((w5.alloc (.cells #[.int .i64 0, .string ⟨#[]⟩, .int .i64 0] 64)).alloc (.cells #[.int .u8 (97 + (kr : Int))] 5)).drew := by
        refine run_str8 Try.underlying74 Try.underlying5 Try.underlying9 (xs := [97 + kr]) (Or.inr ⟨_, 1, rfl, ?_⟩)
        have := cells_new (w5.alloc (.cells #[.int .i64 0, .string ⟨#[]⟩, .int .i64 0] 64)) (.int .u8 (97 + (kr : Int))) 5
        simpa [by8] using this
      have hcv3 : (convert 74 9 (.slice (some ⟨w5.heap.size, 0, none⟩) 1 1)).run Try.prog ((w5.alloc (.cells #[.int .u8 (97 + (kr : Int))] 5)).alloc (.cells #[.int .i64 0, .string ⟨#[]⟩, .int .i64 0] 64)).drew = .ok (.string (str8 [97 + kr])) ((w5.alloc (.cells #[.int .u8 (97 + (kr : Int))] 5)).alloc (.cells #[.int .i64 0, .string ⟨#[]⟩, .int .i64 0] 64)).drew := by
        refine run_str8 Try.underlying74 Try.underlying5 Try.underlying9 (xs := [97 + kr]) (Or.inr ⟨_, 1, rfl, ?_⟩)
        intro j u hj
        have h1 := cells_new w5 (.int .u8 (97 + (kr : Int))) 5 j u (by simpa [by8] using hj)
        have hb := (alloc_fr (w5.alloc (.cells #[.int .u8 (97 + (kr : Int))] 5)) (.cells #[.int .i64 0, .string ⟨#[]⟩, .int .i64 0] 64) (fun _ => False)).block w5.heap.size (by simp) (fun h => h)
        rw [Addr.add_lit] at h1 ⊢
        simp only [World.cell?] at h1 ⊢
        show _ = _
        rw [show (((w5.alloc (.cells #[.int .u8 (97 + (kr : Int))] 5)).alloc (.cells #[.int .i64 0, .string ⟨#[]⟩, .int .i64 0] 64)).drew).heap[w5.heap.size]? = _ from hb]
        exact h1
      clear hkv hkh hkr hkd e1
      rw [HCM.out] at HST
      clear HCM
      generalize str8 [97 + kr] = ks at *
      go_cut [13] (fun s13 wx => ∃ N : Nat, s13 = .pointer (some ⟨N, 0, none⟩) ∧ Hid (wx.heap[N]? = some (.cells #[.int .i64 (kv : Int), .string ks, .int .i64 ((kd : Int) * 10)] 64 (0, 0))) ∧ Hid (Fr w5 wx (fun _ => False)))
      case first =>
        go_region
        all_goals (go_wp2_with fail)
        all_goals go_meet
        · exact ⟨_, rfl, heap_last _ _ _ (by simp), ((alloc_fr w5 _ _).alloc _).drew⟩
        · exact ⟨_, rfl, heap_last _ _ _ (by simp), ((alloc_fr w5 _ _).alloc _).drew⟩
        · exact ⟨_, rfl, by show _ = _; exact ((alloc_fr (w5.alloc _) _ (fun _ => False)).block _ (by simp) (fun h => h)).trans (heap_last _ _ _ rfl), ((alloc_fr w5 _ _).alloc _).drew⟩
      case rest =>
        obtain ⟨N, hN, HB, HFB⟩ := hcut
        subst hN
        obtain ⟨b0, b1, b2⟩ := cells3 HB.out
        have hbl := lt_of_block HB.out
        have HPB := hid (HP1.out.step HFB.out)
        have e10 : ((kd * 10 : Nat) : Int) = (kd : Int) * 10 := by omega
        rw [e10] at HST
        clear e10
        have HT : Hid (Two (wc.alloc (.cells #[.int .i64 (kv : Int), .string ks, .int .i64 ((kd : Int) * 10), .int .i64 (kv : Int), .string ks, .int .i64 ((kd : Int) * 10)] 64)) wc.heap.size ⟨kv, ks, (kd : Int) * 10⟩ ⟨kv, ks, (kd : Int) * 10⟩) := heap_last _ _ _ rfl
        have HPC := hid (HPB.out.step (alloc_fr wc (.cells #[.int .i64 (kv : Int), .string ks, .int .i64 ((kd : Int) * 10), .int .i64 (kv : Int), .string ks, .int .i64 ((kd : Int) * 10)] 64) (fun _ => False)))
        have HWR := hid (HPC.out.wrote HT.out.ks (by have := HM.out.len; show L.length + 2 ≤ _; omega))
        dsimp only at HWR
        rw [HLM.out, HST.out.2.1, HST.out.1] at HWR
        have HM2 := hid HST.out.2.2
        clear HST HPC HPB HT
        go_wp2_with fail
        refine HWR.out.mono ?_
        rintro e w7 ⟨rfl, hp7⟩
        have HP7 := hid hp7
        clear hp7 HWR b0 b1 b2 hbl
        go_wp2_with fail
        go_roundg qq
        case measure => omega
        case rel => exact ⟨i + 1, _, by go_num, by have := HG.out; show _ = _; omega, HM2, HP7⟩
    | zero =>
      have t1 : ¬ (i : Int) < (n : Int) := by have := HG.out; omega
      obtain rfl : n = i := by have := HG.out; omega
      have hln := HM.out.len
      have q0 : ((L.length : Int) != (n : Int)) = false := by simp [hln]
      have HRI := hid HM.out.ri
      have HBEL := hid HP1.out.a.bel
      have HPT := hid (HM.out.parts (by omega) m)
      have HLV := hid (HP1.out.live (by dsimp only; omega))
      dsimp only at HLV
      have HLN := hid hln
      have hlb : L.length ≤ 1500 := by omega
      clear hln
      go_wp2_with fail
      refine HLV.out.mono ?_
      rintro e w5 ⟨u5, rfl, hp5, hk5, hf5⟩
      have HP5 := hid hp5
      have HK5 := hid (hk5.ks (by omega))
      have HKW5 := hid hk5
      obtain ⟨la, lc, rfl⟩ := hk5.shape
      clear hp5 hk5 hf5 HLV
      go_wp2_with fail
      refine (rises_true HK5.out HRI.out).mono ?_
      rintro e w6 ⟨rfl, hf6⟩
      have HP6 := hid (HP5.out.step hf6)
      have HKW6 := hid (HKW5.out.fr hf6 (fun _ _ h => h))
      clear hf6 HP5 HK5
      go_wp2_with fail
      refine (HW3.out _).mono ?_
      rintro e w7 ⟨rfl, h9⟩
      obtain rfl := h9
      have hrise : (riseR [noM] 0 m).2 = 0 ∧ riseS [noM] 0 m = [m] ∧ leastL [m] = m := by
        have ht : isT m = true := by unfold isT; exact decide_eq_true (by omega)
        have hb : hasB 1 0 = true := by decide
        have hmx : max noM m = m := by have : noM ≤ m := by (have : noM < -1000000 := by decide); omega
                                       omega
        refine ⟨?_, ?_, ?_⟩
        · unfold riseR
          rw [if_pos (show hasB [noM].length 0 = true from hb), if_pos ht]
        · unfold riseS
          rw [show (hasB [noM].length 0 && isT m) = true by rw [ht]; rfl, if_pos rfl]
          unfold riseL
          show [noM].set 0 (max noM m) = [m]
          rw [hmx]
          rfl
        · simp [leastL, headM]
      have HMK := hid (HP6.out.mark (by dsimp only; omega) 0 m)
      dsimp only at HMK
      rw [hrise.1, hrise.2.1, hrise.2.2] at HMK
      have HP5' := hid HPT.out.1
      have HGR := hid (ri_filter HRI.out (shK vsM m))
      have HLR := hid (ri_filter HRI.out (fun c => !shK vsM m c))
      obtain ⟨gl, hgl⟩ : ∃ gl, gl = goneL vsM m L := ⟨_, rfl⟩
      obtain ⟨ll, hll⟩ : ∃ ll, ll = leftL vsM m L := ⟨_, rfl⟩
      rw [← hgl, ← hll] at HMK HPT
      have HGR : Hid (Ri gl) := by show Ri _; rw [hgl]; exact HGR.out
      have HLR : Hid (Ri ll) := by show Ri _; rw [hll]; exact HLR.out
      have HGM : Hid (∀ c ∈ gl, 0 ≤ c.s ∧ c.s ≤ 1000000) := fun c hc => HPT.out.2.2.2 c (by rw [hgl] at hc; exact (List.mem_filter.1 hc).1)
      have HLM2 : Hid (∀ c ∈ ll, 0 ≤ c.s ∧ c.s ≤ 1000000) := fun c hc => HPT.out.2.2.2 c (by rw [hll] at hc; exact (List.mem_filter.1 hc).1)
      clear hrise hgl hll HP5'
      have hsum := HPT.out.1
      have hglb : gl.length ≤ 1500 := by omega
      have hllb : ll.length ≤ 1500 := by omega
      have HSUM := hid hsum
      clear hsum
      go_wp2_with fail
      refine HMK.out.mono ?_
      rintro e w8 ⟨u8, rfl, hp8, hk8, hf8⟩
      have HA8 := hid ((HKW6.out.fr hf8 (fun k hk h => by
        have h1 := HKW6.out.beh k hk
        obtain ⟨z1, z2, z3, z4, z5⟩ := HBEL.out
        omega)).ks (by omega))
      have HP8 := hid hp8
      have HK8 := hid (hk8.ks (by omega))
      obtain ⟨ga, gc, rfl⟩ := hk8.shape
      have HK68 := hid hk8
      clear hp8 hk8 HMK hf8 HKW5 HKW6
      have q1 : ((gl.length : Int) + (ll.length : Int) != (n : Int)) = false := by have := HSUM.out; simp; omega
      have HK7 := hid HK68.out
      go_wp2_with fail
      refine (HP8.out.live (by dsimp only; omega)).mono ?_
      rintro e w9 ⟨u9, rfl, hp9, hk9, hf9⟩
      dsimp only at hk9
      have HP9 := hid hp9
      have HKL := hid (hk9.ks (by omega))
      have HKG := hid (HK8.out.step hf9)
      have HA9 := hid (HA8.out.step hf9)
      obtain ⟨ea, ec, rfl⟩ := hk9.shape
      clear hp9 hk9 HK8 HK68 HK7
      go_wp2_with fail
      refine (rises_true HKG.out HGR.out).mono ?_
      rintro e w10 ⟨rfl, hf10⟩
      have HP10 := hid (HP9.out.step hf10)
      have HKL2 := hid (HKL.out.step hf10)
      have HKG2 := hid (HKG.out.step hf10)
      have HA10 := hid (HA9.out.step hf10)
      clear HP9 HKL HKG
      go_wp2_with fail
      refine (rises_true HKL2.out HLR.out).mono ?_
      rintro e w11 ⟨rfl, hf11⟩
      have HP11 := hid (HP10.out.step hf11)
      have HKL3 := hid (HKL2.out.step hf11)
      have HKG3 := hid (HKG2.out.step hf11)
      have HA11 := hid (HA10.out.step hf11)
      clear HP10 HKL2 HKG2 hf10
      go_wp2_with fail
      clear q1
      go_loopg [18] gl.length (fun qq s18 wx => ∃ i : Nat, s18 = .int .i64 (i : Int) ∧ Hid (i + qq = gl.length) ∧ Hid (Fr w11 wx (fun _ => False)))
      case atStart => exact ⟨0, rfl, by show _ = _; omega, Fr.refl _ _⟩
      case round =>
        obtain ⟨i, rfl, HG2, HFA⟩ := hrel
        cases gk with
        | succ qq =>
          have hi : i < gl.length := by have := HG2.out; omega
          have t2 : (i : Int) < (gl.length : Int) := by omega
          obtain ⟨g, o, rfl, c0, c1, c2⟩ := (HKG3.out.step HFA.out).at hi
          have hgb : g < wr.heap.size := World.block_lt_of_cell? wr _ c0
          have e2 : gl[i]?.getD default = gl[i] := by simp [hi]
          have hm3 : endM (gl[i]?.getD default) ≤ m := by rw [e2]; exact HPT.out.2.1 _ (List.getElem_mem hi)
          have hb3 : 0 ≤ (gl[i]?.getD default).s ∧ (gl[i]?.getD default).s ≤ 1000000 := by rw [e2]; exact HGM.out _ (List.getElem_mem hi)
          have HEN := hid (fun W : World => end_any (gl[i]?.getD default) W hb3.1 hb3.2)
          unfold vC at HEN
          have HI := hid hi
          clear e2 hb3 hi
          generalize gl[i]?.getD default = y at *
          generalize endM y = em at *
          have t3 : decide (m < em) = false := decide_eq_false (by omega)
          go_wp2_with fail
          refine (HEN.out _).mono ?_
          rintro e w12 ⟨rfl, hf12⟩
          have HFB := hid (HFA.out.trans hf12)
          clear hf12 c0 c1 c2
          go_wp2_with fail
          go_roundg qq
          case measure => omega
          case rel => exact ⟨i + 1, by go_num, by have := HG2.out; show _ = _; omega, HFB⟩
        | zero =>
          have t2 : ¬ (i : Int) < (gl.length : Int) := by have := HG2.out; omega
          have HPA := hid (HP11.out.step HFA.out)
          have HKL4 := hid (HKL3.out.step HFA.out)
          have HA12 := hid (HA11.out.step HFA.out)
          go_wp2_with fail
          generalize wr = w13 at *
          clear t2
          go_loopg [19] ll.length (fun qq s19 wx => ∃ j : Nat, s19 = .int .i64 (j : Int) ∧ Hid (j + qq = ll.length) ∧ Hid (Fr w13 wx (fun _ => False)))
          case atStart => exact ⟨0, rfl, by show _ = _; omega, Fr.refl _ _⟩
          case round =>
            obtain ⟨j, rfl, HG3, HFC⟩ := hrel
            cases gk with
            | succ qq =>
              have hi : j < ll.length := by have := HG3.out; omega
              have t2 : (j : Int) < (ll.length : Int) := by omega
              obtain ⟨g, o, rfl, c0, c1, c2⟩ := (HKL4.out.step HFC.out).at hi
              have hgb : g < wr.heap.size := World.block_lt_of_cell? wr _ c0
              have e2 : ll[j]?.getD default = ll[j] := by simp [hi]
              have hm3 : ¬ endM (ll[j]?.getD default) ≤ m := by rw [e2]; have := HPT.out.2.2.1 _ (List.getElem_mem hi); omega
              have hb3 : 0 ≤ (ll[j]?.getD default).s ∧ (ll[j]?.getD default).s ≤ 1000000 := by rw [e2]; exact HLM2.out _ (List.getElem_mem hi)
              have HEN := hid (fun W : World => end_any (ll[j]?.getD default) W hb3.1 hb3.2)
              unfold vC at HEN
              have HI := hid hi
              clear e2 hb3 hi
              generalize ll[j]?.getD default = y at *
              generalize endM y = em at *
              have t3 : decide (em ≤ m) = false := decide_eq_false hm3
              go_wp2_with fail
              refine (HEN.out _).mono ?_
              rintro e w12 ⟨rfl, hf12⟩
              have HFB := hid (HFC.out.trans hf12)
              clear hf12 c0 c1 c2
              go_wp2_with fail
              go_roundg qq
              case measure => omega
              case rel => exact ⟨j + 1, by go_num, by have := HG3.out; show _ = _; omega, HFB⟩
            | zero =>
              have t2 : ¬ (j : Int) < (ll.length : Int) := by have := HG3.out; omega
              have HPZ := hid (HPA.out.step HFC.out)
              go_upto_region 33 with (fail)
              by_cases h2 : n < 2
              · have t3 : decide ((n : Int) < 2) = true := decide_eq_true (by omega)
                go_quiet (fail)
                go_wp2_with fail
                go_ret
                exact ⟨rfl, (HPZ.out.step (Fr.drewN (Fr.refl _ _) _)).fr⟩
              · have hl2 : 2 ≤ L.length := by have := HLN.out; omega
                have t3 : decide ((n : Int) < 2) = false := decide_eq_false (by omega)
                have t4 : (0 : Int) < (L.length : Int) := by omega
                have t5 : (1 : Int) < (L.length : Int) := by omega
                have HAZ := hid (HA12.out.step HFC.out)
                obtain ⟨g, o, rfl, _, _, _⟩ := HAZ.out.at (i := 0) (by omega)
                have HCL : Hid (∀ W : World, Fr wr W (fun _ => False) → Hid (Fr wr W (fun _ => False)) ∧ (W.cell? ⟨g, o, none⟩ = some (.int .i64 (L[0]?.getD default).v) ∧ W.cell? ⟨g, o + 1, none⟩ = some (.string (L[0]?.getD default).k) ∧ W.cell? ⟨g, o + 2, none⟩ = some (.int .i64 (L[0]?.getD default).s)) ∧ (W.cell? ⟨g, o + 3, none⟩ = some (.int .i64 (L[1]?.getD default).v) ∧ W.cell? ⟨g, o + 3 + 1, none⟩ = some (.string (L[1]?.getD default).k) ∧ W.cell? ⟨g, o + 3 + 2, none⟩ = some (.int .i64 (L[1]?.getD default).s)) ∧ g < W.heap.size) := fun W hW => by
                  obtain ⟨g', o', e, h0, h1, h2⟩ := (HAZ.out.step hW).at (i := 0) (by omega)
                  simp only [Option.some.injEq, Addr.mk.injEq, and_true] at e
                  obtain ⟨rfl, rfl⟩ := e
                  obtain ⟨g', o', e, k0, k1, k2⟩ := (HAZ.out.step hW).at (i := 1) (by omega)
                  simp only [Option.some.injEq, Addr.mk.injEq, and_true] at e
                  obtain ⟨rfl, rfl⟩ := e
                  simp only [Nat.zero_mul, Nat.add_zero, Nat.one_mul] at h0 h1 h2 k0 k1 k2
                  exact ⟨hW, ⟨h0, h1, h2⟩, ⟨k0, k1, k2⟩, World.block_lt_of_cell? W _ h0⟩
                have hc : cmpC (L[0]?.getD default) (L[1]?.getD default) < 0 := by
                  have e1 : L[0]?.getD default = L[0] := by simp [show 0 < L.length by omega]
                  have e2 : L[1]?.getD default = L[1] := by simp [show 1 < L.length by omega]
                  rw [e1, e2]
                  exact List.pairwise_iff_getElem.1 HRI.out 0 1 (by omega) (by omega) (by omega)
                have HCC := hid (fun W : World => M.compareC_any (L[0]?.getD default) (L[1]?.getD default) W)
                unfold vC at HCC
                generalize L[0]?.getD default = y at *
                generalize L[1]?.getD default = z at *
                generalize cmpC y z = cc at *
                have t6 : decide (cc < 0) = true := decide_eq_true hc
                have HS := hid (Fr.refl wr (fun _ => False))
                obtain ⟨_, _, _, hgl⟩ := HCL.out _ HS.out
                obtain ⟨ln, hln⟩ : ∃ ln, ln = L.length := ⟨_, rfl⟩
                rw [← hln] at t4 t5 hl2 ⊢
                have t7 : 0 < ln := by omega
                have t8 : 1 < ln := by omega
                clear h2 hl2 hc hln hlb
                go_region_held3 (fun W' => Hid (Fr wr W' (fun _ => False)) ∧ (W'.cell? ⟨g, o, none⟩ = some (.int .i64 y.v) ∧ W'.cell? ⟨g, o + 1, none⟩ = some (.string y.k) ∧ W'.cell? ⟨g, o + 2, none⟩ = some (.int .i64 y.s)) ∧ (W'.cell? ⟨g, o + 3, none⟩ = some (.int .i64 z.v) ∧ W'.cell? ⟨g, o + 3 + 1, none⟩ = some (.string z.k) ∧ W'.cell? ⟨g, o + 3 + 2, none⟩ = some (.int .i64 z.s)) ∧ g < W'.heap.size)
                  ((refine HCL.out _ ?_; first | exact HS.out | exact HS.out.drew | exact HS.out.drew.drew))
                  ((go_at_call 33; refine (HCC.out _).mono ?_; rintro e w19 ⟨rfl, hf9⟩; have HS9 := hid ((by first | exact HS.out | exact HS.out.drew : Fr wr _ (fun _ => False)).trans hf9); clear hf9 HS; have HS := HS9; clear HS9))
                go_wp2_with fail
                go_ret
                exact ⟨rfl, HPZ.out.fr.trans (by first | exact HS.out | exact HS.out.drew)⟩
end Go.Proofs.Ytglkjhpkeelajaa.V
