/- spatelaw16: did: a walk. -/
import Derived.Test.YtdkaagigbncofaaNArgs
import Derived.Test.YtdkaagigbncofaaNPure3
import Derived.Test.YtdkaagigbncofaaNWay
import Derived.Deep.RegionLaw
namespace Go.Proofs.Ytdkaagigbncofaa
open Go.RowKit

def didE (s : Np) (x : Sp) : Int := if x.k = 1 then openE s x.c else if x.k = 2 then sendE s x.c x.b else if x.k = 3 then findE s x.c else if x.k = 4 then useE s x.c else if x.k = 5 then useE s x.c else if x.k = 6 then findE s x.c else if x.k = 7 then useE s x.c else if x.k = 8 then cutE s x.c else 0
def didT (s : Np) (x : Sp) : ByteArray := if x.k = 3 then str8 (List.replicate (bringK s x.c x.m) 0) else if x.k = 4 then str8 (takeB s x.c) else if x.k = 5 then str8 (List.replicate (writeK s x.c x.b.length) 0) else if x.k = 6 then str8 (List.replicate (fetchK s x.c x.m) 0) else ⟨#[]⟩
def didS (s : Np) (x : Sp) : Np := if x.k = 1 then openS s x.c else if x.k = 2 then sendS s x.c x.b else if x.k = 3 then bringS s x.c x.m else if x.k = 4 then takeS s x.c else if x.k = 5 then writeS s x.c x.b else if x.k = 6 then fetchS s x.c x.m else if x.k = 7 then closeS s x.c else if x.k = 8 then cutS s x.c else s
/-- make of bytes, as a run. -/
theorem make8_run (w : World) (n : Nat) (hn : n ≤ 140737488355328) : ∃ w', (Instr.makeSlice 33 (.int .i64 (n : Int)) (.int .i64 (n : Int))).run Try.prog w = .ok (.slice (some ⟨w.heap.size, 0, none⟩) n n) w' ∧ Row8 w' w.heap.size (List.replicate n 0) ∧ Fr w w' (fun _ => False) := by
  obtain ⟨i0, hi, hz0, hz1, hz2⟩ := info_parts Try.info5
  obtain ⟨w', hrun, hown, hgr⟩ := run_make_full (P := Try.prog) w w.heap.size 33 5 i0 (.int .u8 0) 1 Try.underlying33 hi hz0 hz1 .i64 .i64 n (by rw [hz2]; omega) (by unfold maxLen; omega) (Nat.le_refl _)
  refine ⟨w', hrun, ?_, Fr.grown (Fr.refl _ _) hgr (fun k _ e => by cases e)⟩
  refine Row8.ofOwn (base := w.heap.size) (n := n) ?_
  rw [by8_replicate]
  rw [Nat.mul_one, show (Value.int IntKind.u8 0).cells = #[.int .u8 0] from rfl, toList_madeCells_one] at hown
  exact hown
theorem na_still {w W W1 W2 : World} {B : Nat} {s : Np} {O : Nat → Prop} (h : NA w W W1 B s O) (hf : Fr W1 W2 (fun _ => False)) : NA w W W2 B s O := by
  obtain ⟨O', h1, h2, h3⟩ := h
  exact ⟨O', h1.still hf, h2, h3.trans (hf.mono (fun _ _ h => h.elim))⟩
theorem na_pre {w W W1 W2 : World} {B : Nat} {s : Np} {O : Nat → Prop} (hf : Fr W W1 (fun _ => False)) (h : NA w W1 W2 B s O) : NA w W W2 B s O := by
  obtain ⟨O', h1, h2, h3⟩ := h
  refine ⟨O', h1, fun k hk => ?_, (hf.mono (fun _ _ h => h.elim)).trans h3⟩
  have := hf.size
  rcases h2 k hk with h | h
  · exact Or.inl h
  · exact Or.inr (by omega)
set_option maxHeartbeats 8000000 in
set_option maxRecDepth 100000 in
theorem NO.did {w W : World} {B : Nat} {s : Np} {O : Nat → Prop} (h : NO w W B s O) (hm : s.m ≤ 70368744177664) (x : Sp) {ao : Option Addr} {cap : Nat} (hb : BsC W (.slice ao x.b.length cap) x.b) : Calls Try.prog 28 #[.pointer (some ⟨B, 0, none⟩), .agg #[.int .i64 x.k, .int .i64 x.c, .slice ao x.b.length cap, .int .i64 x.m]] W fun e w' => e = .returned (.tuple #[.int .i64 (didE s x), .string (didT s x)]) ∧ NA w W w' B (didS s x) O := by
  obtain ⟨xk, xc, xb, xm⟩ := x
  dsimp only at hb ⊢
  have hW0 := alloc_fr W (.cells #[.int .i64 xk, .int .i64 xc, .slice ao xb.length cap, .int .i64 xm] 35) (fun _ => False)
  have h0 := h.still hW0
  have HP0 := hid hW0
  have hb0 := hb.fr hW0 (fun _ h => h.elim)
  obtain ⟨q1, q2, q3, q4, q5, q6, q7⟩ := hb0
  simp only [Value.slice.injEq] at q3
  obtain ⟨rfl, _, rfl⟩ := q3
  have HOP := hid (h0.open xc)
  have HSE := hid (h0.send xc (zs := xb) rfl q6 q4)
  have HWR := hid (h0.write xc (zs := xb) rfl q6 q4)
  have HBR := hid (h0.bring hm xc xm)
  have HFE := hid (h0.fetch hm xc xm)
  have HTK := hid (h0.take xc)
  have HCL := hid (h0.close xc)
  have HCU := hid (h0.cut xc)
  have HPR : Hid (∀ W1 s', NA w (W.alloc (.cells #[.int .i64 xk, .int .i64 xc, .slice ao xb.length cap, .int .i64 xm] 35)) W1 B s' O → NA w W W1 B s' O) := fun W1 s' h1 => na_pre hW0 h1
  have HWF := hid h.wf
  have HKB : Hid (bringK s xc xm ≤ 1048576 ∧ fetchK s xc xm ≤ 1048576 ∧ writeK s xc xb.length ≤ 1048576) := by
    have hwf := h.wf
    have ha := hwf.a
    have hbb := hwf.b
    unfold bringK fetchK writeK partN
    cases hx : s.at xc with
    | none => exact ⟨by simp, by simp, by simp⟩
    | some x =>
      obtain ⟨h1, h2, h3, _⟩ := wf_at hwf hx
      dsimp only
      refine ⟨by omega, by omega, ?_⟩
      split <;> omega
  have HNS : Hid (NA w W (W.alloc (.cells #[.int .i64 xk, .int .i64 xc, .slice ao xb.length cap, .int .i64 xm] 35)) B s O) := ⟨O, h0, Gr.refl _ _, hW0.mono (fun _ _ h => h.elim)⟩
  clear h h0 hW0 hb hm q5 q6 q7
  by_cases h1 : xk = 1
  · subst h1
    show Calls _ _ _ _ (fun e w' => e = .returned (.tuple #[.int .i64 (openE s xc), .string (⟨#[]⟩)]) ∧ NA w W w' B (openS s xc) O)
    generalize openE s xc = E1 at *
    generalize openS s xc = S1 at *
    go_enter Try.func28, Try.ntmps28
    go_wp2_with fail
    refine HOP.out.mono ?_
    rintro e w1 ⟨rfl, h9⟩
    have HA := hid (HPR.out _ _ h9)
    clear h9
    go_wp2_with fail
    go_ret2
    exact ⟨rfl, HA.out⟩
  by_cases h2 : xk = 2
  · subst h2
    show Calls _ _ _ _ (fun e w' => e = .returned (.tuple #[.int .i64 (sendE s xc xb), .string (⟨#[]⟩)]) ∧ NA w W w' B (sendS s xc xb) O)
    generalize sendE s xc xb = E1 at *
    generalize sendS s xc xb = S1 at *
    go_enter Try.func28, Try.ntmps28
    go_wp2_with fail
    refine HSE.out.mono ?_
    rintro e w1 ⟨rfl, h9⟩
    have HA := hid (HPR.out _ _ h9)
    clear h9
    go_wp2_with fail
    go_ret2
    exact ⟨rfl, HA.out⟩
  by_cases h3 : xk = 3
  · subst h3
    show Calls _ _ _ _ (fun e w' => e = .returned (.tuple #[.int .i64 (findE s xc), .string (str8 (List.replicate (bringK s xc xm) 0))]) ∧ NA w W w' B (bringS s xc xm) O)
    have HKZ := hid HKB.out
    clear HKB
    have hkn := HKZ.out.1
    generalize bringK s xc xm = kk at *
    generalize findE s xc = E1 at *
    generalize bringS s xc xm = S1 at *
    go_enter Try.func28, Try.ntmps28
    go_wp2_with fail
    refine HBR.out.mono ?_
    rintro e w1 ⟨rfl, h9⟩
    have HA := hid (HPR.out _ _ h9)
    clear h9
    go_wp2_with fail
    obtain ⟨w3, hrun, hR3, hF3⟩ := make8_run w1.drew kk (by omega)
    have hcv := run_str8 Try.underlying33 Try.underlying5 Try.underlying9 (Row8.all hR3 kk)
    rw [List.length_replicate] at hcv
    have HA3 := hid (na_still HA.out (Fr.ofDrew hF3))
    clear hR3 hF3
    simp only [World.size_drew] at hrun hcv
    go_region
    all_goals
      go_wp2_with fail
      go_ret2
      exact ⟨rfl, HA3.out⟩
  by_cases h4 : xk = 4
  · subst h4
    show Calls _ _ _ _ (fun e w' => e = .returned (.tuple #[.int .i64 (useE s xc), .string (str8 (takeB s xc))]) ∧ NA w W w' B (takeS s xc) O)
    generalize useE s xc = E1 at *
    generalize takeS s xc = S1 at *
    generalize takeB s xc = tb at *
    obtain ⟨ST, hST⟩ : ∃ ST, str8 tb = ST := ⟨_, rfl⟩
    rw [hST]
    have HST := hid hST
    clear hST
    go_enter Try.func28, Try.ntmps28
    go_wp2_with fail
    refine HTK.out.mono ?_
    rintro e w1 ⟨v, rfl, O', h5, h6, h7, h8, _⟩
    have HA := hid (HPR.out _ _ ⟨O', h5, h6, h7⟩)
    obtain ⟨av, cv, hv, _, _⟩ := h8.shape
    subst hv
    have hcv := fun n => run_str8 Try.underlying33 Try.underlying5 Try.underlying9 (bs_all (h8.fr ((Fr.refl w1 (fun _ => False)).drewN n) (fun _ _ h => h)))
    have hcw := run_str8 Try.underlying33 Try.underlying5 Try.underlying9 (bs_all h8)
    clear h5 h6 h7 h8
    rw [HST.out] at hcw
    simp only [HST.out] at hcv
    go_wp2_with fail
    go_quiet (fail)
    go_wp2_with fail
    go_ret2
    exact ⟨rfl, na_still HA.out ((Fr.refl w1 (fun _ => False)).drewN _)⟩
  by_cases h5 : xk = 5
  · subst h5
    show Calls _ _ _ _ (fun e w' => e = .returned (.tuple #[.int .i64 (useE s xc), .string (str8 (List.replicate (writeK s xc xb.length) 0))]) ∧ NA w W w' B (writeS s xc xb) O)
    have HKZ := hid HKB.out
    clear HKB
    have hkn := HKZ.out.2.2
    generalize writeK s xc xb.length = kk at *
    generalize useE s xc = E1 at *
    generalize writeS s xc xb = S1 at *
    go_enter Try.func28, Try.ntmps28
    go_wp2_with fail
    refine HWR.out.mono ?_
    rintro e w1 ⟨rfl, h9⟩
    have HA := hid (HPR.out _ _ h9)
    clear h9
    go_wp2_with fail
    obtain ⟨w3, hrun, hR3, hF3⟩ := make8_run w1.drew kk (by omega)
    have hcv := run_str8 Try.underlying33 Try.underlying5 Try.underlying9 (Row8.all hR3 kk)
    rw [List.length_replicate] at hcv
    have HA3 := hid (na_still HA.out (Fr.ofDrew hF3))
    clear hR3 hF3
    simp only [World.size_drew] at hrun hcv
    go_region
    all_goals
      go_wp2_with fail
      go_ret2
      exact ⟨rfl, HA3.out⟩
  by_cases h6 : xk = 6
  · subst h6
    show Calls _ _ _ _ (fun e w' => e = .returned (.tuple #[.int .i64 (findE s xc), .string (str8 (List.replicate (fetchK s xc xm) 0))]) ∧ NA w W w' B (fetchS s xc xm) O)
    have HKZ := hid HKB.out
    clear HKB
    have hkn := HKZ.out.2.1
    generalize fetchK s xc xm = kk at *
    generalize findE s xc = E1 at *
    generalize fetchS s xc xm = S1 at *
    go_enter Try.func28, Try.ntmps28
    go_wp2_with fail
    refine HFE.out.mono ?_
    rintro e w1 ⟨rfl, h9⟩
    have HA := hid (HPR.out _ _ h9)
    clear h9
    go_wp2_with fail
    obtain ⟨w3, hrun, hR3, hF3⟩ := make8_run w1.drew kk (by omega)
    have hcv := run_str8 Try.underlying33 Try.underlying5 Try.underlying9 (Row8.all hR3 kk)
    rw [List.length_replicate] at hcv
    have HA3 := hid (na_still HA.out (Fr.ofDrew hF3))
    clear hR3 hF3
    simp only [World.size_drew] at hrun hcv
    go_region
    all_goals
      go_wp2_with fail
      go_ret2
      exact ⟨rfl, HA3.out⟩
  by_cases h7 : xk = 7
  · subst h7
    show Calls _ _ _ _ (fun e w' => e = .returned (.tuple #[.int .i64 (useE s xc), .string (⟨#[]⟩)]) ∧ NA w W w' B (closeS s xc) O)
    generalize useE s xc = E1 at *
    generalize closeS s xc = S1 at *
    go_enter Try.func28, Try.ntmps28
    go_wp2_with fail
    refine HCL.out.mono ?_
    rintro e w1 ⟨rfl, h9⟩
    have HA := hid (HPR.out _ _ h9)
    clear h9
    go_wp2_with fail
    go_ret2
    exact ⟨rfl, HA.out⟩
  by_cases h8 : xk = 8
  · subst h8
    show Calls _ _ _ _ (fun e w' => e = .returned (.tuple #[.int .i64 (cutE s xc), .string (⟨#[]⟩)]) ∧ NA w W w' B (cutS s xc) O)
    generalize cutE s xc = E1 at *
    generalize cutS s xc = S1 at *
    go_enter Try.func28, Try.ntmps28
    go_wp2_with fail
    refine HCU.out.mono ?_
    rintro e w1 ⟨rfl, h9⟩
    have HA := hid (HPR.out _ _ h9)
    clear h9
    go_wp2_with fail
    go_ret2
    exact ⟨rfl, HA.out⟩
  show Calls _ _ _ _ (fun e w' => e = .returned (.tuple #[.int .i64 (didE s ⟨xk, xc, xb, xm⟩), .string (didT s ⟨xk, xc, xb, xm⟩)]) ∧ NA w W w' B (didS s ⟨xk, xc, xb, xm⟩) O)
  have e1 : didE s ⟨xk, xc, xb, xm⟩ = 0 := by unfold didE; simp [h1, h2, h3, h4, h5, h6, h7, h8]
  have e2 : didT s ⟨xk, xc, xb, xm⟩ = ⟨#[]⟩ := by unfold didT; simp [h3, h4, h5, h6]
  have e3 : didS s ⟨xk, xc, xb, xm⟩ = s := by unfold didS; simp [h1, h2, h3, h4, h5, h6, h7, h8]
  rw [e1, e2, e3]
  clear e1 e2 e3
  go_enter Try.func28, Try.ntmps28
  go_wp2_with fail
  go_ret2
  exact ⟨rfl, HNS.out⟩
end Go.Proofs.Ytdkaagigbncofaa
