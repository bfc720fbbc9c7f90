/- known() is true. -/
import Derived.Test.YtimefcmemklhpaaEFam
namespace Go.Proofs.Ytimefcmemklhpaa.E
open Go.RowKit Go.Maps Go.MuLone

/-- A book of the call's own. -/
def Kn (w W : World) (B : Nat) (b : Bo) : Prop := ∃ m, Bk W 0 B m b ∧ (∀ k, ow B m k → w.heap.size ≤ k) ∧ Fr w W (fun _ => False)
theorem Kn.step {w W W' : World} {B : Nat} {b : Bo} (h : Kn w W B b) (hf : Fr W W' (fun _ => False)) : Kn w W' B b := by
  obtain ⟨m, h1, h2, h3⟩ := h
  exact ⟨m, h1.step hf, h2, h3.trans hf⟩
theorem Kn.run {w W : World} {B : Nat} {b b' : Bo} (h : Kn w W B b) {f : Nat} {args : Array Value} {r : Value}
    (hc : ∀ m, Bk W 0 B m b → Calls Try.prog f args W fun x w' => x = .returned r ∧ Lf W w' B m b') :
    Calls Try.prog f args W fun x w' => x = .returned r ∧ Kn w w' B b' := by
  obtain ⟨m, h1, h2, h3⟩ := h
  refine (hc m h1).mono ?_
  rintro x w' ⟨hx, m', hb, hf, how⟩
  refine ⟨hx, m', hb, fun k hk => ?_, h3.trans2 hf (fun k hk hk' => by have := h2 k hk'; omega)⟩
  rcases how k hk with h | h
  · exact h2 k h
  · exact Nat.le_trans h3.size h
theorem Kn.ask {w W : World} {B : Nat} {b : Bo} (h : Kn w W B b) {f : Nat} {args : Array Value} {r : Value}
    (hc : ∀ m, Bk W 0 B m b → Calls Try.prog f args W fun x w' => x = .returned r ∧ Fr W w' (fun _ => False)) :
    Calls Try.prog f args W fun x w' => x = .returned r ∧ Kn w w' B b := by
  obtain ⟨m, h1, h2, h3⟩ := h
  refine (hc m h1).mono ?_
  rintro x w' ⟨hx, hf⟩
  exact ⟨hx, m, h1.step hf, h2, h3.trans hf⟩
theorem Kn.list {w W : World} {B : Nat} {b : Bo} {l : List Int} (h : Kn w W B b) {f : Nat} {args : Array Value}
    (hc : ∀ m, Bk W 0 B m b → Calls Try.prog f args W fun x w' => ∃ v, x = .returned v ∧ OwI w' W.heap.size v l ∧ Fr W w' (fun _ => False)) :
    Calls Try.prog f args W fun x w' => ∃ ao cap, x = .returned (.slice ao l.length cap) ∧ Kn w w' B b := by
  obtain ⟨m, h1, h2, h3⟩ := h
  refine (hc m h1).mono ?_
  rintro x w' ⟨v, hx, ho, hf⟩
  obtain ⟨ao, cap, hv, _⟩ := ho.at
  exact ⟨ao, cap, by rw [hx, hv], m, h1.step hf, h2, h3.trans hf⟩

set_option maxHeartbeats 4000000 in
set_option maxRecDepth 100000 in
theorem known_any (w : World) : Calls Try.prog 9 #[] w fun e w' => e = .returned (.bool true) ∧ Fr w w' (fun _ => False) := by
  have K1 := hid k1
  have K2 := hid k2
  have K3 := hid k3
  go_enter Try.func9, Try.ntmps9
  go_wp2_with fail
  refine (new_any 2 (by omega) (by omega) w).mono ?_
  rintro e w1 ⟨B, rfl, m, hb, hlo, hf⟩
  have HK := hid (show Kn w w1 B (newB 2) from ⟨m, hb, hlo, hf⟩)
  clear hb hlo hf
  go_wp2_with fail
  refine (new_err 0 (by omega) w1).mono ?_
  rintro e w2 ⟨rfl, rfl⟩
  go_wp2_with fail
  refine (HK.out.run (fun m h => sealM_any h 1)).mono ?_
  rintro e w3 ⟨rfl, hk⟩
  rw [K1.out.1, K1.out.2.1]
  have HK := hid (show Kn w w3 B s1 from hk)
  clear hk
  go_wp2_with fail
  refine (HK.out.run (fun m h => joinM_any h 2 1 (by unfold fits; omega))).mono ?_
  rintro e w4 ⟨rfl, hk⟩
  rw [show joinErr s1 2 1 = 0 from K1.out.2.2.1]
  have HK := hid (show Kn w w4 B s2 from hk)
  clear hk
  go_wp2_with fail
  refine (HK.out.run (fun m h => relM_any h 1 1 (by unfold fits; omega))).mono ?_
  rintro e w5 ⟨rfl, hk⟩
  rw [show relErr s2 1 1 = 0 from K1.out.2.2.2.1]
  have HK := hid (show Kn w w5 B s3 from hk)
  clear hk
  go_wp2_with fail
  refine (HK.out.ask (fun m h => holds_any h 2 1 (by unfold fits; omega))).mono ?_
  rintro e w6 ⟨rfl, hk⟩
  rw [K1.out.2.2.2.2]
  have HK := hid hk
  clear hk
  go_wp2_with fail
  refine (HK.out.ask (fun m h => liveM_any h)).mono ?_
  rintro e w7 ⟨rfl, hk⟩
  rw [K2.out.1]
  have HK := hid hk
  clear hk
  go_wp2_with fail
  refine (HK.out.list (fun m h => dyingM_any h)).mono ?_
  rintro e w8 ⟨ao8, cap8, rfl, hk⟩
  rw [dying_len, K2.out.2.1]
  have HK := hid hk
  clear hk
  go_wp2_with fail
  refine (HK.out.run (fun m h => relM_any h 2 1 (by unfold fits; omega))).mono ?_
  rintro e w9 ⟨rfl, hk⟩
  rw [show relErr s3 2 1 = 0 from K2.out.2.2.1]
  have HK := hid (show Kn w w9 B s4 from hk)
  clear hk
  go_wp2_with fail
  refine (HK.out.list (fun m h => heldM_any h)).mono ?_
  rintro e w10 ⟨ao10, cap10, rfl, hk⟩
  rw [K2.out.2.2.2.1]
  have HK := hid hk
  clear hk
  go_wp2_with fail
  refine (HK.out.list (fun m h => dyingM_any h)).mono ?_
  rintro e w11 ⟨ao11, cap11, rfl, hk⟩
  rw [dying_len, K2.out.2.2.2.2]
  have HK := hid hk
  clear hk
  go_wp2_with fail
  refine (HK.out.run (fun m h => joinM_any h 1 1 (by unfold fits; omega))).mono ?_
  rintro e w12 ⟨rfl, hk⟩
  rw [show joinErr s4 1 1 = 33 from K3.out.1]
  have HK := hid (show Kn w w12 B s5 from hk)
  clear hk
  go_wp2_with fail
  refine (HK.out.run (fun m h => beginM_any h)).mono ?_
  rintro e w13 ⟨rfl, hk⟩
  rw [show beginErr s5 = 0 from K3.out.2.1]
  have HK := hid (show Kn w w13 B s6 from hk)
  clear hk
  go_wp2_with fail
  refine (HK.out.run (fun m h => endM_any h)).mono ?_
  rintro e w14 ⟨rfl, hk⟩
  rw [show endN s6 = 1 from K3.out.2.2.1, show endErr s6 = 0 from K3.out.2.2.2.1]
  have HK := hid (show Kn w w14 B s7 from hk)
  clear hk
  go_wp2_with fail
  refine (HK.out.ask (fun m h => liveM_any h)).mono ?_
  rintro e w15 ⟨rfl, hk⟩
  rw [K3.out.2.2.2.2.1]
  have HK := hid hk
  clear hk
  go_wp2_with fail
  refine (HK.out.ask (fun m h => now_any h)).mono ?_
  rintro e w16 ⟨rfl, hk⟩
  rw [K3.out.2.2.2.2.2]
  have HK := hid hk
  clear hk
  go_wp2_with fail
  go_ret
  obtain ⟨m, _, _, hf⟩ := HK.out
  exact ⟨rfl, hf⟩
end Go.Proofs.Ytimefcmemklhpaa.E
