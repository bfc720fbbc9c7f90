/- like: the walk. -/
import Derived.Test.YtekooeekaigmaaaEP16
namespace Go.Proofs.Ytekooeekaigmaaa.E
open Go.RowKit Go.Maps Go.MuLone

/-- Both books, as they are asked. -/
def Pk (w W : World) (B C S I base : Nat) (b : Bo) (sv : Nat → Value) (vW : Value) (a4 : Option Addr) (c4 : Nat) (DD : List Int) : Prop := (∃ m, Bk W 0 B m b) ∧ Rb W C S I base sv (.slice a4 DD.length c4) vW b DD ∧ Fr w W (fun _ => False)
theorem Pk.step {w W W' : World} {B C S I base : Nat} {b : Bo} {sv : Nat → Value} {vW : Value} {a4 : Option Addr} {c4 : Nat} {DD : List Int} (h : Pk w W B C S I base b sv vW a4 c4 DD) (hf : Fr W W' (fun _ => False)) : Pk w W' B C S I base b sv vW a4 c4 DD := by
  obtain ⟨⟨m, h1⟩, h3, h6⟩ := h
  exact ⟨⟨m, h1.step hf⟩, h3.step hf, h6.trans hf⟩
theorem Pk.drew {w W : World} {B C S I base : Nat} {b : Bo} {sv : Nat → Value} {vW : Value} {a4 : Option Addr} {c4 : Nat} {DD : List Int} (h : Pk w W B C S I base b sv vW a4 c4 DD) : Pk w W.drew B C S I base b sv vW a4 c4 DD := h.step ((Fr.refl _ _).drew)
set_option maxHeartbeats 8000000 in
set_option maxRecDepth 100000 in
theorem like_any {w W : World} {B C S I base : Nat} {b : Bo} (h : Pm w W B C S I base b) :
    Calls Try.prog 14 #[.pointer (some ⟨B, 0, none⟩), .pointer (some ⟨C, 0, none⟩)] W fun x w' => x = .returned (.bool true) ∧ Fr W w' (fun _ => False) := by
  obtain ⟨⟨m, h1, h2⟩, ⟨sv, vD, vW, h3⟩, _, _, hJ⟩ := h
  obtain ⟨a4, c4, rfl, _, _⟩ := h3.dO.at
  have hw := h1.wf
  have hdl := die_len hw hJ
  have HDL := hid (dying_len b)
  obtain ⟨DD, hDD⟩ : ∃ DD, DD = dyingL b := ⟨_, rfl⟩
  obtain ⟨LL, hLL⟩ : ∃ LL, LL = heldL b := ⟨_, rfl⟩
  obtain ⟨nn, hnn⟩ : ∃ nn, nn = b.now := ⟨_, rfl⟩
  obtain ⟨ll, hll⟩ : ∃ ll : Int, ll = ((heldL b).length : Int) + ((dyingL b).length : Int) := ⟨_, rfl⟩
  have HP : Hid (Pk W W B C S I base b sv vW a4 c4 DD) := by rw [hDD]; exact ⟨⟨m, h1⟩, h3, Fr.refl _ _⟩
  have HHd : Hid (∀ V, Pk W V B C S I base b sv vW a4 c4 DD → V.cell? ⟨C, 1, none⟩ = some (.int .i64 nn) ∧ V.cell? ⟨C, 4, none⟩ = some (.slice a4 DD.length c4) ∧ C < V.heap.size) := fun V hp => by
    rw [hnn]; exact ⟨hp.2.1.cells.2.1, hp.2.1.cells.2.2.2.2.1, lt_of_block hp.2.1.cell⟩
  have HNa : Hid (∀ V, Pk W V B C S I base b sv vW a4 c4 DD → Calls Try.prog 21 #[.pointer (some ⟨B, 0, none⟩)] V fun x w' => x = .returned (.int .i64 nn) ∧ Fr V w' (fun _ => False)) := fun V hp => by
    obtain ⟨⟨m, h1⟩, _⟩ := hp; rw [hnn]; exact now_any h1
  have HLa : Hid (∀ V, Pk W V B C S I base b sv vW a4 c4 DD → Calls Try.prog 22 #[.pointer (some ⟨B, 0, none⟩)] V fun x w' => x = .returned (.int .i64 ll) ∧ Fr V w' (fun _ => False)) := fun V hp => by
    obtain ⟨⟨m, h1⟩, _⟩ := hp
    have := liveM_any h1
    rw [show liveN b = ll by rw [hll]; unfold liveN; rw [HDL.out]; omega] at this
    exact this
  have HLb : Hid (∀ V, Pk W V B C S I base b sv vW a4 c4 DD → Calls Try.prog 48 #[.pointer (some ⟨C, 0, none⟩)] V fun x w' => x = .returned (.int .i64 ll) ∧ Fr V w' (fun _ => False)) := fun V hp => by
    have := rlive_any hp.2.1 hw (by rw [hDD]; omega)
    rw [hll, ← hDD]
    exact this
  have HHa : Hid (∀ V, Pk W V B C S I base b sv vW a4 c4 DD → Calls Try.prog 17 #[.pointer (some ⟨B, 0, none⟩)] V fun x w' => ∃ v, x = .returned v ∧ OwI w' V.heap.size v LL ∧ Fr V w' (fun _ => False)) := fun V hp => by
    obtain ⟨⟨m, h1⟩, _⟩ := hp; rw [hLL]; exact heldM_any h1
  have HHb : Hid (∀ V, Pk W V B C S I base b sv vW a4 c4 DD → Calls Try.prog 47 #[.pointer (some ⟨C, 0, none⟩)] V fun x w' => ∃ v, x = .returned v ∧ OwI w' V.heap.size v LL ∧ Fr V w' (fun _ => False)) := fun V hp => by
    rw [hLL]; exact rheld_any hp.2.1 hw
  have HDa : Hid (∀ V, Pk W V B C S I base b sv vW a4 c4 DD → Calls Try.prog 18 #[.pointer (some ⟨B, 0, none⟩)] V fun x w' => ∃ v, x = .returned v ∧ OwI w' V.heap.size v DD ∧ Fr V w' (fun _ => False)) := fun V hp => by
    obtain ⟨⟨m, h1⟩, _⟩ := hp; rw [hDD]; exact dyingM_any h1
  have HDd : Hid (∀ V, Pk W V B C S I base b sv vW a4 c4 DD → OwI V base (.slice a4 DD.length c4) DD) := fun V hp => hp.2.1.dO
  have HIn : Hid (∀ (V : World) (b1 b2 : Nat) (v u : Value) (l : List Int), OwI V b1 v l → OwI V b2 u l → Calls Try.prog 20 #[v, u] V fun e w' => e = .returned (.bool true) ∧ Fr V w' (fun _ => False)) := fun V b1 b2 v u l h1 h2 => by
    have h := ints_any h1 h2
    rwa [show eqB l l = true by simp [eqB]] at h
  clear h1 h2 h3 hJ hw hdl hDD hLL hnn hll
  have HR : Hid (∀ V, Pk W V B C S I base b sv vW a4 c4 DD → Fr W V (fun _ => False)) := fun V hp => hp.2.2
  go_enter Try.func14, Try.ntmps14
  go_wp2_with fail
  go_region_held3 (fun V => V.cell? ⟨C, 1, none⟩ = some (.int .i64 nn) ∧ V.cell? ⟨C, 4, none⟩ = some (.slice a4 DD.length c4) ∧ C < V.heap.size)
    ((refine HHd.out _ ?_; first | with_reducible exact HP.out | with_reducible exact Pk.drew HP.out | with_reducible exact Pk.drew (Pk.drew HP.out)))
    ((first
      | (go_at_call 21; with_reducible refine (HNa.out _ (by first | with_reducible exact HP.out | with_reducible exact Pk.drew HP.out | with_reducible exact Pk.drew (Pk.drew HP.out))).mono ?_; rintro xe w11 ⟨rfl, hf⟩; have HP := hid (Pk.step (by first | with_reducible exact HP.out | with_reducible exact Pk.drew HP.out | with_reducible exact Pk.drew (Pk.drew HP.out)) hf); (try have HOa := hid (OwI.keepF (by first | with_reducible exact HOa.out | with_reducible exact OwI.drewF HOa.out | with_reducible exact OwI.drewF (OwI.drewF HOa.out)) hf)); (try have HOb := hid (OwI.keepF (by first | with_reducible exact HOb.out | with_reducible exact OwI.drewF HOb.out | with_reducible exact OwI.drewF (OwI.drewF HOb.out)) hf)); (try have HOd := hid (OwI.keepF (by first | with_reducible exact HOd.out | with_reducible exact OwI.drewF HOd.out | with_reducible exact OwI.drewF (OwI.drewF HOd.out)) hf)); clear hf)
      | (go_at_call 22; with_reducible refine (HLa.out _ (by first | with_reducible exact HP.out | with_reducible exact Pk.drew HP.out | with_reducible exact Pk.drew (Pk.drew HP.out))).mono ?_; rintro xe w12 ⟨rfl, hf⟩; have HP := hid (Pk.step (by first | with_reducible exact HP.out | with_reducible exact Pk.drew HP.out | with_reducible exact Pk.drew (Pk.drew HP.out)) hf); (try have HOa := hid (OwI.keepF (by first | with_reducible exact HOa.out | with_reducible exact OwI.drewF HOa.out | with_reducible exact OwI.drewF (OwI.drewF HOa.out)) hf)); (try have HOb := hid (OwI.keepF (by first | with_reducible exact HOb.out | with_reducible exact OwI.drewF HOb.out | with_reducible exact OwI.drewF (OwI.drewF HOb.out)) hf)); (try have HOd := hid (OwI.keepF (by first | with_reducible exact HOd.out | with_reducible exact OwI.drewF HOd.out | with_reducible exact OwI.drewF (OwI.drewF HOd.out)) hf)); clear hf)
      | (go_at_call 48; with_reducible refine (HLb.out _ (by first | with_reducible exact HP.out | with_reducible exact Pk.drew HP.out | with_reducible exact Pk.drew (Pk.drew HP.out))).mono ?_; rintro xe w13 ⟨rfl, hf⟩; have HP := hid (Pk.step (by first | with_reducible exact HP.out | with_reducible exact Pk.drew HP.out | with_reducible exact Pk.drew (Pk.drew HP.out)) hf); (try have HOa := hid (OwI.keepF (by first | with_reducible exact HOa.out | with_reducible exact OwI.drewF HOa.out | with_reducible exact OwI.drewF (OwI.drewF HOa.out)) hf)); (try have HOb := hid (OwI.keepF (by first | with_reducible exact HOb.out | with_reducible exact OwI.drewF HOb.out | with_reducible exact OwI.drewF (OwI.drewF HOb.out)) hf)); (try have HOd := hid (OwI.keepF (by first | with_reducible exact HOd.out | with_reducible exact OwI.drewF HOd.out | with_reducible exact OwI.drewF (OwI.drewF HOd.out)) hf)); clear hf)
      | (go_at_call 17; with_reducible refine (HHa.out _ (by first | with_reducible exact HP.out | with_reducible exact Pk.drew HP.out | with_reducible exact Pk.drew (Pk.drew HP.out))).mono ?_; rintro xe w14 ⟨va, rfl, ho, hf⟩; have HOa := hid ho; clear ho; have HP := hid (Pk.step (by first | with_reducible exact HP.out | with_reducible exact Pk.drew HP.out | with_reducible exact Pk.drew (Pk.drew HP.out)) hf); (try have HOb := hid (OwI.keepF (by first | with_reducible exact HOb.out | with_reducible exact OwI.drewF HOb.out | with_reducible exact OwI.drewF (OwI.drewF HOb.out)) hf)); (try have HOd := hid (OwI.keepF (by first | with_reducible exact HOd.out | with_reducible exact OwI.drewF HOd.out | with_reducible exact OwI.drewF (OwI.drewF HOd.out)) hf)); clear hf)
      | (go_at_call 47; with_reducible refine (HHb.out _ (by first | with_reducible exact HP.out | with_reducible exact Pk.drew HP.out | with_reducible exact Pk.drew (Pk.drew HP.out))).mono ?_; rintro xe w15 ⟨vb, rfl, ho, hf⟩; have HOb := hid ho; clear ho; have HP := hid (Pk.step (by first | with_reducible exact HP.out | with_reducible exact Pk.drew HP.out | with_reducible exact Pk.drew (Pk.drew HP.out)) hf); (try have HOa := hid (OwI.keepF (by first | with_reducible exact HOa.out | with_reducible exact OwI.drewF HOa.out | with_reducible exact OwI.drewF (OwI.drewF HOa.out)) hf)); (try have HOd := hid (OwI.keepF (by first | with_reducible exact HOd.out | with_reducible exact OwI.drewF HOd.out | with_reducible exact OwI.drewF (OwI.drewF HOd.out)) hf)); clear hf)
      | (go_at_call 18; with_reducible refine (HDa.out _ (by first | with_reducible exact HP.out | with_reducible exact Pk.drew HP.out | with_reducible exact Pk.drew (Pk.drew HP.out))).mono ?_; rintro xe w16 ⟨vd, rfl, ho, hf⟩; have HOd := hid ho; clear ho; have HP := hid (Pk.step (by first | with_reducible exact HP.out | with_reducible exact Pk.drew HP.out | with_reducible exact Pk.drew (Pk.drew HP.out)) hf); (try have HOa := hid (OwI.keepF (by first | with_reducible exact HOa.out | with_reducible exact OwI.drewF HOa.out | with_reducible exact OwI.drewF (OwI.drewF HOa.out)) hf)); (try have HOb := hid (OwI.keepF (by first | with_reducible exact HOb.out | with_reducible exact OwI.drewF HOb.out | with_reducible exact OwI.drewF (OwI.drewF HOb.out)) hf)); clear hf)
      | (go_at_call 20; with_reducible refine (HIn.out _ _ _ _ _ LL (by first | with_reducible exact HOa.out | with_reducible exact OwI.drewF HOa.out | with_reducible exact OwI.drewF (OwI.drewF HOa.out)) (by first | with_reducible exact HOb.out | with_reducible exact OwI.drewF HOb.out | with_reducible exact OwI.drewF (OwI.drewF HOb.out))).mono ?_; rintro xe w17 ⟨rfl, hf⟩; have HP := hid (Pk.step (by first | with_reducible exact HP.out | with_reducible exact Pk.drew HP.out | with_reducible exact Pk.drew (Pk.drew HP.out)) hf); (try have HOa := hid (OwI.keepF (by first | with_reducible exact HOa.out | with_reducible exact OwI.drewF HOa.out | with_reducible exact OwI.drewF (OwI.drewF HOa.out)) hf)); (try have HOb := hid (OwI.keepF (by first | with_reducible exact HOb.out | with_reducible exact OwI.drewF HOb.out | with_reducible exact OwI.drewF (OwI.drewF HOb.out)) hf)); (try have HOd := hid (OwI.keepF (by first | with_reducible exact HOd.out | with_reducible exact OwI.drewF HOd.out | with_reducible exact OwI.drewF (OwI.drewF HOd.out)) hf)); clear hf)
      | (go_at_call 20; with_reducible refine (HIn.out _ _ _ _ _ DD (by first | with_reducible exact HOd.out | with_reducible exact OwI.drewF HOd.out | with_reducible exact OwI.drewF (OwI.drewF HOd.out)) (HDd.out _ (by first | with_reducible exact HP.out | with_reducible exact Pk.drew HP.out | with_reducible exact Pk.drew (Pk.drew HP.out)))).mono ?_; rintro xe w18 ⟨rfl, hf⟩; have HP := hid (Pk.step (by first | with_reducible exact HP.out | with_reducible exact Pk.drew HP.out | with_reducible exact Pk.drew (Pk.drew HP.out)) hf); (try have HOa := hid (OwI.keepF (by first | with_reducible exact HOa.out | with_reducible exact OwI.drewF HOa.out | with_reducible exact OwI.drewF (OwI.drewF HOa.out)) hf)); (try have HOb := hid (OwI.keepF (by first | with_reducible exact HOb.out | with_reducible exact OwI.drewF HOb.out | with_reducible exact OwI.drewF (OwI.drewF HOb.out)) hf)); (try have HOd := hid (OwI.keepF (by first | with_reducible exact HOd.out | with_reducible exact OwI.drewF HOd.out | with_reducible exact OwI.drewF (OwI.drewF HOd.out)) hf)); clear hf)))
  all_goals (go_wp2_with fail)
  all_goals go_ret
  all_goals exact ⟨rfl, HR.out _ HP.out⟩
end Go.Proofs.Ytekooeekaigmaaa.E
