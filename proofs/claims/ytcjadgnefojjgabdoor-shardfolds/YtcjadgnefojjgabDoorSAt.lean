/- shard: At, Get: walks. -/
import Derived.Test.YtcjadgnefojjgabDoorSNeed
namespace Go.Proofs.YtcjadgnefojjgabDoor.S
open Go.RowKit G

/-- What At tells. -/
noncomputable def tellA (V : Vw) (c : Cl) (e : Int) : A4 := if mayE c = 0 then atE (getV V c) e else a0

theorem atE_nil (e : Int) : atE [] e = a0 := by
  unfold atE
  split <;> rfl

set_option maxHeartbeats 4000000 in
set_option maxRecDepth 100000 in
theorem at_any {base S slots : Nat} {X : Nat → Prop} {V : Vw} (c : Cl) (e : Int) (w : World) (h : Sh w base S slots X V) (hk : c.k.size ≤ 9223372036854775807) :
    Calls Tryd.prog 10 #[.pointer (some ⟨S, 0, none⟩), .agg #[.int .i64 c.v, .string c.k, .int .i64 c.s], .int .i64 e] w fun r w' => r = .returned (agV (tellA V c e)) ∧ Fr w w' (fun _ => False) := by
  obtain ⟨B, gr, ge, T, M, h1, rfl, rfl⟩ := h
  have HM := hid (fun W => mayBe_any c W hk)
  have hSl := lt_of_block h1.cell
  unfold tellA
  by_cases h0 : mayE c = 0
  · rw [if_pos h0]
    rw [h0] at HM
    have HFd := hid (fun (W : World) (hf : Fr w W (fun _ => False)) => find_any c W (h1.step hf) h0)
    have HC := hid (fun (W : World) (hf : Fr w W (fun _ => False)) => (show W.cell? ⟨S, 0, none⟩ = some (.pointer (some ⟨B, 0, none⟩)) from (cells5 ((h1.step hf).cell)).1.1))
    have HRa := hid (fun (W W' : World) (ee : Ent) (hfd : Found W W' base M c ee) => (show Calls Tryd.prog 24 #[rwV c ee.b, .int .i64 e] W' fun r w' => r = .returned (agV (atE (getV (M.map pr) c) e)) ∧ Fr W' w' (fun _ => False) from by have h5 := rat_any c e W' hfd.2.2.1; rw [hfd.2.1] at h5; exact h5))
    clear h1 h0 hk
    obtain ⟨v, k, s⟩ := c
    unfold agV at HRa ⊢
    generalize hx : atE (getV (M.map pr) ⟨v, k, s⟩) e = x at *
    have HX := hid hx
    clear hx
    dsimp only at *
    go_enter Tryd.func10, Tryd.ntmps10
    go_wp2_with fail
    refine (HM.out _).mono ?_
    rintro r w1 ⟨rfl, hf⟩
    have HZ0 := (hf.block (w.heap.size + 1) (by simp) (fun h => h)).trans (heap_last _ _ _ (by simp))
    have HZc := (hf.block w.heap.size (by simp; omega) (fun h => h)).trans ((Below.heap_alloc _ _ _ (by simp)).trans (heap_last _ _ _ rfl))
    have HZ := hid HZ0
    have HCl := hid HZc
    have HF1 := hid (((alloc_fr w _ _).alloc _).trans hf)
    have hs1 := HF1.out.size
    have hzl := lt_of_block HZ0
    clear hf HZ0 HZc
    have HK := hid (fun (W' : World) (hf : Fr w1 W' (fun _ => False)) => (show W'.cell? ⟨S, 0, none⟩ = some (.pointer (some ⟨B, 0, none⟩)) ∧ W'.cell? ⟨w.heap.size, 0, none⟩ = some (.int .i64 v) ∧ W'.cell? ⟨w.heap.size, 1, none⟩ = some (.string k) ∧ W'.cell? ⟨w.heap.size, 2, none⟩ = some (.int .i64 s) from
      ⟨HC.out _ (HF1.out.trans hf), cells3 ((hf.block _ (lt_of_block HCl.out) (fun h => h)).trans HCl.out)⟩))
    have hq := HK.out w1 (Fr.refl _ _)
    obtain ⟨k0, k1, k2, k3⟩ := hq
    have HF := hid (Fr.refl w1 (fun _ => False))
    have HKq := hid (fun (W' : World) (hf : Fr w1 W' (fun b => b = w.heap.size + 1)) => (show W'.cell? ⟨S, 0, none⟩ = some (.pointer (some ⟨B, 0, none⟩)) ∧ W'.cell? ⟨w.heap.size, 0, none⟩ = some (.int .i64 v) ∧ W'.cell? ⟨w.heap.size, 1, none⟩ = some (.string k) ∧ W'.cell? ⟨w.heap.size, 2, none⟩ = some (.int .i64 s) from
      ⟨by
        have h3 := hf.block S (by omega) (by omega)
        have h4 := HC.out w1 HF1.out
        unfold World.cell? at h4 ⊢
        rw [show (⟨S, 0, none⟩ : Addr).block = S from rfl] at h4 ⊢
        rw [h3]
        exact h4, cells3 ((hf.block _ (lt_of_block HCl.out) (by omega)).trans HCl.out)⟩))
    have HFq := hid (Fr.refl w1 (fun b => b = w.heap.size + 1))
    go_wp2_with fail
    go_region_held3 (fun W' => Hid (Fr w1 W' (fun b => b = w.heap.size + 1)) ∧ W'.cell? ⟨S, 0, none⟩ = some (.pointer (some ⟨B, 0, none⟩)) ∧ W'.cell? ⟨w.heap.size, 0, none⟩ = some (.int .i64 v) ∧ W'.cell? ⟨w.heap.size, 1, none⟩ = some (.string k) ∧ W'.cell? ⟨w.heap.size, 2, none⟩ = some (.int .i64 s))
      ((refine (fun h => ⟨h, HKq.out _ h⟩ : Fr w1 _ (fun b => b = w.heap.size + 1) → _) ?_; repeat (first | with_reducible exact HFq.out | with_reducible exact Fr.refl _ _ | with_reducible apply Fr.drew | with_reducible apply Fr.alloc | (with_reducible refine Fr.setCell ?_ ?_ _; rotate_left; (intro h; rfl)))))
      ((first
        | (go_at_call 16; refine (HFd.out _ (HF1.out.trans (by repeat (first | with_reducible exact HF.out | with_reducible exact Fr.refl _ _ | with_reducible apply Fr.drew | with_reducible apply Fr.alloc)))).mono ?_; rintro r w2 ⟨ee, rfl, hfd⟩; have HFo := hid hfd; have HF := hid (Fr.trans (a := w1) (by repeat (first | with_reducible exact HF.out | with_reducible exact Fr.refl _ _ | with_reducible apply Fr.drew | with_reducible apply Fr.alloc)) hfd.2.2.2.1); have HFq := hid (HF.out.mono (T := fun b => b = w.heap.size + 1) (fun _ _ h => h.elim)); have hs2 := HF.out.size; clear hfd)
        | (go_at_call 24; refine (HRa.out _ _ _ HFo.out).mono ?_; rintro r w3 ⟨rfl, hf⟩; have HF := hid (HF.out.trans hf); have HFq := hid (HF.out.mono (T := fun b => b = w.heap.size + 1) (fun _ _ h => h.elim)); have hs3 := HF.out.size; have HZ3 := (HF.out.block _ (lt_of_block HZ.out) (fun h => h)).trans HZ.out; obtain ⟨z0, z1, z2, z3⟩ := cells4 HZ3; have hzf := free4 HZ3; have hzl3 := lt_of_block HZ3; clear HZ3 hf)))
    go_wp2_with fail
    refine bodyPost_ret (v := .agg #[.int .i64 x.c, .int .i64 x.s, .int .i64 x.m, .int .i64 x.x]) (by simp [results, Tryd.results10, go_sem, z0, z1, z2, z3]) rfl ⟨rfl, ?_⟩
    refine HF1.out.trans2 (S := fun _ => False) (T := fun b => b = w.heap.size + 1) ?_ (fun i hi e => by omega)
    repeat (first | with_reducible exact HFq.out | with_reducible exact Fr.refl _ _ | with_reducible apply Fr.drew | with_reducible apply Fr.alloc | (with_reducible refine Fr.setCell ?_ ?_ _; rotate_left; (intro h; rfl)))
  · rw [if_neg h0]
    generalize mayE c = m at *
    have t1 : (m != 0) = true := by simpa using h0
    clear h0 h1
    unfold agV a0
    dsimp only
    go_enter Tryd.func10, Tryd.ntmps10
    go_wp2_with fail
    refine (HM.out _).mono ?_
    rintro r w1 ⟨rfl, hf⟩
    have HZ0 := (hf.block (w.heap.size + 1) (by simp) (fun h => h)).trans (heap_last _ _ _ (by simp))
    have HF1 := hid (((alloc_fr w _ _).alloc _).trans hf)
    obtain ⟨z0, z1, z2, z3⟩ := cells4 HZ0
    have hzf := free4 HZ0
    have hzl := lt_of_block HZ0
    clear hf HZ0
    go_wp2_with fail
    refine bodyPost_ret (v := .agg #[.int .i64 0, .int .i64 0, .int .i64 0, .int .i64 0]) (by simp [results, Tryd.results10, go_sem, z0, z1, z2, z3]) rfl ⟨rfl, ?_⟩
    repeat (first | with_reducible exact HF1.out | with_reducible apply Fr.alloc | (with_reducible refine Fr.setCell ?_ ?_ _; rotate_left; (intro h; exfalso; have h' : w.heap.size + 1 < w.heap.size := h; omega)))

set_option maxHeartbeats 1000000 in
theorem get_any {base S slots : Nat} {X : Nat → Prop} {V : Vw} (c : Cl) (w : World) (h : Sh w base S slots X V) (hk : c.k.size ≤ 9223372036854775807) :
    Calls Tryd.prog 8 #[.pointer (some ⟨S, 0, none⟩), .agg #[.int .i64 c.v, .string c.k, .int .i64 c.s]] w fun r w' => r = .returned (agV (tellA V c 0)) ∧ Fr w w' (fun _ => False) := by
  have HAt := hid (fun (W : World) (hf : Fr w W (fun _ => False)) => at_any c 0 W (h.step hf) hk)
  clear h hk
  unfold agV at HAt ⊢
  generalize tellA V c 0 = x at *
  go_enter Tryd.func8, Tryd.ntmps8
  go_wp2_with fail
  refine (HAt.out _ ((alloc_fr _ _ _).alloc _)).mono ?_
  rintro r w1 ⟨rfl, hf⟩
  have HZ0 := (hf.block (w.heap.size + 1) (by simp) (fun h => h)).trans (heap_last _ _ _ (by simp))
  have HF1 := hid (((alloc_fr w _ _).alloc _).trans hf)
  obtain ⟨z0, z1, z2, z3⟩ := cells4 HZ0
  have hzf := free4 HZ0
  have hzl := lt_of_block HZ0
  clear hf HZ0
  go_wp2_with fail
  refine bodyPost_ret (v := .agg #[.int .i64 x.c, .int .i64 x.s, .int .i64 x.m, .int .i64 x.x]) (by simp [results, Tryd.results8, go_sem, z0, z1, z2, z3]) rfl ⟨rfl, ?_⟩
  repeat (first | with_reducible exact HF1.out | with_reducible apply Fr.alloc | (with_reducible refine Fr.setCell ?_ ?_ _; rotate_left; (intro h; exfalso; have h' : w.heap.size + 1 < w.heap.size := h; omega)))
end Go.Proofs.YtcjadgnefojjgabDoor.S
