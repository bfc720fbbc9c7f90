/- shard: row.need, row.at, At, Get: walks. -/
import Derived.Test.YtcjadgnefojjgabDoorSFind2
namespace Go.Proofs.YtcjadgnefojjgabDoor.S
open Go.RowKit G

/-- How many units more an aggregate at an epoch takes. -/
def needN (L : List Vn) (e : Int) : Nat := if e < (nw L).e then 0 else (if (nw L).e < e then 1 else 0) + (if (nw L).t then 0 else 1)
theorem needN_le (L : List Vn) (e : Int) : needN L e ≤ 2 := by unfold needN; split <;> (try split) <;> (try split) <;> omega
/-- What versions say at an epoch (0: now). -/
def atE (L : List Vn) (e : Int) : A4 := if e = 0 then (nw L).v else (atL L e).v
def agV (a : A4) : Value := .agg #[.int .i64 a.c, .int .i64 a.s, .int .i64 a.m, .int .i64 a.x]

set_option maxHeartbeats 1000000 in
theorem need_any {base b : Nat} {cv : Value} {L : List Vn} (c : Cl) (e : Int) (w : World) (h : Ch w base b cv L) :
    Calls Tryd.prog 17 #[rwV c b, .int .i64 e] w fun r w' => r = .returned (.int .i64 (needN L e : Int)) ∧ Fr w w' (fun _ => False) := by
  have HN := hid (fun (W : World) (hf : Fr w W (fun _ => False)) => newest_any W (h.step hf))
  have hlt := h.lt
  clear h
  unfold rwV
  have key : ∀ (n : Nat) (x : Vn), Hid (nw L = x) → (n = if e < x.e then 0 else (if x.e < e then 1 else 0) + (if x.t then 0 else 1)) → Calls Tryd.prog 17 #[.agg #[.int .i64 c.v, .string c.k, .int .i64 c.s, .pointer (some ⟨b, 0, none⟩)], .int .i64 e] w fun r w' => r = .returned (.int .i64 (n : Int)) ∧ Fr w w' (fun _ => False) := by
    intro n x HE hn
    rw [HE.out] at HN
    by_cases h1 : e < x.e
    · rw [if_pos h1] at hn
      subst hn
      go_enter Tryd.func17, Tryd.ntmps17
      go_wp2_with fail
      refine (HN.out _ (alloc_fr _ _ _)).mono ?_
      rintro r w1 ⟨rfl, hf⟩
      have HF := hid ((alloc_fr w _ _).trans hf)
      clear hf
      go_wp2_with fail
      go_ret
      exact ⟨rfl, HF.out.alloc _⟩
    rw [if_neg h1] at hn
    by_cases h2 : x.e < e
    · rw [if_pos h2] at hn
      cases ht : x.t with
      | true =>
        rw [ht] at hn HN
        simp at hn
        subst hn
        clear ht
        go_enter Tryd.func17, Tryd.ntmps17
        go_wp2_with fail
        refine (HN.out _ (alloc_fr _ _ _)).mono ?_
        rintro r w1 ⟨rfl, hf⟩
        have HF := hid ((alloc_fr w _ _).trans hf)
        clear hf
        go_wp2_with fail
        go_ret
        exact ⟨rfl, HF.out.alloc _⟩
      | false =>
        rw [ht] at hn HN
        simp at hn
        subst hn
        clear ht
        go_enter Tryd.func17, Tryd.ntmps17
        go_wp2_with fail
        refine (HN.out _ (alloc_fr _ _ _)).mono ?_
        rintro r w1 ⟨rfl, hf⟩
        have HF := hid ((alloc_fr w _ _).trans hf)
        clear hf
        go_wp2_with fail
        go_ret
        exact ⟨rfl, HF.out.alloc _⟩
    · rw [if_neg h2] at hn
      cases ht : x.t with
      | true =>
        rw [ht] at hn HN
        simp at hn
        subst hn
        clear ht
        go_enter Tryd.func17, Tryd.ntmps17
        go_wp2_with fail
        refine (HN.out _ (alloc_fr _ _ _)).mono ?_
        rintro r w1 ⟨rfl, hf⟩
        have HF := hid ((alloc_fr w _ _).trans hf)
        clear hf
        go_wp2_with fail
        go_ret
        exact ⟨rfl, HF.out.alloc _⟩
      | false =>
        rw [ht] at hn HN
        simp at hn
        subst hn
        clear ht
        go_enter Tryd.func17, Tryd.ntmps17
        go_wp2_with fail
        refine (HN.out _ (alloc_fr _ _ _)).mono ?_
        rintro r w1 ⟨rfl, hf⟩
        have HF := hid ((alloc_fr w _ _).trans hf)
        clear hf
        go_wp2_with fail
        go_ret
        exact ⟨rfl, HF.out.alloc _⟩
  exact key _ _ rfl rfl

set_option maxHeartbeats 1000000 in
theorem rat_any {base b : Nat} {cv : Value} {L : List Vn} (c : Cl) (e : Int) (w : World) (h : Ch w base b cv L) :
    Calls Tryd.prog 24 #[rwV c b, .int .i64 e] w fun r w' => r = .returned (agV (atE L e)) ∧ Fr w w' (fun _ => False) := by
  have HN := hid (fun (W : World) (hf : Fr w W (fun _ => False)) => newest_any W (h.step hf))
  have HAt := hid (fun (W : World) (hf : Fr w W (fun _ => False)) => at_any e W (h.step hf))
  have hlt := h.lt
  clear h
  unfold rwV atE agV
  by_cases h0 : e = 0
  · rw [if_pos h0]
    subst h0
    generalize nw L = x at *
    clear HAt
    go_enter Tryd.func24, Tryd.ntmps24
    go_wp2_with fail
    refine (HN.out _ ((alloc_fr _ _ _).alloc _)).mono ?_
    rintro r w1 ⟨rfl, hf⟩
    have HZ := (hf.block (w.heap.size + 1) (by simp) (fun h => h)).trans (heap_last _ _ _ (by simp))
    obtain ⟨z0, z1, z2, z3⟩ := cells4 HZ
    have hzf := free4 HZ
    have hzl := lt_of_block HZ
    have HF := hid (((alloc_fr w _ _).alloc _).trans hf)
    have hs := HF.out.size
    clear hf HZ
    go_wp2_with fail
    refine bodyPost_ret (v := .agg #[.int .i64 x.v.c, .int .i64 x.v.s, .int .i64 x.v.m, .int .i64 x.v.x]) (by simp [results, Tryd.results24, go_sem, hzl, z0, z1, z2, z3]) rfl ⟨rfl, ?_⟩
    repeat (first | with_reducible exact HF.out | with_reducible apply Fr.alloc | (with_reducible refine Fr.setCell ?_ ?_ _; rotate_left; (intro h; exfalso; have h' : w.heap.size + 1 < w.heap.size := h; omega)))
  · rw [if_neg h0]
    have t1 : (e == 0) = false := by simpa using h0
    clear h0
    generalize atL L e = x at *
    clear HN
    go_enter Tryd.func24, Tryd.ntmps24
    go_wp2_with fail
    refine (HAt.out _ ((alloc_fr _ _ _).alloc _)).mono ?_
    rintro r w1 ⟨rfl, hf⟩
    have HZ := (hf.block (w.heap.size + 1) (by simp) (fun h => h)).trans (heap_last _ _ _ (by simp))
    obtain ⟨z0, z1, z2, z3⟩ := cells4 HZ
    have hzf := free4 HZ
    have hzl := lt_of_block HZ
    have HF := hid (((alloc_fr w _ _).alloc _).trans hf)
    have hs := HF.out.size
    clear hf HZ
    go_wp2_with fail
    refine bodyPost_ret (v := .agg #[.int .i64 x.v.c, .int .i64 x.v.s, .int .i64 x.v.m, .int .i64 x.v.x]) (by simp [results, Tryd.results24, go_sem, hzl, z0, z1, z2, z3]) rfl ⟨rfl, ?_⟩
    repeat (first | with_reducible exact HF.out | with_reducible apply Fr.alloc | (with_reducible refine Fr.setCell ?_ ?_ _; rotate_left; (intro h; exfalso; have h' : w.heap.size + 1 < w.heap.size := h; omega)))
end Go.Proofs.YtcjadgnefojjgabDoor.S
