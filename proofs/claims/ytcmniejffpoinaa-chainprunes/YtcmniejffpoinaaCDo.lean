/- Scripts: what a step makes of a chain; held, do: walks. -/
import Derived.Test.YtcmniejffpoinaaCKnown
import Derived.Test.YtcmniejffpoinaaCPrune2
import Derived.Test.YtcmniejffpoinaaCInts
namespace Go.Proofs.Ytcmniejffpoinaa
open Go.RowKit

/-- A step. -/
structure St where
  k : Int
  a : Int
  b : Int
  l : List Int
/-- What it makes of a chain. -/
def stepL (L : List Vn) (s : St) : List Vn :=
  if s.k = 1 then putL L s.a s.b
  else if s.k = 2 then killL L s.a
  else if s.k = 7 then putL L ((nw L).e + s.a % 9 - 1) s.b
  else if s.k = 8 then killL L ((nw L).e + s.a % 9 - 1)
  else if s.k = 4 then pruneL (s.l.take 200) L
  else L
theorem layL_le (L : List Vn) (x : Vn) : (layL L x).length ≤ L.length + 1 := by
  unfold layL
  split
  · simp
  · simp
theorem putL_le (L : List Vn) (e x : Int) : (putL L e x).length ≤ L.length + 1 := by
  unfold putL
  split
  · exact layL_le _ _
  · omega
theorem killL_le (L : List Vn) (e : Int) : (killL L e).length ≤ L.length + 1 := by
  unfold killL
  split
  · exact layL_le _ _
  · omega
theorem stepL_le (L : List Vn) (s : St) : (stepL L s).length ≤ L.length + 1 := by
  unfold stepL
  split
  · exact putL_le _ _ _
  split
  · exact killL_le _ _
  split
  · exact putL_le _ _ _
  split
  · exact killL_le _ _
  split
  · have := (pruneL_sub (s.l.take 200) L).length_le
    omega
  · omega

/-- No slice is longer than its room. -/
def Cp (v : Value) : Prop := ∀ ao n cap, v = .slice ao n cap → n ≤ cap

theorem held_any (v : Value) (xs : List Int) (w : World) (h : Is w v xs) (hcp : Cp v) :
    Calls Try.prog 16 #[v] w fun e w' => ∃ u, e = .returned u ∧ Is w u (xs.take 200) ∧ w' = w := by
  obtain ⟨ao, cap, rfl, hlen, hfit, hcell⟩ := id h
  have HI := hid h
  have hcap := hcp _ _ _ rfl
  have HF := hid hfit
  have HC := hid hcell
  clear hfit hcell h hcp
  by_cases h2 : 200 < xs.length
  · have t1 : (200 : Int) < (xs.length : Int) := by omega
    have t2 : (200 : Int) ≤ (cap : Int) := by omega
    obtain ⟨b, off, rfl, hck⟩ := HC.out (by rintro rfl; simp at h2)
    have HK := hid hck
    clear hck
    go_enter Try.func16, Try.ntmps16
    go_wp2_with fail
    go_ret
    refine ⟨_, rfl, ⟨some ⟨b, off, none⟩, cap, ?_, ?_, fun x hx => HF.out x (List.take_subset _ _ hx), fun _ => ⟨b, off, rfl, fun i hi => ?_⟩⟩, rfl⟩
    · rw [List.length_take, Nat.min_eq_left (by omega)]
      rfl
    · rw [List.length_take]
      omega
    · rw [List.length_take] at hi
      have e : (xs.take 200).getD i 0 = xs.getD i 0 := by simp [List.getD, show i < 200 by omega]
      rw [e]
      exact HK.out i (by omega)
  · have t1 : ¬ (200 : Int) < (xs.length : Int) := by omega
    have e0 : xs.take 200 = xs := List.take_of_length_le (by omega)
    rw [e0]
    clear e0 h2
    go_enter Try.func16, Try.ntmps16
    go_wp2_with fail
    go_ret
    exact ⟨_, rfl, HI.out, rfl⟩

theorem cells4 {w : World} {N : Nat} {a b c d : Value} {e : TypeId} (h : w.heap[N]? = some (.cells #[a, b, c, d] e (0, 0))) : w.cell? ⟨N, 0, none⟩ = some a ∧ w.cell? ⟨N, 1, none⟩ = some b ∧ w.cell? ⟨N, 2, none⟩ = some c ∧ w.cell? ⟨N, 3, none⟩ = some d := by
  refine ⟨?_, ?_, ?_, ?_⟩ <;> simp [World.cell?, h]

set_option maxHeartbeats 4000000 in
set_option maxRecDepth 100000 in
theorem do_any {base B : Nat} {v vl : Value} {L : List Vn} (s : St) (w : World) (h : Ch w base B v L) (hI : Is w vl s.l) (hcp : Cp vl) (hb : fits s.b) (hlen : L.length < 1000000) (hbase : base ≤ w.heap.size) :
    Calls Try.prog 31 #[.pointer (some ⟨B, 0, none⟩), .agg #[.int .i64 s.k, .int .i64 s.a, .int .i64 s.b, vl]] w fun r w' => r = .returned (.tuple #[]) ∧ ∃ v', Ch w' base B v' (stepL L s) ∧ Fr w w' (fun k => k = B ∨ v.ownBlock = some k) ∧ Nw w v v' := by
  have hnb := nw_fits h.good
  have HCh := hid h
  have HNw := hid (fun (W : World) (hf : Fr w W (fun _ => False)) => newest_any W (h.step hf))
  have HPut := hid (fun (e : Int) (W : World) (hf : Fr w W (fun _ => False)) => put_any e s.b W (h.step hf) hb hlen (Nat.le_trans hbase hf.size))
  have HKill := hid (fun (e : Int) (W : World) (hf : Fr w W (fun _ => False)) => kill_any e W (h.step hf) hlen (Nat.le_trans hbase hf.size))
  have HHeld := hid (fun (W : World) (hf : Fr w W (fun _ => False)) => held_any vl s.l W (hI.fr hf) hcp)
  have HPr := hid (fun (u : Value) (W : World) (hf : Fr w W (fun _ => False)) (hu : Is W u (s.l.take 200)) => prune_any W (h.step hf) hu)
  have HS : Hid (stepL L s = if s.k = 1 then putL L s.a s.b else if s.k = 2 then killL L s.a else if s.k = 7 then putL L ((nw L).e + s.a % 9 - 1) s.b else if s.k = 8 then killL L ((nw L).e + s.a % 9 - 1) else if s.k = 4 then pruneL (s.l.take 200) L else L) := rfl
  obtain ⟨ai, ci, rfl, _, _, _⟩ := hI
  obtain ⟨m9, hm9, hm9b⟩ : ∃ m : Nat, s.a % 9 = (m : Int) ∧ (m : Int) < 9 := ⟨(s.a % 9).toNat, by omega, by omega⟩
  have HW := hid (fun W : World => within_any s.a 9 (by decide) (by decide) W)
  rw [hm9] at HW HS
  have HC0 := hid (fun (W' : World) (hf : Fr (w.alloc (.cells #[.int .i64 s.k, .int .i64 s.a, .int .i64 s.b, .slice ai s.l.length ci] 40)) W' (fun k => k = B ∨ v.ownBlock = some k)) =>
    (show W'.cell? ⟨w.heap.size, 0, none⟩ = some (.int .i64 s.k) ∧ W'.cell? ⟨w.heap.size, 1, none⟩ = some (.int .i64 s.a) ∧ W'.cell? ⟨w.heap.size, 2, none⟩ = some (.int .i64 s.b) ∧ W'.cell? ⟨w.heap.size, 3, none⟩ = some (.slice ai s.l.length ci) ∧ w.heap.size < W'.heap.size from by
      have hs := hf.size
      simp at hs
      have hn := heap_last w (.cells #[.int .i64 s.k, .int .i64 s.a, .int .i64 s.b, .slice ai s.l.length ci] 40) _ rfl
      have hlt := h.lt
      have := cells4 ((hf.block w.heap.size (by simp) (fun e => by
        rcases e with e | e
        · omega
        · have := (h.own.lt _ e).2
          omega)).trans hn)
      exact ⟨this.1, this.2.1, this.2.2.1, this.2.2.2, by omega⟩))
  clear h hcp hb hlen hbase hm9
  obtain ⟨n0, n1, _, _⟩ := hnb
  generalize hy : nw L = y at *
  obtain ⟨sk, sa, sb, sl⟩ := s
  dsimp only at *
  have HF0 := hid (alloc_fr w (.cells #[.int .i64 sk, .int .i64 sa, .int .i64 sb, .slice ai sl.length ci] 40) (fun _ => False))
  go_enter Try.func31, Try.ntmps31
  go_wp2_with fail
  refine (HNw.out _ HF0.out).mono ?_
  rintro r w1 ⟨rfl, hf1⟩
  have HF1 := hid (HF0.out.trans hf1)
  have HG1 := hid (hf1.mono (fun k _ h => h.elim) : Fr _ w1 (fun k => k = B ∨ v.ownBlock = some k))
  obtain ⟨c0, c1, c2, c3, c4⟩ := HC0.out _ HG1.out
  clear hf1
  by_cases k1 : sk = 1
  · have HS1 := hid ((HS.out).trans (if_pos k1))
    subst k1
    clear HS 
    go_wp2_with fail
    refine (HPut.out sa _ HF1.out).mono ?_
    rintro r w2 ⟨rfl, v', h2, hf2, hn2⟩
    have HX := hid (And.intro h2 (And.intro hf2 hn2))
    clear h2 hf2 hn2
    go_wp2_with fail
    go_end0
    exact ⟨rfl, v', by rw [HS1.out]; exact HX.out.1, (HF1.out.mono (fun _ _ h => h.elim)).trans HX.out.2.1, (Nw.refl _ _).trans HX.out.2.2 HF1.out.size⟩
  · have t1 : (sk == 1) = false := by simpa using k1
    by_cases k2 : sk = 2
    · have HS1 := hid (((HS.out).trans (if_neg k1)).trans (if_pos k2))
      subst k2
      clear HS k1
      go_wp2_with fail
      refine (HKill.out sa _ HF1.out).mono ?_
      rintro r w2 ⟨rfl, v', h2, hf2, hn2⟩
      have HX := hid (And.intro h2 (And.intro hf2 hn2))
      clear h2 hf2 hn2
      go_wp2_with fail
      go_end0
      exact ⟨rfl, v', by rw [HS1.out]; exact HX.out.1, (HF1.out.mono (fun _ _ h => h.elim)).trans HX.out.2.1, (Nw.refl _ _).trans HX.out.2.2 HF1.out.size⟩
    · have t2 : (sk == 2) = false := by simpa using k2
      by_cases k7 : sk = 7
      · have HS1 := hid ((((HS.out).trans (if_neg k1)).trans (if_neg k2)).trans (if_pos k7))
        subst k7
        clear HS k1 k2
        go_wp2_with fail
        have hw1 : IntKind.i64.wrap (y.e + (m9 : Int)) = y.e + (m9 : Int) := wrap_fit (by unfold fits; omega)
        have hw2 : IntKind.i64.wrap (y.e + (m9 : Int) - 1) = y.e + (m9 : Int) - 1 := wrap_fit (by unfold fits; omega)
        first
          | go_region_held3 (fun W' => Hid (Fr (w.alloc (.cells #[.int .i64 7, .int .i64 sa, .int .i64 sb, .slice ai sl.length ci] 40)) W' (fun k => k = B ∨ v.ownBlock = some k)) ∧ W'.cell? ⟨w.heap.size, 1, none⟩ = some (.int .i64 sa) ∧ W'.cell? ⟨w.heap.size, 2, none⟩ = some (.int .i64 sb))
              ((refine (fun h => ⟨h, (HC0.out _ h).2.1, (HC0.out _ h).2.2.1⟩ : Fr (w.alloc (.cells #[.int .i64 7, .int .i64 sa, .int .i64 sb, .slice ai sl.length ci] 40)) _ (fun k => k = B ∨ v.ownBlock = some k) → _) ?_; repeat (first | exact HG2.out | exact HG1.out | apply Fr.drew)))
              ((first
                | (go_at_call 24; refine (HW.out _).mono ?_; rintro e w3 ⟨rfl, rfl⟩)
                | (go_at_call 26; refine (HPut.out (y.e + (m9 : Int) - 1) _ (by repeat (first | exact HF1.out | apply Fr.drew))).mono ?_; rintro e w4 ⟨rfl, v', h2, hf2, hn2⟩; have HX := hid (And.intro h2 (And.intro hf2 hn2)); have HG2 := hid (Fr.trans (a := (w.alloc (.cells #[.int .i64 7, .int .i64 sa, .int .i64 sb, .slice ai sl.length ci] 40))) (S := fun k => k = B ∨ v.ownBlock = some k) (by repeat (first | exact HG1.out | apply Fr.drew)) hf2); clear h2 hf2 hn2)))
          | fail
        go_wp2_with fail
        go_end0
        exact ⟨rfl, v', by rw [HS1.out]; exact HX.out.1, (HF1.out.drew.mono (fun _ _ h => h.elim)).trans HX.out.2.1, (Nw.refl _ _).trans HX.out.2.2 HF1.out.size⟩
      · have t7 : (sk == 7) = false := by simpa using k7
        by_cases k8 : sk = 8
        · have HS1 := hid (((((HS.out).trans (if_neg k1)).trans (if_neg k2)).trans (if_neg k7)).trans (if_pos k8))
          subst k8
          clear HS k1 k2 k7
          go_wp2_with fail
          refine (HW.out _).mono ?_
          rintro r w3 ⟨rfl, rfl⟩
          go_wp2_with fail
          refine (HKill.out (y.e + (m9 : Int) - 1) _ HF1.out).mono ?_
          rintro r w2 ⟨rfl, v', h2, hf2, hn2⟩
          have HX := hid (And.intro h2 (And.intro hf2 hn2))
          clear h2 hf2 hn2
          go_wp2_with fail
          go_end0
          exact ⟨rfl, v', by rw [HS1.out]; exact HX.out.1, (HF1.out.mono (fun _ _ h => h.elim)).trans HX.out.2.1, (Nw.refl _ _).trans HX.out.2.2 HF1.out.size⟩
        · have t8 : (sk == 8) = false := by simpa using k8
          by_cases k4 : sk = 4
          · have HS1 := hid ((((((HS.out).trans (if_neg k1)).trans (if_neg k2)).trans (if_neg k7)).trans (if_neg k8)).trans (if_pos k4))
            subst k4
            clear HS k1 k2 k7 k8
            go_wp2_with fail
            refine (HHeld.out _ HF1.out).mono ?_
            rintro r w3 ⟨u, rfl, hu, rfl⟩
            have HU := hid hu
            clear hu
            go_wp2_with fail
            refine (HPr.out u _ HF1.out HU.out).mono ?_
            rintro r w2 ⟨rfl, v', h2, hf2, hn2⟩
            have HX := hid (And.intro h2 (And.intro hf2 hn2))
            clear h2 hf2 hn2
            go_wp2_with fail
            go_end0
            exact ⟨rfl, v', by rw [HS1.out]; exact HX.out.1, (HF1.out.mono (fun _ _ h => h.elim)).trans HX.out.2.1, (Nw.refl _ _).trans HX.out.2.2 HF1.out.size⟩
          · have t4 : (sk == 4) = false := by simpa using k4
            have HS1 := hid (((((((HS.out).trans (if_neg k1)).trans (if_neg k2)).trans (if_neg k7)).trans (if_neg k8)).trans (if_neg k4)))
            clear HS k1 k2 k7 k8 k4
            go_wp2_with fail
            go_end0
            exact ⟨rfl, v, by rw [HS1.out]; exact HCh.out.step HF1.out, HF1.out.mono (fun _ _ h => h.elim), Nw.refl _ _⟩
end Go.Proofs.Ytcmniejffpoinaa
