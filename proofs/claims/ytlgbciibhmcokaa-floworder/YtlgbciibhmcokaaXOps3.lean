/- flow: first, Toward: walks. -/
import Derived.Test.YtlgbciibhmcokaaXOps2
namespace Go.Proofs.Ytlgbciibhmcokaa
open Go.RowKit

theorem errC_key {x : It} (h : errC x = 0) : x.k.size ≤ 32 := by
  unfold errC at h
  split at h
  · cases h
  · rename_i h1
    split at h
    · cases h
    · split at h
      · cases h
      · rename_i h3
        cases hm : x.m with
        | true =>
          have : ¬ (x.k.size ≠ 0 ∨ x.v ≠ 0) := fun h => h3 ⟨hm, h⟩
          omega
        | false =>
          have : keyB x.k = true := by
            cases hk : keyB x.k with
            | true => rfl
            | false => exact absurd ⟨hm, hk⟩ h1
          have h5 : 1 ≤ x.k.size ∧ x.k.size ≤ 32 := of_decide_eq_true this
          exact h5.2
/-- Into which box a source's first item goes. -/
def tow (s : Ps) (n : Nat) (x : It) : Nat := if x.m = true then s.n.getD n 0 else rtF s.b.length x.k
/-- What first answers. -/
def firR (s : Ps) (i : Int) : Nat × It × Int := if ¬ (0 ≤ i ∧ i < (s.q.length : Int)) then (0, it0, 1) else
  match s.q.getD i.toNat [] with
  | [] => (0, it0, 44)
  | x :: _ => (tow s i.toNat x, x, 0)
theorem firR_out {s : Ps} {i : Int} (h : ¬ (0 ≤ i ∧ i < (s.q.length : Int))) : firR s i = (0, it0, 1) := by unfold firR; rw [if_pos h]
theorem firR_nil {s : Ps} {n : Nat} (h : n < s.q.length) (hq : s.q.getD n [] = []) : firR s (n : Int) = (0, it0, 44) := by unfold firR; rw [if_neg (fun h' => h' (by omega)), Int.toNat_natCast, hq]
theorem firR_cons {s : Ps} {n : Nat} (h : n < s.q.length) {x : It} {L : List It} (hq : s.q.getD n [] = x :: L) : firR s (n : Int) = (tow s n x, x, 0) := by unfold firR; rw [if_neg (fun h' => h' (by omega)), Int.toNat_natCast, hq]
theorem resT {fn : Func} {t u a : Tmp} (h : fn.results = #[.tmp a, .cell t 33, .tmp u]) (tmps : Array Value) (W : World) {N : Nat} {x : It} (h2 : tmps.getD t undef = .pointer (some ⟨N, 0, none⟩)) (hB : W.heap[N]? = some (.cells (elI x).toArray 33 (0, 0))) :
    (results fn tmps).run Try.prog W = .ok (.tuple #[tmps.getD a undef, vI x, tmps.getD u undef]) W := by
  obtain ⟨c0, c1, c2, c3⟩ := RI.el_cells hB
  rw [Array.getD_eq_getD_getElem?] at h2
  simp [results, h, h2, go_sem, c0, c1, c2, c3, vI]
set_option maxHeartbeats 2000000 in
theorem ffirst_any {w : World} {g : Fx} {box : Nat} (h : Fw w g box) (i : Int) : Calls Try.prog 37 #[.pointer (some ⟨g.B, 0, none⟩), .int .i64 i] w fun e w' => e = .returned (.tuple #[.int .i64 ((firR g.ps i).1 : Int), vI (firR g.ps i).2.1, .int .i64 (firR g.ps i).2.2]) ∧ Fr w w' (fun _ => False) := by
  obtain ⟨c0, c1, hlt⟩ := h.cells
  have hio := fun W => isOfF_any i (some ⟨g.F, 0, none⟩) g.fs.length g.cf W
  by_cases hi : 0 ≤ i ∧ i < (g.fs.length : Int)
  case neg =>
    rw [firR_out (by rw [ps_ql]; exact hi)]
    have e3 : inN i g.fs.length = false := decide_eq_false hi
    rw [e3] at hio
    have HIO := hid hio
    clear h hio c1 e3
    simp only
    go_enter Try.func37, Try.ntmps37
    go_wp2_with fail
    refine (HIO.out _).mono ?_
    rintro e w1 ⟨rfl, rfl⟩
    go_wp2_with fail
    refine bodyPost_ret (resT (x := it0) Try.results37 _ _ rfl (RI.new_el rfl)) rfl ⟨rfl, (Fr.refl _ _).alloc _⟩
  case pos =>
    obtain ⟨n, rfl⟩ : ∃ n : Nat, i = (n : Int) := ⟨i.toNat, by omega⟩
    have hn : n < g.fs.length := by omega
    have e3 : inN (n : Int) g.fs.length = true := decide_eq_true hi
    rw [e3] at hio
    have HIO := hid hio
    obtain ⟨hi1, hi2⟩ := hi
    clear e3 hio
    have hqq := ps_q (g := g) hn
    cases hq : (g.fs.getD n fd0).q with
    | nil =>
      rw [hq] at hqq
      rw [firR_nil (by rw [ps_ql]; exact hn) hqq]
      have HFI := hid (fun (W : World) (hW : Fr w W (fun _ => False)) => RI.first_nil (by have := (h.still hW).feed hn; rw [hq] at this; exact this) (take_len g.fs hn))
      clear h hq hqq c1
      simp only
      generalize g.fs.length = m at *
      go_enter Try.func37, Try.ntmps37
      go_wp2_with fail
      refine (HIO.out _).mono ?_
      rintro e w1 ⟨rfl, rfl⟩
      go_wp2_with fail
      refine (HFI.out _ ((Fr.refl _ _).alloc _)).mono ?_
      rintro e w1 ⟨rfl, hf⟩
      have HB := hid (keep_block (RI.new_el (w := w) (T := 33) (x := it0) rfl) hf (fun h => h))
      have HF := hid (((Fr.refl w _).alloc _).trans hf)
      have HFP : Hid (∀ (W : World) (y : It), Fr w W (fun _ => False) → Fr w (RI.puts W w.heap.size 0 y) (fun _ => False)) := fun W y h => RI.puts_fr h (fun h => absurd h (Nat.lt_irrefl _)) y
      obtain ⟨d0, d1, d2, d3⟩ := RI.el_cells HB.out
      have hfz := free_of HB.out
      have hxl := lt_of_block HB.out
      clear hf
      unfold vI
      generalize w.heap.size = N at *
      go_wp2_with fail
      have hp := RI.puts_new (y := it0) HB.out it0
      refine bodyPost_ret (resT (x := it0) Try.results37 _ _ rfl (((alloc_fr _ _ (fun _ => False)).block N (lt_of_block hp) (fun h => h)).trans hp)) rfl ⟨rfl, ?_⟩
      exact (HFP.out _ it0 HF.out).alloc _
    | cons x L =>
      rw [hq] at hqq
      rw [firR_cons (by rw [ps_ql]; exact hn) hqq]
      have hfr := (h.fr n hn)
      rw [hq] at hfr
      have hxk : x.k.size ≤ 32 := errC_key (hfr.2.2.2 x (by simp))
      have hnx : g.ps.n.getD n 0 = (g.fs.getD n fd0).n := ps_n hn
      have hbl : g.ps.b.length = g.xs.length := ps_bl g
      have HFI := hid (fun (W : World) (hW : Fr w W (fun _ => False)) => RI.first_cons (by have := (h.still hW).feed hn; rw [hq] at this; exact this) (take_len g.fs hn) (hfr.1.fr hW (fun _ _ h => h)))
      have HRO := hid (fun (W : World) (hW : Fr w W (fun _ => False)) => route_any x.k (h.still hW) (by omega))
      have HNX : Hid (∀ W : World, Fr w W (fun _ => False) → W.cell? ⟨g.F, n * 5 + 4, none⟩ = some (.int .i64 ((g.fs.getD n fd0).n : Int)) ∧ g.F < W.heap.size) := fun W hW => ⟨(h.still hW).feeds.at fc_len hn fd0 (j := 4) (by omega) rfl, (h.still hW).feeds.lt⟩
      clear h hq hqq c1 hfr
      simp only
      generalize g.fs.length = m at *
      by_cases hm : x.m = true
      · have e1 : tow g.ps n x = (g.fs.getD n fd0).n := by unfold tow; rw [if_pos hm, hnx]
        rw [e1]
        have HM := hid hm
        clear e1 hnx hbl HRO hm
        generalize (g.fs.getD n fd0).n = nx at *
        go_enter Try.func37, Try.ntmps37
        go_wp2_with fail
        refine (HIO.out _).mono ?_
        rintro e w1 ⟨rfl, rfl⟩
        go_wp2_with fail
        refine (HFI.out _ ((Fr.refl _ _).alloc _)).mono ?_
        rintro e w1 ⟨rfl, hf⟩
        have HB := hid (keep_block (RI.new_el (w := w) (T := 33) (x := it0) rfl) hf (fun h => h))
        have HF := hid (((Fr.refl w _).alloc _).trans hf)
        have HFP : Hid (∀ (W : World) (y : It), Fr w W (fun _ => False) → Fr w (RI.puts W w.heap.size 0 y) (fun _ => False)) := fun W y h => RI.puts_fr h (fun h => absurd h (Nat.lt_irrefl _)) y
        clear hf
        unfold vI
        generalize w.heap.size = N at *
        go_upto_region 7 with fail
        have hA := alloc_fr w1 (.cells (elI x).toArray 33) (fun _ => False)
        have HF2 := hid (HF.out.trans hA)
        have HB2 := hid (keep_block HB.out hA (fun h => h))
        have HM2 : Hid ((w1.alloc (.cells (elI x).toArray 33)).heap[w1.heap.size]? = some (.cells (elI x).toArray 33 (0, 0))) := RI.new_el rfl
        clear hA HF HB
        unfold elI at HF2 HB2 HM2
        generalize (w1.alloc (.cells _ 33)) = w2 at *
        generalize w1.heap.size = M at *
        obtain ⟨d0, d1, d2, d3⟩ := RI.el_cells (x := it0) HB2.out
        obtain ⟨x0, x1, x2, x3⟩ := RI.el_cells (x := x) HM2.out
        have hfz := free_of HB2.out
        have hNl := lt_of_block HB2.out
        have hMl := lt_of_block HM2.out
        obtain ⟨f4, hFl⟩ := HNX.out _ HF2.out
        rw [HM.out] at x0
        go_wp2_with fail
        go_region
        go_wp2_with fail
        have hp := RI.puts_new (y := it0) HB2.out x
        have hq := HFP.out _ x HF2.out
        unfold RI.puts at hp hq
        rw [HM.out] at hp hq
        refine bodyPost_ret (resT (x := x) Try.results37 _ _ rfl hp) rfl ⟨rfl, hq.drew⟩
      · have hm' : x.m = false := by cases hq : x.m <;> simp_all
        have e1 : tow g.ps n x = rtF g.xs.length x.k := by unfold tow; rw [if_neg hm, hbl]
        rw [e1]
        have HM := hid hm'
        clear e1 hnx hbl HNX hm hm'
        generalize rtF g.xs.length x.k = nx at *
        go_enter Try.func37, Try.ntmps37
        go_wp2_with fail
        refine (HIO.out _).mono ?_
        rintro e w1 ⟨rfl, rfl⟩
        go_wp2_with fail
        refine (HFI.out _ ((Fr.refl _ _).alloc _)).mono ?_
        rintro e w1 ⟨rfl, hf⟩
        have HB := hid (keep_block (RI.new_el (w := w) (T := 33) (x := it0) rfl) hf (fun h => h))
        have HF := hid (((Fr.refl w _).alloc _).trans hf)
        have HFP : Hid (∀ (W : World) (y : It), Fr w W (fun _ => False) → Fr w (RI.puts W w.heap.size 0 y) (fun _ => False)) := fun W y h => RI.puts_fr h (fun h => absurd h (Nat.lt_irrefl _)) y
        clear hf
        unfold vI
        generalize w.heap.size = N at *
        go_upto_region 7 with fail
        have hA := alloc_fr w1 (.cells (elI x).toArray 33) (fun _ => False)
        have HF2 := hid (HF.out.trans hA)
        have HB2 := hid (keep_block HB.out hA (fun h => h))
        have HM2 : Hid ((w1.alloc (.cells (elI x).toArray 33)).heap[w1.heap.size]? = some (.cells (elI x).toArray 33 (0, 0))) := RI.new_el rfl
        clear hA HF HB
        unfold elI at HF2 HB2 HM2
        generalize (w1.alloc (.cells _ 33)) = w2 at *
        generalize w1.heap.size = M at *
        have HBB : Hid (∀ W : World, Fr w2 W (fun _ => False) → W.heap[N]? = some (.cells (elI it0).toArray 33 (0, 0)) ∧ W.heap[M]? = some (.cells (elI x).toArray 33 (0, 0))) := fun W hW => ⟨keep_block HB2.out hW (fun h => h), keep_block HM2.out hW (fun h => h)⟩
        obtain ⟨x0, x1, x2, x3⟩ := RI.el_cells (x := x) HM2.out
        have hMl := lt_of_block HM2.out
        rw [HM.out] at x0
        go_wp2_with fail
        go_region_with (go_at_call 13; refine (HRO.out _ HF2.out.drew).mono ?_; rintro e w3 ⟨rfl, hf3⟩; have HF3 := hid (HF2.out.drew.trans hf3); have HB3 := hid (HBB.out _ (Fr.ofDrew hf3)).1; have HM3 := hid (HBB.out _ (Fr.ofDrew hf3)).2; have hcB := RI.el_cells HB3.out; have hcM := RI.el_cells HM3.out; rw [HM.out] at hcM; have hfz := free_of HB3.out; have hNl := lt_of_block HB3.out; have hM3 := lt_of_block HM3.out; clear hf3)
        all_goals
          go_wp2_with fail
          have hp := RI.puts_new (y := it0) HB3.out x
          have hq := HFP.out _ x HF3.out
          unfold RI.puts at hp hq
          rw [HM.out] at hp hq
          refine bodyPost_ret (resT (x := x) Try.results37 _ _ rfl hp) rfl ⟨rfl, hq⟩
theorem toward_any {w : World} {g : Fx} {box : Nat} (h : Fw w g box) (i : Int) : Calls Try.prog 22 #[.pointer (some ⟨g.B, 0, none⟩), .int .i64 i] w fun e w' => e = .returned (.tuple #[.int .i64 ((firR g.ps i).1 : Int), .int .i64 (firR g.ps i).2.2]) ∧ Fr w w' (fun _ => False) := by
  have HFI := hid (fun (W : World) (hW : Fr w W (fun _ => False)) => ffirst_any (h.still hW) i)
  clear h
  generalize (firR g.ps i).1 = j at *
  generalize (firR g.ps i).2.1 = x at *
  generalize (firR g.ps i).2.2 = er at *
  unfold vI at HFI
  go_enter Try.func22, Try.ntmps22
  go_wp2_with fail
  refine (HFI.out _ (Fr.refl _ _)).mono ?_
  rintro e w1 ⟨rfl, hf⟩
  have HF := hid hf
  clear hf
  go_wp2_with fail
  go_ret2
  exact ⟨rfl, HF.out.alloc _⟩
end Go.Proofs.Ytlgbciibhmcokaa
