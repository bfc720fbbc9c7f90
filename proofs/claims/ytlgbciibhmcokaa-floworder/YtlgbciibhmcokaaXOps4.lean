/- flow: Take: a walk. -/
import Derived.Test.YtlgbciibhmcokaaXOps3
namespace Go.Proofs.Ytlgbciibhmcokaa
open Go.RowKit

/-- What Take answers, and leaves. -/
def takR (s : Ps) (j : Int) : Ms × Int := if ¬ (0 ≤ j ∧ j < (s.b.length : Int)) then (ms0, 1) else
  match s.b.getD j.toNat [] with
  | [] => (ms0, 44)
  | m :: _ => (m, 0)
def takS (s : Ps) (j : Int) : Ps := if ¬ (0 ≤ j ∧ j < (s.b.length : Int)) then s else ⟨s.q, s.n, s.b.set j.toNat (s.b.getD j.toNat []).tail⟩
theorem take_box {w : World} {g : Fx} {box : Nat} (h : Fw w g box) {i : Nat} (hi : i < g.xs.length) {x : Ms} {L : List Ms} (hq : (g.xs.getD i bx0).ms = x :: L) : Calls Try.prog 41 #[.pointer (some ⟨g.X, i * 4, none⟩)] w fun e w' => e = .returned (.tuple #[vM x, .bool true]) ∧ Aft w w' g box ⟨g.ps.q, g.ps.n, g.ps.b.set i L⟩ := by
  have hb := h.box hi
  have hr := (h.br i hi)
  rw [hq] at hb hr
  refine (RM.take_cons hb (takeb_len box g.xs hi) hr.1 (by decide)).mono ?_
  rintro e w' ⟨rfl, st', h1, h2, h3⟩
  refine ⟨rfl, ?_⟩
  obtain ⟨k1, k2, k3⟩ := h.setX hi (y := ⟨(g.xs.getD i bx0).v, st', L⟩) h3 h1 h2 (Nw.refl _ _) (by have := hr.2; simp at this; show L.length ≤ box; omega)
  exact ⟨g.setX i ⟨(g.xs.getD i bx0).v, st', L⟩, rfl, k1, setX_ps _ _ _, k2, k3⟩
theorem take_feed {w : World} {g : Fx} {box : Nat} (h : Fw w g box) {i : Nat} (hi : i < g.fs.length) {x : It} {L : List It} (hq : (g.fs.getD i fd0).q = x :: L) : Calls Try.prog 39 #[.pointer (some ⟨g.F, i * 5, none⟩)] w fun e w' => e = .returned (.tuple #[vI x, .bool true]) ∧ ∃ g', g'.B = g.B ∧ g'.F = g.F ∧ g'.fs.length = g.fs.length ∧ Fw w' g' box ∧ g'.ps = ⟨g.ps.q.set i L, g.ps.n, g.ps.b⟩ ∧ Gr w g.ow g'.ow ∧ Fr w w' g.ow := by
  have hb := h.feed hi
  have hr := (h.fr i hi)
  rw [hq] at hb hr
  refine (RI.take_cons hb (take_len g.fs hi) hr.1 (by decide)).mono ?_
  rintro e w' ⟨rfl, st', h1, h2, h3⟩
  refine ⟨rfl, ?_⟩
  obtain ⟨k1, k2, k3⟩ := h.setF hi (y := ⟨(g.fs.getD i fd0).v, st', L, (g.fs.getD i fd0).n⟩) h3 h1 h2 (Nw.refl _ _) (by have := hr.2.1; simp at this; show L.length ≤ 65536; omega) hr.2.2.1 (fun z hz => hr.2.2.2 z (by simp [hz]))
  refine ⟨g.setF i ⟨(g.fs.getD i fd0).v, st', L, (g.fs.getD i fd0).n⟩, rfl, rfl, List.length_set, k1, ?_, k2, k3⟩
  rw [setF_ps]
  simp only
  rw [← ps_n hi, set_getD_self]
/-- The next operator of a feed is set. -/
theorem set_next {w : World} {g : Fx} {box : Nat} (h : Fw w g box) {i : Nat} (hi : i < g.fs.length) (n : Nat) (hn : n < g.xs.length) : Aft w (w.setCell ⟨g.F, i * 5 + 4, none⟩ (.int .i64 (n : Int))) g box ⟨g.ps.q, g.ps.n.set i n, g.ps.b⟩ := by
  have hb := h.feed hi
  have hfr := h.fr i hi
  have hne : (g.fs.getD i fd0).v.ownBlock ≠ some g.F := hfr.1.ne h.feeds (by decide)
  have hl := take_len g.fs hi
  have hset : RB (w.setCell ⟨g.F, i * 5 + 4, none⟩ (.int .i64 (n : Int))) g.F 64 (fl fc (g.fs.take i)) ([.int .i64 (n : Int)] ++ (fl fc (g.fs.drop (i + 1)) ++ g.rf)) (g.fs.getD i fd0).v (g.fs.getD i fd0).st (g.fs.getD i fd0).q.length 65536 := by
    unfold RB at hb ⊢
    rw [heap_setCell_same w g.F _ _ _ _ hb, ← hl]
    simp
  have hf := set_fr w g.F (i * 5 + 4) (.int .i64 (n : Int))
  obtain ⟨k1, k2, k3⟩ := h.setF hi (y := ⟨(g.fs.getD i fd0).v, (g.fs.getD i fd0).st, (g.fs.getD i fd0).q, n⟩) (hf.mono (fun _ _ h => Or.inl h)) hset (hfr.1.fr hf (fun k hk e => hne (by rw [hk, e]))) (Nw.refl _ _) hfr.2.1 hn hfr.2.2.2
  refine ⟨g.setF i ⟨(g.fs.getD i fd0).v, (g.fs.getD i fd0).st, (g.fs.getD i fd0).q, n⟩, rfl, k1, ?_, k2, k3⟩
  rw [setF_ps]
  simp only
  rw [← ps_q hi, set_getD_self]
theorem add_box {w : World} {g : Fx} {box : Nat} (h : Fw w g box) {i : Nat} (hi : i < g.xs.length) (x : Ms) (hl : (g.xs.getD i bx0).ms.length < box) : Calls Try.prog 38 #[.pointer (some ⟨g.X, i * 4, none⟩), vM x] w fun e w' => e = .returned (.bool true) ∧ ∃ g', g'.B = g.B ∧ g'.F = g.F ∧ g'.fs = g.fs ∧ g'.cf = g.cf ∧ g'.xs.length = g.xs.length ∧ Fw w' g' box ∧ g'.ps = ⟨g.ps.q, g.ps.n, g.ps.b.set i (g.ps.b.getD i [] ++ [x])⟩ ∧ Gr w g.ow g'.ow ∧ Fr w w' g.ow := by
  have hbx := h.bx.2
  refine (RM.add_ok (h.box hi) (takeb_len box g.xs hi) (h.br i hi).1 (by decide) hl (by omega) x).mono ?_
  rintro e w' ⟨rfl, v', st', h1, h2, h3, h4⟩
  refine ⟨rfl, ?_⟩
  obtain ⟨k1, k2, k3⟩ := h.setX hi (y := ⟨v', st', (g.xs.getD i bx0).ms ++ [x]⟩) h3 (by rw [List.length_append]; exact h1) h2 h4 (by rw [List.length_append, List.length_cons, List.length_nil]; omega)
  refine ⟨g.setX i ⟨v', st', (g.xs.getD i bx0).ms ++ [x]⟩, rfl, rfl, rfl, rfl, List.length_set, k1, ?_, k2, k3⟩
  rw [setX_ps]
  simp only
  rw [ps_b hi]
theorem add_box_full {w : World} {g : Fx} {box : Nat} (h : Fw w g box) {i : Nat} (hi : i < g.xs.length) (x : Ms) (hl : (g.xs.getD i bx0).ms.length = box) : Calls Try.prog 38 #[.pointer (some ⟨g.X, i * 4, none⟩), vM x] w fun e w' => e = .returned (.bool false) ∧ Fr w w' (fun _ => False) := by
  have hb := h.box hi
  rw [hl] at hb
  exact RM.add_full hb (takeb_len box g.xs hi) x
/-- A call's own box was made ahead of what changed the flow, and is written to behind it. -/
theorem Aft.box {w w1 W : World} {g : Fx} {box : Nat} {s : Ps} {o : Obj} (h : Aft (w.alloc o) w1 g box s) (how : ∀ k, g.ow k → k < w.heap.size) (hW : Fr w1 W (fun k => k = w.heap.size)) : Aft w W g box s := by
  obtain ⟨g', h1, h2, h3, h4, h5⟩ := h
  have hA : Fr w w1 g.ow := (alloc_fr w o g.ow).trans h5
  refine ⟨g', h1, h2.step hW (fun k hk e => ?_), h3, fun k hk => (h4 k hk).imp id (fun h => by simp at h; omega), hA.trans2 hW (fun k hk e => by omega)⟩
  rcases h4 _ hk with h | h
  · have := how _ h; omega
  · simp at h; omega
set_option maxHeartbeats 4000000 in
theorem ftake_any {w : World} {g : Fx} {box : Nat} (h : Fw w g box) (i : Int) : Calls Try.prog 18 #[.pointer (some ⟨g.B, 0, none⟩), .int .i64 i] w fun e w' => e = .returned (.tuple #[.int .i64 (takR g.ps i).1.s, vI (takR g.ps i).1.x, .int .i64 (takR g.ps i).2]) ∧ Aft w w' g box (takS g.ps i) := by
  obtain ⟨c0, c1, hlt⟩ := h.cells
  have hio := fun W => isOfB_any i (some ⟨g.X, 0, none⟩) g.xs.length g.cx W
  have HSM := hid (fun (W : World) (hW : Fr w W (fun _ => False)) => Aft.same h hW)
  by_cases hi : 0 ≤ i ∧ i < (g.xs.length : Int)
  case neg =>
    have e1 : takR g.ps i = (ms0, 1) := by unfold takR; rw [ps_bl, if_pos hi]
    have e2 : takS g.ps i = g.ps := by unfold takS; rw [ps_bl, if_pos hi]
    rw [e1, e2]
    have e3 : inN i g.xs.length = false := decide_eq_false hi
    rw [e3] at hio
    have HIO := hid hio
    clear h hio c0 e1 e2 e3
    simp only
    go_enter Try.func18, Try.ntmps18
    go_wp2_with fail
    refine (HIO.out _).mono ?_
    rintro e w1 ⟨rfl, rfl⟩
    go_wp2_with fail
    refine bodyPost_ret (resT (x := it0) Try.results18 _ _ rfl (RI.new_el rfl)) rfl ⟨rfl, HSM.out _ ((Fr.refl _ _).alloc _)⟩
  case pos =>
    obtain ⟨n, rfl⟩ : ∃ n : Nat, i = (n : Int) := ⟨i.toNat, by omega⟩
    have hn : n < g.xs.length := by omega
    have e3 : inN (n : Int) g.xs.length = true := decide_eq_true hi
    rw [e3] at hio
    have HIO := hid hio
    clear e3 hio
    have hqq := ps_b (g := g) hn
    cases hq : (g.xs.getD n bx0).ms with
    | nil =>
      rw [hq] at hqq
      have e1 : takR g.ps (n : Int) = (ms0, 44) := by unfold takR; rw [ps_bl, if_neg (fun h => h hi), Int.toNat_natCast, hqq]
      have e2 : takS g.ps (n : Int) = g.ps := by
        unfold takS
        rw [ps_bl, if_neg (fun h => h hi), Int.toNat_natCast]
        have : g.ps.b.set n (g.ps.b.getD n []).tail = g.ps.b := by
          conv => rhs; rw [← set_getD_self g.ps.b n []]
          rw [hqq]; rfl
        rw [this]
      rw [e1, e2]
      have HFI := hid (fun (W : World) (hW : Fr w W (fun _ => False)) => RM.take_nil (by have := (h.still hW).box hn; rw [hq] at this; exact this) (takeb_len box g.xs hn))
      obtain ⟨hi1, hi2⟩ := hi
      clear h hq hqq c0 e1 e2
      simp only
      generalize g.xs.length = m at *
      go_enter Try.func18, Try.ntmps18
      go_wp2_with fail
      refine (HIO.out _).mono ?_
      rintro e w1 ⟨rfl, rfl⟩
      go_wp2_with fail
      refine (HFI.out _ ((Fr.refl _ _).alloc _)).mono ?_
      rintro e w1 ⟨rfl, hf⟩
      have HB := hid (keep_block (RI.new_el (w := w) (T := 33) (x := it0) rfl) hf (fun h => h))
      have HF := hid (((Fr.refl w _).alloc _).trans hf)
      have HFP : Hid (∀ (W : World) (y : It), Fr w W (fun _ => False) → Fr w (RI.puts W w.heap.size 0 y) (fun _ => False)) := fun W y h => RI.puts_fr h (fun h => absurd h (Nat.lt_irrefl _)) y
      obtain ⟨d0, d1, d2, d3⟩ := RI.el_cells HB.out
      have hfz := free_of HB.out
      have hxl := lt_of_block HB.out
      clear hf
      unfold vM
      generalize w.heap.size = N at *
      go_wp2_with fail
      have hp := RI.puts_new (y := it0) HB.out it0
      refine bodyPost_ret (resT (x := it0) Try.results18 _ _ rfl (((alloc_fr _ _ (fun _ => False)).block N (lt_of_block hp) (fun h => h)).trans hp)) rfl ⟨rfl, HSM.out _ ?_⟩
      exact (HFP.out _ it0 HF.out).alloc _
    | cons x L =>
      rw [hq] at hqq
      have e1 : takR g.ps (n : Int) = (x, 0) := by unfold takR; rw [ps_bl, if_neg (fun h => h hi), Int.toNat_natCast, hqq]
      have e2 : takS g.ps (n : Int) = ⟨g.ps.q, g.ps.n, g.ps.b.set n L⟩ := by unfold takS; rw [ps_bl, if_neg (fun h => h hi), Int.toNat_natCast, hqq]; rfl
      rw [e1, e2]
      have HFI := hid (fun (W : World) (hW : Fr w W (fun _ => False)) => take_box (h.still hW) hn hq)
      have HOW : Hid (∀ k, g.ow k → k < w.heap.size) := fun k hk => h.lt hk
      obtain ⟨hi1, hi2⟩ := hi
      clear h hq hqq c0 e1 e2 HSM
      simp only
      generalize g.xs.length = m at *
      go_enter Try.func18, Try.ntmps18
      go_wp2_with fail
      refine (HIO.out _).mono ?_
      rintro e w1 ⟨rfl, rfl⟩
      go_wp2_with fail
      refine (HFI.out _ ((Fr.refl _ _).alloc _)).mono ?_
      rintro e w1 ⟨rfl, hA⟩
      have hfA : Fr (w.alloc (.cells (elI it0).toArray 33)) w1 g.ow := by obtain ⟨g', _, _, _, _, h5⟩ := hA; exact h5
      have HB := hid (keep_block (RI.new_el (w := w) (T := 33) (x := it0) rfl) hfA (fun h => absurd (HOW.out _ h) (Nat.lt_irrefl _)))
      have HA : Hid (∀ W, Fr w1 W (fun k => k = w.heap.size) → Aft w W g box ⟨g.ps.q, g.ps.n, g.ps.b.set n L⟩) := fun W hW => hA.box HOW.out hW
      clear hA hfA
      have HFP : Hid (∀ (W : World) (y : It), Fr w1 W (fun k => k = w.heap.size) → Fr w1 (RI.puts W w.heap.size 0 y) (fun k => k = w.heap.size)) := fun W y h => RI.puts_fr h (fun _ => rfl) y
      unfold vM
      generalize w.heap.size = N at *
      go_wp2_with fail
      have hAl := alloc_fr w1 (.cells (elM x).toArray 85) (fun k => k = N)
      have HF2 := hid hAl
      have HB2 := hid (keep_block HB.out (alloc_fr w1 (.cells (elM x).toArray 85) (fun _ => False)) (fun h => h))
      have HM2 : Hid ((w1.alloc (.cells (elM x).toArray 85)).heap[w1.heap.size]? = some (.cells (elM x).toArray 85 (0, 0))) := RM.new_el rfl
      clear hAl HB
      unfold elM at HF2 HB2 HM2
      generalize (w1.alloc (.cells _ 85)) = w2 at *
      generalize w1.heap.size = M at *
      obtain ⟨d0, d1, d2, d3⟩ := RI.el_cells (x := it0) HB2.out
      obtain ⟨x0, x1, x2, x3, x4⟩ := RM.el_cells (x := x) HM2.out
      have hfz := free_of HB2.out
      have hNl := lt_of_block HB2.out
      have hMl := lt_of_block HM2.out
      go_region
      go_wp2_with fail
      have hp := RI.puts_new (y := it0) HB2.out x.x
      refine bodyPost_ret (resT (x := x.x) Try.results18 _ _ rfl hp) rfl ⟨rfl, HA.out _ ?_⟩
      exact (HFP.out _ x.x HF2.out).drew
end Go.Proofs.Ytlgbciibhmcokaa
