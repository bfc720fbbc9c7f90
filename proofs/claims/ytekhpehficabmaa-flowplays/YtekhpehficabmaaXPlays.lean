/- FlowPlays: sizes, told, the walk. -/
import Derived.Test.YtekhpehficabmaaXRef4P
import Derived.Test.YtekhpehficabmaaXRef6
import Derived.Test.YtekhpehficabmaaXArgs
namespace Go.Proofs.Ytekhpehficabmaa
open Go.RowKit

/-- Both flows, apart, and blocks beside them. -/
def PL (w W : World) (B R box : Nat) (s t : Ps) (P : List (Nat × Obj)) : Prop :=
  ∃ O g, FlO w W B box s O ∧ RF w.heap.size W g box t ∧ g.R = R ∧ (∀ k, O k → ¬ g.ow k) ∧ (∀ k, g.ow k → w.heap.size ≤ k) ∧ ∀ p ∈ P, W.heap[p.1]? = some p.2 ∧ ¬ O p.1 ∧ ¬ g.ow p.1
theorem PL.fr {w W : World} {B R box : Nat} {s t : Ps} {P : List (Nat × Obj)} (h : PL w W B R box s t P) : Fr w W (fun _ => False) := by
  obtain ⟨O, g, h1, _⟩ := h
  exact h1.fr
theorem PL.wf {w W : World} {B R box : Nat} {s t : Ps} {P : List (Nat × Obj)} (h : PL w W B R box s t P) : Wf s box := by
  obtain ⟨O, g, h1, _⟩ := h
  exact h1.wf
theorem PL.still {w W W' : World} {B R box : Nat} {s t : Ps} {P : List (Nat × Obj)} (h : PL w W B R box s t P) (hf : Fr W W' (fun _ => False)) : PL w W' B R box s t P := by
  obtain ⟨O, g, h1, h2, h3, h4, h5, h6⟩ := h
  exact ⟨O, g, h1.still hf, h2.still hf, h3, h4, h5, fun p hp => ⟨keep_block (h6 p hp).1 hf (fun h => h), (h6 p hp).2⟩⟩
theorem PL.drew {w W : World} {B R box : Nat} {s t : Ps} {P : List (Nat × Obj)} (h : PL w W B R box s t P) : PL w W.drew B R box s t P := h.still (Fr.refl _ _).drew
theorem PL.forget {w W : World} {B R box : Nat} {s t : Ps} {P : List (Nat × Obj)} (h : PL w W B R box s t P) : PL w W B R box s t [] := by
  obtain ⟨O, g, h1, h2, h3, h4, h5, h6⟩ := h
  exact ⟨O, g, h1, h2, h3, h4, h5, fun p hp => by cases hp⟩
theorem PL.beside {w W : World} {B R box : Nat} {s t : Ps} {P : List (Nat × Obj)} (h : PL w W B R box s t P) (o : Obj) : PL w (W.alloc o) B R box s t ((W.heap.size, o) :: P) := by
  obtain ⟨O, g, h1, h2, h3, h4, h5, h6⟩ := h.still (alloc_fr W o _)
  obtain ⟨O0, g0, k1, k2, k3, k4, k5, k6⟩ := h
  refine ⟨O0, g0, k1.still (alloc_fr W o _), k2.still (alloc_fr W o _), k3, k4, k5, fun p hp => ?_⟩
  rcases List.mem_cons.1 hp with rfl | hp
  · exact ⟨heap_last _ _ _ rfl, fun hk => absurd (k1.lt hk) (Nat.lt_irrefl _), fun hk => absurd (k2.lt hk) (Nat.lt_irrefl _)⟩
  · exact ⟨keep_block (k6 p hp).1 (alloc_fr W o (fun _ => False)) (fun h => h), (k6 p hp).2⟩
theorem PL.fl {w W w' : World} {B R box : Nat} {s' t : Ps} {P : List (Nat × Obj)} {O : Nat → Prop} {g : RX} (h : FlA w W w' B box s' O) (h2 : RF w.heap.size W g box t) (h3 : g.R = R) (h4 : ∀ k, O k → ¬ g.ow k) (h5 : ∀ k, g.ow k → w.heap.size ≤ k) (h6 : ∀ p ∈ P, W.heap[p.1]? = some p.2 ∧ ¬ O p.1 ∧ ¬ g.ow p.1) : PL w w' B R box s' t P := by
  obtain ⟨O', k1, k2, k3⟩ := h
  refine ⟨O', g, k1, h2.step k3 (fun k hk ho => h4 k ho hk), h3, fun k hk hg => ?_, h5, fun p hp => ⟨keep_block (h6 p hp).1 k3 (h6 p hp).2.1, fun hk => ?_, (h6 p hp).2.2⟩⟩
  · rcases k2 k hk with h | h
    · exact h4 k h hg
    · have := h2.lt hg; omega
  · rcases k2 p.1 hk with h | h
    · exact (h6 p hp).2.1 h
    · have := lt_of_block (h6 p hp).1; omega
theorem PL.rf {w W w' : World} {B R box : Nat} {s t' : Ps} {P : List (Nat × Obj)} {O : Nat → Prop} {g : RX} (h : RA w.heap.size W w' g box t') (h1 : FlO w W B box s O) (h3 : g.R = R) (h4 : ∀ k, O k → ¬ g.ow k) (h5 : ∀ k, g.ow k → w.heap.size ≤ k) (h6 : ∀ p ∈ P, W.heap[p.1]? = some p.2 ∧ ¬ O p.1 ∧ ¬ g.ow p.1) : PL w w' B R box s t' P := by
  obtain ⟨g', k1, k2, k3, k4⟩ := h
  have hs := h1.fr.size
  refine ⟨O, g', h1.step k4 (fun k ho hg => h4 k ho hg) h5, k2, k1.trans h3, fun k ho hg => ?_, fun k hg => ?_, fun p hp => ⟨keep_block (h6 p hp).1 k4 (h6 p hp).2.2, (h6 p hp).2.1, fun hk => ?_⟩⟩
  · rcases k3 k hg with h | h
    · exact h4 k ho h
    · have := h1.lt ho; omega
  · rcases k3 k hg with h | h
    · exact h5 k h
    · omega
  · rcases k3 p.1 hk with h | h
    · exact (h6 p hp).2.2 h
    · have := lt_of_block (h6 p hp).1; omega
theorem PL.fput {w W : World} {B R box : Nat} {s t : Ps} {P : List (Nat × Obj)} (h : PL w W B R box s t P) (i : Int) (x : It) : Calls Try.prog 16 #[.pointer (some ⟨B, 0, none⟩), .int .i64 i, vI x] W fun e w' => e = .returned (.int .i64 (putE s i x)) ∧ PL w w' B R box (putS s i x) t P := by
  obtain ⟨O, g, h1, h2, h3, h4, h5, h6⟩ := h
  exact (h1.put i x).mono fun e w' ⟨he, ha⟩ => ⟨he, PL.fl ha h2 h3 h4 h5 h6⟩
theorem PL.fpass {w W : World} {B R box : Nat} {s t : Ps} {P : List (Nat × Obj)} (h : PL w W B R box s t P) (i : Int) : Calls Try.prog 17 #[.pointer (some ⟨B, 0, none⟩), .int .i64 i] W fun e w' => e = .returned (.tuple #[.int .i64 ((pasR s box i).1 : Int), .int .i64 (pasR s box i).2]) ∧ PL w w' B R box (pasS s box i) t P := by
  obtain ⟨O, g, h1, h2, h3, h4, h5, h6⟩ := h
  exact (h1.pass i).mono fun e w' ⟨he, ha⟩ => ⟨he, PL.fl ha h2 h3 h4 h5 h6⟩
theorem PL.ftake {w W : World} {B R box : Nat} {s t : Ps} {P : List (Nat × Obj)} (h : PL w W B R box s t P) (i : Int) : Calls Try.prog 18 #[.pointer (some ⟨B, 0, none⟩), .int .i64 i] W fun e w' => e = .returned (.tuple #[.int .i64 (takR s i).1.s, vI (takR s i).1.x, .int .i64 (takR s i).2]) ∧ PL w w' B R box (takS s i) t P := by
  obtain ⟨O, g, h1, h2, h3, h4, h5, h6⟩ := h
  exact (h1.take i).mono fun e w' ⟨he, ha⟩ => ⟨he, PL.fl ha h2 h3 h4 h5 h6⟩
theorem PL.ftoward {w W : World} {B R box : Nat} {s t : Ps} {P : List (Nat × Obj)} (h : PL w W B R box s t P) (i : Int) : Calls Try.prog 22 #[.pointer (some ⟨B, 0, none⟩), .int .i64 i] W fun e w' => e = .returned (.tuple #[.int .i64 ((firR s i).1 : Int), .int .i64 (firR s i).2.2]) ∧ PL w w' B R box s t P := by
  have h' := h
  obtain ⟨O, g, h1, h2, h3, h4, h5, h6⟩ := h
  exact (h1.toward i).mono fun e w' ⟨he, ha⟩ => ⟨he, h'.still ha⟩
theorem PL.fqueued {w W : World} {B R box : Nat} {s t : Ps} {P : List (Nat × Obj)} (h : PL w W B R box s t P) (i : Int) : Calls Try.prog 21 #[.pointer (some ⟨B, 0, none⟩), .int .i64 i] W fun e w' => e = .returned (.int .i64 (lenAt i s.q : Int)) ∧ PL w w' B R box s t P := by
  have h' := h
  obtain ⟨O, g, h1, h2, h3, h4, h5, h6⟩ := h
  exact (h1.queued i).mono fun e w' ⟨he, ha⟩ => ⟨he, h'.still ha⟩
theorem PL.fboxed {w W : World} {B R box : Nat} {s t : Ps} {P : List (Nat × Obj)} (h : PL w W B R box s t P) (i : Int) : Calls Try.prog 23 #[.pointer (some ⟨B, 0, none⟩), .int .i64 i] W fun e w' => e = .returned (.int .i64 (lenAt i s.b : Int)) ∧ PL w w' B R box s t P := by
  have h' := h
  obtain ⟨O, g, h1, h2, h3, h4, h5, h6⟩ := h
  exact (h1.boxed i).mono fun e w' ⟨he, ha⟩ => ⟨he, h'.still ha⟩
theorem PL.fempty {w W : World} {B R box : Nat} {s t : Ps} {P : List (Nat × Obj)} (h : PL w W B R box s t P) : Calls Try.prog 19 #[.pointer (some ⟨B, 0, none⟩)] W fun e w' => e = .returned (.bool (empB s)) ∧ PL w w' B R box s t P := by
  have h' := h
  obtain ⟨O, g, h1, h2, h3, h4, h5, h6⟩ := h
  exact h1.empty.mono fun e w' ⟨he, ha⟩ => ⟨he, h'.still ha⟩
theorem PL.rput {w W : World} {B R box : Nat} {s t : Ps} {P : List (Nat × Obj)} (h : PL w W B R box s t P) (hw : Wf t box) (i : Int) (x : It) : Calls Try.prog 25 #[.pointer (some ⟨R, 0, none⟩), .int .i64 i, vI x] W fun e w' => e = .returned (.int .i64 (putE t i x)) ∧ PL w w' B R box s (putS t i x) P := by
  obtain ⟨O, g, h1, h2, rfl, h4, h5, h6⟩ := h
  exact (rput_any h2 h1.fr.size hw i x).mono fun e w' ⟨he, ha⟩ => ⟨he, PL.rf ha h1 rfl h4 h5 h6⟩
theorem PL.rpass {w W : World} {B R box : Nat} {s t : Ps} {P : List (Nat × Obj)} (h : PL w W B R box s t P) (hw : Wf t box) (hv : Inv t) (i : Int) : Calls Try.prog 26 #[.pointer (some ⟨R, 0, none⟩), .int .i64 i] W fun e w' => e = .returned (.tuple #[.int .i64 ((pasR t box i).1 : Int), .int .i64 (pasR t box i).2]) ∧ PL w w' B R box s (pasS t box i) P := by
  obtain ⟨O, g, h1, h2, rfl, h4, h5, h6⟩ := h
  exact (rpass_any h2 h1.fr.size hw hv i).mono fun e w' ⟨he, ha⟩ => ⟨he, PL.rf ha h1 rfl h4 h5 h6⟩
theorem PL.rtake {w W : World} {B R box : Nat} {s t : Ps} {P : List (Nat × Obj)} (h : PL w W B R box s t P) (hw : Wf t box) (i : Int) : Calls Try.prog 27 #[.pointer (some ⟨R, 0, none⟩), .int .i64 i] W fun e w' => e = .returned (.tuple #[.int .i64 (takR t i).1.s, vI (takR t i).1.x, .int .i64 (takR t i).2]) ∧ PL w w' B R box s (takS t i) P := by
  obtain ⟨O, g, h1, h2, rfl, h4, h5, h6⟩ := h
  exact (rtake_any h2 h1.fr.size hw i).mono fun e w' ⟨he, ha⟩ => ⟨he, PL.rf ha h1 rfl h4 h5 h6⟩
theorem PL.rtoward {w W : World} {B R box : Nat} {s t : Ps} {P : List (Nat × Obj)} (h : PL w W B R box s t P) (hw : Wf t box) (i : Int) : Calls Try.prog 28 #[.pointer (some ⟨R, 0, none⟩), .int .i64 i] W fun e w' => e = .returned (.tuple #[.int .i64 ((firR t i).1 : Int), .int .i64 (firR t i).2.2]) ∧ PL w w' B R box s t P := by
  have h' := h
  obtain ⟨O, g, h1, h2, rfl, h4, h5, h6⟩ := h
  exact (rtoward_any h2 hw i).mono fun e w' ⟨he, ha⟩ => ⟨he, h'.still ha⟩
theorem PL.rqueued {w W : World} {B R box : Nat} {s t : Ps} {P : List (Nat × Obj)} (h : PL w W B R box s t P) (i : Int) : Calls Try.prog 29 #[.pointer (some ⟨R, 0, none⟩), .int .i64 i] W fun e w' => e = .returned (.int .i64 (lenAt i t.q : Int)) ∧ PL w w' B R box s t P := by
  have h' := h
  obtain ⟨O, g, h1, h2, rfl, h4, h5, h6⟩ := h
  exact (rqueued_any h2 i).mono fun e w' ⟨he, ha⟩ => ⟨he, by rw [ha]; exact h'⟩
theorem PL.rboxed {w W : World} {B R box : Nat} {s t : Ps} {P : List (Nat × Obj)} (h : PL w W B R box s t P) (i : Int) : Calls Try.prog 30 #[.pointer (some ⟨R, 0, none⟩), .int .i64 i] W fun e w' => e = .returned (.int .i64 (lenAt i t.b : Int)) ∧ PL w w' B R box s t P := by
  have h' := h
  obtain ⟨O, g, h1, h2, rfl, h4, h5, h6⟩ := h
  exact (rboxed_any h2 i).mono fun e w' ⟨he, ha⟩ => ⟨he, by rw [ha]; exact h'⟩
theorem PL.rempty {w W : World} {B R box : Nat} {s t : Ps} {P : List (Nat × Obj)} (h : PL w W B R box s t P) (hw : Wf t box) : Calls Try.prog 31 #[.pointer (some ⟨R, 0, none⟩)] W fun e w' => e = .returned (.bool (empB t)) ∧ PL w w' B R box s t P := by
  have h' := h
  obtain ⟨O, g, h1, h2, rfl, h4, h5, h6⟩ := h
  exact (rempty_any h2 hw).mono fun e w' ⟨he, ha⟩ => ⟨he, by rw [ha]; exact h'⟩
set_option maxHeartbeats 4000000 in
theorem sizes_any {w W : World} {B R box : Nat} {s : Ps} (h : PL w W B R box s s []) : Calls Try.prog 12 #[.pointer (some ⟨B, 0, none⟩), .pointer (some ⟨R, 0, none⟩)] W fun e w' => e = .returned (.bool true) ∧ PL w w' B R box s s [] := by
  have HP := hid h
  have HWF := hid h.wf
  clear h
  go_enter Try.func12, Try.ntmps12
  go_wp2_with fail
  go_loopg [5] 11 (fun q s5 wx => ∃ i : Int, s5 = .int .i64 i ∧ Hid (i + (q : Int) = 10 ∧ -1 ≤ i) ∧ Hid (PL w wx B R box s s []))
  case atStart => exact ⟨-1, rfl, ⟨by omega, by omega⟩, HP⟩
  case round =>
    obtain ⟨i, rfl, HG, H1⟩ := hrel
    clear HP
    cases gk with
    | succ q =>
      have t1 : i ≤ 9 := by have := HG.out; omega
      have t0 : -1 ≤ i := HG.out.2
      have H2 := hid (H1.out.fqueued i)
      have HQ := hid (fun (X : World) (h : PL w X B R box s s []) => h.rqueued i)
      have HB := hid (fun (X : World) (h : PL w X B R box s s []) => h.fboxed i)
      have HC := hid (fun (X : World) (h : PL w X B R box s s []) => h.rboxed i)
      clear H1
      generalize lenAt i s.q = lq at *
      generalize lenAt i s.b = lb at *
      go_wp2_with fail
      refine H2.out.mono ?_
      rintro e w1 ⟨rfl, h1⟩
      have H3 := hid h1
      clear h1
      go_wp2_with fail
      refine (HQ.out _ H3.out).mono ?_
      rintro e w2 ⟨rfl, h1⟩
      have H4 := hid h1
      clear h1 H3
      go_wp2_with fail
      refine (HB.out _ H4.out).mono ?_
      rintro e w3 ⟨rfl, h1⟩
      have H5 := hid h1
      clear h1 H4
      go_wp2_with fail
      refine (HC.out _ H5.out).mono ?_
      rintro e w4 ⟨rfl, h1⟩
      have H6 := hid h1
      clear h1 H5
      go_wp2_with fail
      go_roundg q
      case measure => omega
      case rel => exact ⟨i + 1, by go_num, by have := HG.out; exact ⟨by omega, by omega⟩, H6⟩
    | zero =>
      have t1 : ¬ i ≤ 9 := by have := HG.out; omega
      have HE := hid (H1.out.fempty)
      have HE2 := hid (fun (X : World) (h : PL w X B R box s s []) => h.rempty HWF.out)
      clear H1
      generalize empB s = em at *
      go_wp2_with fail
      refine HE.out.mono ?_
      rintro e w1 ⟨rfl, h1⟩
      have H3 := hid h1
      clear h1
      go_wp2_with fail
      refine (HE2.out _ H3.out).mono ?_
      rintro e w2 ⟨rfl, h1⟩
      have H4 := hid h1
      clear h1 H3
      go_wp2_with fail
      go_ret
      exact ⟨by simp, H4.out⟩
end Go.Proofs.Ytekhpehficabmaa
