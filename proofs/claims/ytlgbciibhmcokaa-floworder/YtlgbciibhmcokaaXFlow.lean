/- A flow that was made behind a world: its calls. -/
import Derived.Test.YtlgbciibhmcokaaXNew
namespace Go.Proofs.Ytlgbciibhmcokaa
open Go.RowKit

/-- A flow at block B whose blocks (O) lie behind the world w. -/
structure FlO (w W : World) (B box : Nat) (s : Ps) (O : Nat → Prop) : Prop where
  ex : ∃ g, g.B = B ∧ Fw W g box ∧ g.ps = s ∧ O = g.ow
  lo : ∀ k, O k → w.heap.size ≤ k
  fr : Fr w W (fun _ => False)
theorem FlO.lt {w W : World} {B box : Nat} {s : Ps} {O : Nat → Prop} (h : FlO w W B box s O) {k : Nat} (hk : O k) : k < W.heap.size := by
  obtain ⟨g, _, h2, _, rfl⟩ := h.ex
  exact h2.lt hk
theorem FlO.step {w W W' : World} {S : Nat → Prop} {B box : Nat} {s : Ps} {O : Nat → Prop} (h : FlO w W B box s O) (hf : Fr W W' S) (hS : ∀ k, O k → ¬ S k) (hw : ∀ k, S k → w.heap.size ≤ k) : FlO w W' B box s O := by
  obtain ⟨g, h1, h2, h3, rfl⟩ := h.ex
  exact ⟨⟨g, h1, h2.step hf hS, h3, rfl⟩, h.lo, h.fr.trans2 hf (fun k hk e => by have := hw k e; omega)⟩
theorem FlO.still {w W W' : World} {B box : Nat} {s : Ps} {O : Nat → Prop} (h : FlO w W B box s O) (hf : Fr W W' (fun _ => False)) : FlO w W' B box s O := h.step hf (fun _ _ h => h) (fun _ h => h.elim)
/-- What a call leaves. -/
def FlA (w W w' : World) (B box : Nat) (s : Ps) (O : Nat → Prop) : Prop := ∃ O', FlO w w' B box s O' ∧ Gr W O O' ∧ Fr W w' O
theorem FlO.aft {w W w' : World} {g : Fx} {box : Nat} {s s' : Ps} (h : FlO w W g.B box s g.ow) (ha : Aft W w' g box s') : FlA w W w' g.B box s' g.ow := by
  obtain ⟨g', h1, h2, h3, h4, h5⟩ := ha
  have hs := h.fr.size
  refine ⟨g'.ow, ⟨⟨g', h1, h2, h3, rfl⟩, fun k hk => ?_, h.fr.trans2 h5 (fun k hk e => by have := h.lo k e; omega)⟩, h4, h5⟩
  rcases h4 k hk with h' | h'
  · exact h.lo k h'
  · omega
theorem FlO.put {w W : World} {B box : Nat} {s : Ps} {O : Nat → Prop} (h : FlO w W B box s O) (i : Int) (x : It) : Calls Try.prog 16 #[.pointer (some ⟨B, 0, none⟩), .int .i64 i, vI x] W fun e w' => e = .returned (.int .i64 (putE s i x)) ∧ FlA w W w' B box (putS s i x) O := by
  obtain ⟨g, rfl, h2, rfl, rfl⟩ := h.ex
  exact (put_any h2 i x).mono fun e w' ⟨he, ha⟩ => ⟨he, h.aft ha⟩
theorem FlO.pass {w W : World} {B box : Nat} {s : Ps} {O : Nat → Prop} (h : FlO w W B box s O) (i : Int) : Calls Try.prog 17 #[.pointer (some ⟨B, 0, none⟩), .int .i64 i] W fun e w' => e = .returned (.tuple #[.int .i64 ((pasR s box i).1 : Int), .int .i64 (pasR s box i).2]) ∧ FlA w W w' B box (pasS s box i) O := by
  obtain ⟨g, rfl, h2, rfl, rfl⟩ := h.ex
  exact (fpass_any h2 i).mono fun e w' ⟨he, ha⟩ => ⟨he, h.aft ha⟩
theorem FlO.take {w W : World} {B box : Nat} {s : Ps} {O : Nat → Prop} (h : FlO w W B box s O) (i : Int) : Calls Try.prog 18 #[.pointer (some ⟨B, 0, none⟩), .int .i64 i] W fun e w' => e = .returned (.tuple #[.int .i64 (takR s i).1.s, vI (takR s i).1.x, .int .i64 (takR s i).2]) ∧ FlA w W w' B box (takS s i) O := by
  obtain ⟨g, rfl, h2, rfl, rfl⟩ := h.ex
  exact (ftake_any h2 i).mono fun e w' ⟨he, ha⟩ => ⟨he, h.aft ha⟩
theorem FlO.toward {w W : World} {B box : Nat} {s : Ps} {O : Nat → Prop} (h : FlO w W B box s O) (i : Int) : Calls Try.prog 22 #[.pointer (some ⟨B, 0, none⟩), .int .i64 i] W fun e w' => e = .returned (.tuple #[.int .i64 ((firR s i).1 : Int), .int .i64 (firR s i).2.2]) ∧ Fr W w' (fun _ => False) := by
  obtain ⟨g, rfl, h2, rfl, rfl⟩ := h.ex
  exact toward_any h2 i
theorem FlO.route {w W : World} {B box : Nat} {s : Ps} {O : Nat → Prop} (h : FlO w W B box s O) (k : ByteArray) (hk : k.size ≤ 9223372036854775807) : Calls Try.prog 13 #[.pointer (some ⟨B, 0, none⟩), .string k] W fun e w' => e = .returned (.int .i64 (rtF s.b.length k : Int)) ∧ Fr W w' (fun _ => False) := by
  obtain ⟨g, rfl, h2, rfl, rfl⟩ := h.ex
  rw [ps_bl]
  exact route_any k h2 hk
theorem FlO.queued {w W : World} {B box : Nat} {s : Ps} {O : Nat → Prop} (h : FlO w W B box s O) (i : Int) : Calls Try.prog 21 #[.pointer (some ⟨B, 0, none⟩), .int .i64 i] W fun e w' => e = .returned (.int .i64 (lenAt i s.q : Int)) ∧ Fr W w' (fun _ => False) := by
  obtain ⟨g, rfl, h2, rfl, rfl⟩ := h.ex
  exact queued_any h2 i
theorem FlO.boxed {w W : World} {B box : Nat} {s : Ps} {O : Nat → Prop} (h : FlO w W B box s O) (i : Int) : Calls Try.prog 23 #[.pointer (some ⟨B, 0, none⟩), .int .i64 i] W fun e w' => e = .returned (.int .i64 (lenAt i s.b : Int)) ∧ Fr W w' (fun _ => False) := by
  obtain ⟨g, rfl, h2, rfl, rfl⟩ := h.ex
  exact boxed_any h2 i
theorem FlO.empty {w W : World} {B box : Nat} {s : Ps} {O : Nat → Prop} (h : FlO w W B box s O) : Calls Try.prog 19 #[.pointer (some ⟨B, 0, none⟩)] W fun e w' => e = .returned (.bool (empB s)) ∧ Fr W w' (fun _ => False) := by
  obtain ⟨g, rfl, h2, rfl, rfl⟩ := h.ex
  exact empty_any h2
/-- The pure state's shape. -/
structure Wf (s : Ps) (box : Nat) : Prop where
  nf : 1 ≤ s.q.length ∧ s.q.length ≤ 8
  nn : s.n.length = s.q.length
  nb : 1 ≤ s.b.length ∧ s.b.length ≤ 8
  bx : 1 ≤ box ∧ box ≤ 64
  q : ∀ i, i < s.q.length → (s.q.getD i []).length ≤ 65536 ∧ s.n.getD i 0 < s.b.length ∧ ∀ x ∈ s.q.getD i [], errC x = 0
  b : ∀ j, j < s.b.length → (s.b.getD j []).length ≤ box
theorem FlO.wf {w W : World} {B box : Nat} {s : Ps} {O : Nat → Prop} (h : FlO w W B box s O) : Wf s box := by
  obtain ⟨g, rfl, h2, rfl, rfl⟩ := h.ex
  refine ⟨by rw [ps_ql]; exact h2.nf, by rw [ps_nl, ps_ql], by rw [ps_bl]; exact h2.nb, h2.bx, fun i hi => ?_, fun j hj => ?_⟩
  · rw [ps_ql] at hi
    rw [ps_q hi, ps_n hi, ps_bl]
    exact (h2.fr i hi).2
  · rw [ps_bl] at hj
    rw [ps_b hj]
    exact (h2.br j hj).2
/-- A flow that is alone. -/
def FlI (w W : World) (B box : Nat) (s : Ps) : Prop := ∃ O, FlO w W B box s O
theorem FlI.still {w W W' : World} {B box : Nat} {s : Ps} (h : FlI w W B box s) (hf : Fr W W' (fun _ => False)) : FlI w W' B box s := by
  obtain ⟨O, h⟩ := h
  exact ⟨O, h.still hf⟩
theorem FlI.drew {w W : World} {B box : Nat} {s : Ps} (h : FlI w W B box s) : FlI w W.drew B box s := h.still (Fr.refl _ _).drew
theorem FlI.fr {w W : World} {B box : Nat} {s : Ps} (h : FlI w W B box s) : Fr w W (fun _ => False) := by
  obtain ⟨O, h⟩ := h
  exact h.fr
theorem FlI.wf {w W : World} {B box : Nat} {s : Ps} (h : FlI w W B box s) : Wf s box := by
  obtain ⟨O, h⟩ := h
  exact h.wf
theorem FlA.fli {w W w' : World} {B box : Nat} {s : Ps} {O : Nat → Prop} (h : FlA w W w' B box s O) : FlI w w' B box s := by
  obtain ⟨O', h1, _, _⟩ := h
  exact ⟨O', h1⟩
theorem FlI.put {w W : World} {B box : Nat} {s : Ps} (h : FlI w W B box s) (i : Int) (x : It) : Calls Try.prog 16 #[.pointer (some ⟨B, 0, none⟩), .int .i64 i, vI x] W fun e w' => e = .returned (.int .i64 (putE s i x)) ∧ FlI w w' B box (putS s i x) := by
  obtain ⟨O, h⟩ := h
  exact (h.put i x).mono fun e w' ⟨he, ha⟩ => ⟨he, ha.fli⟩
theorem FlI.pass {w W : World} {B box : Nat} {s : Ps} (h : FlI w W B box s) (i : Int) : Calls Try.prog 17 #[.pointer (some ⟨B, 0, none⟩), .int .i64 i] W fun e w' => e = .returned (.tuple #[.int .i64 ((pasR s box i).1 : Int), .int .i64 (pasR s box i).2]) ∧ FlI w w' B box (pasS s box i) := by
  obtain ⟨O, h⟩ := h
  exact (h.pass i).mono fun e w' ⟨he, ha⟩ => ⟨he, ha.fli⟩
theorem FlI.take {w W : World} {B box : Nat} {s : Ps} (h : FlI w W B box s) (i : Int) : Calls Try.prog 18 #[.pointer (some ⟨B, 0, none⟩), .int .i64 i] W fun e w' => e = .returned (.tuple #[.int .i64 (takR s i).1.s, vI (takR s i).1.x, .int .i64 (takR s i).2]) ∧ FlI w w' B box (takS s i) := by
  obtain ⟨O, h⟩ := h
  exact (h.take i).mono fun e w' ⟨he, ha⟩ => ⟨he, ha.fli⟩
theorem FlI.toward {w W : World} {B box : Nat} {s : Ps} (h : FlI w W B box s) (i : Int) : Calls Try.prog 22 #[.pointer (some ⟨B, 0, none⟩), .int .i64 i] W fun e w' => e = .returned (.tuple #[.int .i64 ((firR s i).1 : Int), .int .i64 (firR s i).2.2]) ∧ FlI w w' B box s := by
  obtain ⟨O, h⟩ := h
  exact (h.toward i).mono fun e w' ⟨he, ha⟩ => ⟨he, O, h.still ha⟩
theorem FlI.route {w W : World} {B box : Nat} {s : Ps} (h : FlI w W B box s) (k : ByteArray) (hk : k.size ≤ 9223372036854775807) : Calls Try.prog 13 #[.pointer (some ⟨B, 0, none⟩), .string k] W fun e w' => e = .returned (.int .i64 (rtF s.b.length k : Int)) ∧ FlI w w' B box s := by
  obtain ⟨O, h⟩ := h
  exact (h.route k hk).mono fun e w' ⟨he, ha⟩ => ⟨he, O, h.still ha⟩
theorem FlI.queued {w W : World} {B box : Nat} {s : Ps} (h : FlI w W B box s) (i : Int) : Calls Try.prog 21 #[.pointer (some ⟨B, 0, none⟩), .int .i64 i] W fun e w' => e = .returned (.int .i64 (lenAt i s.q : Int)) ∧ FlI w w' B box s := by
  obtain ⟨O, h⟩ := h
  exact (h.queued i).mono fun e w' ⟨he, ha⟩ => ⟨he, O, h.still ha⟩
theorem FlI.boxed {w W : World} {B box : Nat} {s : Ps} (h : FlI w W B box s) (i : Int) : Calls Try.prog 23 #[.pointer (some ⟨B, 0, none⟩), .int .i64 i] W fun e w' => e = .returned (.int .i64 (lenAt i s.b : Int)) ∧ FlI w w' B box s := by
  obtain ⟨O, h⟩ := h
  exact (h.boxed i).mono fun e w' ⟨he, ha⟩ => ⟨he, O, h.still ha⟩
theorem FlI.empty {w W : World} {B box : Nat} {s : Ps} (h : FlI w W B box s) : Calls Try.prog 19 #[.pointer (some ⟨B, 0, none⟩)] W fun e w' => e = .returned (.bool (empB s)) ∧ FlI w w' B box s := by
  obtain ⟨O, h⟩ := h
  exact h.empty.mono fun e w' ⟨he, ha⟩ => ⟨he, O, h.still ha⟩
/-- New, behind a world of before. -/
theorem fnew_i {w0 : World} {ns no box : Nat} (w : World) (h1 : 1 ≤ ns ∧ ns ≤ 8) (h2 : 1 ≤ no ∧ no ≤ 8) (h3 : 1 ≤ box ∧ box ≤ 64) (hw : Fr w0 w (fun _ => False)) : Calls Try.prog 9 #[.int .i64 (ns : Int), .int .i64 (no : Int), .int .i64 (box : Int)] w fun e w' => ∃ B, e = .returned (.tuple #[.pointer (some ⟨B, 0, none⟩), .int .i64 0]) ∧ ∃ O, FlO w0 w' B box (newP ns no) O ∧ (∀ k, O k → w.heap.size ≤ k) ∧ Fr w w' (fun _ => False) := by
  refine (fnew_ok w h1 h2 h3).mono ?_
  rintro e w' ⟨g, rfl, h4, h5, h6, h7⟩
  have hs := hw.size
  exact ⟨g.B, rfl, g.ow, ⟨⟨g, rfl, h4, h5, rfl⟩, fun k hk => by have := h6 k hk; omega, hw.trans h7⟩, h6, h7⟩
end Go.Proofs.Ytlgbciibhmcokaa
