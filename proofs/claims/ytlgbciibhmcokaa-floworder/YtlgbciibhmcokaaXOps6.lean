/- flow: Empty, New: walks. -/
import Derived.Test.YtlgbciibhmcokaaXOps5
import Derived.Laws.AppendOwnNone
namespace Go.Proofs.Ytlgbciibhmcokaa
open Go.RowKit

/-- How many there are in the first lists. -/
def sumL {α : Type} (l : List (List α)) (i : Nat) : Nat := ((l.take i).map List.length).sum
theorem sumL_step {α : Type} (l : List (List α)) {i : Nat} (hi : i < l.length) : sumL l (i + 1) = sumL l i + (l.getD i []).length := by
  unfold sumL
  have e : l.getD i [] = l[i] := by simp [List.getD, hi]
  rw [List.take_succ_eq_append_getElem hi, List.map_append, List.sum_append, e]
  simp
theorem sumL_le {α : Type} (l : List (List α)) {m : Nat} (h : ∀ i, i < l.length → (l.getD i []).length ≤ m) : ∀ i, i ≤ l.length → sumL l i ≤ i * m := by
  intro i
  induction i with
  | zero => intro _; simp [sumL]
  | succ i ih =>
    intro hi
    rw [sumL_step l (by omega), Nat.succ_mul]
    have := ih (by omega)
    have := h i (by omega)
    omega
/-- Empty. -/
def empB (s : Ps) : Bool := decide (sumL s.q s.q.length + sumL s.b s.b.length = 0)
theorem lenAt_nat {α : Type} {i : Nat} {l : List (List α)} (h : i < l.length) : lenAt (i : Int) l = (l.getD i []).length := by
  unfold lenAt
  rw [if_pos (by omega), Int.toNat_natCast]
set_option maxHeartbeats 2000000 in
theorem empty_any {w : World} {g : Fx} {box : Nat} (h : Fw w g box) : Calls Try.prog 19 #[.pointer (some ⟨g.B, 0, none⟩)] w fun e w' => e = .returned (.bool (empB g.ps)) ∧ Fr w w' (fun _ => False) := by
  have HH := hid h
  obtain ⟨c0, c1, hlt⟩ := h.cells
  have HQL := hid (ps_ql g)
  have HBL := hid (ps_bl g)
  have HSQ : Hid (∀ i, i ≤ g.fs.length → sumL g.ps.q i ≤ i * 65536) := fun i hi => sumL_le g.ps.q (fun i hi => by
    rw [ps_ql] at hi
    rw [ps_q hi]; exact (h.fr i hi).2.1) i (by rw [ps_ql]; exact hi)
  have HSB : Hid (∀ i, i ≤ g.xs.length → sumL g.ps.b i ≤ i * 64) := fun i hi => sumL_le g.ps.b (fun i hi => by
    rw [ps_bl] at hi
    rw [ps_b hi]; have := (h.br i hi).2; have := h.bx.2; omega) i (by rw [ps_bl]; exact hi)
  have HN8 : Hid (g.fs.length ≤ 8 ∧ g.xs.length ≤ 8) := ⟨h.nf.2, h.nb.2⟩
  have hf8 : g.fs.length ≤ 8 := h.nf.2
  have hx8 : g.xs.length ≤ 8 := h.nb.2
  have HE0 : Hid (sumL g.ps.q 0 = 0 ∧ sumL g.ps.b 0 = 0) := ⟨rfl, rfl⟩
  have HEM : Hid (∀ n : Nat, n = sumL g.ps.q g.fs.length + sumL g.ps.b g.xs.length → empB g.ps = ((n : Int) == 0)) := fun n hn => by
    unfold empB
    rw [ps_ql, ps_bl, ← hn]
    cases n with
    | zero => rfl
    | succ n =>
      rw [decide_eq_false (by omega)]
      symm
      simp
      omega
  clear h
  go_enter Try.func19, Try.ntmps19
  go_wp2_with fail
  go_loopg [3, 4, 11] g.fs.length (fun q s3 s4 s11 wx => ∃ (i a : Nat), s11 = .int .i64 (i : Int) ∧ s3 = .int .i64 (a : Int) ∧ Hid (i + q = g.fs.length) ∧ Hid (a = sumL g.ps.q i) ∧ Hid (Fr w wx (fun _ => False)))
  case atStart => exact ⟨0, 0, rfl, rfl, by show _ = _; omega, HE0.out.1.symm, Fr.refl _ _⟩
  case round =>
    obtain ⟨i, a, rfl, rfl, HG, HA, HF⟩ := hrel
    clear c0 c1 hlt
    obtain ⟨c0, c1, hlt⟩ := (HH.out.still HF.out).cells
    cases gk with
    | succ q =>
      have hi : i < g.fs.length := by have := HG.out; omega
      have t1 : (i : Int) < (g.fs.length : Int) := by omega
      have HC := hid (queued_any (HH.out.still HF.out) (i : Int))
      rw [lenAt_nat (by rw [HQL.out]; exact hi)] at HC
      have HA1 : Hid (a + (g.ps.q.getD i []).length = sumL g.ps.q (i + 1)) := by show _ = _; rw [sumL_step _ (by rw [HQL.out]; exact hi), HA.out]
      have hle : a + (g.ps.q.getD i []).length ≤ 524288 := by have h1 := HA1.out; have h2 := HSQ.out (i + 1) hi; omega
      have HI := hid hi
      clear hi
      generalize (g.ps.q.getD i []).length = l at *
      go_wp2_with fail
      refine HC.out.mono ?_
      rintro e w1 ⟨rfl, hf⟩
      have HF1 := hid (HF.out.trans hf)
      clear hf
      go_wp2_with fail
      go_roundg q
      case measure => omega
      case rel => exact ⟨i + 1, a + l, by go_num, by go_num, by have := HG.out; show _ = _; omega, HA1.out, HF1⟩
    | zero =>
      have t1 : ¬ (i : Int) < (g.fs.length : Int) := by have := HG.out; omega
      have HA0 : Hid (a = sumL g.ps.q g.fs.length) := by show _ = _; rw [HA.out, show i = g.fs.length by have := HG.out; omega]
      have HAL : Hid (a ≤ 524288) := by have := HA0.out; have h2 := HSQ.out g.fs.length (Nat.le_refl _); show _ ≤ _; omega
      go_wp2_with fail
      generalize wr = W1 at *
      clear HA HG
      go_loopg [3, 5, 25] g.xs.length (fun q s3 s5 s25 wx => ∃ (i b : Nat), s25 = .int .i64 (i : Int) ∧ s3 = .int .i64 (b : Int) ∧ Hid (i + q = g.xs.length) ∧ Hid (b = a + sumL g.ps.b i) ∧ Hid (Fr w wx (fun _ => False)))
      case atStart => exact ⟨0, a, rfl, rfl, by show _ = _; omega, by show _ = _; rw [HE0.out.2]; rfl, HF⟩
      case round =>
        obtain ⟨i2, b, rfl, rfl, HG, HA, HF2⟩ := hrel
        clear c0 c1 hlt
        obtain ⟨c0, c1, hlt⟩ := (HH.out.still HF2.out).cells
        cases gk with
        | succ q =>
          have hi : i2 < g.xs.length := by have := HG.out; omega
          have t1 : (i2 : Int) < (g.xs.length : Int) := by omega
          have HC := hid (boxed_any (HH.out.still HF2.out) (i2 : Int))
          rw [lenAt_nat (by rw [HBL.out]; exact hi)] at HC
          have HA1 : Hid (b + (g.ps.b.getD i2 []).length = a + sumL g.ps.b (i2 + 1)) := by show _ = _; rw [sumL_step _ (by rw [HBL.out]; exact hi), HA.out]; omega
          have hle : b + (g.ps.b.getD i2 []).length ≤ 1000000 := by have h1 := HA1.out; have h2 := HSB.out (i2 + 1) hi; have h3 := HAL.out; omega
          have HI := hid hi
          clear hi
          generalize (g.ps.b.getD i2 []).length = l at *
          go_wp2_with fail
          refine HC.out.mono ?_
          rintro e w1 ⟨rfl, hf⟩
          have HF1 := hid (HF2.out.trans hf)
          clear hf
          go_wp2_with fail
          go_roundg q
          case measure => omega
          case rel => exact ⟨i2 + 1, b + l, by go_num, by go_num, by have := HG.out; show _ = _; omega, HA1.out, HF1⟩
        | zero =>
          have t1 : ¬ (i2 : Int) < (g.xs.length : Int) := by have := HG.out; omega
          have HE := hid (HEM.out b (by rw [HA.out, HA0.out, show i2 = g.xs.length by have := HG.out; omega]))
          go_wp2_with fail
          go_ret
          exact ⟨by rw [HE.out]; rfl, HF2.out⟩
end Go.Proofs.Ytlgbciibhmcokaa
