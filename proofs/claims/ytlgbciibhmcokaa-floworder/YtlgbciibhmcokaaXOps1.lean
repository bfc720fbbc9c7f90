/- flow: isFrom1, isOf, check, spread, Route, Queued, Boxed, Put: walks. -/
import Derived.Test.YtlgbciibhmcokaaXBase
namespace Go.Proofs.Ytlgbciibhmcokaa
open Go.RowKit

theorem from1_any (n m : Int) (w : World) : Calls Try.prog 24 #[.int .i64 n, .int .i64 m] w fun e w' => e = .returned (.bool (decide (1 ≤ n ∧ n ≤ m))) ∧ w' = w := by
  by_cases h1 : 1 ≤ n
  · by_cases h2 : n ≤ m
    · rw [decide_eq_true (show 1 ≤ n ∧ n ≤ m from ⟨h1, h2⟩)]
      go_enter Try.func24, Try.ntmps24
      go_wp2_with fail
      go_ret
      exact ⟨rfl, rfl⟩
    · rw [decide_eq_false (show ¬ (1 ≤ n ∧ n ≤ m) from fun h => h2 h.2)]
      go_enter Try.func24, Try.ntmps24
      go_wp2_with fail
      go_ret
      exact ⟨rfl, rfl⟩
  · rw [decide_eq_false (show ¬ (1 ≤ n ∧ n ≤ m) from fun h => h1 h.1)]
    go_enter Try.func24, Try.ntmps24
    go_wp2_with fail
    go_ret
    exact ⟨rfl, rfl⟩
/-- Is a number one of n? -/
def inN (i : Int) (n : Nat) : Bool := decide (0 ≤ i ∧ i < (n : Int))
theorem isOfF_any (i : Int) (ao : Option Addr) (n cap : Nat) (w : World) : Calls Try.prog 34 #[.int .i64 i, .slice ao n cap] w fun e w' => e = .returned (.bool (inN i n)) ∧ w' = w := by
  unfold inN
  by_cases h1 : 0 ≤ i
  · by_cases h2 : i < (n : Int)
    · rw [decide_eq_true (show 0 ≤ i ∧ i < (n : Int) from ⟨h1, h2⟩)]
      go_enter Try.func34, Try.ntmps34
      go_wp2_with fail
      go_ret
      exact ⟨rfl, rfl⟩
    · rw [decide_eq_false (show ¬ (0 ≤ i ∧ i < (n : Int)) from fun h => h2 h.2)]
      go_enter Try.func34, Try.ntmps34
      go_wp2_with fail
      go_ret
      exact ⟨rfl, rfl⟩
  · rw [decide_eq_false (show ¬ (0 ≤ i ∧ i < (n : Int)) from fun h => h1 h.1)]
    go_enter Try.func34, Try.ntmps34
    go_wp2_with fail
    go_ret
    exact ⟨rfl, rfl⟩
theorem isOfB_any (i : Int) (ao : Option Addr) (n cap : Nat) (w : World) : Calls Try.prog 40 #[.int .i64 i, .slice ao n cap] w fun e w' => e = .returned (.bool (inN i n)) ∧ w' = w := by
  unfold inN
  by_cases h1 : 0 ≤ i
  · by_cases h2 : i < (n : Int)
    · rw [decide_eq_true (show 0 ≤ i ∧ i < (n : Int) from ⟨h1, h2⟩)]
      go_enter Try.func40, Try.ntmps40
      go_wp2_with fail
      go_ret
      exact ⟨rfl, rfl⟩
    · rw [decide_eq_false (show ¬ (0 ≤ i ∧ i < (n : Int)) from fun h => h2 h.2)]
      go_enter Try.func40, Try.ntmps40
      go_wp2_with fail
      go_ret
      exact ⟨rfl, rfl⟩
  · rw [decide_eq_false (show ¬ (0 ≤ i ∧ i < (n : Int)) from fun h => h1 h.1)]
    go_enter Try.func40, Try.ntmps40
    go_wp2_with fail
    go_ret
    exact ⟨rfl, rfl⟩

def hashN (s : ByteArray) : Nat → Nat
  | 0 => 14695981039346656037
  | n + 1 => ((hashN s n ^^^ (s.data.getD n 0).toNat) * 1099511628211) % 18446744073709551616
def hashL (s : ByteArray) : Nat := hashN s s.size
theorem hashN_lt (s : ByteArray) : ∀ n, hashN s n < 18446744073709551616
  | 0 => by show 14695981039346656037 < 18446744073709551616; decide
  | n + 1 => Nat.mod_lt _ (by decide)
theorem hashN_step (s : ByteArray) (n : Nat) : IntKind.u64.wrap (Go.bits .xor .u64 (hashN s n : Int) (((s.data.getD n 0).toNat : Nat) : Int) * 1099511628211) = (hashN s (n + 1) : Int) := by
  have hb : (s.data.getD n 0).toNat < 18446744073709551616 := Nat.lt_of_lt_of_le (UInt8.toNat_lt _) (by decide)
  rw [bits_xor_u64_nat _ _ (hashN_lt s n) hb]
  have : hashN s (n + 1) = ((hashN s n ^^^ (s.data.getD n 0).toNat) * 1099511628211) % 18446744073709551616 := rfl
  rw [this, IntKind.wrap_u64]
  omega
theorem byte_step (k : ByteArray) (i : Nat) (hi : i < k.size) : IntKind.u64.wrap (((k[i]'hi).toNat : Nat) : Int) = (((k.data.getD i 0).toNat : Nat) : Int) := by
  have e1 : (k[i]'hi).toNat = (k.data.getD i 0).toNat := by
    have h2 : i < k.data.size := hi
    simp only [Array.getD_eq_getD_getElem?, Array.getElem?_eq_getElem h2]
    rfl
  have e2 : ((k.data.getD i 0).toNat : Int) < 256 := by have := UInt8.toNat_lt (k.data.getD i 0); omega
  rw [e1, IntKind.wrap_u64]
  omega
/-- The highest 32 bits of W9's product. -/
def sprd (k : ByteArray) : Nat := hashL k * 11400714819323198485 % 18446744073709551616 / 4294967296
set_option maxRecDepth 100000 in
theorem spread_any (k : ByteArray) (w : World) (hk : k.size ≤ 9223372036854775807) : Calls Try.prog 32 #[.string k] w fun e w' => e = .returned (.int .u64 (sprd k : Int)) ∧ w' = w := by
  go_enter Try.func32, Try.ntmps32
  go_wp2_with fail
  go_loopg [3, 7] k.size (fun g s3 s7 wx => ∃ i : Nat, s3 = .int .u64 (hashN k i : Int) ∧ s7 = .int .i64 (i : Int) ∧ i + g = k.size ∧ wx = w)
  case atStart => exact ⟨0, rfl, rfl, by omega, rfl⟩
  case round =>
    obtain ⟨i, rfl, rfl, hg, rfl⟩ := hrel
    cases gk with
    | zero =>
      have t1 : ¬ (i : Int) < (k.size : Int) := by omega
      have HE := hid (show i = k.size by omega)
      clear hg
      go_wp2_with fail
      go_ret
      refine ⟨?_, rfl⟩
      rw [HE.out]
      have e : IntKind.u64.wrap ((hashN k k.size : Int) * 11400714819323198485) / 4294967296 = ((sprd k : Nat) : Int) := by
        unfold sprd hashL
        rw [IntKind.wrap_u64]
        omega
      rw [e]
      rfl
    | succ g =>
      have t1 : (i : Int) < (k.size : Int) := by omega
      have t0 : (0 : Int) ≤ (i : Int) := by omega
      have HG := hid hg
      have hi : i < k.size := by omega
      have HI := hid hi
      clear hg
      go_wp2_with fail
      go_roundg g
      case measure => omega
      case rel =>
        refine ⟨i + 1, ?_, by go_num, by have := HG.out; omega, rfl⟩
        rw [← hashN_step k i, byte_step k i HI.out]
/-- W9's operator of a key. -/
def rtF (n : Nat) (k : ByteArray) : Nat := sprd k % n
theorem rt_run (n h : Nat) (h1 : 0 < n) (h2 : n ≤ 16) : (∀ W : World, (convert 3 77 (.int .i64 (n : Int))).run Try.prog W = .ok (.int .u64 (n : Int)) W) ∧ (∀ W : World, (binOp .rem 77 (.int .u64 (h : Int)) (.int .u64 (n : Int))).run Try.prog W = .ok (.int .u64 ((h % n : Nat) : Int)) W) ∧ (∀ W : World, (convert 77 3 (.int .u64 ((h % n : Nat) : Int))).run Try.prog W = .ok (.int .i64 ((h % n : Nat) : Int)) W) := by
  have hl : h % n < 16 := Nat.lt_of_lt_of_le (Nat.mod_lt _ h1) h2
  have k1 : Try.prog.intKind 77 = .u64 := by kernel_rfl
  have k2 : Try.prog.intKind 3 = .i64 := by kernel_rfl
  have h4 : (h : Int).tmod (n : Int) = ((h % n : Nat) : Int) := by rw [Int.tmod_eq_emod_of_nonneg (by omega)]; rfl
  have h5 : ¬ n = 0 := by omega
  refine ⟨fun W => ?_, fun W => by simp [binOp, Op.intDiv, h4, go_sem, h5], fun W => ?_⟩
  · have h3 : IntKind.u64.wrap (n : Int) = n := by rw [IntKind.wrap_u64]; omega
    rw [run_convert_int (P := Try.prog) (w := W) 3 77 .i64 (n : Int) (by kernel_rfl) (by kernel_rfl), k1, h3]
  · generalize h % n = r at *
    have h3 : IntKind.i64.wrap (r : Int) = r := by rw [IntKind.wrap_i64]; omega
    rw [run_convert_int (P := Try.prog) (w := W) 77 3 .u64 (r : Int) (by kernel_rfl) (by kernel_rfl), k2, h3]

set_option maxHeartbeats 2000000 in
set_option maxRecDepth 100000 in
theorem route_any {W : World} {g : Fx} {box : Nat} (k : ByteArray) (h : Fw W g box) (hk : k.size ≤ 9223372036854775807) :
    Calls Try.prog 13 #[.pointer (some ⟨g.B, 0, none⟩), .string k] W fun e w' => e = .returned (.int .i64 (rtF g.xs.length k : Int)) ∧ Fr W w' (fun _ => False) := by
  have hpos := h.nb.1
  have hlen := h.nb.2
  obtain ⟨_, c0, hlt⟩ := h.cells
  clear h
  have HH := hid (fun W' => spread_any k W' hk)
  obtain ⟨k1, k2, k3⟩ := rt_run g.xs.length (sprd k) hpos (by omega)
  unfold rtF
  have HW : Hid (IntKind.i64.wrap ((sprd k : Int) % (g.xs.length : Int)) = ((sprd k % g.xs.length : Nat) : Int)) := by
    have := Nat.mod_lt (sprd k) hpos
    exact wrap_fit (show fits (((sprd k % g.xs.length : Nat) : Int)) from by unfold fits; omega)
  generalize sprd k % g.xs.length = r at *
  generalize sprd k = h0 at *
  generalize g.xs.length = n at *
  generalize (some (⟨g.X, 0, none⟩ : Addr)) = ao at *
  generalize g.cx = cap at *
  generalize g.B = Q at *
  have hz : ((n : Int) == 0) = false := by simp; omega
  have HC := hid (fun (W' : World) (hf : Fr W W' (fun _ => False)) => (show W'.cell? ⟨Q, 1, none⟩ = some (.slice ao n cap) from by rw [(fr_rules hf).1 _ _ hlt]; exact c0))
  have HF := hid (Fr.refl W (fun _ => False))
  go_enter Try.func13, Try.ntmps13
  go_wp2_with fail
  go_region_held (fun W' => Hid (Fr W W' (fun _ => False)) ∧ W'.cell? ⟨Q, 1, none⟩ = some (.slice ao n cap))
    ((refine (fun h => ⟨h, HC.out _ h⟩ : Fr W _ (fun _ => False) → _) ?_; repeat (first | with_reducible exact HF.out | with_reducible exact Fr.refl _ _ | with_reducible apply Fr.drew)))
    ((go_at_call 32; refine (HH.out _).mono ?_; rintro e w1 ⟨rfl, rfl⟩))
  go_wp2_with fail
  go_ret
  exact ⟨congrArg (fun x => Ending.returned (.int .i64 x)) HW.out, by repeat (first | with_reducible exact HF.out | with_reducible exact Fr.refl _ _ | with_reducible apply Fr.drew)⟩

/-- Queued, Boxed. -/
def lenAt {α : Type} (i : Int) (l : List (List α)) : Nat := if 0 ≤ i ∧ i < (l.length : Int) then (l.getD i.toNat []).length else 0
theorem ps_q {g : Fx} {i : Nat} (hi : i < g.fs.length) : g.ps.q.getD i [] = (g.fs.getD i fd0).q := by simp [Fx.ps, List.getD, hi]
theorem ps_n {g : Fx} {i : Nat} (hi : i < g.fs.length) : g.ps.n.getD i 0 = (g.fs.getD i fd0).n := by simp [Fx.ps, List.getD, hi]
theorem ps_b {g : Fx} {i : Nat} (hi : i < g.xs.length) : g.ps.b.getD i [] = (g.xs.getD i bx0).ms := by simp [Fx.ps, List.getD, hi]
theorem ps_ql (g : Fx) : g.ps.q.length = g.fs.length := by simp [Fx.ps]
theorem ps_nl (g : Fx) : g.ps.n.length = g.fs.length := by simp [Fx.ps]
theorem ps_bl (g : Fx) : g.ps.b.length = g.xs.length := by simp [Fx.ps]
set_option maxHeartbeats 1000000 in
theorem queued_any {w : World} {g : Fx} {box : Nat} (h : Fw w g box) (i : Int) : Calls Try.prog 21 #[.pointer (some ⟨g.B, 0, none⟩), .int .i64 i] w fun e w' => e = .returned (.int .i64 (lenAt i g.ps.q : Int)) ∧ Fr w w' (fun _ => False) := by
  obtain ⟨c0, c1, hlt⟩ := h.cells
  have hio := isOfF_any i (some ⟨g.F, 0, none⟩) g.fs.length g.cf w
  by_cases hi : 0 ≤ i ∧ i < (g.fs.length : Int)
  · obtain ⟨n, rfl⟩ : ∃ n : Nat, i = (n : Int) := ⟨i.toNat, by omega⟩
    have hn : n < g.fs.length := by omega
    have e1 : lenAt (n : Int) g.ps.q = (g.fs.getD n fd0).q.length := by
      unfold lenAt
      rw [ps_ql, if_pos hi, Int.toNat_natCast, ps_q hn]
    rw [e1]
    have e2 : inN (n : Int) g.fs.length = true := decide_eq_true hi
    rw [e2] at hio
    have HIO := hid hio
    obtain ⟨d0, d1, d2, d3⟩ := (h.feed hn).cells (take_len g.fs hn)
    have hbl := h.feeds.lt
    obtain ⟨hi1, hi2⟩ := hi
    clear h hio c1 e1 e2 d0 d1 d3
    generalize (g.fs.getD n fd0).q.length = ql at *
    generalize g.fs.length = m at *
    generalize g.F = F at *
    generalize g.B = B at *
    go_enter Try.func21, Try.ntmps21
    go_wp2_with fail
    refine HIO.out.mono ?_
    rintro e w1 ⟨rfl, rfl⟩
    go_wp2_with fail
    go_ret
    exact ⟨rfl, Fr.refl _ _⟩
  · have e1 : lenAt i g.ps.q = 0 := by
      unfold lenAt
      rw [ps_ql, if_neg hi]
    rw [e1]
    have e2 : inN i g.fs.length = false := decide_eq_false hi
    rw [e2] at hio
    have HIO := hid hio
    clear h hio c1 e1 e2
    go_enter Try.func21, Try.ntmps21
    go_wp2_with fail
    refine HIO.out.mono ?_
    rintro e w1 ⟨rfl, rfl⟩
    go_wp2_with fail
    go_ret
    exact ⟨rfl, Fr.refl _ _⟩
set_option maxHeartbeats 1000000 in
theorem boxed_any {w : World} {g : Fx} {box : Nat} (h : Fw w g box) (i : Int) : Calls Try.prog 23 #[.pointer (some ⟨g.B, 0, none⟩), .int .i64 i] w fun e w' => e = .returned (.int .i64 (lenAt i g.ps.b : Int)) ∧ Fr w w' (fun _ => False) := by
  obtain ⟨c0, c1, hlt⟩ := h.cells
  have hio := isOfB_any i (some ⟨g.X, 0, none⟩) g.xs.length g.cx w
  by_cases hi : 0 ≤ i ∧ i < (g.xs.length : Int)
  · obtain ⟨n, rfl⟩ : ∃ n : Nat, i = (n : Int) := ⟨i.toNat, by omega⟩
    have hn : n < g.xs.length := by omega
    have e1 : lenAt (n : Int) g.ps.b = (g.xs.getD n bx0).ms.length := by
      unfold lenAt
      rw [ps_bl, if_pos hi, Int.toNat_natCast, ps_b hn]
    rw [e1]
    have e2 : inN (n : Int) g.xs.length = true := decide_eq_true hi
    rw [e2] at hio
    have HIO := hid hio
    obtain ⟨d0, d1, d2, d3⟩ := (h.box hn).cells (takeb_len box g.xs hn)
    have hbl := h.boxes.lt
    obtain ⟨hi1, hi2⟩ := hi
    clear h hio c0 e1 e2 d0 d1 d3
    generalize (g.xs.getD n bx0).ms.length = ql at *
    generalize g.xs.length = m at *
    generalize g.X = F at *
    generalize g.B = B at *
    go_enter Try.func23, Try.ntmps23
    go_wp2_with fail
    refine HIO.out.mono ?_
    rintro e w1 ⟨rfl, rfl⟩
    go_wp2_with fail
    go_ret
    exact ⟨rfl, Fr.refl _ _⟩
  · have e1 : lenAt i g.ps.b = 0 := by
      unfold lenAt
      rw [ps_bl, if_neg hi]
    rw [e1]
    have e2 : inN i g.xs.length = false := decide_eq_false hi
    rw [e2] at hio
    have HIO := hid hio
    clear h hio c0 e1 e2
    go_enter Try.func23, Try.ntmps23
    go_wp2_with fail
    refine HIO.out.mono ?_
    rintro e w1 ⟨rfl, rfl⟩
    go_wp2_with fail
    go_ret
    exact ⟨rfl, Fr.refl _ _⟩
end Go.Proofs.Ytlgbciibhmcokaa
