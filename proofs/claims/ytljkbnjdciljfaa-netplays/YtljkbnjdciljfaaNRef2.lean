/- net: the document's net: gone, Open, Close, Cut, Take: walks. -/
import Derived.Test.YtljkbnjdciljfaaNRef1
import Derived.Deep.DeepCutAuto
namespace Go.Proofs.Ytljkbnjdciljfaa
open Go.RowKit

/-- What gone answers. -/
def goneG (s : Np) (c : Int) (use : Bool) : Int := match s.at c with | none => goneE c | some x => if use && x.shut then 44 else 0
theorem goneG_use (s : Np) (c : Int) : goneG s c true = useE s c := by unfold goneG useE; cases s.at c <;> simp
theorem goneG_find (s : Np) (c : Int) : goneG s c false = findE s c := by unfold goneG findE; cases s.at c <;> simp
theorem at_of {s : Np} {n : Nat} (h : isC (n : Int) = true) : s.at (n : Int) = s.c n := by
  unfold Np.at
  rw [h, if_pos rfl, Int.toNat_natCast]
theorem isC_nat {c : Int} (h : isC c = true) : ∃ n : Nat, c = (n : Int) ∧ 1 ≤ n ∧ n ≤ 64 := by
  have h1 : 1 ≤ c ∧ c ≤ 64 := of_decide_eq_true h
  exact ⟨c.toNat, by omega, by omega, by omega⟩
set_option maxHeartbeats 4000000 in
set_option maxRecDepth 100000 in
theorem gone_any {W : World} {lo : Nat} {g : Rx} {s : Np} (h : RN W lo g s) (c : Int) (use : Bool) : Calls Try.prog 65 #[.pointer (some ⟨g.G, 0, none⟩), .int .i64 c, .bool use] W fun e w' => e = .returned (.int .i64 (goneG s c use)) ∧ Fr W w' (fun _ => False) := by
  cases hc : isC c with
  | false =>
    have hg : goneG s c use = 1 := by unfold goneG Np.at goneE; rw [hc]; rfl
    rw [hg]
    have HI := hid (is_any c W)
    rw [hc] at HI
    go_enter Try.func65, Try.ntmps65
    go_wp2_with fail
    refine HI.out.mono ?_
    rintro e w1 ⟨rfl, h9⟩
    obtain rfl : W = w1 := h9.symm
    clear h9
    go_wp2
    go_ret
    exact ⟨rfl, Fr.refl _ _⟩
  | true =>
    have HI := hid (is_any c W)
    rw [hc] at HI
    obtain ⟨n, rfl, hn1, hn2⟩ := isC_nat hc
    obtain ⟨g0, g1, g2, g3, gf, gl⟩ := h.cells
    obtain ⟨c0, c1, c2, ⟨a3, k3, a4, k4, a5, k5, a6, k6, c3, c4, c5, c6, _⟩, fz, hl⟩ := h.co (n := n) (by omega)
    have t0 : (0 : Int) ≤ (n : Int) := by omega
    have t1 : (n : Int) < 65 := by omega
    have hgg : goneG s (n : Int) use = if (s.c n).isSome && !(use && (cOf s n).shut) then 0 else 44 := by
      unfold goneG cOf
      rw [at_of hc]
      cases hx : s.c n with
      | none => simp [goneE, hc]
      | some x => cases use <;> cases hq : x.shut <;> simp [hq]
    rw [hgg]
    clear hgg g0 g1 g3 gf fz
    have hsh : (cOf s n).shut = ((cOf s n).cl || (cOf s n).ct) := rfl
    rw [hsh]
    clear hsh
    generalize (s.c n).isSome = th at *
    generalize (cOf s n).cl = b1 at *
    generalize (cOf s n).ct = b2 at *
    generalize (cOf s n).w.length = l3 at *
    generalize (cOf s n).i.length = l4 at *
    generalize (cOf s n).o.length = l5 at *
    generalize (cOf s n).h.length = l6 at *
    have HF := hid (alloc_fr W (.cells #[.bool th, .bool b1, .bool b2, .slice a3 l3 k3, .slice a4 l4 k4, .slice a5 l5 k5, .slice a6 l6 k6] 99) (fun _ => False))
    clear h hc
    cases th <;> cases use <;> cases b1 <;> cases b2
    all_goals
      go_enter Try.func65, Try.ntmps65
      go_wp2_with fail
      refine HI.out.mono ?_
      rintro e w1 ⟨rfl, h9⟩
      obtain rfl : W = w1 := h9.symm
      clear h9
      go_wp2
      go_ret
      exact ⟨rfl, HF.out⟩
end Go.Proofs.Ytljkbnjdciljfaa
