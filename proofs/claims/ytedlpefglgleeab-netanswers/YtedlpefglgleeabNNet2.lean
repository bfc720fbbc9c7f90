/- net: the calls of a net: walks. -/
import Derived.Test.YtedlpefglgleeabNNet
namespace Go.Proofs.Ytedlpefglgleeab
open Go.RowKit

theorem goneE_ne (c : Int) : goneE c ≠ 0 := by
  unfold goneE
  split <;> decide
theorem nx_at {g : Nx} {c : Int} {y : Cm} (h : g.at c = some y) : isC c = true ∧ g.K c.toNat = some y := by
  unfold Nx.at at h
  cases hc : isC c with
  | true => rw [hc] at h; exact ⟨rfl, h⟩
  | false => rw [hc] at h; cases h
theorem upd_cast {s : Np} {c : Int} {x : Cp} {k : Nat} : s.upd c x k = s.upd ((c.toNat : Nat) : Int) x k := by
  have e : ((c.toNat : Nat) : Int).toNat = c.toNat := Int.toNat_natCast _
  unfold Np.upd
  rw [e]
theorem Nt.conn2 {w w' : World} {lo : Nat} {g : Nx} (h : Nt w lo g) {c : Int} {y : Cm} (hy : g.at c = some y) {x : Cp} (hA : CnA w w' lo g.a g.b y x) (hw : Wf (g.ps.upd c x 0)) : NtA w w' lo g (g.ps.upd c x 0) := by
  rw [upd_cast] at hw ⊢
  exact h.conn (nx_at hy).2 hA hw
/-- A call of one connection, and then its count. -/
theorem Nt.conn3 {w w' : World} {lo : Nat} {g : Nx} (h : Nt w lo g) {c : Int} {y : Cm} (hy : g.at c = some y) {x : Cp} {k : Nat} (hA : CnA w w' lo g.a g.b y x) (hw : Wf (g.ps.upd c x k)) (hm : g.m + k ≤ 9223372036854775807) : Calls Try.prog 29 #[.pointer (some ⟨g.B, 0, none⟩), .int .i64 (k : Int)] w' fun e w'' => e = .returned (.int .i64 (k : Int)) ∧ NtA w w'' lo g (g.ps.upd c x k) := by
  obtain ⟨y', k1, k2, k3, k4, k5⟩ := hA
  obtain ⟨j1, j2, j3, j4⟩ := h.connE (nx_at hy).2 k1 k2 k3 k4 k5
  refine (count_any j2 k hm).mono fun e w2 ⟨he, h1, h2⟩ => ⟨he, ?_⟩
  have hps : ((g.setK c.toNat y').add k).ps = g.ps.upd c x k := by
    have e1 : ((g.setK c.toNat y').add k).ps = { (g.setK c.toNat y').ps with m := (g.setK c.toNat y').ps.m + k } := rfl
    rw [e1, j1, ← upd_cast]
    rfl
  refine ⟨(g.setK c.toNat y').add k, rfl, hps, ⟨h1, by rw [hps]; exact hw⟩, fun q hq => j3 q hq, j4.trans2 h2 (fun q hq ho => ?_)⟩
  rcases j3 q ho with h | h
  · exact h
  · omega
theorem find_cases (g : Nx) (c : Int) : (findE g.ps c ≠ 0 ∧ g.at c = none ∧ g.ps.at c = none) ∨ ∃ y, g.at c = some y ∧ g.ps.at c = some y.x ∧ findE g.ps c = 0 := by
  unfold findE
  rw [ps_at]
  cases g.at c with
  | none => exact Or.inl ⟨goneE_ne c, rfl, rfl⟩
  | some y => exact Or.inr ⟨y, rfl, rfl, rfl⟩
theorem use_cases (g : Nx) (c : Int) : (useE g.ps c ≠ 0 ∧ g.use c = none) ∨ ∃ y, g.at c = some y ∧ g.use c = some y ∧ g.ps.at c = some y.x ∧ useE g.ps c = 0 ∧ y.x.shut = false := by
  unfold useE Nx.use
  rw [ps_at]
  cases g.at c with
  | none => exact Or.inl ⟨goneE_ne c, rfl⟩
  | some y =>
    cases hs : y.x.shut with
    | true => left; simp [hs]
    | false => right; exact ⟨y, rfl, by simp [hs], rfl, by simp [hs], hs⟩
theorem use_bad {s : Np} {c : Int} (h : useE s c ≠ 0) (b : List Nat) : sendE s c b = useE s c ∧ sendS s c b = s ∧ takeB s c = [] ∧ takeS s c = s ∧ writeK s c b.length = 0 ∧ writeS s c b = s ∧ closeS s c = s := by
  unfold useE at h
  unfold sendE sendS takeB takeS writeK writeS closeS useE
  cases hx : s.at c with
  | none => simp
  | some x =>
    rw [hx] at h
    dsimp only at h ⊢
    have hs : x.shut = true := by
      cases hs : x.shut with
      | true => rfl
      | false => rw [hs] at h; exact absurd rfl h
    simp [hs]
theorem find_bad {s : Np} {c : Int} (h : findE s c ≠ 0) (most : Int) : bringK s c most = 0 ∧ bringS s c most = s ∧ fetchK s c most = 0 ∧ fetchS s c most = s ∧ cutE s c = findE s c ∧ cutS s c = s ∧ heardB s c = [] ∧ heardN s c = false ∧ isO s c = false ∧ isT s c = false ∧ undI s c = 0 ∧ undO s c = 0 := by
  unfold findE at h
  unfold bringK bringS fetchK fetchS cutE cutS heardB heardN isO isT undI undO findE
  cases hx : s.at c with
  | none => simp
  | some x => rw [hx] at h; exact absurd rfl h
set_option maxHeartbeats 1000000 in
theorem nsend_any {w : World} {lo : Nat} {g : Nx} (h : Nt w lo g) (hlo : lo ≤ w.heap.size) (c : Int) {ao : Option Addr} {zcap : Nat} {zs : List Nat} (hz : Bs w (.slice ao zs.length zcap) zs) (hzc : zs.length ≤ zcap) : Calls Try.prog 9 #[.pointer (some ⟨g.B, 0, none⟩), .int .i64 c, .slice ao zs.length zcap] w fun e w' => e = .returned (.int .i64 (sendE g.ps c zs)) ∧ NtA w w' lo g (sendS g.ps c zs) := by
  have HO := hid (openI_any h c)
  rcases use_cases g c with ⟨hE, hu⟩ | ⟨y, hy, hu, hp, hE, hs⟩
  · obtain ⟨e1, e2, _⟩ := use_bad hE zs
    rw [e1, e2]
    rw [hu] at HO
    change Hid (Calls _ _ _ _ (fun e w' => e = .returned (.tuple #[.pointer none, _]) ∧ w' = w)) at HO
    have HS := hid (h.same (Fr.refl w _))
    have t1 : (useE g.ps c == 0) = false := by simpa using hE
    clear h hE hu e1 e2 hz
    generalize useE g.ps c = E at *
    go_enter Try.func9, Try.ntmps9
    go_wp2_with fail
    refine HO.out.mono ?_
    rintro e w1 ⟨rfl, h9⟩
    obtain rfl : w = w1 := h9.symm
    clear h9
    go_wp2_with fail
    go_ret
    exact ⟨rfl, HS.out⟩
  · rw [hu, hE] at HO
    change Hid (Calls _ _ _ _ (fun e w' => e = .returned (.tuple #[.pointer (some ⟨y.k, 0, none⟩), _]) ∧ w' = w)) at HO
    have hw := wf_at h.wf hp
    have HC := hid (send_any (h.con _ _ (nx_at hy).2) hlo hw.2.1 hz hzc)
    have hW := wf_send h.wf c zs
    unfold sendE sendS
    unfold sendS at hW
    rw [hp] at hW ⊢
    dsimp only at hW ⊢
    simp only [hs, Bool.false_eq_true, if_false] at hW ⊢
    unfold wayB at HC
    by_cases hl : y.x.w.length + zs.length ≤ 1048576
    · have hl2 : ¬ 1048576 < y.x.w.length + zs.length := by omega
      simp only [hl2, if_false] at hW ⊢
      clear hl2
      rw [decide_eq_true hl, if_pos rfl] at HC
      have HK := hid (fun w' h1 => h.conn2 (w' := w') hy h1 hW)
      clear h hz hW hE hu hw hl hp hs
      go_enter Try.func9, Try.ntmps9
      go_wp2_with fail
      refine HO.out.mono ?_
      rintro e w1 ⟨rfl, h9⟩
      obtain rfl : w = w1 := h9.symm
      clear h9
      go_wp2_with fail
      refine HC.out.mono ?_
      rintro e w2 ⟨rfl, hA⟩
      have HA := hid (HK.out _ hA)
      clear hA
      go_wp2_with fail
      go_ret
      exact ⟨rfl, HA.out⟩
    · have hl2 : 1048576 < y.x.w.length + zs.length := by omega
      simp only [hl2, if_true] at hW ⊢
      clear hl2
      rw [decide_eq_false hl, if_neg (by decide)] at HC
      have HK : Hid (∀ w', CnA w w' lo g.a g.b y y.x → NtA w w' lo g g.ps) := fun w' h1 => by
        have e : g.ps.upd c y.x 0 = g.ps := by
          obtain ⟨h2, h3⟩ := at_some hp
          unfold Np.upd
          simp only [Nat.add_zero]
          congr 1
          funext d
          split
          · rename_i e; rw [e]; exact h3.symm
          · rfl
        have := h.conn2 (w' := w') hy h1 (by rw [e]; exact h.wf)
        rwa [e] at this
      clear h hz hW hE hu hw hl hp hs
      go_enter Try.func9, Try.ntmps9
      go_wp2_with fail
      refine HO.out.mono ?_
      rintro e w1 ⟨rfl, h9⟩
      obtain rfl : w = w1 := h9.symm
      clear h9
      go_wp2_with fail
      refine HC.out.mono ?_
      rintro e w2 ⟨rfl, hA⟩
      have HA := hid (HK.out _ hA)
      clear hA
      go_wp2_with fail
      go_ret
      exact ⟨rfl, HA.out⟩
/-- What Take hands out. -/
def TkA (w w' : World) (lo : Nat) (g : Nx) (s : Np) (v : Value) (xs : List Nat) : Prop := ∃ g' : Nx, g'.B = g.B ∧ g'.ps = s ∧ Nt w' lo g' ∧ Gr w g.ow g'.ow ∧ Fr w w' g.ow ∧ Rw w' lo 5 v xs ∧ (∀ k, v.ownBlock = some k → ¬ g'.ow k ∧ g.ow k)
set_option maxHeartbeats 1000000 in
theorem ntake_any {w : World} {lo : Nat} {g : Nx} (h : Nt w lo g) (c : Int) : Calls Try.prog 18 #[.pointer (some ⟨g.B, 0, none⟩), .int .i64 c] w fun e w' => ∃ v, e = .returned (.tuple #[v, .int .i64 (useE g.ps c)]) ∧ TkA w w' lo g (takeS g.ps c) v (takeB g.ps c) := by
  have HO := hid (openI_any h c)
  rcases use_cases g c with ⟨hE, hu⟩ | ⟨y, hy, hu, hp, hE, hs⟩
  · obtain ⟨_, _, e1, e2, _⟩ := use_bad hE []
    rw [e1, e2]
    rw [hu] at HO
    change Hid (Calls _ _ _ _ (fun e w' => e = .returned (.tuple #[.pointer none, _]) ∧ w' = w)) at HO
    have HS : Hid (TkA w w lo g g.ps (.slice none 0 0) []) := ⟨g, rfl, rfl, h, Gr.refl _ _, Fr.refl _ _, Rw.nil _ _ _, fun k hk => by simp [Value.ownBlock] at hk⟩
    have t1 : (useE g.ps c == 0) = false := by simpa using hE
    clear h hE hu e1 e2
    generalize useE g.ps c = E at *
    go_enter Try.func18, Try.ntmps18
    go_wp2_with fail
    refine HO.out.mono ?_
    rintro e w1 ⟨rfl, h9⟩
    obtain rfl : w = w1 := h9.symm
    clear h9
    go_wp2_with fail
    go_ret2
    exact ⟨_, rfl, HS.out⟩
  · rw [hu, hE] at HO
    rw [hE]
    change Hid (Calls _ _ _ _ (fun e w' => e = .returned (.tuple #[.pointer (some ⟨y.k, 0, none⟩), _]) ∧ w' = w)) at HO
    have hW := wf_take h.wf c
    unfold takeB takeS
    unfold takeS at hW
    rw [hp] at hW ⊢
    dsimp only at hW ⊢
    simp only [hs, Bool.false_eq_true, if_false] at hW ⊢
    have hcn := h.con _ _ (nx_at hy).2
    have HC := hid (take_any hcn)
    have HK : Hid (∀ w', BB w' y.k 69 [] [y.v 1, .int .i64 ((1048576 : Nat) : Int), y.v 2, .int .i64 (g.b : Int), y.v 3, .bool y.x.cl, .bool y.x.ct] (.slice none 0 0) g.a ∧ Fr w w' (fun k => k = y.k) → TkA w w' lo g (g.ps.upd c { y.x with i := [] } 0) (y.v 0) y.x.i) := fun w' ⟨h1, h2⟩ => by
      have hK := (nx_at hy).2
      have hrow := hcn.row 0 (by omega)
      change Rw w lo 5 (y.v 0) y.x.i at hrow
      rw [upd_cast] at hW ⊢
      obtain ⟨k3, k4, k5⟩ := hcn.set (i := 0) (by omega) (u := .slice none 0 0) (x := { y.x with i := [] }) (fun j hj hne => by
        have h9 : j = 1 ∨ j = 2 ∨ j = 3 := by omega
        rcases h9 with rfl | rfl | rfl <;> rfl) h1 (Rw.nil _ _ _) (h2.mono (fun _ _ e => Or.inl e)) (Nw.nil _ _)
      obtain ⟨j1, j2, j3, j4⟩ := h.connE hK (y' := y.set 0 (.slice none 0 0) { y.x with i := [] }) rfl rfl k3 k4 k5
      refine ⟨g.setK c.toNat (y.set 0 (.slice none 0 0) { y.x with i := [] }), rfl, j1, ⟨j2, by rw [j1]; exact hW⟩, j3, j4, hrow.fr h2 (fun k hk e => hcn.nk (i := 0) (by omega) (by rw [hk, e])), fun k hk => ⟨fun ho => ?_, Or.inr ⟨_, y, hK, Or.inr ⟨0, by omega, hk⟩⟩⟩⟩
      have hyk : y.ow k := Or.inr ⟨0, by omega, hk⟩
      rcases ho with e | ⟨d, z, hz, h3⟩
      · exact h.nb _ y hK (by have e' : k = g.B := e; rw [← e']; exact hyk)
      · change (if d = c.toNat then some (y.set 0 (.slice none 0 0) { y.x with i := [] }) else g.K d) = some z at hz
        split at hz
        · cases hz
          rcases h3 with e | ⟨i, hi, h3⟩
          · have e' : k = y.k := e
            exact hcn.nk (i := 0) (by omega) (by rw [hk, e'])
          · change (if i = 0 then Value.slice none 0 0 else y.v i).ownBlock = some k at h3
            split at h3
            · simp [Value.ownBlock] at h3
            · rename_i hne
              exact hne (hcn.ap i 0 k hi (by omega) h3 hk)
        · exact h.ap _ d y z k (fun e => (by assumption : ¬ d = c.toNat) e.symm) hK hz hyk h3
    clear h hcn hu hp hs hW hE
    go_enter Try.func18, Try.ntmps18
    go_wp2_with fail
    refine HO.out.mono ?_
    rintro e w1 ⟨rfl, h9⟩
    obtain rfl : w = w1 := h9.symm
    clear h9
    go_wp2_with fail
    refine HC.out.mono ?_
    rintro e w2 ⟨rfl, hA⟩
    have HA := hid (HK.out _ hA)
    clear hA
    go_wp2_with fail
    go_ret2
    exact ⟨_, rfl, HA.out⟩
set_option maxHeartbeats 1000000 in
theorem nwrite_any {w : World} {lo : Nat} {g : Nx} (h : Nt w lo g) (hlo : lo ≤ w.heap.size) (c : Int) {ao : Option Addr} {zcap : Nat} {zs : List Nat} (hz : Bs w (.slice ao zs.length zcap) zs) (hzc : zs.length ≤ zcap) : Calls Try.prog 11 #[.pointer (some ⟨g.B, 0, none⟩), .int .i64 c, .slice ao zs.length zcap] w fun e w' => e = .returned (.tuple #[.int .i64 (writeK g.ps c zs.length : Int), .int .i64 (useE g.ps c)]) ∧ NtA w w' lo g (writeS g.ps c zs) := by
  have HO := hid (openI_any h c)
  rcases use_cases g c with ⟨hE, hu⟩ | ⟨y, hy, hu, hp, hE, hs⟩
  · obtain ⟨_, _, _, _, e1, e2, _⟩ := use_bad hE zs
    rw [e1, e2]
    rw [hu] at HO
    change Hid (Calls _ _ _ _ (fun e w' => e = .returned (.tuple #[.pointer none, _]) ∧ w' = w)) at HO
    have HS := hid (h.same (Fr.refl w _))
    have t1 : (useE g.ps c == 0) = false := by simpa using hE
    clear h hE hu e1 e2 hz
    generalize useE g.ps c = E at *
    go_enter Try.func11, Try.ntmps11
    go_wp2_with fail
    refine HO.out.mono ?_
    rintro e w1 ⟨rfl, h9⟩
    obtain rfl : w = w1 := h9.symm
    clear h9
    go_wp2_with fail
    go_ret2
    exact ⟨rfl, HS.out⟩
  · rw [hu, hE] at HO
    rw [hE]
    change Hid (Calls _ _ _ _ (fun e w' => e = .returned (.tuple #[.pointer (some ⟨y.k, 0, none⟩), _]) ∧ w' = w)) at HO
    have hw := wf_at h.wf hp
    have hbb := h.wf.b
    change 1 ≤ g.b ∧ g.b ≤ 131072 at hbb
    have HC := hid (write_any (h.con _ _ (nx_at hy).2) hlo hw.2.2.1 hbb.2 hz hzc)
    have hW := wf_write h.wf c zs
    have hk : writeK g.ps c zs.length = min zs.length (g.b - y.x.o.length) := by
      unfold writeK
      rw [hp]
      dsimp only
      rw [if_neg (by rw [hs]; decide)]
      rfl
    rw [← hk] at HC
    unfold writeS at hW ⊢
    rw [hp] at hW ⊢
    simp only [hs, Bool.false_eq_true, if_false] at hW ⊢
    have HK := hid (fun w' h1 => h.conn2 (w' := w') hy h1 hW)
    clear h hz hW hE hu hw hp hs hk
    generalize writeK g.ps c zs.length = k at *
    go_enter Try.func11, Try.ntmps11
    go_wp2_with fail
    refine HO.out.mono ?_
    rintro e w1 ⟨rfl, h9⟩
    obtain rfl : w = w1 := h9.symm
    clear h9
    go_wp2_with fail
    refine HC.out.mono ?_
    rintro e w2 ⟨rfl, hA⟩
    have HA := hid (HK.out _ hA)
    clear hA
    go_wp2_with fail
    go_ret2
    exact ⟨rfl, HA.out⟩
set_option maxHeartbeats 1000000 in
theorem nclose_any {w : World} {lo : Nat} {g : Nx} (h : Nt w lo g) (c : Int) : Calls Try.prog 14 #[.pointer (some ⟨g.B, 0, none⟩), .int .i64 c] w fun e w' => e = .returned (.int .i64 (useE g.ps c)) ∧ NtA w w' lo g (closeS g.ps c) := by
  have HO := hid (openI_any h c)
  rcases use_cases g c with ⟨hE, hu⟩ | ⟨y, hy, hu, hp, hE, hs⟩
  · obtain ⟨_, _, _, _, _, _, e2⟩ := use_bad hE []
    rw [e2]
    rw [hu] at HO
    change Hid (Calls _ _ _ _ (fun e w' => e = .returned (.tuple #[.pointer none, _]) ∧ w' = w)) at HO
    have HS := hid (h.same (Fr.refl w _))
    have t1 : (useE g.ps c == 0) = false := by simpa using hE
    clear h hE hu e2
    generalize useE g.ps c = E at *
    go_enter Try.func14, Try.ntmps14
    go_wp2_with fail
    refine HO.out.mono ?_
    rintro e w1 ⟨rfl, h9⟩
    obtain rfl : w = w1 := h9.symm
    clear h9
    go_wp2_with fail
    go_ret
    exact ⟨rfl, HS.out⟩
  · rw [hu, hE] at HO
    rw [hE]
    change Hid (Calls _ _ _ _ (fun e w' => e = .returned (.tuple #[.pointer (some ⟨y.k, 0, none⟩), _]) ∧ w' = w)) at HO
    have HC := hid (close_any (h.con _ _ (nx_at hy).2))
    have hW := wf_close h.wf c
    unfold closeS at hW ⊢
    rw [hp] at hW ⊢
    simp only [hs, Bool.false_eq_true, if_false] at hW ⊢
    have HK := hid (fun w' h1 => h.conn2 (w' := w') hy h1 hW)
    clear h hW hE hu hp hs
    go_enter Try.func14, Try.ntmps14
    go_wp2_with fail
    refine HO.out.mono ?_
    rintro e w1 ⟨rfl, h9⟩
    obtain rfl : w = w1 := h9.symm
    clear h9
    go_wp2_with fail
    refine HC.out.mono ?_
    rintro e w2 ⟨rfl, hA⟩
    have HA := hid (HK.out _ hA)
    clear hA
    go_wp2_with fail
    go_ret
    exact ⟨rfl, HA.out⟩
set_option maxHeartbeats 1000000 in
theorem ncut_any {w : World} {lo : Nat} {g : Nx} (h : Nt w lo g) (c : Int) : Calls Try.prog 13 #[.pointer (some ⟨g.B, 0, none⟩), .int .i64 c] w fun e w' => e = .returned (.int .i64 (cutE g.ps c)) ∧ NtA w w' lo g (cutS g.ps c) := by
  have HO := hid (find_any h c)
  rcases find_cases g c with ⟨hE, hu, _⟩ | ⟨y, hy, hp, hE⟩
  · obtain ⟨_, _, _, _, e1, e2, _⟩ := find_bad hE 0
    rw [e1, e2]
    rw [hu] at HO
    change Hid (Calls _ _ _ _ (fun e w' => e = .returned (.tuple #[.pointer none, _]) ∧ w' = w)) at HO
    have HS := hid (h.same (Fr.refl w _))
    have t1 : (findE g.ps c == 0) = false := by simpa using hE
    clear h hE hu e1 e2
    generalize findE g.ps c = E at *
    go_enter Try.func13, Try.ntmps13
    go_wp2_with fail
    refine HO.out.mono ?_
    rintro e w1 ⟨rfl, h9⟩
    obtain rfl : w = w1 := h9.symm
    clear h9
    go_wp2_with fail
    go_ret
    exact ⟨rfl, HS.out⟩
  · rw [hy, hE] at HO
    change Hid (Calls _ _ _ _ (fun e w' => e = .returned (.tuple #[.pointer (some ⟨y.k, 0, none⟩), _]) ∧ w' = w)) at HO
    have hw := wf_at h.wf hp
    have hcn := h.con _ _ (nx_at hy).2
    obtain ⟨_, _, _, _, _, c8, hlt⟩ := hcn.cells
    have HC := hid (cut_any hcn)
    have hW := wf_cut h.wf c
    unfold cutE cutS
    unfold cutS at hW
    rw [hp] at hW ⊢
    dsimp only at hW ⊢
    cases hs : y.x.ct with
    | true =>
      have HS := hid (h.same (Fr.refl w _))
      simp only [hs, if_true] at hW c8 ⊢
      clear h hW hE hw hp hcn
      go_enter Try.func13, Try.ntmps13
      go_wp2_with fail
      refine HO.out.mono ?_
      rintro e w1 ⟨rfl, h9⟩
      obtain rfl : w = w1 := h9.symm
      clear h9
      go_wp2_with fail
      go_ret
      exact ⟨rfl, HS.out⟩
    | false =>
      simp only [hs, Bool.false_eq_true, if_false] at hW c8 ⊢
      have HK := hid (fun w' h1 => h.conn2 (w' := w') hy h1 hW)
      clear h hW hE hw hp hcn
      go_enter Try.func13, Try.ntmps13
      go_wp2_with fail
      refine HO.out.mono ?_
      rintro e w1 ⟨rfl, h9⟩
      obtain rfl : w = w1 := h9.symm
      clear h9
      go_wp2_with fail
      refine HC.out.mono ?_
      rintro e w2 ⟨rfl, hA⟩
      have HA := hid (HK.out _ hA)
      clear hA
      go_wp2_with fail
      go_ret
      exact ⟨rfl, HA.out⟩
set_option maxHeartbeats 1000000 in
theorem nunder_any {w : World} {lo : Nat} {g : Nx} (h : Nt w lo g) (c : Int) : Calls Try.prog 16 #[.pointer (some ⟨g.B, 0, none⟩), .int .i64 c] w fun e w' => e = .returned (.tuple #[.int .i64 (undI g.ps c : Int), .int .i64 (undO g.ps c : Int)]) ∧ Fr w w' (fun _ => False) := by
  have HO := hid (find_any h c)
  rcases find_cases g c with ⟨hE, hu, _⟩ | ⟨y, hy, hp, hE⟩
  · obtain ⟨_, _, _, _, _, _, _, _, _, _, e1, e2⟩ := find_bad hE 0
    rw [e1, e2]
    rw [hu] at HO
    change Hid (Calls _ _ _ _ (fun e w' => e = .returned (.tuple #[.pointer none, _]) ∧ w' = w)) at HO
    have t1 : (findE g.ps c == 0) = false := by simpa using hE
    clear h hE hu e1 e2
    generalize findE g.ps c = E at *
    go_enter Try.func16, Try.ntmps16
    go_wp2_with fail
    refine HO.out.mono ?_
    rintro e w1 ⟨rfl, h9⟩
    obtain rfl : w = w1 := h9.symm
    clear h9
    go_wp2_with fail
    go_ret2
    exact ⟨rfl, Fr.refl _ _⟩
  · rw [hy, hE] at HO
    change Hid (Calls _ _ _ _ (fun e w' => e = .returned (.tuple #[.pointer (some ⟨y.k, 0, none⟩), _]) ∧ w' = w)) at HO
    have hw := wf_at h.wf hp
    have hcn := h.con _ _ (nx_at hy).2
    have hab := h.wf.a
    change 1 ≤ g.a ∧ g.a ≤ 131072 at hab
    have hia := hw.1
    change y.x.i.length ≤ g.a at hia
    have HC := hid (fun W (hf : Fr w W (fun _ => False)) => coming_any (hcn.still hf) hw.2.1 (by omega))
    have HG := hid (fun W (hf : Fr w W (fun _ => False)) => going_any (hcn.still hf))
    unfold undI undO
    rw [hp]
    dsimp only
    clear h hE hw hp hcn hab hia
    have HF0 := hid (Fr.refl w (fun _ => False))
    generalize y.x.w.length + y.x.i.length = u1 at *
    generalize y.x.o.length = u2 at *
    go_enter Try.func16, Try.ntmps16
    go_wp2_with fail
    refine HO.out.mono ?_
    rintro e w1 ⟨rfl, h9⟩
    obtain rfl : w = w1 := h9.symm
    clear h9
    go_wp2_with fail
    go_region_with (first | (go_at_call 36; refine (HC.out _ (by first | exact HF0.out | exact HF0.out.drew)).mono ?_; rintro e w1 ⟨rfl, hf⟩; (have HF3 := hid (Fr.trans (S := fun _ => False) (by first | exact HF0.out | exact HF0.out.drew) hf)); clear hf HF0; (have HF0 := HF3); clear HF3) | (go_at_call 37; refine (HG.out _ (by first | exact HF0.out | exact HF0.out.drew)).mono ?_; rintro e w2 ⟨rfl, h9⟩; subst h9))
    all_goals
      go_wp2_with fail
      go_ret2
      exact ⟨rfl, by first | exact HF0.out | exact HF0.out.drew⟩
set_option maxHeartbeats 1000000 in
theorem nis_any {w : World} {lo : Nat} {g : Nx} (h : Nt w lo g) (c : Int) : Calls Try.prog 15 #[.pointer (some ⟨g.B, 0, none⟩), .int .i64 c] w fun e w' => e = .returned (.tuple #[.bool (isO g.ps c), .bool (isT g.ps c)]) ∧ Fr w w' (fun _ => False) := by
  have HO := hid (find_any h c)
  rcases find_cases g c with ⟨hE, hu, _⟩ | ⟨y, hy, hp, hE⟩
  · obtain ⟨_, _, _, _, _, _, _, _, e1, e2, _, _⟩ := find_bad hE 0
    rw [e1, e2]
    rw [hu] at HO
    change Hid (Calls _ _ _ _ (fun e w' => e = .returned (.tuple #[.pointer none, _]) ∧ w' = w)) at HO
    have t1 : (findE g.ps c == 0) = false := by simpa using hE
    clear h hE hu e1 e2
    generalize findE g.ps c = E at *
    go_enter Try.func15, Try.ntmps15
    go_wp2_with fail
    refine HO.out.mono ?_
    rintro e w1 ⟨rfl, h9⟩
    obtain rfl : w = w1 := h9.symm
    clear h9
    go_wp2_with fail
    go_ret2
    exact ⟨rfl, Fr.refl _ _⟩
  · rw [hy, hE] at HO
    change Hid (Calls _ _ _ _ (fun e w' => e = .returned (.tuple #[.pointer (some ⟨y.k, 0, none⟩), _]) ∧ w' = w)) at HO
    have hcn := h.con _ _ (nx_at hy).2
    obtain ⟨_, _, _, _, _, c8, hlt⟩ := hcn.cells
    have HC := hid (isOpen_any hcn)
    have HC2 := hid (isOpen_any (hcn.still (Fr.refl w (fun _ => False)).drew))
    unfold isO isT
    rw [hp]
    dsimp only
    clear h hE hp hcn
    generalize y.x.shut = b1 at *
    generalize y.x.ct = b2 at *
    go_enter Try.func15, Try.ntmps15
    go_wp2_with fail
    refine HO.out.mono ?_
    rintro e w1 ⟨rfl, h9⟩
    obtain rfl : w = w1 := h9.symm
    clear h9
    go_wp2_with fail
    go_region_with (first | (go_at_call 35; first | (refine HC.out.mono ?_; rintro e w2 ⟨rfl, h9⟩; subst h9) | (refine HC2.out.mono ?_; rintro e w2 ⟨rfl, h9⟩; subst h9)))
    all_goals
      go_wp2_with fail
      go_ret2
      exact ⟨rfl, by repeat (first | exact Fr.refl _ _ | apply Fr.drew)⟩
set_option maxHeartbeats 1000000 in
theorem nheard_any {w : World} {lo : Nat} {g : Nx} (h : Nt w lo g) (hm : g.m ≤ 70368744177664) (c : Int) : Calls Try.prog 17 #[.pointer (some ⟨g.B, 0, none⟩), .int .i64 c] w fun e w' => ∃ u, e = .returned (.tuple #[u, .bool (heardN g.ps c)]) ∧ Rw w' w.heap.size 5 u (heardB g.ps c) ∧ Fr w w' (fun _ => False) := by
  have HO := hid (find_any h c)
  rcases find_cases g c with ⟨hE, hu, _⟩ | ⟨y, hy, hp, hE⟩
  · obtain ⟨_, _, _, _, _, _, e1, e2, _, _, _, _⟩ := find_bad hE 0
    rw [e1, e2]
    rw [hu] at HO
    change Hid (Calls _ _ _ _ (fun e w' => e = .returned (.tuple #[.pointer none, _]) ∧ w' = w)) at HO
    have t1 : (findE g.ps c == 0) = false := by simpa using hE
    clear h hE hu e1 e2
    generalize findE g.ps c = E at *
    go_enter Try.func17, Try.ntmps17
    go_wp2_with fail
    refine HO.out.mono ?_
    rintro e w1 ⟨rfl, h9⟩
    obtain rfl : w = w1 := h9.symm
    clear h9
    go_wp2_with fail
    go_ret2
    exact ⟨_, rfl, Rw.nil _ _ _, Fr.refl _ _⟩
  · rw [hy, hE] at HO
    change Hid (Calls _ _ _ _ (fun e w' => e = .returned (.tuple #[.pointer (some ⟨y.k, 0, none⟩), _]) ∧ w' = w)) at HO
    have hw := wf_at h.wf hp
    have hcn := h.con _ _ (nx_at hy).2
    have hhm := hw.2.2.2.1
    change y.x.h.length ≤ g.m at hhm
    have HC := hid (told_any hcn (by omega))
    have HG := hid (fun W (hf : Fr w W (fun _ => False)) => isAtEnd_any (hcn.still hf))
    unfold heardN heardB
    rw [hp]
    dsimp only
    clear h hE hw hp hcn hhm hm
    generalize y.x.end_ = u1 at *
    generalize y.x.h = u2 at *
    go_enter Try.func17, Try.ntmps17
    go_wp2_with fail
    refine HO.out.mono ?_
    rintro e w1 ⟨rfl, h9⟩
    obtain rfl : w = w1 := h9.symm
    clear h9
    go_wp2_with fail
    refine HC.out.mono ?_
    rintro e w2 ⟨u, rfl, hA⟩
    have HA := hid hA
    clear hA
    go_wp2_with fail
    refine (HG.out _ HA.out.2).mono ?_
    rintro e w3 ⟨rfl, h9⟩
    obtain rfl : w2 = w3 := h9.symm
    clear h9
    go_wp2_with fail
    go_ret2
    exact ⟨_, rfl, HA.out⟩
set_option maxHeartbeats 1000000 in
theorem nbring_any {w : World} {lo : Nat} {g : Nx} (h : Nt w lo g) (hlo : lo ≤ w.heap.size) (hm : g.m ≤ 70368744177664) (c most : Int) : Calls Try.prog 10 #[.pointer (some ⟨g.B, 0, none⟩), .int .i64 c, .int .i64 most] w fun e w' => e = .returned (.tuple #[.int .i64 (bringK g.ps c most : Int), .int .i64 (findE g.ps c)]) ∧ NtA w w' lo g (bringS g.ps c most) := by
  have HO := hid (find_any h c)
  rcases find_cases g c with ⟨hE, hu, _⟩ | ⟨y, hy, hp, hE⟩
  · obtain ⟨e1, e2, _, _, _, _, _, _, _, _, _, _⟩ := find_bad hE most
    rw [e1, e2]
    rw [hu] at HO
    change Hid (Calls _ _ _ _ (fun e w' => e = .returned (.tuple #[.pointer none, _]) ∧ w' = w)) at HO
    have HS := hid (h.same (Fr.refl w _))
    have t1 : (findE g.ps c == 0) = false := by simpa using hE
    clear h hE hu e1 e2
    generalize findE g.ps c = E at *
    go_enter Try.func10, Try.ntmps10
    go_wp2_with fail
    refine HO.out.mono ?_
    rintro e w1 ⟨rfl, h9⟩
    obtain rfl : w = w1 := h9.symm
    clear h9
    go_wp2_with fail
    go_ret2
    exact ⟨rfl, HS.out⟩
  · rw [hy, hE] at HO
    rw [hE]
    change Hid (Calls _ _ _ _ (fun e w' => e = .returned (.tuple #[.pointer (some ⟨y.k, 0, none⟩), _]) ∧ w' = w)) at HO
    have hw := wf_at h.wf hp
    have hcn := h.con _ _ (nx_at hy).2
    have hab := h.wf.a
    change 1 ≤ g.a ∧ g.a ≤ 131072 at hab
    have hbb := h.wf.b
    change 1 ≤ g.b ∧ g.b ≤ 131072 at hbb
    have HC := hid (bring_any hcn hlo hw.1 hab.2 most)
    have hW := wf_bring h.wf c most
    have hk : bringK g.ps c most = partN y.x.w.length (g.a - y.x.i.length) most := by
      unfold bringK
      rw [hp]
      rfl
    have hkb : bringK g.ps c most ≤ 131072 := by
      have h1 := hw.1
      have h3 := hw.2.2.1
      change y.x.i.length ≤ g.a at h1
      change y.x.o.length ≤ g.b at h3
      rw [hk]
      unfold partN
      omega
    rw [← hk] at HC
    unfold bringS at hW ⊢
    rw [hp] at hW ⊢
    dsimp only at hW ⊢
    generalize bringK g.ps c most = k at *
    have HK := hid (fun w' x (hW : Wf (g.ps.upd c x k)) (h1 : CnA w w' lo g.a g.b y x) => h.conn3 hy h1 hW (hm := by omega))
    have HK2 := hid (fun w' h1 => HK.out w' _ hW h1)
    clear h hW hE hw hp hk hcn HK hkb hab hbb hm
    go_enter Try.func10, Try.ntmps10
    go_wp2_with fail
    refine HO.out.mono ?_
    rintro e w1 ⟨rfl, h9⟩
    obtain rfl : w = w1 := h9.symm
    clear h9
    go_wp2_with fail
    refine HC.out.mono ?_
    rintro e w2 ⟨rfl, hA⟩
    have HA := hid (HK2.out _ hA)
    clear hA
    go_wp2_with fail
    refine HA.out.mono ?_
    rintro e w3 ⟨rfl, hB⟩
    have HB := hid hB
    clear hB
    go_wp2_with fail
    go_ret2
    exact ⟨rfl, HB.out⟩
set_option maxHeartbeats 1000000 in
theorem nfetch_any {w : World} {lo : Nat} {g : Nx} (h : Nt w lo g) (hlo : lo ≤ w.heap.size) (hm : g.m ≤ 70368744177664) (c most : Int) : Calls Try.prog 12 #[.pointer (some ⟨g.B, 0, none⟩), .int .i64 c, .int .i64 most] w fun e w' => e = .returned (.tuple #[.int .i64 (fetchK g.ps c most : Int), .int .i64 (findE g.ps c)]) ∧ NtA w w' lo g (fetchS g.ps c most) := by
  have HO := hid (find_any h c)
  rcases find_cases g c with ⟨hE, hu, _⟩ | ⟨y, hy, hp, hE⟩
  · obtain ⟨_, _, e1, e2, _, _, _, _, _, _, _, _⟩ := find_bad hE most
    rw [e1, e2]
    rw [hu] at HO
    change Hid (Calls _ _ _ _ (fun e w' => e = .returned (.tuple #[.pointer none, _]) ∧ w' = w)) at HO
    have HS := hid (h.same (Fr.refl w _))
    have t1 : (findE g.ps c == 0) = false := by simpa using hE
    clear h hE hu e1 e2
    generalize findE g.ps c = E at *
    go_enter Try.func12, Try.ntmps12
    go_wp2_with fail
    refine HO.out.mono ?_
    rintro e w1 ⟨rfl, h9⟩
    obtain rfl : w = w1 := h9.symm
    clear h9
    go_wp2_with fail
    go_ret2
    exact ⟨rfl, HS.out⟩
  · rw [hy, hE] at HO
    rw [hE]
    change Hid (Calls _ _ _ _ (fun e w' => e = .returned (.tuple #[.pointer (some ⟨y.k, 0, none⟩), _]) ∧ w' = w)) at HO
    have hw := wf_at h.wf hp
    have hcn := h.con _ _ (nx_at hy).2
    have hab := h.wf.a
    change 1 ≤ g.a ∧ g.a ≤ 131072 at hab
    have hbb := h.wf.b
    change 1 ≤ g.b ∧ g.b ≤ 131072 at hbb
    have HC := hid (fetch_any hcn hlo (Nat.le_trans hw.2.2.1 hbb.2) (Nat.le_trans hw.2.2.2.1 hm) most)
    have hW := wf_fetch h.wf c most
    have hk : fetchK g.ps c most = min y.x.o.length most.toNat := by
      unfold fetchK
      rw [hp]
    have hkb : fetchK g.ps c most ≤ 131072 := by
      have h1 := hw.1
      have h3 := hw.2.2.1
      change y.x.i.length ≤ g.a at h1
      change y.x.o.length ≤ g.b at h3
      rw [hk]
      omega
    rw [← hk] at HC
    unfold fetchS at hW ⊢
    rw [hp] at hW ⊢
    dsimp only at hW ⊢
    generalize fetchK g.ps c most = k at *
    have HK := hid (fun w' x (hW : Wf (g.ps.upd c x k)) (h1 : CnA w w' lo g.a g.b y x) => h.conn3 hy h1 hW (hm := by omega))
    have HK2 := hid (fun w' h1 => HK.out w' _ hW h1)
    clear h hW hE hw hp hk hcn HK hkb hab hbb hm
    go_enter Try.func12, Try.ntmps12
    go_wp2_with fail
    refine HO.out.mono ?_
    rintro e w1 ⟨rfl, h9⟩
    obtain rfl : w = w1 := h9.symm
    clear h9
    go_wp2_with fail
    refine HC.out.mono ?_
    rintro e w2 ⟨rfl, hA⟩
    have HA := hid (HK2.out _ hA)
    clear hA
    go_wp2_with fail
    refine HA.out.mono ?_
    rintro e w3 ⟨rfl, hB⟩
    have HB := hid hB
    clear hB
    go_wp2_with fail
    go_ret2
    exact ⟨rfl, HB.out⟩
end Go.Proofs.Ytedlpefglgleeab
