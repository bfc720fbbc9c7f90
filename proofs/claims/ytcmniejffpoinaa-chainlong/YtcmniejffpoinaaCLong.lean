/- ChainLong: the walk. -/
import Derived.Test.YtcmniejffpoinaaCWas
import Derived.Test.YtcmniejffpoinaaCPrune2
import Derived.Test.YtcmniejffpoinaaCInts
import Derived.Deep.DeepMust
namespace Go.Proofs.Ytcmniejffpoinaa
open Go.RowKit

/-- A number's remainder. -/
theorem rem_nat (x : Int) (k : Int) (hk : 0 < k) : ∃ m : Nat, x % k = (m : Int) ∧ (m : Int) < k := ⟨(x % k).toNat, by have := Int.emod_nonneg x (show k ≠ 0 by omega); omega, by have := Int.emod_lt_of_pos x hk; have := Int.emod_nonneg x (show k ≠ 0 by omega); omega⟩

/-- What stands when the chain is built. -/
structure LI (w wx : World) (B : Nat) (L : List Vn) : Prop where
  fr : Fr w wx (fun _ => False)
  ch : ∃ v, Ch wx w.heap.size B v L
  lt : w.heap.size ≤ B
theorem LI.step {w wx wy : World} {B : Nat} {L : List Vn} (h : LI w wx B L) (hf : Fr wx wy (fun _ => False)) : LI w wy B L := by
  obtain ⟨v, hc⟩ := h.ch
  exact ⟨h.fr.trans hf, ⟨v, hc.step hf⟩, h.lt⟩
theorem LI.put {w wx wy : World} {B : Nat} {L L' : List Vn} {v v' : Value} (h : LI w wx B L) (hc : Ch wx w.heap.size B v L) (hc' : Ch wy w.heap.size B v' L') (hf : Fr wx wy (fun k => k = B ∨ v.ownBlock = some k)) : LI w wy B L' :=
  ⟨hc.frOwn h.fr hf (Nat.le_refl _) h.lt, ⟨v', hc'⟩, h.lt⟩

/-- The chain, and the epochs that are asked. -/
structure LA (w wx : World) (B : Nat) (L : List Vn) (u : Value) (ask : List Int) (M : Int) : Prop where
  li : LI w wx B L
  own : wx.ownsRow w.heap.size 3 1 u ask.length (iv ask)
  bd : ∀ x ∈ ask, 0 ≤ x ∧ x < M
  len : ask.length ≤ 20000
theorem LA.is {w wx : World} {B : Nat} {L : List Vn} {u : Value} {ask : List Int} {M : Int} (h : LA w wx B L u ask M) (hM : M ≤ 100000) : Is wx u ask :=
  own_is h.own (fun x hx => by have := h.bd x hx; unfold fits; omega) (by have := h.len; omega)
theorem LA.step {w wx wy : World} {B : Nat} {L : List Vn} {u : Value} {ask : List Int} {M : Int} (h : LA w wx B L u ask M) (hf : Fr wx wy (fun _ => False)) : LA w wy B L u ask M :=
  ⟨h.li.step hf, own_fr h.own hf (fun _ _ h => h), h.bd, h.len⟩
theorem LA.put {w wx wa wy : World} {B : Nat} {L : List Vn} {u u' : Value} {ask : List Int} {M x : Int} (h : LA w wx B L u ask M) (hf : Fr wx wa (fun _ => False)) (hg : wa.grownBy wy u.ownBlock) (ho : wy.ownsRow w.heap.size 3 1 u' (ask.length + 1) (iv ask ++ [.int .i64 x])) (h0 : 0 ≤ x) (h1 : x < M) (hl : ask.length < 20000) : LA w wy B L u' (ask ++ [x]) M := by
  have ha := h.step hf
  obtain ⟨v, hc⟩ := ha.li.ch
  have hfg : Fr wa wy (fun k => u.ownBlock = some k) := (Fr.refl _ _).grown hg (fun k _ e => e)
  refine ⟨⟨ha.li.fr.trans2 hfg (fun k hk e => by have := (ha.own.lt k e).1; omega), ⟨v, hc.fr hfg (fun e => own_ne ha.own hc.cell (by decide) e) (fun k hk e => own_apart hc.own ha.own (by decide) k hk e)⟩, h.li.lt⟩, ?_, fun y hy => ?_, by simp; omega⟩
  · rw [List.length_append, List.length_singleton, iv_append]
    exact ho
  · rw [List.mem_append] at hy
    rcases hy with hy | hy
    · exact h.bd y hy
    · simp at hy
      subst hy
      exact ⟨h0, h1⟩
theorem LA.prune {w wx wy : World} {B : Nat} {L L' : List Vn} {u v v' : Value} {ask : List Int} {M : Int} (h : LA w wx B L u ask M) (hc : Ch wx w.heap.size B v L) (hc' : Ch wy w.heap.size B v' L') (hf : Fr wx wy (fun k => k = B ∨ v.ownBlock = some k)) : LA w wy B L' u ask M := by
  refine ⟨h.li.put hc hc' hf, own_fr h.own hf (fun k hk e => ?_), h.bd, h.len⟩
  rcases e with e | e
  · subst e
    exact own_ne h.own hc.cell (by decide) hk
  · exact own_apart hc.own h.own (by decide) k e hk

set_option maxHeartbeats 4000000 in
set_option maxRecDepth 100000 in
theorem chainLong_walk (n a d e o : Int) (w : World) :
    Calls Try.prog 8 #[.int .i64 n, .int .i64 a, .int .i64 d, .int .i64 e, .int .i64 o] w fun r w' => r = .returned (.bool true) ∧ Fr w w' (fun _ => False) := by
  obtain ⟨i0, hi0, hz0, hz1, hz2⟩ := info_parts Try.info_int
  go_enter Try.func8, Try.ntmps8
  go_wp2_with fail
  refine (known_any _).mono ?_
  rintro r w1 ⟨rfl, hf1⟩
  have HF1 := hid hf1
  clear hf1
  go_wp2_with fail
  refine (within_any n 3000 (by decide) (by decide) _).mono ?_
  rintro r w2 ⟨rfl, rfl⟩
  obtain ⟨m, hm, hmb⟩ := rem_nat n 3000 (by decide)
  rw [hm]
  clear hm
  go_wp2_with fail
  refine (within_any a 5 (by decide) (by decide) _).mono ?_
  rintro r w2 ⟨rfl, rfl⟩
  obtain ⟨a0, ha, hab⟩ := rem_nat a 5 (by decide)
  rw [ha]
  clear ha
  go_wp2_with fail
  refine (within_any d 9 (by decide) (by decide) _).mono ?_
  rintro r w2 ⟨rfl, rfl⟩
  obtain ⟨d0, hd, hdb⟩ := rem_nat d 9 (by decide)
  rw [hd]
  clear hd
  go_wp2_with fail
  refine (within_any e 400 (by decide) (by decide) _).mono ?_
  rintro r w2 ⟨rfl, rfl⟩
  obtain ⟨e0, he, heb⟩ := rem_nat e 400 (by decide)
  rw [he]
  clear he
  go_wp2_with fail
  refine (within_any o 400 (by decide) (by decide) _).mono ?_
  rintro r w2 ⟨rfl, rfl⟩
  obtain ⟨o0, ho, hob⟩ := rem_nat o 400 (by decide)
  rw [ho]
  clear ho
  go_wp2_with fail
  refine (new_any _).mono ?_
  rintro r w3 ⟨rfl, hC, hf3, _⟩
  have HL0 : Hid (LI w w3 w2.heap.size (LL (1 + (a0 : Int)) (2 + (d0 : Int)) 0)) := ⟨HF1.out.trans hf3, ⟨_, hC _⟩, HF1.out.size⟩
  clear hC hf3 HF1
  generalize w2.heap.size = B at *
  generalize hA : (1 : Int) + (a0 : Int) = A at *
  generalize hD : (2 : Int) + (d0 : Int) = D at *
  generalize hE : (1 : Int) + (e0 : Int) = E at *
  have a1 : 1 ≤ A := by omega
  have a5 : A ≤ 5 := by omega
  have d2 : 2 ≤ D := by omega
  have d11 : D ≤ 11 := by omega
  have e1 : 1 ≤ E := by omega
  have e400 : E ≤ 400 := by omega
  have dz : ¬ D = 0 := by omega
  have dz1 : ¬ D = -1 := by omega
  have hm3 : m ≤ 3000 := by omega
  clear hA hD hE hab hdb heb
  obtain ⟨En, rfl⟩ : ∃ En : Nat, E = (En : Int) := ⟨E.toNat, by omega⟩
  have HM := hid (mul_le5 (j := (m : Int)) (a := A) (by omega) (by omega) a1 a5)
  obtain ⟨M, hM⟩ : ∃ M : Nat, (m : Int) * A = (M : Int) := ⟨((m : Int) * A).toNat, by have := HM.out; omega⟩
  have hMb : M ≤ 15000 := by have := HM.out; omega
  have HMeq := hid hM
  clear HM hM
  go_wp2_with fail
  go_loopg [12] m (fun g s12 wx => ∃ i : Nat, s12 = .int .i64 (i : Int) ∧ 1 ≤ i ∧ i + g = m + 1 ∧ Hid (LI w wx B (LL A D (i - 1))))
  case atStart => exact ⟨1, rfl, by omega, by omega, HL0⟩
  case round =>
    obtain ⟨i, rfl, h1i, hg, HL⟩ := hrel
    clear HL0
    cases gk with
    | zero =>
      have t1 : ¬ (i : Int) ≤ (m : Int) := by omega
      have HI := hid (show i - 1 = m by omega)
      have HL1 : Hid (LI w wr B (LL A D m)) := by have := HL.out; rw [HI.out] at this; exact this
      clear HL HI hg h1i
      obtain ⟨v, hc⟩ := HL1.out.ch
      have HLen := hid (len_any wr hc)
      rw [LL_len] at HLen
      have hwM : IntKind.i64.wrap ((m : Int) * A) = (M : Int) := by rw [HMeq.out]; exact wrap_fit (by unfold fits; omega)
      clear hc
      go_wp2_with fail
      refine HLen.out.mono ?_
      rintro r w6 ⟨rfl, rfl⟩
      go_wp2_with fail
      have HA0 : Hid (LA w w6 B (LL A D m) (.slice none 0 0) [] (M : Int)) := ⟨HL1.out, ⟨rfl, Or.inl ⟨rfl, rfl⟩⟩, fun x hx => by simp at hx, by simp⟩
      clear HL1 HLen
      go_loopg [15, 16] M (fun g s15 s16 wx => ∃ (x : Nat) (ask : List Int), s16 = .int .i64 (x : Int) ∧ M ≤ x + g ∧ x ≤ 20000 ∧ ask.length ≤ x ∧ Hid (LA w wx B (LL A D m) s15 ask (M : Int)))
      case atStart => exact ⟨o0, [], rfl, by omega, by omega, by simp, HA0⟩
      case round =>
        obtain ⟨x, ask, rfl, hg, hx2, hax, HA⟩ := hrel
        rename_i s15
        clear HA0
        by_cases hxM : x < M
        · obtain ⟨g, rfl⟩ : ∃ g, gk = g + 1 := ⟨gk - 1, by omega⟩
          have t1 : (x : Int) < (M : Int) := by omega
          obtain ⟨ao, cap, rfl⟩ := own_nil_shape HA.out.own
          have hsz := HA.out.li.fr.size
          go_wp2_with (at_builtin; go_must (refine wpList_append_own_at _ rfl (.tmp 87) (.tmp 89) 38 rfl w.heap.size 3 i0 (.int .i64 0) 1 8 Try.underlying38 hi0 hz0 hz1 hz2 rfl (by decide) _ _ _ rfl (own_fr HA.out.own (alloc_fr wr _ (fun _ => False)) (fun _ _ h => h)) ⟨wr.heap.size, 0, none⟩ 1 1 [.int .i64 (x : Int)] rfl rfl (cells_new _ _ _) ?c2 ?c3 ?c4 ?c5 ?_))
          case c2 => intro u hu; simp at hu; subst hu; rfl
          case c3 => unfold maxLen; omega
          case c4 => omega
          case c5 => simp; omega
          intro u' w7 hown7 hgrow7 _ _
          have HA7 := hid (HA.out.put (alloc_fr wr _ _) hgrow7 hown7 (by omega) t1 (by omega))
          clear hown7 hgrow7
          go_wp2_with fail
          go_roundg g
          case measure => omega
          case rel => exact ⟨x + En, ask ++ [(x : Int)], by go_num, by omega, by omega, by simp; omega, HA7⟩
        · have t1 : ¬ (x : Int) < (M : Int) := by omega
          obtain ⟨ao, cap, rfl⟩ := own_nil_shape HA.out.own
          clear hg hax hx2 hxM
          have hal := HA.out.len
          go_wp2_with fail
          go_loopg [17] ask.length (fun g s17 wx => ∃ k : Nat, s17 = .int .i64 (k : Int) ∧ k + g = ask.length ∧ Hid (LA w wx B (LL A D m) (.slice ao ask.length cap) ask (M : Int)))
          case atStart => exact ⟨0, rfl, by omega, HA⟩
          case round =>
            obtain ⟨k, rfl, hg, HB⟩ := hrel
            clear HA
            cases gk with
            | zero =>
              have t2 : ¬ (k : Int) < (ask.length : Int) := by omega
              clear hg
              obtain ⟨v, hc⟩ := HB.out.li.ch
              have HPr := hid (prune_any wr hc (HB.out.is (by omega)))
              rw [LL_len] at HPr
              have HC := hid hc
              have HPL := hid (pruneL_len (held := ask) (LL_good (d := D) a1 a5 m hm3))
              have HPM := hid ((pruneL_sub ask (LL A D m)).length_le)
              rw [LL_len] at HPM
              have HT2 := hid (fun (y : Int) (hy : y ∈ ask) (h0 : 0 ≤ y) (h1 : y < (m : Int) * A) => was_two (d := D) a1 a5 hm3 h0 h1 hy)
              have HT3 := hid (fun (h0 : m ≠ 0) (hL : pruneL ask (LL A D m) ≠ []) => was_three (d := D) a1 a5 hm3 h0 hL)
              have HT4 := hid (fun (h0 : m ≠ 0) (hL : pruneL ask (LL A D m) = []) => dead_gone (a := A) (d := D) (held := ask) h0 hL)
              rw [HMeq.out] at HT3
              clear hc
              go_wp2_with fail
              refine HPr.out.mono ?_
              rintro r w9 ⟨rfl, v9, hc9, hf9, _⟩
              have HB9 := hid (HB.out.prune HC.out hc9 hf9)
              have HC9 := hid hc9
              clear HB HC HPr hc9 hf9
              have hu := unl_le ask
              generalize hP : pruneL ask (LL A D m) = P at *
              have hpl1 : P.length ≤ ask.length + 1 := by have := HPL.out; omega
              have hpl2 := HPM.out
              have t3 : (m : Int) - ((m : Int) - (P.length : Int)) = (P.length : Int) := by omega
              have t4 : ¬ (ask.length : Int) + 1 < (P.length : Int) := by omega
              clear hu
              go_wp2_with fail
              refine (len_any _ HC9.out).mono ?_
              rintro r w10 ⟨rfl, rfl⟩
              go_wp2_with fail
              refine (len_any _ HC9.out).mono ?_
              rintro r w11 ⟨rfl, rfl⟩
              go_wp2_with fail
              go_loopg [19] ask.length (fun g s19 wx => ∃ k : Nat, s19 = .int .i64 (k : Int) ∧ k + g = ask.length ∧ Hid (LA w wx B P (.slice ao ask.length cap) ask (M : Int)))
              case atStart => exact ⟨0, rfl, by omega, HB9⟩
              case round =>
                obtain ⟨k2, rfl, hg, HB⟩ := hrel
                clear HB9 HC9
                cases gk with
                | zero =>
                  have t5 : ¬ (k2 : Int) < (ask.length : Int) := by omega
                  clear hg
                  have q2 : (m : Int).tmod D = (m : Int) % D := Int.tmod_eq_emod_of_nonneg (by omega)
                  obtain ⟨v, hc⟩ := HB.out.li.ch
                  have HC := hid hc
                  clear hc
                  by_cases hm0 : m = 0
                  · have t6 : ((m : Int) == 0) = true := by simp; omega
                    clear hm0
                    go_wp2_with fail
                    go_ret
                    exact ⟨rfl, HB.out.li.fr⟩
                  · have t6 : ((m : Int) == 0) = false := by simp; omega
                    by_cases hPn : P = []
                    · have t7 : ((P.length : Int) == 0) = true := by rw [hPn]; rfl
                      have t8 : ((m : Int) % D == 0) = true := by have := HT4.out hm0 hPn; simpa using this
                      clear hm0 hPn
                      go_wp2_with fail
                      refine (len_any _ HC.out).mono ?_
                      rintro r w12 ⟨rfl, rfl⟩
                      go_wp2_with fail
                      go_ret
                      exact ⟨rfl, HB.out.li.fr⟩
                    · have t7 : ((P.length : Int) == 0) = false := by
                        have := List.length_pos_iff.2 hPn
                        simp
                        exact hPn
                      have HW := hid (was_any ((M : Int) + 7) A D wr HC.out (by omega) (by omega) a1 a5 d2 (by omega) (HT3.out hm0 hPn))
                      clear hm0 hPn
                      go_wp2_with fail
                      refine (len_any _ HC.out).mono ?_
                      rintro r w12 ⟨rfl, rfl⟩
                      go_wp2_with fail
                      refine HW.out.mono ?_
                      rintro r w13 ⟨rfl, hf13⟩
                      have HF13 := hid (HB.out.li.fr.trans hf13)
                      clear hf13
                      go_wp2_with fail
                      go_ret
                      exact ⟨rfl, HF13.out⟩
                | succ g =>
                  have hk : k2 < ask.length := by omega
                  have t5 : (k2 : Int) < (ask.length : Int) := by omega
                  have HG := hid hg
                  clear hg
                  obtain ⟨ao', cap', e1', _, _, hcell⟩ := HB.out.is (by omega)
                  simp only [Value.slice.injEq] at e1'
                  obtain ⟨rfl, _, rfl⟩ := e1'
                  obtain ⟨b, off, e2, hck⟩ := hcell (by rintro rfl; simp at hk)
                  subst e2
                  have hx := hck k2 hk
                  have hbl := World.block_lt_of_cell? wr _ hx
                  dsimp only at hbl
                  have hmem : ask.getD k2 0 ∈ ask := by simp [List.getD, hk]
                  have hbd := HB.out.bd (ask.getD k2 0) hmem
                  clear hck hcell
                  generalize ask.getD k2 0 = y at *
                  obtain ⟨v, hc⟩ := HB.out.li.ch
                  have HW := hid (was_any y A D wr hc hbd.1 (by omega) a1 a5 d2 (by omega) (HT2.out y hmem hbd.1 (by rw [HMeq.out]; exact hbd.2)))
                  clear hc hk hbd hmem
                  go_wp2_with fail
                  refine HW.out.mono ?_
                  rintro r w8 ⟨rfl, hf8⟩
                  have HB8 := hid (HB.out.step hf8)
                  clear hf8
                  go_wp2_with fail
                  go_roundg g
                  case measure => omega
                  case rel => exact ⟨k2 + 1, by go_num, by have := HG.out; omega, HB8⟩
            | succ g =>
              have hk : k < ask.length := by omega
              have t2 : (k : Int) < (ask.length : Int) := by omega
              have HG := hid hg
              clear hg
              obtain ⟨ao', cap', e1', _, _, hcell⟩ := HB.out.is (by omega)
              simp only [Value.slice.injEq] at e1'
              obtain ⟨rfl, _, rfl⟩ := e1'
              obtain ⟨b, off, e2, hck⟩ := hcell (by rintro rfl; simp at hk)
              subst e2
              have hx := hck k hk
              have hbl := World.block_lt_of_cell? wr _ hx
              dsimp only at hbl
              have hbd := HB.out.bd (ask.getD k 0) (by simp [List.getD, hk])
              clear hck hcell
              generalize ask.getD k 0 = y at *
              obtain ⟨v, hc⟩ := HB.out.li.ch
              have HW := hid (was_any y A D wr hc hbd.1 (by omega) a1 a5 d2 (by omega) (was_one a1 a5 hm3 hbd.1 (by rw [HMeq.out]; exact hbd.2)))
              clear hc hk hbd
              go_wp2_with fail
              refine HW.out.mono ?_
              rintro r w8 ⟨rfl, hf8⟩
              have HB8 := hid (HB.out.step hf8)
              clear hf8
              go_wp2_with fail
              go_roundg g
              case measure => omega
              case rel => exact ⟨k + 1, by go_num, by have := HG.out; omega, HB8⟩
    | succ g =>
      have t1 : (i : Int) ≤ (m : Int) := by omega
      obtain ⟨v, hc⟩ := HL.out.ch
      have hlen := LL_len A D (i - 1)
      have hb := mul_le5 (j := (i : Int)) (a := A) (by omega) (by omega) a1 a5
      have hw : IntKind.i64.wrap ((i : Int) * A) = (i : Int) * A := wrap_fit (by unfold fits; omega)
      have HP := hid (LL_put (d := D) a1 a5 (m := i - 1) (by omega))
      have HK := hid (LL_kill (d := D) a1 a5 (m := i - 1) (by omega))
      have HV := hid (LL_live (a := A) (d := D) (m := i - 1))
      rw [show i - 1 + 1 = i by omega] at HP HK HV
      have HPut := hid (put_any ((i : Int) * A) (i : Int) wr hc (by unfold fits; omega) (by omega) HL.out.fr.size)
      rw [HP.out.1, HP.out.2.1, HP.out.2.2] at HPut
      have HC := hid hc
      have HKill := hid (fun (W : World) (v' : Value) (hc' : Ch W w.heap.size B v' (LL A D (i - 1) ++ [⟨(i : Int) * A, true, (i : Int)⟩])) (hf : Fr w W (fun _ => False)) => kill_any ((i : Int) * A) W hc' (by simp; omega) hf.size)
      have HG := hid hg
      have q2 : (i : Int).tmod D = (i : Int) % D := Int.tmod_eq_emod_of_nonneg (by omega)
      have HH1 := hid h1i
      clear hc hlen hg hb
      go_wp2_with fail
      refine HPut.out.mono ?_
      rintro r w4 ⟨rfl, v4, hc4, hf4, _⟩
      have HL4 := hid (HL.out.put HC.out hc4 hf4)
      have HC4 := hid hc4
      clear hc4 hf4
      by_cases hde : (i : Int) % D = 0
      · have HK2 := hid (HK.out hde)
        have HKl2 := hid (HKill.out w4 v4 HC4.out HL4.out.fr)
        rw [HK2.out.1, HK2.out.2.1, HK2.out.2.2] at HKl2
        have t2 : ((i : Int) % D == 0) = true := by simpa using hde
        clear hde HK HKill
        go_wp2_with fail
        refine HKl2.out.mono ?_
        rintro r w5 ⟨rfl, v5, hc5, hf5, _⟩
        have HL5 := hid (HL4.out.put HC4.out hc5 hf5)
        clear hc5 hf5
        go_wp2_with fail
        go_roundg g
        case measure => omega
        case rel => exact ⟨i + 1, by go_num, by omega, by have := HG.out; omega, by rw [show i + 1 - 1 = i by omega]; exact HL5⟩
      · have t2 : ((i : Int) % D == 0) = false := by simpa using hde
        have HV2 := hid (HV.out hde)
        rw [HV2.out] at HL4
        clear hde HK HKill
        go_wp2_with fail
        go_roundg g
        case measure => omega
        case rel => exact ⟨i + 1, by go_num, by omega, by have := HG.out; omega, by rw [show i + 1 - 1 = i by omega]; exact HL4⟩
end Go.Proofs.Ytcmniejffpoinaa
