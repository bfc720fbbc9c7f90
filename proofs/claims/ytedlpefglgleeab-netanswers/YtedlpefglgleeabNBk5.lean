/- NetAnswers: the copy; the net's numbers; the books that apart asks for. -/
import Derived.Test.YtedlpefglgleeabNBk4
import Derived.Test.YtedlpefglgleeabNHead
import Derived.Maps.AppendAt
namespace Go.Proofs.Ytedlpefglgleeab
open Go.RowKit

set_option maxHeartbeats 4000000 in
theorem copiedq_any {ao : Option Addr} {cap : Nat} {xs : List Nat} {w : World} (hv : Bs w (.slice ao xs.length cap) xs) (hl : xs.length ≤ 140737488355328) : Calls Try.prog 22 #[.slice ao xs.length cap] w fun e w' => ∃ a c, e = .returned (.slice a xs.length c) ∧ Rw w' w.heap.size 5 (.slice a xs.length c) xs ∧ Fr w w' (fun _ => False) := by
  obtain ⟨i0, hi, hz0, hz1, hz2⟩ := info_parts Try.info5
  go_enter Try.func22, Try.ntmps22
  go_wp2_with (at_builtin; refine wpl_rw _ rfl _ _ 22 rfl w.heap.size 5 i0 Try.underlying22 hi hz0 hz1 hz2 (.slice none 0 0) [] (by rfl) (Rw.nil _ _ _) _ xs (by rfl) hv (by simp; omega) (Nat.le_refl _) xs.length (by simp) ?_; intro a2 c2 w2 h1 h2 h3)
  go_ret
  refine ⟨_, _, rfl, by simpa using h1.out, h2.out.mono (fun k hk e => by simp [Value.ownBlock] at e)⟩

/-- A connection with nothing under way, that has heard h. -/
def Sm (x : Cp) (h : List Nat) : Prop := x.cl = false ∧ x.ct = false ∧ x.i = [] ∧ x.w = [] ∧ x.o = [] ∧ x.h = h
theorem one_round {s : Np} {c d : Int} {x y : Cp} {m : Nat} {h z : List Nat} (h1 : One s c x 200 200 m) (h2 : One s d y 200 200 m) (hcd : c ≠ d) (hx : Sm x h) (hz : z.length ≤ 100) :
    sendE s c z = 0 ∧ writeK (sendS s c z) c z.length = z.length ∧ useE (sendS s c z) c = 0 ∧ (writeS (sendS s c z) c z).m = m ∧ (bringS (writeS (sendS s c z) c z) c 1000).m = m + z.length ∧ takeB (fetchS (bringS (writeS (sendS s c z) c z) c 1000) c 1000) c = z ∧ useE (fetchS (bringS (writeS (sendS s c z) c z) c 1000) c 1000) c = 0 ∧ ∃ x', One (takeS (fetchS (bringS (writeS (sendS s c z) c z) c 1000) c 1000) c) c x' 200 200 (m + z.length + z.length) ∧ One (takeS (fetchS (bringS (writeS (sendS s c z) c z) c 1000) c 1000) c) d y 200 200 (m + z.length + z.length) ∧ Sm x' (h ++ z) := by
  obtain ⟨h3, h4, h5, h6, h7, h8⟩ := hx
  have hw : x.w.length + z.length ≤ 1048576 := by rw [h6]; simp; omega
  obtain ⟨a0, x1, a1, a2, a3, a4, a5, a6, a7⟩ := h1.sendX (shut_no h3 h4) hw
  have g1 : One (sendS s c z) d y 200 200 m := by rw [(h1.send (shut_no h3 h4) hw).2]; exact h2.other h1.is hcd
  have s1 : x1.shut = false := shut_no (by rw [a6, h3]) (by rw [a7, h4])
  obtain ⟨b0, x2, b1, b2, b3, b4, b5, b6, b7⟩ := a1.writeX s1 z (k := z.length) (by rw [a4, h7]; simp; omega)
  have g2 : One (writeS (sendS s c z) c z) d y 200 200 m := by rw [(a1.write s1 z).2]; exact g1.other h1.is hcd
  have hk : partN x2.w.length (200 - x2.i.length) 1000 = z.length := by
    rw [b3, a3, b2, a2, h5, h6]
    unfold partN
    simp only [List.nil_append, List.length_nil]
    omega
  obtain ⟨_, x3, c1, c2, c3, c4, c5, c6, c7⟩ := b1.bringX 1000 hk
  have g3 : One (bringS (writeS (sendS s c z) c z) c 1000) d y 200 200 (m + z.length) := by rw [(b1.bring 1000).2, hk]; exact g2.other h1.is hcd
  have hk2 : min x3.o.length (1000 : Int).toNat = z.length := by
    rw [c4, b4, a4, h7]
    simp only [List.nil_append, List.take_length]
    show min z.length 1000 = z.length
    omega
  obtain ⟨_, x4, d1, d2, d3, d4, d5, d6, d7⟩ := c1.fetchX 1000 hk2
  have g4 : One (fetchS (bringS (writeS (sendS s c z) c z) c 1000) c 1000) d y 200 200 (m + z.length + z.length) := by rw [(c1.fetch 1000).2, hk2]; exact g3.other h1.is hcd
  have hs4 : x4.shut = false := shut_no (by rw [d6, c6, b6, a6, h3]) (by rw [d7, c7, b7, a7, h4])
  obtain ⟨e0, x5, e1, e2, e3, e4, e5, e6, e7⟩ := d1.takeX hs4
  have g5 : One (takeS (fetchS (bringS (writeS (sendS s c z) c z) c 1000) c 1000) c) d y 200 200 (m + z.length + z.length) := by rw [(d1.take hs4).2]; exact g4.other h1.is hcd
  refine ⟨a0, b0, a1.use s1, b1.m, c1.m, ?_, d1.use hs4, x5, e1, g5, ?_, ?_, e2, ?_, ?_, ?_⟩
  · rw [e0, d2, c2, b2, a2, h5, b3, a3, h6]
    simp
  · rw [e6, d6, c6, b6, a6, h3]
  · rw [e7, d7, c7, b7, a7, h4]
  · rw [e3, d3, c3, b3, a3, h6]
    simp
  · rw [e4, d4, c4, b4, a4, h7]
    simp
  · rw [e5, d5, c5, b5, a5, h8, c4, b4, a4, h7]
    simp
def OT (s : Np) (P : Nat → Pr) (n : Nat) : Prop := ∃ x1 x2 m, One s 1 x1 200 200 m ∧ One s 2 x2 200 200 m ∧ m ≤ n ∧ Sm x1 (P 1).2 ∧ Sm x2 (P 2).2
def putP (P : Nat → Pr) (c : Nat) (q : Pr) : Nat → Pr := fun d => if d = c then q else P d
theorem ot_round {s : Np} {P : Nat → Pr} {n c : Nat} {z : List Nat} (h : OT s P n) (hc : c = 1 ∨ c = 2) (hz : z.length ≤ 100) :
    sendE s (c : Int) z = 0 ∧ writeK (sendS s c z) c z.length = z.length ∧ useE (sendS s c z) c = 0 ∧ (writeS (sendS s c z) c z).m ≤ n ∧ (bringS (writeS (sendS s c z) c z) c 1000).m ≤ n + 100 ∧ takeB (fetchS (bringS (writeS (sendS s c z) c z) c 1000) c 1000) c = z ∧ useE (fetchS (bringS (writeS (sendS s c z) c z) c 1000) c 1000) c = 0 ∧ ∀ v, OT (takeS (fetchS (bringS (writeS (sendS s c z) c z) c 1000) c 1000) c) (putP P c (v, (P c).2 ++ z)) (n + 200) := by
  obtain ⟨x1, x2, m, h1, h2, hm, h3, h4⟩ := h
  rcases hc with rfl | rfl
  · obtain ⟨a1, a2, a3, a4, a5, a6, a7, x', a8, a9, a10⟩ := one_round h1 h2 (by decide) h3 hz
    exact ⟨a1, a2, a3, by rw [show ((1 : Nat) : Int) = 1 from rfl, a4]; exact hm, by rw [show ((1 : Nat) : Int) = 1 from rfl, a5]; omega, a6, a7, fun v => ⟨x', x2, _, a8, a9, by omega, a10, h4⟩⟩
  · obtain ⟨a1, a2, a3, a4, a5, a6, a7, x', a8, a9, a10⟩ := one_round h2 h1 (by decide) h4 hz
    exact ⟨a1, a2, a3, by rw [show ((2 : Nat) : Int) = 2 from rfl, a4]; exact hm, by rw [show ((2 : Nat) : Int) = 2 from rfl, a5]; omega, a6, a7, fun v => ⟨x1, x', _, a9, a8, by omega, h3, a10⟩⟩
theorem ot_heard {s : Np} {P : Nat → Pr} {n d : Nat} (h : OT s P n) (hd : d = 1 ∨ d = 2) : heardB s (d : Int) = (P d).2 ∧ s.m ≤ n ∧ takeB s (d : Int) = [] ∧ OT (takeS s (d : Int)) P n := by
  obtain ⟨x1, x2, m, h1, h2, hm, ⟨b1, b2, b3, b4, b5, b6⟩, ⟨c1, c2, c3, c4, c5, c6⟩⟩ := h
  rcases hd with rfl | rfl
  · obtain ⟨e0, x5, e1, e2, e3, e4, e5, e6, e7⟩ := h1.takeX (shut_no b1 b2)
    exact ⟨by rw [show ((1 : Nat) : Int) = 1 from rfl, h1.heard.1, b6], by rw [h1.m]; exact hm, by rw [show ((1 : Nat) : Int) = 1 from rfl, e0, b3], x5, x2, m, e1, by rw [show ((1 : Nat) : Int) = 1 from rfl, (h1.take (shut_no b1 b2)).2]; exact h2.other h1.is (by decide), hm, ⟨by rw [e6, b1], by rw [e7, b2], e2, by rw [e3, b4], by rw [e4, b5], by rw [e5, b6]⟩, c1, c2, c3, c4, c5, c6⟩
  · obtain ⟨e0, x5, e1, e2, e3, e4, e5, e6, e7⟩ := h2.takeX (shut_no c1 c2)
    exact ⟨by rw [show ((2 : Nat) : Int) = 2 from rfl, h2.heard.1, c6], by rw [h1.m]; exact hm, by rw [show ((2 : Nat) : Int) = 2 from rfl, e0, c3], x1, x5, m, by rw [show ((2 : Nat) : Int) = 2 from rfl, (h2.take (shut_no c1 c2)).2]; exact h1.other h2.is (by decide), e1, hm, ⟨b1, b2, b3, b4, b5, b6⟩, ⟨by rw [e6, c1], by rw [e7, c2], e2, by rw [e3, c4], by rw [e4, c5], by rw [e5, c6]⟩⟩
theorem ot_open {P : Nat → Pr} (h1 : (P 1).2 = []) (h2 : (P 2).2 = []) : openE (np0 200 200) 1 = 0 ∧ openE (openS (np0 200 200) 1) 2 = 0 ∧ OT (openS (openS (np0 200 200) 1) 2) P 0 := by
  obtain ⟨a1, a2⟩ := one_new (a := 200) (b := 200) (c := 1) (by decide)
  obtain ⟨b1, b2⟩ := openE_new (s := openS (np0 200 200) 1) (c := 2) (by decide) (by rw [(openE_new (s := np0 200 200) (c := 1) (by decide) rfl).2, upd_other (by decide) (by decide)]; rfl)
  refine ⟨a1, b1, cp0, cp0, 0, ?_, ?_, Nat.le_refl _, ?_, ?_⟩
  · rw [b2]; exact a2.other (by decide) (by decide)
  · rw [b2]; exact ⟨by decide, upd_at (by decide), a2.a, a2.b, a2.m⟩
  · rw [h1]; exact ⟨rfl, rfl, rfl, rfl, rfl, rfl⟩
  · rw [h2]; exact ⟨rfl, rfl, rfl, rfl, rfl, rfl⟩
theorem NB.box {w W : World} {A : Nat} {s : Np} {O : Nat → Prop} {H c : Nat} {P : Nat → Pr} {vK vW : Value} {SK SW : List Value} {R : List Pr} {q : Pr} (h : NB w W A s O H (P 1) (P 2) vK vW SK SW R) (hc : c = 1 ∨ c = 2) (hq : q ∈ R) : NB w (W.setCell ⟨H, c, none⟩ q.1) A s O H (putP P c q 1) (putP P c q 2) vK vW SK SW R := by
  rcases hc with rfl | rfl
  · exact h.box1 hq
  · exact h.box2 hq
theorem NB.slot {w W : World} {A : Nat} {s : Np} {O : Nat → Prop} {H c : Nat} {P : Nat → Pr} {vK vW : Value} {SK SW : List Value} {R : List Pr} (h : NB w W A s O H (P 1) (P 2) vK vW SK SW R) (hc : c = 1 ∨ c = 2) : W.cell? ⟨H, c, none⟩ = some (P c).1 ∧ W.frozen? ⟨H, c, none⟩ = false ∧ Rw W w.heap.size 5 (P c).1 (P c).2 := by
  refine ⟨?_, by simp [World.frozen?, h.hh], ?_⟩
  · rw [cell_of_row W H c _ _ (0, 0) h.hh]
    rcases hc with rfl | rfl <;> rfl
  · rcases hc with rfl | rfl
    · exact h.m1.1
    · exact h.m2.1
theorem getD_map1 (L : List Pr) (i : Nat) (hi : i < L.length) : (L.map (·.1)).getD i nq = (L[i]).1 ∧ (L.map (·.2)).getD i [] = (L[i]).2 := by
  simp [List.getD, hi]
theorem kq_of {w W : World} {L : List Pr} (h1 : ∀ p ∈ L, Rw W w.heap.size 5 p.1 p.2) (h2 : L.Pairwise Ap) : Kq W w.heap.size (L.map (·.1)) (L.map (·.2)) := by
  refine ⟨by simp, fun i hi => ?_, fun i j hi hj hij k hk => ?_⟩
  · rw [List.length_map] at hi
    rw [(getD_map1 L i hi).1, (getD_map1 L i hi).2]
    exact h1 _ (List.getElem_mem hi)
  · rw [List.length_map] at hi hj
    rw [(getD_map1 L i hi).1] at hk
    rw [(getD_map1 L j hj).1]
    rcases Nat.lt_or_gt_of_ne hij with h | h
    · exact List.pairwise_iff_getElem.1 h2 i j hi hj h k hk
    · exact (List.pairwise_iff_getElem.1 h2 j i hj hi h).symm k hk
theorem NB.books {w W : World} {A : Nat} {s : Np} {O : Nat → Prop} {H : Nat} {p1 p2 : Pr} {vK vW : Value} {LK LW LH : List Pr} (h : NB w W A s O H p1 p2 vK vW (LK.map (·.1)) (LW.map (·.1)) (LK ++ LW ++ LH)) (he : LK.map (·.2) = LW.map (·.2)) (hs : ∀ p ∈ LW, p.2.length ≤ 70368744177664) : BQ w.heap.size W W vK vW (LK.map (·.1)) (LW.map (·.1)) (LW.map (·.2)) (LW.map (·.2)) LK.length := by
  have hlen : LK.length = LW.length := by have := congrArg List.length he; simpa using this
  have ha := List.pairwise_append.1 (List.pairwise_append.1 h.apart).1
  refine ⟨Fr.refl _ _, by have := h.sk; rwa [List.length_map] at this, by have := h.sw; rw [List.length_map, ← hlen] at this; exact this, h.sp, he ▸ kq_of (fun p hp => h.rows p (by simp [hp])) ha.1, kq_of (fun p hp => h.rows p (by simp [hp])) ha.2.1, fun i j hi hj b hb => ?_, by simp [hlen], by simp [hlen], h.fr.size, fun i => ?_⟩
  · rw [(getD_map1 LK i hi).1] at hb
    rw [(getD_map1 LW j (by omega)).1]
    exact ha.2.2 _ (List.getElem_mem hi) _ (List.getElem_mem _) b hb
  · by_cases hi : i < LW.length
    · rw [(getD_map1 LW i hi).2]
      exact hs _ (List.getElem_mem hi)
    · simp [List.getD, List.getElem?_eq_none (show (LW.map (·.2)).length ≤ i by simp; omega)]
/-- Behind apart the net and the heard ones are what they were. -/
theorem NB.spoilt {w W W' : World} {A : Nat} {s : Np} {O : Nat → Prop} {H : Nat} {p1 p2 : Pr} {vK vW : Value} {LK LW LH : List Pr} {ks xs : List (List Nat)} (h : NB w W A s O H p1 p2 vK vW (LK.map (·.1)) (LW.map (·.1)) (LK ++ LW ++ LH)) (hb : BQ w.heap.size W W' vK vW (LK.map (·.1)) (LW.map (·.1)) ks xs LK.length) (m1 : p1.1 = .slice none 0 0 ∨ p1 ∈ LH) (m2 : p2.1 = .slice none 0 0 ∨ p2 ∈ LH) : NB w W' A s O H p1 p2 (.slice none 0 0) (.slice none 0 0) [] [] LH := by
  have hf := hb.fr
  have hK : ∀ k, (∃ i, i < LK.length ∧ ((LK.map (·.1)).getD i nq).ownBlock = some k) → ∃ p ∈ LK, p.1.ownBlock = some k := fun k ⟨i, hi, e⟩ => by
    rw [(getD_map1 LK i hi).1] at e
    exact ⟨_, List.getElem_mem hi, e⟩
  have hap := List.pairwise_append.1 h.apart
  have hrow : ∀ p ∈ LH, Rw W' w.heap.size 5 p.1 p.2 := fun p hp => (h.rows p (by simp [hp])).fr hf (fun k hk e => by
    obtain ⟨q, hq, e2⟩ := hK k e
    exact hap.2.2 q (by simp [hq]) p hp k e2 hk)
  have hH : ¬ ∃ i, i < LK.length ∧ ((LK.map (·.1)).getD i nq).ownBlock = some H := fun e => by
    obtain ⟨q, hq, e2⟩ := hK H e
    exact (h.rows q (by simp [hq])).ne h.hh (by decide) e2
  have hm : ∀ {p : Pr}, Rw W w.heap.size 5 p.1 p.2 → (p.1 = .slice none 0 0 ∨ p ∈ LH) → Rw W' w.heap.size 5 p.1 p.2 ∧ (p.1 = .slice none 0 0 ∨ p ∈ LH) := fun {p} h1 h2 => ⟨by
    rcases h2 with h2 | h2
    · exact h1.fr hf (fun k hk e => by rw [h2] at hk; simp [Value.ownBlock] at hk)
    · exact hrow p h2, h2⟩
  refine ⟨h.net.step hf (fun k hk e => ?_), h.fr.trans2 hf (fun k hk e => ?_), hrow, hap.2.1, fun p hp => h.out p (by simp [hp]), ⟨rfl, Or.inl ⟨rfl, rfl⟩⟩, ⟨rfl, Or.inl ⟨rfl, rfl⟩⟩, fun b hb => by simp [Value.ownBlock] at hb, fun b hb => by simp [Value.ownBlock] at hb, h.hb, by rw [hf.block H (lt_of_block h.hh) hH]; exact h.hh, h.ho, hm h.m1.1 m1, hm h.m2.1 m2⟩
  · obtain ⟨q, hq, e2⟩ := hK k e
    exact h.out q (by simp [hq]) k e2 hk
  · obtain ⟨q, hq, e2⟩ := hK k e
    have := ((h.rows q (by simp [hq])).lt e2).1
    omega
end Go.Proofs.Ytedlpefglgleeab
