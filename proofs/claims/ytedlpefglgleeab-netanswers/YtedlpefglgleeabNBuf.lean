/- net: the functions of a buffer: walks. -/
import Derived.Test.YtedlpefglgleeabNPure
import Derived.Test.YtedlpefglgleeabRows
namespace Go.Proofs.Ytedlpefglgleeab
open Go.RowKit

theorem Try.info5 : (Try.prog.info? 5).map (fun i => (i.zero, i.size, i.bytes)) = some (some (.int .u8 0), 1, 1) := by kernel_rfl
/-- A buffer's two cells inside a block. -/
def BB (w : World) (b : Nat) (T : TypeId) (A C : List Value) (v : Value) (room : Nat) : Prop := w.heap[b]? = some (.cells (A ++ ([v, .int .i64 (room : Int)] ++ C)).toArray T (0, 0))
theorem BB.lt {w : World} {b : Nat} {T : TypeId} {A C : List Value} {v : Value} {room : Nat} (h : BB w b T A C v room) : b < w.heap.size := lt_of_block h
theorem BB.fr {w w' : World} {S : Nat → Prop} {b : Nat} {T : TypeId} {A C : List Value} {v : Value} {room : Nat} (h : BB w b T A C v room) (hf : Fr w w' S) (hS : ¬ S b) : BB w' b T A C v room := by
  unfold BB
  rw [hf.block b h.lt hS]
  exact h
theorem BB.free {w : World} {b : Nat} {T : TypeId} {A C : List Value} {v : Value} {room : Nat} (h : BB w b T A C v room) (o : Nat) : w.frozen? ⟨b, o, none⟩ = false := by
  have h' : w.heap[b]? = some (.cells (A ++ ([v, .int .i64 (room : Int)] ++ C)).toArray T (0, 0)) := h
  simp [World.frozen?, h']
theorem BB.cells {w : World} {b : Nat} {T : TypeId} {A C : List Value} {v : Value} {room o : Nat} (h : BB w b T A C v room) (ho : A.length = o) : w.cell? ⟨b, o, none⟩ = some v ∧ w.cell? ⟨b, o + 1, none⟩ = some (.int .i64 (room : Int)) := by
  subst ho
  refine ⟨?_, ?_⟩ <;> rw [cell_of_row w b _ _ _ (0, 0) h] <;> simp
theorem BB.set0 {w : World} {b : Nat} {T : TypeId} {A C : List Value} {v : Value} {room o : Nat} (h : BB w b T A C v room) (ho : A.length = o) (u : Value) : BB (w.setCell ⟨b, o, none⟩ u) b T A C u room := by
  subst ho
  unfold BB
  rw [heap_setCell_same w b _ _ _ u h]
  simp
set_option maxHeartbeats 1000000 in
theorem free_any {w : World} {lo K : Nat} {T : TypeId} {A C : List Value} {v : Value} {room o : Nat} {xs : List Nat} (h : BB w K T A C v room) (ho : A.length = o) (hr : Rw w lo 5 v xs) (hl : xs.length ≤ room) (hm : room ≤ 1048576) :
    Calls Try.prog 42 #[.pointer (some ⟨K, o, none⟩)] w fun e w' => e = .returned (.int .i64 ((room - xs.length : Nat) : Int)) ∧ Fr w w' (fun _ => False) := by
  obtain ⟨c0, c1⟩ := h.cells ho
  have hlt := h.lt
  obtain ⟨ao, cap, rfl, _, _⟩ := hr.shape
  have e1 : ((room - xs.length : Nat) : Int) = (room : Int) - (xs.length : Int) := by omega
  rw [e1]
  clear h ho hr e1
  generalize xs.length = n at *
  go_enter Try.func42, Try.ntmps42
  go_wp2_with fail
  go_quiet (fail)
  go_wp2_with fail
  go_ret
  exact ⟨rfl, (Fr.refl _ _).drewN _⟩
set_option maxHeartbeats 1000000 in
theorem empty_any {w : World} {K : Nat} {T : TypeId} {A C : List Value} {v : Value} {room o : Nat} (h : BB w K T A C v room) (ho : A.length = o) :
    Calls Try.prog 48 #[.pointer (some ⟨K, o, none⟩)] w fun e w' => e = .returned (.tuple #[]) ∧ BB w' K T A C (.slice none 0 0) room ∧ Fr w w' (fun k => k = K) := by
  obtain ⟨c0, c1⟩ := h.cells ho
  have hlt := h.lt
  have hf := h.free
  have HB := hid (h.set0 ho (.slice none 0 0))
  have HF := hid (set_fr w K o (.slice none 0 0))
  clear h ho
  go_enter Try.func48, Try.ntmps48
  go_wp2_with fail
  go_end0
  exact ⟨rfl, HB.out, HF.out⟩
/-- How many may be taken from the front. -/
def frN (n : Nat) (most : Int) : Nat := min n most.toNat
set_option maxHeartbeats 1000000 in
theorem front_any {w : World} {K : Nat} {T : TypeId} {A C : List Value} {ao : Option Addr} {cap room o : Nat} {xs : List Nat} (h : BB w K T A C (.slice ao xs.length cap) room) (ho : A.length = o) (hcap : xs.length ≤ cap) (most : Int) :
    Calls Try.prog 45 #[.pointer (some ⟨K, o, none⟩), .int .i64 most] w fun e w' => e = .returned (.slice ao (frN xs.length most) cap) ∧ Fr w w' (fun _ => False) := by
  obtain ⟨c0, c1⟩ := h.cells ho
  have hlt := h.lt
  clear h ho
  generalize xs.length = n at *
  have hn0 : (0 : Int) ≤ (n : Int) := by omega
  have hn1 : (n : Int) ≤ (cap : Int) := by omega
  by_cases h1 : most < 0
  · have e1 : frN n most = 0 := by unfold frN; omega
    rw [e1]
    clear e1
    by_cases h2 : n = 0
    · subst h2
      go_enter Try.func45, Try.ntmps45
      go_wp2_with fail
      go_region
      go_wp2_with fail
      go_ret
      exact ⟨rfl, by repeat (first | exact Fr.refl _ _ | apply Fr.drew)⟩
    · have h3 : ¬ (n : Int) ≤ 0 := by omega
      go_enter Try.func45, Try.ntmps45
      go_wp2_with fail
      go_region
      go_wp2_with fail
      go_ret
      exact ⟨rfl, by repeat (first | exact Fr.refl _ _ | apply Fr.drew)⟩
  · obtain ⟨m, rfl⟩ : ∃ m : Nat, most = (m : Int) := ⟨most.toNat, by omega⟩
    by_cases h2 : n ≤ m
    · have e1 : frN n (m : Int) = n := by unfold frN; omega
      rw [e1]
      clear e1
      have h3 : (n : Int) ≤ (m : Int) := by omega
      go_enter Try.func45, Try.ntmps45
      go_wp2_with fail
      go_region
      go_wp2_with fail
      go_ret
      exact ⟨rfl, by repeat (first | exact Fr.refl _ _ | apply Fr.drew)⟩
    · have e1 : frN n (m : Int) = m := by unfold frN; omega
      rw [e1]
      clear e1
      have h3 : ¬ (n : Int) ≤ (m : Int) := by omega
      have h4 : (0 : Int) ≤ (m : Int) := by omega
      have h5 : (m : Int) ≤ (cap : Int) := by omega
      go_enter Try.func45, Try.ntmps45
      go_wp2_with fail
      go_region
      go_wp2_with fail
      go_ret
      exact ⟨rfl, by repeat (first | exact Fr.refl _ _ | apply Fr.drew)⟩
/-- What is left of a buffer. -/
def BfA (w w' : World) (lo K : Nat) (T : TypeId) (A C : List Value) (v : Value) (room : Nat) (ys : List Nat) : Prop := ∃ v', BB w' K T A C v' room ∧ Rw w' lo 5 v' ys ∧ Fr w w' (fun k => k = K ∨ v.ownBlock = some k) ∧ Nw w v v'
set_option maxHeartbeats 1000000 in
theorem drop_any {w : World} {lo K : Nat} {T : TypeId} {A C : List Value} {v : Value} {room o : Nat} {xs : List Nat} (h : BB w K T A C v room) (ho : A.length = o) (hr : Rw w lo 5 v xs) (hT : T ≠ 5) (n : Nat) (hn : n ≤ xs.length) :
    Calls Try.prog 46 #[.pointer (some ⟨K, o, none⟩), .int .i64 (n : Int)] w fun e w' => e = .returned (.tuple #[]) ∧ BfA w w' lo K T A C v room (xs.drop n) := by
  obtain ⟨c0, c1⟩ := h.cells ho
  have hlt := h.lt
  have hf := h.free
  have HEM := hid (fun (W : World) (u : Value) (h : BB W K T A C u room) => empty_any h ho)
  by_cases hx : xs = []
  · have hv : v = .slice none 0 0 := by
      rcases hr with ⟨_, h⟩ | ⟨h, _⟩
      · exact h
      · exact absurd hx h
    subst hx hv
    have hn0 : n = 0 := by simpa using hn
    subst hn0
    have HB := hid (h.set0 ho (.slice none 0 0))
    have HF : Hid (Fr w (w.setCell ⟨K, o, none⟩ (.slice none 0 0)) (fun k => k = K)) := set_fr w K o (.slice none 0 0)
    clear h ho hr hn
    go_enter Try.func46, Try.ntmps46
    go_wp2_with fail
    refine (HEM.out _ _ HB.out).mono ?_
    rintro e w1 ⟨rfl, h1, h2⟩
    have H := hid (And.intro h1 h2)
    clear h1 h2
    go_wp2_with fail
    go_end0
    exact ⟨rfl, _, H.out.1, Rw.nil _ _ _, (HF.out.mono (fun _ _ e => Or.inl e)).trans (H.out.2.mono (fun _ _ e => Or.inl e)), Nw.nil _ _⟩
  · have hof := hr.of
    obtain ⟨ao, cap, rfl, hc1, hc2⟩ := hr.shape
    have hpos := List.length_pos_iff.2 hx
    obtain ⟨b, off, rfl⟩ := hof.addr hpos
    have hne := hr.ne h hT
    by_cases hnn : n = xs.length
    · have e1 : xs.drop n = [] := List.drop_eq_nil_of_le (by omega)
      rw [e1]
      subst hnn
      have HE : Hid (∀ W1 W2 u, Fr w W1 (fun k => k = K) → BB W1 K T A C u room → BB W2 K T A C (.slice none 0 0) room ∧ Fr W1 W2 (fun k => k = K) → BfA w W2 lo K T A C (.slice (some ⟨b, off, none⟩) xs.length cap) room []) := fun W1 W2 u h1 h2 ⟨h3, h4⟩ => ⟨_, h3, Rw.nil _ _ _, (h1.mono (fun _ _ e => Or.inl e)).trans (h4.mono (fun _ _ e => Or.inl e)), Nw.nil _ _⟩
      have HS := hid (fun u => h.set0 ho u)
      have HF := hid (fun u => set_fr w K o u)
      clear h ho hr hn e1 hof hne
      generalize xs.length = n at *
      have hn1 : (n : Int) ≤ (cap : Int) := by omega
      by_cases hcn : cap = n
      · subst hcn
        go_enter Try.func46, Try.ntmps46
        go_wp2_with fail
        refine (HEM.out _ _ (HS.out _)).mono ?_
        rintro e w1 ⟨rfl, h1⟩
        have H := hid h1
        clear h1
        go_wp2_with fail
        go_end0
        exact ⟨rfl, HE.out _ _ _ (HF.out _) (HS.out _) H.out⟩
      · go_enter Try.func46, Try.ntmps46
        go_wp2_with fail
        refine (HEM.out _ _ (HS.out _)).mono ?_
        rintro e w1 ⟨rfl, h1⟩
        have H := hid h1
        clear h1
        go_wp2_with fail
        go_end0
        exact ⟨rfl, HE.out _ _ _ (HF.out _) (HS.out _) H.out⟩
    · have hcn : ¬ cap = n := by omega
      have hd := hof.drop n hn hcn
      have HE : Hid (BfA w (w.setCell ⟨K, o, none⟩ (.slice (some ⟨b, off + n, none⟩) (xs.length - n) (cap - n))) lo K T A C (.slice (some ⟨b, off, none⟩) xs.length cap) room (xs.drop n)) := by
        have hf1 := set_fr w K o (.slice (some ⟨b, off + n, none⟩) (xs.length - n) (cap - n))
        refine ⟨_, h.set0 ho _, of_rw (hd.fr hf1 ?_) ?_, hf1.mono (fun _ _ e => Or.inl e), Nw.of (Or.inl rfl) (Nat.le_refl _)⟩
        · rintro k hk rfl
          simp [Value.ownBlock] at hk
          subst hk
          exact hne rfl
        · intro e
          have := congrArg List.length e
          simp at this
          omega
      clear h ho hr hof hne hd HEM
      have e3 : ((xs.length : Int) - (n : Int)) = ((xs.length - n : Nat) : Int) := by omega
      have h0 : ¬ xs.length - n = 0 := by omega
      generalize hm : xs.length - n = m at *
      have h1 : (n : Int) ≤ (xs.length : Int) := by omega
      have h2 : (xs.length : Int) ≤ (cap : Int) := by omega
      have h4 : ((m : Int) == 0) = false := by simp; omega
      clear hn hx hpos hnn hc1 h0
      generalize xs.length = q at *
      go_enter Try.func46, Try.ntmps46
      go_wp2_with fail
      go_end0
      exact ⟨rfl, HE.out⟩
theorem bs_take {w : World} {ao : Option Addr} {n cap : Nat} {zs : List Nat} (h : Bs w (.slice ao n cap) zs) (k : Nat) (hk : k ≤ zs.length) : Bs w (.slice ao k cap) (zs.take k) := by
  rcases h with ⟨e, rfl⟩ | ⟨a, c, e, hc⟩
  · simp only [Value.slice.injEq] at e
    obtain ⟨rfl, rfl, rfl⟩ := e
    simp at hk
    subst hk
    exact Or.inl ⟨rfl, rfl⟩
  · simp only [Value.slice.injEq] at e
    obtain ⟨rfl, rfl, rfl⟩ := e
    refine Or.inr ⟨a, cap, by rw [List.length_take, Nat.min_eq_left hk], fun j u hu => hc j u ?_⟩
    rw [by8, List.map_take] at hu
    rw [by8]
    have hj : j < k := by
      rcases Nat.lt_or_ge j k with h | h
      · exact h
      · rw [List.getElem?_eq_none (by rw [List.length_take]; omega)] at hu; cases hu
    rwa [List.getElem?_take_of_lt hj] at hu
/-- Where the appended row is stored. -/
theorem lay_store {w w1 : World} {lo K : Nat} {T : TypeId} {A C : List Value} {v v' : Value} {room o : Nat} {ys : List Nat} (h : BB w K T A C v room) (ho : A.length = o) (hne : v.ownBlock ≠ some K) (h2 : Rw w1 lo 5 v' ys) (h3 : Fr w w1 (fun k => v.ownBlock = some k)) (h4 : Nw w v v') :
    w1.cell? ⟨K, o, none⟩ = some v ∧ w1.frozen? ⟨K, o, none⟩ = false ∧ K < w1.heap.size ∧ BfA w (w1.setCell ⟨K, o, none⟩ v') lo K T A C v room ys := by
  have hlt := h.lt
  have h5 := h.fr h3 hne
  have hf := set_fr w1 K o v'
  refine ⟨(h5.cells ho).1, h5.free _, h5.lt, _, h5.set0 ho _, h2.fr hf ?_, (h3.mono (fun _ _ e => Or.inr e)).trans (hf.mono (fun _ _ e => Or.inl e)), h4⟩
  rintro k hk rfl
  rcases h4 k hk with h | h
  · exact hne h
  · omega
set_option maxHeartbeats 2000000 in
theorem lay_any {w : World} {lo K : Nat} {T : TypeId} {A C : List Value} {v : Value} {room o : Nat} {xs : List Nat} (h : BB w K T A C v room) (ho : A.length = o) (hr : Rw w lo 5 v xs) (hT : T ≠ 5) (hl : xs.length ≤ room) (hm : room ≤ 1048576) (hlo : lo ≤ w.heap.size) {ao : Option Addr} {zcap : Nat} {zs : List Nat} (hz : Bs w (.slice ao zs.length zcap) zs) (hzc : zs.length ≤ zcap) :
    Calls Try.prog 43 #[.pointer (some ⟨K, o, none⟩), .slice ao zs.length zcap] w fun e w' => e = .returned (.int .i64 ((min zs.length (room - xs.length) : Nat) : Int)) ∧ BfA w w' lo K T A C v room (xs ++ zs.take (min zs.length (room - xs.length))) := by
  obtain ⟨i0, hi, hz0, hz1, hz2⟩ := info_parts Try.info5
  have hne := hr.ne h hT
  have HFR := hid (free_any h ho hr hl hm)
  have HLS : Hid (∀ W w1 v' ys, Fr w W (fun _ => False) → Rw w1 lo 5 v' ys → Fr W.drew w1 (fun k => v.ownBlock = some k) → Nw W.drew v v' → w1.cell? ⟨K, o, none⟩ = some v ∧ w1.frozen? ⟨K, o, none⟩ = false ∧ K < w1.heap.size ∧ BfA w (w1.setCell ⟨K, o, none⟩ v') lo K T A C v room ys) := fun W w1 v' ys h1 h2 h3 h4 => lay_store h ho hne h2 ((h1.mono (fun _ _ h => h.elim)).trans (Fr.ofDrew h3)) (fun k hk => by
    have hs := h1.size
    rcases h4 k hk with h | h
    · exact Or.inl h
    · exact Or.inr (Nat.le_trans hs h))
  have HST : Hid (∀ W, Fr w W (fun _ => False) → BB W K T A C v room ∧ Rw W lo 5 v xs ∧ (∀ k, k ≤ zs.length → Bs W (.slice ao k zcap) (zs.take k)) ∧ w.heap.size ≤ W.heap.size) := fun W hf => ⟨h.fr hf (fun h => h), hr.fr hf (fun _ _ h => h), fun k hk => (bs_take hz k hk).fr hf (fun _ _ h => h), hf.size⟩
  obtain ⟨fr, hfr⟩ : ∃ fr, room - xs.length = fr := ⟨_, rfl⟩
  have hb : xs.length ≤ 1048576 := by omega
  obtain ⟨av, cv, rfl, _, _⟩ := hr.shape
  have hzb : ∀ k, k ≤ fr → xs.length + k ≤ 140737488355328 := fun k hk => by omega
  rw [hfr] at HFR ⊢
  clear h hr hl hm hz
  have hz0' : (0 : Int) ≤ (zs.length : Int) := by omega
  have hf0' : (0 : Int) ≤ (fr : Int) := by omega
  have hzc' : (zs.length : Int) ≤ (zcap : Int) := by omega
  by_cases hle : zs.length ≤ fr
  · rw [Nat.min_eq_left hle]
    have hle' : (zs.length : Int) ≤ (fr : Int) := by omega
    have HZB := hid (hzb _ hle)
    have HZK : Hid (zs.length ≤ zs.length) := Nat.le_refl _
    have HZL : Hid ((zs.take zs.length).length = zs.length) := by show _ = _; simp
    clear hzb hfr
    go_enter Try.func43, Try.ntmps43
    go_wp2_with fail
    refine HFR.out.mono ?_
    rintro e w1 ⟨rfl, hf⟩
    have HF := hid hf
    clear hf
    have H := HST.out _ HF.out
    obtain ⟨c0, c1⟩ := H.1.cells ho
    have hlt := H.1.lt
    clear H
    go_wp2_with fail
    go_region_law (refine step_append_of rfl (.tmp 15) (.tmp 18) 22 rfl lo 5 i0 Try.underlying22 hi hz0 hz1 hz2 _ xs (by simp [Act.eval]) ((HST.out _ HF.out.drew).2.1) _ (zs.take zs.length) (by simp [Act.eval]) ((HST.out _ HF.out.drew).2.2.1 _ HZK.out) (by rw [HZL.out]; exact HZB.out) (Nat.le_trans hlo (HST.out _ HF.out.drew).2.2.2) _ rfl ?_; intro ao3 cap3 w3 h31 h32 h33; obtain ⟨d0, d1, d2, h3⟩ := HLS.out _ _ _ _ HF.out h31.out h32.out h33.out; have H4 := hid h3; clear h3 h31 h32 h33)
    all_goals
      try rw [HZL.out] at H4
      go_wp2_with fail
      go_ret
      exact ⟨rfl, H4.out⟩
  · rw [Nat.min_eq_right (show fr ≤ zs.length by omega)]
    have hle' : ¬ (zs.length : Int) ≤ (fr : Int) := by omega
    have hle2 : (fr : Int) ≤ (zcap : Int) := by omega
    have HZB := hid (hzb _ (Nat.le_refl fr))
    have HZK : Hid (fr ≤ zs.length) := Nat.le_of_not_ge (fun h => by omega)
    have HZL : Hid ((zs.take fr).length = fr) := by show _ = _; rw [List.length_take]; omega
    clear hzb hfr
    go_enter Try.func43, Try.ntmps43
    go_wp2_with fail
    refine HFR.out.mono ?_
    rintro e w1 ⟨rfl, hf⟩
    have HF := hid hf
    clear hf
    have H := HST.out _ HF.out
    obtain ⟨c0, c1⟩ := H.1.cells ho
    have hlt := H.1.lt
    clear H
    go_wp2_with fail
    go_region_law (refine step_append_of rfl (.tmp 15) (.tmp 18) 22 rfl lo 5 i0 Try.underlying22 hi hz0 hz1 hz2 _ xs (by simp [Act.eval]) ((HST.out _ HF.out.drew).2.1) _ (zs.take fr) (by simp [Act.eval]) ((HST.out _ HF.out.drew).2.2.1 _ HZK.out) (by rw [HZL.out]; exact HZB.out) (Nat.le_trans hlo (HST.out _ HF.out.drew).2.2.2) (xs.length + fr) (by rw [HZL.out]) ?_; intro ao3 cap3 w3 h31 h32 h33; obtain ⟨d0, d1, d2, h3⟩ := HLS.out _ _ _ _ HF.out h31.out h32.out h33.out; have H4 := hid h3; clear h3 h31 h32 h33)
    all_goals
      try rw [HZL.out] at H4
      go_wp2_with fail
      go_ret
      exact ⟨rfl, H4.out⟩
end Go.Proofs.Ytedlpefglgleeab
