/- net: write, fetch, told, isAtEnd, isOpen, close, cut, newConn: walks. -/
import Derived.Test.YtedlpefglgleeabNSide2
namespace Go.Proofs.Ytedlpefglgleeab
open Go.RowKit

set_option maxHeartbeats 1000000 in
theorem write_any {w : World} {lo a b : Nat} {g : Cm} (h : Cn w lo a b g) (hlo : lo ≤ w.heap.size) (hw : g.x.o.length ≤ b) (hb : b ≤ 131072) {ao : Option Addr} {zcap : Nat} {zs : List Nat} (hz : Bs w (.slice ao zs.length zcap) zs) (hzc : zs.length ≤ zcap) :
    Calls Try.prog 31 #[.pointer (some ⟨g.k, 4, none⟩), .slice ao zs.length zcap] w fun e w' => e = .returned (.int .i64 ((min zs.length (b - g.x.o.length) : Nat) : Int)) ∧ CnA w w' lo a b g { g.x with o := g.x.o ++ zs.take (min zs.length (b - g.x.o.length)) } := by
  have hrow := h.row 2 (by omega)
  change Rw w lo 5 (g.v 2) g.x.o at hrow
  have HL := hid ((lay_any h.b2 (o := 4) rfl hrow Try.tne hw (by omega) hlo hz hzc).mono fun e w2 ⟨he, hA⟩ => And.intro he (h.bf2 hA))
  clear h hrow hz
  generalize min zs.length (b - g.x.o.length) = k at *
  go_enter Try.func31, Try.ntmps31
  go_wp2_with fail
  refine HL.out.mono ?_
  rintro e w2 ⟨rfl, hA⟩
  have HA := hid hA
  clear hA
  go_wp2_with fail
  go_ret
  exact ⟨rfl, HA.out⟩
/-- append in a plain region. -/
theorem wpl_rw {P : Program} (w : World) {ops : Array Oper} {rest : List Oper} {o : Oper} {a : Act} {Q : Exit → Act → World → Prop} (hgd : o.guard = none) (s x : Operand) (t : TypeId)
    (ho : o.op = .call { callee := .builtin .append, args := #[s, x], argTypes := #[t, t] })
    (base : Nat) (e : TypeId) (i : TypeInfo) (ht : P.underlying t = some (.slice e)) (hi : P.info? e = some i) (hz : i.zero = some (.int .u8 0)) (hsize : i.size = 1) (hby : i.bytes = 1)
    (v : Value) (xs : List Nat) (hv : a.eval s = v) (hown : Rw w base e v xs) (pv : Value) (zs : List Nat) (hx : a.eval x = pv) (hp : Bs w pv zs) (hb : xs.length + zs.length ≤ 140737488355328) (hbase : base ≤ w.heap.size) (n' : Nat) (hn' : xs.length + zs.length = n')
    (h : ∀ ao cap w', Hid (Rw w' base e (.slice ao n' cap) (xs ++ zs)) → Hid (Fr w w' (fun k => v.ownBlock = some k)) → Hid (Nw w v (.slice ao n' cap)) → wpList P ops Q rest (a.put o.dst (.slice ao n' cap)) w') : wpList P ops Q (o :: rest) a w := by
  refine wpList_plain hgd fun K hK => ?_
  exact wp_append_of w s x t ho base e i ht hi hz hsize hby v xs hv hown pv zs hx hp hb hbase n' hn' (fun ao cap w' h1 h2 h3 => hK _ _ (h ao cap w' h1 h2 h3))
theorem bs_all {w : World} {lo : Nat} {e : TypeId} {ao : Option Addr} {n cap : Nat} {xs : List Nat} (h : Rw w lo e (.slice ao n cap) xs) : Bs w (.slice ao xs.length cap) xs := by
  obtain ⟨_, _, _, h2⟩ := h.bs xs.length (Nat.le_refl _)
  rwa [List.take_length] at h2
/-- What is heard is stored. -/
theorem heard_store {w w1 w3 : World} {lo a b : Nat} {g : Cm} (h : Cn w lo a b g) {u : Value} {ys : List Nat} (h1 : Fr w w1 (fun _ => False)) (h2 : Rw w3 lo 5 u ys) (h3 : Fr w1 w3 (fun k => (g.v 3).ownBlock = some k)) (h4 : Nw w1 (g.v 3) u) :
    w3.cell? ⟨g.k, 6, none⟩ = some (g.v 3) ∧ w3.frozen? ⟨g.k, 6, none⟩ = false ∧ g.k < w3.heap.size ∧ CnA w (w3.setCell ⟨g.k, 6, none⟩ u) lo a b g { g.x with h := ys } := by
  have h5 := h.still h1
  have hne := h5.nk (i := 3) (by omega)
  have hb3 : w3.heap[g.k]? = some (.cells (g.cs a b).toArray 69 (0, 0)) := keep_block h5.cell h3 hne
  have hf := set_fr w3 g.k 6 u
  refine ⟨by rw [cell_of_row w3 g.k _ _ _ (0, 0) hb3]; rfl, free_of hb3 _, lt_of_block hb3, CnA.pre h1 ?_⟩
  have hc : (w3.setCell ⟨g.k, 6, none⟩ u).heap[g.k]? = some (.cells ((g.set 3 u { g.x with h := ys }).cs a b).toArray 69 (0, 0)) := by
    rw [heap_setCell_same w3 g.k 6 _ _ u hb3]
    rfl
  obtain ⟨k1, k2, k3⟩ := h5.set (i := 3) (by omega) (x := { g.x with h := ys }) (fun j hj hne => by
    have h9 : j = 0 ∨ j = 1 ∨ j = 2 := by omega
    rcases h9 with rfl | rfl | rfl <;> rfl) hc (h2.fr hf (fun k hk e => by
    subst e
    rcases h4 _ hk with h | h
    · exact hne h
    · have := lt_of_block h5.cell; omega)) ((h3.mono (fun _ _ e => Or.inr e)).trans (hf.mono (fun _ _ e => Or.inl e))) h4
  exact ⟨g.set 3 u { g.x with h := ys }, rfl, rfl, k1, k2, k3⟩
set_option maxHeartbeats 2000000 in
theorem fetch_any {w : World} {lo a b : Nat} {g : Cm} (h : Cn w lo a b g) (hlo : lo ≤ w.heap.size) (hb : g.x.o.length ≤ 131072) (hh : g.x.h.length ≤ 70368744177664) (most : Int) :
    Calls Try.prog 32 #[.pointer (some ⟨g.k, 4, none⟩), .int .i64 most] w fun e w' => e = .returned (.int .i64 ((min g.x.o.length most.toNat : Nat) : Int)) ∧ CnA w w' lo a b g { g.x with h := g.x.h ++ g.x.o.take (min g.x.o.length most.toNat), o := g.x.o.drop (min g.x.o.length most.toNat) } := by
  obtain ⟨i0, hi, hz0, hz1, hz2⟩ := info_parts Try.info5
  have hrow := h.row 2 (by omega)
  change Rw w lo 5 (g.v 2) g.x.o at hrow
  have hrow3 := h.row 3 (by omega)
  change Rw w lo 5 (g.v 3) g.x.h at hrow3
  obtain ⟨a1, n1, e1, hc1⟩ := cnS h 2 (by omega)
  change g.v 2 = .slice a1 g.x.o.length n1 at e1
  change g.x.o.length ≤ n1 at hc1
  obtain ⟨a3, n3, e3, hc3⟩ := cnS h 3 (by omega)
  change g.v 3 = .slice a3 g.x.h.length n3 at e3
  change g.x.h.length ≤ n3 at hc3
  have hb1 := h.b2
  rw [e1] at hb1
  have hrow1 := hrow
  rw [e1] at hrow1
  have hfl : frN g.x.o.length most ≤ g.x.o.length := by unfold frN; omega
  obtain ⟨_, _, _, hbs⟩ := hrow1.bs (frN g.x.o.length most) hfl
  have hmk : min g.x.o.length most.toNat = frN g.x.o.length most := rfl
  rw [hmk]
  have HF := hid (front_any hb1 (o := 4) rfl hc1 most)
  have HC : Hid (∀ W, Fr w W (fun _ => False) → W.cell? ⟨g.k, 6, none⟩ = some (.slice a3 g.x.h.length n3) ∧ g.k < W.heap.size ∧ Rw W lo 5 (.slice a3 g.x.h.length n3) g.x.h ∧ Bs W (.slice a1 (frN g.x.o.length most) n1) (g.x.o.take (frN g.x.o.length most)) ∧ lo ≤ W.heap.size) := fun W hf => by
    have h2 := h.still hf
    refine ⟨by rw [← e3]; exact h2.cells.2.2.2.1, h2.cells.2.2.2.2.2.2, by rw [← e3]; exact hrow3.fr hf (fun _ _ h => h), hbs.fr hf (fun _ _ h => h), Nat.le_trans hlo hf.size⟩
  have HST : Hid (∀ W w3 u ys, Fr w W (fun _ => False) → Rw w3 lo 5 u ys → Fr W w3 (fun k => (Value.slice a3 g.x.h.length n3).ownBlock = some k) → Nw W (.slice a3 g.x.h.length n3) u → w3.cell? ⟨g.k, 6, none⟩ = some (.slice a3 g.x.h.length n3) ∧ w3.frozen? ⟨g.k, 6, none⟩ = false ∧ g.k < w3.heap.size ∧ CnA w (w3.setCell ⟨g.k, 6, none⟩ u) lo a b g { g.x with h := ys }) := fun W w3 u ys h1 h2 h3 h4 => by
    rw [← e3] at h3 h4 ⊢
    exact heard_store h h1 h2 h3 h4
  have HD : Hid (∀ W ys, CnA w W lo a b g { g.x with h := ys } → Calls Try.prog 46 #[.pointer (some ⟨g.k, 4, none⟩), .int .i64 ((frN g.x.o.length most : Nat) : Int)] W fun e w' => e = .returned (.tuple #[]) ∧ CnA w w' lo a b g { g.x with h := ys, o := g.x.o.drop (frN g.x.o.length most) }) := fun W ys hA => drop_b2 hA _ hfl
  have HTL : Hid ((g.x.o.take (frN g.x.o.length most)).length = frN g.x.o.length most) := by show _ = _; rw [List.length_take, Nat.min_eq_left hfl]
  have HBD : Hid (g.x.h.length + frN g.x.o.length most ≤ 140737488355328) := by show _ ≤ _; omega
  clear h hrow hrow3 hrow1 hbs hb1 hfl hc1 e1 e3 hc3 hlo hmk hb hh
  generalize frN g.x.o.length most = m at *
  go_enter Try.func32, Try.ntmps32
  go_wp2_with fail
  refine HF.out.mono ?_
  rintro e w1 ⟨rfl, hf⟩
  have HF1 := hid hf
  clear hf HF
  obtain ⟨c3, hlt, _, _, _⟩ := HC.out _ HF1.out
  go_wp2_with (at_builtin; refine wpl_rw _ rfl (.tmp 15) (.tmp 16) 22 rfl lo 5 i0 Try.underlying22 hi hz0 hz1 hz2 _ g.x.h (by rfl) ((HC.out _ HF1.out).2.2.1) _ (g.x.o.take m) (by rfl) ((HC.out _ HF1.out).2.2.2.1) (by rw [HTL.out]; exact HBD.out) ((HC.out _ HF1.out).2.2.2.2) (g.x.h.length + m) (by rw [HTL.out]) ?_)
  intro ao3 cap3 w3 h31 h32 h33
  obtain ⟨d0, d1, d2, h3⟩ := HST.out _ _ _ _ HF1.out h31.out h32.out h33.out
  have H4 := hid h3
  clear h3 h31 h32 h33 c3 hlt
  go_wp2_with fail
  refine (HD.out _ _ H4.out).mono ?_
  rintro e w4 ⟨rfl, hA⟩
  have HA := hid hA
  clear hA
  go_wp2_with fail
  go_ret
  exact ⟨rfl, HA.out⟩
end Go.Proofs.Ytedlpefglgleeab
