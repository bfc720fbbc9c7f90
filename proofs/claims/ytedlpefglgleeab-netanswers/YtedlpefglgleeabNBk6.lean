/- NetAnswers: copied, and an append to a spine, as one step of a region. -/
import Derived.Test.YtedlpefglgleeabNBk5
import Derived.Deep.RegionHeld3
namespace Go.Proofs.Ytedlpefglgleeab
open Go.RowKit

theorem wp_copied {w : World} {o : Oper} {a : Act} {K : Act → World → Prop} {Q : Exit → Act → World → Prop} (s : Operand) (t : TypeId)
    (ho : o.op = .call { callee := .value (.func 22), args := #[s], argTypes := #[t] }) {ao : Option Addr} {cap n : Nat} {xs : List Nat} (hn : xs.length = n) (hv : a.eval s = .slice ao n cap) (hb : Bs w (.slice ao n cap) xs) (hl : n ≤ 140737488355328)
    (h : ∀ a2 c2 w', Hid (Rw w' w.heap.size 5 (.slice a2 n c2) xs) → Hid (Fr w w' (fun _ => False)) → K (a.put o.dst (.slice a2 n c2)) w') : o.wp Try.prog a w K Q := by
  subst hn
  have hc := copiedq_any hb hl
  unfold Oper.wp execOp
  simp only [ho, resolve, Act.eval, invoke, builtin, Sem.run_bind, List.map_toArray, List.map_cons, List.map_nil] at *
  simp only [hv]
  show Calls _ _ _ _ _
  refine hc.mono ?_
  rintro e w' ⟨a2, c2, rfl, h1, h2⟩
  exact h a2 c2 w' h1 h2
theorem step_copied {w : World} {ops : Array Oper} {o : Oper} {a : Act} {K : Act → World → Prop} {Q : Exit → Act → World → Prop} {E : Prop} (hgd : o.guard = none) (s : Operand) (t : TypeId)
    (ho : o.op = .call { callee := .value (.func 22), args := #[s], argTypes := #[t] }) {ao : Option Addr} {cap n : Nat} {xs : List Nat} (hn : xs.length = n) (hv : a.eval s = .slice ao n cap) (hb : Bs w (.slice ao n cap) xs) (hl : n ≤ 140737488355328)
    (h : ∀ a2 c2 w', Hid (Rw w' w.heap.size 5 (.slice a2 n c2) xs) → Hid (Fr w w' (fun _ => False)) → K (a.put o.dst (.slice a2 n c2)) w') : if Region.wanted o (yielded ops a.tmps) = true then Oper.wp Try.prog o a w K Q else E := by
  have hw : Region.wanted o (yielded ops a.tmps) = true := by simp [Region.wanted, hgd]
  rw [if_pos hw]
  exact wp_copied s t ho hn hv hb hl h
theorem spine_shape {w : World} {base n : Nat} {v : Value} {vs : List Value} (h : w.ownsRow base 22 1 v n vs) : ∃ ao cap, v = .slice ao n cap := by
  rcases h.2 with ⟨rfl, rfl⟩ | ⟨g, cap, cur, rfl, _⟩
  · exact ⟨_, _, rfl⟩
  · exact ⟨_, _, rfl⟩
/-- What an append to a spine leaves. -/
def Ap1 (w w' : World) (base : Nat) (v v' : Value) (n m : Nat) (vs us : List Value) : Prop := w'.ownsRow base 22 1 v' (n + m) (vs ++ us) ∧ w.grownBy w' v.ownBlock ∧ (v'.ownBlock = v.ownBlock ∨ v'.ownBlock = some w.heap.size)
theorem wp_spine {w : World} {o : Oper} {a : Act} {K : Act → World → Prop} {Q : Exit → Act → World → Prop} (s x : Operand)
    (ho : o.op = .call { callee := .builtin .append, args := #[s, x], argTypes := #[43, 43] }) (base : Nat) (v : Value) (n : Nat) (vs : List Value) (hs : a.eval s = v) (hown : w.ownsRow base 22 1 v n vs)
    (ad : Addr) (m c : Nat) (us : List Value) (hx : a.eval x = .slice (some ad) m c) (hl : us.length = m) (hus : ∀ j u, us[j]? = some u → w.cell? (ad.add j) = some u) (h1 : ∀ u ∈ us, u.oneCell' = true) (hb : n + m ≤ 1000000) (hbase : base ≤ w.heap.size)
    (h : ∀ ao cap w', Hid (Ap1 w w' base v (.slice ao (n + m) cap) n m vs us) → K (a.put o.dst (.slice ao (n + m) cap)) w') : o.wp Try.prog a w K Q := by
  obtain ⟨j0, hj, hy0, hy1, hy2⟩ := info_parts Try.info_slq
  obtain ⟨v', w', hr, h2, h3, h4, h5⟩ := run_append_own_at (P := Try.prog) w base 43 o.type 22 j0 (.slice none 0 0) 1 24 Try.underlying43 hj hy0 hy1 hy2 rfl (by decide) v n vs hown ad m c us (by omega) hus h1 (by unfold maxLen; omega) (by omega) hbase
  obtain ⟨ao, cap, rfl⟩ := spine_shape h2
  unfold Oper.wp execOp
  simp only [ho, resolve, invoke, builtin, Sem.run_bind, Sem.run_pure, Result.andThen_ok, List.map_toArray, List.map_cons, List.map_nil, hs, hx, hr]
  exact h ao cap w' ⟨h2, h3, h5⟩
theorem step_spine {w : World} {ops : Array Oper} {o : Oper} {a : Act} {K : Act → World → Prop} {Q : Exit → Act → World → Prop} {E : Prop} (hgd : o.guard = none) (s x : Operand)
    (ho : o.op = .call { callee := .builtin .append, args := #[s, x], argTypes := #[43, 43] }) (base : Nat) (v : Value) (n : Nat) (vs : List Value) (hs : a.eval s = v) (hown : w.ownsRow base 22 1 v n vs)
    (ad : Addr) (m c : Nat) (us : List Value) (hx : a.eval x = .slice (some ad) m c) (hl : us.length = m) (hus : ∀ j u, us[j]? = some u → w.cell? (ad.add j) = some u) (h1 : ∀ u ∈ us, u.oneCell' = true) (hb : n + m ≤ 1000000) (hbase : base ≤ w.heap.size)
    (h : ∀ ao cap w', Hid (Ap1 w w' base v (.slice ao (n + m) cap) n m vs us) → K (a.put o.dst (.slice ao (n + m) cap)) w') : if Region.wanted o (yielded ops a.tmps) = true then Oper.wp Try.prog o a w K Q else E := by
  have hw : Region.wanted o (yielded ops a.tmps) = true := by simp [Region.wanted, hgd]
  rw [if_pos hw]
  exact wp_spine s x ho base v n vs hs hown ad m c us hx hl hus h1 hb hbase h
theorem wpl_spine {w : World} {ops : Array Oper} {rest : List Oper} {o : Oper} {a : Act} {Q : Exit → Act → World → Prop} (hgd : o.guard = none) (s x : Operand)
    (ho : o.op = .call { callee := .builtin .append, args := #[s, x], argTypes := #[43, 43] }) (base : Nat) (v : Value) (n : Nat) (vs : List Value) (hs : a.eval s = v) (hown : w.ownsRow base 22 1 v n vs)
    (ad : Addr) (m c : Nat) (us : List Value) (hx : a.eval x = .slice (some ad) m c) (hl : us.length = m) (hus : ∀ j u, us[j]? = some u → w.cell? (ad.add j) = some u) (h1 : ∀ u ∈ us, u.oneCell' = true) (hb : n + m ≤ 1000000) (hbase : base ≤ w.heap.size)
    (h : ∀ ao cap w', Hid (Ap1 w w' base v (.slice ao (n + m) cap) n m vs us) → wpList Try.prog ops Q rest (a.put o.dst (.slice ao (n + m) cap)) w') : wpList Try.prog ops Q (o :: rest) a w := by
  refine wpList_plain hgd fun K hK => ?_
  exact wp_spine s x ho base v n vs hs hown ad m c us hx hl hus h1 hb hbase (fun ao cap w' h2 => hK _ _ (h ao cap w' h2))
theorem one_newq (w : World) (x : Value) (e : TypeId) : ∀ (j : Nat) (u : Value), [x][j]? = some u → (w.alloc (.cells #[x] e)).cell? ((⟨w.heap.size, 0, none⟩ : Addr).add j) = some u := by
  intro j u hj
  have h := lastq w (.cells #[x] e) _ rfl
  rw [Addr.add_lit, cell_of_row _ _ _ _ _ _ h, Nat.zero_add]
  match j, hj with
  | 0, hj => exact hj
theorem one_oneq (a : Option Addr) (n c : Nat) : ∀ u ∈ [Value.slice a n c], u.oneCell' = true := by intro u hu; simp at hu; subst hu; rfl
theorem two_oneq (a b : Option Addr) (n m c d : Nat) : ∀ u ∈ [Value.slice a n c, Value.slice b m d], u.oneCell' = true := by intro u hu; simp at hu; rcases hu with rfl | rfl <;> rfl
section
variable {w W W' W1 : World} {A : Nat} {s s' : Np} {O O' S : Nat → Prop} {H : Nat} {p1 p2 : Pr} {vK vW : Value} {SK SW : List Value} {R R' : List Pr}
theorem NB.laid (h : NB w W A s O H p1 p2 vK vW SK SW R) (X : Obj) : NB w (W.alloc X) A s O H p1 p2 vK vW SK SW R := h.still (alloc_fr W X (fun _ => False))
theorem NB.tells {v' : Value} {vs : List Value} {n m : Nat} (h : NB w W1 A s O H p1 p2 vK vW SK SW R) (hn : SK.length = n) (ha : Ap1 W1 W' w.heap.size vK v' n m SK vs) (hm : vs.length = m) : NB w W' A s O H p1 p2 v' vW (SK ++ vs) SW R :=
  h.tell ha.1 (by omega) ha.2.1 ha.2.2
theorem NB.wants {v' : Value} {vs : List Value} {n m : Nat} (h : NB w W1 A s O H p1 p2 vK vW SK SW R) (hn : SW.length = n) (ha : Ap1 W1 W' w.heap.size vW v' n m SW vs) (hm : vs.length = m) : NB w W' A s O H p1 p2 vK v' SK (SW ++ vs) R :=
  h.want ha.1 (by omega) ha.2.1 ha.2.2
theorem NB.skn {n : Nat} (h : NB w W A s O H p1 p2 vK vW SK SW R) (hn : SK.length = n) : W.ownsRow w.heap.size 22 1 vK n SK := by
  have := h.sk
  rwa [hn] at this
theorem NB.swn {n : Nat} (h : NB w W A s O H p1 p2 vK vW SK SW R) (hn : SW.length = n) : W.ownsRow w.heap.size 22 1 vW n SW := by
  have := h.sw
  rwa [hn] at this
theorem NB.perm (h : NB w W A s O H p1 p2 vK vW SK SW R) (hR : R'.Perm R) : NB w W A s O H p1 p2 vK vW SK SW R' :=
  ⟨h.net, h.fr, fun p hp => h.rows p (hR.mem_iff.1 hp), (hR.pairwise_iff (fun h => Ap.symm h)).2 h.apart, fun p hp => h.out p (hR.mem_iff.1 hp), h.sk, h.sw, h.sp, h.so, h.hb, h.hh, h.ho, ⟨h.m1.1, h.m1.2.imp id hR.mem_iff.2⟩, ⟨h.m2.1, h.m2.2.imp id hR.mem_iff.2⟩⟩
end
end Go.Proofs.Ytedlpefglgleeab
