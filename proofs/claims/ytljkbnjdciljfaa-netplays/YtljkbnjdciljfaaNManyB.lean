/- NetMany: bytes, the makes: walks. -/
import Derived.Test.YtljkbnjdciljfaaNManyP
import Derived.Test.YtljkbnjdciljfaaNWay
namespace Go.Proofs.Ytljkbnjdciljfaa
open Go.RowKit

theorem sq_bound (k : Nat) (h : k ≤ 60) : (0 : Int) ≤ (k : Int) * (k : Int) ∧ (k : Int) * (k : Int) ≤ 3600 := by
  have h1 : k * k ≤ 60 * 60 := Nat.mul_le_mul h h
  have e : (k : Int) * (k : Int) = ((k * k : Nat) : Int) := by simp
  rw [e]
  omega
theorem bs_one (W : World) (x : Int) (q : Nat) (h : x = (q : Int)) : Bs (W.alloc (.cells #[.int .u8 x] 5)) (.slice (some ⟨W.heap.size, 0, none⟩) 1 1) [q] := by
  subst h
  refine Or.inr ⟨⟨W.heap.size, 0, none⟩, 1, rfl, fun j u hu => ?_⟩
  have hj : j = 0 := by
    rcases Nat.lt_or_ge j 1 with h | h
    · omega
    · rw [List.getElem?_eq_none (by rw [by8_length]; exact h)] at hu
      cases hu
  subst hj
  rw [Addr.add_lit, cell_of_row _ W.heap.size _ _ _ (0, 0) (heap_alloc_new W _), ← hu]
  simp [by8]
set_option maxHeartbeats 2000000 in
set_option maxRecDepth 100000 in
theorem bytes_any (w : World) (c n : Nat) (hc : c ≤ 200) (hn : n ≤ 60) : Calls Try.prog 21 #[.int .i64 (c : Int), .int .i64 (n : Int)] w fun e w' => ∃ ao cap, e = .returned (.slice ao n cap) ∧ Rw w' w.heap.size 5 (.slice ao n cap) (byL c n) ∧ Fr w w' (fun _ => False) := by
  obtain ⟨i0, hi, hz0, hz1, hz2⟩ := info_parts Try.info5
  go_enter Try.func21, Try.ntmps21
  go_wp2_with fail
  go_loopw [5, 6] (fun b i wx => ∃ (k : Nat) (ao : Option Addr) (cap : Nat), k ≤ n ∧ i = .int .i64 (k : Int) ∧ b = .slice ao k cap ∧ Hid (Rw wx w.heap.size 5 (.slice ao k cap) (byL c k)) ∧ Hid (Fr w wx (fun _ => False))) (fun _ i _ => n - (intOf i).toNat)
  case atStart => exact ⟨0, none, 0, Nat.zero_le _, rfl, rfl, Rw.nil _ _ _, Fr.refl _ _⟩
  case round =>
    obtain ⟨k, ao, cap, hk, rfl, rfl, HR, HF⟩ := hrel
    by_cases hlt : k < n
    · have t1 : (k : Int) < (n : Int) := by omega
      obtain ⟨q1, q2⟩ := sq_bound k (by omega)
      have hs0 := HF.out.size
      go_wp2_with (at_builtin; refine wpl_rw _ rfl (.tmp 12) (.tmp 20) 33 rfl w.heap.size 5 i0 Try.underlying33 hi hz0 hz1 hz2 _ (byL c k) (by rfl) (HR.out.fr (alloc_fr wr _ (fun _ => False)) (fun _ _ h => h)) _ [(c * 7 + k * k) % 256] (by rfl) (bs_one wr _ _ (by simp)) (by rw [byL_length]; simp; omega) (by simp; omega) (k + 1) (by rw [byL_length]; rfl) ?_)
      intro a3 c3 w6 h31 h32 h33
      have HR2 := hid h31.out
      rw [← byL_succ] at HR2
      have HF2 := hid ((HF.out.trans (alloc_fr wr (.cells #[.int .u8 (((c : Int) * 7 + (k : Int) * (k : Int)) % 256)] 5) (fun _ => False))).trans2 h32.out (fun q hq e => by have := (HR.out.lt e).1; omega))
      clear h31 h32 h33 HR HF
      go_wp2
      exact ⟨⟨k + 1, a3, c3, by omega, by go_num, rfl, HR2, HF2⟩, by simp [intOf]; omega⟩
    · have t1 : ¬ (k : Int) < (n : Int) := by omega
      obtain rfl : k = n := by omega
      go_wp2
      go_ret
      exact ⟨ao, cap, rfl, HR.out, HF.out⟩
/-- The same at an argument of any form. -/
theorem bytes_i {w : World} (W : World) (ci : Int) (c n : Nat) (hci : ci = (c : Int)) (hc : c ≤ 200) (hn : n ≤ 60) (hs : Fr w W (fun _ => False)) : Calls Try.prog 21 #[.int .i64 ci, .int .i64 (n : Int)] W fun e w' => ∃ ao cap, e = .returned (.slice ao n cap) ∧ Rw w' w.heap.size 5 (.slice ao n cap) (byL c n) ∧ Fr W w' (fun _ => False) := by
  subst hci
  refine (bytes_any W c n hc hn).mono ?_
  rintro e w' ⟨ao, cap, he, h1, h2⟩
  refine ⟨ao, cap, he, ?_, h2⟩
  rcases h1 with h1 | ⟨h1, h3⟩
  · exact Or.inl h1
  · refine Or.inr ⟨h1, ?_⟩
    obtain ⟨ao', b, off, cap', e1, e2, e3, e4, e5⟩ := h3
    exact ⟨ao', b, off, cap', e1, e2, e3, fun a ha => ⟨Nat.le_trans hs.size (e4 a ha).1, (e4 a ha).2⟩, e5⟩
/-- A slice from some place on: where it begins. -/
def sa (o : Nat) (ao : Option Addr) (cap : Nat) : Option Addr := if cap = o then ao else ao.map (·.add o)
theorem slice_run {W : World} (ao : Option Addr) (n cap o : Nat) (ho : o ≤ n) : (Instr.slice 33 (.slice ao n cap) (some (.int .i64 (o : Int))) none none).run Try.prog W = .ok (.slice (sa o ao cap) (n - o) (cap - o)) W := by
  have h3 : ¬ n < o := by omega
  simp [Instr.slice, Instr.sliceBounds, Instr.sliceBound, run_underlying Try.underlying33, go_sem, sa, ho]
theorem bs_from {W : World} {lo : Nat} {ao : Option Addr} {n cap : Nat} {xs : List Nat} (h : Rw W lo 5 (.slice ao n cap) xs) (hn : n = xs.length) (o : Nat) (ho : o ≤ n) : Bs W (.slice (sa o ao cap) (n - o) (cap - o)) (xs.drop o) ∧ n - o = (xs.drop o).length := by
  refine ⟨?_, by rw [List.length_drop, hn]⟩
  subst hn
  rcases h with ⟨rfl, e⟩ | ⟨h1, h⟩
  · simp only [Value.slice.injEq] at e
    obtain ⟨rfl, _, rfl⟩ := e
    refine Or.inl ⟨?_, by simp⟩
    simp [sa]
  · obtain ⟨b, off, rfl⟩ := h.addr (List.length_pos_iff.2 h1)
    by_cases hc : cap = o
    · obtain ⟨_, _, e9, hle, _⟩ := h.shape
      simp only [Value.slice.injEq] at e9
      obtain ⟨_, _, rfl⟩ := e9
      have ho2 : xs.length ≤ o := by omega
      rw [List.drop_eq_nil_of_le ho2]
      refine Or.inr ⟨⟨b, off, none⟩, cap - o, ?_, fun j u hu => by simp [by8] at hu⟩
      simp [sa, hc]
      omega
    · have h2 := h.bs o (xs.length - o) (cap - o) (by omega)
      rw [List.take_of_length_le (by rw [List.length_drop]; omega)] at h2
      have e9 : sa o (some ⟨b, off, none⟩) cap = some ⟨b, off + o, none⟩ := by
        unfold sa
        rw [if_neg hc]
        simp [Addr.add_lit]
      rw [e9]
      exact h2
/-- make of a slice, its elements one cell each. -/
theorem own_block {w : World} {base T g n : Nat} {vs : List Value} (h : w.ownsRow base T 1 (.slice (some ⟨g, 0, none⟩) n n) n vs) : w.heap[g]? = some (.cells vs.toArray T (0, 0)) := by
  rcases h.2 with ⟨h', _⟩ | ⟨g', cap', cur, h', _, hg, _, _, hcs, htake⟩
  · simp at h'
  · simp only [Value.slice.injEq, Option.some.injEq, Addr.mk.injEq, and_true, true_and] at h'
    obtain ⟨rfl, rfl⟩ := h'
    have e : cur.toList = vs := by rw [← htake, List.take_of_length_le (by simp; omega)]
    rw [hg, ← e]
theorem infoS : (Try.prog.info? 33).map (fun i => (i.zero, i.size, i.bytes)) = some (some (.slice none 0 0), 1, 24) := by kernel_rfl
theorem infoN : (Try.prog.info? 3).map (fun i => (i.zero, i.size, i.bytes)) = some (some (.int .i64 0), 1, 8) := by kernel_rfl
theorem wpl_make1 {t T : TypeId} {z : Value} {by' : Nat} (hu : Try.prog.underlying t = some (.slice T)) (hinf : (Try.prog.info? T).map (fun i => (i.zero, i.size, i.bytes)) = some (some z, 1, by')) (hz : z.cells = #[z]) (hby : by' ≤ 100) (w : World) {ops : Array Oper} {rest : List Oper} {o : Oper} {a : Act} {Q : Exit → Act → World → Prop} (hg : o.guard = none) (l c : Operand) (hop : o.op = Op.makeSlice t l c) (ni : Int) (n : Nat) (hni : ni = (n : Int)) (hl : a.eval l = .int .i64 ni) (hc : a.eval c = .int .i64 ni) (hn : n ≤ 1000)
    (h : ∀ w', Hid (w'.heap[w.heap.size]? = some (.cells (List.replicate n z).toArray T (0, 0))) → Hid (Fr w w' (fun _ => False)) → wpList Try.prog ops Q rest (a.put o.dst (.slice (some ⟨w.heap.size, 0, none⟩) n n)) w') : wpList Try.prog ops Q (o :: rest) a w := by
  obtain ⟨i0, hi, hz0, hz1, hz2⟩ := info_parts hinf
  have hb : by' * n ≤ 100 * 1000 := Nat.mul_le_mul hby hn
  refine wpList_make_full w hg l c t hop w.heap.size T i0 z 1 hu hi hz0 hz1 .i64 .i64 _ _ n hl hc hni hni (by rw [hz2]; omega) (by unfold maxLen; omega) (Nat.le_refl _) fun w' hown hgr => h w' ?_ ?_
  · rw [Nat.mul_one, hz, toList_madeCells_one] at hown
    exact own_block hown
  · exact Fr.grown (Fr.refl _ _) hgr (fun k _ e => by cases e)
theorem getD_rep {α : Type} (n i : Nat) (x d : α) (hx : i < n) : (List.replicate n x).getD i d = x := by simp [List.getD, hx]
theorem NM.start {w W W1 W2 : World} {A n : Nat} {s : Np} (h : NI w W A s) (h1 : W1.heap[W.heap.size]? = some (.cells (List.replicate n nilS).toArray 33 (0, 0))) (f1 : Fr W W1 (fun _ => False)) (h2 : W2.heap[W1.heap.size]? = some (.cells (List.replicate n (.int .i64 0)).toArray 3 (0, 0))) (f2 : Fr W1 W2 (fun _ => False)) : NM w W2 A s W.heap.size (List.replicate n nilS) (List.replicate n []) W1.heap.size (List.replicate n 0) := by
  obtain ⟨O, k1, k2⟩ := h
  have z1 := k2.size
  have z2 := f1.size
  refine ⟨O, (k1.still f1).still f2, (k2.trans f1).trans f2, ⟨keep_block h1 f2 (fun h => h), by simp, fun i hi => ?_, fun i j k hi hj hk => ?_⟩, ?_, ⟨fun ho => by have := k1.lt ho; omega, fun ho => by have := k1.lt ho; omega, z1, by omega⟩, fun i k hi hk => ?_⟩
  · simp at hi
    rw [getD_rep _ _ _ _ hi, getD_rep _ _ _ _ hi]
    exact Rw.nil _ _ _
  · simp at hi
    rw [getD_rep _ _ _ _ hi] at hk
    simp [nilS, Value.ownBlock] at hk
  · rw [h2]
    simp [intsA]
  · simp at hi
    rw [getD_rep _ _ _ _ hi] at hk
    simp [nilS, Value.ownBlock] at hk
theorem NM.len {w W : World} {A : Nat} {s : Np} {Q : Nat} {vs : List Value} {Ls : List (List Nat)} {R : Nat} {os : List Nat} (h : NM w W A s Q vs Ls R os) : vs.length = Ls.length := by
  obtain ⟨O, _, _, h, _⟩ := h
  exact h.len
/-- The first loop: what is opened and sent. -/
structure MO (s : Np) (k lg : Nat) : Prop where
  one : ∀ d : Nat, 1 ≤ d → d < k → One s (d : Int) ⟨[], byL d lg, [], [], false, false⟩ 7 5 0
  non : ∀ d : Nat, k ≤ d → d ≤ 64 → s.at (d : Int) = none
  a : s.a = 7
  b : s.b = 5
  m : s.m = 0
theorem isC_of {d : Nat} (h1 : 1 ≤ d) (h2 : d ≤ 64) : isC (d : Int) = true := decide_eq_true (by omega)
theorem MO.new (lg : Nat) : MO (np0 7 5) 1 lg := ⟨fun d h1 h2 => by omega, fun d h1 h2 => by unfold Np.at np0; simp, rfl, rfl, rfl⟩
theorem MO.step {s : Np} {k lg : Nat} (h : MO s k lg) (h1 : 1 ≤ k) (h2 : k ≤ 64) (hl : lg ≤ 60) : openE s k = 0 ∧ sendE (openS s k) k (byL k lg) = 0 ∧ MO (sendS (openS s k) k (byL k lg)) (k + 1) lg := by
  have hc := isC_of h1 h2
  obtain ⟨e1, e2⟩ := openE_new hc (h.non k (Nat.le_refl _) h2)
  have o1 : One (openS s k) (k : Int) cp0 7 5 0 := by rw [e2]; exact ⟨hc, upd_at hc, h.a, h.b, h.m⟩
  obtain ⟨e3, e4⟩ := o1.send rfl (z := byL k lg) (by rw [byL_length]; show 0 + lg ≤ 1048576; omega)
  have o2 := o1.upd { cp0 with w := cp0.w ++ byL k lg } 0
  rw [← e4] at o2
  refine ⟨e1, e3, fun d h3 h4 => ?_, fun d h3 h4 => ?_, o2.a, o2.b, o2.m⟩
  · by_cases e : d = k
    · subst e
      exact o2
    · have := (h.one d h3 (by omega)).other (y := cp0) (k := 0) hc (by omega)
      rw [← e2] at this
      have := this.other (y := { cp0 with w := cp0.w ++ byL k lg }) (k := 0) hc (by omega)
      rw [← e4] at this
      exact this
  · rw [e4, upd_other hc (by omega), e2, upd_other hc (by omega)]
    exact h.non d (by omega) h4
theorem MO.ms {s : Np} {n lg : Nat} (h : MO s (n + 1) lg) : MS s n lg (fun _ => 0) (fun d => ⟨[], byL d lg, [], [], false, false⟩) (List.replicate (n + 1) []) (List.replicate (n + 1) 0) 0 := by
  refine ⟨fun d h1 h2 => h.one d h1 (by omega), fun d h1 h2 => ?_, ?_, by simp, by simp⟩
  · rw [getD_rep _ _ _ _ (by omega), getD_rep _ _ _ _ (by omega)]
    exact ⟨rfl, rfl, by simp, by omega, by simp, by simp, by simp, rfl, rfl⟩
  · refine Eq.trans ?_ (tot_const (b := 0) (fun d h1 h2 => ?_)).symm
    · simp
    · rw [getD_rep _ _ _ _ (by omega)]
      rfl
theorem MS.congr {s : Np} {n lg : Nat} {r r' : Nat → Nat} {f : Nat → Cp} {Ls : List (List Nat)} {os : List Nat} {m : Nat} (h : MS s n lg r f Ls os m) (hr : ∀ d, 1 ≤ d → d ≤ n → r' d = r d) : MS s n lg r' f Ls os m :=
  ⟨h.one, fun d h1 h2 => by rw [hr d h1 h2]; exact h.pc d h1 h2, h.m, h.ll, h.lo⟩
/-- The last loop: those that are open still. -/
structure ML (s : Np) (k n m : Nat) : Prop where
  one : ∀ d : Nat, k ≤ d → 1 ≤ d → d ≤ n → ∃ x, One s (d : Int) x 7 5 m ∧ x.cl = false ∧ x.ct = false
  m : s.m = m
theorem ML.step {s : Np} {k n m : Nat} (h : ML s k n m) (h1 : 1 ≤ k) (h2 : k ≤ n) : useE s k = 0 ∧ openE (closeS s k) k = 43 ∧ openS (closeS s k) k = closeS s k ∧ ML (closeS s k) (k + 1) n m ∧ cutE (closeS s k) k = 0 ∧ openE (cutS (closeS s k) k) k = 43 ∧ openS (cutS (closeS s k) k) k = cutS (closeS s k) k ∧ ML (cutS (closeS s k) k) (k + 1) n m := by
  obtain ⟨x, h3, h4, h5⟩ := h.one k (Nat.le_refl _) h1 h2
  have hs := shut_no h4 h5
  have e1 := h3.close hs
  have o1 := h3.upd { x with cl := true, w := [], i := [] } 0
  rw [← e1] at o1
  have hct : ({ x with cl := true, w := [], i := [] } : Cp).ct = false := h5
  obtain ⟨e2, e3⟩ := o1.cut hct
  have o2 := o1.upd { ({ x with cl := true, w := [], i := [] } : Cp) with ct := true, w := [], i := [], o := [] } 0
  rw [← e3] at o2
  obtain ⟨p1, p2⟩ := openE_old o1
  obtain ⟨p3, p4⟩ := openE_old o2
  have k1 : ∀ d : Nat, k + 1 ≤ d → 1 ≤ d → d ≤ n → ∃ x, One (closeS s k) (d : Int) x 7 5 m ∧ x.cl = false ∧ x.ct = false := fun d g1 g2 g3 => by
    obtain ⟨z, q1, q2⟩ := h.one d (by omega) g2 g3
    refine ⟨z, ?_, q2⟩
    rw [e1]
    exact q1.other h3.is (by omega)
  refine ⟨h3.use hs, p1, p2, ⟨k1, o1.m⟩, e2, p3, p4, ⟨fun d g1 g2 g3 => ?_, o2.m⟩⟩
  obtain ⟨z, q1, q2⟩ := k1 d g1 g2 g3
  refine ⟨z, ?_, q2⟩
  rw [e3]
  exact q1.other h3.is (by omega)
end Go.Proofs.Ytljkbnjdciljfaa
