/- Texts of one proof, joined. -/
import Derived.Test.YtgbkihkefdoddaaGreatDoorJoin30
import Derived.BigQuiet
section
/- store: the laws' SameRows, within, all: walks. -/
namespace Go.Proofs.YtgbkihkefdoddaaGreatDoor.St
open Go.RowKit G S

/-- Rows that can be read at a slice. -/
def RdR (w : World) (v : Value) (L : List M.Rw) : Prop := ∃ ao cap, v = .slice ao L.length cap ∧ L.length ≤ 1000000000 ∧ (0 < L.length → ∃ b o, ao = some ⟨b, o, none⟩ ∧ ∀ i, i < L.length → M.W.ElAt w b (o + i * 7) (L[i]?.getD default))
theorem RdR.step {w w' : World} {v : Value} {L : List M.Rw} (h : RdR w v L) (hf : Fr w w' (fun _ => False)) : RdR w' v L := by
  obtain ⟨ao, cap, h1, h2, h3⟩ := h
  refine ⟨ao, cap, h1, h2, fun hp => ?_⟩
  obtain ⟨b, o, h4, h5⟩ := h3 hp
  exact ⟨b, o, h4, fun i hi => (h5 i hi).fr hf⟩
theorem RdR.of {base : Nat} {w : World} {v : Value} {L : List M.Rw} (h : w.ownsRow base 58 7 v L.length (M.rc L)) (hl : L.length ≤ 1000000000) : RdR w v L := by
  obtain ⟨ao, cap, e⟩ := own_nil_shape h
  refine ⟨ao, cap, e, hl, fun hp => ?_⟩
  rcases h.2 with ⟨_, h'⟩ | ⟨g, c, cur, e3, hb, hg, _⟩
  · omega
  · rw [e] at e3
    simp only [Value.slice.injEq] at e3
    refine ⟨g, 0, e3.1, fun j hj => ?_⟩
    have hc : ∀ i, i < 7 → w.cell? ⟨g, j * 7 + i, none⟩ = some (M.cellR (L[j]?.getD default) i) := fun i hi => by
      have := h.cells (g := g) (by rw [e, e3.1]; rfl) _ _ (M.rc_get L j i hj hi)
      rw [Addr.add_lit, Nat.zero_add] at this
      exact this
    rw [show 0 + j * 7 = j * 7 by omega]
    exact ⟨hc 0 (by omega), hc 1 (by omega), hc 2 (by omega), hc 3 (by omega), hc 4 (by omega), hc 5 (by omega), hc 6 (by omega)⟩

set_option maxHeartbeats 2000000 in
set_option maxRecDepth 100000 in
theorem same_any {L : List M.Rw} {v u : Value} (w : World) (hv : RdR w v L) (hu : RdR w u L) :
    Calls Tryz.prog 37 #[v, u] w fun r w' => r = .returned (.bool true) ∧ Fr w w' (fun _ => False) := by
  obtain ⟨ao, cap, rfl, hl, hv⟩ := hv
  obtain ⟨ao2, cap2, rfl, _, hu⟩ := hu
  have HV := hid hv
  have HU := hid hu
  clear hv hu
  go_enter Tryz.func37, Tryz.ntmps37
  go_wp2_with fail
  go_loopg [5] L.length (fun g s5 wx => ∃ i : Nat, s5 = .int .i64 (i : Int) ∧ i + g = L.length ∧ Hid (Fr w wx (fun _ => False)))
  case atStart => exact ⟨0, rfl, by omega, Fr.refl _ _⟩
  case round =>
    obtain ⟨i, rfl, hg, HF⟩ := hrel
    cases gk with
    | zero =>
      have t1 : ¬ (i : Int) < (L.length : Int) := by omega
      clear hg
      go_wp2_with fail
      go_ret
      exact ⟨rfl, HF.out⟩
    | succ gk =>
      have t0 : (0 : Int) ≤ (i : Int) := by omega
      have t1 : (i : Int) < (L.length : Int) := by omega
      have HG := hid hg
      obtain ⟨b, o, rfl, h1⟩ := HV.out (by omega)
      obtain ⟨b2, o2, rfl, h2⟩ := HU.out (by omega)
      have e1 := (h1 i (by omega)).fr HF.out
      have e2 := (h2 i (by omega)).fr HF.out
      have l1 := e1.lt
      have l2 := e2.lt
      obtain ⟨a0, a1, a2, a3, a4, a5, a6⟩ := e1
      obtain ⟨c0, c1, c2, c3, c4, c5, c6⟩ := e2
      generalize L[i]?.getD default = x at *
      obtain ⟨⟨xv, xk, xs⟩, xn, xS, xm, xx⟩ := x
      dsimp only at *
      clear h1 h2 hg
      go_wp2_with fail
      go_quiet (fail)
      go_wp2_with fail
      go_roundg gk
      case measure => omega
      case rel => exact ⟨i + 1, by go_num, by have := HG.out; omega, HF.out.trans (by repeat (first | with_reducible exact Fr.refl _ _ | with_reducible apply Fr.drew | with_reducible apply Fr.drewN))⟩

theorem within_any (a n : Int) (hn : 0 < n) (hb : n ≤ 1000000) (w : World) : Calls Tryz.prog 17 #[.int .i64 a, .int .i64 n] w fun e w' => e = .returned (.int .i64 (a % n)) ∧ w' = w := by
  have h1 : -n < a.tmod n := Int.lt_tmod_of_pos a hn
  have h2 : a.tmod n < n := Int.tmod_lt_of_pos a hn
  have h3 : ¬ n = 0 := by omega
  have h5 : (n == 0) = false := by simpa using h3
  have h6 : (n == -1) = false := by simp; omega
  have h7 : ¬ n = -1 := by omega
  have h4 : a % n = if a.tmod n < 0 then a.tmod n + n else a.tmod n := by
    have hq := Int.tmod_add_mul_tdiv a n
    generalize a.tmod n = m at *
    generalize a.tdiv n = q at *
    rw [← hq, Int.add_mul_emod_self_left]
    by_cases hm : m < 0
    · rw [if_pos hm, ← Int.add_emod_right]
      exact Int.emod_eq_of_lt (by omega) (by omega)
    · rw [if_neg hm]
      exact Int.emod_eq_of_lt (by omega) h2
  rw [h4]
  clear h4
  generalize hm : a.tmod n = m at *
  by_cases hlt : m < 0
  · rw [if_pos hlt]
    go_enter Tryz.func17, Tryz.ntmps17
    go_wp2_with fail
    go_ret
    exact ⟨rfl, rfl⟩
  · rw [if_neg hlt]
    go_enter Tryz.func17, Tryz.ntmps17
    go_wp2_with fail
    go_ret
    exact ⟨rfl, rfl⟩

def c0 : Cl := ⟨0, ⟨#[]⟩, 0⟩
def c9 : Cl := ⟨9, ⟨#[]⟩, 0⟩
theorem all_any (w : World) : Calls Tryz.prog 40 #[] w fun r w' => r = .returned (.tuple #[.agg #[.int .i64 0, .string ⟨#[]⟩, .int .i64 0], .agg #[.int .i64 9, .string ⟨#[]⟩, .int .i64 0]]) ∧ Fr w w' (fun _ => False) := by
  go_enter Tryz.func40, Tryz.ntmps40
  go_wp2_with fail
  refine bodyPost_ret (v := .tuple #[.agg #[.int .i64 0, .string ⟨#[]⟩, .int .i64 0], .agg #[.int .i64 9, .string ⟨#[]⟩, .int .i64 0]]) (by simp [results, Tryz.results40, go_sem]) rfl ⟨rfl, ?_⟩
  repeat (first | with_reducible exact Fr.refl _ _ | with_reducible apply Fr.alloc | (with_reducible refine Fr.setCell ?_ ?_ _; rotate_left; (intro h; exfalso; simp at h; try omega)))
end Go.Proofs.YtgbkihkefdoddaaGreatDoor.St
end

section
/- What stays of stores, boxes and rows where blocks of other kinds turn; routes of cells. -/
namespace Go.Proofs.YtgbkihkefdoddaaGreatDoor.S
open Go.RowKit G
/-- The kinds of a shard's blocks. -/
def kSh : List TypeId := [101, 188, 195, 147, 143]
theorem okT_iff (t : TypeId) : okT t ↔ t ∉ kSh := by
  unfold okT kSh
  simp only [List.mem_cons, List.not_mem_nil, or_false, not_or]
theorem Sh.kind {w : World} {base S slots : Nat} {X : Nat → Prop} {V : Vw} (h : Sh w base S slots X V) {b : Nat} (hx : X b) : ∃ cs t, w.heap[b]? = some (.cells cs t (0, 0)) ∧ t ∈ kSh := by
  obtain ⟨B, gr, ge, T, M, h1, _, rfl⟩ := h
  obtain ⟨kB, kg, ke⟩ := tb_kd h1.tb
  rcases hx with rfl | (rfl | rfl | hb) | ⟨e, he, rfl | hb⟩
  · exact ⟨_, _, h1.cell, by decide⟩
  · obtain ⟨cs, hc⟩ := kB; exact ⟨cs, _, hc, by decide⟩
  · obtain ⟨cs, hc⟩ := kg; exact ⟨cs, _, hc, by decide⟩
  · obtain ⟨cs, hc⟩ := ke b hb; exact ⟨cs, _, hc, by decide⟩
  · obtain ⟨cs, hc⟩ := (ch_kd (h1.ch e he)).1; exact ⟨cs, _, hc, by decide⟩
  · obtain ⟨cs, hc⟩ := (ch_kd (h1.ch e he)).2 b hb; exact ⟨cs, _, hc, by decide⟩
end Go.Proofs.YtgbkihkefdoddaaGreatDoor.S
namespace Go.Proofs.YtgbkihkefdoddaaGreatDoor.St
open Go.RowKit G S

/-- Blocks of kinds other than some stay. -/
def KpC (ts : List TypeId) (W W' : World) : Prop := W.heap.size ≤ W'.heap.size ∧ ∀ (k : Nat) (cs : Array Value) (t : TypeId), W.heap[k]? = some (Obj.cells cs t (0, 0)) → t ∉ ts → W'.heap[k]? = some (Obj.cells cs t (0, 0))
theorem KpC.refl (ts : List TypeId) (W : World) : KpC ts W W := ⟨Nat.le_refl _, fun _ _ _ h _ => h⟩
theorem KpC.trans {ts : List TypeId} {a b c : World} (h : KpC ts a b) (k : KpC ts b c) : KpC ts a c := ⟨Nat.le_trans h.1 k.1, fun i cs t hi ht => k.2 i cs t (h.2 i cs t hi ht) ht⟩
theorem KpC.of {ts : List TypeId} {W W' : World} (hf : Fr W W' (fun _ => False)) : KpC ts W W' := ⟨hf.size, fun k _ _ hk _ => (hf.block k (lt_of_block hk) (fun h => h)).trans hk⟩
theorem KpC.kp {W W' : World} (h : Kp W W') : KpC kSh W W' := ⟨h.1, fun _ _ t hk ht => h.block hk ((okT_iff t).2 ht)⟩
/-- An append to a row of one's own. -/
theorem KpC.grown {W W' : World} {base : Nat} {t : TypeId} {size : Nat} {v : Value} {n : Nat} {xs : List Value} (ho : W.ownsRow base t size v n xs) (hg : W.grownBy W' v.ownBlock) : KpC [t] W W' := ⟨hg.size, fun k cs t' hk ht => by
  rw [hg.block k (lt_of_block hk) (fun e => own_ne ho hk (by simpa using ht) e.symm)]
  exact hk⟩
theorem own_kpc {ts : List TypeId} {W W' : World} {base : Nat} {t : TypeId} {size : Nat} {v : Value} {n : Nat} {xs : List Value} (h : W.ownsRow base t size v n xs) (hk : KpC ts W W') (ht : t ∉ ts) : W'.ownsRow base t size v n xs := by
  refine ⟨h.1, ?_⟩
  rcases h.2 with h2 | ⟨g, cap, cur, hv, hb, hg2, rest⟩
  · exact Or.inl h2
  · exact Or.inr ⟨g, cap, cur, hv, hb, hk.2 g cur t hg2 ht, rest⟩
theorem SpI.kpc {ts : List TypeId} {w W W' : World} {v : Value} {us : List Value} {ls : List (List M.Rw)} (h : SpI w W v us ls) (hk : KpC ts W W') (h1 : 65 ∉ ts) (h2 : 58 ∉ ts) (hf : Fr w W' (fun _ => False)) : SpI w W' v us ls :=
  ⟨own_kpc h.own hk h1, h.len, fun p hp hq => own_kpc (h.each p hp hq) hk h2, hf⟩
theorem Sd.kpc {ts : List TypeId} {w0 W W' : World} {Q slots : Nat} {Vs : List Vw} (h : Sd w0 W Q slots Vs) (hk : KpC ts W W') (h1 : ∀ t ∈ kSh, t ∉ ts) (h2 : 78 ∉ ts) (h3 : 49 ∉ ts) (hf : Fr w0 W' (fun _ => False)) : Sd w0 W' Q slots Vs := by
  obtain ⟨v, L, hI, e⟩ := h.ex
  have hfr : Fr W W' (fun b => W'.heap[b]? ≠ W.heap[b]?) := ⟨hf.os.trans h.fr.os.symm, hf.tape.trans h.fr.tape.symm, hf.output.trans h.fr.output.symm, hk.1, fun k _ hn => Classical.byContradiction hn⟩
  refine ⟨⟨v, L, ⟨hk.2 _ _ _ hI.cell h2, own_kpc hI.own hk h3, fun s hs => ?_, hI.apart, hI.hQ, hI.le⟩, e⟩, hf, h.pos⟩
  have hsh := hI.sh s hs
  refine hsh.fr hfr (fun b hb hne => ?_) (fun hne => ?_)
  · obtain ⟨cs, t, hc, ht⟩ := hsh.kind hb
    exact hne ((hk.2 b cs t hc (h1 t ht)).trans hc.symm)
  · have hgb : gM < w0.heap.size := by obtain ⟨_, _, _, _, _, h5, _, _⟩ := hsh; exact h5.gb
    exact hne ((hf.block gM hgb (fun h => h)).trans (h.fr.block gM hgb (fun h => h)).symm)

/-- Every cell lies in its key's shard. -/
def Rk (Vs : List Vw) : Prop := ∀ k, ∀ x ∈ gv Vs k, rt Vs.length x.1.k = k
theorem mem_setV {V : Vw} {c : Cl} {L : List Vn} {x : Cl × List Vn} (h : x ∈ setV V c L) : x ∈ V ∨ x.1 = c := by
  induction V with
  | nil =>
    simp [setV] at h
    exact Or.inr (by rw [h])
  | cons e V ih =>
    unfold setV at h
    split at h
    · rcases List.mem_cons.1 h with e1 | h
      · exact Or.inr (by rw [e1])
      · exact Or.inl (by simp [h])
    · rcases List.mem_cons.1 h with e1 | h
      · exact Or.inl (by simp [e1])
      · rcases ih h with h | h
        · exact Or.inl (by simp [h])
        · exact Or.inr h
theorem mem_putS {V : Vw} {slots : Nat} {e : Int} {c : Cl} {a : A4} {x : Cl × List Vn} (h : x ∈ putS V slots e c a) : x ∈ V ∨ x.1 = c := by
  unfold putS at h
  split at h
  · exact mem_setV h
  · exact Or.inl h
theorem mem_killS {V : Vw} {e : Int} {c : Cl} {x : Cl × List Vn} (h : x ∈ killS V e c) : x ∈ V ∨ x.1 = c := by
  unfold killS at h
  split at h
  · exact mem_setV h
  · exact Or.inl h
theorem gv_set (Vs : List Vw) (i k : Nat) (V : Vw) (hi : i < Vs.length) : gv (Vs.set i V) k = if i = k then V else gv Vs k := by
  unfold gv
  rw [List.getD_eq_getElem?_getD, List.getElem?_set]
  split
  · rename_i e; subst e; simp
  · rw [List.getD_eq_getElem?_getD]
theorem Rk.set {Vs : List Vw} (h : Rk Vs) {c : Cl} {V : Vw} (hp : 0 < Vs.length) (hV : ∀ x ∈ V, x ∈ gv Vs (rt Vs.length c.k) ∨ x.1 = c) : Rk (Vs.set (rt Vs.length c.k) V) := by
  intro k x hx
  rw [List.length_set]
  rw [gv_set _ _ _ _ (rt_lt c.k hp)] at hx
  split at hx
  · rename_i e
    rcases hV x hx with h1 | h1
    · rw [h _ x h1, e]
    · rw [h1, e]
  · exact h k x hx
theorem Rk.new (n : Nat) : Rk (List.replicate n []) := fun k x hx => by
  unfold gv at hx
  rw [List.getD_eq_getElem?_getD, List.getElem?_replicate] at hx
  split at hx <;> simp at hx
theorem mem_range {V : Vw} {e : Int} {fr til : Cl} {most : Int} {r : M.Rw} (h : r ∈ rangeL V e fr til most) : ∃ x ∈ V, r.c = mc x.1 := by
  unfold rangeL tl at h
  obtain ⟨x, hx, rfl⟩ := List.mem_map.1 (List.mem_of_mem_take h)
  exact ⟨x, (srt_perm V).subset (List.mem_filter.1 hx).1, rfl⟩
/-- The rows of a shard's range have its keys. -/
theorem Rk.range {Vs : List Vw} (h : Rk Vs) {k : Nat} (hk : k < Vs.length) {e : Int} {fr til : Cl} {most : Int} {r : M.Rw} (hr : r ∈ rangeOf Vs (k : Int) e fr til most) : rt Vs.length r.c.k = k := by
  unfold rangeOf at hr
  rw [if_neg (by omega)] at hr
  obtain ⟨x, hx, e1⟩ := mem_range hr
  rw [e1]
  exact h k x (by simpa using hx)
theorem rangeOf_len {w0 W : World} {Q slots : Nat} {Vs : List Vw} (h : Sd w0 W Q slots Vs) (n e : Int) (fr til : Cl) (most : Int) : (rangeOf Vs n e fr til most).length ≤ 1048576 := by
  unfold rangeOf
  split
  · simp
  · rename_i hn
    obtain ⟨v, L, h1, rfl⟩ := h.ex
    rw [vs_length] at hn
    have hi : n.toNat < L.length := by omega
    rw [gv_vs hi]
    exact Nat.le_trans range_len (Sh.vlen (h1.sh _ (List.getElem_mem hi)))
theorem rangeOf_other {Vs : List Vw} {i : Nat} {V : Vw} (hi : i < Vs.length) {k : Nat} (hk : k ≠ i) (e : Int) (fr til : Cl) (most : Int) : rangeOf (Vs.set i V) (k : Int) e fr til most = rangeOf Vs (k : Int) e fr til most ∧ unitsOf (Vs.set i V) (k : Int) = unitsOf Vs (k : Int) := by
  have e1 : gv (Vs.set i V) k = gv Vs k := by rw [gv_set _ _ _ _ hi, if_neg (fun e => hk e.symm)]
  unfold rangeOf unitsOf
  simp only [List.length_set, Int.toNat_natCast, e1, and_self]
end Go.Proofs.YtgbkihkefdoddaaGreatDoor.St
end

section
/- The law's few: a walk. -/
namespace Go.Proofs.YtgbkihkefdoddaaGreatDoor.St
open Go.RowKit G S

def fewK (k : ByteArray) : ByteArray := if k.size = 0 then ⟨#[107]⟩ else str8 [97 + (k.data.getD 0 0).toNat % 9, 97 + k.size % 3]
/-- A cell of a few. -/
def fewC (c : Cl) : Cl := ⟨c.v % 2, fewK c.k, c.s.tmod 3⟩
theorem fewK_size (k : ByteArray) : 1 ≤ (fewK k).size ∧ (fewK k).size ≤ 2 := by
  unfold fewK
  split
  · exact ⟨by decide, by decide⟩
  · rw [str8_size]; exact ⟨by simp, by simp⟩
theorem few_may (c : Cl) : mayE (fewC c) = 0 := by
  have h1 : -3 < c.s.tmod 3 := Int.lt_tmod_of_pos c.s (by decide)
  have h2 : c.s.tmod 3 < 3 := Int.tmod_lt_of_pos c.s (by decide)
  have h3 := fewK_size c.k
  unfold mayE fewC
  dsimp only
  rw [if_neg (by omega), if_neg (by omega), if_neg (by omega)]

theorem two8_new (w : World) (a b : Value) (e : TypeId) : ∀ (j : Nat) (u : Value), [a, b][j]? = some u → (w.alloc (.cells #[a, b] e)).cell? ((⟨w.heap.size, 0, none⟩ : Addr).add j) = some u := by
  intro j u hj
  match j, hj with
  | 0, hj => simp at hj; subst hj; simp [Addr.add]
  | 1, hj => simp at hj; subst hj; simp [Addr.add]
set_option maxHeartbeats 4000000 in
set_option maxRecDepth 100000 in
theorem few_any (c : Cl) (w : World) (hk : c.k.size ≤ 9223372036854775807) :
    Calls Tryz.prog 19 #[.agg #[.int .i64 c.v, .string c.k, .int .i64 c.s]] w fun r w' => r = .returned (.agg #[.int .i64 (fewC c).v, .string (fewC c).k, .int .i64 (fewC c).s]) ∧ Fr w w' (fun _ => False) := by
  obtain ⟨v, k, s⟩ := c
  unfold fewC
  dsimp only at hk ⊢
  have HW := hid (fun W => within_any v 2 (by decide) (by decide) W)
  have q1 : (3 : Int) ≠ 0 := by decide
  by_cases h0 : k.size = 0
  · rw [show fewK k = ⟨#[107]⟩ by unfold fewK; rw [if_pos h0]]
    have t0 : ¬ (0 : Int) < (k.size : Int) := by omega
    go_enter Tryz.func19, Tryz.ntmps19
    go_wp2_with fail
    have HB : Hid (((w.alloc (.cells #[.int .i64 v, .string k, .int .i64 s] 33)).alloc (.cells #[.int .i64 0, .string ⟨#[]⟩, .int .i64 0] 33)).heap[w.heap.size]? = some (.cells #[.int .i64 v, .string k, .int .i64 s] 33 (0, 0)) ∧ ((w.alloc (.cells #[.int .i64 v, .string k, .int .i64 s] 33)).alloc (.cells #[.int .i64 0, .string ⟨#[]⟩, .int .i64 0] 33)).heap[w.heap.size + 1]? = some (.cells #[.int .i64 0, .string ⟨#[]⟩, .int .i64 0] 33 (0, 0))) := ⟨(Below.heap_alloc _ _ _ (by simp)).trans (heap_last _ _ _ rfl), heap_last _ _ _ (by simp)⟩
    have HFw : Hid (Fr w ((w.alloc (.cells #[.int .i64 v, .string k, .int .i64 s] 33)).alloc (.cells #[.int .i64 0, .string ⟨#[]⟩, .int .i64 0] 33)) (fun _ => False)) := (alloc_fr w _ _).alloc _
    generalize ((w.alloc (.cells #[.int .i64 v, .string k, .int .i64 s] 33)).alloc (.cells #[.int .i64 0, .string ⟨#[]⟩, .int .i64 0] 33)) = wa at *
    have HK := hid (fun (W' : World) (hf : Fr wa W' (fun b => b = w.heap.size + 1)) => cells3 ((hf.block _ (lt_of_block HB.out.1) (by omega)).trans HB.out.1))
    obtain ⟨k0, k1, k2⟩ := HK.out wa (Fr.refl _ _)
    have hl0 := lt_of_block HB.out.1
    obtain ⟨z0, z1, z2⟩ := cells3 HB.out.2
    have hl1 := lt_of_block HB.out.2
    have hzf : ∀ o, wa.frozen? ⟨w.heap.size + 1, o, none⟩ = false := fun o => by simp [World.frozen?, HB.out.2]
    have HFq := hid (Fr.refl wa (fun b => b = w.heap.size + 1))
    go_region_held3 (fun W' => Hid (Fr wa W' (fun b => b = w.heap.size + 1)) ∧ W'.cell? ⟨w.heap.size, 0, none⟩ = some (.int .i64 v) ∧ W'.cell? ⟨w.heap.size, 1, none⟩ = some (.string k) ∧ W'.cell? ⟨w.heap.size, 2, none⟩ = some (.int .i64 s))
      ((refine (fun h => ⟨h, HK.out _ h⟩ : Fr wa _ (fun b => b = w.heap.size + 1) → _) ?_; repeat (first | with_reducible exact HFq.out | with_reducible exact Fr.refl _ _ | with_reducible apply Fr.drew | with_reducible apply Fr.alloc | (with_reducible refine Fr.setCell ?_ ?_ _; rotate_left; (intro h; rfl)))))
      ((go_at_call 17; refine (HW.out _).mono ?_; rintro r w4 ⟨rfl, hw⟩; have HFq := hid (show Fr wa w4 (fun b => b = w.heap.size + 1) from by rw [hw]; repeat (first | with_reducible exact HFq.out | with_reducible exact Fr.refl _ _ | with_reducible apply Fr.drew | with_reducible apply Fr.alloc | (with_reducible refine Fr.setCell ?_ ?_ _; rotate_left; (intro h; rfl)))); have hbk : w4.heap = wa.heap := (by rw [hw]; rfl); have HB4 : Hid (w4.heap[w.heap.size + 1]? = some (.cells #[.int .i64 0, .string ⟨#[]⟩, .int .i64 0] 33 (0, 0))) := (by rw [hbk]; exact HB.out.2); obtain ⟨z0, z1, z2⟩ := cells3 HB4.out; have hzf : ∀ o, w4.frozen? ⟨w.heap.size + 1, o, none⟩ = false := fun o => (by simp [World.frozen?, HB4.out]); have hl4 := lt_of_block HB4.out; clear hw hbk))
    go_wp2_with fail
    refine bodyPost_ret (v := .agg #[.int .i64 (v % 2), .string ⟨#[107]⟩, .int .i64 (s.tmod 3)]) (by simp [results, Tryz.results19, go_sem, z0, z1, z2]) rfl ⟨rfl, ?_⟩
    refine HFw.out.trans2 (S := fun _ => False) (T := fun b => b = w.heap.size + 1) ?_ (fun i hi e => by omega)
    repeat (first | with_reducible exact HFq.out | with_reducible exact Fr.refl _ _ | with_reducible apply Fr.drew | with_reducible apply Fr.alloc | (with_reducible refine Fr.setCell ?_ ?_ _; rotate_left; (intro h; rfl)))
  · rw [show fewK k = str8 [97 + (k.data.getD 0 0).toNat % 9, 97 + k.size % 3] by unfold fewK; rw [if_neg h0]]
    have t0 : (0 : Int) < (k.size : Int) := by omega
    have hp : 0 < k.size := by omega
    have hp2 : 0 < k.data.size := hp
    obtain ⟨m, hm, hm2⟩ : ∃ m : Nat, (k.data.getD 0 0).toNat = m ∧ (k[0]'hp).toNat = m := ⟨_, rfl, by simp only [Array.getD_eq_getD_getElem?, Array.getElem?_eq_getElem hp2]; rfl⟩
    rw [hm]
    have hmb : (m : Int) < 256 := by rw [← hm2]; have := (k[0]'hp).toNat_lt; omega
    go_enter Tryz.func19, Tryz.ntmps19
    go_wp2_with fail
    have b1 : IntKind.u8.wrap (97 + (m : Int) % 9) = 97 + (m : Int) % 9 := by rw [IntKind.wrap_u8]; omega
    have b2 : IntKind.u8.wrap ((k.size : Int) % 3) = (k.size : Int) % 3 := by rw [IntKind.wrap_u8]; omega
    have b3 : IntKind.u8.wrap (97 + (k.size : Int) % 3) = 97 + (k.size : Int) % 3 := by rw [IntKind.wrap_u8]; omega
    have HB0 : Hid (((w.alloc (.cells #[.int .i64 v, .string k, .int .i64 s] 33)).alloc (.cells #[.int .i64 0, .string ⟨#[]⟩, .int .i64 0] 33)).heap[w.heap.size]? = some (.cells #[.int .i64 v, .string k, .int .i64 s] 33 (0, 0)) ∧ ((w.alloc (.cells #[.int .i64 v, .string k, .int .i64 s] 33)).alloc (.cells #[.int .i64 0, .string ⟨#[]⟩, .int .i64 0] 33)).heap[w.heap.size + 1]? = some (.cells #[.int .i64 0, .string ⟨#[]⟩, .int .i64 0] 33 (0, 0))) := ⟨(Below.heap_alloc _ _ _ (by simp)).trans (heap_last _ _ _ rfl), heap_last _ _ _ (by simp)⟩
    have HF0 : Hid (Fr w ((w.alloc (.cells #[.int .i64 v, .string k, .int .i64 s] 33)).alloc (.cells #[.int .i64 0, .string ⟨#[]⟩, .int .i64 0] 33)) (fun _ => False)) := (alloc_fr w _ _).alloc _
    have h00 : ((w.alloc (.cells #[.int .i64 v, .string k, .int .i64 s] 33)).alloc (.cells #[.int .i64 0, .string ⟨#[]⟩, .int .i64 0] 33)).heap.size = w.heap.size + 2 := by simp
    obtain ⟨y0, y1, y2⟩ := cells3 HB0.out.1
    generalize ((w.alloc (.cells #[.int .i64 v, .string k, .int .i64 s] 33)).alloc (.cells #[.int .i64 0, .string ⟨#[]⟩, .int .i64 0] 33)) = wz at *
    have yl : w.heap.size < wz.heap.size := by omega
    have hcw : (convert 102 9 (.slice (some ⟨w.heap.size + 2, 0, none⟩) 2 2)).run Tryz.prog (wz.alloc (.cells #[.int .u8 (97 + (m : Int) % 9), .int .u8 (97 + (k.size : Int) % 3)] 5)).drew = .ok (.string (str8 [97 + m % 9, 97 + k.size % 3])) (wz.alloc (.cells #[.int .u8 (97 + (m : Int) % 9), .int .u8 (97 + (k.size : Int) % 3)] 5)).drew := by
      refine run_str8 Tryz.underlying102 Tryz.underlying5 Tryz.underlying9 (xs := [97 + m % 9, 97 + k.size % 3]) (Or.inr ⟨_, 2, rfl, ?_⟩)
      have := two8_new wz (.int .u8 (97 + (m : Int) % 9)) (.int .u8 (97 + (k.size : Int) % 3)) 5
      rw [h00] at this
      simpa [by8] using this
    go_cut [3] (fun s3 wx => s3 = .string (str8 [97 + m % 9, 97 + k.size % 3]) ∧ Hid (Fr wz wx (fun _ => False)))
    case first =>
      go_region
      all_goals (go_wp2_with fail)
      all_goals go_meet
      all_goals exact ⟨rfl, (show Fr wz _ (fun _ => False) from by repeat (first | with_reducible exact Fr.refl _ _ | with_reducible apply Fr.drew | with_reducible apply Fr.alloc))⟩
    obtain ⟨rfl, HFc⟩ := hcut
    have HB : Hid (wc.heap[w.heap.size]? = some (.cells #[.int .i64 v, .string k, .int .i64 s] 33 (0, 0)) ∧ wc.heap[w.heap.size + 1]? = some (.cells #[.int .i64 0, .string ⟨#[]⟩, .int .i64 0] 33 (0, 0))) := ⟨(HFc.out.block _ (by omega) (fun h => h)).trans HB0.out.1, (HFc.out.block _ (by omega) (fun h => h)).trans HB0.out.2⟩
    have HFw := hid (HF0.out.trans HFc.out)
    clear y0 y1 y2 yl h00
    generalize wc = wa at *
    have HK := hid (fun (W' : World) (hf : Fr wa W' (fun b => b = w.heap.size + 1)) => cells3 ((hf.block _ (lt_of_block HB.out.1) (by omega)).trans HB.out.1))
    obtain ⟨k0, k1, k2⟩ := HK.out wa (Fr.refl _ _)
    have hl0 := lt_of_block HB.out.1
    obtain ⟨z0, z1, z2⟩ := cells3 HB.out.2
    have hl1 := lt_of_block HB.out.2
    have hzf : ∀ o, wa.frozen? ⟨w.heap.size + 1, o, none⟩ = false := fun o => by simp [World.frozen?, HB.out.2]
    have HFq := hid (Fr.refl wa (fun b => b = w.heap.size + 1))
    go_wp2_with fail
    go_region_held3 (fun W' => Hid (Fr wa W' (fun b => b = w.heap.size + 1)) ∧ W'.cell? ⟨w.heap.size, 0, none⟩ = some (.int .i64 v) ∧ W'.cell? ⟨w.heap.size, 1, none⟩ = some (.string k) ∧ W'.cell? ⟨w.heap.size, 2, none⟩ = some (.int .i64 s))
      ((refine (fun h => ⟨h, HK.out _ h⟩ : Fr wa _ (fun b => b = w.heap.size + 1) → _) ?_; repeat (first | with_reducible exact HFq.out | with_reducible exact Fr.refl _ _ | with_reducible apply Fr.drew | with_reducible apply Fr.alloc | (with_reducible refine Fr.setCell ?_ ?_ _; rotate_left; (intro h; rfl)))))
      ((go_at_call 17; refine (HW.out _).mono ?_; rintro r w4 ⟨rfl, hw⟩; have HFq := hid (show Fr wa w4 (fun b => b = w.heap.size + 1) from by rw [hw]; repeat (first | with_reducible exact HFq.out | with_reducible exact Fr.refl _ _ | with_reducible apply Fr.drew | with_reducible apply Fr.alloc | (with_reducible refine Fr.setCell ?_ ?_ _; rotate_left; (intro h; rfl)))); have hbk : w4.heap = wa.heap := (by rw [hw]; rfl); have HB4 : Hid (w4.heap[w.heap.size + 1]? = some (.cells #[.int .i64 0, .string ⟨#[]⟩, .int .i64 0] 33 (0, 0))) := (by rw [hbk]; exact HB.out.2); obtain ⟨z0, z1, z2⟩ := cells3 HB4.out; have hzf : ∀ o, w4.frozen? ⟨w.heap.size + 1, o, none⟩ = false := fun o => (by simp [World.frozen?, HB4.out]); have hl4 := lt_of_block HB4.out; clear hw hbk))
    go_wp2_with fail
    refine bodyPost_ret (v := .agg #[.int .i64 (v % 2), .string (str8 [97 + m % 9, 97 + k.size % 3]), .int .i64 (s.tmod 3)]) (by simp [results, Tryz.results19, go_sem, z0, z1, z2]) rfl ⟨rfl, ?_⟩
    refine HFw.out.trans2 (S := fun _ => False) (T := fun b => b = w.heap.size + 1) ?_ (fun i hi e => by omega)
    repeat (first | with_reducible exact HFq.out | with_reducible exact Fr.refl _ _ | with_reducible apply Fr.drew | with_reducible apply Fr.alloc | (with_reducible refine Fr.setCell ?_ ?_ _; rotate_left; (intro h; rfl)))
end Go.Proofs.YtgbkihkefdoddaaGreatDoor.St
end
