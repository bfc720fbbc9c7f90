/- shard: compare; what a round of Range does: walks. -/
import Derived.Test.YtgbkihkefdoddaaGreatDoorJoin26
import Derived.Test.YtgbkihkefdoddaaGreatDoorJoin23
import Derived.Test.YtgbkihkefdoddaaGreatDoorJoin20
import Derived.Maps.AppendAt
import Derived.Deep.DeepMust
namespace Go.Proofs.YtgbkihkefdoddaaGreatDoor.M
open Go.RowKit
set_option maxHeartbeats 1000000 in
set_option maxRecDepth 100000 in
theorem compareS_any (a b : Cl) (w : World) : Calls Tryz.prog 83 #[vC a, vC b] w fun e w' => e = .returned (.int .i64 (cmpC a b)) ∧ Fr w w' (fun _ => False) := by
  rw [cmpC_or]
  unfold vC
  have HX := hid (fun W => cmp_any a.v b.v W)
  have HY := hid (fun W => compare_any a.k b.k W)
  have HZ := hid (fun W => cmp64_any a.s b.s W)
  generalize cmpI a.v b.v = x at *
  generalize cb (nums8 a.k) (nums8 b.k) = y at *
  generalize cmpI a.s b.s = z at *
  go_enter Tryz.func83, Tryz.ntmps83
  go_wp2_with fail
  have HF0 := hid (((alloc_fr w (.cells #[.int .i64 a.v, .string a.k, .int .i64 a.s] 33) (fun _ => False)).alloc (.cells #[.int .i64 b.v, .string b.k, .int .i64 b.s] 33)))
  have hA : ((w.alloc (.cells #[.int .i64 a.v, .string a.k, .int .i64 a.s] 33)).alloc (.cells #[.int .i64 b.v, .string b.k, .int .i64 b.s] 33)).heap[w.heap.size]? = some (.cells #[.int .i64 a.v, .string a.k, .int .i64 a.s] 33 (0, 0)) := by
    rw [(alloc_fr (w.alloc (.cells #[.int .i64 a.v, .string a.k, .int .i64 a.s] 33)) (.cells #[.int .i64 b.v, .string b.k, .int .i64 b.s] 33) (fun _ => False)).block _ (by simp) (fun h => h)]
    exact heap_last _ _ _ rfl
  have hB := heap_last (w.alloc (.cells #[.int .i64 a.v, .string a.k, .int .i64 a.s] 33)) (.cells #[.int .i64 b.v, .string b.k, .int .i64 b.s] 33) (w.heap.size + 1) (by simp)
  obtain ⟨a0, a1, a2⟩ := cells3 hA
  obtain ⟨b0, b1, b2⟩ := cells3 hB
  have hlA := lt_of_block hA
  have hlB := lt_of_block hB
  clear hA hB
  generalize ((w.alloc (.cells #[.int .i64 a.v, .string a.k, .int .i64 a.s] 33)).alloc (.cells #[.int .i64 b.v, .string b.k, .int .i64 b.s] 33)) = W0 at *
  generalize w.heap.size = N at *
  have HC := hid (fun (W' : World) (hf : Fr W0 W' (fun _ => False)) => (show W'.cell? ⟨N, 0, none⟩ = some (.int .i64 a.v) ∧ W'.cell? ⟨N, 1, none⟩ = some (.string a.k) ∧ W'.cell? ⟨N, 2, none⟩ = some (.int .i64 a.s) ∧ W'.cell? ⟨N + 1, 0, none⟩ = some (.int .i64 b.v) ∧ W'.cell? ⟨N + 1, 1, none⟩ = some (.string b.k) ∧ W'.cell? ⟨N + 1, 2, none⟩ = some (.int .i64 b.s) from by
    have hr := (fr_rules hf).1
    exact ⟨by rw [hr _ _ hlA]; exact a0, by rw [hr _ _ hlA]; exact a1, by rw [hr _ _ hlA]; exact a2, by rw [hr _ _ hlB]; exact b0, by rw [hr _ _ hlB]; exact b1, by rw [hr _ _ hlB]; exact b2⟩))
  have HF := hid (Fr.refl W0 (fun _ => False))
  clear a0 a1 a2 b0 b1 b2 hlA hlB
  go_region_held3 (fun W' => Hid (Fr W0 W' (fun _ => False)) ∧ W'.cell? ⟨N, 0, none⟩ = some (.int .i64 a.v) ∧ W'.cell? ⟨N, 1, none⟩ = some (.string a.k) ∧ W'.cell? ⟨N, 2, none⟩ = some (.int .i64 a.s) ∧ W'.cell? ⟨N + 1, 0, none⟩ = some (.int .i64 b.v) ∧ W'.cell? ⟨N + 1, 1, none⟩ = some (.string b.k) ∧ W'.cell? ⟨N + 1, 2, none⟩ = some (.int .i64 b.s))
    ((refine (fun h => ⟨h, HC.out _ h⟩ : Fr W0 _ (fun _ => False) → _) ?_; repeat (first | exact HF.out | exact Fr.refl _ _ | apply Fr.drew | apply Fr.alloc)))
    (first
    | (go_at_call 85; refine (HX.out _).mono ?_; rintro e w1 ⟨rfl, rfl⟩)
    | (go_at_call 86; refine (HY.out _).mono ?_; rintro e w1 ⟨rfl, rfl⟩)
    | (go_at_call 87; refine (HZ.out _).mono ?_; rintro e w1 ⟨rfl, rfl⟩)
    | (go_at_call 84; refine (or3_any _ _ _ _).mono ?_; rintro e w1 ⟨rfl, rfl⟩)
    | fail)
  go_wp2_with fail
  go_ret
  exact ⟨rfl, HF0.out.trans (((Fr.refl W0 _).alloc _).drew)⟩

end Go.Proofs.YtgbkihkefdoddaaGreatDoor.M
namespace Go.Proofs.YtgbkihkefdoddaaGreatDoor.S
open Go.RowKit G

theorem compare_any (a b : Cl) (w : World) : Calls Tryz.prog 83 #[.agg #[.int .i64 a.v, .string a.k, .int .i64 a.s], .agg #[.int .i64 b.v, .string b.k, .int .i64 b.s]] w fun e w' => e = .returned (.int .i64 (cmpS a b)) ∧ Fr w w' (fun _ => False) := M.compareS_any (mc a) (mc b) w

/-- Blocks of other kinds, and what is no block of cells, stay. -/
def KpT (ts : List TypeId) (W W' : World) : Prop := W.heap.size ≤ W'.heap.size ∧ ∀ (k : Nat) (o : Obj), W.heap[k]? = some o → (∀ cs t z, o = .cells cs t z → t ∉ ts) → W'.heap[k]? = some o
theorem KpT.refl (ts : List TypeId) (W : World) : KpT ts W W := ⟨Nat.le_refl _, fun _ _ h _ => h⟩
theorem KpT.trans {ts : List TypeId} {a b c : World} (h : KpT ts a b) (k : KpT ts b c) : KpT ts a c := ⟨Nat.le_trans h.1 k.1, fun i o hi ho => k.2 i o (h.2 i o hi ho) ho⟩
theorem lt_of_obj {W : World} {k : Nat} {o : Obj} (h : W.heap[k]? = some o) : k < W.heap.size := (Array.getElem?_eq_some_iff.1 h).1
theorem KpT.of {ts : List TypeId} {W W' : World} (hf : Fr W W' (fun _ => False)) : KpT ts W W' := ⟨hf.size, fun k _ hk _ => (hf.block k (lt_of_obj hk) (fun h => h)).trans hk⟩
theorem KpT.frT {ts : List TypeId} {W W' : World} {P : Nat → Prop} (hf : Fr W W' P) (hP : ∀ k, P k → k < W.heap.size → ∃ cs t z, W.heap[k]? = some (.cells cs t z) ∧ t ∈ ts) : KpT ts W W' := ⟨hf.size, fun k o hk ho => by
  refine (hf.block k (lt_of_obj hk) (fun h => ?_)).trans hk
  obtain ⟨cs, t, z, h1, h2⟩ := hP k h (lt_of_obj hk)
  rw [h1] at hk
  exact ho cs t z (Option.some.inj hk).symm h2⟩

theorem Tryz.info_row : (Tryz.prog.info? 58).map (fun i => (i.zero, i.size, i.bytes)) = some (some (.agg #[.int .i64 0, .string ⟨#[]⟩, .int .i64 0, .int .i64 0, .int .i64 0, .int .i64 0, .int .i64 0]), 7, 64) := by kernel_rfl
theorem seven_new (w : World) (a b c d f g i : Value) (e : TypeId) : ∀ (j : Nat) (u : Value), [a, b, c, d, f, g, i][j]? = some u → (w.alloc (.cells #[a, b, c, d, f, g, i] e)).cell? ((⟨w.heap.size, 0, none⟩ : Addr).add j) = some u := by
  intro j u hj
  match j, hj with
  | 0, hj => simp at hj; subst hj; simp [Addr.add]
  | 1, hj => simp at hj; subst hj; simp [Addr.add]
  | 2, hj => simp at hj; subst hj; simp [Addr.add]
  | 3, hj => simp at hj; subst hj; simp [Addr.add]
  | 4, hj => simp at hj; subst hj; simp [Addr.add]
  | 5, hj => simp at hj; subst hj; simp [Addr.add]
  | 6, hj => simp at hj; subst hj; simp [Addr.add]
  | j + 7, hj => simp at hj

/-- While a range is told: what it has told, and what was asked, in memory. -/
structure RI (w W : World) (D Pm Pt Pe Pf : Nat) (most e : Int) (fr til : Cl) (v : Value) (L : List M.Rw) : Prop where
  cD : W.heap[D]? = some (.cells #[v] 65 (0, 0))
  cm : W.heap[Pm]? = some (.cells #[.int .i64 most] 3 (0, 0))
  ct : W.heap[Pt]? = some (.cells #[.int .i64 til.v, .string til.k, .int .i64 til.s] 33 (0, 0))
  ce : W.heap[Pe]? = some (.cells #[.int .i64 e] 3 (0, 0))
  cf : W.heap[Pf]? = some (.cells #[.int .i64 fr.v, .string fr.k, .int .i64 fr.s] 33 (0, 0))
  own : W.ownsRow w.heap.size 58 7 v L.length (M.rc L)
  fr : Fr w W (fun _ => False)
  hD : w.heap.size ≤ D
  len : L.length ≤ 1048576
/-- The kinds of what a round turns. -/
def kR : List TypeId := [58, 65]
theorem RI.step {w W W' : World} {D Pm Pt Pe Pf : Nat} {most e : Int} {fr til : Cl} {v : Value} {L : List M.Rw} (h : RI w W D Pm Pt Pe Pf most e fr til v L) (hf : Fr W W' (fun _ => False)) : RI w W' D Pm Pt Pe Pf most e fr til v L :=
  ⟨(hf.block _ (lt_of_block h.cD) (fun h => h)).trans h.cD, (hf.block _ (lt_of_block h.cm) (fun h => h)).trans h.cm, (hf.block _ (lt_of_block h.ct) (fun h => h)).trans h.ct, (hf.block _ (lt_of_block h.ce) (fun h => h)).trans h.ce, (hf.block _ (lt_of_block h.cf) (fun h => h)).trans h.cf, own_fr h.own hf (fun _ _ h => h), h.fr.trans hf, h.hD, h.len⟩
theorem own_kind {W : World} {base : Nat} {t : TypeId} {size : Nat} {v : Value} {n : Nat} {xs : List Value} (h : W.ownsRow base t size v n xs) {k : Nat} (hk : v.ownBlock = some k) : ∃ cs, W.heap[k]? = some (.cells cs t (0, 0)) := by
  rcases h.2 with ⟨rfl, _⟩ | ⟨g, cap, cur, rfl, _, hg, _⟩
  · simp [Value.ownBlock] at hk
  · have : g = k := by simpa [Value.ownBlock] using hk
    subst this
    exact ⟨_, hg⟩
theorem RI.told {w W W2 : World} {D Pm Pt Pe Pf : Nat} {most e : Int} {fr til : Cl} {v v' : Value} {L : List M.Rw} (h : RI w W D Pm Pt Pe Pf most e fr til v L) (r : M.Rw) (hl : L.length < 1048576)
    (hown : W2.ownsRow w.heap.size 58 7 v' (L.length + 1) (M.rc L ++ [.int .i64 r.c.v, .string r.c.k, .int .i64 r.c.s, .int .i64 r.n, .int .i64 r.s, .int .i64 r.m, .int .i64 r.x])) (hg : W.grownBy W2 v.ownBlock) (hat : v'.ownBlock = v.ownBlock ∨ v'.ownBlock = some W.heap.size) :
    W2.heap[D]? = some (.cells #[v] 65 (0, 0)) ∧ RI w (W2.setCell ⟨D, 0, none⟩ v') D Pm Pt Pe Pf most e fr til v' (L ++ [r]) ∧ KpT kR W (W2.setCell ⟨D, 0, none⟩ v') := by
  have hn : ∀ (k : Nat) (cs : Array Value) (t : TypeId), W.heap[k]? = some (Obj.cells cs t (0, 0)) → t ≠ 58 → W2.heap[k]? = some (Obj.cells cs t (0, 0)) := fun k cs t hk ht => by
    rw [hg.block k (lt_of_block hk) (fun e => own_ne h.own hk ht e.symm)]
    exact hk
  have hD2 := hn _ _ _ h.cD (by decide)
  have hne : v'.ownBlock ≠ some D := by
    rcases hat with e | e
    · rw [e]; exact own_ne h.own h.cD (by decide)
    · rw [e]; intro e2; have := lt_of_block h.cD; simp at e2; omega
  have hfD : Fr W2 (W2.setCell ⟨D, 0, none⟩ v') (fun k => k = D) := (Fr.refl W2 (fun k => k = D)).setCell (p := ⟨D, 0, none⟩) (fun _ => rfl) _
  have hs : ∀ (k : Nat) (cs : Array Value) (t : TypeId), W.heap[k]? = some (Obj.cells cs t (0, 0)) → t ≠ 58 → t ≠ 65 → (W2.setCell ⟨D, 0, none⟩ v').heap[k]? = some (Obj.cells cs t (0, 0)) := fun k cs t hk h1 h2 => by
    have h3 := hn k cs t hk h1
    rw [hfD.block k (lt_of_block h3) (fun e => by rw [e, hD2] at h3; simp only [Option.some.injEq, Obj.cells.injEq] at h3; exact h2 h3.2.1.symm)]
    exact h3
  have hf2 : Fr W (W2.setCell ⟨D, 0, none⟩ v') (fun k => k = D ∨ v.ownBlock = some k) := ((Fr.refl W (fun k => k = D ∨ v.ownBlock = some k)).grown hg (fun k _ e => Or.inr e)).setCell (p := ⟨D, 0, none⟩) (fun _ => Or.inl rfl) _
  refine ⟨hD2, ⟨one_setCell hD2, hs _ _ _ h.cm (by decide) (by decide), hs _ _ _ h.ct (by decide) (by decide), hs _ _ _ h.ce (by decide) (by decide), hs _ _ _ h.cf (by decide) (by decide), ?_, ?_, h.hD, by simp; omega⟩, ?_⟩
  · rw [M.rc_append, List.length_append]
    exact ownsRow_setCell_other (a := ⟨D, 0, none⟩) hown hne v'
  · exact h.fr.trans2 hf2 (fun i hi hT => by
      rcases hT with e | e
      · have := h.hD; omega
      · have := (h.own.lt i e).1; omega)
  · refine KpT.frT hf2 (fun k hk hlt => ?_)
    rcases hk with e | e
    · rw [e]; exact ⟨_, _, _, h.cD, by decide⟩
    · obtain ⟨cs, hcs⟩ := own_kind h.own e
      exact ⟨_, _, _, hcs, by decide⟩

/-- What a round leaves. -/
def RoundR (w W W' : World) (D Pm Pt Pe Pf : Nat) (most e : Int) (fr til : Cl) (L : List M.Rw) (c : Cl) (Lx : List Vn) (r : Ending) : Prop :=
  KpT kR W W' ∧ (((most ≤ L.length ∨ 0 ≤ cmpS c til) ∧ r = .returned (.bool false) ∧ ∃ v', RI w W' D Pm Pt Pe Pf most e fr til v' L) ∨ (¬ (most ≤ L.length ∨ 0 ≤ cmpS c til) ∧ r = .returned (.bool true) ∧ ∃ v', RI w W' D Pm Pt Pe Pf most e fr til v' (L ++ (if 0 < (atE Lx e).c ∧ cmpS fr c ≤ 0 then [rowR c (atE Lx e)] else []))))

set_option maxHeartbeats 4000000 in
set_option maxRecDepth 100000 in
theorem clo_any {w W : World} {D Pm Pt Pe Pf : Nat} {most e : Int} {fr til : Cl} {v : Value} {L : List M.Rw} {base b : Nat} {cv : Value} {Lx : List Vn} (c : Cl) (h : RI w W D Pm Pt Pe Pf most e fr til v L) (hl : L.length < 1048576) (hc : Ch W base b cv Lx) :
    Calls Tryz.prog 82 #[.agg #[.int .i64 c.v, .string c.k, .int .i64 c.s, .pointer (some ⟨b, 0, none⟩)], .pointer (some ⟨D, 0, none⟩), .pointer (some ⟨Pm, 0, none⟩), .pointer (some ⟨Pt, 0, none⟩), .pointer (some ⟨Pe, 0, none⟩), .pointer (some ⟨Pf, 0, none⟩)] W fun r W' => RoundR w W W' D Pm Pt Pe Pf most e fr til L c Lx r := by
  obtain ⟨i0, hi0, hz0, hz1, hz2⟩ := info_parts Tryz.info_row
  have HI := hid h
  obtain ⟨ao, cap, rfl⟩ := own_nil_shape h.own
  have HRd := hid (fun (W' : World) (hf : Fr W W' (fun _ => False)) => (show (W'.cell? ⟨D, 0, none⟩ = some (.slice ao L.length cap) ∧ W'.frozen? ⟨D, 0, none⟩ = false ∧ D < W'.heap.size) ∧ W'.cell? ⟨Pm, 0, none⟩ = some (.int .i64 most) ∧ (W'.cell? ⟨Pt, 0, none⟩ = some (.int .i64 til.v) ∧ W'.cell? ⟨Pt, 1, none⟩ = some (.string til.k) ∧ W'.cell? ⟨Pt, 2, none⟩ = some (.int .i64 til.s)) ∧ W'.cell? ⟨Pe, 0, none⟩ = some (.int .i64 e) ∧ (W'.cell? ⟨Pf, 0, none⟩ = some (.int .i64 fr.v) ∧ W'.cell? ⟨Pf, 1, none⟩ = some (.string fr.k) ∧ W'.cell? ⟨Pf, 2, none⟩ = some (.int .i64 fr.s)) from by
    have h2 := h.step hf
    exact ⟨⟨cell_of_one h2.cD, free_of_one h2.cD, lt_of_block h2.cD⟩, cell_of_one h2.cm, cells3 h2.ct, cell_of_one h2.ce, cells3 h2.cf⟩))
  have HCt := hid (fun W' => compare_any c til W')
  have HCf := hid (fun W' => compare_any fr c W')
  have HRa := hid (fun (W' : World) (hf : Fr W W' (fun _ => False)) => rat_any c e W' (hc.step hf))
  unfold rwV agV at HRa
  clear h hc
  obtain ⟨⟨d0, d1, d2⟩, m0, ⟨t0, t1, t2⟩, e0, ⟨f0, f1, f2⟩⟩ := HRd.out _ (alloc_fr W (.cells #[.int .i64 c.v, .string c.k, .int .i64 c.s, .pointer (some ⟨b, 0, none⟩)] 106) _)
  by_cases hm : most ≤ (L.length : Int)
  · go_enter Tryz.func82, Tryz.ntmps82
    go_wp2_with fail
    go_ret
    unfold RoundR
    exact ⟨KpT.of (alloc_fr _ _ _), Or.inl ⟨Or.inl hm, rfl, _, HI.out.step (alloc_fr _ _ _)⟩⟩
  · have hm1 : ¬ (most ≤ (L.length : Int)) := hm
    generalize hq : cmpS c til = q at HCt
    have HQ := hid hq
    clear hq
    by_cases hq0 : 0 ≤ q
    · go_enter Tryz.func82, Tryz.ntmps82
      go_wp2_with fail
      refine (HCt.out _).mono ?_
      rintro r w1 ⟨rfl, hf⟩
      have HF := hid ((alloc_fr W _ _).trans hf)
      clear hf
      go_wp2_with fail
      go_ret
      unfold RoundR
      rw [HQ.out]
      exact ⟨KpT.of HF.out, Or.inl ⟨Or.inr hq0, rfl, _, HI.out.step HF.out⟩⟩
    · have hq1 : ¬ (0 ≤ q) := hq0
      have HN : Hid (¬ (most ≤ (L.length : Int) ∨ 0 ≤ q)) := by
        show ¬ _
        omega
      generalize hx : atE Lx e = x at HRa
      have HX := hid hx
      clear hx
      go_enter Tryz.func82, Tryz.ntmps82
      go_wp2_with fail
      refine (HCt.out _).mono ?_
      rintro r w1 ⟨rfl, hf⟩
      have HF := hid ((alloc_fr W _ _).trans hf)
      have HB := hid ((hf.block W.heap.size (by simp) (fun h => h)).trans (heap_last _ _ _ rfl))
      clear hf d0 d1 d2 m0 t0 t1 t2 e0 f0 f1 f2
      obtain ⟨⟨d0, d1, d2⟩, m0, ⟨t0, t1, t2⟩, e0, ⟨f0, f1, f2⟩⟩ := HRd.out _ HF.out
      obtain ⟨b0, b1, b2, b3⟩ := cells4 HB.out
      go_wp2_with fail
      refine (HRa.out _ HF.out).mono ?_
      rintro r w2 ⟨rfl, hf⟩
      have HF2 := hid (HF.out.trans hf)
      have HB2 := hid ((hf.block _ (lt_of_block HB.out) (fun h => h)).trans HB.out)
      have hWs : W.heap.size < w2.heap.size := lt_of_block HB2.out
      clear hf d0 d1 d2 m0 t0 t1 t2 e0 f0 f1 f2 b0 b1 b2 b3
      obtain ⟨⟨d0, d1, d2⟩, m0, ⟨t0, t1, t2⟩, e0, ⟨f0, f1, f2⟩⟩ := HRd.out _ HF2.out
      obtain ⟨b0, b1, b2, b3⟩ := cells4 HB2.out
      have lD := lt_of_block (HI.out.step HF2.out).cD
      have lF := lt_of_block (HI.out.step HF2.out).cf
      generalize hp : cmpS fr c = p at HCf
      have HP := hid hp
      clear hp
      by_cases hx0 : 0 < x.c
      · by_cases hp0 : p ≤ 0
        · go_wp2_with fail
          refine (HCf.out _).mono ?_
          rintro r w3 ⟨rfl, hf⟩
          have HF3 := hid (HF2.out.trans ((alloc_fr w2 _ _).trans hf))
          have HG3 := hid ((hf.block w2.heap.size (by simp) (fun h => h)).trans (heap_last _ _ _ rfl))
          have HB3 := hid ((hf.block W.heap.size (by simp; omega) (fun h => h)).trans ((Below.heap_alloc _ _ _ hWs).trans HB2.out))
          clear hf d0 d1 d2 m0 t0 t1 t2 e0 f0 f1 f2 b0 b1 b2 b3 lD lF
          obtain ⟨⟨d0, d1, d2⟩, m0, ⟨t0, t1, t2⟩, e0, ⟨f0, f1, f2⟩⟩ := HRd.out _ HF3.out
          obtain ⟨b0, b1, b2, b3⟩ := cells4 HB3.out
          obtain ⟨g0, g1, g2, g3⟩ := cells4 HG3.out
          have HI3 := hid ((HI.out.step HF3.out).step (alloc_fr w3 (.cells #[.int .i64 c.v, .string c.k, .int .i64 c.s, .int .i64 x.c, .int .i64 x.s, .int .i64 x.m, .int .i64 x.x] 58) _))
          have hsz := HI3.out.fr.size
          go_wp2_with (at_builtin; go_must (refine wpList_append_own_at _ rfl (.tmp 33) (.tmp 38) 65 rfl w.heap.size 58 i0 _ 7 64 Tryz.underlying65 hi0 hz0 hz1 hz2 rfl (by decide) _ _ _ rfl HI3.out.own ⟨w3.heap.size, 0, none⟩ 1 1 [.int .i64 c.v, .string c.k, .int .i64 c.s, .int .i64 x.c, .int .i64 x.s, .int .i64 x.m, .int .i64 x.x] rfl rfl ?q1 ?q2 ?q3 ?q4 ?q5 ?_))
          case q1 => exact seven_new w3 _ _ _ _ _ _ _ _
          case q2 => intro u hu; simp at hu; rcases hu with rfl | rfl | rfl | rfl | rfl | rfl | rfl <;> rfl
          case q3 => unfold maxLen; omega
          case q4 => omega
          case q5 => exact hsz
          intro v' w4 hown4 hgrow4 hnil4 hat4
          obtain ⟨hD4, hR4, hK4⟩ := HI3.out.told (rowR c x) hl hown4 hgrow4 (by simpa using hat4)
          obtain ⟨ao4, cap4, rfl⟩ := own_nil_shape hown4
          have HR4 := hid hR4
          have HK4 := hid ((KpT.of (HF3.out.alloc (.cells #[.int .i64 c.v, .string c.k, .int .i64 c.s, .int .i64 x.c, .int .i64 x.s, .int .i64 x.m, .int .i64 x.x] 58))).trans hK4)
          have y0 := cell_of_one hD4
          have y1 := free_of_one hD4
          have y2 := lt_of_block hD4
          clear hown4 hgrow4 hnil4 hat4 hD4 hR4 hK4 d0 d1 d2 m0 t0 t1 t2 e0 f0 f1 f2 b0 b1 b2 b3 g0 g1 g2 g3
          go_wp2_with fail
          go_ret
          unfold RoundR
          rw [HQ.out, HX.out, HP.out]
          exact ⟨HK4.out, Or.inr ⟨HN.out, rfl, _, by rw [if_pos ⟨hx0, hp0⟩]; exact HR4.out⟩⟩
        · go_wp2_with fail
          refine (HCf.out _).mono ?_
          rintro r w3 ⟨rfl, hf⟩
          have HF3 := hid (HF2.out.trans ((alloc_fr w2 _ _).trans hf))
          clear hf
          go_wp2_with fail
          go_ret
          unfold RoundR
          rw [HQ.out, HX.out, HP.out]
          exact ⟨KpT.of HF3.out, Or.inr ⟨HN.out, rfl, _, by rw [if_neg (fun h => by have := h.2; omega), List.append_nil]; exact HI.out.step HF3.out⟩⟩
      · go_wp2_with fail
        go_ret
        unfold RoundR
        rw [HQ.out, HX.out, HP.out]
        exact ⟨KpT.of (HF2.out.alloc _), Or.inr ⟨HN.out, rfl, _, by rw [if_neg (fun h => by have := h.1; omega), List.append_nil]; exact HI.out.step (HF2.out.alloc _)⟩⟩
end Go.Proofs.YtgbkihkefdoddaaGreatDoor.S
