/- Texts of one proof, joined. -/
import Derived.Test.YtgbkihkefdoddaaGreatDoorJoin9
import Derived.Deep.RegionLaw
section
/- chain: lay, Put, Kill: walks. -/
namespace Go.Proofs.YtgbkihkefdoddaaGreatDoor.G
open Go.RowKit

/-- The append at an operation, and where the new slice lies. -/
theorem wp_append_own_at {P : Program} (w : World) {o : Oper} {a : Act} {K : Act → World → Prop} {Q : Exit → Act → World → Prop} (s x : Operand) (t : TypeId)
    (ho : o.op = .call { callee := .builtin .append, args := #[s, x], argTypes := #[t, t] })
    (base : Nat) (e : TypeId) (i : TypeInfo) (z : Value) (size bytes : Nat) (ht : P.underlying t = some (.slice e)) (hi : P.info? e = some i) (hz : i.zero = some z)
    (hsize : i.size = size) (hby : i.bytes = bytes) (hzs : z.cells.size = size) (hsz : 0 < size)
    (v : Value) (n : Nat) (xs : List Value) (hs : a.eval s = v) (hown : w.ownsRow base e size v n xs)
    (ad : Addr) (m c : Nat) (news : List Value) (hx : a.eval x = .slice (some ad) m c) (hl : news.length = m * size) (hnews : ∀ j u, news[j]? = some u → w.cell? (ad.add j) = some u) (h1 : ∀ u ∈ news, u.oneCell' = true)
    (h63 : n + m ≤ maxLen) (hbytes : (n + m) * bytes ≤ 140737488355328) (hbase : base ≤ w.heap.size)
    (h : ∀ v' w', w'.ownsRow base e size v' (n + m) (xs ++ news) → w.grownBy w' v.ownBlock → (v'.ownBlock = v.ownBlock ∨ v'.ownBlock = some w.heap.size) → K (a.put o.dst v') w') : o.wp P a w K Q := by
  obtain ⟨v', w', hr, h2, h3, _, h5⟩ := run_append_own_at (P := P) w base t o.type e i z size bytes ht hi hz hsize hby hzs hsz v n xs hown ad m c news hl hnews h1 h63 hbytes hbase
  unfold Oper.wp execOp
  simp only [ho, resolve, invoke, builtin, Sem.run_bind, Sem.run_pure, Result.andThen_ok, List.map_toArray, List.map_cons, List.map_nil, hs, hx, hr]
  exact h v' w' h2 h3 h5

theorem Tryz.info_vn : (Tryz.prog.info? 143).map (fun i => (i.zero, i.size, i.bytes)) = some (some (.agg #[.int .i64 0, .bool false, .int .i64 0, .int .i64 0, .int .i64 0, .int .i64 0]), 6, 48) := by kernel_rfl

theorem six_new (w : World) (a b c d f g : Value) (e : TypeId) : ∀ (j : Nat) (u : Value), [a, b, c, d, f, g][j]? = some u → (w.alloc (.cells #[a, b, c, d, f, g] e)).cell? ((⟨w.heap.size, 0, none⟩ : Addr).add j) = some u := by
  intro j u hj
  match j, hj with
  | 0, hj => simp at hj; subst hj; simp [Addr.add]
  | 1, hj => simp at hj; subst hj; simp [Addr.add]
  | 2, hj => simp at hj; subst hj; simp [Addr.add]
  | 3, hj => simp at hj; subst hj; simp [Addr.add]
  | 4, hj => simp at hj; subst hj; simp [Addr.add]
  | 5, hj => simp at hj; subst hj; simp [Addr.add]

theorem vc_set : ∀ (L : List Vn) (i : Nat) (x : Vn), i < L.length → vc (L.set i x) = ((((((vc L).set (i * 6) (.int .i64 x.e)).set (i * 6 + 1) (.bool x.t)).set (i * 6 + 2) (.int .i64 x.v.c)).set (i * 6 + 3) (.int .i64 x.v.s)).set (i * 6 + 4) (.int .i64 x.v.m)).set (i * 6 + 5) (.int .i64 x.v.x)
  | [], i, x, h => by simp at h
  | y :: L, 0, x, _ => rfl
  | y :: L, i + 1, x, h => by
    have := vc_set L i x (by simpa using h)
    rw [show (i + 1) * 6 = i * 6 + 6 by omega]
    simp [vc, this]
/-- The world behind a version's store. -/
def set6 (w : World) (g o : Nat) (x : Vn) : World := (((((w.setCell ⟨g, o, none⟩ (.int .i64 x.e)).setCell ⟨g, o + 1, none⟩ (.bool x.t)).setCell ⟨g, o + 2, none⟩ (.int .i64 x.v.c)).setCell ⟨g, o + 3, none⟩ (.int .i64 x.v.s)).setCell ⟨g, o + 4, none⟩ (.int .i64 x.v.m)).setCell ⟨g, o + 5, none⟩ (.int .i64 x.v.x)
theorem own_set6 {w : World} {base g cap : Nat} {L : List Vn} (h : w.ownsRow base 143 6 (.slice (some ⟨g, 0, none⟩) L.length cap) L.length (vc L)) (i : Nat) (hi : i < L.length) (x : Vn) :
    (set6 w g (i * 6) x).ownsRow base 143 6 (.slice (some ⟨g, 0, none⟩) L.length cap) L.length (vc (L.set i x)) := by
  rcases h.2 with ⟨h0, _⟩ | ⟨g', cap', cur, e, hb, hg, hn, hm, hs, ht⟩
  · simp at h0
  · simp only [Value.slice.injEq, Option.some.injEq, Addr.mk.injEq, and_true, true_and] at e
    obtain ⟨rfl, rfl⟩ := e
    have h1 := heap_setCell_same w g (i * 6) cur _ (.int .i64 x.e) hg
    have h2 := heap_setCell_same _ g (i * 6 + 1) _ _ (.bool x.t) h1
    have h3 := heap_setCell_same _ g (i * 6 + 2) _ _ (.int .i64 x.v.c) h2
    have h4 := heap_setCell_same _ g (i * 6 + 3) _ _ (.int .i64 x.v.s) h3
    have h5 := heap_setCell_same _ g (i * 6 + 4) _ _ (.int .i64 x.v.m) h4
    have h6 := heap_setCell_same _ g (i * 6 + 5) _ _ (.int .i64 x.v.x) h5
    refine ⟨by rw [vc_length, List.length_set], Or.inr ⟨g, cap, _, rfl, hb, h6, hn, hm, by simpa using hs, ?_⟩⟩
    rw [vc_set L i x hi, ← ht]
    simp only [Array.toList_setIfInBounds, List.take_set]
theorem set6_fr (w : World) (g o : Nat) (x : Vn) {a : World} {S : Nat → Prop} (h : Fr a w S) (hg : g < a.heap.size → S g) : Fr a (set6 w g o x) S :=
  (((((h.setCell (p := ⟨g, o, none⟩) hg _).setCell (p := ⟨g, o + 1, none⟩) hg _).setCell (p := ⟨g, o + 2, none⟩) hg _).setCell (p := ⟨g, o + 3, none⟩) hg _).setCell (p := ⟨g, o + 4, none⟩) hg _).setCell (p := ⟨g, o + 5, none⟩) hg _
theorem own_free {w : World} {base g n cap : Nat} {xs : List Value} (h : w.ownsRow base 143 6 (.slice (some ⟨g, 0, none⟩) n cap) n xs) (o : Nat) : w.frozen? ⟨g, o, none⟩ = false := by
  rcases h.2 with ⟨h0, _⟩ | ⟨g', cap', cur, e, hb, hg, _⟩
  · simp at h0
  · simp only [Value.slice.injEq, Option.some.injEq, Addr.mk.injEq, and_true, true_and] at e
    obtain ⟨rfl, rfl⟩ := e
    simp [World.frozen?, hg]
theorem set_last {L : List Vn} (h : L ≠ []) (x : Vn) : L.set (L.length - 1) x = L.dropLast ++ [x] := by
  conv => lhs; rw [snoc_of h]
  rw [List.set_append_right _ _ (by simp)]
  simp

theorem own_drew {w : World} {base n m : Nat} {v : Value} {xs : List Value} (h : w.ownsRow base 143 6 v n xs) (e : m = n) : w.drew.ownsRow base 143 6 v m xs := by
  subst e
  exact own_fr h ((Fr.refl w (fun _ => False)).drew) (fun _ _ h => h)

theorem grown_keep {W W2 : World} {row : Option Nat} {B : Nat} {o : Obj} (hB : W.heap[B]? = some o) (hg : W.grownBy W2 row) (hne : row ≠ some B) : W2.heap[B]? = some o := by
  rw [hg.block B (lt_of_block hB) (fun e => hne e.symm)]
  exact hB
theorem lay_nw {w : World} {base B N : Nat} {v v' : Value} {L : List Vn} (h : Ch w base B v L) (hat : v'.ownBlock = v.ownBlock ∨ v'.ownBlock = some N) (hN : w.heap.size ≤ N) : Nw w v v' ∧ v'.ownBlock ≠ some B := by
  refine ⟨Nw.of hat hN, fun e => ?_⟩
  rcases hat with h1 | h1
  · exact h.ne (h1 ▸ e)
  · rw [h1] at e
    cases e
    have := h.lt
    omega

set_option maxHeartbeats 2000000 in
set_option maxRecDepth 100000 in
theorem lay_any {base B : Nat} {v : Value} {L : List Vn} (x : Vn) (w : World) (h : Ch w base B v L) (hx : x.ok) (hle : (nw L).e ≤ x.e) (hlen : L.length < 2000000) (hbase : base ≤ w.heap.size) :
    Calls Tryz.prog 110 #[.pointer (some ⟨B, 0, none⟩), vA x] w fun e w' => e = .returned (.int .i64 (layN L x)) ∧ ∃ v', Ch w' base B v' (layL L x) ∧ Fr w w' (fun k => k = B ∨ v.ownBlock = some k) ∧ Nw w v v' := by
  obtain ⟨i0, hi, hz0, hz1, hz2⟩ := info_parts Tryz.info_vn
  have hc := cell_of_one h.cell
  have hfz := free_of_one h.cell
  have HCh := hid h
  have HBc := hid h.cell
  obtain ⟨ao, cap, rfl, _⟩ := own_shape h.own
  have hlt := h.lt
  have HGd := hid (layL_good h.good hx hle)
  have HLl := hid (layL_len h.good x hx)
  have HLast := hid (fun W h => last_any (.slice ao L.length cap) L W h)
  have HV := hid h.vs
  have hfs := field_st
  have hfe := field_ep
  clear h
  unfold vA at HLast ⊢
  have HC0 := hid (fun (W' : World) (hf : Fr (w.alloc (.cells #[.int .i64 x.e, .bool x.t, .int .i64 x.v.c, .int .i64 x.v.s, .int .i64 x.v.m, .int .i64 x.v.x] 143)) W' (fun _ => False)) =>
    (show W'.cell? ⟨w.heap.size, 0, none⟩ = some (.int .i64 x.e) ∧ W'.cell? ⟨w.heap.size, 1, none⟩ = some (.bool x.t) ∧ W'.cell? ⟨w.heap.size, 2, none⟩ = some (.int .i64 x.v.c) ∧ W'.cell? ⟨w.heap.size, 3, none⟩ = some (.int .i64 x.v.s) ∧ W'.cell? ⟨w.heap.size, 4, none⟩ = some (.int .i64 x.v.m) ∧ W'.cell? ⟨w.heap.size, 5, none⟩ = some (.int .i64 x.v.x) ∧ W'.cell? ⟨B, 0, none⟩ = some (.slice ao L.length cap) ∧ W'.frozen? ⟨B, 0, none⟩ = false ∧ B < W'.heap.size ∧ w.heap.size < W'.heap.size from by
      have hr := fr_rules hf
      have hs := hf.size
      simp at hs
      obtain ⟨n0, n1, n2, n3, n4, n5⟩ := cells6 (heap_last w (.cells #[.int .i64 x.e, .bool x.t, .int .i64 x.v.c, .int .i64 x.v.s, .int .i64 x.v.m, .int .i64 x.v.x] 143) _ rfl)
      have h1 := (alloc_fr w (.cells #[.int .i64 x.e, .bool x.t, .int .i64 x.v.c, .int .i64 x.v.s, .int .i64 x.v.m, .int .i64 x.v.x] 143) (fun _ => False))
      have hr1 := fr_rules h1
      refine ⟨by rw [hr.1 _ _ (by simp)]; exact n0, by rw [hr.1 _ _ (by simp)]; exact n1, by rw [hr.1 _ _ (by simp)]; exact n2, by rw [hr.1 _ _ (by simp)]; exact n3, by rw [hr.1 _ _ (by simp)]; exact n4, by rw [hr.1 _ _ (by simp)]; exact n5, by rw [hr.1 _ _ (by simp; omega), hr1.1 _ _ hlt]; exact hc, by rw [hr.2 _ _ (by simp; omega), hr1.2 _ _ hlt]; exact hfz, by omega, by omega⟩))
  have HE := hid (show (x.e = (nw L).e → L ≠ []) from by
    intro e h0
    subst h0
    have := hx.1
    simp [nw, z0] at e
    omega)
  have HN := hid (rfl : nw L = nw L)
  generalize hy : nw L = y at HLast HN
  have HY := hid hy
  obtain ⟨xe, xt, xv⟩ := x
  dsimp only at *
  by_cases heq : xe = y.e
  · have he : (layN L ⟨xe, xt, xv⟩) = 0 := by unfold layN; rw [hy, if_pos heq]
    have hl2 : layL L ⟨xe, xt, xv⟩ = L.dropLast ++ [⟨xe, xt, xv⟩] := by unfold layL; rw [hy, if_pos heq]
    rw [he]
    rw [hl2] at HGd HLl ⊢
    rw [← set_last (HE.out (by rw [hy]; exact heq)) ⟨xe, xt, xv⟩] at HGd HLl ⊢
    have hLne : L ≠ [] := HE.out (by rw [hy]; exact heq)
    have hpos : 0 < L.length := List.length_pos_iff.2 hLne
    obtain ⟨g, rfl⟩ : ∃ g, ao = some ⟨g, 0, none⟩ := by
      have := HCh.out.own.2
      rcases this with ⟨_, h0⟩ | ⟨g', cap', cur, e1, _⟩
      · omega
      · simp only [Value.slice.injEq] at e1
        exact ⟨g', e1.1⟩
    clear hLne hy he hl2
    subst heq
    have t2 : 0 ≤ (L.length : Int) - 1 := by omega
    have t3 : (L.length : Int) - 1 < (L.length : Int) := by omega
    go_enter Tryz.func110, Tryz.ntmps110
    go_wp2_with fail
    first
      | go_region_held3 (fun W' => Hid (Fr (w.alloc (.cells #[.int .i64 y.e, .bool xt, .int .i64 xv.c, .int .i64 xv.s, .int .i64 xv.m, .int .i64 xv.x] 143)) W' (fun _ => False)) ∧ W'.cell? ⟨w.heap.size, 0, none⟩ = some (.int .i64 y.e) ∧ W'.cell? ⟨B, 0, none⟩ = some (.slice (some ⟨g, 0, none⟩) L.length cap))
          ((refine (fun h => ⟨h, (HC0.out _ h).1, (HC0.out _ h).2.2.2.2.2.2.1⟩ : Fr (w.alloc (.cells #[.int .i64 y.e, .bool xt, .int .i64 xv.c, .int .i64 xv.s, .int .i64 xv.m, .int .i64 xv.x] 143)) _ (fun _ => False) → _) ?_; repeat (first | exact HF.out | exact Fr.refl _ _ | apply Fr.drew)))
          ((go_at_call 109; refine (HLast.out _ ((HV.out.fr (alloc_fr w _ _)).fr (by repeat (first | exact HF.out | exact Fr.refl _ _ | apply Fr.drew)))).mono ?_; rintro e w1 ⟨rfl, hf⟩; have HF := hid (Fr.trans (a := (w.alloc (.cells #[.int .i64 y.e, .bool xt, .int .i64 xv.c, .int .i64 xv.s, .int .i64 xv.m, .int .i64 xv.x] 143))) (by repeat (first | exact HF.out | exact Fr.refl _ _ | apply Fr.drew)) hf); clear hf))
      | fail
    have HC1 := hid (fun (W' : World) (hf : Fr (w.alloc (.cells #[.int .i64 y.e, .bool xt, .int .i64 xv.c, .int .i64 xv.s, .int .i64 xv.m, .int .i64 xv.x] 143)) W' (fun _ => False)) => own_fr (own_fr HCh.out.own (alloc_fr w _ (fun _ => False)) (fun _ _ h => h)) hf (fun _ _ h => h))
    have HC2 := hid (fun (W' : World) (hf : Fr (w.alloc (.cells #[.int .i64 y.e, .bool xt, .int .i64 xv.c, .int .i64 xv.s, .int .i64 xv.m, .int .i64 xv.x] 143)) W' (fun _ => False)) =>
      (show ∃ u1 u2 u3 u4 u5 u6, W'.cell? ⟨g, (L.length - 1) * 6, none⟩ = some u1 ∧ W'.cell? ⟨g, (L.length - 1) * 6 + 1, none⟩ = some u2 ∧ W'.cell? ⟨g, (L.length - 1) * 6 + 2, none⟩ = some u3 ∧ W'.cell? ⟨g, (L.length - 1) * 6 + 3, none⟩ = some u4 ∧ W'.cell? ⟨g, (L.length - 1) * 6 + 4, none⟩ = some u5 ∧ W'.cell? ⟨g, (L.length - 1) * 6 + 5, none⟩ = some u6 from by
        obtain ⟨ao', cap', e, _, _, hb⟩ := own_vs (HC1.out _ hf) (by omega)
        simp only [Value.slice.injEq] at e
        obtain ⟨rfl, _, rfl⟩ := e
        obtain ⟨b, e, hb⟩ := hb (List.length_pos_iff.1 hpos)
        cases e
        obtain ⟨h1, h2, h3, h4, h5, h6⟩ := hb (L.length - 1) (by omega)
        exact ⟨_, _, _, _, _, _, h1, h2, h3, h4, h5, h6⟩))
    have HGlt := hid (show g ≠ w.heap.size from by have := HCh.out.own.lt g rfl; omega)
    obtain ⟨c0, c1, c2, p3, p4, p5, c3, c4, c5, c6⟩ := HC0.out _ HF.out
    obtain ⟨u1, u2, u3, u4, u5, u6, d1, d2, d3, d4, d5, d6⟩ := HC2.out _ HF.out
    have f1 := own_free (HC1.out _ HF.out) ((L.length - 1) * 6)
    have f2 := own_free (HC1.out _ HF.out) ((L.length - 1) * 6 + 1)
    have f3 := own_free (HC1.out _ HF.out) ((L.length - 1) * 6 + 2)
    have f4 := own_free (HC1.out _ HF.out) ((L.length - 1) * 6 + 3)
    have f5 := own_free (HC1.out _ HF.out) ((L.length - 1) * 6 + 4)
    have f6 := own_free (HC1.out _ HF.out) ((L.length - 1) * 6 + 5)
    have HGB := hid (show B ≠ g from fun e => HCh.out.ne (by rw [← e]; rfl))
    clear HLast HV HCh hc hfz hx hle
    go_wp2_with fail
    go_region
    go_wp2_with fail
    go_ret
    have hO := own_set6 (HC1.out _ HF.out) (L.length - 1) (by omega) ⟨y.e, xt, xv⟩
    have hF0 : Fr w w1 (fun k => k = B ∨ (Value.slice (some ⟨g, 0, none⟩) L.length cap).ownBlock = some k) := (alloc_fr w _ _).trans2 HF.out (fun _ _ h => h.elim)
    have hB : (set6 w1 g ((L.length - 1) * 6) ⟨y.e, xt, xv⟩).heap[B]? = some (.cells #[.slice (some ⟨g, 0, none⟩) L.length cap] 147 (0, 0)) := by
      have h1 := set6_fr w1 g ((L.length - 1) * 6) ⟨y.e, xt, xv⟩ (Fr.refl w1 (fun k => k = g)) (fun _ => rfl)
      rw [h1.block B c5 HGB.out, HF.out.block B (by simp; omega) (fun h => h), Below.heap_alloc _ _ B hlt]
      exact HBc.out
    have fin : ∀ W : World, W = (set6 w1 g ((L.length - 1) * 6) ⟨y.e, xt, xv⟩).drew → ∃ v', Ch W base B v' (L.set (L.length - 1) ⟨y.e, xt, xv⟩) ∧ Fr w W (fun k => k = B ∨ (Value.slice (some ⟨g, 0, none⟩) L.length cap).ownBlock = some k) ∧ Nw w (.slice (some ⟨g, 0, none⟩) L.length cap) v' := by
      rintro W rfl
      exact ⟨.slice (some ⟨g, 0, none⟩) L.length cap, (Ch.mk hB (by rw [List.length_set]; exact hO) HGd.out (by simp; omega)).step ((Fr.refl _ _).drew), (set6_fr w1 g ((L.length - 1) * 6) ⟨y.e, xt, xv⟩ hF0 (fun _ => Or.inr rfl)).drew, Nw.refl _ _⟩
    refine ⟨rfl, fin _ ?_⟩
    unfold set6
    rfl
  · have he : (layN L ⟨xe, xt, xv⟩) = 1 := by unfold layN; rw [hy, if_neg heq]
    have hl2 : layL L ⟨xe, xt, xv⟩ = L ++ [⟨xe, xt, xv⟩] := by unfold layL; rw [hy, if_neg heq]
    rw [he]
    rw [hl2] at HGd HLl ⊢
    have t1 : (xe == y.e) = false := by simpa using heq
    clear hy he hl2 heq
    go_enter Tryz.func110, Tryz.ntmps110
    go_wp2_with fail
    first
      | go_region_held3 (fun W' => Hid (Fr (w.alloc (.cells #[.int .i64 xe, .bool xt, .int .i64 xv.c, .int .i64 xv.s, .int .i64 xv.m, .int .i64 xv.x] 143)) W' (fun _ => False)) ∧ W'.cell? ⟨w.heap.size, 0, none⟩ = some (.int .i64 xe) ∧ W'.cell? ⟨B, 0, none⟩ = some (.slice ao L.length cap))
          ((refine (fun h => ⟨h, (HC0.out _ h).1, (HC0.out _ h).2.2.2.2.2.2.1⟩ : Fr (w.alloc (.cells #[.int .i64 xe, .bool xt, .int .i64 xv.c, .int .i64 xv.s, .int .i64 xv.m, .int .i64 xv.x] 143)) _ (fun _ => False) → _) ?_; repeat (first | exact HF.out | exact Fr.refl _ _ | apply Fr.drew)))
          ((go_at_call 109; refine (HLast.out _ ((HV.out.fr (alloc_fr w _ _)).fr (by repeat (first | exact HF.out | exact Fr.refl _ _ | apply Fr.drew)))).mono ?_; rintro e w1 ⟨rfl, hf⟩; have HF := hid (Fr.trans (a := (w.alloc (.cells #[.int .i64 xe, .bool xt, .int .i64 xv.c, .int .i64 xv.s, .int .i64 xv.m, .int .i64 xv.x] 143))) (by repeat (first | exact HF.out | exact Fr.refl _ _ | apply Fr.drew)) hf); clear hf))
      | fail
    have HC1 := hid (fun (W' : World) (hf : Fr (w.alloc (.cells #[.int .i64 xe, .bool xt, .int .i64 xv.c, .int .i64 xv.s, .int .i64 xv.m, .int .i64 xv.x] 143)) W' (fun _ => False)) => own_fr (own_fr HCh.out.own (alloc_fr w _ (fun _ => False)) (fun _ _ h => h)) hf (fun _ _ h => h))
    obtain ⟨c0, c1, c2, p3, p4, p5, c3, c4, c5, c6⟩ := HC0.out _ HF.out
    have HO1 := hid (HC1.out _ HF.out)
    have HB1 := hid ((HF.out.block B (by simp; omega) (fun h => h)).trans ((Below.heap_alloc _ _ B hlt).trans HBc.out))
    have HF0 := hid ((alloc_fr w _ (fun k => k = B ∨ (Value.slice ao L.length cap).ownBlock = some k)).trans2 HF.out (fun _ _ h => h.elim))
    have HNE := hid HCh.out.ne
    clear HLast HV hc hfz hx hle
    have hbase1 : base ≤ w1.heap.size := by omega
    go_wp2_with fail
    go_region_law (refine wp_append_own_at _ (.tmp 32) (.tmp 34) 145 rfl base 143 i0 _ 6 48 Tryz.underlying145 hi hz0 hz1 hz2 rfl (by decide) (.slice ao L.length cap) L.length (vc L) rfl (by repeat (first | exact HO1.out | refine own_fr ?_ (alloc_fr _ _ (fun _ => False)) (fun _ _ h => h) | refine own_fr ?_ (Fr.drew (Fr.refl _ (fun _ => False))) (fun _ _ h => h))) ⟨_, 0, none⟩ 1 1 [_, _, _, _, _, _] rfl rfl (six_new _ _ _ _ _ _ _ _) (fun u hu => by simp at hu; rcases hu with rfl | rfl | rfl | rfl | rfl | rfl <;> rfl) (by unfold maxLen; omega) (by omega) (by simp; omega) ?_; intro v' w2 hown2 hgrow2 hat2; have HB2 := hid (grown_keep ((Fr.block (w := w1) (S := fun _ => False) (by repeat (first | exact Fr.refl _ _ | apply Fr.alloc | apply Fr.drew)) B c5 (fun h => h)).trans HB1.out) hgrow2 HNE.out); have HG2 := hid (Fr.grown (a := w) (S := fun k => k = B ∨ (Value.slice ao L.length cap).ownBlock = some k) (by repeat (first | exact HF0.out | apply Fr.alloc | apply Fr.drew)) hgrow2 (fun k _ e => Or.inr e)); have HN2 := hid (lay_nw HCh.out hat2 (by simp; omega)); have hb1 := cell_of_one HB2.out; have hb2 := free_of_one HB2.out; have hb3 := lt_of_block HB2.out; obtain ⟨ao2, cap2, rfl, _⟩ := own_shape hown2; have HO2 := hid hown2; clear hown2 hgrow2 hat2)
    all_goals (
      go_wp2_with fail
      go_ret
      refine ⟨rfl, _, ⟨one_setCell HB2.out, ?_, HGd.out, by simp; omega⟩, HG2.out.setCell (fun _ => Or.inl rfl) _, HN2.out.1⟩
      have := ownsRow_setCell_other (a := ⟨B, 0, none⟩) HO2.out HN2.out.2 (.slice ao2 (L.length + 1) cap2)
      rw [vc_append]
      simpa [vc] using this)
end Go.Proofs.YtgbkihkefdoddaaGreatDoor.G
end

section
/- chain: Put, Kill: walks. -/
namespace Go.Proofs.YtgbkihkefdoddaaGreatDoor.G
open Go.RowKit

set_option maxRecDepth 100000 in
theorem put_any {base B : Nat} {v : Value} {L : List Vn} (e : Int) (x : A4) (w : World) (h : Ch w base B v L) (hx : fit4 x) (hlen : L.length < 2000000) (hbase : base ≤ w.heap.size) :
    Calls Tryz.prog 77 #[.pointer (some ⟨B, 0, none⟩), .int .i64 e, .agg #[.int .i64 x.c, .int .i64 x.s, .int .i64 x.m, .int .i64 x.x]] w fun r w' => r = .returned (.tuple #[.int .i64 (putN L e), .int .i64 (wrong L e)]) ∧ ∃ v', Ch w' base B v' (putL L e x) ∧ Fr w w' (fun k => k = B ∨ v.ownBlock = some k) ∧ Nw w v v' := by
  have HCk := hid (fun (W : World) (hf : Fr w W (fun _ => False)) => check_any e W (h.step hf))
  have HCh := hid h
  have HLay := hid (fun (w' : World) (hf : Fr w w' (fun _ => False)) (hw : wrong L e = 0) => lay_any ⟨e, true, x⟩ w' (h.step hf) ⟨(wrong_zero hw).1, (wrong_zero hw).2.1, hx, fun h => by cases h⟩ (wrong_zero hw).2.2 hlen (Nat.le_trans hbase hf.size))
  clear h hx hlen hbase
  unfold vA at HLay
  have HP : Hid (putN L e = if wrong L e = 0 then layN L ⟨e, true, x⟩ else 0) := rfl
  have HQ : Hid (putL L e x = if wrong L e = 0 then layL L ⟨e, true, x⟩ else L) := rfl
  by_cases hw : wrong L e = 0
  · have hp := HP.out
    have hq := HQ.out
    rw [if_pos hw] at hp hq
    rw [hp, hq, hw]
    rw [hw] at HCk
    have HW := hid hw
    clear hw hp hq HP HQ
    generalize layN L ⟨e, true, x⟩ = N at *
    go_enter Tryz.func77, Tryz.ntmps77
    go_wp2_with fail
    refine (HCk.out _ (alloc_fr _ _ _)).mono ?_
    rintro r w1 ⟨rfl, hf1⟩
    have HZ := (hf1.block w.heap.size (by simp) (fun h => h)).trans (heap_last _ _ _ rfl)
    obtain ⟨z0, z1, z2, z3⟩ := cells4 HZ
    have hzl := lt_of_block HZ
    have HF1 := hid ((alloc_fr w _ _).trans hf1)
    clear hf1 HZ
    go_wp2_with fail
    refine (HLay.out _ HF1.out HW.out).mono ?_
    rintro r w2 ⟨rfl, v', h2, hf2, hn2⟩
    have HX := hid (And.intro h2 (And.intro hf2 hn2))
    clear h2 hf2 hn2
    go_wp2_with fail
    go_ret2
    exact ⟨rfl, v', HX.out.1, (HF1.out.mono (fun _ _ h => h.elim)).trans HX.out.2.1, (Nw.refl _ _).trans HX.out.2.2 HF1.out.size⟩
  · have hp := HP.out
    have hq := HQ.out
    rw [if_neg hw] at hp hq
    rw [hp, hq]
    generalize wrong L e = N at *
    clear hp hq HP HQ HLay
    have t1 : (N != 0) = true := by simpa using hw
    go_enter Tryz.func77, Tryz.ntmps77
    go_wp2_with fail
    refine (HCk.out _ (alloc_fr _ _ _)).mono ?_
    rintro r w1 ⟨rfl, hf1⟩
    have HF1 := hid ((alloc_fr w _ _).trans hf1)
    clear hf1
    go_wp2_with fail
    go_ret2
    exact ⟨rfl, v, HCh.out.step HF1.out, HF1.out.mono (fun _ _ h => h.elim), Nw.refl _ _⟩

set_option maxRecDepth 100000 in
theorem kill_any {base B : Nat} {v : Value} {L : List Vn} (e : Int) (w : World) (h : Ch w base B v L) (hlen : L.length < 2000000) (hbase : base ≤ w.heap.size) :
    Calls Tryz.prog 66 #[.pointer (some ⟨B, 0, none⟩), .int .i64 e] w fun r w' => r = .returned (.tuple #[.int .i64 (killN L e), .int .i64 (gone L e)]) ∧ ∃ v', Ch w' base B v' (killL L e) ∧ Fr w w' (fun k => k = B ∨ v.ownBlock = some k) ∧ Nw w v v' := by
  have HCk := hid (check_any e w h)
  have HCh := hid h
  have hlt := h.lt
  have hc := cell_of_one h.cell
  have hfs := field_st
  have hft := field_th
  have HLast := hid (fun (w' : World) (hf : Fr w w' (fun _ => False)) => last_any v L w' (h.vs.fr hf))
  have HLay := hid (fun (w' : World) (hf : Fr w w' (fun _ => False)) (hw : wrong L e = 0) => lay_any ⟨e, false, ⟨0, 0, 0, 0⟩⟩ w' (h.step hf) ⟨(wrong_zero hw).1, (wrong_zero hw).2.1, by unfold fit4 fits; simp, fun _ => rfl⟩ (wrong_zero hw).2.2 hlen (Nat.le_trans hbase hf.size))
  obtain ⟨ao, cap, rfl, _⟩ := own_shape h.own
  clear h hlen hbase
  unfold vA at HLay
  unfold vA at HLast
  have HP : Hid (killN L e = if gone L e = 0 then layN L ⟨e, false, ⟨0, 0, 0, 0⟩⟩ else 0) := rfl
  have HQ : Hid (killL L e = if gone L e = 0 then layL L ⟨e, false, ⟨0, 0, 0, 0⟩⟩ else L) := rfl
  have HG : Hid (gone L e = if wrong L e = 0 then (if (nw L).t then 0 else 44) else wrong L e) := rfl
  by_cases hw : wrong L e = 0
  · rw [hw] at HCk
    have HW := hid hw
    cases ht : (nw L).t with
    | true =>
      have hg : gone L e = 0 := by rw [HG.out, if_pos hw, ht]; rfl
      have hp := HP.out
      have hq := HQ.out
      rw [if_pos hg] at hp hq
      rw [hp, hq, hg]
      rw [ht] at HLast
      clear hw hp hq HP HQ HG hg
      generalize layN L ⟨e, false, ⟨0, 0, 0, 0⟩⟩ = N at *
      go_enter Tryz.func66, Tryz.ntmps66
      go_wp2_with fail
      refine HCk.out.mono ?_
      rintro r w1 ⟨rfl, hf1⟩
      have HF1 := hid hf1
      have hc1 : w1.cell? ⟨B, 0, none⟩ = some (.slice ao L.length cap) := by rw [(fr_rules hf1).1 _ _ hlt]; exact hc
      have hs1 := hf1.size
      clear hf1
      go_wp2_with fail
      refine (HLast.out _ HF1.out).mono ?_
      rintro r w2 ⟨rfl, hf2⟩
      have HF2 := hid (HF1.out.trans hf2)
      clear hf2
      go_wp2_with fail
      refine (HLay.out _ HF2.out HW.out).mono ?_
      rintro r w3 ⟨rfl, v', h2, hf2, hn2⟩
      have HX := hid (And.intro h2 (And.intro hf2 hn2))
      clear h2 hf2 hn2
      go_wp2_with fail
      go_ret2
      exact ⟨rfl, v', HX.out.1, (HF2.out.mono (fun _ _ h => h.elim)).trans HX.out.2.1, (Nw.refl _ _).trans HX.out.2.2 HF2.out.size⟩
    | false =>
      have hg : gone L e = 44 := by rw [HG.out, if_pos hw, ht]; rfl
      have hp := HP.out
      have hq := HQ.out
      rw [if_neg (by rw [hg]; decide)] at hp hq
      rw [hp, hq, hg]
      rw [ht] at HLast
      clear hw hp hq HP HQ HG hg HLay
      go_enter Tryz.func66, Tryz.ntmps66
      go_wp2_with fail
      refine HCk.out.mono ?_
      rintro r w1 ⟨rfl, hf1⟩
      have HF1 := hid hf1
      have hc1 : w1.cell? ⟨B, 0, none⟩ = some (.slice ao L.length cap) := by rw [(fr_rules hf1).1 _ _ hlt]; exact hc
      have hs1 := hf1.size
      clear hf1
      go_wp2_with fail
      refine (HLast.out _ HF1.out).mono ?_
      rintro r w2 ⟨rfl, hf2⟩
      have HF2 := hid (HF1.out.trans hf2)
      clear hf2
      go_wp2_with fail
      go_ret2
      exact ⟨rfl, _, HCh.out.step HF2.out, HF2.out.mono (fun _ _ h => h.elim), Nw.refl _ _⟩
  · have hg : gone L e = wrong L e := by rw [HG.out, if_neg hw]
    have hp := HP.out
    have hq := HQ.out
    rw [if_neg (by rw [hg]; exact hw)] at hp hq
    rw [hp, hq, hg]
    clear hg HG
    generalize wrong L e = N at *
    clear hp hq HP HQ HLay HLast
    have t1 : (N != 0) = true := by simpa using hw
    go_enter Tryz.func66, Tryz.ntmps66
    go_wp2_with fail
    refine HCk.out.mono ?_
    rintro r w1 ⟨rfl, hf1⟩
    have HF1 := hid hf1
    clear hf1
    go_wp2_with fail
    go_ret2
    exact ⟨rfl, _, HCh.out.step HF1.out, HF1.out.mono (fun _ _ h => h.elim), Nw.refl _ _⟩

set_option maxRecDepth 100000 in
theorem put_bad {base B : Nat} {v : Value} {L : List Vn} (e : Int) (x : A4) (w : World) (h : Ch w base B v L) (hw : wrong L e ≠ 0) :
    Calls Tryz.prog 77 #[.pointer (some ⟨B, 0, none⟩), .int .i64 e, .agg #[.int .i64 x.c, .int .i64 x.s, .int .i64 x.m, .int .i64 x.x]] w fun r w' => r = .returned (.tuple #[.int .i64 0, .int .i64 (wrong L e)]) ∧ Fr w w' (fun _ => False) := by
  have HCk := hid (fun (W : World) (hf : Fr w W (fun _ => False)) => check_any e W (h.step hf))
  clear h
  generalize wrong L e = N at *
  have t1 : (N != 0) = true := by simpa using hw
  go_enter Tryz.func77, Tryz.ntmps77
  go_wp2_with fail
  refine (HCk.out _ (alloc_fr _ _ _)).mono ?_
  rintro r w1 ⟨rfl, hf1⟩
  have HF1 := hid ((alloc_fr w _ _).trans hf1)
  clear hf1
  go_wp2_with fail
  go_ret2
  exact ⟨rfl, HF1.out⟩

set_option maxRecDepth 100000 in
theorem kill_bad {base B : Nat} {v : Value} {L : List Vn} (e : Int) (w : World) (h : Ch w base B v L) (hg : gone L e ≠ 0) :
    Calls Tryz.prog 66 #[.pointer (some ⟨B, 0, none⟩), .int .i64 e] w fun r w' => r = .returned (.tuple #[.int .i64 0, .int .i64 (gone L e)]) ∧ Fr w w' (fun _ => False) := by
  have HCk := hid (check_any e w h)
  have hlt := h.lt
  have hc := cell_of_one h.cell
  have hfs := field_st
  have hft := field_th
  have HLast := hid (fun (w' : World) (hf : Fr w w' (fun _ => False)) => last_any v L w' (h.vs.fr hf))
  obtain ⟨ao, cap, rfl, _⟩ := own_shape h.own
  clear h
  unfold vA at HLast
  by_cases hw : wrong L e = 0
  · have ht : (nw L).t = false := by
      cases ht : (nw L).t
      · rfl
      · exact absurd (by unfold gone; rw [if_pos hw, ht]; rfl) hg
    have hge : gone L e = 44 := by unfold gone; rw [if_pos hw, ht]; rfl
    rw [hge]
    rw [hw] at HCk
    rw [ht] at HLast
    clear hw hg hge ht
    go_enter Tryz.func66, Tryz.ntmps66
    go_wp2_with fail
    refine HCk.out.mono ?_
    rintro r w1 ⟨rfl, hf1⟩
    have HF1 := hid hf1
    have hc1 : w1.cell? ⟨B, 0, none⟩ = some (.slice ao L.length cap) := by rw [(fr_rules hf1).1 _ _ hlt]; exact hc
    have hs1 := hf1.size
    clear hf1
    go_wp2_with fail
    refine (HLast.out _ HF1.out).mono ?_
    rintro r w2 ⟨rfl, hf2⟩
    have HF2 := hid (HF1.out.trans hf2)
    clear hf2
    go_wp2_with fail
    go_ret2
    exact ⟨rfl, HF2.out⟩
  · have hge : gone L e = wrong L e := by unfold gone; rw [if_neg hw]
    rw [hge]
    clear hge hg HLast
    generalize wrong L e = N at *
    have t1 : (N != 0) = true := by simpa using hw
    go_enter Tryz.func66, Tryz.ntmps66
    go_wp2_with fail
    refine HCk.out.mono ?_
    rintro r w1 ⟨rfl, hf1⟩
    have HF1 := hid hf1
    clear hf1
    go_wp2_with fail
    go_ret2
    exact ⟨rfl, HF1.out⟩
end Go.Proofs.YtgbkihkefdoddaaGreatDoor.G
end
