/- TableSteps: the walk. -/
import Derived.Test.YtobigmcklecbnaaTSteps1
import Derived.Deep.DeepCutAuto
import Derived.Deep.CutRange
namespace Go.Proofs.Ytobigmcklecbnaa
open Go.RowKit Go.Shelf

attribute [local go_sem] Oper.semAt_some

/-- The result's variable. -/
def Rs (W : World) (R : Nat) (b : Bool) : Prop := W.heap[R]? = some (.cells #[.bool b] 4 (0, 0))
theorem Rs.cells {W : World} {R : Nat} {b : Bool} (h : Rs W R b) : W.cell? ⟨R, 0, none⟩ = some (.bool b) ∧ W.frozen? ⟨R, 0, none⟩ = false ∧ R < W.heap.size := ⟨cell_of_one h, free_of_one h, lt_of_block h⟩
theorem Rs.fr {W W' : World} {R : Nat} {b : Bool} {S : Nat → Prop} (h : Rs W R b) (hf : Fr W W' S) (hS : ¬ S R) : Rs W' R b := (hf.block R (lt_of_block h) hS).trans h
theorem Rs.set {W : World} {R : Nat} {b : Bool} (h : Rs W R b) (c : Bool) : Rs (W.setCell ⟨R, 0, none⟩ (.bool c)) R c := one_setCell h

/-- Marks that ranges leave: each a block for deferred calls, of which there are none. -/
def Mks (W : World) (lo : Nat) : List Deferred → Prop
  | [] => True
  | d :: ds => (∃ D, d = { target := .collected D, args := #[] } ∧ lo ≤ D ∧ W.heap[D]? = some (.deferred (some [])) ∧ (∀ d' ∈ ds, d'.target ≠ .collected D)) ∧ Mks W lo ds
theorem Mks.fr {W W' : World} {lo : Nat} {S : Nat → Prop} : ∀ {ds : List Deferred}, Mks W lo ds → Fr W W' S → (∀ D, W.heap[D]? = some (.deferred (some [])) → ¬ S D) → Mks W' lo ds
  | [], _, _, _ => trivial
  | d :: ds, ⟨⟨D, h1, h2, h3, h4⟩, h5⟩, hf, hS => ⟨⟨D, h1, h2, (hf.block D (by
      rcases Nat.lt_or_ge D W.heap.size with h | h
      · exact h
      · rw [Array.getElem?_eq_none h] at h3; cases h3) (hS D h3)).trans h3, h4⟩, Mks.fr h5 hf hS⟩
theorem Mks.ne {W : World} {lo : Nat} {ds : List Deferred} {D : Nat} (h : Mks W lo ds) (hD : W.heap.size ≤ D) : ∀ d ∈ ds, d.target ≠ .collected D := by
  induction ds with
  | nil => intro d hd; simp at hd
  | cons d ds ih =>
    obtain ⟨⟨E, h1, h2, h3, h4⟩, h5⟩ := h
    intro d' hd'
    rcases List.mem_cons.1 hd' with rfl | hd'
    · rw [h1]
      intro e
      simp at e
      subst e
      rw [Array.getElem?_eq_none hD] at h3
      cases h3
    · exact ih h5 d' hd'
/-- The function's end, behind marks. -/
theorem leaves_marks {fn : Func} {tmps : Array Value} {R : Ending → World → Prop} {Rn : Nat} (lo : Nat) (w0 : World) (hw0 : w0.heap.size ≤ lo) (hres : ∀ W, W.cell? ⟨Rn, 0, none⟩ = some (.bool true) → Fr w0 W (fun _ => False) → LeavesIn Fence.wide 3 Try.prog fn tmps R [] .returning W) :
    ∀ (ds : List Deferred) (W : World), Mks W lo ds → Rn < lo → Fr w0 W (fun _ => False) → W.cell? ⟨Rn, 0, none⟩ = some (.bool true) → Rn < W.heap.size → LeavesInM Fence.wide 3 Try.prog fn tmps R ds .returning W
  | [], W, _, _, hf, hc, _ => hres W hc hf
  | d :: ds, W, ⟨⟨D, h1, h2, h3, h4⟩, h5⟩, hR, hf, hc, hRl => by
    have hg := grownBy_putObj' W D (.deferred none)
    have hfp : Fr W (W.putObj D (.deferred none)) (fun k => k = D) := (Fr.refl W (fun k => k = D)).grown hg (fun k _ e => by cases e; rfl)
    refine ⟨by simp, .inl ⟨D, W.putObj D (.deferred none), by rw [h1], run_takeDeferred h3, ?_⟩⟩
    have key : ∀ es : List Deferred, Mks W lo es → (∀ d' ∈ es, d'.target ≠ .collected D) → Mks (W.putObj D (.deferred none)) lo es := by
      intro es
      induction es with
      | nil => intro _ _; trivial
      | cons e es ih =>
        rintro ⟨⟨E, g1, g2, g3, g4⟩, g5⟩ hn
        refine ⟨⟨E, g1, g2, ?_, g4⟩, ih g5 (fun d' hd' => hn d' (List.mem_cons_of_mem _ hd'))⟩
        have hne : E ≠ D := by
          rintro rfl
          exact hn e (by simp) (by rw [g1])
        rw [hfp.block E (by
          rcases Nat.lt_or_ge E W.heap.size with h | h
          · exact h
          · rw [Array.getElem?_eq_none h] at g3; cases g3) hne]
        exact g3
    refine leaves_marks lo w0 hw0 hres ds _ (key ds h5 h4) hR (hf.trans2 hfp (fun k hk e => by subst e; omega)) ?_ (Nat.lt_of_lt_of_le hRl hg.size)
    rw [World.cell?_of_block (w := W) (a := ⟨Rn, 0, none⟩) (hg.block Rn hRl (fun e => by cases e; omega))]
    exact hc

theorem S1.drew {w0 W : World} {N b : Nat} {T : Tb} (h : S1 w0 W N b T) : S1 w0 W.drew N b T := h.step ((Fr.refl W _).drew)
theorem S1.drewN {w0 W : World} {N b : Nat} {T : Tb} (h : S1 w0 W N b T) (n : Nat) : S1 w0 (W.drewN n) N b T := h.step ((Fr.refl W _).drewN n)
theorem S2.drew {w0 W : World} {N b c : Nat} {T X : Tb} (h : S2 w0 W N b c T X) : S2 w0 W.drew N b c T X := h.step ((Fr.refl W _).drew)
theorem S2.drewN {w0 W : World} {N b c : Nat} {T X : Tb} (h : S2 w0 W N b c T X) (n : Nat) : S2 w0 (W.drewN n) N b c T X := h.step ((Fr.refl W _).drewN n)

theorem tb_no_def {W : World} {B gr D : Nat} {ge : Option Nat} {T : Tb} (ht : TbAt W B gr ge T) (hD : W.heap[D]? = some (.deferred (some []))) : ¬ bl B gr ge D := by
  obtain ⟨rv, ev, hc, hr, he⟩ := ht.ex
  have key : ∀ {g : Nat} {L : List Pl} {v : Value}, Ro W L v (some g) → g ≠ D := by
    rintro g L v ⟨cap, rest, _, hR, _⟩ rfl
    unfold RowG at hR
    rw [hD] at hR
    simp at hR
  rintro (e | e | e)
  · subst e
    rw [hD] at hc
    simp at hc
  · exact key hr e.symm
  · rw [e] at he
    exact key he rfl
/-- The table, its twin, and the marks. -/
structure S3 (w0 W : World) (N b c : Nat) (T X : Tb) (lo : Nat) (ds : List Deferred) : Prop where
  s : S2 w0 W N b c T X
  mks : Mks W lo ds
theorem S3.step {w0 W W' : World} {N b c lo : Nat} {T X : Tb} {ds : List Deferred} (h : S3 w0 W N b c T X lo ds) (hf : Fr W W' (fun _ => False)) : S3 w0 W' N b c T X lo ds := ⟨h.s.step hf, h.mks.fr hf (fun _ _ h => h)⟩
theorem S3.drew {w0 W : World} {N b c lo : Nat} {T X : Tb} {ds : List Deferred} (h : S3 w0 W N b c T X lo ds) : S3 w0 W.drew N b c T X lo ds := h.step ((Fr.refl W _).drew)
theorem S3.drewN {w0 W : World} {N b c lo : Nat} {T X : Tb} {ds : List Deferred} (h : S3 w0 W N b c T X lo ds) (n : Nat) : S3 w0 (W.drewN n) N b c T X lo ds := h.step ((Fr.refl W _).drewN n)
theorem S3.move {w0 W : World} {N b c lo : Nat} {T X : Tb} {ds : List Deferred} (h : S3 w0 W N b c T X lo ds) (n : Int) :
    Calls Try.prog 35 #[.pointer (some ⟨b, 0, none⟩), .int .i64 n] W fun e w' => e = .returned (.int .i64 ((moveT zI T n).left : Int)) ∧ S3 w0 w' N b c (moveT zI T n) X lo ds := by
  obtain ⟨gr, ge, gr2, ge2, h1, h2, h3, h4, h5⟩ := h.s.ex
  refine (move_any n W h1).mono ?_
  rintro e w' ⟨rfl, ⟨ge', h6, h7⟩, h8⟩
  have hs := h.s.fr.size
  have hsub : ∀ k, bl b gr ge' k → bl b gr ge k := by
    rintro k (e | e | e)
    · exact Or.inl e
    · exact Or.inr (Or.inl e)
    · rcases h7 with h7 | h7
      · rw [h7] at e; exact Or.inr (Or.inr e)
      · rw [h7] at e; cases e
  exact ⟨rfl, ⟨h.s.fr.trans2 h8 (fun j hj e => by have := h3 j e; omega), h.s.bx.fr h8 (h.s.bx.no h1), gr, ge', gr2, ge2, h6, h2.fr h8 (fun k hk hk2 => h5 k hk2 hk), fun k hk => h3 k (hsub k hk), h4, fun k hk => h5 k (hsub k hk)⟩, h.mks.fr h8 (fun D hD => tb_no_def h1 hD)⟩

theorem S3.left {w0 W : World} {N b c lo : Nat} {T X : Tb} {ds : List Deferred} (h : S3 w0 W N b c T X lo ds) : Calls Try.prog 34 #[.pointer (some ⟨b, 0, none⟩)] W fun e w' => e = .returned (.int .i64 (T.left : Int)) ∧ S3 w0 w' N b c T X lo ds := by
  obtain ⟨gr, ge, gr2, ge2, h1, _⟩ := h.s.ex
  refine (left_any W h1).mono ?_
  rintro e w' ⟨rfl, hf⟩
  exact ⟨rfl, h.step hf⟩

/-- Moved, no more. -/
structure Sm (T X : Tb) (c : Nat) : Prop where
  sz : Sz T c
  has : ∀ k v, Has T k v ↔ Has X k v
  keys : T.keys = X.keys
theorem Sm.move {T X : Tb} {c : Nat} (h : Sm T X c) (n : Int) : Sm (moveT zI T n) X c ∧ (moveT zI T n).left = T.left - (min n (T.left : Int)).toNat := by
  obtain ⟨a1, a2, a3, a4, a5⟩ := move_inv zI h.sz.inv.i0 n
  exact ⟨⟨⟨a1, by rw [a5]; exact h.sz.keys, by rw [a4]; exact h.sz.len⟩, fun k v => (a2 k v).trans (h.has k v), a5.trans h.keys⟩, a3⟩
/-- A put, and what it does to sizes. -/
theorem put_left {T : Tb} (h : Inv T) (h0 : T.left = 0) (k : ByteArray) (v : Value) (hs : (putT zI T k v).row.length = T.row.length) : (putT zI T k v).left = 0 := by
  have hm := (move_inv zI h.i0 4).2.2.1
  rcases Classical.em (∃ u, Has T k u) with ⟨u, hu⟩ | hu
  · obtain ⟨_, _, _, _, a5⟩ := put_there (z := zI) h v hu
    rw [a5, hm, h0]; omega
  · obtain ⟨_, _, _, a4, a5⟩ := put_new (z := zI) h v (fun u hh => hu ⟨u, hh⟩)
    have := h.i0.pos
    by_cases hg : 3 * T.row.length < 4 * (T.keys + 1)
    · rw [if_pos hg] at a4; omega
    · rw [if_neg hg] at a5
      rw [a5, hm, h0]; omega

/-- The slots in the second loop. -/
def tmpl (a0 a1 : Option Addr) (kl c0 xl c1 R N bt bx i l0 lf i2 : Nat) (u8 q21 q22 q25 q26 : Value) (f : Nat → Value) : Array Value := #[.slice a0 kl c0, .slice a1 xl c1, undef, undef, .pointer (some ⟨R, 0, none⟩), .pointer (some ⟨N, 0, none⟩), .bool true, .int .i64 (i : Int), u8, .pointer (some ⟨bx, 0, none⟩), .int .i64 (lf : Int), .int .i64 (i2 : Int), f 12, f 13, f 14, f 15, f 16, .bool true, .bool false, .slice a0 kl c0, .int .i64 (kl : Int), q21, q22, .slice a1 xl c1, .int .i64 (xl : Int), q25, q26, .pointer (some ⟨bt, 0, none⟩), f 28, f 29, f 30, f 31, f 32, f 33, f 34, .bool false, f 36, f 37, f 38, f 39, f 40, f 41, f 42, f 43, f 44, f 45, f 46, f 47, f 48, f 49, f 50, .bool true, .bool false, undef, undef, undef, .pointer (some ⟨bt, 0, none⟩), .pointer (some ⟨bx, 0, none⟩), .pointer (some ⟨bt, 0, none⟩), .int .i64 (l0 : Int), f 60, f 61, f 62, f 63, f 64, f 65, f 66, f 67, f 68, f 69, f 70, f 71, f 72, f 73, f 74, f 75, f 76, f 77, f 78, f 79, f 80, f 81, f 82, f 83, f 84, f 85, f 86, f 87, f 88, f 89, f 90, f 91, f 92, f 93, f 94, f 95, f 96, f 97, f 98, f 99, f 100, f 101, f 102, f 103, f 104, f 105, f 106, f 107, f 108, f 109, f 110, undef, undef, undef, undef, undef, undef, undef, undef, undef]

set_option maxHeartbeats 1000000 in
set_option maxRecDepth 100000 in
theorem steps_walk (w : World) {v0 v1 : Value} {ks : List ByteArray} {xs : List Int} (h0 : Ks w v0 ks) (h1 : Is w v1 xs) : Calls Try.prog 7 #[v0, v1] w fun e w' => e = .returned (.bool true) ∧ Fr w w' (fun _ => False) := by
  have H0 := hid h0
  have H1 := hid h1
  obtain ⟨a0, c0, rfl, _⟩ := h0
  obtain ⟨a1, c1, rfl, _⟩ := h1
  obtain ⟨w1, hw1⟩ : ∃ w1, w.alloc (.cells #[.bool false] 4) = w1 := ⟨_, rfl⟩
  have HFa : Hid (Fr w w1 (fun _ => False)) := by rw [← hw1]; exact alloc_fr _ _ _
  have hs1 : w1.heap.size = w.heap.size + 1 := by rw [← hw1]; simp
  have HRs : Hid (Rs w1 w.heap.size false) := by rw [← hw1]; exact heap_last _ _ _ rfl
  have HRv := hid (fun (W : World) (hf : Fr w1 W (fun _ => False)) => (HRs.out.fr hf (fun h => h)).cells)
  have HFin : Hid (∀ (W : World), Fr w1 W (fun _ => False) → ∀ tmps : Array Value, tmps[4]?.getD undef = .pointer (some ⟨w.heap.size, 0, none⟩) → LeavesIn Fence.wide 3 Try.prog Try.f7 tmps (fun e w' => e = .returned (.bool true) ∧ Fr w w' (fun _ => False)) [] .returning (W.setCell ⟨w.heap.size, 0, none⟩ (.bool true))) := by
    intro W hf tmps ht
    have hc := ((HRs.out.fr hf (fun h => h)).set true).cells.1
    have hF : Fr w (W.setCell ⟨w.heap.size, 0, none⟩ (.bool true)) (fun _ => False) := (HFa.out.trans hf).setCell (p := ⟨w.heap.size, 0, none⟩) (fun h => absurd h (Nat.lt_irrefl _)) _
    refine ⟨.bool true, ?_, rfl, hF⟩
    simp [results, Try.results7, go_sem, ht, hc]
  have HFin2 : Hid (∀ (W : World) (tmps : Array Value), tmps[4]?.getD undef = .pointer (some ⟨w.heap.size, 0, none⟩) → W.cell? ⟨w.heap.size, 0, none⟩ = some (.bool true) → Fr w W (fun _ => False) → LeavesIn Fence.wide 3 Try.prog Try.f7 tmps (fun e w' => e = .returned (.bool true) ∧ Fr w w' (fun _ => False)) [] .returning W) := by
    intro W tmps ht hc hF
    refine ⟨.bool true, ?_, rfl, hF⟩
    simp [results, Try.results7, go_sem, ht, hc]
  refine (callsIn_wide (n := 3)).1 ?_
  refine callsIn_of_wp_marks Try.func7 rfl trivial ?_ rfl
  simp only [Try.ntmps7, List.size_toArray, List.length_cons, List.length_nil, Nat.reduceAdd, Nat.reduceSub, Array.replicate_succ, Array.replicate_zero, List.push_toArray, List.append_toArray, List.nil_append, List.cons_append]
  refine wpIn_wide.2 ?_
  by_cases q0 : (500 : Int) < (ks.length : Int)
  · go_wp2_with fail
    refine (known_any _).mono ?_
    rintro e w2 ⟨rfl, hf2⟩
    have HF2 := hid hf2
    obtain ⟨r1, r2, r3⟩ := HRv.out w2 hf2
    clear hf2
    go_wp2_with fail
    exact HFin.out w2 HF2.out _ (by simp)
  · by_cases q1 : (500 : Int) < (xs.length : Int)
    · go_wp2_with fail
      refine (known_any _).mono ?_
      rintro e w2 ⟨rfl, hf2⟩
      have HF2 := hid hf2
      obtain ⟨r1, r2, r3⟩ := HRv.out w2 hf2
      clear hf2
      go_wp2_with fail
      exact HFin.out w2 HF2.out _ (by simp)
    · have n0 : ks.length ≤ 500 := by omega
      have n1 : xs.length ≤ 500 := by omega
      go_wp2_with fail
      refine (known_any _).mono ?_
      rintro e w2 ⟨rfl, hf2⟩
      have HF2 := hid hf2
      clear hf2
      go_wp2_with fail
      refine (new_any w2).mono ?_
      rintro e w3 ⟨rfl, hT3, hf3, hs3⟩
      have hs2 := HF2.out.size
      have HS0 : Hid (S1 w1 (w3.alloc (.cells #[.pointer (some ⟨w2.heap.size + 1, 0, none⟩)] 31)) w3.heap.size (w2.heap.size + 1) (newT zI)) := ⟨(HF2.out.trans hf3).alloc _, heap_last _ _ _ rfl, _, _, hT3.step (alloc_fr _ _ _), fun k hk => by
        rcases hk with e | e | e
        · omega
        · omega
        · cases e⟩
      clear hT3 hf3 HF2 hs3 hs2
      go_wp2_with fail
      generalize w3.alloc (.cells #[.pointer (some ⟨w2.heap.size + 1, 0, none⟩)] 31) = w4 at *
      generalize w2.heap.size + 1 = bt at *
      generalize w3.heap.size = N at *
      go_loopg [6, 7, 8] ks.length (fun gk s6 s7 s8 wx => ∃ (i : Nat) (T : Tb) (g : Bool), s6 = .bool g ∧ s7 = .int .i64 (i : Int) ∧ i + gk = ks.length ∧ Hid (S1 w1 wx N bt T) ∧ Hid (Sz T i) ∧ Hid (g = false → T.left = 0))
      case atStart => exact ⟨0, newT zI, false, rfl, rfl, by omega, HS0, Sz.new, fun _ => rfl⟩
      case round =>
        obtain ⟨i, T, g, rfl, rfl, hg, HS, HZ, HL⟩ := hrel
        clear HS0
        obtain ⟨p1, p2, p3⟩ := HS.out.cells
        have t0 : (0 : Int) ≤ (i : Int) := by omega
        by_cases hrun : i < ks.length ∧ g = false
        · obtain ⟨hi, rfl⟩ := hrun
          have HLf := hid (HL.out rfl)
          cases gk with
          | zero => omega
          | succ f =>
            have t1 : (i : Int) < (ks.length : Int) := by omega
            have HG := hid hg
            clear hg
            obtain ⟨b, off, e1, hbl, hbl1, d0, d1⟩ := H0.out.at (HFa.out.trans HS.out.fr) hi
            subst e1
            have HSl := hid HS.out.slots
            generalize hkk : ks.getD i none8 = key at *
            clear hkk
            have HK := hid (fun (W : World) (T' : Tb) (hW : S1 w1 W N bt T') => (show W.cell? ⟨N, 0, none⟩ = some (.pointer (some ⟨bt, 0, none⟩)) ∧ W.cell? ⟨b, off + i, none⟩ = some (.string key) from ⟨hW.cells.1, by
              obtain ⟨b', off', e2, _, _, d2, _⟩ := H0.out.at (HFa.out.trans hW.fr) hi
              simp only [Option.some.injEq, Addr.mk.injEq, and_true] at e2
              obtain ⟨rfl, rfl⟩ := e2
              have h9 : W.cell? ⟨b, off + i, none⟩ = wr.cell? ⟨b, off + i, none⟩ := by
                rw [(fr_rules (HFa.out.trans hW.fr)).1 _ _ hbl1, (fr_rules (HFa.out.trans HS.out.fr)).1 _ _ hbl1]
              rw [h9]; exact d0⟩))
            have HPt := hid (fun (W : World) (hW : S1 w1 W N bt T) => hW.put HZ.out (by omega) key (i : Int) d1)
            have HF := HS
            clear d1
            go_wp2_with fail
            refine HSl.out.mono ?_
            rintro e w5 ⟨rfl, hw5⟩
            have hw5 := hw5.symm
            subst hw5
            go_wp2_with fail
            first
              | go_region_held3 (fun W' => Hid (Fr w1 W' (fun _ => False)) ∧ W'.cell? ⟨N, 0, none⟩ = some (.pointer (some ⟨bt, 0, none⟩)) ∧ W'.cell? ⟨b, off + i, none⟩ = some (.string key))
                  ((first
                    | (refine (fun h => ⟨h.fr, (HK.out _ _ h).1, (HK.out _ _ h).2⟩ : S1 w1 _ N bt T → _) ?_; (repeat (first | exact HF.out | apply S1.drewN | apply S1.drew)); done)
                    | (refine (fun h => ⟨h.fr, (HK.out _ _ h).1, (HK.out _ _ h).2⟩ : S1 w1 _ N bt (putT zI T key (.int .i64 (i : Int))) → _) ?_; (repeat (first | exact HF.out | apply S1.drewN | apply S1.drew)); done)))
                  ((go_at_call 33; refine (HPt.out _ (by repeat (first | exact HF.out | apply S1.drewN | apply S1.drew))).mono ?_; rintro e w6 ⟨rfl, hS6⟩; have HF := hid hS6; clear hS6))
              | fail
            obtain ⟨p4, p5, p6⟩ := HF.out.cells
            have HSl6 := hid HF.out.slots
            have HZ6 := hid (HZ.out.put key (.int .i64 (i : Int)))
            have HPl := hid (fun hs => put_left HZ.out.inv HLf.out key (.int .i64 (i : Int)) hs)
            generalize putT zI T key (.int .i64 (i : Int)) = U at *
            have hUl : U.row.length ≤ 100000 := by have := HZ6.out.len; omega
            have hTl : T.row.length ≤ 100000 := by have := HZ.out.len; omega
            go_wp2_with fail
            refine HSl6.out.mono ?_
            rintro e w7 ⟨rfl, hw7⟩
            have hw7 := hw7.symm
            subst hw7
            go_wp2_with fail
            go_roundg f
            case measure => omega
            case rel => exact ⟨i + 1, U, _, rfl, by go_num, by have := HG.out; omega, HF, HZ6, fun h => HPl.out (by simp at h; omega)⟩
        · go_upto_region 8 with fail
          go_cut [35] from 28 to 50 (fun s35 wx => s35 = .bool false ∧ wx = wr)
          case first =>
            by_cases hi : i < ks.length
            · have t1 : (i : Int) < (ks.length : Int) := by omega
              have hgt : g = true := by
                cases g
                · exact absurd ⟨hi, rfl⟩ hrun
                · rfl
              subst hgt
              clear hrun hg
              go_wp2_with fail
              go_meet
              exact ⟨rfl, rfl⟩
            · have t1 : ¬ (i : Int) < (ks.length : Int) := by omega
              clear hrun hg
              go_wp2_with fail
              go_meet
              exact ⟨rfl, rfl⟩
          case rest =>
            obtain ⟨rfl, hwc⟩ := hcut
            have hwc := hwc.symm
            subst hwc
            have hik : i ≤ ks.length := by omega
            clear hrun hg
            cases g with
            | false =>
              have HLf := hid HS.out.left
              rw [HL.out rfl] at HLf
              go_wp2_with fail
              refine HLf.out.mono ?_
              rintro e w5 ⟨rfl, hS5⟩
              have HS5 := hid hS5
              obtain ⟨r1, r2, r3⟩ := HRv.out w5 hS5.fr
              clear hS5
              go_wp2_with fail
              exact HFin.out w5 HS5.out.fr _ (by simp)
            | true =>
              have HTw := hid HS.out.twin
              go_wp2_with fail
              refine HTw.out.mono ?_
              rintro e w5 ⟨bx, rfl, hS5⟩
              have HS5 := hid hS5
              obtain ⟨p4, p5, p6, p7⟩ := hS5.cells
              have HLf := hid hS5.left
              clear hS5 p1 p2 p3
              go_wp2_with fail
              refine HLf.out.mono ?_
              rintro e w6 ⟨rfl, hS6⟩
              have HS6 := hid hS6
              have HSm : Hid (Sm T T i) := ⟨HZ.out, fun _ _ => Iff.rfl, rfl⟩
              clear hS6 HS5 HLf p4 p5 p6 p7
              go_wp2_with fail
              generalize (Value.bool (decide (500 < (ks.length : Int)))) = q21 at *
              generalize (Value.bool (decide (500 < (xs.length : Int)))) = q25 at *
              generalize (Value.bool (decide (500 < (ks.length : Int)) || decide (500 < (xs.length : Int)))) = q26 at *
              generalize hl0 : T.left = l0
              have HL0 := hid hl0
              clear hl0
              refine wp_loop_ghost_k (fun gk a wx => ∃ (i2 : Nat) (U : Tb), Hid (i2 + gk = xs.length) ∧ Hid (S2 w1 wx N bt bx U T) ∧ Hid (Sm U T i) ∧ Hid (Mks wx w1.heap.size a.defers) ∧ a.tmps = tmpl a0 a1 ks.length c0 xs.length c1 w.heap.size N bt bx i l0 U.left i2 u8 q21 q21 q25 q26 (fun k => a.tmps.getD k undef)) xs.length ?start ?round
              case start => exact ⟨0, T, by show 0 + _ = _; omega, HS6, HSm, trivial, by rw [HL0.out]; rfl⟩
              case round =>
                clear HS6 HSm
                rintro gk a wr2 ⟨i2, U, HG, HS, HM, HMk, htm⟩ J K hJ hK
                obtain ⟨tmps, ds⟩ := a
                dsimp only at htm HMk
                generalize (fun k => tmps.getD k undef) = f at htm
                subst htm
                unfold tmpl
                obtain ⟨p1, p2, p3, p4⟩ := HS.out.cells
                have t0 : (0 : Int) ≤ (i2 : Int) := by omega
                have hUl : U.left ≤ 200000 := by
                  have a1 := HM.out.sz.len
                  have a2 := HM.out.sz.inv.i0.half
                  unfold Tb.left
                  rcases Classical.em (U.elder = []) with e | e
                  · rw [e]; simp
                  · have := a2 e; omega
                by_cases hi : i2 < xs.length
                · have t1 : (i2 : Int) < (xs.length : Int) := by omega
                  obtain ⟨b, off, e1, hbl, hbl1, d0⟩ := H1.out.at (HFa.out.trans HS.out.fr) hi
                  subst e1
                  have HK := hid (fun (W : World) (T' : Tb) (hW : S2 w1 W N bt bx T' T) => (show W.cell? ⟨N, 0, none⟩ = some (.pointer (some ⟨bt, 0, none⟩)) ∧ W.cell? ⟨b, off + i2, none⟩ = some (.int .i64 (xs.getD i2 0)) from ⟨hW.cells.1, by
                    rw [(fr_rules (HFa.out.trans hW.fr)).1 _ _ hbl1, ← (fr_rules (HFa.out.trans HS.out.fr)).1 _ _ hbl1]
                    exact d0⟩))
                  generalize xs.getD i2 0 = x at *
                  obtain ⟨HM2, hml⟩ := HM.out.move x
                  have HM2 := hid HM2
                  have HMv := hid (fun (W : World) (hW : S3 w1 W N bt bx U T w1.heap.size ds) => hW.move x)
                  have HLn := hid (fun (W : World) (hW : S2 w1 W N bt bx (moveT zI U x) T) => hW.len HM2.out.keys)
                  have HLe : Hid ((U.left : Int) - (min (max x 0) (U.left : Int)) = ((moveT zI U x).left : Int)) := by show _ = _; rw [hml]; omega
                  have hU2l : (moveT zI U x).left ≤ 200000 := by rw [hml]; omega
                  clear hml
                  generalize hU' : moveT zI U x = U' at *
                  clear hU'
                  go_upto_if 71 with fail
                  go_cut [12] from 60 to 110 (fun s12 wx => s12 = .int .i64 (max x 0) ∧ wx = wr2)
                  case first =>
                    by_cases hx : x < 0
                    · have hmx : max x 0 = 0 := by omega
                      have HMx := hid hmx
                      clear hmx
                      go_wp2_with fail
                      go_meet
                      exact ⟨by rw [HMx.out], rfl⟩
                    · have hmx : max x 0 = x := by omega
                      have HMx := hid hmx
                      clear hmx
                      go_wp2_with fail
                      go_meet
                      exact ⟨by rw [HMx.out], rfl⟩
                  case rest =>
                    obtain ⟨rfl, hwc⟩ := hcut
                    have hwc := hwc.symm
                    subst hwc
                    have hx0 : 0 ≤ max x 0 := by omega
                    generalize max x 0 = x1 at *
                    go_upto_if 74 with fail
                    go_cut [12] from 60 to 110 (fun s12 wx => s12 = .int .i64 (min x1 (U.left : Int)) ∧ wx = wr2)
                    case first =>
                      by_cases hx : (U.left : Int) < x1
                      · have hmx : min x1 (U.left : Int) = (U.left : Int) := by omega
                        have HMx := hid hmx
                        clear hmx
                        go_wp2_with fail
                        go_meet
                        exact ⟨by rw [HMx.out], rfl⟩
                      · have hmx : min x1 (U.left : Int) = x1 := by omega
                        have HMx := hid hmx
                        clear hmx
                        go_wp2_with fail
                        go_meet
                        exact ⟨by rw [HMx.out], rfl⟩
                    case rest =>
                      obtain ⟨rfl, hwc⟩ := hcut
                      have hwc := hwc.symm
                      subst hwc
                      have hn0 : 0 ≤ min x1 (U.left : Int) := by omega
                      have hn1 : min x1 (U.left : Int) ≤ (U.left : Int) := by omega
                      generalize min x1 (U.left : Int) = n2 at *
                      have hle := HLe.out
                      have HF := hid (S3.mk HS.out HMk.out)
                      go_wp2_with fail
                      first
                        | go_region_held3 (fun W' => Hid (Fr w1 W' (fun _ => False)) ∧ W'.cell? ⟨N, 0, none⟩ = some (.pointer (some ⟨bt, 0, none⟩)) ∧ W'.cell? ⟨b, off + i2, none⟩ = some (.int .i64 x))
                            ((first
                              | (refine (fun h => ⟨h.fr, (HK.out _ _ h).1, (HK.out _ _ h).2⟩ : S2 w1 _ N bt bx U T → _) ?_; (repeat (first | exact HF.out.s | apply S2.drewN | apply S2.drew)); done)
                              | (refine (fun h => ⟨h.fr, (HK.out _ _ h).1, (HK.out _ _ h).2⟩ : S2 w1 _ N bt bx U' T → _) ?_; (repeat (first | exact HF.out.s | apply S2.drewN | apply S2.drew)); done)))
                            ((first
                              | (go_at_call 35; refine (HMv.out _ (by repeat (first | exact HF.out | apply S3.drewN | apply S3.drew))).mono ?_; rintro e w7 ⟨rfl, hS7⟩; have HF := hid hS7; clear hS7)
                              | (go_at_call 36; refine (HLn.out _ (by repeat (first | exact HF.out.s | apply S2.drewN | apply S2.drew)) _ (by first | exact Or.inl rfl | exact Or.inr rfl)).mono ?_; rintro e w8 ⟨rfl, hw8⟩; have HF8 := hid (show S3 w1 w8 N bt bx U' T w1.heap.size ds by rw [hw8]; repeat (first | exact HF.out | apply S3.drewN | apply S3.drew)); have HF := HF8; clear HF8 hw8)))
                        | fail
                      clear HMk HS HMv HLn
                      have HAl := hid HF.out.s.all
                      go_wp2_with fail
                      refine HAl.out.mono ?_
                      rintro e w9 ⟨M, S, cap, L, rfl, hq, hLe, hf9⟩
                      have HS9 := hid (HF.out.step hf9)
                      obtain ⟨Ls, hLs⟩ := lift_eo hLe
                      rw [← hLs] at hq
                      have HQ := hid hq
                      clear hq hLe hf9 hLs HF HAl p1 p2 p3 p4
                      go_wp2_with fail
                      refine (wpIn_wide (n := 3)).1 ?_
                      have HGet := hid (fun (W : World) (key : ByteArray) (v : Int) (hf : Fr w9 W (fun _ => False)) (hP : EP T (key, v)) => (HS9.out.s.step hf).get HM2.out.has key v hP)
                      refine wpIn_rangeFunc_ownG rfl (by decide) (gf := 68) (lb := #[.pointer (some ⟨M, 0, none⟩)]) rfl trivial (enters_of Try.func68 (by kernel_rfl) rfl)
                        (seq_stops Fence.wide 2 trivial rfl (by decide) M S cap Ls w9 HQ.out) (fun h k => fun z => k (h z)) (fun W l o o' _ hl ho _ => fun z => z.putObj o' hl ho) (Below.refl _ _) (fun _ => rfl)
                        (fun _ W => Below w9.heap.size w9 W)
                        (fun _ _ _ => False)
                        (ownFrom_below (Nat.le_refl _) (Nat.le_refl _))
                        (fun _ _ _ _ _ hs _ _ => hs)
                        (Below.refl _ _) ?a1 ?assign ?body ?done ?stop
                      case assign =>
                        intro l x W K hK
                        unfold encO encV
                        gi_wp2
                        exact hK
                      case body =>
                        rintro l pre ⟨⟨key, v⟩, hP⟩ W hB hlt
                        have hfW : Fr w9 W (fun _ => False) := Fr.ofBelow hB
                        obtain ⟨p1, p2, p3, p4⟩ := (HS9.out.s.step hfW).cells
                        have HFW := hid hfW
                        have HPp := hid hP
                        dsimp only
                        clear hfW
                        gi_wp2_with (refine ⟨trivial, ?_⟩; gi_at_call 38; refine (CallsIn.inRound l (callsIn_wide.2 (HGet.out W key v HFW.out HPp.out))).mono ?_; rintro e' w' ⟨rfl, hw'⟩; have hw' := hw'.symm; subst hw')
                        exact ⟨KeepsFrom.refl _ _, fun z => z, hB⟩
                      case done =>
                        rintro D ys W hD rfl hB hKD
                        have hfW : Fr w9 W (fun _ => False) := Fr.ofBelow hB
                        have HS10 := hid (HS9.out.step hfW)
                        have HD := hid (show Mks W w1.heap.size ({ target := .collected D, args := #[] } :: ds) from ⟨⟨D, rfl, by have := HS9.out.s.fr.size; omega, hKD, HS9.out.mks.ne hD⟩, HS10.out.mks⟩)
                        clear hfW hKD
                        go_wp2_with fail
                        refine Handed.intro (gk - 1) (by have := HG.out; omega) (hJ _ _ _ ⟨i2 + 1, U', by have := HG.out; show i2 + 1 + (gk - 1) = _; omega, HS10.out.s, HM2, HD, rfl⟩)
                      case stop =>
                        rintro D c pre W _ _ h _
                        exact h.elim
                · have t1 : ¬ (i2 : Int) < (xs.length : Int) := by omega
                  obtain ⟨HM2, hml⟩ := HM.out.move (U.left : Int)
                  have hz0 : (moveT zI U (U.left : Int)).left = 0 := by rw [hml]; omega
                  have HMv := hid ((S3.mk HS.out HMk.out).move (U.left : Int))
                  rw [hz0] at HMv
                  have HZ0 := hid hz0
                  clear hml hz0 HM2
                  generalize moveT zI U (U.left : Int) = U' at *
                  go_wp2_with fail
                  refine HMv.out.mono ?_
                  rintro e w7 ⟨rfl, hS7⟩
                  have HS7 := hid hS7
                  obtain ⟨p5, p6, p7, p8⟩ := hS7.s.cells
                  have HLf := hid hS7.left
                  rw [HZ0.out] at HLf
                  clear hS7 p1 p2 p3 p4
                  go_wp2_with fail
                  refine HLf.out.mono ?_
                  rintro e w8 ⟨rfl, hS8⟩
                  have HS8 := hid hS8
                  obtain ⟨r1, r2, r3⟩ := HRv.out w8 hS8.s.fr
                  clear hS8 HLf
                  go_wp2_with fail
                  have hc8 := ((HRs.out.fr HS8.out.s.fr (fun h => h)).set true).cells
                  have hF8 : Fr w (w8.setCell ⟨w.heap.size, 0, none⟩ (.bool true)) (fun _ => False) := (HFa.out.trans HS8.out.s.fr).setCell (p := ⟨w.heap.size, 0, none⟩) (fun h => absurd h (Nat.lt_irrefl _)) _
                  have hM8 : Mks (w8.setCell ⟨w.heap.size, 0, none⟩ (.bool true)) w1.heap.size ds := HS8.out.mks.fr (set_fr w8 ⟨w.heap.size, 0, none⟩ (.bool true)) (fun D hD e => by
                    have e : D = w.heap.size := e
                    subst e
                    have := HRs.out.fr HS8.out.s.fr (fun h => h)
                    unfold Rs at this
                    rw [hD] at this
                    simp at this)
                  exact leaves_marks (Rn := w.heap.size) w1.heap.size w (by omega) (fun W hc hf => HFin2.out W _ (by simp) hc hf) ds _ hM8 (by omega) hF8 hc8.1 hc8.2.2
end Go.Proofs.Ytobigmcklecbnaa
