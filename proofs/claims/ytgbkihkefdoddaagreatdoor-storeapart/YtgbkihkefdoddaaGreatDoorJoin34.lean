/- StoreApart: a walk. -/
import Derived.Test.YtgbkihkefdoddaaGreatDoorJoin32
import Derived.Test.YtgbkihkefdoddaaGreatDoorJoin33
namespace Go.Proofs.YtgbkihkefdoddaaGreatDoor.St
open Go.RowKit G S

theorem Sd.may {w0 W : World} {Q slots : Nat} {Vs : List Vw} (h : Sd w0 W Q slots Vs) {k : Nat} {x : Cl × List Vn} (hx : x ∈ gv Vs k) : mayE x.1 = 0 := by
  obtain ⟨v, L, h1, rfl⟩ := h.ex
  by_cases hk : k < L.length
  · rw [gv_vs hk] at hx
    obtain ⟨B, gr, ge, T, M, h2, h3, _⟩ := h1.sh _ (List.getElem_mem hk)
    rw [← h3] at hx
    obtain ⟨e, he, rfl⟩ := List.mem_map.1 hx
    exact h2.may e he
  · have : gv (vs L) k = [] := by unfold gv; rw [List.getD_eq_getElem?_getD, List.getElem?_eq_none (by rw [vs_length]; omega)]; rfl
    rw [this] at hx
    simp at hx
theorem Sd.key {w0 W : World} {Q slots : Nat} {Vs : List Vw} (h : Sd w0 W Q slots Vs) {n e : Int} {fr til : Cl} {most : Int} {r : M.Rw} (hr : r ∈ rangeOf Vs n e fr til most) : r.c.k.size ≤ 9223372036854775807 := by
  unfold rangeOf at hr
  split at hr
  · simp at hr
  · obtain ⟨x, hx, e1⟩ := mem_range hr
    rw [e1]
    have := mayE_zero (h.may hx)
    show x.1.k.size ≤ _
    omega
/-- Amid the law: the store, and the bounds in their blocks. -/
structure AI (w W : World) (Q m : Nat) (Vs : List Vw) (Pf Pt : Nat) : Prop where
  sd : Sd w W Q 300 Vs
  rk : Rk Vs
  len : Vs.length = m
  bf : W.heap[Pf]? = some (.cells #[.int .i64 0, .string ⟨#[]⟩, .int .i64 0] 33 (0, 0))
  bt : W.heap[Pt]? = some (.cells #[.int .i64 9, .string ⟨#[]⟩, .int .i64 0] 33 (0, 0))
theorem AI.step {w W W' : World} {Q m : Nat} {Vs : List Vw} {Pf Pt : Nat} (h : AI w W Q m Vs Pf Pt) (hf : Fr W W' (fun _ => False)) : AI w W' Q m Vs Pf Pt :=
  ⟨h.sd.step hf, h.rk, h.len, (hf.block _ (lt_of_block h.bf) (fun h => h)).trans h.bf, (hf.block _ (lt_of_block h.bt) (fun h => h)).trans h.bt⟩
theorem AI.kpc {ts : List TypeId} {w W W' : World} {Q m : Nat} {Vs : List Vw} {Pf Pt : Nat} (h : AI w W Q m Vs Pf Pt) (hk : KpC ts W W') (h1 : ∀ t ∈ kSh, t ∉ ts) (h2 : 78 ∉ ts) (h3 : 49 ∉ ts) (h4 : 33 ∉ ts) (hf : Fr w W' (fun _ => False)) : AI w W' Q m Vs Pf Pt :=
  ⟨h.sd.kpc hk h1 h2 h3 hf, h.rk, h.len, hk.2 _ _ _ h.bf h4, hk.2 _ _ _ h.bt h4⟩
theorem AI.cells {w W : World} {Q m : Nat} {Vs : List Vw} {Pf Pt : Nat} (h : AI w W Q m Vs Pf Pt) : (W.cell? ⟨Pf, 0, none⟩ = some (.int .i64 0) ∧ W.cell? ⟨Pf, 1, none⟩ = some (.string ⟨#[]⟩) ∧ W.cell? ⟨Pf, 2, none⟩ = some (.int .i64 0) ∧ Pf < W.heap.size) ∧ W.cell? ⟨Pt, 0, none⟩ = some (.int .i64 9) ∧ W.cell? ⟨Pt, 1, none⟩ = some (.string ⟨#[]⟩) ∧ W.cell? ⟨Pt, 2, none⟩ = some (.int .i64 0) ∧ Pt < W.heap.size := by
  obtain ⟨a, b, c⟩ := cells3 h.bf
  obtain ⟨d, e, f⟩ := cells3 h.bt
  exact ⟨⟨a, b, c, lt_of_block h.bf⟩, d, e, f, lt_of_block h.bt⟩
/-- The ranges and the units of the first shards. -/
def lsK (Vs : List Vw) (k : Nat) : List (List M.Rw) := (List.range k).map (fun j : Nat => rangeOf Vs (j : Int) 0 c0 c9 500)
def uvK (Vs : List Vw) (k : Nat) : List Value := (List.range k).map (fun j : Nat => .int .i64 (unitsOf Vs (j : Int) : Int))
theorem lsK_succ (Vs : List Vw) (k : Nat) : lsK Vs (k + 1) = lsK Vs k ++ [rangeOf Vs (k : Int) 0 c0 c9 500] := by simp [lsK, List.range_succ]
theorem uvK_succ (Vs : List Vw) (k : Nat) : uvK Vs (k + 1) = uvK Vs k ++ [.int .i64 (unitsOf Vs (k : Int) : Int)] := by simp [uvK, List.range_succ]
theorem lsK_len (Vs : List Vw) (k : Nat) : (lsK Vs k).length = k := by simp [lsK]
theorem uvK_len (Vs : List Vw) (k : Nat) : (uvK Vs k).length = k := by simp [uvK]
/-- What was told ahead of the step: ranges, units. -/
structure Bk (w W : World) (v11 v12 : Value) (us : List Value) (Vs : List Vw) (k : Nat) : Prop where
  sp : SpI w W v11 us (lsK Vs k)
  un : W.ownsRow w.heap.size 3 1 v12 k (uvK Vs k)
theorem Bk.step {w W W' : World} {v11 v12 : Value} {us : List Value} {Vs : List Vw} {k : Nat} (h : Bk w W v11 v12 us Vs k) (hf : Fr W W' (fun _ => False)) : Bk w W' v11 v12 us Vs k := ⟨h.sp.step hf, own_fr h.un hf (fun _ _ h => h)⟩
theorem Bk.kpc {ts : List TypeId} {w W W' : World} {v11 v12 : Value} {us : List Value} {Vs : List Vw} {k : Nat} (h : Bk w W v11 v12 us Vs k) (hk : KpC ts W W') (h1 : 65 ∉ ts) (h2 : 58 ∉ ts) (h3 : 3 ∉ ts) (hf : Fr w W' (fun _ => False)) : Bk w W' v11 v12 us Vs k := ⟨h.sp.kpc hk h1 h2 hf, own_kpc h.un hk h3⟩
/-- Reading them. -/
theorem Bk.read {w W : World} {v11 v12 : Value} {us : List Value} {Vs : List Vw} {m k : Nat} (h : Bk w W v11 v12 us Vs m) (hk : k < m) (hr : (rangeOf Vs (k : Int) 0 c0 c9 500).length ≤ 1000000000) : ∃ G c G2 c2 u, v11 = .slice (some ⟨G, 0, none⟩) m c ∧ v12 = .slice (some ⟨G2, 0, none⟩) m c2 ∧ G < W.heap.size ∧ G2 < W.heap.size ∧ W.cell? ⟨G, k, none⟩ = some u ∧ W.cell? ⟨G2, k, none⟩ = some (.int .i64 (unitsOf Vs (k : Int) : Int)) ∧ RdR W u (rangeOf Vs (k : Int) 0 c0 c9 500) := by
  have hul : us.length = m := by rw [h.sp.len, lsK_len]
  rcases h.sp.own.2 with ⟨_, h'⟩ | ⟨G, c, cur, e1, _, hG, _⟩
  · omega
  rcases h.un.2 with ⟨_, h'⟩ | ⟨G2, c2, cur2, e2, _, hG2, _⟩
  · omega
  have hku : k < us.length := by omega
  have hkl : k < (lsK Vs m).length := by rw [lsK_len]; exact hk
  have hc1 := h.sp.own.cells (g := G) (by rw [e1]; rfl) k us[k] (by simp [hku])
  have hc2 := h.un.cells (g := G2) (by rw [e2]; rfl) k (.int .i64 (unitsOf Vs (k : Int) : Int)) (by simp [uvK, hk])
  rw [Addr.add_lit, Nat.zero_add] at hc1 hc2
  have he := h.sp.each k hku hkl
  have e3 : (lsK Vs m)[k] = rangeOf Vs (k : Int) 0 c0 c9 500 := by simp [lsK]
  rw [e3] at he
  exact ⟨G, c, G2, c2, us[k], by rw [e1, hul], e2, lt_of_block hG, lt_of_block hG2, hc1, hc2, RdR.of he hr⟩
theorem Tryz.info_in : (Tryz.prog.info? 3).map (fun i => (i.zero, i.size, i.bytes)) = some (some (.int .i64 0), 1, 8) := by kernel_rfl

theorem rngC {w W : World} {Q m : Nat} {Vs : List Vw} {Pf Pt : Nat} (h : AI w W Q m Vs Pf Pt) (k : Int) : Calls Tryz.prog 41 #[.pointer (some ⟨Q, 0, none⟩), .int .i64 k, .int .i64 0, .agg #[.int .i64 0, .string ⟨#[]⟩, .int .i64 0], .agg #[.int .i64 9, .string ⟨#[]⟩, .int .i64 0], .int .i64 500] W fun r w' => ∃ v, r = .returned v ∧ RowsAt W w' v (rangeOf Vs k 0 c0 c9 500) := srange k 0 c0 c9 500 h.sd

set_option maxHeartbeats 8000000 in
set_option maxRecDepth 100000 in
theorem apart_walk (shards : Int) (ss : List Sp) (sv : Value) (w : World) (hg : Gl w) (hs : Sps w sv ss) :
    Calls Tryz.prog 7 #[.int .i64 shards, sv] w fun r w' => r = .returned (.bool true) ∧ Fr w w' (fun _ => False) := by
  obtain ⟨i0, hi0, hz0, hz1, hz2⟩ := info_parts Tryz.info_rs
  obtain ⟨j0, hj0, hy0, hy1, hy2⟩ := info_parts Tryz.info_in
  obtain ⟨ao, cap, rfl, hsl, hsc⟩ := hs
  have HSc := hid hsc
  obtain ⟨m, hm⟩ : ∃ m : Nat, 1 + shards % 16 = (m : Int) := ⟨(1 + shards % 16).toNat, by omega⟩
  have hm1 : 1 ≤ m := by omega
  have hm2 : m ≤ 16 := by omega
  have HN := hid (snew (m : Int) 300 (Fr.refl w _) hg)
  have HH := hid (fun (W : World) (hf : Fr w W (fun _ => False)) => head_any hf hg)
  have HWi := hid (fun (W : World) => within_any shards 16 (by decide) (by decide) W)
  have HW4 := hid (fun (a : Int) (W : World) => within_any a 4 (by decide) (by decide) W)
  have n1 := st_nil
  clear hsc hg
  generalize shards % 16 = q at *
  go_enter Tryz.func7, Tryz.ntmps7
  go_wp2_with fail
  refine (HWi.out _).mono ?_
  rintro r w1 ⟨rfl, hw⟩
  have hw := hw.symm
  subst hw
  go_wp2_with fail
  refine HN.out.mono ?_
  rintro r w1 ⟨hn, _⟩
  unfold NewSt at hn
  rw [if_neg (by omega)] at hn
  obtain ⟨Q, rfl, hS⟩ := hn
  have HS1 : Hid (Sd w w1 Q 300 (List.replicate m [])) := hS
  clear hS HN
  go_wp2_with fail
  refine (all_any _).mono ?_
  rintro r w2 ⟨rfl, hf⟩
  have HS2 := hid (HS1.out.step hf)
  clear hf HS1
  go_wp2_with fail
  have HA0 : Hid (AI w ((w2.alloc (.cells #[.int .i64 0, .string ⟨#[]⟩, .int .i64 0] 33)).alloc (.cells #[.int .i64 9, .string ⟨#[]⟩, .int .i64 0] 33)) Q m (List.replicate m []) w2.heap.size (w2.heap.size + 1)) := ⟨HS2.out.step ((alloc_fr _ _ _).alloc _), Rk.new m, by simp, (Below.heap_alloc _ _ _ (by simp)).trans (heap_last _ _ _ rfl), heap_last _ _ _ (by simp)⟩
  generalize ((w2.alloc (.cells #[.int .i64 0, .string ⟨#[]⟩, .int .i64 0] 33)).alloc (.cells #[.int .i64 9, .string ⟨#[]⟩, .int .i64 0] 33)) = wA at *
  generalize w2.heap.size + 1 = Pt at *
  generalize w2.heap.size = Pf at *
  clear HS2
  go_loopg [10] 40 (fun gk s10 wx => ∃ (i : Nat) (Vs : List Vw), s10 = .int .i64 (i : Int) ∧ i + gk = 40 ∧ Hid (AI w wx Q m Vs Pf Pt))
  case atStart => exact ⟨0, _, rfl, by omega, HA0⟩
  case round =>
    obtain ⟨i, Vs, rfl, hgk, HA⟩ := hrel
    clear HA0
    have hEnd : ∀ W', Fr wr W' (fun _ => False) → Fr w W' (fun _ => False) := fun W' hf => HA.out.sd.fr.trans hf
    have HEnd := hid hEnd
    clear hEnd
    by_cases hk0 : (i : Int) < (ss.length : Int)
    · cases gk with
      | zero =>
        have t1 : ¬ (i : Int) < 40 := by omega
        clear hgk
        go_wp2_with fail
        refine (HH.out _ (HEnd.out _ (Fr.refl _ _))).mono ?_
        rintro r w3 ⟨rfl, hf3⟩
        have HF3 := hid (HEnd.out _ hf3)
        clear hf3
        go_wp2_with fail
        go_ret
        exact ⟨rfl, HF3.out⟩
      | succ go =>
        have t1 : (i : Int) < 40 := by omega
        have t0 : (0 : Int) ≤ (i : Int) := by omega
        have HG := hid hgk
        clear hgk
        obtain ⟨sb, so, rfl, hsa⟩ := HSc.out (by omega)
        have HSa := hid (hsa i (by omega))
        clear hsa
        generalize ss[i]?.getD default = x at *
        have hbl : sb < w.heap.size := World.block_lt_of_cell? w _ HSa.out.1
        generalize wr = W1 at *
        go_wp2_with fail
        go_loopg [11, 12, 13] m (fun g2 s11 s12 s13 wx => ∃ (k : Nat) (us : List Value), s13 = .int .i64 (k : Int) ∧ k + g2 = m ∧ Hid (Bk w wx s11 s12 us Vs k) ∧ Hid (AI w wx Q m Vs Pf Pt))
        case atStart => exact ⟨0, [], rfl, by omega, ⟨SpI.nil w W1 HA.out.sd.fr, ⟨rfl, Or.inl ⟨rfl, rfl⟩⟩⟩, HA⟩
        case round =>
          obtain ⟨k, us, rfl, hk, HB, HAr⟩ := hrel
          cases gk with
          | zero =>
            have t2 : ¬ (k : Int) < (m : Int) := by omega
            have hkm : k = m := by omega
            have HBm : Hid (Bk w wr u11 u12 us Vs m) := by
              show Bk _ _ _ _ _ _ _
              rw [← hkm]
              exact HB.out
            obtain ⟨G1, c11, G2, c12, e11, e12⟩ : ∃ G1 c11 G2 c12, u11 = .slice (some ⟨G1, 0, none⟩) m c11 ∧ u12 = .slice (some ⟨G2, 0, none⟩) m c12 := by
              have hul : us.length = m := by rw [HBm.out.sp.len, lsK_len]
              rcases HBm.out.sp.own.2 with ⟨_, h'⟩ | ⟨G1, c1, _, e1, _, _, _⟩
              · omega
              rcases HBm.out.un.2 with ⟨_, h'⟩ | ⟨G2, c2, _, e2, _, _, _⟩
              · omega
              exact ⟨G1, c1, G2, c2, by rw [e1, hul], e2⟩
            clear hk hkm HB HA
            generalize wr = W2 at *
            have hSr := HSa.out.step HAr.out.sd.fr
            obtain ⟨s0, s1, s2, s3, s4⟩ := hSr
            have hbl2 : sb < W2.heap.size := Nat.lt_of_lt_of_le hbl HAr.out.sd.fr.size
            have HFw := hid (fun (W : World) => few_any x.c W s4)
            have hmd := few_may x.c
            have hfk := (fewK_size x.c.k).2
            generalize hd : fewC x.c = d at *
            have hdk : d.k.size ≤ 9223372036854775807 := by rw [← hd]; show (fewK x.c.k).size ≤ _; omega
            clear hfk hd
            obtain ⟨dv, dk, ds⟩ := d
            dsimp only at *
            go_wp2_with fail
            refine (HFw.out _).mono ?_
            rintro r w3 ⟨rfl, hf⟩
            have HA3 := hid ((HAr.out.step hf).step (alloc_fr w3 (.cells #[.int .i64 dv, .string dk, .int .i64 ds] 33) _))
            have HB3 := hid ((HBm.out.step hf).step (alloc_fr w3 (.cells #[.int .i64 dv, .string dk, .int .i64 ds] 33) _))
            have HC3 := hid (heap_last w3 (.cells #[.int .i64 dv, .string dk, .int .i64 ds] 33) _ rfl)
            clear hf s0 s1 s2 s3 hbl2 HBm HAr HFw
            have HSt := hid (fun (W : World) (hf : Fr w W (fun _ => False)) => (show W.cell? ⟨sb, so + i * 16, none⟩ = some (.int .i64 x.k) ∧ sb < W.heap.size from ⟨(HSa.out.step hf).1, Nat.lt_of_lt_of_le hbl hf.size⟩))
            have HRt := hid (route_any dk HA3.out.sd hdk)
            have hlV := HA3.out.len
            have HQl : Hid (rt Vs.length dk < Vs.length) := rt_lt dk HA3.out.sd.pos
            have hq : rt Vs.length dk < m := Nat.lt_of_lt_of_eq HQl.out hlV
            have HKl := hid (fun (W : World) (h : Sd w W Q 300 Vs) => skill 1 ⟨dv, dk, ds⟩ h hdk)
            have HPt := hid (fun (W : World) (h : Sd w W Q 300 Vs) => sput 1 ⟨dv, dk, ds⟩ (oneA 5) h hdk (oneA_fit (by unfold fits; decide)))
            have HKr := hid (HA3.out.rk.set (c := ⟨dv, dk, ds⟩) HA3.out.sd.pos (fun y hy => mem_killS (V := gv Vs (rt Vs.length dk)) (e := 1) (c := ⟨dv, dk, ds⟩) hy))
            have HPr := hid (HA3.out.rk.set (c := ⟨dv, dk, ds⟩) HA3.out.sd.pos (fun y hy => mem_putS (V := gv Vs (rt Vs.length dk)) (slots := 300) (e := 1) (c := ⟨dv, dk, ds⟩) (a := oneA 5) hy))
            have HOt := hid (fun (V : Vw) (k : Nat) (hk : k ≠ rt Vs.length dk) => rangeOf_other (V := V) HQl.out hk 0 c0 c9 500)
            dsimp only at HKl HPt HKr HPr
            unfold oneA at HPt HPr
            dsimp only at HPt HPr
            generalize killS (gv Vs (rt Vs.length dk)) 1 ⟨dv, dk, ds⟩ = Vk at *
            generalize killErr (gv Vs (rt Vs.length dk)) 1 ⟨dv, dk, ds⟩ = ek at *
            generalize putS (gv Vs (rt Vs.length dk)) 300 1 ⟨dv, dk, ds⟩ ⟨1, 5, 5, 5⟩ = Vp at *
            generalize putErr (gv Vs (rt Vs.length dk)) 300 1 ⟨dv, dk, ds⟩ ⟨1, 5, 5, 5⟩ = ep at *
            have HPr' : Hid (Rk (Vs.set (rt Vs.length dk) Vp)) := HPr
            clear HQl HPr
            generalize rt Vs.length dk = q0 at *
            obtain ⟨d0, d1, d2⟩ := cells3 HC3.out
            have dl := lt_of_block HC3.out
            go_wp2_with fail
            refine HRt.out.mono ?_
            rintro r w4 ⟨rfl, hf⟩
            have HA4 := hid (HA3.out.step hf)
            have HB4 := hid (HB3.out.step hf)
            have HC4 := hid ((hf.block _ dl (fun h => h)).trans HC3.out)
            obtain ⟨k0, k0l⟩ := HSt.out _ HA4.out.sd.fr
            clear hf HRt HA3 HB3 HC3 d0 d1 d2 dl
            go_wp2_with fail
            refine (HW4.out _ _).mono ?_
            rintro r w5 ⟨rfl, hw⟩
            have hw := hw.symm
            subst hw
            clear k0 k0l
            obtain ⟨d0, d1, d2⟩ := cells3 HC4.out
            have dl := lt_of_block HC4.out
            go_upto_if 84 with fail
            go_cut [92] (fun _s92 wx => ∃ Vs', Hid (AI w wx Q m Vs' Pf Pt) ∧ Hid (Bk w wx u11 u12 us Vs m) ∧ Hid (∀ k : Nat, k ≠ q0 → rangeOf Vs' (k : Int) 0 c0 c9 500 = rangeOf Vs (k : Int) 0 c0 c9 500 ∧ unitsOf Vs' (k : Int) = unitsOf Vs (k : Int)))
            case first =>
              by_cases hkd : x.k % 4 = 0
              · have hkd2 : (x.k % 4 == 0) = true := by simpa using hkd
                go_wp2_with fail
                refine (HKl.out _ HA4.out.sd).mono ?_
                rintro r w6 ⟨rfl, hS, hk⟩
                have HA6 : Hid (AI w w6 Q m (Vs.set q0 Vk) Pf Pt) := ⟨hS, HKr.out, by rw [List.length_set]; exact hlV, (KpC.kp hk).2 _ _ _ HA4.out.bf (by decide), (KpC.kp hk).2 _ _ _ HA4.out.bt (by decide)⟩
                have HB6 := hid (HB4.out.kpc (KpC.kp hk) (by decide) (by decide) (by decide) hS.fr)
                clear hS hk
                go_wp2_with fail
                go_meet
                exact ⟨_, HA6, HB6, fun k hk => HOt.out Vk k hk⟩
              · have hkd2 : (x.k % 4 == 0) = false := by simpa using hkd
                have HKc := hid (fun (W' : World) (hk : Kp w4 W') => cells3 (hk.block HC4.out (by unfold okT; decide)))
                have HF := hid (Fr.refl w4 (fun _ => False))
                have HKp := hid (Kp.refl w4)
                generalize w3.heap.size = Pc at *
                go_wp2_with fail
                go_region_held3 (fun W' => Hid (Kp w4 W') ∧ W'.cell? ⟨Pc, 0, none⟩ = some (.int .i64 dv) ∧ W'.cell? ⟨Pc, 1, none⟩ = some (.string dk) ∧ W'.cell? ⟨Pc, 2, none⟩ = some (.int .i64 ds))
                  ((refine (fun h => ⟨h, HKc.out _ h⟩ : Kp w4 _ → _) ?_; first | exact HKp.out | exact Kp.of (by repeat (first | with_reducible exact HF.out | with_reducible exact Fr.refl _ _ | with_reducible apply Fr.drew)) | exact HKp.out.trans (Kp.of (by repeat (first | with_reducible exact Fr.refl _ _ | with_reducible apply Fr.drew)))))
                  ((first
                    | (go_at_call 24; refine (one_any 5 _).mono ?_; rintro r w5 ⟨rfl, hf⟩; have HF := hid (Fr.trans (a := w4) (by repeat (first | with_reducible exact HF.out | with_reducible exact Fr.refl _ _ | with_reducible apply Fr.drew)) hf); have HKp := hid (Kp.of HF.out); clear hf)
                    | (go_at_call 25; refine (HPt.out _ (HA4.out.sd.step (by repeat (first | with_reducible exact HF.out | with_reducible exact Fr.refl _ _ | with_reducible apply Fr.drew)))).mono ?_; rintro r w6 ⟨rfl, hS, hk2⟩; have HS6 := hid hS; have HKp := hid ((Kp.of HF.out).trans ((Kp.of (by repeat (first | with_reducible exact Fr.refl _ _ | with_reducible apply Fr.drew))).trans hk2)); clear hS hk2)))
                have HA6 : Hid (AI w w6 Q m (Vs.set q0 Vp) Pf Pt) := ⟨HS6.out, HPr'.out, by rw [List.length_set]; exact hlV, (KpC.kp HKp.out).2 _ _ _ HA4.out.bf (by decide), (KpC.kp HKp.out).2 _ _ _ HA4.out.bt (by decide)⟩
                have HB6 := hid (HB4.out.kpc (KpC.kp HKp.out) (by decide) (by decide) (by decide) HS6.out.fr)
                go_wp2_with fail
                go_meet
                exact ⟨_, HA6, HB6, fun k hk => HOt.out Vp k hk⟩
            case rest =>
              obtain ⟨Vs', HA6, HB6, HO6⟩ := hcut
              clear HA4 HB4 HC4 d0 d1 d2 dl HKl HPt HKr HPr' HOt hlV
              go_wp2_with fail
              go_loopg [16] m (fun g3 s16 wx => ∃ k : Nat, s16 = .int .i64 (k : Int) ∧ k + g3 = m ∧ Hid (Fr wc wx (fun _ => False)))
              case atStart => exact ⟨0, rfl, by omega, Fr.refl _ _⟩
              case round =>
                obtain ⟨k, rfl, hk, HF⟩ := hrel
                have HAr := hid (HA6.out.step HF.out)
                cases gk with
                | zero =>
                  have t3 : ¬ (k : Int) < (m : Int) := by omega
                  have t4 : ¬ (q0 : Int) < 0 := by omega
                  have t5 : ¬ (m : Int) ≤ (q0 : Int) := by omega
                  clear hk
                  go_wp2_with fail
                  go_roundg go
                  case measure => omega
                  case rel => exact ⟨i + 1, Vs', by go_num, by have := HG.out; omega, HAr⟩
                | succ g3 =>
                  have hkm : k < m := by omega
                  have t3 : (k : Int) < (m : Int) := by omega
                  have t3' : (0 : Int) ≤ (k : Int) := by omega
                  have HK := hid hk
                  clear hk
                  obtain ⟨⟨p0, p1, p2, p3⟩, r0, r1, r2, r3⟩ := HAr.out.cells
                  have HRg := hid (rngC HAr.out (k : Int))
                  have hRl := rangeOf_len HAr.out.sd (k : Int) 0 c0 c9 500
                  go_wp2_with fail
                  refine HRg.out.mono ?_
                  rintro r w7 ⟨v7, rfl, ho, hf⟩
                  have HF7 := hid (HF.out.trans hf)
                  have hrd : RdR w7 v7 (rangeOf Vs' (k : Int) 0 c0 c9 500) := RdR.of ho (by omega)
                  have HRd := hid hrd
                  obtain ⟨a7, c7, e7, _, hrc⟩ := hrd
                  subst e7
                  have HRc := hid hrc
                  clear ho hf HRg p0 p1 p2 p3 r0 r1 r2 r3 hrc
                  have HA7 := hid (HA6.out.step HF7.out)
                  have HB7 := hid (HB6.out.step HF7.out)
                  have HKy := hid (fun (r : M.Rw) (hr : r ∈ rangeOf Vs' (k : Int) 0 c0 c9 500) => (show rt Vs'.length r.c.k = k ∧ r.c.k.size ≤ 9223372036854775807 from ⟨HA6.out.rk.range (by rw [HA6.out.len]; exact hkm) hr, HA6.out.sd.key hr⟩))
                  go_upto_region 25 with fail
                  go_cut [124] (fun s124 wx => s124 = .bool false ∧ Hid (Fr w7 wx (fun _ => False)))
                  case first =>
                    by_cases hkq : k = q0
                    · subst hkq
                      have g1 : ((k : Int) != (k : Int)) = false := by simp
                      go_wp2_with fail
                      go_quiet (fail)
                      go_wp2_with fail
                      go_meet
                      exact ⟨rfl, (show Fr w7 _ (fun _ => False) from by repeat (first | with_reducible exact Fr.refl _ _ | with_reducible apply Fr.drew | with_reducible apply Fr.drewN))⟩
                    · have g1 : ((k : Int) != (q0 : Int)) = true := by simp; omega
                      obtain ⟨o1, o2⟩ := HO6.out k hkq
                      have HB8 := hid (HB7.out.read hkm (by rw [← o1]; omega))
                      obtain ⟨G3, cc1, G4, cc2, uu, e1, e2, hG1, hG2, hc1, hc2, hrr⟩ := HB8.out
                      rw [← o1] at hrr
                      rw [← o2] at hc2
                      have HUt := hid (fun (W : World) (hf : Fr w7 W (fun _ => False)) => sunits (k : Int) (HA7.out.sd.step hf))
                      have HSm := hid (fun (W : World) (hf : Fr w7 W (fun _ => False)) => same_any W (HRd.out.step hf) (hrr.step hf))
                      obtain ⟨ua, uc, ue, _, _⟩ := hrr
                      subst ue
                      generalize rangeOf Vs' (k : Int) 0 c0 c9 500 = R7 at *
                      generalize unitsOf Vs' (k : Int) = U7 at *
                      rw [e11] at e1
                      rw [e12] at e2
                      simp only [Value.slice.injEq, Option.some.injEq, Addr.mk.injEq, and_true, true_and] at e1 e2
                      obtain ⟨f1, f3⟩ := e1
                      obtain ⟨f4, f5⟩ := e2
                      rw [← f1] at hc1 hG1
                      rw [← f4] at hc2 hG2
                      have HCc := hid (fun (W : World) (hf : Fr w7 W (fun _ => False)) => (show W.cell? ⟨G1, k, none⟩ = some (.slice ua R7.length uc) ∧ W.cell? ⟨G2, k, none⟩ = some (.int .i64 (U7 : Int)) from ⟨by rw [(fr_rules hf).1 _ _ hG1]; exact hc1, by rw [(fr_rules hf).1 _ _ hG2]; exact hc2⟩))
                      have HFx := hid (Fr.refl w7 (fun _ => False))
                      clear HB8 o1 o2 f1 f4 f3 f5
                      go_wp2_with fail
                      go_region_held3 (fun W' => Hid (Fr w7 W' (fun _ => False)) ∧ W'.cell? ⟨G1, k, none⟩ = some (.slice ua R7.length uc) ∧ W'.cell? ⟨G2, k, none⟩ = some (.int .i64 (U7 : Int)))
                        ((refine (fun h => ⟨h, HCc.out _ h⟩ : Fr w7 _ (fun _ => False) → _) ?_; repeat (first | with_reducible exact HFx.out | with_reducible exact Fr.refl _ _ | with_reducible apply Fr.drew)))
                        ((first
                          | (go_at_call 37; refine (HSm.out _ (by repeat (first | with_reducible exact HFx.out | with_reducible exact Fr.refl _ _ | with_reducible apply Fr.drew))).mono ?_; rintro e w8 ⟨rfl, hf⟩; have HFx := hid (Fr.trans (a := w7) (by repeat (first | with_reducible exact HFx.out | with_reducible exact Fr.refl _ _ | with_reducible apply Fr.drew)) hf); clear hf)
                          | (go_at_call 27; refine (HUt.out _ (by repeat (first | with_reducible exact HFx.out | with_reducible exact Fr.refl _ _ | with_reducible apply Fr.drew))).mono ?_; rintro e w9 ⟨rfl, hf⟩; have HFx := hid (Fr.trans (a := w7) (by repeat (first | with_reducible exact HFx.out | with_reducible exact Fr.refl _ _ | with_reducible apply Fr.drew)) hf); clear hf)))
                      go_wp2_with fail
                      go_meet
                      exact ⟨by simp, (show Fr w7 _ (fun _ => False) from by repeat (first | with_reducible exact HFx.out | with_reducible exact Fr.refl _ _ | with_reducible apply Fr.drew))⟩
                  case rest =>
                    obtain ⟨rfl, HF8⟩ := hcut
                    generalize hR8 : rangeOf Vs' (k : Int) 0 c0 c9 500 = R8 at *
                    clear hR8 HB7
                    go_wp2_with fail
                    go_loopg [18] R8.length (fun g4 s18 wx => ∃ j : Nat, s18 = .int .i64 (j : Int) ∧ j + g4 = R8.length ∧ Hid (Fr w7 wx (fun _ => False)))
                    case atStart => exact ⟨0, rfl, by omega, HF8⟩
                    case round =>
                      obtain ⟨j, rfl, hj, HF9⟩ := hrel
                      cases gk with
                      | zero =>
                        have t6 : ¬ (j : Int) < (R8.length : Int) := by omega
                        clear hj
                        go_wp2_with fail
                        go_roundg g3
                        case measure => omega
                        case rel => exact ⟨k + 1, by go_num, by have := HK.out; omega, HF7.out.trans HF9.out⟩
                      | succ g4 =>
                        have t6 : (j : Int) < (R8.length : Int) := by omega
                        have t6' : (0 : Int) ≤ (j : Int) := by omega
                        have HJ := hid hj
                        obtain ⟨b7, o7, rfl, hel⟩ := HRc.out (by omega)
                        have hej := (hel j (by omega)).fr HF9.out
                        have hjl : j < R8.length := by omega
                        obtain ⟨y1, y2⟩ := HKy.out (R8[j]?.getD default) (by simp [hjl])
                        have hb7 := hej.lt
                        have hky := hej.2.1
                        have HRt := hid (route_any (R8[j]?.getD default).c.k (HA7.out.sd.step HF9.out) y2)
                        rw [y1] at HRt
                        generalize (R8[j]?.getD default).c.k = ky at *
                        clear hj hel hej y1
                        go_wp2_with fail
                        refine HRt.out.mono ?_
                        rintro r w10 ⟨rfl, hf⟩
                        have HF10 := hid (HF9.out.trans hf)
                        clear hf HRt
                        go_wp2_with fail
                        go_roundg g4
                        case measure => omega
                        case rel => exact ⟨j + 1, by go_num, by have := HJ.out; omega, HF10⟩
          | succ g2 =>
            have hkm : k < m := by omega
            have t2 : (k : Int) < (m : Int) := by omega
            have HK := hid hk
            clear hk
            obtain ⟨⟨p0, p1, p2, p3⟩, q0, q1, q2, q3⟩ := HAr.out.cells
            have HRg := hid (rngC HAr.out (k : Int))
            have hul : us.length = k := by rw [HB.out.sp.len, lsK_len]
            obtain ⟨a11, c11, e11⟩ := own_nil_shape HB.out.sp.own
            obtain ⟨a12, c12, e12⟩ := own_nil_shape HB.out.un
            rw [hul] at e11
            subst e11 e12
            have HUl := hid hul
            clear hul
            go_wp2_with fail
            refine HRg.out.mono ?_
            rintro r w3 ⟨v1, rfl, ho, hf⟩
            obtain ⟨a1, c1, rfl⟩ := own_nil_shape ho
            generalize hR : rangeOf Vs (k : Int) 0 c0 c9 500 = R at *
            have HR := hid hR
            have HA3 := hid (HAr.out.step hf)
            have HB3 := hid ((HB.out.step hf).step (alloc_fr w3 (.cells #[.slice a1 R.length c1] 65) _))
            have HO := hid (own_fr (own_mono ho HAr.out.sd.fr.size) (alloc_fr w3 (.cells #[.slice a1 R.length c1] 65) (fun _ => False)) (fun _ _ h => h))
            have hws : w.heap.size ≤ w3.heap.size := HA3.out.sd.fr.size
            have HOw := hid HB3.out.sp.own
            rw [HUl.out] at HOw
            clear ho hf hR HRg p0 p1 p2 p3 q0 q1 q2 q3
            go_wp2_with (at_builtin; go_must (refine wpList_append_own_at _ rfl (.tmp 52) (.tmp 58) 70 rfl w.heap.size 65 i0 _ 1 24 Tryz.underlying70 hi0 hz0 hz1 hz2 rfl (by decide) _ k us rfl HOw.out ⟨w3.heap.size, 0, none⟩ 1 1 [.slice a1 R.length c1] rfl rfl ?q1 ?q2 ?q3 ?q4 ?q5 ?_))
            case q1 => exact cells_new w3 _ _
            case q2 => intro u hu; simp at hu; rw [hu]; rfl
            case q3 => unfold maxLen; omega
            case q4 => omega
            case q5 => simp; omega
            intro v' w4 hown hgrow hnil hat
            have hown' : w4.ownsRow w.heap.size 65 1 v' (us.length + 1) (us ++ [.slice a1 R.length c1]) := by rw [HUl.out]; exact hown
            have hkp : KpC [65] _ w4 := KpC.grown HOw.out hgrow
            have hsp4 : SpI w w4 v' (us ++ [.slice a1 R.length c1]) (lsK Vs (k + 1)) := by
              have := HB3.out.sp.snoc HO.out hown' hgrow
              rw [lsK_succ, HR.out]
              exact this
            have HSp4 := hid hsp4
            have HUn4 := hid (own_kpc HB3.out.un hkp (by decide))
            have HA4 := hid ((HA3.out.step (alloc_fr w3 (.cells #[.slice a1 R.length c1] 65) _)).kpc hkp (by decide) (by decide) (by decide) (by decide) hsp4.fr)
            obtain ⟨a2, c2, rfl⟩ := own_nil_shape hown
            clear hown hown' hgrow hnil hat hkp hsp4 HOw
            have HUt := hid (sunits (k : Int) HA4.out.sd)
            generalize hU : unitsOf Vs (k : Int) = U at *
            have HU := hid hU
            clear hU
            go_wp2_with fail
            refine HUt.out.mono ?_
            rintro r w5 ⟨rfl, hf⟩
            have HA5 := hid ((HA4.out.step hf).step (alloc_fr w5 (.cells #[.int .i64 (U : Int)] 3) _))
            have HSp5 := hid ((HSp4.out.step hf).step (alloc_fr w5 (.cells #[.int .i64 (U : Int)] 3) _))
            have HUn5 := hid (own_fr (own_fr HUn4.out hf (fun _ _ h => h)) (alloc_fr w5 (.cells #[.int .i64 (U : Int)] 3) (fun _ => False)) (fun _ _ h => h))
            have hws5 : w.heap.size ≤ w5.heap.size := (HA4.out.sd.fr.trans hf).size
            clear hf HUt
            go_wp2_with (at_builtin; go_must (refine wpList_append_own_at _ rfl (.tmp 60) (.tmp 64) 37 rfl w.heap.size 3 j0 _ 1 8 Tryz.underlying37 hj0 hy0 hy1 hy2 rfl (by decide) _ k (uvK Vs k) rfl HUn5.out ⟨w5.heap.size, 0, none⟩ 1 1 [.int .i64 (U : Int)] rfl rfl ?q1 ?q2 ?q3 ?q4 ?q5 ?_))
            case q1 => exact cells_new w5 _ _
            case q2 => intro u hu; simp at hu; rw [hu]; rfl
            case q3 => unfold maxLen; omega
            case q4 => omega
            case q5 => simp; omega
            intro v6 w6 hown hgrow hnil hat
            have hkp : KpC [3] _ w6 := KpC.grown HUn5.out hgrow
            have HF6 : Hid (Fr w w6 (fun _ => False)) := HA5.out.sd.fr.grown hgrow (fun b hb e => by have := (HUn5.out.lt b e).1; omega)
            have HBn : Hid (Bk w w6 (.slice a2 (k + 1) c2) v6 (us ++ [.slice a1 R.length c1]) Vs (k + 1)) := ⟨HSp5.out.kpc hkp (by decide) (by decide) HF6.out, by rw [uvK_succ, HU.out]; exact hown⟩
            have HA6 := hid (HA5.out.kpc hkp (by decide) (by decide) (by decide) (by decide) HF6.out)
            obtain ⟨a6, c6, rfl⟩ := own_nil_shape hown
            clear hown hgrow hnil hat hkp HUn5 HSp5 HA5
            go_wp2_with fail
            go_roundg g2
            case measure => omega
            case rel => exact ⟨k + 1, _, by go_num, by have := HK.out; omega, HBn, HA6⟩
    · clear hgk
      go_wp2_with fail
      refine (HH.out _ (HEnd.out _ (Fr.refl _ _))).mono ?_
      rintro r w3 ⟨rfl, hf3⟩
      have HF3 := hid (HEnd.out _ hf3)
      clear hf3
      go_wp2_with fail
      go_ret
      exact ⟨rfl, HF3.out⟩
end Go.Proofs.YtgbkihkefdoddaaGreatDoor.St
