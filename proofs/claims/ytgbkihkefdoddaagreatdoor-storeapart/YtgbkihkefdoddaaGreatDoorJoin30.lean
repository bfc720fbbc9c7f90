/- Texts of one proof, joined. -/
import Derived.Test.YtgbkihkefdoddaaGreatDoorJoin29
import Derived.Test.YtgbkihkefdoddaaGreatDoorJoin25
section
/- store: Scan: a walk. -/
namespace Go.Proofs.YtgbkihkefdoddaaGreatDoor.St
open Go.RowKit G S

/-- Slices of rows in a row of one's own, each with what it holds. -/
structure SpI (w W : World) (v : Value) (us : List Value) (ls : List (List M.Rw)) : Prop where
  own : W.ownsRow w.heap.size 65 1 v us.length us
  len : us.length = ls.length
  each : ∀ p (hp : p < us.length) (hq : p < ls.length), W.ownsRow w.heap.size 58 7 us[p] ls[p].length (M.rc ls[p])
  fr : Fr w W (fun _ => False)
theorem SpI.step {w W W' : World} {v : Value} {us : List Value} {ls : List (List M.Rw)} (h : SpI w W v us ls) (hf : Fr W W' (fun _ => False)) : SpI w W' v us ls :=
  ⟨own_fr h.own hf (fun _ _ h => h), h.len, fun p hp hq => own_fr (h.each p hp hq) hf (fun _ _ h => h), h.fr.trans hf⟩
theorem SpI.nil (w W : World) (hf : Fr w W (fun _ => False)) : SpI w W (.slice none 0 0) [] [] := ⟨⟨rfl, Or.inl ⟨rfl, rfl⟩⟩, rfl, fun p hp => by simp at hp, hf⟩
theorem SpI.snoc {w W W2 : World} {v v' u : Value} {us : List Value} {ls : List (List M.Rw)} {l : List M.Rw} (h : SpI w W v us ls) (hu : W.ownsRow w.heap.size 58 7 u l.length (M.rc l))
    (hown : W2.ownsRow w.heap.size 65 1 v' (us.length + 1) (us ++ [u])) (hg : W.grownBy W2 v.ownBlock) : SpI w W2 v' (us ++ [u]) (ls ++ [l]) := by
  have hk : ∀ {x : Value} {n : Nat} {xs : List Value}, W.ownsRow w.heap.size 58 7 x n xs → W2.ownsRow w.heap.size 58 7 x n xs := fun {x n xs} hx => by
    refine ⟨hx.1, ?_⟩
    rcases hx.2 with h2 | ⟨g, cap, cur, hv, hb, hg2, rest⟩
    · exact Or.inl h2
    · exact Or.inr ⟨g, cap, cur, hv, hb, (hg.block g (lt_of_block hg2) (fun e => own_ne h.own hg2 (by decide) e.symm)).trans hg2, rest⟩
  refine ⟨by rw [List.length_append]; exact hown, by simp [h.len], fun p hp hq => ?_, h.fr.grown hg (fun k hk e => by have := (h.own.lt k e).1; omega)⟩
  by_cases hlt : p < us.length
  · rw [List.getElem_append_left hlt, List.getElem_append_left (by rw [← h.len]; exact hlt)]
    exact hk (h.each p hlt (by rw [← h.len]; exact hlt))
  · have e1 : p = us.length := by simp at hp; omega
    have e2 : p = ls.length := by rw [e1, h.len]
    have a1 : (us ++ [u])[p] = u := by subst e1; simp
    have a2 : (ls ++ [l])[p] = l := by subst e2; simp
    rw [a1, a2]
    exact hk hu
/-- Where a slice lies. -/
def svOf : Value → M.W.Sv
  | .slice (some a) _ c => ⟨a.block, 0, c⟩
  | _ => ⟨0, 0, 0⟩
theorem SpI.at {w W : World} {v : Value} {us : List Value} {ls : List (List M.Rw)} (h : SpI w W v us ls) (hl : ls.length ≤ 16) : ∃ sv, M.W.LsAt W sv ls v := by
  obtain ⟨ao, cap, hv⟩ := own_nil_shape h.own
  refine ⟨fun p => svOf (us.getD p (.slice none 0 0)), ao, cap, by rw [← h.len]; exact hv, by omega, fun p => ?_, fun hpos => ?_⟩
  · by_cases hp : p < us.length
    · have hq : p < ls.length := by rw [← h.len]; exact hp
      have he := h.each p hp hq
      have e1 : us.getD p (.slice none 0 0) = us[p] := by simp [List.getD, hp]
      have e2 : M.W.gl ls p = ls[p] := by simp [M.W.gl, hq]
      simp only [e1, e2]
      rcases he.2 with ⟨e3, e4⟩ | ⟨g, c, cur, e3, hb, hg, hn, hm, _⟩
      · rw [e3]
        unfold svOf
        dsimp only
        exact ⟨by omega, by omega, fun j hj => by omega⟩
      · rw [e3]
        unfold svOf
        dsimp only
        unfold maxLen at hm
        refine ⟨hn, by omega, fun j hj => ?_⟩
        have hc : ∀ i, i < 7 → W.cell? ⟨g, j * 7 + i, none⟩ = some (M.cellR (ls[p][j]?.getD default) i) := fun i hi => by
          have := he.cells (g := g) (by rw [e3]; rfl) _ _ (M.rc_get ls[p] j i hj hi)
          rw [Addr.add_lit, Nat.zero_add] at this
          exact this
        rw [show 0 + 7 * j = j * 7 by omega]
        exact ⟨hc 0 (by omega), hc 1 (by omega), hc 2 (by omega), hc 3 (by omega), hc 4 (by omega), hc 5 (by omega), hc 6 (by omega)⟩
    · have e1 : us.getD p (.slice none 0 0) = .slice none 0 0 := by simp [List.getD, hp]
      have e2 : M.W.gl ls p = [] := by
        have : ¬ p < ls.length := by rw [← h.len]; exact hp
        simp [M.W.gl, this]
      simp only [e1, e2]
      unfold svOf
      dsimp only
      exact ⟨by simp, by omega, fun j hj => by simp at hj⟩
  · rcases h.own.2 with ⟨_, h'⟩ | ⟨G, c0, cur, e3, hb, hg, _⟩
    · have := h.len; omega
    · rw [hv] at e3
      simp only [Value.slice.injEq] at e3
      obtain ⟨e4, _, _⟩ := e3
      refine ⟨G, 0, e4, fun p hp => ?_⟩
      have hpu : p < us.length := by rw [h.len]; exact hp
      have he := h.each p hpu hp
      have hc := h.own.cells (g := G) (by rw [hv, e4]; rfl) p us[p] (by simp [hpu])
      rw [Addr.add_lit, Nat.zero_add] at hc
      rw [Nat.zero_add]
      have e1 : us.getD p (.slice none 0 0) = us[p] := by simp [List.getD, hpu]
      have e2 : M.W.gl ls p = ls[p] := by simp [M.W.gl, hp]
      obtain ⟨a, c, e5⟩ := own_nil_shape he
      rw [e2]
      refine ⟨a, c, by rw [hc, e5], fun hne => ?_⟩
      unfold M.W.slv
      simp only [e1, e2]
      rcases he.2 with ⟨_, e4⟩ | ⟨g, c', cur, e6, _⟩
      · exact absurd (List.eq_nil_of_length_eq_zero e4) hne
      · rw [e6] at e5
        simp only [Value.slice.injEq] at e5
        obtain ⟨e7, _, e8⟩ := e5
        rw [e6, ← e7, ← e8]
        simp [svOf]

/-- What Scan tells. -/
def scanL (Vs : List Vw) (e : Int) (fr til : Cl) (most : Int) : List M.Rw := (M.merged M.W.cmE (Vs.map (fun V => rangeL V e fr til most))).take most.toNat
theorem Tryz.info_rs : (Tryz.prog.info? 65).map (fun i => (i.zero, i.size, i.bytes)) = some (some (.slice none 0 0), 1, 24) := by kernel_rfl

theorem range_len {V : Vw} {e : Int} {fr til : Cl} {most : Int} : (rangeL V e fr til most).length ≤ V.length := by
  unfold rangeL
  rw [List.length_take]
  have := tl_le e fr til (srt V)
  have := (srt_perm V).length_eq
  omega
theorem tot_le : ∀ (L : List (List M.Rw)) (n : Nat), (∀ l ∈ L, l.length ≤ n) → M.tot L ≤ L.length * n
  | [], _, _ => by simp [M.tot]
  | l :: L, n, h => by
    have h1 := h l (by simp)
    have h2 := tot_le L n (fun x hx => h x (by simp [hx]))
    rw [M.tot_cons, List.length_cons, Nat.succ_mul]
    omega
theorem Sh.vlen {w : World} {base S slots : Nat} {X : Nat → Prop} {V : Vw} (h : Sh w base S slots X V) : V.length ≤ 1048576 := by
  obtain ⟨B, gr, ge, T, M, h1, rfl, rfl⟩ := h
  have := nV_len h1.ne
  have := h1.room
  have := h1.sl
  unfold nU at *
  rw [List.length_map]
  omega

set_option maxHeartbeats 2000000 in
set_option maxRecDepth 100000 in
theorem sscan {w0 W : World} {Q slots : Nat} {Vs : List Vw} (e : Int) (fr til : Cl) (most : Int) (h : Sd w0 W Q slots Vs) :
    Calls Tryz.prog 38 #[.pointer (some ⟨Q, 0, none⟩), .int .i64 e, .agg #[.int .i64 fr.v, .string fr.k, .int .i64 fr.s], .agg #[.int .i64 til.v, .string til.k, .int .i64 til.s], .int .i64 most] W fun r w' => ∃ v, r = .returned v ∧ RowsAt W w' v (scanL Vs e fr til most) := by
  obtain ⟨i0, hi0, hz0, hz1, hz2⟩ := info_parts Tryz.info_rs
  have hpos := h.pos
  obtain ⟨v, L, h1, rfl⟩ := h.ex
  rw [vs_length] at hpos
  have hle := h1.le
  obtain ⟨g, cap, rfl, hgl, hgc⟩ := h1.row hpos
  have c0 := cell_of_one h1.cell
  have hlt := lt_of_block h1.cell
  have HSh := hid h1
  have HGc := hid hgc
  clear h h1 hgc
  obtain ⟨W0, hW0⟩ : ∃ W0, ((W.alloc (.cells #[.int .i64 fr.v, .string fr.k, .int .i64 fr.s] 33)).alloc (.cells #[.int .i64 til.v, .string til.k, .int .i64 til.s] 33)) = W0 := ⟨_, rfl⟩
  have HF0 : Hid (Fr W W0 (fun _ => False)) := by rw [← hW0]; exact (alloc_fr W _ _).alloc _
  have hb1 : W0.heap[W.heap.size]? = some (.cells #[.int .i64 fr.v, .string fr.k, .int .i64 fr.s] 33 (0, 0)) := by
    rw [← hW0, Below.heap_alloc _ _ _ (by simp)]
    exact heap_last _ _ _ rfl
  have hb2 : W0.heap[W.heap.size + 1]? = some (.cells #[.int .i64 til.v, .string til.k, .int .i64 til.s] 33 (0, 0)) := by
    rw [← hW0]
    exact heap_last _ _ _ (by simp)
  have HRd := hid (fun (W' : World) (hf : Fr W0 W' (fun _ => False)) => (show (W'.cell? ⟨W.heap.size, 0, none⟩ = some (.int .i64 fr.v) ∧ W'.cell? ⟨W.heap.size, 1, none⟩ = some (.string fr.k) ∧ W'.cell? ⟨W.heap.size, 2, none⟩ = some (.int .i64 fr.s)) ∧ (W'.cell? ⟨W.heap.size + 1, 0, none⟩ = some (.int .i64 til.v) ∧ W'.cell? ⟨W.heap.size + 1, 1, none⟩ = some (.string til.k) ∧ W'.cell? ⟨W.heap.size + 1, 2, none⟩ = some (.int .i64 til.s)) from ⟨cells3 ((hf.block _ (lt_of_block hb1) (fun h => h)).trans hb1), cells3 ((hf.block _ (lt_of_block hb2) (fun h => h)).trans hb2)⟩))
  clear hb1 hb2
  have c0' : W0.cell? ⟨Q, 0, none⟩ = some (.slice (some ⟨g, 0, none⟩) L.length cap) := by rw [(fr_rules HF0.out).1 _ _ hlt]; exact c0
  have hlt0 : Q < W0.heap.size := Nat.lt_of_lt_of_le hlt HF0.out.size
  go_enter Tryz.func38, Tryz.ntmps38
  go_wp2_with fail
  go_loopg [11, 19] L.length (fun gk s11 s19 wx => ∃ (i : Nat) (us : List Value), s19 = .int .i64 (i : Int) ∧ i + gk = L.length ∧ Hid (SpI W0 wx s11 us ((L.take i).map (fun s => rangeL s.V e fr til most))) ∧ Hid (Fr W0 wx (fun _ => False)))
  case atStart => exact ⟨0, [], rfl, by omega, SpI.nil W0 W0 (Fr.refl _ _), Fr.refl _ _⟩
  case round =>
    obtain ⟨i, us, rfl, hgk, HSp, HF⟩ := hrel
    cases gk with
    | zero =>
      have t1 : ¬ (i : Int) < (L.length : Int) := by omega
      have hE : i = L.length := by omega
      have hsp := HSp.out
      rw [hE, List.take_length] at hsp
      obtain ⟨sv, hat⟩ := hsp.at (by simp; omega)
      have htot : M.tot (L.map (fun s => rangeL s.V e fr til most)) ≤ 1000000000 := by
        have := tot_le (L.map (fun s => rangeL s.V e fr til most)) 1048576 (fun l hl => by
          obtain ⟨s, hs, rfl⟩ := List.mem_map.1 hl
          exact Nat.le_trans range_len (Sh.vlen (HSh.out.sh s hs)))
        rw [List.length_map] at this
        omega
      have HRw := hid (M.W.rows_any most wr hat htot)
      have HE : Hid ((M.merged M.W.cmE (L.map (fun s => rangeL s.V e fr til most))).take most.toNat = scanL (vs L) e fr til most) := by
        show _ = _
        unfold scanL vs
        rw [List.map_map]
        rfl
      rw [HE.out] at HRw
      have HFw := hid (HF0.out.trans HF.out)
      obtain ⟨ao, cap1, e9⟩ := own_nil_shape hsp.own
      rw [e9] at HRw ⊢
      clear hsp hat htot hE hgk HSp e9
      go_wp2_with fail
      refine HRw.out.mono ?_
      rintro r w1 ⟨v1, rfl, ho, hf⟩
      obtain ⟨ao1, cap2, rfl⟩ := own_nil_shape ho
      have HO : Hid (RowsAt W w1 (.slice ao1 (scanL (vs L) e fr til most).length cap2) (scanL (vs L) e fr til most)) := ⟨own_mono ho HFw.out.size, HFw.out.trans hf⟩
      clear ho hf HRw
      go_wp2_with fail
      go_ret
      exact ⟨_, rfl, HO.out⟩
    | succ gk =>
      have hi : i < L.length := by omega
      have t0 : (0 : Int) ≤ (i : Int) := by omega
      have t1 : (i : Int) < (L.length : Int) := by omega
      have HG := hid hgk
      clear hgk
      have hc1 : wr.cell? ⟨g, i, none⟩ = some (.pointer (some ⟨L[i].S, 0, none⟩)) := by
        rw [(fr_rules (HF0.out.trans HF.out)).1 _ _ hgl]
        exact HGc.out i hi
      have hgl1 : g < wr.heap.size := Nat.lt_of_lt_of_le hgl (HF0.out.trans HF.out).size
      obtain ⟨⟨a0, a1, a2⟩, ⟨b0, b1, b2⟩⟩ := HRd.out _ HF.out
      have HRg := hid (range_any e fr til most wr ((HSh.out.step (HF0.out.trans HF.out)).sh L[i] (List.getElem_mem hi)))
      have HT : Hid ((L.take (i + 1)).map (fun s => rangeL s.V e fr til most) = (L.take i).map (fun s => rangeL s.V e fr til most) ++ [rangeL L[i].V e fr til most]) := by
        show _ = _
        rw [List.take_succ_eq_append_getElem hi, List.map_append]
        rfl
      generalize rangeL L[i].V e fr til most = R at *
      generalize L[i].S = s at *
      have hwl : W.heap.size + 1 < wr.heap.size := World.block_lt_of_cell? wr ⟨W.heap.size + 1, 0, none⟩ b0
      go_wp2_with fail
      refine HRg.out.mono ?_
      rintro r w1 ⟨v1, rfl, ho, hf⟩
      obtain ⟨ao1, cap1, rfl⟩ := own_nil_shape ho
      have HF1 := hid (HF.out.trans hf)
      have HSp1 := hid ((HSp.out.step hf).step (alloc_fr w1 (.cells #[.slice ao1 R.length cap1] 65) _))
      have HO := hid (own_fr (own_mono ho HF.out.size) (alloc_fr w1 (.cells #[.slice ao1 R.length cap1] 65) (fun _ => False)) (fun _ _ h => h))
      have hws : W0.heap.size ≤ w1.heap.size := HF1.out.size
      have hul : us.length ≤ 16 := by have := HSp.out.len; rw [List.length_map, List.length_take] at this; omega
      clear ho hf HRg
      go_wp2_with (at_builtin; go_must (refine wpList_append_own_at _ rfl (.tmp 23) (.tmp 30) 70 rfl W0.heap.size 65 i0 _ 1 24 Tryz.underlying70 hi0 hz0 hz1 hz2 rfl (by decide) _ us.length us rfl HSp1.out.own ⟨w1.heap.size, 0, none⟩ 1 1 [.slice ao1 R.length cap1] rfl rfl ?q1 ?q2 ?q3 ?q4 ?q5 ?_))
      case q1 => exact cells_new w1 _ _
      case q2 => intro u hu; simp at hu; rw [hu]; rfl
      case q3 => unfold maxLen; omega
      case q4 => omega
      case q5 => simp; omega
      intro v' w2 hown2 hgrow2 hnil2 hat2
      have HSp2 := hid (HSp1.out.snoc HO.out hown2 hgrow2)
      have HF2 := hid HSp2.out.fr
      clear hown2 hgrow2 hnil2 hat2
      go_wp2_with fail
      go_roundg gk
      case measure => omega
      case rel => exact ⟨i + 1, _, by go_num, by have := HG.out; omega, by rw [HT.out]; exact HSp2, HF2⟩
end Go.Proofs.YtgbkihkefdoddaaGreatDoor.St
end

section
/- store: the law's one, head: walks. -/
namespace Go.Proofs.YtgbkihkefdoddaaGreatDoor.St
open Go.RowKit G S

theorem one_any (v : Int) (w : World) :
    Calls Tryz.prog 24 #[.int .i64 v] w fun r w' => r = .returned (.agg #[.int .i64 1, .int .i64 v, .int .i64 v, .int .i64 v]) ∧ Fr w w' (fun _ => False) := by
  go_enter Tryz.func24, Tryz.ntmps24
  go_wp2_with fail
  refine bodyPost_ret (v := .agg #[.int .i64 1, .int .i64 v, .int .i64 v, .int .i64 v]) (by simp [results, Tryz.results24, go_sem]) rfl ⟨rfl, ?_⟩
  repeat (first | with_reducible exact Fr.refl _ _ | with_reducible apply Fr.alloc | (with_reducible refine Fr.setCell ?_ ?_ _; rotate_left; (intro h; exact absurd h (Nat.lt_irrefl _))))

def cB : Cl := ⟨0, ⟨#[98]⟩, 0⟩
def La : List Vn := [⟨1, true, oneA 1⟩]
def Lb : List Vn := [⟨1, true, oneA 2⟩]
theorem mayB : mayE cB = 0 := by decide
theorem rtA : rt 2 ⟨#[97]⟩ = 0 := by decide
theorem rtB : rt 2 ⟨#[98]⟩ = 1 := by decide
theorem hp1 : putErr [] 9 1 cA (oneA 1) = 0 ∧ putS [] 9 1 cA (oneA 1) = [(cA, La)] := by
  have h1 : putErr [] 9 1 cA (oneA 1) = 0 := by
    unfold putErr
    rw [if_neg (by rw [mayA]; simp), if_neg (by omega), if_neg (by rw [oneA_right]; simp [oneA]), if_neg (by simp [getV, nw, z0]), if_neg (by simp [getV, nU, nV, nT, needN, nw, z0])]
  refine ⟨h1, ?_⟩
  unfold putS
  rw [h1, if_pos rfl]
  rfl
theorem hp2 : putErr [] 9 1 cB (oneA 2) = 0 ∧ putS [] 9 1 cB (oneA 2) = [(cB, Lb)] := by
  have h1 : putErr [] 9 1 cB (oneA 2) = 0 := by
    unfold putErr
    rw [if_neg (by rw [mayB]; simp), if_neg (by omega), if_neg (by rw [oneA_right]; simp [oneA]), if_neg (by simp [getV, nw, z0]), if_neg (by simp [getV, nU, nV, nT, needN, nw, z0])]
  refine ⟨h1, ?_⟩
  unfold putS
  rw [h1, if_pos rfl]
  rfl
theorem rng1 (x : Cl × List Vn) (e : Int) (fr til : Cl) (most : Int) (hi : inR e fr til x = true) (hm : 1 ≤ most.toNat) : rangeL [x] e fr til most = [rowR x.1 (atE x.2 e)] := by
  have hs : srt [x] = [x] := by simp [srt]
  unfold rangeL
  rw [hs, tl_one, if_pos hi, List.take_of_length_le (by simpa using hm)]
theorem scanH : scanL [[(cA, La)], [(cB, Lb)]] 0 ⟨0, ⟨#[]⟩, 0⟩ ⟨1, ⟨#[]⟩, 0⟩ 9 = [rowR cA (oneA 1), rowR cB (oneA 2)] := by
  unfold scanL
  simp only [List.map_cons, List.map_nil]
  rw [rng1 (cA, La) _ _ _ _ (by decide) (by decide), rng1 (cB, Lb) _ _ _ _ (by decide) (by decide)]
  rfl

theorem st_nil (W : World) (B : Nat) : (binOp .eql 24 (.pointer (some ⟨B, 0, none⟩)) (.pointer none)).run Tryz.prog W = .ok (.bool false) W := by kernel_rfl

set_option maxHeartbeats 4000000 in
set_option maxRecDepth 100000 in
theorem head_any {w0 W : World} (hf0 : Fr w0 W (fun _ => False)) (hg : Gl w0) : Calls Tryz.prog 9 #[] W fun r w' => r = .returned (.bool true) ∧ Fr W w' (fun _ => False) := by
  have hbn := st_nil
  have HN := hid (snew 2 9 (Fr.refl W _) (hg.fr hf0 (fun h => h)))
  have HP1 := hid (fun (W' : World) (Q : Nat) (h : Sd W W' Q 9 [[], []]) => sput 1 cA (oneA 1) h (by decide) (oneA_fit (by unfold fits; decide)))
  have HP2 := hid (fun (W' : World) (Q : Nat) (h : Sd W W' Q 9 [[(cA, La)], []]) => sput 1 cB (oneA 2) h (by decide) (oneA_fit (by unfold fits; decide)))
  have e1 : rt [([] : Vw), []].length cA.k = 0 := rtA
  have e2 : rt [[(cA, La)], ([] : Vw)].length cB.k = 1 := rtB
  simp only [e1, e2, show gv [([] : Vw), []] 0 = [] from rfl, show gv [[(cA, La)], ([] : Vw)] 1 = [] from rfl, hp1.1, hp1.2, hp2.1, hp2.2, List.set_cons_zero, List.set_cons_succ] at HP1 HP2
  clear e1 e2
  have HSc := hid (fun (W' : World) (Q : Nat) (h : Sd W W' Q 9 [[(cA, La)], [(cB, Lb)]]) => sscan 0 ⟨0, ⟨#[]⟩, 0⟩ ⟨1, ⟨#[]⟩, 0⟩ 9 h)
  rw [scanH] at HSc
  have HRa := hid (fun (W' : World) (Q : Nat) (h : Sd W W' Q 9 [[(cA, La)], [(cB, Lb)]]) => route_any ⟨#[97]⟩ h (by decide))
  have HRb := hid (fun (W' : World) (Q : Nat) (h : Sd W W' Q 9 [[(cA, La)], [(cB, Lb)]]) => route_any ⟨#[98]⟩ h (by decide))
  have e3 : rt [[(cA, La)], [(cB, Lb)]].length ⟨#[97]⟩ = 0 := rtA
  have e4 : rt [[(cA, La)], [(cB, Lb)]].length ⟨#[98]⟩ = 1 := rtB
  rw [e3] at HRa
  rw [e4] at HRb
  have HU1 := hid (fun (W' : World) (Q : Nat) (h : Sd W W' Q 9 [[(cA, La)], [(cB, Lb)]]) => sunits 1 h)
  have HU2 := hid (fun (W' : World) (Q : Nat) (h : Sd W W' Q 9 [[(cA, La)], [(cB, Lb)]]) => sunits 2 h)
  have e5 : unitsOf [[(cA, La)], [(cB, Lb)]] 1 = 2 := by
    unfold unitsOf
    rw [if_neg (by simp)]
    show nU [(cB, Lb)] = 2
    rw [nU1]
    rfl
  have e6 : unitsOf [[(cA, La)], [(cB, Lb)]] 2 = 0 := by
    unfold unitsOf
    rw [if_pos (by simp)]
  rw [e5] at HU1
  rw [e6] at HU2
  clear e3 e4 e5 e6 hf0
  unfold cA oneA at HP1
  unfold cB oneA at HP2
  dsimp only at HP1 HP2
  go_enter Tryz.func9, Tryz.ntmps9
  go_wp2_with fail
  refine HN.out.mono ?_
  rintro r w1 ⟨hn, hf1⟩
  unfold NewSt at hn
  rw [if_neg (by omega)] at hn
  obtain ⟨Q, rfl, hS⟩ := hn
  have HS1 : Hid (Sd W w1 Q 9 [[], []]) := hS
  clear hS hf1 HN
  go_wp2_with fail
  refine (one_any 1 _).mono ?_
  rintro r w2 ⟨rfl, hf⟩
  have HS2 := hid (HS1.out.step hf)
  clear hf HS1
  go_wp2_with fail
  refine (HP1.out _ Q HS2.out).mono ?_
  rintro r w3 ⟨rfl, hS, _⟩
  have HS3 := hid hS
  clear hS HS2 HP1
  go_wp2_with fail
  refine (one_any 2 _).mono ?_
  rintro r w4 ⟨rfl, hf⟩
  have HS4 := hid (HS3.out.step hf)
  clear hf HS3
  go_wp2_with fail
  refine (HP2.out _ Q HS4.out).mono ?_
  rintro r w5 ⟨rfl, hS, _⟩
  have HS5 := hid hS
  clear hS HS4 HP2
  go_wp2_with fail
  refine (HSc.out _ Q HS5.out).mono ?_
  rintro r w6 ⟨v, rfl, ho, hf⟩
  obtain ⟨g, cap, rfl, hgl, hc⟩ : ∃ g cap, v = .slice (some ⟨g, 0, none⟩) 2 cap ∧ g < w6.heap.size ∧ w6.cell? ⟨g, 11, none⟩ = some (.int .i64 2) := by
    rcases ho.2 with ⟨_, h'⟩ | ⟨g, cap, cur, rfl, hb, hg, _⟩
    · cases h'
    · refine ⟨g, cap, rfl, lt_of_block hg, ?_⟩
      have := ho.cells (g := g) rfl 11 (.int .i64 2) rfl
      rw [Addr.add_lit] at this
      exact this
  have HS6 := hid (HS5.out.step hf)
  have HC := hid hc
  clear ho hf HS5 HSc hc
  go_wp2_with fail
  refine (HRa.out _ Q HS6.out).mono ?_
  rintro r w7 ⟨rfl, hf⟩
  have HF7 := hid hf
  clear hf
  go_wp2_with fail
  refine (HRb.out _ Q (HS6.out.step HF7.out)).mono ?_
  rintro r w8 ⟨rfl, hf⟩
  have HF8 := hid (HF7.out.trans hf)
  clear hf HF7
  have hc8 : w8.cell? ⟨g, 11, none⟩ = some (.int .i64 2) := by rw [(fr_rules HF8.out).1 _ _ hgl]; exact HC.out
  have hgl8 : g < w8.heap.size := Nat.lt_of_lt_of_le hgl HF8.out.size
  go_wp2_with fail
  refine (HU1.out _ Q (HS6.out.step HF8.out)).mono ?_
  rintro r w9 ⟨rfl, hf⟩
  have HF9 := hid (HF8.out.trans hf)
  clear hf hc8 hgl8 HF8
  go_wp2_with fail
  refine (HU2.out _ Q (HS6.out.step HF9.out)).mono ?_
  rintro r w10 ⟨rfl, hf⟩
  have HS10 := hid ((HS6.out.step HF9.out).step hf)
  clear hf HF9
  go_wp2_with fail
  go_ret
  exact ⟨rfl, HS10.out.fr⟩
end Go.Proofs.YtgbkihkefdoddaaGreatDoor.St
end
