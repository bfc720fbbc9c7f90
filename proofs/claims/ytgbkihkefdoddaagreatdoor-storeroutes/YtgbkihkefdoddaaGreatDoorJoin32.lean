/- The document's store: New, Route; StoreRoutes: walks. -/
import Derived.Test.YtgbkihkefdoddaaGreatDoorJoin30
namespace Go.Proofs.YtgbkihkefdoddaaGreatDoor.St
open Go.RowKit G S

set_option maxRecDepth 100000 in
theorem refHash_any (k : ByteArray) (w : World) (hk : k.size ≤ 9223372036854775807) : Calls Tryz.prog 61 #[.string k] w fun e w' => e = .returned (.int .u64 (hashL k : Int)) ∧ w' = w := by
  go_enter Tryz.func61, Tryz.ntmps61
  go_wp2_with fail
  go_loopg [3, 4] k.size (fun g s3 s4 wx => ∃ i : Nat, s3 = .int .u64 (hashN k i : Int) ∧ s4 = .int .i64 (i : Int) ∧ i + g = k.size ∧ wx = w)
  case atStart => exact ⟨0, rfl, rfl, by omega, rfl⟩
  case round =>
    obtain ⟨i, rfl, rfl, hg, rfl⟩ := hrel
    cases gk with
    | zero =>
      have t1 : ¬ (i : Int) < (k.size : Int) := by omega
      have HE := hid (show i = k.size by omega)
      clear hg
      go_wp2_with fail
      go_ret
      exact ⟨by rw [HE.out]; rfl, rfl⟩
    | succ g =>
      have t1 : (i : Int) < (k.size : Int) := by omega
      have t0 : (0 : Int) ≤ (i : Int) := by omega
      have HG := hid hg
      have hi : i < k.size := by omega
      have HI := hid hi
      clear hg
      go_wp2_with fail
      go_roundg g
      case measure => omega
      case rel =>
        refine ⟨i + 1, ?_, by go_num, by have := HG.out; omega, rfl⟩
        rw [← hashN_step k i]
        have e1 : (k[i]'HI.out).toNat = (k.data.getD i 0).toNat := by
          have h2 : i < k.data.size := HI.out
          simp only [Array.getD_eq_getD_getElem?, Array.getElem?_eq_getElem h2]
          rfl
        have e2 : ((k.data.getD i 0).toNat : Int) < 256 := by have := UInt8.toNat_lt (k.data.getD i 0); omega
        rw [e1, show IntKind.u64.wrap (((k.data.getD i 0).toNat : Nat) : Int) = (((k.data.getD i 0).toNat : Nat) : Int) from by rw [IntKind.wrap_u64]; omega]


/-- The document's store, as far as its length goes. -/
def Rn (W : World) (Q n : Nat) : Prop := n ≤ 16 ∧ ∃ ao cap, W.heap[Q]? = some (.cells #[.slice ao n cap] 81 (0, 0))
theorem Rn.step {W W' : World} {Q n : Nat} (h : Rn W Q n) (hf : Fr W W' (fun _ => False)) : Rn W' Q n := by
  obtain ⟨h1, ao, cap, h2⟩ := h
  exact ⟨h1, ao, cap, (hf.block Q (lt_of_block h2) (fun h => h)).trans h2⟩
set_option maxHeartbeats 2000000 in
set_option maxRecDepth 100000 in
theorem rroute {W : World} {Q : Nat} {n0 : Nat} (k : ByteArray) (h1 : Rn W Q n0) (hpos : 0 < n0) (hk : k.size ≤ 9223372036854775807) :
    Calls Tryz.prog 16 #[.pointer (some ⟨Q, 0, none⟩), .string k] W fun e w' => e = .returned (.int .i64 (rt n0 k : Int)) ∧ Fr W w' (fun _ => False) := by
  obtain ⟨hlen, ao, cap, hcell⟩ := h1
  have c0 := cell_of_one hcell
  have hlt := lt_of_block hcell
  clear hcell
  have HH := hid (fun W' => refHash_any k W' hk)
  obtain ⟨k1, k2, k3⟩ := rt_run n0 (hashL k) hpos hlen
  unfold rt
  have HW : Hid (IntKind.i64.wrap ((hashL k : Int) % (n0 : Int)) = ((hashL k % n0 : Nat) : Int)) := by
    have := Nat.mod_lt (hashL k) hpos
    exact wrap_fit (show fits (((hashL k % n0 : Nat) : Int)) from by unfold fits; omega)
  generalize hashL k % n0 = r at *
  generalize hashL k = h0 at *
  have HC := hid (fun (W' : World) (hf : Fr W W' (fun _ => False)) => (show W'.cell? ⟨Q, 0, none⟩ = some (.slice ao n0 cap) from by rw [(fr_rules hf).1 _ _ hlt]; exact c0))
  have HF := hid (Fr.refl W (fun _ => False))
  go_enter Tryz.func16, Tryz.ntmps16
  go_wp2_with fail
  go_region_held (fun W' => Hid (Fr W W' (fun _ => False)) ∧ W'.cell? ⟨Q, 0, none⟩ = some (.slice ao n0 cap))
    ((refine (fun h => ⟨h, HC.out _ h⟩ : Fr W _ (fun _ => False) → _) ?_; repeat (first | with_reducible exact HF.out | with_reducible exact Fr.refl _ _ | with_reducible apply Fr.drew)))
    ((go_at_call 61; refine (HH.out _).mono ?_; rintro e w1 ⟨rfl, rfl⟩))
  go_wp2_with fail
  go_ret
  exact ⟨congrArg (fun x => Ending.returned (.int .i64 x)) HW.out, by repeat (first | with_reducible exact HF.out | with_reducible exact Fr.refl _ _ | with_reducible apply Fr.drew)⟩

/-- What the document's shard's New answers. -/
def NewR7 (w w' : World) (slots : Int) (r : Ending) : Prop := Fr w w' (fun _ => False) ∧ if slots < 2 ∨ 1048576 < slots then r = .returned (.tuple #[.pointer none, .int .i64 1]) else ∃ S, r = .returned (.tuple #[.pointer (some ⟨S, 0, none⟩), .int .i64 0])
theorem rnew7 (slots : Int) (w : World) : Calls Tryz.prog 44 #[.int .i64 slots] w fun r w' => NewR7 w w' slots r := by
  by_cases h1 : slots < 2
  · go_enter Tryz.func44, Tryz.ntmps44
    go_wp2_with fail
    go_ret2
    refine ⟨Fr.refl _ _, ?_⟩
    rw [if_pos (by omega)]
    rfl
  by_cases h2 : 1048576 < slots
  · go_enter Tryz.func44, Tryz.ntmps44
    go_wp2_with fail
    go_ret2
    refine ⟨Fr.refl _ _, ?_⟩
    rw [if_pos (by omega)]
    rfl
  go_enter Tryz.func44, Tryz.ntmps44
  go_wp2_with fail
  go_ret2
  refine ⟨alloc_fr _ _ _, ?_⟩
  rw [if_neg (by omega)]
  exact ⟨_, rfl⟩
theorem Tryz.info_pr : (Tryz.prog.info? 82).map (fun i => (i.zero, i.size, i.bytes)) = some (some (.pointer none), 1, 8) := by kernel_rfl
/-- What the document's New answers. -/
def RNew (w' : World) (shards slots : Int) (r : Ending) : Prop := if shards < 1 ∨ 16 < shards ∨ slots < 2 ∨ 1048576 < slots then r = .returned (.tuple #[.pointer none, .int .i64 1]) else ∃ Q, r = .returned (.tuple #[.pointer (some ⟨Q, 0, none⟩), .int .i64 0]) ∧ Rn w' Q shards.toNat

set_option maxHeartbeats 2000000 in
set_option maxRecDepth 100000 in
theorem rnew (shards slots : Int) (W : World) :
    Calls Tryz.prog 11 #[.int .i64 shards, .int .i64 slots] W fun r w' => RNew w' shards slots r ∧ Fr W w' (fun _ => False) := by
  obtain ⟨i0, hi0, hz0, hz1, hz2⟩ := info_parts Tryz.info_pr
  by_cases hs1 : shards < 1
  · go_enter Tryz.func11, Tryz.ntmps11
    go_wp2_with fail
    go_ret2
    refine ⟨?_, Fr.refl _ _⟩
    unfold RNew
    rw [if_pos (Or.inl hs1)]
    rfl
  by_cases hs2 : 16 < shards
  · go_enter Tryz.func11, Tryz.ntmps11
    go_wp2_with fail
    go_ret2
    refine ⟨?_, Fr.refl _ _⟩
    unfold RNew
    rw [if_pos (Or.inr (Or.inl hs2))]
    rfl
  have HNw := hid (fun (W' : World) => rnew7 slots W')
  by_cases hsl : slots < 2 ∨ 1048576 < slots
  · have HSl := hid hsl
    clear hsl
    go_enter Tryz.func11, Tryz.ntmps11
    go_wp2_with fail
    go_loopg [7] 1 (fun gk s7 wx => s7 = .int .i64 0 ∧ gk = 1 ∧ Hid (Fr W wx (fun _ => False)))
    case atStart => exact ⟨rfl, rfl, alloc_fr _ _ _⟩
    case round =>
      obtain ⟨rfl, rfl, HF⟩ := hrel
      have t1 : (0 : Int) < shards := by omega
      go_wp2_with fail
      refine (HNw.out _).mono ?_
      rintro r w1 ⟨hf, hr⟩
      rw [if_pos HSl.out] at hr
      subst hr
      have HF1 := hid (HF.out.trans hf)
      clear hf
      go_wp2_with fail
      go_ret2
      refine ⟨?_, HF1.out⟩
      unfold RNew
      rw [if_pos (Or.inr (Or.inr HSl.out))]
      rfl
  · have HSl := hid hsl
    clear hsl
    obtain ⟨n, rfl⟩ : ∃ n : Nat, shards = (n : Int) := ⟨shards.toNat, by omega⟩
    have hn1 : 1 ≤ n := by omega
    have hn2 : n ≤ 16 := by omega
    clear hs1 hs2
    go_enter Tryz.func11, Tryz.ntmps11
    go_wp2_with fail
    go_loopg [7] n (fun gk s7 wx => ∃ (i : Nat) (v : Value) (xs : List Value), s7 = .int .i64 (i : Int) ∧ i + gk = n ∧ Hid (wx.heap[W.heap.size]? = some (.cells #[v] 81 (0, 0))) ∧ Hid (wx.ownsRow W.heap.size 82 1 v i xs) ∧ Hid (Fr W wx (fun _ => False)))
    case atStart => exact ⟨0, _, [], rfl, by omega, heap_last _ _ _ rfl, ⟨rfl, Or.inl ⟨rfl, rfl⟩⟩, alloc_fr _ _ _⟩
    case round =>
      obtain ⟨i, v, xs, rfl, hgk, HC, HO, HF⟩ := hrel
      obtain ⟨ao, cap, rfl⟩ := own_nil_shape HO.out
      cases gk with
      | zero =>
        have t1 : ¬ (i : Int) < (n : Int) := by omega
        have HE := hid (show i = n by omega)
        clear hgk
        go_wp2_with fail
        go_ret2
        refine ⟨?_, HF.out⟩
        unfold RNew
        rw [if_neg (by have := HSl.out; omega)]
        refine ⟨_, rfl, by omega, ao, cap, ?_⟩
        have := HC.out
        rw [HE.out] at this
        exact this
      | succ gk =>
        have hi : i < n := by omega
        have t1 : (i : Int) < (n : Int) := by omega
        have HG := hid hgk
        clear hgk
        go_wp2_with fail
        refine (HNw.out _).mono ?_
        rintro r w1 ⟨hf, hr⟩
        rw [if_neg HSl.out] at hr
        obtain ⟨S, rfl⟩ := hr
        have hC1 := (hf.block _ (lt_of_block HC.out) (fun h => h)).trans HC.out
        have HC1 := hid hC1
        have HF1 := hid (HF.out.trans hf)
        have HOw := hid (own_fr (own_fr HO.out hf (fun _ _ h => h)) (alloc_fr w1 (.cells #[.pointer (some ⟨S, 0, none⟩)] 82) (fun _ => False)) (fun _ _ h => h))
        have c0 := cell_of_one hC1
        have cl := lt_of_block hC1
        have hWs : W.heap.size ≤ w1.heap.size := HF1.out.size
        clear hf hC1
        go_wp2_with (at_builtin; go_must (refine wpList_append_own_at _ rfl (.tmp 35) (.tmp 37) 79 rfl W.heap.size 82 i0 _ 1 8 Tryz.underlying79 hi0 hz0 hz1 hz2 rfl (by decide) _ _ _ rfl HOw.out ⟨w1.heap.size, 0, none⟩ 1 1 [.pointer (some ⟨S, 0, none⟩)] rfl rfl ?q1 ?q2 ?q3 ?q4 ?q5 ?_))
        case q1 => exact cells_new w1 _ _
        case q2 => intro u hu; simp at hu; rw [hu]; rfl
        case q3 => unfold maxLen; omega
        case q4 => omega
        case q5 => simp; omega
        intro v' w2 hown2 hgrow2 hnil2 hat2
        have hQ2 : w2.heap[W.heap.size]? = some (.cells #[.slice ao i cap] 81 (0, 0)) := by
          have h5 := (Below.heap_alloc w1 (.cells #[.pointer (some ⟨S, 0, none⟩)] 82) _ cl).trans HC1.out
          rw [hgrow2.block _ (lt_of_block h5) (fun e => own_ne HOw.out h5 (by decide) e.symm)]
          exact h5
        obtain ⟨ao2, cap2, rfl⟩ := own_nil_shape hown2
        have hne : (Value.slice ao2 (i + 1) cap2).ownBlock ≠ some W.heap.size := own_ne hown2 hQ2 (by decide)
        have HC2 := hid (one_setCell (u := .slice ao2 (i + 1) cap2) hQ2)
        have HO2 := hid (ownsRow_setCell_other (a := ⟨W.heap.size, 0, none⟩) hown2 hne (.slice ao2 (i + 1) cap2))
        have HFw : Hid (Fr W (w2.setCell ⟨W.heap.size, 0, none⟩ (.slice ao2 (i + 1) cap2)) (fun _ => False)) := ((HF1.out.alloc _).grown hgrow2 (fun k hk e => by have := (HOw.out.lt k e).1; omega)).setCell (p := ⟨W.heap.size, 0, none⟩) (fun h => absurd h (Nat.lt_irrefl _)) _
        have y0 := cell_of_one hQ2
        have y1 := free_of_one hQ2
        have y2 := lt_of_block hQ2
        clear hown2 hgrow2 hnil2 hat2 hQ2 c0 cl HOw hne
        go_wp2_with fail
        go_roundg gk
        case measure => omega
        case rel => exact ⟨i + 1, _, _, by go_num, by have := HG.out; omega, HC2, HO2, HFw⟩

/-- Texts at a slice. -/
def KsAt (w : World) (v : Value) (ks : List ByteArray) : Prop := (∃ ao cap, v = .slice ao ks.length cap ∧ ks.length ≤ 9223372036854775807 ∧ (0 < ks.length → ∃ b o, ao = some ⟨b, o, none⟩ ∧ ∀ i, i < ks.length → w.cell? ⟨b, o + i, none⟩ = some (.string (ks.getD i ⟨#[]⟩)))) ∧ ∀ k ∈ ks, k.size ≤ 9223372036854775807

theorem rst_nil (W : World) (B : Nat) : (binOp .eql 28 (.pointer (some ⟨B, 0, none⟩)) (.pointer none)).run Tryz.prog W = .ok (.bool false) W := by kernel_rfl
theorem rst_ne (W : World) (B : Nat) : (binOp .neq 28 (.pointer (some ⟨B, 0, none⟩)) (.pointer none)).run Tryz.prog W = .ok (.bool true) W := by kernel_rfl
theorem rst_none (W : World) : (binOp .neq 28 (.pointer none) (.pointer none)).run Tryz.prog W = .ok (.bool false) W := by kernel_rfl
theorem rst_eq (W : World) : (binOp .eql 28 (.pointer none) (.pointer none)).run Tryz.prog W = .ok (.bool true) W := by kernel_rfl
theorem st_eq (W : World) : (binOp .eql 24 (.pointer none) (.pointer none)).run Tryz.prog W = .ok (.bool true) W := by kernel_rfl

set_option maxHeartbeats 4000000 in
set_option maxRecDepth 100000 in
theorem routes_walk (shards : Int) (ks : List ByteArray) (kv : Value) (w : World) (hg : Gl w) (hk : KsAt w kv ks) :
    Calls Tryz.prog 5 #[.int .i64 shards, kv] w fun r w' => r = .returned (.bool true) ∧ Fr w w' (fun _ => False) := by
  obtain ⟨⟨ao, cap, rfl, hkl, hkc⟩, hks⟩ := hk
  have HN := hid (snew shards 2 (Fr.refl w _) hg)
  have HR := hid (fun (W : World) => rnew shards 2 W)
  have HH := hid (fun (W : World) (hf : Fr w W (fun _ => False)) => head_any hf hg)
  have HKc := hid hkc
  have HKs := hid hks
  clear hg hkc hks
  have n1 := st_nil
  have n2 := rst_nil
  have n3 := rst_ne
  have n4 := rst_none
  have n5 := rst_eq
  have n6 := st_eq
  by_cases hbad : shards < 1 ∨ 16 < shards
  · go_enter Tryz.func5, Tryz.ntmps5
    go_wp2_with fail
    refine HN.out.mono ?_
    rintro r w1 ⟨hn, hf1⟩
    unfold NewSt at hn
    rw [if_pos (by omega)] at hn
    subst hn
    have HF1 := hid hf1
    clear hf1
    go_wp2_with fail
    refine (HR.out _).mono ?_
    rintro r w2 ⟨hn, hf2⟩
    unfold RNew at hn
    rw [if_pos (by omega)] at hn
    subst hn
    have HF2 := hid (HF1.out.trans hf2)
    clear hf2
    go_wp2_with fail
    go_loopg [9] 0 (fun gk s9 wx => s9 = .int .i64 0 ∧ wx = w2)
    case atStart => exact ⟨rfl, rfl⟩
    case round =>
      obtain ⟨rfl, rfl⟩ := hrel
      by_cases hk0 : (0 : Int) < (ks.length : Int)
      · go_wp2_with fail
        refine (HH.out _ HF2.out).mono ?_
        rintro r w3 ⟨rfl, hf3⟩
        have HF3 := hid (HF2.out.trans hf3)
        clear hf3
        go_wp2_with fail
        go_ret
        exact ⟨rfl, HF3.out⟩
      · go_wp2_with fail
        refine (HH.out _ HF2.out).mono ?_
        rintro r w3 ⟨rfl, hf3⟩
        have HF3 := hid (HF2.out.trans hf3)
        clear hf3
        go_wp2_with fail
        go_ret
        exact ⟨rfl, HF3.out⟩
  · go_enter Tryz.func5, Tryz.ntmps5
    go_wp2_with fail
    refine HN.out.mono ?_
    rintro r w1 ⟨hn, hf1⟩
    unfold NewSt at hn
    rw [if_neg (by omega)] at hn
    obtain ⟨Q, rfl, hS⟩ := hn
    have HS1 := hid hS
    have HF1 := hid hf1
    clear hf1 hS
    go_wp2_with fail
    refine (HR.out _).mono ?_
    rintro r w2 ⟨hn, hf2⟩
    unfold RNew at hn
    rw [if_neg (by omega)] at hn
    obtain ⟨Q2, rfl, hR2⟩ := hn
    have HR2 := hid hR2
    have HF2 := hid (HF1.out.trans hf2)
    have HS2 := hid (HS1.out.step hf2)
    clear hf2 hR2
    have hn0 : 0 < shards.toNat := by omega
    have HRt := hid (fun (W : World) (k : ByteArray) (hf : Fr w2 W (fun _ => False)) (hk : k.size ≤ 9223372036854775807) => route_any k (HS2.out.step hf) hk)
    have HRr := hid (fun (W : World) (k : ByteArray) (hf : Fr w2 W (fun _ => False)) (hk : k.size ≤ 9223372036854775807) => rroute k (HR2.out.step hf) hn0 hk)
    rw [List.length_replicate] at HRt
    go_wp2_with fail
    go_loopg [9] 100 (fun gk s9 wx => ∃ i : Nat, s9 = .int .i64 (i : Int) ∧ i + gk = 100 ∧ Hid (Fr w2 wx (fun _ => False)))
    case atStart => exact ⟨0, rfl, by omega, Fr.refl _ _⟩
    case round =>
      obtain ⟨i, rfl, hgk, HF⟩ := hrel
      have HFw := hid (HF2.out.trans HF.out)
      by_cases hk0 : (i : Int) < (ks.length : Int)
      · cases gk with
        | zero =>
          have t1 : ¬ (i : Int) < 100 := by omega
          clear hgk
          go_wp2_with fail
          refine (HH.out _ HFw.out).mono ?_
          rintro r w3 ⟨rfl, hf3⟩
          have HF3 := hid (HFw.out.trans hf3)
          clear hf3
          go_wp2_with fail
          go_ret
          exact ⟨rfl, HF3.out⟩
        | succ gk =>
          have t1 : (i : Int) < 100 := by omega
          have t0 : (0 : Int) ≤ (i : Int) := by omega
          have HG := hid hgk
          clear hgk
          obtain ⟨b, o, rfl, hc⟩ := HKc.out (by omega)
          have hci := hc i (by omega)
          have hbl := World.block_lt_of_cell? w _ hci
          dsimp only at hbl
          have hksz : (ks.getD i ⟨#[]⟩).size ≤ 9223372036854775807 := by
            apply HKs.out
            have : i < ks.length := by omega
            simp [List.getD, this]
          generalize ks.getD i ⟨#[]⟩ = k at *
          have HC := hid (fun (W : World) (hf : Fr w W (fun _ => False)) => (show W.cell? ⟨b, o + i, none⟩ = some (.string k) from by rw [(fr_rules hf).1 _ _ hbl]; exact hci))
          have hcr := HC.out _ HFw.out
          have hblr : b < wr.heap.size := Nat.lt_of_lt_of_le hbl HFw.out.size
          clear hc hci
          generalize rt shards.toNat k = q at *
          have HFr := hid (Fr.refl wr (fun _ => False))
          go_wp2_with fail
          go_region_held3 (fun W' => Hid (Fr wr W' (fun _ => False)) ∧ W'.cell? ⟨b, o + i, none⟩ = some (.string k))
            ((refine (fun h => ⟨h, HC.out _ (HFw.out.trans h)⟩ : Fr wr _ (fun _ => False) → _) ?_; repeat (first | with_reducible exact HFr.out | with_reducible exact Fr.refl _ _ | with_reducible apply Fr.drew)))
            ((first
              | (go_at_call 15; refine (HRt.out _ k (HF.out.trans (by repeat (first | with_reducible exact HFr.out | with_reducible exact Fr.refl _ _ | with_reducible apply Fr.drew))) hksz).mono ?_; rintro e w1 ⟨rfl, hf⟩; have HFr := hid (Fr.trans (a := wr) (by repeat (first | with_reducible exact HFr.out | with_reducible exact Fr.refl _ _ | with_reducible apply Fr.drew)) hf); clear hf)
              | (go_at_call 16; refine (HRr.out _ k (HF.out.trans (by repeat (first | with_reducible exact HFr.out | with_reducible exact Fr.refl _ _ | with_reducible apply Fr.drew))) hksz).mono ?_; rintro e w1 ⟨rfl, hf⟩; have HFr := hid (Fr.trans (a := wr) (by repeat (first | with_reducible exact HFr.out | with_reducible exact Fr.refl _ _ | with_reducible apply Fr.drew)) hf); clear hf)))
          go_wp2_with fail
          go_roundg gk
          case measure => omega
          case rel => exact ⟨i + 1, by go_num, by have := HG.out; omega, HF.out.trans (by repeat (first | with_reducible exact HFr.out | with_reducible exact Fr.refl _ _ | with_reducible apply Fr.drew))⟩
      · clear hgk
        go_wp2_with fail
        refine (HH.out _ HFw.out).mono ?_
        rintro r w3 ⟨rfl, hf3⟩
        have HF3 := hid (HFw.out.trans hf3)
        clear hf3
        go_wp2_with fail
        go_ret
        exact ⟨rfl, HF3.out⟩
end Go.Proofs.YtgbkihkefdoddaaGreatDoor.St
