/- table: gather: a walk. -/
import Derived.Test.YtgbkihkefdoddaaGreatDoorJoin3
import Derived.Maps.AppendAt
import Derived.Deep.DeepMust
namespace Go.Proofs.YtgbkihkefdoddaaGreatDoor.R
open Go.RowKit

theorem xOf_eq {v : Value} (h : isV v) : v = (fun x : Rw => .agg #[.int .i64 x.v, .string x.k, .int .i64 x.s, .pointer x.p]) (vl v) := by
  obtain ⟨x, rfl⟩ := h
  rfl
/-- An entry. -/
abbrev En := ByteArray × Rw
def encE (e : En) : List Value := [.string e.1, .int .i64 e.2.v, .string e.2.k, .int .i64 e.2.s, .pointer e.2.p]
def ec : List En → List Value
  | [] => []
  | e :: L => .string e.1 :: .int .i64 e.2.v :: .string e.2.k :: .int .i64 e.2.s :: .pointer e.2.p :: ec L
theorem ec_append (a b : List En) : ec (a ++ b) = ec a ++ ec b := by
  induction a with
  | nil => rfl
  | cons x a ih => simp [ec, ih]
theorem ec_length (L : List En) : (ec L).length = L.length * 5 := by
  induction L with
  | nil => rfl
  | cons x L ih => simp only [ec, List.length_cons, ih]; omega
/-- The taken places' entries. -/
def ents (r : List Pl) : List En := (r.filter (fun p => p.st == 1)).map (fun p => (p.key, vl p.val))
theorem ents_take (r : List Pl) (i : Nat) (hi : i < r.length) : ents (r.take (i + 1)) = ents (r.take i) ++ (if (at' r i).st = 1 then [((at' r i).key, vl (at' r i).val)] else []) := by
  rw [List.take_add_one, List.getElem?_eq_getElem hi]
  unfold ents
  rw [at_get hi]
  simp only [Option.toList_some, List.filter_append, List.map_append]
  congr 1
  by_cases h : r[i].st = 1
  · simp [h]
  · simp [h]
theorem ents_length (r : List Pl) : (ents r).length = cnt r := by
  unfold ents cnt
  rw [List.length_map, List.countP_eq_length_filter]

theorem Tryz.info_entry : (Tryz.prog.info? 193).map (fun i => (i.zero, i.size, i.bytes)) = some (some (.agg #[.string ⟨#[]⟩, .int .i64 0, .string ⟨#[]⟩, .int .i64 0, .pointer none]), 5, 56) := by kernel_rfl
theorem five_new (w : World) (a b c d f : Value) (e : TypeId) : ∀ (j : Nat) (u : Value), [a, b, c, d, f][j]? = some u → (w.alloc (.cells #[a, b, c, d, f] e)).cell? ((⟨w.heap.size, 0, none⟩ : Addr).add j) = some u := by
  intro j u hj
  match j, hj with
  | 0, hj => simp at hj; subst hj; simp [Addr.add]
  | 1, hj => simp at hj; subst hj; simp [Addr.add]
  | 2, hj => simp at hj; subst hj; simp [Addr.add]
  | 3, hj => simp at hj; subst hj; simp [Addr.add]
  | 4, hj => simp at hj; subst hj; simp [Addr.add]
  | j + 5, hj => simp at hj

set_option maxHeartbeats 1000000 in
set_option maxRecDepth 100000 in
theorem gather_any {base : Nat} {r : List Pl} {rv v : Value} {b : Option Nat} {xs : List En} (w : World) (h : Ro w r rv b) (hV : Vok r) (hr : r.length ≤ 1099511627776) (hx : xs.length ≤ 1099511627776) (ho : w.ownsRow base 193 5 v xs.length (ec xs)) (hbase : base ≤ w.heap.size) :
    Calls Tryz.prog 138 #[rv, v] w fun e w' => ∃ v', e = .returned v' ∧ w'.ownsRow base 193 5 v' (xs ++ ents r).length (ec (xs ++ ents r)) ∧ Fr w w' (fun k => v.ownBlock = some k) ∧ Nw w v v' ∧ (v ≠ .slice none 0 0 → v' ≠ .slice none 0 0) := by
  obtain ⟨i0, hi0, hz0, hz1, hz2⟩ := info_parts Tryz.info_entry
  obtain ⟨ao, cap, rfl⟩ := h.shape
  have HRo := hid h
  have HO0 : Hid (w.ownsRow base 193 5 v (xs ++ ents (r.take 0)).length (ec (xs ++ ents (r.take 0)))) := by
    show w.ownsRow _ _ _ _ _ _
    simpa [ents] using ho
  have HoV := hid ho
  clear h ho
  go_enter Tryz.func138, Tryz.ntmps138
  go_wp2_with fail
  go_loopg [1, 9] r.length (fun gk s1 s9 wx => ∃ i : Nat, s9 = .int .i64 (i : Int) ∧ i + gk = r.length ∧ Hid (wx.ownsRow base 193 5 s1 (xs ++ ents (r.take i)).length (ec (xs ++ ents (r.take i)))) ∧ Hid (Fr w wx (fun k => v.ownBlock = some k)) ∧ Hid (Nw w v s1) ∧ Hid (v ≠ .slice none 0 0 → s1 ≠ .slice none 0 0))
  case atStart => exact ⟨0, rfl, by omega, HO0, Fr.refl _ _, Nw.refl _ _, fun h => h⟩
  case round =>
    obtain ⟨i, rfl, hg, HO, HF, HNw, HNn⟩ := hrel
    clear HO0
    cases gk with
    | zero =>
      have t1 : ¬ (i : Int) < (r.length : Int) := by omega
      have HE := hid (show i = r.length by omega)
      clear hg
      go_wp2_with fail
      go_ret
      have h1 := HO.out
      rw [HE.out, List.take_length, List.length_append] at h1
      exact ⟨u1, rfl, h1, HF.out, HNw.out, HNn.out⟩
    | succ f =>
      have hi : i < r.length := by omega
      have t0 : (0 : Int) ≤ (i : Int) := by omega
      have t1 : (i : Int) < (r.length : Int) := by omega
      have HG := hid hg
      have HI := hid hi
      have HT := hid (ents_take r i hi)
      clear hg
      cases b with
      | none => have := HRo.out.1; rw [this] at hi; simp at hi
      | some g =>
        obtain ⟨cap', rest, e1, hR, hne⟩ := HRo.out
        simp only [Value.slice.injEq] at e1
        obtain ⟨rfl, _, rfl⟩ := e1
        have hRw : RowG 195 wr g r rest := hR.fr HF.out (own_ne HoV.out hR (by decide))
        have hgl := hRw.lt
        obtain ⟨⟨x, hxv⟩, hks⟩ := hV i hi
        obtain ⟨c0, c1, c2, c3, c4, c5⟩ := hRw.cellx i hi hxv
        by_cases h1 : (at' r i).st = 1
        · have HT2 : Hid (ents (r.take (i + 1)) = ents (r.take i) ++ [((at' r i).key, x)]) := by
            have := HT.out
            rw [if_pos h1, hxv, vl_x] at this
            exact this
          rw [h1] at c0
          have hel : (ents (r.take i)).length ≤ r.length := by
            rw [ents_length]
            refine Nat.le_trans (cnt_le _) ?_
            rw [List.length_take]
            omega
          have hxl : (xs ++ ents (r.take i)).length ≤ 2199023255552 := by rw [List.length_append]; omega
          generalize (at' r i).key = key at *
          generalize hyy : xs ++ ents (r.take i) = ys at *
          have HY := hid hyy
          clear hyy
          have HHs := hid HF.out.size
          clear hR hRw hxv h1 hel hks hne
          go_wp2_with (at_builtin; go_must (refine wpList_append_own_at _ rfl (.tmp 16) (.tmp 19) 197 rfl base 193 i0 _ 5 56 Tryz.underlying197 hi0 hz0 hz1 hz2 rfl (by decide) _ _ _ rfl (own_fr (own_fr HO.out (alloc_fr wr _ (fun _ => False)) (fun _ _ h => h)) (alloc_fr _ _ (fun _ => False)) (fun _ _ h => h)) ⟨wr.heap.size + 1, 0, none⟩ 1 1 [.string key, .int .i64 x.v, .string x.k, .int .i64 x.s, .pointer x.p] rfl rfl ?q1 ?q2 ?q3 ?q4 ?q5 ?_))
          case q1 =>
            have := five_new (wr.alloc (.cells #[.int .u8 1, .string key, .int .i64 x.v, .string x.k, .int .i64 x.s, .pointer x.p] 195)) (.string key) (.int .i64 x.v) (.string x.k) (.int .i64 x.s) (.pointer x.p) 193
            simpa using this
          case q2 => intro u hu; simp at hu; rcases hu with rfl | rfl | rfl | rfl | rfl <;> rfl
          case q3 => unfold maxLen; omega
          case q4 => omega
          case q5 => have := HHs.out; simp; omega
          intro v' w' hown' hgrow hnil hat
          have HN3 : Hid (v ≠ .slice none 0 0 → v' ≠ .slice none 0 0) := fun _ e => by first | exact hnil e | (have := (hnil.1 e).2; omega)
          have HO2 := hid hown'
          have HF2 := hid ((((HF.out.alloc (.cells #[.int .u8 1, .string key, .int .i64 x.v, .string x.k, .int .i64 x.s, .pointer x.p] 195)).alloc (.cells #[.string key, .int .i64 x.v, .string x.k, .int .i64 x.s, .pointer x.p] 193)).grown hgrow (fun k hk e => HNw.out.lt e hk)))
          have HN2 : Hid (Nw w v v') := by
            have h5 : Nw wr u1 v' := Nw.of hat (by omega)
            exact HNw.out.trans h5 HHs.out
          clear hown' hgrow hat hnil
          go_wp2_with fail
          go_roundg f
          case measure => omega
          case rel =>
            refine ⟨i + 1, by go_num, by have := HG.out; omega, ?_, HF2, HN2, HN3⟩
            show World.ownsRow _ _ _ _ _ _ _
            rw [HT2.out, ← List.append_assoc, HY.out, ec_append, List.length_append]
            exact HO2.out
        · have HT2 : Hid (ents (r.take (i + 1)) = ents (r.take i)) := by
            have := HT.out
            rw [if_neg h1, List.append_nil] at this
            exact this
          have t2 : (((at' r i).st : Int) == 1) = false := by simp; omega
          generalize (at' r i).key = key at *
          generalize (at' r i).st = st at *
          clear hR hRw hxv h1 hks hne
          go_wp2_with fail
          go_roundg f
          case measure => omega
          case rel => exact ⟨i + 1, by go_num, by have := HG.out; omega, by rw [HT2.out]; exact own_fr HO.out (alloc_fr wr _ (fun _ => False)) (fun _ _ h => h), HF.out.alloc _, HNw, HNn⟩
end Go.Proofs.YtgbkihkefdoddaaGreatDoor.R
