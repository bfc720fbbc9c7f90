/- shard: count, keep: walks. -/
import Derived.Test.YtcjadgnefojjgabDoorSAt
namespace Go.Proofs.YtcjadgnefojjgabDoor.S
open Go.RowKit G

theorem set5 {w : World} {N : Nat} {a b c d f x y z : Value} {e : TypeId} (h : w.heap[N]? = some (.cells #[a, b, c, d, f] e (0, 0))) : (((w.setCell ⟨N, 2, none⟩ x).setCell ⟨N, 3, none⟩ y).setCell ⟨N, 4, none⟩ z).heap[N]? = some (.cells #[a, b, x, y, z] e (0, 0)) := by
  have h1 := heap_setCell_same w N 2 _ _ x h
  have h2 := heap_setCell_same _ N 3 _ _ y h1
  exact heap_setCell_same _ N 4 _ _ z h2

set_option maxHeartbeats 1000000 in
theorem count_any {S : Nat} {p : Value} (sl a b m x y z : Int) (w : World) (h : w.heap[S]? = some (.cells #[p, .int .i64 sl, .int .i64 a, .int .i64 b, .int .i64 m] 53 (0, 0))) (hx : fits (a + x)) (hy : fits (b + y)) :
    Calls Tryd.prog 21 #[.pointer (some ⟨S, 1, none⟩), .int .i64 x, .int .i64 y, .int .i64 z] w fun e w' => e = .returned (.tuple #[]) ∧ w'.heap[S]? = some (.cells #[p, .int .i64 sl, .int .i64 (a + x), .int .i64 (b + y), .int .i64 (max m z)] 53 (0, 0)) ∧ Fr w w' (fun k => k = S) := by
  obtain ⟨⟨c0, c1, c2, c3, c4⟩, hfz⟩ := cells5 h
  have hl := lt_of_block h
  have HH := hid h
  have e1 := wrap_fit hx
  have e2 := wrap_fit hy
  clear h
  go_enter Tryd.func21, Tryd.ntmps21
  go_wp2_with fail
  go_end0
  refine ⟨rfl, ?_, ?_⟩
  · exact set5 HH.out
  · exact (((Fr.refl w (fun k => k = S)).setCell (p := ⟨S, 2, none⟩) (fun _ => rfl) _).setCell (p := ⟨S, 3, none⟩) (fun _ => rfl) _).setCell (p := ⟨S, 4, none⟩) (fun _ => rfl) _

set_option maxHeartbeats 4000000 in
set_option maxRecDepth 100000 in
theorem keep_any {B gr : Nat} {ge : Option Nat} {T : Tb} (c : Cl) (b : Nat) (w : World) (hT : R.TbAt w B gr ge T) (hI : Inv T) (hlen : 2 * T.row.length ≤ 1099511627776) (hg : Gl w) (hc : mayE c = 0) :
    Calls Tryd.prog 20 #[.agg #[.pointer (some ⟨B, 0, none⟩)], rwV c b] w fun e w' => e = .returned (.tuple #[]) ∧ (∃ gr' ge', R.TbAt w' B gr' ge' (putT zR T (key c) (rwV c b)) ∧ R.Nb w B gr ge gr' ge') ∧ Fr w w' (R.bl B gr ge) := by
  have HTx := hid (fun (W : World) (hf : Fr w W (fun _ => False)) => text_any c W hc (hg.fr hf (fun h => h)))
  have HPt := hid (fun (W : World) (hf : Fr w W (fun _ => False)) => R.put_any (key c) ⟨c.v, c.k, c.s, some ⟨b, 0, none⟩⟩ W (hT.step hf) hI (key_size hc) hlen)
  have HNb := hid (fun k hk => hT.bl_lt (b := k) hk)
  unfold rwV
  rw [show zR = .agg #[.int .i64 0, .string ⟨#[]⟩, .int .i64 0, .pointer none] from rfl]
  dsimp only at HPt
  generalize key c = kk at *
  obtain ⟨v, k, s⟩ := c
  dsimp only at *
  clear hT hI hlen hg hc
  go_enter Tryd.func20, Tryd.ntmps20
  go_wp2_with fail
  have HB0 : Hid (((w.alloc (.cells #[.pointer (some ⟨B, 0, none⟩)] 48)).alloc (.cells #[.int .i64 v, .string k, .int .i64 s, .pointer (some ⟨b, 0, none⟩)] 60)).heap[w.heap.size]? = some (.cells #[.pointer (some ⟨B, 0, none⟩)] 48 (0, 0)) ∧ RwAt ((w.alloc (.cells #[.pointer (some ⟨B, 0, none⟩)] 48)).alloc (.cells #[.int .i64 v, .string k, .int .i64 s, .pointer (some ⟨b, 0, none⟩)] 60)) (w.heap.size + 1) ⟨v, k, s, some ⟨b, 0, none⟩⟩) := by
    refine ⟨?_, ?_⟩
    · rw [Below.heap_alloc _ _ _ (by simp)]; exact heap_last _ _ _ rfl
    · exact heap_last _ _ _ (by simp)
  have HFa := hid ((alloc_fr w (.cells #[.pointer (some ⟨B, 0, none⟩)] 48) (fun _ => False)).alloc (.cells #[.int .i64 v, .string k, .int .i64 s, .pointer (some ⟨b, 0, none⟩)] 60))
  generalize (w.alloc (.cells #[.pointer (some ⟨B, 0, none⟩)] 48)).alloc (.cells #[.int .i64 v, .string k, .int .i64 s, .pointer (some ⟨b, 0, none⟩)] 60) = wa at *
  have hsa : w.heap.size + 1 < wa.heap.size := lt_of_block HB0.out.2
  have HK := hid (fun (W' : World) (hf : Fr wa W' (R.bl B gr ge)) => (show W'.cell? ⟨w.heap.size, 0, none⟩ = some (.pointer (some ⟨B, 0, none⟩)) ∧ W'.cell? ⟨w.heap.size + 1, 0, none⟩ = some (.int .i64 v) ∧ W'.cell? ⟨w.heap.size + 1, 1, none⟩ = some (.string k) ∧ W'.cell? ⟨w.heap.size + 1, 2, none⟩ = some (.int .i64 s) ∧ W'.cell? ⟨w.heap.size + 1, 3, none⟩ = some (.pointer (some ⟨b, 0, none⟩)) from
    ⟨cell_of_one ((hf.block _ (lt_of_block HB0.out.1) (fun h => by have := HNb.out _ h; omega)).trans HB0.out.1), (HB0.out.2.fr hf (fun h => by have := HNb.out _ h; omega)).cells.1⟩))
  have HF := hid (Fr.refl wa (fun _ => False))
  have HFq := hid (Fr.refl wa (R.bl B gr ge))
  go_region_held3 (fun W' => Hid (Fr wa W' (R.bl B gr ge)) ∧ W'.cell? ⟨w.heap.size, 0, none⟩ = some (.pointer (some ⟨B, 0, none⟩)) ∧ W'.cell? ⟨w.heap.size + 1, 0, none⟩ = some (.int .i64 v) ∧ W'.cell? ⟨w.heap.size + 1, 1, none⟩ = some (.string k) ∧ W'.cell? ⟨w.heap.size + 1, 2, none⟩ = some (.int .i64 s) ∧ W'.cell? ⟨w.heap.size + 1, 3, none⟩ = some (.pointer (some ⟨b, 0, none⟩)))
    ((refine (fun h => ⟨h, HK.out _ h⟩ : Fr wa _ (R.bl B gr ge) → _) ?_; repeat (first | with_reducible exact HFq.out | with_reducible exact Fr.refl _ _ | with_reducible apply Fr.drew)))
    ((first
      | (go_at_call 33; refine (HTx.out _ (HFa.out.trans (by repeat (first | with_reducible exact HF.out | with_reducible exact Fr.refl _ _ | with_reducible apply Fr.drew | with_reducible apply Fr.alloc)))).mono ?_; rintro e w1 ⟨rfl, hf⟩; have HF := hid (Fr.trans (a := wa) (by repeat (first | with_reducible exact HF.out | with_reducible exact Fr.refl _ _ | with_reducible apply Fr.drew | with_reducible apply Fr.alloc)) hf); have HFq := hid (HF.out.mono (T := R.bl B gr ge) (fun _ _ h => h.elim)); clear hf)
      | (go_at_call 39; refine (HPt.out _ (HFa.out.trans (by repeat (first | with_reducible exact HF.out | with_reducible exact Fr.refl _ _ | with_reducible apply Fr.drew | with_reducible apply Fr.alloc)))).mono ?_; rintro e w2 ⟨rfl, hT2, hf⟩; have HFq := hid (Fr.trans (a := wa) (HF.out.mono (T := R.bl B gr ge) (fun _ _ h => h.elim)) (Fr.trans (by repeat (first | with_reducible exact Fr.refl _ _ | with_reducible apply Fr.drew)) hf)); obtain ⟨g1, g2, ht1, ht2⟩ := hT2; have HT2 := hid (And.intro ht1 (show R.Nb w B gr ge g1 g2 from fun q hq => (ht2 q hq).imp id (fun h => Nat.le_trans (HFa.out.trans HF.out).size h))); clear hf ht1 ht2)))
  all_goals (go_wp2_with fail)
  all_goals go_end0
  all_goals exact ⟨rfl, ⟨g1, g2, HT2.out⟩, (HFa.out.mono (fun _ _ h => h.elim)).trans HFq.out⟩
end Go.Proofs.YtcjadgnefojjgabDoor.S
