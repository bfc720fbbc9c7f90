/- oper: an operator in memory; isKey, Least, closed, check, areRight: walks. -/
import Derived.Test.YtbhhpkbiflolfaaVMap
import Derived.Test.YtbhhpkbiflolfaaVRow
import Derived.Deep.RegionHeld3
import Derived.Deep.DeepCutAuto
namespace Go.Proofs.Ytbhhpkbiflolfaa.V
open Go.RowKit Go.Maps
open M (Cl cmpC vC)

/-- Where an operator lies: itself, its map, its marks and their row, its views' row and room. -/
structure Ox where
  B : Nat
  mb : Nat
  Bm : Nat
  gm : Nat
  gv : Nat
  cap : Nat
/-- An operator's cells. -/
def oc (x : Ox) (n : Nat) : Array Value := #[.slice (some ⟨x.gv, 0, none⟩) n x.cap, .map (some x.mb), .func (.func 37) #[.pointer (some ⟨x.Bm, 0, none⟩)] #[], .func (.func 38) #[.pointer (some ⟨x.Bm, 0, none⟩)] #[], .func (.func 39) #[.pointer (some ⟨x.Bm, 0, none⟩)] #[]]
structure Op (w : World) (x : Ox) (vs : List Vw) (ms : List Int) (L : List Cl) : Prop where
  cell : w.heap[x.B]? = some (.cells (oc x vs.length) 87 (0, 0))
  row : ∃ rest, RowW w x.gv vs rest
  marks : Km w x.Bm x.gm ms
  map : Mc w x.mb L
  okv : okVs vs = true
  one : 1 ≤ vs.length
  four : vs.length ≤ 4
  ri : Ri L
  live : ∀ c ∈ L, OkK vs c ∧ shK vs (leastL ms) c = false
/-- An operator's shell: all but its map. -/
structure Os (w : World) (x : Ox) (vs : List Vw) (ms : List Int) : Prop where
  cell : w.heap[x.B]? = some (.cells (oc x vs.length) 87 (0, 0))
  row : ∃ rest, RowW w x.gv vs rest
  marks : Km w x.Bm x.gm ms
  okv : okVs vs = true
  one : 1 ≤ vs.length
  four : vs.length ≤ 4
theorem Op.os {w : World} {x : Ox} {vs : List Vw} {ms : List Int} {L : List Cl} (h : Op w x vs ms L) : Os w x vs ms := ⟨h.cell, h.row, h.marks, h.okv, h.one, h.four⟩
theorem Os.fr {w w' : World} {S : Nat → Prop} {x : Ox} {vs : List Vw} {ms : List Int} (h : Os w x vs ms) (hf : Fr w w' S) (hB : ¬ S x.B) (hBm : ¬ S x.Bm) (hgm : ¬ S x.gm) (hgv : ¬ S x.gv) : Os w' x vs ms := by
  obtain ⟨rest, hr⟩ := h.row
  exact ⟨by rw [hf.block _ (lt_of_block h.cell) hB]; exact h.cell, ⟨rest, hr.fr hf hgv⟩, h.marks.fr hf hBm hgm, h.okv, h.one, h.four⟩
theorem Os.step {w w' : World} {x : Ox} {vs : List Vw} {ms : List Int} (h : Os w x vs ms) (hf : Fr w w' (fun _ => False)) : Os w' x vs ms := h.fr hf (fun h => h) (fun h => h) (fun h => h) (fun h => h)
theorem Op.fr {w w' : World} {S : Nat → Prop} {x : Ox} {vs : List Vw} {ms : List Int} {L : List Cl} (h : Op w x vs ms L) (hf : Fr w w' S) (hB : ¬ S x.B) (hmb : ¬ S x.mb) (hBm : ¬ S x.Bm) (hgm : ¬ S x.gm) (hgv : ¬ S x.gv) : Op w' x vs ms L := by
  obtain ⟨rest, hr⟩ := h.row
  exact ⟨by rw [hf.block _ (lt_of_block h.cell) hB]; exact h.cell, ⟨rest, hr.fr hf hgv⟩, h.marks.fr hf hBm hgm, h.map.fr hf hmb, h.okv, h.one, h.four, h.ri, h.live⟩
theorem Op.step {w w' : World} {x : Ox} {vs : List Vw} {ms : List Int} {L : List Cl} (h : Op w x vs ms L) (hf : Fr w w' (fun _ => False)) : Op w' x vs ms L := h.fr hf (fun h => h) (fun h => h) (fun h => h) (fun h => h) (fun h => h)
theorem Op.drew {w : World} {x : Ox} {vs : List Vw} {ms : List Int} {L : List Cl} (h : Op w x vs ms L) : Op w.drew x vs ms L := h.step (Fr.refl _ _).drew
theorem Op.views {w : World} {x : Ox} {vs : List Vw} {ms : List Int} {L : List Cl} (h : Op w x vs ms L) : Vs w (.slice (some ⟨x.gv, 0, none⟩) vs.length x.cap) vs := by
  obtain ⟨rest, hr⟩ := h.row
  refine ⟨_, _, rfl, by have := h.four; omega, fun _ => ⟨x.gv, 0, rfl, fun i hi => ?_⟩⟩
  simpa using hr.get hi
theorem cells5 {w : World} {N : Nat} {a b c d e : Value} {t : TypeId} (h : w.heap[N]? = some (.cells #[a, b, c, d, e] t (0, 0))) : w.cell? ⟨N, 0, none⟩ = some a ∧ w.cell? ⟨N, 1, none⟩ = some b ∧ w.cell? ⟨N, 2, none⟩ = some c ∧ w.cell? ⟨N, 3, none⟩ = some d ∧ w.cell? ⟨N, 4, none⟩ = some e := by
  refine ⟨?_, ?_, ?_, ?_, ?_⟩ <;> simp [World.cell?, h]
theorem cells3 {w : World} {N : Nat} {a b c : Value} {e : TypeId} (h : w.heap[N]? = some (.cells #[a, b, c] e (0, 0))) : w.cell? ⟨N, 0, none⟩ = some a ∧ w.cell? ⟨N, 1, none⟩ = some b ∧ w.cell? ⟨N, 2, none⟩ = some c := by
  refine ⟨?_, ?_, ?_⟩ <;> simp [World.cell?, h]
theorem Os.cells {w : World} {x : Ox} {vs : List Vw} {ms : List Int} (h : Os w x vs ms) : (w.cell? ⟨x.B, 0, none⟩ = some (.slice (some ⟨x.gv, 0, none⟩) vs.length x.cap) ∧ w.cell? ⟨x.B, 1, none⟩ = some (.map (some x.mb)) ∧ w.cell? ⟨x.B, 2, none⟩ = some (.func (.func 37) #[.pointer (some ⟨x.Bm, 0, none⟩)] #[]) ∧ w.cell? ⟨x.B, 3, none⟩ = some (.func (.func 38) #[.pointer (some ⟨x.Bm, 0, none⟩)] #[]) ∧ w.cell? ⟨x.B, 4, none⟩ = some (.func (.func 39) #[.pointer (some ⟨x.Bm, 0, none⟩)] #[])) ∧ x.B < w.heap.size := ⟨cells5 h.cell, lt_of_block h.cell⟩

theorem Op.cells {w : World} {x : Ox} {vs : List Vw} {ms : List Int} {L : List Cl} (h : Op w x vs ms L) : (w.cell? ⟨x.B, 0, none⟩ = some (.slice (some ⟨x.gv, 0, none⟩) vs.length x.cap) ∧ w.cell? ⟨x.B, 1, none⟩ = some (.map (some x.mb)) ∧ w.cell? ⟨x.B, 2, none⟩ = some (.func (.func 37) #[.pointer (some ⟨x.Bm, 0, none⟩)] #[]) ∧ w.cell? ⟨x.B, 3, none⟩ = some (.func (.func 38) #[.pointer (some ⟨x.Bm, 0, none⟩)] #[]) ∧ w.cell? ⟨x.B, 4, none⟩ = some (.func (.func 39) #[.pointer (some ⟨x.Bm, 0, none⟩)] #[])) ∧ x.B < w.heap.size := h.os.cells
theorem isKey_any (k : ByteArray) (w : World) : Calls Try.prog 58 #[.string k] w fun e w' => e = .returned (.bool (keyB k)) ∧ w' = w := by
  by_cases h1 : 1 ≤ k.size
  · by_cases h2 : k.size ≤ 32
    · have hk : keyB k = true := decide_eq_true ⟨h1, h2⟩
      rw [hk]
      have t1 : (1 : Int) ≤ (k.size : Int) := by omega
      have t2 : (k.size : Int) ≤ 32 := by omega
      go_enter Try.func58, Try.ntmps58
      go_wp2_with fail
      go_ret
      exact ⟨rfl, rfl⟩
    · have hk : keyB k = false := decide_eq_false (fun h => h2 h.2)
      rw [hk]
      have t1 : (1 : Int) ≤ (k.size : Int) := by omega
      have t2 : ¬ (k.size : Int) ≤ 32 := by omega
      go_enter Try.func58, Try.ntmps58
      go_wp2_with fail
      go_ret
      exact ⟨rfl, rfl⟩
  · have hk : keyB k = false := decide_eq_false (fun h => h1 h.1)
    rw [hk]
    have t1 : ¬ (1 : Int) ≤ (k.size : Int) := by omega
    go_enter Try.func58, Try.ntmps58
    go_wp2_with fail
    go_ret
    exact ⟨rfl, rfl⟩
theorem oleast_any {w : World} {x : Ox} {vs : List Vw} {ms : List Int} {L : List Cl} (h : Op w x vs ms L) : Calls Try.prog 17 #[.pointer (some ⟨x.B, 0, none⟩)] w fun e w' => e = .returned (.int .i64 (leastL ms)) ∧ Fr w w' (fun _ => False) := by
  obtain ⟨⟨c0, c1, c2, c3, c4⟩, hlt⟩ := h.cells
  have HL := hid (least_any h.marks)
  clear h c0 c1 c2 c3
  generalize leastL ms = m at *
  go_enter Try.func17, Try.ntmps17
  go_wp2_with fail
  refine HL.out.mono ?_
  rintro e w1 ⟨rfl, hf⟩
  have HF := hid hf
  clear hf
  go_wp2_with fail
  go_ret
  exact ⟨rfl, HF.out⟩

theorem okK_fits {vs : List Vw} {c : Cl} (hv : okVs vs = true) (h0 : 0 ≤ c.v) (h1 : c.v < (vs.length : Int)) (s1 : -2305843009213693952 ≤ c.s) (s2 : c.s ≤ 2305843009213693952) : fits (c.s + (vs.getD c.v.toNat vw0).s) ∧ fits (c.s + (vs.getD c.v.toNat vw0).s + (vs.getD c.v.toNat vw0).l) := by
  have ho := okVs_at hv (show c.v.toNat < vs.length by omega)
  have := ho.s1
  have := ho.s2
  have := ho.l1
  have := ho.l2
  unfold fits
  refine ⟨?_, ?_⟩ <;> omega

set_option maxHeartbeats 1000000 in
theorem oclosed_s {w : World} {x : Ox} {vs : List Vw} {ms : List Int} (h : Os w x vs ms) {c : Cl} (h0 : 0 ≤ c.v) (h1 : c.v < (vs.length : Int)) (s1 : -2305843009213693952 ≤ c.s) (s2 : c.s ≤ 2305843009213693952) :
    Calls Try.prog 59 #[.pointer (some ⟨x.B, 0, none⟩), vC c] w fun e w' => e = .returned (.bool (shK vs (leastL ms) c)) ∧ Fr w w' (fun _ => False) := by
  obtain ⟨hf1, hf2⟩ := okK_fits h.okv h0 h1 s1 s2
  have HSC : Hid (shK vs (leastL ms) c = decide (c.s + (vs.getD c.v.toNat vw0).s + (vs.getD c.v.toNat vw0).l ≤ leastL ms)) := rfl
  have HCLO := hid (fun W : World => closed_any (vs.getD c.v.toNat vw0).s (vs.getD c.v.toNat vw0).d (vs.getD c.v.toNat vw0).l c.s (leastL ms) hf1 hf2 W)
  rw [← HSC.out] at HCLO
  clear HSC hf1 hf2
  generalize shK vs (leastL ms) c = sh at *
  obtain ⟨cv, ck, cs⟩ := c
  simp only at *
  obtain ⟨n, rfl⟩ : ∃ n : Nat, cv = (n : Int) := ⟨cv.toNat, by omega⟩
  rw [Int.toNat_natCast] at HCLO
  have hn : n < vs.length := by omega
  obtain ⟨rest, hrow⟩ := h.row
  have HH : Hid (∀ W : World, Fr w W (fun _ => False) → (W.cell? ⟨x.B, 0, none⟩ = some (.slice (some ⟨x.gv, 0, none⟩) vs.length x.cap) ∧ W.cell? ⟨x.B, 4, none⟩ = some (.func (.func 39) #[.pointer (some ⟨x.Bm, 0, none⟩)] #[]) ∧ x.B < W.heap.size ∧ W.cell? ⟨x.gv, n * 3, none⟩ = some (.int .i64 (vs.getD n vw0).s) ∧ W.cell? ⟨x.gv, n * 3 + 1, none⟩ = some (.int .i64 (vs.getD n vw0).d) ∧ W.cell? ⟨x.gv, n * 3 + 2, none⟩ = some (.int .i64 (vs.getD n vw0).l) ∧ x.gv < W.heap.size)) := fun W hW => by
    have h' := h.step hW
    obtain ⟨⟨c0, c1, c2, c3, c4⟩, hlt⟩ := h'.cells
    obtain ⟨r0, r1, r2⟩ := (hrow.fr hW (fun h => h)).get hn
    exact ⟨c0, c4, hlt, r0, r1, r2, (hrow.fr hW (fun h => h)).lt⟩
  have HL : Hid (∀ W : World, Fr w W (fun _ => False) → Calls Try.prog 39 #[.pointer (some ⟨x.Bm, 0, none⟩)] W fun e w' => e = .returned (.int .i64 (leastL ms)) ∧ Fr W w' (fun _ => False)) := fun W hW => least_any (h.step hW).marks
  clear h hrow
  generalize leastL ms = m at *
  generalize (vs.getD n vw0).s = vs0 at *
  generalize (vs.getD n vw0).d = vd0 at *
  generalize (vs.getD n vw0).l = vl0 at *
  unfold vC
  go_enter Try.func59, Try.ntmps59
  go_wp2_with fail
  have HB : Hid ((w.alloc (.cells #[.int .i64 (n : Int), .string ck, .int .i64 cs] 64)).heap[w.heap.size]? = some (.cells #[.int .i64 (n : Int), .string ck, .int .i64 cs] 64 (0, 0))) := heap_last _ _ _ rfl
  have HF : Hid (Fr w (w.alloc (.cells #[.int .i64 (n : Int), .string ck, .int .i64 cs] 64)) (fun _ => False)) := alloc_fr _ _ _
  generalize (w.alloc (.cells #[.int .i64 (n : Int), .string ck, .int .i64 cs] 64)) = w2 at *
  generalize w.heap.size = N at *
  have HNC : Hid (∀ W : World, Fr w2 W (fun _ => False) → W.cell? ⟨N, 0, none⟩ = some (.int .i64 (n : Int)) ∧ W.cell? ⟨N, 2, none⟩ = some (.int .i64 cs) ∧ N < W.heap.size) := fun W hW => by
    have hb : W.heap[N]? = some (.cells #[.int .i64 (n : Int), .string ck, .int .i64 cs] 64 (0, 0)) := by rw [hW.block N (lt_of_block HB.out) (fun h => h)]; exact HB.out
    exact ⟨(cells3 hb).1, (cells3 hb).2.2, lt_of_block hb⟩
  have HS := hid (Fr.refl w2 (fun _ => False))
  go_region_held3 (fun W' => Hid (Fr w2 W' (fun _ => False)) ∧ (W'.cell? ⟨N, 0, none⟩ = some (.int .i64 (n : Int)) ∧ W'.cell? ⟨N, 2, none⟩ = some (.int .i64 cs) ∧ N < W'.heap.size) ∧ (W'.cell? ⟨x.B, 0, none⟩ = some (.slice (some ⟨x.gv, 0, none⟩) vs.length x.cap) ∧ W'.cell? ⟨x.B, 4, none⟩ = some (.func (.func 39) #[.pointer (some ⟨x.Bm, 0, none⟩)] #[]) ∧ x.B < W'.heap.size ∧ W'.cell? ⟨x.gv, n * 3, none⟩ = some (.int .i64 vs0) ∧ W'.cell? ⟨x.gv, n * 3 + 1, none⟩ = some (.int .i64 vd0) ∧ W'.cell? ⟨x.gv, n * 3 + 2, none⟩ = some (.int .i64 vl0) ∧ x.gv < W'.heap.size))
    ((refine (fun hh => ⟨hh, HNC.out _ hh, HH.out _ (HF.out.trans hh)⟩ : Fr w2 _ (fun _ => False) → _) ?_; first | exact HS.out | exact HS.out.drew | exact HS.out.drew.drew))
    ((first
      | (go_at_call 25; refine (HCLO.out _).mono ?_; rintro e w9 ⟨rfl, hf9⟩; have HS9 := hid ((by first | exact HS.out | exact HS.out.drew : Fr w2 _ (fun _ => False)).trans hf9); clear hf9 HS; have HS := HS9; clear HS9)
      | ((with_reducible refine (HL.out _ (HF.out.trans (by first | exact HS.out | exact HS.out.drew))).mono ?_); rintro e w9 ⟨rfl, hf9⟩; have HS9 := hid ((by first | exact HS.out | exact HS.out.drew : Fr w2 _ (fun _ => False)).trans hf9); clear hf9 HS; have HS := HS9; clear HS9)))
  go_wp2_with fail
  go_ret
  exact ⟨rfl, HF.out.trans (by first | exact HS.out | exact HS.out.drew)⟩
theorem oclosed_any {w : World} {x : Ox} {vs : List Vw} {ms : List Int} {L : List Cl} (h : Op w x vs ms L) {c : Cl} (h0 : 0 ≤ c.v) (h1 : c.v < (vs.length : Int)) (s1 : -2305843009213693952 ≤ c.s) (s2 : c.s ≤ 2305843009213693952) :
    Calls Try.prog 59 #[.pointer (some ⟨x.B, 0, none⟩), vC c] w fun e w' => e = .returned (.bool (shK vs (leastL ms) c)) ∧ Fr w w' (fun _ => False) := oclosed_s h.os h0 h1 s1 s2
end Go.Proofs.Ytbhhpkbiflolfaa.V
