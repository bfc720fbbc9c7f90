/- table: lay, give, mend of a row: walks. -/
import Derived.Test.YtcjadgnefojjgabDoorTRowR
namespace Go.Proofs.YtcjadgnefojjgabDoor.R
open Go.RowKit

theorem cells2 {w : World} {N : Nat} {a b : Value} {e : TypeId} (h : w.heap[N]? = some (.cells #[a, b] e (0, 0))) : w.cell? ⟨N, 0, none⟩ = some a ∧ w.cell? ⟨N, 1, none⟩ = some b := by
  refine ⟨?_, ?_⟩ <;> simp [World.cell?, h]

/-- Values of the table's type. -/
def isV (v : Value) : Prop := ∃ x : Rw, v = .agg #[.int .i64 x.v, .string x.k, .int .i64 x.s, .pointer x.p]
def okP (p : Pl) : Prop := isV p.val ∧ p.key.size ≤ 9223372036854775807
def Vok (r : List Pl) : Prop := ∀ i, i < r.length → okP (at' r i)
theorem Vok.set {r : List Pl} (h : Vok r) (i : Nat) (p : Pl) (hi : i < r.length) (hp : okP p) : Vok (r.set i p) := by
  intro j hj
  rw [at_set _ _ _ _ hi]
  split
  · exact hp
  · exact h j (by simpa using hj)
theorem isV_z : isV (.agg #[.int .i64 0, .string ⟨#[]⟩, .int .i64 0, .pointer none]) := ⟨rz, rfl⟩
theorem okP_z : okP (pz (.agg #[.int .i64 0, .string ⟨#[]⟩, .int .i64 0, .pointer none])) := ⟨isV_z, Nat.zero_le _⟩
theorem okP_g : okP (pg (.agg #[.int .i64 0, .string ⟨#[]⟩, .int .i64 0, .pointer none])) := ⟨isV_z, Nat.zero_le _⟩
theorem Vok.rep (n : Nat) : Vok (List.replicate n (pz (.agg #[.int .i64 0, .string ⟨#[]⟩, .int .i64 0, .pointer none]))) := by
  intro i hi
  rw [at_rep _ (by simpa using hi)]
  exact okP_z

set_option maxHeartbeats 1000000 in
set_option maxRecDepth 100000 in
theorem lay_any {g cap : Nat} {r : List Pl} {rest : List Value} (k : ByteArray) (x : Rw) (w : World) (hR : RowG 113 w g r rest) (hE : Emp r) (hk : k.size ≤ 9223372036854775807) (hb : r.length ≤ 1099511627776) :
    Calls Tryd.prog 50 #[.slice (some ⟨g, 0, none⟩) r.length cap, .agg #[.string k, .int .i64 x.v, .string x.k, .int .i64 x.s, .pointer x.p]] w fun e w' => e = .returned (.tuple #[]) ∧ RowG 113 w' g (layP r k (.agg #[.int .i64 x.v, .string x.k, .int .i64 x.s, .pointer x.p])) rest ∧ Fr w w' (fun b => b = g) := by
  have HR1 := hid (hR.fr (alloc_fr w (.cells #[.string k, .int .i64 x.v, .string x.k, .int .i64 x.s, .pointer x.p] 111) (fun _ => False)) (fun h => h))
  have HLk := hid (look_any (cap := cap) k _ HR1.out hE hk hb)
  have hl := (lookL_spec k hE).1
  have hgl := hR.lt
  unfold layP
  generalize (lookL r k).1 = i at *
  generalize (lookL r k).2 = there at *
  have hgn : w.heap.size ≠ g := by omega
  obtain ⟨c0, c1, c2, c3, c4, c5⟩ := hR.cells i hl
  have f0 := hR.free (i * 6)
  have f1 := hR.free (i * 6 + 1)
  have f2 := hR.free (i * 6 + 2)
  have f3 := hR.free (i * 6 + 3)
  have f4 := hR.free (i * 6 + 4)
  have f5 := hR.free (i * 6 + 5)
  have t0 : (0 : Int) ≤ (i : Int) := by omega
  have t1 : (i : Int) < (r.length : Int) := by omega
  have HL := hid hl
  have HR := hid hR
  clear hR
  go_enter Tryd.func50, Tryd.ntmps50
  go_wp2_with fail
  refine HLk.out.mono ?_
  rintro e w1 ⟨rfl, hw1⟩
  subst hw1
  go_wp2_with fail
  go_end0
  exact ⟨rfl, ((HR.out.set i HL.out 1 k x).fr (alloc_fr _ _ (fun _ => False)) (fun h => h)), (set6_fr w g (i * 6) 1 k x (Fr.refl w (fun b => b = g)) (fun _ => rfl)).alloc _⟩

set_option maxHeartbeats 1000000 in
set_option maxRecDepth 100000 in
theorem give_any {g cap : Nat} {r : List Pl} {rest : List Value} (i : Nat) (w : World) (hR : RowG 113 w g r rest) (hi : i < r.length) (hV : Vok r) (_hb : r.length ≤ 1099511627776) :
    Calls Tryd.prog 68 #[.slice (some ⟨g, 0, none⟩) r.length cap, .int .i64 (i : Int)] w fun e w' => e = .returned (.agg #[.string (at' r i).key, .int .i64 (vl (at' r i).val).v, .string (vl (at' r i).val).k, .int .i64 (vl (at' r i).val).s, .pointer (vl (at' r i).val).p]) ∧ RowG 113 w' g (r.set i (pg (.agg #[.int .i64 0, .string ⟨#[]⟩, .int .i64 0, .pointer none]))) rest ∧ Fr w w' (fun b => b = g) := by
  obtain ⟨⟨x, hx⟩, _⟩ := hV i hi
  obtain ⟨c0, c1, c2, c3, c4, c5⟩ := hR.cellx i hi hx
  have f0 := hR.free (i * 6)
  have f1 := hR.free (i * 6 + 1)
  have f2 := hR.free (i * 6 + 2)
  have f3 := hR.free (i * 6 + 3)
  have f4 := hR.free (i * 6 + 4)
  have f5 := hR.free (i * 6 + 5)
  rw [hx, vl_x]
  have hgl := hR.lt
  have HR := hid hR
  have HI := hid hi
  have t0 : (0 : Int) ≤ (i : Int) := by omega
  have t1 : (i : Int) < (r.length : Int) := by omega
  generalize (at' r i).key = k at *
  have hgn : w.heap.size ≠ g := by omega
  have hgn1 : w.heap.size + 1 ≠ g := by omega
  clear hV hR
  go_enter Tryd.func68, Tryd.ntmps68
  go_wp2_with fail
  refine bodyPost_ret (v := .agg #[.string k, .int .i64 x.v, .string x.k, .int .i64 x.s, .pointer x.p]) (by simp [results, Tryd.results68, go_sem]) rfl ⟨rfl, ?_⟩
  exact ⟨((HR.out.set i HI.out 2 none8 rz).fr ((alloc_fr _ _ (fun _ => False)).alloc _) (fun h => h)), ((set6_fr w g (i * 6) 2 none8 rz (Fr.refl w (fun b => b = g)) (fun _ => rfl)).alloc _).alloc _⟩

end Go.Proofs.YtcjadgnefojjgabDoor.R
