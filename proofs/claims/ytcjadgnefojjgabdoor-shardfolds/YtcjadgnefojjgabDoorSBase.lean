/- A shard in memory: its block, its table, its chains, apart from each other. -/
import Derived.Test.YtcjadgnefojjgabDoorSPure2
import Derived.Test.YtcjadgnefojjgabDoorSTxt2
import Derived.Test.YtcjadgnefojjgabDoorTTab5R
import Derived.Test.YtcjadgnefojjgabDoorCPutG
import Derived.Test.YtcjadgnefojjgabDoorCAtG
import Derived.Test.YtcjadgnefojjgabDoorARightK
namespace Go.Proofs.YtcjadgnefojjgabDoor.S
open Go.RowKit G

/-- The value of a row: a cell, and where its chain lies. -/
def rwV (c : Cl) (b : Nat) : Value := .agg #[.int .i64 c.v, .string c.k, .int .i64 c.s, .pointer (some ⟨b, 0, none⟩)]
def zR : Value := .agg #[.int .i64 0, .string ⟨#[]⟩, .int .i64 0, .pointer none]
/-- Which kind of block lies there. -/
def Kd (w : World) (b : Nat) (t : TypeId) : Prop := ∃ cs, w.heap[b]? = some (.cells cs t (0, 0))
theorem Kd.ne {w : World} {b b' : Nat} {t t' : TypeId} (h : Kd w b t) (h' : Kd w b' t') (ht : t ≠ t') : b ≠ b' := by
  rintro rfl
  obtain ⟨cs, h⟩ := h
  obtain ⟨cs', h'⟩ := h'
  rw [h] at h'
  simp only [Option.some.injEq, Obj.cells.injEq] at h'
  exact ht h'.2.1
theorem Kd.lt {w : World} {b : Nat} {t : TypeId} (h : Kd w b t) : b < w.heap.size := by
  obtain ⟨cs, h⟩ := h
  exact lt_of_block h
theorem ch_kd {w : World} {base B : Nat} {v : Value} {L : List Vn} (h : Ch w base B v L) : Kd w B 91 ∧ ∀ k, v.ownBlock = some k → Kd w k 87 := by
  refine ⟨⟨_, h.cell⟩, fun k hk => ?_⟩
  rcases h.own.2 with ⟨rfl, _⟩ | ⟨g, cap, cur, rfl, _, hg, _⟩
  · simp [Value.ownBlock] at hk
  · have : g = k := by simpa [Value.ownBlock] using hk
    subst this
    exact ⟨_, hg⟩
theorem tb_kd {w : World} {B gr : Nat} {ge : Option Nat} {T : Tb} (h : R.TbAt w B gr ge T) : Kd w B 97 ∧ Kd w gr 113 ∧ ∀ k, ge = some k → Kd w k 113 := by
  obtain ⟨rv, ev, hc, hr, he⟩ := h.ex
  refine ⟨⟨_, hc⟩, ?_, fun k hk => ?_⟩
  · obtain ⟨cap, rest, _, hR, _⟩ := hr
    exact ⟨_, hR⟩
  · rw [hk] at he
    obtain ⟨cap, rest, _, hR, _⟩ := he
    exact ⟨_, hR⟩

/-- A shard's blocks. -/
def own (S B gr : Nat) (ge : Option Nat) (M : List Ent) (b : Nat) : Prop := b = S ∨ R.bl B gr ge b ∨ ∃ e ∈ M, b = e.b ∨ e.cv.ownBlock = some b
structure ShI (w : World) (base S slots B gr : Nat) (ge : Option Nat) (T : Tb) (M : List Ent) : Prop where
  cell : w.heap[S]? = some (.cells #[.pointer (some ⟨B, 0, none⟩), .int .i64 (slots : Int), .int .i64 (nV (M.map pr) : Int), .int .i64 (nT (M.map pr) : Int), .int .i64 (mxV (M.map pr) : Int)] 53 (0, 0))
  tb : R.TbAt w B gr ge T
  inv : Inv T
  has : ∀ k v, Has T k v ↔ ∃ e ∈ M, k = key e.c ∧ v = rwV e.c e.b
  ch : ∀ e ∈ M, Ch w base e.b e.cv e.L
  ne : ∀ e ∈ M, e.L ≠ []
  may : ∀ e ∈ M, mayE e.c = 0
  apart : M.Pairwise apr
  lo : ∀ b, own S B gr ge M b → base ≤ b
  gl : Gl w
  gb : gM < base
  room : nU (M.map pr) ≤ slots
  sl : slots ≤ 1048576
  keys : T.keys = M.length
  tlen : T.row.length ≤ 4194320
theorem ShI.lt {w : World} {base S slots B gr : Nat} {ge : Option Nat} {T : Tb} {M : List Ent} (h : ShI w base S slots B gr ge T M) : ∀ b, own S B gr ge M b → b < w.heap.size := by
  rintro b (rfl | hb | ⟨e, he, hb⟩)
  · exact lt_of_block h.cell
  · exact h.tb.bl_lt hb
  · rcases hb with rfl | hb
    · exact (h.ch e he).lt
    · exact ((ch_kd (h.ch e he)).2 b hb).lt
theorem ShI.fr {w w' : World} {P : Nat → Prop} {base S slots B gr : Nat} {ge : Option Nat} {T : Tb} {M : List Ent} (h : ShI w base S slots B gr ge T M) (hf : Fr w w' P) (hP : ∀ b, own S B gr ge M b → ¬ P b) (hg : ¬ P gM) : ShI w' base S slots B gr ge T M :=
  { cell := (hf.block S (lt_of_block h.cell) (hP S (Or.inl rfl))).trans h.cell
    tb := h.tb.fr hf (fun b hb => hP b (Or.inr (Or.inl hb)))
    inv := h.inv, has := h.has
    ch := fun e he => (h.ch e he).fr hf (hP _ (Or.inr (Or.inr ⟨e, he, Or.inl rfl⟩))) (fun _ hk => hP _ (Or.inr (Or.inr ⟨e, he, Or.inr hk⟩)))
    ne := h.ne, may := h.may, apart := h.apart, lo := h.lo, gl := h.gl.fr hf hg, gb := h.gb, room := h.room, sl := h.sl, keys := h.keys, tlen := h.tlen }
theorem ShI.step {w w' : World} {base S slots B gr : Nat} {ge : Option Nat} {T : Tb} {M : List Ent} (h : ShI w base S slots B gr ge T M) (hf : Fr w w' (fun _ => False)) : ShI w' base S slots B gr ge T M := h.fr hf (fun _ _ h => h) (fun h => h)
/-- A shard at a block, its own blocks, what it has. -/
def Sh (w : World) (base S slots : Nat) (X : Nat → Prop) (V : Vw) : Prop := ∃ B gr ge T M, ShI w base S slots B gr ge T M ∧ M.map pr = V ∧ X = own S B gr ge M
theorem Sh.fr {w w' : World} {P : Nat → Prop} {base S slots : Nat} {X : Nat → Prop} {V : Vw} (h : Sh w base S slots X V) (hf : Fr w w' P) (hP : ∀ b, X b → ¬ P b) (hg : ¬ P gM) : Sh w' base S slots X V := by
  obtain ⟨B, gr, ge, T, M, h1, h2, rfl⟩ := h
  exact ⟨B, gr, ge, T, M, h1.fr hf hP hg, h2, rfl⟩
theorem Sh.step {w w' : World} {base S slots : Nat} {X : Nat → Prop} {V : Vw} (h : Sh w base S slots X V) (hf : Fr w w' (fun _ => False)) : Sh w' base S slots X V := h.fr hf (fun _ _ h => h) (fun h => h)
theorem Sh.lt {w : World} {base S slots : Nat} {X : Nat → Prop} {V : Vw} (h : Sh w base S slots X V) : ∀ b, X b → b < w.heap.size := by
  obtain ⟨B, gr, ge, T, M, h1, h2, rfl⟩ := h
  exact h1.lt
theorem Sh.lo {w : World} {base S slots : Nat} {X : Nat → Prop} {V : Vw} (h : Sh w base S slots X V) : ∀ b, X b → base ≤ b := by
  obtain ⟨B, gr, ge, T, M, h1, h2, rfl⟩ := h
  exact h1.lo
theorem Sh.nblk {w : World} {base S slots : Nat} {X : Nat → Prop} {V : Vw} (h : Sh w base S slots X V) : ¬ X gM := fun hx => by
  have h1 := h.lo gM hx
  obtain ⟨B, gr, ge, T, M, h2, _, _⟩ := h
  have := h2.gb
  omega
theorem Sh.room {w : World} {base S slots : Nat} {X : Nat → Prop} {V : Vw} (h : Sh w base S slots X V) : nU V ≤ slots ∧ slots ≤ 1048576 := by
  obtain ⟨B, gr, ge, T, M, h1, rfl, rfl⟩ := h
  exact ⟨h1.room, h1.sl⟩

theorem cells5 {w : World} {N : Nat} {a b c d f : Value} {e : TypeId} (h : w.heap[N]? = some (.cells #[a, b, c, d, f] e (0, 0))) : (w.cell? ⟨N, 0, none⟩ = some a ∧ w.cell? ⟨N, 1, none⟩ = some b ∧ w.cell? ⟨N, 2, none⟩ = some c ∧ w.cell? ⟨N, 3, none⟩ = some d ∧ w.cell? ⟨N, 4, none⟩ = some f) ∧ ∀ o, w.frozen? ⟨N, o, none⟩ = false := by
  refine ⟨⟨?_, ?_, ?_, ?_, ?_⟩, fun o => ?_⟩ <;> simp [World.cell?, World.frozen?, h]

set_option maxHeartbeats 1000000 in
theorem units_any {base S slots : Nat} {X : Nat → Prop} {V : Vw} (w : World) (h : Sh w base S slots X V) :
    Calls Tryd.prog 36 #[.pointer (some ⟨S, 1, none⟩)] w fun e w' => e = .returned (.int .i64 (nU V : Int)) ∧ Fr w w' (fun _ => False) := by
  have hr := h.room
  obtain ⟨B, gr, ge, T, M, h1, rfl, rfl⟩ := h
  obtain ⟨⟨c0, c1, c2, c3, c4⟩, _⟩ := cells5 h1.cell
  have hl := lt_of_block h1.cell
  have HU : Hid ((nU (M.map pr) : Int) = (nV (M.map pr) : Int) + (nT (M.map pr) : Int)) := by show _ = _; unfold nU; omega
  unfold nU at hr
  clear h1
  generalize nV (M.map pr) = a at *
  generalize nT (M.map pr) = b at *
  go_enter Tryd.func36, Tryd.ntmps36
  go_wp2_with fail
  go_quiet (fail)
  go_wp2_with fail
  go_ret
  exact ⟨congrArg (fun x => Ending.returned (.int .i64 x)) HU.out.symm, by repeat (first | exact Fr.refl _ _ | apply Fr.drewN | apply Fr.drew)⟩
theorem unitsS_any {base S slots : Nat} {X : Nat → Prop} {V : Vw} (w : World) (h : Sh w base S slots X V) :
    Calls Tryd.prog 26 #[.pointer (some ⟨S, 0, none⟩)] w fun e w' => e = .returned (.int .i64 (nU V : Int)) ∧ Fr w w' (fun _ => False) := by
  have HU := hid (units_any w h)
  go_enter Tryd.func26, Tryd.ntmps26
  go_wp2_with fail
  refine HU.out.mono ?_
  rintro e w1 ⟨rfl, hf⟩
  have HF := hid hf
  clear hf
  go_wp2_with fail
  go_ret
  exact ⟨rfl, HF.out⟩
theorem cellsS_any {base S slots : Nat} {X : Nat → Prop} {V : Vw} (w : World) (h : Sh w base S slots X V) :
    Calls Tryd.prog 27 #[.pointer (some ⟨S, 0, none⟩)] w fun e w' => e = .returned (.int .i64 (nT V : Int)) ∧ w' = w := by
  obtain ⟨B, gr, ge, T, M, h1, rfl, rfl⟩ := h
  obtain ⟨⟨c0, c1, c2, c3, c4⟩, _⟩ := cells5 h1.cell
  have hl := lt_of_block h1.cell
  clear h1
  generalize nT (M.map pr) = b at *
  go_enter Tryd.func27, Tryd.ntmps27
  go_wp2_with fail
  go_ret
  exact ⟨rfl, rfl⟩
theorem mostS_any {base S slots : Nat} {X : Nat → Prop} {V : Vw} (w : World) (h : Sh w base S slots X V) :
    Calls Tryd.prog 28 #[.pointer (some ⟨S, 0, none⟩)] w fun e w' => e = .returned (.int .i64 (mxV V : Int)) ∧ w' = w := by
  obtain ⟨B, gr, ge, T, M, h1, rfl, rfl⟩ := h
  obtain ⟨⟨c0, c1, c2, c3, c4⟩, _⟩ := cells5 h1.cell
  have hl := lt_of_block h1.cell
  clear h1
  generalize mxV (M.map pr) = b at *
  go_enter Tryd.func28, Tryd.ntmps28
  go_wp2_with fail
  go_ret
  exact ⟨rfl, rfl⟩

set_option maxHeartbeats 1000000 in
theorem fits_any {base S slots : Nat} {X : Nat → Prop} {V : Vw} (n : Nat) (hn : n ≤ 10000000) (w : World) (h : Sh w base S slots X V) :
    Calls Tryd.prog 18 #[.pointer (some ⟨S, 1, none⟩), .int .i64 (n : Int)] w fun e w' => e = .returned (.bool (decide (nU V + n ≤ slots))) ∧ Fr w w' (fun _ => False) := by
  have hr := h.room
  have HSh := hid h
  have HU := hid (fun (W : World) (hf : Fr w W (fun _ => False)) => units_any W (h.step hf))
  have HC := hid (fun (W : World) (hf : Fr w W (fun _ => False)) => (show W.cell? ⟨S, 1, none⟩ = some (.int .i64 (slots : Int)) ∧ S < W.heap.size from by
    obtain ⟨B, gr, ge, T, M, h1, _, _⟩ := h.step hf
    exact ⟨(cells5 h1.cell).1.2.1, lt_of_block h1.cell⟩))
  have HD : Hid (decide (nU V + n ≤ slots) = decide ((nU V : Int) + (n : Int) ≤ (slots : Int))) := by
    show _ = _
    congr 1
    apply propext
    omega
  rw [HD.out]
  obtain ⟨c1, hl⟩ := HC.out w (Fr.refl _ _)
  have HF := hid (Fr.refl w (fun _ => False))
  clear h
  generalize nU V = u at *
  go_enter Tryd.func18, Tryd.ntmps18
  go_wp2_with fail
  go_region_held3 (fun W' => Hid (Fr w W' (fun _ => False)) ∧ W'.cell? ⟨S, 1, none⟩ = some (.int .i64 (slots : Int)))
    ((refine (fun h => ⟨h, (HC.out _ h).1⟩ : Fr w _ (fun _ => False) → _) ?_; repeat (first | with_reducible exact HF.out | with_reducible exact Fr.refl _ _ | with_reducible apply Fr.drew)))
    ((go_at_call 36; refine (HU.out _ (by repeat (first | with_reducible exact HF.out | with_reducible exact Fr.refl _ _ | with_reducible apply Fr.drew))).mono ?_; rintro e w1 ⟨rfl, hf⟩; have HF := hid (Fr.trans (a := w) (by repeat (first | with_reducible exact HF.out | with_reducible exact Fr.refl _ _ | with_reducible apply Fr.drew)) hf); clear hf))
  go_wp2_with fail
  rw [wrap_fit (show fits ((u : Int) + (n : Int)) from by unfold fits; omega)]
  go_ret
  exact ⟨rfl, by repeat (first | with_reducible exact HF.out | with_reducible apply Fr.drew)⟩
end Go.Proofs.YtcjadgnefojjgabDoor.S
