/- Texts of one proof, joined. -/
import Derived.Test.YtgbkihkefdoddaaGreatDoorJoin16
import Derived.Test.YtgbkihkefdoddaaGreatDoorJoin15
import Derived.Test.YtgbkihkefdoddaaGreatDoorJoin3
import Derived.Test.YtgbkihkefdoddaaGreatDoorJoin10
import Derived.Test.YtgbkihkefdoddaaGreatDoorJoin12
import Derived.Test.YtgbkihkefdoddaaGreatDoorJoin19
section
/- A shard in memory: its block, its table, its chains, apart from each other. -/
namespace Go.Proofs.YtgbkihkefdoddaaGreatDoor.S
open Go.RowKit G

/-- The value of a row: a cell, and where its chain lies. -/
def rwV (c : Cl) (b : Nat) : Value := .agg #[.int .i64 c.v, .string c.k, .int .i64 c.s, .pointer (some ⟨b, 0, none⟩)]
def zR : Value := .agg #[.int .i64 0, .string ⟨#[]⟩, .int .i64 0, .pointer none]
/-- Which kind of block lies there. -/
def Kd (w : World) (b : Nat) (t : TypeId) : Prop := ∃ cs, w.heap[b]? = some (.cells cs t (0, 0))
theorem Kd.ne {w : World} {b b' : Nat} {t t' : TypeId} (h : Kd w b t) (h' : Kd w b' t') (ht : t ≠ t') : b ≠ b' := by
  rintro rfl
  obtain ⟨cs, h⟩ := h
  obtain ⟨cs', h'⟩ := h'
  rw [h] at h'
  simp only [Option.some.injEq, Obj.cells.injEq] at h'
  exact ht h'.2.1
theorem Kd.lt {w : World} {b : Nat} {t : TypeId} (h : Kd w b t) : b < w.heap.size := by
  obtain ⟨cs, h⟩ := h
  exact lt_of_block h
theorem ch_kd {w : World} {base B : Nat} {v : Value} {L : List Vn} (h : Ch w base B v L) : Kd w B 147 ∧ ∀ k, v.ownBlock = some k → Kd w k 143 := by
  refine ⟨⟨_, h.cell⟩, fun k hk => ?_⟩
  rcases h.own.2 with ⟨rfl, _⟩ | ⟨g, cap, cur, rfl, _, hg, _⟩
  · simp [Value.ownBlock] at hk
  · have : g = k := by simpa [Value.ownBlock] using hk
    subst this
    exact ⟨_, hg⟩
theorem tb_kd {w : World} {B gr : Nat} {ge : Option Nat} {T : Tb} (h : R.TbAt w B gr ge T) : Kd w B 188 ∧ Kd w gr 195 ∧ ∀ k, ge = some k → Kd w k 195 := by
  obtain ⟨rv, ev, hc, hr, he⟩ := h.ex
  refine ⟨⟨_, hc⟩, ?_, fun k hk => ?_⟩
  · obtain ⟨cap, rest, _, hR, _⟩ := hr
    exact ⟨_, hR⟩
  · rw [hk] at he
    obtain ⟨cap, rest, _, hR, _⟩ := he
    exact ⟨_, hR⟩

/-- A shard's blocks. -/
def own (S B gr : Nat) (ge : Option Nat) (M : List Ent) (b : Nat) : Prop := b = S ∨ R.bl B gr ge b ∨ ∃ e ∈ M, b = e.b ∨ e.cv.ownBlock = some b
structure ShI (w : World) (base S slots B gr : Nat) (ge : Option Nat) (T : Tb) (M : List Ent) : Prop where
  cell : w.heap[S]? = some (.cells #[.pointer (some ⟨B, 0, none⟩), .int .i64 (slots : Int), .int .i64 (nV (M.map pr) : Int), .int .i64 (nT (M.map pr) : Int), .int .i64 (mxV (M.map pr) : Int)] 101 (0, 0))
  tb : R.TbAt w B gr ge T
  inv : Inv T
  has : ∀ k v, Has T k v ↔ ∃ e ∈ M, k = key e.c ∧ v = rwV e.c e.b
  ch : ∀ e ∈ M, Ch w base e.b e.cv e.L
  ne : ∀ e ∈ M, e.L ≠ []
  may : ∀ e ∈ M, mayE e.c = 0
  apart : M.Pairwise apr
  lo : ∀ b, own S B gr ge M b → base ≤ b
  gl : Gl w
  gb : gM < base
  room : nU (M.map pr) ≤ slots
  sl : slots ≤ 1048576
  keys : T.keys = M.length
  tlen : T.row.length ≤ 4194320
theorem ShI.lt {w : World} {base S slots B gr : Nat} {ge : Option Nat} {T : Tb} {M : List Ent} (h : ShI w base S slots B gr ge T M) : ∀ b, own S B gr ge M b → b < w.heap.size := by
  rintro b (rfl | hb | ⟨e, he, hb⟩)
  · exact lt_of_block h.cell
  · exact h.tb.bl_lt hb
  · rcases hb with rfl | hb
    · exact (h.ch e he).lt
    · exact ((ch_kd (h.ch e he)).2 b hb).lt
theorem ShI.fr {w w' : World} {P : Nat → Prop} {base S slots B gr : Nat} {ge : Option Nat} {T : Tb} {M : List Ent} (h : ShI w base S slots B gr ge T M) (hf : Fr w w' P) (hP : ∀ b, own S B gr ge M b → ¬ P b) (hg : ¬ P gM) : ShI w' base S slots B gr ge T M :=
  { cell := (hf.block S (lt_of_block h.cell) (hP S (Or.inl rfl))).trans h.cell
    tb := h.tb.fr hf (fun b hb => hP b (Or.inr (Or.inl hb)))
    inv := h.inv, has := h.has
    ch := fun e he => (h.ch e he).fr hf (hP _ (Or.inr (Or.inr ⟨e, he, Or.inl rfl⟩))) (fun _ hk => hP _ (Or.inr (Or.inr ⟨e, he, Or.inr hk⟩)))
    ne := h.ne, may := h.may, apart := h.apart, lo := h.lo, gl := h.gl.fr hf hg, gb := h.gb, room := h.room, sl := h.sl, keys := h.keys, tlen := h.tlen }
theorem ShI.step {w w' : World} {base S slots B gr : Nat} {ge : Option Nat} {T : Tb} {M : List Ent} (h : ShI w base S slots B gr ge T M) (hf : Fr w w' (fun _ => False)) : ShI w' base S slots B gr ge T M := h.fr hf (fun _ _ h => h) (fun h => h)
/-- A shard at a block, its own blocks, what it has. -/
def Sh (w : World) (base S slots : Nat) (X : Nat → Prop) (V : Vw) : Prop := ∃ B gr ge T M, ShI w base S slots B gr ge T M ∧ M.map pr = V ∧ X = own S B gr ge M
theorem Sh.fr {w w' : World} {P : Nat → Prop} {base S slots : Nat} {X : Nat → Prop} {V : Vw} (h : Sh w base S slots X V) (hf : Fr w w' P) (hP : ∀ b, X b → ¬ P b) (hg : ¬ P gM) : Sh w' base S slots X V := by
  obtain ⟨B, gr, ge, T, M, h1, h2, rfl⟩ := h
  exact ⟨B, gr, ge, T, M, h1.fr hf hP hg, h2, rfl⟩
theorem Sh.step {w w' : World} {base S slots : Nat} {X : Nat → Prop} {V : Vw} (h : Sh w base S slots X V) (hf : Fr w w' (fun _ => False)) : Sh w' base S slots X V := h.fr hf (fun _ _ h => h) (fun h => h)
theorem Sh.lt {w : World} {base S slots : Nat} {X : Nat → Prop} {V : Vw} (h : Sh w base S slots X V) : ∀ b, X b → b < w.heap.size := by
  obtain ⟨B, gr, ge, T, M, h1, h2, rfl⟩ := h
  exact h1.lt
theorem Sh.lo {w : World} {base S slots : Nat} {X : Nat → Prop} {V : Vw} (h : Sh w base S slots X V) : ∀ b, X b → base ≤ b := by
  obtain ⟨B, gr, ge, T, M, h1, h2, rfl⟩ := h
  exact h1.lo
theorem Sh.nblk {w : World} {base S slots : Nat} {X : Nat → Prop} {V : Vw} (h : Sh w base S slots X V) : ¬ X gM := fun hx => by
  have h1 := h.lo gM hx
  obtain ⟨B, gr, ge, T, M, h2, _, _⟩ := h
  have := h2.gb
  omega
theorem Sh.room {w : World} {base S slots : Nat} {X : Nat → Prop} {V : Vw} (h : Sh w base S slots X V) : nU V ≤ slots ∧ slots ≤ 1048576 := by
  obtain ⟨B, gr, ge, T, M, h1, rfl, rfl⟩ := h
  exact ⟨h1.room, h1.sl⟩

theorem cells5 {w : World} {N : Nat} {a b c d f : Value} {e : TypeId} (h : w.heap[N]? = some (.cells #[a, b, c, d, f] e (0, 0))) : (w.cell? ⟨N, 0, none⟩ = some a ∧ w.cell? ⟨N, 1, none⟩ = some b ∧ w.cell? ⟨N, 2, none⟩ = some c ∧ w.cell? ⟨N, 3, none⟩ = some d ∧ w.cell? ⟨N, 4, none⟩ = some f) ∧ ∀ o, w.frozen? ⟨N, o, none⟩ = false := by
  refine ⟨⟨?_, ?_, ?_, ?_, ?_⟩, fun o => ?_⟩ <;> simp [World.cell?, World.frozen?, h]

set_option maxHeartbeats 1000000 in
theorem units_any {base S slots : Nat} {X : Nat → Prop} {V : Vw} (w : World) (h : Sh w base S slots X V) :
    Calls Tryz.prog 79 #[.pointer (some ⟨S, 1, none⟩)] w fun e w' => e = .returned (.int .i64 (nU V : Int)) ∧ Fr w w' (fun _ => False) := by
  have hr := h.room
  obtain ⟨B, gr, ge, T, M, h1, rfl, rfl⟩ := h
  obtain ⟨⟨c0, c1, c2, c3, c4⟩, _⟩ := cells5 h1.cell
  have hl := lt_of_block h1.cell
  have HU : Hid ((nU (M.map pr) : Int) = (nV (M.map pr) : Int) + (nT (M.map pr) : Int)) := by show _ = _; unfold nU; omega
  unfold nU at hr
  clear h1
  generalize nV (M.map pr) = a at *
  generalize nT (M.map pr) = b at *
  go_enter Tryz.func79, Tryz.ntmps79
  go_wp2_with fail
  go_quiet (fail)
  go_wp2_with fail
  go_ret
  exact ⟨congrArg (fun x => Ending.returned (.int .i64 x)) HU.out.symm, by repeat (first | exact Fr.refl _ _ | apply Fr.drewN | apply Fr.drew)⟩
theorem unitsS_any {base S slots : Nat} {X : Nat → Prop} {V : Vw} (w : World) (h : Sh w base S slots X V) :
    Calls Tryz.prog 28 #[.pointer (some ⟨S, 0, none⟩)] w fun e w' => e = .returned (.int .i64 (nU V : Int)) ∧ Fr w w' (fun _ => False) := by
  have HU := hid (units_any w h)
  go_enter Tryz.func28, Tryz.ntmps28
  go_wp2_with fail
  refine HU.out.mono ?_
  rintro e w1 ⟨rfl, hf⟩
  have HF := hid hf
  clear hf
  go_wp2_with fail
  go_ret
  exact ⟨rfl, HF.out⟩
theorem cellsS_any {base S slots : Nat} {X : Nat → Prop} {V : Vw} (w : World) (h : Sh w base S slots X V) :
    Calls Tryz.prog 30 #[.pointer (some ⟨S, 0, none⟩)] w fun e w' => e = .returned (.int .i64 (nT V : Int)) ∧ w' = w := by
  obtain ⟨B, gr, ge, T, M, h1, rfl, rfl⟩ := h
  obtain ⟨⟨c0, c1, c2, c3, c4⟩, _⟩ := cells5 h1.cell
  have hl := lt_of_block h1.cell
  clear h1
  generalize nT (M.map pr) = b at *
  go_enter Tryz.func30, Tryz.ntmps30
  go_wp2_with fail
  go_ret
  exact ⟨rfl, rfl⟩
theorem mostS_any {base S slots : Nat} {X : Nat → Prop} {V : Vw} (w : World) (h : Sh w base S slots X V) :
    Calls Tryz.prog 32 #[.pointer (some ⟨S, 0, none⟩)] w fun e w' => e = .returned (.int .i64 (mxV V : Int)) ∧ w' = w := by
  obtain ⟨B, gr, ge, T, M, h1, rfl, rfl⟩ := h
  obtain ⟨⟨c0, c1, c2, c3, c4⟩, _⟩ := cells5 h1.cell
  have hl := lt_of_block h1.cell
  clear h1
  generalize mxV (M.map pr) = b at *
  go_enter Tryz.func32, Tryz.ntmps32
  go_wp2_with fail
  go_ret
  exact ⟨rfl, rfl⟩

set_option maxHeartbeats 1000000 in
theorem fits_any {base S slots : Nat} {X : Nat → Prop} {V : Vw} (n : Nat) (hn : n ≤ 10000000) (w : World) (h : Sh w base S slots X V) :
    Calls Tryz.prog 76 #[.pointer (some ⟨S, 1, none⟩), .int .i64 (n : Int)] w fun e w' => e = .returned (.bool (decide (nU V + n ≤ slots))) ∧ Fr w w' (fun _ => False) := by
  have hr := h.room
  have HSh := hid h
  have HU := hid (fun (W : World) (hf : Fr w W (fun _ => False)) => units_any W (h.step hf))
  have HC := hid (fun (W : World) (hf : Fr w W (fun _ => False)) => (show W.cell? ⟨S, 1, none⟩ = some (.int .i64 (slots : Int)) ∧ S < W.heap.size from by
    obtain ⟨B, gr, ge, T, M, h1, _, _⟩ := h.step hf
    exact ⟨(cells5 h1.cell).1.2.1, lt_of_block h1.cell⟩))
  have HD : Hid (decide (nU V + n ≤ slots) = decide ((nU V : Int) + (n : Int) ≤ (slots : Int))) := by
    show _ = _
    congr 1
    apply propext
    omega
  rw [HD.out]
  obtain ⟨c1, hl⟩ := HC.out w (Fr.refl _ _)
  have HF := hid (Fr.refl w (fun _ => False))
  clear h
  generalize nU V = u at *
  go_enter Tryz.func76, Tryz.ntmps76
  go_wp2_with fail
  go_region_held3 (fun W' => Hid (Fr w W' (fun _ => False)) ∧ W'.cell? ⟨S, 1, none⟩ = some (.int .i64 (slots : Int)))
    ((refine (fun h => ⟨h, (HC.out _ h).1⟩ : Fr w _ (fun _ => False) → _) ?_; repeat (first | with_reducible exact HF.out | with_reducible exact Fr.refl _ _ | with_reducible apply Fr.drew)))
    ((go_at_call 79; refine (HU.out _ (by repeat (first | with_reducible exact HF.out | with_reducible exact Fr.refl _ _ | with_reducible apply Fr.drew))).mono ?_; rintro e w1 ⟨rfl, hf⟩; have HF := hid (Fr.trans (a := w) (by repeat (first | with_reducible exact HF.out | with_reducible exact Fr.refl _ _ | with_reducible apply Fr.drew)) hf); clear hf))
  go_wp2_with fail
  rw [wrap_fit (show fits ((u : Int) + (n : Int)) from by unfold fits; omega)]
  go_ret
  exact ⟨rfl, by repeat (first | with_reducible exact HF.out | with_reducible apply Fr.drew)⟩
end Go.Proofs.YtgbkihkefdoddaaGreatDoor.S
end

section
/- shard: noRows, New, find, need, row.at: walks. -/
namespace Go.Proofs.YtgbkihkefdoddaaGreatDoor.S
open Go.RowKit G

/-- A row in a block of its own. -/
def RwAt (W : World) (N : Nat) (x : R.Rw) : Prop := W.heap[N]? = some (.cells #[.int .i64 x.v, .string x.k, .int .i64 x.s, .pointer x.p] 106 (0, 0))
theorem RwAt.fr {W W' : World} {P : Nat → Prop} {N : Nat} {x : R.Rw} (h : RwAt W N x) (hf : Fr W W' P) (hP : ¬ P N) : RwAt W' N x := (hf.block N (lt_of_block h) hP).trans h
theorem RwAt.drew {W : World} {N : Nat} {x : R.Rw} (h : RwAt W N x) : RwAt W.drew N x := h
theorem RwAt.new (W : World) (x : R.Rw) (N : Nat) (hN : W.heap.size = N) : RwAt (W.alloc (.cells #[.int .i64 x.v, .string x.k, .int .i64 x.s, .pointer x.p] 106)) N x := heap_last _ _ _ hN
theorem RwAt.new0 (W : World) (N : Nat) (hN : W.heap.size = N) : RwAt (W.alloc (.cells #[.int .i64 0, .string ⟨#[]⟩, .int .i64 0, .pointer none] 106)) N R.rz := heap_last _ _ _ hN
theorem RwAt.cells {W : World} {N : Nat} {x : R.Rw} (h : RwAt W N x) : (W.cell? ⟨N, 0, none⟩ = some (.int .i64 x.v) ∧ W.cell? ⟨N, 1, none⟩ = some (.string x.k) ∧ W.cell? ⟨N, 2, none⟩ = some (.int .i64 x.s) ∧ W.cell? ⟨N, 3, none⟩ = some (.pointer x.p)) ∧ ∀ o, W.frozen? ⟨N, o, none⟩ = false := ⟨cells4 h, free4 h⟩
theorem RwAt.set {W : World} {N : Nat} {x : R.Rw} (h : RwAt W N x) (y : R.Rw) : RwAt ((((W.setCell ⟨N, 0, none⟩ (.int .i64 y.v)).setCell ⟨N, 1, none⟩ (.string y.k)).setCell ⟨N, 2, none⟩ (.int .i64 y.s)).setCell ⟨N, 3, none⟩ (.pointer y.p)) N y := by
  have h1 := heap_setCell_same W N 0 _ _ (.int .i64 y.v) h
  have h2 := heap_setCell_same _ N 1 _ _ (.string y.k) h1
  have h3 := heap_setCell_same _ N 2 _ _ (.int .i64 y.s) h2
  exact heap_setCell_same _ N 3 _ _ (.pointer y.p) h3

theorem noRows_any (w : World) :
    Calls Tryz.prog 62 #[] w fun e w' => ∃ B gr, e = .returned (.agg #[.pointer (some ⟨B, 0, none⟩)]) ∧ R.TbAt w' B gr none (newT zR) ∧ w.heap.size ≤ B ∧ w.heap.size ≤ gr ∧ Fr w w' (fun _ => False) := by
  go_enter Tryz.func62, Tryz.ntmps62
  go_wp2_with fail
  refine (R.new_any _).mono ?_
  rintro e w1 ⟨rfl, hT, hf, hs⟩
  have HZ := (hf.block w.heap.size (by simp) (fun h => h)).trans (heap_last _ _ _ rfl)
  have hz0 := cell_of_one HZ
  have hzf := free_of_one HZ
  have hzl := lt_of_block HZ
  have HF := hid ((alloc_fr w _ _).trans hf)
  have HT := hid hT
  have hsz : (w.alloc (.cells #[.pointer none] 96)).heap.size = w.heap.size + 1 := by simp
  rw [hsz] at HT hs ⊢
  clear hf hT HZ hsz
  go_wp2_with fail
  refine bodyPost_ret (v := .agg #[.pointer (some ⟨w.heap.size + 1 + 1, 0, none⟩)]) (by simp [results, Tryz.results62, go_sem, hz0]) rfl ⟨w.heap.size + 1 + 1, w.heap.size + 1, rfl, ?_, ?_, ?_, ?_⟩
  · exact HT.out.fr (S := fun b => b = w.heap.size) (Fr.setCell (Fr.refl w1 (fun b => b = w.heap.size)) (p := ⟨w.heap.size, 0, none⟩) (fun _ => rfl) _) (fun b hb e => by rcases hb with hb | hb | hb; omega; omega; cases hb)
  · omega
  · omega
  · exact HF.out.setCell (p := ⟨w.heap.size, 0, none⟩) (fun h => absurd h (Nat.lt_irrefl _)) _

/-- What New answers. -/
def NewR (w w' : World) (slots : Int) (e : Ending) : Prop := Fr w w' (fun _ => False) ∧ if slots < 2 ∨ 1048576 < slots then e = .returned (.tuple #[.pointer none, .int .i64 1]) else ∃ S X, e = .returned (.tuple #[.pointer (some ⟨S, 0, none⟩), .int .i64 0]) ∧ Sh w' w.heap.size S slots.toNat X []
theorem new_any (slots : Int) (w : World) (hg : Gl w) :
    Calls Tryz.prog 18 #[.int .i64 slots] w fun e w' => NewR w w' slots e := by
  by_cases h1 : slots < 2
  · go_enter Tryz.func18, Tryz.ntmps18
    go_wp2_with fail
    go_ret2
    refine ⟨Fr.refl _ _, ?_⟩
    rw [if_pos (by omega)]
    rfl
  by_cases h2 : 1048576 < slots
  · go_enter Tryz.func18, Tryz.ntmps18
    go_wp2_with fail
    go_ret2
    refine ⟨Fr.refl _ _, ?_⟩
    rw [if_pos (by omega)]
    rfl
  go_enter Tryz.func18, Tryz.ntmps18
  go_wp2_with fail
  refine (noRows_any _).mono ?_
  rintro e w1 ⟨B, gr, rfl, hT, hB, hgr, hf⟩
  have HT := hid hT
  have HF := hid hf
  clear hT hf
  go_wp2_with fail
  go_ret2
  refine ⟨HF.out.alloc _, ?_⟩
  rw [if_neg (by omega)]
  have hlB := HT.out.lt
  refine ⟨w1.heap.size, own w1.heap.size B gr none [], rfl, B, gr, none, newT zR, [], ?_, rfl, rfl⟩
  have hs := HF.out.size
  exact
    { cell := by rw [heap_last _ _ _ rfl, show ((slots.toNat : Nat) : Int) = slots by omega]; rfl
      tb := HT.out.step (alloc_fr _ _ _)
      inv := new_inv zR
      has := fun k v => ⟨fun h => absurd h (new_has _ k v), fun ⟨e, he, _⟩ => by simp at he⟩
      ch := fun e he => by simp at he
      ne := fun e he => by simp at he
      may := fun e he => by simp at he
      apart := List.Pairwise.nil
      lo := fun b hb => by
        rcases hb with rfl | hb | ⟨e, he, _⟩
        · exact hs
        · rcases hb with rfl | rfl | hb
          · exact hB
          · exact hgr
          · cases hb
        · simp at he
      gl := (hg.fr HF.out (fun h => h)).fr (alloc_fr _ _ (fun _ => False)) (fun h => h)
      gb := hg.lt
      room := by simp [nU, nV, nT]
      sl := by omega
      keys := rfl
      tlen := by simp [newT] }
end Go.Proofs.YtgbkihkefdoddaaGreatDoor.S
end

section
/- shard: find, check: walks. -/
namespace Go.Proofs.YtgbkihkefdoddaaGreatDoor.S
open Go.RowKit G

theorem check_any (e : Int) (c : Cl) (w : World) (hk : c.k.size ≤ 9223372036854775807) :
    Calls Tryz.prog 64 #[.int .i64 e, .agg #[.int .i64 c.v, .string c.k, .int .i64 c.s]] w fun r w' => r = .returned (.int .i64 (if mayE c = 0 then (if e < 1 ∨ 1099511627776 < e then 1 else 0) else mayE c)) ∧ Fr w w' (fun _ => False) := by
  have HM := hid (fun W => mayBe_any c W hk)
  by_cases h0 : mayE c = 0
  · rw [if_pos h0]
    rw [h0] at HM
    by_cases h1 : e < 1
    · rw [if_pos (Or.inl h1)]
      go_enter Tryz.func64, Tryz.ntmps64
      go_wp2_with fail
      refine (HM.out _).mono ?_
      rintro r w1 ⟨rfl, hf⟩
      have HF := hid ((alloc_fr w _ _).trans hf)
      clear hf
      go_wp2_with fail
      go_ret
      exact ⟨rfl, HF.out⟩
    by_cases h2 : 1099511627776 < e
    · rw [if_pos (Or.inr h2)]
      go_enter Tryz.func64, Tryz.ntmps64
      go_wp2_with fail
      refine (HM.out _).mono ?_
      rintro r w1 ⟨rfl, hf⟩
      have HF := hid ((alloc_fr w _ _).trans hf)
      clear hf
      go_wp2_with fail
      go_ret
      exact ⟨rfl, HF.out⟩
    rw [if_neg (by omega)]
    go_enter Tryz.func64, Tryz.ntmps64
    go_wp2_with fail
    refine (HM.out _).mono ?_
    rintro r w1 ⟨rfl, hf⟩
    have HF := hid ((alloc_fr w _ _).trans hf)
    clear hf
    go_wp2_with fail
    go_ret
    exact ⟨rfl, HF.out⟩
  · rw [if_neg h0]
    generalize mayE c = m at *
    have t1 : (m != 0) = true := by simpa using h0
    clear h0
    go_enter Tryz.func64, Tryz.ntmps64
    go_wp2_with fail
    refine (HM.out _).mono ?_
    rintro r w1 ⟨rfl, hf⟩
    have HF := hid ((alloc_fr w _ _).trans hf)
    clear hf
    go_wp2_with fail
    go_ret
    exact ⟨rfl, HF.out⟩

/-- What Get tells of a shard's table. -/
theorem ShI.get {w : World} {base S slots B gr : Nat} {ge : Option Nat} {T : Tb} {M : List Ent} (h : ShI w base S slots B gr ge T M) {c : Cl} (hc : mayE c = 0) : getT zR T (key c) = match getM M c with | some e => (rwV e.c e.b, true) | none => (zR, false) := by
  cases hm : getM M c with
  | some e =>
    obtain ⟨h1, h2⟩ := getM_some hm
    exact get_has zR h.inv.i0 ((h.has _ _).2 ⟨e, h1, by rw [h2], rfl⟩)
  | none =>
    refine get_none zR h.inv.i0 (fun v hv => ?_)
    obtain ⟨e, he, h1, _⟩ := (h.has _ _).1 hv
    exact getM_none hm e he (key_inj (h.may e he) hc h1.symm)

/-- What find answers. -/
def Found (w w' : World) (base : Nat) (M : List Ent) (c : Cl) (e : Ent) : Prop :=
  e.c = c ∧ e.L = getV (M.map pr) c ∧ Ch w' base e.b e.cv e.L ∧ Fr w w' (fun _ => False) ∧ (getM M c = some e ∨ (getM M c = none ∧ w.heap.size ≤ e.b ∧ e.cv = .slice none 0 0))

set_option maxHeartbeats 8000000 in
set_option maxRecDepth 100000 in
theorem find_any {base S slots B gr : Nat} {ge : Option Nat} {T : Tb} {M : List Ent} (c : Cl) (w : World) (h : ShI w base S slots B gr ge T M) (hc : mayE c = 0) :
    Calls Tryz.prog 65 #[.agg #[.pointer (some ⟨B, 0, none⟩)], .agg #[.int .i64 c.v, .string c.k, .int .i64 c.s]] w fun r w' => ∃ e, r = .returned (rwV c e.b) ∧ Found w w' base M c e := by
  have HSh := hid h
  have HTx := hid (fun (W : World) (hf : Fr w W (fun _ => False)) => text_any c W hc ((h.step hf).gl))
  have HGt := hid (fun (W : World) (hf : Fr w W (fun _ => False)) => R.get_any (key c) W ((h.step hf).tb) (key_size hc))
  rw [show (.agg #[.int .i64 0, .string ⟨#[]⟩, .int .i64 0, .pointer none] : Value) = zR from rfl] at HGt
  rw [h.get hc] at HGt
  have HLv := hid (getM_getV M c)
  have HMl : Hid (∀ (W : World), Fr w W (fun _ => False) → ∀ e, getM M c = some e → ∃ e', Found w W base M c e' ∧ e'.b = e.b) := by
    intro W hf e he
    obtain ⟨h1, h2⟩ := getM_some he
    have h3 := HLv.out
    rw [he] at h3
    exact ⟨e, ⟨h2, h3.symm, ((h.step hf).ch e h1), hf, Or.inl he⟩, rfl⟩
  have HMn : Hid (getM M c = none → ∀ (W : World) (N : Nat), Fr w W (fun _ => False) → w.heap.size ≤ N → (∀ base, Ch W base N (.slice none 0 0) []) → Found w W base M c ⟨c, N, .slice none 0 0, []⟩) := by
    intro he W N hf hN hch
    have h3 := HLv.out
    rw [he] at h3
    exact ⟨rfl, h3.symm, hch base, hf, Or.inr ⟨he, hN, rfl⟩⟩
  clear h
  obtain ⟨x, t, HX⟩ : ∃ (x : R.Rw) (t : Bool), Hid ((∀ (W : World), Fr w W (fun _ => False) → Calls Tryz.prog 105 #[.pointer (some ⟨B, 0, none⟩), .string (key c)] W fun e w' => e = .returned (.tuple #[.agg #[.int .i64 x.v, .string x.k, .int .i64 x.s, .pointer x.p], .bool t]) ∧ Fr W w' (fun _ => False)) ∧ ((t = true ∧ ∃ e, getM M c = some e ∧ x = ⟨c.v, c.k, c.s, some ⟨e.b, 0, none⟩⟩) ∨ (t = false ∧ getM M c = none))) := by
    cases hm : getM M c with
    | some e =>
      have h2 := (getM_some hm).2
      refine ⟨⟨c.v, c.k, c.s, some ⟨e.b, 0, none⟩⟩, true, ?_, Or.inl ⟨rfl, e, rfl, rfl⟩⟩
      intro W hf
      have h5 := HGt.out W hf
      rw [hm] at h5
      dsimp only at h5
      rw [h2] at h5
      exact h5
    | none =>
      refine ⟨R.rz, false, ?_, Or.inr ⟨rfl, rfl⟩⟩
      intro W hf
      have h5 := HGt.out W hf
      rw [hm] at h5
      exact h5
  have HGx := hid HX.out.1
  have HXc := hid HX.out.2
  clear HGt HX HLv
  generalize key c = kk at *
  obtain ⟨v, k, s⟩ := c
  dsimp only at *
  go_enter Tryz.func65, Tryz.ntmps65
  go_wp2_with fail
  have HB0 : Hid (((((w.alloc (.cells #[.pointer (some ⟨B, 0, none⟩)] 96)).alloc (.cells #[.int .i64 v, .string k, .int .i64 s] 33)).alloc (.cells #[.int .i64 0, .string ⟨#[]⟩, .int .i64 0, .pointer none] 106)).heap[w.heap.size]? = some (.cells #[.pointer (some ⟨B, 0, none⟩)] 96 (0, 0)) ∧ (((w.alloc (.cells #[.pointer (some ⟨B, 0, none⟩)] 96)).alloc (.cells #[.int .i64 v, .string k, .int .i64 s] 33)).alloc (.cells #[.int .i64 0, .string ⟨#[]⟩, .int .i64 0, .pointer none] 106)).heap[w.heap.size + 1]? = some (.cells #[.int .i64 v, .string k, .int .i64 s] 33 (0, 0)) ∧ RwAt (((w.alloc (.cells #[.pointer (some ⟨B, 0, none⟩)] 96)).alloc (.cells #[.int .i64 v, .string k, .int .i64 s] 33)).alloc (.cells #[.int .i64 0, .string ⟨#[]⟩, .int .i64 0, .pointer none] 106)) (w.heap.size + 1 + 1) R.rz)) := by
    refine ⟨?_, ?_, ?_⟩
    · rw [Below.heap_alloc _ _ _ (by simp; omega), Below.heap_alloc _ _ _ (by simp)]; exact heap_last _ _ _ rfl
    · rw [Below.heap_alloc _ _ _ (by simp)]; exact heap_last _ _ _ (by simp)
    · exact heap_last _ _ _ (by simp [Nat.add_assoc])
  have HFa := hid (((alloc_fr w (.cells #[.pointer (some ⟨B, 0, none⟩)] 96) (fun _ => False)).alloc (.cells #[.int .i64 v, .string k, .int .i64 s] 33)).alloc (.cells #[.int .i64 0, .string ⟨#[]⟩, .int .i64 0, .pointer none] 106))
  generalize ((w.alloc (.cells #[.pointer (some ⟨B, 0, none⟩)] 96)).alloc (.cells #[.int .i64 v, .string k, .int .i64 s] 33)).alloc (.cells #[.int .i64 0, .string ⟨#[]⟩, .int .i64 0, .pointer none] 106) = wa at *
  have hsa : w.heap.size + 1 + 1 < wa.heap.size := lt_of_block HB0.out.2.2
  have HC := hid (fun (W' : World) (hf : Fr wa W' (fun _ => False)) => (show W'.cell? ⟨w.heap.size, 0, none⟩ = some (.pointer (some ⟨B, 0, none⟩)) ∧ W'.cell? ⟨w.heap.size + 1, 0, none⟩ = some (.int .i64 v) ∧ W'.cell? ⟨w.heap.size + 1, 1, none⟩ = some (.string k) ∧ W'.cell? ⟨w.heap.size + 1, 2, none⟩ = some (.int .i64 s) from
    ⟨cell_of_one ((hf.block _ (lt_of_block HB0.out.1) (fun h => h)).trans HB0.out.1), cells3 ((hf.block _ (lt_of_block HB0.out.2.1) (fun h => h)).trans HB0.out.2.1)⟩))
  have HF := hid (Fr.refl wa (fun _ => False))
  go_cut [5, 6] (fun s5 s6 wx => ∃ N, s5 = .pointer (some ⟨N, 0, none⟩) ∧ s6 = .bool t ∧ Hid (RwAt wx N x ∧ wa.heap.size ≤ N ∧ Fr wa wx (fun _ => False)))
  case first =>
    go_region_held3 (fun W' => Hid (Fr wa W' (fun _ => False)) ∧ W'.cell? ⟨w.heap.size, 0, none⟩ = some (.pointer (some ⟨B, 0, none⟩)) ∧ W'.cell? ⟨w.heap.size + 1, 0, none⟩ = some (.int .i64 v) ∧ W'.cell? ⟨w.heap.size + 1, 1, none⟩ = some (.string k) ∧ W'.cell? ⟨w.heap.size + 1, 2, none⟩ = some (.int .i64 s))
      ((refine (fun h => ⟨h, HC.out _ h⟩ : Fr wa _ (fun _ => False) → _) ?_; repeat (first | with_reducible exact HF.out | with_reducible exact Fr.refl _ _ | with_reducible apply Fr.drew | with_reducible apply Fr.alloc | (with_reducible refine Fr.setCell ?_ ?_ _; rotate_left; (intro h; exfalso; first | (dsimp only at h; omega) | (simp at h; omega))))))
      ((first
        | (go_at_call 106; refine (HTx.out _ (HFa.out.trans (by repeat (first | with_reducible exact HF.out | with_reducible exact Fr.refl _ _ | with_reducible apply Fr.drew | with_reducible apply Fr.alloc)))).mono ?_; rintro e w1 ⟨rfl, hf⟩; (try (have HZ := hid (RwAt.fr (by first | exact RwAt.new0 _ wa.heap.size rfl | exact RwAt.drew (RwAt.new0 _ wa.heap.size rfl)) hf (fun h => h)); have HZn := hid (Nat.le_refl wa.heap.size); have hzl := lt_of_block HZ.out)); have HF := hid (Fr.trans (a := wa) (by repeat (first | with_reducible exact HF.out | with_reducible exact Fr.refl _ _ | with_reducible apply Fr.drew | with_reducible apply Fr.alloc)) hf); have hs1 := HF.out.size; clear hf)
        | (go_at_call 105; refine (HGx.out _ (HFa.out.trans (by repeat (first | with_reducible exact HF.out | with_reducible exact Fr.refl _ _ | with_reducible apply Fr.drew | with_reducible apply Fr.alloc)))).mono ?_; rintro e w2 ⟨rfl, hf⟩; (try (have HZ := hid (RwAt.fr (by first | exact HZ.out | exact HZ.out.drew | exact RwAt.new0 _ _ rfl | exact RwAt.drew (RwAt.new0 _ _ rfl)) hf (fun h => h)); obtain ⟨⟨z0, z1, z2, z3⟩, y0⟩ := HZ.out.cells; have hzl2 := lt_of_block HZ.out)); have HF := hid (Fr.trans (a := wa) (by repeat (first | with_reducible exact HF.out | with_reducible exact Fr.refl _ _ | with_reducible apply Fr.drew | with_reducible apply Fr.alloc)) hf); have hs2 := HF.out.size; clear hf)))
    all_goals (go_wp2_with fail)
    all_goals go_meet
    all_goals refine ⟨_, rfl, rfl, hid ⟨(by first | (with_reducible apply RwAt.set; exact HZ.out) | (with_reducible apply RwAt.drew; with_reducible apply RwAt.set; exact HZ.out) | (with_reducible apply RwAt.new; rfl) | (with_reducible apply RwAt.drew; with_reducible apply RwAt.new; rfl)), (by first | omega | exact HZn.out | (simp; omega)), ?_⟩⟩
    all_goals (repeat (first | with_reducible exact HF.out | with_reducible exact Fr.refl _ _ | with_reducible apply Fr.drew | with_reducible apply Fr.alloc | (with_reducible refine Fr.setCell ?_ ?_ _; rotate_left; (intro h; exfalso; first | (dsimp only at h; omega) | (simp at h; omega)))))
  case rest =>
    obtain ⟨N, rfl, rfl, HX⟩ := hcut
    obtain ⟨⟨z0, z1, z2, z3⟩, _⟩ := HX.out.1.cells
    have hzl := lt_of_block HX.out.1
    have hNn := HX.out.2.1
    have hNe : N ≠ w.heap.size + 1 + 1 := by omega
    have hNe2 : w.heap.size + 1 + 1 ≠ N := by omega
    have HA := hid (HB0.out.2.2.fr HX.out.2.2 (fun h => h))
    obtain ⟨⟨q0, q1, q2, q3⟩, hqf⟩ := HA.out.cells
    have hql := lt_of_block HA.out
    have HFw := hid (HFa.out.trans HX.out.2.2)
    rcases HXc.out with ⟨rfl, e0, he0, rfl⟩ | ⟨rfl, he0⟩
    · obtain ⟨e1, h1, h2⟩ := HMl.out _ (show Fr w ((((wc.setCell ⟨w.heap.size + 1 + 1, 0, none⟩ (.int .i64 v)).setCell ⟨w.heap.size + 1 + 1, 1, none⟩ (.string k)).setCell ⟨w.heap.size + 1 + 1, 2, none⟩ (.int .i64 s)).setCell ⟨w.heap.size + 1 + 1, 3, none⟩ (.pointer (some ⟨e0.b, 0, none⟩))) (fun _ => False) from (((HFw.out.setCell (p := ⟨w.heap.size + 1 + 1, 0, none⟩) (fun h => absurd (show w.heap.size + 1 + 1 < w.heap.size from h) (by omega)) _).setCell (p := ⟨w.heap.size + 1 + 1, 1, none⟩) (fun h => absurd (show w.heap.size + 1 + 1 < w.heap.size from h) (by omega)) _).setCell (p := ⟨w.heap.size + 1 + 1, 2, none⟩) (fun h => absurd (show w.heap.size + 1 + 1 < w.heap.size from h) (by omega)) _).setCell (p := ⟨w.heap.size + 1 + 1, 3, none⟩) (fun h => absurd (show w.heap.size + 1 + 1 < w.heap.size from h) (by omega)) _) e0 he0
      have H1 := hid (And.intro h1 h2)
      clear h1 h2
      go_wp2_with fail
      refine bodyPost_ret (v := .agg #[.int .i64 v, .string k, .int .i64 s, .pointer (some ⟨e0.b, 0, none⟩)]) (by simp [results, Tryz.results65, go_sem, q0, q1, q2, q3]) rfl ?_
      exact ⟨e1, by rw [H1.out.2]; rfl, H1.out.1⟩
    · have HC2 := hid (fun (W' : World) (hf : Fr wc W' (fun _ => False)) => (HC.out W' (HX.out.2.2.trans hf)).2)
      obtain ⟨p0, p1, p2⟩ := HC2.out _ (Fr.refl _ _)
      have HQ := hid (fun (W' : World) (hf : Fr wc W' (fun _ => False)) => (HA.out.fr hf (fun h => h)).cells)
      have HN := hid (fun W => G.new_any W)
      have HF := hid (Fr.refl wc (fun _ => False))
      have HL := hid (fun (W' : World) (hf : Fr wc W' (fun _ => False)) => hf.size)
      have hsw := HFw.out.size
      go_wp2_with fail
      have HB1 := hid ((HX.out.2.2.block (w.heap.size + 1) (lt_of_block HB0.out.2.1) (fun h => h)).trans HB0.out.2.1)
      have HK := hid (fun (W' : World) (hf : Fr wc W' (fun b => b = w.heap.size + 1 + 1)) => cells3 ((hf.block (w.heap.size + 1) (lt_of_block HB1.out) (by omega)).trans HB1.out))
      have HFq := hid (Fr.refl wc (fun b => b = w.heap.size + 1 + 1))
      go_cut [18] (fun s18 wx => ∃ N2, s18 = .pointer (some ⟨N2, 0, none⟩) ∧ wc.heap.size ≤ N2 ∧ Hid (RwAt wx (w.heap.size + 1 + 1) ⟨v, k, s, some ⟨N2, 0, none⟩⟩ ∧ (∀ base, Ch wx base N2 (.slice none 0 0) []) ∧ Fr w wx (fun _ => False)))
      case first =>
        go_region_held3 (fun W' => Hid (Fr wc W' (fun b => b = w.heap.size + 1 + 1)) ∧ W'.cell? ⟨w.heap.size + 1, 0, none⟩ = some (.int .i64 v) ∧ W'.cell? ⟨w.heap.size + 1, 1, none⟩ = some (.string k) ∧ W'.cell? ⟨w.heap.size + 1, 2, none⟩ = some (.int .i64 s))
          ((refine (fun h => ⟨h, HK.out _ h⟩ : Fr wc _ (fun b => b = w.heap.size + 1 + 1) → _) ?_; repeat (first | with_reducible exact HFq.out | with_reducible exact Fr.refl _ _ | with_reducible apply Fr.drew | with_reducible apply Fr.alloc | (with_reducible refine Fr.setCell ?_ ?_ _; rotate_left; (intro h; rfl)))))
          ((go_at_call 107; refine (HN.out _).mono ?_; rintro e w3 ⟨rfl, hch, hf, hsz⟩; have HF := hid (Fr.trans (a := wc) (by repeat (first | with_reducible exact HF.out | with_reducible exact Fr.refl _ _ | with_reducible apply Fr.drew | with_reducible apply Fr.alloc)) hf); have HFq := hid (HF.out.mono (T := fun b => b = w.heap.size + 1 + 1) (fun _ _ h => h.elim)); have HCh := hid hch; have HA3 := hid (HA.out.fr HF.out (fun h => h)); obtain ⟨⟨q0, q1, q2, q3⟩, hqf⟩ := HA3.out.cells; have hs3 := HF.out.size; have hql3 := lt_of_block HA3.out; clear hch hf))
        all_goals (go_wp2_with fail)
        all_goals go_meet
        all_goals (
          have hS4 : Fr w3 ((((w3.setCell ⟨w.heap.size + 1 + 1, 0, none⟩ (.int .i64 v)).setCell ⟨w.heap.size + 1 + 1, 1, none⟩ (.string k)).setCell ⟨w.heap.size + 1 + 1, 2, none⟩ (.int .i64 s)).setCell ⟨w.heap.size + 1 + 1, 3, none⟩ (.pointer (some ⟨wc.heap.size, 0, none⟩))) (fun b => b = w.heap.size + 1 + 1) := ((((Fr.refl w3 (fun b => b = w.heap.size + 1 + 1)).setCell (p := ⟨w.heap.size + 1 + 1, 0, none⟩) (fun _ => rfl) _).setCell (p := ⟨w.heap.size + 1 + 1, 1, none⟩) (fun _ => rfl) _).setCell (p := ⟨w.heap.size + 1 + 1, 2, none⟩) (fun _ => rfl) _).setCell (p := ⟨w.heap.size + 1 + 1, 3, none⟩) (fun _ => rfl) _
          have hW := RwAt.set HA3.out ⟨v, k, s, some ⟨wc.heap.size, 0, none⟩⟩
          have hR : Fr w ((((w3.setCell ⟨w.heap.size + 1 + 1, 0, none⟩ (.int .i64 v)).setCell ⟨w.heap.size + 1 + 1, 1, none⟩ (.string k)).setCell ⟨w.heap.size + 1 + 1, 2, none⟩ (.int .i64 s)).setCell ⟨w.heap.size + 1 + 1, 3, none⟩ (.pointer (some ⟨wc.heap.size, 0, none⟩))) (fun _ => False) := (HFw.out.trans HF.out).trans2 hS4 (fun i hi e => by omega)
          have hC : ∀ base, Ch ((((w3.setCell ⟨w.heap.size + 1 + 1, 0, none⟩ (.int .i64 v)).setCell ⟨w.heap.size + 1 + 1, 1, none⟩ (.string k)).setCell ⟨w.heap.size + 1 + 1, 2, none⟩ (.int .i64 s)).setCell ⟨w.heap.size + 1 + 1, 3, none⟩ (.pointer (some ⟨wc.heap.size, 0, none⟩))) base wc.heap.size (.slice none 0 0) [] := fun base => (HCh.out base).fr hS4 (by omega) (fun k hk => by simp [Value.ownBlock] at hk)
          first
            | exact ⟨wc.heap.size, rfl, Nat.le_refl _, hid ⟨hW, hC, hR⟩⟩
            | exact ⟨wc.heap.size, rfl, Nat.le_refl _, hid ⟨hW.drew, fun base => (hC base).step ((Fr.refl _ _).drew), hR.drew⟩⟩)
      case rest =>
        obtain ⟨N2, rfl, hN2, HY⟩ := hcut
        obtain ⟨⟨y0, y1, y2, y3⟩, _⟩ := HY.out.1.cells
        have hyl := lt_of_block HY.out.1
        have HR := hid (HMn.out he0 _ N2 HY.out.2.2 (by omega) HY.out.2.1)
        go_wp2_with fail
        refine bodyPost_ret (v := .agg #[.int .i64 v, .string k, .int .i64 s, .pointer (some ⟨N2, 0, none⟩)]) (by simp [results, Tryz.results65, go_sem, y0, y1, y2, y3]) rfl ?_
        exact ⟨_, rfl, HR.out⟩
end Go.Proofs.YtgbkihkefdoddaaGreatDoor.S
end

section
/- shard: row.need, row.at, At, Get: walks. -/
namespace Go.Proofs.YtgbkihkefdoddaaGreatDoor.S
open Go.RowKit G

/-- How many units more an aggregate at an epoch takes. -/
def needN (L : List Vn) (e : Int) : Nat := if e < (nw L).e then 0 else (if (nw L).e < e then 1 else 0) + (if (nw L).t then 0 else 1)
theorem needN_le (L : List Vn) (e : Int) : needN L e ≤ 2 := by unfold needN; split <;> (try split) <;> (try split) <;> omega
/-- What versions say at an epoch (0: now). -/
def atE (L : List Vn) (e : Int) : A4 := if e = 0 then (nw L).v else (atL L e).v
def agV (a : A4) : Value := .agg #[.int .i64 a.c, .int .i64 a.s, .int .i64 a.m, .int .i64 a.x]

set_option maxHeartbeats 1000000 in
theorem need_any {base b : Nat} {cv : Value} {L : List Vn} (c : Cl) (e : Int) (w : World) (h : Ch w base b cv L) :
    Calls Tryz.prog 75 #[rwV c b, .int .i64 e] w fun r w' => r = .returned (.int .i64 (needN L e : Int)) ∧ Fr w w' (fun _ => False) := by
  have HN := hid (fun (W : World) (hf : Fr w W (fun _ => False)) => newest_any W (h.step hf))
  have hlt := h.lt
  clear h
  unfold rwV
  have key : ∀ (n : Nat) (x : Vn), Hid (nw L = x) → (n = if e < x.e then 0 else (if x.e < e then 1 else 0) + (if x.t then 0 else 1)) → Calls Tryz.prog 75 #[.agg #[.int .i64 c.v, .string c.k, .int .i64 c.s, .pointer (some ⟨b, 0, none⟩)], .int .i64 e] w fun r w' => r = .returned (.int .i64 (n : Int)) ∧ Fr w w' (fun _ => False) := by
    intro n x HE hn
    rw [HE.out] at HN
    by_cases h1 : e < x.e
    · rw [if_pos h1] at hn
      subst hn
      go_enter Tryz.func75, Tryz.ntmps75
      go_wp2_with fail
      refine (HN.out _ (alloc_fr _ _ _)).mono ?_
      rintro r w1 ⟨rfl, hf⟩
      have HF := hid ((alloc_fr w _ _).trans hf)
      clear hf
      go_wp2_with fail
      go_ret
      exact ⟨rfl, HF.out.alloc _⟩
    rw [if_neg h1] at hn
    by_cases h2 : x.e < e
    · rw [if_pos h2] at hn
      cases ht : x.t with
      | true =>
        rw [ht] at hn HN
        simp at hn
        subst hn
        clear ht
        go_enter Tryz.func75, Tryz.ntmps75
        go_wp2_with fail
        refine (HN.out _ (alloc_fr _ _ _)).mono ?_
        rintro r w1 ⟨rfl, hf⟩
        have HF := hid ((alloc_fr w _ _).trans hf)
        clear hf
        go_wp2_with fail
        go_ret
        exact ⟨rfl, HF.out.alloc _⟩
      | false =>
        rw [ht] at hn HN
        simp at hn
        subst hn
        clear ht
        go_enter Tryz.func75, Tryz.ntmps75
        go_wp2_with fail
        refine (HN.out _ (alloc_fr _ _ _)).mono ?_
        rintro r w1 ⟨rfl, hf⟩
        have HF := hid ((alloc_fr w _ _).trans hf)
        clear hf
        go_wp2_with fail
        go_ret
        exact ⟨rfl, HF.out.alloc _⟩
    · rw [if_neg h2] at hn
      cases ht : x.t with
      | true =>
        rw [ht] at hn HN
        simp at hn
        subst hn
        clear ht
        go_enter Tryz.func75, Tryz.ntmps75
        go_wp2_with fail
        refine (HN.out _ (alloc_fr _ _ _)).mono ?_
        rintro r w1 ⟨rfl, hf⟩
        have HF := hid ((alloc_fr w _ _).trans hf)
        clear hf
        go_wp2_with fail
        go_ret
        exact ⟨rfl, HF.out.alloc _⟩
      | false =>
        rw [ht] at hn HN
        simp at hn
        subst hn
        clear ht
        go_enter Tryz.func75, Tryz.ntmps75
        go_wp2_with fail
        refine (HN.out _ (alloc_fr _ _ _)).mono ?_
        rintro r w1 ⟨rfl, hf⟩
        have HF := hid ((alloc_fr w _ _).trans hf)
        clear hf
        go_wp2_with fail
        go_ret
        exact ⟨rfl, HF.out.alloc _⟩
  exact key _ _ rfl rfl

set_option maxHeartbeats 1000000 in
theorem rat_any {base b : Nat} {cv : Value} {L : List Vn} (c : Cl) (e : Int) (w : World) (h : Ch w base b cv L) :
    Calls Tryz.prog 81 #[rwV c b, .int .i64 e] w fun r w' => r = .returned (agV (atE L e)) ∧ Fr w w' (fun _ => False) := by
  have HN := hid (fun (W : World) (hf : Fr w W (fun _ => False)) => newest_any W (h.step hf))
  have HAt := hid (fun (W : World) (hf : Fr w W (fun _ => False)) => at_any e W (h.step hf))
  have hlt := h.lt
  clear h
  unfold rwV atE agV
  by_cases h0 : e = 0
  · rw [if_pos h0]
    subst h0
    generalize nw L = x at *
    clear HAt
    go_enter Tryz.func81, Tryz.ntmps81
    go_wp2_with fail
    refine (HN.out _ ((alloc_fr _ _ _).alloc _)).mono ?_
    rintro r w1 ⟨rfl, hf⟩
    have HZ := (hf.block (w.heap.size + 1) (by simp) (fun h => h)).trans (heap_last _ _ _ (by simp))
    obtain ⟨z0, z1, z2, z3⟩ := cells4 HZ
    have hzf := free4 HZ
    have hzl := lt_of_block HZ
    have HF := hid (((alloc_fr w _ _).alloc _).trans hf)
    have hs := HF.out.size
    clear hf HZ
    go_wp2_with fail
    refine bodyPost_ret (v := .agg #[.int .i64 x.v.c, .int .i64 x.v.s, .int .i64 x.v.m, .int .i64 x.v.x]) (by simp [results, Tryz.results81, go_sem, hzl, z0, z1, z2, z3]) rfl ⟨rfl, ?_⟩
    repeat (first | with_reducible exact HF.out | with_reducible apply Fr.alloc | (with_reducible refine Fr.setCell ?_ ?_ _; rotate_left; (intro h; exfalso; have h' : w.heap.size + 1 < w.heap.size := h; omega)))
  · rw [if_neg h0]
    have t1 : (e == 0) = false := by simpa using h0
    clear h0
    generalize atL L e = x at *
    clear HN
    go_enter Tryz.func81, Tryz.ntmps81
    go_wp2_with fail
    refine (HAt.out _ ((alloc_fr _ _ _).alloc _)).mono ?_
    rintro r w1 ⟨rfl, hf⟩
    have HZ := (hf.block (w.heap.size + 1) (by simp) (fun h => h)).trans (heap_last _ _ _ (by simp))
    obtain ⟨z0, z1, z2, z3⟩ := cells4 HZ
    have hzf := free4 HZ
    have hzl := lt_of_block HZ
    have HF := hid (((alloc_fr w _ _).alloc _).trans hf)
    have hs := HF.out.size
    clear hf HZ
    go_wp2_with fail
    refine bodyPost_ret (v := .agg #[.int .i64 x.v.c, .int .i64 x.v.s, .int .i64 x.v.m, .int .i64 x.v.x]) (by simp [results, Tryz.results81, go_sem, hzl, z0, z1, z2, z3]) rfl ⟨rfl, ?_⟩
    repeat (first | with_reducible exact HF.out | with_reducible apply Fr.alloc | (with_reducible refine Fr.setCell ?_ ?_ _; rotate_left; (intro h; exfalso; have h' : w.heap.size + 1 < w.heap.size := h; omega)))
end Go.Proofs.YtgbkihkefdoddaaGreatDoor.S
end

section
/- shard: At, Get: walks. -/
namespace Go.Proofs.YtgbkihkefdoddaaGreatDoor.S
open Go.RowKit G

/-- What At tells. -/
noncomputable def tellA (V : Vw) (c : Cl) (e : Int) : A4 := if mayE c = 0 then atE (getV V c) e else a0

theorem atE_nil (e : Int) : atE [] e = a0 := by
  unfold atE
  split <;> rfl

set_option maxHeartbeats 4000000 in
set_option maxRecDepth 100000 in
theorem at_any {base S slots : Nat} {X : Nat → Prop} {V : Vw} (c : Cl) (e : Int) (w : World) (h : Sh w base S slots X V) (hk : c.k.size ≤ 9223372036854775807) :
    Calls Tryz.prog 36 #[.pointer (some ⟨S, 0, none⟩), .agg #[.int .i64 c.v, .string c.k, .int .i64 c.s], .int .i64 e] w fun r w' => r = .returned (agV (tellA V c e)) ∧ Fr w w' (fun _ => False) := by
  obtain ⟨B, gr, ge, T, M, h1, rfl, rfl⟩ := h
  have HM := hid (fun W => mayBe_any c W hk)
  have hSl := lt_of_block h1.cell
  unfold tellA
  by_cases h0 : mayE c = 0
  · rw [if_pos h0]
    rw [h0] at HM
    have HFd := hid (fun (W : World) (hf : Fr w W (fun _ => False)) => find_any c W (h1.step hf) h0)
    have HC := hid (fun (W : World) (hf : Fr w W (fun _ => False)) => (show W.cell? ⟨S, 0, none⟩ = some (.pointer (some ⟨B, 0, none⟩)) from (cells5 ((h1.step hf).cell)).1.1))
    have HRa := hid (fun (W W' : World) (ee : Ent) (hfd : Found W W' base M c ee) => (show Calls Tryz.prog 81 #[rwV c ee.b, .int .i64 e] W' fun r w' => r = .returned (agV (atE (getV (M.map pr) c) e)) ∧ Fr W' w' (fun _ => False) from by have h5 := rat_any c e W' hfd.2.2.1; rw [hfd.2.1] at h5; exact h5))
    clear h1 h0 hk
    obtain ⟨v, k, s⟩ := c
    unfold agV at HRa ⊢
    generalize hx : atE (getV (M.map pr) ⟨v, k, s⟩) e = x at *
    have HX := hid hx
    clear hx
    dsimp only at *
    go_enter Tryz.func36, Tryz.ntmps36
    go_wp2_with fail
    refine (HM.out _).mono ?_
    rintro r w1 ⟨rfl, hf⟩
    have HZ0 := (hf.block (w.heap.size + 1) (by simp) (fun h => h)).trans (heap_last _ _ _ (by simp))
    have HZc := (hf.block w.heap.size (by simp; omega) (fun h => h)).trans ((Below.heap_alloc _ _ _ (by simp)).trans (heap_last _ _ _ rfl))
    have HZ := hid HZ0
    have HCl := hid HZc
    have HF1 := hid (((alloc_fr w _ _).alloc _).trans hf)
    have hs1 := HF1.out.size
    have hzl := lt_of_block HZ0
    clear hf HZ0 HZc
    have HK := hid (fun (W' : World) (hf : Fr w1 W' (fun _ => False)) => (show W'.cell? ⟨S, 0, none⟩ = some (.pointer (some ⟨B, 0, none⟩)) ∧ W'.cell? ⟨w.heap.size, 0, none⟩ = some (.int .i64 v) ∧ W'.cell? ⟨w.heap.size, 1, none⟩ = some (.string k) ∧ W'.cell? ⟨w.heap.size, 2, none⟩ = some (.int .i64 s) from
      ⟨HC.out _ (HF1.out.trans hf), cells3 ((hf.block _ (lt_of_block HCl.out) (fun h => h)).trans HCl.out)⟩))
    have hq := HK.out w1 (Fr.refl _ _)
    obtain ⟨k0, k1, k2, k3⟩ := hq
    have HF := hid (Fr.refl w1 (fun _ => False))
    have HKq := hid (fun (W' : World) (hf : Fr w1 W' (fun b => b = w.heap.size + 1)) => (show W'.cell? ⟨S, 0, none⟩ = some (.pointer (some ⟨B, 0, none⟩)) ∧ W'.cell? ⟨w.heap.size, 0, none⟩ = some (.int .i64 v) ∧ W'.cell? ⟨w.heap.size, 1, none⟩ = some (.string k) ∧ W'.cell? ⟨w.heap.size, 2, none⟩ = some (.int .i64 s) from
      ⟨by
        have h3 := hf.block S (by omega) (by omega)
        have h4 := HC.out w1 HF1.out
        unfold World.cell? at h4 ⊢
        rw [show (⟨S, 0, none⟩ : Addr).block = S from rfl] at h4 ⊢
        rw [h3]
        exact h4, cells3 ((hf.block _ (lt_of_block HCl.out) (by omega)).trans HCl.out)⟩))
    have HFq := hid (Fr.refl w1 (fun b => b = w.heap.size + 1))
    go_wp2_with fail
    go_region_held3 (fun W' => Hid (Fr w1 W' (fun b => b = w.heap.size + 1)) ∧ W'.cell? ⟨S, 0, none⟩ = some (.pointer (some ⟨B, 0, none⟩)) ∧ W'.cell? ⟨w.heap.size, 0, none⟩ = some (.int .i64 v) ∧ W'.cell? ⟨w.heap.size, 1, none⟩ = some (.string k) ∧ W'.cell? ⟨w.heap.size, 2, none⟩ = some (.int .i64 s))
      ((refine (fun h => ⟨h, HKq.out _ h⟩ : Fr w1 _ (fun b => b = w.heap.size + 1) → _) ?_; repeat (first | with_reducible exact HFq.out | with_reducible exact Fr.refl _ _ | with_reducible apply Fr.drew | with_reducible apply Fr.alloc | (with_reducible refine Fr.setCell ?_ ?_ _; rotate_left; (intro h; rfl)))))
      ((first
        | (go_at_call 65; refine (HFd.out _ (HF1.out.trans (by repeat (first | with_reducible exact HF.out | with_reducible exact Fr.refl _ _ | with_reducible apply Fr.drew | with_reducible apply Fr.alloc)))).mono ?_; rintro r w2 ⟨ee, rfl, hfd⟩; have HFo := hid hfd; have HF := hid (Fr.trans (a := w1) (by repeat (first | with_reducible exact HF.out | with_reducible exact Fr.refl _ _ | with_reducible apply Fr.drew | with_reducible apply Fr.alloc)) hfd.2.2.2.1); have HFq := hid (HF.out.mono (T := fun b => b = w.heap.size + 1) (fun _ _ h => h.elim)); have hs2 := HF.out.size; clear hfd)
        | (go_at_call 81; refine (HRa.out _ _ _ HFo.out).mono ?_; rintro r w3 ⟨rfl, hf⟩; have HF := hid (HF.out.trans hf); have HFq := hid (HF.out.mono (T := fun b => b = w.heap.size + 1) (fun _ _ h => h.elim)); have hs3 := HF.out.size; have HZ3 := (HF.out.block _ (lt_of_block HZ.out) (fun h => h)).trans HZ.out; obtain ⟨z0, z1, z2, z3⟩ := cells4 HZ3; have hzf := free4 HZ3; have hzl3 := lt_of_block HZ3; clear HZ3 hf)))
    go_wp2_with fail
    refine bodyPost_ret (v := .agg #[.int .i64 x.c, .int .i64 x.s, .int .i64 x.m, .int .i64 x.x]) (by simp [results, Tryz.results36, go_sem, z0, z1, z2, z3]) rfl ⟨rfl, ?_⟩
    refine HF1.out.trans2 (S := fun _ => False) (T := fun b => b = w.heap.size + 1) ?_ (fun i hi e => by omega)
    repeat (first | with_reducible exact HFq.out | with_reducible exact Fr.refl _ _ | with_reducible apply Fr.drew | with_reducible apply Fr.alloc | (with_reducible refine Fr.setCell ?_ ?_ _; rotate_left; (intro h; rfl)))
  · rw [if_neg h0]
    generalize mayE c = m at *
    have t1 : (m != 0) = true := by simpa using h0
    clear h0 h1
    unfold agV a0
    dsimp only
    go_enter Tryz.func36, Tryz.ntmps36
    go_wp2_with fail
    refine (HM.out _).mono ?_
    rintro r w1 ⟨rfl, hf⟩
    have HZ0 := (hf.block (w.heap.size + 1) (by simp) (fun h => h)).trans (heap_last _ _ _ (by simp))
    have HF1 := hid (((alloc_fr w _ _).alloc _).trans hf)
    obtain ⟨z0, z1, z2, z3⟩ := cells4 HZ0
    have hzf := free4 HZ0
    have hzl := lt_of_block HZ0
    clear hf HZ0
    go_wp2_with fail
    refine bodyPost_ret (v := .agg #[.int .i64 0, .int .i64 0, .int .i64 0, .int .i64 0]) (by simp [results, Tryz.results36, go_sem, z0, z1, z2, z3]) rfl ⟨rfl, ?_⟩
    repeat (first | with_reducible exact HF1.out | with_reducible apply Fr.alloc | (with_reducible refine Fr.setCell ?_ ?_ _; rotate_left; (intro h; exfalso; have h' : w.heap.size + 1 < w.heap.size := h; omega)))

set_option maxHeartbeats 1000000 in
theorem get_any {base S slots : Nat} {X : Nat → Prop} {V : Vw} (c : Cl) (w : World) (h : Sh w base S slots X V) (hk : c.k.size ≤ 9223372036854775807) :
    Calls Tryz.prog 34 #[.pointer (some ⟨S, 0, none⟩), .agg #[.int .i64 c.v, .string c.k, .int .i64 c.s]] w fun r w' => r = .returned (agV (tellA V c 0)) ∧ Fr w w' (fun _ => False) := by
  have HAt := hid (fun (W : World) (hf : Fr w W (fun _ => False)) => at_any c 0 W (h.step hf) hk)
  clear h hk
  unfold agV at HAt ⊢
  generalize tellA V c 0 = x at *
  go_enter Tryz.func34, Tryz.ntmps34
  go_wp2_with fail
  refine (HAt.out _ ((alloc_fr _ _ _).alloc _)).mono ?_
  rintro r w1 ⟨rfl, hf⟩
  have HZ0 := (hf.block (w.heap.size + 1) (by simp) (fun h => h)).trans (heap_last _ _ _ (by simp))
  have HF1 := hid (((alloc_fr w _ _).alloc _).trans hf)
  obtain ⟨z0, z1, z2, z3⟩ := cells4 HZ0
  have hzf := free4 HZ0
  have hzl := lt_of_block HZ0
  clear hf HZ0
  go_wp2_with fail
  refine bodyPost_ret (v := .agg #[.int .i64 x.c, .int .i64 x.s, .int .i64 x.m, .int .i64 x.x]) (by simp [results, Tryz.results34, go_sem, z0, z1, z2, z3]) rfl ⟨rfl, ?_⟩
  repeat (first | with_reducible exact HF1.out | with_reducible apply Fr.alloc | (with_reducible refine Fr.setCell ?_ ?_ _; rotate_left; (intro h; exfalso; have h' : w.heap.size + 1 < w.heap.size := h; omega)))
end Go.Proofs.YtgbkihkefdoddaaGreatDoor.S
end

section
/- shard: count, keep: walks. -/
namespace Go.Proofs.YtgbkihkefdoddaaGreatDoor.S
open Go.RowKit G

theorem set5 {w : World} {N : Nat} {a b c d f x y z : Value} {e : TypeId} (h : w.heap[N]? = some (.cells #[a, b, c, d, f] e (0, 0))) : (((w.setCell ⟨N, 2, none⟩ x).setCell ⟨N, 3, none⟩ y).setCell ⟨N, 4, none⟩ z).heap[N]? = some (.cells #[a, b, x, y, z] e (0, 0)) := by
  have h1 := heap_setCell_same w N 2 _ _ x h
  have h2 := heap_setCell_same _ N 3 _ _ y h1
  exact heap_setCell_same _ N 4 _ _ z h2

set_option maxHeartbeats 1000000 in
theorem count_any {S : Nat} {p : Value} (sl a b m x y z : Int) (w : World) (h : w.heap[S]? = some (.cells #[p, .int .i64 sl, .int .i64 a, .int .i64 b, .int .i64 m] 101 (0, 0))) (hx : fits (a + x)) (hy : fits (b + y)) :
    Calls Tryz.prog 67 #[.pointer (some ⟨S, 1, none⟩), .int .i64 x, .int .i64 y, .int .i64 z] w fun e w' => e = .returned (.tuple #[]) ∧ w'.heap[S]? = some (.cells #[p, .int .i64 sl, .int .i64 (a + x), .int .i64 (b + y), .int .i64 (max m z)] 101 (0, 0)) ∧ Fr w w' (fun k => k = S) := by
  obtain ⟨⟨c0, c1, c2, c3, c4⟩, hfz⟩ := cells5 h
  have hl := lt_of_block h
  have HH := hid h
  have e1 := wrap_fit hx
  have e2 := wrap_fit hy
  clear h
  go_enter Tryz.func67, Tryz.ntmps67
  go_wp2_with fail
  go_end0
  refine ⟨rfl, ?_, ?_⟩
  · exact set5 HH.out
  · exact (((Fr.refl w (fun k => k = S)).setCell (p := ⟨S, 2, none⟩) (fun _ => rfl) _).setCell (p := ⟨S, 3, none⟩) (fun _ => rfl) _).setCell (p := ⟨S, 4, none⟩) (fun _ => rfl) _

set_option maxHeartbeats 4000000 in
set_option maxRecDepth 100000 in
theorem keep_any {B gr : Nat} {ge : Option Nat} {T : Tb} (c : Cl) (b : Nat) (w : World) (hT : R.TbAt w B gr ge T) (hI : Inv T) (hlen : 2 * T.row.length ≤ 1099511627776) (hg : Gl w) (hc : mayE c = 0) :
    Calls Tryz.prog 78 #[.agg #[.pointer (some ⟨B, 0, none⟩)], rwV c b] w fun e w' => e = .returned (.tuple #[]) ∧ (∃ gr' ge', R.TbAt w' B gr' ge' (putT zR T (key c) (rwV c b)) ∧ R.Nb w B gr ge gr' ge') ∧ Fr w w' (R.bl B gr ge) := by
  have HTx := hid (fun (W : World) (hf : Fr w W (fun _ => False)) => text_any c W hc (hg.fr hf (fun h => h)))
  have HPt := hid (fun (W : World) (hf : Fr w W (fun _ => False)) => R.put_any (key c) ⟨c.v, c.k, c.s, some ⟨b, 0, none⟩⟩ W (hT.step hf) hI (key_size hc) hlen)
  have HNb := hid (fun k hk => hT.bl_lt (b := k) hk)
  unfold rwV
  rw [show zR = .agg #[.int .i64 0, .string ⟨#[]⟩, .int .i64 0, .pointer none] from rfl]
  dsimp only at HPt
  generalize key c = kk at *
  obtain ⟨v, k, s⟩ := c
  dsimp only at *
  clear hT hI hlen hg hc
  go_enter Tryz.func78, Tryz.ntmps78
  go_wp2_with fail
  have HB0 : Hid (((w.alloc (.cells #[.pointer (some ⟨B, 0, none⟩)] 96)).alloc (.cells #[.int .i64 v, .string k, .int .i64 s, .pointer (some ⟨b, 0, none⟩)] 106)).heap[w.heap.size]? = some (.cells #[.pointer (some ⟨B, 0, none⟩)] 96 (0, 0)) ∧ RwAt ((w.alloc (.cells #[.pointer (some ⟨B, 0, none⟩)] 96)).alloc (.cells #[.int .i64 v, .string k, .int .i64 s, .pointer (some ⟨b, 0, none⟩)] 106)) (w.heap.size + 1) ⟨v, k, s, some ⟨b, 0, none⟩⟩) := by
    refine ⟨?_, ?_⟩
    · rw [Below.heap_alloc _ _ _ (by simp)]; exact heap_last _ _ _ rfl
    · exact heap_last _ _ _ (by simp)
  have HFa := hid ((alloc_fr w (.cells #[.pointer (some ⟨B, 0, none⟩)] 96) (fun _ => False)).alloc (.cells #[.int .i64 v, .string k, .int .i64 s, .pointer (some ⟨b, 0, none⟩)] 106))
  generalize (w.alloc (.cells #[.pointer (some ⟨B, 0, none⟩)] 96)).alloc (.cells #[.int .i64 v, .string k, .int .i64 s, .pointer (some ⟨b, 0, none⟩)] 106) = wa at *
  have hsa : w.heap.size + 1 < wa.heap.size := lt_of_block HB0.out.2
  have HK := hid (fun (W' : World) (hf : Fr wa W' (R.bl B gr ge)) => (show W'.cell? ⟨w.heap.size, 0, none⟩ = some (.pointer (some ⟨B, 0, none⟩)) ∧ W'.cell? ⟨w.heap.size + 1, 0, none⟩ = some (.int .i64 v) ∧ W'.cell? ⟨w.heap.size + 1, 1, none⟩ = some (.string k) ∧ W'.cell? ⟨w.heap.size + 1, 2, none⟩ = some (.int .i64 s) ∧ W'.cell? ⟨w.heap.size + 1, 3, none⟩ = some (.pointer (some ⟨b, 0, none⟩)) from
    ⟨cell_of_one ((hf.block _ (lt_of_block HB0.out.1) (fun h => by have := HNb.out _ h; omega)).trans HB0.out.1), (HB0.out.2.fr hf (fun h => by have := HNb.out _ h; omega)).cells.1⟩))
  have HF := hid (Fr.refl wa (fun _ => False))
  have HFq := hid (Fr.refl wa (R.bl B gr ge))
  go_region_held3 (fun W' => Hid (Fr wa W' (R.bl B gr ge)) ∧ W'.cell? ⟨w.heap.size, 0, none⟩ = some (.pointer (some ⟨B, 0, none⟩)) ∧ W'.cell? ⟨w.heap.size + 1, 0, none⟩ = some (.int .i64 v) ∧ W'.cell? ⟨w.heap.size + 1, 1, none⟩ = some (.string k) ∧ W'.cell? ⟨w.heap.size + 1, 2, none⟩ = some (.int .i64 s) ∧ W'.cell? ⟨w.heap.size + 1, 3, none⟩ = some (.pointer (some ⟨b, 0, none⟩)))
    ((refine (fun h => ⟨h, HK.out _ h⟩ : Fr wa _ (R.bl B gr ge) → _) ?_; repeat (first | with_reducible exact HFq.out | with_reducible exact Fr.refl _ _ | with_reducible apply Fr.drew)))
    ((first
      | (go_at_call 106; refine (HTx.out _ (HFa.out.trans (by repeat (first | with_reducible exact HF.out | with_reducible exact Fr.refl _ _ | with_reducible apply Fr.drew | with_reducible apply Fr.alloc)))).mono ?_; rintro e w1 ⟨rfl, hf⟩; have HF := hid (Fr.trans (a := wa) (by repeat (first | with_reducible exact HF.out | with_reducible exact Fr.refl _ _ | with_reducible apply Fr.drew | with_reducible apply Fr.alloc)) hf); have HFq := hid (HF.out.mono (T := R.bl B gr ge) (fun _ _ h => h.elim)); clear hf)
      | (go_at_call 116; refine (HPt.out _ (HFa.out.trans (by repeat (first | with_reducible exact HF.out | with_reducible exact Fr.refl _ _ | with_reducible apply Fr.drew | with_reducible apply Fr.alloc)))).mono ?_; rintro e w2 ⟨rfl, hT2, hf⟩; have HFq := hid (Fr.trans (a := wa) (HF.out.mono (T := R.bl B gr ge) (fun _ _ h => h.elim)) (Fr.trans (by repeat (first | with_reducible exact Fr.refl _ _ | with_reducible apply Fr.drew)) hf)); obtain ⟨g1, g2, ht1, ht2⟩ := hT2; have HT2 := hid (And.intro ht1 (show R.Nb w B gr ge g1 g2 from fun q hq => (ht2 q hq).imp id (fun h => Nat.le_trans (HFa.out.trans HF.out).size h))); clear hf ht1 ht2)))
  all_goals (go_wp2_with fail)
  all_goals go_end0
  all_goals exact ⟨rfl, ⟨g1, g2, HT2.out⟩, (HFa.out.mono (fun _ _ h => h.elim)).trans HFq.out⟩
end Go.Proofs.YtgbkihkefdoddaaGreatDoor.S
end

section
/- A shard behind a write: what is laid where. -/
namespace Go.Proofs.YtgbkihkefdoddaaGreatDoor.S
open Go.RowKit G

theorem Found.mem {w w1 : World} {base : Nat} {M : List Ent} {c : Cl} {e : Ent} (h : Found w w1 base M c e) : (e ∈ M ∧ e.c = c) ∨ (getM M c = none ∧ w.heap.size ≤ e.b ∧ e.cv = .slice none 0 0) := by
  rcases h.2.2.2.2 with h1 | h1
  · exact Or.inl (getM_some h1)
  · exact Or.inr h1
/-- An entry of another cell lies apart from what was found. -/
theorem ShI.other {w w1 : World} {base S slots B gr : Nat} {ge : Option Nat} {T : Tb} {M : List Ent} (h : ShI w base S slots B gr ge T M) {c : Cl} {e : Ent} (hfd : Found w w1 base M c e) {f : Ent} (hf : f ∈ M) (hc : f.c ≠ c) : f.b ≠ e.b ∧ (∀ k, f.cv.ownBlock = some k → e.cv.ownBlock ≠ some k) ∧ e.cv.ownBlock ≠ some f.b ∧ (∀ k, f.cv.ownBlock = some k → k ≠ e.b) := by
  have kf := ch_kd (h.ch f hf)
  rcases hfd.mem with ⟨he, hec⟩ | ⟨hn, hb, hcv⟩
  · have ke := ch_kd (h.ch e he)
    have ha : apr f e := by
      have hp := h.apart
      rcases List.mem_iff_append.1 hf with ⟨l1, l2, rfl⟩
      rw [List.pairwise_append] at hp
      rcases List.mem_append.1 he with h1 | h1
      · exact apr_symm (hp.2.2 e h1 f (by simp))
      · rcases List.mem_cons.1 h1 with rfl | h1
        · exact absurd hec hc
        · exact (List.pairwise_cons.1 hp.2.1).1 e h1
    exact ⟨ha.2.1, ha.2.2, fun h1 => (ke.2 _ h1).ne kf.1 (by decide) rfl, fun k h1 => (kf.2 _ h1).ne ke.1 (by decide)⟩
  · have hl := kf.1.lt
    refine ⟨by omega, fun k _ => by rw [hcv]; simp [Value.ownBlock], by rw [hcv]; simp [Value.ownBlock], fun k h1 => ?_⟩
    have := (kf.2 k h1).lt
    omega

/-- What a write leaves, the table's new form given. -/
theorem ShI.laid {w w1 w3 w4 w5 : World} {base S slots B gr gr' : Nat} {ge ge' : Option Nat} {T T' : Tb} {M : List Ent} (h : ShI w base S slots B gr ge T M) {c : Cl} (hc : mayE c = 0) {e : Ent} (hfd : Found w w1 base M c e) {cv' : Value} {L' : List Vn}
    (h13 : Fr w1 w3 (fun k => k = e.b ∨ e.cv.ownBlock = some k)) (hch : Ch w3 base e.b cv' L') (hnw : Nw w1 e.cv cv')
    (hT4 : R.TbAt w4 B gr' ge' T') (hnb : R.Nb w3 B gr ge gr' ge') (h34 : Fr w3 w4 (R.bl B gr ge)) (hI : Inv T') (has : ∀ k v, Has T' k v ↔ (k = key c ∧ v = rwV c e.b) ∨ (k ≠ key c ∧ Has T k v)) (hkeys : T'.keys = (setM M ⟨c, e.b, cv', L'⟩).length) (htl : T'.row.length ≤ 4194320)
    (hS5 : w5.heap[S]? = some (.cells #[.pointer (some ⟨B, 0, none⟩), .int .i64 (slots : Int), .int .i64 (nV (setV (M.map pr) c L') : Int), .int .i64 (nT (setV (M.map pr) c L') : Int), .int .i64 (mxV (setV (M.map pr) c L') : Int)] 101 (0, 0))) (h45 : Fr w4 w5 (fun k => k = S)) (hne : L' ≠ []) (hroom : nU (setV (M.map pr) c L') ≤ slots) :
    ∃ X', Sh w5 base S slots X' (setV (M.map pr) c L') ∧ Fr w w5 (own S B gr ge M) ∧ ∀ b, X' b → own S B gr ge M b ∨ w.heap.size ≤ b := by
  have hF1 := hfd.2.2.2.1
  have hs1 := hF1.size
  have hs3 := h13.size
  have hkS : Kd w S 101 := ⟨_, h.cell⟩
  obtain ⟨hkB, hkg, hke⟩ := tb_kd h.tb
  have hbase : base ≤ w.heap.size := Nat.le_of_lt (Nat.lt_of_le_of_lt (h.lo S (Or.inl rfl)) hkS.lt)
  have hblk : ∀ {k t}, Kd w k t → t ≠ 188 → t ≠ 195 → ¬ R.bl B gr ge k := by
    rintro k t hk h1 h2 (rfl | rfl | hb)
    · exact hk.ne hkB h1 rfl
    · exact hk.ne hkg h2 rfl
    · exact hk.ne (hke k hb) h2 rfl
  have hge : ∀ {k}, w.heap.size ≤ k → ¬ R.bl B gr ge k := fun hk hb => by have := h.tb.bl_lt hb; omega
  -- the cell's own blocks
  have heb : ¬ R.bl B gr ge e.b ∧ e.b ≠ S := by
    rcases hfd.mem with ⟨he, _⟩ | ⟨_, hb, _⟩
    · have := (ch_kd (h.ch e he)).1
      exact ⟨hblk this (by decide) (by decide), this.ne hkS (by decide)⟩
    · exact ⟨hge hb, fun e2 => by have := hkS.lt; omega⟩
  have hcvb : ∀ k, cv'.ownBlock = some k → (e ∈ M ∧ e.cv.ownBlock = some k) ∨ w.heap.size ≤ k := by
    intro k hk
    rcases hnw k hk with h1 | h1
    · rcases hfd.mem with ⟨he, _⟩ | ⟨_, _, hcv⟩
      · exact Or.inl ⟨he, h1⟩
      · rw [hcv] at h1; simp [Value.ownBlock] at h1
    · exact Or.inr (by omega)
  have hcv2 : ∀ k, cv'.ownBlock = some k → ¬ R.bl B gr ge k ∧ k ≠ S := by
    intro k hk
    rcases hcvb k hk with ⟨he, h1⟩ | h1
    · have := (ch_kd (h.ch e he)).2 k h1
      exact ⟨hblk this (by decide) (by decide), this.ne hkS (by decide)⟩
    · exact ⟨hge h1, fun e2 => by have := hkS.lt; omega⟩
  have hown : ∀ k, (k = e.b ∨ e.cv.ownBlock = some k) → k < w.heap.size → own S B gr ge M k := by
    intro k hk hlt
    rcases hfd.mem with ⟨he, _⟩ | ⟨_, hb, hcv⟩
    · exact Or.inr (Or.inr ⟨e, he, hk⟩)
    · rcases hk with rfl | hk
      · omega
      · rw [hcv] at hk; simp [Value.ownBlock] at hk
  have hFr : Fr w w5 (own S B gr ge M) :=
    (((hF1.mono (T := own S B gr ge M) (fun _ _ h => h.elim)).trans2 h13 (fun k hk hs => hown k hs hk)).trans2 h34 (fun k _ hs => Or.inr (Or.inl hs))).trans2 h45 (fun k _ hs => Or.inl hs)
  have hMx : ∀ f, f ∈ setM M ⟨c, e.b, cv', L'⟩ ↔ f = ⟨c, e.b, cv', L'⟩ ∨ (f ∈ M ∧ f.c ≠ c) := fun f => mem_setM h.apart
  have hgl : ¬ own S B gr ge M gM := fun hx => by have := h.lo _ hx; have := h.gb; omega
  have hlo : ∀ b, own S B gr' ge' (setM M ⟨c, e.b, cv', L'⟩) b → own S B gr ge M b ∨ w.heap.size ≤ b := by
    rintro b (rfl | hb | ⟨f, hf, hb⟩)
    · exact Or.inl (Or.inl rfl)
    · rcases hnb b hb with h1 | h1
      · exact Or.inl (Or.inr (Or.inl h1))
      · exact Or.inr (by omega)
    · rcases (hMx f).1 hf with rfl | ⟨hf, _⟩
      · rcases hb with rfl | hb
        · rcases hfd.mem with ⟨he, _⟩ | ⟨_, hb, _⟩
          · exact Or.inl (Or.inr (Or.inr ⟨e, he, Or.inl rfl⟩))
          · exact Or.inr hb
        · rcases hcvb b hb with ⟨he, h1⟩ | h1
          · exact Or.inl (Or.inr (Or.inr ⟨e, he, Or.inr h1⟩))
          · exact Or.inr h1
      · exact Or.inl (Or.inr (Or.inr ⟨f, hf, hb⟩))
  refine ⟨own S B gr' ge' (setM M ⟨c, e.b, cv', L'⟩), ⟨B, gr', ge', T', setM M ⟨c, e.b, cv', L'⟩, ?_, setM_pr M _, rfl⟩, hFr, hlo⟩
  have hV : (setM M ⟨c, e.b, cv', L'⟩).map pr = setV (M.map pr) c L' := setM_pr M _
  exact
    { cell := by rw [hV]; exact hS5
      tb := hT4.fr h45 (fun b hb e2 => by
        subst e2
        rcases hnb b hb with h1 | h1
        · exact (hblk hkS (by decide) (by decide)) h1
        · have := hkS.lt; omega)
      inv := hI
      has := fun k v => by
        rw [has]
        constructor
        · rintro (⟨rfl, rfl⟩ | ⟨hk, hv⟩)
          · exact ⟨_, (hMx _).2 (Or.inl rfl), rfl, rfl⟩
          · obtain ⟨f, hf, rfl, rfl⟩ := (h.has k v).1 hv
            exact ⟨f, (hMx f).2 (Or.inr ⟨hf, fun e2 => hk (by rw [e2])⟩), rfl, rfl⟩
        · rintro ⟨f, hf, rfl, rfl⟩
          rcases (hMx f).1 hf with rfl | ⟨hf, hfc⟩
          · exact Or.inl ⟨rfl, rfl⟩
          · exact Or.inr ⟨fun e2 => hfc (key_inj (h.may f hf) hc e2), (h.has _ _).2 ⟨f, hf, rfl, rfl⟩⟩
      ch := fun f hf => by
        rcases (hMx f).1 hf with rfl | ⟨hf, hfc⟩
        · exact (hch.fr h34 heb.1 (fun k hk => (hcv2 k hk).1)).fr h45 heb.2 (fun k hk => (hcv2 k hk).2)
        · have kf := ch_kd (h.ch f hf)
          obtain ⟨o1, o2, o3, o4⟩ := h.other hfd hf hfc
          have c1 := (h.ch f hf).step hF1
          have c3 := c1.fr h13 (fun e2 => by rcases e2 with e2 | e2; exact o1 e2; exact o3 e2) (fun k hk e2 => by rcases e2 with e2 | e2; exact o4 k hk e2; exact o2 k hk e2)
          have c4 := c3.fr h34 (hblk kf.1 (by decide) (by decide)) (fun k hk => hblk (kf.2 k hk) (by decide) (by decide))
          exact c4.fr h45 (kf.1.ne hkS (by decide)) (fun k hk => (kf.2 k hk).ne hkS (by decide))
      ne := fun f hf => by
        rcases (hMx f).1 hf with rfl | ⟨hf, _⟩
        · exact hne
        · exact h.ne f hf
      may := fun f hf => by
        rcases (hMx f).1 hf with rfl | ⟨hf, _⟩
        · exact hc
        · exact h.may f hf
      apart := setM_apr h.apart (fun f hf hfc => by
        obtain ⟨o1, o2, _, _⟩ := h.other hfd hf hfc
        refine ⟨hfc, o1, fun k hk hk2 => ?_⟩
        rcases hnw k hk2 with h1 | h1
        · exact o2 k hk h1
        · have := ((ch_kd (h.ch f hf)).2 k hk).lt
          omega)
      lo := fun b hb => by
        rcases hlo b hb with h1 | h1
        · exact h.lo b h1
        · omega
      gl := h.gl.fr hFr hgl
      gb := h.gb
      room := by rw [hV]; exact hroom
      sl := h.sl
      keys := hkeys
      tlen := htl }
theorem setM_len {M : List Ent} {x : Ent} : (setM M x).length = match getM M x.c with | some _ => M.length | none => M.length + 1 := by
  induction M with
  | nil => rfl
  | cons e r ih =>
    unfold setM getM
    by_cases h : e.c = x.c
    · rw [if_pos h, if_pos h]
      rfl
    · rw [if_neg h, if_neg h, List.length_cons, ih]
      split <;> simp
/-- The table behind a row that was kept. -/
theorem ShI.kept {w : World} {base S slots B gr : Nat} {ge : Option Nat} {T : Tb} {M : List Ent} (h : ShI w base S slots B gr ge T M) {c : Cl} (hc : mayE c = 0) (b : Nat) (cv' : Value) (L' : List Vn) : Inv (putT zR T (key c) (rwV c b)) ∧ (∀ k v, Has (putT zR T (key c) (rwV c b)) k v ↔ (k = key c ∧ v = rwV c b) ∨ (k ≠ key c ∧ Has T k v)) ∧ (putT zR T (key c) (rwV c b)).keys = (setM M ⟨c, b, cv', L'⟩).length ∧ (putT zR T (key c) (rwV c b)).row.length ≤ 4194320 := by
  have hml : M.length ≤ 1048576 := by
    have h1 := nV_len h.ne
    have h2 := h.room
    have h3 := h.sl
    unfold nU at h2
    omega
  rw [setM_len]
  cases hm : getM M c with
  | some e =>
    obtain ⟨h1, h2⟩ := getM_some hm
    obtain ⟨a1, a2, a3, a4, _⟩ := put_there (z := zR) h.inv (rwV c b) ((h.has (key c) (rwV e.c e.b)).2 ⟨e, h1, by rw [h2], rfl⟩)
    exact ⟨a1, a2, by rw [a3, h.keys], by rw [a4]; exact h.tlen⟩
  | none =>
    obtain ⟨a1, a2, a3, a4, _⟩ := put_new (z := zR) h.inv (rwV c b) (k := key c) (fun v hv => by
      obtain ⟨e, he, h1, _⟩ := (h.has _ _).1 hv
      exact getM_none hm e he (key_inj (h.may e he) hc h1.symm))
    refine ⟨a1, a2, by rw [a3, h.keys], ?_⟩
    rw [a4]
    have h5 := h.tlen
    have h6 := h.keys
    split <;> omega
end Go.Proofs.YtgbkihkefdoddaaGreatDoor.S
end

section
/- shard: Put: a walk. -/
namespace Go.Proofs.YtgbkihkefdoddaaGreatDoor.S
open Go.RowKit G

def rightA (a : A4) : Bool := A.rightB a.c a.s a.m a.x
/-- P703: the error. -/
noncomputable def putErr (V : Vw) (slots : Nat) (e : Int) (c : Cl) (a : A4) : Int :=
  if mayE c ≠ 0 then mayE c else if e < 1 ∨ 1099511627776 < e then 1 else if a.c = 0 ∨ rightA a = false then 1 else if e < (nw (getV V c)).e then 32 else if slots < nU V + needN (getV V c) e then 31 else 0
noncomputable def putS (V : Vw) (slots : Nat) (e : Int) (c : Cl) (a : A4) : Vw := if putErr V slots e c a = 0 then setV V c (layL (getV V c) ⟨e, true, a⟩) else V
/-- What a write leaves. -/
def Left (w w' : World) (base S slots : Nat) (X : Nat → Prop) (V' : Vw) : Prop := ∃ X', Sh w' base S slots X' V' ∧ Fr w w' X ∧ ∀ b, X' b → X b ∨ w.heap.size ≤ b
theorem Left.none {w w' : World} {base S slots : Nat} {X : Nat → Prop} {V : Vw} (h : Sh w base S slots X V) (hf : Fr w w' (fun _ => False)) : Left w w' base S slots X V := ⟨X, h.step hf, hf.mono (fun _ _ h => h.elim), fun _ h => Or.inl h⟩
theorem Found.pre {w W w2 : World} {base : Nat} {M : List Ent} {c : Cl} {e : Ent} (h : Found W w2 base M c e) (hf : Fr w W (fun _ => False)) : Found w w2 base M c e :=
  ⟨h.1, h.2.1, h.2.2.1, hf.trans h.2.2.2.1, h.2.2.2.2.imp id (fun ⟨a, b, c⟩ => ⟨a, Nat.le_trans hf.size b, c⟩)⟩
theorem Found.step {w w1 w2 : World} {base : Nat} {M : List Ent} {c : Cl} {e : Ent} (h : Found w w1 base M c e) (hf : Fr w1 w2 (fun _ => False)) : Found w w2 base M c e :=
  ⟨h.1, h.2.1, h.2.2.1.step hf, h.2.2.2.1.trans hf, h.2.2.2.2⟩
/-- A row that was handed in, in its block. -/
def Ro7 (W : World) (N : Nat) (c : Cl) (a : A4) : Prop := W.heap[N]? = some (.cells #[.int .i64 c.v, .string c.k, .int .i64 c.s, .int .i64 a.c, .int .i64 a.s, .int .i64 a.m, .int .i64 a.x] 58 (0, 0))
theorem Ro7.fr {W W' : World} {P : Nat → Prop} {N : Nat} {c : Cl} {a : A4} (h : Ro7 W N c a) (hf : Fr W W' P) (hP : ¬ P N) : Ro7 W' N c a := (hf.block N (lt_of_block h) hP).trans h
theorem Ro7.cells {W : World} {N : Nat} {c : Cl} {a : A4} (h : Ro7 W N c a) : W.cell? ⟨N, 0, none⟩ = some (.int .i64 c.v) ∧ W.cell? ⟨N, 1, none⟩ = some (.string c.k) ∧ W.cell? ⟨N, 2, none⟩ = some (.int .i64 c.s) ∧ W.cell? ⟨N, 3, none⟩ = some (.int .i64 a.c) ∧ W.cell? ⟨N, 4, none⟩ = some (.int .i64 a.s) ∧ W.cell? ⟨N, 5, none⟩ = some (.int .i64 a.m) ∧ W.cell? ⟨N, 6, none⟩ = some (.int .i64 a.x) := by
  have h' : W.heap[N]? = _ := h
  refine ⟨?_, ?_, ?_, ?_, ?_, ?_, ?_⟩ <;> simp [World.cell?, h']

/-- The numbers behind a Put. -/
theorem put_nums {V : Vw} {c : Cl} {e : Int} {a : A4} (hg : G.Good (getV V c)) (he : 1 ≤ e ∧ e ≤ 1099511627776) (ha : fit4 a) (hle : (nw (getV V c)).e ≤ e) :
    (nV (setV V c (layL (getV V c) ⟨e, true, a⟩)) : Int) = nV V + layN (getV V c) ⟨e, true, a⟩ ∧ (nT (setV V c (layL (getV V c) ⟨e, true, a⟩)) : Int) = nT V + ((needN (getV V c) e : Int) - layN (getV V c) ⟨e, true, a⟩) ∧ (mxV (setV V c (layL (getV V c) ⟨e, true, a⟩)) : Int) = max (mxV V : Int) ((layL (getV V c) ⟨e, true, a⟩).length : Int) ∧ nU (setV V c (layL (getV V c) ⟨e, true, a⟩)) = nU V + needN (getV V c) e := by
  have hx : (⟨e, true, a⟩ : Vn).ok := ⟨he.1, he.2, ha, fun h => by cases h⟩
  have h1 := layL_len hg ⟨e, true, a⟩ hx
  have h2 := setV_nV V c (layL (getV V c) ⟨e, true, a⟩)
  have h3 := setV_nT V c (layL (getV V c) ⟨e, true, a⟩)
  have hn : 0 ≤ layN (getV V c) ⟨e, true, a⟩ := by unfold layN; split <;> omega
  have h4 := setV_mx V c (layL (getV V c) ⟨e, true, a⟩) (by omega)
  have h5 : th (layL (getV V c) ⟨e, true, a⟩) = 1 := by unfold th; rw [layL_nw]; rfl
  have h6 : (needN (getV V c) e : Int) = layN (getV V c) ⟨e, true, a⟩ + (1 - (th (getV V c) : Int)) := by
    unfold needN layN th
    rw [if_neg (by omega)]
    dsimp only
    by_cases hq : e = (nw (getV V c)).e
    · rw [if_neg (by omega), if_pos hq]
      split <;> simp
    · rw [if_pos (by omega), if_neg hq]
      split <;> simp
  rw [h5] at h3
  have h7 := (getV_nV V c).2
  refine ⟨by omega, by omega, by rw [h4]; omega, ?_⟩
  unfold nU
  omega

set_option maxHeartbeats 2000000 in
set_option maxRecDepth 100000 in
theorem put_err {base S slots : Nat} {X : Nat → Prop} {V : Vw} (e : Int) (c : Cl) (a : A4) (w : World) (h : Sh w base S slots X V) (hk : c.k.size ≤ 9223372036854775807) (ha : fit4 a) (hbad : mayE c ≠ 0 ∨ (e < 1 ∨ 1099511627776 < e) ∨ (a.c = 0 ∨ rightA a = false)) :
    Calls Tryz.prog 26 #[.pointer (some ⟨S, 0, none⟩), .int .i64 e, .agg #[.int .i64 c.v, .string c.k, .int .i64 c.s, .int .i64 a.c, .int .i64 a.s, .int .i64 a.m, .int .i64 a.x]] w fun r w' => r = .returned (.int .i64 (putErr V slots e c a)) ∧ Left w w' base S slots X (putS V slots e c a) := by
  have HCk := hid (fun W => check_any e c W hk)
  have HRt := hid (fun W => A.right_any ⟨a.c, a.s, a.m, a.x⟩ ⟨ha.1, ha.2.1, ha.2.2.1, ha.2.2.2⟩ W)
  have HSh := hid h
  have key : ∀ m : Int, m ≠ 0 → putErr V slots e c a = m → (∀ w', Fr w w' (fun _ => False) → Left w w' base S slots X (putS V slots e c a)) := by
    intro m hm he w' hf
    have : putS V slots e c a = V := by unfold putS; rw [he, if_neg hm]
    rw [this]
    exact Left.none h hf
  by_cases h1 : mayE c = 0
  · by_cases h2 : e < 1 ∨ 1099511627776 < e
    · have he : putErr V slots e c a = 1 := by unfold putErr; rw [if_neg (by simpa using h1), if_pos h2]
      have HK := hid (key 1 (by decide) he)
      rw [he]
      rw [h1, if_pos rfl, if_pos h2] at HCk
      clear h key h1 h2 hbad he
      go_enter Tryz.func26, Tryz.ntmps26
      go_wp2_with fail
      refine (HCk.out _).mono ?_
      rintro r w1 ⟨rfl, hf⟩
      have HF := hid ((alloc_fr w _ _).trans hf)
      clear hf
      go_wp2_with fail
      go_ret
      exact ⟨rfl, HK.out _ HF.out⟩
    · have h3 : a.c = 0 ∨ rightA a = false := by
        rcases hbad with h | h | h
        · exact absurd h1 h
        · exact absurd h h2
        · exact h
      have he : putErr V slots e c a = 1 := by unfold putErr; rw [if_neg (by simpa using h1), if_neg h2, if_pos h3]
      have HK := hid (key 1 (by decide) he)
      rw [he]
      rw [h1, if_pos rfl, if_neg h2] at HCk
      by_cases h4 : a.c = 0
      · rw [h4]
        have hab : a = ⟨0, a.s, a.m, a.x⟩ := by cases a; simp only at h4; subst h4; rfl
        clear h key h1 h2 hbad he h3 hab
        go_enter Tryz.func26, Tryz.ntmps26
        go_wp2_with fail
        refine (HCk.out _).mono ?_
        rintro r w1 ⟨rfl, hf⟩
        have HR : Hid (Ro7 w1 w.heap.size c ⟨0, a.s, a.m, a.x⟩) := (hf.block w.heap.size (by simp) (fun h => h)).trans (heap_last _ _ _ rfl)
        obtain ⟨r0, r1, r2, r3, r4, r5, r6⟩ := HR.out.cells
        have hrl := lt_of_block HR.out
        have HF := hid ((alloc_fr w _ _).trans hf)
        clear hf
        dsimp only at r3 r4 r5 r6
        go_wp2_with fail
        go_ret
        exact ⟨rfl, HK.out _ HF.out⟩
      · have h5 : rightA a = false := by
          rcases h3 with h3 | h3
          · exact absurd h3 h4
          · exact h3
        have t4 : (a.c == 0) = false := by simpa using h4
        have h6 : A.rightB a.c a.s a.m a.x = false := h5
        rw [h6] at HRt
        clear h key h1 h2 hbad he h3 h4 h5 h6
        go_enter Tryz.func26, Tryz.ntmps26
        go_wp2_with fail
        refine (HCk.out _).mono ?_
        rintro r w1 ⟨rfl, hf⟩
        have HR : Hid (Ro7 w1 w.heap.size c a) := (hf.block w.heap.size (by simp) (fun h => h)).trans (heap_last _ _ _ rfl)
        obtain ⟨r0, r1, r2, r3, r4, r5, r6⟩ := HR.out.cells
        have hrl := lt_of_block HR.out
        have HF := hid ((alloc_fr w _ _).trans hf)
        clear hf
        go_wp2_with fail
        refine (HRt.out _).mono ?_
        rintro r w2 ⟨rfl, hf⟩
        have HF2 := hid (HF.out.trans hf)
        clear hf
        go_wp2_with fail
        go_ret
        exact ⟨rfl, HK.out _ HF2.out⟩
  · have he : putErr V slots e c a = mayE c := by unfold putErr; rw [if_pos h1]
    have HK := hid (key (mayE c) h1 he)
    rw [he]
    rw [if_neg h1] at HCk
    generalize mayE c = m at *
    have t1 : (m != 0) = true := by simpa using h1
    clear h key h1 hbad he
    go_enter Tryz.func26, Tryz.ntmps26
    go_wp2_with fail
    refine (HCk.out _).mono ?_
    rintro r w1 ⟨rfl, hf⟩
    have HF := hid ((alloc_fr w _ _).trans hf)
    clear hf
    go_wp2_with fail
    go_ret
    exact ⟨rfl, HK.out _ HF.out⟩
end Go.Proofs.YtgbkihkefdoddaaGreatDoor.S
end

section
/- shard: Put, where nothing is wrong with the row: a walk. -/
namespace Go.Proofs.YtgbkihkefdoddaaGreatDoor.S
open Go.RowKit G

theorem Found.beside {w w3 w4 : World} {base : Nat} {M : List Ent} {c : Cl} {e : Ent} (h : Found w w3 base M c e) {N : Nat} {t : TypeId} (hf : Fr w3 w4 (fun b => b = N)) (hk : Kd w3 N t) (h1 : t ≠ 147) (h2 : t ≠ 143) (hN : w.heap.size ≤ N) : Found w w4 base M c e := by
  have kc := ch_kd h.2.2.1
  exact ⟨h.1, h.2.1, h.2.2.1.fr hf (fun e2 => kc.1.ne hk (fun e3 => h1 e3.symm) e2) (fun k hk2 e2 => (kc.2 k hk2).ne hk (fun e3 => h2 e3.symm) e2), h.2.2.2.1.trans2 hf (fun i hi e2 => by omega), h.2.2.2.2⟩
theorem layL_ne (L : List Vn) (x : Vn) : layL L x ≠ [] := by unfold layL; split <;> simp
def set4 (w : World) (N : Nat) (x : R.Rw) : World := (((w.setCell ⟨N, 0, none⟩ (.int .i64 x.v)).setCell ⟨N, 1, none⟩ (.string x.k)).setCell ⟨N, 2, none⟩ (.int .i64 x.s)).setCell ⟨N, 3, none⟩ (.pointer x.p)
theorem set4_fr (w : World) (N : Nat) (x : R.Rw) : Fr w (set4 w N x) (fun b => b = N) := ((((Fr.refl w (fun b => b = N)).setCell (p := ⟨N, 0, none⟩) (fun _ => rfl) _).setCell (p := ⟨N, 1, none⟩) (fun _ => rfl) _).setCell (p := ⟨N, 2, none⟩) (fun _ => rfl) _).setCell (p := ⟨N, 3, none⟩) (fun _ => rfl) _

set_option maxHeartbeats 8000000 in
set_option maxRecDepth 100000 in
theorem put_ok {base S slots : Nat} {X : Nat → Prop} {V : Vw} (e : Int) (c : Cl) (a : A4) (w : World) (h : Sh w base S slots X V) (ha : fit4 a) (hm : mayE c = 0) (he : 1 ≤ e ∧ e ≤ 1099511627776) (hac : a.c ≠ 0) (hrt : rightA a = true) :
    Calls Tryz.prog 26 #[.pointer (some ⟨S, 0, none⟩), .int .i64 e, .agg #[.int .i64 c.v, .string c.k, .int .i64 c.s, .int .i64 a.c, .int .i64 a.s, .int .i64 a.m, .int .i64 a.x]] w fun r w' => r = .returned (.int .i64 (putErr V slots e c a)) ∧ Left w w' base S slots X (putS V slots e c a) := by
  have hk : c.k.size ≤ 9223372036854775807 := by have := (mayE_zero hm).2.1.2; omega
  have HCk := hid (fun W => check_any e c W hk)
  rw [if_pos hm, if_neg (by omega)] at HCk
  have HRt := hid (fun W => A.right_any ⟨a.c, a.s, a.m, a.x⟩ ⟨ha.1, ha.2.1, ha.2.2.1, ha.2.2.2⟩ W)
  rw [show A.rightB a.c a.s a.m a.x = true from hrt] at HRt
  have HSh := hid h
  have HEr : Hid (putErr V slots e c a = if e < (nw (getV V c)).e then 32 else if slots < nU V + needN (getV V c) e then 31 else 0) := by
    show _ = _
    unfold putErr
    rw [if_neg (by simpa using hm), if_neg (by omega), if_neg (by rw [hrt]; simpa using hac)]
  have HPS : Hid (putS V slots e c a = if putErr V slots e c a = 0 then setV V c (layL (getV V c) ⟨e, true, a⟩) else V) := rfl
  have t4 : (a.c == 0) = false := by simpa using hac
  have HLn : Hid (∀ w', Fr w w' (fun _ => False) → Left w w' base S slots X V) := fun w' hf => Left.none h hf
  obtain ⟨B, gr, ge, T, M, h1, rfl, rfl⟩ := h
  have HI := hid h1
  have hSl := lt_of_block h1.cell
  have HFd := hid (fun (W : World) (hf : Fr w W (fun _ => False)) => find_any c W (h1.step hf) hm)
  have HM := hid hm
  have HA := hid ha
  have HE := hid he
  clear h1 hk hac hrt hm
  obtain ⟨v, k, s⟩ := c
  dsimp only at *
  go_enter Tryz.func26, Tryz.ntmps26
  go_wp2_with fail
  refine (HCk.out _).mono ?_
  rintro r w1 ⟨rfl, hf⟩
  have HR1 : Hid (Ro7 w1 w.heap.size ⟨v, k, s⟩ a) := (hf.block w.heap.size (by simp) (fun h => h)).trans (heap_last _ _ _ rfl)
  obtain ⟨r0, r1, r2, r3, r4, r5, r6⟩ := HR1.out.cells
  have hrl := lt_of_block HR1.out
  have HF1 := hid ((alloc_fr w _ _).trans hf)
  clear hf HCk
  go_wp2_with fail
  refine (HRt.out _).mono ?_
  rintro r w2 ⟨rfl, hf⟩
  have HR2 := hid (HR1.out.fr hf (fun h => h))
  have HF2 := hid (HF1.out.trans hf)
  clear hf r0 r1 r2 r3 r4 r5 r6 hrl HRt HR1 HF1
  have hrl := lt_of_block HR2.out
  have HK := hid (fun (W' : World) (hf : Fr w2 W' (fun _ => False)) => (show W'.cell? ⟨S, 0, none⟩ = some (.pointer (some ⟨B, 0, none⟩)) ∧ W'.cell? ⟨w.heap.size, 0, none⟩ = some (.int .i64 v) ∧ W'.cell? ⟨w.heap.size, 1, none⟩ = some (.string k) ∧ W'.cell? ⟨w.heap.size, 2, none⟩ = some (.int .i64 s) from by
    obtain ⟨r0, r1, r2, _⟩ := (HR2.out.fr hf (fun h => h)).cells
    exact ⟨(cells5 ((HI.out.step (HF2.out.trans hf)).cell)).1.1, r0, r1, r2⟩))
  obtain ⟨k0, k1, k2, k3⟩ := HK.out w2 (Fr.refl _ _)
  have HF := hid (Fr.refl w2 (fun _ => False))
  have hs2 := HF2.out.size
  go_wp2_with fail
  go_cut [8] (fun s8 wx => ∃ N8 ee, s8 = .pointer (some ⟨N8, 0, none⟩) ∧ Hid (RwAt wx N8 ⟨v, k, s, some ⟨ee.b, 0, none⟩⟩ ∧ w2.heap.size ≤ N8 ∧ Found w wx base M ⟨v, k, s⟩ ee ∧ Fr w2 wx (fun _ => False)))
  case first =>
    go_region_held3 (fun W' => Hid (Fr w2 W' (fun _ => False)) ∧ W'.cell? ⟨S, 0, none⟩ = some (.pointer (some ⟨B, 0, none⟩)) ∧ W'.cell? ⟨w.heap.size, 0, none⟩ = some (.int .i64 v) ∧ W'.cell? ⟨w.heap.size, 1, none⟩ = some (.string k) ∧ W'.cell? ⟨w.heap.size, 2, none⟩ = some (.int .i64 s))
      ((refine (fun h => ⟨h, HK.out _ h⟩ : Fr w2 _ (fun _ => False) → _) ?_; repeat (first | with_reducible exact HF.out | with_reducible exact Fr.refl _ _ | with_reducible apply Fr.drew | with_reducible apply Fr.alloc | (with_reducible refine Fr.setCell ?_ ?_ _; rotate_left; (intro h; exfalso; first | (dsimp only at h; omega) | (simp at h; omega))))))
      ((go_at_call 65; refine (HFd.out _ (HF2.out.trans (by repeat (first | with_reducible exact HF.out | with_reducible exact Fr.refl _ _ | with_reducible apply Fr.drew | with_reducible apply Fr.alloc)))).mono ?_; rintro r w3 ⟨ee, rfl, hfd⟩; unfold rwV; (try (have HZ := hid (RwAt.fr (by first | exact RwAt.new0 _ w2.heap.size rfl | exact RwAt.drew (RwAt.new0 _ w2.heap.size rfl)) hfd.2.2.2.1 (fun h => h)); obtain ⟨⟨z0, z1, z2, z3⟩, y0⟩ := HZ.out.cells; have HZn := hid (Nat.le_refl w2.heap.size); have hzl := lt_of_block HZ.out)); have HFo := hid (Found.pre hfd (HF2.out.trans (by repeat (first | with_reducible exact HF.out | with_reducible exact Fr.refl _ _ | with_reducible apply Fr.drew | with_reducible apply Fr.alloc)))); have HF := hid (Fr.trans (a := w2) (by repeat (first | with_reducible exact HF.out | with_reducible exact Fr.refl _ _ | with_reducible apply Fr.drew | with_reducible apply Fr.alloc)) hfd.2.2.2.1); have hs3 := HF.out.size; clear hfd))
    all_goals (go_wp2_with fail)
    all_goals go_meet
    · exact ⟨_, ee, rfl, hid ⟨RwAt.new _ ⟨v, k, s, some ⟨ee.b, 0, none⟩⟩ _ rfl, HF.out.size, HFo.out.step (alloc_fr _ _ _), HF.out.alloc _⟩⟩
    · have hq := set4_fr w3 w2.heap.size ⟨v, k, s, some ⟨ee.b, 0, none⟩⟩
      exact ⟨_, ee, rfl, hid ⟨RwAt.set HZ.out ⟨v, k, s, some ⟨ee.b, 0, none⟩⟩, Nat.le_refl _, HFo.out.beside hq ⟨_, HZ.out⟩ (by decide) (by decide) hs2, HF.out.trans2 hq (fun i hi e2 => by omega)⟩⟩
  case rest =>
    obtain ⟨N8, ee, rfl, HX⟩ := hcut
    obtain ⟨hRw, hN8, hfd, hFx⟩ := HX.out
    have HRw := hid hRw
    have HFo := hid hfd
    have HFx := hid hFx
    have hL : ee.L = getV (M.map pr) ⟨v, k, s⟩ := hfd.2.1
    have HNd := hid (fun (W : World) (hf : Fr wc W (fun _ => False)) => need_any ⟨v, k, s⟩ e W (hfd.2.2.1.step hf))
    unfold rwV at HNd
    rw [hL] at HNd
    dsimp only at HNd
    have HFt := hid (fun (W : World) (hf : Fr wc W (fun _ => False)) => fits_any (needN (getV (M.map pr) ⟨v, k, s⟩) e) (by have := needN_le (getV (M.map pr) ⟨v, k, s⟩) e; omega) W (HSh.out.step (hfd.2.2.2.1.trans hf)))
    have HR := hid (HR2.out.fr hFx (fun h => h))
    have hlen : ee.L.length < 2000000 := by
      have h1 := (getV_nV (M.map pr) ⟨v, k, s⟩).1
      have h2 := HI.out.room
      have h3 := HI.out.sl
      unfold nU at h2
      rw [hL]
      omega
    have HBd := hid (fun (W : World) (hf : Fr wc W (fun _ => False)) (hw : wrong ee.L e ≠ 0) => put_bad e a W (hfd.2.2.1.step hf) hw)
    have HGd := hid (fun (W : World) (hf : Fr wc W (fun _ => False)) => put_any e a W (hfd.2.2.1.step hf) HA.out hlen (by have h1 := HI.out.lo S (Or.inl rfl); have h2 := (hfd.2.2.2.1.trans hf).size; omega))
    obtain ⟨⟨z0, z1, z2, z3⟩, _⟩ := hRw.cells
    have hzl := lt_of_block hRw
    have HL := hid hL
    have hsw := HFo.out.2.2.2.1.size
    clear hRw hfd hFx hL hlen k0 k1 k2 k3 HK HF HFd
    go_wp2_with fail
    refine (HNd.out _ (Fr.refl _ _)).mono ?_
    rintro r w4 ⟨rfl, hf⟩
    have HF4 := hid hf
    clear hf HNd
    go_wp2_with fail
    refine (HFt.out _ HF4.out).mono ?_
    rintro r w5 ⟨rfl, hf⟩
    have HF5 := hid (HF4.out.trans hf)
    clear hf HFt
    by_cases hold : e < (nw (getV (M.map pr) ⟨v, k, s⟩)).e
    · have hn0 : needN (getV (M.map pr) ⟨v, k, s⟩) e = 0 := by unfold needN; rw [if_pos hold]
      have hw : wrong ee.L e = 32 := by unfold wrong; rw [HL.out, if_neg (by have := HE.out; omega), if_pos hold]
      have hee : putErr (M.map pr) slots e ⟨v, k, s⟩ a = 32 := by rw [HEr.out, if_pos hold]
      have hps : putS (M.map pr) slots e ⟨v, k, s⟩ a = M.map pr := by rw [HPS.out, hee]; rfl
      have HEE := hid (And.intro hee hps)
      rw [show decide (nU (M.map pr) + needN (getV (M.map pr) ⟨v, k, s⟩) e ≤ slots) = true by rw [hn0]; simpa using HI.out.room]
      have HB := hid (HBd.out w5 HF5.out (by rw [hw]; decide))
      rw [hw] at HB
      obtain ⟨⟨z0, z1, z2, z3⟩, _⟩ := (HRw.out.fr HF5.out (fun h => h)).cells
      obtain ⟨r0, r1, r2, r3, r4, r5, r6⟩ := (HR.out.fr HF5.out (fun h => h)).cells
      have hzl5 := lt_of_block (HRw.out.fr HF5.out (fun h => h))
      have hrl5 := lt_of_block (HR.out.fr HF5.out (fun h => h))
      clear HBd HGd hold hn0 hw hee hps
      go_wp2_with fail
      refine HB.out.mono ?_
      rintro r w6 ⟨rfl, hf⟩
      have HF6 := hid (HFo.out.2.2.2.1.trans (HF5.out.trans hf))
      clear hf
      go_wp2_with fail
      go_ret
      rw [HEE.out.1, HEE.out.2]
      exact ⟨rfl, HLn.out _ HF6.out⟩
    by_cases hfull : slots < nU (M.map pr) + needN (getV (M.map pr) ⟨v, k, s⟩) e
    · have hee : putErr (M.map pr) slots e ⟨v, k, s⟩ a = 31 := by rw [HEr.out, if_neg hold, if_pos hfull]
      have hps : putS (M.map pr) slots e ⟨v, k, s⟩ a = M.map pr := by rw [HPS.out, hee]; rfl
      have HEE := hid (And.intro hee hps)
      rw [show decide (nU (M.map pr) + needN (getV (M.map pr) ⟨v, k, s⟩) e ≤ slots) = false by simpa using hfull]
      have HF6 := hid (HFo.out.2.2.2.1.trans HF5.out)
      clear HBd HGd hold hfull hee hps
      go_wp2_with fail
      go_ret
      rw [HEE.out.1, HEE.out.2]
      exact ⟨rfl, HLn.out _ HF6.out⟩
    have hee : putErr (M.map pr) slots e ⟨v, k, s⟩ a = 0 := by rw [HEr.out, if_neg hold, if_neg hfull]
    have hps : putS (M.map pr) slots e ⟨v, k, s⟩ a = setV (M.map pr) ⟨v, k, s⟩ (layL (getV (M.map pr) ⟨v, k, s⟩) ⟨e, true, a⟩) := by rw [HPS.out, hee, if_pos rfl]
    have HEE := hid (And.intro hee hps)
    rw [show decide (nU (M.map pr) + needN (getV (M.map pr) ⟨v, k, s⟩) e ≤ slots) = true by simpa using hfull]
    have hw : wrong ee.L e = 0 := by unfold wrong; rw [HL.out, if_neg (by have := HE.out; omega), if_neg hold]
    have hle : (nw ee.L).e ≤ e := by rw [HL.out]; omega
    have HG := hid (HGd.out w5 HF5.out)
    rw [show putN ee.L e = layN ee.L ⟨e, true, a⟩ by unfold putN layN; rw [if_pos hw], hw, show putL ee.L e a = layL ee.L ⟨e, true, a⟩ by unfold putL; rw [if_pos hw]] at HG
    have HNm := hid (put_nums (V := M.map pr) (c := ⟨v, k, s⟩) (e := e) (a := a) (by have := HFo.out.2.2.1.good; rw [HL.out] at this; exact this) HE.out HA.out (by omega))
    have HRm : Hid (nU (M.map pr) + needN (getV (M.map pr) ⟨v, k, s⟩) e ≤ slots) := by show _ ≤ _; omega
    obtain ⟨⟨z0, z1, z2, z3⟩, _⟩ := (HRw.out.fr HF5.out (fun h => h)).cells
    obtain ⟨r0, r1, r2, r3, r4, r5, r6⟩ := (HR.out.fr HF5.out (fun h => h)).cells
    have hzl5 := lt_of_block (HRw.out.fr HF5.out (fun h => h))
    have hrl5 := lt_of_block (HR.out.fr HF5.out (fun h => h))
    have hlay : 0 ≤ layN ee.L ⟨e, true, a⟩ ∧ layN ee.L ⟨e, true, a⟩ ≤ 1 := by unfold layN; split <;> omega
    rw [← HL.out] at HNm HRm HEE
    generalize hlm : layN ee.L ⟨e, true, a⟩ = lm at *
    rw [show needN (getV (M.map pr) ⟨v, k, s⟩) e = needN ee.L e by rw [HL.out]]
    have hn2 : (needN ee.L e : Int) ≤ 2 := by have := needN_le ee.L e; omega
    generalize hnn : needN ee.L e = n at *
    have HFo5 := hid (HFo.out.step HF5.out)
    have HRw5 := hid (HRw.out.fr HF5.out (fun h => h))
    clear HBd HGd hold hfull hee hps hw hle hlm hnn
    go_wp2_with fail
    refine HG.out.mono ?_
    rintro r w6 ⟨rfl, cv', hch6, hf6, hnw6⟩
    have HCh6 := hid hch6
    have HF6 := hid hf6
    have HNw6 := hid hnw6
    have HI5 := hid (HI.out.step HFo5.out.2.2.2.1)
    have HKc := hid (ch_kd HFo5.out.2.2.1)
    have hnm : ∀ {q t}, Kd w5 q t → t ≠ 147 → t ≠ 143 → ¬ (q = ee.b ∨ ee.cv.ownBlock = some q) := by
      rintro q t hq h1 h2 (rfl | h3)
      · exact h1 (by
          obtain ⟨cs, h4⟩ := hq
          obtain ⟨cs', h5⟩ := HKc.out.1
          rw [h4] at h5
          simp only [Option.some.injEq, Obj.cells.injEq] at h5
          exact h5.2.1)
      · exact (HKc.out.2 q h3).ne hq (fun e3 => h2 e3.symm) rfl
    have HRw6 := hid (HRw5.out.fr hf6 (hnm ⟨_, HRw5.out⟩ (by decide) (by decide)))
    have hkT := tb_kd HI5.out.tb
    have HbN : Hid (∀ b, R.bl B gr ge b → ¬ (b = ee.b ∨ ee.cv.ownBlock = some b)) := by
      rintro b (rfl | rfl | hb)
      · exact hnm hkT.1 (by decide) (by decide)
      · exact hnm hkT.2.1 (by decide) (by decide)
      · exact hnm (hkT.2.2 b hb) (by decide) (by decide)
    have HT6 := hid (HI5.out.tb.fr hf6 HbN.out)
    have hgn : ¬ (gM = ee.b ∨ ee.cv.ownBlock = some gM) := by
      have h1 := HI.out.gb
      rintro (h2 | h2)
      · rcases HFo.out.mem with ⟨h3, _⟩ | ⟨_, h3, _⟩
        · have := HI.out.lo _ (Or.inr (Or.inr ⟨ee, h3, Or.inl h2⟩)); omega
        · have := HI.out.gl.lt; omega
      · rcases HFo.out.mem with ⟨h3, _⟩ | ⟨_, _, h3⟩
        · have := HI.out.lo _ (Or.inr (Or.inr ⟨ee, h3, Or.inr h2⟩)); omega
        · rw [h3] at h2; simp [Value.ownBlock] at h2
    have HG6 := hid (HI5.out.gl.fr hf6 hgn)
    have HC6 := hid ((hf6.block S (lt_of_block HI5.out.cell) (hnm ⟨_, HI5.out.cell⟩ (by decide) (by decide))).trans HI5.out.cell)
    have HKp := hid (fun (W : World) (hf : Fr w6 W (fun _ => False)) => keep_any ⟨v, k, s⟩ ee.b W (HT6.out.step hf) HI.out.inv (by have := HI.out.tlen; omega) (HG6.out.fr hf (fun h => h)) HM.out)
    have HbS : Hid (¬ R.bl B gr ge S) := by
      have hkS : Kd w5 S 101 := ⟨_, HI5.out.cell⟩
      rintro (h1 | h1 | h1)
      · exact hkS.ne hkT.1 (by decide) h1
      · exact hkS.ne hkT.2.1 (by decide) h1
      · exact hkS.ne (hkT.2.2 S h1) (by decide) rfl
    have Hb8 : Hid (¬ R.bl B gr ge N8) := by
      have hk8 : Kd w5 N8 106 := ⟨_, HRw5.out⟩
      rintro (h1 | h1 | h1)
      · exact hk8.ne hkT.1 (by decide) h1
      · exact hk8.ne hkT.2.1 (by decide) h1
      · exact hk8.ne (hkT.2.2 N8 h1) (by decide) rfl
    unfold rwV at HKp
    dsimp only at HKp
    have HK := hid (fun (W' : World) (hf : Fr w6 W' (R.bl B gr ge)) => (show W'.cell? ⟨S, 0, none⟩ = some (.pointer (some ⟨B, 0, none⟩)) ∧ W'.cell? ⟨N8, 0, none⟩ = some (.int .i64 v) ∧ W'.cell? ⟨N8, 1, none⟩ = some (.string k) ∧ W'.cell? ⟨N8, 2, none⟩ = some (.int .i64 s) ∧ W'.cell? ⟨N8, 3, none⟩ = some (.pointer (some ⟨ee.b, 0, none⟩)) from
      ⟨(cells5 ((hf.block S (lt_of_block HC6.out) HbS.out).trans HC6.out)).1.1, (HRw6.out.fr hf Hb8.out).cells.1⟩))
    obtain ⟨k0, k1, k2, k3, k4⟩ := HK.out w6 (Fr.refl _ _)
    have HF := hid (Fr.refl w6 (fun _ => False))
    have HFq := hid (Fr.refl w6 (R.bl B gr ge))
    have hSl6 := lt_of_block HC6.out
    have hzl6 := lt_of_block HRw6.out
    clear hch6 hf6 hnw6 hnm hkT hgn z0 z1 z2 z3 r0 r1 r2 r3 r4 r5 r6
    go_wp2_with fail
    go_region_held3 (fun W' => Hid (Fr w6 W' (R.bl B gr ge)) ∧ W'.cell? ⟨S, 0, none⟩ = some (.pointer (some ⟨B, 0, none⟩)) ∧ W'.cell? ⟨N8, 0, none⟩ = some (.int .i64 v) ∧ W'.cell? ⟨N8, 1, none⟩ = some (.string k) ∧ W'.cell? ⟨N8, 2, none⟩ = some (.int .i64 s) ∧ W'.cell? ⟨N8, 3, none⟩ = some (.pointer (some ⟨ee.b, 0, none⟩)))
      ((refine (fun h => ⟨h, HK.out _ h⟩ : Fr w6 _ (R.bl B gr ge) → _) ?_; repeat (first | with_reducible exact HFq.out | with_reducible exact Fr.refl _ _ | with_reducible apply Fr.drew)))
      ((go_at_call 78; refine (HKp.out _ (by repeat (first | with_reducible exact HF.out | with_reducible exact Fr.refl _ _ | with_reducible apply Fr.drew | with_reducible apply Fr.alloc))).mono ?_; rintro r w7 ⟨rfl, ⟨g1, g2, ht, hnb⟩, hf7⟩; have HFq := hid (Fr.trans (a := w6) (by repeat (first | with_reducible exact Fr.refl _ _ | with_reducible apply Fr.drew)) hf7); have HT7 := hid ht; have HNb := hid (show R.Nb w6 B gr ge g1 g2 from hnb); clear ht hnb hf7))
    have HF7 := HFq
    have hkc6 := ch_kd HCh6.out
    have hkT6 := tb_kd HT6.out
    have hnb : ∀ {q t}, Kd w6 q t → t ≠ 188 → t ≠ 195 → ¬ R.bl B gr ge q := by
      rintro q t hq h1 h2 (rfl | rfl | h3)
      · exact hq.ne hkT6.1 h1 rfl
      · exact hq.ne hkT6.2.1 h2 rfl
      · exact hq.ne (hkT6.2.2 q h3) h2 rfl
    have HCh7 := hid (HCh6.out.fr HF7.out (hnb hkc6.1 (by decide) (by decide)) (fun k hk => hnb (hkc6.2 k hk) (by decide) (by decide)))
    have HC7 := hid ((HF7.out.block S (lt_of_block HC6.out) HbS.out).trans HC6.out)
    have HRw7 := hid (HRw6.out.fr HF7.out Hb8.out)
    obtain ⟨⟨z0, z1, z2, z3⟩, _⟩ := HRw7.out.cells
    have hSl7 := lt_of_block HC7.out
    have hzl7 := lt_of_block HRw7.out
    have HS8 : Hid (N8 ≠ S) := by
      rintro rfl
      have h5 : w7.heap[N8]? = _ := HRw7.out
      rw [HC7.out] at h5
      simp at h5
    have hbd := HI.out.room
    have hsl := HI.out.sl
    have hmx : mxV (M.map pr) ≤ 1048576 := by
      have : ∀ V : Vw, mxV V ≤ nV V := by
        intro V
        induction V with
        | nil => exact Nat.le_refl _
        | cons x r ih => simp only [mxV, nV]; omega
      have h1 := this (M.map pr)
      unfold nU at hbd
      omega
    unfold nU at hbd
    have HLe := hid (fun (W : World) (hf : Fr w7 W (fun _ => False)) => len_any W (HCh7.out.step hf))
    have hwr : IntKind.i64.wrap ((n : Int) - lm) = (n : Int) - lm := wrap_fit (by unfold fits; omega)
    have HCt := hid (fun (W : World) (hf : Fr w7 W (fun _ => False)) => (show Calls Tryz.prog 67 #[.pointer (some ⟨S, 1, none⟩), .int .i64 lm, .int .i64 (IntKind.i64.wrap ((n : Int) - lm)), .int .i64 ((layL ee.L ⟨e, true, a⟩).length : Int)] W fun e' w' => e' = .returned (.tuple #[]) ∧ w'.heap[S]? = some (.cells #[.pointer (some ⟨B, 0, none⟩), .int .i64 (slots : Int), .int .i64 ((nV (M.map pr) : Int) + lm), .int .i64 ((nT (M.map pr) : Int) + ((n : Int) - lm)), .int .i64 (max (mxV (M.map pr) : Int) ((layL ee.L ⟨e, true, a⟩).length : Int))] 101 (0, 0)) ∧ Fr W w' (fun k => k = S) from by
      rw [hwr]
      exact count_any (slots : Int) (nV (M.map pr) : Int) (nT (M.map pr) : Int) (mxV (M.map pr) : Int) lm ((n : Int) - lm) ((layL ee.L ⟨e, true, a⟩).length : Int) W ((hf.block S (lt_of_block HC7.out) (fun h => h)).trans HC7.out) (by unfold fits; omega) (by unfold fits; omega)))
    have HK7 := hid (fun (W' : World) (hf : Fr w7 W' (fun b => b = S)) => (show W'.cell? ⟨N8, 3, none⟩ = some (.pointer (some ⟨ee.b, 0, none⟩)) from (HRw7.out.fr hf HS8.out).cells.1.2.2.2))
    have HF := hid (Fr.refl w7 (fun _ => False))
    have HFs := hid (Fr.refl w7 (fun b => b = S))
    clear hwr hkc6 hkT6 hnb hbd hsl hmx k0 k1 k2 k3 k4 HFq HK HKp
    go_wp2_with fail
    go_region_held3 (fun W' => Hid (Fr w7 W' (fun b => b = S)) ∧ W'.cell? ⟨N8, 3, none⟩ = some (.pointer (some ⟨ee.b, 0, none⟩)))
      ((refine (fun h => ⟨h, HK7.out _ h⟩ : Fr w7 _ (fun b => b = S) → _) ?_; repeat (first | with_reducible exact HFs.out | with_reducible exact Fr.refl _ _ | with_reducible apply Fr.drew)))
      ((first
        | (go_at_call 68; refine (HLe.out _ (by repeat (first | with_reducible exact HF.out | with_reducible exact Fr.refl _ _ | with_reducible apply Fr.drew | with_reducible apply Fr.alloc))).mono ?_; rintro r w8 ⟨rfl, hw⟩; have HF := hid (show Fr w7 w8 (fun _ => False) from by rw [hw]; repeat (first | with_reducible exact HF.out | with_reducible exact Fr.refl _ _ | with_reducible apply Fr.drew | with_reducible apply Fr.alloc)); have HFs := hid (HF.out.mono (T := fun b => b = S) (fun _ _ h => h.elim)); clear hw)
        | (go_at_call 67; refine (HCt.out _ (by repeat (first | with_reducible exact HF.out | with_reducible exact Fr.refl _ _ | with_reducible apply Fr.drew | with_reducible apply Fr.alloc))).mono ?_; rintro r w9 ⟨rfl, hc9, hf9⟩; have HFs := hid (Fr.trans (a := w7) (HF.out.mono (T := fun b => b = S) (fun _ _ h => h.elim)) (Fr.trans (by repeat (first | with_reducible exact Fr.refl _ _ | with_reducible apply Fr.drew)) hf9)); have HC9 := hid hc9; clear hc9 hf9)))
    go_wp2_with fail
    go_ret
    rw [HEE.out.1, HEE.out.2]
    refine ⟨rfl, ?_⟩
    obtain ⟨n1, n2, n3, n4⟩ := HNm.out
    have hkp := HI.out.kept (c := ⟨v, k, s⟩) HM.out ee.b cv' (layL ee.L ⟨e, true, a⟩)
    refine HI.out.laid HM.out HFo5.out HF6.out HCh6.out HNw6.out HT7.out HNb.out HF7.out hkp.1 hkp.2.1 hkp.2.2.1 hkp.2.2.2 ?_ HFs.out (layL_ne _ _) (by rw [n4]; exact HRm.out)
    rw [n1, n2, n3]
    exact HC9.out
end Go.Proofs.YtgbkihkefdoddaaGreatDoor.S
end

section
/- shard: Kill: a walk. -/
namespace Go.Proofs.YtgbkihkefdoddaaGreatDoor.S
open Go.RowKit G

/-- P704: the error. -/
noncomputable def killErr (V : Vw) (e : Int) (c : Cl) : Int :=
  if mayE c ≠ 0 then mayE c else if e < 1 ∨ 1099511627776 < e then 1 else gone (getV V c) e
noncomputable def killS (V : Vw) (e : Int) (c : Cl) : Vw := if killErr V e c = 0 then setV V c (layL (getV V c) ⟨e, false, a0⟩) else V
/-- The numbers behind a Kill. -/
theorem kill_nums {V : Vw} {c : Cl} {e : Int} (hg : G.Good (getV V c)) (he : 1 ≤ e ∧ e ≤ 1099511627776) (ht : (nw (getV V c)).t = true) :
    (nV (setV V c (layL (getV V c) ⟨e, false, a0⟩)) : Int) = nV V + layN (getV V c) ⟨e, false, a0⟩ ∧ (nT (setV V c (layL (getV V c) ⟨e, false, a0⟩)) : Int) = nT V + -1 ∧ (mxV (setV V c (layL (getV V c) ⟨e, false, a0⟩)) : Int) = max (mxV V : Int) ((layL (getV V c) ⟨e, false, a0⟩).length : Int) ∧ nU (setV V c (layL (getV V c) ⟨e, false, a0⟩)) ≤ nU V := by
  have hx : (⟨e, false, a0⟩ : Vn).ok := ⟨he.1, he.2, by unfold fit4 fits a0; simp, fun _ => rfl⟩
  have h1 := layL_len hg ⟨e, false, a0⟩ hx
  have h2 := setV_nV V c (layL (getV V c) ⟨e, false, a0⟩)
  have h3 := setV_nT V c (layL (getV V c) ⟨e, false, a0⟩)
  have hn : 0 ≤ layN (getV V c) ⟨e, false, a0⟩ ∧ layN (getV V c) ⟨e, false, a0⟩ ≤ 1 := by unfold layN; split <;> omega
  have h4 := setV_mx V c (layL (getV V c) ⟨e, false, a0⟩) (by omega)
  have h5 : th (layL (getV V c) ⟨e, false, a0⟩) = 0 := by unfold th; rw [layL_nw]; rfl
  have h6 : th (getV V c) = 1 := by unfold th; rw [ht]; rfl
  rw [h5, h6] at h3
  have h7 := (getV_nV V c).2
  refine ⟨by omega, by omega, by rw [h4]; omega, ?_⟩
  unfold nU
  omega
theorem ShI.same {w : World} {base S slots B gr : Nat} {ge : Option Nat} {T : Tb} {M : List Ent} (h : ShI w base S slots B gr ge T M) {e : Ent} (he : e ∈ M) {f : Ent} (hf : f ∈ M) (hc : f.c = e.c) : f = e := by
  have hp := h.apart
  rcases List.mem_iff_append.1 he with ⟨l1, l2, rfl⟩
  rw [List.pairwise_append] at hp
  rcases List.mem_append.1 hf with h1 | h1
  · exact absurd hc (hp.2.2 f h1 e (by simp)).1
  · rcases List.mem_cons.1 h1 with rfl | h1
    · rfl
    · exact absurd hc.symm ((List.pairwise_cons.1 hp.2.1).1 f h1).1

set_option maxHeartbeats 8000000 in
set_option maxRecDepth 100000 in
theorem kill_any {base S slots : Nat} {X : Nat → Prop} {V : Vw} (e : Int) (c : Cl) (w : World) (h : Sh w base S slots X V) (hk : c.k.size ≤ 9223372036854775807) :
    Calls Tryz.prog 21 #[.pointer (some ⟨S, 0, none⟩), .int .i64 e, .agg #[.int .i64 c.v, .string c.k, .int .i64 c.s]] w fun r w' => r = .returned (.int .i64 (killErr V e c)) ∧ Left w w' base S slots X (killS V e c) := by
  have HCk := hid (fun W => check_any e c W hk)
  have HSh := hid h
  have HLn : Hid (∀ w', Fr w w' (fun _ => False) → Left w w' base S slots X V) := fun w' hf => Left.none h hf
  have HPS : Hid (killS V e c = if killErr V e c = 0 then setV V c (layL (getV V c) ⟨e, false, a0⟩) else V) := rfl
  by_cases hbad : mayE c ≠ 0 ∨ (e < 1 ∨ 1099511627776 < e)
  · obtain ⟨m, hm0, hme, hmc⟩ : ∃ m : Int, m ≠ 0 ∧ killErr V e c = m ∧ (if mayE c = 0 then (if e < 1 ∨ 1099511627776 < e then 1 else 0) else mayE c) = m := by
      unfold killErr
      by_cases h1 : mayE c = 0
      · have h2 := hbad.resolve_left (fun h => h h1)
        exact ⟨1, by decide, by rw [if_neg (by simpa using h1), if_pos h2], by rw [if_pos h1, if_pos h2]⟩
      · exact ⟨mayE c, h1, by rw [if_pos h1], by rw [if_neg h1]⟩
    rw [hmc] at HCk
    have HK := hid (show killS V e c = V by rw [HPS.out, hme, if_neg hm0])
    rw [hme]
    have t1 : (m != 0) = true := by simpa using hm0
    clear h hbad hm0 hme hmc
    go_enter Tryz.func21, Tryz.ntmps21
    go_wp2_with fail
    refine (HCk.out _).mono ?_
    rintro r w1 ⟨rfl, hf⟩
    have HF := hid ((alloc_fr w _ _).trans hf)
    clear hf
    go_wp2_with fail
    go_ret
    rw [HK.out]
    exact ⟨rfl, HLn.out _ HF.out⟩
  have hm : mayE c = 0 := Classical.byContradiction (fun h1 => hbad (Or.inl h1))
  have he : ¬ (e < 1 ∨ 1099511627776 < e) := fun h1 => hbad (Or.inr h1)
  rw [if_pos hm, if_neg he] at HCk
  have HEr : Hid (killErr V e c = gone (getV V c) e) := by
    show _ = _
    unfold killErr
    rw [if_neg (by simpa using hm), if_neg he]
  obtain ⟨B, gr, ge, T, M, h1, rfl, rfl⟩ := h
  have HI := hid h1
  have hSl := lt_of_block h1.cell
  have HFd := hid (fun (W : World) (hf : Fr w W (fun _ => False)) => find_any c W (h1.step hf) hm)
  have HM := hid hm
  have HE : Hid (1 ≤ e ∧ e ≤ 1099511627776) := by show _ ∧ _; omega
  clear h1 hk hm hbad he
  obtain ⟨v, k, s⟩ := c
  dsimp only at *
  go_enter Tryz.func21, Tryz.ntmps21
  go_wp2_with fail
  refine (HCk.out _).mono ?_
  rintro r w2 ⟨rfl, hf⟩
  have HR2 := hid ((hf.block w.heap.size (by simp) (fun h => h)).trans (heap_last _ _ _ rfl))
  have HF2 := hid ((alloc_fr w _ _).trans hf)
  clear hf HCk
  have hrl := lt_of_block HR2.out
  have HK := hid (fun (W' : World) (hf : Fr w2 W' (fun _ => False)) => (show W'.cell? ⟨S, 0, none⟩ = some (.pointer (some ⟨B, 0, none⟩)) ∧ W'.cell? ⟨w.heap.size, 0, none⟩ = some (.int .i64 v) ∧ W'.cell? ⟨w.heap.size, 1, none⟩ = some (.string k) ∧ W'.cell? ⟨w.heap.size, 2, none⟩ = some (.int .i64 s) from
    ⟨(cells5 ((HI.out.step (HF2.out.trans hf)).cell)).1.1, cells3 ((hf.block _ (lt_of_block HR2.out) (fun h => h)).trans HR2.out)⟩))
  obtain ⟨k0, k1, k2, k3⟩ := HK.out w2 (Fr.refl _ _)
  have HF := hid (Fr.refl w2 (fun _ => False))
  have hs2 := HF2.out.size
  go_wp2_with fail
  go_cut [8] (fun s8 wx => ∃ N8 ee, s8 = .pointer (some ⟨N8, 0, none⟩) ∧ Hid (RwAt wx N8 ⟨v, k, s, some ⟨ee.b, 0, none⟩⟩ ∧ w2.heap.size ≤ N8 ∧ Found w wx base M ⟨v, k, s⟩ ee ∧ Fr w2 wx (fun _ => False)))
  case first =>
    go_region_held3 (fun W' => Hid (Fr w2 W' (fun _ => False)) ∧ W'.cell? ⟨S, 0, none⟩ = some (.pointer (some ⟨B, 0, none⟩)) ∧ W'.cell? ⟨w.heap.size, 0, none⟩ = some (.int .i64 v) ∧ W'.cell? ⟨w.heap.size, 1, none⟩ = some (.string k) ∧ W'.cell? ⟨w.heap.size, 2, none⟩ = some (.int .i64 s))
      ((refine (fun h => ⟨h, HK.out _ h⟩ : Fr w2 _ (fun _ => False) → _) ?_; repeat (first | with_reducible exact HF.out | with_reducible exact Fr.refl _ _ | with_reducible apply Fr.drew | with_reducible apply Fr.alloc | (with_reducible refine Fr.setCell ?_ ?_ _; rotate_left; (intro h; exfalso; first | (dsimp only at h; omega) | (simp at h; omega))))))
      ((go_at_call 65; refine (HFd.out _ (HF2.out.trans (by repeat (first | with_reducible exact HF.out | with_reducible exact Fr.refl _ _ | with_reducible apply Fr.drew | with_reducible apply Fr.alloc)))).mono ?_; rintro r w3 ⟨ee, rfl, hfd⟩; unfold rwV; (try (have HZ := hid (RwAt.fr (by first | exact RwAt.new0 _ w2.heap.size rfl | exact RwAt.drew (RwAt.new0 _ w2.heap.size rfl)) hfd.2.2.2.1 (fun h => h)); obtain ⟨⟨z0, z1, z2, z3⟩, y0⟩ := HZ.out.cells; have HZn := hid (Nat.le_refl w2.heap.size); have hzl := lt_of_block HZ.out)); have HFo := hid (Found.pre hfd (HF2.out.trans (by repeat (first | with_reducible exact HF.out | with_reducible exact Fr.refl _ _ | with_reducible apply Fr.drew | with_reducible apply Fr.alloc)))); have HF := hid (Fr.trans (a := w2) (by repeat (first | with_reducible exact HF.out | with_reducible exact Fr.refl _ _ | with_reducible apply Fr.drew | with_reducible apply Fr.alloc)) hfd.2.2.2.1); have hs3 := HF.out.size; clear hfd))
    all_goals (go_wp2_with fail)
    all_goals go_meet
    · exact ⟨_, ee, rfl, hid ⟨RwAt.new _ ⟨v, k, s, some ⟨ee.b, 0, none⟩⟩ _ rfl, HF.out.size, HFo.out.step (alloc_fr _ _ _), HF.out.alloc _⟩⟩
    · have hq := set4_fr w3 w2.heap.size ⟨v, k, s, some ⟨ee.b, 0, none⟩⟩
      exact ⟨_, ee, rfl, hid ⟨RwAt.set HZ.out ⟨v, k, s, some ⟨ee.b, 0, none⟩⟩, Nat.le_refl _, HFo.out.beside hq ⟨_, HZ.out⟩ (by decide) (by decide) hs2, HF.out.trans2 hq (fun i hi e2 => by omega)⟩⟩
  case rest =>
    obtain ⟨N8, ee, rfl, HX⟩ := hcut
    obtain ⟨hRw, hN8, hfd, hFx⟩ := HX.out
    have HRw := hid hRw
    have HFo := hid hfd
    have hL : ee.L = getV (M.map pr) ⟨v, k, s⟩ := hfd.2.1
    have hlen : ee.L.length < 2000000 := by
      have h1 := (getV_nV (M.map pr) ⟨v, k, s⟩).1
      have h2 := HI.out.room
      have h3 := HI.out.sl
      unfold nU at h2
      rw [hL]
      omega
    have HBd := hid (fun (hw : gone ee.L e ≠ 0) => kill_bad e wc hfd.2.2.1 hw)
    have HGd := hid (G.kill_any e wc hfd.2.2.1 hlen (by have h1 := HI.out.lo S (Or.inl rfl); have h2 := hfd.2.2.2.1.size; omega))
    obtain ⟨⟨z0, z1, z2, z3⟩, _⟩ := hRw.cells
    have hzl := lt_of_block hRw
    have HL := hid hL
    have hsw := HFo.out.2.2.2.1.size
    clear hRw hfd hFx hL hlen k0 k1 k2 k3 HK HF HFd
    by_cases hg : gone ee.L e = 0
    · have HEE : Hid (killErr (M.map pr) e ⟨v, k, s⟩ = 0 ∧ killS (M.map pr) e ⟨v, k, s⟩ = setV (M.map pr) ⟨v, k, s⟩ (layL (getV (M.map pr) ⟨v, k, s⟩) ⟨e, false, a0⟩)) := by
        have h1 : killErr (M.map pr) e ⟨v, k, s⟩ = 0 := by rw [HEr.out, ← HL.out]; exact hg
        exact ⟨h1, by rw [HPS.out, h1, if_pos rfl]⟩
      obtain ⟨hw, ht⟩ := gone_zero hg
      have hMem : ee ∈ M ∧ ee.c = ⟨v, k, s⟩ := by
        rcases HFo.out.mem with h1 | ⟨h1, _, _⟩
        · exact h1
        · have h2 := getM_getV M ⟨v, k, s⟩
          rw [h1, ← HL.out] at h2
          rw [h2] at ht
          cases ht
      have HMem := hid hMem
      rw [show killN ee.L e = layN ee.L ⟨e, false, a0⟩ by unfold killN layN; rw [if_pos hg], hg, show killL ee.L e = layL ee.L ⟨e, false, a0⟩ by unfold killL; rw [if_pos hg]] at HGd
      have HNm := hid (kill_nums (V := M.map pr) (c := ⟨v, k, s⟩) (e := e) (by have := HFo.out.2.2.1.good; rw [HL.out] at this; exact this) HE.out (by rw [← HL.out]; exact ht))
      have hlay : 0 ≤ layN ee.L ⟨e, false, a0⟩ ∧ layN ee.L ⟨e, false, a0⟩ ≤ 1 := by unfold layN; split <;> omega
      have HnT : Hid (1 ≤ nT (M.map pr)) := by
        have h1 := (getV_nV (M.map pr) ⟨v, k, s⟩).2
        rw [← HL.out] at h1
        unfold th at h1
        rw [ht] at h1
        exact h1
      rw [← HL.out] at HNm HEE
      generalize hlm : layN ee.L ⟨e, false, a0⟩ = lm at *
      clear HBd hg hw ht hlm hMem
      go_wp2_with fail
      refine HGd.out.mono ?_
      rintro r w6 ⟨rfl, cv', hch6, hf6, hnw6⟩
      have HCh6 := hid hch6
      have HF6 := hid hf6
      have HNw6 := hid hnw6
      have HI5 := hid (HI.out.step HFo.out.2.2.2.1)
      have HKc := hid (ch_kd HFo.out.2.2.1)
      have hnm : ∀ {q t}, Kd wc q t → t ≠ 147 → t ≠ 143 → ¬ (q = ee.b ∨ ee.cv.ownBlock = some q) := by
        rintro q t hq h1 h2 (rfl | h3)
        · exact h1 (by
            obtain ⟨cs, h4⟩ := hq
            obtain ⟨cs', h5⟩ := HKc.out.1
            rw [h4] at h5
            simp only [Option.some.injEq, Obj.cells.injEq] at h5
            exact h5.2.1)
        · exact (HKc.out.2 q h3).ne hq (fun e3 => h2 e3.symm) rfl
      have HRw7 := hid (HRw.out.fr hf6 (hnm ⟨_, HRw.out⟩ (by decide) (by decide)))
      have hkT := tb_kd HI5.out.tb
      have HT6 := hid (HI5.out.tb.fr hf6 (by
        rintro b (rfl | rfl | hb)
        · exact hnm hkT.1 (by decide) (by decide)
        · exact hnm hkT.2.1 (by decide) (by decide)
        · exact hnm (hkT.2.2 b hb) (by decide) (by decide)))
      have HC7 := hid ((hf6.block S (lt_of_block HI5.out.cell) (hnm ⟨_, HI5.out.cell⟩ (by decide) (by decide))).trans HI5.out.cell)
      obtain ⟨⟨z0, z1, z2, z3⟩, _⟩ := HRw7.out.cells
      have hSl7 := lt_of_block HC7.out
      have hzl7 := lt_of_block HRw7.out
      have HS8 : Hid (N8 ≠ S) := by
        rintro rfl
        have h5 : w6.heap[N8]? = _ := HRw7.out
        rw [HC7.out] at h5
        simp at h5
      have hbd := HI.out.room
      have hsl := HI.out.sl
      unfold nU at hbd
      have HLe := hid (fun (W : World) (hf : Fr w6 W (fun _ => False)) => len_any W (HCh6.out.step hf))
      have HCt := hid (fun (W : World) (hf : Fr w6 W (fun _ => False)) => count_any (slots : Int) (nV (M.map pr) : Int) (nT (M.map pr) : Int) (mxV (M.map pr) : Int) lm (-1) ((layL ee.L ⟨e, false, a0⟩).length : Int) W ((hf.block S (lt_of_block HC7.out) (fun h => h)).trans HC7.out) (by unfold fits; omega) (by have := HnT.out; unfold fits; omega))
      have HK7 := hid (fun (W' : World) (hf : Fr w6 W' (fun b => b = S)) => (show W'.cell? ⟨N8, 3, none⟩ = some (.pointer (some ⟨ee.b, 0, none⟩)) from (HRw7.out.fr hf HS8.out).cells.1.2.2.2))
      have HF := hid (Fr.refl w6 (fun _ => False))
      have HFs := hid (Fr.refl w6 (fun b => b = S))
      clear hch6 hf6 hnw6 hnm hkT hbd hsl
      go_wp2_with fail
      go_region_held3 (fun W' => Hid (Fr w6 W' (fun b => b = S)) ∧ W'.cell? ⟨N8, 3, none⟩ = some (.pointer (some ⟨ee.b, 0, none⟩)))
        ((refine (fun h => ⟨h, HK7.out _ h⟩ : Fr w6 _ (fun b => b = S) → _) ?_; repeat (first | with_reducible exact HFs.out | with_reducible exact Fr.refl _ _ | with_reducible apply Fr.drew)))
        ((first
          | (go_at_call 68; refine (HLe.out _ (by repeat (first | with_reducible exact HF.out | with_reducible exact Fr.refl _ _ | with_reducible apply Fr.drew | with_reducible apply Fr.alloc))).mono ?_; rintro r w8 ⟨rfl, hw⟩; have HF := hid (show Fr w6 w8 (fun _ => False) from by rw [hw]; repeat (first | with_reducible exact HF.out | with_reducible exact Fr.refl _ _ | with_reducible apply Fr.drew | with_reducible apply Fr.alloc)); have HFs := hid (HF.out.mono (T := fun b => b = S) (fun _ _ h => h.elim)); clear hw)
          | (go_at_call 67; refine (HCt.out _ (by repeat (first | with_reducible exact HF.out | with_reducible exact Fr.refl _ _ | with_reducible apply Fr.drew | with_reducible apply Fr.alloc))).mono ?_; rintro r w9 ⟨rfl, hc9, hf9⟩; have HFs := hid (Fr.trans (a := w6) (HF.out.mono (T := fun b => b = S) (fun _ _ h => h.elim)) (Fr.trans (by repeat (first | with_reducible exact Fr.refl _ _ | with_reducible apply Fr.drew)) hf9)); have HC9 := hid hc9; clear hc9 hf9)))
      go_wp2_with fail
      go_ret
      rw [HEE.out.1, HEE.out.2]
      refine ⟨rfl, ?_⟩
      obtain ⟨n1, n2, n3, n4⟩ := HNm.out
      refine HI.out.laid (gr' := gr) (ge' := ge) (T' := T) HM.out HFo.out HF6.out HCh6.out HNw6.out HT6.out (fun b hb => Or.inl hb) (Fr.refl _ _) HI.out.inv ?_ ?_ HI.out.tlen ?_ HFs.out (layL_ne _ _) (by have := HI.out.room; omega)
      · intro q u
        constructor
        · intro hq
          obtain ⟨f, hf, rfl, rfl⟩ := (HI.out.has q u).1 hq
          by_cases hfc : f.c = ⟨v, k, s⟩
          · have := HI.out.same HMem.out.1 hf (hfc.trans HMem.out.2.symm)
            subst this
            exact Or.inl ⟨by rw [hfc], by rw [hfc]⟩
          · exact Or.inr ⟨fun e2 => hfc (key_inj (HI.out.may f hf) HM.out e2), hq⟩
        · rintro (⟨rfl, rfl⟩ | ⟨_, hq⟩)
          · exact (HI.out.has _ _).2 ⟨ee, HMem.out.1, by rw [HMem.out.2], by rw [HMem.out.2]⟩
          · exact hq
      · rw [setM_len, HI.out.keys]
        cases hgm : getM M ⟨v, k, s⟩ with
        | some q => rfl
        | none => exact absurd HMem.out.2 (getM_none hgm ee HMem.out.1)
      · rw [n1, n2, n3]
        exact HC9.out
    · have HEE : Hid (killErr (M.map pr) e ⟨v, k, s⟩ = gone ee.L e ∧ killS (M.map pr) e ⟨v, k, s⟩ = M.map pr) := by
        have h1 : killErr (M.map pr) e ⟨v, k, s⟩ = gone ee.L e := by rw [HEr.out, ← HL.out]
        exact ⟨h1, by rw [HPS.out, h1, if_neg hg]⟩
      have HB := hid (HBd.out hg)
      generalize gone ee.L e = m at *
      have t1 : (m != 0) = true := by simpa using hg
      clear HBd HGd hg
      go_wp2_with fail
      refine HB.out.mono ?_
      rintro r w6 ⟨rfl, hf⟩
      have HF6 := hid (HFo.out.2.2.2.1.trans hf)
      clear hf
      go_wp2_with fail
      go_ret
      rw [HEE.out.1, HEE.out.2]
      exact ⟨rfl, HLn.out _ HF6.out⟩
end Go.Proofs.YtgbkihkefdoddaaGreatDoor.S
end

section
/- shard: Put whole; the law's one, head: walks. -/
namespace Go.Proofs.YtgbkihkefdoddaaGreatDoor.S
open Go.RowKit G

theorem put_any {base S slots : Nat} {X : Nat → Prop} {V : Vw} (e : Int) (c : Cl) (a : A4) (w : World) (h : Sh w base S slots X V) (hk : c.k.size ≤ 9223372036854775807) (ha : fit4 a) :
    Calls Tryz.prog 26 #[.pointer (some ⟨S, 0, none⟩), .int .i64 e, .agg #[.int .i64 c.v, .string c.k, .int .i64 c.s, .int .i64 a.c, .int .i64 a.s, .int .i64 a.m, .int .i64 a.x]] w fun r w' => r = .returned (.int .i64 (putErr V slots e c a)) ∧ Left w w' base S slots X (putS V slots e c a) := by
  by_cases hbad : mayE c ≠ 0 ∨ (e < 1 ∨ 1099511627776 < e) ∨ (a.c = 0 ∨ rightA a = false)
  · exact put_err e c a w h hk ha hbad
  · have h1 : mayE c = 0 := Classical.byContradiction (fun h1 => hbad (Or.inl h1))
    have h2 : ¬ (e < 1 ∨ 1099511627776 < e) := fun h1 => hbad (Or.inr (Or.inl h1))
    have h3 : ¬ a.c = 0 := fun h1 => hbad (Or.inr (Or.inr (Or.inl h1)))
    have h4 : rightA a = true := by
      cases h5 : rightA a
      · exact absurd (Or.inr (Or.inr (Or.inr h5))) hbad
      · rfl
    exact put_ok e c a w h ha h1 (by omega) h3 h4

/-- An aggregate of one value. -/
def oneA (v : Int) : A4 := ⟨1, v, v, v⟩
theorem oneA_right (v : Int) : rightA (oneA v) = true := by
  unfold rightA oneA A.rightB
  simp
theorem oneA_fit {v : Int} (h : fits v) : fit4 (oneA v) := ⟨by unfold fits oneA; dsimp only; omega, h, h, h⟩
/-- One cell alone. -/
theorem get1 (c : Cl) (L : List Vn) : getV [(c, L)] c = L := by simp [getV]
theorem set0 (c : Cl) (L : List Vn) : setV [] c L = [(c, L)] := rfl
theorem set1 (c : Cl) (L L' : List Vn) : setV [(c, L)] c L' = [(c, L')] := by simp [setV]
theorem nU1 (c : Cl) (L : List Vn) : nU [(c, L)] = L.length + th L := by simp [nU, nV, nT]
theorem mx1 (c : Cl) (L : List Vn) : mxV [(c, L)] = L.length := by simp [mxV]
theorem nT1 (c : Cl) (L : List Vn) : nT [(c, L)] = th L := by simp [nT]

def cA : Cl := ⟨0, ⟨#[97]⟩, 0⟩
def L1 : List Vn := [⟨1, true, oneA 5⟩]
def L2 : List Vn := [⟨1, true, oneA 5⟩, ⟨2, true, oneA 6⟩]
theorem mayA : mayE cA = 0 := by decide
theorem head1 : putErr [] 6 1 cA (oneA 5) = 0 ∧ putS [] 6 1 cA (oneA 5) = [(cA, L1)] := by
  have h1 : putErr [] 6 1 cA (oneA 5) = 0 := by
    unfold putErr
    rw [if_neg (by rw [mayA]; simp), if_neg (by omega), if_neg (by rw [oneA_right]; simp [oneA]), if_neg (by simp [getV, nw, z0]), if_neg (by simp [getV, nU, nV, nT, needN, nw, z0])]
  refine ⟨h1, ?_⟩
  unfold putS
  rw [h1, if_pos rfl]
  rfl
theorem head2 : putErr [(cA, L1)] 6 2 cA (oneA 6) = 0 ∧ putS [(cA, L1)] 6 2 cA (oneA 6) = [(cA, L2)] := by
  have h1 : putErr [(cA, L1)] 6 2 cA (oneA 6) = 0 := by
    unfold putErr
    rw [if_neg (by rw [mayA]; simp), if_neg (by omega), if_neg (by rw [oneA_right]; simp [oneA]), get1, if_neg (by simp [L1, nw]), if_neg (by rw [nU1]; simp [L1, needN, nw, th])]
  refine ⟨h1, ?_⟩
  unfold putS
  rw [h1, if_pos rfl, get1, set1]
  rfl
theorem head3 : nU [(cA, L2)] = 3 ∧ nT [(cA, L2)] = 1 ∧ mxV [(cA, L2)] = 2 ∧ tellA [(cA, L2)] cA 0 = oneA 6 ∧ tellA [(cA, L2)] cA 1 = oneA 5 := by
  refine ⟨by rw [nU1]; rfl, by rw [nT1]; rfl, by rw [mx1]; rfl, ?_, ?_⟩
  · unfold tellA
    rw [if_pos mayA, get1]
    rfl
  · unfold tellA
    rw [if_pos mayA, get1]
    rfl

theorem sh_nil (W : World) (B : Nat) : (binOp .eql 49 (.pointer (some ⟨B, 0, none⟩)) (.pointer none)).run Tryz.prog W = .ok (.bool false) W := by kernel_rfl

/-- The kinds of a shard's blocks. -/
def okT (t : TypeId) : Prop := t ≠ 101 ∧ t ≠ 188 ∧ t ≠ 195 ∧ t ≠ 147 ∧ t ≠ 143
theorem Sh.not {w : World} {base S slots : Nat} {X : Nat → Prop} {V : Vw} (h : Sh w base S slots X V) {N : Nat} {t : TypeId} (hk : Kd w N t) (ht : okT t) : ¬ X N := by
  obtain ⟨B, gr, ge, T, M, h1, _, rfl⟩ := h
  obtain ⟨t1, t2, t3, t4, t5⟩ := ht
  obtain ⟨kB, kg, ke⟩ := tb_kd h1.tb
  rintro (rfl | (rfl | rfl | hb) | ⟨e, he, rfl | hb⟩)
  · exact hk.ne ⟨_, h1.cell⟩ t1 rfl
  · exact hk.ne kB t2 rfl
  · exact hk.ne kg t3 rfl
  · exact hk.ne (ke N hb) t3 rfl
  · exact hk.ne (ch_kd (h1.ch e he)).1 t4 rfl
  · exact hk.ne ((ch_kd (h1.ch e he)).2 N hb) t5 rfl
/-- Amid a law: a shard; nothing that was there ahead of it has turned. -/
structure Hd (w W : World) (S slots : Nat) (V : Vw) : Prop where
  sh : ∃ X, Sh W w.heap.size S slots X V
  fr : Fr w W (fun _ => False)
/-- What a step leaves of blocks that are no shard's. -/
def Kp (W W' : World) : Prop := W.heap.size ≤ W'.heap.size ∧ ∀ N t, Kd W N t → okT t → W'.heap[N]? = W.heap[N]?
theorem Kp.refl (W : World) : Kp W W := ⟨Nat.le_refl _, fun _ _ _ _ => rfl⟩
theorem Kp.of {W W' : World} (hf : Fr W W' (fun _ => False)) : Kp W W' := ⟨hf.size, fun N _ hk _ => hf.block N hk.lt (fun h => h)⟩
theorem Kp.trans {a b c : World} (h : Kp a b) (k : Kp b c) : Kp a c := ⟨Nat.le_trans h.1 k.1, fun N t hk ht => by
  have h1 := h.2 N t hk ht
  obtain ⟨cs, hc⟩ := hk
  exact (k.2 N t ⟨cs, h1.trans hc⟩ ht).trans h1⟩
theorem Kp.block {W W' : World} (h : Kp W W') {N : Nat} {cs : Array Value} {t : TypeId} (hk : W.heap[N]? = some (.cells cs t (0, 0))) (ht : okT t) : W'.heap[N]? = some (.cells cs t (0, 0)) := (h.2 N t ⟨cs, hk⟩ ht).trans hk
theorem Hd.step {w W W' : World} {S slots : Nat} {V : Vw} (h : Hd w W S slots V) (hf : Fr W W' (fun _ => False)) : Hd w W' S slots V := ⟨by obtain ⟨X, h1⟩ := h.sh; exact ⟨X, h1.step hf⟩, h.fr.trans hf⟩
theorem Hd.left {w W W' : World} {S slots : Nat} {V V' : Vw} (h : Hd w W S slots V) (hl : ∀ X, Sh W w.heap.size S slots X V → Left W W' w.heap.size S slots X V') : Hd w W' S slots V' ∧ Kp W W' := by
  obtain ⟨X, h1⟩ := h.sh
  obtain ⟨X', h2, h3, _⟩ := hl X h1
  exact ⟨⟨⟨X', h2⟩, h.fr.trans2 h3 (fun i hi hx => by have := h1.lo i hx; omega)⟩, h3.size, fun N t hk ht => h3.block N hk.lt (h1.not hk ht)⟩
theorem hput {w : World} {S slots : Nat} {V : Vw} (e : Int) (c : Cl) (a : A4) (W : World) (h : Hd w W S slots V) (hk : c.k.size ≤ 9223372036854775807) (ha : fit4 a) :
    Calls Tryz.prog 26 #[.pointer (some ⟨S, 0, none⟩), .int .i64 e, .agg #[.int .i64 c.v, .string c.k, .int .i64 c.s, .int .i64 a.c, .int .i64 a.s, .int .i64 a.m, .int .i64 a.x]] W fun r w' => r = .returned (.int .i64 (putErr V slots e c a)) ∧ Hd w w' S slots (putS V slots e c a) ∧ Kp W w' := by
  obtain ⟨X, h1⟩ := h.sh
  refine (put_any e c a W h1 hk ha).mono ?_
  rintro r w' ⟨rfl, X', h2, h3, _⟩
  exact ⟨rfl, ⟨⟨X', h2⟩, h.fr.trans2 h3 (fun i hi hx => by have := h1.lo i hx; omega)⟩, h3.size, fun N t hk ht => h3.block N hk.lt (h1.not hk ht)⟩
theorem hkill {w : World} {S slots : Nat} {V : Vw} (e : Int) (c : Cl) (W : World) (h : Hd w W S slots V) (hk : c.k.size ≤ 9223372036854775807) :
    Calls Tryz.prog 21 #[.pointer (some ⟨S, 0, none⟩), .int .i64 e, .agg #[.int .i64 c.v, .string c.k, .int .i64 c.s]] W fun r w' => r = .returned (.int .i64 (killErr V e c)) ∧ Hd w w' S slots (killS V e c) ∧ Kp W w' := by
  obtain ⟨X, h1⟩ := h.sh
  refine (kill_any e c W h1 hk).mono ?_
  rintro r w' ⟨rfl, X', h2, h3, _⟩
  exact ⟨rfl, ⟨⟨X', h2⟩, h.fr.trans2 h3 (fun i hi hx => by have := h1.lo i hx; omega)⟩, h3.size, fun N t hk ht => h3.block N hk.lt (h1.not hk ht)⟩
/-- New, amid a law. -/
theorem hnew {w : World} (n : Int) (h2 : 2 ≤ n) (h3 : n ≤ 1048576) (hg : Gl w) :
    Calls Tryz.prog 18 #[.int .i64 n] w fun r w' => ∃ S, r = .returned (.tuple #[.pointer (some ⟨S, 0, none⟩), .int .i64 0]) ∧ Hd w w' S n.toNat [] := by
  refine (new_any n w hg).mono ?_
  rintro r w' ⟨hf, h⟩
  rw [if_neg (by omega)] at h
  obtain ⟨S, X, rfl, h⟩ := h
  exact ⟨S, rfl, ⟨X, h⟩, hf⟩

end Go.Proofs.YtgbkihkefdoddaaGreatDoor.S
end
