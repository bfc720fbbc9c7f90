/- Texts of one proof, joined. -/
import Derived.Test.YtgbkihkefdoddaaGreatDoorJoin28
import Derived.Test.YtgbkihkefdoddaaGreatDoorJoin20
section
/- A store in memory: its shards, apart from each other; New, Route, of, numbered: walks. -/
namespace Go.Proofs.YtgbkihkefdoddaaGreatDoor.S
open Go.RowKit G
theorem ShI.lower {w : World} {base base' S slots B gr : Nat} {ge : Option Nat} {T : Tb} {M : List Ent} (h : ShI w base S slots B gr ge T M) (hb : base' ≤ base) (hg : gM < base') : ShI w base' S slots B gr ge T M :=
  { cell := h.cell, tb := h.tb, inv := h.inv, has := h.has
    ch := fun e he => ⟨(h.ch e he).cell, own_mono (h.ch e he).own hb, (h.ch e he).good, (h.ch e he).len⟩
    ne := h.ne, may := h.may, apart := h.apart, lo := fun b hx => Nat.le_trans hb (h.lo b hx), gl := h.gl, gb := hg, room := h.room, sl := h.sl, keys := h.keys, tlen := h.tlen }
theorem Sh.lower {w : World} {base base' S slots : Nat} {X : Nat → Prop} {V : Vw} (h : Sh w base S slots X V) (hb : base' ≤ base) (hg : gM < base') : Sh w base' S slots X V := by
  obtain ⟨B, gr, ge, T, M, h1, h2, h3⟩ := h
  exact ⟨B, gr, ge, T, M, h1.lower hb hg, h2, h3⟩
end Go.Proofs.YtgbkihkefdoddaaGreatDoor.S
namespace Go.Proofs.YtgbkihkefdoddaaGreatDoor.St
open Go.RowKit G S

/-- A shard of a store: where it lies, its own blocks, what it has. -/
structure Sx where
  S : Nat
  X : Nat → Prop
  V : Vw
def ptr (s : Sx) : Value := .pointer (some ⟨s.S, 0, none⟩)
def ps (L : List Sx) : List Value := L.map ptr
theorem ps_length (L : List Sx) : (ps L).length = L.length := List.length_map ..
def vs (L : List Sx) : List Vw := L.map (fun s => s.V)
theorem vs_length (L : List Sx) : (vs L).length = L.length := List.length_map ..

structure StI (w : World) (base Q slots : Nat) (v : Value) (L : List Sx) : Prop where
  cell : w.heap[Q]? = some (.cells #[v] 78 (0, 0))
  own : w.ownsRow base 49 1 v L.length (ps L)
  sh : ∀ s ∈ L, Sh w base s.S slots s.X s.V
  apart : L.Pairwise (fun a b => ∀ k, a.X k → ¬ b.X k)
  hQ : base ≤ Q
  le : L.length ≤ 16
theorem StI.step {w w' : World} {base Q slots : Nat} {v : Value} {L : List Sx} (h : StI w base Q slots v L) (hf : Fr w w' (fun _ => False)) : StI w' base Q slots v L :=
  ⟨(hf.block Q (lt_of_block h.cell) (fun h => h)).trans h.cell, own_fr h.own hf (fun _ _ h => h), fun s hs => (h.sh s hs).step hf, h.apart, h.hQ, h.le⟩
/-- Where the shards' row lies. -/
theorem StI.row {w : World} {base Q slots : Nat} {v : Value} {L : List Sx} (h : StI w base Q slots v L) (hl : 0 < L.length) : ∃ g cap, v = .slice (some ⟨g, 0, none⟩) L.length cap ∧ g < w.heap.size ∧ ∀ i (hi : i < L.length), w.cell? ⟨g, i, none⟩ = some (ptr L[i]) := by
  rcases h.own.2 with ⟨_, h'⟩ | ⟨g, cap, cur, rfl, hb, hg, _⟩
  · omega
  · refine ⟨g, cap, rfl, lt_of_block hg, fun i hi => ?_⟩
    have := h.own.cells (g := g) rfl i (ptr L[i]) (by simp [ps, hi])
    rw [Addr.add_lit, Nat.zero_add] at this
    exact this
/-- Amid a law: a store; nothing that was there ahead of it has turned. -/
structure Sd (w0 W : World) (Q slots : Nat) (Vs : List Vw) : Prop where
  ex : ∃ v L, StI W w0.heap.size Q slots v L ∧ vs L = Vs
  fr : Fr w0 W (fun _ => False)
  pos : 0 < Vs.length
theorem Sd.step {w0 W W' : World} {Q slots : Nat} {Vs : List Vw} (h : Sd w0 W Q slots Vs) (hf : Fr W W' (fun _ => False)) : Sd w0 W' Q slots Vs := by
  obtain ⟨v, L, h1, h2⟩ := h.ex
  exact ⟨⟨v, L, h1.step hf, h2⟩, h.fr.trans hf, h.pos⟩
theorem Sd.len {w0 W : World} {Q slots : Nat} {Vs : List Vw} (h : Sd w0 W Q slots Vs) : Vs.length ≤ 16 := by
  obtain ⟨v, L, h1, rfl⟩ := h.ex
  rw [vs_length]
  exact h1.le
theorem Sd.lt {w0 W : World} {Q slots : Nat} {Vs : List Vw} (h : Sd w0 W Q slots Vs) : Q < W.heap.size := by
  obtain ⟨v, L, h1, _⟩ := h.ex
  exact lt_of_block h1.cell
/-- A key's shard. -/
def rt (n : Nat) (k : ByteArray) : Nat := hashL k % n
theorem rt_lt {n : Nat} (k : ByteArray) (h : 0 < n) : rt n k < n := Nat.mod_lt _ h

/-- Behind a change of one shard. -/
theorem StI.put {w w' : World} {base Q slots : Nat} {v : Value} {L : List Sx} (h : StI w base Q slots v L) (i : Nat) (hi : i < L.length) {V' : Vw} (hl : S.Left w w' base L[i].S slots L[i].X V') : ∃ X', StI w' base Q slots v (L.set i ⟨L[i].S, X', V'⟩) ∧ Kp w w' ∧ Fr w w' L[i].X := by
  obtain ⟨X', h1, h2, h3⟩ := hl
  have hsi := h.sh L[i] (List.getElem_mem hi)
  have hkp : Kp w w' := ⟨h2.size, fun N t hk ht => h2.block N hk.lt (hsi.not hk ht)⟩
  refine ⟨X', ⟨hkp.block h.cell (by unfold okT; decide), ?_, ?_, ?_, h.hQ, by simpa using h.le⟩, hkp, h2⟩
  · have e : ps (L.set i ⟨L[i].S, X', V'⟩) = ps L := by
      unfold ps
      rw [List.map_set]
      apply List.ext_getElem (by simp)
      intro k hk1 hk2
      rw [List.getElem_set]
      split
      · rename_i e; subst e; simp [ptr]
      · rfl
    rw [e, List.length_set]
    exact own_fr h.own h2 (fun k hk hx => by
      obtain ⟨cs, hcs⟩ := own_kind h.own hk
      exact hsi.not ⟨cs, hcs⟩ (by unfold okT; decide) hx)
  · intro s hs
    obtain ⟨k, hk, e⟩ := List.mem_iff_getElem.1 hs
    rw [List.getElem_set] at e
    rw [List.length_set] at hk
    split at e
    · rw [← e]; exact h1
    · rename_i hne
      rw [← e]
      have hsk := h.sh L[k] (List.getElem_mem hk)
      refine hsk.fr h2 (fun b hb hx => ?_) hsi.nblk
      have hp := List.pairwise_iff_getElem.1 h.apart
      rcases Nat.lt_or_gt_of_ne hne with hlt | hgt
      · exact hp i k hi hk hlt b hx hb
      · exact hp k i hk hi hgt b hb hx
  · rw [List.pairwise_iff_getElem]
    intro a b ha hb hab k hka hkb
    rw [List.length_set] at ha hb
    rw [List.getElem_set] at hka hkb
    have hp := List.pairwise_iff_getElem.1 h.apart
    split at hka
    · rename_i e1
      rw [if_neg (by omega)] at hkb
      dsimp only at hka
      rcases h3 k hka with hx | hx
      · subst e1; exact hp i b hi hb hab k hx hkb
      · have := (h.sh L[b] (List.getElem_mem hb)).lt k hkb; omega
    · split at hkb
      · rename_i e2
        dsimp only at hkb
        rcases h3 k hkb with hx | hx
        · subst e2; exact hp a i ha hi hab k hka hx
        · have := (h.sh L[a] (List.getElem_mem ha)).lt k hka; omega
      · exact hp a b ha hb hab k hka hkb
theorem vs_set (L : List Sx) (i : Nat) (x : Sx) : vs (L.set i x) = (vs L).set i x.V := by simp [vs, List.map_set]
def gv (Vs : List Vw) (i : Nat) : Vw := Vs.getD i []
theorem gv_vs {L : List Sx} {i : Nat} (hi : i < L.length) : gv (vs L) i = L[i].V := by simp [gv, vs, hi]
theorem Sd.left {w0 W W' : World} {Q slots : Nat} {v : Value} {L : List Sx} (hI : StI W w0.heap.size Q slots v L) (hf : Fr w0 W (fun _ => False)) (i : Nat) (hi : i < L.length) {V' : Vw} (hl : S.Left W W' w0.heap.size L[i].S slots L[i].X V') : Sd w0 W' Q slots ((vs L).set i V') ∧ Kp W W' := by
  obtain ⟨X', h1, h2, h3⟩ := hI.put i hi hl
  have hsi := hI.sh L[i] (List.getElem_mem hi)
  exact ⟨⟨⟨v, _, h1, vs_set L i _⟩, hf.trans2 h3 (fun k hk hx => by have := hsi.lo k hx; omega), by rw [List.length_set, vs_length]; omega⟩, h2⟩

/-- How a number of shards reads as a number without sign, what is left of a hash by it, and that as a number again. -/
theorem rt_run (n h : Nat) (h1 : 0 < n) (h2 : n ≤ 16) : (∀ W : World, (convert 3 92 (.int .i64 (n : Int))).run Tryz.prog W = .ok (.int .u64 (n : Int)) W) ∧ (∀ W : World, (binOp .rem 92 (.int .u64 (h : Int)) (.int .u64 (n : Int))).run Tryz.prog W = .ok (.int .u64 ((h % n : Nat) : Int)) W) ∧ (∀ W : World, (convert 92 3 (.int .u64 ((h % n : Nat) : Int))).run Tryz.prog W = .ok (.int .i64 ((h % n : Nat) : Int)) W) := by
  have hl : h % n < 16 := Nat.lt_of_lt_of_le (Nat.mod_lt _ h1) h2
  have k1 : Tryz.prog.intKind 92 = .u64 := by kernel_rfl
  have k2 : Tryz.prog.intKind 3 = .i64 := by kernel_rfl
  have h4 : (h : Int).tmod (n : Int) = ((h % n : Nat) : Int) := by rw [Int.tmod_eq_emod_of_nonneg (by omega)]; rfl
  have h5 : ¬ n = 0 := by omega
  refine ⟨fun W => ?_, fun W => by simp [binOp, Op.intDiv, h4, go_sem, h5], fun W => ?_⟩
  · have h3 : IntKind.u64.wrap (n : Int) = n := by rw [IntKind.wrap_u64]; omega
    rw [run_convert_int (P := Tryz.prog) (w := W) 3 92 .i64 (n : Int) (by kernel_rfl) (by kernel_rfl), k1, h3]
  · generalize h % n = r at *
    have h3 : IntKind.i64.wrap (r : Int) = r := by rw [IntKind.wrap_i64]; omega
    rw [run_convert_int (P := Tryz.prog) (w := W) 92 3 .u64 (r : Int) (by kernel_rfl) (by kernel_rfl), k2, h3]

set_option maxHeartbeats 2000000 in
set_option maxRecDepth 100000 in
theorem route_i {W : World} {base Q slots : Nat} {v : Value} {L : List Sx} (k : ByteArray) (h1 : StI W base Q slots v L) (hpos : 0 < L.length) (hk : k.size ≤ 9223372036854775807) :
    Calls Tryz.prog 15 #[.pointer (some ⟨Q, 0, none⟩), .string k] W fun e w' => e = .returned (.int .i64 (rt L.length k : Int)) ∧ Fr W w' (fun _ => False) := by
  have hlen := h1.le
  obtain ⟨ao, cap, rfl⟩ := own_nil_shape h1.own
  have c0 := cell_of_one h1.cell
  have hlt := lt_of_block h1.cell
  clear h1
  have HH := hid (fun W' => hash_any k W' hk)
  obtain ⟨k1, k2, k3⟩ := rt_run L.length (hashL k) hpos hlen
  unfold rt
  have HW : Hid (IntKind.i64.wrap ((hashL k : Int) % (L.length : Int)) = ((hashL k % L.length : Nat) : Int)) := by
    have := Nat.mod_lt (hashL k) hpos
    exact wrap_fit (show fits (((hashL k % L.length : Nat) : Int)) from by unfold fits; omega)
  generalize hashL k % L.length = r at *
  generalize hashL k = h0 at *
  generalize L.length = n at *
  have HC := hid (fun (W' : World) (hf : Fr W W' (fun _ => False)) => (show W'.cell? ⟨Q, 0, none⟩ = some (.slice ao n cap) from by rw [(fr_rules hf).1 _ _ hlt]; exact c0))
  have HF := hid (Fr.refl W (fun _ => False))
  go_enter Tryz.func15, Tryz.ntmps15
  go_wp2_with fail
  go_region_held (fun W' => Hid (Fr W W' (fun _ => False)) ∧ W'.cell? ⟨Q, 0, none⟩ = some (.slice ao n cap))
    ((refine (fun h => ⟨h, HC.out _ h⟩ : Fr W _ (fun _ => False) → _) ?_; repeat (first | with_reducible exact HF.out | with_reducible exact Fr.refl _ _ | with_reducible apply Fr.drew)))
    ((go_at_call 60; refine (HH.out _).mono ?_; rintro e w1 ⟨rfl, rfl⟩))
  go_wp2_with fail
  go_ret
  exact ⟨congrArg (fun x => Ending.returned (.int .i64 x)) HW.out, by repeat (first | with_reducible exact HF.out | with_reducible exact Fr.refl _ _ | with_reducible apply Fr.drew)⟩
theorem route_any {w0 W : World} {Q slots : Nat} {Vs : List Vw} (k : ByteArray) (h : Sd w0 W Q slots Vs) (hk : k.size ≤ 9223372036854775807) :
    Calls Tryz.prog 15 #[.pointer (some ⟨Q, 0, none⟩), .string k] W fun e w' => e = .returned (.int .i64 (rt Vs.length k : Int)) ∧ Fr W w' (fun _ => False) := by
  have hpos := h.pos
  obtain ⟨v, L, h1, rfl⟩ := h.ex
  rw [vs_length] at hpos ⊢
  exact route_i k h1 hpos hk

set_option maxHeartbeats 2000000 in
set_option maxRecDepth 100000 in
/-- The shard of a key. -/
theorem of_any {W : World} {base Q slots : Nat} {v : Value} {L : List Sx} (k : ByteArray) (h1 : StI W base Q slots v L) (hpos : 0 < L.length) (hk : k.size ≤ 9223372036854775807) :
    Calls Tryz.prog 63 #[.pointer (some ⟨Q, 0, none⟩), .string k] W fun e w' => e = .returned (ptr (L[rt L.length k]'(rt_lt k hpos))) ∧ Fr W w' (fun _ => False) := by
  have HR := hid (fun (W' : World) (hf : Fr W W' (fun _ => False)) => route_i k (h1.step hf) hpos hk)
  have hlen := h1.le
  have hr := rt_lt k hpos
  obtain ⟨g, cap, rfl, hgl, hgc⟩ := h1.row hpos
  have c0 := cell_of_one h1.cell
  have c1 := hgc _ hr
  have hlt := lt_of_block h1.cell
  clear h1 hgc
  unfold ptr at c1 ⊢
  generalize L[rt L.length k].S = s at *
  generalize rt L.length k = r at *
  generalize L.length = n at *
  have t0 : (0 : Int) ≤ (r : Int) := by omega
  have t1 : (r : Int) < (n : Int) := by omega
  have HC := hid (fun (W' : World) (hf : Fr W W' (fun _ => False)) => (show W'.cell? ⟨Q, 0, none⟩ = some (.slice (some ⟨g, 0, none⟩) n cap) ∧ W'.cell? ⟨g, r, none⟩ = some (.pointer (some ⟨s, 0, none⟩)) from ⟨by rw [(fr_rules hf).1 _ _ hlt]; exact c0, by rw [(fr_rules hf).1 _ _ hgl]; exact c1⟩))
  have HF := hid (Fr.refl W (fun _ => False))
  go_enter Tryz.func63, Tryz.ntmps63
  go_wp2_with fail
  go_region_held3 (fun W' => Hid (Fr W W' (fun _ => False)) ∧ W'.cell? ⟨Q, 0, none⟩ = some (.slice (some ⟨g, 0, none⟩) n cap) ∧ W'.cell? ⟨g, r, none⟩ = some (.pointer (some ⟨s, 0, none⟩)))
    ((refine (fun h => ⟨h, HC.out _ h⟩ : Fr W _ (fun _ => False) → _) ?_; repeat (first | with_reducible exact HF.out | with_reducible exact Fr.refl _ _ | with_reducible apply Fr.drew)))
    ((go_at_call 15; refine (HR.out _ (by repeat (first | with_reducible exact HF.out | with_reducible exact Fr.refl _ _ | with_reducible apply Fr.drew))).mono ?_; rintro e w1 ⟨rfl, hf⟩; have HF := hid (Fr.trans (a := W) (by repeat (first | with_reducible exact HF.out | with_reducible exact Fr.refl _ _ | with_reducible apply Fr.drew)) hf); clear hf))
  go_wp2_with fail
  go_ret
  exact ⟨rfl, by repeat (first | with_reducible exact HF.out | with_reducible exact Fr.refl _ _ | with_reducible apply Fr.drew)⟩

/-- The shard of a number. -/
def NumR (L : List Sx) (n : Int) (e : Ending) : Prop := (∃ (i : Nat) (hi : i < L.length), n = (i : Int) ∧ e = .returned (.tuple #[ptr L[i], .bool true])) ∨ ((n < 0 ∨ (L.length : Int) ≤ n) ∧ e = .returned (.tuple #[.pointer none, .bool false]))
set_option maxHeartbeats 2000000 in
set_option maxRecDepth 100000 in
theorem numbered_any {W : World} {base Q slots : Nat} {v : Value} {L : List Sx} (n : Int) (h1 : StI W base Q slots v L) (hpos : 0 < L.length) :
    Calls Tryz.prog 69 #[.pointer (some ⟨Q, 0, none⟩), .int .i64 n] W fun e w' => w' = W ∧ NumR L n e := by
  have hlen := h1.le
  obtain ⟨g, cap, rfl, hgl, hgc⟩ := h1.row hpos
  have c0 := cell_of_one h1.cell
  have hlt := lt_of_block h1.cell
  clear h1
  by_cases hn : n < 0
  · clear hgc
    go_enter Tryz.func69, Tryz.ntmps69
    go_wp2_with fail
    go_ret2
    exact ⟨rfl, Or.inr ⟨Or.inl hn, rfl⟩⟩
  · by_cases hm : (L.length : Int) ≤ n
    · clear hgc
      go_enter Tryz.func69, Tryz.ntmps69
      go_wp2_with fail
      go_ret2
      exact ⟨rfl, Or.inr ⟨Or.inr hm, rfl⟩⟩
    · obtain ⟨i, rfl⟩ : ∃ i : Nat, n = (i : Int) := ⟨n.toNat, by omega⟩
      have hi : i < L.length := by omega
      have c1 := hgc i hi
      have HI := hid hi
      clear hgc
      unfold ptr at c1
      have t0 : (0 : Int) ≤ (i : Int) := by omega
      have t1 : (i : Int) < (L.length : Int) := by omega
      have HE : Hid (NumR L (i : Int) (.returned (.tuple #[.pointer (some ⟨L[i].S, 0, none⟩), .bool true]))) := Or.inl ⟨i, hi, rfl, rfl⟩
      generalize L[i].S = s at *
      go_enter Tryz.func69, Tryz.ntmps69
      go_wp2_with fail
      go_ret2
      exact ⟨rfl, HE.out⟩
end Go.Proofs.YtgbkihkefdoddaaGreatDoor.St
end

section
/- store: Put, Kill, Units, Range, New: walks. -/
namespace Go.Proofs.YtgbkihkefdoddaaGreatDoor.St
open Go.RowKit G S

theorem cells7 {w : World} {N : Nat} {a b c d e f g : Value} {t : TypeId} (h : w.heap[N]? = some (.cells #[a, b, c, d, e, f, g] t (0, 0))) : w.cell? ⟨N, 0, none⟩ = some a ∧ w.cell? ⟨N, 1, none⟩ = some b ∧ w.cell? ⟨N, 2, none⟩ = some c ∧ w.cell? ⟨N, 3, none⟩ = some d ∧ w.cell? ⟨N, 4, none⟩ = some e ∧ w.cell? ⟨N, 5, none⟩ = some f ∧ w.cell? ⟨N, 6, none⟩ = some g := by
  refine ⟨?_, ?_, ?_, ?_, ?_, ?_, ?_⟩ <;> simp [World.cell?, h]

set_option maxHeartbeats 4000000 in
set_option maxRecDepth 100000 in
theorem sput {w0 W : World} {Q slots : Nat} {Vs : List Vw} (e : Int) (c : Cl) (a : A4) (h : Sd w0 W Q slots Vs) (hk : c.k.size ≤ 9223372036854775807) (ha : fit4 a) :
    Calls Tryz.prog 25 #[.pointer (some ⟨Q, 0, none⟩), .int .i64 e, .agg #[.int .i64 c.v, .string c.k, .int .i64 c.s, .int .i64 a.c, .int .i64 a.s, .int .i64 a.m, .int .i64 a.x]] W fun r w' => r = .returned (.int .i64 (putErr (gv Vs (rt Vs.length c.k)) slots e c a)) ∧ Sd w0 w' Q slots (Vs.set (rt Vs.length c.k) (putS (gv Vs (rt Vs.length c.k)) slots e c a)) ∧ Kp W w' := by
  have hpos := h.pos
  obtain ⟨v, L, h1, rfl⟩ := h.ex
  rw [vs_length] at hpos ⊢
  have hr := rt_lt c.k hpos
  rw [gv_vs hr]
  have hfr := h.fr
  have HOf := hid (fun (W' : World) (hf : Fr W W' (fun _ => False)) => of_any c.k (h1.step hf) hpos hk)
  have HPt := hid (fun (W' : World) (hf : Fr W W' (fun _ => False)) => (show Calls Tryz.prog 26 #[.pointer (some ⟨L[rt L.length c.k].S, 0, none⟩), .int .i64 e, .agg #[.int .i64 c.v, .string c.k, .int .i64 c.s, .int .i64 a.c, .int .i64 a.s, .int .i64 a.m, .int .i64 a.x]] W' fun r w' => r = .returned (.int .i64 (putErr L[rt L.length c.k].V slots e c a)) ∧ Sd w0 w' Q slots ((vs L).set (rt L.length c.k) (putS L[rt L.length c.k].V slots e c a)) ∧ Kp W' w' from by
    have h2 := h1.step hf
    refine (put_any e c a W' (h2.sh _ (List.getElem_mem hr)) hk ha).mono ?_
    rintro r w' ⟨rfl, hl⟩
    exact ⟨rfl, Sd.left h2 (hfr.trans hf) _ hr hl⟩))
  unfold ptr at HOf
  generalize putErr L[rt L.length c.k].V slots e c a = er at *
  generalize putS L[rt L.length c.k].V slots e c a = V' at *
  generalize L[rt L.length c.k].S = s at *
  clear h h1 hr
  obtain ⟨cv, ck, cs⟩ := c
  dsimp only at *
  have HK := hid (fun (W' : World) (hk : Kp (W.alloc (.cells #[.int .i64 cv, .string ck, .int .i64 cs, .int .i64 a.c, .int .i64 a.s, .int .i64 a.m, .int .i64 a.x] 58)) W') => cells7 (hk.block (heap_last W _ _ rfl) (by unfold okT; decide)))
  obtain ⟨k0, k1, k2, k3, k4, k5, k6⟩ := HK.out _ (Kp.refl _)
  have hWs : W.heap.size < (W.alloc (.cells #[.int .i64 cv, .string ck, .int .i64 cs, .int .i64 a.c, .int .i64 a.s, .int .i64 a.m, .int .i64 a.x] 58)).heap.size := by simp
  have HF0 := hid (alloc_fr W (.cells #[.int .i64 cv, .string ck, .int .i64 cs, .int .i64 a.c, .int .i64 a.s, .int .i64 a.m, .int .i64 a.x] 58) (fun _ => False))
  go_enter Tryz.func25, Tryz.ntmps25
  go_wp2_with fail
  generalize W.alloc (.cells #[.int .i64 cv, .string ck, .int .i64 cs, .int .i64 a.c, .int .i64 a.s, .int .i64 a.m, .int .i64 a.x] 58) = Wb at *
  have HF := hid (Fr.refl Wb (fun _ => False))
  have HKp := hid (Kp.refl Wb)
  go_region_held3 (fun W' => Hid (Kp Wb W') ∧ W'.cell? ⟨W.heap.size, 0, none⟩ = some (.int .i64 cv) ∧ W'.cell? ⟨W.heap.size, 1, none⟩ = some (.string ck) ∧ W'.cell? ⟨W.heap.size, 2, none⟩ = some (.int .i64 cs) ∧ W'.cell? ⟨W.heap.size, 3, none⟩ = some (.int .i64 a.c) ∧ W'.cell? ⟨W.heap.size, 4, none⟩ = some (.int .i64 a.s) ∧ W'.cell? ⟨W.heap.size, 5, none⟩ = some (.int .i64 a.m) ∧ W'.cell? ⟨W.heap.size, 6, none⟩ = some (.int .i64 a.x))
    ((refine (fun h => ⟨h, HK.out _ h⟩ : Kp Wb _ → _) ?_; first | exact HKp.out | exact Kp.of (by repeat (first | with_reducible exact HF.out | with_reducible exact Fr.refl _ _ | with_reducible apply Fr.drew)) | exact HKp.out.trans (Kp.of (by repeat (first | with_reducible exact Fr.refl _ _ | with_reducible apply Fr.drew)))))
    ((first
      | (go_at_call 63; refine (HOf.out _ (HF0.out.trans (by repeat (first | with_reducible exact HF.out | with_reducible exact Fr.refl _ _ | with_reducible apply Fr.drew)))).mono ?_; rintro r w1 ⟨rfl, hf⟩; have HF := hid (Fr.trans (a := Wb) (by repeat (first | with_reducible exact HF.out | with_reducible exact Fr.refl _ _ | with_reducible apply Fr.drew)) hf); have HKp := hid (Kp.of HF.out); clear hf)
      | (go_at_call 26; refine (HPt.out _ (HF0.out.trans (by repeat (first | with_reducible exact HF.out | with_reducible exact Fr.refl _ _ | with_reducible apply Fr.drew)))).mono ?_; rintro r w2 ⟨rfl, hs, hk2⟩; have HSd := hid hs; have HKp := hid ((Kp.of HF.out).trans ((Kp.of (by repeat (first | with_reducible exact Fr.refl _ _ | with_reducible apply Fr.drew))).trans hk2)); clear hs hk2)))
  go_wp2_with fail
  go_ret
  exact ⟨rfl, HSd.out, (Kp.of HF0.out).trans HKp.out⟩
set_option maxHeartbeats 4000000 in
set_option maxRecDepth 100000 in
theorem skill {w0 W : World} {Q slots : Nat} {Vs : List Vw} (e : Int) (c : Cl) (h : Sd w0 W Q slots Vs) (hk : c.k.size ≤ 9223372036854775807) :
    Calls Tryz.prog 20 #[.pointer (some ⟨Q, 0, none⟩), .int .i64 e, .agg #[.int .i64 c.v, .string c.k, .int .i64 c.s]] W fun r w' => r = .returned (.int .i64 (killErr (gv Vs (rt Vs.length c.k)) e c)) ∧ Sd w0 w' Q slots (Vs.set (rt Vs.length c.k) (killS (gv Vs (rt Vs.length c.k)) e c)) ∧ Kp W w' := by
  have hpos := h.pos
  obtain ⟨v, L, h1, rfl⟩ := h.ex
  rw [vs_length] at hpos ⊢
  have hr := rt_lt c.k hpos
  rw [gv_vs hr]
  have hfr := h.fr
  have HOf := hid (fun (W' : World) (hf : Fr W W' (fun _ => False)) => of_any c.k (h1.step hf) hpos hk)
  have HPt := hid (fun (W' : World) (hf : Fr W W' (fun _ => False)) => (show Calls Tryz.prog 21 #[.pointer (some ⟨L[rt L.length c.k].S, 0, none⟩), .int .i64 e, .agg #[.int .i64 c.v, .string c.k, .int .i64 c.s]] W' fun r w' => r = .returned (.int .i64 (killErr L[rt L.length c.k].V e c)) ∧ Sd w0 w' Q slots ((vs L).set (rt L.length c.k) (killS L[rt L.length c.k].V e c)) ∧ Kp W' w' from by
    have h2 := h1.step hf
    refine (kill_any e c W' (h2.sh _ (List.getElem_mem hr)) hk).mono ?_
    rintro r w' ⟨rfl, hl⟩
    exact ⟨rfl, Sd.left h2 (hfr.trans hf) _ hr hl⟩))
  unfold ptr at HOf
  generalize killErr L[rt L.length c.k].V e c = er at *
  generalize killS L[rt L.length c.k].V e c = V' at *
  generalize L[rt L.length c.k].S = s at *
  clear h h1 hr
  obtain ⟨cv, ck, cs⟩ := c
  dsimp only at *
  have HK := hid (fun (W' : World) (hk : Kp (W.alloc (.cells #[.int .i64 cv, .string ck, .int .i64 cs] 33)) W') => cells3 (hk.block (heap_last W _ _ rfl) (by unfold okT; decide)))
  obtain ⟨k0, k1, k2⟩ := HK.out _ (Kp.refl _)
  have hWs : W.heap.size < (W.alloc (.cells #[.int .i64 cv, .string ck, .int .i64 cs] 33)).heap.size := by simp
  have HF0 := hid (alloc_fr W (.cells #[.int .i64 cv, .string ck, .int .i64 cs] 33) (fun _ => False))
  go_enter Tryz.func20, Tryz.ntmps20
  go_wp2_with fail
  generalize W.alloc (.cells #[.int .i64 cv, .string ck, .int .i64 cs] 33) = Wb at *
  have HF := hid (Fr.refl Wb (fun _ => False))
  have HKp := hid (Kp.refl Wb)
  go_region_held3 (fun W' => Hid (Kp Wb W') ∧ W'.cell? ⟨W.heap.size, 0, none⟩ = some (.int .i64 cv) ∧ W'.cell? ⟨W.heap.size, 1, none⟩ = some (.string ck) ∧ W'.cell? ⟨W.heap.size, 2, none⟩ = some (.int .i64 cs))
    ((refine (fun h => ⟨h, HK.out _ h⟩ : Kp Wb _ → _) ?_; first | exact HKp.out | exact Kp.of (by repeat (first | with_reducible exact HF.out | with_reducible exact Fr.refl _ _ | with_reducible apply Fr.drew)) | exact HKp.out.trans (Kp.of (by repeat (first | with_reducible exact Fr.refl _ _ | with_reducible apply Fr.drew)))))
    ((first
      | (go_at_call 63; refine (HOf.out _ (HF0.out.trans (by repeat (first | with_reducible exact HF.out | with_reducible exact Fr.refl _ _ | with_reducible apply Fr.drew)))).mono ?_; rintro r w1 ⟨rfl, hf⟩; have HF := hid (Fr.trans (a := Wb) (by repeat (first | with_reducible exact HF.out | with_reducible exact Fr.refl _ _ | with_reducible apply Fr.drew)) hf); have HKp := hid (Kp.of HF.out); clear hf)
      | (go_at_call 21; refine (HPt.out _ (HF0.out.trans (by repeat (first | with_reducible exact HF.out | with_reducible exact Fr.refl _ _ | with_reducible apply Fr.drew)))).mono ?_; rintro r w2 ⟨rfl, hs, hk2⟩; have HSd := hid hs; have HKp := hid ((Kp.of HF.out).trans ((Kp.of (by repeat (first | with_reducible exact Fr.refl _ _ | with_reducible apply Fr.drew))).trans hk2)); clear hs hk2)))
  go_wp2_with fail
  go_ret
  exact ⟨rfl, HSd.out, (Kp.of HF0.out).trans HKp.out⟩

/-- What Units tells. -/
def unitsOf (Vs : List Vw) (n : Int) : Nat := if n < 0 ∨ (Vs.length : Int) ≤ n then 0 else nU (gv Vs n.toNat)
theorem sunits {w0 W : World} {Q slots : Nat} {Vs : List Vw} (n : Int) (h : Sd w0 W Q slots Vs) :
    Calls Tryz.prog 27 #[.pointer (some ⟨Q, 0, none⟩), .int .i64 n] W fun r w' => r = .returned (.int .i64 (unitsOf Vs n : Int)) ∧ Fr W w' (fun _ => False) := by
  have hpos := h.pos
  obtain ⟨v, L, h1, rfl⟩ := h.ex
  rw [vs_length] at hpos
  have HN := hid (numbered_any n h1 hpos)
  have HU := hid (fun (i : Nat) (hi : i < L.length) => unitsS_any W (h1.sh L[i] (List.getElem_mem hi)))
  have HE1 : Hid (∀ (i : Nat) (hi : i < L.length), n = (i : Int) → unitsOf (vs L) n = nU L[i].V) := fun i hi e => by
    unfold unitsOf
    rw [if_neg (by rw [vs_length]; omega), show n.toNat = i by omega, gv_vs hi]
  have HE2 : Hid ((n < 0 ∨ (L.length : Int) ≤ n) → unitsOf (vs L) n = 0) := fun e => by
    unfold unitsOf
    rw [if_pos (by rw [vs_length]; exact e)]
  generalize unitsOf (vs L) n = u at *
  clear h h1
  go_enter Tryz.func27, Tryz.ntmps27
  go_wp2_with fail
  refine HN.out.mono ?_
  rintro r w1 ⟨rfl, hN⟩
  rcases hN with ⟨i, hi, e, rfl⟩ | ⟨e, rfl⟩
  · have HU2 := hid (HU.out i hi)
    rw [← HE1.out i hi e] at HU2
    unfold ptr
    clear HE1 HE2 HU HN
    generalize L[i].S = s at *
    go_wp2_with fail
    refine HU2.out.mono ?_
    rintro r w2 ⟨rfl, hf⟩
    have HF := hid hf
    clear hf
    go_wp2_with fail
    go_ret
    exact ⟨rfl, HF.out⟩
  · have hu := HE2.out e
    subst hu
    clear HE1 HE2 HU HN
    go_wp2_with fail
    go_ret
    exact ⟨rfl, Fr.refl _ _⟩

/-- What Range tells. -/
def rangeOf (Vs : List Vw) (n e : Int) (fr til : Cl) (most : Int) : List M.Rw := if n < 0 ∨ (Vs.length : Int) ≤ n then [] else rangeL (gv Vs n.toNat) e fr til most
set_option maxHeartbeats 1000000 in
theorem srange {w0 W : World} {Q slots : Nat} {Vs : List Vw} (n e : Int) (fr til : Cl) (most : Int) (h : Sd w0 W Q slots Vs) :
    Calls Tryz.prog 41 #[.pointer (some ⟨Q, 0, none⟩), .int .i64 n, .int .i64 e, .agg #[.int .i64 fr.v, .string fr.k, .int .i64 fr.s], .agg #[.int .i64 til.v, .string til.k, .int .i64 til.s], .int .i64 most] W fun r w' => ∃ v, r = .returned v ∧ RowsAt W w' v (rangeOf Vs n e fr til most) := by
  have hpos := h.pos
  obtain ⟨v, L, h1, rfl⟩ := h.ex
  rw [vs_length] at hpos
  have HN := hid (fun (W' : World) (hf : Fr W W' (fun _ => False)) => numbered_any n (h1.step hf) hpos)
  have HU := hid (fun (W' : World) (hf : Fr W W' (fun _ => False)) (i : Nat) (hi : i < L.length) => range_any e fr til most W' ((h1.step hf).sh L[i] (List.getElem_mem hi)))
  have HE1 : Hid (∀ (i : Nat) (hi : i < L.length), n = (i : Int) → rangeOf (vs L) n e fr til most = rangeL L[i].V e fr til most) := fun i hi e => by
    unfold rangeOf
    rw [if_neg (by rw [vs_length]; omega), show n.toNat = i by omega, gv_vs hi]
  have HE2 : Hid ((n < 0 ∨ (L.length : Int) ≤ n) → rangeOf (vs L) n e fr til most = []) := fun e => by
    unfold rangeOf
    rw [if_pos (by rw [vs_length]; exact e)]
  generalize rangeOf (vs L) n e fr til most = R at *
  clear h h1
  go_enter Tryz.func41, Tryz.ntmps41
  go_wp2_with fail
  have hA := ((alloc_fr W (.cells #[.int .i64 fr.v, .string fr.k, .int .i64 fr.s] 33) (fun _ => False)).alloc (.cells #[.int .i64 til.v, .string til.k, .int .i64 til.s] 33))
  have HA := hid hA
  clear hA
  refine (HN.out _ HA.out).mono ?_
  rintro r w1 ⟨rfl, hN⟩
  rcases hN with ⟨i, hi, e1, rfl⟩ | ⟨e1, rfl⟩
  · have HU2 := hid (HU.out _ HA.out i hi)
    rw [← HE1.out i hi e1] at HU2
    unfold ptr
    clear HE1 HE2 HU HN
    generalize L[i].S = s at *
    go_wp2_with fail
    refine HU2.out.mono ?_
    rintro r w2 ⟨v2, rfl, ho, hf⟩
    obtain ⟨ao, cap, rfl⟩ := own_nil_shape ho
    have HO : Hid (RowsAt W w2 (.slice ao R.length cap) R) := ⟨own_mono ho HA.out.size, HA.out.trans hf⟩
    clear ho hf HU2
    go_wp2_with fail
    go_ret
    exact ⟨_, rfl, HO.out⟩
  · have hu := HE2.out e1
    subst hu
    clear HE1 HE2 HU HN
    go_wp2_with fail
    go_ret
    exact ⟨_, rfl, ⟨rfl, Or.inl ⟨rfl, rfl⟩⟩, HA.out⟩

theorem StI.lower {w : World} {base base' Q slots : Nat} {v : Value} {L : List Sx} (h : StI w base Q slots v L) (hb : base' ≤ base) (hg : gM < base') : StI w base' Q slots v L :=
  ⟨h.cell, own_mono h.own hb, fun s hs => (h.sh s hs).lower hb hg, h.apart, Nat.le_trans hb h.hQ, h.le⟩
/-- One shard more. -/
theorem StI.snoc {wx wa w2 : World} {base Q slots S : Nat} {X : Nat → Prop} {v v' : Value} {L : List Sx} (h : StI wx base Q slots v L) (hl : L.length < 16) (hf : Fr wx wa (fun _ => False)) (hS : Sh wa base S slots X []) (hX : ∀ k, X k → wx.heap.size ≤ k)
    (hown : w2.ownsRow base 49 1 v' (L.length + 1) (ps L ++ [.pointer (some ⟨S, 0, none⟩)])) (hg : wa.grownBy w2 v.ownBlock) (hat : v'.ownBlock = v.ownBlock ∨ v'.ownBlock = some wa.heap.size) :
    w2.heap[Q]? = some (.cells #[v] 78 (0, 0)) ∧ StI (w2.setCell ⟨Q, 0, none⟩ v') base Q slots v' (L ++ [⟨S, X, []⟩]) := by
  have h1 := h.step hf
  have hQ2 : w2.heap[Q]? = some (.cells #[v] 78 (0, 0)) := by
    rw [hg.block Q (lt_of_block h1.cell) (fun e => own_ne h1.own h1.cell (by decide) e.symm)]
    exact h1.cell
  have hne : v'.ownBlock ≠ some Q := by
    rcases hat with e | e
    · rw [e]; exact own_ne h1.own h1.cell (by decide)
    · rw [e]; intro e2; have := lt_of_block h1.cell; simp at e2; omega
  have hf2 : Fr wa (w2.setCell ⟨Q, 0, none⟩ v') (fun k => k = Q ∨ v.ownBlock = some k) := ((Fr.refl wa (fun k => k = Q ∨ v.ownBlock = some k)).grown hg (fun k _ e => Or.inr e)).setCell (p := ⟨Q, 0, none⟩) (fun _ => Or.inl rfl) _
  have hno : ∀ {S' : Nat} {Y : Nat → Prop} {V : Vw}, Sh wa base S' slots Y V → Sh (w2.setCell ⟨Q, 0, none⟩ v') base S' slots Y V := fun {S' Y V} hs => by
    refine hs.fr hf2 (fun b hb hx => ?_) (fun hx => ?_)
    · rcases hx with e | e
      · rw [e] at hb; exact hs.not ⟨_, h1.cell⟩ (by unfold okT; decide) hb
      · obtain ⟨cs, hcs⟩ := own_kind h1.own e
        exact hs.not ⟨cs, hcs⟩ (by unfold okT; decide) hb
    · have hgb : gM < base := by obtain ⟨_, _, _, _, _, h5, _, _⟩ := hs; exact h5.gb
      rcases hx with e | e
      · have := h1.hQ; omega
      · have := (h1.own.lt gM e).1; omega
  refine ⟨hQ2, one_setCell hQ2, ?_, ?_, ?_, h.hQ, by simp; omega⟩
  · have := ownsRow_setCell_other (a := ⟨Q, 0, none⟩) hown hne v'
    rw [List.length_append]
    have e : ps (L ++ [⟨S, X, []⟩]) = ps L ++ [.pointer (some ⟨S, 0, none⟩)] := by simp [ps, ptr]
    rw [e]
    exact this
  · intro s hs
    rcases List.mem_append.1 hs with hs | hs
    · exact hno (h1.sh s hs)
    · rw [List.mem_singleton.1 hs]
      exact hno hS
  · rw [List.pairwise_append]
    refine ⟨h.apart, List.pairwise_singleton _ _, fun a ha b hb k hk hk2 => ?_⟩
    rw [List.mem_singleton.1 hb] at hk2
    have h3 := hX k hk2
    have h4 := (h.sh a ha).lt k hk
    omega

theorem Tryz.info_ps : (Tryz.prog.info? 49).map (fun i => (i.zero, i.size, i.bytes)) = some (some (.pointer none), 1, 8) := by kernel_rfl
theorem vs_nil (L : List Sx) (h : ∀ s ∈ L, s.V = []) : vs L = List.replicate L.length [] := by
  induction L with
  | nil => rfl
  | cons x L ih =>
    have h1 := h x (by simp)
    have h2 := ih (fun s hs => h s (by simp [hs]))
    unfold vs at h2 ⊢
    rw [List.map_cons, h1, h2]
    rfl
/-- What New answers. -/
def NewSt (w0 w' : World) (shards slots : Int) (r : Ending) : Prop := if shards < 1 ∨ 16 < shards ∨ slots < 2 ∨ 1048576 < slots then r = .returned (.tuple #[.pointer none, .int .i64 1]) else ∃ Q, r = .returned (.tuple #[.pointer (some ⟨Q, 0, none⟩), .int .i64 0]) ∧ Sd w0 w' Q slots.toNat (List.replicate shards.toNat [])

set_option maxHeartbeats 2000000 in
set_option maxRecDepth 100000 in
theorem snew {w0 W : World} (shards slots : Int) (hf0 : Fr w0 W (fun _ => False)) (hg0 : Gl w0) :
    Calls Tryz.prog 10 #[.int .i64 shards, .int .i64 slots] W fun r w' => NewSt w0 w' shards slots r ∧ Fr W w' (fun _ => False) := by
  obtain ⟨i0, hi0, hz0, hz1, hz2⟩ := info_parts Tryz.info_ps
  by_cases hs1 : shards < 1
  · go_enter Tryz.func10, Tryz.ntmps10
    go_wp2_with fail
    go_ret2
    refine ⟨?_, Fr.refl _ _⟩
    unfold NewSt
    rw [if_pos (Or.inl hs1)]
    rfl
  by_cases hs2 : 16 < shards
  · go_enter Tryz.func10, Tryz.ntmps10
    go_wp2_with fail
    go_ret2
    refine ⟨?_, Fr.refl _ _⟩
    unfold NewSt
    rw [if_pos (Or.inr (Or.inl hs2))]
    rfl
  have HNw := hid (fun (W' : World) (hf : Fr W W' (fun _ => False)) => S.new_any slots W' ((hg0.fr hf0 (fun h => h)).fr hf (fun h => h)))
  have hgW : gM < W.heap.size := Nat.lt_of_lt_of_le hg0.lt hf0.size
  have HF0 := hid hf0
  have HG0 := hid hg0
  clear hf0 hg0
  by_cases hsl : slots < 2 ∨ 1048576 < slots
  · have HSl := hid hsl
    clear hsl
    go_enter Tryz.func10, Tryz.ntmps10
    go_wp2_with fail
    go_loopg [18] 1 (fun gk s18 wx => s18 = .int .i64 0 ∧ gk = 1 ∧ Hid (Fr W wx (fun _ => False)))
    case atStart => exact ⟨rfl, rfl, alloc_fr _ _ _⟩
    case round =>
      obtain ⟨rfl, rfl, HF⟩ := hrel
      have t1 : (0 : Int) < shards := by omega
      go_wp2_with fail
      refine (HNw.out _ HF.out).mono ?_
      rintro r w1 ⟨hf, hr⟩
      rw [if_pos HSl.out] at hr
      subst hr
      have HF1 := hid (HF.out.trans hf)
      clear hf
      go_wp2_with fail
      go_ret2
      refine ⟨?_, HF1.out⟩
      unfold NewSt
      rw [if_pos (Or.inr (Or.inr HSl.out))]
      rfl
  · have HSl := hid hsl
    clear hsl
    obtain ⟨n, rfl⟩ : ∃ n : Nat, shards = (n : Int) := ⟨shards.toNat, by omega⟩
    have hn1 : 1 ≤ n := by omega
    have hn2 : n ≤ 16 := by omega
    have HI0 : Hid (StI (W.alloc (.cells #[.slice none 0 0] 78)) W.heap.size W.heap.size slots.toNat (.slice none 0 0) []) := ⟨heap_last _ _ _ rfl, ⟨rfl, Or.inl ⟨rfl, rfl⟩⟩, fun s hs => by simp at hs, List.Pairwise.nil, Nat.le_refl _, by simp⟩
    clear hs1 hs2
    go_enter Tryz.func10, Tryz.ntmps10
    go_wp2_with fail
    go_loopg [18] n (fun gk s18 wx => ∃ (i : Nat) (v : Value) (L : List Sx), s18 = .int .i64 (i : Int) ∧ i + gk = n ∧ Hid (L.length = i ∧ ∀ s ∈ L, s.V = []) ∧ Hid (StI wx W.heap.size W.heap.size slots.toNat v L) ∧ Hid (Fr W wx (fun _ => False)))
    case atStart => exact ⟨0, _, [], rfl, by omega, ⟨rfl, fun s hs => by simp at hs⟩, HI0, alloc_fr _ _ _⟩
    case round =>
      obtain ⟨i, v, L, rfl, hgk, HL, HI, HF⟩ := hrel
      clear HI0
      cases gk with
      | zero =>
        have t1 : ¬ (i : Int) < (n : Int) := by omega
        have HE := hid (show i = n by omega)
        clear hgk
        go_wp2_with fail
        go_ret2
        refine ⟨?_, HF.out⟩
        unfold NewSt
        rw [if_neg (by have := HSl.out; omega)]
        refine ⟨_, rfl, ⟨v, L, HI.out.lower HF0.out.size HG0.out.lt, ?_⟩, HF0.out.trans HF.out, by simp; omega⟩
        rw [vs_nil L HL.out.2, HL.out.1, HE.out]
        rfl
      | succ gk =>
        have hi : i < n := by omega
        have t1 : (i : Int) < (n : Int) := by omega
        have HG := hid hgk
        clear hgk
        obtain ⟨ao, cap, rfl⟩ := own_nil_shape HI.out.own
        go_wp2_with fail
        refine (HNw.out _ HF.out).mono ?_
        rintro r w1 ⟨hf, hr⟩
        rw [if_neg HSl.out] at hr
        obtain ⟨S, X, rfl, hSh⟩ := hr
        have HSh := hid (hSh.lower HF.out.size hgW)
        have HX := hid hSh.lo
        have HF1 := hid hf
        have HI1 := hid (HI.out.step hf)
        clear hf hSh
        have c0 := cell_of_one HI1.out.cell
        have cl := lt_of_block HI1.out.cell
        have hLi := HL.out.1
        have HOw := hid (own_fr HI1.out.own (alloc_fr w1 (.cells #[.pointer (some ⟨S, 0, none⟩)] 49) (fun _ => False)) (fun _ _ h => h))
        have hWs : W.heap.size ≤ w1.heap.size := (HF.out.trans HF1.out).size
        rw [hLi] at c0
        rw [hLi] at HOw
        clear hLi
        go_wp2_with (at_builtin; go_must (refine wpList_append_own_at _ rfl (.tmp 32) (.tmp 34) 76 rfl W.heap.size 49 i0 _ 1 8 Tryz.underlying76 hi0 hz0 hz1 hz2 rfl (by decide) _ _ _ rfl HOw.out ⟨w1.heap.size, 0, none⟩ 1 1 [.pointer (some ⟨S, 0, none⟩)] rfl rfl ?q1 ?q2 ?q3 ?q4 ?q5 ?_))
        case q1 => exact cells_new w1 _ _
        case q2 => intro u hu; simp at hu; rw [hu]; rfl
        case q3 => unfold maxLen; omega
        case q4 => omega
        case q5 => simp; omega
        intro v' w2 hown2 hgrow2 hnil2 hat2
        have hLi := HL.out.1
        obtain ⟨hQ2, hI2⟩ := HI.out.snoc (by omega) (HF1.out.trans (alloc_fr w1 _ _)) (HSh.out.step (alloc_fr w1 (.cells #[.pointer (some ⟨S, 0, none⟩)] 49) _)) HX.out (by rw [hLi]; exact hown2) (by rw [hLi]; exact hgrow2) (by rw [hLi]; simpa using hat2)
        obtain ⟨ao2, cap2, rfl⟩ := own_nil_shape hown2
        have HI2 := hid hI2
        have HFw : Hid (Fr W (w2.setCell ⟨W.heap.size, 0, none⟩ (.slice ao2 (i + 1) cap2)) (fun _ => False)) := ((((HF.out.trans HF1.out).alloc _).grown hgrow2 (fun k hk e => by have := (HOw.out.lt k e).1; omega))).setCell (p := ⟨W.heap.size, 0, none⟩) (fun h => absurd h (Nat.lt_irrefl _)) _
        rw [hLi] at hQ2
        have y0 := cell_of_one hQ2
        have y1 := free_of_one hQ2
        have y2 := lt_of_block hQ2
        clear hown2 hgrow2 hnil2 hat2 hQ2 hI2 c0 cl hLi HOw
        go_wp2_with fail
        go_roundg gk
        case measure => omega
        case rel => exact ⟨i + 1, _, _, by go_num, by have := HG.out; omega, ⟨by simp [HL.out.1], fun s hs => by rcases List.mem_append.1 hs with hs | hs; exact HL.out.2 s hs; rw [List.mem_singleton.1 hs]⟩, HI2, HFw⟩
end Go.Proofs.YtgbkihkefdoddaaGreatDoor.St
end
