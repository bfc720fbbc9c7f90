/- Texts of one proof, joined. -/
import Derived.Test.YtgbkihkefdoddaaGreatDoorJoin27
import Derived.Test.YtgbkihkefdoddaaGreatDoorJoin7
section
/- shard: rows.each, over whatever closure: a walk. -/
namespace Go.Proofs.YtgbkihkefdoddaaGreatDoor.R
open Go.RowKit

theorem ents_mem {r : List Pl} {e : En} (h : e ∈ ents r) (hV : Vok r) : Ent r e.1 (.agg #[.int .i64 e.2.v, .string e.2.k, .int .i64 e.2.s, .pointer e.2.p]) := by
  unfold ents at h
  obtain ⟨p, hp, rfl⟩ := List.mem_map.1 h
  rw [List.mem_filter] at hp
  obtain ⟨i, hi, hpi⟩ := List.mem_iff_getElem.1 hp.1
  have h1 : p.st = 1 := by simpa using hp.2
  obtain ⟨hv, hs⟩ := hV i hi
  rw [at_get hi, hpi] at hv
  refine ⟨i, hi, ?_⟩
  rw [at_get hi, hpi]
  have hx := xOf_eq hv
  obtain ⟨st, key, val⟩ := p
  simp only at h1 hx ⊢
  rw [h1, ← hx]
theorem mem_ents {r : List Pl} {k : ByteArray} {v : Value} (h : Ent r k v) : (k, vl v) ∈ ents r := by
  obtain ⟨p, hp, e⟩ := h
  unfold ents
  refine List.mem_map.2 ⟨⟨1, k, v⟩, List.mem_filter.2 ⟨?_, rfl⟩, rfl⟩
  rw [← e, at_get hp]
  exact List.getElem_mem hp
theorem entT_mem {w : World} {B gr : Nat} {ge : Option Nat} {T : Tb} (h : TbAt w B gr ge T) {e : En} (he : e ∈ entT T) : Has T e.1 (.agg #[.int .i64 e.2.v, .string e.2.k, .int .i64 e.2.s, .pointer e.2.p]) := by
  rcases List.mem_append.1 he with he | he
  · exact Or.inl (ents_mem he h.rok)
  · exact Or.inr (ents_mem he h.eok)
theorem mem_entT {T : Tb} {k : ByteArray} {v : Value} (h : Has T k v) : (k, vl v) ∈ entT T := by
  rcases h with h | h
  · exact List.mem_append.2 (Or.inl (mem_ents h))
  · exact List.mem_append.2 (Or.inr (mem_ents h))
end Go.Proofs.YtgbkihkefdoddaaGreatDoor.R
namespace Go.Proofs.YtgbkihkefdoddaaGreatDoor.S
open Go.RowKit Go.Shelf G

attribute [local go_sem] Oper.semAt_some

/-- What each turns of the world at its beginning: nothing. The sequence's entries, and its own boxes, stay under what leaves their kinds alone. -/
def kE : List TypeId := [193, 197, 96, 115]
theorem sq_kpt {ts : List TypeId} {W W' : World} {N S cap : Nat} {L : List R.En} (hk : KpT ts W W') (ht : ∀ t ∈ kE, t ∉ ts) (h : R.Sq W N S cap L) : R.Sq W' N S cap L := by
  obtain ⟨cs, hcs⟩ := h.blk
  have hb := hk.2 S _ hcs (fun cs' t z e => by cases e; exact ht _ (by decide))
  have hS : W'.heap[S]? = W.heap[S]? := hb.trans hcs.symm
  refine ⟨hk.2 N _ h.cell (fun cs' t z e => by cases e; exact ht _ (by decide)), fun i hi => ?_, h.len, ⟨cs, hb⟩⟩
  rw [World.cell?_of_block (w := W) (a := ⟨S, i * 5, none⟩) hS, World.cell?_of_block (w := W) (a := ⟨S, i * 5 + 1, none⟩) hS, World.cell?_of_block (w := W) (a := ⟨S, i * 5 + 2, none⟩) hS, World.cell?_of_block (w := W) (a := ⟨S, i * 5 + 3, none⟩) hS, World.cell?_of_block (w := W) (a := ⟨S, i * 5 + 4, none⟩) hS]
  exact h.row i hi
theorem keeps_kpt {ts : List TypeId} {B : Nat} {W W' : World} (hk : KpT ts W W') : KeepsFrom B W W' := ⟨hk.1, fun k o _ h ho => hk.2 k o h (fun cs t z e => by rw [e] at ho; cases ho)⟩

/-- What a round is handed. -/
def rwE (y : R.Rw) : Value := .agg #[.int .i64 y.v, .string y.k, .int .i64 y.s, .pointer y.p]

/-- The closure's box, in memory. -/
def BoxD (W : World) (P : Nat) (f : Value) : Prop := W.heap[P]? = some (.cells #[f] 115 (0, 0))
theorem own_box {B P : Nat} {f : Value} : OwnFrom B (fun (_ : Unit) W => BoxD W P f) := fun _ W W' row hs hg hr => by
  have hs : W.heap[P]? = some (.cells #[f] 115 (0, 0)) := hs
  show W'.heap[P]? = _
  rw [hg.block P (lt_of_block hs) (fun e => by
    obtain ⟨_, o, ho, hc⟩ := hr P e.symm
    rw [hs] at ho
    cases ho
    cases hc)]
  exact hs
theorem own_rw {B M : Nat} {y : R.Rw} : OwnFrom B (fun (_ : Unit) W => RwAt W M y) := fun _ W W' row hs hg hr => by
  have hs : W.heap[M]? = some (.cells #[.int .i64 y.v, .string y.k, .int .i64 y.s, .pointer y.p] 106 (0, 0)) := hs
  show W'.heap[M]? = _
  rw [hg.block M (lt_of_block hs) (fun e => by
    obtain ⟨_, o, ho, hc⟩ := hr M e.symm
    rw [hs] at ho
    cases ho
    cases hc)]
  exact hs
theorem ownFrom_le {β : Type} {B C : Nat} {I : β → World → Prop} (h : OwnFrom B I) (hBC : B ≤ C) : OwnFrom C I := fun s W W' row hs hg hr => h s W W' row hs hg (fun r e => ⟨Nat.le_trans hBC (hr r e).1, (hr r e).2⟩)

set_option maxHeartbeats 2000000 in
set_option maxRecDepth 100000 in
theorem each_any {α : Type} {g : α → R.En} {B gr : Nat} {ge : Option Nat} {T : Tb} {D Pm Pt Pe Pf : Nat} (w : World) (h : R.TbAt w B gr ge T) (hg : ∀ L : List R.En, (∀ x ∈ L, x ∈ R.entT T) → ∃ Ls : List α, R.vals g Ls = L)
    (ts : List TypeId) (ht : ∀ t ∈ kE, t ∉ ts)
    (J Jx : List α → World → Prop) (hJ : OwnFrom w.heap.size J) (hJx : OwnFrom w.heap.size Jx) (h0 : J [] w)
    (hstep : ∀ pre x W, J pre W → pre.length < (R.entT T).length → Calls Tryz.prog 82 #[rwE (g x).2, .pointer (some ⟨D, 0, none⟩), .pointer (some ⟨Pm, 0, none⟩), .pointer (some ⟨Pt, 0, none⟩), .pointer (some ⟨Pe, 0, none⟩), .pointer (some ⟨Pf, 0, none⟩)] W fun e W' => KpT ts W W' ∧ ((e = .returned (.bool true) ∧ J (pre ++ [x]) W') ∨ (e = .returned (.bool false) ∧ Jx (pre ++ [x]) W'))) :
    Calls Tryz.prog 70 #[.agg #[.pointer (some ⟨B, 0, none⟩)], .func (.func 82) #[] #[.pointer (some ⟨D, 0, none⟩), .pointer (some ⟨Pm, 0, none⟩), .pointer (some ⟨Pt, 0, none⟩), .pointer (some ⟨Pe, 0, none⟩), .pointer (some ⟨Pf, 0, none⟩)]] w fun r w' => r = .returned (.tuple #[]) ∧ ∃ Ls : List α, (R.vals g Ls).Perm (R.entT T) ∧ (R.vals g Ls).Pairwise (fun a b => 0 ≤ R.cf b a) ∧ (J Ls w' ∨ ∃ pre, pre <+: Ls ∧ Jx pre w') := by
  have hAl := fun (W : World) (hf : Fr w W (fun _ => False)) => R.all_any W (h.step hf)
  have HAl := hid hAl
  have HG := hid hg
  have HJ := hid hJ
  have HJx := hid hJx
  have H0 := hid h0
  have HS := hid hstep
  have HT := hid ht
  have hlt := h.lt
  clear hAl h hg hJ hJx h0 hstep ht
  refine (callsIn_wide (n := 3)).1 ?_
  refine callsIn_of_wp_marks Tryz.func70 rfl trivial ?_ rfl
  simp only [Tryz.ntmps70, List.size_toArray, List.length_cons, List.length_nil, Nat.reduceAdd, Nat.reduceSub, Array.replicate_succ, Array.replicate_zero, List.push_toArray, List.append_toArray, List.nil_append, List.cons_append]
  refine wpIn_wide.2 ?_
  go_wp2_with fail
  refine (HAl.out _ ((alloc_fr w _ _).alloc _)).mono ?_
  rintro e w5 ⟨N, rfl, S, cap, L, hN, hS, hq, hp, hs, hf5⟩
  obtain ⟨Ls, hLs⟩ := HG.out L (fun x hx => hp.subset hx)
  rw [← hLs] at hq hp hs
  have HQ := hid hq
  have HP := hid hp
  have HSo := hid hs
  have HF5 := hid (((alloc_fr w _ (fun _ => False)).alloc _).trans hf5)
  have HBx : Hid (BoxD w5 (w.heap.size + 1) (.func (.func 82) #[] #[.pointer (some ⟨D, 0, none⟩), .pointer (some ⟨Pm, 0, none⟩), .pointer (some ⟨Pt, 0, none⟩), .pointer (some ⟨Pe, 0, none⟩), .pointer (some ⟨Pf, 0, none⟩)])) := (hf5.block _ (by simp) (fun h => h)).trans (heap_last _ _ _ (by simp))
  have HJ5 : Hid (J [] w5) := HJ.out [] w w5 none H0.out ⟨HF5.out.os, HF5.out.tape, HF5.out.output, HF5.out.size, fun k hk _ => HF5.out.block k hk (fun h => h)⟩ (fun r e => by cases e)
  have hsz := HF5.out.size
  clear hq hp hs hf5 hLs
  go_wp2_with fail
  refine (wpIn_wide (n := 3)).1 ?_
  refine wpIn_rangeFunc_ownH rfl (by decide) (gf := 141) (lb := #[.pointer (some ⟨N, 0, none⟩)]) rfl trivial (enters_of Tryz.func141 (by kernel_rfl) rfl)
    (R.seq_stops Fence.wide 2 trivial rfl (by decide) N S cap Ls w5 HQ.out) (fun h k => fun z => k (h z)) (fun W l o o' _ hl ho _ => fun z => z.putObj o' hl ho) (Below.refl _ _) (fun _ => rfl)
    (fun pre W => J pre W ∧ BoxD W (w.heap.size + 1) (.func (.func 82) #[] #[.pointer (some ⟨D, 0, none⟩), .pointer (some ⟨Pm, 0, none⟩), .pointer (some ⟨Pt, 0, none⟩), .pointer (some ⟨Pe, 0, none⟩), .pointer (some ⟨Pf, 0, none⟩)]))
    (fun c pre W => c = .ret ∧ Jx pre W)
    ((ownFrom_le HJ.out hsz).and (fun s W W' row hs hg hr => own_box () W W' row hs hg hr))
    (fun c s W W' row hs hg hr => ⟨hs.1, ownFrom_le HJx.out hsz s W W' row hs.2 hg hr⟩)
    ⟨HJ5.out, HBx.out⟩
    (fun x a' W => ∃ M, a' = { tmps := #[.agg #[.pointer (some ⟨B, 0, none⟩)], .func (.func 82) #[] #[.pointer (some ⟨D, 0, none⟩), .pointer (some ⟨Pm, 0, none⟩), .pointer (some ⟨Pt, 0, none⟩), .pointer (some ⟨Pe, 0, none⟩), .pointer (some ⟨Pf, 0, none⟩)], .pointer (some ⟨w.heap.size, 0, none⟩), .pointer (some ⟨w.heap.size + 1, 0, none⟩), undef, .pointer (some ⟨M, 0, none⟩), .pointer (some ⟨w.heap.size, 0, none⟩), .pointer (some ⟨B, 0, none⟩), .func (.func 141) #[] #[.pointer (some ⟨N, 0, none⟩)], .string (g x).1, rwE (g x).2, undef, undef, undef, undef], defers := [] } ∧ RwAt W M (g x).2)
    (fun x a' s W W' row hs hg hr => by
      obtain ⟨M, e, hM⟩ := hs
      exact ⟨M, e, own_rw () W W' row hM hg hr⟩) ?assign ?body ?done ?stop
  case assign =>
    rintro l pre x W K ⟨hJp, hBp⟩ hK
    unfold R.encG R.encV
    generalize g x = y at *
    obtain ⟨key, z⟩ := y
    have HKe := hid hK
    clear hK
    unfold rwE at HKe
    dsimp only at HKe ⊢
    gi_wp2
    refine HKe.out _ _ ?k1 ?k2 ?k3 ?k4
    case k4 => exact ⟨_, rfl, RwAt.new _ z _ rfl⟩
    case k1 => exact (keeps_kpt (ts := []) (KpT.of (alloc_fr _ _ _)))
    case k2 => exact fun h => h.alloc _
    case k3 => exact ⟨(ownFrom_le HJ.out hsz).alloc _ hJp, own_box (B := 0) () W _ none hBp (World.grownBy_alloc W _ none) (fun r e => by cases e)⟩
  case body =>
    rintro l pre x a' W hl _ ⟨hJp, hBp⟩ ⟨M, rfl, hM⟩ hlt2
    have HC := hid (HS.out pre x W hJp (by rw [← HP.out.length_eq, R.vals_length]; exact hlt2))
    have HBp := hid hBp
    have b0 := cell_of_one hBp
    obtain ⟨⟨r0, r1, r2, r3⟩, _⟩ := hM.cells
    generalize hy : (g x) = y at *
    obtain ⟨key, z⟩ := y
    have HY := hid hy
    unfold rwE at HC ⊢
    dsimp only at *
    clear hy hBp hJp hM
    gi_wp2_with (refine ⟨trivial, ?_⟩; refine (CallsIn.inRound l (callsIn_wide.2 HC.out)).mono ?_; rintro e' w' ⟨hk, (⟨rfl, hJ'⟩ | ⟨rfl, hJ'⟩)⟩)
    · exact ⟨keeps_kpt hk, sq_kpt hk HT.out, hJ', hk.2 _ _ HBp.out (fun cs t z e => by cases e; exact HT.out _ (by decide))⟩
    · exact ⟨keeps_kpt hk, rfl, hJ'⟩
  case done =>
    rintro Dq ys W hD rfl ⟨hJp, _⟩ hK
    refine ⟨by simp, .inl ⟨_, _, rfl, run_takeDeferred hK, ?_⟩⟩
    exact ⟨.tuple #[], by simp [results, Tryz.results70, go_sem], rfl, ys, HP.out, HSo.out, Or.inl ((ownFrom_le HJ.out hsz).putObj _ hJp hD hK rfl)⟩
  case stop =>
    rintro Dq c pre W hD hSp ⟨rfl, hx⟩ hK
    refine wpIn_ret ?_
    refine ⟨by simp, .inl ⟨_, _, rfl, run_takeDeferred hK, ?_⟩⟩
    exact ⟨.tuple #[], by simp [results, Tryz.results70, go_sem], rfl, Ls, HP.out, HSo.out, Or.inr ⟨pre, hSp, (ownFrom_le HJx.out hsz).putObj _ hx hD hK rfl⟩⟩
end Go.Proofs.YtgbkihkefdoddaaGreatDoor.S
end

section
/- shard: Range: a walk. -/
namespace Go.Proofs.YtgbkihkefdoddaaGreatDoor.S
open Go.RowKit G

abbrev Rr := M.Rw
theorem nodup_of_map {α β : Type} (f : α → β) {l : List α} (h : (l.map f).Nodup) : l.Nodup := by
  induction l with
  | nil => simp
  | cons x l ih =>
    rw [List.map_cons, List.nodup_cons] at h
    exact List.nodup_cons.2 ⟨fun hx => h.1 (List.mem_map.2 ⟨x, hx, rfl⟩), ih h.2⟩
/-- A list without twins that lies in another one of its length is that one, in some order. -/
theorem perm_sub {α : Type} : ∀ {l m : List α}, l.Nodup → (∀ x ∈ l, x ∈ m) → m.length ≤ l.length → m.Perm l
  | [], m, _, _, h => by
    have : m = [] := List.eq_nil_of_length_eq_zero (by simpa using h)
    rw [this]
  | x :: l, m, hn, hs, hl => by
    obtain ⟨s, t, rfl⟩ := List.append_of_mem (hs x (by simp))
    obtain ⟨h1, h2⟩ := List.nodup_cons.1 hn
    have ih := perm_sub (l := l) (m := s ++ t) h2 (fun y hy => by
      have := hs y (by simp [hy])
      simp only [List.mem_append, List.mem_cons] at this ⊢
      rcases this with h | h | h
      · exact Or.inl h
      · rw [h] at hy; exact absurd hy h1
      · exact Or.inr h) (by simp at hl ⊢; omega)
    exact List.perm_middle.trans (ih.cons x)
/-- An entry of the table, of a cell with where its chain lies. -/
def enE (e : Ent) : R.En := (key e.c, ⟨e.c.v, e.c.k, e.c.s, some ⟨e.b, 0, none⟩⟩)
theorem enE_val (e : Ent) : rwV e.c e.b = .agg #[.int .i64 (enE e).2.v, .string (enE e).2.k, .int .i64 (enE e).2.s, .pointer (enE e).2.p] := rfl
theorem enE_inj {a b : Ent} (h : enE a = enE b) : a.c = b.c := by
  unfold enE at h
  simp only [Prod.mk.injEq, R.Rw.mk.injEq] at h
  obtain ⟨_, h1, h2, h3, _⟩ := h
  cases ha : a.c
  cases hb : b.c
  rw [ha, hb] at h1 h2 h3
  simp only at h1 h2 h3
  rw [h1, h2, h3]
theorem nodup_en {M : List Ent} (h : M.Pairwise apr) : (M.map enE).Nodup := by
  induction M with
  | nil => simp
  | cons x M ih =>
    obtain ⟨h1, h2⟩ := List.pairwise_cons.1 h
    rw [List.map_cons, List.nodup_cons]
    refine ⟨fun hm => ?_, ih h2⟩
    obtain ⟨y, hy, e⟩ := List.mem_map.1 hm
    exact (h1 y hy).1 (enE_inj e.symm)
theorem ShI.ents {w : World} {base S slots B gr : Nat} {ge : Option Nat} {T : Tb} {M : List Ent} (h : ShI w base S slots B gr ge T M) : (R.entT T).Perm (M.map enE) := by
  refine perm_sub (nodup_en h.apart) (fun x hx => ?_) ?_
  · obtain ⟨e, he, rfl⟩ := List.mem_map.1 hx
    have := R.mem_entT ((h.has (key e.c) (rwV e.c e.b)).2 ⟨e, he, rfl, rfl⟩)
    rw [enE_val, R.vl_x] at this
    exact this
  · have h1 := h.inv.i0.keys
    have h2 := h.keys
    unfold R.entT
    rw [List.length_append, R.ents_length, R.ents_length, List.length_map]
    omega
/-- Cells that stand in a shard, as a type. -/
abbrev EM (M : List Ent) := { e : Ent // e ∈ M }
def gM' (M : List Ent) (e : EM M) : R.En := enE e.1
def ve (M : List Ent) (l : List (EM M)) : Vw := l.map (fun e => pr e.1)
theorem lift_em {M : List Ent} : ∀ L : List R.En, (∀ x ∈ L, x ∈ M.map enE) → ∃ Ls : List (EM M), R.vals (gM' M) Ls = L
  | [], _ => ⟨[], rfl⟩
  | x :: L, h => by
    obtain ⟨Ls, e⟩ := lift_em L (fun y hy => h y (List.mem_cons_of_mem _ hy))
    obtain ⟨m, hm, e2⟩ := List.mem_map.1 (h x (by simp))
    exact ⟨⟨m, hm⟩ :: Ls, by show enE m :: R.vals (gM' M) Ls = x :: L; rw [e, e2]⟩
theorem ve_append (M : List Ent) (a b : List (EM M)) : ve M (a ++ b) = ve M a ++ ve M b := List.map_append
theorem apr_unl {M : List Ent} (h : M.Pairwise apr) : Unl (M.map pr) := by
  unfold Unl
  rw [List.pairwise_map]
  exact h.imp (fun h => h.1)
/-- Entries in some order are cells in that order. -/
theorem perm_ve {M : List Ent} (ha : M.Pairwise apr) {Ls : List (EM M)} (h : (R.vals (gM' M) Ls).Perm (M.map enE)) : (ve M Ls).Perm (M.map pr) := by
  have h1 : (Ls.map (fun e => e.1)).Perm M := by
    have hnd : M.Nodup := nodup_of_map _ (nodup_en ha)
    have hnl : (Ls.map (fun e => e.1)).Nodup := by
      have : ((Ls.map (fun e => e.1)).map enE).Nodup := by
        rw [List.map_map]
        exact h.nodup_iff.2 (nodup_en ha)
      exact nodup_of_map _ this
    refine (perm_sub hnl (fun x hx => ?_) ?_).symm
    · obtain ⟨e, _, rfl⟩ := List.mem_map.1 hx
      exact e.2
    · have := h.length_eq
      simp only [R.vals, List.length_map] at this ⊢
      omega
  have := h1.map pr
  rw [List.map_map] at this
  exact this
theorem sorted_ve {M : List Ent} (hm : ∀ e ∈ M, mayE e.c = 0) {Ls : List (EM M)} (h : (R.vals (gM' M) Ls).Pairwise (fun a b => 0 ≤ R.cf b a)) : (ve M Ls).Pairwise leV := by
  unfold R.vals at h
  unfold ve
  rw [List.pairwise_map] at h ⊢
  refine h.imp (fun {a b} h => ?_)
  unfold R.cf gM' enE at h
  dsimp only at h
  rw [cb_key (hm _ b.2) (hm _ a.2)] at h
  have := cmpS_flip a.1.c b.1.c
  unfold leV pr
  dsimp only
  omega

/-- What Range leaves: rows of one's own. -/
def RowsAt (w w' : World) (v : Value) (L : List M.Rw) : Prop := w'.ownsRow w.heap.size 58 7 v L.length (M.rc L) ∧ Fr w w' (fun _ => False)

theorem nV_mem {V : Vw} : V.length ≤ nV V ∨ ∃ x ∈ V, x.2 = [] := by
  induction V with
  | nil => exact Or.inl (Nat.le_refl _)
  | cons x V ih =>
    rcases ih with h | ⟨y, hy, e⟩
    · by_cases hx : x.2 = []
      · exact Or.inr ⟨x, by simp, hx⟩
      · left
        have := List.length_pos_iff.2 hx
        simp only [List.length_cons, nV]
        omega
    · exact Or.inr ⟨y, by simp [hy], e⟩

set_option maxHeartbeats 2000000 in
set_option maxRecDepth 100000 in
theorem range_any {base S slots : Nat} {X : Nat → Prop} {V : Vw} (e : Int) (fr til : Cl) (most : Int) (w : World) (h : Sh w base S slots X V) :
    Calls Tryz.prog 39 #[.pointer (some ⟨S, 0, none⟩), .int .i64 e, .agg #[.int .i64 fr.v, .string fr.k, .int .i64 fr.s], .agg #[.int .i64 til.v, .string til.k, .int .i64 til.s], .int .i64 most] w fun r w' => ∃ v, r = .returned v ∧ RowsAt w w' v (rangeL V e fr til most) := by
  obtain ⟨B, gr, ge, T, M, h1, rfl, rfl⟩ := h
  have hSl := lt_of_block h1.cell
  have hc0 := (cells5 h1.cell).1.1
  have hml : M.length ≤ 1048576 := by
    have := nV_len h1.ne
    have := h1.room
    have := h1.sl
    unfold nU at *
    omega
  have HSh := hid h1
  have HMl := hid hml
  clear h1 hml
  obtain ⟨W0, hW0⟩ : ∃ W0, ((((w.alloc (.cells #[.int .i64 e] 3)).alloc (.cells #[.int .i64 fr.v, .string fr.k, .int .i64 fr.s] 33)).alloc (.cells #[.int .i64 til.v, .string til.k, .int .i64 til.s] 33)).alloc (.cells #[.int .i64 most] 3)).alloc (.cells #[.slice none 0 0] 65) = W0 := ⟨_, rfl⟩
  have HI0 : Hid (RI w W0 (w.heap.size + 4) (w.heap.size + 3) (w.heap.size + 2) w.heap.size (w.heap.size + 1) most e fr til (.slice none 0 0) []) := by
    show RI _ _ _ _ _ _ _ _ _ _ _ _ _
    rw [← hW0]
    refine ⟨heap_last _ _ _ (by simp), ?_, ?_, ?_, ?_, ⟨rfl, Or.inl ⟨rfl, rfl⟩⟩, ((((alloc_fr w _ _).alloc _).alloc _).alloc _).alloc _, by omega, by simp⟩
    · rw [Below.heap_alloc _ _ _ (by simp)]
      exact heap_last _ _ _ (by simp)
    · rw [Below.heap_alloc _ _ _ (by simp), Below.heap_alloc _ _ _ (by simp)]
      exact heap_last _ _ _ (by simp)
    · rw [Below.heap_alloc _ _ _ (by simp; try omega), Below.heap_alloc _ _ _ (by simp; try omega), Below.heap_alloc _ _ _ (by simp; try omega), Below.heap_alloc _ _ _ (by simp)]
      exact heap_last _ _ _ rfl
    · rw [Below.heap_alloc _ _ _ (by simp; try omega), Below.heap_alloc _ _ _ (by simp; try omega), Below.heap_alloc _ _ _ (by simp; try omega)]
      exact heap_last _ _ _ (by simp)
  have HE : Hid (Calls Tryz.prog 70 #[.agg #[.pointer (some ⟨B, 0, none⟩)], .func (.func 82) #[] #[.pointer (some ⟨w.heap.size + 4, 0, none⟩), .pointer (some ⟨w.heap.size + 3, 0, none⟩), .pointer (some ⟨w.heap.size + 2, 0, none⟩), .pointer (some ⟨w.heap.size, 0, none⟩), .pointer (some ⟨w.heap.size + 1, 0, none⟩)]] W0 fun r w' => r = .returned (.tuple #[]) ∧ ∃ v, RI w w' (w.heap.size + 4) (w.heap.size + 3) (w.heap.size + 2) w.heap.size (w.heap.size + 1) most e fr til v (rangeL (M.map pr) e fr til most)) := by
    have hT0 := (HSh.out.step HI0.out.fr).tb
    have hown : ∀ (L : List Rr) (C : Nat), w.heap.size ≤ C → OwnFrom C (fun (_ : Unit) W => ∃ v, RI w W (w.heap.size + 4) (w.heap.size + 3) (w.heap.size + 2) w.heap.size (w.heap.size + 1) most e fr til v L) := fun L C hC _ W W' row hs hg hr => by
      obtain ⟨v, hR⟩ := hs
      refine ⟨v, ?_⟩
      have hn : ∀ (k : Nat) (cs : Array Value) (t : TypeId), W.heap[k]? = some (Obj.cells cs t (0, 0)) → W'.heap[k]? = some (Obj.cells cs t (0, 0)) := fun k cs t hk => by
        rw [hg.block k (lt_of_block hk) (fun e => by
          obtain ⟨_, o, ho, hc⟩ := hr k e.symm
          rw [hk] at ho
          cases ho
          cases hc)]
        exact hk
      refine ⟨hn _ _ _ hR.cD, hn _ _ _ hR.cm, hn _ _ _ hR.ct, hn _ _ _ hR.ce, hn _ _ _ hR.cf, ⟨hR.own.1, ?_⟩, hR.fr.grown hg (fun k hk e => absurd (hr k e).1 (by omega)), hR.hD, hR.len⟩
      rcases hR.own.2 with h2 | ⟨g, cap, cur, hv, hb, hg2, rest⟩
      · exact Or.inl h2
      · exact Or.inr ⟨g, cap, cur, hv, hb, hn _ _ _ hg2, rest⟩
    have hs0 : w.heap.size ≤ W0.heap.size := HI0.out.fr.size
    refine (each_any (α := EM M) (g := gM' M) W0 hT0 (fun L hL => lift_em L (fun x hx => HSh.out.ents.subset (hL x hx))) kR (by decide)
      (fun pre W => (∀ x ∈ ve M pre, cmpS x.1 til < 0) ∧ (tl e fr til (ve M pre)).length ≤ most.toNat ∧ ∃ v, RI w W (w.heap.size + 4) (w.heap.size + 3) (w.heap.size + 2) w.heap.size (w.heap.size + 1) most e fr til v (tl e fr til (ve M pre)))
      (fun pre W => ∃ p x, pre = p ++ [x] ∧ (most ≤ ((tl e fr til (ve M p)).length : Int) ∨ 0 ≤ cmpS x.1.c til) ∧ (tl e fr til (ve M p)).length ≤ most.toNat ∧ ∃ v, RI w W (w.heap.size + 4) (w.heap.size + 3) (w.heap.size + 2) w.heap.size (w.heap.size + 1) most e fr til v (tl e fr til (ve M p)))
      (fun s W W' row hs hg hr => ⟨hs.1, hs.2.1, hown _ _ hs0 () W W' row hs.2.2 hg hr⟩)
      (fun s W W' row hs hg hr => by obtain ⟨p, x, h1, h2, h3, h4⟩ := hs; exact ⟨p, x, h1, h2, h3, hown _ _ hs0 () W W' row h4 hg hr⟩)
      ⟨fun x hx => by simp [ve] at hx, by simp [ve, tl], _, HI0.out⟩ ?_).mono ?_
    · rintro pre x W ⟨hb, hl, v, hR⟩ hpl
      have hbd : (tl e fr til (ve M pre)).length < 1048576 := by
        have h2 := tl_le e fr til (ve M pre)
        have h3 := HSh.out.ents.length_eq
        have h4 := HMl.out
        have h5 : (ve M pre).length = pre.length := List.length_map ..
        rw [List.length_map] at h3
        omega
      have hch := (HSh.out.step hR.fr).ch x.1 x.2
      refine (clo_any x.1.c hR hbd hch).mono ?_
      have hve : ve M (pre ++ [x]) = ve M pre ++ [pr x.1] := ve_append M pre [x]
      rintro r W' ⟨hk, (⟨hst, rfl, v', hR'⟩ | ⟨hn, rfl, v', hR'⟩)⟩
      · exact ⟨hk, Or.inr ⟨rfl, pre, x, rfl, hst, hl, v', hR'⟩⟩
      · refine ⟨hk, Or.inl ⟨rfl, ?_, ?_, v', ?_⟩⟩
        · intro y hy
          rw [hve, List.mem_append] at hy
          rcases hy with hy | hy
          · exact hb y hy
          · rw [List.mem_singleton.1 hy]
            show cmpS x.1.c til < 0
            omega
        · rw [hve, tl_append, List.length_append, tl_one]
          split
          · rw [List.length_singleton]; omega
          · rw [List.length_nil]; omega
        · rw [hve, tl_append, tl_one]
          have e1 : (if inR e fr til (pr x.1) = true then [rowR (pr x.1).1 (atE (pr x.1).2 e)] else []) = (if 0 < (atE x.1.L e).c ∧ cmpS fr x.1.c ≤ 0 then [rowR x.1.c (atE x.1.L e)] else []) := by
            have hlt : cmpS x.1.c til < 0 := by omega
            by_cases hc : 0 < (atE x.1.L e).c ∧ cmpS fr x.1.c ≤ 0
            · rw [if_pos hc, if_pos (by unfold inR pr; simp [hc.1, hc.2, hlt])]
              rfl
            · rw [if_neg hc, if_neg (by unfold inR pr; simp only [Bool.and_eq_true, decide_eq_true_eq]; intro h; exact hc ⟨h.2, h.1.1⟩)]
          rw [e1]
          exact hR'
    · rintro r w' ⟨rfl, Ls, hp, hs, hJ⟩
      have e1 : ve M Ls = srt (M.map pr) := srt_one (apr_unl HSh.out.apart) (perm_ve HSh.out.apart (hp.trans HSh.out.ents)) (sorted_ve HSh.out.may hs)
      refine ⟨rfl, ?_⟩
      unfold rangeL
      rw [← e1]
      rcases hJ with ⟨_, hl, v, hR⟩ | ⟨pre, hpre, p, x, rfl, hst, hl, v, hR⟩
      · exact ⟨v, by rw [tl_all hl]; exact hR⟩
      · refine ⟨v, ?_⟩
        have hpx : ve M p ++ [pr x.1] <+: ve M Ls := by
          obtain ⟨t, rfl⟩ := hpre
          exact ⟨ve M t, by simp [ve]⟩
        rcases hst with hm | hm
        · rw [tl_full (List.IsPrefix.trans ⟨[pr x.1], rfl⟩ hpx) (by omega)]
          exact hR
        · rw [tl_bound (by rw [e1]; exact srt_sorted _) hpx hm hl]
          exact hR
  have c0 : W0.cell? ⟨S, 0, none⟩ = some (.pointer (some ⟨B, 0, none⟩)) := by rw [(fr_rules HI0.out.fr).1 _ _ hSl]; exact hc0
  have hsz : w.heap.size ≤ W0.heap.size := HI0.out.fr.size
  have hSl0 : S < W0.heap.size := by omega
  go_enter Tryz.func39, Tryz.ntmps39
  go_wp2_with fail
  refine HE.out.mono ?_
  rintro r w1 ⟨rfl, v, hR⟩
  have HR := hid hR
  have d0 := cell_of_one hR.cD
  have dl := lt_of_block hR.cD
  obtain ⟨ao, cap, rfl⟩ := own_nil_shape hR.own
  clear hR HE
  go_wp2_with fail
  go_ret
  exact ⟨_, rfl, HR.out.own, HR.out.fr⟩
end Go.Proofs.YtgbkihkefdoddaaGreatDoor.S
end
