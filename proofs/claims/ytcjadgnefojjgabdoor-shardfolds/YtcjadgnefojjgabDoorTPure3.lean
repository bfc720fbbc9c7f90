/- Tables: what every call keeps (Inv), and what lies under keys (Has): P607. -/
import Derived.Test.YtcjadgnefojjgabDoorTPure2
namespace Go.Proofs.YtcjadgnefojjgabDoor

/-- What a table keeps, also amid moving. -/
structure Inv0 (T : Tb) : Prop where
  pos : 8 ≤ T.row.length
  st : ∀ i, i < T.row.length → (at' T.row i).st ≤ 1
  prb : Prb T.row
  unq : Unq T.row
  eprb : Prb T.elder
  eunq : Unq T.elder
  emp : T.elder ≠ [] → Emp T.elder
  half : T.elder ≠ [] → T.elder.length * 2 = T.row.length
  mv : T.moved ≤ T.elder.length
  apart : ∀ k i j, Fnd T.row k i → Fnd T.elder k j → False
  keys : T.keys = cnt T.row + cnt T.elder
  room : 4 * T.keys ≤ 3 * T.row.length
  past : ∀ i, i < T.moved → (at' T.elder i).st ≠ 1
structure Inv (T : Tb) : Prop where
  i0 : Inv0 T
  shut : T.left = 0 → T.elder = []

theorem Inv0.row_emp {T : Tb} (h : Inv0 T) : Emp T.row := emp_of h.st (by have := h.keys; have := h.room; have := h.pos; omega)
/-- What lies under a key. -/
def Has (T : Tb) (k : ByteArray) (v : Value) : Prop := Ent T.row k v ∨ Ent T.elder k v

theorem at_nil (i : Nat) : at' [] i = ⟨0, none8, .int .i64 0⟩ := by simp [at']
theorem at_out {r : List Pl} {i : Nat} (h : r.length ≤ i) : (at' r i).st = 0 := by unfold at'; rw [List.getD_eq_getElem?_getD, List.getElem?_eq_none h]; rfl

theorem at_rep (z : Value) {n i : Nat} (h : i < n) : at' (List.replicate n (pz z)) i = pz z := by
  unfold at'
  rw [List.getD_eq_getElem?_getD, List.getElem?_replicate, if_pos h]
  rfl
theorem cnt_rep (z : Value) (n : Nat) : cnt (List.replicate n (pz z)) = 0 := by
  unfold cnt
  rw [List.countP_replicate]
  rfl
theorem new_inv (z : Value) : Inv (newT z) := by
  have h0 : ∀ i, i < 8 → at' (List.replicate 8 (pz z)) i = pz z := fun i hi => at_rep z hi
  refine ⟨⟨by simp [newT], ?_, ?_, ?_, ?_, ?_, ?_, ?_, ?_, ?_, ?_, ?_, ?_⟩, fun _ => rfl⟩
  · intro i hi
    simp [newT] at hi
    rw [show (newT z).row = List.replicate 8 (pz z) from rfl, h0 i hi]
    exact Nat.zero_le _
  · intro p hp h1
    simp [newT] at hp
    rw [show (newT z).row = List.replicate 8 (pz z) from rfl, h0 p hp] at h1
    cases h1
  · intro p q hp _ h1
    simp [newT] at hp
    rw [show (newT z).row = List.replicate 8 (pz z) from rfl, h0 p hp] at h1
    cases h1
  · intro p hp; simp [newT] at hp
  · intro p q hp; simp [newT] at hp
  · intro h; exact absurd rfl h
  · intro h; exact absurd rfl h
  · exact Nat.zero_le _
  · intro k i j _ hj
    have := hj.1
    simp [newT] at this
  · show 0 = cnt (List.replicate 8 (pz z)) + 0
    rw [cnt_rep]
  · simp [newT]
  · intro i hi; simp [newT] at hi
theorem new_has (z : Value) (k : ByteArray) (v : Value) : ¬ Has (newT z) k v := by
  rintro (⟨p, hp, e⟩ | ⟨p, hp, e⟩)
  · simp [newT] at hp
    rw [show (newT z).row = List.replicate 8 (pz z) from rfl] at e
    rw [at_rep z hp] at e
    simp [pz] at e
  · simp [newT] at hp

/-- A gone place in the place of a taken one. -/
theorem gone_facts (z : Value) {r : List Pl} {m : Nat} (hm : m < r.length) (h1 : (at' r m).st = 1) (hp : Prb r) (hu : Unq r) (he : Emp r) :
    Prb (r.set m (pg z)) ∧ Unq (r.set m (pg z)) ∧ Emp (r.set m (pg z)) ∧ cnt (r.set m (pg z)) + 1 = cnt r ∧ (∀ k v, Ent (r.set m (pg z)) k v ↔ (k ≠ (at' r m).key ∧ Ent r k v)) := by
  have hA : ∀ p, at' (r.set m (pg z)) p = if m = p then pg z else at' r p := fun p => at_set _ _ _ _ hm
  have hL : (r.set m (pg z)).length = r.length := by simp
  refine ⟨?_, ?_, ?_, ?_, ?_⟩
  · intro p hp1 h2 q hq hlt
    rw [homeL_len hL] at hlt
    rw [hL] at hp1 hq hlt
    rw [hA] at h2 hlt ⊢
    have hpm : m ≠ p := by rintro rfl; rw [if_pos rfl] at h2; cases h2
    rw [if_neg hpm] at h2 hlt
    split
    · simp [pg]
    · exact hp p hp1 h2 q hq hlt
  · intro p q hp1 hq h2 h3 hk
    rw [hL] at hp1 hq
    rw [hA] at h2 h3 hk
    rw [hA] at hk
    have hpm : m ≠ p := by rintro rfl; rw [if_pos rfl] at h2; cases h2
    have hqm : m ≠ q := by rintro rfl; rw [if_pos rfl] at h3; cases h3
    rw [if_neg hpm] at h2 hk
    rw [if_neg hqm] at h3 hk
    exact hu p q hp1 hq h2 h3 hk
  · obtain ⟨j, hj, hj0⟩ := he
    refine ⟨j, by rw [hL]; exact hj, ?_⟩
    rw [hA, if_neg]
    · exact hj0
    · rintro rfl; rw [h1] at hj0; cases hj0
  · have := cnt_set r m (pg z) hm
    have h4 : (pg z).st = 2 := rfl
    rw [h1, h4] at this
    simpa using this
  · intro k v
    constructor
    · rintro ⟨p, hp1, e⟩
      rw [hL] at hp1
      rw [hA] at e
      split at e
      · simp [pg] at e
      · rename_i hne
        exact ⟨fun ek => hne (hu m p hm hp1 h1 (by rw [e]) (by rw [e, ek])), p, hp1, e⟩
    · rintro ⟨hne, p, hp1, e⟩
      refine ⟨p, by rw [hL]; exact hp1, ?_⟩
      rw [hA, if_neg]
      · exact e
      · rintro rfl; rw [e] at hne; exact hne rfl

theorem ent_one {r : List Pl} (hu : Unq r) {k : ByteArray} {v w : Value} (h : Ent r k v) (h2 : Ent r k w) : v = w := by
  obtain ⟨p, hp, e⟩ := h
  obtain ⟨q, hq, e2⟩ := h2
  have := hu p q hp hq (by rw [e]) (by rw [e2]) (by rw [e, e2])
  subst this
  rw [e] at e2
  simpa using e2

theorem one_inv (z : Value) {T : Tb} (h : Inv0 T) (hm : T.moved < T.elder.length) : Inv0 (one z T) ∧ (∀ k v, Has (one z T) k v ↔ Has T k v) ∧ (one z T).moved = T.moved + 1 ∧ (one z T).elder.length = T.elder.length ∧ (one z T).row.length = T.row.length ∧ (one z T).keys = T.keys := by
  have hne : T.elder ≠ [] := by intro e; rw [e] at hm; simp at hm
  unfold one
  by_cases h1 : (at' T.elder T.moved).st = 1
  · rw [if_pos h1]
    generalize hk : (at' T.elder T.moved).key = k
    generalize hv : (at' T.elder T.moved).val = v
    have hF : Fnd T.elder k T.moved := ⟨hm, h1, hk⟩
    have hEnt : Ent T.elder k v := by have := hF.ent; rw [hv] at this; exact this
    have hno : ¬ ∃ i, Fnd T.row k i := fun ⟨i, hi⟩ => h.apart k i _ hi hF
    have he := h.row_emp
    obtain ⟨g1, g2, g3, g4, g5⟩ := gone_facts z hm h1 h.eprb h.eunq (h.emp hne)
    rw [hk] at g5
    have hlay := lay_ent v he hno
    refine ⟨⟨?_, ?_, lay_prb v he hno h.prb, lay_unq v he hno h.unq, g1, g2, fun _ => g3, ?_, ?_, ?_, ?_, ?_, ?_⟩, ?_, rfl, by simp, layP_len _ _ _, rfl⟩
    · show 8 ≤ (layP T.row k v).length
      rw [layP_len]; exact h.pos
    · exact lay_st v he hno h.st
    · intro _
      show (T.elder.set T.moved (pg z)).length * 2 = (layP T.row k v).length
      rw [layP_len, List.length_set]
      exact h.half hne
    · show T.moved + 1 ≤ (T.elder.set T.moved (pg z)).length
      rw [List.length_set]; omega
    · intro k' i j hi hj
      obtain ⟨n1, n2⟩ := (g5 k' _).1 (Fnd.ent hj)
      rcases (hlay k' _).1 (Fnd.ent hi) with ⟨rfl, _⟩ | h3
      · exact n1 rfl
      · obtain ⟨a, ha⟩ := h3.fnd
        obtain ⟨b, hb⟩ := n2.fnd
        exact h.apart k' a b ha hb
    · show T.keys = cnt (layP T.row k v) + cnt (T.elder.set T.moved (pg z))
      have := lay_cnt v he hno
      have := h.keys
      omega
    · show 4 * T.keys ≤ 3 * (layP T.row k v).length
      rw [layP_len]; exact h.room
    · intro i hi
      show (at' (T.elder.set T.moved (pg z)) i).st ≠ 1
      rw [at_set _ _ _ _ hm]
      split
      · simp [pg]
      · rename_i hne2
        exact h.past i (by simp only at hi; omega)
    · intro k' v'
      show Ent (layP T.row k v) k' v' ∨ Ent (T.elder.set T.moved (pg z)) k' v' ↔ _
      rw [hlay, g5]
      constructor
      · rintro ((⟨rfl, rfl⟩ | h3) | h3)
        · exact Or.inr hEnt
        · exact Or.inl h3
        · exact Or.inr h3.2
      · rintro (h3 | h3)
        · exact Or.inl (Or.inr h3)
        · by_cases e : k' = k
          · subst e
            exact Or.inl (Or.inl ⟨rfl, ent_one h.eunq h3 hEnt⟩)
          · exact Or.inr ⟨e, h3⟩
  · rw [if_neg h1]
    refine ⟨⟨h.pos, h.st, h.prb, h.unq, h.eprb, h.eunq, h.emp, h.half, hm, h.apart, h.keys, h.room, ?_⟩, fun _ _ => Iff.rfl, rfl, rfl, rfl, rfl⟩
    intro i hi
    show (at' T.elder i).st ≠ 1
    by_cases e : i = T.moved
    · rw [e]; exact h1
    · exact h.past i (by simp only at hi; omega)

theorem ones_inv (z : Value) : ∀ (n : Nat) {T : Tb}, Inv0 T → n ≤ T.left → Inv0 (ones z n T) ∧ (∀ k v, Has (ones z n T) k v ↔ Has T k v) ∧ (ones z n T).moved = T.moved + n ∧ (ones z n T).elder.length = T.elder.length ∧ (ones z n T).row.length = T.row.length ∧ (ones z n T).keys = T.keys
  | 0, T, h, _ => ⟨h, fun _ _ => Iff.rfl, rfl, rfl, rfl, rfl⟩
  | n + 1, T, h, hn => by
    unfold Tb.left at hn
    obtain ⟨a1, a2, a3, a4, a5, a6⟩ := one_inv z h (by omega)
    obtain ⟨b1, b2, b3, b4, b5, b6⟩ := ones_inv z n a1 (by unfold Tb.left; omega)
    exact ⟨b1, fun k v => (b2 k v).trans (a2 k v), by rw [show ones z (n + 1) T = ones z n (one z T) from rfl, b3, a3]; omega, b4.trans a4, b5.trans a5, b6.trans a6⟩

theorem shut_inv {T : Tb} (h : Inv0 T) : Inv (shut T) ∧ (∀ k v, Has (shut T) k v ↔ Has T k v) ∧ (shut T).left = T.left ∧ (shut T).row = T.row ∧ (shut T).keys = T.keys := by
  unfold shut
  by_cases h0 : T.left = 0
  · rw [if_pos h0]
    have hm : T.moved = T.elder.length := by have := h.mv; unfold Tb.left at h0; omega
    have hno : ∀ k v, ¬ Ent T.elder k v := by
      rintro k v ⟨p, hp, e⟩
      exact h.past p (by omega) (by rw [e])
    have hc0 : cnt T.elder = 0 := by
      unfold cnt
      rw [List.countP_eq_zero]
      intro p hp
      obtain ⟨i, hi, rfl⟩ := List.mem_iff_getElem.1 hp
      have := h.past i (by omega)
      rw [at_get hi] at this
      simpa using this
    refine ⟨⟨⟨h.pos, h.st, h.prb, h.unq, ?_, ?_, ?_, ?_, Nat.le_refl _, ?_, ?_, h.room, ?_⟩, fun _ => rfl⟩, ?_, ?_, rfl, rfl⟩
    · intro p hp; simp at hp
    · intro p q hp; simp at hp
    · intro h; exact absurd rfl h
    · intro h; exact absurd rfl h
    · intro k i j _ hj
      have := hj.1
      simp at this
    · show T.keys = cnt T.row + cnt []
      have := h.keys
      rw [hc0] at this
      exact this
    · intro i hi; simp at hi
    · intro k v
      constructor
      · rintro (h1 | ⟨p, hp, _⟩)
        · exact Or.inl h1
        · simp at hp
      · rintro (h1 | h1)
        · exact Or.inl h1
        · exact absurd h1 (hno k v)
    · rw [h0]; rfl
  · rw [if_neg h0]
    exact ⟨⟨h, fun e => absurd e h0⟩, fun _ _ => Iff.rfl, rfl, rfl, rfl⟩

/-- Move keeps what lies under keys. -/
theorem move_inv (z : Value) {T : Tb} (h : Inv0 T) (n : Int) : Inv (moveT z T n) ∧ (∀ k v, Has (moveT z T n) k v ↔ Has T k v) ∧ (moveT z T n).left = T.left - (min n (T.left : Int)).toNat ∧ (moveT z T n).row.length = T.row.length ∧ (moveT z T n).keys = T.keys := by
  have hle : (min n (T.left : Int)).toNat ≤ T.left := by omega
  obtain ⟨a1, a2, a3, a4, a5, a6⟩ := ones_inv z _ h hle
  obtain ⟨b1, b2, b3, b4, b5⟩ := shut_inv a1
  refine ⟨b1, fun k v => (b2 k v).trans (a2 k v), ?_, ?_, ?_⟩
  · unfold moveT
    rw [b3]
    unfold Tb.left at *
    rw [a3, a4]
    omega
  · unfold moveT
    rw [b4]; exact a5
  · unfold moveT
    rw [b5]; exact a6

/-- What Get and Place tell. -/
theorem place_row {T : Tb} (h : Inv0 T) {k : ByteArray} {i : Nat} (hf : Fnd T.row k i) : placeT T k = (i, false, true) := by
  have := look_there h.row_emp h.prb h.unq hf
  unfold placeT
  rw [this]
  rfl
theorem place_elder {T : Tb} (h : Inv0 T) {k : ByteArray} {i : Nat} (hf : Fnd T.elder k i) : placeT T k = (i, true, true) := by
  have hne : T.elder ≠ [] := by intro e; have := hf.1; rw [e] at this; simp at this
  have h2 := look_there (h.emp hne) h.eprb h.eunq hf
  have h3 : (lookL T.row k).2 = false := by
    cases e : (lookL T.row k).2
    · rfl
    · exact (h.apart k _ i (look_true (fun _ => h.row_emp) e) hf).elim
  unfold placeT
  rw [h3, h2]
  rfl
theorem place_none {T : Tb} (h : Inv0 T) {k : ByteArray} (hn : ∀ v, ¬ Has T k v) : placeT T k = (0, false, false) := by
  have h3 : (lookL T.row k).2 = false := by
    cases e : (lookL T.row k).2
    · rfl
    · exact absurd (Or.inl (look_true (fun _ => h.row_emp) e).ent) (hn _)
  have h4 : (lookL T.elder k).2 = false := by
    cases e : (lookL T.elder k).2
    · rfl
    · exact absurd (Or.inr (look_true h.emp e).ent) (hn _)
  unfold placeT
  rw [h3, h4]
  rfl
theorem get_has (z : Value) {T : Tb} (h : Inv0 T) {k : ByteArray} {v : Value} (hv : Has T k v) : getT z T k = (v, true) := by
  rcases hv with ⟨p, hp, e⟩ | ⟨p, hp, e⟩
  · have := place_row h (k := k) (i := p) ⟨hp, by rw [e], by rw [e]⟩
    unfold getT
    rw [this]
    simp [e]
  · have := place_elder h (k := k) (i := p) ⟨hp, by rw [e], by rw [e]⟩
    unfold getT
    rw [this]
    simp [e]
theorem get_none (z : Value) {T : Tb} (h : Inv0 T) {k : ByteArray} (hn : ∀ v, ¬ Has T k v) : getT z T k = (z, false) := by
  unfold getT
  rw [place_none h hn]
  rfl
theorem has_one {T : Tb} (h : Inv0 T) {k : ByteArray} {v w : Value} (h1 : Has T k v) (h2 : Has T k w) : v = w := by
  have a := get_has (.int .i64 0) h h1
  have b := get_has (.int .i64 0) h h2
  rw [a] at b
  simpa using b
/-- Is it there, and where? -/
theorem place_cases {T : Tb} (h : Inv0 T) (k : ByteArray) : (∃ i, Fnd T.row k i ∧ placeT T k = (i, false, true)) ∨ (∃ i, Fnd T.elder k i ∧ placeT T k = (i, true, true)) ∨ ((∀ v, ¬ Has T k v) ∧ placeT T k = (0, false, false)) := by
  rcases Classical.em (∃ i, Fnd T.row k i) with ⟨i, hi⟩ | h1
  · exact Or.inl ⟨i, hi, place_row h hi⟩
  · rcases Classical.em (∃ i, Fnd T.elder k i) with ⟨i, hi⟩ | h2
    · exact Or.inr (Or.inl ⟨i, hi, place_elder h hi⟩)
    · have hn : ∀ v, ¬ Has T k v := by
        rintro v (hv | hv)
        · exact h1 hv.fnd
        · exact h2 hv.fnd
      exact Or.inr (Or.inr ⟨hn, place_none h hn⟩)

/-- Another value in a taken place. -/
theorem putIn_facts {r : List Pl} {k : ByteArray} {i : Nat} (v : Value) (hf : Fnd r k i) (hu : Unq r) :
    (putIn r i v).length = r.length ∧ (∀ p, (at' (putIn r i v) p).st = (at' r p).st ∧ (at' (putIn r i v) p).key = (at' r p).key) ∧ cnt (putIn r i v) = cnt r ∧ (∀ k' v', Ent (putIn r i v) k' v' ↔ (k' = k ∧ v' = v) ∨ (k' ≠ k ∧ Ent r k' v')) := by
  obtain ⟨hi, h1, hk⟩ := hf
  have hA : ∀ p, at' (putIn r i v) p = if i = p then ⟨(at' r i).st, (at' r i).key, v⟩ else at' r p := fun p => at_set _ _ _ _ hi
  have hL : (putIn r i v).length = r.length := by simp [putIn]
  refine ⟨hL, ?_, ?_, ?_⟩
  · intro p
    rw [hA]
    split
    · rename_i e; subst e; exact ⟨rfl, rfl⟩
    · exact ⟨rfl, rfl⟩
  · have := cnt_set r i ⟨(at' r i).st, (at' r i).key, v⟩ hi
    unfold putIn
    rw [h1] at this ⊢
    simpa using this
  · intro k' v'
    constructor
    · rintro ⟨p, hp, e⟩
      rw [hL] at hp
      rw [hA] at e
      split at e
      · simp only [Pl.mk.injEq] at e
        exact Or.inl ⟨by rw [← e.2.1, hk], e.2.2.symm⟩
      · rename_i hne
        refine Or.inr ⟨fun ek => hne (hu i p hi hp h1 (by rw [e]) (by rw [e, hk, ek])), p, hp, e⟩
    · rintro (⟨rfl, rfl⟩ | ⟨hne, p, hp, e⟩)
      · exact ⟨i, by rw [hL]; exact hi, by rw [hA, if_pos rfl, h1, hk]⟩
      · refine ⟨p, by rw [hL]; exact hp, ?_⟩
        rw [hA, if_neg]
        · exact e
        · rintro rfl; rw [e] at hk; exact hne hk
theorem prb_same {r s : List Pl} (hl : s.length = r.length) (hs : ∀ p, (at' s p).st = (at' r p).st ∧ (at' s p).key = (at' r p).key) (h : Prb r) : Prb s := by
  intro p hp h1 q hq hlt
  rw [homeL_len hl, (hs p).2] at hlt
  rw [hl] at hp hq hlt
  rw [(hs p).1] at h1
  rw [(hs q).1]
  exact h p hp h1 q hq hlt
theorem unq_same {r s : List Pl} (hl : s.length = r.length) (hs : ∀ p, (at' s p).st = (at' r p).st ∧ (at' s p).key = (at' r p).key) (h : Unq r) : Unq s := by
  intro p q hp hq h1 h2 hk
  rw [hl] at hp hq
  rw [(hs p).1] at h1
  rw [(hs q).1] at h2
  rw [(hs p).2, (hs q).2] at hk
  exact h p q hp hq h1 h2 hk
theorem fnd_same {r s : List Pl} (hl : s.length = r.length) (hs : ∀ p, (at' s p).st = (at' r p).st ∧ (at' s p).key = (at' r p).key) (k : ByteArray) (i : Nat) : Fnd s k i ↔ Fnd r k i := by
  unfold Fnd
  rw [hl, (hs i).1, (hs i).2]

/-- Growing. -/
theorem grow_inv (z : Value) {T : Tb} (h : Inv T) : Inv (growT z T) ∧ (∀ k v, Has (growT z T) k v ↔ Has T k v) ∧ (growT z T).row.length = 2 * T.row.length ∧ (growT z T).keys = T.keys ∧ (growT z T).left = T.row.length ∧ (growT z T).row = List.replicate (2 * T.row.length) (pz z) := by
  obtain ⟨a1, a2, a3, a4, a5⟩ := move_inv z h.i0 (T.left : Int)
  have hl0 : (moveT z T (T.left : Int)).left = 0 := by rw [a3]; omega
  have he := a1.shut hl0
  unfold growT
  generalize hU : moveT z T (T.left : Int) = U at *
  dsimp only
  rw [a4, a5]
  have hn : 8 ≤ U.row.length := a1.i0.pos
  have h0 : ∀ i, i < 2 * T.row.length → at' (List.replicate (2 * T.row.length) (pz z)) i = pz z := fun i hi => at_rep z hi
  have hc : cnt (List.replicate (2 * T.row.length) (pz z)) = 0 := cnt_rep z _
  have hlen : (List.replicate (2 * T.row.length) (pz z)).length = 2 * T.row.length := by simp
  have hke : U.keys = cnt U.row := by have := a1.i0.keys; rw [he] at this; exact this
  have hrm := a1.i0.room
  refine ⟨⟨⟨?_, ?_, ?_, ?_, a1.i0.prb, a1.i0.unq, fun _ => a1.i0.row_emp, ?_, Nat.zero_le _, ?_, ?_, ?_, ?_⟩, ?_⟩, ?_, hlen, rfl, ?_, rfl⟩
  · show 8 ≤ (List.replicate (2 * T.row.length) (pz z)).length
    rw [hlen]; omega
  · intro i hi
    show (at' (List.replicate (2 * T.row.length) (pz z)) i).st ≤ 1
    rw [h0 i (by simpa using hi)]
    exact Nat.zero_le _
  · intro p hp h1
    rw [h0 p (by simpa using hp)] at h1
    cases h1
  · intro p q hp _ h1
    rw [h0 p (by simpa using hp)] at h1
    cases h1
  · intro _
    show U.row.length * 2 = (List.replicate (2 * T.row.length) (pz z)).length
    rw [hlen, a4]; omega
  · intro k i j hi _
    have := hi.2.1
    rw [h0 i (by simpa using hi.1)] at this
    cases this
  · show T.keys = cnt (List.replicate (2 * T.row.length) (pz z)) + cnt U.row
    rw [hc, ← hke, a5]; omega
  · show 4 * T.keys ≤ 3 * (List.replicate (2 * T.row.length) (pz z)).length
    rw [hlen]; omega
  · intro i hi
    exact absurd hi (Nat.not_lt_zero _)
  · intro h3
    unfold Tb.left at h3
    simp only at h3
    omega
  · intro k v
    rw [← a2 k v]
    constructor
    · rintro (⟨p, hp, e⟩ | h3)
      · rw [h0 p (by simpa using hp)] at e
        simp [pz] at e
      · exact Or.inl h3
    · rintro (h3 | h3)
      · exact Or.inr h3
      · rw [he] at h3
        obtain ⟨p, hp, _⟩ := h3
        simp at hp
  · show U.row.length - 0 = _
    rw [a4]; omega

theorem put_there {z : Value} {T : Tb} (h : Inv T) {k : ByteArray} (v : Value) {w : Value} (hw : Has T k w) : Inv (putT z T k v) ∧ (∀ k' v', Has (putT z T k v) k' v' ↔ (k' = k ∧ v' = v) ∨ (k' ≠ k ∧ Has T k' v')) ∧ (putT z T k v).keys = T.keys ∧ (putT z T k v).row.length = T.row.length ∧ (putT z T k v).left = (moveT z T 4).left := by
  obtain ⟨a1, a2, _, a4, a5⟩ := move_inv z h.i0 4
  have hw2 := (a2 k w).2 hw
  unfold putT
  generalize moveT z T 4 = U at *
  dsimp only
  rcases place_cases a1.i0 k with ⟨i, hf, hp⟩ | ⟨i, hf, hp⟩ | ⟨hn, hp⟩
  · rw [hp]
    simp only [if_true]
    obtain ⟨c1, c2, c3, c4⟩ := putIn_facts v hf a1.i0.unq
    have hno : ∀ k' v', Ent U.elder k' v' → k' ≠ k := by
      rintro k' v' he rfl
      obtain ⟨j, hj⟩ := he.fnd
      exact a1.i0.apart _ _ _ hf hj
    refine ⟨⟨⟨?_, ?_, prb_same c1 c2 a1.i0.prb, unq_same c1 c2 a1.i0.unq, a1.i0.eprb, a1.i0.eunq, a1.i0.emp, ?_, a1.i0.mv, ?_, ?_, ?_, a1.i0.past⟩, a1.shut⟩, ?_, a5, ?_, rfl⟩
    · show 8 ≤ (putIn U.row i v).length
      rw [c1]; exact a1.i0.pos
    · intro p hp1
      show (at' (putIn U.row i v) p).st ≤ 1
      rw [(c2 p).1]
      exact a1.i0.st p (by rw [← c1]; exact hp1)
    · intro he
      show U.elder.length * 2 = (putIn U.row i v).length
      rw [c1]; exact a1.i0.half he
    · intro k' p q h1 h2
      exact a1.i0.apart k' p q ((fnd_same c1 c2 k' p).1 h1) h2
    · show U.keys = cnt (putIn U.row i v) + cnt U.elder
      rw [c3]; exact a1.i0.keys
    · show 4 * U.keys ≤ 3 * (putIn U.row i v).length
      rw [c1]; exact a1.i0.room
    · intro k' v'
      show Ent (putIn U.row i v) k' v' ∨ Ent U.elder k' v' ↔ _
      rw [c4, ← a2 k' v']
      constructor
      · rintro ((h1 | h1) | h1)
        · exact Or.inl h1
        · exact Or.inr ⟨h1.1, Or.inl h1.2⟩
        · exact Or.inr ⟨hno _ _ h1, Or.inr h1⟩
      · rintro (h1 | ⟨h1, h2 | h2⟩)
        · exact Or.inl (Or.inl h1)
        · exact Or.inl (Or.inr ⟨h1, h2⟩)
        · exact Or.inr h2
    · show (putIn U.row i v).length = _
      rw [c1]; exact a4
  · rw [hp]
    simp only [if_true]
    obtain ⟨c1, c2, c3, c4⟩ := putIn_facts v hf a1.i0.eunq
    have hlen0 : (putIn U.elder i v ≠ []) → U.elder ≠ [] := by
      intro h1 e
      apply h1
      apply List.eq_nil_of_length_eq_zero
      rw [c1, e]; rfl
    have hno : ∀ k' v', Ent U.row k' v' → k' ≠ k := by
      rintro k' v' he rfl
      obtain ⟨j, hj⟩ := he.fnd
      exact a1.i0.apart _ _ _ hj hf
    refine ⟨⟨⟨a1.i0.pos, a1.i0.st, a1.i0.prb, a1.i0.unq, prb_same c1 c2 a1.i0.eprb, unq_same c1 c2 a1.i0.eunq, ?_, ?_, ?_, ?_, ?_, a1.i0.room, ?_⟩, ?_⟩, ?_, a5, a4, ?_⟩
    · intro h1
      obtain ⟨j, hj, hj0⟩ := a1.i0.emp (hlen0 h1)
      exact ⟨j, by rw [c1]; exact hj, by rw [(c2 j).1]; exact hj0⟩
    · intro h1
      show (putIn U.elder i v).length * 2 = U.row.length
      rw [c1]; exact a1.i0.half (hlen0 h1)
    · show U.moved ≤ (putIn U.elder i v).length
      rw [c1]; exact a1.i0.mv
    · intro k' p q h1 h2
      exact a1.i0.apart k' p q h1 ((fnd_same c1 c2 k' q).1 h2)
    · show U.keys = cnt U.row + cnt (putIn U.elder i v)
      rw [c3]; exact a1.i0.keys
    · intro p hp1
      show (at' (putIn U.elder i v) p).st ≠ 1
      rw [(c2 p).1]
      exact a1.i0.past p hp1
    · intro h1
      have : U.left = 0 := by unfold Tb.left at h1 ⊢; simp only [c1] at h1; exact h1
      have h2 := hf.1
      rw [a1.shut this] at h2
      simp at h2
    · intro k' v'
      show Ent U.row k' v' ∨ Ent (putIn U.elder i v) k' v' ↔ _
      rw [c4, ← a2 k' v']
      constructor
      · rintro (h1 | (h1 | h1))
        · exact Or.inr ⟨hno _ _ h1, Or.inl h1⟩
        · exact Or.inl h1
        · exact Or.inr ⟨h1.1, Or.inr h1.2⟩
      · rintro (h1 | ⟨h1, h2 | h2⟩)
        · exact Or.inr (Or.inl h1)
        · exact Or.inl h2
        · exact Or.inr (Or.inr ⟨h1, h2⟩)
    · unfold Tb.left
      simp only [c1]
  · exact absurd hw2 (hn w)

theorem put_new {z : Value} {T : Tb} (h : Inv T) {k : ByteArray} (v : Value) (hn : ∀ w, ¬ Has T k w) : Inv (putT z T k v) ∧ (∀ k' v', Has (putT z T k v) k' v' ↔ (k' = k ∧ v' = v) ∨ (k' ≠ k ∧ Has T k' v')) ∧ (putT z T k v).keys = T.keys + 1 ∧ (putT z T k v).row.length = (if 3 * T.row.length < 4 * (T.keys + 1) then 2 * T.row.length else T.row.length) ∧ (putT z T k v).left = (if 3 * T.row.length < 4 * (T.keys + 1) then T.row.length else (moveT z T 4).left) := by
  obtain ⟨a1, a2, _, a4, a5⟩ := move_inv z h.i0 4
  have hn2 : ∀ w, ¬ Has (moveT z T 4) k w := fun w hw => hn w ((a2 k w).1 hw)
  unfold putT
  generalize moveT z T 4 = U at *
  dsimp only
  rw [place_none a1.i0 hn2]
  simp only [Bool.false_eq_true, if_false]
  rw [← a4, ← a5]
  have key : ∀ G : Tb, Inv G → (∀ k' v', Has G k' v' ↔ Has U k' v') → 4 * (G.keys + 1) ≤ 3 * G.row.length → Inv ⟨layP G.row k v, G.elder, G.moved, G.keys + 1⟩ ∧ (∀ k' v', Has ⟨layP G.row k v, G.elder, G.moved, G.keys + 1⟩ k' v' ↔ (k' = k ∧ v' = v) ∨ (k' ≠ k ∧ Has T k' v')) := by
    intro G g1 g2 g3
    have hnG : ∀ w, ¬ Has G k w := fun w hw => hn2 w ((g2 k w).1 hw)
    have hno : ¬ ∃ i, Fnd G.row k i := fun ⟨i, hi⟩ => hnG _ (Or.inl hi.ent)
    have hno2 : ¬ ∃ i, Fnd G.elder k i := fun ⟨i, hi⟩ => hnG _ (Or.inr hi.ent)
    have he := g1.i0.row_emp
    have hlay := lay_ent v he hno
    refine ⟨⟨⟨?_, lay_st v he hno g1.i0.st, lay_prb v he hno g1.i0.prb, lay_unq v he hno g1.i0.unq, g1.i0.eprb, g1.i0.eunq, g1.i0.emp, ?_, g1.i0.mv, ?_, ?_, ?_, g1.i0.past⟩, g1.shut⟩, ?_⟩
    · show 8 ≤ (layP G.row k v).length
      rw [layP_len]; exact g1.i0.pos
    · intro h1
      show G.elder.length * 2 = (layP G.row k v).length
      rw [layP_len]; exact g1.i0.half h1
    · intro k' p q h1 h2
      rcases (hlay k' _).1 h1.ent with ⟨rfl, _⟩ | h3
      · exact hno2 ⟨_, h2⟩
      · obtain ⟨b, hb⟩ := h3.fnd
        exact g1.i0.apart k' b q hb h2
    · show G.keys + 1 = cnt (layP G.row k v) + cnt G.elder
      rw [lay_cnt v he hno, g1.i0.keys]; omega
    · show 4 * (G.keys + 1) ≤ 3 * (layP G.row k v).length
      rw [layP_len]; exact g3
    · intro k' v'
      show Ent (layP G.row k v) k' v' ∨ Ent G.elder k' v' ↔ _
      rw [hlay, ← a2 k' v', ← g2 k' v']
      constructor
      · rintro ((h1 | h1) | h1)
        · exact Or.inl h1
        · exact Or.inr ⟨by rintro rfl; exact hnG _ (Or.inl h1), Or.inl h1⟩
        · exact Or.inr ⟨by rintro rfl; exact hnG _ (Or.inr h1), Or.inr h1⟩
      · rintro (h1 | ⟨_, h1 | h1⟩)
        · exact Or.inl (Or.inl h1)
        · exact Or.inl (Or.inr h1)
        · exact Or.inr h1
  by_cases hg : 3 * U.row.length < 4 * (U.keys + 1)
  · rw [if_pos hg, if_pos hg, if_pos hg]
    obtain ⟨c1, c2, c3, c4, c5, _⟩ := grow_inv z a1
    obtain ⟨d1, d2⟩ := key (growT z U) c1 c2 (by rw [c3, c4]; have := a1.i0.room; have := a1.i0.pos; omega)
    exact ⟨d1, d2, by rw [← c4], by rw [layP_len]; exact c3, c5⟩
  · rw [if_neg hg, if_neg hg, if_neg hg]
    obtain ⟨d1, d2⟩ := key U a1 (fun _ _ => Iff.rfl) (by omega)
    exact ⟨d1, d2, rfl, layP_len _ _ _, rfl⟩

theorem drop_inv {z : Value} {T : Tb} (h : Inv T) (k : ByteArray) : Inv (dropT z T k) ∧ (∀ k' v', Has (dropT z T k) k' v' ↔ (k' ≠ k ∧ Has T k' v')) ∧ (dropT z T k).row.length = T.row.length ∧ (dropT z T k).left = (moveT z T 4).left ∧
    (((∀ w, ¬ Has T k w) ∧ (dropT z T k).keys = T.keys ∧ dropV z T k = (z, false)) ∨ (∃ w, Has T k w ∧ (dropT z T k).keys + 1 = T.keys ∧ dropV z T k = (w, true))) := by
  obtain ⟨a1, a2, _, a4, a5⟩ := move_inv z h.i0 4
  unfold dropT dropV
  generalize moveT z T 4 = U at *
  dsimp only
  rcases place_cases a1.i0 k with ⟨i, hf, hp⟩ | ⟨i, hf, hp⟩ | ⟨hn, hp⟩
  · rw [hp]
    simp only [if_true]
    obtain ⟨j, hj, hj0⟩ := a1.i0.row_emp
    obtain ⟨b1, b2, b3, b4, b5, b6⟩ := mend_spec z hf.1 hj hf.2.1 hj0 a1.i0.prb a1.i0.unq a1.i0.st
    rw [hf.2.2] at b6
    have hno : ∀ k' v', Ent U.elder k' v' → k' ≠ k := by
      rintro k' v' he rfl
      obtain ⟨q, hq⟩ := he.fnd
      exact a1.i0.apart _ _ _ hf hq
    have hHas : Has U k (at' U.row i).val := Or.inl hf.ent
    refine ⟨⟨⟨?_, ?_, b2, b3, a1.i0.eprb, a1.i0.eunq, a1.i0.emp, ?_, a1.i0.mv, ?_, ?_, ?_, a1.i0.past⟩, a1.shut⟩, ?_, ?_, rfl, Or.inr ⟨_, (a2 _ _).1 hHas, ?_, get_has z a1.i0 hHas⟩⟩
    · show 8 ≤ (mendL z U.row i).length
      rw [b1]; exact a1.i0.pos
    · intro p hp1
      exact b4 p (by rw [← b1]; exact hp1)
    · intro h1
      show U.elder.length * 2 = (mendL z U.row i).length
      rw [b1]; exact a1.i0.half h1
    · intro k' p q h1 h2
      obtain ⟨_, h3⟩ := (b6 k' _).1 h1.ent
      obtain ⟨c, hc⟩ := h3.fnd
      exact a1.i0.apart k' c q hc h2
    · show U.keys - 1 = cnt (mendL z U.row i) + cnt U.elder
      have := a1.i0.keys
      omega
    · show 4 * (U.keys - 1) ≤ 3 * (mendL z U.row i).length
      have := a1.i0.room
      rw [b1]; omega
    · intro k' v'
      show Ent (mendL z U.row i) k' v' ∨ Ent U.elder k' v' ↔ _
      rw [b6, ← a2 k' v']
      constructor
      · rintro (h1 | h1)
        · exact ⟨h1.1, Or.inl h1.2⟩
        · exact ⟨hno _ _ h1, Or.inr h1⟩
      · rintro ⟨h1, h2 | h2⟩
        · exact Or.inl ⟨h1, h2⟩
        · exact Or.inr h2
    · show (mendL z U.row i).length = _
      rw [b1]; exact a4
    · show U.keys - 1 + 1 = _
      have := a1.i0.keys
      omega
  · rw [hp]
    simp only [if_true]
    have hne : U.elder ≠ [] := by intro e; have := hf.1; rw [e] at this; simp at this
    obtain ⟨g1, g2, g3, g4, g5⟩ := gone_facts z hf.1 hf.2.1 a1.i0.eprb a1.i0.eunq (a1.i0.emp hne)
    rw [hf.2.2] at g5
    have hno : ∀ k' v', Ent U.row k' v' → k' ≠ k := by
      rintro k' v' he rfl
      obtain ⟨q, hq⟩ := he.fnd
      exact a1.i0.apart _ _ _ hq hf
    have hHas : Has U k (at' U.elder i).val := Or.inr hf.ent
    refine ⟨⟨⟨a1.i0.pos, a1.i0.st, a1.i0.prb, a1.i0.unq, g1, g2, fun _ => g3, ?_, ?_, ?_, ?_, ?_, ?_⟩, ?_⟩, ?_, a4, ?_, Or.inr ⟨_, (a2 _ _).1 hHas, ?_, get_has z a1.i0 hHas⟩⟩
    · intro _
      show (U.elder.set i (pg z)).length * 2 = U.row.length
      rw [List.length_set]; exact a1.i0.half hne
    · show U.moved ≤ (U.elder.set i (pg z)).length
      rw [List.length_set]; exact a1.i0.mv
    · intro k' p q h1 h2
      obtain ⟨_, h3⟩ := (g5 k' _).1 h2.ent
      obtain ⟨c, hc⟩ := h3.fnd
      exact a1.i0.apart k' p c h1 hc
    · show U.keys - 1 = cnt U.row + cnt (U.elder.set i (pg z))
      have := a1.i0.keys
      omega
    · show 4 * (U.keys - 1) ≤ 3 * U.row.length
      have := a1.i0.room
      omega
    · intro p hp1
      show (at' (U.elder.set i (pg z)) p).st ≠ 1
      rw [at_set _ _ _ _ hf.1]
      split
      · simp [pg]
      · exact a1.i0.past p hp1
    · intro h1
      have : U.left = 0 := by unfold Tb.left at h1 ⊢; simp only [List.length_set] at h1; exact h1
      exact absurd (a1.shut this) hne
    · intro k' v'
      show Ent U.row k' v' ∨ Ent (U.elder.set i (pg z)) k' v' ↔ _
      rw [g5, ← a2 k' v']
      constructor
      · rintro (h1 | h1)
        · exact ⟨hno _ _ h1, Or.inl h1⟩
        · exact ⟨h1.1, Or.inr h1.2⟩
      · rintro ⟨h1, h2 | h2⟩
        · exact Or.inl h2
        · exact Or.inr ⟨h1, h2⟩
    · unfold Tb.left
      simp only [List.length_set]
    · have := a1.i0.keys
      omega
  · rw [hp]
    simp only [Bool.false_eq_true, if_false]
    refine ⟨a1, ?_, a4, trivial, Or.inl ⟨fun w hw => hn w ((a2 k w).2 hw), a5, get_none z a1.i0 hn⟩⟩
    intro k' v'
    rw [a2]
    constructor
    · intro h1
      refine ⟨?_, h1⟩
      rintro rfl
      exact hn _ ((a2 _ _).2 h1)
    · exact fun h1 => h1.2
end Go.Proofs.YtcjadgnefojjgabDoor
