/- A shard behind a write: what is laid where. -/
import Derived.Test.YtcjadgnefojjgabDoorSKeep
namespace Go.Proofs.YtcjadgnefojjgabDoor.S
open Go.RowKit G

theorem Found.mem {w w1 : World} {base : Nat} {M : List Ent} {c : Cl} {e : Ent} (h : Found w w1 base M c e) : (e ∈ M ∧ e.c = c) ∨ (getM M c = none ∧ w.heap.size ≤ e.b ∧ e.cv = .slice none 0 0) := by
  rcases h.2.2.2.2 with h1 | h1
  · exact Or.inl (getM_some h1)
  · exact Or.inr h1
/-- An entry of another cell lies apart from what was found. -/
theorem ShI.other {w w1 : World} {base S slots B gr : Nat} {ge : Option Nat} {T : Tb} {M : List Ent} (h : ShI w base S slots B gr ge T M) {c : Cl} {e : Ent} (hfd : Found w w1 base M c e) {f : Ent} (hf : f ∈ M) (hc : f.c ≠ c) : f.b ≠ e.b ∧ (∀ k, f.cv.ownBlock = some k → e.cv.ownBlock ≠ some k) ∧ e.cv.ownBlock ≠ some f.b ∧ (∀ k, f.cv.ownBlock = some k → k ≠ e.b) := by
  have kf := ch_kd (h.ch f hf)
  rcases hfd.mem with ⟨he, hec⟩ | ⟨hn, hb, hcv⟩
  · have ke := ch_kd (h.ch e he)
    have ha : apr f e := by
      have hp := h.apart
      rcases List.mem_iff_append.1 hf with ⟨l1, l2, rfl⟩
      rw [List.pairwise_append] at hp
      rcases List.mem_append.1 he with h1 | h1
      · exact apr_symm (hp.2.2 e h1 f (by simp))
      · rcases List.mem_cons.1 h1 with rfl | h1
        · exact absurd hec hc
        · exact (List.pairwise_cons.1 hp.2.1).1 e h1
    exact ⟨ha.2.1, ha.2.2, fun h1 => (ke.2 _ h1).ne kf.1 (by decide) rfl, fun k h1 => (kf.2 _ h1).ne ke.1 (by decide)⟩
  · have hl := kf.1.lt
    refine ⟨by omega, fun k _ => by rw [hcv]; simp [Value.ownBlock], by rw [hcv]; simp [Value.ownBlock], fun k h1 => ?_⟩
    have := (kf.2 k h1).lt
    omega

/-- What a write leaves, the table's new form given. -/
theorem ShI.laid {w w1 w3 w4 w5 : World} {base S slots B gr gr' : Nat} {ge ge' : Option Nat} {T T' : Tb} {M : List Ent} (h : ShI w base S slots B gr ge T M) {c : Cl} (hc : mayE c = 0) {e : Ent} (hfd : Found w w1 base M c e) {cv' : Value} {L' : List Vn}
    (h13 : Fr w1 w3 (fun k => k = e.b ∨ e.cv.ownBlock = some k)) (hch : Ch w3 base e.b cv' L') (hnw : Nw w1 e.cv cv')
    (hT4 : R.TbAt w4 B gr' ge' T') (hnb : R.Nb w3 B gr ge gr' ge') (h34 : Fr w3 w4 (R.bl B gr ge)) (hI : Inv T') (has : ∀ k v, Has T' k v ↔ (k = key c ∧ v = rwV c e.b) ∨ (k ≠ key c ∧ Has T k v)) (hkeys : T'.keys = (setM M ⟨c, e.b, cv', L'⟩).length) (htl : T'.row.length ≤ 4194320)
    (hS5 : w5.heap[S]? = some (.cells #[.pointer (some ⟨B, 0, none⟩), .int .i64 (slots : Int), .int .i64 (nV (setV (M.map pr) c L') : Int), .int .i64 (nT (setV (M.map pr) c L') : Int), .int .i64 (mxV (setV (M.map pr) c L') : Int)] 53 (0, 0))) (h45 : Fr w4 w5 (fun k => k = S)) (hne : L' ≠ []) (hroom : nU (setV (M.map pr) c L') ≤ slots) :
    ∃ X', Sh w5 base S slots X' (setV (M.map pr) c L') ∧ Fr w w5 (own S B gr ge M) ∧ ∀ b, X' b → own S B gr ge M b ∨ w.heap.size ≤ b := by
  have hF1 := hfd.2.2.2.1
  have hs1 := hF1.size
  have hs3 := h13.size
  have hkS : Kd w S 53 := ⟨_, h.cell⟩
  obtain ⟨hkB, hkg, hke⟩ := tb_kd h.tb
  have hbase : base ≤ w.heap.size := Nat.le_of_lt (Nat.lt_of_le_of_lt (h.lo S (Or.inl rfl)) hkS.lt)
  have hblk : ∀ {k t}, Kd w k t → t ≠ 97 → t ≠ 113 → ¬ R.bl B gr ge k := by
    rintro k t hk h1 h2 (rfl | rfl | hb)
    · exact hk.ne hkB h1 rfl
    · exact hk.ne hkg h2 rfl
    · exact hk.ne (hke k hb) h2 rfl
  have hge : ∀ {k}, w.heap.size ≤ k → ¬ R.bl B gr ge k := fun hk hb => by have := h.tb.bl_lt hb; omega
  -- the cell's own blocks
  have heb : ¬ R.bl B gr ge e.b ∧ e.b ≠ S := by
    rcases hfd.mem with ⟨he, _⟩ | ⟨_, hb, _⟩
    · have := (ch_kd (h.ch e he)).1
      exact ⟨hblk this (by decide) (by decide), this.ne hkS (by decide)⟩
    · exact ⟨hge hb, fun e2 => by have := hkS.lt; omega⟩
  have hcvb : ∀ k, cv'.ownBlock = some k → (e ∈ M ∧ e.cv.ownBlock = some k) ∨ w.heap.size ≤ k := by
    intro k hk
    rcases hnw k hk with h1 | h1
    · rcases hfd.mem with ⟨he, _⟩ | ⟨_, _, hcv⟩
      · exact Or.inl ⟨he, h1⟩
      · rw [hcv] at h1; simp [Value.ownBlock] at h1
    · exact Or.inr (by omega)
  have hcv2 : ∀ k, cv'.ownBlock = some k → ¬ R.bl B gr ge k ∧ k ≠ S := by
    intro k hk
    rcases hcvb k hk with ⟨he, h1⟩ | h1
    · have := (ch_kd (h.ch e he)).2 k h1
      exact ⟨hblk this (by decide) (by decide), this.ne hkS (by decide)⟩
    · exact ⟨hge h1, fun e2 => by have := hkS.lt; omega⟩
  have hown : ∀ k, (k = e.b ∨ e.cv.ownBlock = some k) → k < w.heap.size → own S B gr ge M k := by
    intro k hk hlt
    rcases hfd.mem with ⟨he, _⟩ | ⟨_, hb, hcv⟩
    · exact Or.inr (Or.inr ⟨e, he, hk⟩)
    · rcases hk with rfl | hk
      · omega
      · rw [hcv] at hk; simp [Value.ownBlock] at hk
  have hFr : Fr w w5 (own S B gr ge M) :=
    (((hF1.mono (T := own S B gr ge M) (fun _ _ h => h.elim)).trans2 h13 (fun k hk hs => hown k hs hk)).trans2 h34 (fun k _ hs => Or.inr (Or.inl hs))).trans2 h45 (fun k _ hs => Or.inl hs)
  have hMx : ∀ f, f ∈ setM M ⟨c, e.b, cv', L'⟩ ↔ f = ⟨c, e.b, cv', L'⟩ ∨ (f ∈ M ∧ f.c ≠ c) := fun f => mem_setM h.apart
  have hgl : ¬ own S B gr ge M gM := fun hx => by have := h.lo _ hx; have := h.gb; omega
  have hlo : ∀ b, own S B gr' ge' (setM M ⟨c, e.b, cv', L'⟩) b → own S B gr ge M b ∨ w.heap.size ≤ b := by
    rintro b (rfl | hb | ⟨f, hf, hb⟩)
    · exact Or.inl (Or.inl rfl)
    · rcases hnb b hb with h1 | h1
      · exact Or.inl (Or.inr (Or.inl h1))
      · exact Or.inr (by omega)
    · rcases (hMx f).1 hf with rfl | ⟨hf, _⟩
      · rcases hb with rfl | hb
        · rcases hfd.mem with ⟨he, _⟩ | ⟨_, hb, _⟩
          · exact Or.inl (Or.inr (Or.inr ⟨e, he, Or.inl rfl⟩))
          · exact Or.inr hb
        · rcases hcvb b hb with ⟨he, h1⟩ | h1
          · exact Or.inl (Or.inr (Or.inr ⟨e, he, Or.inr h1⟩))
          · exact Or.inr h1
      · exact Or.inl (Or.inr (Or.inr ⟨f, hf, hb⟩))
  refine ⟨own S B gr' ge' (setM M ⟨c, e.b, cv', L'⟩), ⟨B, gr', ge', T', setM M ⟨c, e.b, cv', L'⟩, ?_, setM_pr M _, rfl⟩, hFr, hlo⟩
  have hV : (setM M ⟨c, e.b, cv', L'⟩).map pr = setV (M.map pr) c L' := setM_pr M _
  exact
    { cell := by rw [hV]; exact hS5
      tb := hT4.fr h45 (fun b hb e2 => by
        subst e2
        rcases hnb b hb with h1 | h1
        · exact (hblk hkS (by decide) (by decide)) h1
        · have := hkS.lt; omega)
      inv := hI
      has := fun k v => by
        rw [has]
        constructor
        · rintro (⟨rfl, rfl⟩ | ⟨hk, hv⟩)
          · exact ⟨_, (hMx _).2 (Or.inl rfl), rfl, rfl⟩
          · obtain ⟨f, hf, rfl, rfl⟩ := (h.has k v).1 hv
            exact ⟨f, (hMx f).2 (Or.inr ⟨hf, fun e2 => hk (by rw [e2])⟩), rfl, rfl⟩
        · rintro ⟨f, hf, rfl, rfl⟩
          rcases (hMx f).1 hf with rfl | ⟨hf, hfc⟩
          · exact Or.inl ⟨rfl, rfl⟩
          · exact Or.inr ⟨fun e2 => hfc (key_inj (h.may f hf) hc e2), (h.has _ _).2 ⟨f, hf, rfl, rfl⟩⟩
      ch := fun f hf => by
        rcases (hMx f).1 hf with rfl | ⟨hf, hfc⟩
        · exact (hch.fr h34 heb.1 (fun k hk => (hcv2 k hk).1)).fr h45 heb.2 (fun k hk => (hcv2 k hk).2)
        · have kf := ch_kd (h.ch f hf)
          obtain ⟨o1, o2, o3, o4⟩ := h.other hfd hf hfc
          have c1 := (h.ch f hf).step hF1
          have c3 := c1.fr h13 (fun e2 => by rcases e2 with e2 | e2; exact o1 e2; exact o3 e2) (fun k hk e2 => by rcases e2 with e2 | e2; exact o4 k hk e2; exact o2 k hk e2)
          have c4 := c3.fr h34 (hblk kf.1 (by decide) (by decide)) (fun k hk => hblk (kf.2 k hk) (by decide) (by decide))
          exact c4.fr h45 (kf.1.ne hkS (by decide)) (fun k hk => (kf.2 k hk).ne hkS (by decide))
      ne := fun f hf => by
        rcases (hMx f).1 hf with rfl | ⟨hf, _⟩
        · exact hne
        · exact h.ne f hf
      may := fun f hf => by
        rcases (hMx f).1 hf with rfl | ⟨hf, _⟩
        · exact hc
        · exact h.may f hf
      apart := setM_apr h.apart (fun f hf hfc => by
        obtain ⟨o1, o2, _, _⟩ := h.other hfd hf hfc
        refine ⟨hfc, o1, fun k hk hk2 => ?_⟩
        rcases hnw k hk2 with h1 | h1
        · exact o2 k hk h1
        · have := ((ch_kd (h.ch f hf)).2 k hk).lt
          omega)
      lo := fun b hb => by
        rcases hlo b hb with h1 | h1
        · exact h.lo b h1
        · omega
      gl := h.gl.fr hFr hgl
      gb := h.gb
      room := by rw [hV]; exact hroom
      sl := h.sl
      keys := hkeys
      tlen := htl }
theorem setM_len {M : List Ent} {x : Ent} : (setM M x).length = match getM M x.c with | some _ => M.length | none => M.length + 1 := by
  induction M with
  | nil => rfl
  | cons e r ih =>
    unfold setM getM
    by_cases h : e.c = x.c
    · rw [if_pos h, if_pos h]
      rfl
    · rw [if_neg h, if_neg h, List.length_cons, ih]
      split <;> simp
/-- The table behind a row that was kept. -/
theorem ShI.kept {w : World} {base S slots B gr : Nat} {ge : Option Nat} {T : Tb} {M : List Ent} (h : ShI w base S slots B gr ge T M) {c : Cl} (hc : mayE c = 0) (b : Nat) (cv' : Value) (L' : List Vn) : Inv (putT zR T (key c) (rwV c b)) ∧ (∀ k v, Has (putT zR T (key c) (rwV c b)) k v ↔ (k = key c ∧ v = rwV c b) ∨ (k ≠ key c ∧ Has T k v)) ∧ (putT zR T (key c) (rwV c b)).keys = (setM M ⟨c, b, cv', L'⟩).length ∧ (putT zR T (key c) (rwV c b)).row.length ≤ 4194320 := by
  have hml : M.length ≤ 1048576 := by
    have h1 := nV_len h.ne
    have h2 := h.room
    have h3 := h.sl
    unfold nU at h2
    omega
  rw [setM_len]
  cases hm : getM M c with
  | some e =>
    obtain ⟨h1, h2⟩ := getM_some hm
    obtain ⟨a1, a2, a3, a4, _⟩ := put_there (z := zR) h.inv (rwV c b) ((h.has (key c) (rwV e.c e.b)).2 ⟨e, h1, by rw [h2], rfl⟩)
    exact ⟨a1, a2, by rw [a3, h.keys], by rw [a4]; exact h.tlen⟩
  | none =>
    obtain ⟨a1, a2, a3, a4, _⟩ := put_new (z := zR) h.inv (rwV c b) (k := key c) (fun v hv => by
      obtain ⟨e, he, h1, _⟩ := (h.has _ _).1 hv
      exact getM_none hm e he (key_inj (h.may e he) hc h1.symm))
    refine ⟨a1, a2, by rw [a3, h.keys], ?_⟩
    rw [a4]
    have h5 := h.tlen
    have h6 := h.keys
    split <;> omega
end Go.Proofs.YtcjadgnefojjgabDoor.S
