/- EpochLives: the book beside the law's own map. -/
import Derived.Test.YtimefcmemklhpaaELivesP
import Derived.Test.YtimefcmemklhpaaEKnown
namespace Go.Proofs.Ytimefcmemklhpaa.E
open Go.RowKit Go.Maps Go.MuLone

/-- A step's box. -/
def Bl (W : World) (N : Nat) (s : Stp) : Prop := W.heap[N]? = some (.cells #[.int .i64 s.k, .int .i64 s.o, .int .i64 s.e, .bool s.l] 32 (0, 0))
theorem Bl.cells {W : World} {N : Nat} {s : Stp} (h : Bl W N s) : W.cell? ⟨N, 0, none⟩ = some (.int .i64 s.k) ∧ W.cell? ⟨N, 1, none⟩ = some (.int .i64 s.o) ∧ W.cell? ⟨N, 2, none⟩ = some (.int .i64 s.e) ∧ W.cell? ⟨N, 3, none⟩ = some (.bool s.l) := by
  refine ⟨?_, ?_, ?_, ?_⟩ <;> (rw [cell_of_row W N _ _ _ (0, 0) h]; rfl)
theorem Bl.new (W : World) (s : Stp) : Bl (W.alloc (.cells #[.int .i64 s.k, .int .i64 s.o, .int .i64 s.e, .bool s.l] 32)) W.heap.size s := heap_alloc_new W _
theorem Bl.lt {W : World} {N : Nat} {s : Stp} (h : Bl W N s) : N < W.heap.size := lt_of_block h
theorem Bl.step {W W' : World} {N : Nat} {s : Stp} (h : Bl W N s) (hf : Fr W W' (fun _ => False)) : Bl W' N s := (hf.block N h.lt (fun h => h)).trans h
theorem Bl.kb {W W' : World} {N : Nat} {s : Stp} (h : Bl W N s) (hf : Fr W W' (KB W)) : Bl W' N s := kb_stay hf h (by decide)
theorem OwI.keep {w w' : World} {base : Nat} {v : Value} {l : List Int} (h : OwI w base v l) (hf : Fr w w' (fun _ => False)) : OwI w' base v l := h.fr hf (fun _ _ h => h)
theorem OwI.cell {w : World} {base n cap : Nat} {ao : Option Addr} {l : List Int} (h : OwI w base (.slice ao n cap) l) {i : Nat} (hi : i < l.length) : ∃ g, ao = some ⟨g, 0, none⟩ ∧ w.cell? ⟨g, i, none⟩ = some (.int .i64 (l.getD i 0)) := by
  obtain ⟨ao', cap', e, _, h'⟩ := h.at
  simp only [Value.slice.injEq] at e
  obtain ⟨rfl, _, _⟩ := e
  obtain ⟨g, rfl, hc⟩ := h' (by rintro rfl; simp at hi)
  exact ⟨g, rfl, hc i hi⟩
theorem ri_len {n : Int} : ∀ {l : List Int}, Ri l → (∀ x ∈ l, 1 ≤ x ∧ x < n) → l.length ≤ n.toNat := by
  have key : ∀ (l : List Int) (n : Nat) (a : Int), Ri l → (∀ x ∈ l, a ≤ x ∧ x < a + n) → l.length ≤ n := by
    intro l
    induction l with
    | nil => intro n a _ _; exact Nat.zero_le _
    | cons x l ih =>
      intro n a hr hl
      have hr' := List.pairwise_cons.1 hr
      have hx := hl x (by simp)
      have hn0 : 0 < n := by omega
      have := ih (n - 1) (a + 1) hr'.2 (fun y hy => by
        have h1 := hr'.1 y hy
        have h2 := hl y (by simp [hy])
        omega)
      simp only [List.length_cons]
      omega
  intro l hr hl
  exact key l n.toNat 0 hr (fun x hx => by have := hl x hx; omega)
theorem held_len {b : Bo} (h : Wf b) : (heldL b).length ≤ b.now.toNat := ri_len (ri_up _) (fun _ hx => hm_lo h (mem_held.1 hx))
theorem dying_len' {b : Bo} (h : Wf b) (j : Jb b) : (dyingL b).length ≤ b.now.toNat := ri_len (ri_dying h j) (fun _ hx => dm_lo h (mem_dying.1 hx))

/-- A book and a map beside it, both of the call's own. -/
def Lv (w W : World) (B M : Nat) (b : Bo) (n : Nat) (f : Int → Int) : Prop := ∃ m, Bk W 0 B m b ∧ Mi W M n f ∧ ¬ ow B m M ∧ (∀ k, ow B m k → w.heap.size ≤ k) ∧ w.heap.size ≤ M ∧ Fr w W (fun _ => False)
theorem Lv.fr {w W : World} {B M n : Nat} {b : Bo} {f : Int → Int} (h : Lv w W B M b n f) : Fr w W (fun _ => False) := by obtain ⟨m, _, _, _, _, _, h⟩ := h; exact h
theorem Lv.wf {w W : World} {B M n : Nat} {b : Bo} {f : Int → Int} (h : Lv w W B M b n f) : Wf b := by obtain ⟨m, h, _⟩ := h; exact h.wf
theorem Lv.mi {w W : World} {B M n : Nat} {b : Bo} {f : Int → Int} (h : Lv w W B M b n f) : Mi W M n f := by obtain ⟨m, _, h, _⟩ := h; exact h
theorem Lv.step {w W W' : World} {B M n : Nat} {b : Bo} {f : Int → Int} (h : Lv w W B M b n f) (hf : Fr W W' (fun _ => False)) : Lv w W' B M b n f := by
  obtain ⟨m, h1, h2, h3, h4, h5, h6⟩ := h
  exact ⟨m, h1.step hf, h2.fr hf (fun h => h), h3, h4, h5, h6.trans hf⟩
/-- The map is written. -/
theorem Lv.turn {w W W' : World} {B M n n' : Nat} {b : Bo} {f f' : Int → Int} (h : Lv w W B M b n f) (hf : Fr W W' (fun k => k = M)) (hm : Mi W' M n' f') : Lv w W' B M b n' f' ∧ Fr W W' (KB W) := by
  obtain ⟨m, h1, h2, h3, h4, h5, h6⟩ := h
  exact ⟨⟨m, h1.fr hf (fun k hk e => h3 (by rw [← e]; exact hk)), hm, h3, h4, h5, h6.trans2 hf (fun k hk e => by omega)⟩, hf.mono (fun k _ e => by rw [e]; exact h2.kb)⟩
theorem Lv.ask {w W : World} {B M n : Nat} {b : Bo} {f : Int → Int} (h : Lv w W B M b n f) {fn : Nat} {args : Array Value} {R : Ending → World → Prop} (hc : ∀ m, Bk W 0 B m b → Calls Try.prog fn args W R) : Calls Try.prog fn args W R := by
  obtain ⟨m, h1, _⟩ := h
  exact hc m h1
/-- The book is turned. -/
theorem Lv.run {w W : World} {B M n : Nat} {b b' : Bo} {f : Int → Int} (h : Lv w W B M b n f) {fn : Nat} {args : Array Value} {r : Value} (hc : ∀ m, Bk W 0 B m b → Calls Try.prog fn args W fun x w' => x = .returned r ∧ Lf W w' B m b') :
    Calls Try.prog fn args W fun x w' => x = .returned r ∧ Lv w w' B M b' n f ∧ Fr W w' (KB W) := by
  obtain ⟨m, h1, h2, h3, h4, h5, h6⟩ := h
  refine (hc m h1).mono ?_
  rintro x w' ⟨hx, m', hb, hf, how⟩
  refine ⟨hx, ⟨m', hb, h2.fr hf h3, fun hk => ?_, fun k hk => ?_, h5, h6.trans2 hf (fun k hk e => by have := h4 k e; omega)⟩, hf.mono (fun k _ hk => ow_kb h1 hk)⟩
  · rcases how M hk with h | h
    · exact h3 h
    · have := h2.lt; omega
  · rcases how k hk with h | h
    · exact h4 k h
    · exact Nat.le_trans h6.size h
theorem Lv.start {w W W' : World} {B : Nat} {m : Nat → Option Nat} {b : Bo} (hf : Fr w W (fun _ => False)) (hb : Bk W' 0 B m b) (hlo : ∀ k, ow B m k → W.heap.size ≤ k) (hf' : Fr W W' (fun _ => False)) (h0 : ∀ x, (0 : Int) = stF b x) : Lv w (W'.alloc (.map #[] 0)) B W'.heap.size b 0 (stF b) :=
  ⟨m, hb.step (alloc_fr _ _ _), (Mi.new W').eq h0, fun h => by have := hb.ow_lt h; omega, fun k hk => Nat.le_trans hf.size (hlo k hk), Nat.le_trans hf.size hf'.size, (hf.trans hf').trans (alloc_fr _ _ _)⟩
theorem stF_new (pins : Int) (x : Int) : (0 : Int) = stF (newB pins) x := by
  have h1 : ¬ hm (newB pins) x := by
    rintro ⟨i, _, hx | ⟨hx, h0⟩⟩
    · exact absurd hx List.not_mem_nil
    · exact h0 hx.symm
  have h2 : ¬ dm (newB pins) x := by
    rintro (h | h)
    · exact absurd h List.not_mem_nil
    · exact absurd h List.not_mem_nil
  have h3 : ¬ (1 ≤ x ∧ x < (newB pins).now) := by show ¬ (1 ≤ x ∧ x < 1); omega
  unfold stF
  rw [if_neg h1, if_neg h2, if_neg h3]
theorem swF_step {L : List Int} {f : Int → Int} {i : Nat} (hi : i < L.length) (x : Int) : updI (swF (L.take i) f) (L.getD i 0) 3 x = swF (L.take (i + 1)) f x := by
  unfold updI swF
  by_cases h : x = L.getD i 0
  · rw [if_pos h, if_pos ((mem_take hi).2 (Or.inr h))]
  · rw [if_neg h]
    by_cases h' : x ∈ L.take i
    · rw [if_pos h', if_pos ((mem_take hi).2 (Or.inl h'))]
    · rw [if_neg h', if_neg (fun e => ((mem_take hi).1 e).elim h' h)]
/-- What stands at the end of a round. -/
structure Rd (w W : World) (B M i se n : Nat) (b : Bo) (L : List Int) (v : Value) : Prop where
  lv : Lv w W B M b n (stF b)
  j : Jb b
  hse : (se : Int) + 1 = b.now
  hsei : se ≤ i
  hn : n ≤ i * 20000
  ow : OwI W w.heap.size v L
  len : L.length ≤ 3000
  sw : b.begun = true → ∀ x, x ∈ L ↔ x ∈ b.sets 66
end Go.Proofs.Ytimefcmemklhpaa.E
