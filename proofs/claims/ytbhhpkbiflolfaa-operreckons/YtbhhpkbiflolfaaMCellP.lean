import Derived.Test.YtbhhpkbiflolfaaMMergeP
import Derived.Test.YtbhhpkbiflolfaaMem
import Derived.Lib.Bytealg
/- Cells as texts: Key, Cell, Compare as functions, and what follows (P807). Nothing of the program is used here. -/
namespace Go.Proofs.Ytbhhpkbiflolfaa.M

/-- A cell: view, key, start. -/
structure Cl where
  v : Int
  k : ByteArray
  s : Int
instance : Inhabited Cl := ⟨⟨0, ⟨#[]⟩, 0⟩⟩

/-- The error of a cell that has no text; 0: it has one. -/
def mE (c : Cl) : Int := if c.v < 0 ∨ 4 < c.v then 23 else if 32 < c.k.size then 21 else if c.s < -2305843009213693952 ∨ 2305843009213693952 < c.s then 22 else 0
theorem mE_zero {c : Cl} (h : mE c = 0) : (0 ≤ c.v ∧ c.v ≤ 4) ∧ c.k.size ≤ 32 ∧ (-2305843009213693952 ≤ c.s ∧ c.s ≤ 2305843009213693952) := by
  unfold mE at h
  by_cases h1 : c.v < 0 ∨ 4 < c.v
  · rw [if_pos h1] at h; cases h
  · rw [if_neg h1] at h
    by_cases h2 : 32 < c.k.size
    · rw [if_pos h2] at h; cases h
    · rw [if_neg h2] at h
      by_cases h3 : c.s < -2305843009213693952 ∨ 2305843009213693952 < c.s
      · rw [if_pos h3] at h; cases h
      · omega

/-- Bytes in which each nought has 255 behind it. -/
def esc : List Nat → List Nat
  | [] => []
  | x :: l => if x = 0 then 0 :: 255 :: esc l else x :: esc l
theorem esc_le (l : List Nat) : (esc l).length ≤ 2 * l.length := by
  induction l with
  | nil => simp [esc]
  | cons x l ih => unfold esc; split <;> simp <;> omega
theorem esc_append (a b : List Nat) : esc (a ++ b) = esc a ++ esc b := by
  induction a with
  | nil => rfl
  | cons x l ih => simp only [List.cons_append, esc]; split <;> simp [ih]
/-- The last so many bytes of a number, the highest first. -/
def be : Nat → Nat → List Nat
  | 0, _ => []
  | k + 1, n => n / 256 ^ k % 256 :: be k n
theorem be_len (k n : Nat) : (be k n).length = k := by
  induction k with
  | zero => rfl
  | succ k ih => simp [be, ih]
theorem be_byte (k n : Nat) : ∀ x ∈ be k n, x < 256 := by
  induction k with
  | zero => intro x hx; simp [be] at hx
  | succ k ih =>
    intro x hx
    rcases List.mem_cons.1 hx with rfl | hx
    · exact Nat.mod_lt _ (by decide)
    · exact ih x hx
/-- The number of bytes. -/
def num (l : List Nat) : Nat := l.foldl (fun n x => n * 256 + x) 0
theorem num_snoc (l : List Nat) (x : Nat) : num (l ++ [x]) = num l * 256 + x := by simp [num]
def stN (c : Cl) : Nat := (c.s + 9223372036854775808).toNat
/-- A cell's text. -/
def txt (c : Cl) : List Nat := c.v.toNat :: (esc (nums8 c.k) ++ (0 :: 1 :: be 8 (stN c)))
def key (c : Cl) : ByteArray := if mE c = 0 then str8 (txt c) else ⟨#[]⟩

/-- The key at the front of a text, and what stands behind it. -/
def cut : List Nat → Int × List Nat × List Nat
  | [] => (11, [], [])
  | x :: t => if x ≠ 0 then (if (cut t).1 = 0 then (0, x :: (cut t).2.1, (cut t).2.2) else ((cut t).1, [], [])) else
    match t with
    | [] => (11, [], [])
    | y :: u => if y = 1 then (0, [], u) else if y ≠ 255 then (12, [], []) else if (cut u).1 = 0 then (0, 0 :: (cut u).2.1, (cut u).2.2) else ((cut u).1, [], [])
def c0 : Cl := ⟨0, ⟨#[]⟩, 0⟩
/-- The cell of a text, and its error. -/
def cellE : List Nat → Int × Cl
  | [] => (11, c0)
  | v :: t =>
    if (cut t).1 ≠ 0 then ((cut t).1, c0) else if (cut t).2.2.length < 8 then (11, c0) else if 8 < (cut t).2.2.length then (13, c0) else
    (mE ⟨v, str8 (cut t).2.1, (num (cut t).2.2 : Int) - 9223372036854775808⟩, ⟨v, str8 (cut t).2.1, (num (cut t).2.2 : Int) - 9223372036854775808⟩)
/-- What Cell answers: no cell beside an error. -/
def cell (l : List Nat) : Int × Cl := if (cellE l).1 = 0 then cellE l else ((cellE l).1, c0)

theorem nums8_byte (s : ByteArray) : ∀ x ∈ nums8 s, x < 256 := by
  intro x hx
  unfold nums8 at hx
  obtain ⟨u, _, rfl⟩ := List.mem_map.1 hx
  exact u.toNat_lt
theorem str8_nums8 (s : ByteArray) : str8 (nums8 s) = s := by
  unfold str8 nums8
  rw [List.map_map]
  have : ((fun n => UInt8.ofNat n) ∘ UInt8.toNat : UInt8 → UInt8) = id := by
    funext x
    simp
  rw [this, List.map_id]
theorem nums8_str8 {l : List Nat} (h : ∀ x ∈ l, x < 256) : nums8 (str8 l) = l := by
  unfold str8 nums8
  simp only [List.map_map]
  conv => rhs; rw [← List.map_id l]
  apply List.map_congr_left
  intro x hx
  have := h x hx
  simp
  omega
theorem nums8_inj {a b : ByteArray} (h : nums8 a = nums8 b) : a = b := by rw [← str8_nums8 a, h, str8_nums8]
theorem esc_byte : ∀ (l : List Nat), (∀ x ∈ l, x < 256) → ∀ x ∈ esc l, x < 256
  | [], _, x, hx => by simp [esc] at hx
  | y :: l, h, x, hx => by
    unfold esc at hx
    have ih := esc_byte l (fun z hz => h z (List.mem_cons_of_mem _ hz))
    split at hx
    · rcases List.mem_cons.1 hx with rfl | hx
      · omega
      · rcases List.mem_cons.1 hx with rfl | hx
        · omega
        · exact ih x hx
    · rcases List.mem_cons.1 hx with rfl | hx
      · exact h _ (by simp)
      · exact ih x hx
theorem txt_byte {c : Cl} (h : mE c = 0) : ∀ x ∈ txt c, x < 256 := by
  intro x hx
  obtain ⟨⟨h1, h2⟩, _, _⟩ := mE_zero h
  simp only [txt, List.mem_cons, List.mem_append] at hx
  rcases hx with rfl | hx | rfl | rfl | hx
  · omega
  · exact esc_byte _ (nums8_byte c.k) x hx
  · omega
  · omega
  · exact be_byte _ _ x hx
theorem txt_len {c : Cl} (h : mE c = 0) : (txt c).length ≤ 75 := by
  obtain ⟨_, h2, _⟩ := mE_zero h
  have := esc_le (nums8 c.k)
  rw [nums8_length] at this
  simp only [txt, List.length_cons, List.length_append, be_len]
  omega

theorem cut_ne {x : Nat} (t : List Nat) (hx : x ≠ 0) : cut (x :: t) = if (cut t).1 = 0 then (0, x :: (cut t).2.1, (cut t).2.2) else ((cut t).1, [], []) := by
  rw [cut.eq_def]
  dsimp only
  rw [if_pos hx]
theorem cut_zz : cut [0] = (11, [], []) := by
  rw [cut.eq_def]
  rfl
theorem cut_z (y : Nat) (u : List Nat) : cut (0 :: y :: u) = if y = 1 then (0, [], u) else if y ≠ 255 then (12, [], []) else if (cut u).1 = 0 then (0, 0 :: (cut u).2.1, (cut u).2.2) else ((cut u).1, [], []) := by
  rw [cut.eq_def]
  dsimp only
  rw [if_neg (by decide)]
theorem cut_esc (k : List Nat) (t : List Nat) : cut (esc k ++ (0 :: 1 :: t)) = (0, k, t) := by
  induction k with
  | nil =>
    show cut (0 :: 1 :: t) = _
    rw [cut_z, if_pos rfl]
  | cons x k ih =>
    unfold esc
    by_cases hx : x = 0
    · rw [if_pos hx]
      show cut (0 :: 255 :: (esc k ++ (0 :: 1 :: t))) = _
      rw [cut_z, ih, if_neg (by decide), if_neg (by decide), if_pos rfl, hx]
    · rw [if_neg hx]
      show cut (x :: (esc k ++ (0 :: 1 :: t))) = _
      rw [cut_ne _ hx, ih, if_pos rfl]
theorem esc_cut_n (n : Nat) : ∀ l : List Nat, l.length ≤ n → (cut l).1 = 0 → l = esc (cut l).2.1 ++ (0 :: 1 :: (cut l).2.2) := by
  induction n with
  | zero =>
    intro l hl h
    match l, hl with
    | [], _ => simp [cut] at h
  | succ n ih =>
    intro l hl h
    match l, hl with
    | [], _ => simp [cut] at h
    | x :: t, hl =>
      by_cases hx : x ≠ 0
      · rw [cut_ne t hx] at h ⊢
        by_cases hc : (cut t).1 = 0
        · rw [if_pos hc]
          have := ih t (by simpa using hl) hc
          dsimp only
          unfold esc
          rw [if_neg hx, List.cons_append, ← this]
        · rw [if_neg hc] at h
          exact absurd h hc
      · have hx0 : x = 0 := by omega
        subst hx0
        match t, hl with
        | [], _ => rw [cut_zz] at h; cases h
        | y :: u, hl =>
          rw [cut_z] at h ⊢
          by_cases h1 : y = 1
          · rw [if_pos h1, h1]
            rfl
          · rw [if_neg h1] at h ⊢
            by_cases h2 : y ≠ 255
            · rw [if_pos h2] at h
              cases h
            · rw [if_neg h2] at h ⊢
              by_cases hc : (cut u).1 = 0
              · rw [if_pos hc]
                have := ih u (by simp at hl; omega) hc
                dsimp only
                unfold esc
                rw [if_pos rfl, List.cons_append, List.cons_append, ← this]
                congr 2
                omega
              · rw [if_neg hc] at h
                exact absurd h hc
theorem esc_cut (l : List Nat) (h : (cut l).1 = 0) : l = esc (cut l).2.1 ++ (0 :: 1 :: (cut l).2.2) := esc_cut_n _ l (Nat.le_refl _) h

theorem foldl_num (b : List Nat) : ∀ n, b.foldl (fun n x => n * 256 + x) n = n * 256 ^ b.length + num b := by
  induction b with
  | nil => intro n; simp [num]
  | cons x b ih =>
    intro n
    have e : num (x :: b) = b.foldl (fun n x => n * 256 + x) x := by simp [num]
    rw [e, List.foldl_cons, ih, ih x, List.length_cons, Nat.pow_succ, Nat.add_mul, Nat.mul_assoc, Nat.mul_comm 256, Nat.add_assoc]
theorem num_append (a b : List Nat) : num (a ++ b) = num a * 256 ^ b.length + num b := by
  show (a ++ b).foldl _ 0 = _
  rw [List.foldl_append, foldl_num]
  rfl
theorem num_lt (l : List Nat) (h : ∀ x ∈ l, x < 256) : num l < 256 ^ l.length := by
  induction l with
  | nil => simp [num]
  | cons x l ih =>
    have h1 := ih (fun y hy => h y (by simp [hy]))
    have h2 := h x (by simp)
    have e := num_append [x] l
    have s1 : num [x] = x := by simp [num]
    rw [s1] at e
    rw [show x :: l = [x] ++ l from rfl, e, List.length_append, List.length_singleton, Nat.add_comm, Nat.add_comm 1, Nat.pow_succ]
    have : (x + 1) * 256 ^ l.length ≤ 256 * 256 ^ l.length := Nat.mul_le_mul_right _ h2
    rw [Nat.add_mul] at this
    omega
theorem be_num (k n : Nat) : num (be k n) = n % 256 ^ k := by
  induction k with
  | zero => simp [be, num, Nat.mod_one]
  | succ k ih =>
    have : be (k + 1) n = [n / 256 ^ k % 256] ++ be k n := rfl
    rw [this, num_append, be_len, ih, Nat.pow_succ, Nat.mod_mul]
    simp [num]
    rw [Nat.mul_comm, Nat.add_comm]
theorem num_inj : ∀ (a b : List Nat), a.length = b.length → (∀ x ∈ a, x < 256) → (∀ x ∈ b, x < 256) → num a = num b → a = b
  | [], [], _, _, _, _ => rfl
  | [], _ :: _, h, _, _, _ => by simp at h
  | _ :: _, [], h, _, _, _ => by simp at h
  | x :: a, y :: b, hl, ha, hb, h => by
    have hl2 : a.length = b.length := by simpa using hl
    have e1 := num_append [x] a
    have e2 := num_append [y] b
    simp only [List.cons_append, List.nil_append] at e1 e2
    have s1 : num [x] = x := by simp [num]
    have s2 : num [y] = y := by simp [num]
    rw [s1] at e1
    rw [s2] at e2
    have l1 := num_lt a (fun z hz => ha z (List.mem_cons_of_mem _ hz))
    have l2 := num_lt b (fun z hz => hb z (List.mem_cons_of_mem _ hz))
    rw [hl2] at l1 e1
    have hxy : x = y := by
      have d1 : (x * 256 ^ b.length + num a) / 256 ^ b.length = x := by
        rw [Nat.add_comm, Nat.add_mul_div_right _ _ (by omega), Nat.div_eq_of_lt l1, Nat.zero_add]
      have d2 : (y * 256 ^ b.length + num b) / 256 ^ b.length = y := by
        rw [Nat.add_comm, Nat.add_mul_div_right _ _ (by omega), Nat.div_eq_of_lt l2, Nat.zero_add]
      rw [← d1, ← d2, ← e1, ← e2, h]
    subst hxy
    rw [num_inj a b hl2 (fun z hz => ha z (List.mem_cons_of_mem _ hz)) (fun z hz => hb z (List.mem_cons_of_mem _ hz)) (by omega)]
theorem num_be (l : List Nat) (h : ∀ x ∈ l, x < 256) : be l.length (num l) = l := by
  apply num_inj _ _ (be_len _ _) (be_byte _ _) h
  rw [be_num, Nat.mod_eq_of_lt (num_lt l h)]

/-- Cell of Key is the cell. -/
theorem cell_txt {c : Cl} (h : mE c = 0) : cell (txt c) = (0, c) := by
  obtain ⟨⟨h1, h2⟩, h3, h4, h5⟩ := mE_zero h
  have e : cellE (txt c) = (0, c) := by
    unfold txt cellE
    simp only [cut_esc, be_len, be_num]
    have hs : stN c % 256 ^ 8 = stN c := Nat.mod_eq_of_lt (by unfold stN; omega)
    rw [hs, str8_nums8]
    have hc : (⟨(c.v.toNat : Int), c.k, (stN c : Int) - 9223372036854775808⟩ : Cl) = c := by
      have a1 : (c.v.toNat : Int) = c.v := by omega
      have a2 : (stN c : Int) - 9223372036854775808 = c.s := by unfold stN; omega
      rw [a1, a2]
    rw [hc, h]
    simp
  unfold cell
  rw [e]
  simp
/-- Key of Cell is the text. -/
theorem txt_cell {l : List Nat} (hb : ∀ x ∈ l, x < 256) (h : (cell l).1 = 0) : mE (cell l).2 = 0 ∧ txt (cell l).2 = l := by
  have h0 : (cellE l).1 = 0 := by
    unfold cell at h
    split at h
    · assumption
    · exact h
  have e0 : cell l = cellE l := by unfold cell; rw [if_pos h0]
  rw [e0]
  match l with
  | [] => simp [cellE] at h0
  | v :: t =>
    have eC : cellE (v :: t) = if (cut t).1 ≠ 0 then ((cut t).1, c0) else if (cut t).2.2.length < 8 then (11, c0) else if 8 < (cut t).2.2.length then (13, c0) else (mE ⟨v, str8 (cut t).2.1, (num (cut t).2.2 : Int) - 9223372036854775808⟩, ⟨v, str8 (cut t).2.1, (num (cut t).2.2 : Int) - 9223372036854775808⟩) := rfl
    rw [eC] at h0 ⊢
    by_cases c1 : (cut t).1 ≠ 0
    · rw [if_pos c1] at h0; exact absurd h0 c1
    · rw [if_neg c1] at h0 ⊢
      by_cases c2 : (cut t).2.2.length < 8
      · rw [if_pos c2] at h0; simp at h0
      · rw [if_neg c2] at h0 ⊢
        by_cases c3 : 8 < (cut t).2.2.length
        · rw [if_pos c3] at h0; simp at h0
        · rw [if_neg c3] at h0 ⊢
          refine ⟨h0, ?_⟩
          have ht := esc_cut t (by omega)
          have hbt : ∀ x ∈ t, x < 256 := fun x hx => hb x (List.mem_cons_of_mem _ hx)
          have hr : ∀ x ∈ (cut t).2.2, x < 256 := fun x hx => hbt x (by rw [ht]; simp [hx])
          have hk : ∀ x ∈ (cut t).2.1, x < 256 := by
            have key : ∀ (k : List Nat), (∀ x ∈ esc k, x < 256) → ∀ x ∈ k, x < 256 := by
              intro k
              induction k with
              | nil => intro _ x hx; simp at hx
              | cons y k ih =>
                intro h x hx
                unfold esc at h
                split at h
                · rename_i hy
                  rcases List.mem_cons.1 hx with rfl | hx
                  · omega
                  · exact ih (fun z hz => h z (by simp [hz])) x hx
                · rcases List.mem_cons.1 hx with rfl | hx
                  · exact h _ (by simp)
                  · exact ih (fun z hz => h z (by simp [hz])) x hx
            exact key _ (fun x hx => hbt x (by rw [ht]; simp [hx]))
          have hl8 : (cut t).2.2.length = 8 := by omega
          have hlt := num_lt _ hr
          rw [hl8] at hlt
          unfold txt stN
          dsimp only
          rw [nums8_str8 hk, show (((num (cut t).2.2 : Nat) : Int) - 9223372036854775808 + 9223372036854775808).toNat = num (cut t).2.2 by omega, ← hl8, num_be _ hr]
          conv => rhs; rw [ht]
          simp

/-- Comparing. -/
def cmpI (a b : Int) : Int := if a < b then -1 else if b < a then 1 else 0
def cb : List Nat → List Nat → Int
  | [], [] => 0
  | [], _ :: _ => -1
  | _ :: _, [] => 1
  | a :: as, b :: bs => if a < b then -1 else if b < a then 1 else cb as bs
theorem cb_of : ∀ (a b : List UInt8), Lib.compareBytes a b = cb (a.map UInt8.toNat) (b.map UInt8.toNat)
  | [], [] => rfl
  | [], _ :: _ => rfl
  | _ :: _, [] => rfl
  | x :: a, y :: b => by
    simp only [Lib.compareBytes, cb, List.map_cons]
    rw [cb_of a b]
    rfl
theorem cb_nums8 (a b : ByteArray) : Lib.compareBytes a.data.toList b.data.toList = cb (nums8 a) (nums8 b) := cb_of _ _
/-- The order of cells. -/
def cmpC (a b : Cl) : Int := if cmpI a.v b.v ≠ 0 then cmpI a.v b.v else if cb (nums8 a.k) (nums8 b.k) ≠ 0 then cb (nums8 a.k) (nums8 b.k) else cmpI a.s b.s

theorem cb_vals : ∀ a b : List Nat, cb a b = -1 ∨ cb a b = 0 ∨ cb a b = 1
  | [], [] => Or.inr (Or.inl rfl)
  | [], _ :: _ => Or.inl rfl
  | _ :: _, [] => Or.inr (Or.inr rfl)
  | x :: a, y :: b => by
    unfold cb
    split
    · exact Or.inl rfl
    · split
      · exact Or.inr (Or.inr rfl)
      · exact cb_vals a b
theorem cb_flip : ∀ a b : List Nat, cb b a = - cb a b
  | [], [] => rfl
  | [], _ :: _ => rfl
  | _ :: _, [] => rfl
  | x :: a, y :: b => by
    unfold cb
    rw [cb_flip a b]
    split <;> split <;> first | omega | rfl | (split <;> first | omega | rfl)
theorem cb_self : ∀ a : List Nat, cb a a = 0
  | [] => rfl
  | x :: a => by
    unfold cb
    rw [if_neg (Nat.lt_irrefl x), if_neg (Nat.lt_irrefl x)]
    exact cb_self a
theorem cb_zero : ∀ a b : List Nat, cb a b = 0 → a = b
  | [], [], _ => rfl
  | [], _ :: _, h => by cases h
  | _ :: _, [], h => by cases h
  | x :: a, y :: b, h => by
    unfold cb at h
    by_cases h1 : x < y
    · rw [if_pos h1] at h; cases h
    · rw [if_neg h1] at h
      by_cases h2 : y < x
      · rw [if_pos h2] at h; cases h
      · rw [if_neg h2] at h
        rw [cb_zero a b h, show x = y by omega]
theorem cb_trans : ∀ a b c : List Nat, cb a b ≤ 0 → cb b c ≤ 0 → cb a c ≤ 0
  | [], _, [], _, _ => by simp [cb]
  | [], _, _ :: _, _, _ => by simp [cb]
  | _ :: _, [], _, h, _ => by simp [cb] at h
  | _ :: _, _ :: _, [], _, h => by simp [cb] at h
  | x :: a, y :: b, z :: c, h1, h2 => by
    have ih := cb_trans a b c
    unfold cb at h1 h2 ⊢
    by_cases a1 : x < y
    · by_cases b1 : y < z
      · rw [if_pos (by omega)]; decide
      · rw [if_neg b1] at h2
        by_cases b2 : z < y
        · rw [if_pos b2] at h2; cases h2
        · rw [if_pos (by omega)]; decide
    · rw [if_neg a1] at h1
      by_cases a2 : y < x
      · rw [if_pos a2] at h1; cases h1
      · rw [if_neg a2] at h1
        by_cases b1 : y < z
        · rw [if_pos (by omega)]; decide
        · rw [if_neg b1] at h2
          by_cases b2 : z < y
          · rw [if_pos b2] at h2; cases h2
          · rw [if_neg b2] at h2
            rw [if_neg (by omega), if_neg (by omega)]
            exact ih h1 h2
theorem cmpI_flip (a b : Int) : cmpI b a = - cmpI a b := by
  unfold cmpI
  split <;> split <;> first | omega | rfl | (split <;> first | omega | rfl)
theorem cmpI_lt {a b : Int} : cmpI a b < 0 ↔ a < b := by unfold cmpI; split <;> first | omega | (split <;> omega)
theorem cmpI_le {a b : Int} : cmpI a b ≤ 0 ↔ a ≤ b := by unfold cmpI; split <;> first | omega | (split <;> omega)
theorem cmpI_zero {a b : Int} : cmpI a b = 0 ↔ a = b := by unfold cmpI; split <;> first | omega | (split <;> omega)
theorem cmpI_vals (a b : Int) : cmpI a b = -1 ∨ cmpI a b = 0 ∨ cmpI a b = 1 := by unfold cmpI; split <;> first | exact Or.inl rfl | (split <;> first | exact Or.inr (Or.inr rfl) | exact Or.inr (Or.inl rfl))
theorem cmI : Cm cmpI := ⟨cmpI_flip, fun a b c h1 h2 => by rw [cmpI_le] at *; omega⟩
theorem cmB : Cm cb := ⟨cb_flip, cb_trans⟩

theorem cmpC_flip (a b : Cl) : cmpC b a = - cmpC a b := by
  unfold cmpC
  have h1 := cmpI_flip a.v b.v
  have h2 := cb_flip (nums8 a.k) (nums8 b.k)
  have h3 := cmpI_flip a.s b.s
  rw [h1, h2, h3]
  by_cases c1 : cmpI a.v b.v = 0
  · rw [if_neg (show ¬ (- cmpI a.v b.v ≠ 0) by omega), if_neg (show ¬ (cmpI a.v b.v ≠ 0) by omega)]
    by_cases c2 : cb (nums8 a.k) (nums8 b.k) = 0
    · rw [if_neg (show ¬ (- cb (nums8 a.k) (nums8 b.k) ≠ 0) by omega), if_neg (show ¬ (cb (nums8 a.k) (nums8 b.k) ≠ 0) by omega)]
    · rw [if_pos (show - cb (nums8 a.k) (nums8 b.k) ≠ 0 by omega), if_pos c2]
  · rw [if_pos (show - cmpI a.v b.v ≠ 0 by omega), if_pos c1]
theorem cmpC_zero {a b : Cl} : cmpC a b = 0 ↔ a = b := by
  constructor
  · intro h
    unfold cmpC at h
    by_cases c1 : cmpI a.v b.v = 0
    · rw [if_neg (by omega)] at h
      by_cases c2 : cb (nums8 a.k) (nums8 b.k) = 0
      · rw [if_neg (by omega)] at h
        have e1 := cmpI_zero.1 c1
        have e2 := nums8_inj (cb_zero _ _ c2)
        have e3 := cmpI_zero.1 h
        cases a
        cases b
        simp only at e1 e2 e3
        rw [e1, e2, e3]
      · rw [if_pos c2] at h
        exact absurd h c2
    · rw [if_pos c1] at h
      exact absurd h c1
  · rintro rfl
    unfold cmpC
    rw [if_neg (by rw [cmpI_zero.2 rfl]; decide), cb_self, if_neg (by decide), cmpI_zero.2 rfl]
theorem cmpC_le {a b : Cl} : cmpC a b ≤ 0 ↔ cmpI a.v b.v < 0 ∨ (cmpI a.v b.v = 0 ∧ (cb (nums8 a.k) (nums8 b.k) < 0 ∨ (cb (nums8 a.k) (nums8 b.k) = 0 ∧ cmpI a.s b.s ≤ 0))) := by
  unfold cmpC
  by_cases c1 : cmpI a.v b.v = 0
  · rw [if_neg (by omega)]
    by_cases c2 : cb (nums8 a.k) (nums8 b.k) = 0
    · rw [if_neg (by omega)]
      omega
    · rw [if_pos c2]
      omega
  · rw [if_pos c1]
    omega
theorem cmC : Cm cmpC := by
  refine ⟨cmpC_flip, fun a b c h1 h2 => ?_⟩
  rw [cmpC_le] at *
  have tI := @Cm.strict Int cmpI cmI
  have tI' := @Cm.strict' Int cmpI cmI
  have tB := @Cm.strict (List Nat) cb cmB
  have tB' := @Cm.strict' (List Nat) cb cmB
  rcases h1 with h1 | ⟨h1, h1'⟩
  · rcases h2 with h2 | ⟨h2, _⟩
    · exact Or.inl (tI h1 (by omega))
    · exact Or.inl (tI h1 (by omega))
  · rcases h2 with h2 | ⟨h2, h2'⟩
    · exact Or.inl (tI' (by omega) h2)
    · refine Or.inr ⟨?_, ?_⟩
      · rw [cmpI_zero] at *
        omega
      · rcases h1' with k1 | ⟨k1, k1'⟩
        · rcases h2' with k2 | ⟨k2, _⟩
          · exact Or.inl (tB k1 (by omega))
          · exact Or.inl (tB k1 (by omega))
        · rcases h2' with k2 | ⟨k2, k2'⟩
          · exact Or.inl (tB' (by omega) k2)
          · refine Or.inr ⟨?_, ?_⟩
            · have e1 := cb_zero _ _ k1
              rw [e1]
              exact k2
            · rw [cmpI_le] at *
              omega
theorem cmpC_vals (a b : Cl) : cmpC a b = -1 ∨ cmpC a b = 0 ∨ cmpC a b = 1 := by
  unfold cmpC
  split
  · exact cmpI_vals _ _
  · split
    · exact cb_vals _ _
    · exact cmpI_vals _ _

theorem cb_esc : ∀ (a b t u : List Nat), cb (esc a ++ (0 :: 1 :: t)) (esc b ++ (0 :: 1 :: u)) = if cb a b ≠ 0 then cb a b else cb t u
  | [], [], t, u => by simp [esc, cb]
  | [], y :: b, t, u => by
    unfold esc
    by_cases hy : y = 0
    · simp [hy, cb]
    · have : 0 < y := by omega
      simp [hy, cb, this]
  | x :: a, [], t, u => by
    unfold esc
    by_cases hx : x = 0
    · simp [hx, cb]
    · have : 0 < x := by omega
      simp [hx, cb, this]
  | x :: a, y :: b, t, u => by
    have ih := cb_esc a b t u
    simp only [esc]
    by_cases hx : x = 0
    · by_cases hy : y = 0
      · simp [hx, hy, cb, ih]
      · have : 0 < y := by omega
        simp [hx, hy, cb, this]
    · by_cases hy : y = 0
      · have : 0 < x := by omega
        simp [hx, hy, cb, this]
      · simp only [if_neg hx, if_neg hy, List.cons_append, cb, ih]
        by_cases h1 : x < y
        · simp [h1]
        · by_cases h2 : y < x
          · simp [h1, h2]
          · simp [h1, h2]
theorem cb_be (k a b : Nat) : cb (be k a) (be k b) = cmpI ((a % 256 ^ k : Nat) : Int) ((b % 256 ^ k : Nat) : Int) := by
  induction k with
  | zero => simp [be, cb, Nat.mod_one, cmpI]
  | succ k ih =>
    simp only [be, cb, ih]
    rw [Nat.pow_succ, Nat.mod_mul, Nat.mod_mul]
    have hp : 0 < 256 ^ k := Nat.pow_pos (by decide)
    have r1 := Nat.mod_lt a hp
    have r2 := Nat.mod_lt b hp
    generalize a / 256 ^ k % 256 = d1
    generalize b / 256 ^ k % 256 = d2
    generalize a % 256 ^ k = x at *
    generalize b % 256 ^ k = y at *
    generalize 256 ^ k = m at *
    by_cases h1 : d1 < d2
    · rw [if_pos h1]
      have : m * (d1 + 1) ≤ m * d2 := Nat.mul_le_mul_left _ h1
      rw [Nat.mul_add] at this
      unfold cmpI
      rw [if_pos (by omega)]
    · rw [if_neg h1]
      by_cases h2 : d2 < d1
      · rw [if_pos h2]
        have : m * (d2 + 1) ≤ m * d1 := Nat.mul_le_mul_left _ h2
        rw [Nat.mul_add] at this
        unfold cmpI
        rw [if_neg (by omega), if_pos (by omega)]
      · rw [if_neg h2]
        have : d1 = d2 := by omega
        subst this
        unfold cmpI
        generalize m * d1 = q
        by_cases h3 : x < y
        · rw [if_pos (by omega), if_pos (by omega)]
        · rw [if_neg (by omega), if_neg (show ¬ ((x + q : Nat) : Int) < ((y + q : Nat) : Int) by omega)]
          by_cases h4 : y < x
          · rw [if_pos (by omega), if_pos (by omega)]
          · rw [if_neg (by omega), if_neg (by omega)]
/-- Texts compare as cells do. -/
theorem cb_txt {a b : Cl} (ha : mE a = 0) (hb : mE b = 0) : cb (txt a) (txt b) = cmpC a b := by
  obtain ⟨⟨a1, a2⟩, _, a3, a4⟩ := mE_zero ha
  obtain ⟨⟨b1, b2⟩, _, b3, b4⟩ := mE_zero hb
  unfold txt
  simp only [cb, cb_esc, cb_be]
  have e1 : stN a % 256 ^ 8 = stN a := Nat.mod_eq_of_lt (by unfold stN; omega)
  have e2 : stN b % 256 ^ 8 = stN b := Nat.mod_eq_of_lt (by unfold stN; omega)
  have e3 : cmpI (stN a : Int) (stN b : Int) = cmpI a.s b.s := by
    unfold cmpI stN
    by_cases h : a.s < b.s
    · rw [if_pos (by omega), if_pos h]
    · rw [if_neg (by omega), if_neg h]
      by_cases h2 : b.s < a.s
      · rw [if_pos (by omega), if_pos h2]
      · rw [if_neg (by omega), if_neg h2]
  rw [e1, e2, e3]
  unfold cmpC
  by_cases h1 : a.v < b.v
  · rw [if_pos (by omega)]
    have : cmpI a.v b.v = -1 := by unfold cmpI; rw [if_pos h1]
    rw [this]
    simp
  · rw [if_neg (by omega)]
    by_cases h2 : b.v < a.v
    · rw [if_pos (by omega)]
      have : cmpI a.v b.v = 1 := by unfold cmpI; rw [if_neg h1, if_pos h2]
      rw [this]
      simp
    · rw [if_neg (by omega)]
      have : cmpI a.v b.v = 0 := by unfold cmpI; rw [if_neg h1, if_neg h2]
      rw [this]
      simp
theorem less_cb : ∀ a b : List UInt8, Op.bytesLess a b = decide (cb (a.map UInt8.toNat) (b.map UInt8.toNat) < 0)
  | [], [] => rfl
  | [], _ :: _ => rfl
  | _ :: _, [] => rfl
  | x :: a, y :: b => by
    simp only [Op.bytesLess, List.map_cons, cb]
    rw [less_cb a b]
    by_cases h1 : x < y
    · have h1' : x.toNat < y.toNat := h1
      simp [h1, h1']
    · have h1' : ¬ x.toNat < y.toNat := h1
      by_cases h2 : y < x
      · have h2' : y.toNat < x.toNat := h2
        have h3 : ¬ x = y := fun e => by rw [e] at h2'; exact absurd h2' (Nat.lt_irrefl _)
        simp [h1, h1', h2', h3]
      · have h2' : ¬ y.toNat < x.toNat := h2
        have h3 : x = y := UInt8.toNat_inj.1 (by omega)
        simp [h3]
/-- A row: a cell and an aggregate. -/
structure Rw where
  c : Cl
  n : Int
  s : Int
  m : Int
  x : Int
instance : Inhabited Rw := ⟨⟨default, 0, 0, 0, 0⟩⟩
def vR (r : Rw) : List Value := [.int .i64 r.c.v, .string r.c.k, .int .i64 r.c.s, .int .i64 r.n, .int .i64 r.s, .int .i64 r.m, .int .i64 r.x]
/-- Rows as values. -/
def rc : List Rw → List Value
  | [] => []
  | r :: L => .int .i64 r.c.v :: .string r.c.k :: .int .i64 r.c.s :: .int .i64 r.n :: .int .i64 r.s :: .int .i64 r.m :: .int .i64 r.x :: rc L
theorem rc_append (a b : List Rw) : rc (a ++ b) = rc a ++ rc b := by
  induction a with
  | nil => rfl
  | cons x a ih => simp [rc, ih]
theorem rc_length (L : List Rw) : (rc L).length = L.length * 7 := by
  induction L with
  | nil => rfl
  | cons x L ih => simp only [rc, List.length_cons, ih]; omega
/-- A row's j-th cell. -/
def cellR (r : Rw) (j : Nat) : Value := if j = 0 then .int .i64 r.c.v else if j = 1 then .string r.c.k else if j = 2 then .int .i64 r.c.s else if j = 3 then .int .i64 r.n else if j = 4 then .int .i64 r.s else if j = 5 then .int .i64 r.m else .int .i64 r.x
theorem rc_get : ∀ (L : List Rw) (i j : Nat), i < L.length → j < 7 → (rc L)[i * 7 + j]? = some (cellR (L[i]?.getD default) j)
  | [], i, j, h, _ => by simp at h
  | x :: L, 0, j, _, hj => by
    rw [Nat.zero_mul, Nat.zero_add]
    match j, hj with
    | 0, _ => rfl
    | 1, _ => rfl
    | 2, _ => rfl
    | 3, _ => rfl
    | 4, _ => rfl
    | 5, _ => rfl
    | 6, _ => rfl
  | x :: L, i + 1, j, h, hj => by
    have := rc_get L i j (by simpa using h) hj
    rw [show (i + 1) * 7 + j = (i * 7 + j) + 7 by omega]
    simpa [rc] using this
theorem rc_one (L : List Rw) : ∀ u ∈ rc L, u.oneCell' = true := by
  induction L with
  | nil => intro u hu; simp [rc] at hu
  | cons x L ih =>
    intro u hu
    simp only [rc, List.mem_cons] at hu
    rcases hu with rfl | rfl | rfl | rfl | rfl | rfl | rfl | hu
    · rfl
    · rfl
    · rfl
    · rfl
    · rfl
    · rfl
    · rfl
    · exact ih u hu
theorem rc_take (L : List Rw) (k : Nat) : rc (L.take k) = (rc L).take (k * 7) := by
  induction L generalizing k with
  | nil => simp [rc]
  | cons x L ih =>
    cases k with
    | zero => simp [rc]
    | succ k =>
      rw [show (k + 1) * 7 = k * 7 + 7 by omega]
      simp [rc, ih]
end Go.Proofs.Ytbhhpkbiflolfaa.M
