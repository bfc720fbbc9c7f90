/- NetMany: a net beside a slice of rows of bytes and a slice of numbers; what each connection has. -/
import Derived.Test.YtljkbnjdciljfaaNLend
import Derived.Test.YtljkbnjdciljfaaNPure3
import Derived.OwnWalk
import Derived.Deep.AppendSrc
namespace Go.Proofs.Ytljkbnjdciljfaa
open Go.RowKit

def byL (c n : Nat) : List Nat := (List.range n).map fun i => (c * 7 + i * i) % 256
theorem byL_length (c n : Nat) : (byL c n).length = n := by simp [byL]
theorem byL_succ (c n : Nat) : byL c (n + 1) = byL c n ++ [(c * 7 + n * n) % 256] := by simp [byL, List.range_succ]

def nilS : Value := .slice none 0 0
/-- Rows of bytes, their slices in block Q. -/
structure NSS (lo : Nat) (W : World) (Q : Nat) (vs : List Value) (Ls : List (List Nat)) : Prop where
  row : W.heap[Q]? = some (.cells vs.toArray 33 (0, 0))
  len : vs.length = Ls.length
  own : ∀ i, i < vs.length → Rw W lo 5 (vs.getD i nilS) (Ls.getD i [])
  ap : ∀ i j k, i < vs.length → j < vs.length → (vs.getD i nilS).ownBlock = some k → (vs.getD j nilS).ownBlock = some k → i = j
theorem NSS.fr {lo : Nat} {W W' : World} {S : Nat → Prop} {Q : Nat} {vs : List Value} {Ls : List (List Nat)} (h : NSS lo W Q vs Ls) (hf : Fr W W' S) (hQ : ¬ S Q) (hv : ∀ i k, i < vs.length → (vs.getD i nilS).ownBlock = some k → ¬ S k) : NSS lo W' Q vs Ls :=
  ⟨keep_block h.row hf hQ, h.len, fun i hi => (h.own i hi).fr hf (fun k hk => hv i k hi hk), h.ap⟩
theorem NSS.nq {lo : Nat} {W : World} {Q : Nat} {vs : List Value} {Ls : List (List Nat)} (h : NSS lo W Q vs Ls) {i : Nat} (hi : i < vs.length) : (vs.getD i nilS).ownBlock ≠ some Q := (h.own i hi).ne h.row (by decide)
theorem NSS.cell {lo : Nat} {W : World} {Q : Nat} {vs : List Value} {Ls : List (List Nat)} (h : NSS lo W Q vs Ls) {i : Nat} (hi : i < vs.length) : ∃ ao cap, vs.getD i nilS = .slice ao (Ls.getD i []).length cap ∧ W.cell? ⟨Q, i, none⟩ = some (.slice ao (Ls.getD i []).length cap) := by
  obtain ⟨ao, cap, hv, _, _⟩ := (h.own i hi).shape
  refine ⟨ao, cap, hv, ?_⟩
  rw [cell_of_row W Q _ _ _ (0, 0) h.row, ← hv]
  simp [List.getD, hi]
theorem getD_set9 {α : Type} {l : List α} {i j : Nat} {x d : α} (hi : i < l.length) : (l.set i x).getD j d = if j = i then x else l.getD j d := by
  by_cases h : j = i
  · subst h
    simp [List.getD, hi]
  · rw [if_neg h]
    simp [List.getD, List.getElem?_set_ne (fun e => h e.symm)]
theorem NSS.set {lo : Nat} {W W1 : World} {Q : Nat} {vs : List Value} {Ls : List (List Nat)} (h : NSS lo W Q vs Ls) {i : Nat} (hi : i < vs.length) (hf : Fr W W1 (fun k => (vs.getD i nilS).ownBlock = some k)) {v' : Value} {L' : List Nat} (ho : Rw W1 lo 5 v' L') (hn : Nw W (vs.getD i nilS) v') :
    (∃ u, W1.cell? ⟨Q, i, none⟩ = some u) ∧ W1.frozen? ⟨Q, i, none⟩ = false ∧ Q < W1.heap.size ∧ NSS lo (W1.setCell ⟨Q, i, none⟩ v') Q (vs.set i v') (Ls.set i L') ∧ Fr W (W1.setCell ⟨Q, i, none⟩ v') (fun k => k = Q ∨ (vs.getD i nilS).ownBlock = some k) := by
  have hQ1 := keep_block h.row hf (h.nq hi)
  have hfs := set_fr W1 Q i v'
  have hQ : Q < W.heap.size := lt_of_block h.row
  have hv'Q : v'.ownBlock ≠ some Q := fun e => by
    rcases hn Q e with h' | h'
    · exact h.nq hi h'
    · omega
  have hlen : (vs.set i v').length = vs.length := List.length_set
  refine ⟨⟨vs.getD i nilS, by rw [cell_of_row W1 Q _ _ _ (0, 0) hQ1]; simp [List.getD, hi]⟩, free_of hQ1 i, lt_of_block hQ1, ⟨?_, ?_, ?_, ?_⟩, ?_⟩
  · rw [heap_setCell_same W1 Q i _ _ v' hQ1]
    simp
  · rw [hlen, List.length_set]; exact h.len
  · intro j hj
    rw [hlen] at hj
    rw [getD_set9 hi, getD_set9 (by rw [← h.len]; exact hi)]
    split
    · exact ho.fr hfs (fun k hk e => hv'Q (by rw [hk, e]))
    · rename_i hne2
      refine ((h.own j hj).fr hf (fun k hk e => hne2 (h.ap j i k hj hi hk e))).fr hfs (fun k hk e => h.nq hj (by rw [hk, e]))
  · intro a b k ha hb hka hkb
    rw [hlen] at ha hb
    rw [getD_set9 hi] at hka hkb
    have key : ∀ j, j < vs.length → j ≠ i → (vs.getD j nilS).ownBlock = some k → v'.ownBlock = some k → False := by
      intro j hj hne2 h1 h2
      rcases hn k h2 with h3 | h3
      · exact hne2 (h.ap j i k hj hi h1 h3)
      · have := ((h.own j hj).lt h1).2; omega
    split at hka <;> split at hkb
    · omega
    · exact (key b hb (by assumption) hkb hka).elim
    · exact (key a ha (by assumption) hka hkb).elim
    · exact h.ap a b k ha hb hka hkb
  · exact (hf.mono (fun _ _ e => Or.inr e)).trans2 hfs (fun _ _ e => Or.inl e)

def intsA (os : List Nat) : Array Value := (os.map fun (n : Nat) => Value.int .i64 (n : Int)).toArray
/-- A net, a slice of rows, a slice of numbers. -/
def NM (w W : World) (A : Nat) (s : Np) (Q : Nat) (vs : List Value) (Ls : List (List Nat)) (R : Nat) (os : List Nat) : Prop := ∃ O, NO w W A s O ∧ Fr w W (fun _ => False) ∧ NSS w.heap.size W Q vs Ls ∧ W.heap[R]? = some (.cells (intsA os) 3 (0, 0)) ∧ (¬ O Q ∧ ¬ O R ∧ w.heap.size ≤ Q ∧ w.heap.size ≤ R) ∧ ∀ i k, i < vs.length → (vs.getD i nilS).ownBlock = some k → ¬ O k
theorem NM.fr {w W : World} {A : Nat} {s : Np} {Q : Nat} {vs : List Value} {Ls : List (List Nat)} {R : Nat} {os : List Nat} (h : NM w W A s Q vs Ls R os) : Fr w W (fun _ => False) := by
  obtain ⟨O, _, h, _⟩ := h
  exact h
theorem NM.lt {w W : World} {A : Nat} {s : Np} {Q : Nat} {vs : List Value} {Ls : List (List Nat)} {R : Nat} {os : List Nat} (h : NM w W A s Q vs Ls R os) : Q < W.heap.size ∧ R < W.heap.size := by
  obtain ⟨O, _, _, h, h2, _⟩ := h
  exact ⟨lt_of_block h.row, lt_of_block h2⟩
theorem NM.still {w W W' : World} {A : Nat} {s : Np} {Q : Nat} {vs : List Value} {Ls : List (List Nat)} {R : Nat} {os : List Nat} (h : NM w W A s Q vs Ls R os) (hf : Fr W W' (fun _ => False)) : NM w W' A s Q vs Ls R os := by
  obtain ⟨O, h1, h2, h3, h4, h5, h6⟩ := h
  exact ⟨O, h1.still hf, h2.trans hf, h3.fr hf (fun h => h) (fun _ _ _ _ h => h), keep_block h4 hf (fun h => h), h5, h6⟩
theorem NM.left {w W W' : World} {A : Nat} {s s' : Np} {Q : Nat} {vs : List Value} {Ls : List (List Nat)} {R : Nat} {os : List Nat} {O : Nat → Prop} (h1 : NO w W A s O) (h2 : Fr w W (fun _ => False)) (h3 : NSS w.heap.size W Q vs Ls) (h4 : W.heap[R]? = some (.cells (intsA os) 3 (0, 0))) (h5 : ¬ O Q ∧ ¬ O R ∧ w.heap.size ≤ Q ∧ w.heap.size ≤ R) (h6 : ∀ i k, i < vs.length → (vs.getD i nilS).ownBlock = some k → ¬ O k) (hA : NA w W W' A s' O) : NM w W' A s' Q vs Ls R os := by
  obtain ⟨O', k1, k2, k3⟩ := hA
  have new : ∀ k, k < W.heap.size → ¬ O k → ¬ O' k := fun k hk ho h => by
    rcases k2 k h with h | h
    · exact ho h
    · omega
  exact ⟨O', k1, h2.trans2 k3 (fun k hk ho => by have := h1.lo k ho; omega), h3.fr k3 h5.1 h6, keep_block h4 k3 h5.2.1, ⟨new Q (lt_of_block h3.row) h5.1, new R (lt_of_block h4) h5.2.1, h5.2.2⟩, fun i k hi hk => new k ((h3.own i hi).lt hk).2 (h6 i k hi hk)⟩
/-- A cell of the slice of rows, and of the slice of numbers. -/
theorem NM.row {w W : World} {A : Nat} {s : Np} {Q : Nat} {vs : List Value} {Ls : List (List Nat)} {R : Nat} {os : List Nat} (h : NM w W A s Q vs Ls R os) {i : Nat} (hi : i < vs.length) : ∃ ao cap, vs.getD i nilS = .slice ao (Ls.getD i []).length cap ∧ W.cell? ⟨Q, i, none⟩ = some (.slice ao (Ls.getD i []).length cap) ∧ Rw W w.heap.size 5 (.slice ao (Ls.getD i []).length cap) (Ls.getD i []) := by
  obtain ⟨O, h1, h2, h3, _⟩ := h
  obtain ⟨ao, cap, e1, e2⟩ := h3.cell hi
  refine ⟨ao, cap, e1, e2, ?_⟩
  rw [← e1]
  exact h3.own i hi
theorem NM.num {w W : World} {A : Nat} {s : Np} {Q : Nat} {vs : List Value} {Ls : List (List Nat)} {R : Nat} {os : List Nat} (h : NM w W A s Q vs Ls R os) {i : Nat} (hi : i < os.length) : W.cell? ⟨R, i, none⟩ = some (.int .i64 ((os.getD i 0 : Nat) : Int)) := by
  obtain ⟨O, h1, h2, h3, h4, _⟩ := h
  rw [cell_of_row W R _ _ _ (0, 0) h4]
  simp [intsA, List.getD, hi]
theorem NM.put {w W W1 : World} {A : Nat} {s : Np} {Q : Nat} {vs : List Value} {Ls : List (List Nat)} {R : Nat} {os : List Nat} (h : NM w W A s Q vs Ls R os) {i : Nat} (hi : i < vs.length) {v v' : Value} {L' : List Nat} (hv : vs.getD i nilS = v) (hf : Fr W W1 (fun k => v.ownBlock = some k)) (ho : Rw W1 w.heap.size 5 v' L') (hn : Nw W v v') :
    (∃ u, W1.cell? ⟨Q, i, none⟩ = some u) ∧ W1.frozen? ⟨Q, i, none⟩ = false ∧ Q < W1.heap.size ∧ NM w (W1.setCell ⟨Q, i, none⟩ v') A s Q (vs.set i v') (Ls.set i L') R os := by
  subst hv
  obtain ⟨O, h1, h2, h3, h4, h5, h6⟩ := h
  obtain ⟨k1, k2, k3, k4, k5⟩ := h3.set hi hf ho hn
  refine ⟨k1, k2, k3, O, h1.step k5 (fun k hk e => ?_), h2.trans2 k5 (fun k hk e => ?_), k4, keep_block h4 k5 (fun e => ?_), h5, fun j k hj hk => ?_⟩
  · rcases e with rfl | e
    · exact h5.1 hk
    · exact h6 i k hi e hk
  · rcases e with rfl | e
    · omega
    · have := ((h3.own i hi).lt e).1; omega
  · rcases e with e | e
    · subst e
      have := h3.row
      rw [h4] at this
      simp at this
    · exact (h3.own i hi).ne h4 (by decide) e
  · rw [List.length_set] at hj
    rw [getD_set9 hi] at hk
    split at hk
    · rcases hn k hk with h' | h'
      · exact h6 i k hi h'
      · intro ho'
        have := h1.lt ho'
        omega
    · exact h6 j k hj hk
theorem NM.note {w W : World} {A : Nat} {s : Np} {Q : Nat} {vs : List Value} {Ls : List (List Nat)} {R : Nat} {os : List Nat} (h : NM w W A s Q vs Ls R os) (i n : Nat) :
    W.frozen? ⟨R, i, none⟩ = false ∧ R < W.heap.size ∧ NM w (W.setCell ⟨R, i, none⟩ (.int .i64 (n : Int))) A s Q vs Ls R (os.set i n) := by
  obtain ⟨O, h1, h2, h3, h4, h5, h6⟩ := h
  have hfs := set_fr W R i (.int .i64 (n : Int))
  refine ⟨free_of h4 i, lt_of_block h4, O, h1.step hfs (fun k hk e => h5.2.1 (by rw [← e]; exact hk)), h2.trans2 hfs (fun k hk e => by omega), h3.fr hfs (fun e => ?_) (fun j k hj hk e => (h3.own j hj).ne h4 (by decide) (by rw [hk, e])), ?_, h5, h6⟩
  · subst e
    have := h3.row
    rw [h4] at this
    simp at this
  · rw [heap_setCell_same W R i _ _ _ h4]
    congr 2
    apply Array.ext'
    simp [intsA]
theorem NM.bring {w W : World} {A : Nat} {s : Np} {Q : Nat} {vs : List Value} {Ls : List (List Nat)} {R : Nat} {os : List Nat} (h : NM w W A s Q vs Ls R os) (hm : s.m ≤ 70368744177664) (c most : Int) : Calls Try.prog 18 #[.pointer (some ⟨A, 0, none⟩), .int .i64 c, .int .i64 most] W fun e w' => e = .returned (.tuple #[.int .i64 (bringK s c most : Int), .int .i64 (findE s c)]) ∧ NM w w' A (bringS s c most) Q vs Ls R os := by
  obtain ⟨O, h1, h2, h3, h4, h5, h6⟩ := h
  exact (h1.bring hm c most).mono fun e w' ⟨he, ha⟩ => ⟨he, NM.left h1 h2 h3 h4 h5 h6 ha⟩
theorem NM.fetch {w W : World} {A : Nat} {s : Np} {Q : Nat} {vs : List Value} {Ls : List (List Nat)} {R : Nat} {os : List Nat} (h : NM w W A s Q vs Ls R os) (hm : s.m ≤ 70368744177664) (c most : Int) : Calls Try.prog 24 #[.pointer (some ⟨A, 0, none⟩), .int .i64 c, .int .i64 most] W fun e w' => e = .returned (.tuple #[.int .i64 (fetchK s c most : Int), .int .i64 (findE s c)]) ∧ NM w w' A (fetchS s c most) Q vs Ls R os := by
  obtain ⟨O, h1, h2, h3, h4, h5, h6⟩ := h
  exact (h1.fetch hm c most).mono fun e w' ⟨he, ha⟩ => ⟨he, NM.left h1 h2 h3 h4 h5 h6 ha⟩
theorem NM.take {w W : World} {A : Nat} {s : Np} {Q : Nat} {vs : List Value} {Ls : List (List Nat)} {R : Nat} {os : List Nat} (h : NM w W A s Q vs Ls R os) (c : Int) : Calls Try.prog 22 #[.pointer (some ⟨A, 0, none⟩), .int .i64 c] W fun e w' => ∃ v, e = .returned (.tuple #[v, .int .i64 (useE s c)]) ∧ Rw w' w.heap.size 5 v (takeB s c) ∧ NM w w' A (takeS s c) Q vs Ls R os := by
  obtain ⟨O, h1, h2, h3, h4, h5, h6⟩ := h
  exact (h1.take c).mono fun e w' ⟨v, he, O', k1, k2, k3, k4, _⟩ => ⟨v, he, k4, NM.left h1 h2 h3 h4 h5 h6 ⟨O', k1, k2, k3⟩⟩
theorem NM.write {w W : World} {A : Nat} {s : Np} {Q : Nat} {vs : List Value} {Ls : List (List Nat)} {R : Nat} {os : List Nat} (h : NM w W A s Q vs Ls R os) (c : Int) {ao : Option Addr} {n zcap : Nat} {zs : List Nat} (hn : n = zs.length) (hz : Bs W (.slice ao n zcap) zs) (hzc : n ≤ zcap) : Calls Try.prog 23 #[.pointer (some ⟨A, 0, none⟩), .int .i64 c, .slice ao n zcap] W fun e w' => e = .returned (.tuple #[.int .i64 (writeK s c zs.length : Int), .int .i64 (useE s c)]) ∧ NM w w' A (writeS s c zs) Q vs Ls R os := by
  obtain ⟨O, h1, h2, h3, h4, h5, h6⟩ := h
  exact (h1.write c hn hz hzc).mono fun e w' ⟨he, ha⟩ => ⟨he, NM.left h1 h2 h3 h4 h5 h6 ha⟩
theorem NM.heard {w W : World} {A : Nat} {s : Np} {Q : Nat} {vs : List Value} {Ls : List (List Nat)} {R : Nat} {os : List Nat} (h : NM w W A s Q vs Ls R os) (hm : s.m ≤ 70368744177664) (c : Int) : Calls Try.prog 25 #[.pointer (some ⟨A, 0, none⟩), .int .i64 c] W fun e w' => ∃ u, e = .returned (.tuple #[u, .bool (heardN s c)]) ∧ Rw w' W.heap.size 5 u (heardB s c) ∧ NM w w' A s Q vs Ls R os ∧ Fr W w' (fun _ => False) := by
  have h' := h
  obtain ⟨O, h1, _⟩ := h
  exact (h1.heard hm c).mono fun e w' ⟨u, he, k1, k2⟩ => ⟨u, he, k1, h'.still k2, k2⟩
theorem NM.ni {w W : World} {A : Nat} {s : Np} {Q : Nat} {vs : List Value} {Ls : List (List Nat)} {R : Nat} {os : List Nat} (h : NM w W A s Q vs Ls R os) : NI w W A s := by
  obtain ⟨O, h1, h2, _⟩ := h
  exact ⟨O, h1, h2⟩

/-- What a connection has, so many rounds on. -/
structure Pc (x : Cp) (c lg r : Nat) (inc : List Nat) (o : Nat) : Prop where
  i : x.i = []
  w : inc ++ x.w = byL c lg
  h : x.h ++ x.o = (byL (c + 100) lg).take o
  ol : o ≤ lg
  o5 : x.o.length ≤ 5
  r1 : min r lg ≤ inc.length
  r2 : min r lg ≤ x.h.length
  cl : x.cl = false
  ct : x.ct = false
def tot (g : Nat → Nat) : Nat → Nat
  | 0 => 0
  | n + 1 => tot g n + g (n + 1)
theorem tot_same {g g' : Nat → Nat} : ∀ {n : Nat}, (∀ d, 1 ≤ d → d ≤ n → g' d = g d) → tot g' n = tot g n
  | 0, _ => rfl
  | n + 1, h => by
    simp only [tot]
    rw [tot_same (fun d h1 h2 => h d h1 (by omega)), h (n + 1) (by omega) (by omega)]
theorem tot_upd {g g' : Nat → Nat} {c k : Nat} : ∀ {n : Nat}, 1 ≤ c → c ≤ n → (∀ d, 1 ≤ d → d ≤ n → d ≠ c → g' d = g d) → g' c = g c + k → tot g' n = tot g n + k
  | 0, h1, h2, _, _ => by omega
  | n + 1, h1, h2, h, hc => by
    simp only [tot]
    by_cases e : c = n + 1
    · subst e
      rw [tot_same (fun d h3 h4 => h d h3 (by omega) (by omega)), hc]
      omega
    · rw [tot_upd (n := n) h1 (by omega) (fun d h3 h4 h5 => h d h3 (by omega) h5) hc, h (n + 1) (by omega) (by omega) (by omega)]
      omega
theorem tot_const {g : Nat → Nat} {b : Nat} : ∀ {n : Nat}, (∀ d, 1 ≤ d → d ≤ n → g d = b) → tot g n = n * b
  | 0, _ => by simp [tot]
  | n + 1, h => by
    simp only [tot]
    rw [tot_const (fun d h1 h2 => h d h1 (by omega)), h (n + 1) (by omega) (by omega), Nat.succ_mul]
theorem tot_le {g : Nat → Nat} {b : Nat} : ∀ {n : Nat}, (∀ d, 1 ≤ d → d ≤ n → g d ≤ b) → tot g n ≤ n * b
  | 0, _ => by simp [tot]
  | n + 1, h => by
    simp only [tot]
    have h1 := tot_le (n := n) (fun d h1 h2 => h d h1 (by omega))
    have h2 := h (n + 1) (by omega) (by omega)
    rw [Nat.succ_mul]
    omega
/-- All connections. -/
structure MS (s : Np) (n lg : Nat) (r : Nat → Nat) (f : Nat → Cp) (Ls : List (List Nat)) (os : List Nat) (m : Nat) : Prop where
  one : ∀ d : Nat, 1 ≤ d → d ≤ n → One s (d : Int) (f d) 7 5 m
  pc : ∀ d : Nat, 1 ≤ d → d ≤ n → Pc (f d) d lg (r d) (Ls.getD d []) (os.getD d 0)
  m : m = tot (fun d => (Ls.getD d []).length + (f d).h.length) n
  ll : Ls.length = n + 1
  lo : os.length = n + 1
theorem Pc.len {x : Cp} {c lg r : Nat} {inc : List Nat} {o : Nat} (h : Pc x c lg r inc o) : inc.length + x.w.length = lg ∧ x.h.length + x.o.length = o := by
  constructor
  · have := congrArg List.length h.w
    rw [List.length_append, byL_length] at this
    exact this
  · have := congrArg List.length h.h
    rw [List.length_append, List.length_take, byL_length] at this
    have := h.ol
    omega
theorem MS.mle {s : Np} {n lg : Nat} {r : Nat → Nat} {f : Nat → Cp} {Ls : List (List Nat)} {os : List Nat} {m : Nat} (h : MS s n lg r f Ls os m) (hn : n ≤ 64) (hl : lg ≤ 59) : m ≤ 10000 := by
  rw [h.m]
  have := tot_le (g := fun d => (Ls.getD d []).length + (f d).h.length) (b := 118) (n := n) (fun d h1 h2 => by
    obtain ⟨e1, e2⟩ := (h.pc d h1 h2).len
    have := (h.pc d h1 h2).ol
    show _ + _ ≤ _
    omega)
  omega
/-- A round of one connection. -/
theorem MS.round {s : Np} {n lg : Nat} {r : Nat → Nat} {f : Nat → Cp} {Ls : List (List Nat)} {os : List Nat} {m : Nat} (h : MS s n lg r f Ls os m) {c p : Nat} (hc1 : 1 ≤ c) (hcn : c ≤ n) (hn : n ≤ 64) (hl : lg ≤ 59) (hp1 : 1 ≤ p) :
    ∃ (b : List Nat) (k2 : Nat) (f' : Nat → Cp) (m' : Nat), s.m = m ∧ m ≤ 10000 ∧ useE (bringS s c p) c = 0 ∧ takeB (bringS s c p) c = b ∧ useE (takeS (bringS s c p) c) c = 0 ∧ os.getD c 0 ≤ lg ∧ (Ls.getD c []).length + b.length ≤ lg ∧
      writeK (takeS (bringS s c p) c) c ((byL (c + 100) lg).drop (os.getD c 0)).length = k2 ∧ os.getD c 0 + k2 ≤ lg ∧ (writeS (takeS (bringS s c p) c) c ((byL (c + 100) lg).drop (os.getD c 0))).m ≤ 20000 ∧
      MS (fetchS (writeS (takeS (bringS s c p) c) c ((byL (c + 100) lg).drop (os.getD c 0))) c p) n lg (fun d => if d = c then r d + 1 else r d) f' (Ls.set c (Ls.getD c [] ++ b)) (os.set c (os.getD c 0 + k2)) m' := by
  have hm := h.mle hn hl
  have h0 := h.one c hc1 hcn
  have hp := h.pc c hc1 hcn
  have hol := hp.ol
  obtain ⟨l1, l2⟩ := hp.len
  obtain ⟨x, hx⟩ : ∃ x, f c = x := ⟨_, rfl⟩
  rw [hx] at h0 hp l1 l2
  obtain ⟨inc, hinc⟩ : ∃ l, Ls.getD c [] = l := ⟨_, rfl⟩
  obtain ⟨o, ho⟩ : ∃ l, os.getD c 0 = l := ⟨_, rfl⟩
  rw [hinc] at hp l1 ⊢
  rw [ho] at hp l2 hol ⊢
  have hi0 : x.i.length = 0 := by rw [hp.i]; rfl
  -- Bring
  obtain ⟨_, e1⟩ := h0.bring (p : Int)
  obtain ⟨k1, hk1⟩ : ∃ k, partN x.w.length (7 - x.i.length) (p : Int) = k := ⟨_, rfl⟩
  rw [hk1] at e1
  have hk1a : k1 ≤ x.w.length := by rw [← hk1]; unfold partN; omega
  have hk1b : 1 ≤ x.w.length → 1 ≤ k1 := fun hw => by rw [← hk1]; unfold partN; omega
  have o1 := h0.upd { x with i := x.i ++ x.w.take k1, w := x.w.drop k1 } k1
  rw [← e1] at o1
  have q1 : ∀ d : Nat, 1 ≤ d → d ≤ n → d ≠ c → One (bringS s c p) (d : Int) (f d) 7 5 (m + k1) := fun d h1 h2 h3 => by rw [e1]; exact (h.one d h1 h2).other h0.is (by omega)
  -- Take
  have hs1 : ({ x with i := x.i ++ x.w.take k1, w := x.w.drop k1 } : Cp).shut = false := shut_no hp.cl hp.ct
  obtain ⟨t1, e2⟩ := o1.take hs1
  have u1 := o1.use hs1
  have o2 := o1.upd { ({ x with i := x.i ++ x.w.take k1, w := x.w.drop k1 } : Cp) with i := [] } 0
  rw [← e2] at o2
  have q2 : ∀ d : Nat, 1 ≤ d → d ≤ n → d ≠ c → One (takeS (bringS s c p) c) (d : Int) (f d) 7 5 (m + k1 + 0) := fun d h1 h2 h3 => by rw [e2]; exact (q1 d h1 h2 h3).other h0.is (by omega)
  generalize bringS s c p = s1 at *
  generalize takeS s1 c = s2 at *
  have t1' : takeB s1 c = x.w.take k1 := by rw [t1, hp.i]; rfl
  -- Write
  have hs2 : ({ ({ x with i := x.i ++ x.w.take k1, w := x.w.drop k1 } : Cp) with i := [] } : Cp).shut = false := shut_no hp.cl hp.ct
  obtain ⟨z, hz⟩ : ∃ z, (byL (c + 100) lg).drop o = z := ⟨_, rfl⟩
  have hzl : z.length = lg - o := by rw [← hz, List.length_drop, byL_length]
  rw [hz]
  obtain ⟨w1, e3⟩ := o2.write hs2 z
  have u2 := o2.use hs2
  have hk2e : ∃ k2, min z.length (5 - x.o.length) = k2 := ⟨_, rfl⟩
  obtain ⟨k2, hk2⟩ := hk2e
  change writeK s2 c z.length = min z.length (5 - x.o.length) at w1
  change writeS s2 c z = s2.upd c { ({ x with i := [], w := x.w.drop k1 } : Cp) with o := x.o ++ z.take (min z.length (5 - x.o.length)) } 0 at e3
  rw [hk2] at w1 e3
  have hk2a : k2 ≤ z.length := by omega
  have hk2b : x.o.length + k2 ≤ 5 := by have := hp.o5; omega
  have o3 := o2.upd { ({ x with i := [], w := x.w.drop k1 } : Cp) with o := x.o ++ z.take k2 } 0
  rw [← e3] at o3
  have q3 : ∀ d : Nat, 1 ≤ d → d ≤ n → d ≠ c → One (writeS s2 c z) (d : Int) (f d) 7 5 (m + k1 + 0 + 0) := fun d h1 h2 h3 => by rw [e3]; exact (q2 d h1 h2 h3).other h0.is (by omega)
  generalize writeS s2 c z = s3 at *
  -- Fetch
  obtain ⟨_, e4⟩ := o3.fetch (p : Int)
  change fetchS s3 c p = s3.upd c { ({ x with i := [], w := x.w.drop k1, o := x.o ++ z.take k2 } : Cp) with h := x.h ++ (x.o ++ z.take k2).take (min (x.o ++ z.take k2).length (p : Int).toNat), o := (x.o ++ z.take k2).drop (min (x.o ++ z.take k2).length (p : Int).toNat) } (min (x.o ++ z.take k2).length (p : Int).toNat) at e4
  have hol2 : (x.o ++ z.take k2).length = x.o.length + k2 := by rw [List.length_append, List.length_take]; omega
  rw [hol2, Int.toNat_natCast] at e4
  obtain ⟨k3, hk3⟩ : ∃ k, min (x.o.length + k2) p = k := ⟨_, rfl⟩
  rw [hk3] at e4
  have o4 := o3.upd { ({ x with i := [], w := x.w.drop k1, o := x.o ++ z.take k2 } : Cp) with h := x.h ++ (x.o ++ z.take k2).take k3, o := (x.o ++ z.take k2).drop k3 } k3
  rw [← e4] at o4
  have q4 : ∀ d : Nat, 1 ≤ d → d ≤ n → d ≠ c → One (fetchS s3 c p) (d : Int) (f d) 7 5 (m + k1 + 0 + 0 + k3) := fun d h1 h2 h3 => by rw [e4]; exact (q3 d h1 h2 h3).other h0.is (by omega)
  have hlt1 : c < Ls.length := by rw [h.ll]; omega
  have hlt2 : c < os.length := by rw [h.lo]; omega
  refine ⟨x.w.take k1, k2, fun d => if d = c then { ({ x with i := [], w := x.w.drop k1, o := x.o ++ z.take k2 } : Cp) with h := x.h ++ (x.o ++ z.take k2).take k3, o := (x.o ++ z.take k2).drop k3 } else f d, m + k1 + 0 + 0 + k3, h0.m, hm, u1, t1', u2, hol, by rw [List.length_take]; omega, w1, by omega, by rw [o3.m]; omega, ⟨?_, ?_, ?_, ?_, ?_⟩⟩
  · intro d h1 h2
    dsimp only
    split
    · rename_i e; subst e; exact o4
    · rename_i e; exact q4 d h1 h2 e
  · intro d h1 h2
    dsimp only
    rw [getD_set9 hlt1, getD_set9 hlt2]
    split
    · rename_i e
      subst e
      have hr1 := hp.r1
      have hr2 := hp.r2
      refine ⟨rfl, ?_, ?_, by omega, ?_, ?_, ?_, hp.cl, hp.ct⟩
      · show (inc ++ x.w.take k1) ++ x.w.drop k1 = _
        rw [List.append_assoc, List.take_append_drop]
        exact hp.w
      · show (x.h ++ (x.o ++ z.take k2).take k3) ++ (x.o ++ z.take k2).drop k3 = _
        rw [List.append_assoc, List.take_append_drop, ← List.append_assoc, hp.h, ← hz, ← List.take_add]
      · show ((x.o ++ z.take k2).drop k3).length ≤ 5
        rw [List.length_drop, hol2]; omega
      · show min (r d + 1) lg ≤ (inc ++ x.w.take k1).length
        rw [List.length_append, List.length_take]
        by_cases hw : 1 ≤ x.w.length
        · have := hk1b hw; omega
        · omega
      · show min (r d + 1) lg ≤ (x.h ++ (x.o ++ z.take k2).take k3).length
        rw [List.length_append, List.length_take, hol2]
        omega
    · exact h.pc d h1 h2
  · rw [h.m]
    refine Eq.trans ?_ (tot_upd (g := fun d => (Ls.getD d []).length + (f d).h.length) (c := c) (k := k1 + k3) hc1 hcn ?_ ?_).symm
    · omega
    · intro d h1 h2 h3
      dsimp only
      rw [getD_set9 hlt1, if_neg h3, if_neg h3]
    · dsimp only
      rw [getD_set9 hlt1, if_pos rfl, if_pos rfl, hinc, hx]
      show (inc ++ x.w.take k1).length + (x.h ++ (x.o ++ z.take k2).take k3).length = _
      rw [List.length_append, List.length_append, List.length_take, List.length_take, hol2]
      omega
  · rw [List.length_set]; exact h.ll
  · rw [List.length_set]; exact h.lo
/-- All is there. -/
theorem MS.done {s : Np} {n lg : Nat} {f : Nat → Cp} {Ls : List (List Nat)} {os : List Nat} {m : Nat} (h : MS s n lg (fun _ => 70) f Ls os m) (hl : lg ≤ 59) : (∀ d : Nat, 1 ≤ d → d ≤ n → Ls.getD d [] = byL d lg ∧ heardB s d = byL (d + 100) lg ∧ heardN s d = false ∧ ∃ x, One s (d : Int) x 7 5 m ∧ x.cl = false ∧ x.ct = false) ∧ m = n * (lg + lg) := by
  have key : ∀ d : Nat, 1 ≤ d → d ≤ n → Ls.getD d [] = byL d lg ∧ (f d).h = byL (d + 100) lg ∧ (f d).o = [] := by
    intro d h1 h2
    have hp := h.pc d h1 h2
    obtain ⟨l1, l2⟩ := hp.len
    have hr1 := hp.r1
    have hr2 := hp.r2
    have hol := hp.ol
    have w0 : (f d).w = [] := List.eq_nil_of_length_eq_zero (by omega)
    have o0 : (f d).o = [] := List.eq_nil_of_length_eq_zero (by omega)
    refine ⟨?_, ?_, o0⟩
    · have := hp.w
      rw [w0, List.append_nil] at this
      exact this
    · have := hp.h
      rw [o0, List.append_nil, List.take_of_length_le (by rw [byL_length]; omega)] at this
      exact this
  refine ⟨fun d h1 h2 => ?_, ?_⟩
  · obtain ⟨k1, k2, k3⟩ := key d h1 h2
    have h0 := h.one d h1 h2
    have hp := h.pc d h1 h2
    refine ⟨k1, by rw [h0.heard.1]; exact k2, ?_, f d, h0, hp.cl, hp.ct⟩
    rw [h0.heard.2]
    unfold Cp.end_
    rw [hp.cl, hp.ct]
    rfl
  · rw [h.m]
    refine tot_const (fun d h1 h2 => ?_)
    obtain ⟨k1, k2, k3⟩ := key d h1 h2
    rw [k1, k2, byL_length, byL_length]
end Go.Proofs.Ytljkbnjdciljfaa
