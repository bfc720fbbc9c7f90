/- MarkAnswers: copies, and what stands in its rounds. -/
import Derived.Test.YtfmhdpenodmblabQApart
import Derived.Test.YtfmhdpenodmblabQLend
import Derived.Maps.AppendAt
namespace Go.Proofs.Ytfmhdpenodmblab
open Go.RowKit

set_option maxHeartbeats 1000000 in
theorem copied_any {W : World} {a : An} (ha : AnAt W a) (hl : a.L.length ≤ 256) : Calls Try.prog 12 #[.slice a.ad a.L.length a.L.length] W fun e w' => ∃ b : Wn, e = .returned b.val ∧ b.L = a.L ∧ WnAt w' b ∧ (∀ g, b.ad = some ⟨g, 0, none⟩ → W.heap.size ≤ g ∧ g < w'.heap.size) ∧ Fr W w' (fun _ => False) := by
  obtain ⟨i0, hinfo, hz0, hz1, hz2⟩ := infoP Try.info_cell
  obtain ⟨ad, L⟩ := a
  rcases ad with _ | ad
  · have hL : L = [] := by
      rcases ha with ⟨_, h⟩ | ⟨g, _, h, _⟩
      · exact h
      · cases h
    subst hL
    clear ha hl
    show Calls Try.prog 12 #[.slice none 0 0] W _
    go_enter Try.func12, Try.ntmps12
    go_wp2_with fail
    go_ret
    exact ⟨⟨none, 0, []⟩, rfl, rfl, Or.inl ⟨rfl, rfl⟩, fun g h => by simp at h, Fr.refl _ _⟩
  · have HC := hid (fun j u hj => ha.cells ad rfl j u hj)
    have hl' : L.length ≤ 256 := hl
    clear ha hl
    show Calls Try.prog 12 #[.slice (some ad) L.length L.length] W _
    go_enter Try.func12, Try.ntmps12
    go_wp2_with (at_builtin; go_must (refine wpList_append_own_at _ rfl (.tmp 4) (.tmp 5) 29 rfl W.heap.size 37 i0 _ 3 32 Try.underlying29 hinfo hz0 hz1 hz2 rfl (by decide) (.slice none 0 0) 0 [] rfl ⟨rfl, Or.inl ⟨rfl, rfl⟩⟩ ad L.length L.length (cv L) rfl (cv_length L) HC.out ?c2 ?c3 ?c4 ?c5 ?_))
    case c2 =>
      intro u hu
      simp only [cv, List.mem_flatMap] at hu
      obtain ⟨c, _, hc⟩ := hu
      simp at hc
      rcases hc with h | h | h <;> subst h <;> rfl
    case c3 => unfold maxLen; omega
    case c4 => omega
    intro v' w' hown hg _ _
    have HF : Hid (Fr W w' (fun _ => False)) := (Fr.refl W _).grown hg (fun k _ e => by simp [Value.ownBlock] at e)
    have hown' : w'.ownsRow W.heap.size 37 3 v' L.length (cv L) := by simpa using hown
    have HCW : Hid (Cw W w' v' L) := ⟨hown', HF.out⟩
    clear hown hown' hg
    obtain ⟨av, cv', rfl⟩ := own_nil_shape HCW.out.1
    go_wp2_with fail
    go_ret
    refine ⟨⟨av, cv', L⟩, rfl, rfl, ?_, fun g hgg => ?_, HF.out⟩
    · rcases HCW.out.row with ⟨h1, h2⟩ | ⟨g, cap, rest, h1, _, _, _, h2, _⟩
      · simp only [Value.slice.injEq] at h1
        exact Or.inl ⟨h1.1, h2⟩
      · simp only [Value.slice.injEq] at h1
        exact Or.inr ⟨g, rest, h1.1, h2⟩
    · have e : (Value.slice av L.length cv').ownBlock = some g := by
        have : av = some ⟨g, 0, none⟩ := hgg
        subst this
        rfl
      exact HCW.out.1.lt g e

theorem getD_app {l m : List An} {k : Nat} : (l ++ m).getD k an0 = if k < l.length then l.getD k an0 else m.getD (k - l.length) an0 := by
  simp only [List.getD]
  by_cases h : k < l.length
  · rw [if_pos h, List.getElem?_append_left h]
  · rw [if_neg h, List.getElem?_append_right (by omega)]
theorem getD_appW {l m : List Wn} {k : Nat} : (l ++ m).getD k wn0 = if k < l.length then l.getD k wn0 else m.getD (k - l.length) wn0 := by
  simp only [List.getD]
  by_cases h : k < l.length
  · rw [if_pos h, List.getElem?_append_left h]
  · rw [if_neg h, List.getElem?_append_right (by omega)]
/-- More answers. -/
theorem Bk.growM {w : World} {v v' : Value} {l m : List An} {W w1 : World} (p : Bk w v l W) (h1 : ∀ k, k < m.length → AnAt W (m.getD k an0)) (h2 : ∀ k g, k < m.length → (m.getD k an0).ad = some ⟨g, 0, none⟩ → w.heap.size ≤ g ∧ ∀ j, j < l.length → (l.getD j an0).ad ≠ some ⟨g, 0, none⟩) (h3 : ∀ j k g, j < m.length → k < m.length → (m.getD j an0).ad = some ⟨g, 0, none⟩ → (m.getD k an0).ad = some ⟨g, 0, none⟩ → j = k) (h4 : ∀ k, k < m.length → (m.getD k an0).L.length ≤ 256)
    (hown : w1.ownsRow w.heap.size 29 1 v' (l.length + m.length) (l.map An.val ++ m.map An.val)) (hg : W.grownBy w1 v.ownBlock) : Bk w v' (l ++ m) w1 := by
  have hf : Fr W w1 (fun b => v.ownBlock = some b) := (Fr.refl W _).grown hg (fun k _ e => e)
  have hk : ∀ {x : An}, AnAt W x → AnAt w1 x := fun hx => hx.fr hf (fun g hg e => by
    obtain ⟨cs, hc⟩ := hx.kind hg
    exact own_ne p.own hc (by decide) e)
  refine ⟨by rw [List.length_append, List.map_append]; exact hown, fun k h => ?_, fun j k g hj hk' e1 e2 => ?_, fun k g h e1 => ?_, fun k h => ?_, p.fr.trans2 hf (fun i hi e => by have := p.own.lt i e; omega)⟩
  · rw [List.length_append] at h
    rw [getD_app]
    by_cases c : k < l.length
    · rw [if_pos c]; exact hk (p.each k c)
    · rw [if_neg c]; exact hk (h1 _ (by omega))
  · rw [List.length_append] at hj hk'
    rw [getD_app] at e1 e2
    by_cases c : j < l.length <;> by_cases d : k < l.length
    · rw [if_pos c] at e1; rw [if_pos d] at e2; exact p.apart j k g c d e1 e2
    · rw [if_pos c] at e1; rw [if_neg d] at e2; exact absurd e1 ((h2 _ g (by omega) e2).2 j c)
    · rw [if_neg c] at e1; rw [if_pos d] at e2; exact absurd e2 ((h2 _ g (by omega) e1).2 k d)
    · rw [if_neg c] at e1; rw [if_neg d] at e2
      have := h3 _ _ g (by omega) (by omega) e1 e2
      omega
  · rw [List.length_append] at h
    rw [getD_app] at e1
    by_cases c : k < l.length
    · rw [if_pos c] at e1; exact p.new k g c e1
    · rw [if_neg c] at e1; exact (h2 _ g (by omega) e1).1
  · rw [List.length_append] at h
    rw [getD_app]
    by_cases c : k < l.length
    · rw [if_pos c]; exact p.len k c
    · rw [if_neg c]; exact h4 _ (by omega)
theorem Wb.growM {w : World} {v v' : Value} {l m : List Wn} {W w1 : World} (p : Wb w v l W) (h1 : ∀ k, k < m.length → WnAt W (m.getD k wn0)) (hown : w1.ownsRow w.heap.size 29 1 v' (l.length + m.length) (l.map Wn.val ++ m.map Wn.val)) (hg : W.grownBy w1 v.ownBlock) : Wb w v' (l ++ m) w1 := by
  have hf : Fr W w1 (fun b => v.ownBlock = some b) := (Fr.refl W _).grown hg (fun k _ e => e)
  have hk : ∀ {x : Wn}, WnAt W x → WnAt w1 x := fun hx => hx.fr hf (fun g hg e => by
    obtain ⟨cs, hc⟩ := hx.kind hg
    exact own_ne p.own hc (by decide) e)
  refine ⟨by rw [List.length_append, List.map_append]; exact hown, fun k h => ?_⟩
  rw [List.length_append] at h
  rw [getD_appW]
  by_cases c : k < l.length
  · rw [if_pos c]; exact hk (p.each k c)
  · rw [if_neg c]; exact hk (h1 _ (by omega))

theorem km_ne {W : World} {B g B2 g2 : Nat} {ms ns : List Int} (h : Km W B g ms) (k : Km W B2 g2 ns) : B ≠ g2 := by
  rintro rfl
  have h1 := h.cell
  have h2 : W.heap[B]? = some (.cells (iv ns).toArray 2 (0, 0)) := k.row
  rw [h1] at h2
  simp at h2
/-- The marks, what is lent, and the copies. -/
structure MI (w : World) (B g B2 g2 : Nat) (um : Value) (vs : List Vw) (vW : Value) (ws : List Wn) (W : World) : Prop where
  k1 : Km W B g [noM]
  k2 : Km W B2 g2 [3]
  ln : Ln w W um vs
  wb : Wb w vW ws W
  fr : Fr w W (fun _ => False)
theorem MI.keep {w : World} {B g B2 g2 : Nat} {um : Value} {vs : List Vw} {vW : Value} {ws : List Wn} {W W' : World} {S : Nat → Prop} (p : MI w B g B2 g2 um vs vW ws W) (hf : Fr W W' S) (hS : ∀ k, S k → w.heap.size ≤ k ∧ ∃ t cs, W.heap[k]? = some (.cells cs t (0, 0)) ∧ (t = 29 ∨ t = 37)) (h1 : ∀ k, vW.ownBlock = some k → ¬ S k) (h2 : ∀ k g, k < ws.length → (ws.getD k wn0).ad = some ⟨g, 0, none⟩ → ¬ S g) : MI w B g B2 g2 um vs vW ws W' := by
  have hn : ∀ {k : Nat} {cs : Array Value} {t : TypeId}, W.heap[k]? = some (.cells cs t (0, 0)) → t ≠ 29 → t ≠ 37 → ¬ S k := fun hk ht1 ht2 hs => by
    obtain ⟨_, t', cs', h, h'⟩ := hS _ hs
    rw [hk] at h
    simp at h
    rcases h' with e | e
    · exact ht1 (h.2.trans e)
    · exact ht2 (h.2.trans e)
  refine ⟨p.k1.fr hf (hn p.k1.cell (by decide) (by decide)) (hn p.k1.row (by decide) (by decide)), p.k2.fr hf (hn p.k2.cell (by decide) (by decide)) (hn p.k2.row (by decide) (by decide)), ?_, p.wb.keep hf h1 h2, p.fr.trans2 hf (fun i hi hs => by have := (hS i hs).1; omega)⟩
  obtain ⟨gm, cm, rm, e, q1, q2, q3, q4⟩ := p.ln.at'
  refine p.ln.fr hf (fun k hk => ?_)
  rw [e] at hk
  simp [Value.ownBlock] at hk
  subst hk
  exact hn q4 (by decide) (by decide)
theorem MI.step {w : World} {B g B2 g2 : Nat} {um : Value} {vs : List Vw} {vW : Value} {ws : List Wn} {W W' : World} (p : MI w B g B2 g2 um vs vW ws W) (hf : Fr W W' (fun _ => False)) : MI w B g B2 g2 um vs vW ws W' := p.keep hf (fun _ h => h.elim) (fun _ _ h => h) (fun _ _ _ _ h => h)
/-- The same, and the answers. -/
structure MJ (w : World) (B g B2 g2 : Nat) (um : Value) (vs : List Vw) (vA vW : Value) (l : List An) (ws : List Wn) (W : World) : Prop where
  mi : MI w B g B2 g2 um vs vW ws W
  bk : Bk w vA l W
  cross : ∀ j k q, j < l.length → k < ws.length → (l.getD j an0).ad = some ⟨q, 0, none⟩ → (ws.getD k wn0).ad ≠ some ⟨q, 0, none⟩
  sp : ∀ k, vA.ownBlock = some k → vW.ownBlock ≠ some k
theorem MJ.step {w : World} {B g B2 g2 : Nat} {um : Value} {vs : List Vw} {vA vW : Value} {l : List An} {ws : List Wn} {W W' : World} (p : MJ w B g B2 g2 um vs vA vW l ws W) (hf : Fr W W' (fun _ => False)) : MJ w B g B2 g2 um vs vA vW l ws W' := ⟨p.mi.step hf, p.bk.step hf, p.cross, p.sp⟩
theorem own_kind {w W : World} {v : Value} {n : Nat} {xs : List Value} (h : W.ownsRow w.heap.size 29 1 v n xs) {k : Nat} (hk : v.ownBlock = some k) : w.heap.size ≤ k ∧ ∃ t cs, W.heap[k]? = some (.cells cs t (0, 0)) ∧ (t = 29 ∨ t = 37) := by
  rcases h.2 with ⟨rfl, _⟩ | ⟨g, cap, cur, rfl, hb, hg, _⟩
  · simp [Value.ownBlock] at hk
  · simp [Value.ownBlock] at hk
    subst hk
    exact ⟨hb, _, _, hg, Or.inl rfl⟩
/-- The answers' book has grown. -/
theorem MJ.growA {w : World} {B g B2 g2 : Nat} {um : Value} {vs : List Vw} {vA vA' vW : Value} {l l' : List An} {ws : List Wn} {W W' : World} (p : MJ w B g B2 g2 um vs vA vW l ws W) (hb : Bk w vA' l' W') (hg : W.grownBy W' vA.ownBlock) (hat : vA'.ownBlock = vA.ownBlock ∨ vA'.ownBlock = some W.heap.size) (hc : ∀ j k q, j < l'.length → k < ws.length → (l'.getD j an0).ad = some ⟨q, 0, none⟩ → (ws.getD k wn0).ad ≠ some ⟨q, 0, none⟩) : MJ w B g B2 g2 um vs vA' vW l' ws W' := by
  have hf : Fr W W' (fun b => vA.ownBlock = some b) := (Fr.refl W _).grown hg (fun k _ e => e)
  refine ⟨p.mi.keep hf (fun k hk => own_kind p.bk.own hk) (fun k hk e => p.sp k e hk) (fun k q hk hq e => ?_), hb, hc, fun k hk e => ?_⟩
  · obtain ⟨cs, hcs⟩ := (p.mi.wb.each k hk).kind hq
    exact own_ne p.bk.own hcs (by decide) e
  · rcases hat with h | h
    · exact p.sp k (by rw [← h]; exact hk) e
    · rw [h] at hk
      cases hk
      have := own_lt p.mi.wb.own e
      omega
/-- The copies' book has grown. -/
theorem MJ.growW {w : World} {B g B2 g2 : Nat} {um : Value} {vs : List Vw} {vA vW vW' : Value} {l : List An} {ws ws' : List Wn} {W W' : World} (p : MJ w B g B2 g2 um vs vA vW l ws W) (hb : Wb w vW' ws' W') (hg : W.grownBy W' vW.ownBlock) (hat : vW'.ownBlock = vW.ownBlock ∨ vW'.ownBlock = some W.heap.size) (hc : ∀ j k q, j < l.length → k < ws'.length → (l.getD j an0).ad = some ⟨q, 0, none⟩ → (ws'.getD k wn0).ad ≠ some ⟨q, 0, none⟩) : MJ w B g B2 g2 um vs vA vW' l ws' W' := by
  have hf : Fr W W' (fun b => vW.ownBlock = some b) := (Fr.refl W _).grown hg (fun k _ e => e)
  have hk0 : ∀ k, vW.ownBlock = some k → w.heap.size ≤ k ∧ ∃ t cs, W.heap[k]? = some (.cells cs t (0, 0)) ∧ (t = 29 ∨ t = 37) := fun k hk => own_kind p.mi.wb.own hk
  have hn : ∀ {k : Nat} {cs : Array Value} {t : TypeId}, W.heap[k]? = some (.cells cs t (0, 0)) → t ≠ 29 → ¬ vW.ownBlock = some k := fun hk ht e => own_ne p.mi.wb.own hk ht e
  refine ⟨⟨p.mi.k1.fr hf (hn p.mi.k1.cell (by decide)) (hn p.mi.k1.row (by decide)), p.mi.k2.fr hf (hn p.mi.k2.cell (by decide)) (hn p.mi.k2.row (by decide)), ?_, hb, p.mi.fr.trans2 hf (fun i hi hs => by have := (hk0 i hs).1; omega)⟩, p.bk.keep hf (fun k hk e => p.sp k hk e) (fun k q hk hq e => ?_) (fun k hk => (hk0 k hk).1), hc, fun k hk e => ?_⟩
  · obtain ⟨gm, cm, rm, e, q1, q2, q3, q4⟩ := p.mi.ln.at'
    refine p.mi.ln.fr hf (fun k hk => ?_)
    rw [e] at hk
    simp [Value.ownBlock] at hk
    subst hk
    exact hn q4 (by decide)
  · obtain ⟨cs, hcs⟩ := (p.bk.each k hk).kind hq
    exact own_ne p.mi.wb.own hcs (by decide) e
  · rcases hat with h | h
    · exact p.sp k hk (by rw [← h]; exact e)
    · rw [h] at e
      cases e
      have := own_lt p.bk.own hk
      omega
/-- What is told at a place of the book. -/
def RR (vs : List Vw) (ts : List Int) (k : Nat) : List Ce := if k % 3 = 2 then opnL vs 3 (ts.getD (k / 3) 0) else opnL vs noM (ts.getD (k / 3) 0)
theorem RR0 (vs : List Vw) (ts : List Int) (i : Nat) : RR vs ts (3 * i) = opnL vs noM (ts.getD i 0) := by
  unfold RR
  rw [if_neg (by omega), show 3 * i / 3 = i by omega]
theorem RR1 (vs : List Vw) (ts : List Int) (i : Nat) : RR vs ts (3 * i + 1) = opnL vs noM (ts.getD i 0) := by
  unfold RR
  rw [if_neg (by omega), show (3 * i + 1) / 3 = i by omega]
theorem RR2 (vs : List Vw) (ts : List Int) (i : Nat) : RR vs ts (3 * i + 2) = opnL vs 3 (ts.getD i 0) := by
  unfold RR
  rw [if_pos (by omega), show (3 * i + 2) / 3 = i by omega]
theorem opnL_256 (vs : List Vw) (m tt : Int) : (opnL vs m tt).length ≤ 256 := by
  unfold opnL
  by_cases h : chkN vs tt = 0
  · rw [if_pos h]
    obtain ⟨h4, hok, _⟩ := chk_ok h
    exact Nat.le_trans (List.length_filter_le _ _) (winL_len hok h4 tt)
  · rw [if_neg h]
    simp
end Go.Proofs.Ytfmhdpenodmblab
