/- Calls as bytes; a Reader that is asked for them, of the whole or of a front: walks. -/
import Derived.Test.YtdhobmnljniccabRtext
import Derived.Test.YtdhobmnljniccabCargs
import Derived.WalkSmall
namespace Go.Proofs.Ytdhobmnljniccab
open Go.RowKit

/-- Where a Reader stands of bytes that end in front of t: what is ahead is R; or there was the cut. -/
def Go1 (xs t R : List Nat) (p : Nat) (en on : Int) : Prop :=
  (en = 0 ∧ on = 0 ∧ p ≤ xs.length ∧ xs.drop p ++ t = R) ∨ (t ≠ [] ∧ en = 11 ∧ on = (xs.length : Int) ∧ p ≤ xs.length)

theorem Go1.le {xs t R : List Nat} {p : Nat} {en on : Int} (h : Go1 xs t R p en on) : p ≤ xs.length := by
  rcases h with h | h
  · exact h.2.2.1
  · exact h.2.2.2
/-- One thing is whole, or a front of it is there. -/
theorem part {xs t E R : List Nat} {p : Nat} (hp : p ≤ xs.length) (h : xs.drop p ++ t = E ++ R) : (∃ r, xs.drop p = E ++ r ∧ r ++ t = R ∧ p + E.length ≤ xs.length ∧ xs.drop (p + E.length) = r) ∨ (t ≠ [] ∧ ∃ t', t' ≠ [] ∧ xs.drop p ++ t' = E) := by
  rcases Nat.lt_or_ge (xs.drop p).length E.length with hl | hl
  · right
    refine ⟨fun e => ?_, E.drop (xs.drop p).length, fun e => ?_, ?_⟩
    · have := congrArg List.length h
      rw [e] at this
      simp only [List.length_append, List.length_nil] at this
      omega
    · have := congrArg List.length e
      simp only [List.length_drop, List.length_nil] at this hl
      omega
    · have e1 : (xs.drop p) = (E ++ R).take (xs.drop p).length := by rw [← h]; simp
      rw [List.take_append_of_le_length (by omega)] at e1
      conv => lhs; rw [e1]
      rw [← e1]
      conv => lhs; lhs; rw [e1]
      exact List.take_append_drop _ _
  · left
    have e1 : E = (xs.drop p).take E.length := by
      have := congrArg (List.take E.length) h
      rw [List.take_append_of_le_length hl, List.take_left] at this
      exact this.symm
    have e2 : (xs.drop p) = E ++ (xs.drop p).drop E.length := by
      conv => rhs; lhs; rw [e1]
      exact (List.take_append_drop _ _).symm
    refine ⟨(xs.drop p).drop E.length, e2, ?_, ?_, ?_⟩
    · rw [e2, List.append_assoc] at h
      exact List.append_cancel_left h
    · rw [List.length_drop] at hl
      omega
    · rw [List.drop_drop]

theorem sev9_le (n : Nat) (hn : n < 9223372036854775808) : (sev 9 n).length ≤ 9 := by
  have h := rb_num (sev 9 n) [] 0 n hn (by simp)
  have hs : ∀ (g n : Nat), n < 128 ^ g → 1 ≤ g → (sev g n).length ≤ g := by
    intro g
    induction g with
    | zero => intro n _ h; omega
    | succ g ih =>
      intro n hn _
      by_cases h : 128 ≤ n
      · rw [sev_more g n h, List.length_cons]
        have hp : 128 ^ (g + 1) = 128 ^ g * 128 := Nat.pow_succ ..
        rw [hp] at hn
        rcases Nat.eq_zero_or_pos g with h0 | h0
        · subst h0
          simp at hn
          omega
        · have := ih (n / 128) (by omega) h0
          omega
      · rw [sev_last _ n (by omega)]
        simp
  exact hs 9 n (by omega) (by decide)

def StepPost (w : World) (base R : Nat) (v : Value) (xs t Rr : List Nat) (w' : World) : Prop :=
  ∃ p' en' on', RdPost w base R v xs p' en' on' w' ∧ Go1 xs t Rr p' en' on'

theorem step_num (base R : Nat) (v : Value) (xs t Rr : List Nat) (p n : Nat) (en on : Int) (w : World) (h : Rd w base R v xs p en on) (hx : xs.length ≤ 140737488355328) (hb8 : ∀ j, xs.getD j 0 < 256) (hn : n < 9223372036854775808) (hg : Go1 xs t (sev 9 n ++ Rr) p en on) :
    Calls Try.prog 22 #[.pointer (some ⟨R, 0, none⟩), .int .i64 9223372036854775807] w fun e w' => (∃ x, e = .returned (.int .i64 x)) ∧ StepPost w base R v xs t Rr w' := by
  rcases hg with ⟨rfl, rfl, hp, hd⟩ | ⟨ht, rfl, rfl, hp⟩
  · refine (rnum_any base R v xs p 0 9223372036854775807 w h hp hx hb8).mono ?_
    rintro e w' ⟨rfl, hw⟩
    refine ⟨⟨_, rfl⟩, ?_⟩
    rcases part hp hd with ⟨r, h1, h2, h3, h4⟩ | ⟨ht, t', ht', h1⟩
    · rw [rb_num xs r p n hn h1] at hw
      have hm : (n : Int) ≤ 9223372036854775807 := by omega
      have e2 : rnE 9223372036854775807 (0, 0, n, p + (sev 9 n).length) = 0 := by simp [rnE, hm]
      have e3 : rnO 0 p 9223372036854775807 (0, 0, n, p + (sev 9 n).length) = 0 := by simp [rnO, hm]
      rw [e2, e3] at hw
      exact ⟨_, _, _, hw, Or.inl ⟨rfl, rfl, h3, by rw [h4]; exact h2⟩⟩
    · rw [rb_front xs t' p ht' 9 0 9 0 n (sev9_le n hn) hp (by simpa using h1)] at hw
      have e2 : rnE 9223372036854775807 (11, xs.length, 0, p) = 11 := by simp [rnE]
      have e3 : rnO 0 p 9223372036854775807 (11, xs.length, 0, p) = (xs.length : Int) := by simp [rnO]
      rw [e2, e3] at hw
      exact ⟨_, _, _, hw, Or.inr ⟨ht, rfl, rfl, hp⟩⟩
  · refine (rnum_failed base R v xs p 9223372036854775807 11 _ w h (by decide) (by decide)).mono ?_
    rintro e w' ⟨rfl, rfl⟩
    exact ⟨⟨_, rfl⟩, _, _, _, h.same, Or.inr ⟨ht, rfl, rfl, hp⟩⟩

theorem step_int (base R : Nat) (v : Value) (xs t Rr : List Nat) (p n : Nat) (en on : Int) (w : World) (h : Rd w base R v xs p en on) (hx : xs.length ≤ 140737488355328) (hb8 : ∀ j, xs.getD j 0 < 256) (hn : n < 18446744073709551616) (hg : Go1 xs t (sev 9 n ++ Rr) p en on) :
    Calls Try.prog 23 #[.pointer (some ⟨R, 0, none⟩)] w fun e w' => (∃ x, e = .returned (.int .i64 x)) ∧ StepPost w base R v xs t Rr w' := by
  rcases hg with ⟨rfl, rfl, hp, hd⟩ | ⟨ht, rfl, rfl, hp⟩
  · refine (rint_any base R v xs p 0 w h hp hx hb8).mono ?_
    rintro e w' ⟨rfl, hw⟩
    refine ⟨⟨_, rfl⟩, ?_⟩
    rcases part hp hd with ⟨r, h1, h2, h3, h4⟩ | ⟨ht, t', ht', h1⟩
    · rw [rb_int xs r p n hn h1] at hw
      exact ⟨_, _, _, hw, Or.inl ⟨rfl, rfl, h3, by rw [h4]; exact h2⟩⟩
    · rw [rb_front xs t' p ht' 9 0 10 0 n (sev_length 9 n).1 hp (by simpa using h1)] at hw
      exact ⟨_, _, _, hw, Or.inr ⟨ht, rfl, rfl, hp⟩⟩
  · refine (rint_failed base R v xs p 11 _ w h (by decide)).mono ?_
    rintro e w' ⟨rfl, rfl⟩
    exact ⟨⟨_, rfl⟩, _, _, _, h.same, Or.inr ⟨ht, rfl, rfl, hp⟩⟩

theorem step_text (base R : Nat) (v : Value) (xs t Rr : List Nat) (p : Nat) (s : ByteArray) (en on : Int) (w : World) (h : Rd w base R v xs p en on) (hx : xs.length ≤ 140737488355328) (hb8 : ∀ j, xs.getD j 0 < 256) (hs : s.size ≤ 1048576) (hg : Go1 xs t (sev 9 s.size ++ nums8 s ++ Rr) p en on) :
    Calls Try.prog 35 #[.pointer (some ⟨R, 0, none⟩), .int .i64 9223372036854775807] w fun e w' => (∃ x, e = .returned (.string x)) ∧ StepPost w base R v xs t Rr w' := by
  have hm : ((s.size : Nat) : Int) ≤ 9223372036854775807 := by omega
  have hl1 := (sev_length 9 s.size).2
  rcases hg with ⟨rfl, rfl, hp, hd⟩ | ⟨ht, rfl, rfl, hp⟩
  · rw [List.append_assoc] at hd
    rcases part hp hd with ⟨r, h1, h2, h3, h4⟩ | ⟨ht, t', ht', h1⟩
    · have hr := rb_num xs r p s.size (by omega) h1
      have hd2 : xs.drop (p + (sev 9 s.size).length) ++ t = nums8 s ++ Rr := by rw [h4]; exact h2
      rcases part h3 hd2 with ⟨r2, k1, k2, k3, k4⟩ | ⟨ht, t', ht', k1⟩
      · rw [nums8_length] at k3 k4
        refine (rtext_good base R v xs p s.size _ 9223372036854775807 0 w h hp hx hb8 hr hm (by omega) k3).mono ?_
        rintro e w' ⟨rfl, hw⟩
        exact ⟨⟨_, rfl⟩, _, _, _, hw, Or.inl ⟨rfl, rfl, k3, by rw [k4]; exact k2⟩⟩
      · have hlen : xs.length < p + (sev 9 s.size).length + s.size := by
          have e := congrArg List.length k1
          have e2 := List.length_pos_iff.2 ht'
          rw [List.length_append, nums8_length, List.length_drop] at e
          omega
        refine (rtext_cut base R v xs p s.size _ 9223372036854775807 0 w h hp hx hb8 hr hm h3 hlen).mono ?_
        rintro e w' ⟨rfl, hw⟩
        exact ⟨⟨_, rfl⟩, _, _, _, hw, Or.inr ⟨ht, rfl, rfl, h3⟩⟩
    · refine (rtext_bad base R v xs p 9223372036854775807 0 w h hp hx hb8 (rb_front xs t' p ht' 9 0 9 0 s.size (sev9_le _ (by omega)) hp (by simpa using h1))).mono ?_
      rintro e w' ⟨he, hw⟩
      exact ⟨he, _, _, _, hw, Or.inr ⟨ht, rfl, rfl, hp⟩⟩
  · refine (rtext_failed base R v xs p 9223372036854775807 11 _ w h hp hx (by decide) (by decide)).mono ?_
    rintro e w' ⟨he, hw⟩
    exact ⟨he, _, _, _, hw, Or.inr ⟨ht, rfl, rfl, hp⟩⟩

/-- The bytes of calls. -/
def encC (c : CallV) : List Nat := if c.kind = 1 then sev 9 c.n.toNat else if c.kind = 2 then sev 9 (zig c.i) else if c.kind = 3 then sev 9 c.s.size ++ nums8 c.s else []
def encL : List CallV → List Nat
  | [] => []
  | c :: r => encC c ++ encL r
theorem encL_append (a b : List CallV) : encL (a ++ b) = encL a ++ encL b := by
  induction a with
  | nil => rfl
  | cons c r ih => rw [List.cons_append, encL, ih, encL, List.append_assoc]
theorem encL_step (cs : List CallV) (k : Nat) (h : k < cs.length) (h2 : k < 60) : encL ((cs.take 60).drop k) = encC (cs.getD k noCall) ++ encL ((cs.take 60).drop (k + 1)) := by
  have hl : k < (cs.take 60).length := by rw [List.length_take]; omega
  rw [List.drop_eq_getElem_cons hl, encL, List.getElem_take]
  simp [List.getD, List.getElem?_eq_getElem h]
theorem encL_end (cs : List CallV) (k : Nat) (h : ¬ (k < cs.length ∧ k < 60)) : encL ((cs.take 60).drop k) = [] := by
  rw [List.drop_eq_nil_of_le (by rw [List.length_take]; omega)]
  rfl

def AskPost (w : World) (base R : Nat) (v : Value) (xs t Rr : List Nat) (e : Ending) (w' : World) : Prop := e = .returned (.tuple #[]) ∧ StepPost w base R v xs t Rr w'

set_option maxHeartbeats 2000000 in
set_option maxRecDepth 100000 in
theorem ask_any (base R : Nat) (v : Value) (xs t Rr : List Nat) (p : Nat) (en on : Int) (lv : Value) (cs : List CallV) (w0 w : World) (hl : Cls w0 lv cs) (hb : Below w0.heap.size w0 w) (hR : w0.heap.size ≤ R) (h : Rd w base R v xs p en on) (hx : xs.length ≤ 140737488355328) (hb8 : ∀ j, xs.getD j 0 < 256) (hg : Go1 xs t (encL (cs.take 60) ++ Rr) p en on) :
    Calls Try.prog 16 #[.pointer (some ⟨R, 0, none⟩), lv] w fun e w' => AskPost w base R v xs t Rr e w' := by
  obtain ⟨lao, lcap, rfl, hcl, hfine, hcells⟩ := hl
  have HC := hid2 hcells
  have HFI := hid2 hfine
  have HB8 := hid2 hb8
  have HRd := hid2 h
  have HG := hid2 hg
  have HBL := hid2 hb
  clear hcells hfine hb8 h hg hb
  go_enter Try.func16, Try.ntmps16
  go_wp2_with fail
  go_loopw [4] (fun i wx => ∃ (k p : Nat) (en on : Int), k ≤ cs.length ∧ k ≤ 60 ∧ i = .int .i64 (k : Int) ∧ Hid (Rd wx base R v xs p en on) ∧ Hid (Fr w wx (fun k => k = R)) ∧ Hid (Go1 xs t (encL ((cs.take 60).drop k) ++ Rr) p en on)) (fun i _ => 60 - (intOf i).toNat)
  case atStart => exact ⟨0, p, en, on, Nat.zero_le _, by omega, rfl, HRd, Fr.refl _ _, by simpa using HG⟩
  case round =>
    obtain ⟨k, p1, en1, on1, hk, hk60, rfl, HR1, HF1, HG1⟩ := hrel
    have HBr : Hid (Below w0.heap.size w0 wr) := HBL.out.trans (HF1.out.below HBL.out.size (fun k e => by rw [e]; exact hR))
    by_cases hgo : k < cs.length ∧ k < 60
    · obtain ⟨g1, g2⟩ := hgo
      obtain ⟨b, off, rfl, hcell⟩ := HC.out (by intro e; subst e; simp at g1)
      have HS := hid2 (encL_step cs k g1 g2)
      have HG2 := hid2 HG1.out
      rw [HS.out, List.append_assoc] at HG2
      obtain ⟨c, hc⟩ : ∃ c, c = cs.getD k noCall := ⟨_, rfl⟩
      have hcm : c ∈ cs := by rw [hc]; simp only [List.getD, List.getElem?_eq_getElem g1, Option.getD_some]; exact List.getElem_mem g1
      have hcf := HFI.out c hcm
      have hck := hcell k g1
      rw [← hc] at hck HG2
      obtain ⟨d0, _, _, _, _⟩ := hck.below HBr.out rfl
      obtain ⟨⟨n0, n1⟩, ⟨i0, i1⟩, _, hss⟩ := hcf
      clear hcell hck hc hcm HS HG1
      have t1 : (k : Int) < (cs.length : Int) := by omega
      have t2 : (k : Int) < 60 := by omega
      obtain ⟨kind, cn, ci, s, most⟩ := c
      simp only at n0 n1 i0 i1 hss d0
      by_cases k1 : kind = 1
      · subst k1
        go_wp2_with fail
        refine (step_num base R v xs t _ p1 cn.toNat en1 on1 _ HR1.out hx HB8.out (by omega) HG2.out).mono ?_
        rintro e w2 ⟨⟨x, rfl⟩, p2, en2, on2, hw2, hg2⟩
        have HR2 := hid2 hw2.1
        have HF2 := hid2 (HF1.out.trans hw2.2)
        have HG3 := hid2 hg2
        clear hw2 hg2
        go_wp2
        exact ⟨⟨k + 1, p2, en2, on2, by omega, by omega, by go_num, HR2, HF2, HG3⟩, by simp [intOf]; omega⟩
      · have q1 : (kind == 1) = false := by simpa using k1
        by_cases k2 : kind = 2
        · subst k2
          go_wp2_with fail
          refine (step_int base R v xs t _ p1 (zig ci) en1 on1 _ HR1.out hx HB8.out (zig_lt ci i0 i1) HG2.out).mono ?_
          rintro e w2 ⟨⟨x, rfl⟩, p2, en2, on2, hw2, hg2⟩
          have HR2 := hid2 hw2.1
          have HF2 := hid2 (HF1.out.trans hw2.2)
          have HG3 := hid2 hg2
          clear hw2 hg2
          go_wp2
          exact ⟨⟨k + 1, p2, en2, on2, by omega, by omega, by go_num, HR2, HF2, HG3⟩, by simp [intOf]; omega⟩
        · have q2 : (kind == 2) = false := by simpa using k2
          by_cases k3 : kind = 3
          · subst k3
            go_wp2_with fail
            refine (step_text base R v xs t _ p1 s en1 on1 _ HR1.out hx HB8.out hss HG2.out).mono ?_
            rintro e w2 ⟨⟨x, rfl⟩, p2, en2, on2, hw2, hg2⟩
            have HR2 := hid2 hw2.1
            have HF2 := hid2 (HF1.out.trans hw2.2)
            have HG3 := hid2 hg2
            clear hw2 hg2
            go_wp2
            exact ⟨⟨k + 1, p2, en2, on2, by omega, by omega, by go_num, HR2, HF2, HG3⟩, by simp [intOf]; omega⟩
          · have q3 : (kind == 3) = false := by simpa using k3
            have e0 : encC ⟨kind, cn, ci, s, most⟩ = [] := by simp [encC, k1, k2, k3]
            rw [e0, List.nil_append] at HG2
            clear e0
            go_wp2
            exact ⟨⟨k + 1, p1, en1, on1, by omega, by omega, by go_num, HR1, HF1, HG2⟩, by simp [intOf]; omega⟩
    · have HG2 := hid2 HG1.out
      rw [encL_end cs k hgo, List.nil_append] at HG2
      by_cases g1 : k < cs.length
      · have t1 : (k : Int) < (cs.length : Int) := by omega
        have t2 : ¬ (k : Int) < 60 := by omega
        go_wp2
        go_end0
        exact ⟨rfl, p1, en1, on1, ⟨HR1.out, HF1.out⟩, HG2.out⟩
      · have t1 : ¬ (k : Int) < (cs.length : Int) := by omega
        go_wp2
        go_end0
        exact ⟨rfl, p1, en1, on1, ⟨HR1.out, HF1.out⟩, HG2.out⟩
end Go.Proofs.Ytdhobmnljniccab
