/- The document's All: a walk. -/
import Derived.Test.YtobigmcklecbnaaRAll0
namespace Go.Proofs.Ytobigmcklecbnaa
open Go.RowKit

theorem Try.info_str : (Try.prog.info? 9).map (fun i => (i.zero, i.size, i.bytes)) = some (some (.string ⟨#[]⟩), 1, 16) := by kernel_rfl
theorem Try.info_int : (Try.prog.info? 3).map (fun i => (i.zero, i.size, i.bytes)) = some (some (.int .i64 0), 1, 8) := by kernel_rfl

theorem run_gtK (a b : ByteArray) (w : World) : (binOp .gtr 9 (.string a) (.string b)).run Try.prog w = .ok (.bool (gtK a b)) w := by kernel_rfl
theorem sortL_step (P : List Pl) (i : Nat) (hi : i < P.length) : sortL (enP (P.take (i + 1))) = insL (sortL (enP (P.take i))) ((at' P i).key, xOf (at' P i).val) := by
  unfold sortL enP
  rw [List.take_add_one, List.getElem?_eq_getElem hi, at_get hi, Option.toList_some, List.map_append, List.foldl_append]
  rfl
theorem sortL_len (l : List En) : (sortL l).length = l.length := by
  unfold sortL
  suffices h : ∀ (l a : List En), (l.foldl insL a).length = a.length + l.length by simpa using h l []
  intro l
  induction l with
  | nil => intro a; rfl
  | cons x l ih => intro a; rw [List.foldl_cons, ih, insL_length, List.length_cons]; omega
theorem mid_len {α : Type} (K : List α) (q : Nat) (u : α) (hq : q ≤ K.length) : (K.take q ++ u :: K.drop q).length = K.length + 1 := by simp; omega

set_option maxHeartbeats 4000000 in
set_option maxRecDepth 100000 in
theorem rall_any {B gr : Nat} {ge : Option Nat} {T : Tb} (w : World) (h : RfAt w B gr ge T) :
    Calls Try.prog 51 #[.pointer (some ⟨B, 0, none⟩)] w fun e w' => ∃ lv kv vv, e = .returned (.tuple #[kv, vv]) ∧ SI w w' lv kv vv (takL T.row ++ takL T.elder) (kvs (sortL (enP (takL T.row ++ takL T.elder)))) (vvs (sortL (enP (takL T.row ++ takL T.elder)))) := by
  obtain ⟨i0, hi0, hz0, hz1, hz2⟩ := info_parts Try.info_rplace
  obtain ⟨j0, hj0, hk0, hk1, hk2⟩ := info_parts Try.info_str
  obtain ⟨n0, hn0, hm0, hm1, hm2⟩ := info_parts Try.info_int
  have hlt := h.lt
  have hlen := h.len
  have hel := h.elen
  obtain ⟨rv, ev, hc, hr, he⟩ := h.ex
  obtain ⟨c0, c1, c2, c3⟩ := cells4 hc
  obtain ⟨capr, restr, rfl, hRr, hrne⟩ := hr
  have HRr := hid hRr
  have HE := hid he
  obtain ⟨aoe, cape, rfl⟩ := he.shape
  have HK := hid (fun (W : World) (hf : Fr w W (fun _ => False)) => (show W.cell? ⟨B, 0, none⟩ = some (.slice (some ⟨gr, 0, none⟩) T.row.length capr) ∧ W.cell? ⟨B, 1, none⟩ = some (.slice aoe T.elder.length cape) ∧ B < W.heap.size from ⟨by rw [(fr_rules hf).1 _ _ hlt]; exact c0, by rw [(fr_rules hf).1 _ _ hlt]; exact c1, Nat.lt_of_lt_of_le hlt hf.size⟩))
  have HVr := hid h.rok
  have HVe := hid h.eok
  have HO0 : Hid (w.ownsRow w.heap.size 115 4 (.slice none 0 0) (takL (T.row.take 0)).length (pd (takL (T.row.take 0)))) := ⟨rfl, Or.inl ⟨rfl, rfl⟩⟩
  clear h hc hRr he c0 c1 c2 c3
  go_enter Try.func51, Try.ntmps51
  go_wp2_with fail
  go_loopg [4, 5] T.row.length (fun gk s4 s5 wx => ∃ i : Nat, s5 = .int .i64 (i : Int) ∧ i + gk = T.row.length ∧ Hid (wx.ownsRow w.heap.size 115 4 s4 (takL (T.row.take i)).length (pd (takL (T.row.take i)))) ∧ Hid (Fr w wx (fun _ => False)))
  case atStart => exact ⟨0, rfl, by omega, HO0, Fr.refl _ _⟩
  case round =>
    obtain ⟨i, rfl, hg, HO, HF⟩ := hrel
    clear HO0
    obtain ⟨b0, b1, b2⟩ := HK.out _ HF.out
    cases gk with
    | zero =>
      have t1 : ¬ (i : Int) < (T.row.length : Int) := by omega
      have HE1 := hid (show i = T.row.length by omega)
      clear hg
      go_wp2_with fail
      have HOe : Hid (wr.ownsRow w.heap.size 115 4 u4 (takL T.row ++ takL (T.elder.take 0)).length (pd (takL T.row ++ takL (T.elder.take 0)))) := by
        have h1 := HO.out
        rw [HE1.out, List.take_length] at h1
        show World.ownsRow _ _ _ _ _ _ _
        simpa [takL] using h1
      clear HO
      go_loopg [4, 6] T.elder.length (fun gk s4 s6 wx => ∃ i : Nat, s6 = .int .i64 (i : Int) ∧ i + gk = T.elder.length ∧ Hid (wx.ownsRow w.heap.size 115 4 s4 (takL T.row ++ takL (T.elder.take i)).length (pd (takL T.row ++ takL (T.elder.take i)))) ∧ Hid (Fr w wx (fun _ => False)))
      case atStart => exact ⟨0, rfl, by omega, HOe, HF⟩
      case round =>
        obtain ⟨i, rfl, hg, HO, HF⟩ := hrel
        clear HOe b0 b1 b2
        obtain ⟨b0, b1, b2⟩ := HK.out _ HF.out
        cases gk with
        | zero =>
          have t1 : ¬ (i : Int) < (T.elder.length : Int) := by omega
          have HE2 := hid (show i = T.elder.length by omega)
          clear hg
          go_wp2_with fail
          have HS0 : Hid (SI w wr u4 (.slice none 0 0) (.slice none 0 0) (takL T.row ++ takL T.elder) (kvs (sortL (enP ((takL T.row ++ takL T.elder).take 0)))) (vvs (sortL (enP ((takL T.row ++ takL T.elder).take 0))))) := by
            have h1 := HO.out
            rw [HE2.out, List.take_length] at h1
            exact ⟨HF.out, h1, ⟨rfl, Or.inl ⟨rfl, rfl⟩⟩, ⟨rfl, Or.inl ⟨rfl, rfl⟩⟩⟩
          have HVp : Hid (∀ p ∈ takL T.row ++ takL T.elder, okP p) := by
            intro p hp
            rcases List.mem_append.1 hp with h | h
            · exact (takL_mem HVr.out h).2
            · exact (takL_mem HVe.out h).2
          have hPl : (takL T.row ++ takL T.elder).length ≤ 2199023255552 := by
            have := takL_len T.row
            have := takL_len T.elder
            rw [List.length_append]
            omega
          clear HO HF HE2 b0 b1 b2
          generalize hPP : takL T.row ++ takL T.elder = P at *
          have HPP := hid hPP
          clear hPP
          have hlo := own_nil_shape HS0.out.lo
          obtain ⟨aol, capl, rfl⟩ := hlo
          go_loopg [7, 8, 9] P.length (fun gk s7 s8 s9 wx => ∃ i : Nat, s9 = .int .i64 (i : Int) ∧ i + gk = P.length ∧ Hid (SI w wx (.slice aol P.length capl) s7 s8 P (kvs (sortL (enP (P.take i)))) (vvs (sortL (enP (P.take i))))))
          case atStart => exact ⟨0, rfl, by omega, HS0⟩
          case round =>
            obtain ⟨i, rfl, hg, HS⟩ := hrel
            clear HS0
            cases gk with
            | zero =>
              have t1 : ¬ (i : Int) < (P.length : Int) := by omega
              have HE2 := hid (show i = P.length by omega)
              clear hg
              go_wp2_with fail
              go_ret2
              have h1 := HS.out
              rw [HE2.out, List.take_length] at h1
              rw [HPP.out]
              exact ⟨_, u7, u8, rfl, h1⟩
            | succ f =>
              have hi : i < P.length := by omega
              have t0 : (0 : Int) ≤ (i : Int) := by omega
              have t1 : (i : Int) < (P.length : Int) := by omega
              have HG := hid hg
              have HSt := hid (sortL_step P i hi)
              have hLl : (sortL (enP (P.take i))).length = i := by rw [sortL_len]; unfold enP; simp; omega
              obtain ⟨⟨x, hxv⟩, hks⟩ := HVp.out (at' P i) (by rw [at_get hi]; exact List.getElem_mem hi)
              have HSt : Hid (sortL (enP (P.take (i + 1))) = insL (sortL (enP (P.take i))) ((at' P i).key, x)) := by
                have := HSt.out
                rw [hxv] at this
                exact this
              have HLc := hid (fun (W : World) (kv vv : Value) (K V : List Value) (hS : SI w W (.slice aol P.length capl) kv vv P K V) => (show ∃ gl, aol = some ⟨gl, 0, none⟩ ∧ gl < W.heap.size ∧ W.cell? ⟨gl, i * 4 + 2, none⟩ = some (.string (at' P i).key) ∧ W.cell? ⟨gl, i * 4 + 3, none⟩ = some (.int .i64 x) from by
                obtain ⟨gl, cap', e1, _, hgl⟩ := own_some hS.lo (by omega)
                simp only [Value.slice.injEq] at e1
                obtain ⟨rfl, _, rfl⟩ := e1
                have := ownp_cell hS.lo i hi
                rw [hxv] at this
                exact ⟨gl, rfl, hgl, this.1, this.2⟩))
              clear hg hxv hks
              generalize (at' P i).key = key at *
              generalize sortL (enP (P.take i)) = L at *
              obtain ⟨aok, capk, ek⟩ := own_nil_shape HS.out.ko
              rw [kvs_length] at ek
              subst ek
              obtain ⟨aov, capv, ev⟩ := own_nil_shape HS.out.vo
              rw [vvs_length] at ev
              subst ev
              have hil : L.length ≤ 2199023255552 := by omega
              have HLl := hid hLl
              clear hLl
              go_wp2_with fail
              go_loopg [10] L.length (fun gk s10 wx => ∃ m : Nat, s10 = .int .i64 (m : Int) ∧ Hid (m = gk) ∧ m ≤ L.length ∧ Hid (posF L key m = posF L key L.length) ∧ Hid (SI w wx (.slice aol P.length capl) (.slice aok L.length capk) (.slice aov L.length capv) P (kvs L) (vvs L)))
              case atStart => exact ⟨L.length, rfl, rfl, Nat.le_refl _, rfl, HS⟩
              case round =>
                obtain ⟨m, rfl, HMg, hm, HPo, HSr⟩ := hrel
                clear HS
                by_cases hz : m = 0
                · have HPm : Hid (posF L key L.length = m) := by
                    have := HPo.out
                    rw [hz] at this ⊢
                    exact this.symm
                  have t2 : decide ((0 : Int) < (m : Int)) = false := by simp; omega
                  have t2' : decide (0 < m) = false := by simp; omega
                  clear hz HPo
                  go_wp2_with fail
                  go_quiet (fail)
                  have HS1 := hid (HSr.out.drewN nq)
                  generalize wr.drewN nq = W1 at *
                  have HH1 := hid HS1.out.fr.size
                  clear HSr t2
                  go_wp2_with (at_builtin; go_must (refine wpList_append_own_at _ rfl (.tmp 91) (.tmp 92) 50 rfl w.heap.size 9 j0 _ 1 16 Try.underlying50 hj0 hk0 hk1 hk2 rfl (by decide) _ _ _ rfl (own_fr HS1.out.ko (alloc_fr W1 _ (fun _ => False)) (fun _ _ h => h)) ⟨W1.heap.size, 0, none⟩ 1 1 [.string ⟨#[]⟩] rfl rfl ?q1 ?q2 ?q3 ?q4 ?q5 ?_))
                  case q1 => exact one_new W1 (.string ⟨#[]⟩) 9
                  case q2 => intro u hu; simp at hu; subst hu; rfl
                  case q3 => rw [kvs_length]; unfold maxLen; omega
                  case q4 => rw [kvs_length]; omega
                  case q5 => have := HH1.out; simp; omega
                  intro v1 w1 hown1 hgrow1 _ _
                  have HS2 := hid (HS1.out.growK (K' := kvs L ++ [.string ⟨#[]⟩]) (alloc_fr W1 (.cells #[.string ⟨#[]⟩] 9) (fun _ => False)) hgrow1 (by rw [List.length_append]; exact hown1))
                  have HH2 := hid HS2.out.fr.size
                  clear hown1 hgrow1 HS1
                  go_wp2_with (at_builtin; go_must (refine wpList_append_own_at _ rfl (.tmp 94) (.tmp 95) 43 rfl w.heap.size 3 n0 _ 1 8 Try.underlying43 hn0 hm0 hm1 hm2 rfl (by decide) _ _ _ rfl (own_fr HS2.out.vo (alloc_fr w1 _ (fun _ => False)) (fun _ _ h => h)) ⟨w1.heap.size, 0, none⟩ 1 1 [.int .i64 0] rfl rfl ?q1 ?q2 ?q3 ?q4 ?q5 ?_))
                  case q1 => exact one_new w1 (.int .i64 0) 3
                  case q2 => intro u hu; simp at hu; subst hu; rfl
                  case q3 => rw [vvs_length]; unfold maxLen; omega
                  case q4 => rw [vvs_length]; omega
                  case q5 => have := HH2.out; simp; omega
                  intro v2 w2 hown2 hgrow2 _ _
                  have HS3 := hid (HS2.out.growV (V' := vvs L ++ [.int .i64 0]) (alloc_fr w1 (.cells #[.int .i64 0] 3) (fun _ => False)) hgrow2 (by rw [List.length_append]; exact hown2))
                  clear hown2 hgrow2 HS2
                  have hsk := own_some HS3.out.ko (by simp)
                  obtain ⟨g1, cap1, rfl, _, _⟩ := hsk
                  have hsv := own_some HS3.out.vo (by simp)
                  obtain ⟨g2, cap2, rfl, _, _⟩ := hsv
                  rw [List.length_append, List.length_append, kvs_length, vvs_length] at HS3
                  simp only [List.length_append, kvs_length, vvs_length, List.length_cons, List.length_nil, Nat.zero_add]
                  have HSx : Hid (∃ u v, SI w w2 (.slice aol P.length capl) (.slice (some ⟨g1, 0, none⟩) (L.length + 1) cap1) (.slice (some ⟨g2, 0, none⟩) (L.length + 1) cap2) P ((kvs L).take (m + (L.length - m)) ++ u :: (kvs L).drop (m + (L.length - m))) ((vvs L).take (m + (L.length - m)) ++ v :: (vvs L).drop (m + (L.length - m)))) := by
                    refine ⟨.string ⟨#[]⟩, .int .i64 0, ?_⟩
                    have e1 : m + (L.length - m) = L.length := by omega
                    rw [e1]
                    have h3 := HS3.out
                    have a1 : (kvs L).take L.length = kvs L := List.take_of_length_le (by rw [kvs_length]; exact Nat.le_refl _)
                    have a2 : (kvs L).drop L.length = [] := List.drop_eq_nil_of_le (by rw [kvs_length]; exact Nat.le_refl _)
                    have a3 : (vvs L).take L.length = vvs L := List.take_of_length_le (by rw [vvs_length]; exact Nat.le_refl _)
                    have a4 : (vvs L).drop L.length = [] := List.drop_eq_nil_of_le (by rw [vvs_length]; exact Nat.le_refl _)
                    rw [a1, a2, a3, a4]
                    exact h3
                  clear HS3
                  go_wp2_with fail
                  go_loopg [11] (L.length - m) (fun gk s11 wx => ∃ q : Nat, s11 = .int .i64 (q : Int) ∧ Hid (q = m + gk) ∧ q ≤ L.length ∧ Hid (∃ u v, SI w wx (.slice aol P.length capl) (.slice (some ⟨g1, 0, none⟩) (L.length + 1) cap1) (.slice (some ⟨g2, 0, none⟩) (L.length + 1) cap2) P ((kvs L).take q ++ u :: (kvs L).drop q) ((vvs L).take q ++ v :: (vvs L).drop q)))
                  case atStart => exact ⟨m + (L.length - m), by congr 1; omega, rfl, by omega, HSx⟩
                  case round =>
                    obtain ⟨q, rfl, HQ, hq, HSy⟩ := hrel
                    clear HSx
                    obtain ⟨u, v, hSy⟩ := HSy.out
                    have HSz := hid hSy
                    clear HSy hSy
                    obtain ⟨gl, rfl, hgl, l2, l3⟩ := HLc.out _ _ _ _ _ HSz.out
                    have hKl : ((kvs L).take q ++ u :: (kvs L).drop q).length = L.length + 1 := by rw [mid_len _ _ _ (by rw [kvs_length]; exact hq), kvs_length]
                    have hVl : ((vvs L).take q ++ v :: (vvs L).drop q).length = L.length + 1 := by rw [mid_len _ _ _ (by rw [vvs_length]; exact hq), vvs_length]
                    have hko := HSz.out.ko
                    rw [hKl] at hko
                    have hvo := HSz.out.vo
                    rw [hVl] at hvo
                    have lk := (hko.lt g1 rfl).2
                    have lv := (hvo.lt g2 rfl).2
                    have t9 : (0 : Int) ≤ (q : Int) := by omega
                    have t10 : (q : Int) < ((L.length : Int) + 1) := by omega
                    have qk : (((kvs L).take q ++ u :: (kvs L).drop q))[q]? = some u := by
                      rw [List.getElem?_append_right (by simp; omega)]
                      have : (kvs L).length = L.length := kvs_length L
                      simp [Nat.min_eq_left (show q ≤ (kvs L).length by omega)]
                    have qv : (((vvs L).take q ++ v :: (vvs L).drop q))[q]? = some v := by
                      rw [List.getElem?_append_right (by simp; omega)]
                      have : (vvs L).length = L.length := vvs_length L
                      simp [Nat.min_eq_left (show q ≤ (vvs L).length by omega)]
                    obtain ⟨ck, fk⟩ := ownv_cell hko q u qk
                    obtain ⟨cv, fv⟩ := ownv_cell hvo q v qv
                    have HKl := hid hKl
                    have HVl := hid hVl
                    have hap : g1 ≠ g2 := fun e => own_apart HSz.out.ko HSz.out.vo (by decide) g2 rfl (by rw [← e]; rfl)
                    have hgl1 : gl ≠ g1 := fun e => own_apart HSz.out.ko HSz.out.lo (by decide) gl rfl (by rw [e]; rfl)
                    have hgl2 : gl ≠ g2 := fun e => own_apart HSz.out.vo HSz.out.lo (by decide) gl rfl (by rw [e]; rfl)
                    cases gk with
                    | zero =>
                      have hqm : q = m := by have := HQ.out; omega
                      subst hqm
                      have t11 : ¬ (q : Int) < (q : Int) := by omega
                      have HSa := hid ((HSz.out.setK HKl.out q (.string key)).setV HVl.out q (.int .i64 x))
                      clear hko hvo hKl hVl qk qv
                      go_wp2_with fail
                      go_roundg f
                      case measure => omega
                      case rel =>
                        refine ⟨i + 1, by go_num, by have := HG.out; omega, ?_⟩
                        show SI _ _ _ _ _ _ _ _
                        have h9 := HSa.out
                        rw [mid_set _ _ _ _ (by rw [kvs_length]; exact hq), mid_set _ _ _ _ (by rw [vvs_length]; exact hq)] at h9
                        rw [HSt.out, kvs_ins, vvs_ins, HPm.out]
                        exact h9
                    | succ b =>
                      have hqm : q = m + b + 1 := by have := HQ.out; omega
                      obtain ⟨r, hr⟩ : ∃ r, q = r + 1 := ⟨m + b, by omega⟩
                      have t11 : (m : Int) < (q : Int) := by omega
                      have hrl : r < L.length := by omega
                      have rk : (((kvs L).take q ++ u :: (kvs L).drop q))[r]? = some (.string (L.getD r ez).1) := by
                        rw [hr, mid_get _ _ _ (by rw [kvs_length]; exact hrl)]
                        unfold kvs
                        simp [List.getElem?_eq_getElem hrl]
                      have rv : (((vvs L).take q ++ v :: (vvs L).drop q))[r]? = some (.int .i64 (L.getD r ez).2) := by
                        rw [hr, mid_get _ _ _ (by rw [vvs_length]; exact hrl)]
                        unfold vvs
                        simp [List.getElem?_eq_getElem hrl]
                      have dk := (ownv_cell hko r _ rk).1
                      have dv := (ownv_cell hvo r _ rv).1
                      have HSa := hid ((HSz.out.setK HKl.out q (.string (L.getD r ez).1)).setV HVl.out q (.int .i64 (L.getD r ez).2))
                      have HSb : Hid (∀ W : World, SI w W (.slice (some ⟨gl, 0, none⟩) P.length capl) (.slice (some ⟨g1, 0, none⟩) (L.length + 1) cap1) (.slice (some ⟨g2, 0, none⟩) (L.length + 1) cap2) P ((((kvs L).take q ++ u :: (kvs L).drop q)).set q (.string (L.getD r ez).1)) ((((vvs L).take q ++ v :: (vvs L).drop q)).set q (.int .i64 (L.getD r ez).2)) → ∃ u v, SI w W (.slice (some ⟨gl, 0, none⟩) P.length capl) (.slice (some ⟨g1, 0, none⟩) (L.length + 1) cap1) (.slice (some ⟨g2, 0, none⟩) (L.length + 1) cap2) P ((kvs L).take r ++ u :: (kvs L).drop r) ((vvs L).take r ++ v :: (vvs L).drop r)) := by
                        intro W hW
                        rw [mid_set _ _ _ _ (by rw [kvs_length]; exact hq), mid_set _ _ _ _ (by rw [vvs_length]; exact hq), hr] at hW
                        have hk1 : r < (kvs L).length := by rw [kvs_length]; exact hrl
                        have hv1 : r < (vvs L).length := by rw [vvs_length]; exact hrl
                        have ek : (kvs L)[r] = .string (L.getD r ez).1 := Option.some.inj ((List.getElem?_eq_getElem hk1).symm.trans (by unfold kvs; simp [List.getElem?_eq_getElem hrl]))
                        have evv : (vvs L)[r] = .int .i64 (L.getD r ez).2 := Option.some.inj ((List.getElem?_eq_getElem hv1).symm.trans (by unfold vvs; simp [List.getElem?_eq_getElem hrl]))
                        rw [← ek, ← evv, mid_down _ _ hk1, mid_down _ _ hv1] at hW
                        exact ⟨_, _, hW⟩
                      have t12 : (q : Int) - 1 = (r : Int) := by omega
                      have t13 : (0 : Int) ≤ (r : Int) := by omega
                      have t14 : (r : Int) < (L.length : Int) + 1 := by omega
                      have HR1 := hid hr
                      have hrb : r = m + b := by omega
                      have HRB := hid hrb
                      clear hko hvo hKl hVl qk qv rk rv hqm hr hrb
                      generalize (L.getD r ez).1 = k3 at *
                      generalize (L.getD r ez).2 = x3 at *
                      go_wp2_with fail
                      go_roundg b
                      case measure => omega
                      case rel => exact ⟨r, rfl, HRB, by omega, HSb.out _ HSa.out⟩
                · obtain ⟨a, ha⟩ : ∃ a, m = a + 1 := ⟨m - 1, by omega⟩
                  obtain ⟨gl, rfl, hgl, l2, l3⟩ := HLc.out _ _ _ _ _ HSr.out
                  obtain ⟨gk', cap', e1, _, hgkl⟩ := own_some HSr.out.ko (by rw [kvs_length]; omega)
                  rw [kvs_length] at e1
                  simp only [Value.slice.injEq, true_and] at e1
                  obtain ⟨rfl, rfl⟩ := e1
                  have hko := HSr.out.ko
                  rw [kvs_length] at hko
                  have hka := (ownv_cell hko a (.string (L.getD a ez).1) (by unfold kvs; simp [List.getElem?_eq_getElem (show a < L.length by omega)])).1
                  have t2 : decide ((0 : Int) < (m : Int)) = true := by simp; omega
                  have t2' : decide (0 < m) = true := by simp; omega
                  have t3 : (0 : Int) ≤ (a : Int) := by omega
                  have t4 : (a : Int) < (L.length : Int) := by omega
                  have t5 : (m : Int) - 1 = (a : Int) := by omega
                  have t6 : IntKind.i64.wrap (a : Int) = (a : Int) := by rw [IntKind.wrap_i64]; omega
                  have t7 : IntKind.i64.wrap ((m : Int) - 1) = (a : Int) := by rw [IntKind.wrap_i64]; omega
                  have HP1 : Hid (posF L key m = if gtK (L.getD a ez).1 key then posF L key a else a + 1) := by rw [ha]; rfl
                  clear hko l3 hz
                  generalize (L.getD a ez).1 = k2 at *
                  have HA := hid ha
                  have hrg := run_gtK
                  clear ha
                  by_cases hgt : gtK k2 key = true
                  · have HP2 : Hid (posF L key a = posF L key L.length) := by
                      have := HP1.out
                      rw [if_pos hgt] at this
                      rw [← this]
                      exact HPo.out
                    have hgt2 : gtK k2 key = true := hgt
                    clear hgt HP1
                    go_wp2_with fail
                    go_quiet (fail)
                    go_wp2_with fail
                    go_roundg a
                    case measure => have := HA.out; have := HMg.out; omega
                    case rel => exact ⟨a, rfl, rfl, by omega, HP2, HSr.out.drewN _⟩
                  · have HPm : Hid (posF L key L.length = m) := by
                      have := HP1.out
                      rw [if_neg hgt] at this
                      rw [← HPo.out, this]
                      exact HA.out.symm
                    have hgt2 : gtK k2 key = false := by simpa using hgt
                    clear hgt HP1
                    go_wp2_with fail
                    go_quiet (fail)
                    clear hgkl l2 hka hgt2 hrg t3 t4 t5 t6 t7
                    have HS1 := hid (HSr.out.drewN nq)
                    generalize wr.drewN nq = W1 at *
                    have HH1 := hid HS1.out.fr.size
                    clear HSr t2
                    go_wp2_with (at_builtin; go_must (refine wpList_append_own_at _ rfl (.tmp 91) (.tmp 92) 50 rfl w.heap.size 9 j0 _ 1 16 Try.underlying50 hj0 hk0 hk1 hk2 rfl (by decide) _ _ _ rfl (own_fr HS1.out.ko (alloc_fr W1 _ (fun _ => False)) (fun _ _ h => h)) ⟨W1.heap.size, 0, none⟩ 1 1 [.string ⟨#[]⟩] rfl rfl ?q1 ?q2 ?q3 ?q4 ?q5 ?_))
                    case q1 => exact one_new W1 (.string ⟨#[]⟩) 9
                    case q2 => intro u hu; simp at hu; subst hu; rfl
                    case q3 => rw [kvs_length]; unfold maxLen; omega
                    case q4 => rw [kvs_length]; omega
                    case q5 => have := HH1.out; simp; omega
                    intro v1 w1 hown1 hgrow1 _ _
                    have HS2 := hid (HS1.out.growK (K' := kvs L ++ [.string ⟨#[]⟩]) (alloc_fr W1 (.cells #[.string ⟨#[]⟩] 9) (fun _ => False)) hgrow1 (by rw [List.length_append]; exact hown1))
                    have HH2 := hid HS2.out.fr.size
                    clear hown1 hgrow1 HS1
                    go_wp2_with (at_builtin; go_must (refine wpList_append_own_at _ rfl (.tmp 94) (.tmp 95) 43 rfl w.heap.size 3 n0 _ 1 8 Try.underlying43 hn0 hm0 hm1 hm2 rfl (by decide) _ _ _ rfl (own_fr HS2.out.vo (alloc_fr w1 _ (fun _ => False)) (fun _ _ h => h)) ⟨w1.heap.size, 0, none⟩ 1 1 [.int .i64 0] rfl rfl ?q1 ?q2 ?q3 ?q4 ?q5 ?_))
                    case q1 => exact one_new w1 (.int .i64 0) 3
                    case q2 => intro u hu; simp at hu; subst hu; rfl
                    case q3 => rw [vvs_length]; unfold maxLen; omega
                    case q4 => rw [vvs_length]; omega
                    case q5 => have := HH2.out; simp; omega
                    intro v2 w2 hown2 hgrow2 _ _
                    have HS3 := hid (HS2.out.growV (V' := vvs L ++ [.int .i64 0]) (alloc_fr w1 (.cells #[.int .i64 0] 3) (fun _ => False)) hgrow2 (by rw [List.length_append]; exact hown2))
                    clear hown2 hgrow2 HS2
                    have hsk := own_some HS3.out.ko (by simp)
                    obtain ⟨g1, cap1, rfl, _, _⟩ := hsk
                    have hsv := own_some HS3.out.vo (by simp)
                    obtain ⟨g2, cap2, rfl, _, _⟩ := hsv
                    rw [List.length_append, List.length_append, kvs_length, vvs_length] at HS3
                    simp only [List.length_append, kvs_length, vvs_length, List.length_cons, List.length_nil, Nat.zero_add]
                    have HSx : Hid (∃ u v, SI w w2 (.slice (some ⟨gl, 0, none⟩) P.length capl) (.slice (some ⟨g1, 0, none⟩) (L.length + 1) cap1) (.slice (some ⟨g2, 0, none⟩) (L.length + 1) cap2) P ((kvs L).take (m + (L.length - m)) ++ u :: (kvs L).drop (m + (L.length - m))) ((vvs L).take (m + (L.length - m)) ++ v :: (vvs L).drop (m + (L.length - m)))) := by
                      refine ⟨.string ⟨#[]⟩, .int .i64 0, ?_⟩
                      have e1 : m + (L.length - m) = L.length := by omega
                      rw [e1]
                      have h3 := HS3.out
                      have a1 : (kvs L).take L.length = kvs L := List.take_of_length_le (by rw [kvs_length]; exact Nat.le_refl _)
                      have a2 : (kvs L).drop L.length = [] := List.drop_eq_nil_of_le (by rw [kvs_length]; exact Nat.le_refl _)
                      have a3 : (vvs L).take L.length = vvs L := List.take_of_length_le (by rw [vvs_length]; exact Nat.le_refl _)
                      have a4 : (vvs L).drop L.length = [] := List.drop_eq_nil_of_le (by rw [vvs_length]; exact Nat.le_refl _)
                      rw [a1, a2, a3, a4]
                      exact h3
                    clear HS3
                    go_wp2_with fail
                    go_loopg [11] (L.length - m) (fun gk s11 wx => ∃ q : Nat, s11 = .int .i64 (q : Int) ∧ Hid (q = m + gk) ∧ q ≤ L.length ∧ Hid (∃ u v, SI w wx (.slice (some ⟨gl, 0, none⟩) P.length capl) (.slice (some ⟨g1, 0, none⟩) (L.length + 1) cap1) (.slice (some ⟨g2, 0, none⟩) (L.length + 1) cap2) P ((kvs L).take q ++ u :: (kvs L).drop q) ((vvs L).take q ++ v :: (vvs L).drop q)))
                    case atStart => exact ⟨m + (L.length - m), by congr 1; omega, rfl, by omega, HSx⟩
                    case round =>
                      obtain ⟨q, rfl, HQ, hq, HSy⟩ := hrel
                      clear HSx
                      obtain ⟨u, v, hSy⟩ := HSy.out
                      have HSz := hid hSy
                      clear HSy hSy
                      obtain ⟨gl2, eg, hgl', l2, l3⟩ := HLc.out _ _ _ _ _ HSz.out
                      have eg2 : gl = gl2 := by simpa using eg
                      subst eg2
                      clear eg
                      have hKl : ((kvs L).take q ++ u :: (kvs L).drop q).length = L.length + 1 := by rw [mid_len _ _ _ (by rw [kvs_length]; exact hq), kvs_length]
                      have hVl : ((vvs L).take q ++ v :: (vvs L).drop q).length = L.length + 1 := by rw [mid_len _ _ _ (by rw [vvs_length]; exact hq), vvs_length]
                      have hko := HSz.out.ko
                      rw [hKl] at hko
                      have hvo := HSz.out.vo
                      rw [hVl] at hvo
                      have lk := (hko.lt g1 rfl).2
                      have lv := (hvo.lt g2 rfl).2
                      have t9 : (0 : Int) ≤ (q : Int) := by omega
                      have t10 : (q : Int) < ((L.length : Int) + 1) := by omega
                      have qk : (((kvs L).take q ++ u :: (kvs L).drop q))[q]? = some u := by
                        rw [List.getElem?_append_right (by simp; omega)]
                        have : (kvs L).length = L.length := kvs_length L
                        simp [Nat.min_eq_left (show q ≤ (kvs L).length by omega)]
                      have qv : (((vvs L).take q ++ v :: (vvs L).drop q))[q]? = some v := by
                        rw [List.getElem?_append_right (by simp; omega)]
                        have : (vvs L).length = L.length := vvs_length L
                        simp [Nat.min_eq_left (show q ≤ (vvs L).length by omega)]
                      obtain ⟨ck, fk⟩ := ownv_cell hko q u qk
                      obtain ⟨cv, fv⟩ := ownv_cell hvo q v qv
                      have HKl := hid hKl
                      have HVl := hid hVl
                      have hap : g1 ≠ g2 := fun e => own_apart HSz.out.ko HSz.out.vo (by decide) g2 rfl (by rw [← e]; rfl)
                      have hgl1 : gl ≠ g1 := fun e => own_apart HSz.out.ko HSz.out.lo (by decide) gl rfl (by rw [e]; rfl)
                      have hgl2 : gl ≠ g2 := fun e => own_apart HSz.out.vo HSz.out.lo (by decide) gl rfl (by rw [e]; rfl)
                      cases gk with
                      | zero =>
                        have hqm : q = m := by have := HQ.out; omega
                        subst hqm
                        have t11 : ¬ (q : Int) < (q : Int) := by omega
                        have HSa := hid ((HSz.out.setK HKl.out q (.string key)).setV HVl.out q (.int .i64 x))
                        clear hko hvo hKl hVl qk qv
                        go_wp2_with fail
                        go_roundg f
                        case measure => omega
                        case rel =>
                          refine ⟨i + 1, by go_num, by have := HG.out; omega, ?_⟩
                          show SI _ _ _ _ _ _ _ _
                          have h9 := HSa.out
                          rw [mid_set _ _ _ _ (by rw [kvs_length]; exact hq), mid_set _ _ _ _ (by rw [vvs_length]; exact hq)] at h9
                          rw [HSt.out, kvs_ins, vvs_ins, HPm.out]
                          exact h9
                      | succ b =>
                        have hqm : q = m + b + 1 := by have := HQ.out; omega
                        obtain ⟨r, hr⟩ : ∃ r, q = r + 1 := ⟨m + b, by omega⟩
                        have t11 : (m : Int) < (q : Int) := by omega
                        have hrl : r < L.length := by omega
                        have rk : (((kvs L).take q ++ u :: (kvs L).drop q))[r]? = some (.string (L.getD r ez).1) := by
                          rw [hr, mid_get _ _ _ (by rw [kvs_length]; exact hrl)]
                          unfold kvs
                          simp [List.getElem?_eq_getElem hrl]
                        have rv : (((vvs L).take q ++ v :: (vvs L).drop q))[r]? = some (.int .i64 (L.getD r ez).2) := by
                          rw [hr, mid_get _ _ _ (by rw [vvs_length]; exact hrl)]
                          unfold vvs
                          simp [List.getElem?_eq_getElem hrl]
                        have dk := (ownv_cell hko r _ rk).1
                        have dv := (ownv_cell hvo r _ rv).1
                        have HSa := hid ((HSz.out.setK HKl.out q (.string (L.getD r ez).1)).setV HVl.out q (.int .i64 (L.getD r ez).2))
                        have HSb : Hid (∀ W : World, SI w W (.slice (some ⟨gl, 0, none⟩) P.length capl) (.slice (some ⟨g1, 0, none⟩) (L.length + 1) cap1) (.slice (some ⟨g2, 0, none⟩) (L.length + 1) cap2) P ((((kvs L).take q ++ u :: (kvs L).drop q)).set q (.string (L.getD r ez).1)) ((((vvs L).take q ++ v :: (vvs L).drop q)).set q (.int .i64 (L.getD r ez).2)) → ∃ u v, SI w W (.slice (some ⟨gl, 0, none⟩) P.length capl) (.slice (some ⟨g1, 0, none⟩) (L.length + 1) cap1) (.slice (some ⟨g2, 0, none⟩) (L.length + 1) cap2) P ((kvs L).take r ++ u :: (kvs L).drop r) ((vvs L).take r ++ v :: (vvs L).drop r)) := by
                          intro W hW
                          rw [mid_set _ _ _ _ (by rw [kvs_length]; exact hq), mid_set _ _ _ _ (by rw [vvs_length]; exact hq), hr] at hW
                          have hk1 : r < (kvs L).length := by rw [kvs_length]; exact hrl
                          have hv1 : r < (vvs L).length := by rw [vvs_length]; exact hrl
                          have ek : (kvs L)[r] = .string (L.getD r ez).1 := Option.some.inj ((List.getElem?_eq_getElem hk1).symm.trans (by unfold kvs; simp [List.getElem?_eq_getElem hrl]))
                          have evv : (vvs L)[r] = .int .i64 (L.getD r ez).2 := Option.some.inj ((List.getElem?_eq_getElem hv1).symm.trans (by unfold vvs; simp [List.getElem?_eq_getElem hrl]))
                          rw [← ek, ← evv, mid_down _ _ hk1, mid_down _ _ hv1] at hW
                          exact ⟨_, _, hW⟩
                        have t12 : (q : Int) - 1 = (r : Int) := by omega
                        have t13 : (0 : Int) ≤ (r : Int) := by omega
                        have t14 : (r : Int) < (L.length : Int) + 1 := by omega
                        have HR1 := hid hr
                        have hrb : r = m + b := by omega
                        have HRB := hid hrb
                        clear hko hvo hKl hVl qk qv rk rv hqm hr hrb
                        generalize (L.getD r ez).1 = k3 at *
                        generalize (L.getD r ez).2 = x3 at *
                        go_wp2_with fail
                        go_roundg b
                        case measure => omega
                        case rel => exact ⟨r, rfl, HRB, by omega, HSb.out _ HSa.out⟩
        | succ f =>
          have hi : i < T.elder.length := by omega
          have t0 : (0 : Int) ≤ (i : Int) := by omega
          have t1 : (i : Int) < (T.elder.length : Int) := by omega
          have HG := hid hg
          have HI := hid hi
          have HT := hid (takL_take T.elder i hi)
          clear hg
          cases ge with
          | none => have := HE.out.1; rw [this] at hi; simp at hi
          | some g =>
          obtain ⟨cap', reste, e1, hRe, hene⟩ := HE.out
          simp only [Value.slice.injEq] at e1
          obtain ⟨rfl, _, rfl⟩ := e1
          have hRw := hRe.fr HF.out (fun h => h)
          have hgl := hRw.lt
          obtain ⟨d0, d1, d2, d3⟩ := hRw.cells i hi
          obtain ⟨⟨x, hxv⟩, hks⟩ := HVe.out i hi
          by_cases h1 : (at' T.elder i).st = 1
          · have HP : Hid (at' T.elder i = ⟨1, (at' T.elder i).key, .int .i64 x⟩) := by
              show at' T.elder i = _
              rw [← h1, ← hxv]
            have HT2 : Hid (takL (T.elder.take (i + 1)) = takL (T.elder.take i) ++ [⟨1, (at' T.elder i).key, .int .i64 x⟩]) := by
              have := HT.out
              rw [if_pos h1, HP.out] at this
              exact this
            rw [hxv] at d3
            rw [(bt1 h1).1] at d0
            rw [(bt1 h1).2] at d1
            have hyl : (takL T.row ++ takL (T.elder.take i)).length ≤ 2199023255552 := by
              have := takL_len (T.elder.take i)
              have := takL_len T.row
              rw [List.length_take] at *
              rw [List.length_append]
              omega
            clear HT HP hRw hxv h1 hks
            generalize (at' T.elder i).key = key at *
            generalize hys : takL T.row ++ takL (T.elder.take i) = ys at *
            have HYs := hid hys
            clear hys
            have HHs := hid HF.out.size
            go_wp2_with (at_builtin; go_must (refine wpList_append_own_at _ rfl (.tmp 56) (.tmp 64) 69 rfl w.heap.size 115 i0 _ 4 32 Try.underlying69 hi0 hz0 hz1 hz2 rfl (by decide) _ _ _ rfl (own_fr HO.out (alloc_fr wr _ (fun _ => False)) (fun _ _ h => h)) ⟨wr.heap.size, 0, none⟩ 1 1 [.bool true, .bool false, .string key, .int .i64 x] rfl rfl ?q1 ?q2 ?q3 ?q4 ?q5 ?_))
            case q1 => exact four_new wr (.bool true) (.bool false) (.string key) (.int .i64 x) 115
            case q2 => intro u hu; simp at hu; rcases hu with rfl | rfl | rfl | rfl <;> rfl
            case q3 => unfold maxLen; omega
            case q4 => omega
            case q5 => have := HHs.out; simp; omega
            intro v' w' hown' hgrow hnil hat
            have HO2 := hid hown'
            have HF2 := hid ((HF.out.alloc (.cells #[.bool true, .bool false, .string key, .int .i64 x] 115)).grown hgrow (fun k hk e => by have := (HO.out.lt k e).1; omega))
            clear hown' hgrow hat hnil
            go_wp2_with fail
            go_roundg f
            case measure => omega
            case rel =>
              refine ⟨i + 1, by go_num, by have := HG.out; omega, ?_, HF2⟩
              show World.ownsRow _ _ _ _ _ _ _
              rw [HT2.out, ← List.append_assoc, HYs.out, pd_append, List.length_append]
              exact HO2.out
          · have HT2 : Hid (takL (T.elder.take (i + 1)) = takL (T.elder.take i)) := by
              have := HT.out
              rw [if_neg h1, List.append_nil] at this
              exact this
            have hbt : bt (at' T.elder i) = .bool false := by
              unfold bt
              rw [show ((at' T.elder i).st == 1) = false by simp; exact h1]
            rw [hbt] at d0
            clear hRw hxv h1 hks d1 d2 d3 hbt
            go_wp2_with fail
            go_roundg f
            case measure => omega
            case rel => exact ⟨i + 1, by go_num, by have := HG.out; omega, by rw [HT2.out]; exact HO, HF⟩
    | succ f =>
      have hi : i < T.row.length := by omega
      have t0 : (0 : Int) ≤ (i : Int) := by omega
      have t1 : (i : Int) < (T.row.length : Int) := by omega
      have HG := hid hg
      have HI := hid hi
      have HT := hid (takL_take T.row i hi)
      clear hg
      have hRw := HRr.out.fr HF.out (fun h => h)
      have hgl := hRw.lt
      obtain ⟨d0, d1, d2, d3⟩ := hRw.cells i hi
      obtain ⟨⟨x, hxv⟩, hks⟩ := HVr.out i hi
      by_cases h1 : (at' T.row i).st = 1
      · have HP : Hid (at' T.row i = ⟨1, (at' T.row i).key, .int .i64 x⟩) := by
          show at' T.row i = _
          rw [← h1, ← hxv]
        have HT2 : Hid (takL (T.row.take (i + 1)) = takL (T.row.take i) ++ [⟨1, (at' T.row i).key, .int .i64 x⟩]) := by
          have := HT.out
          rw [if_pos h1, HP.out] at this
          exact this
        rw [hxv] at d3
        rw [(bt1 h1).1] at d0
        rw [(bt1 h1).2] at d1
        have hyl : (takL (T.row.take i)).length ≤ 1099511627776 := by
          have := takL_len (T.row.take i)
          rw [List.length_take] at this
          omega
        clear HT HP hRw hxv h1 hks
        generalize (at' T.row i).key = key at *
        generalize takL (T.row.take i) = ys at *
        have HHs := hid HF.out.size
        go_wp2_with (at_builtin; go_must (refine wpList_append_own_at _ rfl (.tmp 29) (.tmp 37) 69 rfl w.heap.size 115 i0 _ 4 32 Try.underlying69 hi0 hz0 hz1 hz2 rfl (by decide) _ _ _ rfl (own_fr HO.out (alloc_fr wr _ (fun _ => False)) (fun _ _ h => h)) ⟨wr.heap.size, 0, none⟩ 1 1 [.bool true, .bool false, .string key, .int .i64 x] rfl rfl ?q1 ?q2 ?q3 ?q4 ?q5 ?_))
        case q1 => exact four_new wr (.bool true) (.bool false) (.string key) (.int .i64 x) 115
        case q2 => intro u hu; simp at hu; rcases hu with rfl | rfl | rfl | rfl <;> rfl
        case q3 => unfold maxLen; omega
        case q4 => omega
        case q5 => have := HHs.out; simp; omega
        intro v' w' hown' hgrow hnil hat
        have HO2 := hid hown'
        have HF2 := hid ((HF.out.alloc (.cells #[.bool true, .bool false, .string key, .int .i64 x] 115)).grown hgrow (fun k hk e => by have := (HO.out.lt k e).1; omega))
        clear hown' hgrow hat hnil
        go_wp2_with fail
        go_roundg f
        case measure => omega
        case rel =>
          refine ⟨i + 1, by go_num, by have := HG.out; omega, ?_, HF2⟩
          show World.ownsRow _ _ _ _ _ _ _
          rw [HT2.out, pd_append, List.length_append]
          exact HO2.out
      · have HT2 : Hid (takL (T.row.take (i + 1)) = takL (T.row.take i)) := by
          have := HT.out
          rw [if_neg h1, List.append_nil] at this
          exact this
        have hbt : bt (at' T.row i) = .bool false := by
          unfold bt
          rw [show ((at' T.row i).st == 1) = false by simp; exact h1]
        rw [hbt] at d0
        clear hRw hxv h1 hks d1 d2 d3 hbt
        go_wp2_with fail
        go_roundg f
        case measure => omega
        case rel => exact ⟨i + 1, by go_num, by have := HG.out; omega, by rw [HT2.out]; exact HO, HF⟩
end Go.Proofs.Ytobigmcklecbnaa
