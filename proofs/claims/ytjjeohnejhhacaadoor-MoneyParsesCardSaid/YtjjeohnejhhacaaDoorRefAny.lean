/- The reference's reading of a text answers as money.Parse does; and what is read is written so. -/
import Derived.Test.YtjjeohnejhhacaaDoorRefSpec
import Derived.Test.YtjjeohnejhhacaaDoorRefParseI
import Derived.Test.YtjjeohnejhhacaaDoorRefParseO
namespace Go.Proofs.YtjjeohnejhhacaaDoor
open Go.RowKit
set_option linter.unusedVariables false
set_option linter.unusedSimpArgs false

theorem cents_more {A : List UInt8} (h : centsB A = true) (x : Int) : val x A = x * 100 + val 0 A := by
  unfold centsB at h
  rw [Bool.and_eq_true, decide_eq_true_eq] at h
  obtain ⟨h1, h2⟩ := h
  match A, h1 with
  | [c, d], _ =>
    simp only [val]
    omega
theorem tail_end (n : Nat) (b f : Bool) (F A T : List UInt8) (hn : ¬ 20 < n) (hw : wholeB F = true) (hf : f = true → centsB A = true) (hA : f = false → A = []) (hT : T = if f = true then F ++ 46 :: A else F) (N : Int) (G S : Bool)
    (hD : digs 0 false false T = (N, G, S)) : pTail n b F A f = pEnd b (if f = true then N else N * 100) G S := by
  have hdF := (whole_parts hw).1
  have hc : (decide (20 < n) || !wholeB F || (f && !centsB A)) = false := by
    rw [hw]
    cases f
    · simp [hn]
    · rw [hf rfl]; simp [hn]
  have hok : okC T := by
    cases f
    · rw [hT]; exact okC_digits hdF
    · rw [hT]
      intro c hcm
      simp only [if_true] at hcm
      rcases List.mem_append.1 hcm with h | h
      · exact okC_digits hdF c h
      · rcases List.mem_cons.1 h with e | h
        · subst e; exact .inl rfl
        · exact okC_digits (cents_digits (hf rfl)) c h
  have m := vv_mono T 0 hok (by omega)
  have ds := digs_some T 0 false false
  have dv := digs_val T 0 false false hok (by omega) (by omega)
  rw [hD] at ds dv
  simp only [Bool.false_or] at ds
  unfold pTail
  rw [hc]
  simp only [Bool.false_eq_true, if_false]
  refine ends_alike b f (numGo 0 F) (numGo 0 A) (val 0 F) (vv 0 T) N G S (val_nonneg F hdF) ?_ ?_ (numGo_val F 0 hdF (by omega)) ?_ ?_ ?_ dv.1 dv.2
  · cases f
    · rw [hA rfl]; simp [numGo]
    · obtain ⟨y, h1, h2, h3, _⟩ := cents_val (hf rfl)
      rw [h3]; omega
  · cases f
    · rw [hA rfl]; simp [numGo]
    · obtain ⟨y, h1, h2, h3, _⟩ := cents_val (hf rfl)
      rw [h3]; omega
  · cases f
    · rw [hT]; exact vv_digits F 0 hdF
    · obtain ⟨y, h1, h2, h3, _⟩ := cents_val (hf rfl)
      rw [hT]
      simp only [if_true]
      rw [vv_append, vv_digits F 0 hdF]
      have : ∀ n : Int, vv n (46 :: A) = vv n A := fun n => by simp [vv]
      rw [this, vv_digits A _ (cents_digits (hf rfl)), cents_more (hf rfl), h3, h2]
  · intro e
    rw [hA e]; rfl
  · rw [ds]
    cases hz : nz T
    · have := m.2.2 ⟨rfl, hz⟩
      simp [this]
    · have : vv 0 T ≠ 0 := fun e => by
        have := (m.2.1 e).2
        rw [hz] at this
        cases this
      simp [this]
theorem not_whole {l : List UInt8} (h : digitsB l = false) : wholeB l = false := by
  unfold wholeB
  rw [h, Bool.and_false]
theorem not_cents {l : List UInt8} (h : digitsB l = false) : centsB l = false := by
  unfold centsB
  rw [h, Bool.and_false]
theorem pTail_bad {n : Nat} {b f : Bool} {F A : List UInt8} (h : 20 < n ∨ wholeB F = false ∨ (f = true ∧ centsB A = false)) : pTail n b F A f = (0, 5) := by
  unfold pTail
  rw [if_pos]
  rcases h with h | h | ⟨h1, h2⟩
  · simp [h]
  · rw [h]; simp
  · rw [h1, h2]; simp
theorem whole_lead {t : ByteArray} (h : 1 < t.size) (h48 : t[0].toNat = 48) : wholeB t.data.toList = false := by
  have hh := head_of t (by omega)
  have e : t[0] = 48 := UInt8.toNat_inj.1 (by simpa using h48)
  have hl : 1 < t.data.toList.length := by rw [← Lib.size_eq]; exact h
  have d : decide (1 < t.data.toList.length) = true := by rw [decide_eq_true_eq]; exact hl
  have d2 : ((some (48 : UInt8)) == some 48) = true := rfl
  unfold wholeB
  rw [hh, e, d, d2]
  simp
theorem whole_fine {t : ByteArray} (h : 0 < t.size) (hd : digitsB t.data.toList = true) (h48 : t.size = 1 ∨ t[0].toNat ≠ 48) : wholeB t.data.toList = true := by
  have hh := head_of t h
  have hl : t.data.toList.length = t.size := (Lib.size_eq t).symm
  have he : t.data.toList.isEmpty = false := by
    cases hx : t.data.toList with
    | nil => rw [hx] at hl; simp at hl; omega
    | cons a r => rfl
  unfold wholeB
  rw [hd, he, hh, hl]
  rcases h48 with h1 | h1
  · rw [h1]; simp
  · have e : t[0] ≠ 48 := fun e => h1 (by rw [e]; rfl)
    have : (some t[0] == some (48 : UInt8)) = false := by simp [e]
    rw [this]
    simp
theorem whole_bare {t : ByteArray} (h : t.size = 0) : wholeB t.data.toList = false := by
  have hl : t.data.toList.length = t.size := (Lib.size_eq t).symm
  have : t.data.toList = [] := List.length_eq_zero_iff.1 (by omega)
  rw [this]
  rfl

theorem refp_t (s t : ByteArray) (w : World) (hs : s.size ≤ 4611686018427387904) (h0 : 0 < s.size) (h45 : s[0].toNat = 45) (ht : s.extract 1 s.size = t) :
    Calls Tryd.prog 25 #[.string s] w fun e w' => e = .returned (.tuple #[.int .i64 (pCut t.data.toList true).1, .int .i64 (pCut t.data.toList true).2]) ∧ w = w' := by
  have hL : t.data.toList.length = t.size := (Lib.size_eq t).symm
  have sc := scan_none t.data.toList 0
  rcases index_cases t.data.toList with h | ⟨i, h, hi⟩
  · rw [h, if_pos rfl] at sc
    have hp : pCut t.data.toList true = pTail t.data.toList.length true t.data.toList [] false := by unfold pCut; rw [if_pos h]
    rw [hp]
    cases hd : digitsB t.data.toList
    · rw [hd] at sc
      rw [pTail_bad (.inr (.inl (not_whole hd)))]
      exact rp_none_t s t w hs h0 h45 ht sc
    · rw [hd] at sc
      by_cases h20 : 20 < t.size
      · rw [pTail_bad (.inl (by rw [hL]; exact h20))]
        exact rp_long_tn s t w hs h0 h45 ht sc (by omega)
      · by_cases hz : t.size = 0
        · rw [pTail_bad (.inr (.inl (whole_bare hz)))]
          exact rp_bare_tn s t w hs h0 h45 ht sc (by omega) hz
        · have e := fun hw => tail_end t.data.toList.length true false t.data.toList [] t.data.toList (by omega) hw (fun e => by cases e) (fun _ => rfl) rfl _ _ _ rfl
          by_cases h1 : t.size = 1
          · rw [e (whole_fine (by omega) hd (.inl h1))]
            exact rp_numo_tn s t w hs h0 h45 ht sc (by omega) _ _ _ rfl h1
          · by_cases h48 : t[0].toNat = 48
            · rw [pTail_bad (.inr (.inl (whole_lead (by omega) h48)))]
              exact rp_lead_tn s t w hs h0 h45 ht sc (by omega) (by omega) h48
            · rw [e (whole_fine (by omega) hd (.inr h48))]
              exact rp_numi_tn s t w hs h0 h45 ht sc (by omega) _ _ _ rfl (by omega) h48
  · have hm : ¬ (i : Int) = -1 := by omega
    rw [h, if_neg hm, Int.toNat_natCast, Nat.zero_add] at sc
    have hp : pCut t.data.toList true = pTail t.data.toList.length true (t.data.toList.take i) (t.data.toList.drop (i + 1)) true := by
      unfold pCut
      rw [h, if_neg hm, Int.toNat_natCast]
    rw [hp]
    have hlA : (t.data.toList.drop (i + 1)).length = t.size - (i + 1) := by rw [List.length_drop, hL]
    have eF : (t.extract 0 i).data.toList = t.data.toList.take i := by rw [Lib.extract_data]; simp
    have hsF : (t.extract 0 i).size = i := by rw [ByteArray.size_extract]; omega
    cases hd : (digitsB (t.data.toList.take i) && digitsB (t.data.toList.drop (i + 1)))
    · rw [hd] at sc
      have : wholeB (t.data.toList.take i) = false ∨ (true = true ∧ centsB (t.data.toList.drop (i + 1)) = false) := by
        rcases Bool.and_eq_false_iff.1 hd with h1 | h1
        · exact .inl (not_whole h1)
        · exact .inr ⟨rfl, not_cents h1⟩
      rw [pTail_bad (.inr this)]
      exact rp_none_t s t w hs h0 h45 ht sc
    · rw [hd] at sc
      obtain ⟨hd1, hd2⟩ := Bool.and_eq_true_iff.1 hd
      by_cases hj : (i : Int) = (t.size : Int) - 3
      · have hc : centsB (t.data.toList.drop (i + 1)) = true := by
          unfold centsB
          rw [hd2, hlA]
          simp
          omega
        by_cases h20 : 20 < t.size
        · rw [pTail_bad (.inl (by rw [hL]; exact h20))]
          exact rp_long_ts s t w hs h0 h45 ht i sc hj (by omega)
        · by_cases hz : i = 0
          · rw [pTail_bad (.inr (.inl (by rw [← eF]; exact whole_bare (by omega))))]
            exact rp_bare_ts s t w hs h0 h45 ht i sc hj _ rfl (by omega) (by omega)
          · have eT : t.data.toList = t.data.toList.take i ++ 46 :: t.data.toList.drop (i + 1) := by
              have h46 := (Lib.indexByte_some h).1
              have e1 : t.data.toList.drop i = 46 :: t.data.toList.drop (i + 1) := by
                rw [List.drop_eq_getElem_cons hi]
                rw [List.getElem?_eq_getElem hi] at h46
                rw [Option.some.inj h46]
              conv => lhs; rw [← List.take_append_drop i t.data.toList]
              rw [e1]
            have e := fun hw => tail_end t.data.toList.length true true (t.data.toList.take i) (t.data.toList.drop (i + 1)) t.data.toList (by omega) hw (fun _ => hc) (fun e => by cases e) eT _ _ _ rfl
            rw [← eF] at hd1
            by_cases h1 : i = 1
            · rw [e (by rw [← eF]; exact whole_fine (by omega) hd1 (.inl (by omega)))]
              exact rp_numo_ts s t w hs h0 h45 ht i sc hj _ rfl (by omega) _ _ _ rfl (by omega)
            · by_cases h48 : (t.extract 0 i)[0].toNat = 48
              · rw [pTail_bad (.inr (.inl (by rw [← eF]; exact whole_lead (by omega) h48)))]
                exact rp_lead_ts s t w hs h0 h45 ht i sc hj _ rfl (by omega) (by omega) h48
              · rw [e (by rw [← eF]; exact whole_fine (by omega) hd1 (.inr h48))]
                exact rp_numi_ts s t w hs h0 h45 ht i sc hj _ rfl (by omega) _ _ _ rfl (by omega) h48
      · rw [pTail_bad (.inr (.inr ⟨rfl, by
          unfold centsB
          rw [hlA, hd2]
          simp
          omega⟩))]
        exact rp_point_ts s t w hs h0 h45 ht i sc hj

theorem refp_f (s : ByteArray) (w : World) (hs : s.size ≤ 4611686018427387904) (h0 : 0 < s.size) (h45 : s[0].toNat ≠ 45) :
    Calls Tryd.prog 25 #[.string s] w fun e w' => e = .returned (.tuple #[.int .i64 (pCut s.data.toList false).1, .int .i64 (pCut s.data.toList false).2]) ∧ w = w' := by
  have hL : s.data.toList.length = s.size := (Lib.size_eq s).symm
  have sc := scan_none s.data.toList 0
  rcases index_cases s.data.toList with h | ⟨i, h, hi⟩
  · rw [h, if_pos rfl] at sc
    have hp : pCut s.data.toList false = pTail s.data.toList.length false s.data.toList [] false := by unfold pCut; rw [if_pos h]
    rw [hp]
    cases hd : digitsB s.data.toList
    · rw [hd] at sc
      rw [pTail_bad (.inr (.inl (not_whole hd)))]
      exact rp_none_f s w hs h0 h45 sc
    · rw [hd] at sc
      by_cases h20 : 20 < s.size
      · rw [pTail_bad (.inl (by rw [hL]; exact h20))]
        exact rp_long_fn s w hs h0 h45 sc (by omega)
      · by_cases hz : s.size = 0
        · rw [pTail_bad (.inr (.inl (whole_bare hz)))]
          exact rp_bare_fn s w hs h0 h45 sc (by omega) hz
        · have e := fun hw => tail_end s.data.toList.length false false s.data.toList [] s.data.toList (by omega) hw (fun e => by cases e) (fun _ => rfl) rfl _ _ _ rfl
          by_cases h1 : s.size = 1
          · rw [e (whole_fine (by omega) hd (.inl h1))]
            exact rp_numo_fn s w hs h0 h45 sc (by omega) _ _ _ rfl h1
          · by_cases h48 : s[0].toNat = 48
            · rw [pTail_bad (.inr (.inl (whole_lead (by omega) h48)))]
              exact rp_lead_fn s w hs h0 h45 sc (by omega) (by omega) h48
            · rw [e (whole_fine (by omega) hd (.inr h48))]
              exact rp_numi_fn s w hs h0 h45 sc (by omega) _ _ _ rfl (by omega) h48
  · have hm : ¬ (i : Int) = -1 := by omega
    rw [h, if_neg hm, Int.toNat_natCast, Nat.zero_add] at sc
    have hp : pCut s.data.toList false = pTail s.data.toList.length false (s.data.toList.take i) (s.data.toList.drop (i + 1)) true := by
      unfold pCut
      rw [h, if_neg hm, Int.toNat_natCast]
    rw [hp]
    have hlA : (s.data.toList.drop (i + 1)).length = s.size - (i + 1) := by rw [List.length_drop, hL]
    have eF : (s.extract 0 i).data.toList = s.data.toList.take i := by rw [Lib.extract_data]; simp
    have hsF : (s.extract 0 i).size = i := by rw [ByteArray.size_extract]; omega
    cases hd : (digitsB (s.data.toList.take i) && digitsB (s.data.toList.drop (i + 1)))
    · rw [hd] at sc
      have : wholeB (s.data.toList.take i) = false ∨ (true = true ∧ centsB (s.data.toList.drop (i + 1)) = false) := by
        rcases Bool.and_eq_false_iff.1 hd with h1 | h1
        · exact .inl (not_whole h1)
        · exact .inr ⟨rfl, not_cents h1⟩
      rw [pTail_bad (.inr this)]
      exact rp_none_f s w hs h0 h45 sc
    · rw [hd] at sc
      obtain ⟨hd1, hd2⟩ := Bool.and_eq_true_iff.1 hd
      by_cases hj : (i : Int) = (s.size : Int) - 3
      · have hc : centsB (s.data.toList.drop (i + 1)) = true := by
          unfold centsB
          rw [hd2, hlA]
          simp
          omega
        by_cases h20 : 20 < s.size
        · rw [pTail_bad (.inl (by rw [hL]; exact h20))]
          exact rp_long_fs s w hs h0 h45 i sc hj (by omega)
        · by_cases hz : i = 0
          · rw [pTail_bad (.inr (.inl (by rw [← eF]; exact whole_bare (by omega))))]
            exact rp_bare_fs s w hs h0 h45 i sc hj _ rfl (by omega) (by omega)
          · have eT : s.data.toList = s.data.toList.take i ++ 46 :: s.data.toList.drop (i + 1) := by
              have h46 := (Lib.indexByte_some h).1
              have e1 : s.data.toList.drop i = 46 :: s.data.toList.drop (i + 1) := by
                rw [List.drop_eq_getElem_cons hi]
                rw [List.getElem?_eq_getElem hi] at h46
                rw [Option.some.inj h46]
              conv => lhs; rw [← List.take_append_drop i s.data.toList]
              rw [e1]
            have e := fun hw => tail_end s.data.toList.length false true (s.data.toList.take i) (s.data.toList.drop (i + 1)) s.data.toList (by omega) hw (fun _ => hc) (fun e => by cases e) eT _ _ _ rfl
            rw [← eF] at hd1
            by_cases h1 : i = 1
            · rw [e (by rw [← eF]; exact whole_fine (by omega) hd1 (.inl (by omega)))]
              exact rp_numo_fs s w hs h0 h45 i sc hj _ rfl (by omega) _ _ _ rfl (by omega)
            · by_cases h48 : (s.extract 0 i)[0].toNat = 48
              · rw [pTail_bad (.inr (.inl (by rw [← eF]; exact whole_lead (by omega) h48)))]
                exact rp_lead_fs s w hs h0 h45 i sc hj _ rfl (by omega) (by omega) h48
              · rw [e (by rw [← eF]; exact whole_fine (by omega) hd1 (.inr h48))]
                exact rp_numi_fs s w hs h0 h45 i sc hj _ rfl (by omega) _ _ _ rfl (by omega) h48
      · rw [pTail_bad (.inr (.inr ⟨rfl, by
          unfold centsB
          rw [hlA, hd2]
          simp
          omega⟩))]
        exact rp_point_fs s w hs h0 h45 i sc hj

theorem refparse_any (s : ByteArray) (w : World) (hs : s.size ≤ 4611686018427387904) :
    Calls Tryd.prog 25 #[.string s] w fun e w' => e = .returned (.tuple #[.int .i64 (parseP s.data.toList).1, .int .i64 (parseP s.data.toList).2]) ∧ w = w' := by
  by_cases h0 : s.size = 0
  · have hl : s.data.toList.length = s.size := (Lib.size_eq s).symm
    have : s.data.toList = [] := List.length_eq_zero_iff.1 (by omega)
    rw [this, show parseP [] = (0, 5) from rfl]
    exact rp_empty s w h0
  · have h0 : 0 < s.size := by omega
    have hh := head_of s h0
    obtain ⟨c, r, hl⟩ : ∃ c r, s.data.toList = c :: r := by
      cases hx : s.data.toList with
      | nil => rw [hx] at hh; cases hh
      | cons c r => exact ⟨c, r, rfl⟩
    have hc : c = s[0] := by rw [hl] at hh; exact Option.some.inj hh
    unfold parseP
    by_cases h45 : s[0].toNat = 45
    · have e : c = 45 := by rw [hc]; exact UInt8.toNat_inj.1 (by simpa using h45)
      have hp : Lib.hasPrefix s.data.toList [45] = true := by rw [hl, e]; simp [Lib.hasPrefix]
      have ht : Lib.trimPrefix s.data.toList [45] = (s.extract 1 s.size).data.toList := by
        unfold Lib.trimPrefix
        rw [hp, Lib.extract_to_end]
        rfl
      rw [hp, ht]
      exact refp_t s _ w hs h0 h45 rfl
    · have e : (45 : UInt8) ≠ c := fun e => h45 (by rw [← hc, ← e]; rfl)
      have hb : ((45 : UInt8) == c) = false := by rw [beq_eq_false_iff_ne]; exact e
      have hp : Lib.hasPrefix s.data.toList [45] = false := by
        rw [hl]
        show ((45 : UInt8) == c && _) = false
        rw [hb]
        rfl
      have ht : Lib.trimPrefix s.data.toList [45] = s.data.toList := by
        unfold Lib.trimPrefix
        rw [hp]
        rfl
      rw [hp, ht]
      exact refp_f s w hs h0 h45
end Go.Proofs.YtjjeohnejhhacaaDoor
