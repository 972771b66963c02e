/- What element.Sums answers of any elements. -/
import Derived.Test.YtobdbjmpoefebaaDoorEltH
namespace Go.Proofs.YtobdbjmpoefebaaDoor
open Go.RowKit
set_option linter.unusedVariables false
set_option linter.unusedSimpArgs false

theorem idxN_cases (p : Nat → Bool) : ∀ n, (idxN p n = -1 ∧ ∀ j, j < n → p j = false) ∨ ∃ i, i < n ∧ idxN p n = (i : Int) ∧ p i = true ∧ ∀ j, j < i → p j = false
  | 0 => .inl ⟨rfl, fun j hj => absurd hj (Nat.not_lt_zero _)⟩
  | n + 1 => by
    rcases idxN_cases p n with ⟨h1, h2⟩ | ⟨i, hi, h1, h2, h3⟩
    · cases hp : p n
      · refine .inl ⟨?_, fun j hj => ?_⟩
        · simp [idxN, h1, hp]
        · rcases Nat.lt_or_ge j n with q | q
          · exact h2 j q
          · obtain rfl : j = n := by omega
            exact hp
      · exact .inr ⟨n, by omega, by simp [idxN, h1, hp], hp, h2⟩
    · refine .inr ⟨i, by omega, ?_, h2, h3⟩
      have : (i : Int) ≠ -1 := by omega
      simp [idxN, h1, this]
theorem sumI_cases (S : SmL) (N : ByteArray) : (sumI S N = -1 ∧ ∀ j, j < S.length → (S.getD j sm0).1 ≠ N) ∨ ∃ i, i < S.length ∧ sumI S N = (i : Int) ∧ (S.getD i sm0).1 = N ∧ ∀ j, j < i → (S.getD j sm0).1 ≠ N := by
  rcases idxN_cases (fun j => decide ((S.getD j sm0).1 = N)) S.length with ⟨h1, h2⟩ | ⟨i, hi, h1, h2, h3⟩
  · exact .inl ⟨h1, fun j hj => by simpa using h2 j hj⟩
  · exact .inr ⟨i, hi, h1, by simpa using h2, fun j hj => by simpa using h3 j hj⟩
/-- what a name's sum becomes: a new one -/
theorem sums_new {S : SmL} {N : ByteArray} (x : Int) (h : ∀ j, j < S.length → (S.getD j sm0).1 ≠ N) : addS S N x = S ++ [(N, x)] ∧ getS S N = 0 :=
  addS_none S N x (fun j hj => by rw [getD_any S j hj (N, 0) sm0]; exact h j hj)
theorem sums_old {S : SmL} {N : ByteArray} (x : Int) {i : Nat} (hi : i < S.length) (h : (S.getD i sm0).1 = N) (hl : ∀ j, j < i → (S.getD j sm0).1 ≠ N) : addS S N x = S.set i ((S.getD i sm0).1, (S.getD i sm0).2 + x) ∧ getS S N = (S.getD i sm0).2 := by
  have := addS_at S N x i hi (by rw [getD_any S i hi (N, 0) sm0]; exact h) (fun j hj => by rw [getD_any S j (by omega) (N, 0) sm0]; exact hl j hj)
  rw [getD_any S i hi (N, 0) sm0] at this
  rw [h]
  exact this
def SumsP (w : World) (R : SmL × Int) (e : Ending) (w' : World) : Prop := ∃ v, e = .returned (.tuple #[v, .int .i64 R.2]) ∧ SmO w' w.heap.size v R.1 ∧ Below w.heap.size w w'
theorem sumsP_err {w w' : World} {R : SmL × Int} {x : Int} (h : R = ([], x)) (hb : Below w.heap.size w w') : SumsP w R (.returned (.tuple #[.slice none 0 0, .int .i64 x])) w' := by
  subst h
  exact ⟨_, rfl, sm_nil _ _, hb⟩
theorem sumsP_ok {w w' : World} {R : SmL × Int} {S : SmL} {v : Value} (h : R = (S, 0)) (ho : SmO w' w.heap.size v S) (hb : Below w.heap.size w w') : SumsP w R (.returned (.tuple #[v, .int .i64 0])) w' := by
  subst h
  exact ⟨_, rfl, ho, hb⟩
set_option maxHeartbeats 4000000 in
set_option maxRecDepth 100000 in
theorem sums_any (A : Option Addr) (n c : Nat) (E : Nat → EB) (w : World) (h : ElM w A n E) (hn : n ≤ 100000) (hE : ∀ i, i < n → (E i).N.size ≤ 281474976710656) :
    Calls Tryd.prog 31 #[.slice A n c] w (SumsP w (sms (els E n) [])) := by
  obtain ⟨i0, hi0, hz0, hz1, hz2⟩ := info_parts info_sm
  have Hi := Lib.hid hi0
  have Hz := Lib.hid hz0
  have HE := Lib.hid hE
  have HM := Lib.hid h
  clear hi0 hz0 hE h
  go_enter Tryd.func31, Tryd.ntmps31
  go_wp2
  go_loopw [4, 12] (fun v i wr => ∃ (S : SmL) (k : Nat), k ≤ n ∧ S.length ≤ k ∧ okS S ∧ i = .int .i64 k ∧ SmO wr w.heap.size v S ∧ Hid (sms ((els E n).drop k) S = sms (els E n) []) ∧ Below w.heap.size w wr) (fun _ i _ => n - (intOf i).toNat)
  case atStart => exact ⟨[], 0, Nat.zero_le _, Nat.le_refl _, fun i hi => absurd hi (Nat.not_lt_zero _), rfl, sm_nil _ _, Lib.hid rfl, Below.refl _ _⟩
  case round =>
    obtain ⟨S, k, hk, hL, hok, rfl, ho, HG, hb⟩ := hrel
    by_cases hlt : k < n
    · have hg := HG.out
      rw [els_drop E hlt] at hg
      clear HG
      obtain ⟨b, o, rfl, hc⟩ := HM.out (by omega)
      obtain ⟨c0, c1, c2⟩ := hc k hlt
      have hs := HE.out k hlt
      have d0 := cell_later hb c0
      have d1 := cell_later hb c1
      have d2 := cell_later hb c2
      have bn := below_new wr (.cells #[.string (E k).N, .int .i64 (E k).A, .int .i64 (E k).U] 45)
      have B1 := below_step hb bn hb.size
      have o1 : SmO _ w.heap.size _ S := ho.below bn
      have e0 : (wr.alloc (.cells #[.string (E k).N, .int .i64 (E k).A, .int .i64 (E k).U] 45)).cell? ⟨wr.heap.size, 0, none⟩ = some (.string (E k).N) := by simp [go_sem]
      clear c0 c1 c2 hc hb ho bn
      rw [sms_cons] at hg
      generalize E k = e at *
      obtain ⟨N, ea, eu⟩ := e
      simp only [] at hg hs d0 d1 d2 B1 o1 e0 ⊢
      have va := fun w => value_any N ea eu w
      have vo := valV_amt ea eu
      generalize valE ea eu = ve at *
      generalize valV ea eu = x at *
      go_wp2_with (fail)
      generalize wr.alloc (.cells #[.string N, .int .i64 ea, .int .i64 eu] 45) = w1 at *
      generalize wr.heap.size = p at *
      refine (va _).mono ?_
      rintro e w2 ⟨rfl, hb2⟩
      have B2 := below_step B1 hb2 B1.size
      have o2 : SmO _ w.heap.size _ S := o1.below hb2
      have e2 := cell_later hb2 e0
      clear va B1 o1 e0 hb2 d0 d1 d2
      by_cases hv : ve = 0
      · rw [if_pos hv] at hg
        have tv : (ve != 0) = false := by simpa using hv
        have HV := Lib.hid hv
        have HG := Lib.hid hg
        have HS := Lib.hid hs
        have HO := Lib.hid hok
        have VO := Lib.hid vo
        clear hv hg hs hok vo
        have ix := idxsum_any _ w.heap.size p w2 S N o2 e2
        rcases sumI_cases S N with ⟨q1, q2⟩ | ⟨i, hi, q1, q2, q3⟩
        · rw [q1] at ix
          obtain ⟨n1, n2⟩ := sums_new x q2
          have hg2 := HG.out
          rw [n1, n2, Int.zero_add, if_pos VO.out] at hg2
          have hok2 : okS (S ++ [(N, x)]) := by
            rw [← n1]
            exact ok_addS S N x HO.out (by rw [n2, Int.zero_add]; exact VO.out)
          have HG2 := Lib.hid hg2
          have HO2 := Lib.hid hok2
          have cl := fun w => strclone_any N w HS.out
          have hc3 : S.length + 1 ≤ maxLen := by unfold maxLen; omega
          have hc4 : (S.length + 1) * 24 ≤ 140737488355328 := by omega
          have HC3 := Lib.hid hc3
          have HC4 := Lib.hid hc4
          clear hc3 hc4 hg2 hok2 HG HO n1 n2 q1 q2
          go_wp2_with (fail)
          refine ix.mono ?_
          rintro e w3 ⟨rfl, hb3⟩
          have B3 := below_step B2 hb3 B2.size
          have o3 : SmO _ w.heap.size _ S := o2.below hb3
          have e3 := cell_later hb3 e2
          clear ix B2 o2 e2 hb3
          go_wp2_with (fail)
          refine (cl _).mono ?_
          rintro e w4 ⟨rfl, hb4⟩
          have B4 := below_step B3 hb4 B3.size
          have o4 : w4.ownsRow w.heap.size 69 2 _ S.length (S.flatMap smG) := o3.below hb4
          have hc1 := cell_new2 w4 (.string N) (.int .i64 x) 69
          have hc2 : ∀ v ∈ [Value.string N, .int .i64 x], v.oneCell' = true := by simp [Value.oneCell']
          have B5 := B4.alloc B4.size (.cells #[.string N, .int .i64 x] 69)
          have hc5 := B5.size
          clear B3 o3 e3 hb4 cl
          go_wp2_with (at_builtin; refine wpList_append_own _ rfl _ _ 65 rfl w.heap.size 69 i0 (.agg #[.string ⟨#[]⟩, .int .i64 0]) 2 24 Tryd.underlying65 Hi.out Hz.out hz1 hz2 rfl (by decide) _ _ _ rfl (o4.alloc _) ⟨w4.heap.size, 0, none⟩ 1 1 [.string N, .int .i64 x] rfl rfl hc1 hc2 HC3.out HC4.out hc5 ?_; intro v' w6 hown2 hg2 _)
          have B6 : Below w.heap.size w w6 := B5.grown hg2 hc5 (fun k hk => (o4.lt k hk).1)
          go_roundw
          case rel => exact ⟨S ++ [(N, x)], k + 1, by omega, by simp; omega, HO2.out, by go_num, sm_push hown2, HG2, B6⟩
          case measure => simp [intOf]; omega
        · rw [q1] at ix
          obtain ⟨n1, n2⟩ := sums_old x hi q2 q3
          have hg2 := HG.out
          rw [n1, n2] at hg2
          have hoki := HO.out i hi
          have key : amtB ((S.getD i sm0).2 + x) = true → okS (S.set i ((S.getD i sm0).1, (S.getD i sm0).2 + x)) := fun ha => by
            rw [← n1]
            exact ok_addS S N x HO.out (by rw [n2]; exact ha)
          have KEY := Lib.hid key
          obtain ⟨A1, c1, rfl, hm, hrow⟩ := sm_row o2
          obtain ⟨g, rfl, hB, hg3, _⟩ := hrow i hi
          have hm' : S.length ≤ 9223372036854775807 := by unfold maxLen at hm; omega
          have hi2 : (i : Int) < (S.length : Int) := by omega
          clear HG HO key n1 n2 q1 q2 q3 hm hrow
          go_wp2_with (fail)
          refine ix.mono ?_
          rintro e w3 ⟨rfl, hb3⟩
          have B3 := below_step B2 hb3 B2.size
          have o3 : SmO _ w.heap.size _ S := o2.below hb3
          obtain ⟨A2, c2, he, _, hrow⟩ := sm_row o3
          cases he
          obtain ⟨g2, he, _, _, k0, k1, kf, _⟩ := hrow i hi
          cases he
          clear ix B2 o2 e2 hb3 hrow
          cases ha : amtB ((S.getD i sm0).2 + x)
          · rw [ha, if_neg (by decide)] at hg2
            have HG2 := Lib.hid hg2
            have ad := fun w => add_bad (S.getD i sm0).2 x w (by rw [ha]; simp)
            clear ha hg2 KEY hoki
            generalize (S.getD i sm0).2 = y at *
            generalize (S.getD i sm0).1 = M at *
            go_wp2_with (fail)
            refine (ad _).mono ?_
            rintro e w4 ⟨rfl, hb4⟩
            have B4 := below_step B3 hb4 B3.size
            have o4 : SmO _ w.heap.size _ S := o3.below hb4
            obtain ⟨A2, c2, he, _, hrow⟩ := sm_row o4
            cases he
            obtain ⟨g2, he, _, _, l0, l1, lf, _⟩ := hrow i hi
            cases he
            have B5 := B4.setCell (p := ⟨g, i * 2 + 1, none⟩) (by show w.heap.size ≤ g; omega) (.int .i64 0)
            clear hrow B3 o3 hb4 ad k0 k1 kf
            go_wp2
            go_ret2
            exact sumsP_err HG2.out.symm B5
          · rw [ha, if_pos rfl] at hg2
            have HG2 := Lib.hid hg2
            have ad := fun w => add_ok (S.getD i sm0).2 x w (by rw [hoki, VO.out]; rfl) ha
            have HO2 := Lib.hid (KEY.out ha)
            have HL : Hid (∀ q : ByteArray × Int, (S.set i q).length = S.length) := Lib.hid (fun q => List.length_set)
            clear ha hg2 KEY hoki
            generalize hy : (S.getD i sm0).2 = y at *
            generalize hM : (S.getD i sm0).1 = M at *
            have HY := Lib.hid hy
            have HMM := Lib.hid hM
            clear hy hM
            go_wp2_with (fail)
            refine (ad _).mono ?_
            rintro e w4 ⟨rfl, hb4⟩
            have B4 := below_step B3 hb4 B3.size
            have o4 : SmO _ w.heap.size _ S := o3.below hb4
            obtain ⟨A2, c2, he, _, hrow⟩ := sm_row o4
            cases he
            obtain ⟨g2, he, _, _, l0, l1, lf, lset⟩ := hrow i hi
            cases he
            rw [HY.out] at l1
            rw [HMM.out] at l0 lset
            have B5 := B4.setCell (p := ⟨g, i * 2 + 1, none⟩) (by show w.heap.size ≤ g; omega) (.int .i64 (y + x))
            have o5 := lset (y + x)
            clear hrow B3 o3 hb4 ad k0 k1 kf lset
            go_wp2
            go_roundw
            case rel => exact ⟨S.set i (M, y + x), k + 1, by omega, by rw [HL.out]; omega, HO2.out, by go_num, o5, HG2, B5⟩
            case measure => simp [intOf]; omega
      · rw [if_neg hv] at hg
        have tv : (ve != 0) = true := by simpa using hv
        have HG := Lib.hid hg
        clear hv hg
        go_wp2
        go_ret2
        exact sumsP_err HG.out.symm B2
    · obtain rfl : k = n := by omega
      have hg := HG.out
      rw [List.drop_of_length_le (by rw [els_len]; omega), sms_nil] at hg
      have HG := Lib.hid hg
      clear hg
      go_wp2
      go_ret2
      exact sumsP_ok HG.out.symm ho hb
end Go.Proofs.YtobdbjmpoefebaaDoor
