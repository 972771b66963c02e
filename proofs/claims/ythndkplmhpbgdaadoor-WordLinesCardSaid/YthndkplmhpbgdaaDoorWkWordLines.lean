/- WordLines: the whole walk. -/
import Derived.Test.YthndkplmhpbgdaaDoorWrdH
namespace Go.Proofs.YthndkplmhpbgdaaDoor
open Go.RowKit
set_option linter.unusedVariables false
set_option linter.unusedSimpArgs false

/-- lines, each with a line feed behind it; lines with a line feed between two -/
def trm (L : List (List UInt8)) : List UInt8 := (L.map (· ++ [10])).flatten
def jnL (L : List (List UInt8)) : List UInt8 := (trm L).dropLast
theorem trm_app (L M : List (List UInt8)) : trm (L ++ M) = trm L ++ trm M := by simp [trm]
theorem trm_one (x : List UInt8) : trm [x] = x ++ [10] := by simp [trm]
theorem jnL_snoc (L : List (List UInt8)) (x : List UInt8) : jnL (L ++ [x]) = trm L ++ x := by
  unfold jnL
  rw [trm_app, trm_one, ← List.append_assoc, List.dropLast_concat]
theorem trm_jnL {L : List (List UInt8)} (h : L ≠ []) : trm L = jnL L ++ [10] := by
  rcases List.eq_nil_or_concat L with rfl | ⟨r, x, rfl⟩
  · exact absurd rfl h
  · rw [List.concat_eq_append, jnL_snoc, trm_app, trm_one, List.append_assoc]
def noF (l : List UInt8) : Prop := ∀ c, c ∈ l → c.toNat ≠ 10
/-- what the lines of a text are -/
theorem lnG_is : ∀ (r : List UInt8) (acc : List (List UInt8)) (cur : List UInt8), noF cur → ∃ N, lnG acc cur r = acc ++ N ∧ (∀ y, y ∈ N → noF y) ∧
    ((cur ++ r = [] ∧ N = []) ∨ (N ≠ [] ∧ trm N = cur ++ r) ∨ (∃ M x, N = M ++ [x] ∧ trm M ++ x = cur ++ r ∧ x ≠ []))
  | [], acc, cur, hc => by
    unfold lnG
    cases cur with
    | nil => exact ⟨[], by simp, by simp, .inl ⟨rfl, rfl⟩⟩
    | cons c q =>
      refine ⟨[c :: q], by simp, ?_, .inr (.inr ⟨[], c :: q, rfl, by simp [trm], by simp⟩)⟩
      intro y hy
      simp at hy
      rw [hy]
      exact hc
  | c :: r, acc, cur, hc => by
    unfold lnG
    by_cases h : c.toNat = 10
    · rw [if_pos h]
      have hc10 : c = 10 := UInt8.toNat_inj.1 h
      obtain ⟨N, e, hN, hcase⟩ := lnG_is r (acc ++ [cur]) [] (by intro x hx; cases hx)
      refine ⟨cur :: N, by rw [e]; simp, ?_, ?_⟩
      · intro y hy
        rcases List.mem_cons.1 hy with rfl | hy
        · exact hc
        · exact hN y hy
      · rcases hcase with ⟨e1, rfl⟩ | ⟨e1, e2⟩ | ⟨M, x, rfl, e2, e3⟩
        · right; left
          rw [List.nil_append] at e1
          rw [e1, trm_one, hc10]
          exact ⟨by simp, rfl⟩
        · right; left
          refine ⟨by simp, ?_⟩
          rw [List.nil_append] at e2
          rw [show cur :: N = [cur] ++ N from rfl, trm_app, trm_one, e2, hc10]
          simp
        · right; right
          refine ⟨cur :: M, x, rfl, ?_, e3⟩
          rw [List.nil_append] at e2
          rw [show cur :: M = [cur] ++ M from rfl, trm_app, trm_one, List.append_assoc, e2, hc10]
          simp
    · rw [if_neg h]
      obtain ⟨N, e, hN, hcase⟩ := lnG_is r acc (cur ++ [c]) (by
        intro x hx
        rcases List.mem_append.1 hx with hx | hx
        · exact hc x hx
        · simp at hx; rw [hx]; exact h)
      exact ⟨N, e, hN, by simpa using hcase⟩
theorem linV_is (l : List UInt8) : (∀ y, y ∈ linV l → noF y) ∧ ((l = [] ∧ linV l = []) ∨ (linV l ≠ [] ∧ jnL (linV l) ++ [10] = l) ∨ (linV l ≠ [] ∧ jnL (linV l) = l ∧ ∃ q c, l = q ++ [c] ∧ c.toNat ≠ 10)) := by
  obtain ⟨N, e, hN, hcase⟩ := lnG_is l [] [] (by intro x hx; cases hx)
  have e' : linV l = N := by unfold linV; rw [e, List.nil_append]
  rw [e']
  refine ⟨hN, ?_⟩
  rw [List.nil_append] at hcase
  rcases hcase with ⟨e1, e2⟩ | ⟨e1, e2⟩ | ⟨M, x, rfl, e2, e3⟩
  · exact .inl ⟨e1, e2⟩
  · exact .inr (.inl ⟨e1, by rw [← trm_jnL e1, e2]⟩)
  · refine .inr (.inr ⟨by simp, by rw [jnL_snoc, e2], ?_⟩)
    rcases List.eq_nil_or_concat x with rfl | ⟨r, c, rfl⟩
    · exact absurd rfl e3
    · rw [List.concat_eq_append] at e2
      refine ⟨trm M ++ r, c, by rw [← e2, List.append_assoc], hN (r.concat c) (List.mem_append_right _ (List.mem_singleton.2 rfl)) c (by simp)⟩
theorem trm_le (L : List (List UInt8)) (i : Nat) : (trm (L.take i)).length ≤ (trm L).length := by
  have : trm L = trm (L.take i) ++ trm (L.drop i) := by rw [← trm_app, List.take_append_drop]
  rw [this, List.length_append]
  omega
theorem take_getD (L : List (List UInt8)) (i : Nat) (h : i < L.length) : L.take (i + 1) = L.take i ++ [L.getD i []] := by
  rw [List.take_succ_eq_append_getElem h]
  simp [List.getD, h]
set_option maxHeartbeats 4000000 in
set_option maxRecDepth 100000 in
theorem wWordLines (s : ByteArray) (w : World) (hs : s.size ≤ 9223372036854775807) : Calls Tryd.prog 7 #[.string s] w fun e w' => e = .returned (.bool true) ∧ Below w.heap.size w w' := by
  by_cases h2000 : 2000 < s.size
  · have g : (2000 : Int) < s.size := by omega
    go_enter Tryd.func7, Tryd.ntmps7
    go_wp2_with (fail)
    refine (reads_any _).mono ?_
    rintro e w1 ⟨rfl, B1⟩
    go_wp2
    go_ret
    exact ⟨rfl, B1⟩
  have g : ¬ (2000 : Int) < s.size := by omega
  have ln := fun w => lines_any s w (by omega)
  obtain ⟨hno, hcase⟩ := linV_is s.data.toList
  rcases Nat.eq_zero_or_pos s.size with h0 | h0
  · have te := toList_none s h0
    have hl : linV s.data.toList = [] := by
      rw [List.length_eq_zero_iff.1 (show s.data.toList.length = 0 by simp [h0])]; rfl
    have HL := Lib.hid hl
    obtain rfl : s = ⟨#[]⟩ := by rw [← data_self s, List.length_eq_zero_iff.1 (show s.data.toList.length = 0 by simp [h0])]
    clear h0 te hl hno hcase g h2000 hs
    go_enter Tryd.func7, Tryd.ntmps7
    go_wp2_with (fail)
    refine (reads_any _).mono ?_
    rintro e w1 ⟨rfl, B1⟩
    go_wp2_with (fail)
    refine (ln _).mono ?_
    rintro e w2 ⟨v, rfl, hr, hb⟩
    have B2 := below_step B1 hb B1.size
    rw [HL.out] at hr
    obtain ⟨A, cc, rfl, _⟩ := rs_row hr
    clear hr
    go_wp2
    go_ret
    exact ⟨rfl, B2⟩
  · have te := toList_some s h0
    have g0 : (0 : Int) < s.size := by omega
    have hd := data_len s
    have hne : linV s.data.toList ≠ [] := by
      rcases hcase with ⟨e, _⟩ | ⟨e, _⟩ | ⟨e, _⟩
      · rw [e] at hd; simp at hd; omega
      · exact e
      · exact e
    have htl : (trm (linV s.data.toList)).length ≤ 2001 := by
      rw [trm_jnL hne, List.length_append]
      rcases hcase with ⟨e, _⟩ | ⟨_, e⟩ | ⟨_, e, _⟩
      · rw [e] at hd; simp at hd; omega
      · have := congrArg List.length e
        rw [List.length_append, hd] at this
        simp at this ⊢
        omega
      · have := congrArg List.length e
        rw [hd] at this
        simp at this ⊢
        omega
    have HLN := Lib.hid hno
    have HCS := Lib.hid hcase
    have HD := Lib.hid hd
    obtain ⟨L, hL⟩ : ∃ L, linV s.data.toList = L := ⟨_, rfl⟩
    rw [hL] at HLN HCS hne htl
    have HL := Lib.hid hL
    have hpos : 0 < L.length := List.length_pos_iff.2 hne
    have hle : ∀ i, (trm (L.take i)).length ≤ 2001 := fun i => Nat.le_trans (trm_le L i) htl
    have HLE := Lib.hid hle
    clear hno hcase hd hL hne htl hle
    have hlast : ∀ i, i < L.length → jnL (L.take (i + 1)) = trm (L.take i) ++ L.getD i [] := fun i hi => by rw [take_getD L i hi, jnL_snoc]
    have HLA := Lib.hid hlast
    clear hlast
    go_enter Tryd.func7, Tryd.ntmps7
    go_wp2_with (fail)
    refine (reads_any _).mono ?_
    rintro e w1 ⟨rfl, B1⟩
    go_wp2_with (fail)
    refine (ln _).mono ?_
    rintro e w2 ⟨v, rfl, hr, hb⟩
    have B2 := below_step B1 hb B1.size
    rw [HL.out] at hr
    obtain ⟨A, cc, rfl, hrow⟩ := rs_row hr
    have HR := Lib.hid hrow
    have hLl : L.length ≤ 9223372036854775807 := hr.2.elim (fun q => by rw [q.2]; omega) (fun ⟨g, cap, cur, hv, hg, hh, hc, hm, _⟩ => by unfold maxLen at hm; omega)
    clear hr hrow hb B1 ln
    go_wp2
    go_loop [4, 22] (fun a i => ∃ j : Nat, j ≤ L.length ∧ i = .int .i64 j ∧ a = .string ⟨(jnL (L.take j)).toArray⟩) (fun _ i => L.length - (intOf i).toNat)
    case atStart => exact ⟨0, Nat.zero_le _, rfl, rfl⟩
    case round =>
      obtain ⟨j, hj, rfl, rfl⟩ := hrel
      by_cases hlt : j < L.length
      · obtain ⟨bb, rfl, _, hcell0⟩ := HR.out j hlt
        have hcell : w2.cell? ⟨bb, j, none⟩ = some (.string ⟨(L.getD j []).toArray⟩) := hcell0
        have hnf : noF (L.getD j []) := HLN.out _ (by simp [List.getD, hlt])
        have hl1 := HLE.out (j + 1)
        rw [take_getD L j hlt, trm_app, trm_one, List.length_append, List.length_append] at hl1
        have hJ := HLA.out j hlt
        have hj0 : j = 0 → jnL (L.take (j + 1)) = jnL (L.take j) ++ L.getD j [] := fun e => by rw [hJ, e]; rfl
        have hj1 : j ≠ 0 → jnL (L.take (j + 1)) = jnL (L.take j) ++ [10] ++ L.getD j [] := fun e => by
          rw [hJ, trm_jnL (by intro q; have := congrArg List.length q; rw [List.length_take, List.length_nil] at this; omega)]
        have hpl : (jnL (L.take j)).length ≤ 2001 := by
          have := HLE.out j
          unfold jnL
          rw [List.length_dropLast]
          omega
        have hxl : (L.getD j []).length ≤ 2001 := by omega
        have HJ0 := Lib.hid hj0
        have HJ1 := Lib.hid hj1
        clear hcell0 hl1 hJ hj0 hj1
        generalize jnL (L.take j) = P at *
        generalize L.getD j [] = x at *
        have n1 : ¬ 9223372036854775807 < P.length + 1 := by omega
        have n2 : ¬ 9223372036854775807 < P.length + 1 + x.length := by omega
        have n3 : ¬ 9223372036854775807 < P.length + x.length := by omega
        obtain ⟨X, hX⟩ : ∃ X : ByteArray, X = ⟨x.toArray⟩ := ⟨_, rfl⟩
        have hXs : X.size = x.length := by rw [hX]; show x.toArray.size = _; simp
        have hXb : ∀ k (h : k < X.size), (X[k].toNat : Int) ≠ 10 := fun k h q => by
          have := at_some X k h
          have hd : X.data.toList = x := by rw [hX]
          rw [hd] at this
          have hm : X[k] ∈ x := List.mem_of_getElem? this
          exact hnf _ hm (by omega)
        have HXB := Lib.hid hXb
        have HXS := Lib.hid hXs
        rw [← hX] at hcell
        have HX := Lib.hid hX
        clear hX hXs hXb hnf
        have n2' : ¬ 9223372036854775807 < P.length + 1 + X.size := by rw [HXS.out]; exact n2
        have n3' : ¬ 9223372036854775807 < P.length + X.size := by rw [HXS.out]; exact n3
        have hXsz : X.size ≤ 2001 := by rw [HXS.out]; exact hxl
        by_cases hz : j = 0
        · have HF := Lib.hid (HJ0.out hz)
          have p1 : ¬ (0 : Int) < (j : Int) := by omega
          clear hz
          go_wp2
          go_loop [33] (fun i => ∃ k : Nat, k ≤ X.size ∧ i = .int .i64 k) (fun i => X.size - (intOf i).toNat)
          case atStart => exact ⟨0, Nat.zero_le _, rfl⟩
          case round =>
            obtain ⟨k, hk, rfl⟩ := hrel
            by_cases hlk : k < X.size
            · have t1 : ((X[k].toNat : Int) == 10) = false := by rw [beq_eq_false_iff_ne]; exact HXB.out k hlk
              go_wp2
              go_round
              case rel => exact ⟨k + 1, by omega, by go_num⟩
              case measure => simp [intOf]; omega
            · go_wp2
              go_round
              case rel => exact ⟨j + 1, by omega, by go_num, congrArg Value.string (by rw [HF.out, HX.out, str_app P x])⟩
              case measure => simp [intOf]; omega
        · have HF := Lib.hid (HJ1.out hz)
          have p1 : (0 : Int) < (j : Int) := by omega
          clear hz
          go_wp2
          go_loop [33] (fun i => ∃ k : Nat, k ≤ X.size ∧ i = .int .i64 k) (fun i => X.size - (intOf i).toNat)
          case atStart => exact ⟨0, Nat.zero_le _, rfl⟩
          case round =>
            obtain ⟨k, hk, rfl⟩ := hrel
            by_cases hlk : k < X.size
            · have t1 : ((X[k].toNat : Int) == 10) = false := by rw [beq_eq_false_iff_ne]; exact HXB.out k hlk
              go_wp2
              go_round
              case rel => exact ⟨k + 1, by omega, by go_num⟩
              case measure => simp [intOf]; omega
            · go_wp2
              go_round
              case rel => exact ⟨j + 1, by omega, by go_num, congrArg Value.string (by rw [HF.out, HX.out, show (ByteArray.mk #[10]) = ⟨([10] : List UInt8).toArray⟩ from rfl, str_app P [10], str_app])⟩
              case measure => simp [intOf]; omega
      · obtain rfl : j = L.length := by omega
        rw [List.take_length]
        have hpl : (jnL L).length ≤ 2001 := by
          have := HLE.out L.length
          rw [List.take_length] at this
          unfold jnL
          rw [List.length_dropLast]
          omega
        have n1 : ¬ 9223372036854775807 < (jnL L).length + 1 := by omega
        have p1 : (0 : Int) < (L.length : Int) := by omega
        rcases HCS.out with ⟨_, e⟩ | ⟨_, e⟩ | ⟨_, e, q, c, e2, e3⟩
        · exact absurd p1 (by rw [e]; simp)
        · have hs1 : (⟨(jnL L).toArray⟩ : ByteArray) ++ ⟨#[10]⟩ = s := by
            rw [show (ByteArray.mk #[10]) = ⟨([10] : List UInt8).toArray⟩ from rfl, str_app, e, data_self]
          have hs2 : ¬ jnL L = s.toList := by
            rw [Lib.toList_data]
            intro q
            have := congrArg List.length (q.trans e.symm)
            simp at this
          have hs3 : ((jnL L) == s.toList) = false := by simpa using hs2
          have hq2 : (((⟨(jnL L).toArray⟩ : ByteArray) ++ ⟨#[10]⟩).toList == s.toList) = true := by rw [hs1]; simp
          have HQ2 := Lib.hid hq2
          clear hs1 e hq2
          generalize jnL L = J at *
          go_wp2
          go_ret
          first | exact ⟨rfl, B2⟩ | exact ⟨ret_b HQ2.out, B2⟩
        · have hs1 : (⟨(jnL L).toArray⟩ : ByteArray) = s := by rw [e, data_self]
          have q1 : ∀ W, (binOp .eql 9 (.string s) (.string s)).run Tryd.prog W = .ok (.bool true) W := fun _ => by simp [go_sem]
          have hlk : s.size - 1 < s.size := by omega
          have hlc : s[s.size - 1] = c := by
            have a1 := at_some s (s.size - 1) hlk
            rw [e2] at a1
            have hq : s.size - 1 = q.length := by
              have := HD.out
              rw [e2, List.length_append] at this
              simp at this
              omega
            have a2 : (q ++ [c])[q.length]? = some c := by simp
            rw [← hq] at a2
            exact Option.some.inj (a1.symm.trans a2)
          have t1 : ((s[s.size - 1].toNat : Int) != 10) = true := by rw [hlc]; simp; omega
          have hix : (s.size : Int) - 1 < s.size := by omega
          have hiy : (0 : Int) ≤ (s.size : Int) - 1 := by omega
          have hnat : ((s.size : Int) - 1) = ((s.size - 1 : Nat) : Int) := by omega
          have q3 : ∀ W, (Instr.index 9 (.string s) (.int .i64 ((s.size : Int) - 1))).run Tryd.prog W = .ok (.int .u8 (s[s.size - 1].toNat : Int)) W := fun _ => by
            rw [hnat]
            simp [go_sem, hlk]
          rw [hs1]
          clear hs1 e e2 e3 hlc hnat
          go_wp2
          go_ret
          exact ⟨rfl, B2⟩
end Go.Proofs.YthndkplmhpbgdaaDoor
