/- ElementChecks: whether elements may be in a period with a table, and why they mayn't. -/
import Derived.Test.YtobdbjmpoefebaaDoorEltJ
import Derived.Test.YtobdbjmpoefebaaDoorEltK
namespace Go.Proofs.YtobdbjmpoefebaaDoor
open Go.RowKit Go.Sort
set_option linter.unusedVariables false
set_option linter.unusedSimpArgs false

/-- the error that is wanted, when the first k were looked at -/
def wnt (n : Nat) (ch : Nat → Int) (k : Nat) : Int := if 32 < n then 2 else firstE ch k
theorem wnt_succ (n : Nat) (ch : Nat → Int) (k : Nat) : wnt n ch (k + 1) = if wnt n ch k = 0 then ch k else wnt n ch k := by
  unfold wnt
  by_cases h : 32 < n
  · rw [if_pos h, if_pos h, if_neg (by decide)]
  · rw [if_neg h, if_neg h]
    rfl
set_option maxHeartbeats 4000000 in
set_option maxRecDepth 100000 in
theorem wElementChecks (T : TB) (A : Option Addr) (n c : Nat) (E : Nat → EB) (w : World) (htab : Tab w) (hK : KinM w T.AK T.nK T.K) (hnK : T.nK ≤ 9223372036854775807) (hr : ElM w A n E) (hn : n ≤ 9223372036854775807 ∧ n ≤ c) (hf : ∀ i, i < n → (E i).N.size ≤ 140737488355328) :
    Calls Tryd.prog 5 #[T.v, .slice A n c] w fun e w' => e = .returned (.bool true) ∧ Below w.heap.size w w' := by
  have hN : ∀ i, i < n → (E i).N.size ≤ 281474976710656 := fun i hi => by have := hf i hi; omega
  have ck := fun N a u W q hh => check_el T N a u W q hnK hh
  have kn := fun N W q hh => kind_any T N W q hnK hh
  have ca := fun (hn2 : n ≤ 100000) W q q2 => checkall_el T A n c E W q q2 hnK hn2 hN
  have HDEF : Hid (∀ e : EB, chkE T e = if knE T.K e.N T.nK = 0 then valE e.A e.U else knE T.K e.N T.nK) := Lib.hid fun e => rfl
  have HKC : Hid (∀ N, knE T.K N T.nK = 0 ∨ knE T.K N T.nK = 110) := Lib.hid fun N => knE_cases T.K N T.nK
  generalize hch : chkE T = ch at *
  generalize hkx : knE T.K = kx at *
  clear hch hkx
  have HN := Lib.hid hN
  have HR := Lib.hid hr
  have HK := Lib.hid hK
  clear hN hr hK hf
  obtain ⟨hn, _⟩ := hn
  obtain ⟨AS, nS, cS, AC, nC, cC, AK, nK, cK, L, W0, S, C, K⟩ := T
  have F0 := five_new w (.slice AS nS cS) (.slice AC nC cC) (.slice AK nK cK) (.int .i64 L) (.int .i64 W0) 26
  have b0 := below_new w (.cells #[.slice AS nS cS, .slice AC nC cC, .slice AK nK cK, .int .i64 L, .int .i64 W0] 26)
  have ck : ∀ N a u (W : World), KinM W AK nK K → N.size ≤ 281474976710656 → Calls Tryd.prog 23 #[.agg #[.slice AS nS cS, .slice AC nC cC, .slice AK nK cK, .int .i64 L, .int .i64 W0], .agg #[.string N, .int .i64 a, .int .i64 u]] W fun e w' => e = .returned (.int .i64 (ch ⟨N, a, u⟩)) ∧ Below W.heap.size W w' := ck
  have kn : ∀ N (W : World), KinM W AK nK K → N.size ≤ 281474976710656 → Calls Tryd.prog 24 #[.agg #[.slice AS nS cS, .slice AC nC cC, .slice AK nK cK, .int .i64 L, .int .i64 W0], .string N] W (KindP W (kx N nK)) := kn
  have ca : n ≤ 100000 → ∀ (W : World), KinM W AK nK K → ElM W A n E → Calls Tryd.prog 25 #[.agg #[.slice AS nS cS, .slice AC nC cC, .slice AK nK cK, .int .i64 L, .int .i64 W0], .slice A n c] W fun e w' => e = .returned (.int .i64 (wnt n (fun i => ch (E i)) n)) ∧ Below W.heap.size W w' := ca
  have HK : Hid (KinM w AK nK K) := HK
  have HDEF : Hid (∀ e : EB, ch e = if kx e.N nK = 0 then valE e.A e.U else kx e.N nK) := HDEF
  have HKC : Hid (∀ N, kx N nK = 0 ∨ kx N nK = 110) := HKC
  have hnK : nK ≤ 9223372036854775807 := hnK
  have T0 := htab.below b0
  have wo := fun W h => worths_any W h
  show Calls Tryd.prog 5 #[.agg #[.slice AS nS cS, .slice AC nC cC, .slice AK nK cK, .int .i64 L, .int .i64 W0], .slice A n c] w _
  by_cases h60 : 60 < n
  · have t1 : (60 : Int) < n := by omega
    clear ck kn ca
    go_enter Tryd.func5, Tryd.ntmps5
    go_wp2_with (fail)
    generalize w.alloc (.cells #[.slice AS nS cS, .slice AC nC cC, .slice AK nK cK, .int .i64 L, .int .i64 W0] 26) = w1 at *
    refine (wo _ T0).mono ?_
    rintro e w2 ⟨rfl, hb2⟩
    go_wp2
    go_ret
    exact ⟨rfl, below_step b0 hb2 b0.size⟩
  have t1 : ¬ (60 : Int) < n := by omega
  have s1 : decide ((60 : Int) < n) = false := by rw [decide_eq_false_iff_not]; exact t1
  by_cases h61 : 60 < nK
  · have t2 : (60 : Int) < nK := by omega
    clear ck kn ca
    go_enter Tryd.func5, Tryd.ntmps5
    go_wp2_with (fail)
    generalize w.alloc (.cells #[.slice AS nS cS, .slice AC nC cC, .slice AK nK cK, .int .i64 L, .int .i64 W0] 26) = w1 at *
    refine (wo _ T0).mono ?_
    rintro e w2 ⟨rfl, hb2⟩
    have F2 := F0.below hb2
    have y2 : w2.cell? ⟨w.heap.size, 2, none⟩ = some (.slice AK nK cK) := F2.cell (q := 2) (by omega)
    go_wp2
    go_ret
    exact ⟨rfl, below_step b0 hb2 b0.size⟩
  have t2 : ¬ (60 : Int) < nK := by omega
  have s2 : decide ((60 : Int) < nK) = false := by rw [decide_eq_false_iff_not]; exact t2
  have ca := ca (by omega)
  have HW0 : Hid (wnt n (fun i => ch (E i)) 0 = if 32 < n then 2 else 0) := Lib.hid rfl
  have HWS := Lib.hid (wnt_succ n (fun i => ch (E i)))
  generalize hwn : wnt n (fun i => ch (E i)) = wn at *
  have main : ∀ w2 : World, RowF w2 w.heap.size 26 5 (five (.slice AS nS cS) (.slice AC nC cC) (.slice AK nK cK) (.int .i64 L) (.int .i64 W0)) → Below w.heap.size w w2 → True := fun _ _ _ => trivial
  clear hwn main htab h60 h61
  by_cases h32 : 32 < n
  · have t3 : (32 : Int) < n := by omega
    have hw0 := HW0.out
    rw [if_pos h32] at hw0
    have HW := Lib.hid hw0
    clear hw0 HW0 h32
    go_enter Tryd.func5, Tryd.ntmps5
    go_wp2_with (fail)
    generalize w.alloc (.cells #[.slice AS nS cS, .slice AC nC cC, .slice AK nK cK, .int .i64 L, .int .i64 W0] 26) = w1 at *
    refine (wo _ T0).mono ?_
    rintro e w2 ⟨rfl, hb2⟩
    have F2 := F0.below hb2
    have B2 := below_step b0 hb2 b0.size
    have y2 : w2.cell? ⟨w.heap.size, 2, none⟩ = some (.slice AK nK cK) := F2.cell (q := 2) (by omega)
    clear T0 wo F0 b0 hb2
    go_wp2
    go_loopw [5, 29] (fun v i W => ∃ k : Nat, k ≤ n ∧ i = .int .i64 k ∧ (∃ x : Int, v = .int .i64 x ∧ Hid (x = wn k)) ∧ RowF W w.heap.size 26 5 (five (.slice AS nS cS) (.slice AC nC cC) (.slice AK nK cK) (.int .i64 L) (.int .i64 W0)) ∧ Below w.heap.size w W) (fun _ i _ => n - (intOf i).toNat)
    case atStart => exact ⟨0, Nat.zero_le _, rfl, ⟨_, rfl, Lib.hid HW.out.symm⟩, F2, B2⟩
    case round =>
      obtain ⟨k, hk, rfl, ⟨x, rfl, HX⟩, F, Bw⟩ := hrel
      by_cases hlt : k < n
      · obtain ⟨b, o, rfl, hc⟩ := HR.out (by omega)
        obtain ⟨c0, c1, c2⟩ := hc k hlt
        have d0 := cell_later Bw c0
        have d1 := cell_later Bw c1
        have d2 := cell_later Bw c2
        have bn := below_new wr (.cells #[.string (E k).N, .int .i64 (E k).A, .int .i64 (E k).U] 45)
        have X0 := trip_new wr (.string (E k).N) (.int .i64 (E k).A) (.int .i64 (E k).U) 45
        have F1 := F.below bn
        have B1 := below_step Bw bn Bw.size
        have hz := HN.out k hlt
        have cc := ck (E k).N (E k).A (E k).U
        have kc := kn (E k).N
        have va := fun W => value_any (E k).N (E k).A (E k).U W
        have hws : wn (k + 1) = if wn k = 0 then ch (E k) else wn k := HWS.out k
        have hdef := HDEF.out (E k)
        have hkc := HKC.out (E k).N
        have K1 := HK.out.below B1
        obtain ⟨v, hvE, hvc⟩ : ∃ v, ch (E k) = v ∧ ch ⟨(E k).N, (E k).A, (E k).U⟩ = v := ⟨_, rfl, rfl⟩
        rw [hvc] at cc
        rw [hvE] at hws hdef
        have HDK := Lib.hid hdef
        have HWK := Lib.hid hws
        have HKK := Lib.hid hkc
        clear c0 c1 c2 hc bn F Bw hvE hvc hdef hws hkc
        generalize valE (E k).A (E k).U = ve at *
        generalize valV (E k).A (E k).U = vv at *
        generalize kx (E k).N nK = ky at *
        generalize (E k).N = N at *
        generalize (E k).A = a at *
        generalize (E k).U = u at *
        have ta0 : (wr.alloc (.cells #[.string N, .int .i64 a, .int .i64 u] 45)).cell? ⟨w.heap.size, 0, none⟩ = some (.slice AS nS cS) := F1.cell (q := 0) (by omega)
        have ta1 : (wr.alloc (.cells #[.string N, .int .i64 a, .int .i64 u] 45)).cell? ⟨w.heap.size, 1, none⟩ = some (.slice AC nC cC) := F1.cell (q := 1) (by omega)
        have ta2 : (wr.alloc (.cells #[.string N, .int .i64 a, .int .i64 u] 45)).cell? ⟨w.heap.size, 2, none⟩ = some (.slice AK nK cK) := F1.cell (q := 2) (by omega)
        have ta3 : (wr.alloc (.cells #[.string N, .int .i64 a, .int .i64 u] 45)).cell? ⟨w.heap.size, 3, none⟩ = some (.int .i64 L) := F1.cell (q := 3) (by omega)
        have ta4 : (wr.alloc (.cells #[.string N, .int .i64 a, .int .i64 u] 45)).cell? ⟨w.heap.size, 4, none⟩ = some (.int .i64 W0) := F1.cell (q := 4) (by omega)
        have x0 : (wr.alloc (.cells #[.string N, .int .i64 a, .int .i64 u] 45)).cell? ⟨wr.heap.size, 0, none⟩ = some (.string N) := X0.cell (q := 0) (by omega)
        have x1 : (wr.alloc (.cells #[.string N, .int .i64 a, .int .i64 u] 45)).cell? ⟨wr.heap.size, 1, none⟩ = some (.int .i64 a) := X0.cell (q := 1) (by omega)
        have x2 : (wr.alloc (.cells #[.string N, .int .i64 a, .int .i64 u] 45)).cell? ⟨wr.heap.size, 2, none⟩ = some (.int .i64 u) := X0.cell (q := 2) (by omega)
        go_wp2_with (fail)
        generalize wr.alloc (.cells #[.string N, .int .i64 a, .int .i64 u] 45) = w3 at *
        generalize wr.heap.size = p at *
        have hp : p < w3.heap.size := X0.lt
        refine (cc _ K1 hz).mono ?_
        rintro e w4 ⟨rfl, hb4⟩
        have B4 := below_step B1 hb4 B1.size
        have F4 := F1.below hb4
        have X4 := X0.below hb4
        have K4 := K1.below hb4
        clear ta0 ta1 ta2 ta3 ta4 x0 x1 x2 d0 d1 d2 B1 F1 X0 K1 hb4 cc hp
        have x0 : w4.cell? ⟨p, 0, none⟩ = some (.string N) := X4.cell (q := 0) (by omega)
        have x1 : w4.cell? ⟨p, 1, none⟩ = some (.int .i64 a) := X4.cell (q := 1) (by omega)
        have x2 : w4.cell? ⟨p, 2, none⟩ = some (.int .i64 u) := X4.cell (q := 2) (by omega)
        go_wp2_with (fail)
        refine (va _).mono ?_
        rintro e w5 ⟨rfl, hb5⟩
        have B5 := below_step B4 hb5 B4.size
        have F5 := F4.below hb5
        have X5 := X4.below hb5
        have K5 := K4.below hb5
        clear x0 x1 x2 B4 F4 X4 K4 hb5 va
        have x0 : w5.cell? ⟨p, 0, none⟩ = some (.string N) := X5.cell (q := 0) (by omega)
        have x1 : w5.cell? ⟨p, 1, none⟩ = some (.int .i64 a) := X5.cell (q := 1) (by omega)
        have x2 : w5.cell? ⟨p, 2, none⟩ = some (.int .i64 u) := X5.cell (q := 2) (by omega)
        have ta0 : w5.cell? ⟨w.heap.size, 0, none⟩ = some (.slice AS nS cS) := F5.cell (q := 0) (by omega)
        have ta1 : w5.cell? ⟨w.heap.size, 1, none⟩ = some (.slice AC nC cC) := F5.cell (q := 1) (by omega)
        have ta2 : w5.cell? ⟨w.heap.size, 2, none⟩ = some (.slice AK nK cK) := F5.cell (q := 2) (by omega)
        have ta3 : w5.cell? ⟨w.heap.size, 3, none⟩ = some (.int .i64 L) := F5.cell (q := 3) (by omega)
        have ta4 : w5.cell? ⟨w.heap.size, 4, none⟩ = some (.int .i64 W0) := F5.cell (q := 4) (by omega)
        go_wp2_with (fail)
        refine (kc _ K5 hz).mono ?_
        rintro e w6 ⟨M, mc, mt, ms, rfl, hb6⟩
        have B6 := below_step B5 hb6 B5.size
        have F6 := F5.below hb6
        have b7 := below_new w6 (.cells #[.string M, .int .i64 mc, .int .i64 mt, .int .i64 ms] 53)
        have B7 := below_step B6 b7 B6.size
        have F7 := F6.below b7
        clear x0 x1 x2 ta0 ta1 ta2 ta3 ta4 B5 F5 X5 K5 hb6 kc b7 B6 F6
        have hdef := HDK.out
        have hws := HWK.out
        have hkc := HKK.out
        clear HDK HWK HKK
        rcases hkc with hky | hky
        · subst hky
          rw [if_pos rfl] at hdef
          have hdef : ve = v := hdef.symm
          subst hdef
          have tv : (ve != ve) = false := by simp
          by_cases hx : x = 0
          · have tx : (x == 0) = true := by simpa using hx
            have HX2 : Hid (ve = wn (k + 1)) := Lib.hid (by rw [hws, if_pos (HX.out.symm.trans hx)])
            clear hx hws HX
            go_wp2
            go_roundw
            case rel => exact ⟨k + 1, by omega, by go_num, ⟨_, rfl, HX2⟩, F7, B7⟩
            case measure => first | omega | (simp [intOf]; omega)
          · have tx : (x == 0) = false := by simpa using hx
            have HX2 : Hid (x = wn (k + 1)) := Lib.hid (by rw [hws, if_neg (fun q => hx (HX.out.trans q))]; exact HX.out)
            clear hx hws HX
            go_wp2
            go_roundw
            case rel => exact ⟨k + 1, by omega, by go_num, ⟨_, rfl, HX2⟩, F7, B7⟩
            case measure => first | omega | (simp [intOf]; omega)
        · subst hky
          rw [if_neg (by decide)] at hdef
          subst hdef
          by_cases hx : x = 0
          · have tx : (x == 0) = true := by simpa using hx
            have HX2 : Hid (110 = wn (k + 1)) := Lib.hid (by rw [hws, if_pos (HX.out.symm.trans hx)])
            clear hx hws HX
            go_wp2
            go_roundw
            case rel => exact ⟨k + 1, by omega, by go_num, ⟨_, rfl, HX2⟩, F7, B7⟩
            case measure => first | omega | (simp [intOf]; omega)
          · have tx : (x == 0) = false := by simpa using hx
            have HX2 : Hid (x = wn (k + 1)) := Lib.hid (by rw [hws, if_neg (fun q => hx (HX.out.trans q))]; exact HX.out)
            clear hx hws HX
            go_wp2
            go_roundw
            case rel => exact ⟨k + 1, by omega, by go_num, ⟨_, rfl, HX2⟩, F7, B7⟩
            case measure => first | omega | (simp [intOf]; omega)
      · have hkn : n = k := by omega
        subst hkn
        have hxn := HX.out
        have ca := ca wr (HK.out.below Bw) (HR.out.below Bw)
        rw [← hxn] at ca
        have tt : (x == x) = true := by simp
        clear hxn HX HWS HW HDEF HKC HN HR HK ck kn
        have ta0 : wr.cell? ⟨w.heap.size, 0, none⟩ = some (.slice AS nS cS) := F.cell (q := 0) (by omega)
        have ta1 : wr.cell? ⟨w.heap.size, 1, none⟩ = some (.slice AC nC cC) := F.cell (q := 1) (by omega)
        have ta2 : wr.cell? ⟨w.heap.size, 2, none⟩ = some (.slice AK nK cK) := F.cell (q := 2) (by omega)
        have ta3 : wr.cell? ⟨w.heap.size, 3, none⟩ = some (.int .i64 L) := F.cell (q := 3) (by omega)
        have ta4 : wr.cell? ⟨w.heap.size, 4, none⟩ = some (.int .i64 W0) := F.cell (q := 4) (by omega)
        go_wp2_with (fail)
        refine ca.mono ?_
        rintro e w9 ⟨rfl, hb9⟩
        go_wp2
        go_ret
        exact ⟨rfl, below_step Bw hb9 Bw.size⟩
  · have t3 : ¬ (32 : Int) < n := by omega
    have s3 : decide ((32 : Int) < n) = false := by rw [decide_eq_false_iff_not]; exact t3
    have hw0 := HW0.out
    rw [if_neg h32] at hw0
    have HW := Lib.hid hw0
    clear hw0 HW0 h32
    go_enter Tryd.func5, Tryd.ntmps5
    go_wp2_with (fail)
    generalize w.alloc (.cells #[.slice AS nS cS, .slice AC nC cC, .slice AK nK cK, .int .i64 L, .int .i64 W0] 26) = w1 at *
    refine (wo _ T0).mono ?_
    rintro e w2 ⟨rfl, hb2⟩
    have F2 := F0.below hb2
    have B2 := below_step b0 hb2 b0.size
    have y2 : w2.cell? ⟨w.heap.size, 2, none⟩ = some (.slice AK nK cK) := F2.cell (q := 2) (by omega)
    clear T0 wo F0 b0 hb2
    go_wp2
    go_loopw [5, 29] (fun v i W => ∃ k : Nat, k ≤ n ∧ i = .int .i64 k ∧ (∃ x : Int, v = .int .i64 x ∧ Hid (x = wn k)) ∧ RowF W w.heap.size 26 5 (five (.slice AS nS cS) (.slice AC nC cC) (.slice AK nK cK) (.int .i64 L) (.int .i64 W0)) ∧ Below w.heap.size w W) (fun _ i _ => n - (intOf i).toNat)
    case atStart => exact ⟨0, Nat.zero_le _, rfl, ⟨_, rfl, Lib.hid HW.out.symm⟩, F2, B2⟩
    case round =>
      obtain ⟨k, hk, rfl, ⟨x, rfl, HX⟩, F, Bw⟩ := hrel
      by_cases hlt : k < n
      · obtain ⟨b, o, rfl, hc⟩ := HR.out (by omega)
        obtain ⟨c0, c1, c2⟩ := hc k hlt
        have d0 := cell_later Bw c0
        have d1 := cell_later Bw c1
        have d2 := cell_later Bw c2
        have bn := below_new wr (.cells #[.string (E k).N, .int .i64 (E k).A, .int .i64 (E k).U] 45)
        have X0 := trip_new wr (.string (E k).N) (.int .i64 (E k).A) (.int .i64 (E k).U) 45
        have F1 := F.below bn
        have B1 := below_step Bw bn Bw.size
        have hz := HN.out k hlt
        have cc := ck (E k).N (E k).A (E k).U
        have kc := kn (E k).N
        have va := fun W => value_any (E k).N (E k).A (E k).U W
        have hws : wn (k + 1) = if wn k = 0 then ch (E k) else wn k := HWS.out k
        have hdef := HDEF.out (E k)
        have hkc := HKC.out (E k).N
        have K1 := HK.out.below B1
        obtain ⟨v, hvE, hvc⟩ : ∃ v, ch (E k) = v ∧ ch ⟨(E k).N, (E k).A, (E k).U⟩ = v := ⟨_, rfl, rfl⟩
        rw [hvc] at cc
        rw [hvE] at hws hdef
        have HDK := Lib.hid hdef
        have HWK := Lib.hid hws
        have HKK := Lib.hid hkc
        clear c0 c1 c2 hc bn F Bw hvE hvc hdef hws hkc
        generalize valE (E k).A (E k).U = ve at *
        generalize valV (E k).A (E k).U = vv at *
        generalize kx (E k).N nK = ky at *
        generalize (E k).N = N at *
        generalize (E k).A = a at *
        generalize (E k).U = u at *
        have ta0 : (wr.alloc (.cells #[.string N, .int .i64 a, .int .i64 u] 45)).cell? ⟨w.heap.size, 0, none⟩ = some (.slice AS nS cS) := F1.cell (q := 0) (by omega)
        have ta1 : (wr.alloc (.cells #[.string N, .int .i64 a, .int .i64 u] 45)).cell? ⟨w.heap.size, 1, none⟩ = some (.slice AC nC cC) := F1.cell (q := 1) (by omega)
        have ta2 : (wr.alloc (.cells #[.string N, .int .i64 a, .int .i64 u] 45)).cell? ⟨w.heap.size, 2, none⟩ = some (.slice AK nK cK) := F1.cell (q := 2) (by omega)
        have ta3 : (wr.alloc (.cells #[.string N, .int .i64 a, .int .i64 u] 45)).cell? ⟨w.heap.size, 3, none⟩ = some (.int .i64 L) := F1.cell (q := 3) (by omega)
        have ta4 : (wr.alloc (.cells #[.string N, .int .i64 a, .int .i64 u] 45)).cell? ⟨w.heap.size, 4, none⟩ = some (.int .i64 W0) := F1.cell (q := 4) (by omega)
        have x0 : (wr.alloc (.cells #[.string N, .int .i64 a, .int .i64 u] 45)).cell? ⟨wr.heap.size, 0, none⟩ = some (.string N) := X0.cell (q := 0) (by omega)
        have x1 : (wr.alloc (.cells #[.string N, .int .i64 a, .int .i64 u] 45)).cell? ⟨wr.heap.size, 1, none⟩ = some (.int .i64 a) := X0.cell (q := 1) (by omega)
        have x2 : (wr.alloc (.cells #[.string N, .int .i64 a, .int .i64 u] 45)).cell? ⟨wr.heap.size, 2, none⟩ = some (.int .i64 u) := X0.cell (q := 2) (by omega)
        go_wp2_with (fail)
        generalize wr.alloc (.cells #[.string N, .int .i64 a, .int .i64 u] 45) = w3 at *
        generalize wr.heap.size = p at *
        have hp : p < w3.heap.size := X0.lt
        refine (cc _ K1 hz).mono ?_
        rintro e w4 ⟨rfl, hb4⟩
        have B4 := below_step B1 hb4 B1.size
        have F4 := F1.below hb4
        have X4 := X0.below hb4
        have K4 := K1.below hb4
        clear ta0 ta1 ta2 ta3 ta4 x0 x1 x2 d0 d1 d2 B1 F1 X0 K1 hb4 cc hp
        have x0 : w4.cell? ⟨p, 0, none⟩ = some (.string N) := X4.cell (q := 0) (by omega)
        have x1 : w4.cell? ⟨p, 1, none⟩ = some (.int .i64 a) := X4.cell (q := 1) (by omega)
        have x2 : w4.cell? ⟨p, 2, none⟩ = some (.int .i64 u) := X4.cell (q := 2) (by omega)
        go_wp2_with (fail)
        refine (va _).mono ?_
        rintro e w5 ⟨rfl, hb5⟩
        have B5 := below_step B4 hb5 B4.size
        have F5 := F4.below hb5
        have X5 := X4.below hb5
        have K5 := K4.below hb5
        clear x0 x1 x2 B4 F4 X4 K4 hb5 va
        have x0 : w5.cell? ⟨p, 0, none⟩ = some (.string N) := X5.cell (q := 0) (by omega)
        have x1 : w5.cell? ⟨p, 1, none⟩ = some (.int .i64 a) := X5.cell (q := 1) (by omega)
        have x2 : w5.cell? ⟨p, 2, none⟩ = some (.int .i64 u) := X5.cell (q := 2) (by omega)
        have ta0 : w5.cell? ⟨w.heap.size, 0, none⟩ = some (.slice AS nS cS) := F5.cell (q := 0) (by omega)
        have ta1 : w5.cell? ⟨w.heap.size, 1, none⟩ = some (.slice AC nC cC) := F5.cell (q := 1) (by omega)
        have ta2 : w5.cell? ⟨w.heap.size, 2, none⟩ = some (.slice AK nK cK) := F5.cell (q := 2) (by omega)
        have ta3 : w5.cell? ⟨w.heap.size, 3, none⟩ = some (.int .i64 L) := F5.cell (q := 3) (by omega)
        have ta4 : w5.cell? ⟨w.heap.size, 4, none⟩ = some (.int .i64 W0) := F5.cell (q := 4) (by omega)
        go_wp2_with (fail)
        refine (kc _ K5 hz).mono ?_
        rintro e w6 ⟨M, mc, mt, ms, rfl, hb6⟩
        have B6 := below_step B5 hb6 B5.size
        have F6 := F5.below hb6
        have b7 := below_new w6 (.cells #[.string M, .int .i64 mc, .int .i64 mt, .int .i64 ms] 53)
        have B7 := below_step B6 b7 B6.size
        have F7 := F6.below b7
        clear x0 x1 x2 ta0 ta1 ta2 ta3 ta4 B5 F5 X5 K5 hb6 kc b7 B6 F6
        have hdef := HDK.out
        have hws := HWK.out
        have hkc := HKK.out
        clear HDK HWK HKK
        rcases hkc with hky | hky
        · subst hky
          rw [if_pos rfl] at hdef
          have hdef : ve = v := hdef.symm
          subst hdef
          have tv : (ve != ve) = false := by simp
          by_cases hx : x = 0
          · have tx : (x == 0) = true := by simpa using hx
            have HX2 : Hid (ve = wn (k + 1)) := Lib.hid (by rw [hws, if_pos (HX.out.symm.trans hx)])
            clear hx hws HX
            go_wp2
            go_roundw
            case rel => exact ⟨k + 1, by omega, by go_num, ⟨_, rfl, HX2⟩, F7, B7⟩
            case measure => first | omega | (simp [intOf]; omega)
          · have tx : (x == 0) = false := by simpa using hx
            have HX2 : Hid (x = wn (k + 1)) := Lib.hid (by rw [hws, if_neg (fun q => hx (HX.out.trans q))]; exact HX.out)
            clear hx hws HX
            go_wp2
            go_roundw
            case rel => exact ⟨k + 1, by omega, by go_num, ⟨_, rfl, HX2⟩, F7, B7⟩
            case measure => first | omega | (simp [intOf]; omega)
        · subst hky
          rw [if_neg (by decide)] at hdef
          subst hdef
          by_cases hx : x = 0
          · have tx : (x == 0) = true := by simpa using hx
            have HX2 : Hid (110 = wn (k + 1)) := Lib.hid (by rw [hws, if_pos (HX.out.symm.trans hx)])
            clear hx hws HX
            go_wp2
            go_roundw
            case rel => exact ⟨k + 1, by omega, by go_num, ⟨_, rfl, HX2⟩, F7, B7⟩
            case measure => first | omega | (simp [intOf]; omega)
          · have tx : (x == 0) = false := by simpa using hx
            have HX2 : Hid (x = wn (k + 1)) := Lib.hid (by rw [hws, if_neg (fun q => hx (HX.out.trans q))]; exact HX.out)
            clear hx hws HX
            go_wp2
            go_roundw
            case rel => exact ⟨k + 1, by omega, by go_num, ⟨_, rfl, HX2⟩, F7, B7⟩
            case measure => first | omega | (simp [intOf]; omega)
      · have hkn : n = k := by omega
        subst hkn
        have hxn := HX.out
        have ca := ca wr (HK.out.below Bw) (HR.out.below Bw)
        rw [← hxn] at ca
        have tt : (x == x) = true := by simp
        clear hxn HX HWS HW HDEF HKC HN HR HK ck kn
        have ta0 : wr.cell? ⟨w.heap.size, 0, none⟩ = some (.slice AS nS cS) := F.cell (q := 0) (by omega)
        have ta1 : wr.cell? ⟨w.heap.size, 1, none⟩ = some (.slice AC nC cC) := F.cell (q := 1) (by omega)
        have ta2 : wr.cell? ⟨w.heap.size, 2, none⟩ = some (.slice AK nK cK) := F.cell (q := 2) (by omega)
        have ta3 : wr.cell? ⟨w.heap.size, 3, none⟩ = some (.int .i64 L) := F.cell (q := 3) (by omega)
        have ta4 : wr.cell? ⟨w.heap.size, 4, none⟩ = some (.int .i64 W0) := F.cell (q := 4) (by omega)
        go_wp2_with (fail)
        refine ca.mono ?_
        rintro e w9 ⟨rfl, hb9⟩
        go_wp2
        go_ret
        exact ⟨rfl, below_step Bw hb9 Bw.size⟩
end Go.Proofs.YtobdbjmpoefebaaDoor
