/- What table.Kind, element.Check and element.CheckAll answer. -/
import Derived.Test.YtobdbjmpoefebaaDoorEltI
import Derived.Test.YtobdbjmpoefebaaDoorCloB
import Derived.Test.YtobdbjmpoefebaaDoorTabC
namespace Go.Proofs.YtobdbjmpoefebaaDoor
open Go.RowKit
set_option linter.unusedVariables false
set_option linter.unusedSimpArgs false

/-- why there is no such kind -/
def knE (K : Nat → KB) (N : ByteArray) (n : Nat) : Int := if kinI K N n < 0 then 110 else 0
theorem kin_name (K : Nat → KB) (N : ByteArray) (n : Nat) : kinI K N n = -1 ∨ ∃ i : Nat, kinI K N n = i ∧ (K i).N = N := by
  rcases idxN_cases (fun j => decide ((K j).N = N)) n with ⟨h1, _⟩ | ⟨i, hi, h1, h2, _⟩
  · exact .inl h1
  · exact .inr ⟨i, h1, by simpa using h2⟩
theorem knE_cases (K : Nat → KB) (N : ByteArray) (n : Nat) : knE K N n = 0 ∨ knE K N n = 110 := by
  unfold knE
  split
  · exact .inr rfl
  · exact .inl rfl
def KindP (w : World) (x : Int) (e : Ending) (w' : World) : Prop := ∃ M c t s, e = .returned (.tuple #[.agg #[.string M, .int .i64 c, .int .i64 t, .int .i64 s], .int .i64 x]) ∧ Below w.heap.size w w'
set_option maxHeartbeats 2000000 in
set_option maxRecDepth 100000 in
theorem kind_any (T : TB) (N : ByteArray) (w : World) (h : KinM w T.AK T.nK T.K) (hn : T.nK ≤ 9223372036854775807) (hN : N.size ≤ 281474976710656) :
    Calls Tryd.prog 24 #[T.v, .string N] w (KindP w (knE T.K N T.nK)) := by
  obtain ⟨AS, nS, cS, AC, nC, cC, AK, nK, cK, L, R, S, C, K⟩ := T
  dsimp only at h hn ⊢
  have F0 := five_new w (.slice AS nS cS) (.slice AC nC cC) (.slice AK nK cK) (.int .i64 L) (.int .i64 R) 26
  have b0 := below_new w (.cells #[.slice AS nS cS, .slice AC nC cC, .slice AK nK cK, .int .i64 L, .int .i64 R] 26)
  have hsz : (w.alloc (.cells #[.slice AS nS cS, .slice AC nC cC, .slice AK nK cK, .int .i64 L, .int .i64 R] 26)).heap.size = w.heap.size + 1 := by simp
  have Q0 := quad_new (w.alloc (.cells #[.slice AS nS cS, .slice AC nC cC, .slice AK nK cK, .int .i64 L, .int .i64 R] 26)) (.string ⟨#[]⟩) (.int .i64 0) (.int .i64 0) (.int .i64 0) 53
  have b1 := below_new (w.alloc (.cells #[.slice AS nS cS, .slice AC nC cC, .slice AK nK cK, .int .i64 L, .int .i64 R] 26)) (.cells #[.string ⟨#[]⟩, .int .i64 0, .int .i64 0, .int .i64 0] 53)
  rw [hsz] at Q0
  have F1 := F0.below b1
  have B1 := below_step b0 b1 b0.size
  have H1 := h.below B1
  have cn := fun W (q : KinM W AK nK K) => kindno_any W AK AS AC nK cK nS cS nC cC L R K N q hn
  have ib := idx_bd (fun j => decide ((K j).N = N)) nK
  have HI : Hid (kinI K N nK = idxN (fun j => decide ((K j).N = N)) nK) := Lib.hid rfl
  clear F0 b0 b1
  show Calls Tryd.prog 24 #[.agg #[.slice AS nS cS, .slice AC nC cC, .slice AK nK cK, .int .i64 L, .int .i64 R], .string N] w _
  go_enter Tryd.func24, Tryd.ntmps24
  go_wp2_with (fail)
  generalize (w.alloc (.cells #[.slice AS nS cS, .slice AC nC cC, .slice AK nK cK, .int .i64 L, .int .i64 R] 26)).alloc (.cells #[.string ⟨#[]⟩, .int .i64 0, .int .i64 0, .int .i64 0] 53) = w1 at *
  refine (cn _ H1).mono ?_
  rintro e w2 ⟨rfl, hb2⟩
  have B2 := below_step B1 hb2 B1.size
  have F2 := F1.below hb2
  have Q2 := Q0.below hb2
  have hle : w.heap.size ≤ w.heap.size + 1 := by omega
  clear cn F1 Q0 B1
  have f0 := Q2.frozen
  have t2 : w2.cell? ⟨w.heap.size, 2, none⟩ = some (.slice AK nK cK) := F2.cell (q := 2) (by omega)
  have v0 : w2.cell? ⟨w.heap.size + 1, 0, none⟩ = some (.string ⟨#[]⟩) := Q2.cell (q := 0) (by omega)
  have v1 : w2.cell? ⟨w.heap.size + 1, 1, none⟩ = some (.int .i64 0) := Q2.cell (q := 1) (by omega)
  have v2 : w2.cell? ⟨w.heap.size + 1, 2, none⟩ = some (.int .i64 0) := Q2.cell (q := 2) (by omega)
  have v3 : w2.cell? ⟨w.heap.size + 1, 3, none⟩ = some (.int .i64 0) := Q2.cell (q := 3) (by omega)
  by_cases hi : kinI K N nK < 0
  · have e1 : knE K N nK = 110 := by unfold knE; rw [if_pos hi]
    have HE := Lib.hid e1
    clear e1
    generalize kinI K N nK = i at *
    go_wp2
    have rf := (((Q2.set 0 (.string ⟨#[]⟩)).set 1 (.int .i64 0)).set 2 (.int .i64 0)).set 3 (.int .i64 0)
    have y0 : ((((w2.setCell ⟨w.heap.size + 1, 0, none⟩ (.string ⟨#[]⟩)).setCell ⟨w.heap.size + 1, 1, none⟩ (.int .i64 0)).setCell ⟨w.heap.size + 1, 2, none⟩ (.int .i64 0)).setCell ⟨w.heap.size + 1, 3, none⟩ (.int .i64 0)).cell? ⟨w.heap.size + 1, 0, none⟩ = some (.string ⟨#[]⟩) := rf.cell (by omega)
    have y1 : ((((w2.setCell ⟨w.heap.size + 1, 0, none⟩ (.string ⟨#[]⟩)).setCell ⟨w.heap.size + 1, 1, none⟩ (.int .i64 0)).setCell ⟨w.heap.size + 1, 2, none⟩ (.int .i64 0)).setCell ⟨w.heap.size + 1, 3, none⟩ (.int .i64 0)).cell? ⟨w.heap.size + 1, 1, none⟩ = some (.int .i64 0) := rf.cell (by omega)
    have y2 : ((((w2.setCell ⟨w.heap.size + 1, 0, none⟩ (.string ⟨#[]⟩)).setCell ⟨w.heap.size + 1, 1, none⟩ (.int .i64 0)).setCell ⟨w.heap.size + 1, 2, none⟩ (.int .i64 0)).setCell ⟨w.heap.size + 1, 3, none⟩ (.int .i64 0)).cell? ⟨w.heap.size + 1, 2, none⟩ = some (.int .i64 0) := rf.cell (by omega)
    have y3 : ((((w2.setCell ⟨w.heap.size + 1, 0, none⟩ (.string ⟨#[]⟩)).setCell ⟨w.heap.size + 1, 1, none⟩ (.int .i64 0)).setCell ⟨w.heap.size + 1, 2, none⟩ (.int .i64 0)).setCell ⟨w.heap.size + 1, 3, none⟩ (.int .i64 0)).cell? ⟨w.heap.size + 1, 3, none⟩ = some (.int .i64 0) := rf.cell (by omega)
    refine bodyPost_ret (v := .tuple #[.agg #[.string ⟨#[]⟩, .int .i64 0, .int .i64 0, .int .i64 0], .int .i64 110]) (by simp [results, Tryd.results24, go_sem, y0, y1, y2, y3]) rfl ?_
    rw [HE.out]
    exact ⟨_, _, _, _, rfl, (((B2.setCell hle _).setCell hle _).setCell hle _).setCell hle _⟩
  · have e1 : knE K N nK = 0 := by unfold knE; rw [if_neg hi]
    have HE := Lib.hid e1
    have hi2 : kinI K N nK < nK := by rw [HI.out]; exact ib.2
    rw [← HI.out] at ib
    obtain ⟨ib1, ib2⟩ := ib
    obtain ⟨j, hj⟩ : ∃ j : Nat, kinI K N nK = j := ⟨(kinI K N nK).toNat, by omega⟩
    have hjn : j < nK := by omega
    have hname : (K j).N.size ≤ 281474976710656 := by
      rcases kin_name K N nK with q | ⟨i, q1, q2⟩
      · omega
      · have : i = j := by omega
        subst this
        rw [q2]; exact hN
    rw [hj]
    clear e1 HI ib1 ib2 hi hi2 hj
    obtain ⟨b, o, rfl, hc⟩ := h (by omega)
    obtain ⟨c0, c1, c2, c3⟩ := hc j hjn
    have d0 := cell_later B2 c0
    have d1 := cell_later B2 c1
    have d2 := cell_later B2 c2
    have d3 := cell_later B2 c3
    have ok := fun W => ownkind_any (K j).N (K j).c (K j).t (K j).s W hname
    have hj2 : (j : Int) < (nK : Int) := by omega
    clear c0 c1 c2 c3 hc hname
    generalize (K j).N = M at *
    generalize (K j).c = kc at *
    generalize (K j).t = kt at *
    generalize (K j).s = ks at *
    go_wp2_with (fail)
    refine (ok _).mono ?_
    rintro e w3 ⟨rfl, hb3⟩
    have B3 := below_step B2 hb3 B2.size
    have Q3 := Q2.below hb3
    have f3 := Q3.frozen
    have u0 : w3.cell? ⟨w.heap.size + 1, 0, none⟩ = some (.string ⟨#[]⟩) := Q3.cell (q := 0) (by omega)
    have u1 : w3.cell? ⟨w.heap.size + 1, 1, none⟩ = some (.int .i64 0) := Q3.cell (q := 1) (by omega)
    have u2 : w3.cell? ⟨w.heap.size + 1, 2, none⟩ = some (.int .i64 0) := Q3.cell (q := 2) (by omega)
    have u3 : w3.cell? ⟨w.heap.size + 1, 3, none⟩ = some (.int .i64 0) := Q3.cell (q := 3) (by omega)
    clear v0 v1 v2 v3 d0 d1 d2 d3 F2 Q2 B2 hb3 t2 f0
    go_wp2
    have rf := (((Q3.set 0 (.string M)).set 1 (.int .i64 kc)).set 2 (.int .i64 kt)).set 3 (.int .i64 ks)
    have y0 : ((((w3.setCell ⟨w.heap.size + 1, 0, none⟩ (.string M)).setCell ⟨w.heap.size + 1, 1, none⟩ (.int .i64 kc)).setCell ⟨w.heap.size + 1, 2, none⟩ (.int .i64 kt)).setCell ⟨w.heap.size + 1, 3, none⟩ (.int .i64 ks)).cell? ⟨w.heap.size + 1, 0, none⟩ = some (.string M) := rf.cell (by omega)
    have y1 : ((((w3.setCell ⟨w.heap.size + 1, 0, none⟩ (.string M)).setCell ⟨w.heap.size + 1, 1, none⟩ (.int .i64 kc)).setCell ⟨w.heap.size + 1, 2, none⟩ (.int .i64 kt)).setCell ⟨w.heap.size + 1, 3, none⟩ (.int .i64 ks)).cell? ⟨w.heap.size + 1, 1, none⟩ = some (.int .i64 kc) := rf.cell (by omega)
    have y2 : ((((w3.setCell ⟨w.heap.size + 1, 0, none⟩ (.string M)).setCell ⟨w.heap.size + 1, 1, none⟩ (.int .i64 kc)).setCell ⟨w.heap.size + 1, 2, none⟩ (.int .i64 kt)).setCell ⟨w.heap.size + 1, 3, none⟩ (.int .i64 ks)).cell? ⟨w.heap.size + 1, 2, none⟩ = some (.int .i64 kt) := rf.cell (by omega)
    have y3 : ((((w3.setCell ⟨w.heap.size + 1, 0, none⟩ (.string M)).setCell ⟨w.heap.size + 1, 1, none⟩ (.int .i64 kc)).setCell ⟨w.heap.size + 1, 2, none⟩ (.int .i64 kt)).setCell ⟨w.heap.size + 1, 3, none⟩ (.int .i64 ks)).cell? ⟨w.heap.size + 1, 3, none⟩ = some (.int .i64 ks) := rf.cell (by omega)
    refine bodyPost_ret (v := .tuple #[.agg #[.string M, .int .i64 kc, .int .i64 kt, .int .i64 ks], .int .i64 0]) (by simp [results, Tryd.results24, go_sem, y0, y1, y2, y3]) rfl ?_
    rw [HE.out]
    exact ⟨_, _, _, _, rfl, (((B3.setCell hle _).setCell hle _).setCell hle _).setCell hle _⟩
/-- why an element may not be with a table -/
def chkE (T : TB) (e : EB) : Int := if knE T.K e.N T.nK = 0 then valE e.A e.U else knE T.K e.N T.nK
set_option maxHeartbeats 2000000 in
set_option maxRecDepth 100000 in
theorem check_el (T : TB) (N : ByteArray) (a u : Int) (w : World) (h : KinM w T.AK T.nK T.K) (hn : T.nK ≤ 9223372036854775807) (hN : N.size ≤ 281474976710656) :
    Calls Tryd.prog 23 #[T.v, .agg #[.string N, .int .i64 a, .int .i64 u]] w fun e w' => e = .returned (.int .i64 (chkE T ⟨N, a, u⟩)) ∧ Below w.heap.size w w' := by
  have kn := fun W q => kind_any T N W q hn hN
  have va := fun W => value_any N a u W
  have kc := knE_cases T.K N T.nK
  have HC : Hid (chkE T ⟨N, a, u⟩ = if knE T.K N T.nK = 0 then valE a u else knE T.K N T.nK) := Lib.hid rfl
  generalize knE T.K N T.nK = kx at *
  generalize valE a u = vx at *
  generalize valV a u = vv at *
  generalize chkE T ⟨N, a, u⟩ = R at *
  obtain ⟨AS, nS, cS, AC, nC, cC, AK, nK, cK, L, W0, S, C, K⟩ := T
  have F0 := five_new w (.slice AS nS cS) (.slice AC nC cC) (.slice AK nK cK) (.int .i64 L) (.int .i64 W0) 26
  have b0 := below_new w (.cells #[.slice AS nS cS, .slice AC nC cC, .slice AK nK cK, .int .i64 L, .int .i64 W0] 26)
  have hsz : (w.alloc (.cells #[.slice AS nS cS, .slice AC nC cC, .slice AK nK cK, .int .i64 L, .int .i64 W0] 26)).heap.size = w.heap.size + 1 := by simp
  have X0 := trip_new (w.alloc (.cells #[.slice AS nS cS, .slice AC nC cC, .slice AK nK cK, .int .i64 L, .int .i64 W0] 26)) (.string N) (.int .i64 a) (.int .i64 u) 45
  have b1 := below_new (w.alloc (.cells #[.slice AS nS cS, .slice AC nC cC, .slice AK nK cK, .int .i64 L, .int .i64 W0] 26)) (.cells #[.string N, .int .i64 a, .int .i64 u] 45)
  rw [hsz] at X0
  have B1 := below_step b0 b1 b0.size
  have H1 := h.below B1
  clear F0 b0 b1
  have kn : ∀ W : World, KinM W AK nK K → Calls Tryd.prog 24 #[.agg #[.slice AS nS cS, .slice AC nC cC, .slice AK nK cK, .int .i64 L, .int .i64 W0], .string N] W (KindP W kx) := kn
  show Calls Tryd.prog 23 #[.agg #[.slice AS nS cS, .slice AC nC cC, .slice AK nK cK, .int .i64 L, .int .i64 W0], .agg #[.string N, .int .i64 a, .int .i64 u]] w _
  go_enter Tryd.func23, Tryd.ntmps23
  go_wp2_with (fail)
  generalize (w.alloc (.cells #[.slice AS nS cS, .slice AC nC cC, .slice AK nK cK, .int .i64 L, .int .i64 W0] 26)).alloc (.cells #[.string N, .int .i64 a, .int .i64 u] 45) = w1 at *
  refine (kn _ H1).mono ?_
  rintro e w2 ⟨M, mc, mt, ms, rfl, hb2⟩
  have B2 := below_step B1 hb2 B1.size
  have X2 := X0.below hb2
  have b3 := below_new w2 (.cells #[.string M, .int .i64 mc, .int .i64 mt, .int .i64 ms] 53)
  have B3 := below_step B2 b3 B2.size
  have X3 := X2.below b3
  have x0 : w2.cell? ⟨w.heap.size + 1, 0, none⟩ = some (.string N) := X2.cell (by omega)
  have x1 : w2.cell? ⟨w.heap.size + 1, 1, none⟩ = some (.int .i64 a) := X2.cell (by omega)
  have x2 : w2.cell? ⟨w.heap.size + 1, 2, none⟩ = some (.int .i64 u) := X2.cell (by omega)
  have y0 := cell_later b3 x0
  have y1 := cell_later b3 x1
  have y2 := cell_later b3 x2
  clear B1 H1 kn X0 hb2 X2 h B2 b3 X3
  by_cases hk : kx = 0
  · have HR := HC.out
    rw [if_pos hk] at HR
    have HR := Lib.hid HR
    have tk : (kx != 0) = false := by simpa using hk
    clear hk HC kc
    go_wp2_with (fail)
    refine (va _).mono ?_
    rintro e w4 ⟨rfl, hb4⟩
    go_wp2
    go_ret
    exact ⟨ret_i HR.out.symm, below_step B3 hb4 B3.size⟩
  · have HR := HC.out
    rw [if_neg hk] at HR
    have HR := Lib.hid HR
    have tk : (kx != 0) = true := by simpa using hk
    clear hk HC kc va
    go_wp2
    go_ret
    exact ⟨ret_i HR.out.symm, B3⟩
set_option maxHeartbeats 2000000 in
set_option maxRecDepth 100000 in
theorem checkall_el (T : TB) (A : Option Addr) (n c : Nat) (E : Nat → EB) (w : World) (h : KinM w T.AK T.nK T.K) (hr : ElM w A n E) (hn : T.nK ≤ 9223372036854775807) (hn2 : n ≤ 100000) (hN : ∀ i, i < n → (E i).N.size ≤ 281474976710656) :
    Calls Tryd.prog 25 #[T.v, .slice A n c] w fun e w' => e = .returned (.int .i64 (if 32 < n then 2 else firstE (fun i => chkE T (E i)) n)) ∧ Below w.heap.size w w' := by
  have ck := fun N a u W q hh => check_el T N a u W q hn hh
  have HN := Lib.hid hN
  have HR := Lib.hid hr
  have HK := Lib.hid h
  have HF : ∀ i, Hid (chkE T (E i) = chkE T ⟨(E i).N, (E i).A, (E i).U⟩) := fun i => Lib.hid rfl
  have HF := Lib.hid HF
  generalize hch : chkE T = ch at *
  clear hN hr h hch
  obtain ⟨AS, nS, cS, AC, nC, cC, AK, nK, cK, L, W0, S, C, K⟩ := T
  have F0 := five_new w (.slice AS nS cS) (.slice AC nC cC) (.slice AK nK cK) (.int .i64 L) (.int .i64 W0) 26
  have b0 := below_new w (.cells #[.slice AS nS cS, .slice AC nC cC, .slice AK nK cK, .int .i64 L, .int .i64 W0] 26)
  have ck : ∀ N a u (W : World), KinM W AK nK K → N.size ≤ 281474976710656 → Calls Tryd.prog 23 #[.agg #[.slice AS nS cS, .slice AC nC cC, .slice AK nK cK, .int .i64 L, .int .i64 W0], .agg #[.string N, .int .i64 a, .int .i64 u]] W fun e w' => e = .returned (.int .i64 (ch ⟨N, a, u⟩)) ∧ Below W.heap.size W w' := ck
  have HK : Hid (KinM w AK nK K) := HK
  show Calls Tryd.prog 25 #[.agg #[.slice AS nS cS, .slice AC nC cC, .slice AK nK cK, .int .i64 L, .int .i64 W0], .slice A n c] w _
  by_cases h32 : 32 < n
  · rw [if_pos h32]
    have t1 : (32 : Int) < n := by omega
    clear ck
    go_enter Tryd.func25, Tryd.ntmps25
    go_wp2
    go_ret
    exact ⟨rfl, b0⟩
  rw [if_neg h32]
  have t1 : ¬ (32 : Int) < n := by omega
  have t2 : decide ((32 : Int) < n) = false := by rw [decide_eq_false_iff_not]; exact t1
  clear h32
  go_enter Tryd.func25, Tryd.ntmps25
  go_wp2
  generalize w.alloc (.cells #[.slice AS nS cS, .slice AC nC cC, .slice AK nK cK, .int .i64 L, .int .i64 W0] 26) = w1 at *
  go_loopw [13] (fun i W => ∃ k : Nat, k ≤ n ∧ i = .int .i64 k ∧ Hid (firstE (fun i => ch (E i)) k = 0) ∧ RowF W w.heap.size 26 5 (five (.slice AS nS cS) (.slice AC nC cC) (.slice AK nK cK) (.int .i64 L) (.int .i64 W0)) ∧ Below w.heap.size w W) (fun i _ => n - (intOf i).toNat)
  case atStart => exact ⟨0, Nat.zero_le _, rfl, Lib.hid rfl, F0, b0⟩
  case round =>
    obtain ⟨k, hk, rfl, HZ, F, Bw⟩ := hrel
    by_cases hlt : k < n
    · obtain ⟨b, o, rfl, hc⟩ := HR.out (by omega)
      obtain ⟨c0, c1, c2⟩ := hc k hlt
      have d0 := cell_later Bw c0
      have d1 := cell_later Bw c1
      have d2 := cell_later Bw c2
      have bn := below_new wr (.cells #[.string (E k).N, .int .i64 (E k).A, .int .i64 (E k).U] 45)
      have X := trip_new wr (.string (E k).N) (.int .i64 (E k).A) (.int .i64 (E k).U) 45
      have F1 := F.below bn
      have B1 := below_step Bw bn Bw.size
      have hz := HN.out k hlt
      have cc := ck (E k).N (E k).A (E k).U
      obtain ⟨v, hvE, hvc⟩ : ∃ v, ch (E k) = v ∧ ch ⟨(E k).N, (E k).A, (E k).U⟩ = v := ⟨_, rfl, rfl⟩
      rw [hvc] at cc
      have HE : Hid ((fun i => ch (E i)) k = v) := Lib.hid hvE
      clear hvE hvc
      have K1 := HK.out.below B1
      clear c0 c1 c2 hc bn F Bw
      generalize (E k).N = N at *
      generalize (E k).A = a at *
      generalize (E k).U = u at *
      have x0 : (wr.alloc (.cells #[.string N, .int .i64 a, .int .i64 u] 45)).cell? ⟨wr.heap.size, 0, none⟩ = some (.string N) := X.cell (by omega)
      have x1 : (wr.alloc (.cells #[.string N, .int .i64 a, .int .i64 u] 45)).cell? ⟨wr.heap.size, 1, none⟩ = some (.int .i64 a) := X.cell (by omega)
      have x2 : (wr.alloc (.cells #[.string N, .int .i64 a, .int .i64 u] 45)).cell? ⟨wr.heap.size, 2, none⟩ = some (.int .i64 u) := X.cell (by omega)
      have t0' : (wr.alloc (.cells #[.string N, .int .i64 a, .int .i64 u] 45)).cell? ⟨w.heap.size, 0, none⟩ = some (.slice AS nS cS) := F1.cell (q := 0) (by omega)
      have t1' : (wr.alloc (.cells #[.string N, .int .i64 a, .int .i64 u] 45)).cell? ⟨w.heap.size, 1, none⟩ = some (.slice AC nC cC) := F1.cell (q := 1) (by omega)
      have t2' : (wr.alloc (.cells #[.string N, .int .i64 a, .int .i64 u] 45)).cell? ⟨w.heap.size, 2, none⟩ = some (.slice AK nK cK) := F1.cell (q := 2) (by omega)
      have t3' : (wr.alloc (.cells #[.string N, .int .i64 a, .int .i64 u] 45)).cell? ⟨w.heap.size, 3, none⟩ = some (.int .i64 L) := F1.cell (q := 3) (by omega)
      have t4' : (wr.alloc (.cells #[.string N, .int .i64 a, .int .i64 u] 45)).cell? ⟨w.heap.size, 4, none⟩ = some (.int .i64 W0) := F1.cell (q := 4) (by omega)
      go_wp2_with (fail)
      refine (cc _ K1 hz).mono ?_
      rintro e w3 ⟨rfl, hb3⟩
      have B3 := below_step B1 hb3 B1.size
      have F3 := F1.below hb3
      clear x0 x1 x2 t0' t1' t2' t3' t4' X F1 B1 hb3 d0 d1 d2 K1 cc
      by_cases hv0 : v = 0
      · have tv : (v != 0) = false := by simpa using hv0
        have HZ2 : Hid (firstE (fun i => ch (E i)) (k + 1) = 0) := Lib.hid (first_succ HZ.out (by rw [HE.out, hv0]))
        clear hv0 HZ HE
        go_wp2
        go_roundw
        case rel => exact ⟨k + 1, by omega, by go_num, HZ2, F3, B3⟩
        case measure => first | omega | (simp [intOf]; omega)
      · have tv : (v != 0) = true := by simpa using hv0
        have hst := first_stop (f := fun i => ch (E i)) hlt HZ.out (by rw [HE.out]; exact hv0)
        have HST := Lib.hid (hst.trans HE.out)
        clear hv0 hst HZ HE
        go_wp2
        go_ret
        exact ⟨ret_i HST.out.symm, B3⟩
    · have hkn : n = k := by omega
      subst hkn
      go_wp2
      go_ret
      exact ⟨ret_i HZ.out.symm, Bw⟩
end Go.Proofs.YtobdbjmpoefebaaDoor
