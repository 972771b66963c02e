/- KeepCuts: the whole walk. -/
import Derived.Test.YtobdbjmpoefebaaDoorCutM
import Derived.Test.YtobdbjmpoefebaaDoorCutN
import Derived.Test.YtobdbjmpoefebaaDoorTabQ
namespace Go.Proofs.YtobdbjmpoefebaaDoor
open Go.RowKit Go.Sort
set_option linter.unusedVariables false
set_option linter.unusedSimpArgs false
def tb5 (T : TB) : Nat → Value := five (.slice T.AS T.nS T.cS) (.slice T.AC T.nC T.cC) (.slice T.AK T.nK T.cK) (.int .i64 T.L) (.int .i64 T.W)
theorem five_cells {W : World} {p : Nat} {T : TB} (h : RowF W p 26 5 (tb5 T)) :
    W.cell? ⟨p, 0, none⟩ = some (.slice T.AS T.nS T.cS) ∧ W.cell? ⟨p, 1, none⟩ = some (.slice T.AC T.nC T.cC) ∧ W.cell? ⟨p, 2, none⟩ = some (.slice T.AK T.nK T.cK) ∧ W.cell? ⟨p, 3, none⟩ = some (.int .i64 T.L) ∧ W.cell? ⟨p, 4, none⟩ = some (.int .i64 T.W) :=
  ⟨h.cell (q := 0) (by omega), h.cell (q := 1) (by omega), h.cell (q := 2) (by omega), h.cell (q := 3) (by omega), h.cell (q := 4) (by omega)⟩
def boxT (T : TB) : Obj := .cells #[.slice T.AS T.nS T.cS, .slice T.AC T.nC T.cC, .slice T.AK T.nK T.cK, .int .i64 T.L, .int .i64 T.W] 26
theorem box_five (W : World) (T : TB) : RowF (W.alloc (.cells #[.slice T.AS T.nS T.cS, .slice T.AC T.nC T.cC, .slice T.AK T.nK T.cK, .int .i64 T.L, .int .i64 T.W] 26)) W.heap.size 26 5 (tb5 T) := five_new W _ _ _ _ _ _
theorem set_low {W : World} {p : Nat} {T : TB} (h : RowF W p 26 5 (tb5 T)) (l : Int) : RowF (W.setCell ⟨p, 3, none⟩ (.int .i64 l)) p 26 5 (tb5 (lowT T l)) :=
  (h.set 3 (.int .i64 l)).congr fun q hq => by
    rcases (show q = 0 ∨ q = 1 ∨ q = 2 ∨ q = 3 ∨ q = 4 by omega) with rfl | rfl | rfl | rfl | rfl <;> rfl
/-- what is held of memory: the boxes of two tables, the tables -/
structure KC (w : World) (p : Nat) (T V : TB) (W : World) : Prop where
  t : RowF W w.heap.size 26 5 (tb5 T)
  u : RowF W p 26 5 (tb5 V)
  mt : Tm W T
  mv : Tm W V
  d : Tab W
  b : Below w.heap.size w W
theorem KC.step {w W W' : World} {p : Nat} {T V : TB} (h : KC w p T V W) (hb : Below W.heap.size W W') : KC w p T V W' :=
  ⟨h.t.below hb, h.u.below hb, h.mt.below hb, h.mv.below hb, h.d.below hb, below_step h.b hb h.b.size⟩
theorem like_sm {T V : TB} (h : LikeT T V) (s : SmP T) : SmP V := by
  obtain ⟨_, _, a, b, c, d, e, _⟩ := h
  exact ⟨a ▸ s.s, b ▸ s.c, c ▸ s.k, fun i hi => (d i (a ▸ hi)).1 ▸ s.sb i (a ▸ hi), fun i hi => (e i (b ▸ hi)).2.2.2.2.2.1 ▸ s.cb i (b ▸ hi)⟩
theorem like_symm {T V : TB} (h : LikeT T V) : LikeT V T := by
  obtain ⟨l, w, a, b, c, d, e, f⟩ := h
  refine ⟨l.symm, w.symm, a.symm, b.symm, c.symm, fun i hi => ?_, fun i hi => ?_, fun i hi => ?_⟩
  · obtain ⟨x1, x2, x3, x4⟩ := d i (a ▸ hi)
    exact ⟨x1.symm, x2.symm, x3.symm, x4.symm⟩
  · obtain ⟨x1, x2, x3, x4, x5, x6, x7, x8, x9⟩ := e i (b ▸ hi)
    exact ⟨x1.symm, x2.symm, x3.symm, x4.symm, x5.symm, x6.symm, x7.symm, x8.symm, x9.symm⟩
  · exact (f i (c ▸ hi)).symm
theorem like_low {T V V3 : TB} (h : LikeT (lowT T V.L) V) (h3 : LikeT T V3) : LikeT V (lowT V3 V.L) := by
  obtain ⟨l, w, a, b, c, d, e, f⟩ := h
  obtain ⟨l3, w3, a3, b3, c3, d3, e3, f3⟩ := h3
  refine ⟨rfl, w3.trans w.symm, a3.trans a.symm, b3.trans b.symm, c3.trans c.symm, fun i hi => ?_, fun i hi => ?_, fun i hi => ?_⟩
  · obtain ⟨x1, x2, x3, x4⟩ := d i (a ▸ hi)
    obtain ⟨y1, y2, y3, y4⟩ := d3 i (a ▸ hi)
    exact ⟨y1.trans x1.symm, y2.trans x2.symm, y3.trans x3.symm, y4.trans x4.symm⟩
  · obtain ⟨x1, x2, x3, x4, x5, x6, x7, x8, x9⟩ := e i (b ▸ hi)
    obtain ⟨y1, y2, y3, y4, y5, y6, y7, y8, y9⟩ := e3 i (b ▸ hi)
    exact ⟨y1.trans x1.symm, y2.trans x2.symm, y3.trans x3.symm, y4.trans x4.symm, y5.trans x5.symm, y6.trans x6.symm, y7.trans x7.symm, y8.trans x8.symm, y9.trans x9.symm⟩
  · exact (f3 i (c ▸ hi)).trans (f i (c ▸ hi)).symm
theorem worst_ks (w : World) (T : TB) (h : Tm w T) (hz : Tsz T) (hc : T.chk = 0) : Calls Tryd.prog 16 #[T.v] w fun e w' =>
    ∃ (b : Int) (A : Option Addr) (n c : Nat), e = .returned (.tuple #[.agg #[.int .i64 (allW T.S T.L T.nS).1, .int .i64 b, .slice A n c, .int .i64 (keptW T)], .int .i64 0]) ∧ Below w.heap.size w w' := by
  refine (worst_ok w T h hz hc).mono ?_
  rintro e w' ⟨v, he, hr, hb⟩
  obtain ⟨A, c, rfl⟩ := own_slice hr
  exact ⟨_, A, _, c, he, hb⟩
theorem box_cho (W : World) (a b : Int) (A : Option Addr) (n c : Nat) (k : Int) : (W.alloc (.cells #[.int .i64 a, .int .i64 b, .slice A n c, .int .i64 k] 39)).cell? ⟨W.heap.size, 0, none⟩ = some (.int .i64 a) ∧ (W.alloc (.cells #[.int .i64 a, .int .i64 b, .slice A n c, .int .i64 k] 39)).cell? ⟨W.heap.size, 3, none⟩ = some (.int .i64 k) := by
  constructor <;> simp [go_sem]
theorem low_check (W : World) (V : TB) (l k : Int) (h : Tm W V) (s : SmP V) (e : kchk (lowT V l) = k) : Calls Tryd.prog 17 #[.agg #[.slice V.AS V.nS V.cS, .slice V.AC V.nC V.cC, .slice V.AK V.nK V.cK, .int .i64 l, .int .i64 V.W]] W fun e w' => e = .returned (.int .i64 k) ∧ Below W.heap.size W w' := by
  have := kcheck_any W (lowT V l) h ⟨s.sz.c, s.sz.k, s.sz.sb, s.sz.cb⟩
  rw [e] at this
  exact this
theorem same_vt (W : World) (T V : TB) (h : Tm W T) (h' : Tm W V) (hl : LikeT T V) (s : SmP T) : Calls Tryd.prog 19 #[.agg #[.slice T.AS T.nS T.cS, .slice T.AC T.nC T.cC, .slice T.AK T.nK T.cK, .int .i64 T.L, .int .i64 T.W], .agg #[.slice V.AS V.nS V.cS, .slice V.AC V.nC V.cC, .slice V.AK V.nK V.cK, .int .i64 V.L, .int .i64 V.W]] W fun e w' => e = .returned (.bool true) ∧ Below W.heap.size W w' :=
  same_tab T V W h h' hl (by have := s.s; omega) (by have := s.c; omega) (by have := s.k; omega) (fun i hi => by have := s.sb i hi; omega) (fun i hi => by have := s.cb i hi; omega)
set_option maxHeartbeats 8000000 in
set_option maxRecDepth 100000 in
theorem wKeepCuts (T : TB) (w : World) (h : Tm w T) (D : Tab w) (hnil : nils T) :
    Calls Tryd.prog 3 #[T.v] w fun e w' => e = .returned (.bool true) ∧ Below w.heap.size w w' := by
  have F0 := box_five w T
  have B0 := below_new w (.cells #[.slice T.AS T.nS T.cS, .slice T.AC T.nC T.cC, .slice T.AK T.nK T.cK, .int .i64 T.L, .int .i64 T.W] 26)
  have M0 := h.below B0
  have D0 := D.below B0
  clear D
  show Calls Tryd.prog 3 #[.agg #[.slice T.AS T.nS T.cS, .slice T.AC T.nC T.cC, .slice T.AK T.nK T.cK, .int .i64 T.L, .int .i64 T.W]] w _
  go_enter Tryd.func3, Tryd.ntmps3
  go_wp2_with (fail)
  generalize w.alloc (.cells #[.slice T.AS T.nS T.cS, .slice T.AC T.nC T.cC, .slice T.AK T.nK T.cK, .int .i64 T.L, .int .i64 T.W] 26) = w1 at *
  refine (keeps_any _).mono ?_
  rintro e w2 ⟨rfl, hb⟩
  have F2 := F0.below hb
  have M2 := M0.below hb
  have D2 := D0.below hb
  have B2 := below_step B0 hb B0.size
  clear F0 M0 D0 B0 hb
  obtain ⟨z0, z1, z2, z3, z4⟩ := five_cells F2
  go_wp2_with (fail)
  refine (small_tab _ T M2).mono ?_
  rintro e w3 ⟨bs, rfl, hsm, hb⟩
  have F3 := F2.below hb
  have M3 := M2.below hb
  have D3 := D2.below hb
  have B3 := below_step B2 hb B2.size
  clear F2 M2 D2 B2 hb
  clear z0 z1 z2 z3 z4
  obtain ⟨z0, z1, z2, z3, z4⟩ := five_cells F3
  cases bs
  · go_wp2
    go_ret
    exact ⟨rfl, B3⟩
  have SM := hsm rfl
  clear hsm
  have kU := cut_any T w3 M3 SM hnil (by
    by_cases hv : T.chk = 0
    · have := (tok_of hv).l0; have := (tok_of hv).l1; left; omega
    · exact .inr hv)
  go_wp2_with (fail)
  refine (show Calls Tryd.prog 12 #[.agg #[.slice T.AS T.nS T.cS, .slice T.AC T.nC T.cC, .slice T.AK T.nK T.cK, .int .i64 T.L, .int .i64 T.W]] w3 _ from kU).mono ?_
  rintro e w4 ⟨V, ok, rfl, hb, MV, hy, hn⟩
  have F4 := F3.below hb
  have M4 := M3.below hb
  have D4 := D3.below hb
  have B4 := below_step B3 hb B3.size
  have hp : w.heap.size < w4.heap.size := F4.lt
  clear F3 M3 D3 B3 hb kU
  clear z0 z1 z2 z3 z4
  have hN := below_new w4 (.cells #[.slice V.AS V.nS V.cS, .slice V.AC V.nC V.cC, .slice V.AK V.nK V.cK, .int .i64 V.L, .int .i64 V.W] 26)
  have K4 : KC w w4.heap.size T V (w4.alloc (.cells #[.slice V.AS V.nS V.cS, .slice V.AC V.nC V.cC, .slice V.AK V.nK V.cK, .int .i64 V.L, .int .i64 V.W] 26)) := ⟨F4.below hN, box_five w4 V, M4.below hN, MV.below hN, D4.below hN, below_step B4 hN B4.size⟩
  clear F4 M4 D4 B4 MV hN
  obtain ⟨z0, z1, z2, z3, z4⟩ := five_cells K4.t
  obtain ⟨y0, y1, y2, y3, y4⟩ := five_cells K4.u
  dsimp only [TB.v]
  go_wp2_with (fail)
  generalize w4.alloc (.cells #[.slice V.AS V.nS V.cS, .slice V.AC V.nC V.cC, .slice V.AK V.nK V.cK, .int .i64 V.L, .int .i64 V.W] 26) = w5 at *
  refine (show Calls Tryd.prog 13 #[.agg #[.slice T.AS T.nS T.cS, .slice T.AC T.nC T.cC, .slice T.AK T.nK T.cK, .int .i64 T.L, .int .i64 T.W]] w5 _ from room_any _ T K4.mt SM.sz).mono ?_
  rintro e w6 ⟨rfl, hb⟩
  have K6 := K4.step hb
  clear K4 hb
  clear z0 z1 z2 z3 z4 y0 y1 y2 y3 y4
  obtain ⟨z0, z1, z2, z3, z4⟩ := five_cells K6.t
  obtain ⟨y0, y1, y2, y3, y4⟩ := five_cells K6.u
  by_cases hv : T.chk = 0
  · have OK := tok_of hv
    have HV := Lib.hid hv
    have hbd := kept_bd hv
    have l0 := OK.l0
    have l1 := OK.l1
    have c6 := OK.c6
    rw [room_is hv, hv]
    clear hv
    go_wp2_with (fail)
    refine (show Calls Tryd.prog 14 #[.agg #[.slice T.AS T.nS T.cS, .slice T.AC T.nC T.cC, .slice T.AK T.nK T.cK, .int .i64 T.L, .int .i64 T.W]] w6 _ from lines_cnt T _ K6.mt K6.d SM HV.out).mono ?_
    rintro e w7 ⟨A1, c1, rfl, hb⟩
    have K7 := K6.step hb
    clear K6 hb
    clear z0 z1 z2 z3 z4 y0 y1 y2 y3 y4
    obtain ⟨z0, z1, z2, z3, z4⟩ := five_cells K7.t
    obtain ⟨y0, y1, y2, y3, y4⟩ := five_cells K7.u
    go_wp2_with (fail)
    refine (show Calls Tryd.prog 15 #[.agg #[.slice T.AS T.nS T.cS, .slice T.AC T.nC T.cC, .slice T.AK T.nK T.cK, .int .i64 T.L, .int .i64 T.W]] w7 _ from check_tab _ T K7.mt SM.sz).mono ?_
    rintro e w8 ⟨rfl, hb⟩
    rw [HV.out]
    have K8 := K7.step hb
    clear K7 hb
    clear z0 z1 z2 z3 z4 y0 y1 y2 y3 y4
    obtain ⟨z0, z1, z2, z3, z4⟩ := five_cells K8.t
    obtain ⟨y0, y1, y2, y3, y4⟩ := five_cells K8.u
    go_wp2_with (fail)
    refine (show Calls Tryd.prog 16 #[.agg #[.slice T.AS T.nS T.cS, .slice T.AC T.nC T.cC, .slice T.AK T.nK T.cK, .int .i64 T.L, .int .i64 T.W]] w8 _ from worst_ks _ T K8.mt SM.sz HV.out).mono ?_
    rintro e w9 ⟨x2, A2, n2, c2, rfl, hb⟩
    have hN := below_new w9 (.cells #[.int .i64 (allW T.S T.L T.nS).1, .int .i64 x2, .slice A2 n2 c2, .int .i64 (keptW T)] 39)
    have K10 := (K8.step hb).step hN
    obtain ⟨k0, k3⟩ := box_cho w9 (allW T.S T.L T.nS).1 x2 A2 n2 c2 (keptW T)
    have hup := fun hr ha => cut_up (T := T) HV.out hr ha
    clear K8 hb hN
    clear z0 z1 z2 z3 z4 y0 y1 y2 y3 y4
    obtain ⟨z0, z1, z2, z3, z4⟩ := five_cells K10.t
    obtain ⟨y0, y1, y2, y3, y4⟩ := five_cells K10.u
    generalize (allW T.S T.L T.nS).1 = a at *
    by_cases hr : 500 ≤ keptW T
    · have hr1 : (0 : Int) ≤ keptW T - 500 := by omega
      have hr2 : ¬ keptW T < 500 := by omega
      have hr3 : ¬ keptW T - 500 < 0 := by omega
      have hr4 : decide ((0 : Int) ≤ keptW T - 500) = true := by simp; omega
      have hr5 : decide (500 ≤ keptW T) = true := by simp; omega
      have kc0 : kchk T = 0 := by rw [kchk_of HV.out, if_neg hr2]
      have hco := cutL_hi HV.out hr
      obtain rfl : ok = true := by
        cases ok
        · rcases (hn rfl).2.2 with q | q
          · exact absurd HV.out q
          · rw [hco] at q; exact absurd kc0 q
        · rfl
      obtain ⟨qa, qb, hlk, hkp⟩ := hy rfl
      clear qa qb
      rw [hco] at hlk
      have hlk : LikeT T V := hlk
      clear hy hn hco
      go_wp2_with (fail)
      generalize w9.alloc (.cells #[.int .i64 a, .int .i64 x2, .slice A2 n2 c2, .int .i64 (keptW T)] 39) = w10 at *
      refine (show Calls Tryd.prog 17 #[.agg #[.slice T.AS T.nS T.cS, .slice T.AC T.nC T.cC, .slice T.AK T.nK T.cK, .int .i64 T.L, .int .i64 T.W]] w10 _ from kcheck_any _ T K10.mt SM.sz).mono ?_
      rintro e w11 ⟨rfl, hb⟩
      rw [kc0]
      have K11 := K10.step hb
      have k0 := cell_later hb k0
      have k3 := cell_later hb k3
      clear K10 hb
      clear z0 z1 z2 z3 z4 y0 y1 y2 y3 y4
      obtain ⟨z0, z1, z2, z3, z4⟩ := five_cells K11.t
      obtain ⟨y0, y1, y2, y3, y4⟩ := five_cells K11.u
      go_wp2_with (fail)
      refine (show Calls Tryd.prog 18 #[.agg #[.slice T.AS T.nS T.cS, .slice T.AC T.nC T.cC, .slice T.AK T.nK T.cK, .int .i64 T.L, .int .i64 T.W]] w11 _ from clone_ok T w11 K11.mt HV.out hnil).mono ?_
      rintro e w12 hP
      obtain ⟨V2, rfl, ⟨hl2, hk2⟩, hmv, hb⟩ := clo_like hP
      have M2 := hmv w12 (fun _ _ _ => rfl)
      have K12 := K11.step hb
      have k0 := cell_later hb k0
      clear K11 hb hP hmv k3
      clear z0 z1 z2 z3 z4 y0 y1 y2 y3 y4
      have Q := below_new w12 (.cells #[.slice V2.AS V2.nS V2.cS, .slice V2.AC V2.nC V2.cC, .slice V2.AK V2.nK V2.cK, .int .i64 V2.L, .int .i64 V2.W] 26)
      have P := box_five w12 V2
      have k0 := cell_later Q k0
      have KK := K12.step Q
      obtain ⟨z0, z1, z2, z3, z4⟩ := five_cells KK.t
      obtain ⟨y0, y1, y2, y3, y4⟩ := five_cells KK.u
      obtain ⟨m0, m1, m2, m3, m4⟩ := five_cells P
      have fz := P.frozen
      dsimp only [TB.v]
      by_cases ha : a < 0
      · obtain ⟨u1, u2, u3⟩ := hup hr ha
        have c1 := fun W h s => low_check W V2 (T.L + (keptW T - 500)) 0 h s (by rw [kep_kchk hk2]; exact u1)
        have c2 := fun W h s => low_check W V2 (T.L + (keptW T - 500) + 1) 100 h s (by rw [kep_kchk hk2]; exact u2)
        have u4 : T.L + (keptW T - 500) + 1 ≤ 10000 := u3
        clear hup u1 u2
        go_wp2_with (fail)
        have Q1 := below_new w12 (.cells #[.slice V2.AS V2.nS V2.cS, .slice V2.AC V2.nC V2.cC, .slice V2.AK V2.nK V2.cK, .int .i64 (T.L + (keptW T - 500)), .int .i64 V2.W] 26)
        have P1 := box_five w12 (lowT V2 (T.L + (keptW T - 500)))
        have P1 : RowF (w12.alloc (.cells #[.slice V2.AS V2.nS V2.cS, .slice V2.AC V2.nC V2.cC, .slice V2.AK V2.nK V2.cK, .int .i64 (T.L + (keptW T - 500)), .int .i64 V2.W] 26)) w12.heap.size 26 5 (tb5 (lowT V2 (T.L + (keptW T - 500)))) := P1
        clear Q P KK fz k0
        clear z0 z1 z2 z3 z4 y0 y1 y2 y3 y4 m0 m1 m2 m3 m4
        generalize w12.alloc (.cells #[.slice V2.AS V2.nS V2.cS, .slice V2.AC V2.nC V2.cC, .slice V2.AK V2.nK V2.cK, .int .i64 (T.L + (keptW T - 500)), .int .i64 V2.W] 26) = w13 at *
        refine (c1 w13 (M2.below Q1) (like_sm hl2 SM)).mono ?_
        rintro e w14 ⟨rfl, hb⟩
        have Q2 := below_step Q1 hb Q1.size
        have P2 := P1.below hb
        have K14 := K12.step Q2
        clear Q1 P1 hb c1
        have l3 : 0 ≤ T.L + (keptW T - 500) := by omega
        generalize T.L + (keptW T - 500) = lx at *
        have fz := P2.frozen
        have m0 : w14.cell? ⟨w12.heap.size, 0, none⟩ = some (.slice V2.AS V2.nS V2.cS) := P2.cell (q := 0) (by omega)
        have m1 : w14.cell? ⟨w12.heap.size, 1, none⟩ = some (.slice V2.AC V2.nC V2.cC) := P2.cell (q := 1) (by omega)
        have m2 : w14.cell? ⟨w12.heap.size, 2, none⟩ = some (.slice V2.AK V2.nK V2.cK) := P2.cell (q := 2) (by omega)
        have m3 : w14.cell? ⟨w12.heap.size, 3, none⟩ = some (.int .i64 lx) := P2.cell (q := 3) (by omega)
        have m4 : w14.cell? ⟨w12.heap.size, 4, none⟩ = some (.int .i64 V2.W) := P2.cell (q := 4) (by omega)
        obtain ⟨z0, z1, z2, z3, z4⟩ := five_cells K14.t
        obtain ⟨y0, y1, y2, y3, y4⟩ := five_cells K14.u
        go_wp2_with (fail)
        have Q3 := Q2.setCell (p := ⟨w12.heap.size, 3, none⟩) (Nat.le_refl _) (.int .i64 (lx + 1))
        clear Q2 P2 fz
        clear z0 z1 z2 z3 z4 y0 y1 y2 y3 y4 m0 m1 m2 m3 m4
        generalize w14.setCell ⟨w12.heap.size, 3, none⟩ (.int .i64 (lx + 1)) = w15 at *
        refine (c2 w15 (M2.below Q3) (like_sm hl2 SM)).mono ?_
        rintro e w16 ⟨rfl, hb⟩
        have KF := K12.step (below_step Q3 hb Q3.size)
        clear Q3 hb c2 K14
        obtain ⟨z0, z1, z2, z3, z4⟩ := five_cells KF.t
        obtain ⟨y0, y1, y2, y3, y4⟩ := five_cells KF.u
        go_wp2_with (fail)
        refine (same_vt _ V T KF.mv KF.mt (like_symm hlk) (like_sm hlk SM)).mono ?_
        rintro e wz ⟨rfl, hbz⟩
        have KZ := KF.step hbz
        go_wp2
        go_ret
        exact ⟨rfl, KZ.b⟩
      · have ha2 : ¬ a < 0 := ha
        clear hup
        go_wp2_with (fail)
        refine (same_vt _ V T KK.mv KK.mt (like_symm hlk) (like_sm hlk SM)).mono ?_
        rintro e wz ⟨rfl, hbz⟩
        have KZ := KK.step hbz
        go_wp2
        go_ret
        exact ⟨rfl, KZ.b⟩
    · have hr1 : ¬ (0 : Int) ≤ keptW T - 500 := by omega
      have hr2 : keptW T < 500 := by omega
      have hr3 : keptW T - 500 < 0 := by omega
      have hr4 : decide ((0 : Int) ≤ keptW T - 500) = false := by simp; omega
      have hr5 : decide (500 ≤ keptW T) = false := by simp; omega
      have kc0 : kchk T = 100 := by rw [kchk_of HV.out, if_pos hr2]
      have HY := Lib.hid hy
      have HNo := Lib.hid hn
      clear hup hy hn
      go_wp2_with (fail)
      generalize w9.alloc (.cells #[.int .i64 a, .int .i64 x2, .slice A2 n2 c2, .int .i64 (keptW T)] 39) = w10 at *
      refine (show Calls Tryd.prog 17 #[.agg #[.slice T.AS T.nS T.cS, .slice T.AC T.nC T.cC, .slice T.AK T.nK T.cK, .int .i64 T.L, .int .i64 T.W]] w10 _ from kcheck_any _ T K10.mt SM.sz).mono ?_
      rintro e w11 ⟨rfl, hb⟩
      rw [kc0]
      have K11 := K10.step hb
      have k0 := cell_later hb k0
      have k3 := cell_later hb k3
      clear K10 hb
      clear z0 z1 z2 z3 z4 y0 y1 y2 y3 y4
      obtain ⟨z0, z1, z2, z3, z4⟩ := five_cells K11.t
      obtain ⟨y0, y1, y2, y3, y4⟩ := five_cells K11.u
      go_wp2_with (fail)
      refine (show Calls Tryd.prog 18 #[.agg #[.slice T.AS T.nS T.cS, .slice T.AC T.nC T.cC, .slice T.AK T.nK T.cK, .int .i64 T.L, .int .i64 T.W]] w11 _ from clone_ok T w11 K11.mt HV.out hnil).mono ?_
      rintro e w12 hP
      obtain ⟨V2, rfl, ⟨hl2, hk2⟩, hmv, hb⟩ := clo_like hP
      have M2 := hmv w12 (fun _ _ _ => rfl)
      have K12 := K11.step hb
      have k0 := cell_later hb k0
      clear K11 hb hP hmv k3
      clear z0 z1 z2 z3 z4 y0 y1 y2 y3 y4
      have Q := below_new w12 (.cells #[.slice V2.AS V2.nS V2.cS, .slice V2.AC V2.nC V2.cC, .slice V2.AK V2.nK V2.cK, .int .i64 V2.L, .int .i64 V2.W] 26)
      have P := box_five w12 V2
      have k0 := cell_later Q k0
      have KK := K12.step Q
      obtain ⟨z0, z1, z2, z3, z4⟩ := five_cells KK.t
      obtain ⟨y0, y1, y2, y3, y4⟩ := five_cells KK.u
      obtain ⟨m0, m1, m2, m3, m4⟩ := five_cells P
      have fz := P.frozen
      dsimp only [TB.v]
      clear hl2 hk2 M2 P Q k0 fz K12
      clear m0 m1 m2 m3 m4
      go_wp2_with (fail)
      generalize w12.alloc (.cells #[.slice V2.AS V2.nS V2.cS, .slice V2.AC V2.nC V2.cC, .slice V2.AK V2.nK V2.cK, .int .i64 V2.L, .int .i64 V2.W] 26) = w13 at *
      refine (show Calls Tryd.prog 18 #[.agg #[.slice T.AS T.nS T.cS, .slice T.AC T.nC T.cC, .slice T.AK T.nK T.cK, .int .i64 T.L, .int .i64 T.W]] w13 _ from clone_ok T w13 KK.mt HV.out hnil).mono ?_
      rintro e w14 hP
      obtain ⟨V3, rfl, ⟨hl3, hk3⟩, hmv, hb⟩ := clo_like hP
      have M3 := hmv w14 (fun _ _ _ => rfl)
      have K14 := KK.step hb
      clear KK hb hP hmv
      clear z0 z1 z2 z3 z4 y0 y1 y2 y3 y4
      have Q := below_new w14 (.cells #[.slice V3.AS V3.nS V3.cS, .slice V3.AC V3.nC V3.cC, .slice V3.AK V3.nK V3.cK, .int .i64 V3.L, .int .i64 V3.W] 26)
      have P := box_five w14 V3
      have KK := K14.step Q
      have hpl : w4.heap.size < w14.heap.size := K14.u.lt
      have hpt : w.heap.size < w14.heap.size := K14.t.lt
      obtain ⟨z0, z1, z2, z3, z4⟩ := five_cells KK.t
      obtain ⟨y0, y1, y2, y3, y4⟩ := five_cells KK.u
      obtain ⟨m0, m1, m2, m3, m4⟩ := five_cells P
      have fz := P.frozen
      dsimp only [TB.v]
      cases ok
      · obtain ⟨e1, e2, q⟩ := HNo.out rfl
        have hk := q.resolve_left (fun q => q HV.out)
        have c0 := fun W h s => low_check W V3 0 100 h s (by rw [kep_kchk hk3]; exact cut_no HV.out hr2 hk)
        clear q hk
        rw [e2] at y0
        have E1 := Lib.hid e1
        have E2 := Lib.hid e2
        clear e1 e2
        go_wp2_with (fail)
        have Q1 := below_new w14 (.cells #[.slice V3.AS V3.nS V3.cS, .slice V3.AC V3.nC V3.cC, .slice V3.AK V3.nK V3.cK, .int .i64 0, .int .i64 V3.W] 26)
        clear Q P fz KK
        clear z0 z1 z2 z3 z4 y0 y1 y2 y3 y4 m0 m1 m2 m3 m4
        generalize w14.alloc (.cells #[.slice V3.AS V3.nS V3.cS, .slice V3.AC V3.nC V3.cC, .slice V3.AK V3.nK V3.cK, .int .i64 0, .int .i64 V3.W] 26) = w15 at *
        refine (c0 w15 (M3.below Q1) (like_sm hl3 SM)).mono ?_
        rintro e w16 ⟨rfl, hb⟩
        have KF := K14.step (below_step Q1 hb Q1.size)
        obtain ⟨y0, y1, y2, y3, y4⟩ := five_cells KF.u
        rw [E2.out] at y0
        clear c0
        go_wp2
        go_ret
        exact ⟨rfl, KF.b⟩
      · obtain ⟨qa, hkc, hlk, hkp⟩ := HY.out rfl
        clear qa
        obtain ⟨d1, d2, d3⟩ := cut_yes HV.out hr2 hkc
        have hVL : V.L = cutL T := hlk.1
        rw [← hVL] at d1 d2 hkc d3 hlk
        clear hVL
        have smV : SmP V := like_sm hlk ⟨SM.s, SM.c, SM.k, SM.sb, SM.cb⟩
        have hl4 : LikeT V (lowT V3 V.L) := like_low hlk hl3
        have c1 := fun W h s => low_check W V V.L 0 h s (by rw [kep_kchk hkp]; exact hkc)
        have c2 := fun W h s => low_check W V3 (V.L + 1) 100 h s (by rw [kep_kchk hk3]; exact d1)
        have ksame := fun W h h' => same_vt W V (lowT V3 V.L) h h' hl4 smV
        have d4 : ¬ T.L ≤ V.L := by omega
        have d5 : decide (T.L ≤ V.L) = false := by simp; omega
        clear hlk hl4 hkc d1 HY HNo hkp
        have Q1 := below_new w14 (.cells #[.slice V3.AS V3.nS V3.cS, .slice V3.AC V3.nC V3.cC, .slice V3.AK V3.nK V3.cK, .int .i64 V.L, .int .i64 V3.W] 26)
        have P1 : RowF (w14.alloc (.cells #[.slice V3.AS V3.nS V3.cS, .slice V3.AC V3.nC V3.cC, .slice V3.AK V3.nK V3.cK, .int .i64 V.L, .int .i64 V3.W] 26)) w14.heap.size 26 5 (tb5 (lowT V3 V.L)) := box_five w14 (lowT V3 V.L)
        have KS := K14.step Q1
        obtain ⟨x0, x1, x2, x3, x4⟩ := five_cells KS.t
        obtain ⟨v0, v1, v2, v3, v4⟩ := five_cells KS.u
        go_wp2_with (fail)
        clear Q P fz KK KS
        clear x0 x1 x2 x3 x4 v0 v1 v2 v3 v4
        clear z0 z1 z2 z3 z4 y0 y1 y2 y3 y4 m0 m1 m2 m3 m4
        generalize w14.alloc (.cells #[.slice V3.AS V3.nS V3.cS, .slice V3.AC V3.nC V3.cC, .slice V3.AK V3.nK V3.cK, .int .i64 V.L, .int .i64 V3.W] 26) = w15 at *
        refine (ksame w15 (K14.step Q1).mv (M3.below Q1)).mono ?_
        rintro e w16 ⟨rfl, hb⟩
        have Q2 := below_step Q1 hb Q1.size
        have P2 := P1.below hb
        have K16 := K14.step Q2
        clear Q1 P1 hb ksame
        have m0 : w16.cell? ⟨w14.heap.size, 0, none⟩ = some (.slice V3.AS V3.nS V3.cS) := P2.cell (q := 0) (by omega)
        have m1 : w16.cell? ⟨w14.heap.size, 1, none⟩ = some (.slice V3.AC V3.nC V3.cC) := P2.cell (q := 1) (by omega)
        have m2 : w16.cell? ⟨w14.heap.size, 2, none⟩ = some (.slice V3.AK V3.nK V3.cK) := P2.cell (q := 2) (by omega)
        have m3 : w16.cell? ⟨w14.heap.size, 3, none⟩ = some (.int .i64 V.L) := P2.cell (q := 3) (by omega)
        have m4 : w16.cell? ⟨w14.heap.size, 4, none⟩ = some (.int .i64 V3.W) := P2.cell (q := 4) (by omega)
        obtain ⟨z0, z1, z2, z3, z4⟩ := five_cells K16.t
        obtain ⟨y0, y1, y2, y3, y4⟩ := five_cells K16.u
        go_wp2_with (fail)
        refine (c1 w16 K16.mv smV).mono ?_
        rintro e w17 ⟨rfl, hb⟩
        have Q3 := below_step Q2 hb Q2.size
        have P3 := P2.below hb
        have K17 := K14.step Q3
        clear Q2 P2 hb K16 c1
        clear z0 z1 z2 z3 z4 y0 y1 y2 y3 y4 m0 m1 m2 m3 m4
        have m0 : w17.cell? ⟨w14.heap.size, 0, none⟩ = some (.slice V3.AS V3.nS V3.cS) := P3.cell (q := 0) (by omega)
        have m1 : w17.cell? ⟨w14.heap.size, 1, none⟩ = some (.slice V3.AC V3.nC V3.cC) := P3.cell (q := 1) (by omega)
        have m2 : w17.cell? ⟨w14.heap.size, 2, none⟩ = some (.slice V3.AK V3.nK V3.cK) := P3.cell (q := 2) (by omega)
        have m3 : w17.cell? ⟨w14.heap.size, 3, none⟩ = some (.int .i64 V.L) := P3.cell (q := 3) (by omega)
        have m4 : w17.cell? ⟨w14.heap.size, 4, none⟩ = some (.int .i64 V3.W) := P3.cell (q := 4) (by omega)
        obtain ⟨z0, z1, z2, z3, z4⟩ := five_cells K17.t
        obtain ⟨y0, y1, y2, y3, y4⟩ := five_cells K17.u
        have fz := P3.frozen
        go_wp2_with (fail)
        have Q4 := Q3.setCell (p := ⟨w14.heap.size, 3, none⟩) (Nat.le_refl _) (.int .i64 (V.L + 1))
        generalize w17.setCell ⟨w14.heap.size, 3, none⟩ (.int .i64 (V.L + 1)) = w18 at *
        refine (c2 w18 (M3.below Q4) (like_sm hl3 SM)).mono ?_
        rintro e w19 ⟨rfl, hb⟩
        have KF := K14.step (below_step Q4 hb Q4.size)
        clear Q3 P3 K17 fz
        clear z0 z1 z2 z3 z4 y0 y1 y2 y3 y4 m0 m1 m2 m3 m4
        go_wp2
        go_ret
        exact ⟨rfl, KF.b⟩
  · have HV := Lib.hid hv
    have tv : (T.chk != 0) = true := by simpa using hv
    have hr0 : roomV T = 0 := by unfold roomV; rw [if_neg hv]
    rw [hr0]
    obtain rfl : ok = false := by
      cases ok
      · rfl
      · exact absurd (hy rfl).1 hv
    obtain ⟨e1, e2, _⟩ := hn rfl
    rw [e1] at y3
    rw [e2] at y0
    clear hv hr0 hy hn
    go_wp2_with (fail)
    refine (show Calls Tryd.prog 14 #[.agg #[.slice T.AS T.nS T.cS, .slice T.AC T.nC T.cC, .slice T.AK T.nK T.cK, .int .i64 T.L, .int .i64 T.W]] w6 _ from lines_bad T _ K6.mt SM HV.out).mono ?_
    rintro e w7 ⟨rfl, hb⟩
    have K7 := K6.step hb
    clear K6 hb
    clear z0 z1 z2 z3 z4 y0 y1 y2 y3 y4
    obtain ⟨z0, z1, z2, z3, z4⟩ := five_cells K7.t
    obtain ⟨y0, y1, y2, y3, y4⟩ := five_cells K7.u
    rw [e1] at y3
    rw [e2] at y0
    go_wp2_with (fail)
    refine (show Calls Tryd.prog 15 #[.agg #[.slice T.AS T.nS T.cS, .slice T.AC T.nC T.cC, .slice T.AK T.nK T.cK, .int .i64 T.L, .int .i64 T.W]] w7 _ from check_tab _ T K7.mt SM.sz).mono ?_
    rintro e w8 ⟨rfl, hb⟩
    have K8 := K7.step hb
    clear K7 hb
    clear z0 z1 z2 z3 z4 y0 y1 y2 y3 y4
    obtain ⟨z0, z1, z2, z3, z4⟩ := five_cells K8.t
    obtain ⟨y0, y1, y2, y3, y4⟩ := five_cells K8.u
    rw [e1] at y3
    rw [e2] at y0
    clear e1 e2
    go_wp2
    go_ret
    exact ⟨rfl, K8.b⟩
end Go.Proofs.YtobdbjmpoefebaaDoor
