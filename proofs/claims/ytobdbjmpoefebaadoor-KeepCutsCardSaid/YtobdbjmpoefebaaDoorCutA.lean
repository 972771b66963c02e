/- keep.Cut of any small table. -/
import Derived.Test.YtobdbjmpoefebaaDoorCloH
import Derived.Test.YtobdbjmpoefebaaDoorSamB
import Derived.Test.YtobdbjmpoefebaaDoorTabZ
namespace Go.Proofs.YtobdbjmpoefebaaDoor
open Go.RowKit Go.Sort
set_option linter.unusedVariables false
set_option linter.unusedSimpArgs false
theorem own_same {w w' : World} {B : Nat} {e : TypeId} {k n : Nat} {v : Value} {xs : List Value} (ho : w.ownsRow B e k v n xs) (h : ∀ b, v.ownBlock = some b → w'.heap[b]? = w.heap[b]?) : w'.ownsRow B e k v n xs := by
  obtain ⟨hl, h0 | ⟨b, cap, cur, hv2, hg, hh, r⟩⟩ := ho
  · exact ⟨hl, .inl h0⟩
  · exact ⟨hl, .inr ⟨b, cap, cur, hv2, hg, (h b (by rw [hv2]; rfl)).trans hh, r⟩⟩
theorem nm_size {N : ByteArray} {t : Bool} (h : nm N t = 0) : N.size ≤ 16 := by
  unfold nm at h
  cases hb : nameB N.data.toList
  · rw [if_pos hb] at h; exact absurd h (by decide)
  · rcases Nat.lt_or_ge 16 N.size with q | q
    · rw [nameB_long q] at hb; cases hb
    · exact q
theorem con_small {T : TB} (h : T.chk = 0) : ∀ i, i < T.nC → (T.C i).N.size ≤ 16 := fun i hi => by
  obtain ⟨_, _, h3, _⟩ := chkT_parts h
  have := ((consE_iff T.C T.nC).1 h3).2.1 i hi
  unfold oneE at this
  split at this
  · exact nm_size (by assumption)
  · rename_i q; exact absurd this q
theorem kin_small {T : TB} (h : T.chk = 0) : ∀ i, i < T.nK → (T.K i).N.size ≤ 16 := fun i hi => by
  obtain ⟨_, _, _, h4⟩ := chkT_parts h
  unfold kinsE at h4
  split at h4
  · exact absurd h4 (by decide)
  · have := first_zero h4 i hi
    unfold kinE at this
    split at this
    · exact nm_size (by assumption)
    · rename_i q; exact absurd this q
/-- with another limit -/
def lowT (T : TB) (l : Int) : TB := { T with L := l }
/-- with whatever limit as much is kept, and as much is wrong -/
def KepT (T V : TB) : Prop := ∀ l, (lowT V l).chk = (lowT T l).chk ∧ keptW (lowT V l) = keptW (lowT T l)
/-- a clone, wherever its blocks are as they were -/
theorem clo_like {T : TB} {w w' : World} {e : Ending} (h : CloP T w e w') :
    ∃ V : TB, e = .returned V.v ∧ (LikeT T V ∧ KepT T V) ∧ (∀ W : World, (∀ k, w.heap.size ≤ k → k < w'.heap.size → W.heap[k]? = w'.heap[k]?) → Tm W V) ∧ Below w.heap.size w w' := by
  obtain ⟨AS, cS, AC, cC, AK, cK, Bc, Bk, rfl, hB1, hB2, su, cu, ko, hb⟩ := h
  obtain ⟨f, s1, s2⟩ := schU_open su
  obtain ⟨g, c1, c2⟩ := conU_open cu
  have mv : ∀ W : World, (∀ k, w.heap.size ≤ k → k < w'.heap.size → W.heap[k]? = w'.heap[k]?) → ∀ {B : Nat} {e : TypeId} {k n : Nat} {v : Value} {xs : List Value}, w.heap.size ≤ B → w'.ownsRow B e k v n xs → W.ownsRow B e k v n xs := fun W hW B e k n v xs hB ho =>
    own_same ho fun b hb => hW b (Nat.le_trans hB (ho.lt b hb).1) (ho.lt b hb).2
  refine ⟨cloT T AS cS AC cC AK cK f g, rfl, ⟨⟨rfl, rfl, rfl, rfl, rfl, fun i _ => ⟨rfl, rfl, rfl, rfl⟩, fun i _ => ⟨rfl, rfl, rfl, rfl, rfl, rfl, rfl, rfl, rfl⟩, fun i _ => rfl⟩, fun l => ⟨rfl, clo_kept (lowT T l) AS cS AC cC AK cK f g⟩⟩, fun W hW => ⟨?_, ?_, ?_⟩, hb⟩
  · exact schM_of (mv W hW (by omega) s1.1) fun q hq => bds_own (mv W hW (by omega) (s2 q hq).1.1)
  · exact conM_of (mv W hW (by omega) c1.1) fun q hq => bds_own (mv W hW (by omega) (c2 q hq).1.1)
  · exact kinM_of (mv W hW (by omega) ko.1)
def zerT : TB := { AS := none, nS := 0, cS := 0, AC := none, nC := 0, cC := 0, AK := none, nK := 0, cK := 0, L := 0, W := 0, S := fun _ => ⟨none, 0, 0, fun _ => 0, fun _ => 0, fun _ => 0⟩, C := fun _ => ⟨⟨#[]⟩, 0, ⟨none, 0, 0, fun _ => 0, fun _ => 0, fun _ => 0⟩, 0, 0, 0⟩, K := fun _ => ⟨⟨#[]⟩, 0, 0, 0⟩ }
theorem zer_tm (W : World) : Tm W zerT := ⟨fun h => absurd h (by show ¬ 0 < 0; omega), fun h => absurd h (by show ¬ 0 < 0; omega), fun h => absurd h (by show ¬ 0 < 0; omega)⟩
/-- what Cut's limit comes to -/
def cutL (T : TB) : Int := T.L + min (roomV T) 0
def CutP (T : TB) (w : World) (e : Ending) (w' : World) : Prop :=
  ∃ (V : TB) (ok : Bool), e = .returned (.tuple #[V.v, .bool ok]) ∧ Below w.heap.size w w' ∧ Tm w' V ∧
    (ok = true → T.chk = 0 ∧ kchk (lowT T (cutL T)) = 0 ∧ (LikeT (lowT T (cutL T)) V ∧ KepT T V)) ∧ (ok = false → V.L = 0 ∧ V.nS = 0 ∧ (T.chk ≠ 0 ∨ kchk (lowT T (cutL T)) ≠ 0))
/-- what is asked of what is nil in a table -/
def nils (T : TB) : Prop := T.AC = none → T.cC = 0
theorem clone_ok (T : TB) (w : World) (M4 : Tm w T) (hv : T.chk = 0) (hnil : nils T) : Calls Tryd.prog 18 #[T.v] w (CloP T w) := by
  have OK := tok_of hv
  have hN := con_small hv
  have hK := kin_small hv
  exact clone_any T w M4 (by have := OK.s8; omega) (by have := OK.c6; omega) (by have := OK.k12; omega)
      (fun e => by obtain ⟨x, o, e2, _⟩ := M4.1 (by have := OK.s1; omega); rw [e] at e2; cases e2) hnil
      (fun e => by obtain ⟨x, o, e2, _⟩ := M4.2.2 (by have := OK.k1; omega); rw [e] at e2; cases e2)
      (fun i hi => ⟨⟨by have := (OK.c i hi).2.1; omega, fun e => by
        obtain ⟨x, o, _, hc⟩ := M4.2.1 (by omega)
        obtain ⟨y, o2, e2, _⟩ := (hc i hi).2.2.2.2.2.2 (by have := (OK.c i hi).1; omega)
        rw [e] at e2; cases e2⟩, by have := hN i hi; omega⟩)
      (fun i hi => ⟨by have := (OK.s i hi).2.1; omega, fun e => by
        obtain ⟨x, o, _, hc⟩ := M4.1 (by omega)
        obtain ⟨y, o2, e2, _⟩ := (hc i hi).2 (by have := (OK.s i hi).1; omega)
        rw [e] at e2; cases e2⟩)
      (fun i hi => by have := hK i hi; omega)
/-- five cells stored one by one -/
theorem put_five {w W : World} {g B : Nat} {t : TypeId} {f : Nat → Value} (a b c d e : Value) (G : RowF W g t 5 f) (hB : Below B w W) (hg : B ≤ g) :
    RowF (((((W.setCell ⟨g, 0, none⟩ a).setCell ⟨g, 1, none⟩ b).setCell ⟨g, 2, none⟩ c).setCell ⟨g, 3, none⟩ d).setCell ⟨g, 4, none⟩ e) g t 5 (five a b c d e) ∧
      Below B w (((((W.setCell ⟨g, 0, none⟩ a).setCell ⟨g, 1, none⟩ b).setCell ⟨g, 2, none⟩ c).setCell ⟨g, 3, none⟩ d).setCell ⟨g, 4, none⟩ e) ∧
      ∀ k, k ≠ g → (((((W.setCell ⟨g, 0, none⟩ a).setCell ⟨g, 1, none⟩ b).setCell ⟨g, 2, none⟩ c).setCell ⟨g, 3, none⟩ d).setCell ⟨g, 4, none⟩ e).heap[k]? = W.heap[k]? := by
  refine ⟨(((((G.set 0 a).set 1 b).set 2 c).set 3 d).set 4 e).congr fun q hq => ?_, ?_, fun k hk => ?_⟩
  · rcases (show q = 0 ∨ q = 1 ∨ q = 2 ∨ q = 3 ∨ q = 4 by omega) with rfl | rfl | rfl | rfl | rfl <;> rfl
  · exact ((((hB.setCell (p := ⟨g, 0, none⟩) hg a).setCell (p := ⟨g, 1, none⟩) hg b).setCell (p := ⟨g, 2, none⟩) hg c).setCell (p := ⟨g, 3, none⟩) hg d).setCell (p := ⟨g, 4, none⟩) hg e
  · rw [Go.Deep.blk_setCell_other _ _ _ _ hk, Go.Deep.blk_setCell_other _ _ _ _ hk, Go.Deep.blk_setCell_other _ _ _ _ hk, Go.Deep.blk_setCell_other _ _ _ _ hk, Go.Deep.blk_setCell_other _ _ _ _ hk]
set_option maxHeartbeats 4000000 in
set_option maxRecDepth 100000 in
theorem cut_any (T : TB) (w : World) (h : Tm w T) (SM : SmP T) (hnil : nils T) (hL : -1000000 ≤ T.L ∧ T.L ≤ 1000000 ∨ T.chk ≠ 0) : Calls Tryd.prog 12 #[T.v] w (CutP T w) := by
  have kR := fun w' (q : Tm w' T) => room_any w' T q SM.sz
  have kC := fun w' l (q : Tm w' (lowT T l)) => kcheck_any w' (lowT T l) q ⟨SM.sz.c, SM.sz.k, SM.sz.sb, SM.sz.cb⟩
  have F0 := five_new w (.slice T.AS T.nS T.cS) (.slice T.AC T.nC T.cC) (.slice T.AK T.nK T.cK) (.int .i64 T.L) (.int .i64 T.W) 26
  have N0 := below_new w (.cells #[.slice T.AS T.nS T.cS, .slice T.AC T.nC T.cC, .slice T.AK T.nK T.cK, .int .i64 T.L, .int .i64 T.W] 26)
  have N1 := below_new (w.alloc (.cells #[.slice T.AS T.nS T.cS, .slice T.AC T.nC T.cC, .slice T.AK T.nK T.cK, .int .i64 T.L, .int .i64 T.W] 26)) (.cells #[.slice none 0 0, .slice none 0 0, .slice none 0 0, .int .i64 0, .int .i64 0] 26)
  have hsz1 : (w.alloc (.cells #[.slice T.AS T.nS T.cS, .slice T.AC T.nC T.cC, .slice T.AK T.nK T.cK, .int .i64 T.L, .int .i64 T.W] 26)).heap.size = w.heap.size + 1 := by simp
  have G1 := five_new (w.alloc (.cells #[.slice T.AS T.nS T.cS, .slice T.AC T.nC T.cC, .slice T.AK T.nK T.cK, .int .i64 T.L, .int .i64 T.W] 26)) (.slice none 0 0) (.slice none 0 0) (.slice none 0 0) (.int .i64 0) (.int .i64 0) 26
  rw [hsz1] at G1
  clear hsz1
  have F1 := F0.below N1
  have B1 := below_step N0 N1 N0.size
  have M1 := h.below B1
  clear F0 N0 N1
  show Calls Tryd.prog 12 #[.agg #[.slice T.AS T.nS T.cS, .slice T.AC T.nC T.cC, .slice T.AK T.nK T.cK, .int .i64 T.L, .int .i64 T.W]] w _
  go_enter Tryd.func12, Tryd.ntmps12
  go_wp2_with (fail)
  generalize (w.alloc (.cells #[.slice T.AS T.nS T.cS, .slice T.AC T.nC T.cC, .slice T.AK T.nK T.cK, .int .i64 T.L, .int .i64 T.W] 26)).alloc (.cells #[.slice none 0 0, .slice none 0 0, .slice none 0 0, .int .i64 0, .int .i64 0] 26) = w1 at *
  refine (kR _ M1).mono ?_
  rintro e w2 ⟨rfl, hb⟩
  have F2 := F1.below hb
  have G2 := G1.below hb
  have B2 := below_step B1 hb B1.size
  clear F1 G1 B1 M1 hb
  have z0 : w2.cell? ⟨w.heap.size, 0, none⟩ = some (.slice T.AS T.nS T.cS) := F2.cell (q := 0) (by omega)
  have z1 : w2.cell? ⟨w.heap.size, 1, none⟩ = some (.slice T.AC T.nC T.cC) := F2.cell (q := 1) (by omega)
  have z2 : w2.cell? ⟨w.heap.size, 2, none⟩ = some (.slice T.AK T.nK T.cK) := F2.cell (q := 2) (by omega)
  have z3 : w2.cell? ⟨w.heap.size, 3, none⟩ = some (.int .i64 T.L) := F2.cell (q := 3) (by omega)
  have z4 : w2.cell? ⟨w.heap.size, 4, none⟩ = some (.int .i64 T.W) := F2.cell (q := 4) (by omega)
  have y0 : w2.cell? ⟨w.heap.size + 1, 0, none⟩ = some (.slice none 0 0) := G2.cell (q := 0) (by omega)
  have y1 : w2.cell? ⟨w.heap.size + 1, 1, none⟩ = some (.slice none 0 0) := G2.cell (q := 1) (by omega)
  have y2 : w2.cell? ⟨w.heap.size + 1, 2, none⟩ = some (.slice none 0 0) := G2.cell (q := 2) (by omega)
  have y3 : w2.cell? ⟨w.heap.size + 1, 3, none⟩ = some (.int .i64 0) := G2.cell (q := 3) (by omega)
  have y4 : w2.cell? ⟨w.heap.size + 1, 4, none⟩ = some (.int .i64 0) := G2.cell (q := 4) (by omega)
  have fz := G2.frozen
  have ft := F2.frozen
  by_cases hv : T.chk = 0
  · have tv : (T.chk != 0) = false := by simpa using hv
    have HV := Lib.hid hv
    have hr : -70000 ≤ roomV T ∧ roomV T ≤ 10000 := by
      have := kept_bd hv
      unfold roomV
      rw [if_pos hv]
      omega
    have hl := hL.resolve_right (fun q => q hv)
    have kL := fun w' (q : Tm w' (lowT T (T.L + min (roomV T) 0))) hc => clone_ok (lowT T (T.L + min (roomV T) 0)) w' q hc hnil
    clear hv hL
    have hc0 : cutL T = T.L + min (roomV T) 0 := rfl
    have HC := Lib.hid hc0
    clear hc0
    generalize roomV T = rm at *
    go_wp2_with (fail)
    have B3 := B2.setCell (p := ⟨w.heap.size, 3, none⟩) (Nat.le_refl _) (.int .i64 (T.L + min rm 0))
    have F3 := (F2.set 3 (.int .i64 (T.L + min rm 0))).congr (h' := five (.slice T.AS T.nS T.cS) (.slice T.AC T.nC T.cC) (.slice T.AK T.nK T.cK) (.int .i64 (T.L + min rm 0)) (.int .i64 T.W)) (fun q hq => by
      rcases (show q = 0 ∨ q = 1 ∨ q = 2 ∨ q = 3 ∨ q = 4 by omega) with rfl | rfl | rfl | rfl | rfl <;> rfl)
    have G3 := G2.other (a := ⟨w.heap.size, 3, none⟩) (by show w.heap.size + 1 ≠ w.heap.size; omega) (.int .i64 (T.L + min rm 0))
    generalize w2.setCell ⟨w.heap.size, 3, none⟩ (.int .i64 (T.L + min rm 0)) = w3 at *
    have M3 : Tm w3 (lowT T (T.L + min rm 0)) := h.below B3
    clear z0 z1 z2 z3 z4 y0 y1 y2 y3 y4 fz ft F2 G2 B2
    have kq := kC _ _ M3
    generalize hx : T.L + min rm 0 = x at *
    have HX := Lib.hid hx
    clear hx kC
    have kQ : Calls Tryd.prog 17 #[.agg #[.slice T.AS T.nS T.cS, .slice T.AC T.nC T.cC, .slice T.AK T.nK T.cK, .int .i64 x, .int .i64 T.W]] w3 _ := kq
    refine kQ.mono ?_
    rintro e w4 ⟨rfl, hb⟩
    have F4 := F3.below hb
    have G4 := G3.below hb
    have M4 := M3.below hb
    have B4 := below_step B3 hb B3.size
    clear F3 G3 B3 M3 hb kq kQ
    have z0 : w4.cell? ⟨w.heap.size, 0, none⟩ = some (.slice T.AS T.nS T.cS) := F4.cell (q := 0) (by omega)
    have z1 : w4.cell? ⟨w.heap.size, 1, none⟩ = some (.slice T.AC T.nC T.cC) := F4.cell (q := 1) (by omega)
    have z2 : w4.cell? ⟨w.heap.size, 2, none⟩ = some (.slice T.AK T.nK T.cK) := F4.cell (q := 2) (by omega)
    have z3 : w4.cell? ⟨w.heap.size, 3, none⟩ = some (.int .i64 x) := F4.cell (q := 3) (by omega)
    have z4 : w4.cell? ⟨w.heap.size, 4, none⟩ = some (.int .i64 T.W) := F4.cell (q := 4) (by omega)
    have y0 : w4.cell? ⟨w.heap.size + 1, 0, none⟩ = some (.slice none 0 0) := G4.cell (q := 0) (by omega)
    have y1 : w4.cell? ⟨w.heap.size + 1, 1, none⟩ = some (.slice none 0 0) := G4.cell (q := 1) (by omega)
    have y2 : w4.cell? ⟨w.heap.size + 1, 2, none⟩ = some (.slice none 0 0) := G4.cell (q := 2) (by omega)
    have y3 : w4.cell? ⟨w.heap.size + 1, 3, none⟩ = some (.int .i64 0) := G4.cell (q := 3) (by omega)
    have y4 : w4.cell? ⟨w.heap.size + 1, 4, none⟩ = some (.int .i64 0) := G4.cell (q := 4) (by omega)
    have fz := G4.frozen
    by_cases hk : kchk (lowT T x) = 0
    · have tk : (kchk (lowT T x) != 0) = false := by simpa using hk
      have hcx : (lowT T x).chk = 0 := by
        unfold kchk at hk
        split at hk
        · assumption
        · exact hk
      have kc : Calls Tryd.prog 18 #[.agg #[.slice T.AS T.nS T.cS, .slice T.AC T.nC T.cC, .slice T.AK T.nK T.cK, .int .i64 x, .int .i64 T.W]] w4 _ := kL w4 M4 hcx
      have HK := Lib.hid hk
      clear hk kL hcx
      generalize hkv : kchk (lowT T x) = kv at *
      have HKV := Lib.hid hkv
      clear hkv
      go_wp2_with (fail)
      refine kc.mono ?_
      rintro e w5 hP
      obtain ⟨V, rfl, hlk, hmv, hb⟩ := clo_like hP
      have G5 := G4.below hb
      have B5 := below_step B4 hb B4.size
      have hlt := G4.lt
      have hw5 : w4.heap.size ≤ w5.heap.size := hb.size
      clear hP F4 G4 M4 B4 hb z0 z1 z2 z3 z4 y0 y1 y2 y3 y4 fz kc
      obtain ⟨A1, n1, c1, A2, n2, c2, A3, n3, c3, L1, W1, S1, C1, K1⟩ := V
      dsimp only [TB.v]
      have y0 : w5.cell? ⟨w.heap.size + 1, 0, none⟩ = some (.slice none 0 0) := G5.cell (q := 0) (by omega)
      have y1 : w5.cell? ⟨w.heap.size + 1, 1, none⟩ = some (.slice none 0 0) := G5.cell (q := 1) (by omega)
      have y2 : w5.cell? ⟨w.heap.size + 1, 2, none⟩ = some (.slice none 0 0) := G5.cell (q := 2) (by omega)
      have y3 : w5.cell? ⟨w.heap.size + 1, 3, none⟩ = some (.int .i64 0) := G5.cell (q := 3) (by omega)
      have y4 : w5.cell? ⟨w.heap.size + 1, 4, none⟩ = some (.int .i64 0) := G5.cell (q := 4) (by omega)
      have fz := G5.frozen
      go_wp2
      obtain ⟨rf, bb, hk⟩ := put_five (.slice A1 n1 c1) (.slice A2 n2 c2) (.slice A3 n3 c3) (.int .i64 L1) (.int .i64 W1) G5 B5 (Nat.le_succ _)
      generalize ((((w5.setCell ⟨w.heap.size + 1, 0, none⟩ (.slice A1 n1 c1)).setCell ⟨w.heap.size + 1, 1, none⟩ (.slice A2 n2 c2)).setCell ⟨w.heap.size + 1, 2, none⟩ (.slice A3 n3 c3)).setCell ⟨w.heap.size + 1, 3, none⟩ (.int .i64 L1)).setCell ⟨w.heap.size + 1, 4, none⟩ (.int .i64 W1) = w9 at *
      have x0 : w9.cell? ⟨w.heap.size + 1, 0, none⟩ = some (.slice A1 n1 c1) := rf.cell (q := 0) (by omega)
      have x1 : w9.cell? ⟨w.heap.size + 1, 1, none⟩ = some (.slice A2 n2 c2) := rf.cell (q := 1) (by omega)
      have x2 : w9.cell? ⟨w.heap.size + 1, 2, none⟩ = some (.slice A3 n3 c3) := rf.cell (q := 2) (by omega)
      have x3 : w9.cell? ⟨w.heap.size + 1, 3, none⟩ = some (.int .i64 L1) := rf.cell (q := 3) (by omega)
      have x4 : w9.cell? ⟨w.heap.size + 1, 4, none⟩ = some (.int .i64 W1) := rf.cell (q := 4) (by omega)
      refine bodyPost_ret (v := .tuple #[.agg #[.slice A1 n1 c1, .slice A2 n2 c2, .slice A3 n3 c3, .int .i64 L1, .int .i64 W1], .bool true]) (by simp [results, Tryd.results12, go_sem, x0, x1, x2, x3, x4]) rfl ?_
      have hm := hmv w9 (fun k hk1 hk2 => hk k (by omega))
      refine ⟨_, true, rfl, bb, hm, fun _ => ⟨HV.out, ?_, ?_⟩, fun h => absurd h (by decide)⟩
      · rw [HC.out, HKV.out]; exact HK.out
      · rw [HC.out]; exact hlk
    · have tk : (kchk (lowT T x) != 0) = true := by simpa using hk
      have HK := Lib.hid hk
      clear hk kL
      generalize hkv : kchk (lowT T x) = kv at *
      have HKV := Lib.hid hkv
      clear hkv
      go_wp2
      obtain ⟨rf, bb, _⟩ := put_five (.slice none 0 0) (.slice none 0 0) (.slice none 0 0) (.int .i64 0) (.int .i64 0) G4 B4 (Nat.le_succ _)
      generalize ((((w4.setCell ⟨w.heap.size + 1, 0, none⟩ (.slice none 0 0)).setCell ⟨w.heap.size + 1, 1, none⟩ (.slice none 0 0)).setCell ⟨w.heap.size + 1, 2, none⟩ (.slice none 0 0)).setCell ⟨w.heap.size + 1, 3, none⟩ (.int .i64 0)).setCell ⟨w.heap.size + 1, 4, none⟩ (.int .i64 0) = w9 at *
      have x0 : w9.cell? ⟨w.heap.size + 1, 0, none⟩ = some (.slice none 0 0) := rf.cell (q := 0) (by omega)
      have x1 : w9.cell? ⟨w.heap.size + 1, 1, none⟩ = some (.slice none 0 0) := rf.cell (q := 1) (by omega)
      have x2 : w9.cell? ⟨w.heap.size + 1, 2, none⟩ = some (.slice none 0 0) := rf.cell (q := 2) (by omega)
      have x3 : w9.cell? ⟨w.heap.size + 1, 3, none⟩ = some (.int .i64 0) := rf.cell (q := 3) (by omega)
      have x4 : w9.cell? ⟨w.heap.size + 1, 4, none⟩ = some (.int .i64 0) := rf.cell (q := 4) (by omega)
      refine bodyPost_ret (v := .tuple #[.agg #[.slice none 0 0, .slice none 0 0, .slice none 0 0, .int .i64 0, .int .i64 0], .bool false]) (by simp [results, Tryd.results12, go_sem, x0, x1, x2, x3, x4]) rfl ?_
      refine ⟨zerT, false, rfl, bb, zer_tm _, (fun h => absurd h (by decide)), fun _ => ⟨rfl, rfl, .inr ?_⟩⟩
      rw [HC.out, HKV.out]
      exact HK.out
  · have tv : (T.chk != 0) = true := by simpa using hv
    have HV := Lib.hid hv
    clear hv
    go_wp2
    obtain ⟨rf, bb, _⟩ := put_five (.slice none 0 0) (.slice none 0 0) (.slice none 0 0) (.int .i64 0) (.int .i64 0) G2 B2 (Nat.le_succ _)
    generalize ((((w2.setCell ⟨w.heap.size + 1, 0, none⟩ (.slice none 0 0)).setCell ⟨w.heap.size + 1, 1, none⟩ (.slice none 0 0)).setCell ⟨w.heap.size + 1, 2, none⟩ (.slice none 0 0)).setCell ⟨w.heap.size + 1, 3, none⟩ (.int .i64 0)).setCell ⟨w.heap.size + 1, 4, none⟩ (.int .i64 0) = w9 at *
    have x0 : w9.cell? ⟨w.heap.size + 1, 0, none⟩ = some (.slice none 0 0) := rf.cell (q := 0) (by omega)
    have x1 : w9.cell? ⟨w.heap.size + 1, 1, none⟩ = some (.slice none 0 0) := rf.cell (q := 1) (by omega)
    have x2 : w9.cell? ⟨w.heap.size + 1, 2, none⟩ = some (.slice none 0 0) := rf.cell (q := 2) (by omega)
    have x3 : w9.cell? ⟨w.heap.size + 1, 3, none⟩ = some (.int .i64 0) := rf.cell (q := 3) (by omega)
    have x4 : w9.cell? ⟨w.heap.size + 1, 4, none⟩ = some (.int .i64 0) := rf.cell (q := 4) (by omega)
    refine bodyPost_ret (v := .tuple #[.agg #[.slice none 0 0, .slice none 0 0, .slice none 0 0, .int .i64 0, .int .i64 0], .bool false]) (by simp [results, Tryd.results12, go_sem, x0, x1, x2, x3, x4]) rfl ?_
    exact ⟨zerT, false, rfl, bb, zer_tm _, (fun h => absurd h (by decide)), fun _ => ⟨rfl, rfl, .inl HV.out⟩⟩
end Go.Proofs.YtobdbjmpoefebaaDoor
