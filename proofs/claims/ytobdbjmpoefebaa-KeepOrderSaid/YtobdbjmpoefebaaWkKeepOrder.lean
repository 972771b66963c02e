/- KeepOrder: the whole walk. -/
import Derived.Test.YtobdbjmpoefebaaOrdD
namespace Go.Proofs.Ytobdbjmpoefebaa
open Go.RowKit Go.Sort
set_option linter.unusedVariables false
set_option linter.unusedSimpArgs false
theorem tbV_new (W : World) (T : TB) : RowF (W.alloc (.cells #[.slice T.AS T.nS T.cS, .slice T.AC T.nC T.cC, .slice T.AK T.nK T.cK, .int .i64 T.L, .int .i64 T.W] 26)) W.heap.size 26 5 (tbV T) := five_new W _ _ _ _ _ _
theorem mixedK : Try.prog.follows .mixedOrders = true := by kernel_rfl
theorem cell_set_ne {W : World} {g g' q j : Nat} (h : g ≠ g') (v : Value) : (W.setCell ⟨g', j, none⟩ v).cell? ⟨g, q, none⟩ = W.cell? ⟨g, q, none⟩ := by
  simp [World.cell?, Go.Deep.blk_setCell_other W ⟨g', j, none⟩ v g h]
/-- below N but for one row's block the world is as it was -/
def OnlB (N : Nat) (A : Option Addr) (w w' : World) : Prop := ∀ k, k < N → (∀ a, A = some a → a.block ≠ k) → w'.heap[k]? = w.heap[k]?
theorem own_same {w w' : World} {B : Nat} {e : TypeId} {k n : Nat} {v : Value} {xs : List Value} (ho : w.ownsRow B e k v n xs) (h : ∀ b, v.ownBlock = some b → w'.heap[b]? = w.heap[b]?) : w'.ownsRow B e k v n xs := by
  obtain ⟨hl, h0 | ⟨b, cap, cur, hv2, hg, hh, r⟩⟩ := ho
  · exact ⟨hl, .inl h0⟩
  · exact ⟨hl, .inr ⟨b, cap, cur, hv2, hg, (h b (by rw [hv2]; rfl)).trans hh, r⟩⟩
theorem OnlB.own {N : Nat} {A : Option Addr} {B : Nat} {w w' : World} {e : TypeId} {k n : Nat} {v : Value} {xs : List Value} (h : OnlB N A w w') (ho : w.ownsRow B e k v n xs) (hN : ∀ b, v.ownBlock = some b → b < N) (hv : ∀ b a, v.ownBlock = some b → A = some a → a.block ≠ b) : w'.ownsRow B e k v n xs :=
  own_same ho fun b hb => h b (hN b hb) fun a ha => hv b a hb ha
/-- the clone the other way round, as it lies -/
theorem ord_tab {T : TB} {W0 : World} {b Bc Bk : Nat} {AS AC AK : Option Addr} {cS cC cK : Nat} (su : SchU W0 (b + 2) Bc AS cS T.nS T.S) (cu : ConU W0 Bc Bk AC cC T.nC T.C) (ko : OwU W0 Bk W0.heap.size 56 4 (.slice AK T.nK cK) T.nK ((List.range T.nK).flatMap (fun i => kinG (T.K i)))) (hB : Bc ≤ Bk) :
    ∃ f h, W0.ownsRow (b + 2) 33 1 (.slice AS T.nS cS) T.nS ((List.range T.nS).flatMap (fun q => schG (mvB (T.S q) (f q)))) ∧
      W0.ownsRow Bc 35 6 (.slice AC T.nC cC) T.nC ((List.range T.nC).flatMap (fun q => conG (mvC (T.C q) (h q)))) ∧
      (∀ a, AS = some a → b + 2 ≤ a.block ∧ a.block < Bc) ∧ (∀ a, AC = some a → Bc ≤ a.block ∧ a.block < Bk) ∧
      ∀ W1 W2 W3 : World, Below W0.heap.size W0 W1 → OnlA AC W1 W2 → OnlB W0.heap.size AS W2 W3 →
        W1.ownsRow Bc 35 6 (.slice AC T.nC cC) T.nC ((List.range T.nC).flatMap (fun q => conG (mvC (T.C q) (h q)))) ∧
        (W2.ownsRow Bc 35 6 (.slice AC T.nC cC) T.nC ((List.range T.nC).flatMap (fun q => conG (mvC (T.C (T.nC - 1 - q)) (h (T.nC - 1 - q))))) →
          W2.ownsRow (b + 2) 33 1 (.slice AS T.nS cS) T.nS ((List.range T.nS).flatMap (fun q => schG (mvB (T.S q) (f q)))) ∧
          (W3.ownsRow (b + 2) 33 1 (.slice AS T.nS cS) T.nS ((List.range T.nS).flatMap (fun q => schG (mvB (T.S (T.nS - 1 - q)) (f (T.nS - 1 - q))))) →
            Tm W3 (revT (cloT T AS cS AC cC AK cK f h)))) := by
  obtain ⟨f, s1, s2⟩ := schU_open su
  obtain ⟨h, c1, c2⟩ := conU_open cu
  have hS : ∀ a, AS = some a → b + 2 ≤ a.block ∧ a.block < Bc := fun a ha => by
    obtain ⟨e1, e2, _⟩ := own_block s1.1 a ha
    exact ⟨e2, s1.2 _ e1⟩
  have hC : ∀ a, AC = some a → Bc ≤ a.block ∧ a.block < Bk := fun a ha => by
    obtain ⟨e1, e2, _⟩ := own_block c1.1 a ha
    exact ⟨e2, c1.2 _ e1⟩
  refine ⟨f, h, s1.1, c1.1, hS, hC, fun W1 W2 W3 hb o1 o2 => ⟨own_below c1.1 hb, fun r2 => ?_⟩⟩
  have q2 := o1.own (own_below s1.1 hb) (fun x a hx ha => by
    have := s1.2 x hx
    have := (hC a ha).1
    omega)
  refine ⟨q2, fun r3 => ?_⟩
  have hk1 := own_below ko.1 hb
  have hk2 := o1.own hk1 (fun x a hx ha => by
    have := (ko.1.lt x hx).1
    have := (hC a ha).2
    omega)
  have hk3 := o2.own hk2 (fun x hx => (ko.1.lt x hx).2) (fun x a hx ha => by
    have := (ko.1.lt x hx).1
    have := (hS a ha).2
    omega)
  have hc3 := o2.own r2 (fun x hx => (c1.1.lt x hx).2) (fun x a hx ha => by
    have := (r2.lt x hx).1
    have := (hS a ha).2
    omega)
  have bS : ∀ q, q < T.nS → Bds W3 (f q).1 (T.S q).n (T.S q).F (T.S q).R (T.S q).E := fun q hq => by
    obtain ⟨u1, u2⟩ := s2 q hq
    have v1 := own_below u1.1 hb
    have v2 := o1.own v1 (fun x a hx ha => by
      have := u1.2 x hx
      have := (hC a ha).1
      omega)
    have v3 := o2.own v2 (fun x hx => (u1.1.lt x hx).2) (fun x a hx ha => by
      have := u2 a.block x (own_block s1.1 a ha).1 hx
      omega)
    exact bds_own v3
  have bC : ∀ q, q < T.nC → Bds W3 (h q).1 (T.C q).b.n (T.C q).b.F (T.C q).b.R (T.C q).b.E := fun q hq => by
    obtain ⟨u1, u2⟩ := c2 q hq
    have v1 := own_below u1.1 hb
    have v2 := o1.own v1 (fun x a hx ha => by
      have := u2 a.block x (own_block c1.1 a ha).1 hx
      omega)
    have v3 := o2.own v2 (fun x hx => (u1.1.lt x hx).2) (fun x a hx ha => by
      have := (u1.1.lt x hx).1
      have := (hS a ha).2
      omega)
    exact bds_own v3
  exact ⟨schM_of r3 (fun q hq => bS _ (by show T.nS - 1 - q < T.nS; have : q < T.nS := hq; omega)), conM_of hc3 (fun q hq => bC _ (by show T.nC - 1 - q < T.nC; have : q < T.nC := hq; omega)), kinM_of hk3⟩
/-- the worst choice, what of it is used -/
theorem worst_k (w : World) (T : TB) (h : Tm w T) (hz : Tsz T) (hc : T.chk = 0) : Calls Try.prog 10 #[T.v] w fun e w' =>
    ∃ (a b : Int) (A : Option Addr) (n c : Nat), e = .returned (.tuple #[.agg #[.int .i64 a, .int .i64 b, .slice A n c, .int .i64 (keptW T)], .int .i64 0]) ∧ Below w.heap.size w w' := by
  refine (worst_ok w T h hz hc).mono ?_
  rintro e w' ⟨v, he, hr, hb⟩
  obtain ⟨A, c, rfl⟩ := own_slice hr
  exact ⟨_, _, A, _, c, he, hb⟩
theorem own_lt_hi2 {W : World} {B n c k : Nat} {e : TypeId} {A : Option Addr} {xs : List Value} (h : W.ownsRow B e k (.slice A n c) n xs) {x : Nat} (hx : (Value.slice A n c).ownBlock = some x) : x < W.heap.size := (h.lt x hx).2
theorem own_lt_hi {W : World} {B n c k Bc : Nat} {e : TypeId} {A : Option Addr} {xs : List Value} (_h : W.ownsRow B e k (.slice A n c) n xs) (hA : ∀ a, A = some a → B ≤ a.block ∧ a.block < Bc) {x : Nat} (hx : (Value.slice A n c).ownBlock = some x) : x < Bc := by
  cases A with
  | none => cases hx
  | some a =>
    cases hx
    exact (hA a rfl).2
theorem box_new (W : World) (a b : Int) (A : Option Addr) (n c : Nat) (k : Int) : (W.alloc (.cells #[.int .i64 a, .int .i64 b, .slice A n c, .int .i64 k] 39)).cell? ⟨W.heap.size, 3, none⟩ = some (.int .i64 k) := by
  simp [go_sem]
theorem ho_ten {w W : World} {p q : Nat} {T V : TB} {a b c d e a' b' c' d' e' : Value} (h : HO w p q T V (five a b c d e) (five a' b' c' d' e') W) :
    (W.cell? ⟨p, 0, none⟩ = some a ∧ W.cell? ⟨p, 1, none⟩ = some b ∧ W.cell? ⟨p, 2, none⟩ = some c ∧ W.cell? ⟨p, 3, none⟩ = some d ∧ W.cell? ⟨p, 4, none⟩ = some e) ∧
      (W.cell? ⟨q, 0, none⟩ = some a' ∧ W.cell? ⟨q, 1, none⟩ = some b' ∧ W.cell? ⟨q, 2, none⟩ = some c' ∧ W.cell? ⟨q, 3, none⟩ = some d' ∧ W.cell? ⟨q, 4, none⟩ = some e') :=
  ⟨⟨h.1.cell (q := 0) (by omega), h.1.cell (q := 1) (by omega), h.1.cell (q := 2) (by omega), h.1.cell (q := 3) (by omega), h.1.cell (q := 4) (by omega)⟩,
    ⟨h.2.1.cell (q := 0) (by omega), h.2.1.cell (q := 1) (by omega), h.2.1.cell (q := 2) (by omega), h.2.1.cell (q := 3) (by omega), h.2.1.cell (q := 4) (by omega)⟩⟩
theorem ho_cells {w W : World} {b p : Nat} {T V : TB} {tv uv : Nat → Value} (h : HO w b p T V tv uv W) : (∀ q, q < 5 → W.cell? ⟨b, q, none⟩ = some (tv q)) ∧ (∀ q, q < 5 → W.cell? ⟨p, q, none⟩ = some (uv q)) :=
  ⟨fun q hq => h.1.cell (q := q) hq, fun q hq => h.2.1.cell (q := q) hq⟩
theorem con_tail {W : World} {A : Option Addr} {n : Nat} {C : Nat → CB} (h : ConM W A (n + 1) C) : ∃ b o, A = some ⟨b, o, none⟩ ∧ ConM W (some ⟨b, o + 6, none⟩) n (fun q => C (q + 1)) := by
  obtain ⟨b, o, rfl, hc⟩ := h (by omega)
  refine ⟨b, o, rfl, fun _ => ⟨b, o + 6, rfl, fun i hi => ?_⟩⟩
  have := hc (i + 1) (by omega)
  rw [show o + (i + 1) * 6 = o + 6 + i * 6 by omega] at this
  exact this
theorem tail_tm {W : World} {T : TB} (h : Tm W T) (m c : Nat) (hm : m + 1 = T.nC) : ∃ b o, T.AC = some ⟨b, o, none⟩ ∧ Tm W (tailT T (some ⟨b, o + 6, none⟩) c) := by
  obtain ⟨b, o, e, hc⟩ := con_tail (n := m) (by rw [hm]; exact h.2.1)
  refine ⟨b, o, e, h.1, ?_, h.2.2⟩
  show ConM W (some ⟨b, o + 6, none⟩) (T.nC - 1) (fun q => T.C (q + 1))
  rw [show T.nC - 1 = m by omega]
  exact hc
theorem tail_one {W : World} {T : TB} (h : Tm W T) (a : Option Addr) (c : Nat) (hn : T.nC = 1) : Tm W (tailT T a c) := by
  refine ⟨h.1, ?_, h.2.2⟩
  show ConM W a (T.nC - 1) (fun q => T.C (q + 1))
  rw [hn]
  intro h0
  omega
theorem own_cap {w : World} {B n c : Nat} {A : Option Addr} {e : TypeId} {k : Nat} {xs : List Value} (h : w.ownsRow B e k (.slice A n c) n xs) (hn : 1 ≤ n) : n ≤ c := by
  obtain ⟨hl, ⟨_, h0⟩ | ⟨g, cap, cur, hv, hg, hh, hnc, _⟩⟩ := h
  · omega
  · injection hv with _ _ e3
    omega
theorem tail_all (T : TB) (a : Option Addr) (c : Nat) (hn : 1 ≤ T.nC) (hc : T.chk = 0) (hz : SmP T) :
    ∃ k : Int, keptW T ≤ k ∧ ∀ W, Tm W (tailT T a c) → (Calls Try.prog 10 #[(tailT T a c).v] W fun e w' =>
      ∃ (x b : Int) (A : Option Addr) (n c : Nat), e = .returned (.tuple #[.agg #[.int .i64 x, .int .i64 b, .slice A n c, .int .i64 k], .int .i64 0]) ∧ Below W.heap.size W w') ∧
      (Calls Try.prog 11 #[(tailT T a c).v] W fun e w' => e = .returned (.int .i64 (if k < 500 then 100 else 0)) ∧ Below W.heap.size W w') ∧
      (Calls Try.prog 12 #[(tailT T a c).v] W fun e w' => e = .returned (.int .i64 (1 + (T.nC - 1 : Nat))) ∧ Below W.heap.size W w') := by
  have t1 := tail_chk hc hn a c
  have t2 : SmP (tailT T a c) := ⟨hz.s, by have := hz.c; show T.nC - 1 ≤ 20; omega, hz.k, hz.sb, fun i hi => hz.cb _ (by have : i < T.nC - 1 := hi; omega)⟩
  refine ⟨keptW (tailT T a c), tail_kept hc hn a c, fun W q => ⟨worst_k W _ q t2.sz t1, ?_, ?_⟩⟩
  · have := kcheck_any W _ q t2.sz
    unfold kchk at this
    rw [if_pos t1] at this
    exact this
  · exact comps_any W _ q (by have := t2.c; omega)
set_option maxHeartbeats 8000000 in
set_option maxRecDepth 100000 in
theorem wKeepOrder (T : TB) (w : World) (h : Tm w T) (hnil : T.AC = none → T.cC = 0) :
    Calls Try.prog 3 #[T.v] w fun e w' => e = .returned (.bool true) ∧ Below w.heap.size w w' := by
  have kK := keeps_any
  have kS := fun w' (q : Tm w' T) => small_tab w' T q
  have kC := fun w' (q : Tm w' T) (hz : Tsz T) => check_tab w' T q hz
  have B0 := below_new w (.cells #[.slice T.AS T.nS T.cS, .slice T.AC T.nC T.cC, .slice T.AK T.nK T.cK, .int .i64 T.L, .int .i64 T.W] 26)
  have F0 := tbV_new w T
  have M0 := h.below B0
  show Calls Try.prog 3 #[.agg #[.slice T.AS T.nS T.cS, .slice T.AC T.nC T.cC, .slice T.AK T.nK T.cK, .int .i64 T.L, .int .i64 T.W]] w _
  go_enter Try.func3, Try.ntmps3
  go_wp2_with (fail)
  generalize w.alloc (.cells #[.slice T.AS T.nS T.cS, .slice T.AC T.nC T.cC, .slice T.AK T.nK T.cK, .int .i64 T.L, .int .i64 T.W] 26) = w1 at *
  refine (kK _).mono ?_
  rintro e w2 ⟨rfl, hb⟩
  have B1 := below_step B0 hb B0.size
  have M2 := M0.below hb
  have F2 := F0.below hb
  clear hb B0 M0 F0
  have z0 : w2.cell? ⟨w.heap.size, 0, none⟩ = some (.slice T.AS T.nS T.cS) := F2.cell (q := 0) (by omega)
  have z1 : w2.cell? ⟨w.heap.size, 1, none⟩ = some (.slice T.AC T.nC T.cC) := F2.cell (q := 1) (by omega)
  have z2 : w2.cell? ⟨w.heap.size, 2, none⟩ = some (.slice T.AK T.nK T.cK) := F2.cell (q := 2) (by omega)
  have z3 : w2.cell? ⟨w.heap.size, 3, none⟩ = some (.int .i64 T.L) := F2.cell (q := 3) (by omega)
  have z4 : w2.cell? ⟨w.heap.size, 4, none⟩ = some (.int .i64 T.W) := F2.cell (q := 4) (by omega)
  go_wp2_with (fail)
  refine (kS _ M2).mono ?_
  rintro e w3 ⟨bs, rfl, hsm, hb⟩
  have B2 := below_step B1 hb B1.size
  have M3 := M2.below hb
  have F3 := F2.below hb
  clear hb B1 M2 F2 z0 z1 z2 z3 z4
  have z0 : w3.cell? ⟨w.heap.size, 0, none⟩ = some (.slice T.AS T.nS T.cS) := F3.cell (q := 0) (by omega)
  have z1 : w3.cell? ⟨w.heap.size, 1, none⟩ = some (.slice T.AC T.nC T.cC) := F3.cell (q := 1) (by omega)
  have z2 : w3.cell? ⟨w.heap.size, 2, none⟩ = some (.slice T.AK T.nK T.cK) := F3.cell (q := 2) (by omega)
  have z3 : w3.cell? ⟨w.heap.size, 3, none⟩ = some (.int .i64 T.L) := F3.cell (q := 3) (by omega)
  have z4 : w3.cell? ⟨w.heap.size, 4, none⟩ = some (.int .i64 T.W) := F3.cell (q := 4) (by omega)
  cases bs
  · go_wp2
    go_ret
    exact ⟨rfl, B2⟩
  have SM := hsm rfl
  clear hsm
  go_wp2_with (fail)
  refine (kC _ M3 SM.sz).mono ?_
  rintro e w4 ⟨rfl, hb⟩
  have B3 := below_step B2 hb B2.size
  have M4 := M3.below hb
  have F4 := F3.below hb
  clear hb B2 M3 F3 z0 z1 z2 z3 z4
  have z0 : w4.cell? ⟨w.heap.size, 0, none⟩ = some (.slice T.AS T.nS T.cS) := F4.cell (q := 0) (by omega)
  have z1 : w4.cell? ⟨w.heap.size, 1, none⟩ = some (.slice T.AC T.nC T.cC) := F4.cell (q := 1) (by omega)
  have z2 : w4.cell? ⟨w.heap.size, 2, none⟩ = some (.slice T.AK T.nK T.cK) := F4.cell (q := 2) (by omega)
  have z3 : w4.cell? ⟨w.heap.size, 3, none⟩ = some (.int .i64 T.L) := F4.cell (q := 3) (by omega)
  have z4 : w4.cell? ⟨w.heap.size, 4, none⟩ = some (.int .i64 T.W) := F4.cell (q := 4) (by omega)
  by_cases hv : T.chk = 0
  · have OK := tok_of hv
    have HV := Lib.hid hv
    have tv : (T.chk != 0) = false := by simpa using hv
    have cl := clone_any T w4 M4 (by have := OK.s8; omega) (by have := OK.c6; omega) (by have := OK.k12; omega)
      (fun e => by obtain ⟨x, o, e2, _⟩ := M4.1 (by have := OK.s1; omega); rw [e] at e2; cases e2) hnil
      (fun e => by obtain ⟨x, o, e2, _⟩ := M4.2.2 (by have := OK.k1; omega); rw [e] at e2; cases e2)
      (fun i hi => ⟨⟨by have := (OK.c i hi).2.1; omega, fun e => by
        obtain ⟨x, o, _, hc⟩ := M4.2.1 (by omega)
        obtain ⟨y, o2, e2, _⟩ := (hc i hi).2.2.2.2.2.2 (by have := (OK.c i hi).1; omega)
        rw [e] at e2; cases e2⟩, by have := con_small hv i hi; omega⟩)
      (fun i hi => ⟨by have := (OK.s i hi).2.1; omega, fun e => by
        obtain ⟨x, o, _, hc⟩ := M4.1 (by omega)
        obtain ⟨y, o2, e2, _⟩ := (hc i hi).2 (by have := (OK.s i hi).1; omega)
        rw [e] at e2; cases e2⟩)
      (fun i hi => by have := kin_small hv i hi; omega)
    clear hv
    go_wp2_with (fail)
    refine cl.mono ?_
    rintro e w5 ⟨AS, cS, AC, cC, AK, cK, Bc, Bk, rfl, hB1, hB2, su, cu, ko, hb⟩
    have B5 := below_step B3 hb B3.size
    have F5 := F4.below hb
    obtain ⟨f, g, rS, rC, hSb, hCb, main⟩ := ord_tab su cu ko hB2
    have Bn := below_new w5 (.cells #[.slice AS T.nS cS, .slice AC T.nC cC, .slice AK T.nK cK, .int .i64 T.L, .int .i64 T.W] 26)
    have U0 := tbV_new w5 (cloT T AS cS AC cC AK cK f g)
    have F6 := F5.below Bn
    have B6 := below_step B5 Bn B5.size
    have rC6 := own_below rC Bn
    have hlt : w.heap.size < w5.heap.size := F5.lt
    have hl4 : w.heap.size < w4.heap.size := F4.lt
    have hCt : ∀ a, AC = some a → w.heap.size < a.block ∧ a.block < w5.heap.size := fun a ha => ⟨by have := (hCb a ha).1; omega, (own_block rC a ha).2.2⟩
    have hSt : ∀ a, AS = some a → w.heap.size < a.block ∧ a.block < w5.heap.size := fun a ha => ⟨by have := (hSb a ha).1; omega, (own_block rS a ha).2.2⟩
    have MT5 := h.below B5
    clear cl su cu ko B3 M4 F4 z0 z1 z2 z3 z4 F5 B5
    have U0 : RowF (w5.alloc (.cells #[.slice AS T.nS cS, .slice AC T.nC cC, .slice AK T.nK cK, .int .i64 T.L, .int .i64 T.W] 26)) w5.heap.size 26 5 (tbV (cloT T AS cS AC cC AK cK f g)) := U0
    have u1 : (w5.alloc (.cells #[.slice AS T.nS cS, .slice AC T.nC cC, .slice AK T.nK cK, .int .i64 T.L, .int .i64 T.W] 26)).cell? ⟨w5.heap.size, 1, none⟩ = some (.slice AC T.nC cC) := U0.cell (q := 1) (by omega)
    have rv1 := rev_con Bc T.nC cC AC (fun q => mvC (T.C q) (g q)) _ rC6 (by have := OK.c6; omega)
    go_wp2_with (fail)
    refine rv1.mono ?_
    rintro e w7 ⟨rfl, rC7, o1⟩
    have U7 := o1.row U0 (fun a ha => by have := (hCt a ha).2; omega)
    have F7 := o1.row F6 (fun a ha => by have := (hCt a ha).1; omega)
    have B7 := B6.trans (o1.below (B := w.heap.size) (fun a ha => Nat.le_of_lt (hCt a ha).1))
    have u0 : w7.cell? ⟨w5.heap.size, 0, none⟩ = some (.slice AS T.nS cS) := U7.cell (q := 0) (by omega)
    have rS7 := o1.own (own_below rS Bn) (fun x a hx ha => by
      have h1 := (hCb a ha).1
      have h2 := own_lt_hi rS hSb hx
      omega)
    have rv2 := rev_sch (w4.heap.size + 2) T.nS cS AS (fun q => mvB (T.S q) (f q)) w7 OK.s1 rS7 (by have := OK.s8; omega)
    clear F6 B6 U0 u1 rv1
    go_wp2_with (fail)
    refine rv2.mono ?_
    rintro e w8 ⟨rfl, rS8, o2⟩
    have U8 := o2.row U7 (fun a ha => by have := (hSt a ha).2; omega)
    have F8 := o2.row F7 (fun a ha => by have := (hSt a ha).1; omega)
    have B8 := B7.trans (o2.below (B := w.heap.size) (fun a ha => Nat.le_of_lt (hSt a ha).1))
    have mV : ∀ W, (∀ k, k < w5.heap.size → W.heap[k]? = w8.heap[k]?) → Tm W (revT (cloT T AS cS AC cC AK cK f g)) := fun W hW =>
      ((main _ _ W (Bn.mono (Nat.le_refl _)) o1 (fun k hk ha => (hW k hk).trans (o2.block k ha))).2 rC7).2 (own_same rS8 (fun x hx => hW x (own_lt_hi2 rS hx)))
    have MV := mV w8 (fun _ _ => rfl)
    have Q8 := Below.refl w5.heap.size w8
    have MT : Tm w8 T := h.below B8
    have HH : HO w w.heap.size w5.heap.size T (revT (cloT T AS cS AC cC AK cK f g)) (tbV T) (tbV (cloT T AS cS AC cC AK cK f g)) w8 := ⟨F8, U8, MT, MV, B8⟩
    have HV := Lib.hid HV.out
    have Vc : (revT (cloT T AS cS AC cC AK cK f g)).chk = 0 := rev_chk ((cloT_chk T AS cS AC cC AK cK f g).trans HV.out)
    have Vk : keptW (revT (cloT T AS cS AC cC AK cK f g)) = keptW T := (rev_kept _).trans (clo_kept _ _ _ _ _ _ _ _ _)
    have Vz : SmP (revT (cloT T AS cS AC cC AK cK f g)) := ⟨SM.s, SM.c, SM.k, fun i hi => SM.sb _ (by show T.nS - 1 - i < T.nS; have : i < T.nS := hi; omega), fun i hi => SM.cb _ (by show T.nC - 1 - i < T.nC; have : i < T.nC := hi; omega)⟩
    have kT : ∀ W, Tm W T → Calls Try.prog 10 #[.agg #[.slice T.AS T.nS T.cS, .slice T.AC T.nC T.cC, .slice T.AK T.nK T.cK, .int .i64 T.L, .int .i64 T.W]] W fun e w' =>
      ∃ (a b : Int) (A : Option Addr) (n c : Nat), e = .returned (.tuple #[.agg #[.int .i64 a, .int .i64 b, .slice A n c, .int .i64 (keptW T)], .int .i64 0]) ∧ Below W.heap.size W w' := fun W q => worst_k W T q SM.sz HV.out
    have kV : ∀ W, Tm W (revT (cloT T AS cS AC cC AK cK f g)) → Calls Try.prog 10 #[.agg #[.slice AS T.nS cS, .slice AC T.nC cC, .slice AK T.nK cK, .int .i64 T.L, .int .i64 T.W]] W fun e w' =>
      ∃ (a b : Int) (A : Option Addr) (n c : Nat), e = .returned (.tuple #[.agg #[.int .i64 a, .int .i64 b, .slice A n c, .int .i64 (keptW T)], .int .i64 0]) ∧ Below W.heap.size W w' := fun W q => Vk ▸ worst_k W _ q Vz.sz Vc
    have cT : ∀ W, Tm W T → Calls Try.prog 11 #[.agg #[.slice T.AS T.nS T.cS, .slice T.AC T.nC T.cC, .slice T.AK T.nK T.cK, .int .i64 T.L, .int .i64 T.W]] W fun e w' =>
      e = .returned (.int .i64 (kchk T)) ∧ Below W.heap.size W w' := fun W q => kcheck_any W T q SM.sz
    have Vq : kchk (revT (cloT T AS cS AC cC AK cK f g)) = kchk T := by unfold kchk; rw [Vk, Vc, HV.out]
    have cV : ∀ W, Tm W (revT (cloT T AS cS AC cC AK cK f g)) → Calls Try.prog 11 #[.agg #[.slice AS T.nS cS, .slice AC T.nC cC, .slice AK T.nK cK, .int .i64 T.L, .int .i64 T.W]] W fun e w' =>
      e = .returned (.int .i64 (kchk T)) ∧ Below W.heap.size W w' := fun W q => Vq ▸ kcheck_any W _ q Vz.sz
    have nT : ∀ W, Tm W T → Calls Try.prog 12 #[.agg #[.slice T.AS T.nS T.cS, .slice T.AC T.nC T.cC, .slice T.AK T.nK T.cK, .int .i64 T.L, .int .i64 T.W]] W fun e w' =>
      e = .returned (.int .i64 (T.nC + 1)) ∧ Below W.heap.size W w' := fun W q => by
        rw [show (T.nC : Int) + 1 = 1 + T.nC by omega]
        exact comps_any W T q (by have := SM.c; omega)
    have tl : 1 ≤ T.nC → ∃ b o, AC = some ⟨b, o, none⟩ ∧ ∀ W, Tm W (revT (cloT T AS cS AC cC AK cK f g)) → ∀ c, Tm W (tailT (revT (cloT T AS cS AC cC AK cK f g)) (some ⟨b, o + 6, none⟩) c) := fun hn => by
      obtain ⟨b, o, e, _⟩ := tail_tm MV (T.nC - 1) (cC - 1) (by show T.nC - 1 + 1 = T.nC; omega)
      refine ⟨b, o, e, fun W q c => ?_⟩
      obtain ⟨b', o', e', h'⟩ := tail_tm q (T.nC - 1) c (by show T.nC - 1 + 1 = T.nC; omega)
      rw [e] at e'
      injection e' with e'
      injection e' with e1 e2 _
      subst e1 e2
      exact h'
    have t1 : T.nC = 1 → ∀ W, Tm W (revT (cloT T AS cS AC cC AK cK f g)) → ∀ a c, Tm W (tailT (revT (cloT T AS cS AC cC AK cK f g)) a c) := fun e W q a c => tail_one q a c e
    have hcap := own_cap rC
    have tc : 1 ≤ T.nC → ∀ (a : Option Addr) (c' : Nat), ∃ k : Int, keptW T ≤ k ∧ ∀ W, Tm W (tailT (revT (cloT T AS cS AC cC AK cK f g)) a c') →
      (Calls Try.prog 10 #[.agg #[.slice AS T.nS cS, .slice a (T.nC - 1) c', .slice AK T.nK cK, .int .i64 T.L, .int .i64 T.W]] W fun e w' =>
        ∃ (x b : Int) (A : Option Addr) (n c : Nat), e = .returned (.tuple #[.agg #[.int .i64 x, .int .i64 b, .slice A n c, .int .i64 k], .int .i64 0]) ∧ Below W.heap.size W w') ∧
      (Calls Try.prog 11 #[.agg #[.slice AS T.nS cS, .slice a (T.nC - 1) c', .slice AK T.nK cK, .int .i64 T.L, .int .i64 T.W]] W fun e w' => e = .returned (.int .i64 (if k < 500 then 100 else 0)) ∧ Below W.heap.size W w') ∧
      (Calls Try.prog 12 #[.agg #[.slice AS T.nS cS, .slice a (T.nC - 1) c', .slice AK T.nK cK, .int .i64 T.L, .int .i64 T.W]] W fun e w' => e = .returned (.int .i64 T.nC) ∧ Below W.heap.size W w') := fun hn a c' => by
      obtain ⟨k, h1, h2⟩ := tail_all (revT (cloT T AS cS AC cC AK cK f g)) a c' hn Vc Vz
      rw [Vk] at h1
      have e : (1 : Int) + ((revT (cloT T AS cS AC cC AK cK f g)).nC - 1 : Nat) = T.nC := by show (1 : Int) + (T.nC - 1 : Nat) = T.nC; omega
      rw [e] at h2
      exact ⟨k, h1, h2⟩
    clear main rC7 rS7 rS8 o1 o2 U7 F7 B7 U8 F8 B8 MV MT rS rC hSb hCb hCt hSt MT5 u0 rv2 Vk Vc Vz Vq Bn kK kS kC hl4 hB1 hB2 rC6
    generalize hV : revT (cloT T AS cS AC cC AK cK f g) = V at *
    clear hV
    clear U0
    have HH : HO w w.heap.size w5.heap.size T V (five (.slice T.AS T.nS T.cS) (.slice T.AC T.nC T.cC) (.slice T.AK T.nK T.cK) (.int .i64 T.L) (.int .i64 T.W)) (five (.slice AS T.nS cS) (.slice AC T.nC cC) (.slice AK T.nK cK) (.int .i64 T.L) (.int .i64 T.W)) w8 := HH
    have OKc := OK.c6
    have kq : Hid (kchk T = if keptW T < 500 then 100 else 0) := Lib.hid (by unfold kchk; rw [if_pos HV.out])
    clear OK SM hnil
    obtain ⟨⟨y0, y1, y2, y3, y4⟩, _⟩ := ho_ten HH
    go_wp2_with (fail)
    refine (kT _ HH.2.2.1).mono ?_
    rintro e w9 ⟨x1, x2, A1, n1, c1, rfl, hb⟩
    have Q8 := below_step Q8 hb (Nat.le_of_lt HH.2.1.lt)
    have HH := HH.step hb
    have hl9 : w5.heap.size < w9.heap.size := HH.2.1.lt
    clear y0 y1 y2 y3 y4 hb
    have hb := below_new w9 (.cells #[.int .i64 x1, .int .i64 x2, .slice A1 n1 c1, .int .i64 (keptW T)] 39)
    have Q8 := below_step Q8 hb (Nat.le_of_lt HH.2.1.lt)
    have HH := HH.step hb
    have k1 := box_new w9 x1 x2 A1 n1 c1 (keptW T)
    obtain ⟨_, y0, y1, y2, y3, y4⟩ := ho_ten HH
    go_wp2_with (fail)
    generalize w9.alloc (.cells #[.int .i64 x1, .int .i64 x2, .slice A1 n1 c1, .int .i64 (keptW T)] 39) = w10 at *
    clear hb
    refine (kV _ HH.2.2.2.1).mono ?_
    rintro e w11 ⟨x3, x4, A2, n2, c2, rfl, hb⟩
    have Q8 := below_step Q8 hb (Nat.le_of_lt HH.2.1.lt)
    have HH := HH.step hb
    have k1 := cell_later hb k1
    clear y0 y1 y2 y3 y4 hb
    have hb := below_new w11 (.cells #[.int .i64 x3, .int .i64 x4, .slice A2 n2 c2, .int .i64 (keptW T)] 39)
    have Q8 := below_step Q8 hb (Nat.le_of_lt HH.2.1.lt)
    have HH := HH.step hb
    have k1 := cell_later hb k1
    have k2 := box_new w11 x3 x4 A2 n2 c2 (keptW T)
    obtain ⟨⟨y0, y1, y2, y3, y4⟩, v0, v1, v2, v3, v4⟩ := ho_ten HH
    go_wp2
    generalize w11.alloc (.cells #[.int .i64 x3, .int .i64 x4, .slice A2 n2 c2, .int .i64 (keptW T)] 39) = w12 at *
    clear hb
    have r0 := fun d os => cell_regrown y0 d os
    have r1 := fun d os => cell_regrown y1 d os
    have r2 := fun d os => cell_regrown y2 d os
    have r3 := fun d os => cell_regrown y3 d os
    have r4 := fun d os => cell_regrown y4 d os
    have s0 := fun d os => cell_regrown v0 d os
    have s1 := fun d os => cell_regrown v1 d os
    have s2 := fun d os => cell_regrown v2 d os
    have s3 := fun d os => cell_regrown v3 d os
    have s4 := fun d os => cell_regrown v4 d os
    have l1 := fun d os => cell_regrown k1 d os
    have l2 := fun d os => cell_regrown k2 d os
    have cA := fun (d : Nat) (os : Array Obj) => Calls.regrown_of (d := d) (os := os) (w := w12) (cT _ (HH.2.2.1.below (below_regrown w12 d os)))
    have cB := fun (d : Nat) (os : Array Obj) => Calls.regrown_of (d := d) (os := os) (w := w12) (cV _ (HH.2.2.2.1.below (below_regrown w12 d os)))
    clear y0 y1 y2 y3 y4 v0 v1 v2 v3 v4 k2
    refine wp_region_quiet_below mixedK (by kernel_rfl) ?_
    iterate 11 (go_big_quiet_step (fail))
    go_big_quiet_step (exact cA _ _)
    go_big_quiet_step (fail)
    go_big_quiet_step (exact cB _ _)
    repeat (go_big_quiet_step (fail))
    refine wpQuiet_nil ?_
    intro _ hw'
    obtain ⟨⟨dq, osq⟩, hw''⟩ := hw'
    subst hw''
    have hb := below_regrown w12 dq osq
    have Q8 := below_step Q8 hb (Nat.le_of_lt HH.2.1.lt)
    have HH := HH.step hb
    have k1 := cell_later hb k1
    obtain ⟨⟨y0, y1, y2, y3, y4⟩, v0, v1, v2, v3, v4⟩ := ho_ten HH
    generalize grow (redrawn w12 dq) osq = w13 at *
    clear hb r0 r1 r2 r3 r4 s0 s1 s2 s3 s4 l1 l2 cA cB
    rcases Nat.eq_zero_or_pos T.nC with h0 | h0
    · have tn : ((T.nC : Int) == 0) = true := by rw [h0]; rfl
      go_wp2
      go_ret
      exact ⟨rfl, HH.2.2.2.2⟩
    · have tn : ((T.nC : Int) == 0) = false := by simp; omega
      have tn2 : T.nC ≠ 0 := by omega
      obtain ⟨b, o, rfl, ht⟩ := tl h0
      have fz : w13.frozen? ⟨w5.heap.size, 1, none⟩ = false := HH.2.1.frozen 1
      have hcap := hcap h0
      by_cases h1 : cC = 1
      · have t1 := t1 (by omega)
        obtain ⟨k, hk, hc⟩ := tc h0 (some ⟨b, o, none⟩) 0
        clear tl tc
        go_wp2_with (fail)
        have F1 := (HH.2.1.set 1 (.slice (some ⟨b, o, none⟩) (T.nC - 1) 0)).congr (h' := five (.slice AS T.nS cS) (.slice (some ⟨b, o, none⟩) (T.nC - 1) 0) (.slice AK T.nK cK) (.int .i64 T.L) (.int .i64 T.W)) (fun q hq => by
          rcases (show q = 0 ∨ q = 1 ∨ q = 2 ∨ q = 3 ∨ q = 4 by omega) with rfl | rfl | rfl | rfl | rfl <;> rfl)
        have F2 := HH.1.other (a := ⟨w5.heap.size, 1, none⟩) (by show w.heap.size ≠ w5.heap.size; omega) (.slice (some ⟨b, o, none⟩) (T.nC - 1) 0)
        have B14 := HH.2.2.2.2.setCell (show w.heap.size ≤ (⟨w5.heap.size, 1, none⟩ : Addr).block from Nat.le_of_lt hlt) (.slice (some ⟨b, o, none⟩) (T.nC - 1) 0)
        have Q14 := Q8.setCell (show w5.heap.size ≤ (⟨w5.heap.size, 1, none⟩ : Addr).block from Nat.le_refl _) (.slice (some ⟨b, o, none⟩) (T.nC - 1) 0)
        have k1 : (w13.setCell ⟨w5.heap.size, 1, none⟩ (.slice (some ⟨b, o, none⟩) (T.nC - 1) 0)).cell? ⟨w9.heap.size, 3, none⟩ = _ := (cell_set_ne (by show w9.heap.size ≠ w5.heap.size; omega) _).trans k1
        have HH : HO w w.heap.size w5.heap.size T V _ _ _ := ⟨F2, F1, h.below B14, mV _ (fun k hk => Q14.block k hk), B14⟩
        generalize w13.setCell ⟨w5.heap.size, 1, none⟩ (.slice (some ⟨b, o, none⟩) (T.nC - 1) 0) = w14 at *
        clear F1 F2 B14 Q8 Q14 y0 y1 y2 y3 y4 v0 v1 v2 v3 v4
        refine (hc w14 (t1 _ HH.2.2.2.1 _ _)).1.mono ?_
        rintro e w15 ⟨x5, x6, A3, n3, c3, rfl, hb⟩
        have HH := HH.step hb
        have k1 := cell_later hb k1
        have hz := t1 _ HH.2.2.2.1 (some ⟨b, o, none⟩) 0
        clear hb
        have hb := below_new w15 (.cells #[.int .i64 x5, .int .i64 x6, .slice A3 n3 c3, .int .i64 k] 39)
        have HH := HH.step hb
        have k1 := cell_later hb k1
        have k3 := box_new w15 x5 x6 A3 n3 c3 k
        have hz := hz.below hb
        obtain ⟨⟨y0, y1, y2, y3, y4⟩, v0, v1, v2, v3, v4⟩ := ho_ten HH
        go_wp2
        generalize w15.alloc (.cells #[.int .i64 x5, .int .i64 x6, .slice A3 n3 c3, .int .i64 k] 39) = w16 at *
        clear hb
        have r0 := fun d os => cell_regrown y0 d os
        have r1 := fun d os => cell_regrown y1 d os
        have r2 := fun d os => cell_regrown y2 d os
        have r3 := fun d os => cell_regrown y3 d os
        have r4 := fun d os => cell_regrown y4 d os
        have s0 := fun d os => cell_regrown v0 d os
        have s1 := fun d os => cell_regrown v1 d os
        have s2 := fun d os => cell_regrown v2 d os
        have s3 := fun d os => cell_regrown v3 d os
        have s4 := fun d os => cell_regrown v4 d os
        have l1 := fun d os => cell_regrown k1 d os
        have l2 := fun d os => cell_regrown k3 d os
        have cA := fun (d : Nat) (os : Array Obj) => Calls.regrown_of (d := d) (os := os) (w := w16) (cT _ (HH.2.2.1.below (below_regrown w16 d os)))
        have cB := fun (d : Nat) (os : Array Obj) => Calls.regrown_of (d := d) (os := os) (w := w16) (hc _ (hz.below (below_regrown w16 d os))).2.1
        have cC := fun (d : Nat) (os : Array Obj) => Calls.regrown_of (d := d) (os := os) (w := w16) (hc _ (hz.below (below_regrown w16 d os))).2.2
        have cD := fun (d : Nat) (os : Array Obj) => Calls.regrown_of (d := d) (os := os) (w := w16) (nT _ (HH.2.2.1.below (below_regrown w16 d os)))
        have ge : decide (keptW T ≤ k) = true := by simpa using hk
        rw [kq.out] at cA
        clear y0 y1 y2 y3 y4 v0 v1 v2 v3 v4 k1 k3
        by_cases h5 : keptW T < 500
        · rw [if_pos h5] at cA
          clear cB
          refine wp_region_quiet_below mixedK (by kernel_rfl) ?_
          iterate 7 (go_big_quiet_step (fail))
          go_big_quiet_step (exact cA _ _)
          iterate 9 (go_big_quiet_step (fail))
          go_big_quiet_step (exact cC _ _)
          go_big_quiet_step (fail)
          go_big_quiet_step (exact cD _ _)
          repeat (go_big_quiet_step (fail))
          refine wpQuiet_nil ?_
          intro _ hw'
          obtain ⟨⟨dq, osq⟩, hw''⟩ := hw'
          subst hw''
          go_wp2
          go_ret
          exact ⟨rfl, (HH.step (below_regrown w16 dq osq)).2.2.2.2⟩
        · have h6 : ¬ k < 500 := by omega
          rw [if_neg h5] at cA
          rw [if_neg h6] at cB
          refine wp_region_quiet_below mixedK (by kernel_rfl) ?_
          iterate 7 (go_big_quiet_step (fail))
          go_big_quiet_step (exact cA _ _)
          iterate 3 (go_big_quiet_step (fail))
          go_big_quiet_step (exact cB _ _)
          iterate 5 (go_big_quiet_step (fail))
          go_big_quiet_step (exact cC _ _)
          go_big_quiet_step (fail)
          go_big_quiet_step (exact cD _ _)
          repeat (go_big_quiet_step (fail))
          refine wpQuiet_nil ?_
          intro _ hw'
          obtain ⟨⟨dq, osq⟩, hw''⟩ := hw'
          subst hw''
          go_wp2
          go_ret
          exact ⟨rfl, (HH.step (below_regrown w16 dq osq)).2.2.2.2⟩
      · have t1 := ht
        obtain ⟨k, hk, hc⟩ := tc h0 (some ⟨b, o + 6, none⟩) (cC - 1)
        clear tl tc
        go_wp2_with (fail)
        have F1 := (HH.2.1.set 1 (.slice (some ⟨b, o + 6, none⟩) (T.nC - 1) (cC - 1))).congr (h' := five (.slice AS T.nS cS) (.slice (some ⟨b, o + 6, none⟩) (T.nC - 1) (cC - 1)) (.slice AK T.nK cK) (.int .i64 T.L) (.int .i64 T.W)) (fun q hq => by
          rcases (show q = 0 ∨ q = 1 ∨ q = 2 ∨ q = 3 ∨ q = 4 by omega) with rfl | rfl | rfl | rfl | rfl <;> rfl)
        have F2 := HH.1.other (a := ⟨w5.heap.size, 1, none⟩) (by show w.heap.size ≠ w5.heap.size; omega) (.slice (some ⟨b, o + 6, none⟩) (T.nC - 1) (cC - 1))
        have B14 := HH.2.2.2.2.setCell (show w.heap.size ≤ (⟨w5.heap.size, 1, none⟩ : Addr).block from Nat.le_of_lt hlt) (.slice (some ⟨b, o + 6, none⟩) (T.nC - 1) (cC - 1))
        have Q14 := Q8.setCell (show w5.heap.size ≤ (⟨w5.heap.size, 1, none⟩ : Addr).block from Nat.le_refl _) (.slice (some ⟨b, o + 6, none⟩) (T.nC - 1) (cC - 1))
        have k1 : (w13.setCell ⟨w5.heap.size, 1, none⟩ (.slice (some ⟨b, o + 6, none⟩) (T.nC - 1) (cC - 1))).cell? ⟨w9.heap.size, 3, none⟩ = _ := (cell_set_ne (by show w9.heap.size ≠ w5.heap.size; omega) _).trans k1
        have HH : HO w w.heap.size w5.heap.size T V _ _ _ := ⟨F2, F1, h.below B14, mV _ (fun k hk => Q14.block k hk), B14⟩
        generalize w13.setCell ⟨w5.heap.size, 1, none⟩ (.slice (some ⟨b, o + 6, none⟩) (T.nC - 1) (cC - 1)) = w14 at *
        clear F1 F2 B14 Q8 Q14 y0 y1 y2 y3 y4 v0 v1 v2 v3 v4
        refine (hc w14 (t1 _ HH.2.2.2.1 (cC - 1))).1.mono ?_
        rintro e w15 ⟨x5, x6, A3, n3, c3, rfl, hb⟩
        have HH := HH.step hb
        have k1 := cell_later hb k1
        have hz := t1 _ HH.2.2.2.1 (cC - 1)
        clear hb
        have hb := below_new w15 (.cells #[.int .i64 x5, .int .i64 x6, .slice A3 n3 c3, .int .i64 k] 39)
        have HH := HH.step hb
        have k1 := cell_later hb k1
        have k3 := box_new w15 x5 x6 A3 n3 c3 k
        have hz := hz.below hb
        obtain ⟨⟨y0, y1, y2, y3, y4⟩, v0, v1, v2, v3, v4⟩ := ho_ten HH
        go_wp2
        generalize w15.alloc (.cells #[.int .i64 x5, .int .i64 x6, .slice A3 n3 c3, .int .i64 k] 39) = w16 at *
        clear hb
        have r0 := fun d os => cell_regrown y0 d os
        have r1 := fun d os => cell_regrown y1 d os
        have r2 := fun d os => cell_regrown y2 d os
        have r3 := fun d os => cell_regrown y3 d os
        have r4 := fun d os => cell_regrown y4 d os
        have s0 := fun d os => cell_regrown v0 d os
        have s1 := fun d os => cell_regrown v1 d os
        have s2 := fun d os => cell_regrown v2 d os
        have s3 := fun d os => cell_regrown v3 d os
        have s4 := fun d os => cell_regrown v4 d os
        have l1 := fun d os => cell_regrown k1 d os
        have l2 := fun d os => cell_regrown k3 d os
        have cA := fun (d : Nat) (os : Array Obj) => Calls.regrown_of (d := d) (os := os) (w := w16) (cT _ (HH.2.2.1.below (below_regrown w16 d os)))
        have cB := fun (d : Nat) (os : Array Obj) => Calls.regrown_of (d := d) (os := os) (w := w16) (hc _ (hz.below (below_regrown w16 d os))).2.1
        have cC := fun (d : Nat) (os : Array Obj) => Calls.regrown_of (d := d) (os := os) (w := w16) (hc _ (hz.below (below_regrown w16 d os))).2.2
        have cD := fun (d : Nat) (os : Array Obj) => Calls.regrown_of (d := d) (os := os) (w := w16) (nT _ (HH.2.2.1.below (below_regrown w16 d os)))
        have ge : decide (keptW T ≤ k) = true := by simpa using hk
        rw [kq.out] at cA
        clear y0 y1 y2 y3 y4 v0 v1 v2 v3 v4 k1 k3
        by_cases h5 : keptW T < 500
        · rw [if_pos h5] at cA
          clear cB
          refine wp_region_quiet_below mixedK (by kernel_rfl) ?_
          iterate 7 (go_big_quiet_step (fail))
          go_big_quiet_step (exact cA _ _)
          iterate 9 (go_big_quiet_step (fail))
          go_big_quiet_step (exact cC _ _)
          go_big_quiet_step (fail)
          go_big_quiet_step (exact cD _ _)
          repeat (go_big_quiet_step (fail))
          refine wpQuiet_nil ?_
          intro _ hw'
          obtain ⟨⟨dq, osq⟩, hw''⟩ := hw'
          subst hw''
          go_wp2
          go_ret
          exact ⟨rfl, (HH.step (below_regrown w16 dq osq)).2.2.2.2⟩
        · have h6 : ¬ k < 500 := by omega
          rw [if_neg h5] at cA
          rw [if_neg h6] at cB
          refine wp_region_quiet_below mixedK (by kernel_rfl) ?_
          iterate 7 (go_big_quiet_step (fail))
          go_big_quiet_step (exact cA _ _)
          iterate 3 (go_big_quiet_step (fail))
          go_big_quiet_step (exact cB _ _)
          iterate 5 (go_big_quiet_step (fail))
          go_big_quiet_step (exact cC _ _)
          go_big_quiet_step (fail)
          go_big_quiet_step (exact cD _ _)
          repeat (go_big_quiet_step (fail))
          refine wpQuiet_nil ?_
          intro _ hw'
          obtain ⟨⟨dq, osq⟩, hw''⟩ := hw'
          subst hw''
          go_wp2
          go_ret
          exact ⟨rfl, (HH.step (below_regrown w16 dq osq)).2.2.2.2⟩
  · have tv : (T.chk != 0) = true := by simpa using hv
    clear hv
    go_wp2
    go_ret
    exact ⟨rfl, B3⟩
end Go.Proofs.Ytobdbjmpoefebaa
