/- What a book of orders answers: its list, where an order stands, and how the list is sorted. -/
import Derived.Test.YthknjpmhomjobaaGreatDoorBkB
import Derived.Laws.OwnMore
import Derived.Lib.SliceRun
import Derived.LoopN
import Derived.OwnWalk
namespace Go.Proofs.YthknjpmhomjobaaGreatDoor
open Go.RowKit Go.Sort
set_option linter.unusedVariables false
set_option linter.unusedSimpArgs false

set_option maxRecDepth 100000 in
set_option maxHeartbeats 4000000 in
theorem sort_any (n c blk : Nat) (f : Nat → Sta) (w : World) (h : SB w blk n f) (hn : n ≤ 12) :
    Calls Tryz.prog 34 #[.slice (some ⟨blk, 0, none⟩) n c, fvE] w (InsP n blk f w) := by
  have cI := ins_any n c blk f w h (by omega)
  have cL := Tryz.bits_Len (n : Int) w (by omega) (by omega)
  have cP : ∀ l : Int, Calls Tryz.prog 46 #[.slice (some ⟨blk, 0, none⟩) n c, .int .i64 0, .int .i64 (n : Nat), .int .i64 l, fvE] w (InsP n blk f w) := fun l => by
    have hn1 : (n : Int) ≤ 12 := by omega
    have t1 : decide ((n : Int) ≤ 12) = true := decide_eq_true hn1
    clear h cL
    unfold fvE at cI ⊢
    go_enter Tryz.func46, Tryz.ntmps46
    go_wp2
    refine wp_loop_rounds 1 ?_
    rw [rounds_succ]
    go_wp2_with (fail)
    with_reducible refine cI.mono ?_
    rintro e w1 ⟨f', rfl, h1, h2, h3, h4⟩
    go_wp2
    go_end0
    exact ⟨f', rfl, h1, h2, h3, h4⟩
  clear cI h
  unfold fvE at cP ⊢
  generalize (Lib.bitLen (n : Int).toNat : Int) = lb at *
  go_enter Tryz.func34, Tryz.ntmps34
  go_wp2_with (fail)
  with_reducible refine cL.mono ?_
  rintro e w1 ⟨rfl, rfl⟩
  go_wp2_with (fail)
  with_reducible refine (cP _).mono ?_
  rintro e w2 ⟨f', rfl, h1, h2, h3, h4⟩
  go_wp2
  go_end0
  exact ⟨f', rfl, h1, h2, h3, h4⟩
theorem infoSt : (Tryz.prog.info? 50).map (fun i => (i.zero, i.size, i.bytes)) = some (some (.agg #[.int .i64 0, .int .i64 0, .int .i64 0, .int .i64 0, .int .i64 0, .int .i64 0, .int .i64 0]), 7, 56) := by kernel_rfl
theorem stc7_news {w : World} {b o n : Nat} {f : Nat → Sta} (hc : ∀ i, i < n → SAt w b (o + i * 7) (f i)) : ∀ q u, (stc7 f n)[q]? = some u → w.cell? ((⟨b, o, none⟩ : Addr).add q) = some u := by
  intro q u hu
  have hq : q < n * 7 := by
    have := (List.getElem?_eq_some_iff.1 hu).1
    rwa [stc7_len] at this
  obtain ⟨i, j, rfl, hi, hj⟩ : ∃ i j, q = i * 7 + j ∧ i < n ∧ j < 7 := ⟨q / 7, q % 7, by omega, by omega, by omega⟩
  rw [stc7_get f hi hj] at hu
  rw [Go.WideShapes.add_plain]
  obtain ⟨h0, h1, h2, h3, h4, h5, h6⟩ := hc i hi
  rcases (show j = 0 ∨ j = 1 ∨ j = 2 ∨ j = 3 ∨ j = 4 ∨ j = 5 ∨ j = 6 by omega) with rfl | rfl | rfl | rfl | rfl | rfl | rfl
  · exact h0.trans hu
  · exact h1.trans hu
  · exact h2.trans hu
  · exact h3.trans hu
  · exact h4.trans hu
  · exact h5.trans hu
  · exact h6.trans hu
theorem stc7_one (f : Nat → Sta) (n : Nat) : ∀ v ∈ stc7 f n, v.oneCell' = true := by
  induction n with
  | zero => intro v hv; cases hv
  | succ n ih =>
    intro v hv
    rcases List.mem_append.1 (show v ∈ stc7 f n ++ (f n).cs from hv) with h | h
    · exact ih v h
    · simp [Sta.cs] at h
      rcases h with rfl | rfl | rfl | rfl | rfl | rfl | rfl <;> rfl
/-- a list of a book of orders -/
def LsP (n : Nat) (f : Nat → Sta) (w : World) (e : Ending) (w' : World) : Prop := ∃ v, e = .returned v ∧ w'.ownsRow w.heap.size 50 7 v n (stc7 f n) ∧ Below w.heap.size w w'
set_option maxRecDepth 100000 in
set_option maxHeartbeats 1000000 in
theorem clone7 (A : Option Addr) (n c : Nat) (w : World) (f : Nat → Sta) (h : Ors w A n f) (hn : n ≤ 100000) (hA : A = none → c = 0) :
    Calls Tryz.prog 36 #[.slice A n c] w (LsP n f w) := by
  cases A with
  | none =>
    have h0 : n = 0 := by
      rcases Nat.eq_zero_or_pos n with q | q
      · exact q
      · obtain ⟨b, o, e, _⟩ := h q
        cases e
    subst h0
    obtain rfl := hA rfl
    have heq := Lib.run_eql_slice_nil (P := Tryz.prog) w 33 50 none 0 0 0 0 Tryz.underlying33
    go_enter Tryz.func36, Tryz.ntmps36
    go_wp2
    go_ret
    exact ⟨_, rfl, World.ownsRow_nil _ _ _ _, Below.refl _ _⟩
  | some ad =>
    obtain ⟨i0, hi0, hz0, hz1, hz2⟩ := info_parts infoSt
    have Hi := Lib.hid hi0
    have Hz := Lib.hid hz0
    have heq := Lib.run_eql_slice_nil (P := Tryz.prog) w 33 50 (some ad) n c 0 0 Tryz.underlying33
    have hb0 : Below w.heap.size w (w.alloc (.cells #[] 50)) := (Below.refl _ _).alloc (Nat.le_refl _) _
    have hr := h.below hb0
    have hnews : ∀ q u, (stc7 f n)[q]? = some u → (w.alloc (.cells #[] 50)).cell? (ad.add q) = some u := by
      intro q u hu
      have hq := (List.getElem?_eq_some_iff.1 hu).1
      rw [stc7_len] at hq
      have hn0 : 0 < n := by omega
      obtain ⟨b, o, e, hc⟩ := hr hn0
      have hA' : ad = ⟨b, o, none⟩ := by simpa using e
      subst hA'
      exact stc7_news hc q u hu
    have hown : (w.alloc (.cells #[] 50)).ownsRow w.heap.size 50 7 (.slice (some ⟨w.heap.size, 0, none⟩) 0 0) 0 [] := World.ownsRow_lit w #[] 0 (Nat.le_refl _) (by unfold maxLen; omega) (by simp)
    have hl := stc7_len f n
    have hone := stc7_one f n
    have hc3 : 0 + n ≤ maxLen := by unfold maxLen; omega
    have hc4 : (0 + n) * 56 ≤ 140737488355328 := by omega
    have hc5 := hb0.size
    clear hi0 hz0 h hr
    go_enter Tryz.func36, Tryz.ntmps36
    go_wp2_with (at_builtin; refine wpList_append_own _ rfl _ _ 33 rfl w.heap.size 50 i0 (.agg #[.int .i64 0, .int .i64 0, .int .i64 0, .int .i64 0, .int .i64 0, .int .i64 0, .int .i64 0]) 7 56 Tryz.underlying33 Hi.out Hz.out hz1 hz2 rfl (by decide) _ _ _ rfl hown ad n c _ rfl hl hnews hone hc3 hc4 hc5 ?_; intro v' w3 hown2 hg2 _)
    go_ret
    refine ⟨_, rfl, ?_, hb0.grown hg2 hc5 (fun k hk => (hown.lt k hk).1)⟩
    simpa using hown2
/-- a book of orders -/
def Bk (W : World) (p n : Nat) (f : Nat → Sta) : Prop := ∃ A c, Bx W p 35 [.slice A n c] ∧ Ors W A n f ∧ (A = none → c = 0) ∧ ∀ g o, A = some ⟨g, o, none⟩ → g ≠ p
theorem Bk.below {W W' : World} {p n : Nat} {f : Nat → Sta} (h : Bk W p n f) (hb : Below W.heap.size W W') : Bk W' p n f := by
  obtain ⟨A, c, h1, h2, h3⟩ := h
  exact ⟨A, c, h1.below hb, h2.below hb, h3⟩
theorem Bk.lt {W : World} {p n : Nat} {f : Nat → Sta} (h : Bk W p n f) : p < W.heap.size := by
  obtain ⟨A, c, h1, _⟩ := h
  exact h1.lt
theorem Bk.congr {W : World} {p n : Nat} {f f' : Nat → Sta} (h : Bk W p n f) (hf : ∀ i, i < n → f i = f' i) : Bk W p n f' := by
  obtain ⟨A, c, h1, h2, h3⟩ := h
  refine ⟨A, c, h1, fun h0 => ?_, h3⟩
  obtain ⟨b, o, e, hc⟩ := h2 h0
  exact ⟨b, o, e, fun i hi => by rw [← hf i hi]; exact hc i hi⟩
theorem list_any (p n : Nat) (f : Nat → Sta) (w : World) (h : Bk w p n f) (hn : n ≤ 100) :
    Calls Tryz.prog 16 #[.pointer (some ⟨p, 0, none⟩)] w (LsP n f w) := by
  obtain ⟨A, c, K, hO, hA, _⟩ := h
  have k0 := K.cell (i := 0) rfl
  have cC := clone7 A n c w f hO (by omega) hA
  clear K hO hA
  go_enter Tryz.func16, Tryz.ntmps16
  go_wp2_with (fail)
  with_reducible refine cC.mono ?_
  rintro e w1 ⟨v, rfl, h1, h2⟩
  obtain ⟨A', c', rfl, _, _⟩ := own_len h1
  have H1 := Lib.hid h1
  clear h1 cC
  go_wp2
  go_ret
  exact ⟨_, rfl, H1.out, h2⟩
/-- where an order of that number stands -/
def plc (f : Nat → Sta) (id : Int) : Nat → Int
  | 0 => -1
  | k + 1 => if plc f id k = -1 then (if (f k).id = id then (k : Int) else -1) else plc f id k
theorem plc_no {f : Nat → Sta} {id : Int} {n : Nat} (h : ∀ i, i < n → (f i).id ≠ id) : plc f id n = -1 := by
  induction n with
  | zero => rfl
  | succ n ih =>
    show (if plc f id n = -1 then (if (f n).id = id then (n : Int) else -1) else plc f id n) = -1
    rw [if_pos (ih fun i hi => h i (by omega)), if_neg (h n (by omega))]
theorem plc_at {f : Nat → Sta} {id : Int} {n i : Nat} (hi : i < n) (he : (f i).id = id) (h : ∀ k, k < i → (f k).id ≠ id) : plc f id n = i := by
  induction n with
  | zero => omega
  | succ n ih =>
    show (if plc f id n = -1 then (if (f n).id = id then (n : Int) else -1) else plc f id n) = i
    by_cases hin : i < n
    · rw [ih hin, if_neg (by omega)]
    · obtain rfl : i = n := by omega
      rw [plc_no h, if_pos rfl, if_pos he]
set_option maxHeartbeats 2000000 in
theorem place_cl (i0 p0 a0 r0 t0 k0 q0 : Int) (id : Int) (q : Nat) (w : World) (hc : w.cell? ⟨q, 0, none⟩ = some (.int .i64 id)) (b : Bool) (hb : (i0 == id) = b) :
    Calls Tryz.prog 45 #[.agg #[.int .i64 i0, .int .i64 p0, .int .i64 a0, .int .i64 r0, .int .i64 t0, .int .i64 k0, .int .i64 q0], .pointer (some ⟨q, 0, none⟩)] w fun e w' => e = .returned (.bool b) ∧ Below w.heap.size w w' := by
  have K := bx_new w [.int .i64 i0, .int .i64 p0, .int .i64 a0, .int .i64 r0, .int .i64 t0, .int .i64 k0, .int .i64 q0] 50
  have B1 := below_new w (.cells #[.int .i64 i0, .int .i64 p0, .int .i64 a0, .int .i64 r0, .int .i64 t0, .int .i64 k0, .int .i64 q0] 50)
  have x0 := K.cell (i := 0) rfl
  have hc2 := cell_later B1 hc
  clear K hc
  cases b
  all_goals
    go_enter Tryz.func45, Tryz.ntmps45
    go_wp2
    go_ret
    exact ⟨rfl, B1⟩
set_option maxRecDepth 100000 in
set_option maxHeartbeats 4000000 in
theorem place_any (p n : Nat) (f : Nat → Sta) (id : Int) (w : World) (h : Bk w p n f) (hn : n ≤ 100) (v : Int) (hv : plc f id n = v) :
    Calls Tryz.prog 32 #[.pointer (some ⟨p, 0, none⟩), .int .i64 id] w fun e w' => e = .returned (.int .i64 v) ∧ Below w.heap.size w w' := by
  obtain ⟨A, c, K, hO, hA, _⟩ := h
  have B1 := below_new w (.cells #[.int .i64 id] 3)
  replace hO := hO.below B1
  have Q := bx_new w [.int .i64 id] 3
  have k0 := (K.below B1).cell (i := 0) rfl
  have hmf : ∀ (fn : Fn) (first cap : Array Value) (w : World), (Instr.makeFunc fn first cap).run Tryz.prog w = .ok (.func fn first cap) w := fun _ _ _ _ => rfl
  have cI : ∀ W q, W.heap.size = W.heap.size → Bx W q 3 [.int .i64 id] → Ors W A n f → Calls Tryz.prog 44 #[.slice A n c, .func (.func 45) #[] #[.pointer (some ⟨q, 0, none⟩)]] W fun e w' => e = .returned (.int .i64 v) ∧ Below W.heap.size W w' := fun W q _ hQ hO => by
    have Bw := Below.refl W.heap.size W
    have HV := Lib.hid hv
    clear hv B1 K Q k0 hmf
    go_enter Tryz.func44, Tryz.ntmps44
    go_wp2
    go_loopw [8] (fun k X => ∃ i : Nat, i ≤ n ∧ k = .int .i64 i ∧ (∀ j, j < i → (f j).id ≠ id) ∧ Below W.heap.size W X) (fun k _ => n - (intOf k).toNat)
    case atStart => exact ⟨0, Nat.zero_le _, rfl, fun j hj => absurd hj (Nat.not_lt_zero j), Bw⟩
    case round =>
      clear Bw
      obtain ⟨i, hi, rfl, hno, hB⟩ := hrel
      by_cases hlt : i < n
      · have hO2 := hO (by omega)
        obtain ⟨b, o, rfl, hc⟩ := hO2
        obtain ⟨c0, c1, c2, c3, c4, c5, c6⟩ := (hc i hlt).below hB
        have hil : (i : Int) < (n : Int) := by omega
        have hq := (hQ.below hB).cell (i := 0) rfl
        have HNO := Lib.hid hno
        have cC := fun b hb W' hc' => place_cl (f i).id (f i).pr (f i).am (f i).rt (f i).tot (f i).tk (f i).ar id q W' hc' b hb
        by_cases he : (f i).id = id
        · have HR : Hid (v = i) := Lib.hid (by rw [← HV.out]; exact plc_at hlt he HNO.out)
          have cC := cC true (by simp [he]) wr hq
          clear hc hno hO he
          generalize (f i).id = x0 at *
          generalize (f i).pr = x1 at *
          generalize (f i).am = x2 at *
          generalize (f i).rt = x3 at *
          generalize (f i).tot = x4 at *
          generalize (f i).tk = x5 at *
          generalize (f i).ar = x6 at *
          go_wp2_with (fail)
          with_reducible refine cC.mono ?_
          rintro e w5 ⟨rfl, NB⟩
          have B5 := below_step hB NB hB.size
          go_wp2
          go_ret
          exact ⟨ret_i HR.out.symm, B5⟩
        · have HR : Hid (∀ j, j < i + 1 → (f j).id ≠ id) := Lib.hid (fun j hj => by
            by_cases h0 : j < i
            · exact HNO.out j h0
            · obtain rfl : j = i := by omega
              exact he)
          have cC := cC false (by simp [he]) wr hq
          clear hc hno hO he
          generalize (f i).id = x0 at *
          generalize (f i).pr = x1 at *
          generalize (f i).am = x2 at *
          generalize (f i).rt = x3 at *
          generalize (f i).tot = x4 at *
          generalize (f i).tk = x5 at *
          generalize (f i).ar = x6 at *
          go_wp2_with (fail)
          with_reducible refine cC.mono ?_
          rintro e w5 ⟨rfl, NB⟩
          have B5 := below_step hB NB hB.size
          go_wp2
          refine ⟨⟨i + 1, by omega, by go_num, HR.out, B5⟩, ?_⟩
          simp [intOf]; omega
      · obtain rfl : n = i := by omega
        have hnl : ¬ (n : Int) < (n : Int) := by omega
        have HR : Hid (v = -1) := Lib.hid (by rw [← HV.out]; exact plc_no hno)
        clear hO hno
        go_wp2
        go_ret
        exact ⟨ret_i HR.out.symm, hB⟩
  have cJ := cI _ w.heap.size rfl Q hO
  clear cI K hO hA Q
  go_enter Tryz.func32, Tryz.ntmps32
  go_wp2_with (fail)
  with_reducible refine cJ.mono ?_
  rintro e w1 ⟨rfl, NB⟩
  have B2 := below_step B1 NB B1.size
  go_wp2
  go_ret
  exact ⟨rfl, B2⟩
end Go.Proofs.YthknjpmhomjobaaGreatDoor
