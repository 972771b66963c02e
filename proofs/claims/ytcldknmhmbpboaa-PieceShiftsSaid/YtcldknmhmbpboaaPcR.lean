/- What the laws' near answers: numbers from 0 to the greatest one. -/
import Derived.Test.YtcldknmhmbpboaaPcO
namespace Go.Proofs.Ytcldknmhmbpboaa
open Go.RowKit Go.Sort
set_option linter.unusedVariables false
set_option linter.unusedSimpArgs false

def Lf.cat (f g : Lf) : Lf := ⟨f.n + g.n, fun i => if i < f.n then f.F i else g.F (i - f.n), fun i => if i < f.n then f.V i else g.V (i - f.n), fun i => if i < f.n then f.R i else g.R (i - f.n)⟩
theorem lnL_cat (f g : Lf) : ∀ k, lnL (f.cat g) (f.n + k) = lnL f f.n ++ lnL g k
  | 0 => by
    show lnL (f.cat g) f.n = lnL f f.n ++ []
    rw [List.append_nil]
    exact lnL_congr fun i hi => ⟨if_pos hi, if_pos hi, if_pos hi⟩
  | k + 1 => by
    show lnL (f.cat g) (f.n + k) ++ [.int .i64 ((f.cat g).F (f.n + k)), .int .i64 ((f.cat g).V (f.n + k)), .int .i64 ((f.cat g).R (f.n + k))] = lnL f f.n ++ (lnL g k ++ _)
    rw [lnL_cat f g k, List.append_assoc]
    have e1 : (f.cat g).F (f.n + k) = g.F k := by show (if f.n + k < f.n then _ else _) = _; rw [if_neg (by omega), show f.n + k - f.n = k by omega]
    have e2 : (f.cat g).V (f.n + k) = g.V k := by show (if f.n + k < f.n then _ else _) = _; rw [if_neg (by omega), show f.n + k - f.n = k by omega]
    have e3 : (f.cat g).R (f.n + k) = g.R k := by show (if f.n + k < f.n then _ else _) = _; rw [if_neg (by omega), show f.n + k - f.n = k by omega]
    rw [e1, e2, e3]
theorem lm_news {w : World} {b o : Nat} {f : Lf} (h : Lm w (some ⟨b, o, none⟩) f) : ∀ j u, (lnL f f.n)[j]? = some u → w.cell? ((⟨b, o, none⟩ : Addr).add j) = some u := fun j u hu => by
  have hj : j < f.n * 3 := by
    rw [← lnL_len f f.n]
    exact (List.getElem?_eq_some_iff.1 hu).1
  obtain ⟨b', o', e, hc⟩ := h (by omega)
  obtain ⟨rfl, rfl⟩ : b = b' ∧ o = o' := by simpa using e
  have hi : j / 3 < f.n := by omega
  have hd : j / 3 * 3 + j % 3 = j := by omega
  rw [← hd, lnL_get f hi (Nat.mod_lt _ (by omega))] at hu
  rw [Go.WideShapes.add_plain, ← hd]
  obtain ⟨c0, c1, c2⟩ := hc _ hi
  rcases (show j % 3 = 0 ∨ j % 3 = 1 ∨ j % 3 = 2 by omega) with e | e | e <;> rw [e] at hu ⊢
  · exact c0.trans hu
  · rw [← Nat.add_assoc]; exact c1.trans hu
  · rw [← Nat.add_assoc]; exact c2.trans hu
theorem lnL_one (f : Lf) : ∀ n, ∀ u ∈ lnL f n, u.oneCell' = true
  | 0 => fun u hu => by cases hu
  | n + 1 => fun u hu => by
    rcases List.mem_append.1 hu with h | h
    · exact lnL_one f n u h
    · simp only [List.mem_cons, List.not_mem_nil, or_false] at h
      rcases h with rfl | rfl | rfl <;> rfl
/-- numbers that are in order: each from 0 to the greatest one -/
def Nms (xs : List Value) : Prop := ∀ u ∈ xs, ∃ y : Int, u = .int .i64 y ∧ 0 ≤ y ∧ y ≤ 10000000000
def Nr (W : World) (A : Option Addr) (n : Nat) : Prop := 0 < n → ∃ b o, A = some ⟨b, o, none⟩ ∧ ∀ i, i < n → ∃ y : Int, W.cell? ⟨b, o + i, none⟩ = some (.int .i64 y) ∧ 0 ≤ y ∧ y ≤ 10000000000
theorem Nr.below {W W' : World} {A : Option Addr} {n : Nat} (h : Nr W A n) (hb : Below W.heap.size W W') : Nr W' A n := fun h0 => by
  obtain ⟨b, o, e, hc⟩ := h h0
  exact ⟨b, o, e, fun i hi => by obtain ⟨y, h1, h2⟩ := hc i hi; exact ⟨y, cell_later hb h1, h2⟩⟩
theorem nr_own {w : World} {B n c : Nat} {A : Option Addr} {xs : List Value} (h : w.ownsRow B 2 1 (.slice A n c) n xs) (hx : Nms xs) : Nr w A n := fun hn => by
  obtain ⟨A', c', e, hA, hg⟩ := own_len h
  obtain ⟨g, rfl⟩ := hg hn
  obtain ⟨rfl, _, rfl⟩ := Value.slice.inj e
  refine ⟨g, 0, rfl, fun i hi => ?_⟩
  have hl : xs.length = n * 1 := h.1
  have hi' : i < xs.length := by omega
  obtain ⟨y, h1, h2⟩ := hx xs[i] (List.getElem_mem hi')
  refine ⟨y, ?_, h2⟩
  rw [Nat.zero_add]
  exact own_cells h (by rw [List.getElem?_eq_getElem hi', h1])
theorem infoI : (Try.prog.info? 2).map (fun i => (i.zero, i.size, i.bytes)) = some (some (.int .i64 0), 1, 8) := by kernel_rfl
/-- how near ends -/
def NrP (m : Nat) (w : World) (e : Ending) (w' : World) : Prop := ∃ A n c xs, e = .returned (.slice A n c) ∧ n ≤ m ∧ w'.ownsRow w.heap.size 2 1 (.slice A n c) n xs ∧ Nms xs ∧ Below w.heap.size w w'
theorem own_made (W : World) (cs : List Value) (t : TypeId) {k n : Nat} (hl : cs.length = n * k) (hn : n ≤ 1000000) (B : Nat) (hB : B ≤ W.heap.size) : (W.alloc (.cells cs.toArray t)).ownsRow B t k (.slice (some ⟨W.heap.size, 0, none⟩) n n) n cs :=
  ⟨hl, .inr ⟨W.heap.size, n, cs.toArray, rfl, hB, by show (W.heap.push _)[W.heap.size]? = _; simp, Nat.le_refl _, by unfold maxLen; omega, by simpa using hl, by show List.take (n * k) cs = cs; rw [← hl]; exact List.take_length⟩⟩
theorem own_gr {w w' : World} {B n c k : Nat} {e : TypeId} {A : Option Addr} {xs : List Value} {b : Option Nat} (h : w.ownsRow B e k (.slice A n c) n xs) (hg : w.grownBy w' b) (hne : ∀ g, blk A = some g → some g ≠ b) : w'.ownsRow B e k (.slice A n c) n xs := by
  refine ⟨h.1, ?_⟩
  rcases h.2 with h2 | ⟨g, cap, cur, hv, hB, hh, r⟩
  · exact .inl h2
  · have hlt : g < w.heap.size := by
      rcases Nat.lt_or_ge g w.heap.size with hlt | hge
      · exact hlt
      · rw [Array.getElem?_eq_none hge] at hh; cases hh
    obtain ⟨hA, _, _⟩ := Value.slice.inj hv
    exact .inr ⟨g, cap, cur, hv, hB, (hg.block g hlt (hne g (by rw [hA]; rfl))).trans hh, r⟩
/-- what near's loops hold -/
def NrI (w : World) (g0 : Nat) (f : Lf) (A : Option Addr) (n c : Nat) (W : World) : Prop :=
  ∃ xs, W.ownsRow w.heap.size 2 1 (.slice A n c) n xs ∧ Nms xs ∧ Lm W (some ⟨g0, 0, none⟩) f ∧ blk A ≠ some g0 ∧ Below w.heap.size w W
theorem NrI.below {w W W' : World} {g0 n c : Nat} {f : Lf} {A : Option Addr} (h : NrI w g0 f A n c W) (hb : Below W.heap.size W W') : NrI w g0 f A n c W' := by
  obtain ⟨xs, h1, h2, h3, h4, h5⟩ := h
  exact ⟨xs, own_below h1 hb, h2, h3.below hb, h4, below_step h5 hb h5.size⟩
theorem nms_add {xs : List Value} (h : Nms xs) {x : Int} (h0 : 0 ≤ x) (hT : x ≤ 10000000000) : Nms (xs ++ [.int .i64 x]) := fun u hu => by
  rcases List.mem_append.1 hu with h1 | h1
  · exact h u h1
  · simp only [List.mem_cons, List.not_mem_nil, or_false] at h1
    exact ⟨x, h1, h0, hT⟩
theorem meas_k {k : Int} (h1 : -2 ≤ k) (h2 : k < 3) : (3 - intOf (.int .i64 (k + 1))).toNat < (3 - intOf (.int .i64 k)).toNat := by
  simp [intOf]; omega
theorem Lm.cell0 {W : World} {g0 : Nat} {f : Lf} (h : Lm W (some ⟨g0, 0, none⟩) f) (hn : 0 < f.n) : W.cell? ⟨g0, 0, none⟩ = some (.int .i64 (f.F 0)) := by
  obtain ⟨b, o, e, c0, _⟩ := lm_at h hn
  obtain ⟨rfl, rfl⟩ : g0 = b ∧ 0 = o := by simpa using e
  simpa using c0
set_option maxHeartbeats 4000000 in
set_option maxRecDepth 100000 in
theorem near_any (A B : Option Addr) (c d : Nat) (f g : Lf) (w : World) (h : Lm w A f) (h2 : Lm w B g) (hf : Rk f) (hg : Rk g) (hn : 0 < f.n ∧ f.n ≤ 512) (hm : 0 < g.n ∧ g.n ≤ 512) :
    Calls Try.prog 15 #[.slice A f.n c, .slice B g.n d] w (NrP 10000 w) := by
  obtain ⟨i0', hi0, hz0, hz1, hz2⟩ := info_parts infoLn
  have Hi := Lib.hid hi0
  have Hz := Lib.hid hz0
  obtain ⟨j0', hj0, hy0, hy1, hy2⟩ := info_parts infoI
  have Ji := Lib.hid hj0
  have Jz := Lib.hid hy0
  clear hi0 hz0 hj0 hy0
  have hF := Lib.hid hf
  have hG := Lib.hid hg
  have B1 := below_new w (.cells #[.int .i64 0, .int .i64 1, .int .i64 10000000000] 2)
  have O1 := own_made w [.int .i64 0, .int .i64 1, .int .i64 10000000000] 2 (k := 1) (n := 3) rfl (by omega) w.heap.size (Nat.le_refl _)
  have X1 : Nms [.int .i64 0, .int .i64 1, .int .i64 10000000000] := fun u hu => by
    simp only [List.mem_cons, List.not_mem_nil, or_false] at hu
    rcases hu with rfl | rfl | rfl <;> exact ⟨_, rfl, by omega, by omega⟩
  have hsz : (w.alloc (.cells #[.int .i64 0, .int .i64 1, .int .i64 10000000000] 2)).heap.size = w.heap.size + 1 := by simp
  have O2 := own_made (w.alloc (.cells #[.int .i64 0, .int .i64 1, .int .i64 10000000000] 2)) [] 37 (k := 3) (n := 0) rfl (by omega) (w.heap.size + 1) (by rw [hsz]; exact Nat.le_refl _)
  rw [hsz] at O2
  have B2 := B1.alloc B1.size (.cells #[] 37)
  have O1' := own_below O1 (below_new (w.alloc (.cells #[.int .i64 0, .int .i64 1, .int .i64 10000000000] 2)) (.cells #[] 37))
  obtain ⟨fb, fo, rfl, _⟩ := id (h hn.1)
  obtain ⟨gb, go, rfl, _⟩ := id (h2 hm.1)
  have hnews := lm_news (h.below B2)
  have hone := lnL_one f f.n
  have hnews2 := fun (W : World) (hb : Below w.heap.size w W) => lm_news (h2.below hb)
  have hone2 := lnL_one g g.n
  have hl1 := lnL_len f f.n
  have hl2 := lnL_len g g.n
  have hz9 : w.heap.size + 1 ≤ ((w.alloc (.cells #[.int .i64 0, .int .i64 1, .int .i64 10000000000] 2)).alloc (.cells #[] 37)).heap.size := by simp
  have hc3 : Hid (0 + f.n ≤ maxLen) := Lib.hid (by unfold maxLen; omega)
  have hc4 : Hid ((0 + f.n) * 24 ≤ 140737488355328) := Lib.hid (by omega)
  have hc5 : Hid (f.n + g.n ≤ maxLen) := Lib.hid (by unfold maxLen; omega)
  have hc6 : Hid ((f.n + g.n) * 24 ≤ 140737488355328) := Lib.hid (by omega)
  have HN := Lib.hid (And.intro hn hm)
  have hn1 := hn.1
  have hm1 := hm.1
  clear hf hg O1 B1 hsz h h2 hn hm
  go_enter Try.func15, Try.ntmps15
  go_wp2_with (first
    | (refine wpList_append_lies _ rfl (.tmp 11) (.tmp 12) 23 rfl (w.heap.size + 1) 37 i0' (.agg #[.int .i64 0, .int .i64 0, .int .i64 0]) 3 24 Try.underlying23 Hi.out Hz.out hz1 hz2 (by rfl) (by decide) _ 0 [] (by rfl) O2 ⟨fb, fo, none⟩ f.n c (lnL f f.n) (by rfl) hl1 hnews hone hn1 hc3.out hc4.out hz9 _ rfl ?_; intro g9 cap9 w9 hown9 hgrow hat hlt9; rw [Nat.zero_add] at hown9; have B9 := B2.grown hgrow B2.size (fun j hj => Nat.le_trans (Nat.le_succ _) (O2.lt j hj).1); have P9 := own_gr O1' hgrow (fun j hj e => by have h1 := (O2.lt j e.symm).1; have h3 : w.heap.size = j := Option.some.inj hj; omega); have N9 := hnews2 w9 B9; have hz10 : w.heap.size + 1 ≤ w9.heap.size := Nat.le_trans hz9 hgrow.size)
    | (refine wpList_append_lies _ rfl (.tmp 13) (.tmp 14) 23 rfl (w.heap.size + 1) 37 i0' (.agg #[.int .i64 0, .int .i64 0, .int .i64 0]) 3 24 Try.underlying23 Hi.out Hz.out hz1 hz2 (by rfl) (by decide) _ f.n ([] ++ lnL f f.n) (by rfl) hown9 ⟨gb, go, none⟩ g.n d (lnL g g.n) (by rfl) hl2 N9 hone2 hm1 hc5.out hc6.out hz10 _ rfl ?_; intro g0 cap0 w0 hown0 hgrow0 hat0 hlt0; have B0 := B9.grown hgrow0 B9.size (fun j hj => Nat.le_trans (Nat.le_succ _) (hown9.lt j hj).1); have P0 := own_gr P9 hgrow0 (fun j hj e => by have h1 := (hown9.lt j e.symm).1; have h3 : w.heap.size = j := Option.some.inj hj; omega)))
  have hg0 : w.heap.size + 1 ≤ g0 := (hown0.lt g0 rfl).1
  have L0 : Lm w0 (some ⟨g0, 0, none⟩) (f.cat g) := by
    refine Own.lm (B := w.heap.size + 1) (c := cap0) ?_
    unfold Own
    rw [show (f.cat g).n = f.n + g.n from rfl, lnL_cat]
    exact hown0
  have I0 : NrI w g0 (f.cat g) (some ⟨w.heap.size, 0, none⟩) 3 3 w0 := ⟨_, P0, X1, L0, fun e => by have h3 : w.heap.size = g0 := Option.some.inj e; omega, B0⟩
  have hNb : f.n + g.n ≤ 1024 := by have := HN.out; omega
  clear hown0 hgrow0 hat0 hlt0 B0 P0 hown9 hgrow hat hlt9 B9 P9 N9 hz10 O2 B2 O1' hnews hone hnews2 hone2 hl1 hl2 hz9 hc3 hc4 hc5 hc6 hn1 hm1 L0 X1
  have hFb : ∀ i, i < (f.cat g).n → 0 ≤ (f.cat g).F i ∧ (f.cat g).F i ≤ 10000000000 := fun i hi => by
    have hi' : i < f.n + g.n := hi
    show 0 ≤ (if i < f.n then f.F i else g.F (i - f.n)) ∧ (if i < f.n then f.F i else g.F (i - f.n)) ≤ 10000000000
    split
    · exact hF.out.fb i (by omega)
    · exact hG.out.fb _ (by omega)
  have HFB := Lib.hid hFb
  clear hFb
  go_wp2
  go_loopw [5, 17] (fun s5 s17 W => ∃ i A n cc, i ≤ f.n + g.n ∧ s5 = .slice A n cc ∧ s17 = .int .i64 (i : Nat) ∧ n ≤ 3 + 5 * i ∧ NrI w g0 (f.cat g) A n cc W) (fun _ s17 _ => f.n + g.n - (intOf s17).toNat)
  case atStart => exact ⟨0, _, 3, 3, Nat.zero_le _, rfl, rfl, Nat.le_refl _, I0⟩
  case round =>
    clear I0
    obtain ⟨i, A, n, cc, hi, rfl, rfl, hnn, hI⟩ := hrel
    by_cases hlt : i < f.n + g.n
    · obtain ⟨_, hO, _, hL, _, hb⟩ := id hI
      obtain ⟨b5, o5, he5, c0, c1, c2⟩ := lm_at hL (i := i) hlt
      obtain ⟨rfl, rfl⟩ : g0 = b5 ∧ 0 = o5 := by simpa using he5
      rw [Nat.zero_add] at c0 c1 c2
      have hfi := HFB.out i hlt
      have KX := bx_new wr [.int .i64 ((f.cat g).F i), .int .i64 ((f.cat g).V i), .int .i64 ((f.cat g).R i)] 37
      have NX := below_new wr (.cells #[.int .i64 ((f.cat g).F i), .int .i64 ((f.cat g).V i), .int .i64 ((f.cat g).R i)] 37)
      have I1 := hI.below NX
      have hpb : blk A ≠ some wr.heap.size := fun e => by
        have := (hO.lt wr.heap.size ((blk_own _ _ _).trans e)).2
        omega
      clear hI hO hL hb NX
      generalize (f.cat g).F i = x at *
      generalize (f.cat g).V i = xv at *
      generalize (f.cat g).R i = xr at *
      go_wp2
      generalize wr.alloc (.cells #[.int .i64 x, .int .i64 xv, .int .i64 xr] 37) = wx at *
      generalize wr.heap.size = pb at *
      clear c0 c1 c2
      have hn0 : (n : Int) ≤ 3 + 5 * i + (-2 + 2) := by omega
      go_loopw [5, 8] (fun s5 s8 W => ∃ (k : Int) (A : Option Addr) (n cc : Nat), -2 ≤ k ∧ k ≤ 3 ∧ s5 = .slice A n cc ∧ s8 = .int .i64 k ∧ (n : Int) ≤ 3 + 5 * i + (k + 2) ∧ NrI w g0 (f.cat g) A n cc W ∧ Bx W pb 37 [.int .i64 x, .int .i64 xv, .int .i64 xr] ∧ blk A ≠ some pb) (fun _ s8 _ => (3 - intOf s8).toNat)
      case atStart => exact ⟨-2, A, n, cc, by omega, by omega, rfl, rfl, hn0, I1, KX, hpb⟩
      case round =>
        clear I1 KX hpb hn0 hnn
        obtain ⟨k, A2, n2, c2, hk1, hk2, rfl, rfl, hnn, hI, KX, hpb⟩ := hrel
        by_cases hk : k < 3
        · have d0 : decide (k < 3) = true := decide_eq_true hk
          have u1 : IntKind.i64.wrap (x + k) = x + k := IntWalk.i64_in _ (by omega)
          have u2 : IntKind.i64.wrap (k + 1) = k + 1 := IntWalk.i64_in _ (by omega)
          have k0 := KX.cell (i := 0) rfl
          by_cases hx : 0 ≤ x + k ∧ x + k ≤ 10000000000
          · have d1 : decide (0 ≤ x + k) = true := decide_eq_true hx.1
            have d2 : decide (x + k ≤ 10000000000) = true := decide_eq_true hx.2
            obtain ⟨xs, hO, hX, hL, hne, hb⟩ := hI
            have NX := below_new wr (.cells #[.int .i64 (x + k)] 2)
            have HO := own_below hO NX
            have HL := hL.below NX
            have HK := KX.below NX
            have B3 := below_step hb NX hb.size
            have HP := Lib.hid (And.intro hne hpb)
            have HX := Lib.hid (nms_add hX hx.1 hx.2)
            have hone : ∀ u ∈ ([.int .i64 (x + k)] : List Value), u.oneCell' = true := by simp [Value.oneCell']
            have hc3 : Hid (n2 + 1 ≤ maxLen) := Lib.hid (by unfold maxLen; omega)
            have hc4 : Hid ((n2 + 1) * 8 ≤ 140737488355328) := Lib.hid (by omega)
            have HLT := Lib.hid (And.intro (World.block_lt_of_cell? _ _ (hL.cell0 (by show 0 < f.n + g.n; omega))) KX.lt)
            have HNX := Lib.hid NX.size
            have HKK := Lib.hid (And.intro hk1 (And.intro hk hnn))
            clear hO hX hL hne hb hpb KX hx hk1 hk2 NX hnn
            go_wp2_with (refine wpList_append_lies _ rfl (.tmp 35) (.tmp 37) 34 rfl w.heap.size 2 j0' (.int .i64 0) 1 8 Try.underlying34 Ji.out Jz.out hy1 hy2 (by rfl) (by decide) _ n2 xs (by rfl) HO ⟨_, 0, none⟩ 1 1 [.int .i64 (x + k)] (by rfl) (by rfl) (cells_at8 _ [.int .i64 (x + k)] _ rfl) hone (by decide) hc3.out hc4.out B3.size _ rfl ?_; intro g9 cap9 w9 hown9 hgrow hat hlt9)
            rw [blk_own] at hgrow hat
            have B9 := B3.grown hgrow B3.size (fun j hj => (HO.lt j ((blk_own _ _ _).trans hj)).1)
            have L9 := HL.grown hgrow (fun e => HP.out.1 e.symm)
            have K9 := HK.of_block (hgrow.block pb HK.lt (fun e => HP.out.2 e.symm))
            have hneq : ∀ q, q < wr.heap.size → blk A2 ≠ some q → blk (some (⟨g9, 0, none⟩ : Addr)) ≠ some q := fun q hq hnq e => by
              have e' : g9 = q := Option.some.inj e
              rcases hat with e1 | e1
              · rw [e'] at e1; exact hnq e1
              · have h2 : (wr.alloc (.cells #[.int .i64 (x + k)] 2)).heap.size = wr.heap.size + 1 := by simp
                omega
            have I9 : NrI w g0 (f.cat g) (some ⟨g9, 0, none⟩) (n2 + 1) cap9 w9 := ⟨_, hown9, HX.out, L9, hneq g0 HLT.out.1 HP.out.1, B9⟩
            have P9 := hneq pb HLT.out.2 HP.out.2
            go_round
            case rel => exact ⟨k + 1, _, _, _, by have := HKK.out; omega, by have := HKK.out; omega, rfl, rfl, by have := HKK.out; omega, I9, K9, P9⟩
            case measure => exact meas_k HKK.out.1 HKK.out.2.1
          · have HKK := Lib.hid (And.intro hk1 (And.intro hk hnn))
            rcases (show ¬ 0 ≤ x + k ∨ (0 ≤ x + k ∧ ¬ x + k ≤ 10000000000) by omega) with h1 | ⟨h1, h2⟩
            · have d1 : decide (0 ≤ x + k) = false := decide_eq_false h1
              clear hx h1 hnn
              go_wp2
              go_round
              case rel => exact ⟨k + 1, A2, n2, c2, by have := HKK.out; omega, by have := HKK.out; omega, rfl, rfl, by have := HKK.out; omega, hI, KX, hpb⟩
              case measure => exact meas_k HKK.out.1 HKK.out.2.1
            · have d1 : decide (0 ≤ x + k) = true := decide_eq_true h1
              have d2 : decide (x + k ≤ 10000000000) = false := decide_eq_false h2
              clear hx h1 h2 hnn
              go_wp2
              go_round
              case rel => exact ⟨k + 1, A2, n2, c2, by have := HKK.out; omega, by have := HKK.out; omega, rfl, rfl, by have := HKK.out; omega, hI, KX, hpb⟩
              case measure => exact meas_k HKK.out.1 HKK.out.2.1
        · have d0 : decide (k < 3) = false := decide_eq_false hk
          have hn5 : n2 ≤ 3 + 5 * (i + 1) := by omega
          have HN5 := Lib.hid hn5
          have hi1 : i + 1 ≤ 2000 := by omega
          clear hn5 hnn hk hk1 hk2
          go_wp2
          go_round
          case rel => exact ⟨i + 1, A2, n2, c2, Nat.succ_le_of_lt hlt, rfl, by go_num, HN5.out, hI⟩
          case measure => exact meas_step hlt
    · obtain rfl : i = f.n + g.n := by omega
      obtain ⟨xs, hO, hX, hL, hne, hb⟩ := hI
      have HR : NrP 10000 w (.returned (.slice A n cc)) wr := ⟨A, n, cc, xs, rfl, by omega, hO, hX, hb⟩
      have HRR := Lib.hid HR
      clear HR hO hX hL hne hb
      go_wp2
      go_ret
      exact HRR.out
end Go.Proofs.Ytcldknmhmbpboaa
