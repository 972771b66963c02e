/- What date.Parse answers of any short text: the day, or why it is none. -/
import Derived.Test.YtkgfmanolanlhaaDoorTextD
import Derived.Shelf.Strings.SplitShaped
import Derived.Shelf.Pu.ErrVarParseUint
namespace Go.Proofs.YtkgfmanolanlhaaDoor
open Go.RowKit Go.Shelf
set_option linter.unusedVariables false
set_option linter.unusedSimpArgs false

theorem puM_bd {M : Nat} : ∀ {l : List UInt8} {acc u : Nat}, Lib.parseUintM M acc l = .ok u → acc ≤ M → u ≤ M
  | [], acc, u, h, ha => by cases h; exact ha
  | c :: r, acc, u, h, ha => by
    unfold Lib.parseUintM at h
    split at h
    · split at h
      · cases h
      · split at h
        · cases h
        · exact puM_bd h (by omega)
    · cases h
theorem rd_bd {l : List UInt8} {n u : Nat} (h : rd l n = some u) : u ≤ 65535 := by
  obtain ⟨h1, h2⟩ := rd_some h
  unfold Lib.parseUintB at h1
  split at h1
  · cases h1
  · exact puM_bd h1 (by omega)
/-- the pieces of a text, whatever their number -/
theorem form_splitK {l p0 p1 p2 : List UInt8} {k x y z : Nat} (h : Lib.splitK [45] 0 k l = [p0, p1, p2]) (h0 : rd p0 4 = some x) (h1 : rd p1 2 = some y) (h2 : rd p2 2 = some z) : formB l = true := by
  have e := splitK_join k l
  rw [h, join_day] at e
  obtain ⟨l0, a0⟩ := rd_digits h0
  obtain ⟨l1, a1⟩ := rd_digits h1
  obtain ⟨l2, a2⟩ := rd_digits h2
  match p0, l0, p1, l1, p2, l2 with
  | [a, b, c, d], _, [f, g], _, [i, j], _ =>
    rw [e]
    simp only [List.cons_append, List.nil_append, formB]
    rw [a0 a (by simp), a0 b (by simp), a0 c (by simp), a0 d (by simp), a1 f (by simp), a1 g (by simp), a2 i (by simp), a2 j (by simp)]
    rfl
/-- pieces in their places -/
def Pcs (b : Nat) (xs : List ByteArray) (W : World) : Prop := ∀ (j : Nat) (x : ByteArray), xs[j]? = some x → W.cell? ⟨b, j, none⟩ = some (.string x)
/-- what strings.SplitN answers of a text, cut at '-' in at most three -/
def SP (s : ByteArray) (W : World) (e : Ending) (w' : World) : Prop := ∃ (xs : List ByteArray) (k c : Nat), e = .returned (.slice (some ⟨W.heap.size, 0, none⟩) xs.length c) ∧ xs.length ≤ 3 ∧ xs.length ≤ c ∧ c ≤ 3 ∧ xs.map (·.data.toList) = Lib.splitK [45] 0 k s.data.toList ∧ (10 ≤ s.size → k = 2) ∧ Pcs W.heap.size xs w' ∧ W.heap.size < w'.heap.size ∧ Below W.heap.size W w'
theorem split_any (s : ByteArray) (hs : s.size ≤ 1000) (W : World) (D : Door W) : Calls Tryd.prog 49 #[.string s, .string ⟨#[45]⟩, .int .i64 3] W (SP s W) := by
  obtain ⟨m, hm⟩ := D.2.2.2.2.1
  have h := Tryd.strings_SplitN s ⟨#[45]⟩ 3 m W (by omega) hm (by decide) (by omega) (by omega)
  refine h.mono ?_
  rintro e w' ⟨rfl, rfl⟩
  have hl := Lib.splitB_length_le ⟨#[45]⟩ 0 (min 3 (s.size + 1) - 1) s
  refine ⟨Lib.splitB ⟨#[45]⟩ 0 (min 3 (s.size + 1) - 1) s, min 3 (s.size + 1) - 1, min 3 (s.size + 1), rfl, by omega, by omega, by omega, Lib.splitB_data _ _ _ _, by omega, ?_, by simp, (Below.refl _ _).alloc (Nat.le_refl _) _⟩
  intro j x hx
  rw [World.cell?_alloc_new]
  generalize Lib.splitB ⟨#[45]⟩ 0 (min 3 (s.size + 1) - 1) s = xs at *
  have hj : j < xs.length := (List.getElem?_eq_some_iff.1 hx).1
  simp [Lib.cellsOf, List.getElem?_append, hj]
  exact (List.getElem?_eq_some_iff.1 hx).2
/-- what strconv.ParseUint answers of a piece: a number, as many signs as are wanted, and no error; or else -/
def PU (p : ByteArray) (n : Nat) (W : World) (e : Ending) (w' : World) : Prop := ∃ (u : Int) (ev : Value), e = .returned (.tuple #[.int .u64 u, ev]) ∧ Below W.heap.size W w' ∧ ((∃ r : Nat, rd p.data.toList n = some r ∧ u = r ∧ ev = .nilIface ∧ p.size = n) ∨ (rd p.data.toList n = none ∧ ((ev = .nilIface ∧ p.size ≠ n) ∨ ∃ t a, ev = .iface t (.pointer (some ⟨a, 0, none⟩)))))
theorem pu_any (p : ByteArray) (n : Nat) (hp : p.size ≤ 1000) (W : World) (D : Door W) : Calls Tryd.prog 50 #[.string p, .int .i64 10, .int .i64 16] W (PU p n W) := by
  have hps : p.data.toList.length = p.size := by rw [Array.length_toList]; rfl
  cases h : Lib.parseUintB 16 p.data.toList with
  | ok u =>
    refine (Tryd.strconv_ParseUint_10_at16_ok p (by omega) u h W).mono ?_
    rintro e w' ⟨rfl, hw⟩
    refine ⟨u, .nilIface, rfl, ?_, ?_⟩
    · rcases hw with rfl | rfl
      · exact Below.refl _ _
      · exact Go.Joins.below_bytesWorld _ _ _ _ (Nat.le_refl _)
    · by_cases q : p.size = n
      · refine .inl ⟨u, ?_, rfl, rfl, q⟩
        unfold rd; rw [h]; simp only; rw [if_pos (by omega)]
      · refine .inr ⟨?_, .inl ⟨rfl, q⟩⟩
        unfold rd; rw [h]; simp only; rw [if_neg (by omega)]
  | «syntax» =>
    obtain ⟨⟨t, v, hv⟩, _⟩ := D.2.2.1
    refine (Tryd.strconv_ParseUint_10_at16_syntax p (by omega) h _ W hv (.inr ⟨t, v, rfl⟩)).mono ?_
    rintro e w' ⟨N, rfl, _, _, hb⟩
    refine ⟨0, _, rfl, hb, .inr ⟨?_, .inr ⟨_, N, rfl⟩⟩⟩
    unfold rd; rw [h]
  | range =>
    obtain ⟨⟨t, v, hv⟩, _⟩ := D.2.2.2.1
    refine (Tryd.strconv_ParseUint_10_at16_range p (by omega) h _ W hv (.inr ⟨t, v, rfl⟩)).mono ?_
    rintro e w' ⟨N, rfl, _, _, hb⟩
    refine ⟨65535, _, rfl, hb, .inr ⟨?_, .inr ⟨_, N, rfl⟩⟩⟩
    unfold rd; rw [h]
/-- what a text is read as -/
def paV (s : ByteArray) : Value := if formB s.data.toList = true then (if dayB (vY s.data.toList) (vM s.data.toList) (vD s.data.toList) = true then .tuple #[.agg #[.int .i64 (vY s.data.toList), .int .i64 (vM s.data.toList), .int .i64 (vD s.data.toList)], .int .i64 0] else .tuple #[.agg #[.int .i64 0, .int .i64 0, .int .i64 0], .int .i64 30]) else .tuple #[.agg #[.int .i64 0, .int .i64 0, .int .i64 0], .int .i64 5]
/-- the result's place, the pieces and the numbers, as they are held -/
def PK (w : World) (r b q : Nat) (p0 p1 p2 : ByteArray) (x0 x1 x2 : Value) (W : World) : Prop := WS w q x0 x1 x2 W ∧ Day W r 0 0 0 ∧ Free W r ∧ r < W.heap.size ∧ w.heap.size ≤ r ∧ r ≠ q ∧ W.cell? ⟨b, 0, none⟩ = some (.string p0) ∧ W.cell? ⟨b, 1, none⟩ = some (.string p1) ∧ W.cell? ⟨b, 2, none⟩ = some (.string p2) ∧ b < W.heap.size ∧ b ≠ q
theorem PK.step {w W W' : World} {r b q : Nat} {p0 p1 p2 : ByteArray} {x0 x1 x2 : Value} (hb : Below W.heap.size W W') (M : PK w r b q p0 p1 p2 x0 x1 x2 W) : PK w r b q p0 p1 p2 x0 x1 x2 W' := by
  obtain ⟨S, Dy, f, hz, hl, hrq, c0, c1, c2, bz, hbq⟩ := M
  exact ⟨S.step hb, Dy.below hb hz, f.below hb hz, by have := hb.size; omega, hl, hrq, (hb.cell (p := ⟨b, 0, none⟩) bz).trans c0, (hb.cell (p := ⟨b, 1, none⟩) bz).trans c1, (hb.cell (p := ⟨b, 2, none⟩) bz).trans c2, by have := hb.size; omega, hbq⟩
theorem cell_block {W : World} {b b' k j : Nat} {v x : Value} (h : W.cell? ⟨b, j, none⟩ = some x) (hk : b ≠ b') : (W.setCell ⟨b', k, none⟩ v).cell? ⟨b, j, none⟩ = some x := by
  rw [World.cell?_setCell_other]
  · exact h
  · intro e
    injection e with e1
    exact hk e1.symm
theorem PK.keep {w W : World} {r b q : Nat} {p0 p1 p2 : ByteArray} {x0 x1 x2 y0 y1 y2 : Value} {k : Nat} {v : Value} (M : PK w r b q p0 p1 p2 x0 x1 x2 W) (S : WS w q y0 y1 y2 (W.setCell ⟨q, k, none⟩ v)) : PK w r b q p0 p1 p2 y0 y1 y2 (W.setCell ⟨q, k, none⟩ v) := by
  obtain ⟨_, ⟨d0, d1, d2⟩, f, hz, hl, hrq, c0, c1, c2, bz, hbq⟩ := M
  exact ⟨S, ⟨cell_block d0 hrq, cell_block d1 hrq, cell_block d2 hrq⟩, free_set f v, by simpa using hz, hl, hrq, cell_block c0 hbq, cell_block c1 hbq, cell_block c2 hbq, by simpa using bz, hbq⟩
theorem PK.set0 {w W : World} {r b q : Nat} {p0 p1 p2 : ByteArray} {x0 x1 x2 : Value} (v : Value) (M : PK w r b q p0 p1 p2 x0 x1 x2 W) : PK w r b q p0 p1 p2 v x1 x2 (W.setCell ⟨q, 0, none⟩ v) := M.keep (M.1.set0 v)
theorem PK.set1 {w W : World} {r b q : Nat} {p0 p1 p2 : ByteArray} {x0 x1 x2 : Value} (v : Value) (M : PK w r b q p0 p1 p2 x0 x1 x2 W) : PK w r b q p0 p1 p2 x0 v x2 (W.setCell ⟨q, 1, none⟩ v) := M.keep (M.1.set1 v)
theorem PK.set2 {w W : World} {r b q : Nat} {p0 p1 p2 : ByteArray} {x0 x1 x2 : Value} (v : Value) (M : PK w r b q p0 p1 p2 x0 x1 x2 W) : PK w r b q p0 p1 p2 x0 x1 v (W.setCell ⟨q, 2, none⟩ v) := M.keep (M.1.set2 v)
theorem pk_new (w w1 : World) (b : Nat) (p0 p1 p2 : ByteArray) (t : TypeId) (h0 : w1.cell? ⟨b, 0, none⟩ = some (.string p0)) (h1 : w1.cell? ⟨b, 1, none⟩ = some (.string p1)) (h2 : w1.cell? ⟨b, 2, none⟩ = some (.string p2)) (Dy : Day w1 w.heap.size 0 0 0) (f : Free w1 w.heap.size) (B : Below w.heap.size w w1) (D : Door w) (E : Door w1) (hr : w.heap.size < w1.heap.size) (hb : b < w1.heap.size) :
    PK w w.heap.size b w1.heap.size p0 p1 p2 (.int .i64 0) (.int .i64 0) (.int .i64 0) (w1.alloc (.cells #[.int .i64 0, .int .i64 0, .int .i64 0] t)) := by
  have H : Below w1.heap.size w1 (w1.alloc (.cells #[.int .i64 0, .int .i64 0, .int .i64 0] t)) := (Below.refl _ _).alloc (Nat.le_refl _) _
  obtain ⟨n0, n1, n2⟩ := day_new w1 0 0 0 t
  exact ⟨⟨n0, n1, n2, free_new _ _ _, B.size, by simp, below_step B H B.size, E.below H, D⟩, Dy.below H hr, f.below H hr, by simp; omega, Nat.le_refl _, by omega, (H.cell (p := ⟨b, 0, none⟩) hb).trans h0, (H.cell (p := ⟨b, 1, none⟩) hb).trans h1, (H.cell (p := ⟨b, 2, none⟩) hb).trans h2, by simp; omega, by omega⟩
set_option maxRecDepth 100000 in
theorem parse_any (s : ByteArray) (hs : s.size ≤ 1000) (w : World) (D : Door w) : Calls Tryd.prog 25 #[.string s] w fun e w' => e = .returned (paV s) ∧ Below w.heap.size w w' := by
  have D0 := day_new w 0 0 0 23
  have F0 := free_new w #[.int .i64 0, .int .i64 0, .int .i64 0] 23
  have B0 : Below w.heap.size w (w.alloc (.cells #[.int .i64 0, .int .i64 0, .int .i64 0] 23)) := (Below.refl _ _).alloc (Nat.le_refl _) _
  have E0 := D.below B0
  have hsl : s.data.toList.length = s.size := by rw [Array.length_toList]; rfl
  go_enter Tryd.func25, Tryd.ntmps25
  go_wp2_with (fail)
  refine (split_any s hs _ E0).mono ?_
  rintro e w1 ⟨xs, k, c, rfl, hx3, hxc, hc3, hmap, hk, hpc, hz1, hb⟩
  have D1 := D0.below hb (by simp)
  have F1 := F0.below hb (by simp)
  have B1 := below_step B0 hb B0.size
  have E1 := E0.below hb
  have hr1 : w.heap.size < w1.heap.size := by have := hb.size; simp at this; omega
  have hbr : (w.alloc (.cells #[.int .i64 0, .int .i64 0, .int .i64 0] 23)).heap.size ≠ w.heap.size := by simp
  clear hb D0 F0 B0 E0
  generalize (w.alloc (.cells #[.int .i64 0, .int .i64 0, .int .i64 0] 23)).heap.size = b at *
  by_cases hlen : xs.length = 3
  · obtain ⟨p0, p1, p2, rfl⟩ : ∃ p0 p1 p2, xs = [p0, p1, p2] := by
      match xs, hlen with
      | [p0, p1, p2], _ => exact ⟨p0, p1, p2, rfl⟩
    have hc : c = 3 := by simp at hxc; omega
    subst hc
    have hmap' : [p0.data.toList, p1.data.toList, p2.data.toList] = Lib.splitK [45] 0 k s.data.toList := hmap
    have hjoin := splitK_join k s.data.toList
    rw [← hmap', join_day] at hjoin
    have hlens := congrArg List.length hjoin
    simp only [List.length_append, List.length_cons, Array.length_toList] at hlens
    have hs0 : p0.size ≤ 1000 := by have : p0.data.size = p0.size := rfl; have : s.data.size = s.size := rfl; omega
    have hs1 : p1.size ≤ 1000 := by have : p1.data.size = p1.size := rfl; have : s.data.size = s.size := rfl; omega
    have hs2 : p2.size ≤ 1000 := by have : p2.data.size = p2.size := rfl; have : s.data.size = s.size := rfl; omega
    have hform : formB s.data.toList = false → paV s = .tuple #[.agg #[.int .i64 0, .int .i64 0, .int .i64 0], .int .i64 5] := fun hf => by
      unfold paV
      rw [if_neg (by rw [hf]; exact Bool.noConfusion)]
    have hsome : formB s.data.toList = true → rd p0.data.toList 4 = some (vY s.data.toList).toNat ∧ rd p1.data.toList 2 = some (vM s.data.toList).toNat ∧ rd p2.data.toList 2 = some (vD s.data.toList).toNat := fun hf => by
      obtain ⟨a0, a1, a2, hq, e0, e1, e2⟩ := split_form hf
      have := form_len hf
      rw [hk (by omega), hq] at hmap'
      simp only [List.cons.injEq, and_true] at hmap'
      obtain ⟨rfl, rfl, rfl⟩ := hmap'
      exact ⟨e0, e1, e2⟩
    have hyes : ∀ {a b c : Nat}, rd p0.data.toList 4 = some a → rd p1.data.toList 2 = some b → rd p2.data.toList 2 = some c → formB s.data.toList = true ∧ vY s.data.toList = a ∧ vM s.data.toList = b ∧ vD s.data.toList = c := fun x y z => by
      have hf := form_splitK hmap'.symm x y z
      obtain ⟨e0, e1, e2⟩ := hsome hf
      obtain ⟨_, b1, _, b2, _, b3, _⟩ := txt_form hf
      rw [x] at e0; rw [y] at e1; rw [z] at e2
      have e0 := Option.some.inj e0
      have e1 := Option.some.inj e1
      have e2 := Option.some.inj e2
      exact ⟨hf, by omega, by omega, by omega⟩
    have hnot : ∀ {x}, (formB s.data.toList = true → x) → ¬ x → paV s = .tuple #[.agg #[.int .i64 0, .int .i64 0, .int .i64 0], .int .i64 5] := fun {x} hx hnx => by
      cases hf : formB s.data.toList with
      | true => exact absurd (hx hf) hnx
      | false => exact hform hf
    have hno0 : rd p0.data.toList 4 = none → paV s = .tuple #[.agg #[.int .i64 0, .int .i64 0, .int .i64 0], .int .i64 5] := fun h => hnot (fun hf => (hsome hf).1) (by rw [h]; intro e; cases e)
    have hno1 : ∀ {a : Nat}, rd p0.data.toList 4 = some a → rd p1.data.toList 2 = none → paV s = .tuple #[.agg #[.int .i64 0, .int .i64 0, .int .i64 0], .int .i64 5] := fun _ h => hnot (fun hf => (hsome hf).2.1) (by rw [h]; intro e; cases e)
    have hno2 : ∀ {a b : Nat}, rd p0.data.toList 4 = some a → rd p1.data.toList 2 = some b → rd p2.data.toList 2 = none → paV s = .tuple #[.agg #[.int .i64 0, .int .i64 0, .int .i64 0], .int .i64 5] := fun _ _ h => hnot (fun hf => (hsome hf).2.2) (by rw [h]; intro e; cases e)
    have hp0 := hpc 0 p0 rfl
    have hp1 := hpc 1 p1 rfl
    have hp2 := hpc 2 p2 rfl
    clear hpc hmap hmap' hjoin hlens hform hnot hsome hk hxc hx3 hlen hc3
    have P : PK w w.heap.size b w1.heap.size p0 p1 p2 (.int .i64 0) (.int .i64 0) (.int .i64 0) (w1.alloc (.cells #[.int .i64 0, .int .i64 0, .int .i64 0] 60)) := pk_new w w1 b p0 p1 p2 60 hp0 hp1 hp2 D1 F1 B1 D E1 hr1 hz1
    have ix0 := index3_0 4 2 2
    have ix1 := index3_1 4 2 2
    have ix2 := index3_2 4 2 2
    obtain ⟨⟨⟨y0, y1, y2⟩, yz⟩, _⟩ := E1
    go_wp2
    clear y0 y1 y2 yz hp0 hp1 hp2 D1 F1 B1
    generalize w1.heap.size = q at *
    refine wp_loop_rounds 4 ?_
    rw [rounds_succ]
    obtain ⟨⟨h0, h1, h2, ⟨g0, g1, g2⟩, hlq, hzq, hB, hDD, _⟩, ⟨q0, q1, q2⟩, ⟨f0, f1, f2⟩, hzr, hlr, hrq, c0, c1, c2, hzb, hbq⟩ := id P
    go_wp2_with (fail)
    refine (pu_any p0 4 (by omega) _ P.1.2.2.2.2.2.2.2.1).mono ?_
    rintro e w0a ⟨u0, ev0, rfl, hb, hx⟩
    have N0 := P.step hb
    clear hb P h0 h1 h2 g0 g1 g2 hlq hzq hB hDD q0 q1 q2 f0 f1 f2 hzr hlr hrq c0 c1 c2 hzb hbq
    obtain ⟨⟨h0, h1, h2, ⟨g0, g1, g2⟩, hlq, hzq, hB, hDD, _⟩, ⟨q0, q1, q2⟩, ⟨f0, f1, f2⟩, hzr, hlr, hrq, c0, c1, c2, hzb, hbq⟩ := id N0
    rcases hx with ⟨r0, hr0, rfl, rfl, hsz0⟩ | ⟨hr0, ⟨rfl, hsz0⟩ | ⟨t0, a0, rfl⟩⟩
    rotate_left
    · have hv := hno0 hr0
      have hsn : (((p0.size : Nat) : Int) != 4) = true := by simp; omega
      clear N0
      go_wp2
      exact bodyPost_ret (v := .tuple #[.agg #[.int .i64 0, .int .i64 0, .int .i64 0], .int .i64 5]) (by simp [results, Tryd.results25, go_sem, q0, q1, q2]) rfl ⟨by rw [hv], ((hB.setCell (Nat.le_refl _) _).setCell (Nat.le_refl _) _).setCell (Nat.le_refl _) _⟩
    · have hv := hno0 hr0
      clear N0
      go_wp2
      exact bodyPost_ret (v := .tuple #[.agg #[.int .i64 0, .int .i64 0, .int .i64 0], .int .i64 5]) (by simp [results, Tryd.results25, go_sem, q0, q1, q2]) rfl ⟨by rw [hv], ((hB.setCell (Nat.le_refl _) _).setCell (Nat.le_refl _) _).setCell (Nat.le_refl _) _⟩
    have hsn : (((p0.size : Nat) : Int) != 4) = false := by simp; omega
    have hrb0 := rd_bd hr0
    go_wp2
    have P0 := N0.set0 (.int .i64 r0)
    clear N0 h0 h1 h2 g0 g1 g2 hlq hzq hB hDD q0 q1 q2 f0 f1 f2 hzr hlr hrq c0 c1 c2 hzb hbq hsn
    generalize w0a.setCell ⟨q, 0, none⟩ (.int .i64 r0) = W0 at *
    rw [rounds_succ]
    obtain ⟨⟨h0, h1, h2, ⟨g0, g1, g2⟩, hlq, hzq, hB, hDD, _⟩, ⟨q0, q1, q2⟩, ⟨f0, f1, f2⟩, hzr, hlr, hrq, c0, c1, c2, hzb, hbq⟩ := id P0
    go_wp2_with (fail)
    refine (pu_any p1 2 (by omega) _ P0.1.2.2.2.2.2.2.2.1).mono ?_
    rintro e w1a ⟨u1, ev1, rfl, hb, hx⟩
    have N1 := P0.step hb
    clear hb P0 h0 h1 h2 g0 g1 g2 hlq hzq hB hDD q0 q1 q2 f0 f1 f2 hzr hlr hrq c0 c1 c2 hzb hbq
    obtain ⟨⟨h0, h1, h2, ⟨g0, g1, g2⟩, hlq, hzq, hB, hDD, _⟩, ⟨q0, q1, q2⟩, ⟨f0, f1, f2⟩, hzr, hlr, hrq, c0, c1, c2, hzb, hbq⟩ := id N1
    rcases hx with ⟨r1, hr1, rfl, rfl, hsz1⟩ | ⟨hr1, ⟨rfl, hsz1⟩ | ⟨t1, a1, rfl⟩⟩
    rotate_left
    · have hv := hno1 hr0 hr1
      have hsn : (((p1.size : Nat) : Int) != 2) = true := by simp; omega
      clear N1
      go_wp2
      exact bodyPost_ret (v := .tuple #[.agg #[.int .i64 0, .int .i64 0, .int .i64 0], .int .i64 5]) (by simp [results, Tryd.results25, go_sem, q0, q1, q2]) rfl ⟨by rw [hv], ((hB.setCell (Nat.le_refl _) _).setCell (Nat.le_refl _) _).setCell (Nat.le_refl _) _⟩
    · have hv := hno1 hr0 hr1
      clear N1
      go_wp2
      exact bodyPost_ret (v := .tuple #[.agg #[.int .i64 0, .int .i64 0, .int .i64 0], .int .i64 5]) (by simp [results, Tryd.results25, go_sem, q0, q1, q2]) rfl ⟨by rw [hv], ((hB.setCell (Nat.le_refl _) _).setCell (Nat.le_refl _) _).setCell (Nat.le_refl _) _⟩
    have hsn : (((p1.size : Nat) : Int) != 2) = false := by simp; omega
    have hrb1 := rd_bd hr1
    go_wp2
    have P1 := N1.set1 (.int .i64 r1)
    clear N1 h0 h1 h2 g0 g1 g2 hlq hzq hB hDD q0 q1 q2 f0 f1 f2 hzr hlr hrq c0 c1 c2 hzb hbq hsn
    generalize w1a.setCell ⟨q, 1, none⟩ (.int .i64 r1) = W1 at *
    rw [rounds_succ]
    obtain ⟨⟨h0, h1, h2, ⟨g0, g1, g2⟩, hlq, hzq, hB, hDD, _⟩, ⟨q0, q1, q2⟩, ⟨f0, f1, f2⟩, hzr, hlr, hrq, c0, c1, c2, hzb, hbq⟩ := id P1
    go_wp2_with (fail)
    refine (pu_any p2 2 (by omega) _ P1.1.2.2.2.2.2.2.2.1).mono ?_
    rintro e w2a ⟨u2, ev2, rfl, hb, hx⟩
    have N2 := P1.step hb
    clear hb P1 h0 h1 h2 g0 g1 g2 hlq hzq hB hDD q0 q1 q2 f0 f1 f2 hzr hlr hrq c0 c1 c2 hzb hbq
    obtain ⟨⟨h0, h1, h2, ⟨g0, g1, g2⟩, hlq, hzq, hB, hDD, _⟩, ⟨q0, q1, q2⟩, ⟨f0, f1, f2⟩, hzr, hlr, hrq, c0, c1, c2, hzb, hbq⟩ := id N2
    rcases hx with ⟨r2, hr2, rfl, rfl, hsz2⟩ | ⟨hr2, ⟨rfl, hsz2⟩ | ⟨t2, a2, rfl⟩⟩
    rotate_left
    · have hv := hno2 hr0 hr1 hr2
      have hsn : (((p2.size : Nat) : Int) != 2) = true := by simp; omega
      clear N2
      go_wp2
      exact bodyPost_ret (v := .tuple #[.agg #[.int .i64 0, .int .i64 0, .int .i64 0], .int .i64 5]) (by simp [results, Tryd.results25, go_sem, q0, q1, q2]) rfl ⟨by rw [hv], ((hB.setCell (Nat.le_refl _) _).setCell (Nat.le_refl _) _).setCell (Nat.le_refl _) _⟩
    · have hv := hno2 hr0 hr1 hr2
      clear N2
      go_wp2
      exact bodyPost_ret (v := .tuple #[.agg #[.int .i64 0, .int .i64 0, .int .i64 0], .int .i64 5]) (by simp [results, Tryd.results25, go_sem, q0, q1, q2]) rfl ⟨by rw [hv], ((hB.setCell (Nat.le_refl _) _).setCell (Nat.le_refl _) _).setCell (Nat.le_refl _) _⟩
    have hsn : (((p2.size : Nat) : Int) != 2) = false := by simp; omega
    have hrb2 := rd_bd hr2
    go_wp2
    have P2 := N2.set2 (.int .i64 r2)
    clear N2 h0 h1 h2 g0 g1 g2 hlq hzq hB hDD q0 q1 q2 f0 f1 f2 hzr hlr hrq c0 c1 c2 hzb hbq hsn
    generalize w2a.setCell ⟨q, 2, none⟩ (.int .i64 r2) = W2 at *
    obtain ⟨hf, e0, e1, e2⟩ := hyes hr0 hr1 hr2
    have hv : paV s = if dayB r0 r1 r2 = true then .tuple #[.agg #[.int .i64 r0, .int .i64 r1, .int .i64 r2], .int .i64 0] else .tuple #[.agg #[.int .i64 0, .int .i64 0, .int .i64 0], .int .i64 30] := by
      unfold paV
      rw [if_pos hf, e0, e1, e2]
    clear hyes hno0 hno1 hno2 hf e0 e1 e2 ix0 ix1 ix2 hr0 hr1 hr2
    rw [rounds_succ]
    obtain ⟨⟨h0, h1, h2, ⟨g0, g1, g2⟩, hlq, hzq, hB, hDD, _⟩, ⟨q0, q1, q2⟩, ⟨f0, f1, f2⟩, hzr, hlr, hrq, c0, c1, c2, hzb, hbq⟩ := id P2
    have hDt := day_new W2 r0 r1 r2 23
    have hH : Below W2.heap.size W2 (W2.alloc (.cells #[.int .i64 r0, .int .i64 r1, .int .i64 r2] 23)) := (Below.refl _ _).alloc (Nat.le_refl _) _
    cases hd : dayB r0 r1 r2 with
    | false =>
      replace hv : paV s = .tuple #[.agg #[.int .i64 0, .int .i64 0, .int .i64 0], .int .i64 30] := by rw [hv, hd]; rfl
      go_wp2_with (fail)
      refine (right_b _ _ _ false hd _).mono ?_
      rintro e w3 ⟨rfl, hb⟩
      have P3 := (P2.step hH).step hb
      clear hDt hH hb P2 h0 h1 h2 g0 g1 g2 hlq hzq hB hDD q0 q1 q2 f0 f1 f2 hzr hlr hrq c0 c1 c2 hzb hbq
      obtain ⟨⟨_, _, _, _, _, _, hB, _, _⟩, ⟨q0, q1, q2⟩, ⟨f0, f1, f2⟩, _⟩ := id P3
      clear P3
      go_wp2
      exact bodyPost_ret (v := .tuple #[.agg #[.int .i64 0, .int .i64 0, .int .i64 0], .int .i64 30]) (by simp [results, Tryd.results25, go_sem, q0, q1, q2]) rfl ⟨by rw [hv], ((hB.setCell (Nat.le_refl _) _).setCell (Nat.le_refl _) _).setCell (Nat.le_refl _) _⟩
    | true =>
      replace hv : paV s = .tuple #[.agg #[.int .i64 r0, .int .i64 r1, .int .i64 r2], .int .i64 0] := by rw [hv, hd]; rfl
      go_wp2_with (fail)
      refine (right_b _ _ _ true hd _).mono ?_
      rintro e w3 ⟨rfl, hb⟩
      have P3 := (P2.step hH).step hb
      obtain ⟨k0, k1, k2⟩ := hDt.below hb (by simp)
      have hzD : W2.heap.size < w3.heap.size := by have := hb.size; simp at this; omega
      clear hDt hH hb P2 h0 h1 h2 g0 g1 g2 hlq hzq hB hDD q0 q1 q2 f0 f1 f2 hlr hrq c0 c1 c2 hzb hbq
      obtain ⟨⟨_, _, _, _, _, _, hB, _, _⟩, ⟨q0, q1, q2⟩, ⟨f0, f1, f2⟩, _⟩ := id P3
      clear P3
      go_wp2
      exact bodyPost_ret (v := .tuple #[.agg #[.int .i64 r0, .int .i64 r1, .int .i64 r2], .int .i64 0]) (by simp [results, Tryd.results25, go_sem, q0, q1, q2]) rfl ⟨by rw [hv], ((hB.setCell (Nat.le_refl _) _).setCell (Nat.le_refl _) _).setCell (Nat.le_refl _) _⟩
  · have hne : ((xs.length : Int) != 3) = true := by simp; omega
    have hv : paV s = .tuple #[.agg #[.int .i64 0, .int .i64 0, .int .i64 0], .int .i64 5] := by
      unfold paV
      rw [if_neg]
      intro hf
      obtain ⟨q0, q1, q2, hq, _⟩ := split_form hf
      have := form_len hf
      rw [hk (by omega), hq] at hmap
      have := congrArg List.length hmap
      simp at this
      exact hlen this
    clear hmap hk hpc hlen E1
    obtain ⟨q0, q1, q2⟩ := D1
    obtain ⟨f0, f1, f2⟩ := F1
    go_wp2
    exact bodyPost_ret (v := .tuple #[.agg #[.int .i64 0, .int .i64 0, .int .i64 0], .int .i64 5]) (by simp [results, Tryd.results25, go_sem, q0, q1, q2]) rfl ⟨by rw [hv], ((B1.setCell (Nat.le_refl _) _).setCell (Nat.le_refl _) _).setCell (Nat.le_refl _) _⟩
end Go.Proofs.YtkgfmanolanlhaaDoor
