/- ElementTexts: there and back. -/
import Derived.Test.YtobdbjmpoefebaaDoorEltJ
import Derived.Test.YtobdbjmpoefebaaDoorTxtParse
import Derived.Lib.Fields
namespace Go.Proofs.YtobdbjmpoefebaaDoor
open Go.RowKit
set_option linter.unusedVariables false
set_option linter.unusedSimpArgs false

/-- a byte that is ASCII and no blank -/
def blk (c : UInt8) : Bool := !Lib.isSp c && decide (c.toNat < 128)
theorem blk_of {c : UInt8} (h : 33 ≤ c.toNat) (h' : c.toNat < 128) : blk c = true := by
  unfold blk Lib.isSp
  have : ∀ k : UInt8, k.toNat ≤ 32 → (c == k) = false := fun k hk => by
    rw [beq_eq_false_iff_ne]; intro e; subst e; omega
  rw [this 9 (by decide), this 10 (by decide), this 11 (by decide), this 12 (by decide), this 13 (by decide), this 32 (by decide), decide_eq_true h']
  rfl
theorem blk_sp {c : UInt8} (h : blk c = true) : Lib.isSp c = false := by
  unfold blk at h
  cases hs : Lib.isSp c
  · rfl
  · rw [hs] at h; simp at h
theorem blk_lt {c : UInt8} (h : blk c = true) : c.toNat < 128 := by
  unfold blk at h
  simp at h
  exact h.2
theorem nam_blk {c : UInt8} (h : namB c = true) : blk c = true := by
  unfold namB at h
  simp only [Bool.or_eq_true, decide_eq_true_eq] at h
  rcases h with (h | h) | h
  · have := smlB_yes h; exact blk_of (by omega) (by omega)
  · have := isDg_yes h; exact blk_of (by omega) (by omega)
  · exact blk_of (by omega) (by omega)
theorem dig_blk {c : UInt8} (h : isDig c = true) : blk c = true := by
  have := isDig_yes h; exact blk_of (by omega) (by omega)
theorem name_blk {l : List UInt8} (h : nameB l = true) : l.all blk = true ∧ l ≠ [] := by
  unfold nameB at h
  simp only [Bool.and_eq_true] at h
  refine ⟨?_, ?_⟩
  · rw [List.all_eq_true]
    intro c hc
    exact nam_blk (List.all_eq_true.1 h.2 c hc)
  · intro e; subst e; simp at h
theorem digs_blk {l : List UInt8} (h : digitsB l = true) : l.all blk = true := by
  rw [List.all_eq_true]
  intro c hc
  exact dig_blk (List.all_eq_true.1 h c hc)
theorem txt_blk (x : Int) : (txt x).all blk = true ∧ txt x ≠ [] := by
  have e : txt x = (if x < 0 then [45] else []) ++ (Lib.decDigits (x.natAbs / 100) ++ (46 :: tailB x.natAbs)) := rfl
  have h1 := digs_blk (dd_all (x.natAbs / 100)).1
  have h2 : (tailB x.natAbs).all blk = true := by
    unfold tailB
    have d1 := dig_blk (dig_is (show x.natAbs % 100 / 10 < 10 by omega))
    have d2 := dig_blk (dig_is (show x.natAbs % 10 < 10 by omega))
    rw [List.all_cons, List.all_cons, d1, d2]
    rfl
  rw [e]
  refine ⟨?_, ?_⟩
  · rw [List.all_append, List.all_append, List.all_cons, h1, h2]
    split <;> decide
  · simp
theorem fgo_step (cur : List UInt8) (b : UInt8) (l : List UInt8) : Lib.fieldsGo cur (b :: l) = if Lib.isSp b then (if cur.isEmpty then Lib.fieldsGo [] l else cur :: Lib.fieldsGo [] l) else Lib.fieldsGo (cur ++ [b]) l := rfl
theorem fgo_all : ∀ (l cur : List UInt8), l.all blk = true → cur ++ l ≠ [] → Lib.fieldsGo cur l = [cur ++ l]
  | [], cur, _, h => by
    unfold Lib.fieldsGo
    rw [List.append_nil] at h
    cases cur with
    | nil => exact absurd rfl h
    | cons a r => simp
  | b :: l, cur, h, _ => by
    rw [List.all_cons, Bool.and_eq_true] at h
    unfold Lib.fieldsGo
    rw [blk_sp h.1]
    have := fgo_all l (cur ++ [b]) h.2 (by simp)
    simpa using this
theorem fgo_cut : ∀ (l cur r : List UInt8), l.all blk = true → cur ++ l ≠ [] → Lib.fieldsGo cur (l ++ 32 :: r) = (cur ++ l) :: Lib.fieldsGo [] r
  | [], cur, r, _, h => by
    rw [List.append_nil] at h
    cases cur with
    | nil => exact absurd rfl h
    | cons a q => simp [Lib.fieldsGo, Lib.isSp]
  | b :: l, cur, r, h, _ => by
    rw [List.all_cons, Bool.and_eq_true] at h
    rw [List.cons_append, fgo_step, blk_sp h.1]
    have := fgo_cut l (cur ++ [b]) r h.2 (by simp)
    simpa using this
theorem fields_two {n t : List UInt8} (h1 : n.all blk = true) (h2 : t.all blk = true) (n1 : n ≠ []) (n2 : t ≠ []) : Lib.fields (n ++ 32 :: t) = [n, t] := by
  unfold Lib.fields
  rw [fgo_cut n [] t h1 (by simpa using n1), fgo_all t [] h2 (by simpa using n2)]
  rfl
theorem fields_three {n t u : List UInt8} (h1 : n.all blk = true) (h2 : t.all blk = true) (h3 : u.all blk = true) (n1 : n ≠ []) (n2 : t ≠ []) (n3 : u ≠ []) : Lib.fields (n ++ 32 :: (t ++ 32 :: u)) = [n, t, u] := by
  unfold Lib.fields
  rw [fgo_cut n [] _ h1 (by simpa using n1), fgo_cut t [] u h2 (by simpa using n2), fgo_all u [] h3 (by simpa using n3)]
  rfl
theorem blk_ascii {l : List UInt8} (h : ∀ c ∈ l, c.toNat < 128) : ∀ (j : Nat) b, l[j]? = some b → b.toNat < 128 := fun j b hb => h b (List.mem_of_getElem? hb)
theorem all_lt {l : List UInt8} (h : l.all blk = true) : ∀ c ∈ l, c.toNat < 128 := fun c hc => blk_lt (List.all_eq_true.1 h c hc)
theorem amt_units {u : Int} (h : oftB u = true) : amtB u = true := by
  obtain ⟨h1, h2⟩ := oftB_yes h
  exact amtB_mk (by omega) (by omega)
theorem unP_txt {u : Int} (h : oftB u = true) : unP (120 :: txt u) = (u, 0) := by
  obtain ⟨h1, h2⟩ := oftB_yes h
  unfold unP
  have e1 : Lib.hasPrefix (120 :: txt u) [120] = true := by simp [Lib.hasPrefix]
  have e2 : Lib.trimPrefix (120 :: txt u) [120] = txt u := by unfold Lib.trimPrefix; rw [e1]; rfl
  rw [e1, e2, parse_txt u (by omega) (by omega), if_pos (amt_units h)]
  simp [h]
def Spc (w : World) : Prop := Lib.TabIs Tryd.prog w "strings.asciiSpace" .u8 Lib.asciiSpaceTab
theorem Spc.below {w w' : World} (h : Spc w) (hb : Below w.heap.size w w') : Spc w' := (Lib.tabBelow_of_tabIs h) w' hb
theorem fields_call (S : List UInt8) (F : List (List UInt8)) (w : World) (hF : Lib.fields S = F) (ha : ∀ c ∈ S, c.toNat < 128) (hS : S.length ≤ 1000000) (hs : Spc w) :
    Calls Tryd.prog 28 #[.string ⟨S.toArray⟩] w fun e w' => e = .returned (.slice (some ⟨w.heap.size, 0, none⟩) F.length F.length) ∧ w' = w.alloc (.cells (F.map fun l => Value.string ⟨l.toArray⟩).toArray 9) := by
  have hz : (ByteArray.mk S.toArray).size = S.length := by rw [← data_len]
  have := Tryd.strings_Fields_laid ⟨S.toArray⟩ w (by omega) (by simpa using blk_ascii ha) hs
  have e : (ByteArray.mk S.toArray).data.toList = S := by simp
  rw [e, hF] at this
  exact this
theorem eq_el (N : ByteArray) (a u : Int) (W : World) : (binOp .eql 45 (.agg #[.string N, .int .i64 a, .int .i64 u]) (.agg #[.string N, .int .i64 a, .int .i64 u])).run Tryd.prog W = .ok (.bool true) W := by
  simp [go_sem]
def wtF (N ta tu : ByteArray) (i : Nat) : ByteArray := if i = 0 then N else if i = 1 then ta else tu
set_option maxHeartbeats 4000000 in
set_option maxRecDepth 100000 in
theorem wElementTexts (N : ByteArray) (a u : Int) (w : World) (htab : Tab w) (hsp : Spc w) (zN : N.size ≤ 140737488355328) (ba : -9223372036854775808 ≤ a ∧ a ≤ 9223372036854775807) (bu : -9223372036854775808 ≤ u ∧ u ≤ 9223372036854775807) :
    Calls Tryd.prog 6 #[.agg #[.string N, .int .i64 a, .int .i64 u]] w fun e w' => e = .returned (.bool true) ∧ Below w.heap.size w w' := by
  have x0 := trip_new w (.string N) (.int .i64 a) (.int .i64 u) 45
  have b0 := below_new w (.cells #[.string N, .int .i64 a, .int .i64 u] 45)
  have T0 := htab.below b0
  have P0 := hsp.below b0
  have wo := fun w h => worths_any w h
  have va := fun w => value_any N a u w
  have te := fun w h => etext_any N a u w ba bu (by omega) h
  cases hnm : nameB N.data.toList
  · have nm := fun w => name_b N false hnm w (by omega)
    by_cases hv : valE a u = 0
    · have tv : (valE a u != 0) = false := by simpa using hv
      clear hv hnm te
      generalize valE a u = ve at *
      generalize valV a u = vv at *
      go_enter Tryd.func6, Tryd.ntmps6
      go_wp2_with (fail)
      generalize w.alloc (.cells #[.string N, .int .i64 a, .int .i64 u] 45) = w1 at *
      refine (wo _ T0).mono ?_
      rintro e w2 ⟨rfl, hb⟩
      have x2 := x0.below hb
      have B2 := below_step b0 hb b0.size
      have T2 := T0.below hb
      have P2 := P0.below hb
      have c0 : w2.cell? ⟨w.heap.size, 0, none⟩ = some (.string N) := x2.cell (by omega)
      have c1 : w2.cell? ⟨w.heap.size, 1, none⟩ = some (.int .i64 a) := x2.cell (by omega)
      have c2 : w2.cell? ⟨w.heap.size, 2, none⟩ = some (.int .i64 u) := x2.cell (by omega)
      go_wp2_with (fail)
      refine (va _).mono ?_
      rintro e w3 ⟨rfl, hb3⟩
      have B3 := below_step B2 hb3 B2.size
      have T3 := T2.below hb3
      have P3 := P2.below hb3
      have d0 := cell_later hb3 c0
      have d1 := cell_later hb3 c1
      have d2 := cell_later hb3 c2
      clear c0 c1 c2 hb hb3 B2 x0 x2 b0 T0 T2 P0 P2 htab hsp wo va
      go_wp2_with (fail)
      refine (nm _).mono ?_
      rintro e w' ⟨rfl, rfl⟩
      go_wp2
      go_ret
      exact ⟨rfl, B3⟩
    · have tv : (valE a u != 0) = true := by simpa using hv
      clear hv hnm te nm
      generalize valE a u = ve at *
      generalize valV a u = vv at *
      go_enter Tryd.func6, Tryd.ntmps6
      go_wp2_with (fail)
      generalize w.alloc (.cells #[.string N, .int .i64 a, .int .i64 u] 45) = w1 at *
      refine (wo _ T0).mono ?_
      rintro e w2 ⟨rfl, hb⟩
      have x2 := x0.below hb
      have B2 := below_step b0 hb b0.size
      have T2 := T0.below hb
      have P2 := P0.below hb
      have c0 : w2.cell? ⟨w.heap.size, 0, none⟩ = some (.string N) := x2.cell (by omega)
      have c1 : w2.cell? ⟨w.heap.size, 1, none⟩ = some (.int .i64 a) := x2.cell (by omega)
      have c2 : w2.cell? ⟨w.heap.size, 2, none⟩ = some (.int .i64 u) := x2.cell (by omega)
      go_wp2_with (fail)
      refine (va _).mono ?_
      rintro e w3 ⟨rfl, hb3⟩
      have B3 := below_step B2 hb3 B2.size
      have T3 := T2.below hb3
      have P3 := P2.below hb3
      have d0 := cell_later hb3 c0
      have d1 := cell_later hb3 c1
      have d2 := cell_later hb3 c2
      clear c0 c1 c2 hb hb3 B2 x0 x2 b0 T0 T2 P0 P2 htab hsp wo va
      go_wp2
      go_ret
      exact ⟨rfl, B3⟩
  · by_cases hv : valE a u = 0
    · obtain ⟨v1, v2, _⟩ := valE_ok hv
      rw [hv] at va
      generalize valV a u = vv at *
      clear hv
      by_cases h100 : u = 100
      · obtain ⟨b1, b2⟩ := txt_blk a
        obtain ⟨b3, b4⟩ := txt_blk u
        obtain ⟨b5, b6⟩ := name_blk hnm
        have f1 : nameB (wtF N ⟨(txt a).toArray⟩ ⟨#[]⟩ 0).data.toList = true := hnm
        have f2 : pelE (wtF N ⟨(txt a).toArray⟩ ⟨#[]⟩) = 0 := by
          show (parseP (ByteArray.mk (txt a).toArray).data.toList).2 = 0
          rw [show (ByteArray.mk (txt a).toArray).data.toList = txt a by simp, parse_txt a ba.1 ba.2, if_pos v1]
        have f3 : pelA (wtF N ⟨(txt a).toArray⟩ ⟨#[]⟩) = a := by
          show (parseP (ByteArray.mk (txt a).toArray).data.toList).1 = a
          rw [show (ByteArray.mk (txt a).toArray).data.toList = txt a by simp, parse_txt a ba.1 ba.2, if_pos v1]
        have l1 := txt_len a ba.1 ba.2
        have l2 := txt_len u bu.1 bu.2
        have ln := data_len N
        have hN16 : N.size ≤ 16 := by
          unfold nameB at hnm
          simp only [Bool.and_eq_true, decide_eq_true_eq] at hnm
          omega
        have hx : etx N a u = N.data.toList ++ 32 :: txt a := by unfold etx; rw [if_pos h100]; simp
        have hf := fields_two b5 b1 b6 b2
        rw [← hx] at hf
        have fs : ∀ i, i < 2 → ((wtF N ⟨(txt a).toArray⟩ ⟨#[]⟩) i).size ≤ 281474976710656 := fun i hi => by
          have z1 : (ByteArray.mk (txt a).toArray).size = (txt a).length := by rw [← data_len]
          rcases (show i = 0 ∨ i = 1 by omega) with rfl | rfl
          · show N.size ≤ _; omega
          · show (ByteArray.mk (txt a).toArray).size ≤ _; omega
        have hlt : ∀ c ∈ etx N a u, c.toNat < 128 := fun c hc => by
          rw [hx] at hc
          simp only [List.mem_append, List.mem_cons] at hc
          rcases hc with hc | rfl | hc
          · exact all_lt b5 c hc
          · decide
          · exact all_lt b1 c hc
        have hlen : (etx N a u).length ≤ 1000000 := by
          rw [hx]; simp only [List.length_append, List.length_cons]; omega
        have fc := fun W h => fields_call (etx N a u) _ W hf hlt hlen h
        have hs0 : (⟨N.data.toList.toArray⟩ : ByteArray) = N := bytes_self N
        have hrow : ∀ W : World, rowAt (W.alloc (.cells #[.string ⟨N.data.toList.toArray⟩, .string ⟨(txt a).toArray⟩] 9)) (some ⟨W.heap.size, 0, none⟩) 2 fun i => .string ((wtF N ⟨(txt a).toArray⟩ ⟨#[]⟩) i) := fun W _ => ⟨_, _, rfl, fun i hi => by
          rcases (show i = 0 ∨ i = 1 by omega) with rfl | rfl <;> simp [World.cell?_alloc_new, wtF]⟩
        have pc := fun W => pe_two (some ⟨W.heap.size, 0, none⟩) 2 (wtF N ⟨(txt a).toArray⟩ ⟨#[]⟩) _ (hrow W) fs f1 f2
        rw [f3] at pc
        subst h100
        have pc : ∀ W : World, Calls Tryd.prog 27 #[.slice (some ⟨W.heap.size, 0, none⟩) 2 2] (W.alloc (.cells #[.string ⟨N.data.toList.toArray⟩, .string ⟨(txt a).toArray⟩] 9)) fun e w' => e = .returned (.tuple #[.agg #[.string N, .int .i64 a, .int .i64 100], .int .i64 0]) ∧ Below (W.alloc (.cells #[.string ⟨N.data.toList.toArray⟩, .string ⟨(txt a).toArray⟩] 9)).heap.size (W.alloc (.cells #[.string ⟨N.data.toList.toArray⟩, .string ⟨(txt a).toArray⟩] 9)) w' := pc
        have heq := eq_el N a 100
        have nm := fun w => name_b N true hnm w (by omega)
        clear f1 f2 f3  hrow fs hx hf hlt hlen b1 b2 b3 b4 b5 b6 l1 l2 ln hN16 hs0 hnm
        go_enter Tryd.func6, Tryd.ntmps6
        go_wp2_with (fail)
        generalize w.alloc (.cells #[.string N, .int .i64 a, .int .i64 100] 45) = w1 at *
        refine (wo _ T0).mono ?_
        rintro e w2 ⟨rfl, hb⟩
        have x2 := x0.below hb
        have B2 := below_step b0 hb b0.size
        have T2 := T0.below hb
        have P2 := P0.below hb
        have c0 : w2.cell? ⟨w.heap.size, 0, none⟩ = some (.string N) := x2.cell (by omega)
        have c1 : w2.cell? ⟨w.heap.size, 1, none⟩ = some (.int .i64 a) := x2.cell (by omega)
        have c2 : w2.cell? ⟨w.heap.size, 2, none⟩ = some (.int .i64 100) := x2.cell (by omega)
        go_wp2_with (fail)
        refine (va _).mono ?_
        rintro e w3 ⟨rfl, hb3⟩
        have B3 := below_step B2 hb3 B2.size
        have T3 := T2.below hb3
        have P3 := P2.below hb3
        have d0 := cell_later hb3 c0
        have d1 := cell_later hb3 c1
        have d2 := cell_later hb3 c2
        clear c0 c1 c2 hb hb3 B2 x0 x2 b0 T0 T2 P0 P2 htab hsp wo va
        go_wp2_with (fail)
        refine (nm _).mono ?_
        rintro e w' ⟨rfl, rfl⟩
        go_wp2_with (fail)
        refine (te _ T3).mono ?_
        rintro e w4 ⟨rfl, hb4⟩
        have B4 := below_step B3 hb4 B3.size
        have P4 := P3.below hb4
        have g0 := cell_later hb4 d0
        have g1 := cell_later hb4 d1
        have g2 := cell_later hb4 d2
        clear d0 d1 d2 hb4 B3 T3 P3 te nm
        go_wp2_with (fail)
        refine (fc _ P4).mono ?_
        rintro e w5 ⟨rfl, hw5⟩
        have bn := below_new w4 (.cells #[.string ⟨N.data.toList.toArray⟩, .string ⟨(txt a).toArray⟩] 9)
        go_wp2_with (fail)
        have hw5' : w5 = w4.alloc (.cells #[.string ⟨N.data.toList.toArray⟩, .string ⟨(txt a).toArray⟩] 9) := hw5
        clear hw5
        subst hw5'
        refine (pc _).mono ?_
        rintro e w6 ⟨rfl, hb6⟩
        have B6 := below_step (below_step B4 bn B4.size) hb6 (below_step B4 bn B4.size).size
        have i0 := cell_later hb6 (cell_later bn g0)
        have i1 := cell_later hb6 (cell_later bn g1)
        have i2 := cell_later hb6 (cell_later bn g2)
        have hlt : w.heap.size < w6.heap.size := World.block_lt_of_cell? _ _ i0
        clear g0 g1 g2 hb6 bn B4 P4 fc pc
        go_wp2
        go_ret
        exact ⟨rfl, B6.alloc B6.size _⟩
      · obtain ⟨b1, b2⟩ := txt_blk a
        obtain ⟨b3, b4⟩ := txt_blk u
        obtain ⟨b5, b6⟩ := name_blk hnm
        have f1 : nameB (wtF N ⟨(txt a).toArray⟩ ⟨(120 :: txt u).toArray⟩ 0).data.toList = true := hnm
        have f2 : pelE (wtF N ⟨(txt a).toArray⟩ ⟨(120 :: txt u).toArray⟩) = 0 := by
          show (parseP (ByteArray.mk (txt a).toArray).data.toList).2 = 0
          rw [show (ByteArray.mk (txt a).toArray).data.toList = txt a by simp, parse_txt a ba.1 ba.2, if_pos v1]
        have f3 : pelA (wtF N ⟨(txt a).toArray⟩ ⟨(120 :: txt u).toArray⟩) = a := by
          show (parseP (ByteArray.mk (txt a).toArray).data.toList).1 = a
          rw [show (ByteArray.mk (txt a).toArray).data.toList = txt a by simp, parse_txt a ba.1 ba.2, if_pos v1]
        have l1 := txt_len a ba.1 ba.2
        have l2 := txt_len u bu.1 bu.2
        have ln := data_len N
        have hN16 : N.size ≤ 16 := by
          unfold nameB at hnm
          simp only [Bool.and_eq_true, decide_eq_true_eq] at hnm
          omega
        have b7 : (120 :: txt u).all blk = true := by rw [List.all_cons, b3]; decide
        have hx : etx N a u = N.data.toList ++ 32 :: (txt a ++ 32 :: (120 :: txt u)) := by unfold etx; rw [if_neg h100]; simp
        have hf := fields_three b5 b1 b7 b6 b2 (by simp)
        rw [← hx] at hf
        have f4 : unP (wtF N ⟨(txt a).toArray⟩ ⟨(120 :: txt u).toArray⟩ 2).data.toList = (u, 0) := by
          show unP (ByteArray.mk (120 :: txt u).toArray).data.toList = (u, 0)
          rw [show (ByteArray.mk (120 :: txt u).toArray).data.toList = 120 :: txt u by simp]
          exact unP_txt v2
        have fs : ∀ i, i < 3 → ((wtF N ⟨(txt a).toArray⟩ ⟨(120 :: txt u).toArray⟩) i).size ≤ 281474976710656 := fun i hi => by
          have z1 : (ByteArray.mk (txt a).toArray).size = (txt a).length := by rw [← data_len]
          have z2 : (ByteArray.mk (120 :: txt u).toArray).size = (120 :: txt u).length := by rw [← data_len]
          rw [List.length_cons] at z2
          rcases (show i = 0 ∨ i = 1 ∨ i = 2 by omega) with rfl | rfl | rfl
          · show N.size ≤ _; omega
          · show (ByteArray.mk (txt a).toArray).size ≤ _; omega
          · show (ByteArray.mk (120 :: txt u).toArray).size ≤ _; omega
        have hlt : ∀ c ∈ etx N a u, c.toNat < 128 := fun c hc => by
          rw [hx] at hc
          simp only [List.mem_append, List.mem_cons] at hc
          rcases hc with hc | rfl | hc | rfl | rfl | hc
          · exact all_lt b5 c hc
          · decide
          · exact all_lt b1 c hc
          · decide
          · decide
          · exact all_lt b3 c hc
        have hlen : (etx N a u).length ≤ 1000000 := by
          rw [hx]; simp only [List.length_append, List.length_cons]; omega
        have fc := fun W h => fields_call (etx N a u) _ W hf hlt hlen h
        have hs0 : (⟨N.data.toList.toArray⟩ : ByteArray) = N := bytes_self N
        have hrow : ∀ W : World, rowAt (W.alloc (.cells #[.string ⟨N.data.toList.toArray⟩, .string ⟨(txt a).toArray⟩, .string ⟨(120 :: txt u).toArray⟩] 9)) (some ⟨W.heap.size, 0, none⟩) 3 fun i => .string ((wtF N ⟨(txt a).toArray⟩ ⟨(120 :: txt u).toArray⟩) i) := fun W _ => ⟨_, _, rfl, fun i hi => by
          rcases (show i = 0 ∨ i = 1 ∨ i = 2 by omega) with rfl | rfl | rfl <;> simp [World.cell?_alloc_new, wtF]⟩
        have pc := fun W => pe_three (some ⟨W.heap.size, 0, none⟩) 3 (wtF N ⟨(txt a).toArray⟩ ⟨(120 :: txt u).toArray⟩) _ (hrow W) fs f1 f2 (by rw [f4])
        rw [f3, f4] at pc
        have pc : ∀ W : World, Calls Tryd.prog 27 #[.slice (some ⟨W.heap.size, 0, none⟩) 3 3] (W.alloc (.cells #[.string ⟨N.data.toList.toArray⟩, .string ⟨(txt a).toArray⟩, .string ⟨(120 :: txt u).toArray⟩] 9)) fun e w' => e = .returned (.tuple #[.agg #[.string N, .int .i64 a, .int .i64 u], .int .i64 0]) ∧ Below (W.alloc (.cells #[.string ⟨N.data.toList.toArray⟩, .string ⟨(txt a).toArray⟩, .string ⟨(120 :: txt u).toArray⟩] 9)).heap.size (W.alloc (.cells #[.string ⟨N.data.toList.toArray⟩, .string ⟨(txt a).toArray⟩, .string ⟨(120 :: txt u).toArray⟩] 9)) w' := pc
        have heq := eq_el N a u
        have nm := fun w => name_b N true hnm w (by omega)
        clear f1 f2 f3 f4 b7 hrow fs hx hf hlt hlen b1 b2 b3 b4 b5 b6 l1 l2 ln hN16 hs0 hnm
        go_enter Tryd.func6, Tryd.ntmps6
        go_wp2_with (fail)
        generalize w.alloc (.cells #[.string N, .int .i64 a, .int .i64 u] 45) = w1 at *
        refine (wo _ T0).mono ?_
        rintro e w2 ⟨rfl, hb⟩
        have x2 := x0.below hb
        have B2 := below_step b0 hb b0.size
        have T2 := T0.below hb
        have P2 := P0.below hb
        have c0 : w2.cell? ⟨w.heap.size, 0, none⟩ = some (.string N) := x2.cell (by omega)
        have c1 : w2.cell? ⟨w.heap.size, 1, none⟩ = some (.int .i64 a) := x2.cell (by omega)
        have c2 : w2.cell? ⟨w.heap.size, 2, none⟩ = some (.int .i64 u) := x2.cell (by omega)
        go_wp2_with (fail)
        refine (va _).mono ?_
        rintro e w3 ⟨rfl, hb3⟩
        have B3 := below_step B2 hb3 B2.size
        have T3 := T2.below hb3
        have P3 := P2.below hb3
        have d0 := cell_later hb3 c0
        have d1 := cell_later hb3 c1
        have d2 := cell_later hb3 c2
        clear c0 c1 c2 hb hb3 B2 x0 x2 b0 T0 T2 P0 P2 htab hsp wo va
        go_wp2_with (fail)
        refine (nm _).mono ?_
        rintro e w' ⟨rfl, rfl⟩
        go_wp2_with (fail)
        refine (te _ T3).mono ?_
        rintro e w4 ⟨rfl, hb4⟩
        have B4 := below_step B3 hb4 B3.size
        have P4 := P3.below hb4
        have g0 := cell_later hb4 d0
        have g1 := cell_later hb4 d1
        have g2 := cell_later hb4 d2
        clear d0 d1 d2 hb4 B3 T3 P3 te nm
        go_wp2_with (fail)
        refine (fc _ P4).mono ?_
        rintro e w5 ⟨rfl, hw5⟩
        have bn := below_new w4 (.cells #[.string ⟨N.data.toList.toArray⟩, .string ⟨(txt a).toArray⟩, .string ⟨(120 :: txt u).toArray⟩] 9)
        go_wp2_with (fail)
        have hw5' : w5 = w4.alloc (.cells #[.string ⟨N.data.toList.toArray⟩, .string ⟨(txt a).toArray⟩, .string ⟨(120 :: txt u).toArray⟩] 9) := hw5
        clear hw5
        subst hw5'
        refine (pc _).mono ?_
        rintro e w6 ⟨rfl, hb6⟩
        have B6 := below_step (below_step B4 bn B4.size) hb6 (below_step B4 bn B4.size).size
        have i0 := cell_later hb6 (cell_later bn g0)
        have i1 := cell_later hb6 (cell_later bn g1)
        have i2 := cell_later hb6 (cell_later bn g2)
        have hlt : w.heap.size < w6.heap.size := World.block_lt_of_cell? _ _ i0
        clear g0 g1 g2 hb6 bn B4 P4 fc pc
        go_wp2
        go_ret
        exact ⟨rfl, B6.alloc B6.size _⟩
    · have tv : (valE a u != 0) = true := by simpa using hv
      clear hv hnm te
      generalize valE a u = ve at *
      generalize valV a u = vv at *
      go_enter Tryd.func6, Tryd.ntmps6
      go_wp2_with (fail)
      generalize w.alloc (.cells #[.string N, .int .i64 a, .int .i64 u] 45) = w1 at *
      refine (wo _ T0).mono ?_
      rintro e w2 ⟨rfl, hb⟩
      have x2 := x0.below hb
      have B2 := below_step b0 hb b0.size
      have T2 := T0.below hb
      have P2 := P0.below hb
      have c0 : w2.cell? ⟨w.heap.size, 0, none⟩ = some (.string N) := x2.cell (by omega)
      have c1 : w2.cell? ⟨w.heap.size, 1, none⟩ = some (.int .i64 a) := x2.cell (by omega)
      have c2 : w2.cell? ⟨w.heap.size, 2, none⟩ = some (.int .i64 u) := x2.cell (by omega)
      go_wp2_with (fail)
      refine (va _).mono ?_
      rintro e w3 ⟨rfl, hb3⟩
      have B3 := below_step B2 hb3 B2.size
      have T3 := T2.below hb3
      have P3 := P2.below hb3
      have d0 := cell_later hb3 c0
      have d1 := cell_later hb3 c1
      have d2 := cell_later hb3 c2
      clear c0 c1 c2 hb hb3 B2 x0 x2 b0 T0 T2 P0 P2 htab hsp wo va
      go_wp2
      go_ret
      exact ⟨rfl, B3⟩
end Go.Proofs.YtobdbjmpoefebaaDoor
