/- ElementChange: elements in which those of a kind are one of an amount. -/
import Derived.Test.YtobdbjmpoefebaaDoorEltJ
namespace Go.Proofs.YtobdbjmpoefebaaDoor
open Go.RowKit Go.Sort
set_option linter.unusedVariables false
set_option linter.unusedSimpArgs false

def nkB (K : ByteArray) (e : EB) : Bool := !decide (e.N = K)
def ikB (K : ByteArray) (e : EB) : Bool := decide (e.N = K)
theorem chs_others (K : ByteArray) : ∀ (l : List EB) (x : Int), (chs K l x).filter (nkB K) = l.filter (nkB K)
  | [], x => by
    rw [chs_nil]
    split
    · rfl
    · simp [nkB]
  | e :: r, x => by
    rw [chs_cons]
    by_cases h : e.N = K
    · rw [if_pos h]
      have h1 : nkB K e = false := by simp [nkB, h]
      rw [show (e :: r).filter (nkB K) = r.filter (nkB K) from by simp [List.filter_cons, h1]]
      split
      · exact chs_others K r x
      · rw [List.filter_cons, if_neg (by simp [nkB])]
        exact chs_others K r 0
    · rw [if_neg h]
      have h1 : nkB K e = true := by simp [nkB, h]
      rw [List.filter_cons, if_pos h1, List.filter_cons, if_pos h1, chs_others K r x]
theorem chs_kind (K : ByteArray) : ∀ (l : List EB) (x : Int), (chs K l x).filter (ikB K) = if x = 0 then [] else [⟨K, x, 100⟩]
  | [], x => by
    rw [chs_nil]
    split
    · rfl
    · simp [ikB]
  | e :: r, x => by
    rw [chs_cons]
    by_cases h : e.N = K
    · rw [if_pos h]
      by_cases hx : x = 0
      · rw [if_pos hx, chs_kind K r x]
      · rw [if_neg hx, if_neg hx, List.filter_cons, if_pos (by simp [ikB]), chs_kind K r 0, if_pos rfl]
    · rw [if_neg h]
      have h1 : ikB K e = false := by simp [ikB, h]
      rw [List.filter_cons, if_neg (by simp [h1])]
      exact chs_kind K r x
theorem chs_mem {K : ByteArray} {l : List EB} {x : Int} {e : EB} (he : e ∈ chs K l x) (h : e.N = K) : e = ⟨K, x, 100⟩ := by
  have h1 : e ∈ (chs K l x).filter (ikB K) := List.mem_filter.2 ⟨he, by simp [ikB, h]⟩
  rw [chs_kind] at h1
  split at h1
  · cases h1
  · simpa using h1
theorem chs_twice (K : ByteArray) : ∀ (l : List EB) (x : Int), chs K (chs K l x) x = chs K l x
  | [], x => by
    rw [chs_nil]
    by_cases hx : x = 0
    · rw [if_pos hx, chs_nil, if_pos hx]
    · rw [if_neg hx, chs_cons, if_pos rfl, if_neg hx, chs_nil, if_pos rfl]
  | e :: r, x => by
    rw [chs_cons]
    by_cases h : e.N = K
    · rw [if_pos h]
      by_cases hx : x = 0
      · rw [if_pos hx]; exact chs_twice K r x
      · rw [if_neg hx, chs_cons, if_pos rfl, if_neg hx, chs_twice K r 0]
    · rw [if_neg h, chs_cons, if_neg h, chs_twice K r x]
theorem chs_size {K : ByteArray} {M : Nat} (hK : K.size ≤ M) : ∀ (l : List EB) (x : Int), (∀ e ∈ l, e.N.size ≤ M) → ∀ e ∈ chs K l x, e.N.size ≤ M
  | [], x, _ => by
    rw [chs_nil]
    split
    · intro e he; cases he
    · intro e he
      have : e = ⟨K, x, 100⟩ := by simpa using he
      subst this; exact hK
  | a :: r, x, h => by
    have hr : ∀ e ∈ r, e.N.size ≤ M := fun e he => h e (List.mem_cons_of_mem _ he)
    rw [chs_cons]
    split
    · split
      · exact chs_size hK r x hr
      · intro e he
        rcases List.mem_cons.1 he with rfl | he
        · exact hK
        · exact chs_size hK r 0 hr e he
    · intro e he
      rcases List.mem_cons.1 he with rfl | he
      · exact h _ (List.mem_cons_self)
      · exact chs_size hK r x hr e he
theorem els_mem {E : Nat → EB} {n i : Nat} (h : i < n) : E i ∈ els E n := List.mem_map.2 ⟨i, List.mem_range.2 h, rfl⟩
abbrev e0 : EB := ⟨⟨#[]⟩, 0, 0⟩
def fL (L : List EB) (i : Nat) : EB := L.getD i e0
theorem fL_els (L : List EB) : els (fL L) L.length = L := els_getD L
theorem drop_head {O : List EB} {k : Nat} {e : EB} {r : List EB} (h : O.drop k = e :: r) : k < O.length ∧ O.getD k e0 = e ∧ O.drop (k + 1) = r := by
  have hk : k < O.length := by
    rcases Nat.lt_or_ge k O.length with q | q
    · exact q
    · rw [List.drop_of_length_le q] at h; cases h
  rw [List.drop_eq_getElem_cons hk] at h
  injection h with h1 h2
  exact ⟨hk, by simp [List.getD, hk, h1], h2⟩
theorem neq_same (N : ByteArray) (a u : Int) (W : World) : (binOp .neq 45 (.agg #[.string N, .int .i64 a, .int .i64 u]) (.agg #[.string N, .int .i64 a, .int .i64 u])).run Tryd.prog W = .ok (.bool false) W := by
  simp [go_sem]
set_option maxHeartbeats 4000000 in
set_option maxRecDepth 100000 in
theorem wElementChange (A : Option Addr) (n c : Nat) (E : Nat → EB) (K : ByteArray) (a : Int) (w : World) (htab : Tab w) (hr : ElM w A n E) (hn : n ≤ 9223372036854775807 ∧ n ≤ c) (hf : ∀ i, i < n → (E i).N.size ≤ 140737488355328) (sK : K.size ≤ 140737488355328) (ba : -9223372036854775808 ≤ a ∧ a ≤ 9223372036854775807) :
    Calls Tryd.prog 9 #[.slice A n c, .string K, .int .i64 a] w fun e w' => e = .returned (.bool true) ∧ Below w.heap.size w w' := by
  have wo := worths_any w htab
  obtain ⟨hn, _⟩ := hn
  by_cases h40 : 40 < n
  · have t1 : (40 : Int) < n := by omega
    clear hr hf
    go_enter Tryd.func9, Tryd.ntmps9
    go_wp2_with (fail)
    refine wo.mono ?_
    rintro e w1 ⟨rfl, B1⟩
    go_wp2
    go_ret
    exact ⟨rfl, B1⟩
  have t1 : ¬ (40 : Int) < n := by omega
  have t2 : decide ((40 : Int) < n) = false := by rw [decide_eq_false_iff_not]; exact t1
  have hsz : ∀ i, i < n → (E i).N.size ≤ 281474976710656 := fun i hi => by have := hf i hi; omega
  have HSZ := Lib.hid hsz
  have HM := Lib.hid hr
  have hlen := chs_len K (els E n) a
  rw [els_len] at hlen
  have c1 := fun W (h : ElM W A n E) => change_any K a A n c E W h (by omega) (by omega) HSZ.out
  have HO := Lib.hid (chs_others K (els E n) a)
  have HK := Lib.hid (chs_kind K (els E n) a)
  have HT := Lib.hid (chs_twice K (els E n) a)
  have HC : Hid (∀ e ∈ chs K (els E n) a, e.N = K → e = ⟨K, a, 100⟩) := Lib.hid fun e he h => chs_mem he h
  have HZ : Hid (∀ e ∈ chs K (els E n) a, e.N.size ≤ 281474976710656) := Lib.hid (chs_size (by omega) _ _ (fun e he => by
    obtain ⟨i, hi, rfl⟩ := List.mem_map.1 he
    exact hsz i (List.mem_range.1 hi)))
  generalize chs K (els E n) a = L at *
  clear hsz hr hf h40
  go_enter Tryd.func9, Tryd.ntmps9
  go_wp2_with (fail)
  refine wo.mono ?_
  rintro e w1 ⟨rfl, B1⟩
  clear wo htab
  go_wp2_with (fail)
  refine (c1 _ (HM.out.below B1)).mono ?_
  rintro e w2 ⟨v, rfl, ho, hb2⟩
  have B2 := below_step B1 hb2 B1.size
  obtain ⟨Ao, co, rfl, _, hLm⟩ := es_elm ho
  have HL : Hid (ElM w2 Ao L.length (fL L)) := Lib.hid hLm
  clear hLm ho c1 hb2 B1
  obtain ⟨i0, hi0, hz0, hz1, hz2⟩ := info_parts info_el
  have Hi := Lib.hid hi0
  have Hz := Lib.hid hz0
  clear hi0 hz0
  have HEL := Lib.hid (fL_els L)
  have HLL : Hid (∀ i, i < L.length → fL L i ∈ L) := Lib.hid fun i hi => by
    have := els_mem (E := fL L) hi
    rw [fL_els] at this
    exact this
  have hm : L.length ≤ 41 := by omega
  generalize hmL : L.length = m at *
  have HML := Lib.hid hmL
  clear hmL hlen
  have of := fun w => of_el K a w (by omega)
  go_wp2
  go_loopw [8, 9, 26] (fun v cnt i wr => ∃ (O : List EB) (q k : Nat), k ≤ m ∧ O.length ≤ k ∧ q ≤ k ∧ cnt = .int .i64 q ∧ i = .int .i64 k ∧ EsO wr w2.heap.size v O ∧ Hid (O ++ (L.drop k).filter (nkB K) = L.filter (nkB K)) ∧ Hid (q + ((L.drop k).filter (ikB K)).length = (L.filter (ikB K)).length) ∧ Below w2.heap.size w2 wr) (fun _ _ i _ => m - (intOf i).toNat)
  case atStart => exact ⟨[], 0, 0, Nat.zero_le _, Nat.le_refl _, Nat.le_refl _, rfl, rfl, es_nil _ _, Lib.hid rfl, Lib.hid (Nat.zero_add _), Below.refl _ _⟩
  case round =>
    obtain ⟨O, q, k, hk, hOk, hqk, rfl, rfl, ho, HF, HG, hb⟩ := hrel
    by_cases hlt : k < m
    · have hd : L.drop k = fL L k :: L.drop (k + 1) := by
        have := els_drop (fL L) (n := m) (i := k) hlt
        rw [HEL.out] at this
        exact this
      have hf1 := HF.out
      have hg1 := HG.out
      rw [hd] at hf1 hg1
      have hmem := HLL.out k hlt
      obtain ⟨b, o, rfl, hc⟩ := HL.out (by omega)
      obtain ⟨c0, c1, c2⟩ := hc k hlt
      have d0 := cell_later hb c0
      have d1 := cell_later hb c1
      have d2 := cell_later hb c2
      have bn := below_new wr (.cells #[.string (fL L k).N, .int .i64 (fL L k).A, .int .i64 (fL L k).U] 45)
      have B3 := below_step hb bn hb.size
      have o3 : EsO _ w2.heap.size _ O := ho.below bn
      have x3 := trip_new wr (.string (fL L k).N) (.int .i64 (fL L k).A) (.int .i64 (fL L k).U) 45
      clear c0 c1 c2 hc hb ho bn HF HG hd
      by_cases hN : (fL L k).N = K
      · have hE := HC.out _ hmem hN
        rw [List.filter_cons, if_neg (by simp [nkB, hN])] at hf1
        rw [List.filter_cons, if_pos (by simp [ikB, hN]), List.length_cons] at hg1
        rw [hE] at d0 d1 d2 B3 o3 x3
        have HF := Lib.hid hf1
        have HG : Hid (q + 1 + ((L.drop (k + 1)).filter (ikB K)).length = (L.filter (ikB K)).length) := Lib.hid (by omega)
        clear hf1 hg1 hmem hE hN
        simp only [] at d0 d1 d2 B3 o3 x3
        have te := str_b K K true (by simp)
        go_wp2
        generalize wr.alloc (.cells #[.string K, .int .i64 a, .int .i64 100] 45) = w3 at *
        generalize wr.heap.size = p at *
        have x0 : w3.cell? ⟨p, 0, none⟩ = some (.string K) := x3.cell (by omega)
        have x1 : w3.cell? ⟨p, 1, none⟩ = some (.int .i64 a) := x3.cell (by omega)
        have x2 : w3.cell? ⟨p, 2, none⟩ = some (.int .i64 100) := x3.cell (by omega)
        have k0 := fun d os => cell_regrown x0 d os
        have k1 := fun d os => cell_regrown x1 d os
        have k2 := fun d os => cell_regrown x2 d os
        have cO := fun (d : Nat) (os : Array Obj) => Calls.regrown_of (d := d) (os := os) (w := w3) (of _)
        have hne := neq_same K a 100
        clear x0 x1 x2 x3 d0 d1 d2
        refine wp_region_quiet_below mixedAll (by kernel_rfl) ?_
        iterate 3 (go_big_quiet_step (fail))
        go_big_quiet_step (exact cO _ _)
        repeat (go_big_quiet_step (fail))
        refine wpQuiet_nil ?_
        intro _ hw'
        obtain ⟨⟨dq, osq⟩, hw''⟩ := hw'
        subst hw''
        have hR := below_regrown w3 dq osq
        have B4 := below_step B3 hR B3.size
        have o4 : EsO _ w2.heap.size _ O := o3.below hR
        clear k0 k1 k2 cO hR B3 o3
        generalize grow (redrawn w3 dq) osq = w4 at *
        go_wp2
        go_roundw
        case rel => exact ⟨O, q + 1, k + 1, by omega, by omega, by omega, by go_num, by go_num, o4, HF, HG, B4⟩
        case measure => simp [intOf]; omega
      · rw [List.filter_cons, if_pos (by simp [nkB, hN])] at hf1
        rw [List.filter_cons, if_neg (by simp [ikB, hN])] at hg1
        have HF := Lib.hid hf1
        have HG := Lib.hid hg1
        have te := str_b (fL L k).N K false (by simp [hN])
        have hc3 : O.length + 1 ≤ maxLen := by unfold maxLen; omega
        have hc4 : (O.length + 1) * 32 ≤ 140737488355328 := by omega
        have HC3 := Lib.hid hc3
        have HC4 := Lib.hid hc4
        clear hf1 hg1 hmem hN hc3 hc4
        generalize fL L k = e at *
        obtain ⟨N, ea, eu⟩ := e
        simp only [] at d0 d1 d2 B3 o3 x3 te
        have o3' : (wr.alloc (.cells #[.string N, .int .i64 ea, .int .i64 eu] 45)).ownsRow w2.heap.size 45 3 _ O.length (O.flatMap elG) := o3
        have x0 : (wr.alloc (.cells #[.string N, .int .i64 ea, .int .i64 eu] 45)).cell? ⟨wr.heap.size, 0, none⟩ = some (.string N) := x3.cell (by omega)
        have x1 : (wr.alloc (.cells #[.string N, .int .i64 ea, .int .i64 eu] 45)).cell? ⟨wr.heap.size, 1, none⟩ = some (.int .i64 ea) := x3.cell (by omega)
        have x2 : (wr.alloc (.cells #[.string N, .int .i64 ea, .int .i64 eu] 45)).cell? ⟨wr.heap.size, 2, none⟩ = some (.int .i64 eu) := x3.cell (by omega)
        have hz3 : (wr.alloc (.cells #[.string N, .int .i64 ea, .int .i64 eu] 45)).heap.size = wr.heap.size + 1 := by simp
        have hc1 := cell_new3 (wr.alloc (.cells #[.string N, .int .i64 ea, .int .i64 eu] 45)) (.string N) (.int .i64 ea) (.int .i64 eu) 45
        rw [hz3] at hc1
        have hc2 : ∀ v ∈ [Value.string N, .int .i64 ea, .int .i64 eu], v.oneCell' = true := by simp [Value.oneCell']
        have B5 := B3.alloc B3.size (.cells #[.string N, .int .i64 ea, .int .i64 eu] 45)
        have hc5 := B5.size
        go_wp2_with (at_builtin; refine wpList_append_own _ rfl _ _ 50 rfl w2.heap.size 45 i0 (.agg #[.string ⟨#[]⟩, .int .i64 0, .int .i64 0]) 3 32 Tryd.underlying50 Hi.out Hz.out hz1 hz2 rfl (by decide) _ _ _ rfl (o3'.alloc _) ⟨wr.heap.size + 1, 0, none⟩ 1 1 [.string N, .int .i64 ea, .int .i64 eu] rfl rfl hc1 hc2 HC3.out HC4.out hc5 ?_; intro v' w6 hown2 hg2 _)
        have B6 : Below w2.heap.size w2 w6 := B5.grown hg2 hc5 (fun k hk => (o3'.lt k hk).1)
        go_roundw
        case rel => exact ⟨O ++ [⟨N, ea, eu⟩], q, k + 1, by omega, by simp; omega, by omega, rfl, by go_num, es_push hown2, Lib.hid (by simpa using HF.out), HG, B6⟩
        case measure => simp [intOf]; omega
    · have hkm : m = k := by omega
      subst hkm
      have hdr : L.drop m = [] := List.drop_of_length_le (by rw [HML.out]; exact Nat.le_refl _)
      have hf1 := HF.out
      have hg1 := HG.out
      rw [hdr, List.filter_nil, List.append_nil, HO.out] at hf1
      rw [hdr, List.filter_nil, List.length_nil, Nat.add_zero, HK.out] at hg1
      clear HF HG hdr HC HLL HO HK
      have Bw := below_step B2 hb B2.size
      have hLw := Lib.hid (HL.out.below hb)
      obtain ⟨Ag, cg, rfl, _, hOm⟩ := es_elm ho
      have HOM : Hid (ElM wr Ag O.length (fL O)) := Lib.hid hOm
      have hO41 : O.length ≤ 41 := by omega
      have HD0 : Hid (O.drop 0 = ((els E n).drop 0).filter (nkB K)) := Lib.hid hf1
      have HQ := Lib.hid hg1
      clear hf1 hg1 hOm ho HL of hOk hqk hlt B2 hb
      generalize hmO : O.length = mo at *
      have HMO := Lib.hid hmO
      clear hmO
      generalize wr = ws at *
      go_wp2
      go_loopw [12, 48] (fun kk i W => ∃ p j : Nat, j ≤ n ∧ p ≤ mo ∧ kk = .int .i64 p ∧ i = .int .i64 j ∧ Hid (O.drop p = ((els E n).drop j).filter (nkB K)) ∧ Below ws.heap.size ws W) (fun _ i _ => n - (intOf i).toNat)
      case atStart => exact ⟨0, 0, Nat.zero_le _, Nat.zero_le _, rfl, rfl, HD0, Below.refl _ _⟩
      case round =>
        obtain ⟨p, j, hj, hp, rfl, rfl, HD, hbW⟩ := hrel
        have BW := below_step Bw hbW Bw.size
        by_cases hlt : j < n
        · have hd := HD.out
          rw [els_drop E hlt] at hd
          obtain ⟨b, o, rfl, hc⟩ := HM.out (by omega)
          obtain ⟨c0, c1, c2⟩ := hc j hlt
          have d0 := cell_later BW c0
          have d1 := cell_later BW c1
          have d2 := cell_later BW c2
          have bn := below_new wr (.cells #[.string (E j).N, .int .i64 (E j).A, .int .i64 (E j).U] 45)
          have B6 := below_step hbW bn hbW.size
          have x3 := trip_new wr (.string (E j).N) (.int .i64 (E j).A) (.int .i64 (E j).U) 45
          by_cases hN : (E j).N = K
          · rw [List.filter_cons, if_neg (by simp [nkB, hN])] at hd
            have te := str_b (E j).N K true (by simp [hN])
            have HD2 := Lib.hid hd
            clear hd hN c0 c1 c2 hc HD
            generalize E j = e at *
            obtain ⟨N, ea, eu⟩ := e
            simp only [] at d0 d1 d2 B6 te
            go_wp2
            go_roundw
            case rel => exact ⟨p, j + 1, by omega, hp, rfl, by go_num, HD2, B6⟩
            case measure => simp [intOf]; omega
          · rw [List.filter_cons, if_pos (by simp [nkB, hN])] at hd
            obtain ⟨hpo, hpe, hpd⟩ := drop_head hd
            have te := str_b (E j).N K false (by simp [hN])
            have HD2 := Lib.hid hpd
            have hpm : p < mo := by have := HMO.out; omega
            obtain ⟨g, og, rfl, hgc⟩ := HOM.out (by omega)
            obtain ⟨g0, g1, g2⟩ := hgc p hpm
            have hfl : fL O p = E j := hpe
            rw [hfl] at g0 g1 g2
            have k0 := cell_later B6 g0
            have k1 := cell_later B6 g1
            have k2 := cell_later B6 g2
            have q1 : ¬ (mo : Int) ≤ (p : Int) := by omega
            have q2 : decide ((mo : Int) ≤ (p : Int)) = false := by rw [decide_eq_false_iff_not]; exact q1
            have q3 : (p : Int) < (mo : Int) := by omega
            clear hd hN c0 c1 c2 hc HD hpe hpd hgc g0 g1 g2 hfl hpo
            have hne := neq_same (E j).N (E j).A (E j).U
            generalize E j = e at *
            obtain ⟨N, ea, eu⟩ := e
            simp only [] at d0 d1 d2 B6 te k0 k1 k2 hne x3
            have x0 : (wr.alloc (.cells #[.string N, .int .i64 ea, .int .i64 eu] 45)).cell? ⟨wr.heap.size, 0, none⟩ = some (.string N) := x3.cell (by omega)
            have x1 : (wr.alloc (.cells #[.string N, .int .i64 ea, .int .i64 eu] 45)).cell? ⟨wr.heap.size, 1, none⟩ = some (.int .i64 ea) := x3.cell (by omega)
            have x2 : (wr.alloc (.cells #[.string N, .int .i64 ea, .int .i64 eu] 45)).cell? ⟨wr.heap.size, 2, none⟩ = some (.int .i64 eu) := x3.cell (by omega)
            go_wp2
            generalize wr.alloc (.cells #[.string N, .int .i64 ea, .int .i64 eu] 45) = w6 at *
            go_quiet (fail)
            go_wp2
            go_roundw
            case rel => exact ⟨p + 1, j + 1, by omega, by omega, by go_num, by go_num, HD2, below_drewN B6 _⟩
            case measure => simp [intOf]; omega
        · have hjn : n = j := by omega
          subst hjn
          have hd := HD.out
          rw [List.drop_of_length_le (l := els E n) (by rw [els_len]; exact Nat.le_refl _), List.filter_nil] at hd
          have hpm : p = mo := by
            rcases Nat.lt_or_ge p mo with q1 | q1
            · have := congrArg List.length hd
              rw [List.length_drop, HMO.out, List.length_nil] at this
              omega
            · omega
          subst hpm
          have hq := HQ.out
          have tn : ((p : Int) != (p : Int)) = false := by simp
          have c1 := fun W (h : ElM W Ao m (fL L)) => change_any K a Ao m co (fL L) W h (by omega) (by omega) (fun i hi => by
            have := els_mem (E := fL L) hi
            rw [HEL.out] at this
            exact HZ.out _ this)
          rw [HEL.out, HT.out] at c1
          have hws := HM
          have L1 := hLw.out.below hbW
          clear HD hd HEL HT HZ HD0 HQ HOM HM hp hlt
          by_cases ha : a = 0
          · rw [if_pos ha] at hq
            have ta : (a == 0) = true := by simpa using ha
            have tb : (a != 0) = false := by simpa using ha
            simp only [List.length_nil] at hq
            subst hq
            clear ha
            go_wp2_with (fail)
            refine (c1 _ L1).mono ?_
            rintro e w7 ⟨v7, rfl, ho7, hb7⟩
            obtain ⟨A7, c7, rfl, _, hm7⟩ := es_elm ho7
            have hm7 : ElM w7 A7 L.length (fL L) := hm7
            rw [HML.out] at hm7
            rw [show (Value.slice A7 L.length c7) = .slice A7 m c7 by rw [HML.out]]
            go_wp2_with (fail)
            refine (same_els Ao A7 m co c7 w7 (fL L) (L1.below hb7) hm7 (by omega)).mono ?_
            rintro e w8 ⟨rfl, hb8⟩
            have B7 := below_step BW hb7 BW.size
            have B8 := below_step B7 hb8 B7.size
            go_wp2
            go_ret
            exact ⟨rfl, B8⟩
          · rw [if_neg ha] at hq
            have ta : (a == 0) = false := by simpa using ha
            have tb : (a != 0) = true := by simpa using ha
            simp only [List.length_cons, List.length_nil] at hq
            subst hq
            clear ha
            go_wp2_with (fail)
            refine (c1 _ L1).mono ?_
            rintro e w7 ⟨v7, rfl, ho7, hb7⟩
            obtain ⟨A7, c7, rfl, _, hm7⟩ := es_elm ho7
            have hm7 : ElM w7 A7 L.length (fL L) := hm7
            rw [HML.out] at hm7
            rw [show (Value.slice A7 L.length c7) = .slice A7 m c7 by rw [HML.out]]
            go_wp2_with (fail)
            refine (same_els Ao A7 m co c7 w7 (fL L) (L1.below hb7) hm7 (by omega)).mono ?_
            rintro e w8 ⟨rfl, hb8⟩
            have B7 := below_step BW hb7 BW.size
            have B8 := below_step B7 hb8 B7.size
            go_wp2
            go_ret
            exact ⟨rfl, B8⟩
end Go.Proofs.YtobdbjmpoefebaaDoor
