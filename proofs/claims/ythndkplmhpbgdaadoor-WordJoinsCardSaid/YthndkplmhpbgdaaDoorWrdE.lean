/- Texts in a row of memory; what word.Lines answers. -/
import Derived.Test.YthndkplmhpbgdaaDoorWrdD
import Derived.Laws.AppendOwn
import Derived.LoopTactic
namespace Go.Proofs.YthndkplmhpbgdaaDoor
open Go.RowKit
set_option linter.unusedVariables false
set_option linter.unusedSimpArgs false

/-- a text as a value -/
def sv (l : List UInt8) : Value := .string ⟨l.toArray⟩
/-- texts in a row of the call's own -/
def Rs (w : World) (B : Nat) (v : Value) (L : List (List UInt8)) : Prop := w.ownsRow B 9 1 v L.length (L.map sv)
theorem own_below {w w' : World} {B : Nat} {e : TypeId} {size n : Nat} {v : Value} {xs : List Value} (h : w.ownsRow B e size v n xs) (hb : Below w.heap.size w w') : w'.ownsRow B e size v n xs := by
  refine ⟨h.1, ?_⟩
  rcases h.2 with h2 | ⟨g, cap, cur, hv, hg, hh, r⟩
  · exact .inl h2
  · have hlt : g < w.heap.size := by
      rcases Nat.lt_or_ge g w.heap.size with hlt | hge
      · exact hlt
      · rw [Array.getElem?_eq_none hge] at hh; cases hh
    exact .inr ⟨g, cap, cur, hv, hg, (hb.block g hlt).trans hh, r⟩
theorem rs_nil (w : World) (B : Nat) : Rs w B (.slice none 0 0) [] := ⟨rfl, .inl ⟨rfl, rfl⟩⟩
theorem rs_push {w : World} {B : Nat} {v : Value} {L M : List (List UInt8)} {m : List UInt8} {b : ByteArray} (h : w.ownsRow B 9 1 v (L.length + 1) (L.map sv ++ [.string b])) (hb : b = ⟨m.toArray⟩) (hM : M = L ++ [m]) : Rs w B v M := by
  subst hb hM
  unfold Rs
  rw [List.length_append, List.map_append]
  exact h
theorem infoS : (Tryd.prog.info? 9).map (fun i => (i.zero, i.size, i.bytes)) = some (some (.string ⟨#[]⟩), 1, 16) := by kernel_rfl
theorem cell_str_new (w : World) (x : Value) (t : TypeId) : ∀ j u, [x][j]? = some u → (w.alloc (.cells #[x] t)).cell? ((⟨w.heap.size, 0, none⟩ : Addr).add j) = some u := by
  intro j u hu
  have hj : j = 0 := by
    rcases Nat.lt_or_ge j 1 with h | h
    · omega
    · rw [List.getElem?_eq_none (by simp; omega)] at hu; cases hu
  subst hj
  simp at hu
  subst hu
  simp [Addr.add, World.cell?_alloc_new]
theorem ext_list (s : ByteArray) (i j : Nat) : s.extract i j = ⟨((s.data.toList.drop i).take (j - i)).toArray⟩ := by
  apply ByteArray.ext
  apply Array.ext'
  rw [ByteArray.data_extract]
  simp [List.take_drop]
/-- what a row's value is, and its cells -/
theorem rs_row {w : World} {B : Nat} {v : Value} {L : List (List UInt8)} (h : Rs w B v L) : ∃ A c, v = .slice A L.length c ∧ ∀ i, i < L.length → ∃ b, A = some ⟨b, 0, none⟩ ∧ B ≤ b ∧ w.cell? ⟨b, i, none⟩ = some (sv (L.getD i [])) := by
  obtain ⟨hl, ⟨rfl, hn⟩ | ⟨g, cap, cur, rfl, hg, hh, hc, _, hcs, ht⟩⟩ := h
  · exact ⟨none, 0, by rw [hn], fun i hi => by omega⟩
  · refine ⟨some ⟨g, 0, none⟩, cap, rfl, fun i hi => ⟨g, rfl, hg, ?_⟩⟩
    have hi2 : i < cur.size := by omega
    have e : cur.toList[i]? = (L.map sv)[i]? := by
      rw [← ht, List.getElem?_take, if_pos (by omega)]
    rw [List.getElem?_map] at e
    have hLi : L[i]? = some L[i] := List.getElem?_eq_getElem hi
    rw [hLi] at e
    have hcell : cur[i]? = some (sv L[i]) := by simpa using e
    have hd : L.getD i [] = L[i] := by simp [List.getD, hLi]
    rw [hd]
    simp [World.cell?, hh, hcell]
/-- a text's lines -/
def lnG : List (List UInt8) → List UInt8 → List UInt8 → List (List UInt8)
  | acc, cur, [] => if cur.isEmpty = true then acc else acc ++ [cur]
  | acc, cur, c :: r => if c.toNat = 10 then lnG (acc ++ [cur]) [] r else lnG acc (cur ++ [c]) r
def linV (l : List UInt8) : List (List UInt8) := lnG [] [] l
theorem slice_next {l : List UInt8} {f k : Nat} {c : UInt8} (hf : f ≤ k) (hk : l[k]? = some c) : (l.drop f).take (k + 1 - f) = (l.drop f).take (k - f) ++ [c] := by
  have : (l.drop f)[k - f]? = some c := by rw [List.getElem?_drop, show f + (k - f) = k by omega]; exact hk
  have hlt : k - f < (l.drop f).length := (List.getElem?_eq_some_iff.1 this).1
  rw [show k + 1 - f = (k - f) + 1 by omega, List.take_succ_eq_append_getElem hlt]
  congr 2
  exact (List.getElem?_eq_some_iff.1 this).2
theorem at_some (s : ByteArray) (k : Nat) (h : k < s.size) : s.data.toList[k]? = some s[k] := by
  rw [List.getElem?_eq_getElem (by simpa using h)]; rfl
set_option maxHeartbeats 2000000 in
theorem lines_any (s : ByteArray) (w : World) (hs : s.size ≤ 100000) :
    Calls Tryd.prog 24 #[.string s] w fun e w' => ∃ v, e = .returned v ∧ Rs w' w.heap.size v (linV s.data.toList) ∧ Below w.heap.size w w' := by
  obtain ⟨i0, hi0, hz0, hz1, hz2⟩ := info_parts infoS
  have Hi := Lib.hid hi0
  have Hz := Lib.hid hz0
  clear hi0 hz0
  go_enter Tryd.func24, Tryd.ntmps24
  go_wp2
  go_loopw [3, 4, 8] (fun v f i wr => ∃ (L : List (List UInt8)) (a k : Nat), a ≤ k ∧ k ≤ s.size ∧ L.length ≤ k ∧ f = .int .i64 a ∧ i = .int .i64 k ∧ Rs wr w.heap.size v L ∧ Hid (lnG L ((s.data.toList.drop a).take (k - a)) (s.data.toList.drop k) = linV s.data.toList) ∧ Below w.heap.size w wr) (fun _ _ i _ => s.size - (intOf i).toNat)
  case atStart => exact ⟨[], 0, 0, Nat.le_refl _, Nat.zero_le _, Nat.le_refl _, rfl, rfl, rs_nil _ _, Lib.hid (by simp; rfl), Below.refl _ _⟩
  case round =>
    obtain ⟨L, a, k, hak, hk, hL, rfl, rfl, hown, HG, hbr⟩ := hrel
    by_cases hlt : k < s.size
    · have hg := HG.out
      rw [drop_at s k hlt] at hg
      simp only [lnG] at hg
      clear HG
      by_cases h10 : s[k].toNat = 10
      · rw [if_pos h10] at hg
        have HG := Lib.hid hg
        have t : ((s[k].toNat : Int) == 10) = true := by rw [beq_iff_eq]; omega
        have cl := fun w => clone_any (s.extract a k) w (by rw [ByteArray.size_extract]; omega)
        have HE := Lib.hid (ext_list s a k)
        have hc3 : L.length + 1 ≤ maxLen := by unfold maxLen; omega
        have hc4 : (L.length + 1) * 16 ≤ 140737488355328 := by omega
        have HC3 := Lib.hid hc3
        have HC4 := Lib.hid hc4
        clear hg h10 hc3 hc4
        have j1 : (a : Int) ≤ (k : Int) := by omega
        have j2 : (k : Int) ≤ (s.size : Int) := by omega
        go_wp2_with (fail)
        refine (cl _).mono ?_
        rintro e w1 ⟨rfl, hb⟩
        have hbr1 := below_step hbr hb hbr.size
        have hown1 := own_below hown hb
        clear hb hbr hown cl
        generalize s.extract a k = b at *
        have hc1 := cell_str_new w1 (.string b) 9
        have hc2 : ∀ v ∈ [Value.string b], v.oneCell' = true := by simp [Value.oneCell']
        have hbr2 := hbr1.alloc hbr1.size (.cells #[.string b] 9)
        have hc5 := hbr2.size
        go_wp2_with (at_builtin; refine wpList_append_own _ rfl _ _ 22 rfl w.heap.size 9 i0 (.string ⟨#[]⟩) 1 16 Tryd.underlying22 Hi.out Hz.out hz1 hz2 rfl (by decide) _ _ _ rfl (hown1.alloc _) ⟨w1.heap.size, 0, none⟩ 1 1 [.string b] rfl rfl hc1 hc2 HC3.out HC4.out hc5 ?_; intro v' w2 hown2 hg2 _)
        have hbr3 : Below w.heap.size w w2 := hbr2.grown hg2 hc5 (fun k hk => (hown1.lt k hk).1)
        go_roundw
        case rel => exact ⟨L ++ [(s.data.toList.drop a).take (k - a)], k + 1, k + 1, Nat.le_refl _, by omega, by simp; omega, by go_num, by go_num, rs_push hown2 HE.out rfl, Lib.hid (by rw [Nat.sub_self, List.take_zero]; exact HG.out), hbr3⟩
        case measure => simp [intOf]; omega
      · rw [if_neg h10, ← slice_next hak (at_some s k hlt)] at hg
        have HG := Lib.hid hg
        have t : ((s[k].toNat : Int) == 10) = false := by rw [beq_eq_false_iff_ne]; omega
        clear hg h10
        go_wp2
        go_roundw
        case rel => exact ⟨L, a, k + 1, by omega, by omega, by omega, rfl, by go_num, hown, HG, hbr⟩
        case measure => simp [intOf]; omega
    · obtain rfl : k = s.size := by omega
      have hg := HG.out
      rw [show s.data.toList.drop s.size = [] from List.drop_of_length_le (by simp)] at hg
      simp only [lnG] at hg
      clear HG
      have hcl : ((s.data.toList.drop a).take (s.size - a)) = s.data.toList.drop a := List.take_of_length_le (by simp)
      rw [hcl] at hg
      by_cases hlast : a < s.size
      · have hne : (s.data.toList.drop a).isEmpty = false := by
          rw [drop_at s a hlast]; rfl
        rw [hne] at hg
        simp only [Bool.false_eq_true, if_false] at hg
        have HG := Lib.hid hg
        have cl := fun w => clone_any (s.extract a s.size) w (by rw [ByteArray.size_extract]; omega)
        have HE := Lib.hid ((ext_list s a s.size).trans (by rw [hcl]))
        have hc3 : L.length + 1 ≤ maxLen := by unfold maxLen; omega
        have hc4 : (L.length + 1) * 16 ≤ 140737488355328 := by omega
        have HC3 := Lib.hid hc3
        have HC4 := Lib.hid hc4
        clear hg hne hcl hc3 hc4
        have j1 : (a : Int) < (s.size : Int) := by omega
        go_wp2_with (fail)
        refine (cl _).mono ?_
        rintro e w1 ⟨rfl, hb⟩
        have hbr1 := below_step hbr hb hbr.size
        have hown1 := own_below hown hb
        clear hb hbr hown cl
        generalize s.extract a s.size = b at *
        have hc1 := cell_str_new w1 (.string b) 9
        have hc2 : ∀ v ∈ [Value.string b], v.oneCell' = true := by simp [Value.oneCell']
        have hbr2 := hbr1.alloc hbr1.size (.cells #[.string b] 9)
        have hc5 := hbr2.size
        go_wp2_with (at_builtin; refine wpList_append_own _ rfl _ _ 22 rfl w.heap.size 9 i0 (.string ⟨#[]⟩) 1 16 Tryd.underlying22 Hi.out Hz.out hz1 hz2 rfl (by decide) _ _ _ rfl (hown1.alloc _) ⟨w1.heap.size, 0, none⟩ 1 1 [.string b] rfl rfl hc1 hc2 HC3.out HC4.out hc5 ?_; intro v' w2 hown2 hg2 _)
        have hbr3 : Below w.heap.size w w2 := hbr2.grown hg2 hc5 (fun k hk => (hown1.lt k hk).1)
        go_ret
        exact ⟨_, rfl, by rw [← HG.out]; exact rs_push hown2 HE.out rfl, hbr3⟩
      · have hem : (s.data.toList.drop a).isEmpty = true := by
          rw [List.drop_of_length_le (by simp; omega)]; rfl
        rw [hem] at hg
        simp only [if_true] at hg
        have HG := Lib.hid hg
        clear hg hem hcl
        go_wp2
        go_ret
        exact ⟨_, rfl, by rw [← HG.out]; exact hown, hbr⟩
end Go.Proofs.YthndkplmhpbgdaaDoor
