/- Entries sorted by their accounts: the closure of post.Balances, and what the library's sorting does with it. -/
import Derived.Test.YtgadlfdioakodabDoorEnt
import Derived.Test.YtgadlfdioakodabDoorShelfG
import Derived.Shelf.SlSortCmp.WholeK
import Derived.Sort.OwnSorted
import Derived.Laws.OwnMore
namespace Go.Proofs.YtgadlfdioakodabDoor
open Go.RowKit Go.Sort Go.Shelf
set_option linter.unusedVariables false
set_option linter.unusedSimpArgs false

theorem isnan_any (s : ByteArray) (w : World) : Calls Tryd.prog 69 #[.string s] w fun e w' => e = .returned (.bool false) ∧ w' = w := by
  go_enter Tryd.func69, Tryd.ntmps69
  go_wp2
  go_ret
  exact ⟨by simp, rfl⟩
/-- how accounts are ordered -/
def cmpA (x y : ByteArray) : Int := if x.data.toList < y.data.toList then -1 else if y.data.toList < x.data.toList then 1 else 0
theorem lt_of_not {x y : List UInt8} (h : ¬ x < y) (hn : ¬ x = y) : y < x := by
  by_cases h2 : y < x
  · exact h2
  · exact absurd (List.le_antisymm (List.not_lt.1 h2) (List.not_lt.1 h)) hn
theorem cmpstr_any (x y : ByteArray) (w : World) : Calls Tryd.prog 39 #[.string x, .string y] w fun e w' => e = .returned (.int .i64 (cmpA x y)) ∧ w' = w := by
  have c := fun s w => isnan_any s w
  go_enter Tryd.func39, Tryd.ntmps39
  go_wp2_with (go_at_call 69; refine (c _ _).mono ?_; rintro e w' ⟨rfl, hw⟩; rw [hw])
  all_goals (go_ret; refine ⟨?_, rfl⟩; unfold cmpA)
  all_goals simp only [ByteArray.toList_eq, bytesLess_eq, decide_eq_true_eq, decide_eq_false_iff_not, Bool.not_eq_true', beq_eq_false_iff_ne, ne_eq, Bool.not_eq_false', beq_iff_eq, Bool.or_eq_true, Bool.or_eq_false_iff] at *
  · rename_i h1; rw [if_pos h1]; rfl
  · rename_i h1 h2
    rw [if_neg h1, if_pos (lt_of_not h1 h2)]; rfl
  · rename_i h1 h2
    rw [if_neg h1, if_neg (show ¬ y.data.toList < x.data.toList by rw [h2]; exact List.lt_irrefl _)]; rfl
set_option maxHeartbeats 1000000 in
theorem balc_any (x y : En) (W : World) : Calls Tryd.prog 38 #[.agg (enC x).toArray, .agg (enC y).toArray] W fun e w' => e = .returned (.int .i64 (cmpA x.1 y.1)) ∧ ∃ q os', w' = grow (W.drewN q) os' := by
  have hcon := fun W' => cmpstr_any x.1 y.1 W'
  unfold enC
  generalize cmpA x.1 y.1 = r at hcon ⊢
  go_enter Tryd.func38, Tryd.ntmps38
  go_wp2_with (go_at_call 39; refine (hcon _).mono ?_; rintro e w' ⟨rfl, rfl⟩)
  go_ret
  exact ⟨rfl, 0, _, by rw [alloc_eq_grow, alloc_eq_grow, grow_grow]; rfl⟩
/-- is an entry ahead of another? -/
theorem ltE (x y : En) : ltOf (fun x y : En => cmpA x.1 y.1) x y = decide (x.1.data.toList < y.1.data.toList) := by
  unfold ltOf cmpA
  by_cases h : x.1.data.toList < y.1.data.toList
  · simp [h]
  · by_cases h2 : y.1.data.toList < x.1.data.toList <;> simp [h, h2]
theorem swoE : SWO (ltOf fun x y : En => cmpA x.1 y.1) where
  irrefl x := by rw [ltE]; simp
  trans x y z h1 h2 := by rw [ltE] at *; simp only [decide_eq_true_eq] at *; exact List.lt_trans h1 h2
  ntrans x y z h1 h2 := by rw [ltE] at *; simp only [decide_eq_false_iff_not, List.not_lt] at *; exact List.le_trans h2 h1
theorem cmpLaysE (blk off size : Nat) (w : World) : CmpLays Tryd.prog 38 #[] enC 2 (fun x y => cmpA x.1 y.1) blk off size w :=
  fun _ _ _ _ x y => balc_any x y _
theorem aggE : ∀ w, (Go.isAgg 26).run Tryd.prog w = .ok true w := fun w => by kernel_rfl
theorem sizeE : ∀ w, (Go.sizeOf 26).run Tryd.prog w = .ok 2 w := fun w => by kernel_rfl
/-- so many entries, as the sorting sees them -/
def arrE (f : Nat → En) (n : Nat) : Array En := (Array.range n).map f
theorem arrE_size (f : Nat → En) (n : Nat) : (arrE f n).size = n := by simp [arrE]
theorem arrE_get {f : Nat → En} {n i : Nat} (h : i < n) : (arrE f n)[i]! = f i := by
  rw [getElem!_pos _ _ (by rw [arrE_size]; exact h)]
  simp [arrE]
theorem flatE (f : Nat → En) (n : Nat) : flatK enC 2 (arrE f n) = (enL f n).toArray := by
  refine ext_get! (by rw [size_flatK, arrE_size]; simp [enL_len]) fun t ht => ?_
  rw [size_flatK, arrE_size] at ht
  rw [get_flatK _ _ _ _ (by rw [arrE_size]; exact ht)]
  have hi : t / 2 < n := by omega
  have hj : t % 2 < 2 := by omega
  have e := enL_get f hi hj
  rw [show t / 2 * 2 + t % 2 = t by omega] at e
  have h1 : t < (enL f n).length := by rw [enL_len]; omega
  have h2 : t % 2 < (enC (f (t / 2))).length := by simpa [enC] using hj
  rw [arrE_get hi, getElem!_pos (enL f n).toArray t (by simpa using h1), getElem!_pos (enC (f (t / 2))) (t % 2) h2]
  rw [List.getElem?_eq_getElem h1, List.getElem?_eq_getElem h2] at e
  simpa using (Option.some.inj e).symm
theorem holdsE {w : World} {B g cap n : Nat} {f : Nat → En} (h : w.ownsRow B 26 2 (.slice (some ⟨g, 0, none⟩) n cap) n (enL f n)) : HoldsK enC 2 w g 0 (arrE f n) := by
  unfold HoldsK
  rw [flatE]
  intro j hj
  have hj' : j < n * 2 := by simpa [enL_len] using hj
  rw [Nat.zero_add]
  refine ⟨?_, h.frozenAt j⟩
  rw [h.cellAt j hj', getElem!_pos (enL f n).toArray j hj]
  simp [List.getElem?_eq_getElem (show j < (enL f n).length by rw [enL_len]; exact hj')]
theorem heapE {w : World} {g n : Nat} {os : Array Obj} {cur : Array Value} {e : TypeId} {fr : Nat × Nat} (d : Array Value) (hb : w.heap[g]? = some (.cells cur e fr)) :
    (grow (putRow id (Sort.ahead w n) g 0 d) os).heap[g]? = some (.cells (putCells id 0 d cur) e fr) := by
  have hg : g < w.heap.size := (Array.getElem?_eq_some_iff.1 hb).1
  rw [heap_grow_old _ _ (by simpa using hg)]
  simp [putRow, mapBlock, Sort.ahead, Array.getElem?_modify, hb, onCells]
theorem grownE {w : World} {g n : Nat} {os : Array Obj} (d : Array Value) : w.grownBy (grow (putRow id (Sort.ahead w n) g 0 d) os) (some g) := by
  refine ⟨rfl, rfl, rfl, by simp, fun k hk hne => ?_⟩
  rw [heap_grow_old _ _ (by simpa using hk)]
  have : g ≠ k := fun e => hne (by rw [e])
  simp [putRow, mapBlock, Sort.ahead, Array.getElem?_modify, this]
theorem takeE (cur : Array Value) (ts : List Value) (h : ts.length ≤ cur.size) : (putCells id 0 ts.toArray cur).toList.take ts.length = ts := by
  apply List.ext_getElem?
  intro j
  by_cases hj : j < ts.length
  · rw [List.getElem?_take_of_lt hj, Array.getElem?_toList]
    simp [putCells, hj, show j < cur.size by omega]
  · rw [List.getElem?_take_eq_none (by omega), List.getElem?_eq_none (by omega)]
def acc1 (f : Nat → En) (i : Nat) : List UInt8 := (f i).1.data.toList
/-- sorted by their accounts -/
def SortE (f : Nat → En) (n : Nat) : Prop := ∀ i j, i < j → j < n → ¬ acc1 f j < acc1 f i
set_option maxHeartbeats 2000000 in
theorem ins_none (p : Option Addr) (cap : Nat) (fv : Value) (w : World) : Calls Tryd.prog 82 #[.slice p 0 cap, .int .i64 0, .int .i64 0, fv] w fun e w' => e = .returned (.tuple #[]) ∧ w' = w := by
  go_enter Tryd.func82, Tryd.ntmps82
  go_wp2
  refine wp_loop_rounds 1 ?_
  rw [rounds_succ]
  go_wp2
  go_end0
  exact ⟨rfl, rfl⟩
set_option maxHeartbeats 2000000 in
theorem pdq_none (p : Option Addr) (cap : Nat) (lim : Int) (fv : Value) (w : World) : Calls Tryd.prog 67 #[.slice p 0 cap, .int .i64 0, .int .i64 0, .int .i64 lim, fv] w fun e w' => e = .returned (.tuple #[]) ∧ w' = w := by
  have hi := fun W => ins_none p cap fv W
  go_enter Tryd.func67, Tryd.ntmps67
  go_wp2
  refine wp_loop_rounds 1 ?_
  rw [rounds_succ]
  go_wp2_with (go_at_call 82; refine (hi _).mono ?_; rintro e w' ⟨rfl, rfl⟩)
  (try simp only [Exit.inBlock, Exit.then]); refine bodyPost_ret (results_none rfl _ _ _) rfl ?_
  exact ⟨rfl, rfl⟩
set_option maxHeartbeats 2000000 in
theorem sort_none (p : Option Addr) (cap : Nat) (fv : Value) (w : World) : Calls Tryd.prog 37 #[.slice p 0 cap, fv] w fun e w' => e = .returned (.tuple #[]) ∧ w' = w := by
  have hp := fun lim W => pdq_none p cap lim fv W
  have hl : ∀ W, Calls Tryd.prog 68 #[.int .u64 0] W fun e w' => e = .returned (.int .i64 (Lib.bitLen 0 : Nat)) ∧ w' = W := fun W => Tryd.bits_Len 0 W (by omega) (by omega)
  go_enter Tryd.func37, Tryd.ntmps37
  go_wp2_with (first | (go_at_call 68; refine (hl _).mono ?_; rintro e w' ⟨rfl, rfl⟩) | (go_at_call 67; refine (hp _ _).mono ?_; rintro e w' ⟨rfl, rfl⟩))
  go_end0
  exact ⟨rfl, rfl⟩
/-- the library's sorting, of entries that a row holds -/
theorem sort_en {w : World} {B n : Nat} {v : Value} {f : Nat → En} (h : w.ownsRow B 26 2 v n (enL f n)) (hn : n ≤ 100000) :
    Calls Tryd.prog 37 #[v, .func (.func 38) #[] #[]] w fun e w' => e = .returned (.tuple #[]) ∧ ∃ f', w'.ownsRow B 26 2 v n (enL f' n) ∧ (Array.toList (arrE f' n)).Perm (Array.toList (arrE f n)) ∧ SortE f' n ∧ w.grownBy w' v.ownBlock := by
  rcases h.2 with ⟨rfl, h0⟩ | ⟨g, cap, cur, rfl, hg, hb, h1, h2, h3, h4⟩
  · subst h0
    refine (sort_none none 0 _ w).mono ?_
    rintro e w' ⟨rfl, rfl⟩
    exact ⟨rfl, f, h, List.Perm.refl _, fun i j _ hj => absurd hj (Nat.not_lt_zero _), ⟨rfl, rfl, rfl, Nat.le_refl _, fun _ _ _ => rfl⟩⟩
  · have hgl : g < w.heap.size := (Array.getElem?_eq_some_iff.1 hb).1
    have eg : ∀ args w, (callFunc 38 args).run Tryd.prog w = .ok (.enter 38 args) w := enters_of Tryd.func38 (by kernel_rfl) rfl
    have hcon := AnyQ.slices_SortFunc Tryd.sortE 2 aggE sizeE enC (fun _ => rfl) (fun x v hv => by simp [enC] at hv; rcases hv with rfl | rfl <;> rfl) (fun x y => cmpA x.1 y.1) swoE 38 #[] g 0 cap (arrE f n) w eg (cmpLaysE g 0 _ w) (holdsE h) hgl (by rw [arrE_size]; omega)
    rw [arrE_size] at hcon
    refine hcon.mono ?_
    rintro e w' ⟨rfl, d', m, os, hp, hs, rfl⟩
    obtain ⟨hp1, -, hp3⟩ := hp
    have hd : d' = arrE (fun i => d'[i]!) n := by
      refine Array.ext (by rw [arrE_size, hp1, arrE_size]) fun i h1 h2 => ?_
      simp [arrE, h1]
    have hsz : d'.size = n := by rw [hp1, arrE_size]
    refine ⟨rfl, fun i => d'[i]!, ?_, ?_, ?_, ?_⟩
    · unfold sortWorldK putRowK
      rw [(congrArg (flatK enC 2) hd).trans (flatE _ _)]
      have ht := takeE cur (enL (fun i => d'[i]!) n) (by rw [enL_len, h3]; omega)
      rw [enL_len] at ht
      exact ⟨by rw [enL_len], .inr ⟨g, cap, _, rfl, hg, heapE _ hb, h1, h2, by simp [putCells, h3], ht⟩⟩
    · rw [← hd]
      have hp4 : (List.take n d'.toList).Perm (List.take n (arrE f n).toList) := by simpa using hp3
      rwa [List.take_of_length_le (by simp [hsz]), List.take_of_length_le (by simp [arrE_size])] at hp4
    · intro i j hij hj
      have := hs i j (Nat.zero_le _) hij hj
      rw [ltE] at this
      exact of_decide_eq_false this
    · unfold sortWorldK putRowK
      exact grownE _
end Go.Proofs.YtgadlfdioakodabDoor
