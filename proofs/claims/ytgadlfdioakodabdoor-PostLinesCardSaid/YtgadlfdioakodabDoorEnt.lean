/- Entries in memory, and what post.signed and post.Reverse answer of any of them. -/
import Derived.Test.YtgadlfdioakodabDoorBox
import Derived.Test.YtgadlfdioakodabDoorMoneyB
import Derived.Test.YtgadlfdioakodabDoorOwnN
import Derived.Test.YtgadlfdioakodabDoorShelf
import Derived.Deep.RegionLaw
import Derived.Deep.AppendLies
import Derived.Deep.RegionWith
import Derived.Laws.AppendOwn
import Derived.OwnWalk
namespace Go.Proofs.YtgadlfdioakodabDoor
open Go.RowKit Go.Sort
set_option linter.unusedVariables false
set_option linter.unusedSimpArgs false

theorem cells_at2 (w : World) (x y : Value) (t : TypeId) {n : Nat} (hn : w.heap.size = n) : ∀ j u, [x, y][j]? = some u → (w.alloc (.cells #[x, y] t)).cell? ((⟨n, 0, none⟩ : Addr).add j) = some u := bx_add (bx_at w [x, y] t hn)
theorem meas_step {N i : Nat} (h : i < N) : N - (intOf (Value.int .i64 ((i : Int) + 1))).toNat < N - (intOf (Value.int .i64 (i : Int))).toNat := by
  simp [intOf]; omega
/-- an entry: its account, and by how much it changes -/
abbrev En := ByteArray × Int
def enC (x : En) : List Value := [.string x.1, .int .i64 x.2]
/-- entries, cell by cell -/
def enL (f : Nat → En) : Nat → List Value
  | 0 => []
  | n + 1 => enL f n ++ enC (f n)
theorem enL_len (f : Nat → En) (n : Nat) : (enL f n).length = n * 2 := by
  induction n with
  | zero => rfl
  | succ n ih => simp [enL, enC, ih]; omega
theorem enL_get (f : Nat → En) {n i j : Nat} (hi : i < n) (hj : j < 2) : (enL f n)[i * 2 + j]? = (enC (f i))[j]? := by
  induction n with
  | zero => omega
  | succ n ih =>
    show (enL f n ++ enC (f n))[i * 2 + j]? = _
    by_cases h : i < n
    · rw [List.getElem?_append_left (by rw [enL_len]; omega)]; exact ih h
    · obtain rfl : i = n := by omega
      rw [List.getElem?_append_right (by rw [enL_len]; omega), enL_len, show i * 2 + j - i * 2 = j by omega]
/-- entries, wherever they lie -/
def EnM (w : World) (A : Option Addr) (n : Nat) (f : Nat → En) : Prop :=
  0 < n → ∃ b o, A = some ⟨b, o, none⟩ ∧ ∀ i, i < n → w.cell? ⟨b, o + i * 2, none⟩ = some (.string (f i).1) ∧ w.cell? ⟨b, o + i * 2 + 1, none⟩ = some (.int .i64 (f i).2)
theorem EnM.below {w w' : World} {A : Option Addr} {n : Nat} {f : Nat → En} (h : EnM w A n f) (hb : Below w.heap.size w w') : EnM w' A n f := fun h0 => by
  obtain ⟨b, o, e, hc⟩ := h h0
  exact ⟨b, o, e, fun i hi => ⟨cell_later hb (hc i hi).1, cell_later hb (hc i hi).2⟩⟩
/-- a row of the call's own is entries in memory -/
theorem en_own {w : World} {B n : Nat} {e : TypeId} {A : Option Addr} {c : Nat} {f : Nat → En} (h : w.ownsRow B e 2 (.slice A n c) n (enL f n)) : EnM w A n f := fun hn => by
  obtain ⟨A', c', e, hA, hg⟩ := own_len h
  obtain ⟨g, rfl⟩ := hg hn
  obtain ⟨rfl, _, rfl⟩ := Value.slice.inj e
  refine ⟨g, 0, rfl, fun i hi => ?_⟩
  rw [Nat.zero_add]
  exact ⟨own_cells h ((enL_get f hi (j := 0) (by omega)).trans rfl), own_cells h ((enL_get f hi (j := 1) (by omega)).trans rfl)⟩
theorem infoEn : (Tryd.prog.info? 26).map (fun i => (i.zero, i.size, i.bytes)) = some (some (.agg #[.string ⟨#[]⟩, .int .i64 0]), 2, 24) := by kernel_rfl
theorem strclone_any (s : ByteArray) (w : World) (hs : s.size ≤ 281474976710656) : Calls Tryd.prog 36 #[.string s] w fun e w' => e = .returned (.string s) ∧ Below w.heap.size w w' := by
  have c := fun w => Tryd.stringslite_Clone s w hs
  go_enter Tryd.func36, Tryd.ntmps36
  go_wp2_with (fail)
  refine (c _).mono ?_
  rintro e w' ⟨rfl, h⟩
  go_wp2
  go_ret
  exact ⟨rfl, h⟩
/-- entries with this sign -/
def sgE (s : Int) (f : Nat → En) (i : Nat) : En := ((f i).1, IntKind.i64.wrap ((f i).2 * s))
set_option maxRecDepth 100000 in
set_option maxHeartbeats 4000000 in
theorem signed_any (s : Int) (A : Option Addr) (n c : Nat) (f : Nat → En) (w : World) (h : EnM w A n f) (hn : n ≤ 100000) (hs : ∀ i, i < n → (f i).1.size ≤ 281474976710656) :
    Calls Tryd.prog 59 #[.int .i64 s, .slice A n c] w fun e w' => ∃ v, e = .returned v ∧ w'.ownsRow w.heap.size 26 2 v n (enL (sgE s f) n) ∧ Below w.heap.size w w' := by
  obtain ⟨i0, hi0, hz0, hz1, hz2⟩ := info_parts infoEn
  have Hi := Lib.hid hi0
  have Hz := Lib.hid hz0
  have HE := Lib.hid h
  have HN := Lib.hid hn
  have HS := Lib.hid hs
  clear hi0 hz0 h hn hs
  go_enter Tryd.func59, Tryd.ntmps59
  go_wp2
  go_loopw [5, 10] (fun v j X => ∃ i : Nat, i ≤ n ∧ j = .int .i64 i ∧ X.ownsRow w.heap.size 26 2 v i (enL (sgE s f) i) ∧ Below w.heap.size w X) (fun _ j _ => n - (intOf j).toNat)
  case atStart => exact ⟨0, Nat.zero_le _, rfl, World.ownsRow_nil _ _ _ _, Below.refl _ _⟩
  case round =>
    obtain ⟨i, hi, rfl, hown, hbX⟩ := hrel
    by_cases hlt : i < n
    · have hil : (i : Int) < (n : Int) := by omega
      have hwi : wrap64 ((i : Int) + 1) = (i : Int) + 1 := IntWalk.wrap64_in _ (by have := HN.out; omega)
      obtain ⟨b, o, rfl, hc⟩ := HE.out (by omega)
      obtain ⟨x0, x1⟩ := hc i hlt
      replace x0 := cell_later hbX x0
      replace x1 := cell_later hbX x1
      have HL := Lib.hid hlt
      have hc3 : Hid (i + 1 ≤ maxLen) := Lib.hid (by have := HN.out; unfold maxLen; omega)
      have hc4 : Hid ((i + 1) * 24 ≤ 140737488355328) := Lib.hid (by have := HN.out; omega)
      have HNX : Hid (enL (sgE s f) (i + 1) = enL (sgE s f) i ++ [.string (f i).1, .int .i64 (IntKind.i64.wrap ((f i).2 * s))]) := Lib.hid rfl
      have cl := fun w => strclone_any (f i).1 w (HS.out i hlt)
      clear hc hi hlt
      generalize (f i).1 = N at *
      generalize (f i).2 = v at *
      have KX := bx_new wr [.string N, .int .i64 v] 26
      have NX := below_new wr (.cells #[.string N, .int .i64 v] 26)
      have own1 := own_below hown NX
      have B1 := below_step hbX NX hbX.size
      have kx_0 := KX.cell (i := 0) rfl
      have kx_1 := KX.cell (i := 1) rfl
      have hone : ∀ u ∈ ([.string N, .int .i64 (IntKind.i64.wrap (v * s))] : List Value), u.oneCell' = true := by simp [Value.oneCell']
      clear hown hbX NX
      go_wp2
      generalize (wr.alloc (.cells #[.string N, .int .i64 v] 26)) = w1 at *
      have hw : Below w1.heap.size w1 w1.drew := (Below.refl _ _).drew
      go_region_law
        (first
          | (refine step_append_lies _ (by rfl) (.tmp 14) (.tmp 23) 22 (by rfl) w.heap.size 26 i0 (.agg #[.string ⟨#[]⟩, .int .i64 0]) 2 24 Tryd.underlying22 Hi.out Hz.out hz1 hz2 (by rfl) (by decide) u5 i (enL (sgE s f) i) (by rfl) own7 ⟨_, 0, none⟩ 1 1 [.string N, .int .i64 (IntKind.i64.wrap (v * s))] (by rfl) (by rfl) (cells_at2 _ _ _ _ rfl) hone (by decide) hc3.out hc4.out b7.size _ rfl ?_; intro g9 cap9 w9 hown9 hgrow hat hlt9; have B9 := b7.grown hgrow b7.size (fun k hk => (own7.lt k hk).1))
          | (go_simp; go_at_call 36; (with_reducible refine (cl _).mono ?_); rintro e w6 ⟨rfl, hb6⟩; have hw6 := below_step hw hb6 hw.size; have K6 := KX.below hw6; have y0 := K6.cell (i := 0) rfl; have y1 := K6.cell (i := 1) rfl; have b6 := below_step B1 hw6 B1.size; have own6 := own_below own1 hw6; have b7 := b6.alloc b6.size (.cells #[.string N, .int .i64 (IntKind.i64.wrap (v * s))] 26); have own7 := own_below own6 (below_new w6 (.cells #[.string N, .int .i64 (IntKind.i64.wrap (v * s))] 26))))
      all_goals
        have HB9 := Lib.hid B9
        have HO9 := Lib.hid hown9
        clear hown9 B9 hgrow hat hlt9 own7 b7 own6 b6 K6 hw6 hb6 y0 y1 cl KX own1 B1 kx_0 kx_1 hw x0 x1
        go_wp2
        exact ⟨⟨i + 1, Nat.succ_le_of_lt HL.out, by go_num, by rw [HNX.out]; exact HO9.out, HB9.out⟩, by first | exact meas_step HL.out | (rw [hwi]; exact meas_step HL.out)⟩
    · obtain rfl : i = n := by omega
      have hnl : ¬ (i : Int) < (i : Int) := by omega
      go_wp2
      go_ret
      exact ⟨_, rfl, hown, hbX⟩
theorem reverse_any (A : Option Addr) (n c : Nat) (f : Nat → En) (w : World) (h : EnM w A n f) (hn : n ≤ 100000) (hs : ∀ i, i < n → (f i).1.size ≤ 281474976710656) :
    Calls Tryd.prog 26 #[.slice A n c] w fun e w' => ∃ v, e = .returned v ∧ w'.ownsRow w.heap.size 26 2 v n (enL (sgE (-1) f) n) ∧ Below w.heap.size w w' := by
  have cS := signed_any (-1) A n c f w h hn hs
  clear h hn hs
  go_enter Tryd.func26, Tryd.ntmps26
  go_wp2_with (fail)
  with_reducible refine cS.mono ?_
  rintro e w1 ⟨v, rfl, hown, hb⟩
  go_wp2
  go_ret
  exact ⟨_, rfl, hown, hb⟩
end Go.Proofs.YtgadlfdioakodabDoor
