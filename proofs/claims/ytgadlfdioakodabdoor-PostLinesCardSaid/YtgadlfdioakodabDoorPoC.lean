/- The first loop of post.Post: what stands behind each of some entries on their accounts. -/
import Derived.Test.YtgadlfdioakodabDoorPoB
namespace Go.Proofs.YtgadlfdioakodabDoor
open Go.RowKit Go.Sort Go.Maps
set_option linter.unusedVariables false
set_option linter.unusedSimpArgs false

def addV (a b : Int) : Int × Int := if (amtB a && amtB b && amtB (a + b)) = true then (a + b, 0) else (0, 10)
theorem add_any (a b : Int) (w : World) : Calls Tryd.prog 35 #[.int .i64 a, .int .i64 b] w fun e w' => e = .returned (.tuple #[.int .i64 (addV a b).1, .int .i64 (addV a b).2]) ∧ Below w.heap.size w w' := by
  unfold addV
  cases h : (amtB a && amtB b && amtB (a + b))
  · exact add_bad a b w h
  · obtain ⟨h1, h2⟩ : (amtB a && amtB b) = true ∧ amtB (a + b) = true := by simpa only [Bool.and_eq_true] using h
    exact add_ok a b w h1 h2
/-- an account's name, byte by byte -/
def acc (f : Nat → En) (i : Nat) : List UInt8 := (f i).1.data.toList
/-- is it an account of the first of some entries? -/
def inB (f : Nat → En) : Nat → List UInt8 → Bool
  | 0, _ => false
  | i + 1, l => decide (l = acc f i) || inB f i l
/-- what stands on an account behind so many entries -/
def tot (M : List UInt8 → Int) (f : Nat → En) : Nat → List UInt8 → Int
  | 0, l => M l
  | i + 1, l => if l = acc f i then tot M f i l + (f i).2 else tot M f i l
theorem tot_out {M : List UInt8 → Int} {f : Nat → En} : ∀ {i : Nat} {l : List UInt8}, inB f i l = false → tot M f i l = M l
  | 0, _, _ => rfl
  | i + 1, l, h => by
    have h2 : decide (l = acc f i) = false ∧ inB f i l = false := by
      have : (decide (l = acc f i) || inB f i l) = false := h
      simpa only [Bool.or_eq_false_iff] using this
    have h3 : ¬ l = acc f i := by simpa using h2.1
    show (if l = acc f i then _ else tot M f i l) = M l
    rw [if_neg h3]
    exact tot_out h2.2
/-- what the map of those behind holds -/
def bhM (M : List UInt8 → Int) (f : Nat → En) (i : Nat) (l : List UInt8) : Int := if inB f i l = true then tot M f i l else 0
/-- why an entry is refused -/
def poE (M : List UInt8 → Int) (f : Nat → En) (i : Nat) : Int := (addV (tot M f i (acc f i)) (f i).2).2
theorem bhM_succ {M : List UInt8 → Int} {f : Nat → En} {i : Nat} (h : poE M f i = 0) : (fun z => if z = acc f i then (addV (tot M f i (acc f i)) (f i).2).1 else bhM M f i z) = bhM M f (i + 1) := by
  have e : (addV (tot M f i (acc f i)) (f i).2).1 = tot M f i (acc f i) + (f i).2 := by
    unfold poE addV at h
    unfold addV
    split
    · rfl
    · rename_i h2
      rw [if_neg h2] at h
      cases h
  funext z
  rw [e]
  unfold bhM
  show _ = if (decide (z = acc f i) || inB f i z) = true then (if z = acc f i then tot M f i z + (f i).2 else tot M f i z) else 0
  by_cases hz : z = acc f i
  · subst hz; simp
  · simp [hz]
/-- amounts on all accounts that may be stay such -/
theorem tot_amt {M : List UInt8 → Int} {f : Nat → En} (hM : ∀ l, amtB (M l) = true) : ∀ {i : Nat}, firstE (poE M f) i = 0 → ∀ l, amtB (tot M f i l) = true
  | 0, _, l => hM l
  | i + 1, h, l => by
    have h1 : firstE (poE M f) i = 0 := first_of_zero fun j hj => first_zero h j (by omega)
    have h0 := first_zero h i (Nat.lt_succ_self _)
    show amtB (if l = acc f i then tot M f i l + (f i).2 else tot M f i l) = true
    split
    · rename_i e
      subst e
      unfold poE addV at h0
      split at h0
      · rename_i hb
        simp only [Bool.and_eq_true] at hb
        exact hb.2
      · cases h0
    · exact tot_amt hM h1 l
end Go.Proofs.YtgadlfdioakodabDoor
