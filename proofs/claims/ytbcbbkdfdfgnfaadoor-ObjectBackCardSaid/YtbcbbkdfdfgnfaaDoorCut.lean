/-
  A region that draws its order, cut off from what follows: what holds behind it is said once, however many orders there are.
-/
import Derived.Test.YtbcbbkdfdfgnfaaDoorMm
import Derived.Deep.RegionLaw
namespace Go.Proofs.YtbcbbkdfdfgnfaaDoor
open Go.RowKit

/-- Behind a region that ends. -/
def OnlyNormal (R : Act → World → Prop) : Exit → Act → World → Prop
  | .normal, a, w => R a w
  | _, _, _ => False
theorem region_cut {P : Program} {id : Nat} {ops : Array Oper} {b : Bool} {Q : Exit → Act → World → Prop} {a : Act} {w : World} (R : Act → Act → World → Prop)
    (h : (Code.region id ops b).wp P (OnlyNormal (R a)) a w) (h2 : ∀ a' u, R a a' u → Q .normal a' u) : (Code.region id ops b).wp P Q a w :=
  Code.wp_mono (fun e a' u hr => by cases e <;> first | exact h2 _ _ hr | exact (hr : False).elim) h
end Go.Proofs.YtbcbbkdfdfgnfaaDoor
