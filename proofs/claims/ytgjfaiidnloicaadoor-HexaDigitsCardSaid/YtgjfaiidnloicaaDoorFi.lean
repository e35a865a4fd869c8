/-
  An id that came in by value, opened.
-/
import Derived.Test.YtgjfaiidnloicaaDoorFr
import Derived.Test.YtgjfaiidnloicaaDoorHh
namespace Go.Proofs.YtgjfaiidnloicaaDoor
open Go.ChangeShapes Go.WideShapes Go.ChangeAt Go.RowKit
set_option linter.unusedVariables false

def byteOf : Value → UInt8
  | .int _ z => UInt8.ofNat z.toNat
  | _ => 0
theorem open_id {H : Type} {enc : TypeId × Value → H} {W : World} {b0 base : Nat} {v : Value} {d : DataW H} {p : List MemPlace} (hv : Value.okWide Tryd.prog W .any b0 29 v) (h : DataW.Trod enc Tryd.prog W base (fun _ => true) true 29 v d p) :
    ∃ l : List UInt8, l.length = 20 ∧ v = idv l := by
  have hu : Tryd.prog.underlying 29 = some (.array 20 5) := Tryd.underlying29
  obtain ⟨cs, rfl, hsz⟩ : ∃ cs, v = .agg cs ∧ cs.size = 20 := by
    simp only [Value.okWide, hu] at hv
    obtain ⟨cs, h1, h2, _⟩ := hv
    exact ⟨cs, h1, h2.trans (by kernel_rfl)⟩
  obtain ⟨fuel, hf⟩ := h
  obtain ⟨xs, m, _, _, _, hxl, hel⟩ := DataW.trod_array hu hf
  have c5 : Tryd.prog.cellsOf 5 = 1 := by kernel_rfl
  have hcs : (Value.agg cs).cells.toList = cs.toList := rfl
  refine ⟨cs.toList.map byteOf, by simp [hsz], ?_⟩
  unfold idv
  congr 1
  apply Array.ext
  · simp [Lib.byteCells]
  · intro i h1 h2
    have hi : i < 20 := by omega
    have e := hel i hi
    rw [c5, hcs] at e
    have e2 : (cs.toList.drop (i * 1)).take 1 = [cs[i]] := by
      rw [Nat.mul_one, List.drop_eq_getElem_cons (by simpa using h1)]; simp
    rw [e2, List.getElem?_eq_getElem (by omega)] at e
    obtain ⟨z, hz, _, hw⟩ := DataW.trod_int Tryd.underlying5 e
    have hz2 : cs[i] = .int .u8 z := by simpa using hz
    have hb := bounds_u8 hw
    simp only [Lib.byteCells, List.map_map, List.getElem_toArray, List.getElem_map, Function.comp, Array.getElem_toList, hz2, byteOf]
    congr 1
    rw [UInt8.toNat_ofNat']
    omega
end Go.Proofs.YtgjfaiidnloicaaDoor
