/-
  Frame: an id in its cells, opened.
-/
import Derived.Test.YtajmgjhknmkfpaaGa
import Derived.Test.YtajmgjhknmkfpaaFsz
import Derived.Deep.Slices
import Derived.Deep.Strs
import Derived.Lib.SmallJoins
namespace Go.Proofs.Ytajmgjhknmkfpaa
open Go.ChangeShapes Go.WideShapes Go.ChangeAt Go.RowKit Go.Deep
set_option linter.unusedVariables false
set_option maxRecDepth 100000

theorem bd_i64D {n : Int} (h : (Lit.int .i64 n).wf = true) : -9223372036854775808 ≤ n ∧ n ≤ 9223372036854775807 := by
  have e1 : IntKind.i64.min = -9223372036854775808 := rfl
  have e2 : IntKind.i64.max = 9223372036854775807 := rfl
  simpa [Lit.wf, e1, e2] using h
def byteD : Value → UInt8
  | .int _ z => UInt8.ofNat z.toNat
  | _ => 0
theorem spot_noneD {W : World} {a : Addr} {v : Value} (h : W.cell? a = some v) : ∃ b o, a = ⟨b, o, none⟩ := by
  obtain ⟨b, o, s⟩ := a
  have := World.cell?_spot h
  exact ⟨b, o, by simpa using this⟩
theorem id_of_cells {H : Type} {enc : TypeId × Value → H} {W : World} {base fuel : Nat} {cs : List Value} {x : DataW H × List MemPlace} (hl : cs.length = 20) (h : DataW.trod enc Try.prog W base (fun _ => true) true fuel 32 cs = some x) :
    ∃ i : List UInt8, cs = cellsD i ∧ i.length = 20 := by
  refine ⟨cs.map byteD, ?_, by simp [hl]⟩
  unfold cellsD
  have hu : Try.prog.underlying 32 = some (.array 20 5) := Try.underlying32
  obtain ⟨xs, m, _, _, _, hxl, hel⟩ := DataW.trod_array hu h
  have c5 : Try.prog.cellsOf 5 = 1 := by kernel_rfl
  apply List.ext_getElem
  · simp [Lib.byteCells]
  · intro i h1 h2
    have hi : i < 20 := by omega
    have e := hel i hi
    rw [c5] at e
    have e2 : (cs.drop (i * 1)).take 1 = [cs[i]] := by
      rw [Nat.mul_one, List.drop_eq_getElem_cons h1]; rfl
    rw [e2, List.getElem?_eq_getElem (by omega)] at e
    obtain ⟨z, hz, _, hw⟩ := DataW.trod_int Try.underlying5 e
    have hz2 : cs[i] = .int .u8 z := by simpa using hz
    have hb := bounds_byte hw
    simp only [Lib.byteCells, List.map_map, List.getElem_map, Function.comp, hz2, byteD]
    congr 1
    rw [UInt8.toNat_ofNat']
    omega
end Go.Proofs.Ytajmgjhknmkfpaa
