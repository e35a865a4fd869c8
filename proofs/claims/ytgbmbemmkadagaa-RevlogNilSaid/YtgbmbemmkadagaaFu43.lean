/-
  Texts that belong together, one behind the other.
-/
import Derived.Test.YtgbmbemmkadagaaFu42
import Derived.Test.YtgbmbemmkadagaaRows
import Derived.Test.YtgbmbemmkadagaaFu01
import Derived.ProofKit
import Derived.OpenShut
import Derived.Below
import Derived.Carry
import Derived.Test.YtgbmbemmkadagaaFu19
import Derived.Deep.Slices
import Derived.Deep.Strs
import Derived.Lib.SmallJoins
/-
  What a law's frame shares where no table is listed: slices of bytes, and of ints, opened.
-/
namespace Go.Proofs.Ytgbmbemmkadagaa
open Go.ChangeShapes Go.WideShapes Go.ChangeAt Go.RowKit
set_option linter.unusedVariables false

/-- A slice of bytes that came in. -/
theorem open_bytes {H : Type} {enc : TypeId × Value → H} {W : World} {base : Nat} {a : Option Addr} {n c : Nat} {d : DataW H} {p : List MemPlace} (h : DataW.Trod enc Try.prog W base (fun _ => true) true 32 (.slice a n c) d p) :
    ∃ l : List UInt8, n = l.length ∧ BAt W a l ∧ (a = none → n = 0 ∧ c = 0) ∧ (n ≤ c ∧ c ≤ maxLen) := by
  obtain ⟨fuel, hf⟩ := h
  rcases open_ints Try.underlying32 Try.underlying5 (by kernel_rfl) hf with ⟨hcs, _⟩ | ⟨x, l, c', zs, hcs, _, hl, hm, hz, _, hcell, hwz⟩
  · simp [Value.cells] at hcs
    obtain ⟨rfl, rfl, rfl⟩ := hcs
    exact ⟨[], rfl, BAt.nil _ _, fun _ => ⟨rfl, rfl⟩, Nat.le_refl _, Nat.zero_le _⟩
  · simp [Value.cells] at hcs
    obtain ⟨rfl, rfl, rfl⟩ := hcs
    have hzl : zs.length = c := by simpa using hz
    refine ⟨(zs.take n).map fun z => UInt8.ofNat z.toNat, by simp; omega, fun hp => ?_, (fun h => by cases h), hl, hm⟩
    have hn : 0 < n := by simp at hp; omega
    obtain ⟨b, o, rfl, hc⟩ := ints_at hcell (by omega)
    refine ⟨b, o, rfl, lt_of_cell (a := ⟨b, o + 0, none⟩) (hc 0 (by omega)), fun i hi => ?_⟩
    have hi2 : i < n := by simp at hi; omega
    have hi3 : i < zs.length := by omega
    rw [hc i hi3]
    have hw := bounds_byte (hwz (zs.getD i 0) (by rw [List.getD_eq_getElem?_getD, List.getElem?_eq_getElem hi3]; exact List.getElem_mem _))
    simp only [List.getElem_map, List.getElem_take]
    rw [List.getD_eq_getElem?_getD, List.getElem?_eq_getElem hi3] at hw ⊢
    simp only [Option.getD_some] at hw ⊢
    congr 2
    rw [UInt8.toNat_ofNat']
    omega
end Go.Proofs.Ytgbmbemmkadagaa

/-
  Frame: an id in its cells, opened.
-/
namespace Go.Proofs.Ytgbmbemmkadagaa
open Go.ChangeShapes Go.WideShapes Go.ChangeAt Go.RowKit Go.Deep
set_option linter.unusedVariables false
set_option maxRecDepth 100000

theorem bd_i64D {n : Int} (h : (Lit.int .i64 n).wf = true) : -9223372036854775808 ≤ n ∧ n ≤ 9223372036854775807 := by
  have e1 : IntKind.i64.min = -9223372036854775808 := rfl
  have e2 : IntKind.i64.max = 9223372036854775807 := rfl
  simpa [Lit.wf, e1, e2] using h
def byteD : Value → UInt8
  | .int _ z => UInt8.ofNat z.toNat
  | _ => 0
theorem spot_noneD {W : World} {a : Addr} {v : Value} (h : W.cell? a = some v) : ∃ b o, a = ⟨b, o, none⟩ := by
  obtain ⟨b, o, s⟩ := a
  have := World.cell?_spot h
  exact ⟨b, o, by simpa using this⟩
theorem id_of_cells {H : Type} {enc : TypeId × Value → H} {W : World} {base fuel : Nat} {cs : List Value} {x : DataW H × List MemPlace} (hl : cs.length = 20) (h : DataW.trod enc Try.prog W base (fun _ => true) true fuel 24 cs = some x) :
    ∃ i : List UInt8, cs = cellsD i ∧ i.length = 20 := by
  refine ⟨cs.map byteD, ?_, by simp [hl]⟩
  unfold cellsD
  have hu : Try.prog.underlying 24 = some (.array 20 5) := Try.underlying24
  obtain ⟨xs, m, _, _, _, hxl, hel⟩ := DataW.trod_array hu h
  have c5 : Try.prog.cellsOf 5 = 1 := by kernel_rfl
  apply List.ext_getElem
  · simp [Lib.byteCells]
  · intro i h1 h2
    have hi : i < 20 := by omega
    have e := hel i hi
    rw [c5] at e
    have e2 : (cs.drop (i * 1)).take 1 = [cs[i]] := by
      rw [Nat.mul_one, List.drop_eq_getElem_cons h1]; rfl
    rw [e2, List.getElem?_eq_getElem (by omega)] at e
    obtain ⟨z, hz, _, hw⟩ := DataW.trod_int Try.underlying5 e
    have hz2 : cs[i] = .int .u8 z := by simpa using hz
    have hb := bounds_byte hw
    simp only [Lib.byteCells, List.map_map, List.getElem_map, Function.comp, hz2, byteD]
    congr 1
    rw [UInt8.toNat_ofNat']
    omega
end Go.Proofs.Ytgbmbemmkadagaa
