/-
  Texts that belong together, one behind the other.
-/
import Derived.Test.YtgbmbemmkadagaaFu05
import Derived.Test.YtgbmbemmkadagaaFu20
import Derived.Deep.MidRow
import Derived.Laws.ResultCell
import Derived.Laws.CopyRow
import Derived.Deep.RegionHeld3
/-
  Layer 9: stores into blocks, the world behind them told by what stays; a record in a block of its own.
-/
namespace Go.Proofs.Ytgbmbemmkadagaa
set_option maxRecDepth 20000
open Go.RowKit
set_option linter.unusedVariables false
set_option linter.unusedSimpArgs false

theorem zId_any : ∃ z : Array Value, z = arrD idZ ∧ z.size = 20 ∧ (∀ w, (zeroValue 24).run Try.prog w = .ok (.agg z) w) ∧ Try.prog.built 24 [] = some z ∧ z.all (·.oneCell') = true :=
  ⟨arrD idZ, rfl, arrD_size _ rfl, zero_arr zIdD, by kernel_rfl, arrD_one _⟩
theorem results_id9 {fn : Func} {p u : Tmp} (h : fn.results = #[.cell p 24, .tmp u]) (tmps : Array Value) (w : World) (g : Nat) (cs : Array Value) (fr : Nat × Nat) (x : Value)
    (hp : tmps.getD p undef = .pointer (some ⟨g, 0, none⟩)) (hx : tmps.getD u undef = x) (hg : w.heap[g]? = some (.cells cs 24 fr)) (hn : cs.size = 20) :
    (results fn tmps).run Try.prog w = .ok (.tuple #[.agg cs, x]) w := by
  rw [results_cell_tmp h, hp, hx]
  have e : (asAddr (.pointer (some ⟨g, 0, none⟩))).run Try.prog w = .ok ⟨g, 0, none⟩ w := rfl
  rw [e]
  simp only [Result.andThen_ok]
  rw [run_loadVar_row w g 24 24 cs fr _ hg Try.underlying24 rfl (by rw [infoD_n, hn])]
  rfl
theorem slice20_D (u : World) (g k : Nat) : (Instr.sliceAt 24 (.pointer (some ⟨g, k, none⟩)) none none none).run Try.prog u = .ok (.slice (some ⟨g, k, none⟩) 20 20) u := by
  have ea : Try.prog.arrayLen 24 = 20 := by kernel_rfl
  have ee : Try.prog.elem 24 = 5 := by kernel_rfl
  rw [run_sliceAt_array_all u 24 ⟨g, k, none⟩ (by rw [ea, ee]; exact Try.underlying24), ea, ee, Try.sizeOf5]
  simp [Result.andThen, slicedAt, Addr.add]
/-- An id's cells are its bytes. -/
theorem bat_of_range {w : World} {b o : Nat} {i : List UInt8} (hb : b < w.heap.size) (h : w.rangeAt b o (cellsD i)) : BAt w (some ⟨b, o, none⟩) i := fun _ =>
  ⟨b, o, rfl, hb, fun j hj => h j _ (by simp [cellsD, Lib.byteCells, List.getElem?_map, hj])⟩
end Go.Proofs.Ytgbmbemmkadagaa
