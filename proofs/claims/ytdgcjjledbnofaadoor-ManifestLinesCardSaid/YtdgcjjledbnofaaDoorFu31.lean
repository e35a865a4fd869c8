/-
  Texts that belong together, one behind the other.
-/
import Derived.Test.YtdgcjjledbnofaaDoorRows
import Derived.Test.YtdgcjjledbnofaaDoorFu13
import Derived.Test.YtdgcjjledbnofaaDoorShelf
import Derived.Test.YtdgcjjledbnofaaDoorFu30
import Derived.ProofKit
import Derived.OpenShut
import Derived.ShutString
import Derived.Below
import Derived.Lay
import Derived.LaidSub
import Derived.SevenTiedAt
import Derived.Deep.DeepHandedRow
import Derived.Lib.LaidTab
import Derived.Test.YtdgcjjledbnofaaDoorFu17
import Derived.Deep.Slices
import Derived.Deep.Strs
/-
  What the frames of layers that call quote share: the tables, from what the row lists and from the world's shape.
-/
namespace Go.Proofs.YtdgcjjledbnofaaDoor
open Go.ChangeShapes Go.WideShapes Go.ChangeAt Go.RowKit Go.Lib
open Go.ChangeMaps (open_string shut_string)
set_option linter.unusedVariables false

theorem own : ownKnob Tryd.prog.godebug = none := by kernel_rfl
theorem acc_data : Rows.laid_unicode_utf8_acceptRanges (H := Unit) = acceptData := by kernel_rfl
theorem first_data : Rows.laid_unicode_utf8_first = firstData := Pinned.utf8First_eq
def foldZ : List Int := match Rows.laid_unicode_asciiFold (H := Unit) with
  | .agg ds => ds.map fun d => match d with | .lit (.int _ z) => z | _ => 0
  | _ => []
theorem fold_data : Rows.laid_unicode_asciiFold (H := Unit) = tabData .u16 foldZ := by kernel_rfl
theorem tab_of {W : World} {l : List (String × DataW Unit)} (h : laidMetH Tryd.prog l W) (hS : W.ShapedOpen Tryd.prog)
    (h1 : ("unicode/utf8.first", Rows.laid_unicode_utf8_first) ∈ l.filter fun a => a.2.handleName?.isNone)
    (h2 : ("unicode/utf8.acceptRanges", Rows.laid_unicode_utf8_acceptRanges) ∈ l.filter fun a => a.2.handleName?.isNone)
    (h3 : ("unicode.asciiFold", Rows.laid_unicode_asciiFold) ∈ l.filter fun a => a.2.handleName?.isNone) : QTab W := by
  have h0 := (laidMetH_iff.1 h).1
  have r1 := Lib.laidMet.reads h0 h1
  have r2 := Lib.laidMet.reads h0 h2
  have r3 := Lib.laidMet.reads h0 h3
  rw [first_data] at r1
  rw [acc_data] at r2
  rw [fold_data] at r3
  exact ⟨tabs_of W r1 r2, fold_of W foldZ r3 (by kernel_rfl) (by kernel_rfl) (by kernel_rfl) (by kernel_rfl) (by kernel_rfl) (by kernel_rfl) (by kernel_rfl), Tryd.laysM146.s1_3 W hS⟩
theorem len_of_str {l : List UInt8} (h : (⟨l.toArray⟩ : ByteArray).size ≤ maxLen) : l.length ≤ maxLen := by rwa [size_toArray] at h
theorem bd_i64 {n : Int} (h : (Lit.int .i64 n).wf = true) : -9223372036854775808 ≤ n ∧ n ≤ 9223372036854775807 := by
  have e1 : IntKind.i64.min = -9223372036854775808 := rfl
  have e2 : IntKind.i64.max = 9223372036854775807 := rfl
  simpa [Lit.wf, e1, e2] using h
theorem bd_u8 {n : Int} (h : (Lit.int .u8 n).wf = true) : 0 ≤ n ∧ n ≤ 255 := by
  have e1 : IntKind.u8.min = 0 := rfl
  have e2 : IntKind.u8.max = 255 := rfl
  simpa [Lit.wf, e1, e2] using h
end Go.Proofs.YtdgcjjledbnofaaDoor

/-
  Layer 13: a slice of files that came in, opened (made from Io).
-/
namespace Go.Proofs.YtdgcjjledbnofaaDoor
open Go.ChangeShapes Go.WideShapes Go.ChangeAt Go.RowKit Go.Deep
set_option linter.unusedVariables false
set_option maxRecDepth 100000

def byteOf : Value → UInt8
  | .int _ z => UInt8.ofNat z.toNat
  | _ => 0
theorem cellsF_0 (f : Fil) : (cellsF f)[0]? = some (.string ⟨f.path.toArray⟩) := rfl
theorem spot_noneF {W : World} {a : Addr} {v : Value} (h : W.cell? a = some v) : ∃ b o, a = ⟨b, o, none⟩ := by
  obtain ⟨b, o, s⟩ := a
  have := World.cell?_spot h
  exact ⟨b, o, by simpa using this⟩
theorem byteF_of_cells {H : Type} {enc : TypeId × Value → H} {W : World} {base fuel : Nat} {cs : List Value} {x : DataW H × List MemPlace} (hl : cs.length = 20) (h : DataW.trod enc Tryd.prog W base (fun _ => true) true fuel 26 cs = some x) :
    cs = Lib.byteCells (cs.map byteOf) := by
  have hu : Tryd.prog.underlying 26 = some (.array 20 5) := Tryd.underlying26
  obtain ⟨xs, m, _, _, _, hxl, hel⟩ := DataW.trod_array hu h
  have c5 : Tryd.prog.cellsOf 5 = 1 := by kernel_rfl
  apply List.ext_getElem
  · simp [Lib.byteCells]
  · intro i h1 h2
    have hi : i < 20 := by omega
    have e := hel i hi
    rw [c5] at e
    have e2 : (cs.drop (i * 1)).take 1 = [cs[i]] := by
      rw [Nat.mul_one, List.drop_eq_getElem_cons h1]; rfl
    rw [e2, List.getElem?_eq_getElem (by omega)] at e
    obtain ⟨z, hz, _, hw⟩ := DataW.trod_int Tryd.underlying5 e
    have hz2 : cs[i] = .int .u8 z := by simpa using hz
    have hb := bd_u8 hw
    simp only [Lib.byteCells, List.map_map, List.getElem_map, Function.comp, hz2, byteOf]
    congr 1
    rw [UInt8.toNat_ofNat']
    omega
theorem file_of_cells {H : Type} {enc : TypeId × Value → H} {W : World} {base fuel : Nat} {cs : List Value} {x : DataW H × List MemPlace} (h : DataW.trod enc Tryd.prog W base (fun _ => true) true fuel 28 cs = some x) :
    ∃ i : Fil, cs = cellsF i ∧ i.id.length = 20 ∧ i.path.length ≤ maxLen := by
  obtain ⟨y0, y1, y2, n, _, hlen, t0, t1, t2⟩ := trod_struct3 Tryd.underlying28 h
  have c22 : Tryd.prog.cellsOf 28 = 22 := by kernel_rfl
  have c3 : Tryd.prog.cellsOf 3 = 1 := by kernel_rfl
  have c9 : Tryd.prog.cellsOf 9 = 1 := by kernel_rfl
  have c28 : Tryd.prog.cellsOf 26 = 20 := by kernel_rfl
  rw [c22] at hlen
  match cs, hlen with
  | v0 :: v1 :: ds, hlen =>
    have hd : ds.length = 20 := by simpa using hlen
    obtain ⟨s1, e1, _, w1⟩ := DataW.trod_string Tryd.underlying9 t0
    obtain ⟨z0, e0, _, _⟩ := DataW.trod_int Tryd.underlying3 t1
    have e1' : v0 = .string s1 := by simpa [c9] using e1
    have e0' : v1 = .int .i64 z0 := by simpa [c3, c9] using e0
    have t2' : DataW.trod enc Tryd.prog W base (fun _ => true) true n 26 ds = some y2 := by
      have e : (List.drop 2 (v0 :: v1 :: ds)).take (Tryd.prog.cellsOf 26) = ds := by rw [c28]; simp [List.take_of_length_le, hd]
      rw [← e]
      exact t2
    have e2 := byteF_of_cells hd t2'
    subst e0'; subst e1'
    refine ⟨⟨s1.data.toList, z0, ds.map byteOf⟩, ?_, by simp [hd], ?_⟩
    · unfold cellsF
      rw [show cellsD (ds.map byteOf) = ds from e2.symm]
    · show s1.data.toList.length ≤ maxLen
      rw [Array.length_toList]
      exact w1
theorem open_files {H : Type} {enc : TypeId × Value → H} {W : World} {base : Nat} {a : Option Addr} {n c : Nat} {d : DataW H} {p : List MemPlace} (h : DataW.Trod enc Tryd.prog W base (fun _ => true) true 22 (.slice a n c) d p) :
    ∃ l : List Fil, n = l.length ∧ FilesAt W a l ∧ (a = none → n = 0 ∧ c = 0) ∧ (n ≤ c ∧ c ≤ maxLen) ∧ (∀ i ∈ l, i.id.length = 20) ∧ ∀ i ∈ l, i.path.length ≤ maxLen := by
  obtain ⟨fuel, hf⟩ := h
  rcases open_slice Tryd.underlying22 hf with ⟨hcs, _⟩ | ⟨x, len, cap, m, q, D, Pl, hcs, hb, hl, hm, hmm, _, hx⟩
  · simp [Value.cells] at hcs
    obtain ⟨rfl, rfl, rfl⟩ := hcs
    exact ⟨[], rfl, RowAt.nil _ _, fun _ => ⟨rfl, rfl⟩, ⟨Nat.le_refl _, Nat.zero_le _⟩, fun i hi => (by cases hi), fun i hi => (by cases hi)⟩
  · simp [Value.cells] at hcs
    obtain ⟨rfl, rfl, rfl⟩ := hcs
    have hmc : m = c := by simpa using hmm
    have c22 : Tryd.prog.cellsOf 28 = 22 := by kernel_rfl
    rw [c22] at hx
    have each : ∀ r, r < n → ∃ i : Fil, (∀ j v, (cellsF i)[j]? = some v → W.cell? ((x.add (r * 22)).add j) = some v) ∧ i.id.length = 20 ∧ i.path.length ≤ maxLen := by
      intro r hr
      obtain ⟨cs', h1, h2⟩ := hx r (by omega)
      obtain ⟨_, hlen, hcell⟩ := World.cells?_some h1
      obtain ⟨i, rfl, k1, k2⟩ := file_of_cells h2
      refine ⟨i, fun j v hj => ?_, k1, k2⟩
      obtain ⟨hjl, hje⟩ := List.getElem?_eq_some_iff.1 hj
      have := hcell j (by rw [cellsF_len i k1] at hjl; exact hjl)
      rw [this, List.getElem?_eq_getElem hjl, hje]
    haveI : Inhabited Fil := ⟨noF⟩
    obtain ⟨y, hy⟩ := choose_lt each
    refine ⟨(List.range n).map y, by simp, ?_, (fun h => by cases h), ⟨hl, hm⟩, ?_, ?_⟩
    · intro hp
      have hp2 : 0 < n := by simpa using hp
      obtain ⟨b, o, rfl⟩ : ∃ b o, x = ⟨b, o, none⟩ := by
        have := (hy 0 hp2).1 0 _ (cellsF_0 (y 0))
        rw [Nat.zero_mul, show (x.add 0).add 0 = x by unfold Addr.add; simp] at this
        exact spot_noneF this
      have add_eq : ∀ r s, ((⟨b, o, none⟩ : Addr).add r).add s = ⟨b, o + r + s, none⟩ := fun r s => by unfold Addr.add; split <;> split <;> simp_all
      have hlt : b < W.heap.size := by
        have := (hy 0 hp2).1 0 _ (cellsF_0 (y 0))
        rw [add_eq] at this
        exact lt_of_cell this
      refine ⟨b, o, rfl, hlt, fun k hk j v hv => ?_⟩
      have hk2 : k < n := by simpa using hk
      have e : ((List.range n).map y)[k] = y k := by simp
      rw [e] at hv
      have := (hy k hk2).1 j v hv
      rwa [add_eq] at this
    · intro i hi
      obtain ⟨k, hk, rfl⟩ := List.mem_map.1 hi
      exact (hy k (List.mem_range.1 hk)).2.1
    · intro i hi
      obtain ⟨k, hk, rfl⟩ := List.mem_map.1 hi
      exact (hy k (List.mem_range.1 hk)).2.2
end Go.Proofs.YtdgcjjledbnofaaDoor
