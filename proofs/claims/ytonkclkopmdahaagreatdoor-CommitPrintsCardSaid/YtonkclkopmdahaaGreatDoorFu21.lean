/-
  Texts that belong together, one behind the other.
-/
import Derived.Test.YtonkclkopmdahaaGreatDoorFu02
import Derived.Deep.QuietTactic
import Derived.BigQuiet
import Derived.IntWalk
import Derived.WalkSmall
import Derived.OwnWalk
import Derived.Laws.OwnMore
import Derived.Laws.CopyOwn
import Derived.Test.YtonkclkopmdahaaGreatDoorFu14
import Derived.Test.YtonkclkopmdahaaGreatDoorRows
import Derived.ProofKit
import Derived.OpenShut
import Derived.Below
import Derived.Carry
import Derived.Test.YtonkclkopmdahaaGreatDoorFu20
import Derived.Deep.Slices
import Derived.Deep.Strs
import Derived.Lib.SmallJoins
import Derived.ShutString
import Derived.SizedLaws
/-
  The helpers of the statements over bytes: Same, Plain.
-/
namespace Go.Proofs.YtonkclkopmdahaaGreatDoor
open Go.RowKit
set_option linter.unusedVariables false

set_option maxHeartbeats 400000 in
theorem eq_byte (x y : Int) (w : World) :
    Calls Tryz.prog 60 #[.int .u8 x, .int .u8 y] w fun e w' => e = .returned (.bool (x == y)) ∧ w = w' := by
  go_enter Tryz.func60, Tryz.ntmps60
  go_wp2
  go_ret
  exact ⟨rfl, rfl⟩

theorem eq_byte_same (x : Int) (w : World) :
    Calls Tryz.prog 60 #[.int .u8 x, .int .u8 x] w fun e w' => e = .returned (.bool true) ∧ w = w' := by
  have h := eq_byte x x w
  rwa [show (x == x) = true by simp] at h

set_option maxHeartbeats 400000 in
theorem Same_some (b1 o1 b2 o2 c1 c2 : Nat) (l : List UInt8) (w : World) (h1 : b1 < w.heap.size) (h2 : b2 < w.heap.size)
    (hc1 : ∀ i (h : i < l.length), w.cell? ⟨b1, o1 + i, none⟩ = some (.int .u8 (l[i]).toNat)) (hc2 : ∀ i (h : i < l.length), w.cell? ⟨b2, o2 + i, none⟩ = some (.int .u8 (l[i]).toNat)) (hn : l.length ≤ 1099511627776) :
    Calls Tryz.prog 59 #[.slice (some ⟨b1, o1, none⟩) l.length c1, .slice (some ⟨b2, o2, none⟩) l.length c2, .func (.func 60) #[] #[]] w fun e w' => e = .returned (.bool true) ∧ Below w.heap.size w w' := by
  have HC1 := Lib.hid hc1; clear hc1
  have HC2 := Lib.hid hc2; clear hc2
  go_enter Tryz.func59, Tryz.ntmps59
  go_wp2_with fail
  go_loopw [7] (fun i wr => ∃ k : Nat, k ≤ l.length ∧ i = .int .i64 k ∧ Below w.heap.size w wr) (fun i _ => l.length - (intOf i).toNat)
  case atStart => exact ⟨0, Nat.zero_le _, rfl, Below.refl _ _⟩
  case round =>
    obtain ⟨k, hk, rfl, hbr⟩ := hrel
    by_cases hlt : k < l.length
    · have hcell1 : wr.cell? ⟨b1, o1 + k, none⟩ = some (.int .u8 (l[k]).toNat) := (hbr.cell (p := ⟨b1, o1 + k, none⟩) h1).trans (HC1.out k hlt)
      have hcell2 : wr.cell? ⟨b2, o2 + k, none⟩ = some (.int .u8 (l[k]).toNat) := (hbr.cell (p := ⟨b2, o2 + k, none⟩) h2).trans (HC2.out k hlt)
      obtain ⟨x, hxe⟩ : ∃ x : Int, x = (l[k]).toNat := ⟨_, rfl⟩
      rw [← hxe] at hcell1 hcell2
      clear hxe
      go_wp2_with fail
      go_quiet ((go_at_call 60; exact Calls.quiet_of_same ((eq_byte_same _ _).mono fun _ _ h => ⟨h.1, h.2.symm⟩)))
      go_wp2
      go_roundw
      case rel => exact ⟨k + 1, by omega, by go_num, _root_.Go.below_drewN hbr _⟩
      case measure => simp [intOf]; omega
    · obtain rfl : k = l.length := by omega
      go_wp2
      go_ret
      exact ⟨rfl, hbr⟩
set_option maxHeartbeats 400000 in
theorem Same_none (a1 a2 : Option Addr) (c1 c2 : Nat) (w : World) :
    Calls Tryz.prog 59 #[.slice a1 0 c1, .slice a2 0 c2, .func (.func 60) #[] #[]] w fun e w' => e = .returned (.bool true) ∧ Below w.heap.size w w' := by
  go_enter Tryz.func59, Tryz.ntmps59
  go_wp2_with fail
  refine wp_loop_rounds 1 ?_
  rw [rounds_succ]
  go_wp2
  go_ret
  exact ⟨rfl, Below.refl _ _⟩
theorem Same_any (a1 a2 : Option Addr) (n1 n2 c1 c2 : Nat) (l : List UInt8) (w : World) (h1 : BAt w a1 l) (h2 : BAt w a2 l) (e1 : n1 = l.length) (e2 : n2 = l.length) (hn : l.length ≤ 1099511627776) :
    Calls Tryz.prog 59 #[.slice a1 n1 c1, .slice a2 n2 c2, .func (.func 60) #[] #[]] w fun e w' => e = .returned (.bool true) ∧ Below w.heap.size w w' := by
  subst e1; subst e2
  by_cases hp : 0 < l.length
  · obtain ⟨b1, o1, rfl, hb1, hc1⟩ := h1 hp
    obtain ⟨b2, o2, rfl, hb2, hc2⟩ := h2 hp
    exact Same_some b1 o1 b2 o2 c1 c2 l w hb1 hb2 hc1 hc2 hn
  · obtain rfl : l = [] := List.eq_nil_of_length_eq_zero (by omega)
    exact Same_none a1 a2 c1 c2 w
set_option maxHeartbeats 400000 in
theorem Plain_any (a1 a2 : Option Addr) (n1 n2 c1 c2 : Nat) (l : List UInt8) (w : World) (h1 : BAt w a1 l) (h2 : BAt w a2 l) (e1 : n1 = l.length) (e2 : n2 = l.length) (hn : l.length ≤ 1099511627776) :
    Calls Tryz.prog 37 #[.slice a1 n1 c1, .slice a2 n2 c2] w fun e w' => e = .returned (.bool true) ∧ Below w.heap.size w w' := by
  have C := Lib.hid (Same_any a1 a2 n1 n2 c1 c2 l w h1 h2 e1 e2 hn)
  clear h1 h2 e1 e2
  go_enter Tryz.func37, Tryz.ntmps37
  go_wp2_with fail
  refine C.out.mono ?_
  rintro e w1 ⟨rfl, hb⟩
  go_wp2
  go_ret
  exact ⟨rfl, hb⟩
end Go.Proofs.YtonkclkopmdahaaGreatDoor

/-
  The helper Kept of the statements, over bytes: the copy that Own made is as it was.
-/
namespace Go.Proofs.YtonkclkopmdahaaGreatDoor
open Go.RowKit
set_option linter.unusedVariables false

set_option maxHeartbeats 1000000 in
theorem Kept_any (g n n2 c c2 : Nat) (a : Option Addr) (l : List UInt8) (f : Int) (w : World) (ho : OwnAt w g l f) (h : BAt w a l) (e1 : n = l.length) (e2 : c = l.length + 3) (e3 : n2 = l.length) (hn : l.length ≤ 1099511627776) :
    Calls Tryz.prog 19 #[.slice (some ⟨g, 0, none⟩) n c, .slice a n2 c2, .int .u8 f] w fun e w' => e = .returned (.bool true) ∧ Below w.heap.size w w' := by
  subst e1; subst e2; subst e3
  have P := Lib.hid (fun c1 => Plain_any (some ⟨g, 0, none⟩) a l.length l.length c1 c2 l w ho.bat h rfl rfl hn)
  have HO := Lib.hid ho
  have hg := ho.lt
  clear ho h
  go_enter Tryz.func19, Tryz.ntmps19
  go_wp2_with fail
  refine (P.out _).mono ?_
  rintro e w1 ⟨rfl, hb1⟩
  have HO1 := Lib.hid (HO.out.keep hb1)
  go_wp2_with fail
  go_loopw [8] (fun i wr => ∃ k : Nat, l.length ≤ k ∧ k ≤ l.length + 3 ∧ i = .int .i64 k ∧ Below w.heap.size w wr) (fun i _ => l.length + 3 - (intOf i).toNat)
  case atStart => exact ⟨l.length, Nat.le_refl _, by omega, rfl, hb1⟩
  case round =>
    obtain ⟨k, hk0, hk, rfl, hbr⟩ := hrel
    by_cases hlt : k < l.length + 3
    · have hcell := (HO.out.keep hbr).room k hk0 hlt
      go_wp2
      go_roundw
      case rel => exact ⟨k + 1, by omega, by omega, by go_num, hbr⟩
      case measure => simp [intOf]; omega
    · obtain rfl : k = l.length + 3 := by omega
      go_wp2
      go_ret
      exact ⟨rfl, hbr⟩
end Go.Proofs.YtonkclkopmdahaaGreatDoor

/-
  The helper Bytes of the statements.
-/
namespace Go.Proofs.YtonkclkopmdahaaGreatDoor
open Go.RowKit
set_option linter.unusedVariables false

set_option maxHeartbeats 400000 in
theorem Bytes_any (a1 a2 : Option Addr) (n1 n2 c1 c2 : Nat) (l1 l2 : List UInt8) (w : World) (h1 : BAt w a1 l1) (h2 : BAt w a2 l2) (e1 : n1 = l1.length) (e2 : n2 = l2.length) :
    Calls Tryz.prog 16 #[.slice a1 n1 c1, .slice a2 n2 c2] w fun e w' => e = .returned (.bool (l1 == l2)) ∧ w = w' := by
  subst e1; subst e2
  have g1 := h1.conv (P := Tryz.prog) c1 29 5 Tryz.underlying29 Tryz.underlying5 9 Tryz.underlying9
  have g2 := h2.conv (P := Tryz.prog) c2 29 5 Tryz.underlying29 Tryz.underlying5 9 Tryz.underlying9
  clear h1 h2
  go_enter Tryz.func16, Tryz.ntmps16
  go_wp2
  go_ret
  exact ⟨rfl, rfl⟩

theorem Bytes_same (a1 a2 : Option Addr) (n1 n2 c1 c2 : Nat) (l : List UInt8) (w : World) (h1 : BAt w a1 l) (h2 : BAt w a2 l) (e1 : n1 = l.length) (e2 : n2 = l.length) :
    Calls Tryz.prog 16 #[.slice a1 n1 c1, .slice a2 n2 c2] w fun e w' => e = .returned (.bool true) ∧ w = w' := by
  have h := Bytes_any a1 a2 n1 n2 c1 c2 l l w h1 h2 e1 e2
  rwa [show (l == l) = true by simp] at h

end Go.Proofs.YtonkclkopmdahaaGreatDoor

/-
  What a law's frame shares where no table is listed: slices of bytes, and of ints, opened.
-/
namespace Go.Proofs.YtonkclkopmdahaaGreatDoor
open Go.ChangeShapes Go.WideShapes Go.ChangeAt Go.RowKit
set_option linter.unusedVariables false

theorem laidOut : laidOutB Tryz.prog = true := by kernel_rfl
theorem lt_of_cell {w : World} {a : Addr} {v : Value} (h : w.cell? a = some v) : a.block < w.heap.size := by
  rcases Nat.lt_or_ge a.block w.heap.size with h' | h'
  · exact h'
  · simp [World.cell?, Array.getElem?_eq_none h'] at h
theorem bounds_byte {n : Int} (h : (Lit.int .u8 n).wf = true) : 0 ≤ n ∧ n ≤ 255 := by
  have e1 : IntKind.u8.min = 0 := rfl
  have e2 : IntKind.u8.max = 255 := rfl
  simpa [Lit.wf, e1, e2] using h
/-- A slice of bytes that came in. -/
theorem open_bytes {H : Type} {enc : TypeId × Value → H} {W : World} {base : Nat} {a : Option Addr} {n c : Nat} {d : DataW H} {p : List MemPlace} (h : DataW.Trod enc Tryz.prog W base (fun _ => true) true 29 (.slice a n c) d p) :
    ∃ l : List UInt8, n = l.length ∧ BAt W a l ∧ (a = none → n = 0 ∧ c = 0) ∧ (n ≤ c ∧ c ≤ maxLen) := by
  obtain ⟨fuel, hf⟩ := h
  rcases open_ints Tryz.underlying29 Tryz.underlying5 (by kernel_rfl) hf with ⟨hcs, _⟩ | ⟨x, l, c', zs, hcs, _, hl, hm, hz, _, hcell, hwz⟩
  · simp [Value.cells] at hcs
    obtain ⟨rfl, rfl, rfl⟩ := hcs
    exact ⟨[], rfl, BAt.nil _ _, fun _ => ⟨rfl, rfl⟩, Nat.le_refl _, Nat.zero_le _⟩
  · simp [Value.cells] at hcs
    obtain ⟨rfl, rfl, rfl⟩ := hcs
    have hzl : zs.length = c := by simpa using hz
    refine ⟨(zs.take n).map fun z => UInt8.ofNat z.toNat, by simp; omega, fun hp => ?_, (fun h => by cases h), hl, hm⟩
    have hn : 0 < n := by simp at hp; omega
    obtain ⟨b, o, rfl, hc⟩ := ints_at hcell (by omega)
    refine ⟨b, o, rfl, lt_of_cell (a := ⟨b, o + 0, none⟩) (hc 0 (by omega)), fun i hi => ?_⟩
    have hi2 : i < n := by simp at hi; omega
    have hi3 : i < zs.length := by omega
    rw [hc i hi3]
    have hw := bounds_byte (hwz (zs.getD i 0) (by rw [List.getD_eq_getElem?_getD, List.getElem?_eq_getElem hi3]; exact List.getElem_mem _))
    simp only [List.getElem_map, List.getElem_take]
    rw [List.getD_eq_getElem?_getD, List.getElem?_eq_getElem hi3] at hw ⊢
    simp only [Option.getD_some] at hw ⊢
    congr 2
    rw [UInt8.toNat_ofNat']
    omega
end Go.Proofs.YtonkclkopmdahaaGreatDoor

/-
  Layer 9, frame: a record that came in by value, and a slice of ids, opened; how long its texts are.
-/
namespace Go.Proofs.YtonkclkopmdahaaGreatDoor
open Go.ChangeShapes Go.WideShapes Go.ChangeAt Go.RowKit Go.Deep
set_option linter.unusedVariables false
set_option maxRecDepth 100000

theorem bd_i64D {n : Int} (h : (Lit.int .i64 n).wf = true) : -9223372036854775808 ≤ n ∧ n ≤ 9223372036854775807 := by
  have e1 : IntKind.i64.min = -9223372036854775808 := rfl
  have e2 : IntKind.i64.max = 9223372036854775807 := rfl
  simpa [Lit.wf, e1, e2] using h
def byteD : Value → UInt8
  | .int _ z => UInt8.ofNat z.toNat
  | _ => 0
theorem spot_noneD {W : World} {a : Addr} {v : Value} (h : W.cell? a = some v) : ∃ b o, a = ⟨b, o, none⟩ := by
  obtain ⟨b, o, s⟩ := a
  have := World.cell?_spot h
  exact ⟨b, o, by simpa using this⟩
theorem id_of_cells {H : Type} {enc : TypeId × Value → H} {W : World} {base fuel : Nat} {cs : List Value} {x : DataW H × List MemPlace} (hl : cs.length = 20) (h : DataW.trod enc Tryz.prog W base (fun _ => true) true fuel 23 cs = some x) :
    ∃ i : List UInt8, cs = cellsD i ∧ i.length = 20 := by
  refine ⟨cs.map byteD, ?_, by simp [hl]⟩
  unfold cellsD
  have hu : Tryz.prog.underlying 23 = some (.array 20 5) := Tryz.underlying23
  obtain ⟨xs, m, _, _, _, hxl, hel⟩ := DataW.trod_array hu h
  have c5 : Tryz.prog.cellsOf 5 = 1 := by kernel_rfl
  apply List.ext_getElem
  · simp [Lib.byteCells]
  · intro i h1 h2
    have hi : i < 20 := by omega
    have e := hel i hi
    rw [c5] at e
    have e2 : (cs.drop (i * 1)).take 1 = [cs[i]] := by
      rw [Nat.mul_one, List.drop_eq_getElem_cons h1]; rfl
    rw [e2, List.getElem?_eq_getElem (by omega)] at e
    obtain ⟨z, hz, _, hw⟩ := DataW.trod_int Tryz.underlying5 e
    have hz2 : cs[i] = .int .u8 z := by simpa using hz
    have hb := bounds_byte hw
    simp only [Lib.byteCells, List.map_map, List.getElem_map, Function.comp, hz2, byteD]
    congr 1
    rw [UInt8.toNat_ofNat']
    omega
/-- What an ident reads as. -/
def dataT {H : Type} (i : Idt) : DataW H := .agg [.lit (.string i.name), .lit (.string i.email), .lit (.int .i64 i.whn), .lit (.int .i64 i.zone)]
/-- What Go's types ask of an ident's parts. -/
structure Idt.Fit (i : Idt) : Prop where
  name : i.name.length ≤ maxLen
  email : i.email.length ≤ maxLen
  whn : -9223372036854775808 ≤ i.whn ∧ i.whn ≤ 9223372036854775807
  zone : -9223372036854775808 ≤ i.zone ∧ i.zone ≤ 9223372036854775807
theorem idt_of_cells {H : Type} {enc : TypeId × Value → H} {W : World} {base fuel : Nat} {cs : List Value} {x : DataW H × List MemPlace} (h : DataW.trod enc Tryz.prog W base (fun _ => true) true fuel 26 cs = some x) :
    ∃ i : Idt, cs = cellsT i ∧ x.1 = dataT i ∧ i.Fit := by
  obtain ⟨y0, y1, y2, y3, n, rfl, hlen, t0, t1, t2, t3⟩ := Joins.trod_struct4 Tryz.underlying26 h
  have c4 : Tryz.prog.cellsOf 26 = 4 := by kernel_rfl
  have c3 : Tryz.prog.cellsOf 3 = 1 := by kernel_rfl
  have c2 : Tryz.prog.cellsOf 2 = 1 := by kernel_rfl
  have c9 : Tryz.prog.cellsOf 9 = 1 := by kernel_rfl
  rw [c4] at hlen
  match cs, hlen with
  | [v0, v1, v2, v3], _ =>
    obtain ⟨s0, e0, z0, w0⟩ := DataW.trod_string Tryz.underlying9 t0
    obtain ⟨s1, e1, z1, w1⟩ := DataW.trod_string Tryz.underlying9 t1
    obtain ⟨n2, e2, z2, w2⟩ := DataW.trod_int Tryz.underlying2 t2
    obtain ⟨n3, e3, z3, w3⟩ := DataW.trod_int Tryz.underlying3 t3
    have e0' : v0 = .string s0 := by simpa [c9] using e0
    have e1' : v1 = .string s1 := by simpa [c9] using e1
    have e2' : v2 = .int .i64 n2 := by simpa [c2] using e2
    have e3' : v3 = .int .i64 n3 := by simpa [c3] using e3
    subst e0'; subst e1'; subst e2'; subst e3'
    subst z0 z1 z2 z3
    refine ⟨⟨s0.data.toList, s1.data.toList, n2, n3⟩, ?_, rfl, ⟨?_, ?_, bd_i64D w2, bd_i64D w3⟩⟩
    · unfold cellsT; simp
    · show s0.data.toList.length ≤ maxLen
      rw [Array.length_toList]; exact w0
    · show s1.data.toList.length ≤ maxLen
      rw [Array.length_toList]; exact w1
theorem ids_of_cells {H : Type} {enc : TypeId × Value → H} {W : World} {base fuel : Nat} {cs : List Value} {y : DataW H × List MemPlace} (h : DataW.trod enc Tryz.prog W base (fun _ => true) true fuel 24 cs = some y) :
    ∃ (a : Option Addr) (n c : Nat) (l : List (List UInt8)), cs = [.slice a n c] ∧ n = l.length ∧ IdsAt W a l ∧ (a = none → n = 0 ∧ c = 0) ∧ (n ≤ c ∧ c ≤ maxLen) ∧ ∀ i ∈ l, i.length = 20 := by
  rcases open_slice Tryz.underlying24 h with ⟨hcs, _⟩ | ⟨x, len, cap, m, q, D, Pl, hcs, hb, hl, hm, hmm, _, hx⟩
  · exact ⟨none, 0, 0, [], hcs, rfl, IdsAt.nil _ _, fun _ => ⟨rfl, rfl⟩, ⟨Nat.le_refl _, Nat.zero_le _⟩, fun i hi => (by cases hi)⟩
  · have hmc : m = cap := by simpa using hmm
    have c20 : Tryz.prog.cellsOf 23 = 20 := by kernel_rfl
    rw [c20] at hx
    have each : ∀ r, r < len → ∃ i : List UInt8, (∀ j v, (cellsD i)[j]? = some v → W.cell? ((x.add (r * 20)).add j) = some v) ∧ i.length = 20 := by
      intro r hr
      obtain ⟨cs', h1, h2⟩ := hx r (by omega)
      obtain ⟨_, hlen, hcell⟩ := World.cells?_some h1
      obtain ⟨i, rfl, k1⟩ := id_of_cells hlen h2
      refine ⟨i, fun j v hj => ?_, k1⟩
      obtain ⟨hjl, hje⟩ := List.getElem?_eq_some_iff.1 hj
      have := hcell j (by rw [cellsD_len i k1] at hjl; exact hjl)
      rw [this, List.getElem?_eq_getElem hjl, hje]
    obtain ⟨z, hz⟩ := choose_lt each
    have first : ∀ r, r < len → ∃ v, (cellsD (z r))[0]? = some v := fun r hr => ⟨_, List.getElem?_eq_getElem (by rw [cellsD_len _ (hz r hr).2]; decide)⟩
    refine ⟨some x, len, cap, (List.range len).map z, hcs, by simp, ?_, (fun h => by cases h), ⟨hl, hm⟩, ?_⟩
    · intro hp
      have hp2 : 0 < len := by simpa using hp
      obtain ⟨v0, hv0⟩ := first 0 hp2
      obtain ⟨b, o, rfl⟩ : ∃ b o, x = ⟨b, o, none⟩ := by
        have := (hz 0 hp2).1 0 _ hv0
        rw [Nat.zero_mul, show (x.add 0).add 0 = x by unfold Addr.add; simp] at this
        exact spot_noneD this
      have add_eq : ∀ r s, ((⟨b, o, none⟩ : Addr).add r).add s = ⟨b, o + r + s, none⟩ := fun r s => by unfold Addr.add; split <;> split <;> simp_all
      have hlt : b < W.heap.size := by
        have := (hz 0 hp2).1 0 _ hv0
        rw [add_eq] at this
        exact lt_of_cell this
      refine ⟨b, o, rfl, hlt, fun k hk j v hv => ?_⟩
      have hk2 : k < len := by simpa using hk
      have e : ((List.range len).map z)[k] = z k := by simp
      rw [e] at hv
      have := (hz k hk2).1 j v hv
      rwa [add_eq] at this
    · intro i hi
      obtain ⟨k, hk, rfl⟩ := List.mem_map.1 hi
      exact (hz k (List.mem_range.1 hk)).2
theorem trod_struct5 {H : Type} {P : Program} {enc : TypeId × Value → H} {w : World} {base : Nat} {spare : Nat → Bool} {held : Bool} {t : TypeId} {f0 f1 f2 f3 f4 : Field} {fuel : Nat} {cs : List Value} {x : DataW H × List MemPlace} (ht : P.underlying t = some (.struct #[f0, f1, f2, f3, f4])) (h : DataW.trod enc P w base spare held fuel t cs = some x) :
    ∃ y0 y1 y2 y3 y4 n, x.1 = .agg [y0.1, y1.1, y2.1, y3.1, y4.1] ∧ cs.length = P.cellsOf t ∧ DataW.trod enc P w base spare held n f0.type ((cs.drop f0.offset).take (P.cellsOf f0.type)) = some y0 ∧
      DataW.trod enc P w base spare held n f1.type ((cs.drop f1.offset).take (P.cellsOf f1.type)) = some y1 ∧ DataW.trod enc P w base spare held n f2.type ((cs.drop f2.offset).take (P.cellsOf f2.type)) = some y2 ∧
      DataW.trod enc P w base spare held n f3.type ((cs.drop f3.offset).take (P.cellsOf f3.type)) = some y3 ∧ DataW.trod enc P w base spare held n f4.type ((cs.drop f4.offset).take (P.cellsOf f4.type)) = some y4 := by
  obtain ⟨xs, n, _, rfl, hl, hlen, hf⟩ := DataW.trod_struct ht h
  match xs, hlen with
  | [y0, y1, y2, y3, y4], _ => exact ⟨y0, y1, y2, y3, y4, n, by simp, hl, by simpa using hf 0 f0 rfl, by simpa using hf 1 f1 rfl, by simpa using hf 2 f2 rfl, by simpa using hf 3 f3 rfl, by simpa using hf 4 f4 rfl⟩
theorem pieces5 (cs : List Value) (h : cs.length = 30) : cs = (cs.drop 0).take 20 ++ ((cs.drop 20).take 1 ++ ((cs.drop 21).take 4 ++ ((cs.drop 25).take 4 ++ (cs.drop 29).take 1))) := by
  have e5 : (cs.drop 29).take 1 = cs.drop 29 := List.take_of_length_le (by rw [List.length_drop]; omega)
  have e4 : (cs.drop 25).take 4 ++ cs.drop 29 = cs.drop 25 := by rw [show cs.drop 29 = (cs.drop 25).drop 4 by rw [List.drop_drop], List.take_append_drop]
  have e3 : (cs.drop 21).take 4 ++ cs.drop 25 = cs.drop 21 := by rw [show cs.drop 25 = (cs.drop 21).drop 4 by rw [List.drop_drop], List.take_append_drop]
  have e2 : (cs.drop 20).take 1 ++ cs.drop 21 = cs.drop 20 := by rw [show cs.drop 21 = (cs.drop 20).drop 1 by rw [List.drop_drop], List.take_append_drop]
  rw [e5, e4, e3, e2, List.drop_zero, List.take_append_drop]
/-- What a record that came in is. -/
structure RecIn (W : World) (t : List UInt8) (a1 : Option Addr) (n c1 : Nat) (l : List (List UInt8)) (a c : Idt) (tx : List UInt8) : Prop where
  tree : t.length = 20
  len : n = l.length
  ids : IdsAt W a1 l
  nil : a1 = none → n = 0 ∧ c1 = 0
  cap : n ≤ c1 ∧ c1 ≤ maxLen
  each : ∀ i ∈ l, i.length = 20
  author : a.Fit
  committer : c.Fit
  text : tx.length ≤ maxLen
theorem rec_of_cells {H : Type} {enc : TypeId × Value → H} {W : World} {base fuel : Nat} {cs : List Value} {x : DataW H × List MemPlace} (h : DataW.trod enc Tryz.prog W base (fun _ => true) true fuel 28 cs = some x) :
    ∃ t a1 n c1 l a c tx, cs = cellsC t (.slice a1 n c1) a c tx ∧ RecIn W t a1 n c1 l a c tx ∧ ∃ dt dp, x.1 = .agg [dt, dp, dataT a, dataT c, .lit (.string tx)] := by
  obtain ⟨y0, y1, y2, y3, y4, m, hx, hlen, t0, t1, t2, t3, t4⟩ := trod_struct5 Tryz.underlying28 h
  have c30 : Tryz.prog.cellsOf 28 = 30 := by kernel_rfl
  have c20 : Tryz.prog.cellsOf 23 = 20 := by kernel_rfl
  have c1' : Tryz.prog.cellsOf 24 = 1 := by kernel_rfl
  have c4 : Tryz.prog.cellsOf 26 = 4 := by kernel_rfl
  have c9 : Tryz.prog.cellsOf 9 = 1 := by kernel_rfl
  rw [c30] at hlen
  have t0' : DataW.trod enc Tryz.prog W base (fun _ => true) true m 23 ((cs.drop 0).take 20) = some y0 := by rw [← c20]; exact t0
  have t1' : DataW.trod enc Tryz.prog W base (fun _ => true) true m 24 ((cs.drop 20).take 1) = some y1 := by rw [← c1']; exact t1
  have t2' : DataW.trod enc Tryz.prog W base (fun _ => true) true m 26 ((cs.drop 21).take 4) = some y2 := by rw [← c4]; exact t2
  have t3' : DataW.trod enc Tryz.prog W base (fun _ => true) true m 26 ((cs.drop 25).take 4) = some y3 := by rw [← c4]; exact t3
  have t4' : DataW.trod enc Tryz.prog W base (fun _ => true) true m 9 ((cs.drop 29).take 1) = some y4 := by rw [← c9]; exact t4
  clear t0 t1 t2 t3 t4
  have hp := pieces5 cs hlen
  obtain ⟨t, et, ht⟩ := id_of_cells (by rw [List.length_take, List.drop_zero]; omega) t0'
  obtain ⟨a1, n, c1, l, el, h1, h2, h3, h4, h5⟩ := ids_of_cells t1'
  obtain ⟨a, ea, da, fa⟩ := idt_of_cells t2'
  obtain ⟨c, ec, dc, fc⟩ := idt_of_cells t3'
  obtain ⟨s, es, ds, ws⟩ := DataW.trod_string Tryz.underlying9 t4'
  rw [et, el, ea, ec, es] at hp
  refine ⟨t, a1, n, c1, l, a, c, s.data.toList, ?_, ⟨ht, h1, h2, h3, h4, h5, fa, fc, ?_⟩, y0.1, y1.1, ?_⟩
  · rw [hp]
    unfold cellsC
    simp
  · rw [Array.length_toList]; exact ws
  · rw [hx, da, dc, ds]
theorem open_record {H : Type} {enc : TypeId × Value → H} {W : World} {b0 base : Nat} {v : Value} {d : DataW H} {p : List MemPlace} (hv : Value.okWide Tryz.prog W .any b0 28 v) (h : DataW.Trod enc Tryz.prog W base (fun _ => true) true 28 v d p) :
    ∃ t a1 n c1 l a c tx, v = .agg (arrC t (.slice a1 n c1) a c tx) ∧ RecIn W t a1 n c1 l a c tx ∧ ∃ dt dp, d = .agg [dt, dp, dataT a, dataT c, .lit (.string tx)] := by
  obtain ⟨cs, rfl, hsz⟩ := okWide_struct Tryz.underlying28 hv
  obtain ⟨fuel, hf⟩ := h
  obtain ⟨t, a1, n, c1, l, a, c, tx, e, h1, h2⟩ := rec_of_cells hf
  refine ⟨t, a1, n, c1, l, a, c, tx, ?_, h1, h2⟩
  have e' : cs.toList = cellsC t (.slice a1 n c1) a c tx := e
  unfold arrC
  rw [← e']
/-- How long a record's texts are, by what the form asks. -/
theorem rec_reach {H : Type} {ts : List TypeId} {ds : List (DataW H)} {j : Nat} {d dt dp : DataW H} {a c : Idt} {tx : List UInt8} (h : (DataW.weightsEach Tryz.prog ts ds).all (· ≤ reachBytes) = true) (ht : ts[j]? = some 28) (hd : ds[j]? = some d) (e : d = .agg [dt, dp, dataT a, dataT c, .lit (.string tx)]) :
    a.name.length ≤ reachN ∧ a.email.length ≤ reachN ∧ c.name.length ≤ reachN ∧ c.email.length ≤ reachN := by
  have hall : ∀ k ∈ d.weights Tryz.prog 28, k ≤ reachN := fun k hk => Nat.le_trans (by simpa using List.all_eq_true.1 h k (DataW.weights_mem_each ht hd k hk)) (show reachBytes ≤ reachN by unfold reachBytes reachN; decide)
  have two : ∀ (i : Idt) (q : Nat), q = i.name.length ∨ q = i.email.length → q ∈ (dataT (H := H) i).weights Tryz.prog 26 := fun i q hq => by
    have hu : Tryz.prog.underlying 26 = _ := Tryz.underlying26
    simp only [dataT, DataW.weights, hu]
    rcases hq with rfl | rfl
    · exact DataW.weights_mem_each (j := 0) (t := 9) (d := .lit (.string i.name)) rfl rfl _ (by simp [DataW.weights])
    · exact DataW.weights_mem_each (j := 1) (t := 9) (d := .lit (.string i.email)) rfl rfl _ (by simp [DataW.weights])
  have hu : Tryz.prog.underlying 28 = _ := Tryz.underlying28
  subst e
  simp only [DataW.weights, hu] at hall
  have ha : ∀ q ∈ (dataT (H := H) a).weights Tryz.prog 26, q ≤ reachN := fun q hq => hall q (DataW.weights_mem_each (j := 2) (t := 26) (d := dataT a) rfl rfl q hq)
  have hc : ∀ q ∈ (dataT (H := H) c).weights Tryz.prog 26, q ≤ reachN := fun q hq => hall q (DataW.weights_mem_each (j := 3) (t := 26) (d := dataT c) rfl rfl q hq)
  exact ⟨ha _ (two a _ (.inl rfl)), ha _ (two a _ (.inr rfl)), hc _ (two c _ (.inl rfl)), hc _ (two c _ (.inr rfl))⟩
end Go.Proofs.YtonkclkopmdahaaGreatDoor
