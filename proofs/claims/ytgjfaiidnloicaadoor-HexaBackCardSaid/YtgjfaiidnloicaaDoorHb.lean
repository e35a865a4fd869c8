/-
  Layer 1: Hex of the program.
-/
import Derived.Test.YtgjfaiidnloicaaDoorMm
import Derived.Test.YtgjfaiidnloicaaDoorBw
import Derived.Test.YtgjfaiidnloicaaDoorShelf
namespace Go.Proofs.YtgjfaiidnloicaaDoor
open Go.RowKit
set_option linter.unusedVariables false

/-- One hexadecimal digit. -/
def hexDig (n : Nat) : UInt8 := UInt8.ofNat (if n < 10 then 48 + n else 87 + n)
def hexL : List UInt8 → List UInt8
  | [] => []
  | c :: r => hexDig (c.toNat / 16) :: hexDig (c.toNat % 16) :: hexL r
theorem hexL_append (a b : List UInt8) : hexL (a ++ b) = hexL a ++ hexL b := by
  induction a with
  | nil => rfl
  | cons c r ih => simp [hexL, ih]
theorem hexL_length (l : List UInt8) : (hexL l).length = 2 * l.length := by
  induction l with
  | nil => rfl
  | cons c r ih => simp [hexL, ih]; omega
theorem hexL_snoc (l : List UInt8) (k : Nat) (h : k < l.length) : hexL (l.take (k + 1)) = hexL (l.take k) ++ [hexDig (l[k].toNat / 16), hexDig (l[k].toNat % 16)] := by
  rw [List.take_succ_eq_append_getElem h, hexL_append]; rfl

theorem hex_at16 : ∀ n : Fin 16, (⟨#[48, 49, 50, 51, 52, 53, 54, 55, 56, 57, 97, 98, 99, 100, 101, 102]⟩ : ByteArray)[n.1]'(n.2) = hexDig n.1 := by decide
theorem hex_at (n : Nat) (h : n < 16) : (⟨#[48, 49, 50, 51, 52, 53, 54, 55, 56, 57, 97, 98, 99, 100, 101, 102]⟩ : ByteArray)[n]'(h) = hexDig n := hex_at16 ⟨n, h⟩

theorem Grow_int (B b : Nat) (n : Int) (w : World) (hB : B ≤ b) (hbk : w.heap[b]? = some (.cells #[.pointer none, .slice none 0 0] 50 (0, 0))) (hBw : B ≤ w.heap.size) (h0 : 0 ≤ n) (hn : n ≤ 281474976710656) :
    Calls Tryd.prog 26 #[.pointer (some ⟨b, 0, none⟩), .int .i64 n] w fun e w' => e = .returned (.tuple #[]) ∧ Lib.BuilderAt 50 5 B b (.pointer (some ⟨b, 0, none⟩)) [] w' ∧ Below B w w' := by
  obtain ⟨m, rfl⟩ := Int.eq_ofNat_of_zero_le h0
  exact Tryd.Builder_Grow_fresh B b m w hB hbk hBw (by omega)

set_option maxHeartbeats 400000 in
theorem Hex_some (b o c : Nat) (l : List UInt8) (w : World) (hb : b < w.heap.size) (hc : ∀ i (h : i < l.length), w.cell? ⟨b, o + i, none⟩ = some (.int .u8 (l[i]).toNat)) (hn : l.length ≤ 1099511627776) :
    Calls Tryd.prog 14 #[.slice (some ⟨b, o, none⟩) l.length c] w fun e w' => e = .returned (.string ⟨(hexL l).toArray⟩) ∧ Below w.heap.size w w' := by
  have HC := Lib.hid hc; clear hc
  go_enter Tryd.func14, Tryd.ntmps14
  go_wp2_with fail
  refine (Grow_int w.heap.size w.heap.size _ _ (Nat.le_refl _) ?_ ?_ ?_ ?_).mono ?_
  · exact heap_alloc_new _ _
  · simp
  · omega
  · omega
  rintro e w1 ⟨rfl, hbu, hbel⟩
  have hbw : Below w.heap.size w w1 := ((Below.refl _ w).alloc (Nat.le_refl _) _).trans (hbel.mono (by simp))
  have hF := Lib.IsBuilderF.of (Or.inr hbu)
  clear hbu hbel
  go_wp2_with fail
  go_loopw [12] (fun i wr => ∃ k : Nat, k ≤ l.length ∧ i = .int .i64 k ∧ Lib.IsBuilderF 50 5 w.heap.size w.heap.size (Lib.byteCells (hexL (l.take k))) wr ∧ Below w.heap.size w wr) (fun i _ => l.length - (intOf i).toNat)
  case atStart => exact ⟨0, Nat.zero_le _, rfl, hF, hbw⟩
  case round =>
    obtain ⟨k, hk, rfl, hI, hbr⟩ := hrel
    by_cases hlt : k < l.length
    · have hcell : wr.cell? ⟨b, o + k, none⟩ = some (.int .u8 (l[k]).toNat) := (hbr.cell (p := ⟨b, o + k, none⟩) hb).trans (HC.out k hlt)
      have hx : (l[k]).toNat < 256 := (l[k]).toNat_lt
      obtain ⟨x, hxe⟩ : ∃ x : Nat, x = (l[k]).toNat := ⟨_, rfl⟩
      rw [← hxe] at hcell hx
      have HX := Lib.hid hxe; clear hxe
      have hI0 := hI
      go_wp2_with fail
      refine (Tryd.Builder_WriteByte_k w.heap.size w.heap.size _ _ _ hI ?_ hbr.size).mono ?_
      · rw [Lib.byteCells_length, hexL_length, List.length_take]; omega
      rintro e w2 ⟨rfl, h2, b2, _⟩
      rw [hex_at _ (by omega)] at h2
      have hI2 : Lib.IsBuilderF 50 5 w.heap.size w.heap.size (Lib.byteCells (hexL (l.take k) ++ [hexDig (x / 16)])) w2 := by
        rw [Lib.byteCells_append]; exact Or.inr h2
      have hbr2 := hbr.trans b2
      clear h2 b2 hI hbr hI0
      go_wp2_with fail
      refine (Tryd.Builder_WriteByte_k w.heap.size w.heap.size _ _ _ hI2 ?_ hbr2.size).mono ?_
      · rw [Lib.byteCells_length, List.length_append, hexL_length, List.length_take]; simp; omega
      rintro e w3 ⟨rfl, h3, b3, _⟩
      rw [hex_at _ (by omega)] at h3
      have hI3 : Lib.IsBuilderF 50 5 w.heap.size w.heap.size (Lib.byteCells (hexL (l.take (k + 1)))) w3 := by
        rw [hexL_snoc l k hlt, ← HX.out, show [hexDig (x / 16), hexDig (x % 16)] = [hexDig (x / 16)] ++ [hexDig (x % 16)] from rfl, ← List.append_assoc, Lib.byteCells_append]
        exact Or.inr h3
      have hbr3 := hbr2.trans b3
      clear h3 b3 hI2 hbr2
      go_wp2
      go_roundw
      case rel => exact ⟨k + 1, by omega, by go_num, hI3, hbr3⟩
      case measure => simp [intOf]; omega
    · obtain rfl : k = l.length := by omega
      rw [List.take_length] at hI
      go_wp2_with fail
      refine (Tryd.Builder_String_any_k w.heap.size w.heap.size _ _ hI hbr.size).mono ?_
      rintro e w2 ⟨rfl, _, b2, _⟩
      go_wp2
      go_ret
      exact ⟨rfl, hbr.trans b2⟩

set_option maxHeartbeats 400000 in
theorem Hex_none (a : Option Addr) (c : Nat) (w : World) :
    Calls Tryd.prog 14 #[.slice a 0 c] w fun e w' => e = .returned (.string ⟨(hexL []).toArray⟩) ∧ Below w.heap.size w w' := by
  go_enter Tryd.func14, Tryd.ntmps14
  go_wp2_with fail
  refine (Grow_int w.heap.size w.heap.size _ _ (Nat.le_refl _) ?_ ?_ ?_ ?_).mono ?_
  · exact heap_alloc_new _ _
  · simp
  · omega
  · omega
  rintro e w1 ⟨rfl, hbu, hbel⟩
  have hbw : Below w.heap.size w w1 := ((Below.refl _ w).alloc (Nat.le_refl _) _).trans (hbel.mono (by simp))
  have hF : Lib.IsBuilderF 50 5 w.heap.size w.heap.size (Lib.byteCells []) w1 := Lib.IsBuilderF.of (Or.inr hbu)
  clear hbu hbel
  go_wp2_with fail
  refine wp_loop_rounds 1 ?_
  rw [rounds_succ]
  go_wp2_with fail
  refine (Tryd.Builder_String_any_k w.heap.size w.heap.size _ _ hF hbw.size).mono ?_
  rintro e w2 ⟨rfl, _, b2, _⟩
  go_wp2
  go_ret
  exact ⟨rfl, hbw.trans b2⟩

theorem Hex_any (a : Option Addr) (n c : Nat) (l : List UInt8) (w : World) (h : BAt w a l) (hl : n = l.length) (hn : l.length ≤ 1099511627776) :
    Calls Tryd.prog 14 #[.slice a n c] w fun e w' => e = .returned (.string ⟨(hexL l).toArray⟩) ∧ Below w.heap.size w w' := by
  subst hl
  by_cases hp : 0 < l.length
  · obtain ⟨b, o, rfl, hb, hc⟩ := h hp
    exact Hex_some b o c l w hb hc hn
  · obtain rfl : l = [] := List.eq_nil_of_length_eq_zero (by omega)
    exact Hex_none a c w
end Go.Proofs.YtgjfaiidnloicaaDoor
