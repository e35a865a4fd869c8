/-
  bytes.IndexByte of a byte 0, in any bytes.
-/
import Derived.Test.YtbcbbkdfdfgnfaaDoorNd
import Derived.Test.YtbcbbkdfdfgnfaaDoorShelf
import Derived.Lib.BytesEntry
import Derived.Lib.Bytealg
namespace Go.Proofs.YtbcbbkdfdfgnfaaDoor
set_option maxRecDepth 20000
open Go.RowKit
set_option linter.unusedVariables false
set_option linter.unusedSimpArgs false

theorem index_zero (l : List UInt8) : Lib.indexByte l 0 = zeroAt l := by
  induction l with
  | nil => rfl
  | cons b l ih =>
    unfold Lib.indexByte zeroAt
    rw [List.findIdx_cons]
    by_cases hb : b = 0
    · subst hb; simp
    · have e : (b == 0) = false := beq_false_of_ne hb
      rw [e, ih]
      unfold zeroAt
      by_cases h : l.findIdx (· == 0) < l.length
      · rw [if_pos h]
        have h2 : ((l.findIdx (· == 0) : Nat) : Int) ≠ -1 := by omega
        simp [h, h2]
      · rw [if_neg h]
        simp [h]
theorem bytes_of (l : List UInt8) : Lib.bytesOf (l.map fun c => (c.toNat : Int)) = l := by
  unfold Lib.bytesOf
  rw [List.map_map]
  conv => rhs; rw [← List.map_id l]
  apply List.map_congr_left
  intro c _
  simp
set_option maxHeartbeats 1000000 in
theorem IndexZero (a : Option Addr) (n c : Nat) (l : List UInt8) (w : World) (hn : n = l.length) (hb : BAt w a l) :
    Calls Tryd.prog 25 #[.slice a n c, .int .u8 0] w fun e w' => e = .returned (.int .i64 (zeroAt l)) ∧ w' = w := by
  subst hn
  by_cases hp : 0 < l.length
  · obtain ⟨b, o, rfl, _, hc⟩ := hb hp
    have h := Tryd.bytes_IndexByte b o l.length c (l.map fun c => (c.toNat : Int)) 0 w (by simp) (fun i hi => by rw [hc i hi]; simp [hi])
    rw [bytes_of] at h
    rw [show ((0 : Int).toNat.toUInt8) = 0 from rfl, index_zero] at h
    exact h
  · obtain rfl : l = [] := List.eq_nil_of_length_eq_zero (by omega)
    have ez : zeroAt [] = -1 := rfl
    rw [ez]
    have hr : (Extern.BytealgIndexByte.indexByte #[.slice a 0 c, .int .u8 0]).run Tryd.prog w = .ok (.int .i64 (-1)) w := by
      have hs := Lib.run_indexByteString (P := Tryd.prog) .empty 0 w
      cases a with
      | none => exact hs
      | some ad => exact hs
    go_enter Tryd.func25, Tryd.ntmps25
    go_wp2
    rw [run_callFunc_extern Tryd.func39 (by kernel_rfl) (by kernel_rfl) (by kernel_rfl) (e := Extern.BytealgIndexByte.indexByte) (by kernel_rfl)]
    change Oper.upon _ _ _ _ _ ((Sem.run _ (Extern.BytealgIndexByte.indexByte #[.slice a 0 c, .int .u8 0]) w).andThen _)
    rw [hr]
    simp only [Result.andThen]
    rw [Oper.upon_value]
    go_wp2
    go_ret
    exact ⟨rfl, rfl⟩
end Go.Proofs.YtbcbbkdfdfgnfaaDoor
