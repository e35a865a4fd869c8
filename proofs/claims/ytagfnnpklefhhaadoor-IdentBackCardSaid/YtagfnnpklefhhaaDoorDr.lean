/-
  The contract of utf8.DecodeRune at this program, the library's own, laid by hand; runes at the head of a text, decoded.
-/
import Derived.Shelf.Spec.DecodeRune
import Derived.Test.YtagfnnpklefhhaaDoorMm
import Derived.Test.YtagfnnpklefhhaaDoorShelf
import Derived.Test.YtagfnnpklefhhaaDoorJa
namespace Go.Proofs
open Go.Shelf Go.RowKit
def Tryd.drRen : Go.Shelf.Ren := ⟨fun | 32 => 35 | 49 => 55 | n => n, fun | 0 => 0 | 3 => 3 | 4 => 4 | 5 => 5 | 21 => 21 | 25 => 37 | 30 => 50 | 33 => 51 | 66 => 82 | 68 => 84 | 69 => 85 | n => n, fun | 2 => 1 | 3 => 2 | n => n⟩
theorem Tryd.dr32 : Go.Proofs.Lays7.n32 Tryd.prog Tryd.drRen := {
  mixed := by kernel_rfl
  f32 := Tryd.func35.trans (congrArg some (by kernel_rfl))
  f49 := Tryd.func55.trans (congrArg some (by kernel_rfl))
  t0 := Tryd.underlying0
  a0 := Tryd.isAgg0
  z0 := Tryd.sizeOf0
  v0 := Tryd.zeroValue0
  i0 := by kernel_rfl
  t3 := Tryd.underlying3
  a3 := Tryd.isAgg3
  z3 := Tryd.sizeOf3
  v3 := Tryd.zeroValue3
  i3 := by kernel_rfl
  t4 := Tryd.underlying4
  a4 := Tryd.isAgg4
  z4 := Tryd.sizeOf4
  v4 := Tryd.zeroValue4
  i4 := by kernel_rfl
  t5 := Tryd.underlying5
  a5 := Tryd.isAgg5
  z5 := Tryd.sizeOf5
  v5 := Tryd.zeroValue5
  i5 := by kernel_rfl
  t21 := Tryd.underlying21
  a21 := Tryd.isAgg21
  z21 := Tryd.sizeOf21
  v21 := Tryd.zeroValue21
  i21 := by kernel_rfl
  t25 := Tryd.underlying37
  a25 := Tryd.isAgg37
  z25 := Tryd.sizeOf37
  v25 := Tryd.zeroValue37
  i25 := by kernel_rfl
  t30 := Tryd.underlying50
  a30 := Tryd.isAgg50
  z30 := Tryd.sizeOf50
  v30 := Tryd.zeroValue50
  i30 := by kernel_rfl
  t33 := Tryd.underlying51
  a33 := Tryd.isAgg51
  z33 := Tryd.sizeOf51
  v33 := Tryd.zeroValue51
  i33 := by kernel_rfl
  t66 := Tryd.underlying82
  a66 := Tryd.isAgg82
  z66 := Tryd.sizeOf82
  t68 := Tryd.underlying84
  a68 := Tryd.isAgg84
  z68 := Tryd.sizeOf84
  v68 := Tryd.zeroValue84
  i68 := by kernel_rfl
  t69 := Tryd.underlying85
  a69 := Tryd.isAgg85
  z69 := Tryd.sizeOf85
  v69 := Tryd.zeroValue85
  i69 := by kernel_rfl
  g2 := by kernel_rfl
  g3 := by kernel_rfl }
namespace YtagfnnpklefhhaaDoor
set_option linter.unusedVariables false
theorem decodeGo_list (x : List UInt8) (hx : x ≠ []) : Lib.decodeGo ⟨x.toArray⟩ = Lib.decodeL x := by
  unfold Lib.decodeGo
  rw [if_neg (by rw [size_toArray]; intro e; exact hx (List.eq_nil_of_length_eq_zero e)), dec_drop, List.drop_zero]
/-- The rune at the head of a text. -/
theorem Dec_is (x : List UInt8) (hx : x ≠ []) (w : World) (hT : Lib.Utf8Tabs 1 2 w) :
    Calls Tryd.prog 33 #[.string ⟨x.toArray⟩] w fun e w' => e = .returned (.tuple #[.int .i32 (Lib.decodeL x).1, .int .i64 (widL x)]) ∧ Below w.heap.size w w' := by
  have h := Tryd.utf8_DecodeRuneInString ⟨x.toArray⟩ w hT
  rw [decodeGo_list x hx] at h
  exact h
/-- The rune at the head of some bytes. -/
theorem DecB_is (x : List UInt8) (hx : x ≠ []) (a : Option Addr) (c : Nat) (w : World) (hb : BAt w a x) (hT : Lib.Utf8Tabs 1 2 w) :
    Calls Tryd.prog 35 #[.slice a x.length c] w fun e w' => e = .returned (.tuple #[.int .i32 (Lib.decodeL x).1, .int .i64 (widL x)]) ∧ Below w.heap.size w w' := by
  have hp : 0 < x.length := by cases x with | nil => exact absurd rfl hx | cons _ _ => simp
  obtain ⟨b, o, rfl, _, hc⟩ := hb hp
  have h := Any7.utf8_DecodeRune Tryd.dr32 ⟨x.toArray⟩ b o c w hT (fun j hj => by
    rw [size_toArray] at hj
    rw [hc j hj]
    congr 2
    simp [ByteArray.get!, hj])
  rw [decodeGo_list x hx, size_toArray] at h
  exact h
end YtagfnnpklefhhaaDoor
end Go.Proofs
