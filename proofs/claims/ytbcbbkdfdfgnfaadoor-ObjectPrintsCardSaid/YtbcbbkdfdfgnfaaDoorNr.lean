/-
  Layer 7: the head of an object.
-/
import Derived.Test.YtbcbbkdfdfgnfaaDoorNq
import Derived.Test.YtbcbbkdfdfgnfaaDoorHc
namespace Go.Proofs.YtbcbbkdfdfgnfaaDoor
set_option maxRecDepth 20000
open Go.RowKit
set_option linter.unusedVariables false
set_option linter.unusedSimpArgs false

set_option maxHeartbeats 4000000 in
theorem head_none (w : World) : Calls Tryd.prog 22 #[.nilIface] w fun e w' => e = .returned (.tuple #[.slice none 0 0, .int .i64 10]) ∧ Below w.heap.size w w' := by
  have cW := fun w => word_nil w
  go_enter Tryd.func22, Tryd.ntmps22
  go_wp2_with fail
  refine (cW _).mono ?_
  rintro e w1 ⟨rfl, b1⟩
  have B1 := Lib.hid b1
  clear b1
  go_wp2
  go_ret2
  exact ⟨rfl, B1.out⟩
set_option maxHeartbeats 4000000 in
theorem head_limit (T : TypeId) (hT : T = 70 ∨ T = 71 ∨ T = 72) (a : Option Addr) (n c : Nat) (wd : List UInt8) (hwd : wd ≠ [])
    (hw : ∀ w, Calls Tryd.prog 32 #[.iface T (.agg #[.slice a n c])] w fun e w' => e = .returned (.string ⟨wd.toArray⟩) ∧ Below w.heap.size w w') (hn : 65536 < n) (hm : n ≤ maxLen) (w : World) :
    Calls Tryd.prog 22 #[.iface T (.agg #[.slice a n c])] w fun e w' => e = .returned (.tuple #[.slice none 0 0, .int .i64 5]) ∧ Below w.heap.size w w' := by
  unfold maxLen at hm
  have fe : (wd == ([] : List UInt8)) = false := by rw [beq_eq_false_iff_ne]; exact hwd
  have fi : wd.isEmpty = false := by cases wd with | nil => exact absurd rfl hwd | cons _ _ => rfl
  have m := m_size T hT (.slice a n c)
  have cs := fun w => size_is a n c w
  clear hT hwd
  go_enter Tryd.func22, Tryd.ntmps22
  go_wp2_with fail
  refine (hw _).mono ?_
  rintro e w1 ⟨rfl, b1⟩
  have B1 := Lib.hid b1
  clear b1
  go_wp2_with fail
  refine (cs _).mono ?_
  rintro e w2 ⟨rfl, rfl⟩
  go_wp2
  go_ret2
  exact ⟨rfl, B1.out⟩
set_option maxHeartbeats 8000000 in
theorem head_ok (T : TypeId) (hT : T = 70 ∨ T = 71 ∨ T = 72) (a : Option Addr) (n c : Nat) (wd : List UInt8) (hwd : wd ≠ []) (wl : wd.length ≤ 6)
    (hw : ∀ w, Calls Tryd.prog 32 #[.iface T (.agg #[.slice a n c])] w fun e w' => e = .returned (.string ⟨wd.toArray⟩) ∧ Below w.heap.size w w') (hn : n ≤ 65536) (w : World) (tab : Tab w) :
    Calls Tryd.prog 22 #[.iface T (.agg #[.slice a n c])] w fun e w' => ∃ g cap, e = .returned (.tuple #[.slice (some ⟨g, 0, none⟩) (wd ++ 32 :: numO n ++ [0]).length cap, .int .i64 0]) ∧ RowX w' g cap (wd ++ 32 :: numO n ++ [0]) ∧ w.heap.size ≤ g ∧ Below w.heap.size w w' := by
  have fe : (wd == ([] : List UInt8)) = false := by rw [beq_eq_false_iff_ne]; exact hwd
  have fi : wd.isEmpty = false := by cases wd with | nil => exact absurd rfl hwd | cons _ _ => rfl
  have m := m_size T hT (.slice a n c)
  have cs := fun w => size_is a n c w
  have hO : wd ++ 32 :: numO n ++ [0] = wd ++ [32] ++ numO n ++ [0] := by simp
  rw [hO]
  have nl : (numO n).length ≤ 5 := numO_le n 4 (by omega)
  have cN := fun w t => Number_any (n : Int) (by omega) (by omega) w t
  rw [show Lib.itoa (n : Int) = numO n from rfl] at cN
  generalize numO n = nm at cN nl ⊢
  have ad0 := fun w => add_lists (P := Tryd.prog) w wd [32] (by simp; omega)
  have ad1 := fun w => add_lists (P := Tryd.prog) w (wd ++ [32]) nm (by simp; omega)
  have ad2 := fun w => add_lists (P := Tryd.prog) w (wd ++ [32] ++ nm) [0] (by simp; omega)
  obtain ⟨hd, hhd⟩ : ∃ hd, wd ++ [32] ++ nm ++ [0] = hd := ⟨_, rfl⟩
  have hdl : hd.length ≤ 13 := by rw [← hhd]; simp; omega
  rw [hhd] at ad2 ⊢
  have SR := Lib.hid (fun w => str_row w hd (by omega))
  generalize (⟨hd.toArray⟩ : ByteArray) = s3 at ad2 SR
  generalize (⟨(wd ++ [32] ++ nm).toArray⟩ : ByteArray) = s2 at ad1 ad2
  generalize (⟨(wd ++ [32]).toArray⟩ : ByteArray) = s1 at ad0 ad1
  generalize (⟨nm.toArray⟩ : ByteArray) = sn at ad1 cN
  have TB := Lib.hid tab
  have hn2 : n ≤ 1000000 := by omega
  obtain ⟨hl, hhl⟩ : ∃ hl, hd.length = hl := ⟨_, rfl⟩
  have HHL := Lib.hid hhl
  rw [hhl] at SR hdl ⊢
  clear hT hwd tab hO hhd nl hhl
  go_enter Tryd.func22, Tryd.ntmps22
  go_wp2_with fail
  refine (hw _).mono ?_
  rintro e w1 ⟨rfl, b1⟩
  have B1 := Lib.hid b1
  clear b1
  go_wp2_with fail
  refine (cs _).mono ?_
  rintro e w2 ⟨rfl, rfl⟩
  go_wp2_with fail
  refine (cN _ (TB.out.keep B1.out)).mono ?_
  rintro e w3 ⟨rfl, b3⟩
  obtain ⟨cap, w4, cv, b4, r4⟩ := SR.out w3
  have B4 := Lib.hid ((B1.out.trans (b3.mono B1.out.size)).trans (b4.mono (Nat.le_trans B1.out.size b3.size)))
  have HS := Lib.hid (Nat.le_trans B1.out.size b3.size)
  have R4 := Lib.hid r4
  clear b3 b4 r4
  go_wp2
  go_ret2
  exact ⟨_, _, rfl, R4.out, HS.out, B4.out⟩
end Go.Proofs.YtbcbbkdfdfgnfaaDoor
