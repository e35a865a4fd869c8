/-
  The law IdentZones: its walk.
-/
import Derived.Test.YtagfnnpklefhhaaDoorKf
namespace Go.Proofs.YtagfnnpklefhhaaDoor.identZones
open Go.RowKit
set_option linter.unusedVariables false
set_option linter.unusedSimpArgs false

theorem word_a : wordL [65] = true := by decide +kernel
theorem word_nil : wordL [] = true := rfl
theorem right_zone (z : Int) : rightI ⟨[65], [], 0, z⟩ = (decide (-840 ≤ z) && decide (z ≤ 840)) := by
  unfold rightI
  rw [word_a, word_nil]
  simp
theorem print_zone (z : Int) (h0 : -840 ≤ z) (h1 : z ≤ 840) : printI Lib.itoa ⟨[65], [], 0, z⟩ = [65, 32, 60, 62, 32, 48, 32] ++ zoneT z := by
  unfold printI
  rw [right_zone, decide_eq_true h0, decide_eq_true h1, if_pos (by decide)]
  have e : Lib.itoa 0 = [48] := by unfold Lib.itoa; rw [if_neg (by decide), Lib.decDigits_one (by decide)]; rfl
  unfold textT aheadT
  simp only
  rw [e, if_neg (by decide)]
  rfl

set_option maxHeartbeats 8000000 in
set_option maxRecDepth 100000 in
theorem zone_within (w : World) (z : Int) (h0 : -840 ≤ z) (h1 : z ≤ 840) (tab : T7 w) :
    Calls Tryd.prog 6 #[.int .i64 z] w fun e w' => e = .returned (.bool true) ∧ Below w.heap.size w w' := by
  have cP := fun w t => Print_is ⟨[65], [], 0, z⟩ (by simp) (by simp) w t
  have cA := fun w t => awake_ident w t
  have zl := zone_len z
  have cZ := fun w t zt => Zone_is (zoneT z) (by rw [zl]; omega) w t zt
  rw [print_zone z h0 h1] at cP
  have zv : zoneA (zoneT z) = .tuple #[.int .i64 z, .int .i64 0] := by unfold zoneA; rw [zone_read z h0 h1]
  rw [zv] at cZ
  unfold idtV at cP
  simp only at cP
  have TAB := Lib.hid tab
  have hs12 : (⟨([65, 32, 60, 62, 32, 48, 32] ++ zoneT z).toArray⟩ : ByteArray).size = 12 := by rw [size_toArray, List.length_append, zl]; rfl
  have hex : (⟨([65, 32, 60, 62, 32, 48, 32] ++ zoneT z).toArray⟩ : ByteArray).extract 7 12 = ⟨(zoneT z).toArray⟩ := by
    rw [ext_from _ 7 12 (by rw [List.length_append, zl]; rfl)]
    rfl
  generalize (⟨([65, 32, 60, 62, 32, 48, 32] ++ zoneT z).toArray⟩ : ByteArray) = s at cP hs12 hex
  generalize (⟨(zoneT z).toArray⟩ : ByteArray) = t at cZ hex
  have W1 := Lib.hid (setRow_heap (w.alloc (.cells id0 23)) w.heap.size id0 #[.string ⟨#[65]⟩, .string ⟨#[]⟩, .int .i64 0, .int .i64 z] 23 (0, 0) (heap_alloc_new w _))
  have one : (#[Value.string ⟨#[65]⟩, .string ⟨#[]⟩, .int .i64 0, .int .i64 z] : Array Value).all (·.oneCell') = true := by simp [Value.oneCell']
  have HB := Lib.hid (below_setRow (B := w.heap.size) (g := w.heap.size) ((Below.refl w.heap.size w).alloc (Nat.le_refl _) (.cells id0 23)) (Nat.le_refl _) #[.string ⟨#[65]⟩, .string ⟨#[]⟩, .int .i64 0, .int .i64 z])
  have T1 := Lib.hid (TAB.out.keep HB.out)
  obtain ⟨c10, c11, c12, c13⟩ := cells4 W1.out
  clear tab zl zv
  go_enter Tryd.func6, Tryd.ntmps6
  go_wp2_with (first
    | (with_reducible refine wpList_store_row rfl 23 (.tmp 3) (.tmp 8) rfl w.heap.size #[Value.string ⟨#[65]⟩, .string ⟨#[]⟩, .int .i64 0, .int .i64 z] rfl rfl 23 id0 (heap_alloc_new w _) (infoId4 _ _ _ _) (sizeId4 _ _ _ _ _ _ _ _) one ?_)
    | fail)
  refine (cP _ T1.out.t6).mono ?_
  rintro e w2 ⟨rfl, b2⟩
  have B2 := Lib.hid (HB.out.trans (b2.mono HB.out.size))
  have T2 := Lib.hid (T1.out.keep b2)
  clear b2 c10 c11 c12 c13 cP
  go_wp2_with fail
  refine (cA _ T2.out.t6).mono ?_
  rintro e w3 ⟨rfl, b3⟩
  have B3 := Lib.hid (B2.out.trans (b3.mono B2.out.size))
  have T3 := Lib.hid (T2.out.keep b3)
  clear b3
  go_wp2_with fail
  refine (cZ _ T3.out.t6.pow T3.out.zon).mono ?_
  rintro e w4 ⟨rfl, b4⟩
  have B4 := Lib.hid (B3.out.trans (b4.mono B3.out.size))
  clear b4
  go_wp2
  go_ret
  exact ⟨by first | rfl | (apply ret_bool; simp), B4.out⟩
set_option maxHeartbeats 8000000 in
set_option maxRecDepth 100000 in
theorem walk_out (w : World) (z : Int) (hz : ¬ (-840 ≤ z ∧ z ≤ 840)) (tab : T7 w) :
    Calls Tryd.prog 6 #[.int .i64 z] w fun e w' => e = .returned (.bool true) ∧ Below w.heap.size w w' := by
  have hr : rightI ⟨[65], [], 0, z⟩ = false := by rw [right_zone, Bool.and_eq_false_iff, decide_eq_false_iff_not, decide_eq_false_iff_not]; omega
  have cA := fun w t => awake_ident w t
  have cR := fun w t => Right_is ⟨[65], [], 0, z⟩ (by simp) (by simp) w t
  have cP := fun w t => Print_is ⟨[65], [], 0, z⟩ (by simp) (by simp) w t
  have hp : printI Lib.itoa ⟨[65], [], 0, z⟩ = [] := by unfold printI; rw [hr]; rfl
  rw [hr] at cR
  rw [hp] at cP
  unfold idtV at cP cR
  simp only at cP cR
  have TAB := Lib.hid tab
  have W1 := Lib.hid (setRow_heap (w.alloc (.cells id0 23)) w.heap.size id0 #[.string ⟨#[65]⟩, .string ⟨#[]⟩, .int .i64 0, .int .i64 z] 23 (0, 0) (heap_alloc_new w _))
  have one : (#[Value.string ⟨#[65]⟩, .string ⟨#[]⟩, .int .i64 0, .int .i64 z] : Array Value).all (·.oneCell') = true := by simp [Value.oneCell']
  have HB := Lib.hid (below_setRow (B := w.heap.size) (g := w.heap.size) ((Below.refl w.heap.size w).alloc (Nat.le_refl _) (.cells id0 23)) (Nat.le_refl _) #[.string ⟨#[65]⟩, .string ⟨#[]⟩, .int .i64 0, .int .i64 z])
  have T1 := Lib.hid (TAB.out.keep HB.out)
  obtain ⟨c10, c11, c12, c13⟩ := cells4 W1.out
  clear tab hr hp
  by_cases lo : z < -840
  all_goals (
    (try have lo2 : 840 < z := by omega)
    clear hz
    go_enter Tryd.func6, Tryd.ntmps6
    go_wp2_with (first
      | (with_reducible refine wpList_store_row rfl 23 (.tmp 3) (.tmp 8) rfl w.heap.size #[Value.string ⟨#[65]⟩, .string ⟨#[]⟩, .int .i64 0, .int .i64 z] rfl rfl 23 id0 (heap_alloc_new w _) (infoId4 _ _ _ _) (sizeId4 _ _ _ _ _ _ _ _) one ?_)
      | fail)
    refine (cA _ T1.out.t6).mono ?_
    rintro e w2 ⟨rfl, b2⟩
    have h2 := (b2.block _ (lt_heap W1.out)).trans W1.out
    have B2 := Lib.hid (HB.out.trans (b2.mono HB.out.size))
    have T2 := Lib.hid (T1.out.keep b2)
    obtain ⟨c20, c21, c22, c23⟩ := cells4 h2
    have H2 := Lib.hid h2
    clear b2 c10 c11 c12 c13 h2
    go_wp2_with fail
    refine (cR _ T2.out.t6).mono ?_
    rintro e w3 ⟨rfl, b3⟩
    have h3 := (b3.block _ (lt_heap H2.out)).trans H2.out
    have B3 := Lib.hid (B2.out.trans (b3.mono B2.out.size))
    have T3 := Lib.hid (T2.out.keep b3)
    obtain ⟨c30, c31, c32, c33⟩ := cells4 h3
    clear b3 c20 c21 c22 c23 h3
    go_wp2_with fail
    refine (cP _ T3.out.t6).mono ?_
    rintro e w4 ⟨rfl, b4⟩
    have B4 := Lib.hid (B3.out.trans (b4.mono B3.out.size))
    clear b4
    go_wp2
    go_ret
    exact ⟨rfl, B4.out⟩)
theorem walk (w : World) (z : Int) (h0 : -9223372036854775808 ≤ z) (h1 : z ≤ 9223372036854775807) (tab : T7 w) :
    Calls Tryd.prog 6 #[.int .i64 z] w fun e w' => e = .returned (.bool true) ∧ Below w.heap.size w w' := by
  by_cases hz : -840 ≤ z ∧ z ≤ 840
  · exact zone_within w z hz.1 hz.2 tab
  · exact walk_out w z hz tab
end Go.Proofs.YtagfnnpklefhhaaDoor.identZones
