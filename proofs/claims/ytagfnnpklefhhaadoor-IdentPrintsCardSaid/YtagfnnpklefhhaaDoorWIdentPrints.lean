/-
  The law IdentPrints: its walk.
-/
import Derived.Test.YtagfnnpklefhhaaDoorKg
import Derived.Deep.RegionHeld3
namespace Go.Proofs.YtagfnnpklefhhaaDoor.identPrints
open Go.RowKit
set_option linter.unusedVariables false
set_option linter.unusedSimpArgs false

theorem idtA_shape (o : Option Idt) : ∃ (a b : ByteArray) (c d e : Int), idtA o = .tuple #[.agg #[.string a, .string b, .int .i64 c, .int .i64 d], .int .i64 e] := by
  cases o with
  | none => exact ⟨_, _, _, _, _, rfl⟩
  | some i => exact ⟨_, _, _, _, _, rfl⟩
/-- What holds while the last condition is reckoned: three idents where they lie; the tables. -/
abbrev QS (xn xe pa pb : ByteArray) (xt xz pc pd : Int) (a x y : Nat) (w w' : World) : Prop :=
  w'.cell? ⟨a, 0, none⟩ = some (.string xn) ∧ w'.cell? ⟨a, 1, none⟩ = some (.string xe) ∧ w'.cell? ⟨a, 2, none⟩ = some (.int .i64 xt) ∧ w'.cell? ⟨a, 3, none⟩ = some (.int .i64 xz) ∧
  w'.cell? ⟨x, 0, none⟩ = some (.string pa) ∧ w'.cell? ⟨x, 1, none⟩ = some (.string pb) ∧ w'.cell? ⟨x, 2, none⟩ = some (.int .i64 pc) ∧ w'.cell? ⟨x, 3, none⟩ = some (.int .i64 pd) ∧
  w'.cell? ⟨y, 0, none⟩ = some (.string pa) ∧ w'.cell? ⟨y, 1, none⟩ = some (.string pb) ∧ w'.cell? ⟨y, 2, none⟩ = some (.int .i64 pc) ∧ w'.cell? ⟨y, 3, none⟩ = some (.int .i64 pd) ∧ Rest w w'
theorem qs_keep {xn xe pa pb : ByteArray} {xt xz pc pd : Int} {a x y : Nat} {w w1 w2 : World} (h : QS xn xe pa pb xt xz pc pd a x y w w1) (hb : Below w1.heap.size w1 w2) : QS xn xe pa pb xt xz pc pd a x y w w2 := by
  have k : ∀ (p : Addr) v, w1.cell? p = some v → w2.cell? p = some v := fun p v hc => (hb.cell (World.block_lt_of_cell? w1 p hc)).trans hc
  obtain ⟨h0, h1, h2, h3, h4, h5, h6, h7, h8, h9, h10, h11, h12, h13, h14⟩ := h
  exact ⟨k _ _ h0, k _ _ h1, k _ _ h2, k _ _ h3, k _ _ h4, k _ _ h5, k _ _ h6, k _ _ h7, k _ _ h8, k _ _ h9, k _ _ h10, k _ _ h11, h12.keep hb, h13.trans (hb.mono h13.size), Nat.lt_of_lt_of_le h14 hb.size⟩

set_option maxHeartbeats 32000000 in
set_option maxRecDepth 100000 in
theorem walk_small (w : World) (i : Idt) (s z : List UInt8) (hn : i.name.length ≤ 500) (he : i.email.length ≤ 500) (hs : s.length ≤ 1000) (hz : z.length ≤ 50) (tab : T7 w) :
    Calls Tryd.prog 3 #[idtV i, .string ⟨s.toArray⟩, .string ⟨z.toArray⟩] w fun e w' => e = .returned (.bool true) ∧ Below w.heap.size w w' := by
  have cX := fun w t => Parse_is s (by omega) w t
  have cY := fun w t => rParse_is s (by omega) w t
  have cZ := fun w t zt => Zone_is z (by omega) w t zt
  have cW := fun w => rZone_is z (by omega) w
  have cA := fun w t => awake_ident w t
  have cR := fun w t => Right_is i (by omega) (by omega) w t
  have cRr := fun w t => rRight_is i (by omega) (by omega) w t
  have cP := fun w t => Print_is i (by omega) (by omega) w t
  have cPr := fun w t => rPrint_is i (by omega) (by omega) w t
  rw [parse_alike] at cX
  obtain ⟨pa, pb, pc, pd, pe, hP⟩ := idtA_shape (parseR Lib.itoa takeN s)
  rw [hP] at cX cY
  obtain ⟨za, zf, hZ⟩ := zoneA_shape z
  rw [hZ] at cZ cW
  unfold idtV at cR cRr cP cPr ⊢
  have zn := size_toArray i.name
  have ze := size_toArray i.email
  have zs := size_toArray s
  have zz := size_toArray z
  have g1 : ¬ ((i.name.length : Nat) : Int) > 500 := by omega
  have g2 : ¬ ((i.email.length : Nat) : Int) > 500 := by omega
  have g3 : ¬ ((s.length : Nat) : Int) > 1000 := by omega
  have g4 : ¬ ((z.length : Nat) : Int) > 50 := by omega
  clear hP hZ
  generalize rightI i = rb at *
  generalize (⟨(printI Lib.itoa i).toArray⟩ : ByteArray) = ps at *
  generalize (⟨i.name.toArray⟩ : ByteArray) = xn at *
  generalize (⟨i.email.toArray⟩ : ByteArray) = xe at *
  generalize (⟨s.toArray⟩ : ByteArray) = xs at *
  generalize (⟨z.toArray⟩ : ByteArray) = xzs at *
  generalize i.whn = xt at *
  generalize i.zone = xz at *
  have TAB := Lib.hid tab
  have B0 := Lib.hid ((Below.refl w.heap.size w).alloc (Nat.le_refl _) (.cells #[.string xn, .string xe, .int .i64 xt, .int .i64 xz] 23))
  have T0 := Lib.hid (TAB.out.keep B0.out)
  have A0 := Lib.hid (heap_alloc_new w (.cells #[.string xn, .string xe, .int .i64 xt, .int .i64 xz] 23))
  clear tab
  go_enter Tryd.func3, Tryd.ntmps3
  go_wp2_with fail
  refine (cX _ T0.out).mono ?_
  rintro e w2 ⟨rfl, b2⟩
  have B2 := Lib.hid (B0.out.trans (b2.mono B0.out.size))
  have A2 := Lib.hid ((b2.block _ (lt_heap A0.out)).trans A0.out)
  clear b2 B0 T0 A0 cX
  go_wp2_with (first
    | (with_reducible refine wpList_store_idt rfl (.tmp 7) (.tmp 39) rfl w2.heap.size _ _ _ _ _ _ _ _ rfl rfl (heap_alloc_new w2 _) (by simp [Value.oneCell']) ?_)
    | fail)
  intro w3 h3 d3 k3 z3
  have B3 := Lib.hid (d3 w.heap.size w B2.out.size (B2.out.alloc B2.out.size _))
  have A3 := Lib.hid ((k3 w.heap.size (Nat.ne_of_lt (lt_heap A2.out))).trans ((heap_alloc_old w2 _ (lt_heap A2.out)).trans A2.out))
  have T3 := Lib.hid (TAB.out.keep B3.out)
  have X3 := Lib.hid h3
  clear h3 d3 k3 z3 B2 A2
  generalize w2.heap.size = xa at X3 ⊢
  go_wp2_with fail
  refine (cY _ T3.out.t6).mono ?_
  rintro e w4 ⟨rfl, b4⟩
  have B4 := Lib.hid (B3.out.trans (b4.mono B3.out.size))
  have A4 := Lib.hid ((b4.block _ (lt_heap A3.out)).trans A3.out)
  have X4 := Lib.hid ((b4.block _ (lt_heap X3.out)).trans X3.out)
  clear b4 B3 T3 A3 X3 cY
  go_wp2_with (first
    | (with_reducible refine wpList_store_idt rfl (.tmp 9) (.tmp 44) rfl w4.heap.size _ _ _ _ _ _ _ _ rfl rfl (heap_alloc_new w4 _) (by simp [Value.oneCell']) ?_)
    | fail)
  intro w5 h5 d5 k5 z5
  have B5 := Lib.hid (d5 w.heap.size w B4.out.size (B4.out.alloc B4.out.size _))
  have A5 := Lib.hid ((k5 w.heap.size (Nat.ne_of_lt (lt_heap A4.out))).trans ((heap_alloc_old w4 _ (lt_heap A4.out)).trans A4.out))
  have X5 := Lib.hid ((k5 xa (Nat.ne_of_lt (lt_heap X4.out))).trans ((heap_alloc_old w4 _ (lt_heap X4.out)).trans X4.out))
  have T5 := Lib.hid (TAB.out.keep B5.out)
  have Y5 := Lib.hid h5
  clear h5 d5 k5 z5 B4 A4 X4
  generalize w4.heap.size = ya at Y5 ⊢
  go_wp2_with fail
  refine (cZ _ T5.out.t6.pow T5.out.zon).mono ?_
  rintro e w6 ⟨rfl, b6⟩
  have B6 := Lib.hid (B5.out.trans (b6.mono B5.out.size))
  have A6 := Lib.hid ((b6.block _ (lt_heap A5.out)).trans A5.out)
  have X6 := Lib.hid ((b6.block _ (lt_heap X5.out)).trans X5.out)
  have Y6 := Lib.hid ((b6.block _ (lt_heap Y5.out)).trans Y5.out)
  clear b6 B5 T5 A5 X5 Y5 cZ
  go_wp2_with fail
  refine (cW _).mono ?_
  rintro e w7 ⟨rfl, b7⟩
  have b7d := b7.drew
  have hB7 := B6.out.trans (b7d.mono B6.out.size)
  obtain ⟨a0, a1, a2, a3⟩ := cells4 ((b7d.block _ (lt_heap A6.out)).trans A6.out)
  obtain ⟨x0, x1, x2, x3⟩ := cells4 ((b7d.block _ (lt_heap X6.out)).trans X6.out)
  obtain ⟨y0, y1, y2, y3⟩ := cells4 ((b7d.block _ (lt_heap Y6.out)).trans Y6.out)
  have K0 : QS xn xe pa pb xt xz pc pd w.heap.size xa ya w w7.drew := ⟨a0, a1, a2, a3, x0, x1, x2, x3, y0, y1, y2, y3, (TAB.out.keep hB7).t6, hB7, Nat.lt_of_lt_of_le (lt_heap A6.out) b7d.size⟩
  have DA := Lib.hid (fun w' (h : QS xn xe pa pb xt xz pc pd w.heap.size xa ya w w') => ((cA w' h.2.2.2.2.2.2.2.2.2.2.2.2.1).mono (fun e w'' ⟨he, hb⟩ => ⟨he, qs_keep h hb⟩) : Calls Tryd.prog 8 #[] w' fun e w'' => e = .returned (.bool true) ∧ QS xn xe pa pb xt xz pc pd w.heap.size xa ya w w''))
  have DR := Lib.hid (fun w' (h : QS xn xe pa pb xt xz pc pd w.heap.size xa ya w w') => ((cR w' h.2.2.2.2.2.2.2.2.2.2.2.2.1).mono (fun e w'' ⟨he, hb⟩ => ⟨he, qs_keep h hb⟩) : Calls Tryd.prog 13 #[.agg #[.string xn, .string xe, .int .i64 xt, .int .i64 xz]] w' fun e w'' => e = .returned (.bool rb) ∧ QS xn xe pa pb xt xz pc pd w.heap.size xa ya w w''))
  have DRr := Lib.hid (fun w' (h : QS xn xe pa pb xt xz pc pd w.heap.size xa ya w w') => ((cRr w' h.2.2.2.2.2.2.2.2.2.2.2.2.1).mono (fun e w'' ⟨he, hb⟩ => ⟨he, qs_keep h hb⟩) : Calls Tryd.prog 14 #[.agg #[.string xn, .string xe, .int .i64 xt, .int .i64 xz]] w' fun e w'' => e = .returned (.bool rb) ∧ QS xn xe pa pb xt xz pc pd w.heap.size xa ya w w''))
  have DP := Lib.hid (fun w' (h : QS xn xe pa pb xt xz pc pd w.heap.size xa ya w w') => ((cP w' h.2.2.2.2.2.2.2.2.2.2.2.2.1).mono (fun e w'' ⟨he, hb⟩ => ⟨he, qs_keep h hb⟩) : Calls Tryd.prog 15 #[.agg #[.string xn, .string xe, .int .i64 xt, .int .i64 xz]] w' fun e w'' => e = .returned (.string ps) ∧ QS xn xe pa pb xt xz pc pd w.heap.size xa ya w w''))
  have DPr := Lib.hid (fun w' (h : QS xn xe pa pb xt xz pc pd w.heap.size xa ya w w') => ((cPr w' h.2.2.2.2.2.2.2.2.2.2.2.2.1).mono (fun e w'' ⟨he, hb⟩ => ⟨he, qs_keep h hb⟩) : Calls Tryd.prog 16 #[.agg #[.string xn, .string xe, .int .i64 xt, .int .i64 xz]] w' fun e w'' => e = .returned (.string ps) ∧ QS xn xe pa pb xt xz pc pd w.heap.size xa ya w w''))
  clear b7 b7d hB7 a0 a1 a2 a3 x0 x1 x2 x3 y0 y1 y2 y3 B6 A6 X6 Y6 TAB cA cR cRr cP cPr cW zn ze zs zz g1 g2 g3 g4 hn he hs hz
  go_wp2_with fail
  go_region_held3 (fun w' => w'.cell? ⟨w.heap.size, 0, none⟩ = some (.string xn) ∧ w'.cell? ⟨w.heap.size, 1, none⟩ = some (.string xe) ∧ w'.cell? ⟨w.heap.size, 2, none⟩ = some (.int .i64 xt) ∧ w'.cell? ⟨w.heap.size, 3, none⟩ = some (.int .i64 xz) ∧
      w'.cell? ⟨xa, 0, none⟩ = some (.string pa) ∧ w'.cell? ⟨xa, 1, none⟩ = some (.string pb) ∧ w'.cell? ⟨xa, 2, none⟩ = some (.int .i64 pc) ∧ w'.cell? ⟨xa, 3, none⟩ = some (.int .i64 pd) ∧
      w'.cell? ⟨ya, 0, none⟩ = some (.string pa) ∧ w'.cell? ⟨ya, 1, none⟩ = some (.string pb) ∧ w'.cell? ⟨ya, 2, none⟩ = some (.int .i64 pc) ∧ w'.cell? ⟨ya, 3, none⟩ = some (.int .i64 pd) ∧ Rest w w') (assumption)
    (first | (go_at_call 8; refine (DA.out _ (by assumption)).mono ?_; rintro e w' ⟨rfl, hS⟩) | (go_at_call 13; refine (DR.out _ (by assumption)).mono ?_; rintro e w' ⟨rfl, hS⟩) | (go_at_call 14; refine (DRr.out _ (by assumption)).mono ?_; rintro e w' ⟨rfl, hS⟩) | (go_at_call 15; refine (DP.out _ (by assumption)).mono ?_; rintro e w' ⟨rfl, hS⟩) | (go_at_call 16; refine (DPr.out _ (by assumption)).mono ?_; rintro e w' ⟨rfl, hS⟩))
  all_goals
    go_wp2
    go_ret
    exact ⟨by first | rfl | (apply ret_bool; simp), hS.2.2.2.2.2.2.2.2.2.2.2.2.2.1⟩
set_option maxHeartbeats 8000000 in
set_option maxRecDepth 100000 in
theorem walk_long (w : World) (i : Idt) (s z : List UInt8) (hn : i.name.length ≤ maxLen) (he : i.email.length ≤ maxLen) (hs : s.length ≤ maxLen) (hz : z.length ≤ maxLen) (hl : ¬ (i.name.length ≤ 500 ∧ i.email.length ≤ 500 ∧ s.length ≤ 1000 ∧ z.length ≤ 50)) (tab : T7 w) :
    Calls Tryd.prog 3 #[idtV i, .string ⟨s.toArray⟩, .string ⟨z.toArray⟩] w fun e w' => e = .returned (.bool true) ∧ Below w.heap.size w w' := by
  unfold idtV maxLen at *
  have zn := size_toArray i.name
  have ze := size_toArray i.email
  have zs := size_toArray s
  have zz := size_toArray z
  have cA := fun w t => awake_ident w t
  generalize (⟨i.name.toArray⟩ : ByteArray) = xn at *
  generalize (⟨i.email.toArray⟩ : ByteArray) = xe at *
  generalize (⟨s.toArray⟩ : ByteArray) = xs at *
  generalize (⟨z.toArray⟩ : ByteArray) = xzs at *
  generalize i.whn = xt at *
  generalize i.zone = xz at *
  generalize i.name.length = nn at *
  generalize i.email.length = ne at *
  generalize s.length = ns at *
  generalize z.length = nz at *
  have B0 := Lib.hid ((Below.refl w.heap.size w).alloc (Nat.le_refl _) (.cells #[.string xn, .string xe, .int .i64 xt, .int .i64 xz] 23))
  have T0 := Lib.hid (tab.keep B0.out)
  clear tab
  by_cases g1 : (nn : Int) > 500
  · clear hl hn he hs hz
    go_enter Tryd.func3, Tryd.ntmps3
    go_wp2_with fail
    refine (cA _ T0.out.t6).mono ?_
    rintro e w1 ⟨rfl, b1⟩
    go_wp2
    go_ret
    exact ⟨rfl, B0.out.trans (b1.mono B0.out.size)⟩
  · by_cases g2 : (ne : Int) > 500
    · clear hl hn he hs hz
      go_enter Tryd.func3, Tryd.ntmps3
      go_wp2_with fail
      refine (cA _ T0.out.t6).mono ?_
      rintro e w1 ⟨rfl, b1⟩
      go_wp2
      go_ret
      exact ⟨rfl, B0.out.trans (b1.mono B0.out.size)⟩
    · by_cases g3 : (ns : Int) > 1000
      · clear hl hn he hs hz
        go_enter Tryd.func3, Tryd.ntmps3
        go_wp2_with fail
        refine (cA _ T0.out.t6).mono ?_
        rintro e w1 ⟨rfl, b1⟩
        go_wp2
        go_ret
        exact ⟨rfl, B0.out.trans (b1.mono B0.out.size)⟩
      · have g4 : (nz : Int) > 50 := by omega
        clear hl hn he hs hz
        go_enter Tryd.func3, Tryd.ntmps3
        go_wp2_with fail
        refine (cA _ T0.out.t6).mono ?_
        rintro e w1 ⟨rfl, b1⟩
        go_wp2
        go_ret
        exact ⟨rfl, B0.out.trans (b1.mono B0.out.size)⟩
theorem walk (w : World) (i : Idt) (hn : i.name.length ≤ maxLen) (he : i.email.length ≤ maxLen) (hw : -9223372036854775808 ≤ i.whn ∧ i.whn ≤ 9223372036854775807) (hzz : -9223372036854775808 ≤ i.zone ∧ i.zone ≤ 9223372036854775807) (s : List UInt8) (hs : s.length ≤ maxLen) (z : List UInt8) (hz : z.length ≤ maxLen) (tab : T7 w) :
    Calls Tryd.prog 3 #[idtV i, .string ⟨s.toArray⟩, .string ⟨z.toArray⟩] w fun e w' => e = .returned (.bool true) ∧ Below w.heap.size w w' := by
  by_cases hl : i.name.length ≤ 500 ∧ i.email.length ≤ 500 ∧ s.length ≤ 1000 ∧ z.length ≤ 50
  · exact walk_small w i s z hl.1 hl.2.1 hl.2.2.1 hl.2.2.2 tab
  · exact walk_long w i s z hn he hs hz hl tab
end Go.Proofs.YtagfnnpklefhhaaDoor.identPrints
