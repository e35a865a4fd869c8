/-
  Layer 4: operate of a cut. (Made by tools/gentape.py.)
-/
import Derived.Test.YtghncdoophoieaaTf
namespace Go.Proofs.Ytghncdoophoieaa
open Go.RowKit
set_option linter.unusedVariables false

theorem m_cut1 (k : Int) (w : World) : (method 190 67 (.agg #[.int .i64 k]) "trestle/tape.refusal").run Try.prog w = .ok (68, (.agg #[.int .i64 k])) w := by kernel_rfl
theorem m_cut2 (k : Int) (w : World) : (method 190 67 (.agg #[.int .i64 k]) "trestle/tape.result").run Try.prog w = .ok (69, (.agg #[.int .i64 k])) w := by kernel_rfl
theorem n_cut (k : Int) (w : World) : (nilAhead 190 67 (.agg #[.int .i64 k]) "trestle/tape.result").run Try.prog w = .ok (some false) w := by kernel_rfl
theorem ta_cut (k : Int) (w : World) : (Instr.typeAssert (.iface 67 (.agg #[.int .i64 k])) 69 61 true).run Try.prog w = .ok (.tuple #[.agg #[.slice none 0 0], .bool false]) w := by kernel_rfl
set_option maxHeartbeats 8000000 in
theorem cut_core (b : Nat) (v : Value) (r : Nat) (l : List UInt8) (hd : Nat) (fu : Int) (k : Int) (l' : List UInt8) (w : World) (h : Tat w b v r l hd fu false) (hl : l'.length ≤ 16777216)
    (hR : Calls Try.prog 68 #[(.agg #[.int .i64 k]), .pointer (some ⟨b, 0, none⟩)] w fun e w' => e = .returned (.int .i64 0) ∧ Below w.heap.size w w')
    (hE : ∀ u, Chg (Mine b v) w u → Row u v l → Calls Try.prog 69 #[(.agg #[.int .i64 k]), v] u fun e w' => ∃ v', e = .returned v' ∧ Row w' v' l' ∧ Fresh u v v' ∧ Chg (fun k => foot v = some k) u w') :
    Calls Try.prog 39 #[.pointer (some ⟨b, 0, none⟩), .iface 67 (.agg #[.int .i64 k])] w fun e w' => e = .returned (.int .i64 (if burns fu then 16 else 0)) ∧
      ∃ v', Tat w' b v' r (if burns fu then l else l') (if burns fu then hd else l'.length) (burnt fu) (burns fu) ∧ Fresh w v v' ∧ Chg (Mine b v) w w' := by
  have R := Lib.hid hR; have E := Lib.hid hE
  have H := Lib.hid h
  have c4 := h.c4
  have m1 := m_cut1 k
  have m2 := m_cut2 k
  have na := n_cut k
  have ta := ta_cut k
  obtain ⟨bf, hbf⟩ : ∃ bf, burns fu = bf := ⟨_, rfl⟩
  have HBF := Lib.hid hbf
  rw [hbf]
  clear hbf h hR hE
  cases bf
  · go_enter Try.func39, Try.ntmps39
    go_wp2_with fail
    refine R.out.mono ?_
    rintro e w1 ⟨rfl, b1⟩
    have t1 := H.out.keep b1
    have B := Lib.hid (burn_any b v r l hd fu false w1 t1)
    go_wp2_with fail
    refine B.out.mono ?_
    rintro e w2 ⟨rfl, t2, k2⟩
    have T2 := Lib.hid t2
    rw [HBF.out]
    clear t1 t2 B
    go_wp2_with fail
    have hb3 := T2.out.lt
    have t3 : Tat (w2.alloc (.cells #[.slice none 0 0] 61)) b v r l hd (burnt fu) false := T2.out.keep ((Below.refl _ _).alloc (Nat.le_refl _) _)
    have k3 : Chg (Mine b v) w (w2.alloc (.cells #[.slice none 0 0] 61)) := ((Chg.of_below b1).more k2 (fun i _ hi => .inl hi)).alloc _
    generalize w2.alloc (.cells #[.slice none 0 0] 61) = w3 at t3 k3 ⊢
    have c1 := t3.c1
    have T3 := Lib.hid t3; have K3 := Lib.hid k3
    clear t3 k3
    refine wp_region_any (by kernel_rfl) ?_
    change wpAny _ _ _ _ _ _ _ (World.drew _)
    refine wpAny_take (i := 0) (v := .pointer (some ⟨b, 0, none⟩)) rfl (by kernel_rfl) (by kernel_rfl) (by kernel_rfl) (fun _ _ _ h => h) (Or.inl ⟨by rfl, fun w => by go_simp⟩) ?_
    refine wpAny_take (i := 1) (v := .iface 67 (.agg #[.int .i64 k])) rfl (by kernel_rfl) (by kernel_rfl) (by kernel_rfl) (fun _ _ _ h => h) (Or.inl ⟨by rfl, fun w => by go_simp⟩) ?_
    refine wpAny_take (i := 2) (v := .pointer (some ⟨b, 0, none⟩)) rfl (by kernel_rfl) (by kernel_rfl) (by kernel_rfl) (fun _ _ _ h => h) (Or.inl ⟨by rfl, fun w => by go_simp⟩) ?_
    refine wpAny_take (i := 3) (v := .pointer (some ⟨b, 0, none⟩)) rfl (by kernel_rfl) (by kernel_rfl) (by kernel_rfl) (fun _ _ _ h => h) (Or.inl ⟨by rfl, fun w => by go_simp⟩) ?_
    refine wpAny_take (i := 4) (v := .pointer (some ⟨b, 1, none⟩)) rfl (by kernel_rfl) (by kernel_rfl) (by kernel_rfl) (fun _ _ _ h => h) (Or.inl ⟨by rfl, fun w => by go_simp⟩) ?_
    refine wpAny_take (i := 6) (v := .func (.method "trestle/tape.result") #[.iface 67 (.agg #[.int .i64 k])] #[]) rfl (by kernel_rfl) (by kernel_rfl) (by kernel_rfl) (fun _ _ _ h => h) (Or.inl ⟨by rfl, fun w => by go_simp⟩) ?_
    refine wpAny_take (i := 7) (v := .func (.method "trestle/tape.result") #[.iface 67 (.agg #[.int .i64 k])] #[]) rfl (by kernel_rfl) (by kernel_rfl) (by kernel_rfl) (fun _ _ _ h => h) (Or.inl ⟨by rfl, fun w => by go_simp⟩) ?_
    refine wpAny_take (i := 8) (v := .iface 67 (.agg #[.int .i64 k])) rfl (by kernel_rfl) (by kernel_rfl) (by kernel_rfl) (fun _ _ _ h => h) (Or.inl ⟨by rfl, fun w => by go_simp⟩) ?_
    refine wpAny_ready (rs := [5]) (by kernel_rfl) (by simp) ?_
    refine AllReady.cons rfl (fun K hK => ?_) AllReady.nil
    go_simp
    refine hK _ _ ?_
    clear hK K
    refine wpAny_ready (rs := [9]) (by kernel_rfl) (by simp) ?_
    refine AllReady.cons rfl (fun K hK => ?_) AllReady.nil
    go_simp
    have T3d := T3.out.drew
    refine (E.out w3.drew K3.out.drew T3d.row).mono ?_
    rintro e w4 ⟨v', rfl, r4, f4, k4⟩
    obtain ⟨va, vc, hv', _, _, _, _⟩ := r4.shape
    subst hv'
    have hb4 : b < w4.heap.size := Nat.lt_of_lt_of_le T3d.lt k4.size
    have hh4 := (k4.block b T3d.lt T3d.apart).trans T3d.heap
    have d1 : w4.cell? ⟨b, 1, none⟩ = some v := (cell_of_row w4 b 1 _ _ _ hh4).trans rfl
    have e1 : w4.frozen? ⟨b, 1, none⟩ = false := by simp [World.frozen?, hh4]
    have t5 := T3d.put' k4 r4 f4 hl
    have k5 : Chg (Mine b v) w ((w4.setCell ⟨b, 1, none⟩ (.slice va l'.length vc)).setCell ⟨b, 2, none⟩ (.int .i64 l'.length)) := ((K3.out.drew.more k4 (fun i _ hi => .inr hi)).setCell _ (fun _ => .inl rfl) _).setCell _ (fun _ => .inl rfl) _
    have f5 : Fresh w v (.slice va l'.length vc) := fun g hg => by
      rcases f4 g hg with h | h
      · exact .inl h
      · exact .inr (Nat.le_trans K3.out.size h)
    have T5 := Lib.hid t5; have K5 := Lib.hid k5; have F5 := Lib.hid f5
    have hf2 : w4.frozen? ⟨b, 2, none⟩ = false := by simp [World.frozen?, hh4]
    have d2 : w4.cell? ⟨b, 2, none⟩ = some (.int .i64 hd) := (cell_of_row w4 b 2 _ _ _ hh4).trans rfl
    clear T3d r4 f4 k4 hh4 t5 k5 f5 T3 K3 H T2 R E m1 m2 na ta
    refine hK _ _ ?_
    clear hK K
    refine wpAny_take (i := 10) (v := .pointer (some ⟨b, 0, none⟩)) rfl (by kernel_rfl) (by kernel_rfl) (by kernel_rfl) (fun _ _ _ h => h) (Or.inl ⟨by rfl, fun w => by go_simp⟩) ?_
    refine wpAny_take (i := 11) (v := .pointer (some ⟨b, 1, none⟩)) rfl (by kernel_rfl) (by kernel_rfl) (by kernel_rfl) (fun _ _ _ h => h) (Or.inl ⟨by rfl, fun w => by go_simp⟩) ?_
    refine wpAny_ready (rs := [12]) (by kernel_rfl) (by simp) ?_
    refine AllReady.cons rfl (fun K hK => ?_) AllReady.nil
    go_simp
    refine hK _ _ ?_
    clear hK K
    refine wpAny_done (by kernel_rfl) ?_ _
    go_wp2
    go_ret
    exact ⟨rfl, _, T5.out, F5.out, K5.out⟩
  · go_enter Try.func39, Try.ntmps39
    go_wp2_with fail
    refine R.out.mono ?_
    rintro e w1 ⟨rfl, b1⟩
    have t1 := H.out.keep b1
    have B := Lib.hid (burn_any b v r l hd fu false w1 t1)
    go_wp2_with fail
    refine B.out.mono ?_
    rintro e w2 ⟨rfl, t2, k2⟩
    have T2 := Lib.hid t2
    rw [HBF.out]
    clear t1 t2 B
    have hb3 := T2.out.lt
    have t3 : Tat ((w2.setCell ⟨b, 4, none⟩ (.bool true)).alloc (.cells #[.slice none 0 0] 61)) b v r l hd (burnt fu) true := (T2.out.set4 true).keep ((Below.refl _ _).alloc (Nat.le_refl _) _)
    have k3 : Chg (Mine b v) w ((w2.setCell ⟨b, 4, none⟩ (.bool true)).alloc (.cells #[.slice none 0 0] 61)) := (((Chg.of_below b1).more k2 (fun i _ hi => .inl hi)).setCell ⟨b, 4, none⟩ (fun _ => .inl rfl) (.bool true)).alloc _
    have e4 := T2.out.fz 4
    have d4 := T2.out.c4
    have HT := Lib.hid t3; have HK2 := Lib.hid k3
    clear t3 k3 R E H T2
    go_wp2
    go_ret
    exact ⟨rfl, _, HT.out, Fresh.refl _ _, HK2.out⟩
end Go.Proofs.Ytghncdoophoieaa
