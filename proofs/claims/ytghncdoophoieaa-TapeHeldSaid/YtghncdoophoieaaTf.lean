/-
  Layer 4: operate, of each operation.
-/
import Derived.Test.YtghncdoophoieaaTe
namespace Go.Proofs.Ytghncdoophoieaa
open Go.RowKit
set_option linter.unusedVariables false

/-- Other bytes, behind what has perhaps written into the row's own block. -/
theorem Tat.put {w w' : World} {b : Nat} {v v' : Value} {r : Nat} {l l' : List UInt8} {hd : Nat} {fu : Int} {dn : Bool} (h : Tat w b v r l hd fu dn) (k : Chg (fun k => foot v = some k) w w') (hr : Row w' v' l') (hf : Fresh w v v') (hl : l'.length ≤ 16777216) (hh : hd ≤ l'.length) :
    Tat (w'.setCell ⟨b, 1, none⟩ v') b v' r l' hd fu dn ∧ foot v' ≠ some b := by
  have ha : foot v' ≠ some b := fun e => by
    rcases hf b e with h1 | h1
    · exact h.apart h1
    · have := h.lt; omega
  exact ⟨⟨(heap_set ((k.block b h.lt h.apart).trans h.heap) _).trans (by simp), hr.set _ ha _, ha, h.room, hl, hh, h.fuse0, h.fuse1⟩, ha⟩
/-- The same, all of it held. -/
theorem Tat.put' {w w' : World} {b : Nat} {v v' : Value} {r : Nat} {l l' : List UInt8} {hd : Nat} {fu : Int} {dn : Bool} (h : Tat w b v r l hd fu dn) (k : Chg (fun k => foot v = some k) w w') (hr : Row w' v' l') (hf : Fresh w v v') (hl : l'.length ≤ 16777216) :
    Tat ((w'.setCell ⟨b, 1, none⟩ v').setCell ⟨b, 2, none⟩ (.int .i64 l'.length)) b v' r l' l'.length fu dn := by
  have ha : foot v' ≠ some b := fun e => by
    rcases hf b e with h1 | h1
    · exact h.apart h1
    · have := h.lt; omega
  exact ⟨(heap_set (heap_set ((k.block b h.lt h.apart).trans h.heap) _) _).trans (by simp), (hr.set _ ha _).set _ ha _, ha, h.room, hl, Nat.le_refl _, h.fuse0, h.fuse1⟩
theorem m_write1 (x : Value) (w : World) : (method 190 61 (.agg #[x]) "trestle/tape.refusal").run Try.prog w = .ok (62, .agg #[x]) w := by kernel_rfl
theorem m_write2 (x : Value) (w : World) : (method 190 61 (.agg #[x]) "trestle/tape.result").run Try.prog w = .ok (63, .agg #[x]) w := by kernel_rfl
theorem n_write (x : Value) (w : World) : (nilAhead 190 61 (.agg #[x]) "trestle/tape.result").run Try.prog w = .ok (some false) w := by kernel_rfl
theorem ta_write (x : Value) (w : World) : (Instr.typeAssert (.iface 61 x) 69 61 true).run Try.prog w = .ok (.tuple #[x, .bool true]) w := by kernel_rfl
set_option maxHeartbeats 4000000 in
theorem write_done (D : Nat → Prop) (b : Nat) (v : Value) (r : Nat) (l : List UInt8) (hd : Nat) (fu : Int) (pa : Option Addr) (np pc : Nat) (ls : List (List UInt8)) (w : World) (h : Tat w b v r l hd fu false)
    (hp : PartsIn D w pa ls) (hn : np = ls.length) (hm : np ≤ maxLen) (hD : ∀ k, D k → ¬ Mine b v k ∧ k < w.heap.size) (hf : fits r l.length (total ls)) :
    Calls Try.prog 39 #[.pointer (some ⟨b, 0, none⟩), .iface 61 (.agg #[.slice pa np pc])] w fun e w' => e = .returned (.int .i64 (if burns fu then 16 else 0)) ∧
      ∃ v', Tat w' b v' r (l ++ ls.flatten) hd (burnt fu) (burns fu) ∧ Fresh w v v' ∧ Chg (Mine b v) w w' := by
  have R := Lib.hid (write_refusal D b v r l hd fu false pa np pc ls w h hp hn hm)
  have e : writeErr r l.length (total ls) = 0 := by unfold writeErr; rw [if_pos hf]
  rw [e] at R
  have H := Lib.hid h; have HP := Lib.hid hp; have HN := Lib.hid hn; have HF := Lib.hid hf; have HD := Lib.hid hD
  have c4 := h.c4
  have m1 := m_write1 (.slice pa np pc)
  have m2 := m_write2 (.slice pa np pc)
  have na := n_write (.slice pa np pc)
  have ta := ta_write (.agg #[.slice pa np pc])
  have hL := h.len
  have hRo := h.room
  clear e h hp hn hf hD
  obtain ⟨bf, hbf⟩ : ∃ bf, burns fu = bf := ⟨_, rfl⟩
  have HBF := Lib.hid hbf
  rw [hbf]
  clear hbf
  cases bf
  all_goals
    go_enter Try.func39, Try.ntmps39
    go_wp2_with fail
    refine R.out.mono ?_
    rintro e w1 ⟨rfl, b1⟩
    have t1 := H.out.keep b1
    have B := Lib.hid (burn_any b v r l hd fu false w1 t1)
    go_wp2_with fail
    refine B.out.mono ?_
    rintro e w2 ⟨rfl, t2, k2⟩
    have T2 := Lib.hid t2
    rw [HBF.out]
    clear t1 t2 B
    go_wp2_with fail
    have hb3 := T2.out.lt
    have t3 : Tat (w2.alloc (.cells #[.slice pa np pc] 61)) b v r l hd (burnt fu) false := T2.out.keep ((Below.refl _ _).alloc (Nat.le_refl _) _)
    have k3 : Chg (Mine b v) w (w2.alloc (.cells #[.slice pa np pc] 61)) := ((Chg.of_below b1).more k2 (fun i _ hi => .inl hi)).alloc _
    generalize w2.alloc (.cells #[.slice pa np pc] 61) = w3 at t3 k3 ⊢
    have c1 := t3.c1
    have T3 := Lib.hid t3; have K3 := Lib.hid k3
    clear t3 k3
    refine wp_region_any (by kernel_rfl) ?_
    change wpAny _ _ _ _ _ _ _ (World.drew _)
    refine wpAny_take (i := 0) (v := .pointer (some ⟨b, 0, none⟩)) rfl (by kernel_rfl) (by kernel_rfl) (by kernel_rfl) (fun _ _ _ h => h) (Or.inl ⟨by rfl, fun w => by go_simp⟩) ?_
    refine wpAny_take (i := 1) (v := .iface 61 (.agg #[.slice pa np pc])) rfl (by kernel_rfl) (by kernel_rfl) (by kernel_rfl) (fun _ _ _ h => h) (Or.inl ⟨by rfl, fun w => by go_simp⟩) ?_
    refine wpAny_take (i := 2) (v := .pointer (some ⟨b, 0, none⟩)) rfl (by kernel_rfl) (by kernel_rfl) (by kernel_rfl) (fun _ _ _ h => h) (Or.inl ⟨by rfl, fun w => by go_simp⟩) ?_
    refine wpAny_take (i := 3) (v := .pointer (some ⟨b, 0, none⟩)) rfl (by kernel_rfl) (by kernel_rfl) (by kernel_rfl) (fun _ _ _ h => h) (Or.inl ⟨by rfl, fun w => by go_simp⟩) ?_
    refine wpAny_take (i := 4) (v := .pointer (some ⟨b, 1, none⟩)) rfl (by kernel_rfl) (by kernel_rfl) (by kernel_rfl) (fun _ _ _ h => h) (Or.inl ⟨by rfl, fun w => by go_simp⟩) ?_
    refine wpAny_take (i := 6) (v := .func (.method "trestle/tape.result") #[.iface 61 (.agg #[.slice pa np pc])] #[]) rfl (by kernel_rfl) (by kernel_rfl) (by kernel_rfl) (fun _ _ _ h => h) (Or.inl ⟨by rfl, fun w => by go_simp⟩) ?_
    refine wpAny_take (i := 7) (v := .func (.method "trestle/tape.result") #[.iface 61 (.agg #[.slice pa np pc])] #[]) rfl (by kernel_rfl) (by kernel_rfl) (by kernel_rfl) (fun _ _ _ h => h) (Or.inl ⟨by rfl, fun w => by go_simp⟩) ?_
    refine wpAny_take (i := 8) (v := .iface 61 (.agg #[.slice pa np pc])) rfl (by kernel_rfl) (by kernel_rfl) (by kernel_rfl) (fun _ _ _ h => h) (Or.inl ⟨by rfl, fun w => by go_simp⟩) ?_
    refine wpAny_ready (rs := [5]) (by kernel_rfl) (by simp) ?_
    refine AllReady.cons rfl (fun K hK => ?_) AllReady.nil
    go_simp
    refine hK _ _ ?_
    clear hK K
    refine wpAny_ready (rs := [9]) (by kernel_rfl) (by simp) ?_
    refine AllReady.cons rfl (fun K hK => ?_) AllReady.nil
    go_simp
    have T3d := T3.out.drew
    have hin : PartsIn D w3.drew pa ls := HP.out.chg K3.out.drew (fun k hk => (HD.out k hk).1)
    have hfit := HF.out
    refine (write_result D v l pa np pc ls w3.drew T3d.row hin HN.out hm (fun k hk => ⟨fun he => (HD.out k hk).1 (.inr he), Nat.lt_of_lt_of_le (HD.out k hk).2 K3.out.size⟩) (by unfold fits at hfit; omega)).mono ?_
    rintro e w4 ⟨v', rfl, r4, f4, k4⟩
    obtain ⟨va, vc, hv', _, _, _, _⟩ := r4.shape
    obtain ⟨vn, hvn⟩ : ∃ vn, (l ++ ls.flatten).length = vn := ⟨_, rfl⟩
    rw [hvn] at hv'
    subst hv'
    have HVN := Lib.hid hvn
    clear hvn
    have hb4 : b < w4.heap.size := Nat.lt_of_lt_of_le T3d.lt k4.size
    have hh4 := (k4.block b T3d.lt T3d.apart).trans T3d.heap
    have d1 : w4.cell? ⟨b, 1, none⟩ = some v := (cell_of_row w4 b 1 _ _ _ hh4).trans rfl
    have e1 : w4.frozen? ⟨b, 1, none⟩ = false := by simp [World.frozen?, hh4]
    have hlen : (l ++ ls.flatten).length ≤ 16777216 := by rw [List.length_append]; show l.length + total ls ≤ _; unfold fits at hfit; omega
    obtain ⟨t5, ha⟩ := T3d.put k4 r4 f4 hlen (by rw [List.length_append]; have := T3d.held; omega)
    have k5 : Chg (Mine b v) w (w4.setCell ⟨b, 1, none⟩ (.slice va vn vc)) := (K3.out.drew.more k4 (fun i _ hi => .inr hi)).setCell _ (fun _ => .inl rfl) _
    have f5 : Fresh w v (.slice va vn vc) := fun g hg => by
      rcases f4 g hg with h | h
      · exact .inl h
      · exact .inr (Nat.le_trans K3.out.size h)
    have T5 := Lib.hid t5; have K5 := Lib.hid k5; have F5 := Lib.hid f5
    clear T3d hin hfit r4 f4 k4 hh4 t5 ha k5 f5 T3 K3 HP HN HF HD H T2 R
    refine hK _ _ ?_
    clear hK K
    refine wpAny_take (i := 10) (v := .pointer (some ⟨b, 0, none⟩)) rfl (by kernel_rfl) (by kernel_rfl) (by kernel_rfl) (fun _ _ _ h => h) (Or.inl ⟨by rfl, fun w => by go_simp⟩) ?_
    refine wpAny_take (i := 11) (v := .pointer (some ⟨b, 1, none⟩)) rfl (by kernel_rfl) (by kernel_rfl) (by kernel_rfl) (fun _ _ _ h => h) (Or.inl ⟨by rfl, fun w => by go_simp⟩) ?_
    refine wpAny_ready (rs := [12]) (by kernel_rfl) (by simp) ?_
    refine AllReady.cons rfl (fun K hK => ?_) AllReady.nil
    go_simp
    refine hK _ _ ?_
    clear hK K
    refine wpAny_done (by kernel_rfl) ?_ _
    generalize w4.setCell ⟨b, 1, none⟩ (.slice va vn vc) = w5 at T5 K5 ⊢
    have d4 := T5.out.c4
    have e4 := T5.out.fz 4
    have T6 := Lib.hid (T5.out.set4 true)
    have K6 := Lib.hid (K5.out.setCell (p := ⟨b, 4, none⟩) (fun _ => .inl rfl) (.bool true))
    go_wp2
    go_ret
    first
    | exact ⟨rfl, _, T6.out, F5.out, K6.out⟩
    | exact ⟨rfl, _, T5.out, F5.out, K5.out⟩
end Go.Proofs.Ytghncdoophoieaa
