/-
  Layer 4: the reference's tape: its block, New, Room, Fuse, burns, CopyBytes, become, Hold, Cut, Swap.
-/
import Derived.Test.YtghncdoophoieaaTl
namespace Go.Proofs.Ytghncdoophoieaa
open Go.RowKit
set_option linter.unusedVariables false

/-- The reference's tape in its block. -/
structure Rat (w : World) (b : Nat) (v : Value) (r : Nat) (l : List UInt8) (hd : Nat) (fu : Int) (dn : Bool) : Prop where
  heap : w.heap[b]? = some (.cells #[v, .int .i64 hd, .int .i64 r, .int .i64 fu, .bool dn] 36 (0, 0))
  row : Row w v l
  apart : foot v ≠ some b
  room : r ≤ 16777216
  len : l.length ≤ 16777216
  held : hd ≤ l.length
  fuse0 : 0 ≤ fu
  fuse1 : fu ≤ 9223372036854775807
section
variable {w : World} {b : Nat} {v : Value} {r : Nat} {l : List UInt8} {hd : Nat} {fu : Int} {dn : Bool}
theorem Rat.lt (h : Rat w b v r l hd fu dn) : b < w.heap.size := (Array.getElem?_eq_some_iff.1 h.heap).1
theorem Rat.c0 (h : Rat w b v r l hd fu dn) : w.cell? ⟨b, 0, none⟩ = some v := (cell_of_row w b 0 _ _ _ h.heap).trans rfl
theorem Rat.c1 (h : Rat w b v r l hd fu dn) : w.cell? ⟨b, 1, none⟩ = some (.int .i64 hd) := (cell_of_row w b 1 _ _ _ h.heap).trans rfl
theorem Rat.c2 (h : Rat w b v r l hd fu dn) : w.cell? ⟨b, 2, none⟩ = some (.int .i64 r) := (cell_of_row w b 2 _ _ _ h.heap).trans rfl
theorem Rat.c3 (h : Rat w b v r l hd fu dn) : w.cell? ⟨b, 3, none⟩ = some (.int .i64 fu) := (cell_of_row w b 3 _ _ _ h.heap).trans rfl
theorem Rat.c4 (h : Rat w b v r l hd fu dn) : w.cell? ⟨b, 4, none⟩ = some (.bool dn) := (cell_of_row w b 4 _ _ _ h.heap).trans rfl
theorem Rat.fz (h : Rat w b v r l hd fu dn) (i : Nat) : w.frozen? ⟨b, i, none⟩ = false := by simp [World.frozen?, h.heap]
theorem Rat.chg (h : Rat w b v r l hd fu dn) {S : Nat → Prop} {w' : World} (hc : Chg S w w') (hn : ∀ k, Mine b v k → ¬ S k) : Rat w' b v r l hd fu dn :=
  ⟨(hc.block b h.lt (hn b (.inl rfl))).trans h.heap, h.row.chg hc fun g hg => hn g (.inr hg), h.apart, h.room, h.len, h.held, h.fuse0, h.fuse1⟩
theorem Rat.keep (h : Rat w b v r l hd fu dn) {w' : World} (hb : Below w.heap.size w w') : Rat w' b v r l hd fu dn :=
  h.chg (S := fun _ => False) (Chg.of_below hb) fun _ _ h => h
theorem Rat.drew (h : Rat w b v r l hd fu dn) : Rat w.drew b v r l hd fu dn := h.chg (S := fun _ => False) (Chg.refl _ w).drew fun _ _ h => h
theorem Rat.drewN (h : Rat w b v r l hd fu dn) (n : Nat) : Rat (w.drewN n) b v r l hd fu dn := h.chg (S := fun _ => False) ((Chg.refl _ w).drewN n) fun _ _ h => h
theorem Rat.mine (h : Rat w b v r l hd fu dn) (k : Nat) (hk : Mine b v k) : k < w.heap.size := by
  rcases hk with rfl | hk
  · exact h.lt
  · exact h.row.lt k hk
theorem Rat.set2 (h : Rat w b v r l hd fu dn) (x : Nat) (hx : x ≤ 16777216) : Rat (w.setCell ⟨b, 2, none⟩ (.int .i64 x)) b v x l hd fu dn :=
  ⟨(heap_set h.heap _).trans (by simp), h.row.set _ h.apart _, h.apart, hx, h.len, h.held, h.fuse0, h.fuse1⟩
theorem Rat.set3 (h : Rat w b v r l hd fu dn) (x : Int) (h0 : 0 ≤ x) (h1 : x ≤ 9223372036854775807) : Rat (w.setCell ⟨b, 3, none⟩ (.int .i64 x)) b v r l hd x dn :=
  ⟨(heap_set h.heap _).trans (by simp), h.row.set _ h.apart _, h.apart, h.room, h.len, h.held, h0, h1⟩
theorem Rat.set4 (h : Rat w b v r l hd fu dn) (x : Bool) : Rat (w.setCell ⟨b, 4, none⟩ (.bool x)) b v r l hd fu x :=
  ⟨(heap_set h.heap _).trans (by simp), h.row.set _ h.apart _, h.apart, h.room, h.len, h.held, h.fuse0, h.fuse1⟩
/-- Other bytes; they lie in this world already. -/
theorem Rat.set0 (h : Rat w b v r l hd fu dn) {v' : Value} {l' : List UInt8} (hr : Row w v' l') (ha : foot v' ≠ some b) (hl : l'.length ≤ 16777216) (hh : hd ≤ l'.length) : Rat (w.setCell ⟨b, 0, none⟩ v') b v' r l' hd fu dn :=
  ⟨(heap_set h.heap _).trans (by simp), hr.set _ ha _, ha, h.room, hl, hh, h.fuse0, h.fuse1⟩
/-- Other bytes, all of them held. -/
theorem Rat.set01 (h : Rat w b v r l hd fu dn) {v' : Value} {l' : List UInt8} (hr : Row w v' l') (ha : foot v' ≠ some b) (hl : l'.length ≤ 16777216) (x : Nat) (hx : x ≤ l'.length) :
    Rat ((w.setCell ⟨b, 0, none⟩ v').setCell ⟨b, 1, none⟩ (.int .i64 x)) b v' r l' x fu dn :=
  ⟨(heap_set (heap_set h.heap _) _).trans (by simp), (hr.set _ ha _).set _ ha _, ha, h.room, hl, hx, h.fuse0, h.fuse1⟩
end
set_option maxHeartbeats 1000000 in
theorem rRoom_at (b : Nat) (v : Value) (r : Nat) (l : List UInt8) (hd : Nat) (fu : Int) (dn : Bool) (n : Int) (w : World) (h : Rat w b v r l hd fu dn) :
    Calls Try.prog 29 #[.pointer (some ⟨b, 0, none⟩), .int .i64 n] w fun e w' => e = .returned (.tuple #[]) ∧ Rat w' b v (clamp n) l hd fu dn ∧ Chg (Mine b v) w w' := by
  have c0 := h.c2; have f0 := h.fz 2
  have hs := h.set2 (clamp n) (clamp_le n)
  have hc : Chg (Mine b v) w (w.setCell ⟨b, 2, none⟩ (.int .i64 (clamp n))) := (Chg.refl _ w).setCell _ (fun _ => .inl rfl) _
  have H := Lib.hid (And.intro hs hc)
  have hcase : n < 0 ∨ (0 ≤ n ∧ n ≤ 16777216) ∨ 16777216 < n := by omega
  clear h hs hc
  rcases hcase with h1 | ⟨h1, h2⟩ | h1
  · have e : (clamp n : Int) = 0 := by unfold clamp; omega
    rw [e] at H
    clear e
    go_enter Try.func29, Try.ntmps29
    go_wp2
    go_end0
    exact ⟨rfl, H.out⟩
  · have e : (clamp n : Int) = n := by unfold clamp; omega
    rw [e] at H
    clear e
    go_enter Try.func29, Try.ntmps29
    go_wp2
    go_end0
    exact ⟨rfl, H.out⟩
  · have e : (clamp n : Int) = 16777216 := by unfold clamp; omega
    rw [e] at H
    clear e
    go_enter Try.func29, Try.ntmps29
    go_wp2
    go_end0
    exact ⟨rfl, H.out⟩
set_option maxHeartbeats 1000000 in
theorem rFuse_at (b : Nat) (v : Value) (r : Nat) (l : List UInt8) (hd : Nat) (fu : Int) (dn : Bool) (n : Int) (hn : n ≤ 9223372036854775807) (w : World) (h : Rat w b v r l hd fu dn) :
    Calls Try.prog 35 #[.pointer (some ⟨b, 0, none⟩), .int .i64 n] w fun e w' => e = .returned (.tuple #[]) ∧ Rat w' b v r l hd (max n 0) dn ∧ Chg (Mine b v) w w' := by
  have c0 := h.c3; have f0 := h.fz 3
  have hs := h.set3 (max n 0) (by omega) (by omega)
  have hc : Chg (Mine b v) w (w.setCell ⟨b, 3, none⟩ (.int .i64 (max n 0))) := (Chg.refl _ w).setCell _ (fun _ => .inl rfl) _
  have H := Lib.hid (And.intro hs hc)
  clear h hs hc
  by_cases h1 : n < 0
  · rw [show max n 0 = 0 by omega] at H ⊢
    go_enter Try.func35, Try.ntmps35
    go_wp2
    go_end0
    exact ⟨rfl, H.out⟩
  · rw [show max n 0 = n by omega] at H ⊢
    go_enter Try.func35, Try.ntmps35
    go_wp2
    go_end0
    exact ⟨rfl, H.out⟩
set_option maxHeartbeats 1000000 in
theorem rNew_any (n : Int) (w : World) :
    Calls Try.prog 9 #[.int .i64 n] w fun e w' => e = .returned (.pointer (some ⟨w.heap.size, 0, none⟩)) ∧ Rat w' w.heap.size (.slice none 0 0) (clamp n) [] 0 0 false ∧ Below w.heap.size w w' := by
  go_enter Try.func9, Try.ntmps9
  go_wp2_with fail
  have ht : Rat (w.alloc (.cells #[.slice none 0 0, .int .i64 0, .int .i64 0, .int .i64 0, .bool false] 36)) w.heap.size (.slice none 0 0) 0 [] 0 0 false :=
    ⟨heap_alloc_new _ _, Row.nil _ _, by simp [foot], by omega, by simp, by simp, by omega, by omega⟩
  refine (rRoom_at _ _ _ _ _ _ _ n _ ht).mono ?_
  rintro e w1 ⟨rfl, h1, h2⟩
  have hb : Below w.heap.size w w1 := ((Below.refl _ w).alloc (Nat.le_refl _) _).trans (h2.below (by simp) fun i _ hi => by
    rcases hi with rfl | hi
    · exact Nat.le_refl _
    · simp [foot] at hi)
  have H := Lib.hid h1
  clear h1 h2 ht
  go_wp2
  go_ret
  exact ⟨rfl, H.out, hb⟩
set_option maxHeartbeats 1000000 in
theorem rburn_zero (b : Nat) (w : World) (c : w.cell? ⟨b, 3, none⟩ = some (.int .i64 0)) :
    Calls Try.prog 41 #[.pointer (some ⟨b, 0, none⟩)] w fun e w' => e = .returned (.bool false) ∧ w = w' := by
  go_enter Try.func41, Try.ntmps41
  go_wp2
  go_ret
  exact ⟨rfl, rfl⟩
set_option maxHeartbeats 1000000 in
theorem rburn_some (b : Nat) (w : World) (x : Int) (dn : Bool) (h0 : 0 < x) (h1 : x ≤ 9223372036854775807) (c : w.cell? ⟨b, 3, none⟩ = some (.int .i64 x)) (c4 : w.cell? ⟨b, 4, none⟩ = some (.bool dn)) (f : w.frozen? ⟨b, 3, none⟩ = false) (f4 : w.frozen? ⟨b, 4, none⟩ = false) :
    Calls Try.prog 41 #[.pointer (some ⟨b, 0, none⟩)] w fun e w' => e = .returned (.bool (x - 1 == 0)) ∧ w' = (w.setCell ⟨b, 3, none⟩ (.int .i64 (x - 1))).setCell ⟨b, 4, none⟩ (.bool (x - 1 == 0)) := by
  have hne : (x == 0) = false := by rw [beq_eq_false_iff_ne]; omega
  go_enter Try.func41, Try.ntmps41
  go_wp2
  go_ret
  exact ⟨rfl, rfl⟩
theorem rburn_any (b : Nat) (v : Value) (r : Nat) (l : List UInt8) (hd : Nat) (fu : Int) (w : World) (h : Rat w b v r l hd fu false) :
    Calls Try.prog 41 #[.pointer (some ⟨b, 0, none⟩)] w fun e w' => e = .returned (.bool (burns fu)) ∧ Rat w' b v r l hd (burnt fu) (burns fu) ∧ Chg (fun k => k = b) w w' := by
  have h0 := h.fuse0; have h1 := h.fuse1
  by_cases hz : fu = 0
  · subst hz
    refine (rburn_zero b w h.c3).mono ?_
    rintro e w' ⟨rfl, rfl⟩
    exact ⟨rfl, h, Chg.refl _ _⟩
  · refine (rburn_some b w fu false (by omega) h1 h.c3 h.c4 (h.fz 3) (h.fz 4)).mono ?_
    rintro e w' ⟨rfl, rfl⟩
    have e : (fu - 1 == 0) = burns fu := by unfold burns; rw [Bool.eq_iff_iff]; simp; omega
    rw [e]
    refine ⟨rfl, ?_, Chg.setCell (S := fun k => k = b) (Chg.setCell (S := fun k => k = b) (Chg.refl _ w) _ (fun _ => rfl) _) _ (fun _ => rfl) _⟩
    unfold burnt; rw [if_neg hz]; exact (h.set3 _ (by omega) (by omega)).set4 _
set_option maxHeartbeats 1000000 in
theorem CopyBytes_any (l : List UInt8) (w : World) (a : Option Addr) (n c : Nat) (hb : BAt w a l) (hn : n = l.length) (hno : a = none → n = 0 ∧ c = 0) (hl : l.length ≤ 1099511627776) :
    Calls Try.prog 40 #[.slice a n c] w fun e w' => ∃ v', e = .returned v' ∧ Row w' v' l ∧ (∀ g, foot v' = some g → w.heap.size ≤ g) ∧ Below w.heap.size w w' := by
  subst hn
  have HB := Lib.hid hb; have HNO := Lib.hid hno
  clear hb hno
  go_enter Try.func40, Try.ntmps40
  go_wp2_with (first
    | (at_builtin; refine wpList_append_row rfl (.const (.slice none 0 0)) (.tmp 3) rfl (.slice none 0 0) rfl [] l (Row.nil _ _) a l.length c rfl HB.out rfl HNO.out (by simpa using hl) ?_; intro v' w' hap)
    | fail)
  obtain ⟨h1, h2, h3⟩ := hap
  have H1 := Lib.hid h1
  have hb2 : Below w.heap.size w w' := (Below.refl _ w).grown h2 (Nat.le_refl _) (fun k hk => by cases hk)
  have hf : ∀ g, foot v' = some g → w.heap.size ≤ g := fun g hg => by
    rcases h3 with h3 | h3 | h3
    · rw [h3] at hg; cases hg
    · rw [h3] at hg; cases hg
    · rw [h3] at hg; cases hg; exact Nat.le_refl _
  have HF := Lib.hid hf
  clear h1 h2 h3 hf
  go_wp2
  go_ret
  exact ⟨_, rfl, by simpa using H1.out, HF.out, hb2⟩
set_option maxHeartbeats 4000000 in
theorem rbecome (b : Nat) (v : Value) (r : Nat) (l : List UInt8) (hd : Nat) (fu : Int) (w : World) (h : Rat w b v r l hd fu false) (a : Option Addr) (n c : Nat) (m : List UInt8) (hm : BAt w a m) (hn : n = m.length) (hno : a = none → n = 0 ∧ c = 0) (hl : m.length ≤ 16777216)
    (hD : 0 < m.length → ∀ x, a = some x → x.block ≠ b) :
    Calls Try.prog 42 #[.pointer (some ⟨b, 0, none⟩), .slice a n c] w fun e w' => e = .returned (.int .i64 (if burns fu then 16 else 0)) ∧
      ∃ v', Rat w' b v' r (if burns fu then l else m) (if burns fu then hd else m.length) (burnt fu) (burns fu) ∧ Fresh w v v' ∧ Chg (Mine b v) w w' := by
  subst hn
  have B := Lib.hid (rburn_any b v r l hd fu w h)
  have HM := Lib.hid hm; have HNO := Lib.hid hno; have HD := Lib.hid hD
  obtain ⟨bf, hbf⟩ : ∃ bf, burns fu = bf := ⟨_, rfl⟩
  have HBF := Lib.hid hbf
  rw [hbf]
  have hb0 := h.lt
  clear hbf h hm hno hD
  cases bf
  · go_enter Try.func42, Try.ntmps42
    go_wp2_with fail
    refine B.out.mono ?_
    rintro e w1 ⟨rfl, t1, k1⟩
    have T1 := Lib.hid t1
    rw [HBF.out]
    have hm1 : BAt w1 a m := fun hp => by
      obtain ⟨sb, so, e1, e2, e3⟩ := HM.out hp
      exact ⟨sb, so, e1, Nat.lt_of_lt_of_le e2 k1.size, fun i hi => (World.cell?_of_block (a := ⟨sb, so + i, none⟩) (k1.block sb e2 (HD.out hp _ e1))).trans (e3 i hi)⟩
    have C := Lib.hid (CopyBytes_any m w1 a m.length c hm1 rfl HNO.out (by omega))
    clear t1 B hm1
    go_wp2_with fail
    refine C.out.mono ?_
    rintro e w2 ⟨v', rfl, r2, f2, b2⟩
    obtain ⟨va, vc, hv', _, _, _, _⟩ := r2.shape
    subst hv'
    have t2 := T1.out.keep b2
    rw [HBF.out] at t2
    have ha : foot (.slice va m.length vc) ≠ some b := fun e => by have := f2 b e; have := T1.out.lt; omega
    have c0 := t2.c0; have c1 := t2.c1; have e0 := t2.fz 0; have e1 := t2.fz 1
    have T3 := Lib.hid (t2.set01 r2 ha hl m.length (Nat.le_refl _))
    have K3 : Chg (Mine b v) w ((w2.setCell ⟨b, 0, none⟩ (.slice va m.length vc)).setCell ⟨b, 1, none⟩ (.int .i64 m.length)) := ((((Chg.refl (Mine b v) w).more k1 (fun i _ hi => .inl hi)).more (Chg.of_below (S := Mine b v) b2) (fun i _ hi => hi)).setCell _ (fun _ => .inl rfl) _).setCell _ (fun _ => .inl rfl) _
    have HK3 := Lib.hid K3
    have F3 : Fresh w v (.slice va m.length vc) := fun g hg => .inr (Nat.le_trans k1.size (f2 g hg))
    have HF3 := Lib.hid F3
    clear t2 ha r2 f2 K3 F3 T1 C
    go_wp2
    go_ret
    exact ⟨rfl, _, T3.out, HF3.out, HK3.out⟩
  · go_enter Try.func42, Try.ntmps42
    go_wp2_with fail
    refine B.out.mono ?_
    rintro e w1 ⟨rfl, t1, k1⟩
    rw [HBF.out] at t1
    have T1 := Lib.hid t1
    rw [HBF.out]
    have K1 := Lib.hid (k1.weak (T := Mine b v) (fun i _ hi => .inl hi))
    clear t1 B k1
    go_wp2
    go_ret
    exact ⟨rfl, _, T1.out, Fresh.refl _ _, K1.out⟩
end Go.Proofs.Ytghncdoophoieaa
