/-
  Layer 4: burn, Fall, Rise, Clone, Bytes.
-/
import Derived.Test.YtghncdoophoieaaTb
import Derived.Lib.Hide
import Derived.StillTailTactics
import Derived.RegionTactic
namespace Go.Proofs.Ytghncdoophoieaa
open Go.RowKit
set_option linter.unusedVariables false

theorem elem_bytes : Try.prog.underlying 32 = some (.slice (Try.prog.elem 32)) := by kernel_rfl
theorem slice_head (a : Option Addr) (n c k : Nat) (x : Int) (hx : x = k) (hk : k ≤ c) (u : World) :
    (Instr.sliceAt 32 (.slice a n c) none (some (.int .i64 x)) none).run Try.prog u = .ok (.slice a k c) u := by
  subst hx
  obtain ⟨i, hi, hz, hs, hby⟩ := info_parts info_u8
  have e : Try.prog.elem 32 = 5 := by kernel_rfl
  rw [run_sliceAt_slice (h := elem_bytes), run_slice_h (ht := elem_bytes) (h0 := by omega) (h2 := by omega)]
  rw [e]
  simp [sizeOf, typeInfo, hi, hs, Result.andThen, sliced]
  cases a with
  | none => simp
  | some a => simp [Addr.add]
set_option maxHeartbeats 1000000 in
theorem burn_zero (b : Nat) (w : World) (c : w.cell? ⟨b, 3, none⟩ = some (.int .i64 0)) :
    Calls Try.prog 44 #[.pointer (some ⟨b, 0, none⟩)] w fun e w' => e = .returned (.bool false) ∧ w = w' := by
  go_enter Try.func44, Try.ntmps44
  go_wp2
  go_ret
  exact ⟨rfl, rfl⟩
set_option maxHeartbeats 1000000 in
theorem burn_some (b : Nat) (w : World) (x : Int) (h0 : 0 < x) (h1 : x ≤ 9223372036854775807) (c : w.cell? ⟨b, 3, none⟩ = some (.int .i64 x)) (f : w.frozen? ⟨b, 3, none⟩ = false) :
    Calls Try.prog 44 #[.pointer (some ⟨b, 0, none⟩)] w fun e w' => e = .returned (.bool (x - 1 == 0)) ∧ w' = w.setCell ⟨b, 3, none⟩ (.int .i64 (x - 1)) := by
  have hne : (x == 0) = false := by rw [beq_eq_false_iff_ne]; omega
  go_enter Try.func44, Try.ntmps44
  go_wp2
  go_ret
  exact ⟨rfl, rfl⟩
/-- What lies behind a burn: the fuse, and does it burn? -/
def burnt (fu : Int) : Int := if fu = 0 then 0 else fu - 1
def burns (fu : Int) : Bool := fu == 1
theorem burn_any (b : Nat) (v : Value) (r : Nat) (l : List UInt8) (hd : Nat) (fu : Int) (dn : Bool) (w : World) (h : Tat w b v r l hd fu dn) :
    Calls Try.prog 44 #[.pointer (some ⟨b, 0, none⟩)] w fun e w' => e = .returned (.bool (burns fu)) ∧ Tat w' b v r l hd (burnt fu) dn ∧ Chg (fun k => k = b) w w' := by
  have h0 := h.fuse0; have h1 := h.fuse1
  by_cases hz : fu = 0
  · subst hz
    refine (burn_zero b w h.c3).mono ?_
    rintro e w' ⟨rfl, rfl⟩
    exact ⟨rfl, h, Chg.refl _ _⟩
  · refine (burn_some b w fu (by omega) h1 h.c3 (h.fz 3)).mono ?_
    rintro e w' ⟨rfl, rfl⟩
    refine ⟨?_, ?_, Chg.setCell (S := fun k => k = b) (Chg.refl _ w) _ (fun _ => rfl) _⟩
    · unfold burns; congr 2; rw [Bool.eq_iff_iff]; simp; omega
    · unfold burnt; rw [if_neg hz]; exact h.set3 _ (by omega) (by omega)
set_option maxHeartbeats 1000000 in
theorem Clone_any (v : Value) (l : List UInt8) (w : World) (a : Option Addr) (n c : Nat) (hv : v = .slice a n c) (hb : BAt w a l) (hn : n = l.length) (hno : a = none → n = 0 ∧ c = 0) (hl : l.length ≤ 1099511627776) :
    Calls Try.prog 38 #[v] w fun e w' => ∃ v', e = .returned v' ∧ Row w' v' l ∧ (∀ g, foot v' = some g → w.heap.size ≤ g) ∧ Below w.heap.size w w' := by
  subst hv
  subst hn
  have HB := Lib.hid hb; have HNO := Lib.hid hno
  clear hb hno
  cases a with
  | none =>
    have e1 := (HNO.out rfl).1
    obtain rfl : l = [] := List.eq_nil_of_length_eq_zero e1
    obtain rfl := (HNO.out rfl).2
    clear e1 HB HNO
    have qT : ∀ (w : World) (a : Option Addr) (n c n' c' : Nat), (binOp .eql 32 (.slice a n c) (.slice none n' c')).run Try.prog w = .ok (.bool a.isNone) w := fun w a n c n' c' => Lib.run_eql_slice_nil w _ _ a n c n' c' Try.underlying32
    go_enter Try.func38, Try.ntmps38
    go_wp2
    go_ret
    exact ⟨_, rfl, Row.nil _ _, fun g hg => by simp [foot] at hg, Below.refl _ _⟩
  | some ad =>
    have qT : ∀ (w : World) (a : Option Addr) (n c n' c' : Nat), (binOp .eql 32 (.slice a n c) (.slice none n' c')).run Try.prog w = .ok (.bool a.isNone) w := fun w a n c n' c' => Lib.run_eql_slice_nil w _ _ a n c n' c' Try.underlying32
    go_enter Try.func38, Try.ntmps38
    go_wp2_with (first
      | (at_builtin; refine wpList_append_row rfl (.tmp 5) (.tmp 6) rfl (.slice (some ⟨w.heap.size, 0, none⟩) 0 0) rfl [] l (Row.nil _ _) (some ad) l.length c rfl ((HB.out.below ((Below.refl _ w).alloc (Nat.le_refl _) _) (Nat.le_refl _))) rfl HNO.out (by simpa using hl) ?_; intro v' w' hap)
      | fail)
    obtain ⟨h1, h2, h3⟩ := hap
    have H1 := Lib.hid h1
    have hb2 : Below w.heap.size w w' := ((Below.refl _ w).alloc (Nat.le_refl _) _).grown h2 (by simp) (fun k hk => by rw [foot_zero] at hk; cases hk)
    have hf : ∀ g, foot v' = some g → w.heap.size ≤ g := fun g hg => by
      rcases h3 with h3 | h3 | h3
      · rw [h3, foot_zero] at hg; cases hg
      · rw [h3] at hg; cases hg
      · rw [h3] at hg; simp at hg; omega
    have HF := Lib.hid hf
    clear h1 h2 h3 hf
    go_wp2
    go_ret
    exact ⟨_, rfl, by simpa using H1.out, HF.out, hb2⟩
set_option maxHeartbeats 1000000 in
theorem Bytes_at (b : Nat) (v : Value) (l : List UInt8) (w : World) (c1 : w.cell? ⟨b, 1, none⟩ = some v) (hr : Row w v l) (hl : l.length ≤ 16777216) :
    Calls Try.prog 12 #[.pointer (some ⟨b, 0, none⟩)] w fun e w' => ∃ v', e = .returned v' ∧ Row w' v' l ∧ (∀ g, foot v' = some g → w.heap.size ≤ g) ∧ Below w.heap.size w w' := by
  obtain ⟨a, c, hv, _, _, hb, hno⟩ := hr.shape
  have C := Lib.hid (Clone_any v l w a l.length c hv hb rfl hno (by omega))
  clear hv hb hno hr
  go_enter Try.func12, Try.ntmps12
  go_wp2_with fail
  refine C.out.mono ?_
  rintro e w1 ⟨v', rfl, h⟩
  have H := Lib.hid h
  clear h
  go_wp2
  go_ret
  exact ⟨_, rfl, H.out⟩
set_option maxHeartbeats 1000000 in
theorem Bytes_nil (w : World) : Calls Try.prog 12 #[.pointer none] w fun e w' => e = .returned (.slice none 0 0) ∧ w = w' := by
  go_enter Try.func12, Try.ntmps12
  go_wp2
  go_ret
  exact ⟨rfl, rfl⟩
set_option maxHeartbeats 1000000 in
theorem Rise_nil (w : World) : Calls Try.prog 24 #[.pointer none] w fun e w' => e = .returned (.tuple #[]) ∧ w = w' := by
  go_enter Try.func24, Try.ntmps24
  go_wp2
  first | go_end0 | (simp only [Exit.inBlock, Exit.then]; refine bodyPost_ret (results_none rfl _ _ _) rfl ?_) | refine bodyPost_ret (results_none rfl _ _ _) rfl ?_
  exact ⟨rfl, rfl⟩
set_option maxHeartbeats 1000000 in
theorem Fall_nil (n : Int) (w : World) : Calls Try.prog 23 #[.pointer none, .int .i64 n] w fun e w' => e = .returned (.tuple #[]) ∧ w = w' := by
  go_enter Try.func23, Try.ntmps23
  go_wp2
  first | go_end0 | (simp only [Exit.inBlock, Exit.then]; refine bodyPost_ret (results_none rfl _ _ _) rfl ?_) | refine bodyPost_ret (results_none rfl _ _ _) rfl ?_
  exact ⟨rfl, rfl⟩
set_option maxHeartbeats 1000000 in
theorem Rise_up (b : Nat) (w : World) (c : w.cell? ⟨b, 4, none⟩ = some (.bool false)) : Calls Try.prog 24 #[.pointer (some ⟨b, 0, none⟩)] w fun e w' => e = .returned (.tuple #[]) ∧ w = w' := by
  go_enter Try.func24, Try.ntmps24
  go_wp2
  first | go_end0 | (simp only [Exit.inBlock, Exit.then]; refine bodyPost_ret (results_none rfl _ _ _) rfl ?_) | refine bodyPost_ret (results_none rfl _ _ _) rfl ?_
  exact ⟨rfl, rfl⟩
set_option maxHeartbeats 1000000 in
theorem Rise_down (b : Nat) (v : Value) (r : Nat) (l : List UInt8) (hd : Nat) (fu : Int) (w : World) (h : Tat w b v r l hd fu true) :
    Calls Try.prog 24 #[.pointer (some ⟨b, 0, none⟩)] w fun e w' => e = .returned (.tuple #[]) ∧ ∃ v', Tat w' b v' r (l.take hd) hd fu false ∧ Chg (Mine b v) w w' ∧ foot v' = foot v := by
  obtain ⟨a, c, hv, hlc, hcm, hb, hno⟩ := h.row.shape
  subst hv
  have hh := h.held
  have hsl := fun u => slice_head a l.length c hd hd rfl (by omega) u
  obtain ⟨r1, r2⟩ := h.row.cut hd hh
  have c1 := h.c1; have c2 := h.c2; have c4 := h.c4; have f1 := h.fz 1; have f4 := h.fz 4
  have hb2 := h.lt
  have ha : foot (.slice a hd c) ≠ some b := by rw [r2]; exact h.apart
  have hlen : (l.take hd).length = hd := by rw [List.length_take]; omega
  have s1 := h.set1 r1 ha (by have := h.len; omega) (by omega)
  have s2 := s1.set4 false
  have hc : Chg (Mine b (.slice a l.length c)) w ((w.setCell ⟨b, 1, none⟩ (.slice a hd c)).setCell ⟨b, 4, none⟩ (.bool false)) := ((Chg.refl _ w).setCell _ (fun _ => .inl rfl) _).setCell _ (fun _ => .inl rfl) _
  have H := Lib.hid (And.intro s2 (And.intro hc r2))
  clear s1 s2 hc r1 r2 ha hlen h hb hno
  go_enter Try.func24, Try.ntmps24
  go_wp2
  go_still_tail 12, (by kernel_rfl)
  go_wp2
  go_end0
  exact ⟨rfl, _, H.out.1.drew, H.out.2.1.drew, H.out.2.2⟩
/-- How many bytes are held behind a fall. -/
def fell (n hd : Nat) (k : Int) : Nat := hd + (min (max k 0) ((n : Int) - hd)).toNat
theorem fell_le {n hd : Nat} (h : hd ≤ n) (k : Int) : hd ≤ fell n hd k ∧ fell n hd k ≤ n := by unfold fell; omega
set_option maxHeartbeats 4000000 in
theorem Fall_at (b : Nat) (v : Value) (r : Nat) (l : List UInt8) (hd : Nat) (fu : Int) (dn : Bool) (k : Int) (w : World) (h : Tat w b v r l hd fu dn) :
    Calls Try.prog 23 #[.pointer (some ⟨b, 0, none⟩), .int .i64 k] w fun e w' => e = .returned (.tuple #[]) ∧ ∃ v', Tat w' b v' r (l.take (fell l.length hd k)) (fell l.length hd k) fu true ∧ Chg (Mine b v) w w' ∧ foot v' = foot v := by
  obtain ⟨a, c, hv, hlc, hcm, hb, hno⟩ := h.row.shape
  subst hv
  have hh := h.held
  have hL := h.len
  obtain ⟨q, hq⟩ : ∃ q, fell l.length hd k = q := ⟨_, rfl⟩
  have hq1 := (fell_le hh k).1; have hq2 := (fell_le hh k).2
  rw [hq] at hq1 hq2
  have hsl := fun u => slice_head a l.length c q q rfl (by omega) u
  have c1 := h.c1; have c2 := h.c2; have f2 := h.fz 2
  have hcase : (k < 0 ∧ q = hd) ∨ (0 ≤ k ∧ k ≤ (l.length : Int) - hd ∧ (q : Int) = hd + k) ∨ ((l.length : Int) - hd < k ∧ q = l.length) := by
    unfold fell at hq; omega
  have go : ∀ (w1 : World), Tat w1 b (.slice a l.length c) r l q fu dn → Chg (Mine b (.slice a l.length c)) w w1 → ∃ v', Tat ((w1.setCell ⟨b, 1, none⟩ (.slice a q c)).setCell ⟨b, 4, none⟩ (.bool true)).drew b v' r (l.take q) q fu true ∧ Chg (Mine b (.slice a l.length c)) w ((w1.setCell ⟨b, 1, none⟩ (.slice a q c)).setCell ⟨b, 4, none⟩ (.bool true)).drew ∧ foot v' = foot (.slice a l.length c) := by
    intro w1 t1 k1
    obtain ⟨r1, r2⟩ := t1.row.cut q hq2
    have ha : foot (.slice a q c) ≠ some b := by rw [r2]; exact h.apart
    have hlen : (l.take q).length = q := by rw [List.length_take]; omega
    exact ⟨_, ((t1.set1 r1 ha (by have := h.len; omega) (by omega)).set4 true).drew, ((k1.setCell _ (fun _ => .inl rfl) _).setCell _ (fun _ => .inl rfl) _).drew, r2⟩
  have st : ∀ (n : Nat) (x : Int), x = q → Tat ((w.drewN n).setCell ⟨b, 2, none⟩ (.int .i64 x)) b (.slice a l.length c) r l q fu dn ∧ Chg (Mine b (.slice a l.length c)) w ((w.drewN n).setCell ⟨b, 2, none⟩ (.int .i64 x)) := fun n x hx => by
    subst hx
    exact ⟨(h.drewN n).set2 q hq2, ((Chg.refl _ w).drewN n).setCell _ (fun _ => .inl rfl) _⟩
  have G := Lib.hid go; have ST := Lib.hid st
  rw [hq]
  clear go st h hb hno hq
  rcases hcase with ⟨h1, h2⟩ | ⟨h1, h2, h3⟩ | ⟨h1, h2⟩
  · have H2 := Lib.hid h2
    have h0 : 0 ≤ (l.length : Int) - hd := by omega
    clear h2
    go_enter Try.func23, Try.ntmps23
    go_wp2
    go_quiet (fail)
    go_wp2
    obtain ⟨t1, k1⟩ := ST.out nq hd (by rw [H2.out])
    generalize (w.drewN nq).setCell ⟨b, 2, none⟩ (Value.int IntKind.i64 hd) = w1 at t1 k1 ⊢
    have d1 := t1.c1; have d2 := t1.c2; have d4 := t1.c4; have e1 := t1.fz 1; have e4 := t1.fz 4
    have HG := Lib.hid (G.out w1 t1 k1)
    clear t1 k1
    go_still_tail 12, (by kernel_rfl)
    go_wp2
    go_end0
    exact ⟨rfl, HG.out⟩
  · have H3 := Lib.hid h3
    have h4 : 0 ≤ (hd : Int) + k := by omega
    have h5 : (hd : Int) + k ≤ 16777216 := by omega
    clear h3
    go_enter Try.func23, Try.ntmps23
    go_wp2
    go_quiet (fail)
    go_wp2
    obtain ⟨t1, k1⟩ := ST.out nq (hd + k) H3.out.symm
    generalize (w.drewN nq).setCell ⟨b, 2, none⟩ (Value.int IntKind.i64 (hd + k)) = w1 at t1 k1 ⊢
    have d1 := t1.c1; have d2 := t1.c2; have d4 := t1.c4; have e1 := t1.fz 1; have e4 := t1.fz 4
    have HG := Lib.hid (G.out w1 t1 k1)
    clear t1 k1
    go_still_tail 12, (by kernel_rfl)
    go_wp2
    go_end0
    exact ⟨rfl, HG.out⟩
  · have H2 := Lib.hid h2
    have h0 : 0 ≤ (l.length : Int) - hd := by omega
    have hkk : 0 ≤ k := by omega
    clear h2
    go_enter Try.func23, Try.ntmps23
    go_wp2
    go_quiet (fail)
    go_wp2
    obtain ⟨t1, k1⟩ := ST.out nq (hd + (l.length - hd)) (by rw [H2.out]; omega)
    generalize (w.drewN nq).setCell ⟨b, 2, none⟩ (Value.int IntKind.i64 (hd + (l.length - hd))) = w1 at t1 k1 ⊢
    have d1 := t1.c1; have d2 := t1.c2; have d4 := t1.c4; have e1 := t1.fz 1; have e4 := t1.fz 4
    have HG := Lib.hid (G.out w1 t1 k1)
    clear t1 k1
    go_still_tail 12, (by kernel_rfl)
    go_wp2
    go_end0
    exact ⟨rfl, HG.out⟩
end Go.Proofs.Ytghncdoophoieaa
