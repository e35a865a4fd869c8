/-
  Layer 4: one deed, with both tapes: what is held, made room for, fused, falls, rises, and all else. (Made by tools/gentq.py.)
-/
import Derived.Test.YtghncdoophoieaaTq
import Derived.RegionTactic
namespace Go.Proofs.Ytghncdoophoieaa
open Go.RowKit
set_option linter.unusedVariables false

set_option maxHeartbeats 4000000 in
theorem do_bad (w0 w : World) (bt br : Nat) (s : Sx) (h : Two w0 w bt br (fun _ => False) s s) (n : Int) (hn63 : n ≤ 9223372036854775807) (pa : Option Addr) (np pc : Nat) (ls : List (List UInt8)) (hp : PartsIn (fun k => k < w0.heap.size) w0 pa ls) (hn : np = ls.length) (hm : np ≤ maxLen) (what : Int) (hok : ¬ okParts ls) :
    Calls Try.prog 11 #[.pointer (some ⟨bt, 0, none⟩), .pointer (some ⟨br, 0, none⟩), .agg #[.int .i64 what, .int .i64 n, .slice pa np pc]] w fun e w' => e = .returned (.bool true) ∧ Did w0 bt br s what w' := by
  have HOK := Lib.hid hok
  clear hok
  have hb0 := h.bel
  have hp0 := hp.keep hb0
  have hp1 := hp0.keep ((Below.refl _ w).alloc (Nat.le_refl _) (dbox what n pa np pc))
  have J := Lib.hid (joined_any _ pa np pc ls _ hp1 hn hm)
  have H := Lib.hid h; have HP0 := Lib.hid hp0; have HN := Lib.hid hn
  unfold maxLen at hm
  clear hp hp0 hp1 h hn
  go_enter Try.func11, Try.ntmps11
  go_wp2_with fail
  refine J.out.mono ?_
  rintro e w1 ⟨b1, h1⟩
  clear J
  rcases h1 with ⟨hyes, _⟩ | ⟨_, he⟩
  case inl => exact absurd hyes HOK.out
  subst he
  have b01 : Below w.heap.size w w1 := ((Below.refl _ w).alloc (Nat.le_refl _) (dbox what n pa np pc)).trans (b1.mono (by simp))
  have H1 := Lib.hid (H.out.keep b01 (Y := fun _ => False) (fun _ h => h.elim))
  go_wp2
  go_ret
  exact ⟨rfl, s, H1.out, fun _ _ _ h => h⟩
set_option maxHeartbeats 8000000 in
theorem do_other (w0 w : World) (bt br : Nat) (s : Sx) (h : Two w0 w bt br (fun _ => False) s s) (n : Int) (hn63 : n ≤ 9223372036854775807) (pa : Option Addr) (np pc : Nat) (ls : List (List UInt8)) (hp : PartsIn (fun k => k < w0.heap.size) w0 pa ls) (hn : np = ls.length) (hm : np ≤ maxLen) (what : Int) (hok : okParts ls) (hw : what < 0 ∨ 7 < what) :
    Calls Try.prog 11 #[.pointer (some ⟨bt, 0, none⟩), .pointer (some ⟨br, 0, none⟩), .agg #[.int .i64 what, .int .i64 n, .slice pa np pc]] w fun e w' => e = .returned (.bool true) ∧ Did w0 bt br s what w' := by
  have HOK := Lib.hid hok
  clear hok
  have n0 : (what == 0) = false := by rw [beq_eq_false_iff_ne]; omega
  have n1 : (what == 1) = false := by rw [beq_eq_false_iff_ne]; omega
  have n2 : (what == 2) = false := by rw [beq_eq_false_iff_ne]; omega
  have n3 : (what == 3) = false := by rw [beq_eq_false_iff_ne]; omega
  have n4 : (what == 4) = false := by rw [beq_eq_false_iff_ne]; omega
  have n5 : (what == 5) = false := by rw [beq_eq_false_iff_ne]; omega
  have n6 : (what == 6) = false := by rw [beq_eq_false_iff_ne]; omega
  have n7 : (what == 7) = false := by rw [beq_eq_false_iff_ne]; omega
  clear hw
  have hb0 := h.bel
  have hp0 := hp.keep hb0
  have hp1 := hp0.keep ((Below.refl _ w).alloc (Nat.le_refl _) (dbox what n pa np pc))
  have J := Lib.hid (joined_any _ pa np pc ls _ hp1 hn hm)
  have H := Lib.hid h; have HP0 := Lib.hid hp0; have HN := Lib.hid hn
  unfold maxLen at hm
  clear hp hp0 hp1 h hn
  go_enter Try.func11, Try.ntmps11
  go_wp2_with fail
  refine J.out.mono ?_
  rintro e w1 ⟨b1, h1⟩
  clear J
  rcases h1 with ⟨_, va, he, r1, f1⟩ | ⟨hno, _⟩
  case inr => exact absurd HOK.out hno
  subst he
  obtain ⟨a1, c1, hv, hlc, hcm, _, _⟩ := r1.shape
  obtain ⟨all, hall⟩ : ∃ all, ls.flatten = all := ⟨_, rfl⟩
  have htot := okParts_total HOK.out
  unfold total at htot
  rw [hall] at r1 hv hlc htot
  obtain ⟨L, hL⟩ : ∃ L, all.length = L := ⟨_, rfl⟩
  rw [hL] at hv hlc htot
  subst hv
  unfold maxLen at hcm
  have b01 : Below w.heap.size w w1 := ((Below.refl _ w).alloc (Nat.le_refl _) (dbox what n pa np pc)).trans (b1.mono (by simp))
  have hs1 : w.heap.size + 1 ≤ w1.heap.size := by have := b1.size; simpa using this
  have H1 := Lib.hid (H.out.keep b01 (Y := fun k => w.heap.size ≤ k ∧ k < w1.heap.size) (fun k hk => .inr hk))
  have hd0 : w1.heap[w.heap.size]? = some (dbox what n pa np pc) := by rw [b1.block _ (by simp)]; exact heap_alloc_new _ _
  have q0 : w1.cell? ⟨w.heap.size, 0, none⟩ = some (.int .i64 what) := (cell_of_row w1 _ 0 _ _ _ hd0).trans rfl
  have q1 : w1.cell? ⟨w.heap.size, 1, none⟩ = some (.int .i64 n) := (cell_of_row w1 _ 1 _ _ _ hd0).trans rfl
  have q2 : w1.cell? ⟨w.heap.size, 2, none⟩ = some (.slice pa np pc) := (cell_of_row w1 _ 2 _ _ _ hd0).trans rfl
  have hx1 : ∀ g, foot (.slice a1 L c1) = some g → w.heap.size ≤ g ∧ g < w1.heap.size := fun g hg => ⟨by have := f1 g hg; simp at this; omega, r1.lt g hg⟩
  have HD0 := Lib.hid hd0; have R1 := Lib.hid r1; have HX1 := Lib.hid hx1; have HLL := Lib.hid hL; have HALL := Lib.hid hall
  clear hd0 r1 f1 hx1 hL hall b1
  go_wp2
  go_ret
  exact ⟨rfl, s, H1.out.none, fun _ _ _ h => h⟩
set_option maxHeartbeats 8000000 in
theorem do_hold (w0 w : World) (bt br : Nat) (s : Sx) (h : Two w0 w bt br (fun _ => False) s s) (n : Int) (hn63 : n ≤ 9223372036854775807) (pa : Option Addr) (np pc : Nat) (ls : List (List UInt8)) (hp : PartsIn (fun k => k < w0.heap.size) w0 pa ls) (hn : np = ls.length) (hm : np ≤ maxLen) (hok : okParts ls) :
    Calls Try.prog 11 #[.pointer (some ⟨bt, 0, none⟩), .pointer (some ⟨br, 0, none⟩), .agg #[.int .i64 1, .int .i64 n, .slice pa np pc]] w fun e w' => e = .returned (.bool true) ∧ Did w0 bt br s 1 w' := by
  have HOK := Lib.hid hok
  clear hok
  have hb0 := h.bel
  have hp0 := hp.keep hb0
  have hp1 := hp0.keep ((Below.refl _ w).alloc (Nat.le_refl _) (dbox 1 n pa np pc))
  have J := Lib.hid (joined_any _ pa np pc ls _ hp1 hn hm)
  have H := Lib.hid h; have HP0 := Lib.hid hp0; have HN := Lib.hid hn
  unfold maxLen at hm
  clear hp hp0 hp1 h hn
  go_enter Try.func11, Try.ntmps11
  go_wp2_with fail
  refine J.out.mono ?_
  rintro e w1 ⟨b1, h1⟩
  clear J
  rcases h1 with ⟨_, va, he, r1, f1⟩ | ⟨hno, _⟩
  case inr => exact absurd HOK.out hno
  subst he
  obtain ⟨a1, c1, hv, hlc, hcm, _, _⟩ := r1.shape
  obtain ⟨all, hall⟩ : ∃ all, ls.flatten = all := ⟨_, rfl⟩
  have htot := okParts_total HOK.out
  unfold total at htot
  rw [hall] at r1 hv hlc htot
  obtain ⟨L, hL⟩ : ∃ L, all.length = L := ⟨_, rfl⟩
  rw [hL] at hv hlc htot
  subst hv
  unfold maxLen at hcm
  have b01 : Below w.heap.size w w1 := ((Below.refl _ w).alloc (Nat.le_refl _) (dbox 1 n pa np pc)).trans (b1.mono (by simp))
  have hs1 : w.heap.size + 1 ≤ w1.heap.size := by have := b1.size; simpa using this
  have H1 := Lib.hid (H.out.keep b01 (Y := fun k => w.heap.size ≤ k ∧ k < w1.heap.size) (fun k hk => .inr hk))
  have hd0 : w1.heap[w.heap.size]? = some (dbox 1 n pa np pc) := by rw [b1.block _ (by simp)]; exact heap_alloc_new _ _
  have q0 : w1.cell? ⟨w.heap.size, 0, none⟩ = some (.int .i64 1) := (cell_of_row w1 _ 0 _ _ _ hd0).trans rfl
  have q1 : w1.cell? ⟨w.heap.size, 1, none⟩ = some (.int .i64 n) := (cell_of_row w1 _ 1 _ _ _ hd0).trans rfl
  have q2 : w1.cell? ⟨w.heap.size, 2, none⟩ = some (.slice pa np pc) := (cell_of_row w1 _ 2 _ _ _ hd0).trans rfl
  have hx1 : ∀ g, foot (.slice a1 L c1) = some g → w.heap.size ≤ g ∧ g < w1.heap.size := fun g hg => ⟨by have := f1 g hg; simp at this; omega, r1.lt g hg⟩
  have HD0 := Lib.hid hd0; have R1 := Lib.hid r1; have HX1 := Lib.hid hx1; have HLL := Lib.hid hL; have HALL := Lib.hid hall
  clear hd0 r1 f1 hx1 hL hall b1
  go_wp2_with fail
  refine (Two.opT (E := fun e => e = .returned (.int .i64 (errH s))) H1.out (fun v hv _ => tH bt v s _ hv)).mono ?_
  rintro e w2 ⟨rfl, h2, k2⟩
  have H2 := Lib.hid h2
  clear h2 k2
  go_wp2_with fail
  refine (Two.opR (E := fun e => e = .returned (.int .i64 (errH s))) H2.out (fun v hv _ => rH br v s _ hv)).mono ?_
  rintro e w3 ⟨rfl, h3, k3⟩
  have H9 := Lib.hid h3
  clear h3 k3
  go_wp2
  go_ret
  exact ⟨rfl, nextH s, H9.out.none, fun first g2 g3 hi => hi.h⟩
set_option maxHeartbeats 8000000 in
theorem do_room (w0 w : World) (bt br : Nat) (s : Sx) (h : Two w0 w bt br (fun _ => False) s s) (n : Int) (hn63 : n ≤ 9223372036854775807) (pa : Option Addr) (np pc : Nat) (ls : List (List UInt8)) (hp : PartsIn (fun k => k < w0.heap.size) w0 pa ls) (hn : np = ls.length) (hm : np ≤ maxLen) (hok : okParts ls) :
    Calls Try.prog 11 #[.pointer (some ⟨bt, 0, none⟩), .pointer (some ⟨br, 0, none⟩), .agg #[.int .i64 4, .int .i64 n, .slice pa np pc]] w fun e w' => e = .returned (.bool true) ∧ Did w0 bt br s 4 w' := by
  have HOK := Lib.hid hok
  clear hok
  have hb0 := h.bel
  have hp0 := hp.keep hb0
  have hp1 := hp0.keep ((Below.refl _ w).alloc (Nat.le_refl _) (dbox 4 n pa np pc))
  have J := Lib.hid (joined_any _ pa np pc ls _ hp1 hn hm)
  have H := Lib.hid h; have HP0 := Lib.hid hp0; have HN := Lib.hid hn
  unfold maxLen at hm
  clear hp hp0 hp1 h hn
  go_enter Try.func11, Try.ntmps11
  go_wp2_with fail
  refine J.out.mono ?_
  rintro e w1 ⟨b1, h1⟩
  clear J
  rcases h1 with ⟨_, va, he, r1, f1⟩ | ⟨hno, _⟩
  case inr => exact absurd HOK.out hno
  subst he
  obtain ⟨a1, c1, hv, hlc, hcm, _, _⟩ := r1.shape
  obtain ⟨all, hall⟩ : ∃ all, ls.flatten = all := ⟨_, rfl⟩
  have htot := okParts_total HOK.out
  unfold total at htot
  rw [hall] at r1 hv hlc htot
  obtain ⟨L, hL⟩ : ∃ L, all.length = L := ⟨_, rfl⟩
  rw [hL] at hv hlc htot
  subst hv
  unfold maxLen at hcm
  have b01 : Below w.heap.size w w1 := ((Below.refl _ w).alloc (Nat.le_refl _) (dbox 4 n pa np pc)).trans (b1.mono (by simp))
  have hs1 : w.heap.size + 1 ≤ w1.heap.size := by have := b1.size; simpa using this
  have H1 := Lib.hid (H.out.keep b01 (Y := fun k => w.heap.size ≤ k ∧ k < w1.heap.size) (fun k hk => .inr hk))
  have hd0 : w1.heap[w.heap.size]? = some (dbox 4 n pa np pc) := by rw [b1.block _ (by simp)]; exact heap_alloc_new _ _
  have q0 : w1.cell? ⟨w.heap.size, 0, none⟩ = some (.int .i64 4) := (cell_of_row w1 _ 0 _ _ _ hd0).trans rfl
  have q1 : w1.cell? ⟨w.heap.size, 1, none⟩ = some (.int .i64 n) := (cell_of_row w1 _ 1 _ _ _ hd0).trans rfl
  have q2 : w1.cell? ⟨w.heap.size, 2, none⟩ = some (.slice pa np pc) := (cell_of_row w1 _ 2 _ _ _ hd0).trans rfl
  have hx1 : ∀ g, foot (.slice a1 L c1) = some g → w.heap.size ≤ g ∧ g < w1.heap.size := fun g hg => ⟨by have := f1 g hg; simp at this; omega, r1.lt g hg⟩
  have HD0 := Lib.hid hd0; have R1 := Lib.hid r1; have HX1 := Lib.hid hx1; have HLL := Lib.hid hL; have HALL := Lib.hid hall
  clear hd0 r1 f1 hx1 hL hall b1
  go_wp2_with fail
  refine (Two.opT (E := fun e => e = .returned (.tuple #[])) H1.out (fun v hv _ => tR bt v s _ hv n)).mono ?_
  rintro e w2 ⟨rfl, h2, k2⟩
  have hd2 := (k2.block _ (by omega) (fun hx => hx ⟨Nat.le_refl _, by omega⟩)).trans HD0.out
  have q1b : w2.cell? ⟨w.heap.size, 1, none⟩ = some (.int .i64 n) := (cell_of_row w2 _ 1 _ _ _ hd2).trans rfl
  have H2 := Lib.hid h2
  have hs2 := k2.size
  clear h2 k2 hd2
  go_wp2_with fail
  refine (Two.opR (E := fun e => e = .returned (.tuple #[])) H2.out (fun v hv _ => rR br v s _ hv n)).mono ?_
  rintro e w3 ⟨rfl, h3, k3⟩
  have H9 := Lib.hid h3
  clear h3 k3
  go_wp2
  go_ret
  exact ⟨rfl, nextR s n, H9.out.none, fun first g2 g3 hi => hi.r n⟩
set_option maxHeartbeats 8000000 in
theorem do_fuse (w0 w : World) (bt br : Nat) (s : Sx) (h : Two w0 w bt br (fun _ => False) s s) (n : Int) (hn63 : n ≤ 9223372036854775807) (pa : Option Addr) (np pc : Nat) (ls : List (List UInt8)) (hp : PartsIn (fun k => k < w0.heap.size) w0 pa ls) (hn : np = ls.length) (hm : np ≤ maxLen) (hok : okParts ls) :
    Calls Try.prog 11 #[.pointer (some ⟨bt, 0, none⟩), .pointer (some ⟨br, 0, none⟩), .agg #[.int .i64 5, .int .i64 n, .slice pa np pc]] w fun e w' => e = .returned (.bool true) ∧ Did w0 bt br s 5 w' := by
  have HOK := Lib.hid hok
  clear hok
  have hb0 := h.bel
  have hp0 := hp.keep hb0
  have hp1 := hp0.keep ((Below.refl _ w).alloc (Nat.le_refl _) (dbox 5 n pa np pc))
  have J := Lib.hid (joined_any _ pa np pc ls _ hp1 hn hm)
  have H := Lib.hid h; have HP0 := Lib.hid hp0; have HN := Lib.hid hn
  unfold maxLen at hm
  clear hp hp0 hp1 h hn
  go_enter Try.func11, Try.ntmps11
  go_wp2_with fail
  refine J.out.mono ?_
  rintro e w1 ⟨b1, h1⟩
  clear J
  rcases h1 with ⟨_, va, he, r1, f1⟩ | ⟨hno, _⟩
  case inr => exact absurd HOK.out hno
  subst he
  obtain ⟨a1, c1, hv, hlc, hcm, _, _⟩ := r1.shape
  obtain ⟨all, hall⟩ : ∃ all, ls.flatten = all := ⟨_, rfl⟩
  have htot := okParts_total HOK.out
  unfold total at htot
  rw [hall] at r1 hv hlc htot
  obtain ⟨L, hL⟩ : ∃ L, all.length = L := ⟨_, rfl⟩
  rw [hL] at hv hlc htot
  subst hv
  unfold maxLen at hcm
  have b01 : Below w.heap.size w w1 := ((Below.refl _ w).alloc (Nat.le_refl _) (dbox 5 n pa np pc)).trans (b1.mono (by simp))
  have hs1 : w.heap.size + 1 ≤ w1.heap.size := by have := b1.size; simpa using this
  have H1 := Lib.hid (H.out.keep b01 (Y := fun k => w.heap.size ≤ k ∧ k < w1.heap.size) (fun k hk => .inr hk))
  have hd0 : w1.heap[w.heap.size]? = some (dbox 5 n pa np pc) := by rw [b1.block _ (by simp)]; exact heap_alloc_new _ _
  have q0 : w1.cell? ⟨w.heap.size, 0, none⟩ = some (.int .i64 5) := (cell_of_row w1 _ 0 _ _ _ hd0).trans rfl
  have q1 : w1.cell? ⟨w.heap.size, 1, none⟩ = some (.int .i64 n) := (cell_of_row w1 _ 1 _ _ _ hd0).trans rfl
  have q2 : w1.cell? ⟨w.heap.size, 2, none⟩ = some (.slice pa np pc) := (cell_of_row w1 _ 2 _ _ _ hd0).trans rfl
  have hx1 : ∀ g, foot (.slice a1 L c1) = some g → w.heap.size ≤ g ∧ g < w1.heap.size := fun g hg => ⟨by have := f1 g hg; simp at this; omega, r1.lt g hg⟩
  have HD0 := Lib.hid hd0; have R1 := Lib.hid r1; have HX1 := Lib.hid hx1; have HLL := Lib.hid hL; have HALL := Lib.hid hall
  clear hd0 r1 f1 hx1 hL hall b1
  go_wp2_with fail
  refine (Two.opT (E := fun e => e = .returned (.tuple #[])) H1.out (fun v hv _ => tF bt v s _ hv n hn63)).mono ?_
  rintro e w2 ⟨rfl, h2, k2⟩
  have hd2 := (k2.block _ (by omega) (fun hx => hx ⟨Nat.le_refl _, by omega⟩)).trans HD0.out
  have q1b : w2.cell? ⟨w.heap.size, 1, none⟩ = some (.int .i64 n) := (cell_of_row w2 _ 1 _ _ _ hd2).trans rfl
  have H2 := Lib.hid h2
  have hs2 := k2.size
  clear h2 k2 hd2
  go_wp2_with fail
  refine (Two.opR (E := fun e => e = .returned (.tuple #[])) H2.out (fun v hv _ => rF br v s _ hv n hn63)).mono ?_
  rintro e w3 ⟨rfl, h3, k3⟩
  have H9 := Lib.hid h3
  clear h3 k3
  go_wp2
  go_ret
  exact ⟨rfl, nextF s n, H9.out.none, fun first g2 g3 hi => hi.f n⟩
set_option maxHeartbeats 8000000 in
theorem do_fall (w0 w : World) (bt br : Nat) (s : Sx) (h : Two w0 w bt br (fun _ => False) s s) (n : Int) (hn63 : n ≤ 9223372036854775807) (pa : Option Addr) (np pc : Nat) (ls : List (List UInt8)) (hp : PartsIn (fun k => k < w0.heap.size) w0 pa ls) (hn : np = ls.length) (hm : np ≤ maxLen) (hok : okParts ls) :
    Calls Try.prog 11 #[.pointer (some ⟨bt, 0, none⟩), .pointer (some ⟨br, 0, none⟩), .agg #[.int .i64 6, .int .i64 n, .slice pa np pc]] w fun e w' => e = .returned (.bool true) ∧ Did w0 bt br s 6 w' := by
  have HOK := Lib.hid hok
  clear hok
  have hb0 := h.bel
  have hp0 := hp.keep hb0
  have hp1 := hp0.keep ((Below.refl _ w).alloc (Nat.le_refl _) (dbox 6 n pa np pc))
  have J := Lib.hid (joined_any _ pa np pc ls _ hp1 hn hm)
  have H := Lib.hid h; have HP0 := Lib.hid hp0; have HN := Lib.hid hn
  unfold maxLen at hm
  clear hp hp0 hp1 h hn
  go_enter Try.func11, Try.ntmps11
  go_wp2_with fail
  refine J.out.mono ?_
  rintro e w1 ⟨b1, h1⟩
  clear J
  rcases h1 with ⟨_, va, he, r1, f1⟩ | ⟨hno, _⟩
  case inr => exact absurd HOK.out hno
  subst he
  obtain ⟨a1, c1, hv, hlc, hcm, _, _⟩ := r1.shape
  obtain ⟨all, hall⟩ : ∃ all, ls.flatten = all := ⟨_, rfl⟩
  have htot := okParts_total HOK.out
  unfold total at htot
  rw [hall] at r1 hv hlc htot
  obtain ⟨L, hL⟩ : ∃ L, all.length = L := ⟨_, rfl⟩
  rw [hL] at hv hlc htot
  subst hv
  unfold maxLen at hcm
  have b01 : Below w.heap.size w w1 := ((Below.refl _ w).alloc (Nat.le_refl _) (dbox 6 n pa np pc)).trans (b1.mono (by simp))
  have hs1 : w.heap.size + 1 ≤ w1.heap.size := by have := b1.size; simpa using this
  have H1 := Lib.hid (H.out.keep b01 (Y := fun k => w.heap.size ≤ k ∧ k < w1.heap.size) (fun k hk => .inr hk))
  have hd0 : w1.heap[w.heap.size]? = some (dbox 6 n pa np pc) := by rw [b1.block _ (by simp)]; exact heap_alloc_new _ _
  have q0 : w1.cell? ⟨w.heap.size, 0, none⟩ = some (.int .i64 6) := (cell_of_row w1 _ 0 _ _ _ hd0).trans rfl
  have q1 : w1.cell? ⟨w.heap.size, 1, none⟩ = some (.int .i64 n) := (cell_of_row w1 _ 1 _ _ _ hd0).trans rfl
  have q2 : w1.cell? ⟨w.heap.size, 2, none⟩ = some (.slice pa np pc) := (cell_of_row w1 _ 2 _ _ _ hd0).trans rfl
  have hx1 : ∀ g, foot (.slice a1 L c1) = some g → w.heap.size ≤ g ∧ g < w1.heap.size := fun g hg => ⟨by have := f1 g hg; simp at this; omega, r1.lt g hg⟩
  have HD0 := Lib.hid hd0; have R1 := Lib.hid r1; have HX1 := Lib.hid hx1; have HLL := Lib.hid hL; have HALL := Lib.hid hall
  clear hd0 r1 f1 hx1 hL hall b1
  go_wp2_with fail
  refine (Two.opT (E := fun e => e = .returned (.tuple #[])) H1.out (fun v hv _ => tL bt v s _ hv n)).mono ?_
  rintro e w2 ⟨rfl, h2, k2⟩
  have hd2 := (k2.block _ (by omega) (fun hx => hx ⟨Nat.le_refl _, by omega⟩)).trans HD0.out
  have q1b : w2.cell? ⟨w.heap.size, 1, none⟩ = some (.int .i64 n) := (cell_of_row w2 _ 1 _ _ _ hd2).trans rfl
  have H2 := Lib.hid h2
  have hs2 := k2.size
  clear h2 k2 hd2
  go_wp2_with fail
  refine (Two.opR (E := fun e => e = .returned (.tuple #[])) H2.out (fun v hv _ => rL br v s _ hv n)).mono ?_
  rintro e w3 ⟨rfl, h3, k3⟩
  have H9 := Lib.hid h3
  clear h3 k3
  go_wp2
  go_ret
  exact ⟨rfl, nextL s n, H9.out.none, fun first g2 g3 hi => hi.l n⟩
set_option maxHeartbeats 8000000 in
theorem do_rise (w0 w : World) (bt br : Nat) (s : Sx) (h : Two w0 w bt br (fun _ => False) s s) (n : Int) (hn63 : n ≤ 9223372036854775807) (pa : Option Addr) (np pc : Nat) (ls : List (List UInt8)) (hp : PartsIn (fun k => k < w0.heap.size) w0 pa ls) (hn : np = ls.length) (hm : np ≤ maxLen) (hok : okParts ls) :
    Calls Try.prog 11 #[.pointer (some ⟨bt, 0, none⟩), .pointer (some ⟨br, 0, none⟩), .agg #[.int .i64 7, .int .i64 n, .slice pa np pc]] w fun e w' => e = .returned (.bool true) ∧ Did w0 bt br s 7 w' := by
  have HOK := Lib.hid hok
  clear hok
  have hb0 := h.bel
  have hp0 := hp.keep hb0
  have hp1 := hp0.keep ((Below.refl _ w).alloc (Nat.le_refl _) (dbox 7 n pa np pc))
  have J := Lib.hid (joined_any _ pa np pc ls _ hp1 hn hm)
  have H := Lib.hid h; have HP0 := Lib.hid hp0; have HN := Lib.hid hn
  unfold maxLen at hm
  clear hp hp0 hp1 h hn
  go_enter Try.func11, Try.ntmps11
  go_wp2_with fail
  refine J.out.mono ?_
  rintro e w1 ⟨b1, h1⟩
  clear J
  rcases h1 with ⟨_, va, he, r1, f1⟩ | ⟨hno, _⟩
  case inr => exact absurd HOK.out hno
  subst he
  obtain ⟨a1, c1, hv, hlc, hcm, _, _⟩ := r1.shape
  obtain ⟨all, hall⟩ : ∃ all, ls.flatten = all := ⟨_, rfl⟩
  have htot := okParts_total HOK.out
  unfold total at htot
  rw [hall] at r1 hv hlc htot
  obtain ⟨L, hL⟩ : ∃ L, all.length = L := ⟨_, rfl⟩
  rw [hL] at hv hlc htot
  subst hv
  unfold maxLen at hcm
  have b01 : Below w.heap.size w w1 := ((Below.refl _ w).alloc (Nat.le_refl _) (dbox 7 n pa np pc)).trans (b1.mono (by simp))
  have hs1 : w.heap.size + 1 ≤ w1.heap.size := by have := b1.size; simpa using this
  have H1 := Lib.hid (H.out.keep b01 (Y := fun k => w.heap.size ≤ k ∧ k < w1.heap.size) (fun k hk => .inr hk))
  have hd0 : w1.heap[w.heap.size]? = some (dbox 7 n pa np pc) := by rw [b1.block _ (by simp)]; exact heap_alloc_new _ _
  have q0 : w1.cell? ⟨w.heap.size, 0, none⟩ = some (.int .i64 7) := (cell_of_row w1 _ 0 _ _ _ hd0).trans rfl
  have q1 : w1.cell? ⟨w.heap.size, 1, none⟩ = some (.int .i64 n) := (cell_of_row w1 _ 1 _ _ _ hd0).trans rfl
  have q2 : w1.cell? ⟨w.heap.size, 2, none⟩ = some (.slice pa np pc) := (cell_of_row w1 _ 2 _ _ _ hd0).trans rfl
  have hx1 : ∀ g, foot (.slice a1 L c1) = some g → w.heap.size ≤ g ∧ g < w1.heap.size := fun g hg => ⟨by have := f1 g hg; simp at this; omega, r1.lt g hg⟩
  have HD0 := Lib.hid hd0; have R1 := Lib.hid r1; have HX1 := Lib.hid hx1; have HLL := Lib.hid hL; have HALL := Lib.hid hall
  clear hd0 r1 f1 hx1 hL hall b1
  go_wp2_with fail
  refine (Two.opT (E := fun e => e = .returned (.tuple #[])) H1.out (fun v hv _ => tU bt v s _ hv)).mono ?_
  rintro e w2 ⟨rfl, h2, k2⟩
  have H2 := Lib.hid h2
  have hs2 := k2.size
  clear h2 k2
  go_wp2_with fail
  refine (Two.opR (E := fun e => e = .returned (.tuple #[])) H2.out (fun v hv _ => rU br v s _ hv)).mono ?_
  rintro e w3 ⟨rfl, h3, k3⟩
  have H9 := Lib.hid h3
  clear h3 k3
  go_wp2
  go_ret
  exact ⟨rfl, nextU s, H9.out.none, fun first g2 g3 hi => hi.u⟩
end Go.Proofs.Ytghncdoophoieaa
