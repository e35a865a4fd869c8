/-
  The walk of TapeRoom, over the contracts. (Made by tools/genroom.py.)
-/
import Derived.Test.YtghncdoophoieaaTl
import Derived.OwnWalk
namespace Go.Proofs.Ytghncdoophoieaa.tapeRoom
open Go.RowKit
set_option linter.unusedVariables false

/-- A tape with so many bytes, whatever they are. -/
def Zx (w0 w : World) (b r k hd : Nat) : Prop := ∃ l : List UInt8, Lx w0 w b r l hd 0 false ∧ l.length = k
section
variable {w0 w wa : World} {b r k hd : Nat}
theorem Zx.bel (h : Zx w0 w b r k hd) : Below w0.heap.size w0 w := by obtain ⟨l, h, _⟩ := h; exact h.bel
theorem Zx.lt (h : Zx w0 w b r k hd) : b < w.heap.size := by obtain ⟨l, h, _⟩ := h; exact h.lt
theorem Zx.keep {w' : World} (h : Zx w0 w b r k hd) (hb : Below w.heap.size w w') : Zx w0 w' b r k hd := by
  obtain ⟨l, h, hl⟩ := h; exact ⟨l, h.keep hb, hl⟩
/-- A row of zeros, in a new block, and in a slice of its own. -/
def Zeros (wa w : World) (g n : Nat) : Prop := BAt w (some ⟨g, 0, none⟩) (List.replicate n 0) ∧ wa.heap.size ≤ g ∧ Below wa.heap.size wa w ∧ g < w.heap.size
theorem Zeros.parts {g n : Nat} (h : Zeros wa w g n) (hn : n ≤ maxLen) : PartsIn (fun k => wa.heap.size ≤ k ∧ k < (w.alloc (.cells #[.slice (some ⟨g, 0, none⟩) n n] 32)).heap.size) (w.alloc (.cells #[.slice (some ⟨g, 0, none⟩) n n] 32)) (some ⟨w.heap.size, 0, none⟩) [List.replicate n 0] ∧
    Below wa.heap.size wa (w.alloc (.cells #[.slice (some ⟨g, 0, none⟩) n n] 32)) := by
  obtain ⟨h1, h2, h3, h4⟩ := h
  refine ⟨fun _ => ⟨w.heap.size, 0, rfl, ⟨h3.size, by simp⟩, by simp, fun i hi => ?_⟩, h3.alloc h3.size _⟩
  match i, hi with
  | 0, _ =>
    refine ⟨some ⟨g, 0, none⟩, n, ?_, fun hp => ?_, (fun h => by cases h), by simpa using hn⟩
    · rw [cell_of_row _ _ 0 _ _ _ (heap_alloc_new w _)]; simp
    · obtain ⟨sb, so, e1, e2, e3⟩ := h1 hp
      cases e1
      exact ⟨g, 0, rfl, ⟨h2, by simp; omega⟩, by simp; omega, fun i hi => (World.cell?_of_block (a := ⟨g, 0 + i, none⟩) (Below.heap_alloc w _ g h4)).trans (e3 i hi)⟩
theorem zw_ok {g n : Nat} (h : Zx w0 wa b r k hd) (hz : Zeros wa w g n) (hn : n ≤ 300) (hf : k + n ≤ r) :
    Calls Try.prog 17 #[.pointer (some ⟨b, 0, none⟩), .slice (some ⟨w.heap.size, 0, none⟩) 1 1] (w.alloc (.cells #[.slice (some ⟨g, 0, none⟩) n n] 32)) fun e w' => e = .returned (.int .i64 0) ∧ Zx w0 w' b r (k + n) hd := by
  obtain ⟨l, h, hl⟩ := h
  obtain ⟨p1, b1⟩ := hz.parts (by unfold maxLen; omega)
  exact (L_write_new h b1 _ 1 1 _ p1 rfl (by decide) (.inr (by simp [total, hl]; omega))).mono fun e w' ⟨e1, e2⟩ => ⟨e1, _, e2, by simp [hl]⟩
theorem zw_full {g n : Nat} (h : Zx w0 wa b r k hd) (hz : Zeros wa w g n) (hn : n ≤ 300) (hf : r < k + n) (hp : 0 < n) :
    Calls Try.prog 17 #[.pointer (some ⟨b, 0, none⟩), .slice (some ⟨w.heap.size, 0, none⟩) 1 1] (w.alloc (.cells #[.slice (some ⟨g, 0, none⟩) n n] 32)) fun e w' => e = .returned (.int .i64 14) ∧ Zx w0 w' b r k hd := by
  obtain ⟨l, h, hl⟩ := h
  obtain ⟨p1, b1⟩ := hz.parts (by unfold maxLen; omega)
  exact (L_write_full (h.keep b1) _ _ 1 1 _ p1 rfl (by decide) (by unfold fits; simp [total, hl]; omega)).mono fun e w' ⟨e1, e2⟩ => ⟨e1, _, e2, hl⟩
theorem zw_none (h : Zx w0 w b r k hd) :
    Calls Try.prog 17 #[.pointer (some ⟨b, 0, none⟩), .slice none 0 0] w fun e w' => e = .returned (.int .i64 0) ∧ Zx w0 w' b r k hd := by
  obtain ⟨l, h, hl⟩ := h
  have hp : PartsIn (fun k => w.heap.size ≤ k ∧ k < w.heap.size) w none [] := fun h => absurd h (Nat.lt_irrefl 0)
  exact (L_write_new h (Below.refl _ _) none 0 0 [] hp rfl (by decide) (.inl rfl)).mono fun e w' ⟨e1, e2⟩ => ⟨e1, _, e2, by simp [hl]⟩
theorem zs_ok {g n : Nat} (h : Zx w0 wa b r k hd) (hz : Zeros wa w g n) (hf : n ≤ r) :
    Calls Try.prog 26 #[.pointer (some ⟨b, 0, none⟩), .slice (some ⟨g, 0, none⟩) n n] w fun e w' => e = .returned (.int .i64 0) ∧ Zx w0 w' b r n n := by
  obtain ⟨l, h, hl⟩ := h
  obtain ⟨h1, h2, h3, h4⟩ := hz
  exact (L_swap_new h h3 _ n n _ h1 (by simp) (fun h => by cases h) (fun a ha => by cases ha; exact h2) (by simpa using hf)).mono fun e w' ⟨e1, e2⟩ => ⟨e1, _, by rw [if_neg (by decide), if_neg (by decide), List.length_replicate] at e2; exact e2, by simp⟩
theorem zs_full {g n : Nat} (h : Zx w0 wa b r k hd) (hz : Zeros wa w g n) (hn : n ≤ 300) (hf : r < n) :
    Calls Try.prog 26 #[.pointer (some ⟨b, 0, none⟩), .slice (some ⟨g, 0, none⟩) n n] w fun e w' => e = .returned (.int .i64 14) ∧ Zx w0 w' b r k hd := by
  obtain ⟨l, h, hl⟩ := h
  obtain ⟨h1, h2, h3, h4⟩ := hz
  exact (L_swap_full (h.keep h3) _ n n (by unfold maxLen; omega) hf).mono fun e w' ⟨e1, e2⟩ => ⟨e1, _, e2, hl⟩
theorem zb (h : Zx w0 w b r k hd) : Calls Try.prog 12 #[.pointer (some ⟨b, 0, none⟩)] w fun e w' => ∃ a c, e = .returned (.slice a k c) ∧ Zx w0 w' b r k hd := by
  obtain ⟨l, h, hl⟩ := h
  subst hl
  exact (L_bytes h).mono fun e w' ⟨a, c, e1, _, _, e4, _⟩ => ⟨a, c, e1, l, e4, rfl⟩
theorem zh (h : Zx w0 w b r k hd) : Calls Try.prog 14 #[.pointer (some ⟨b, 0, none⟩)] w fun e w' => e = .returned (.int .i64 hd) ∧ w = w' := by
  obtain ⟨l, h, _⟩ := h; exact L_held h
end
/-- What 'make' leaves is a row of zeros. -/
theorem zeros_of {wa w w' : World} {n : Nat} (hb : Below wa.heap.size wa w) (ho : w'.ownsRow wa.heap.size 5 1 (.slice (some ⟨w.heap.size, 0, none⟩) n n) n (madeCells (Value.int .u8 0).cells (n * 1)).toList) (hg : w.grownBy w' none) : Zeros wa w' w.heap.size n := by
  have e : (madeCells (Value.int .u8 0).cells (n * 1)).toList = Lib.byteCells (List.replicate n 0) := by
    simp [madeCells, Value.cells, Lib.byteCells]
    apply List.ext_getElem
    · simp
    · intro i h1 h2; simp [Nat.mod_one]
  rw [e] at ho
  have hn : (List.replicate n (0 : UInt8)).length = n := by simp
  refine ⟨own_bat (cap := n) (by rw [hn]; exact ho), hb.size, hb.grown hg hb.size (fun k hk => by cases hk), own_lt ho⟩
set_option maxHeartbeats 1000000 in
theorem good_any (n left e : Int) (h : (n ≤ left ∧ e = 0) ∨ (left < n ∧ e = 14)) (w : World) :
    Calls Try.prog 25 #[.int .i64 n, .int .i64 left, .int .i64 e] w fun e' w' => e' = .returned (.bool true) ∧ w = w' := by
  rcases h with ⟨h1, rfl⟩ | ⟨h1, rfl⟩
  · have h2 : decide (n ≤ left) = true := decide_eq_true h1
    go_enter Try.func25, Try.ntmps25
    go_wp2
    go_ret
    exact ⟨rfl, rfl⟩
  · have h2 : decide (n ≤ left) = false := decide_eq_false (by omega)
    go_enter Try.func25, Try.ntmps25
    go_wp2
    go_ret
    exact ⟨rfl, rfl⟩
set_option maxHeartbeats 16000000 in
theorem c111 (w : World) (x y z : Int) (R F S : Nat) (u0 u1 u2 : Int) (x0 : IntKind.u64.wrap x = u0) (x1 : IntKind.u64.wrap y = u1) (x2 : IntKind.u64.wrap z = u2) (p0 : 0 ≤ u0) (p1 : 0 ≤ u1) (p2 : 0 ≤ u2)
    (r0 : u0 % 300 = R) (r1 : u1 % 300 = F) (r2 : u2 % 300 = S) (r3 : u0.tmod 300 = R) (r4 : u1.tmod 300 = F) (r5 : u2.tmod 300 = S) (l0 : R < 300) (l1 : F < 300) (l2 : S < 300) (hA : F ≤ R) (hB : F + S ≤ R) (hC : S ≤ R) :
    Calls Try.prog 6 #[.int .i64 x, .int .i64 y, .int .i64 z] w fun e w' => e = .returned (.bool true) ∧ Below w.heap.size w w' := by
  obtain ⟨i0, hi0, hz0, hz1, hz2⟩ := info_parts info_u8
  have iA : (F : Int) ≤ R := by omega
  have iB : (S : Int) ≤ (R : Int) - F := by omega
  have iC : (S : Int) ≤ R := by omega
  go_enter Try.func6, Try.ntmps6
  go_wp2_with fail
  clear x0 x1 x2 p0 p1 p2 r0 r1 r2 r3 r4 r5
  refine (L_new R w).mono ?_
  rintro e w1 ⟨rfl, h1⟩
  have H1 := Lib.hid (show Zx w w1 w.heap.size R 0 0 from ⟨[], by rw [show clamp (R : Int) = R by unfold clamp; omega] at h1; exact h1, rfl⟩)
  clear h1
  go_wp2_with fail
  refine (tape_awake _).mono ?_
  rintro e w2 ⟨rfl, b2⟩
  have H2 := Lib.hid (H1.out.keep b2)
  have s2 := H2.out.bel.size
  clear H1 b2
  go_wp2_with (first
    | (at_make; refine wpList_make_full _ rfl (.tmp 35) (.tmp 35) 32 rfl _ 5 i0 (.int .u8 0) 1 Try.underlying32 hi0 hz0 hz1 _ _ _ _ F rfl rfl rfl rfl (by rw [hz2]; omega) (by unfold maxLen; omega) (Nat.le_refl _) ?_; intro wz3 ho3 hg3)
    | fail)
  have Z3 := Lib.hid (zeros_of (wa := w2) (Below.refl _ _) ho3 hg3)
  clear ho3 hg3
  go_wp2_with fail
  refine (zw_ok H2.out Z3.out (by omega) (by omega)).mono ?_
  rintro e w4 ⟨rfl, h4⟩
  have H4 := Lib.hid (show Zx w w4 w.heap.size R F 0 from by simpa using h4)
  clear h4 Z3
  go_wp2_with (first
    | (at_make; refine wpList_make_full _ rfl (.tmp 44) (.tmp 44) 32 rfl _ 5 i0 (.int .u8 0) 1 Try.underlying32 hi0 hz0 hz1 _ _ _ _ S rfl rfl rfl rfl (by rw [hz2]; omega) (by unfold maxLen; omega) (Nat.le_refl _) ?_; intro wz5 ho5 hg5)
    | fail)
  have Z5 := Lib.hid (zeros_of (wa := w4) (Below.refl _ _) ho5 hg5)
  clear ho5 hg5
  go_wp2_with fail
  refine (zw_ok H4.out Z5.out (by omega) (by omega)).mono ?_
  rintro e w6 ⟨rfl, h6⟩
  obtain ⟨T, hT⟩ : ∃ T : Nat, F + S = T := ⟨_, rfl⟩
  rw [hT] at h6
  have hTi : ((F : Int) + S) = T := by omega
  have H6 := Lib.hid h6
  clear h6 Z5 hT
  go_wp2_with (first
    | (go_at_call 25; refine (good_any _ _ _ (by omega) _).mono ?_; rintro e w' ⟨rfl, rfl⟩)
    | fail)
  refine (zb H6.out).mono ?_
  rintro e w7 ⟨a7, c7, rfl, h7⟩
  have H7 := Lib.hid h7
  clear h7
  go_wp2_with fail
  refine (zw_none H7.out).mono ?_
  rintro e w8 ⟨rfl, h8⟩
  have H8 := Lib.hid h8
  clear h8
  go_wp2_with (first
    | (at_make; refine wpList_make_full _ rfl (.tmp 86) (.tmp 86) 32 rfl _ 5 i0 (.int .u8 0) 1 Try.underlying32 hi0 hz0 hz1 _ _ _ _ S rfl rfl rfl rfl (by rw [hz2]; omega) (by unfold maxLen; omega) (Nat.le_refl _) ?_; intro wz9 ho9 hg9)
    | fail)
  have Z9 := Lib.hid (zeros_of (wa := w8) (Below.refl _ _) ho9 hg9)
  clear ho9 hg9
  go_wp2_with fail
  refine (zs_ok H8.out Z9.out (by omega)).mono ?_
  rintro e w10 ⟨rfl, h10⟩
  have H10 := Lib.hid h10
  clear h10 Z9
  go_wp2_with (first
    | (go_at_call 25; refine (good_any _ _ _ (by omega) _).mono ?_; rintro e w' ⟨rfl, rfl⟩)
    | fail)
  refine (zb H10.out).mono ?_
  rintro e w11 ⟨a11, c11, rfl, h11⟩
  have H11 := Lib.hid h11
  clear h11
  go_wp2_with (first
    | (go_at_call 14; refine (zh H11.out).mono ?_; rintro e w' ⟨rfl, rfl⟩)
    | fail)
  go_ret
  exact ⟨rfl, H11.out.bel⟩
set_option maxHeartbeats 16000000 in
theorem c101 (w : World) (x y z : Int) (R F S : Nat) (u0 u1 u2 : Int) (x0 : IntKind.u64.wrap x = u0) (x1 : IntKind.u64.wrap y = u1) (x2 : IntKind.u64.wrap z = u2) (p0 : 0 ≤ u0) (p1 : 0 ≤ u1) (p2 : 0 ≤ u2)
    (r0 : u0 % 300 = R) (r1 : u1 % 300 = F) (r2 : u2 % 300 = S) (r3 : u0.tmod 300 = R) (r4 : u1.tmod 300 = F) (r5 : u2.tmod 300 = S) (l0 : R < 300) (l1 : F < 300) (l2 : S < 300) (hA : F ≤ R) (hB : R < F + S) (hC : S ≤ R) :
    Calls Try.prog 6 #[.int .i64 x, .int .i64 y, .int .i64 z] w fun e w' => e = .returned (.bool true) ∧ Below w.heap.size w w' := by
  obtain ⟨i0, hi0, hz0, hz1, hz2⟩ := info_parts info_u8
  have iA : (F : Int) ≤ R := by omega
  have iB : (R : Int) - F < S := by omega
  have iC : (S : Int) ≤ R := by omega
  go_enter Try.func6, Try.ntmps6
  go_wp2_with fail
  clear x0 x1 x2 p0 p1 p2 r0 r1 r2 r3 r4 r5
  refine (L_new R w).mono ?_
  rintro e w1 ⟨rfl, h1⟩
  have H1 := Lib.hid (show Zx w w1 w.heap.size R 0 0 from ⟨[], by rw [show clamp (R : Int) = R by unfold clamp; omega] at h1; exact h1, rfl⟩)
  clear h1
  go_wp2_with fail
  refine (tape_awake _).mono ?_
  rintro e w2 ⟨rfl, b2⟩
  have H2 := Lib.hid (H1.out.keep b2)
  have s2 := H2.out.bel.size
  clear H1 b2
  go_wp2_with (first
    | (at_make; refine wpList_make_full _ rfl (.tmp 35) (.tmp 35) 32 rfl _ 5 i0 (.int .u8 0) 1 Try.underlying32 hi0 hz0 hz1 _ _ _ _ F rfl rfl rfl rfl (by rw [hz2]; omega) (by unfold maxLen; omega) (Nat.le_refl _) ?_; intro wz3 ho3 hg3)
    | fail)
  have Z3 := Lib.hid (zeros_of (wa := w2) (Below.refl _ _) ho3 hg3)
  clear ho3 hg3
  go_wp2_with fail
  refine (zw_ok H2.out Z3.out (by omega) (by omega)).mono ?_
  rintro e w4 ⟨rfl, h4⟩
  have H4 := Lib.hid (show Zx w w4 w.heap.size R F 0 from by simpa using h4)
  clear h4 Z3
  go_wp2_with (first
    | (at_make; refine wpList_make_full _ rfl (.tmp 44) (.tmp 44) 32 rfl _ 5 i0 (.int .u8 0) 1 Try.underlying32 hi0 hz0 hz1 _ _ _ _ S rfl rfl rfl rfl (by rw [hz2]; omega) (by unfold maxLen; omega) (Nat.le_refl _) ?_; intro wz5 ho5 hg5)
    | fail)
  have Z5 := Lib.hid (zeros_of (wa := w4) (Below.refl _ _) ho5 hg5)
  clear ho5 hg5
  go_wp2_with fail
  refine (zw_full H4.out Z5.out (by omega) (by omega) (by omega)).mono ?_
  rintro e w6 ⟨rfl, h6⟩
  obtain ⟨T, hT⟩ : ∃ T : Nat, F = T := ⟨_, rfl⟩
  rw [hT] at h6
  have hTi : ((F : Int)) = T := by omega
  have H6 := Lib.hid h6
  clear h6 Z5 hT
  go_wp2_with (first
    | (go_at_call 25; refine (good_any _ _ _ (by omega) _).mono ?_; rintro e w' ⟨rfl, rfl⟩)
    | fail)
  refine (zb H6.out).mono ?_
  rintro e w7 ⟨a7, c7, rfl, h7⟩
  have H7 := Lib.hid h7
  clear h7
  go_wp2_with fail
  refine (zw_none H7.out).mono ?_
  rintro e w8 ⟨rfl, h8⟩
  have H8 := Lib.hid h8
  clear h8
  go_wp2_with (first
    | (at_make; refine wpList_make_full _ rfl (.tmp 86) (.tmp 86) 32 rfl _ 5 i0 (.int .u8 0) 1 Try.underlying32 hi0 hz0 hz1 _ _ _ _ S rfl rfl rfl rfl (by rw [hz2]; omega) (by unfold maxLen; omega) (Nat.le_refl _) ?_; intro wz9 ho9 hg9)
    | fail)
  have Z9 := Lib.hid (zeros_of (wa := w8) (Below.refl _ _) ho9 hg9)
  clear ho9 hg9
  go_wp2_with fail
  refine (zs_ok H8.out Z9.out (by omega)).mono ?_
  rintro e w10 ⟨rfl, h10⟩
  have H10 := Lib.hid h10
  clear h10 Z9
  go_wp2_with (first
    | (go_at_call 25; refine (good_any _ _ _ (by omega) _).mono ?_; rintro e w' ⟨rfl, rfl⟩)
    | fail)
  refine (zb H10.out).mono ?_
  rintro e w11 ⟨a11, c11, rfl, h11⟩
  have H11 := Lib.hid h11
  clear h11
  go_wp2_with (first
    | (go_at_call 14; refine (zh H11.out).mono ?_; rintro e w' ⟨rfl, rfl⟩)
    | fail)
  go_ret
  exact ⟨rfl, H11.out.bel⟩
set_option maxHeartbeats 16000000 in
theorem c100 (w : World) (x y z : Int) (R F S : Nat) (u0 u1 u2 : Int) (x0 : IntKind.u64.wrap x = u0) (x1 : IntKind.u64.wrap y = u1) (x2 : IntKind.u64.wrap z = u2) (p0 : 0 ≤ u0) (p1 : 0 ≤ u1) (p2 : 0 ≤ u2)
    (r0 : u0 % 300 = R) (r1 : u1 % 300 = F) (r2 : u2 % 300 = S) (r3 : u0.tmod 300 = R) (r4 : u1.tmod 300 = F) (r5 : u2.tmod 300 = S) (l0 : R < 300) (l1 : F < 300) (l2 : S < 300) (hA : F ≤ R) (hB : R < F + S) (hC : R < S) :
    Calls Try.prog 6 #[.int .i64 x, .int .i64 y, .int .i64 z] w fun e w' => e = .returned (.bool true) ∧ Below w.heap.size w w' := by
  obtain ⟨i0, hi0, hz0, hz1, hz2⟩ := info_parts info_u8
  have iA : (F : Int) ≤ R := by omega
  have iB : (R : Int) - F < S := by omega
  have iC : (R : Int) < S := by omega
  go_enter Try.func6, Try.ntmps6
  go_wp2_with fail
  clear x0 x1 x2 p0 p1 p2 r0 r1 r2 r3 r4 r5
  refine (L_new R w).mono ?_
  rintro e w1 ⟨rfl, h1⟩
  have H1 := Lib.hid (show Zx w w1 w.heap.size R 0 0 from ⟨[], by rw [show clamp (R : Int) = R by unfold clamp; omega] at h1; exact h1, rfl⟩)
  clear h1
  go_wp2_with fail
  refine (tape_awake _).mono ?_
  rintro e w2 ⟨rfl, b2⟩
  have H2 := Lib.hid (H1.out.keep b2)
  have s2 := H2.out.bel.size
  clear H1 b2
  go_wp2_with (first
    | (at_make; refine wpList_make_full _ rfl (.tmp 35) (.tmp 35) 32 rfl _ 5 i0 (.int .u8 0) 1 Try.underlying32 hi0 hz0 hz1 _ _ _ _ F rfl rfl rfl rfl (by rw [hz2]; omega) (by unfold maxLen; omega) (Nat.le_refl _) ?_; intro wz3 ho3 hg3)
    | fail)
  have Z3 := Lib.hid (zeros_of (wa := w2) (Below.refl _ _) ho3 hg3)
  clear ho3 hg3
  go_wp2_with fail
  refine (zw_ok H2.out Z3.out (by omega) (by omega)).mono ?_
  rintro e w4 ⟨rfl, h4⟩
  have H4 := Lib.hid (show Zx w w4 w.heap.size R F 0 from by simpa using h4)
  clear h4 Z3
  go_wp2_with (first
    | (at_make; refine wpList_make_full _ rfl (.tmp 44) (.tmp 44) 32 rfl _ 5 i0 (.int .u8 0) 1 Try.underlying32 hi0 hz0 hz1 _ _ _ _ S rfl rfl rfl rfl (by rw [hz2]; omega) (by unfold maxLen; omega) (Nat.le_refl _) ?_; intro wz5 ho5 hg5)
    | fail)
  have Z5 := Lib.hid (zeros_of (wa := w4) (Below.refl _ _) ho5 hg5)
  clear ho5 hg5
  go_wp2_with fail
  refine (zw_full H4.out Z5.out (by omega) (by omega) (by omega)).mono ?_
  rintro e w6 ⟨rfl, h6⟩
  obtain ⟨T, hT⟩ : ∃ T : Nat, F = T := ⟨_, rfl⟩
  rw [hT] at h6
  have hTi : ((F : Int)) = T := by omega
  have H6 := Lib.hid h6
  clear h6 Z5 hT
  go_wp2_with (first
    | (go_at_call 25; refine (good_any _ _ _ (by omega) _).mono ?_; rintro e w' ⟨rfl, rfl⟩)
    | fail)
  refine (zb H6.out).mono ?_
  rintro e w7 ⟨a7, c7, rfl, h7⟩
  have H7 := Lib.hid h7
  clear h7
  go_wp2_with fail
  refine (zw_none H7.out).mono ?_
  rintro e w8 ⟨rfl, h8⟩
  have H8 := Lib.hid h8
  clear h8
  go_wp2_with (first
    | (at_make; refine wpList_make_full _ rfl (.tmp 86) (.tmp 86) 32 rfl _ 5 i0 (.int .u8 0) 1 Try.underlying32 hi0 hz0 hz1 _ _ _ _ S rfl rfl rfl rfl (by rw [hz2]; omega) (by unfold maxLen; omega) (Nat.le_refl _) ?_; intro wz9 ho9 hg9)
    | fail)
  have Z9 := Lib.hid (zeros_of (wa := w8) (Below.refl _ _) ho9 hg9)
  clear ho9 hg9
  go_wp2_with fail
  refine (zs_full H8.out Z9.out (by omega) (by omega)).mono ?_
  rintro e w10 ⟨rfl, h10⟩
  have H10 := Lib.hid h10
  clear h10 Z9
  go_wp2_with (first
    | (go_at_call 25; refine (good_any _ _ _ (by omega) _).mono ?_; rintro e w' ⟨rfl, rfl⟩)
    | fail)
  refine (zb H10.out).mono ?_
  rintro e w11 ⟨a11, c11, rfl, h11⟩
  have H11 := Lib.hid h11
  clear h11
  go_wp2_with (first
    | (go_at_call 14; refine (zh H11.out).mono ?_; rintro e w' ⟨rfl, rfl⟩)
    | fail)
  go_ret
  exact ⟨rfl, H11.out.bel⟩
set_option maxHeartbeats 16000000 in
theorem c011 (w : World) (x y z : Int) (R F S : Nat) (u0 u1 u2 : Int) (x0 : IntKind.u64.wrap x = u0) (x1 : IntKind.u64.wrap y = u1) (x2 : IntKind.u64.wrap z = u2) (p0 : 0 ≤ u0) (p1 : 0 ≤ u1) (p2 : 0 ≤ u2)
    (r0 : u0 % 300 = R) (r1 : u1 % 300 = F) (r2 : u2 % 300 = S) (r3 : u0.tmod 300 = R) (r4 : u1.tmod 300 = F) (r5 : u2.tmod 300 = S) (l0 : R < 300) (l1 : F < 300) (l2 : S < 300) (hA : R < F) (hB : 0 + S ≤ R) (hC : S ≤ R) :
    Calls Try.prog 6 #[.int .i64 x, .int .i64 y, .int .i64 z] w fun e w' => e = .returned (.bool true) ∧ Below w.heap.size w w' := by
  obtain ⟨i0, hi0, hz0, hz1, hz2⟩ := info_parts info_u8
  have iA : (R : Int) < F := by omega
  have iB : (S : Int) ≤ (R : Int) - 0 := by omega
  have iC : (S : Int) ≤ R := by omega
  go_enter Try.func6, Try.ntmps6
  go_wp2_with fail
  clear x0 x1 x2 p0 p1 p2 r0 r1 r2 r3 r4 r5
  refine (L_new R w).mono ?_
  rintro e w1 ⟨rfl, h1⟩
  have H1 := Lib.hid (show Zx w w1 w.heap.size R 0 0 from ⟨[], by rw [show clamp (R : Int) = R by unfold clamp; omega] at h1; exact h1, rfl⟩)
  clear h1
  go_wp2_with fail
  refine (tape_awake _).mono ?_
  rintro e w2 ⟨rfl, b2⟩
  have H2 := Lib.hid (H1.out.keep b2)
  have s2 := H2.out.bel.size
  clear H1 b2
  go_wp2_with (first
    | (at_make; refine wpList_make_full _ rfl (.tmp 35) (.tmp 35) 32 rfl _ 5 i0 (.int .u8 0) 1 Try.underlying32 hi0 hz0 hz1 _ _ _ _ F rfl rfl rfl rfl (by rw [hz2]; omega) (by unfold maxLen; omega) (Nat.le_refl _) ?_; intro wz3 ho3 hg3)
    | fail)
  have Z3 := Lib.hid (zeros_of (wa := w2) (Below.refl _ _) ho3 hg3)
  clear ho3 hg3
  go_wp2_with fail
  refine (zw_full H2.out Z3.out (by omega) (by omega) (by omega)).mono ?_
  rintro e w4 ⟨rfl, h4⟩
  have H4 := Lib.hid (show Zx w w4 w.heap.size R 0 0 from h4)
  clear h4 Z3
  go_wp2_with (first
    | (at_make; refine wpList_make_full _ rfl (.tmp 44) (.tmp 44) 32 rfl _ 5 i0 (.int .u8 0) 1 Try.underlying32 hi0 hz0 hz1 _ _ _ _ S rfl rfl rfl rfl (by rw [hz2]; omega) (by unfold maxLen; omega) (Nat.le_refl _) ?_; intro wz5 ho5 hg5)
    | fail)
  have Z5 := Lib.hid (zeros_of (wa := w4) (Below.refl _ _) ho5 hg5)
  clear ho5 hg5
  go_wp2_with fail
  refine (zw_ok H4.out Z5.out (by omega) (by omega)).mono ?_
  rintro e w6 ⟨rfl, h6⟩
  obtain ⟨T, hT⟩ : ∃ T : Nat, 0 + S = T := ⟨_, rfl⟩
  rw [hT] at h6
  have hTi : ((0 : Int) + S) = T := by omega
  have H6 := Lib.hid h6
  clear h6 Z5 hT
  go_wp2_with (first
    | (go_at_call 25; refine (good_any _ _ _ (by omega) _).mono ?_; rintro e w' ⟨rfl, rfl⟩)
    | fail)
  refine (zb H6.out).mono ?_
  rintro e w7 ⟨a7, c7, rfl, h7⟩
  have H7 := Lib.hid h7
  clear h7
  go_wp2_with fail
  refine (zw_none H7.out).mono ?_
  rintro e w8 ⟨rfl, h8⟩
  have H8 := Lib.hid h8
  clear h8
  go_wp2_with (first
    | (at_make; refine wpList_make_full _ rfl (.tmp 86) (.tmp 86) 32 rfl _ 5 i0 (.int .u8 0) 1 Try.underlying32 hi0 hz0 hz1 _ _ _ _ S rfl rfl rfl rfl (by rw [hz2]; omega) (by unfold maxLen; omega) (Nat.le_refl _) ?_; intro wz9 ho9 hg9)
    | fail)
  have Z9 := Lib.hid (zeros_of (wa := w8) (Below.refl _ _) ho9 hg9)
  clear ho9 hg9
  go_wp2_with fail
  refine (zs_ok H8.out Z9.out (by omega)).mono ?_
  rintro e w10 ⟨rfl, h10⟩
  have H10 := Lib.hid h10
  clear h10 Z9
  go_wp2_with (first
    | (go_at_call 25; refine (good_any _ _ _ (by omega) _).mono ?_; rintro e w' ⟨rfl, rfl⟩)
    | fail)
  refine (zb H10.out).mono ?_
  rintro e w11 ⟨a11, c11, rfl, h11⟩
  have H11 := Lib.hid h11
  clear h11
  go_wp2_with (first
    | (go_at_call 14; refine (zh H11.out).mono ?_; rintro e w' ⟨rfl, rfl⟩)
    | fail)
  go_ret
  exact ⟨rfl, H11.out.bel⟩
set_option maxHeartbeats 16000000 in
theorem c000 (w : World) (x y z : Int) (R F S : Nat) (u0 u1 u2 : Int) (x0 : IntKind.u64.wrap x = u0) (x1 : IntKind.u64.wrap y = u1) (x2 : IntKind.u64.wrap z = u2) (p0 : 0 ≤ u0) (p1 : 0 ≤ u1) (p2 : 0 ≤ u2)
    (r0 : u0 % 300 = R) (r1 : u1 % 300 = F) (r2 : u2 % 300 = S) (r3 : u0.tmod 300 = R) (r4 : u1.tmod 300 = F) (r5 : u2.tmod 300 = S) (l0 : R < 300) (l1 : F < 300) (l2 : S < 300) (hA : R < F) (hB : R < 0 + S) (hC : R < S) :
    Calls Try.prog 6 #[.int .i64 x, .int .i64 y, .int .i64 z] w fun e w' => e = .returned (.bool true) ∧ Below w.heap.size w w' := by
  obtain ⟨i0, hi0, hz0, hz1, hz2⟩ := info_parts info_u8
  have iA : (R : Int) < F := by omega
  have iB : (R : Int) - 0 < S := by omega
  have iC : (R : Int) < S := by omega
  go_enter Try.func6, Try.ntmps6
  go_wp2_with fail
  clear x0 x1 x2 p0 p1 p2 r0 r1 r2 r3 r4 r5
  refine (L_new R w).mono ?_
  rintro e w1 ⟨rfl, h1⟩
  have H1 := Lib.hid (show Zx w w1 w.heap.size R 0 0 from ⟨[], by rw [show clamp (R : Int) = R by unfold clamp; omega] at h1; exact h1, rfl⟩)
  clear h1
  go_wp2_with fail
  refine (tape_awake _).mono ?_
  rintro e w2 ⟨rfl, b2⟩
  have H2 := Lib.hid (H1.out.keep b2)
  have s2 := H2.out.bel.size
  clear H1 b2
  go_wp2_with (first
    | (at_make; refine wpList_make_full _ rfl (.tmp 35) (.tmp 35) 32 rfl _ 5 i0 (.int .u8 0) 1 Try.underlying32 hi0 hz0 hz1 _ _ _ _ F rfl rfl rfl rfl (by rw [hz2]; omega) (by unfold maxLen; omega) (Nat.le_refl _) ?_; intro wz3 ho3 hg3)
    | fail)
  have Z3 := Lib.hid (zeros_of (wa := w2) (Below.refl _ _) ho3 hg3)
  clear ho3 hg3
  go_wp2_with fail
  refine (zw_full H2.out Z3.out (by omega) (by omega) (by omega)).mono ?_
  rintro e w4 ⟨rfl, h4⟩
  have H4 := Lib.hid (show Zx w w4 w.heap.size R 0 0 from h4)
  clear h4 Z3
  go_wp2_with (first
    | (at_make; refine wpList_make_full _ rfl (.tmp 44) (.tmp 44) 32 rfl _ 5 i0 (.int .u8 0) 1 Try.underlying32 hi0 hz0 hz1 _ _ _ _ S rfl rfl rfl rfl (by rw [hz2]; omega) (by unfold maxLen; omega) (Nat.le_refl _) ?_; intro wz5 ho5 hg5)
    | fail)
  have Z5 := Lib.hid (zeros_of (wa := w4) (Below.refl _ _) ho5 hg5)
  clear ho5 hg5
  go_wp2_with fail
  refine (zw_full H4.out Z5.out (by omega) (by omega) (by omega)).mono ?_
  rintro e w6 ⟨rfl, h6⟩
  have H6 := Lib.hid h6
  clear h6 Z5
  go_wp2_with (first
    | (go_at_call 25; refine (good_any _ _ _ (by omega) _).mono ?_; rintro e w' ⟨rfl, rfl⟩)
    | fail)
  refine (zb H6.out).mono ?_
  rintro e w7 ⟨a7, c7, rfl, h7⟩
  have H7 := Lib.hid h7
  clear h7
  go_wp2_with fail
  refine (zw_none H7.out).mono ?_
  rintro e w8 ⟨rfl, h8⟩
  have H8 := Lib.hid h8
  clear h8
  go_wp2_with (first
    | (at_make; refine wpList_make_full _ rfl (.tmp 86) (.tmp 86) 32 rfl _ 5 i0 (.int .u8 0) 1 Try.underlying32 hi0 hz0 hz1 _ _ _ _ S rfl rfl rfl rfl (by rw [hz2]; omega) (by unfold maxLen; omega) (Nat.le_refl _) ?_; intro wz9 ho9 hg9)
    | fail)
  have Z9 := Lib.hid (zeros_of (wa := w8) (Below.refl _ _) ho9 hg9)
  clear ho9 hg9
  go_wp2_with fail
  refine (zs_full H8.out Z9.out (by omega) (by omega)).mono ?_
  rintro e w10 ⟨rfl, h10⟩
  have H10 := Lib.hid h10
  clear h10 Z9
  go_wp2_with (first
    | (go_at_call 25; refine (good_any _ _ _ (by omega) _).mono ?_; rintro e w' ⟨rfl, rfl⟩)
    | fail)
  refine (zb H10.out).mono ?_
  rintro e w11 ⟨a11, c11, rfl, h11⟩
  have H11 := Lib.hid h11
  clear h11
  go_wp2_with (first
    | (go_at_call 14; refine (zh H11.out).mono ?_; rintro e w' ⟨rfl, rfl⟩)
    | fail)
  go_ret
  exact ⟨rfl, H11.out.bel⟩
theorem walk (w : World) (x : Int) (x0 : -9223372036854775808 ≤ x) (x1 : x ≤ 9223372036854775807) (y : Int) (y0 : -9223372036854775808 ≤ y) (y1 : y ≤ 9223372036854775807) (z : Int) (z0 : -9223372036854775808 ≤ z) (z1 : z ≤ 9223372036854775807) :
    Calls Try.prog 6 #[.int .i64 x, .int .i64 y, .int .i64 z] w fun e w' => e = .returned (.bool true) ∧ Below w.heap.size w w' := by
  have red : ∀ x : Int, ∃ (u : Int) (R : Nat), IntKind.u64.wrap x = u ∧ 0 ≤ u ∧ u % 300 = R ∧ u.tmod 300 = R ∧ R < 300 := fun x => by
    have h0 : 0 ≤ IntKind.u64.wrap x := by rw [IntKind.wrap_u64]; omega
    refine ⟨_, (IntKind.u64.wrap x % 300).toNat, rfl, h0, by omega, ?_, by omega⟩
    rw [IntWalk.rem_in _ _ h0]; omega
  obtain ⟨u0, R, a0, a1, a2, a3, a4⟩ := red x
  obtain ⟨u1, F, b0, b1, b2, b3, b4⟩ := red y
  obtain ⟨u2, S, c0, c1, c2, c3, c4⟩ := red z
  by_cases hA : F ≤ R
  · by_cases hB : F + S ≤ R
    · exact c111 w x y z R F S u0 u1 u2 a0 b0 c0 a1 b1 c1 a2 b2 c2 a3 b3 c3 a4 b4 c4 hA hB (by omega)
    · by_cases hC : S ≤ R
      · exact c101 w x y z R F S u0 u1 u2 a0 b0 c0 a1 b1 c1 a2 b2 c2 a3 b3 c3 a4 b4 c4 hA (by omega) hC
      · exact c100 w x y z R F S u0 u1 u2 a0 b0 c0 a1 b1 c1 a2 b2 c2 a3 b3 c3 a4 b4 c4 hA (by omega) (by omega)
  · by_cases hC : S ≤ R
    · exact c011 w x y z R F S u0 u1 u2 a0 b0 c0 a1 b1 c1 a2 b2 c2 a3 b3 c3 a4 b4 c4 (by omega) (by omega) hC
    · exact c000 w x y z R F S u0 u1 u2 a0 b0 c0 a1 b1 c1 a2 b2 c2 a3 b3 c3 a4 b4 c4 (by omega) (by omega) (by omega)
end Go.Proofs.Ytghncdoophoieaa.tapeRoom
