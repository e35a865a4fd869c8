/-
  The walk of TapeFuse, over the contracts.
-/
import Derived.Test.YtghncdoophoieaaTl
namespace Go.Proofs.Ytghncdoophoieaa.tapeFuse
open Go.RowKit
set_option linter.unusedVariables false

/-- Where the tape stands behind k rounds; the fuse names operation m + 1. -/
def Up (w0 w : World) (b m k : Nat) : Prop := ∃ l : List UInt8, Lx w0 w b 1000 l k ((m : Int) + 1 - 2 * k) false ∧ l.length = k
def Dn (w0 w : World) (b m : Nat) : Prop := ∃ l : List UInt8, Lx w0 w b 1000 l (m / 2) 0 true ∧ l.length = m / 2 + 1
def St (w0 w : World) (b m k : Nat) (done : Value) : Prop :=
  (2 * k < m + 1 ∧ Up w0 w b m k ∧ done = .int .i64 k) ∨ (m + 1 ≤ 2 * k ∧ Dn w0 w b m ∧ done = .int .i64 (m / 2 : Nat))
theorem Up.bel {w0 w : World} {b m k : Nat} (h : Up w0 w b m k) : Below w0.heap.size w0 w := by obtain ⟨l, h, _⟩ := h; exact h.bel
theorem Dn.bel {w0 w : World} {b m : Nat} (h : Dn w0 w b m) : Below w0.heap.size w0 w := by obtain ⟨l, h, _⟩ := h; exact h.bel
section
variable {w0 w : World} {b m k : Nat}
/-- The write of a round: it goes, or it is the one that burns. -/
theorem w_up (h : Up w0 w b m k) (hk : k < 12) (h2 : 2 * k < m) :
    Calls Try.prog 17 #[.pointer (some ⟨b, 0, none⟩), .slice (some ⟨w.heap.size + 1, 0, none⟩) 1 1] ((w.alloc (.cells #[.int .u8 k] 5)).alloc (.cells #[.slice (some ⟨w.heap.size, 0, none⟩) 1 1] 32)) fun e w' =>
      e = .returned (.int .i64 0) ∧ ∃ l : List UInt8, Lx w0 w' b 1000 l k ((m : Int) - 2 * k) false ∧ l.length = k + 1 := by
  obtain ⟨l, h, hl⟩ := h
  obtain ⟨b1, p1⟩ := one_byte w k (by omega) (by omega)
  have hf : burns ((m : Int) + 1 - 2 * k) = false := by unfold burns; rw [beq_eq_false_iff_ne]; omega
  have hb : burnt ((m : Int) + 1 - 2 * k) = (m : Int) - 2 * k := by unfold burnt; rw [if_neg (by omega)]; omega
  have C := L_write_new h b1 _ 1 1 _ p1 rfl (by decide) (.inr (by simp [total, hl]; omega))
  rw [hf, hb] at C
  exact C.mono fun e w' ⟨e1, e2⟩ => ⟨e1, _, e2, by simp [hl]⟩
theorem w_burn (h : Up w0 w b m k) (hk : k < 12) (h2 : 2 * k = m) :
    Calls Try.prog 17 #[.pointer (some ⟨b, 0, none⟩), .slice (some ⟨w.heap.size + 1, 0, none⟩) 1 1] ((w.alloc (.cells #[.int .u8 k] 5)).alloc (.cells #[.slice (some ⟨w.heap.size, 0, none⟩) 1 1] 32)) fun e w' =>
      e = .returned (.int .i64 16) ∧ Dn w0 w' b m := by
  obtain ⟨l, h, hl⟩ := h
  obtain ⟨b1, p1⟩ := one_byte w k (by omega) (by omega)
  have hf : burns ((m : Int) + 1 - 2 * k) = true := by unfold burns; rw [beq_iff_eq]; omega
  have hb : burnt ((m : Int) + 1 - 2 * k) = 0 := by unfold burnt; rw [if_neg (by omega)]; omega
  have C := L_write_new h b1 _ 1 1 _ p1 rfl (by decide) (.inr (by simp [total, hl]; omega))
  rw [hf, hb] at C
  refine C.mono fun e w' ⟨e1, e2⟩ => ⟨e1, l ++ [[UInt8.ofNat (k : Int).toNat]].flatten, ?_, ?_⟩
  · rw [show m / 2 = k by omega]; exact e2
  · simp [hl]; omega
theorem h_up {l : List UInt8} (h : Lx w0 w b 1000 l k ((m : Int) - 2 * k) false) (hl : l.length = k + 1) (h2 : 2 * k + 1 < m) :
    Calls Try.prog 18 #[.pointer (some ⟨b, 0, none⟩)] w fun e w' => e = .returned (.int .i64 0) ∧ Up w0 w' b m (k + 1) := by
  have hf : burns ((m : Int) - 2 * k) = false := by unfold burns; rw [beq_eq_false_iff_ne]; omega
  have hb : burnt ((m : Int) - 2 * k) = (m : Int) + 1 - 2 * (k + 1 : Nat) := by unfold burnt; rw [if_neg (by omega)]; omega
  have C := L_hold h
  rw [hf, hb] at C
  exact C.mono fun e w' ⟨e1, e2⟩ => ⟨e1, l, by rw [if_neg (by decide), hl] at e2; exact e2, hl⟩
theorem h_burn {l : List UInt8} (h : Lx w0 w b 1000 l k ((m : Int) - 2 * k) false) (hl : l.length = k + 1) (h2 : 2 * k + 1 = m) :
    Calls Try.prog 18 #[.pointer (some ⟨b, 0, none⟩)] w fun e w' => e = .returned (.int .i64 16) ∧ Dn w0 w' b m := by
  have hf : burns ((m : Int) - 2 * k) = true := by unfold burns; rw [beq_iff_eq]; omega
  have hb : burnt ((m : Int) - 2 * k) = 0 := by unfold burnt; rw [if_neg (by omega)]; omega
  have C := L_hold h
  rw [hf, hb] at C
  exact C.mono fun e w' ⟨e1, e2⟩ => ⟨e1, l, by rw [show m / 2 = k by omega]; exact e2, by omega⟩
theorem w_dn (h : Dn w0 w b m) (pa : Option Addr) (np pc : Nat) : Calls Try.prog 17 #[.pointer (some ⟨b, 0, none⟩), .slice pa np pc] w fun e w' => e = .returned (.int .i64 16) ∧ w = w' := by
  obtain ⟨l, h, _⟩ := h; exact L_down_w h pa np pc
theorem d_dn (h : Dn w0 w b m) : Calls Try.prog 15 #[.pointer (some ⟨b, 0, none⟩)] w fun e w' => e = .returned (.bool true) ∧ w = w' := by
  obtain ⟨l, h, _⟩ := h; exact L_down h
theorem d_up (h : Up w0 w b m k) : Calls Try.prog 15 #[.pointer (some ⟨b, 0, none⟩)] w fun e w' => e = .returned (.bool false) ∧ w = w' := by
  obtain ⟨l, h, _⟩ := h; exact L_down h
theorem e_dn (h : Dn w0 w b m) : Calls Try.prog 14 #[.pointer (some ⟨b, 0, none⟩)] w fun e w' => e = .returned (.int .i64 (m / 2 : Nat)) ∧ w = w' := by
  obtain ⟨l, h, _⟩ := h; exact L_held h
theorem e_up (h : Up w0 w b m k) : Calls Try.prog 14 #[.pointer (some ⟨b, 0, none⟩)] w fun e w' => e = .returned (.int .i64 k) ∧ w = w' := by
  obtain ⟨l, h, _⟩ := h; exact L_held h
theorem Dn.keep {w' : World} (h : Dn w0 w b m) (hb : Below w.heap.size w w') : Dn w0 w' b m := by
  obtain ⟨l, h, hl⟩ := h; exact ⟨l, h.keep hb, hl⟩
/-- What a fall leaves: so many bytes, all of them held. -/
def Fell (w0 w : World) (b q : Nat) (dn : Bool) : Prop := ∃ (l : List UInt8) (fu : Int), Lx w0 w b 1000 l q fu dn ∧ l.length = q
theorem Fell.bel {q : Nat} {dn : Bool} (h : Fell w0 w b q dn) : Below w0.heap.size w0 w := by obtain ⟨l, fu, h, _⟩ := h; exact h.bel
theorem f_up (h : Up w0 w b m k) (z : Int) : Calls Try.prog 23 #[.pointer (some ⟨b, 0, none⟩), .int .i64 z] w fun e w' => e = .returned (.tuple #[]) ∧ Fell w0 w' b k true := by
  obtain ⟨l, h, hl⟩ := h
  have e : fell l.length k z = k := by unfold fell; rw [hl]; omega
  exact (L_fall h z).mono fun e' w' ⟨e1, e2⟩ => ⟨e1, _, _, by rw [e] at e2; exact e2, by rw [List.length_take]; omega⟩
theorem f_dn (h : Dn w0 w b m) (z : Int) (q : Nat) (hq : q = if 0 < z then m / 2 + 1 else m / 2) : Calls Try.prog 23 #[.pointer (some ⟨b, 0, none⟩), .int .i64 z] w fun e w' => e = .returned (.tuple #[]) ∧ Fell w0 w' b q true := by
  obtain ⟨l, h, hl⟩ := h
  have e : fell l.length (m / 2) z = q := by unfold fell; rw [hl, hq]; split <;> omega
  exact (L_fall h z).mono fun e' w' ⟨e1, e2⟩ => ⟨e1, _, _, by rw [e] at e2; exact e2, by rw [List.length_take]; split at hq <;> omega⟩
theorem r_fell {q : Nat} (h : Fell w0 w b q true) : Calls Try.prog 24 #[.pointer (some ⟨b, 0, none⟩)] w fun e w' => e = .returned (.tuple #[]) ∧ Fell w0 w' b q false := by
  obtain ⟨l, fu, h, hl⟩ := h
  exact (L_rise h).mono fun e w' ⟨e1, e2⟩ => ⟨e1, _, _, e2, by rw [if_pos rfl, List.length_take]; omega⟩
theorem b_fell {q : Nat} (h : Fell w0 w b q false) : Calls Try.prog 12 #[.pointer (some ⟨b, 0, none⟩)] w fun e w' => ∃ a c, e = .returned (.slice a q c) ∧ Fell w0 w' b q false := by
  obtain ⟨l, fu, h, hl⟩ := h
  subst hl
  exact (L_bytes h).mono fun e w' ⟨a, c, e1, _, _, e4, _⟩ => ⟨a, c, e1, l, fu, e4, rfl⟩
theorem e_fell {q : Nat} (h : Fell w0 w b q false) : Calls Try.prog 14 #[.pointer (some ⟨b, 0, none⟩)] w fun e w' => e = .returned (.int .i64 q) ∧ w = w' := by
  obtain ⟨l, fu, h, _⟩ := h; exact L_held h
theorem d_fell {q : Nat} (h : Fell w0 w b q false) : Calls Try.prog 15 #[.pointer (some ⟨b, 0, none⟩)] w fun e w' => e = .returned (.bool false) ∧ w = w' := by
  obtain ⟨l, fu, h, _⟩ := h; exact L_down h
theorem Up.lt (h : Up w0 w b m k) : b < w.heap.size := by obtain ⟨l, h, _⟩ := h; exact h.lt
end
set_option maxHeartbeats 8000000 in
theorem walk (w : World) (x : Int) (x0 : -9223372036854775808 ≤ x) (x1 : x ≤ 9223372036854775807) (y : Int) (y0 : -9223372036854775808 ≤ y) (y1 : y ≤ 9223372036854775807) (z : Int) (z0 : -9223372036854775808 ≤ z) (z1 : z ≤ 9223372036854775807) :
    Calls Try.prog 5 #[.int .i64 x, .int .i64 y, .int .i64 z] w fun e w' => e = .returned (.bool true) ∧ Below w.heap.size w w' := by
  obtain ⟨u, hu⟩ : ∃ u, IntKind.u64.wrap x = u := ⟨_, rfl⟩
  have hu0 : 0 ≤ u := by rw [← hu, IntKind.wrap_u64]; omega
  obtain ⟨n0, hn1⟩ : ∃ r : Nat, u % 12 = r := ⟨(u % 12).toNat, by omega⟩
  have hn2 : u.tmod 12 = n0 := by rw [IntWalk.rem_in u _ hu0]; exact hn1
  have hn3 : n0 < 12 := by omega
  obtain ⟨t, ht⟩ : ∃ u, IntKind.u64.wrap y = u := ⟨_, rfl⟩
  have ht0 : 0 ≤ t := by rw [← ht, IntKind.wrap_u64]; omega
  obtain ⟨m, hm1⟩ : ∃ r : Nat, t % 16 = r := ⟨(t % 16).toNat, by omega⟩
  have hm2 : t.tmod 16 = m := by rw [IntWalk.rem_in t _ ht0]; exact hm1
  have hm3 : m < 16 := by omega
  obtain ⟨N, hN⟩ : ∃ N : Nat, (1 : Int) + n0 = N := ⟨1 + n0, by omega⟩
  obtain ⟨M, hM⟩ : ∃ M : Nat, (1 : Int) + m = M := ⟨1 + m, by omega⟩
  go_enter Try.func5, Try.ntmps5
  go_wp2_with fail
  have HN := Lib.hid hN; have HM := Lib.hid hM
  have hNb : N ≤ 12 := by omega
  have hMb : M ≤ 16 := by omega
  clear hn1 hn2 hm1 hm2 hu ht hu0 ht0 hN hM
  refine (L_new 1000 w).mono ?_
  rintro e w1 ⟨rfl, h1⟩
  have H1 := Lib.hid h1
  clear h1
  go_wp2_with fail
  refine (tape_awake _).mono ?_
  rintro e w2 ⟨rfl, b2⟩
  have H2 := Lib.hid (H1.out.keep b2)
  clear H1 b2
  go_wp2_with fail
  refine (L_fuse H2.out M (by omega)).mono ?_
  rintro e w3 ⟨rfl, h3⟩
  have h4 : Up w w3 w.heap.size m 0 := ⟨[], by rw [show ((m : Int) + 1 - 2 * (0 : Nat)) = max (M : Int) 0 by have := HM.out; omega]; exact h3, rfl⟩
  have H4 := Lib.hid h4
  clear h3 h4 H2
  go_wp2_with fail
  go_loopw [8, 9] (fun dv iv wr => ∃ k : Nat, k ≤ N ∧ iv = .int .i64 k ∧ St w wr w.heap.size m k dv) (fun _ i _ => N - (intOf i).toNat)
  case atStart => exact ⟨0, Nat.zero_le _, rfl, .inl ⟨by omega, H4.out, rfl⟩⟩
  case round =>
    obtain ⟨k, hk, rfl, hst⟩ := hrel
    clear H4
    by_cases hlt : k < N
    · rcases hst with ⟨g1, hup, rfl⟩ | ⟨g1, hdn, rfl⟩
      · have HU := Lib.hid hup
        have hbs := hup.lt
        have hcase : 2 * k = m ∨ 2 * k + 1 = m ∨ 2 * k + 1 < m := by omega
        clear hup
        rcases hcase with g2 | g2 | g2
        · have G := Lib.hid g2; clear g2
          go_wp2_with fail
          refine (w_burn HU.out (by omega) G.out).mono ?_
          rintro e w5 ⟨rfl, h5⟩
          have H5 := Lib.hid h5; clear h5
          go_wp2_with (first
            | (go_at_call 15; refine (d_dn H5.out).mono ?_; rintro e w' ⟨rfl, rfl⟩)
            | fail)
          go_roundw
          case rel => exact ⟨k + 1, by omega, by go_num, .inr ⟨by have := G.out; omega, H5.out, by rw [show m / 2 = k by have := G.out; omega]⟩⟩
          case measure => simp [intOf]; omega
        · have G := Lib.hid g2; clear g2
          go_wp2_with fail
          refine (w_up HU.out (by omega) (by have := G.out; omega)).mono ?_
          rintro e w5 ⟨rfl, l5, h5, g5⟩
          have H5 := Lib.hid h5; have G5 := Lib.hid g5; clear h5 g5
          go_wp2_with fail
          refine (h_burn H5.out G5.out G.out).mono ?_
          rintro e w6 ⟨rfl, h6⟩
          have H6 := Lib.hid h6; clear h6
          go_wp2_with (first
            | (go_at_call 15; refine (d_dn H6.out).mono ?_; rintro e w' ⟨rfl, rfl⟩)
            | fail)
          go_roundw
          case rel => exact ⟨k + 1, by omega, by go_num, .inr ⟨by have := G.out; omega, H6.out, by rw [show m / 2 = k by have := G.out; omega]⟩⟩
          case measure => simp [intOf]; omega
        · go_wp2_with fail
          refine (w_up HU.out (by omega) (by omega)).mono ?_
          rintro e w5 ⟨rfl, l5, h5, g5⟩
          have H5 := Lib.hid h5; have G5 := Lib.hid g5; clear h5 g5
          go_wp2_with fail
          refine (h_up H5.out G5.out g2).mono ?_
          rintro e w6 ⟨rfl, h6⟩
          have H6 := Lib.hid h6; clear h6
          go_wp2_with fail
          go_roundw
          case rel => exact ⟨k + 1, by omega, by go_num, .inl ⟨by omega, H6.out, by go_num⟩⟩
          case measure => simp [intOf]; omega
      · have HD := Lib.hid hdn
        have hbs := hdn.bel.size
        clear hdn
        go_wp2_with fail
        have HD2 := Lib.hid (HD.out.keep (one_byte wr k (by omega) (by omega)).1)
        refine (w_dn HD2.out _ _ _).mono ?_
        rintro e w5 ⟨rfl, rfl⟩
        go_wp2_with (first
          | (go_at_call 15; refine (d_dn HD2.out).mono ?_; rintro e w' ⟨rfl, rfl⟩)
          | fail)
        go_roundw
        case rel => exact ⟨k + 1, by omega, by go_num, .inr ⟨by omega, HD2.out, rfl⟩⟩
        case measure => simp [intOf]; omega
    · obtain rfl : k = N := by omega
      obtain ⟨K, hK⟩ : ∃ K, m / 2 = K := ⟨_, rfl⟩
      have hM := HM.out
      have q1 : ((M : Int) - 1).tdiv 2 = K := by rw [Int.tdiv_eq_ediv_of_nonneg (by omega)]; omega
      have q2 : ((M : Int) - 1) / 2 = K := by omega
      have HK := Lib.hid hK
      rcases hst with ⟨g1, hup, rfl⟩ | ⟨g1, hdn, rfl⟩
      · have g3 : k ≤ K := by omega
        have g4 : (2 : Int) * k < M := by omega
        have HU := Lib.hid hup
        clear hK hM hup g1
        go_wp2_with (first
          | (go_at_call 15; refine (d_up HU.out).mono ?_; rintro e w' ⟨rfl, rfl⟩)
          | (go_at_call 14; refine (e_up HU.out).mono ?_; rintro e w' ⟨rfl, rfl⟩)
          | fail)
        refine (f_up HU.out z).mono ?_
        rintro e w5 ⟨rfl, h5⟩
        have H5 := Lib.hid h5; clear h5
        go_wp2_with fail
        refine (r_fell H5.out).mono ?_
        rintro e w6 ⟨rfl, h6⟩
        have H6 := Lib.hid h6; clear h6
        go_wp2_with fail
        refine (b_fell H6.out).mono ?_
        rintro e w7 ⟨a7, c7, rfl, h7⟩
        have H7 := Lib.hid h7; clear h7
        go_wp2_with (first
          | (go_at_call 14; refine (e_fell H7.out).mono ?_; rintro e w' ⟨rfl, rfl⟩)
          | (go_at_call 15; refine (d_fell H7.out).mono ?_; rintro e w' ⟨rfl, rfl⟩)
          | fail)
        go_ret
        exact ⟨rfl, H7.out.bel⟩
      · have g3 : K < k := by omega
        have g4 : (M : Int) ≤ 2 * k := by omega
        have HD := Lib.hid hdn
        rw [hK]
        by_cases hz : 0 < z
        · have hq : K + 1 = if 0 < z then m / 2 + 1 else m / 2 := by rw [if_pos hz, hK]
          have HQ := Lib.hid hq
          clear hK hM hdn g1 hq
          go_wp2_with (first
            | (go_at_call 15; refine (d_dn HD.out).mono ?_; rintro e w' ⟨rfl, rfl⟩)
            | (go_at_call 14; refine (e_dn HD.out).mono ?_; rintro e w' ⟨rfl, rfl⟩; rw [HK.out])
            | fail)
          refine (f_dn HD.out z (K + 1) HQ.out).mono ?_
          rintro e w5 ⟨rfl, h5⟩
          have H5 := Lib.hid h5; clear h5
          go_wp2_with fail
          refine (r_fell H5.out).mono ?_
          rintro e w6 ⟨rfl, h6⟩
          have H6 := Lib.hid h6; clear h6
          go_wp2_with fail
          refine (b_fell H6.out).mono ?_
          rintro e w7 ⟨a7, c7, rfl, h7⟩
          have H7 := Lib.hid h7; clear h7
          go_wp2_with (first
            | (go_at_call 14; refine (e_fell H7.out).mono ?_; rintro e w' ⟨rfl, rfl⟩)
            | (go_at_call 15; refine (d_fell H7.out).mono ?_; rintro e w' ⟨rfl, rfl⟩)
            | fail)
          go_ret
          exact ⟨rfl, H7.out.bel⟩
        · have hq : K = if 0 < z then m / 2 + 1 else m / 2 := by rw [if_neg hz, hK]
          have HQ := Lib.hid hq
          have hz2 : z ≤ 0 := by omega
          clear hK hM hdn g1 hq
          go_wp2_with (first
            | (go_at_call 15; refine (d_dn HD.out).mono ?_; rintro e w' ⟨rfl, rfl⟩)
            | (go_at_call 14; refine (e_dn HD.out).mono ?_; rintro e w' ⟨rfl, rfl⟩; rw [HK.out])
            | fail)
          refine (f_dn HD.out z K HQ.out).mono ?_
          rintro e w5 ⟨rfl, h5⟩
          have H5 := Lib.hid h5; clear h5
          go_wp2_with fail
          refine (r_fell H5.out).mono ?_
          rintro e w6 ⟨rfl, h6⟩
          have H6 := Lib.hid h6; clear h6
          go_wp2_with fail
          refine (b_fell H6.out).mono ?_
          rintro e w7 ⟨a7, c7, rfl, h7⟩
          have H7 := Lib.hid h7; clear h7
          go_wp2_with (first
            | (go_at_call 14; refine (e_fell H7.out).mono ?_; rintro e w' ⟨rfl, rfl⟩)
            | (go_at_call 15; refine (d_fell H7.out).mono ?_; rintro e w' ⟨rfl, rfl⟩)
            | fail)
          go_ret
          exact ⟨rfl, H7.out.bel⟩
end Go.Proofs.Ytghncdoophoieaa.tapeFuse
