/-
  The helpers Same and Plain of the statements, over ints and over slices of bytes.
-/
import Derived.Test.YtjlgihdlcfanbaaFal
namespace Go.Proofs.Ytjlgihdlcfanbaa
open Go.RowKit
set_option linter.unusedVariables false
set_option linter.unusedSimpArgs false

/-- Numbers at an address. -/
def IAt (w : World) (a : Option Addr) (ks : List Nat) : Prop :=
  0 < ks.length → ∃ b o, a = some ⟨b, o, none⟩ ∧ b < w.heap.size ∧ ∀ i (h : i < ks.length), w.cell? ⟨b, o + i, none⟩ = some (.int .i64 ((ks[i] : Nat) : Int))
theorem IAt.below {w w' : World} {a : Option Addr} {ks : List Nat} (h : IAt w a ks) (hb : Below w.heap.size w w') : IAt w' a ks := fun hp => by
  obtain ⟨b, o, h1, h2, h3⟩ := h hp
  exact ⟨b, o, h1, Nat.lt_of_lt_of_le h2 hb.size, fun i hi => (hb.cell (p := ⟨b, o + i, none⟩) h2).trans (h3 i hi)⟩
theorem own_form' {w : World} {base : Nat} {e : TypeId} {n : Nat} {v : Value} {xs : List Value} (h : w.ownsRow base e 1 v n xs) : ∃ a c, v = .slice a n c ∧ (0 < n → ∃ g, a = some ⟨g, 0, none⟩ ∧ g < w.heap.size ∧ ∀ i, i < n → w.cell? ⟨g, i, none⟩ = xs[i]?) := by
  rcases h.2 with ⟨rfl, rfl⟩ | ⟨g, cap, cur, rfl, hb, hg, h1, h2, h3, h4⟩
  · exact ⟨none, 0, rfl, fun h => absurd h (Nat.lt_irrefl 0)⟩
  · refine ⟨_, cap, rfl, fun _ => ⟨g, rfl, lt_of_heap hg, fun i hi => ?_⟩⟩
    rw [cell_of_row w g i cur _ _ hg, ← h4, Nat.mul_one, List.getElem?_take, if_pos hi, Array.getElem?_toList]
theorem Kinds.form {w : World} {B : Nat} {v : Value} {ks : List Nat} (h : Kinds w B v ks) : ∃ a c, v = .slice a ks.length c ∧ IAt w a ks := by
  obtain ⟨a, c, h1, h2⟩ := own_form' h
  refine ⟨a, c, h1, fun hp => ?_⟩
  obtain ⟨g, rfl, hg, hc⟩ := h2 hp
  exact ⟨g, 0, rfl, hg, fun i hi => by rw [Nat.zero_add, hc i hi]; simp [hi]⟩
/-- Slices of bytes at an address. -/
def SAt (w : World) (a : Option Addr) (bs : List (List UInt8)) : Prop :=
  0 < bs.length → ∃ b o, a = some ⟨b, o, none⟩ ∧ b < w.heap.size ∧ ∀ i (h : i < bs.length), ∃ x c, w.cell? ⟨b, o + i, none⟩ = some (.slice x (bs[i]).length c) ∧ BAt w x bs[i]
theorem SAt.below {w w' : World} {a : Option Addr} {bs : List (List UInt8)} (h : SAt w a bs) (hb : Below w.heap.size w w') : SAt w' a bs := fun hp => by
  obtain ⟨b, o, h1, h2, h3⟩ := h hp
  refine ⟨b, o, h1, Nat.lt_of_lt_of_le h2 hb.size, fun i hi => ?_⟩
  obtain ⟨x, c, g1, g2⟩ := h3 i hi
  exact ⟨x, c, (hb.cell (p := ⟨b, o + i, none⟩) h2).trans g1, g2.keep hb⟩
theorem Pays.form {w : World} {B : Nat} {v : Value} {bs : List (List UInt8)} (h : Pays w B v bs) : ∃ a c, v = .slice a bs.length c ∧ SAt w a bs := by
  obtain ⟨ps, h0, h3⟩ := h
  obtain ⟨a, c, h1, h2⟩ := own_form' h0
  refine ⟨a, c, h1, fun hp => ?_⟩
  obtain ⟨g, rfl, hg, hc⟩ := h2 hp
  refine ⟨g, 0, rfl, hg, fun i hi => ?_⟩
  obtain ⟨p, g1, g2, _⟩ := h3 i hi
  obtain ⟨x, y, rfl, _, _, hb, _⟩ := g2.shape
  exact ⟨x, y, by rw [Nat.zero_add, hc i hi, g1], hb⟩
theorem parts_sat {D : Nat → Prop} {w : World} {a : Option Addr} {bs : List (List UInt8)} (h : PartsIn D w a bs) : SAt w a bs := fun hp => by
  obtain ⟨b, o, h1, _, h2, h3⟩ := h hp
  refine ⟨b, o, h1, h2, fun i hi => ?_⟩
  obtain ⟨x, c, g1, g2, _, _⟩ := h3 i hi
  exact ⟨x, c, g1, g2.bat⟩
set_option maxHeartbeats 400000 in
theorem eq_int_same (x : Int) (w : World) :
    Calls Try.prog 29 #[.int .i64 x, .int .i64 x] w fun e w' => e = .returned (.bool true) ∧ w = w' := by
  go_enter Try.func29, Try.ntmps29
  go_wp2
  go_ret
  exact ⟨by simp, rfl⟩
set_option maxHeartbeats 1000000 in
theorem SameI_any (a1 a2 : Option Addr) (n1 n2 c1 c2 : Nat) (ks : List Nat) (w : World) (h1 : IAt w a1 ks) (h2 : IAt w a2 ks) (e1 : n1 = ks.length) (e2 : n2 = ks.length) (hn : ks.length ≤ 1099511627776) :
    Calls Try.prog 28 #[.slice a1 n1 c1, .slice a2 n2 c2, .func (.func 29) #[] #[]] w fun e w' => e = .returned (.bool true) ∧ Below w.heap.size w w' := by
  subst e1
  have H1 := Lib.hid h1; have H2 := Lib.hid h2; have HE := Lib.hid e2
  obtain ⟨q, hq⟩ : ∃ q, ks.length = q := ⟨_, rfl⟩
  rw [hq] at e2 hn ⊢
  subst e2
  have HQ := Lib.hid hq
  clear h1 h2 hq
  go_enter Try.func28, Try.ntmps28
  go_wp2_with fail
  go_loopw [7] (fun i wr => ∃ k : Nat, k ≤ n2 ∧ i = .int .i64 k ∧ Below w.heap.size w wr) (fun i _ => n2 - (intOf i).toNat)
  case atStart => exact ⟨0, Nat.zero_le _, rfl, Below.refl _ _⟩
  case round =>
    obtain ⟨k, hk, rfl, hbr⟩ := hrel
    by_cases hlt : k < n2
    · have hkl : k < ks.length := by rw [HQ.out]; exact hlt
      obtain ⟨b1, o1, rfl, hb1, hc1⟩ := H1.out (by omega)
      obtain ⟨b2, o2, rfl, hb2, hc2⟩ := H2.out (by omega)
      have hcell1 : wr.cell? ⟨b1, o1 + k, none⟩ = some (.int .i64 ((ks[k] : Nat) : Int)) := (hbr.cell (p := ⟨b1, o1 + k, none⟩) hb1).trans (hc1 k hkl)
      have hcell2 : wr.cell? ⟨b2, o2 + k, none⟩ = some (.int .i64 ((ks[k] : Nat) : Int)) := (hbr.cell (p := ⟨b2, o2 + k, none⟩) hb2).trans (hc2 k hkl)
      obtain ⟨x, hxe⟩ : ∃ x : Int, x = ((ks[k] : Nat) : Int) := ⟨_, rfl⟩
      rw [← hxe] at hcell1 hcell2
      clear hxe hc1 hc2
      go_wp2_with fail
      go_quiet ((go_at_call 29; exact Calls.quiet_of_same ((eq_int_same _ _).mono fun _ _ h => ⟨h.1, h.2.symm⟩)))
      go_wp2
      go_roundw
      case rel => exact ⟨k + 1, by omega, by go_num, below_drewN hbr _⟩
      case measure => simp [intOf]; omega
    · obtain rfl : k = n2 := by omega
      go_wp2
      go_ret
      exact ⟨rfl, hbr⟩
set_option maxHeartbeats 400000 in
theorem PlainI_any (a1 a2 : Option Addr) (n1 n2 c1 c2 : Nat) (ks : List Nat) (w : World) (h1 : IAt w a1 ks) (h2 : IAt w a2 ks) (e1 : n1 = ks.length) (e2 : n2 = ks.length) (hn : ks.length ≤ 1099511627776) :
    Calls Try.prog 19 #[.slice a1 n1 c1, .slice a2 n2 c2] w fun e w' => e = .returned (.bool true) ∧ Below w.heap.size w w' := by
  have C := Lib.hid (SameI_any a1 a2 n1 n2 c1 c2 ks w h1 h2 e1 e2 hn)
  clear h1 h2 e1 e2
  go_enter Try.func19, Try.ntmps19
  go_wp2_with fail
  refine C.out.mono ?_
  rintro e w1 ⟨rfl, hb⟩
  go_wp2
  go_ret
  exact ⟨rfl, hb⟩
set_option maxHeartbeats 1000000 in
theorem SameB_any (a1 a2 : Option Addr) (n1 n2 c1 c2 : Nat) (bs : List (List UInt8)) (w : World) (h1 : SAt w a1 bs) (h2 : SAt w a2 bs) (e1 : n1 = bs.length) (e2 : n2 = bs.length) (hn : bs.length ≤ 1099511627776) :
    Calls Try.prog 20 #[.slice a1 n1 c1, .slice a2 n2 c2, .func (.func 14) #[] #[]] w fun e w' => e = .returned (.bool true) ∧ Below w.heap.size w w' := by
  subst e1
  have H1 := Lib.hid h1; have H2 := Lib.hid h2
  obtain ⟨q, hq⟩ : ∃ q, bs.length = q := ⟨_, rfl⟩
  rw [hq] at e2 hn ⊢
  subst e2
  have HQ := Lib.hid hq
  clear h1 h2 hq
  go_enter Try.func20, Try.ntmps20
  go_wp2_with fail
  go_loopw [7] (fun i wr => ∃ k : Nat, k ≤ n2 ∧ i = .int .i64 k ∧ Below w.heap.size w wr) (fun i _ => n2 - (intOf i).toNat)
  case atStart => exact ⟨0, Nat.zero_le _, rfl, Below.refl _ _⟩
  case round =>
    obtain ⟨k, hk, rfl, hbr⟩ := hrel
    by_cases hlt : k < n2
    · have hkl : k < bs.length := by rw [HQ.out]; exact hlt
      obtain ⟨b1, o1, rfl, hb1, hc1⟩ := H1.out (by omega)
      obtain ⟨b2, o2, rfl, hb2, hc2⟩ := H2.out (by omega)
      obtain ⟨x1, y1, g1, t1⟩ := hc1 k hkl
      obtain ⟨x2, y2, g2, t2⟩ := hc2 k hkl
      have hcell1 : wr.cell? ⟨b1, o1 + k, none⟩ = some (.slice x1 (bs[k]).length y1) := (hbr.cell (p := ⟨b1, o1 + k, none⟩) hb1).trans g1
      have hcell2 : wr.cell? ⟨b2, o2 + k, none⟩ = some (.slice x2 (bs[k]).length y2) := (hbr.cell (p := ⟨b2, o2 + k, none⟩) hb2).trans g2
      have HT := Lib.hid (fun i => And.intro (t1.below (below_drewN hbr i) (Nat.le_refl _)) (t2.below (below_drewN hbr i) (Nat.le_refl _)))
      obtain ⟨b, hb⟩ : ∃ b, bs[k] = b := ⟨_, rfl⟩
      rw [hb] at hcell1 hcell2 HT
      obtain ⟨r, hr⟩ : ∃ r, b.length = r := ⟨_, rfl⟩
      rw [hr] at hcell1 hcell2
      have HR := Lib.hid hr
      clear hb hr g1 g2 t1 t2 hc1 hc2
      go_wp2_with fail
      go_quiet ((go_at_call 14; exact Calls.quiet_of_same ((Bytes_same x1 x2 r r y1 y2 b _ (HT.out _).1 (HT.out _).2 HR.out.symm HR.out.symm).mono fun _ _ h => ⟨h.1, h.2.symm⟩)))
      go_wp2
      go_roundw
      case rel => exact ⟨k + 1, by omega, by go_num, below_drewN hbr _⟩
      case measure => simp [intOf]; omega
    · obtain rfl : k = n2 := by omega
      go_wp2
      go_ret
      exact ⟨rfl, hbr⟩
end Go.Proofs.Ytjlgihdlcfanbaa
