/-
  Layer 12, the document: two rows of ids held against each other; whether an id is in a row, also in an empty one.
-/
import Derived.Test.YtajmgjhknmkfpaaGf
import Derived.Test.YtajmgjhknmkfpaaGg
import Derived.Test.YtajmgjhknmkfpaaSq
namespace Go.Proofs.Ytajmgjhknmkfpaa
set_option maxRecDepth 20000
open Go.RowKit
set_option linter.unusedVariables false
set_option linter.unusedSimpArgs false

set_option maxHeartbeats 4000000 in
theorem SameIds_lens (a1 a2 : Option Addr) (n1 n2 c1 c2 : Nat) (w : World) (h : n1 ≠ n2) :
    Calls Try.prog 35 #[.slice a1 n1 c1, .slice a2 n2 c2, .func (.func 36) #[] #[]] w fun e w' => e = .returned (.bool false) ∧ Below w.heap.size w w' := by
  have h2 : ¬ (n1 : Int) = (n2 : Int) := by omega
  clear h
  go_enter Try.func35, Try.ntmps35
  go_wp2
  go_ret
  exact ⟨rfl, Below.refl _ _⟩
set_option maxHeartbeats 4000000 in
theorem SameIds_two (b1 o1 b2 o2 c1 c2 n : Nat) (l1 l2 : List (List UInt8)) (w : World) (hn1 : n = l1.length) (hn2 : n = l2.length) (hm : n ≤ 1000000) (h1 : IdsAt w (some ⟨b1, o1, none⟩) l1) (h2 : IdsAt w (some ⟨b2, o2, none⟩) l2) (hp : 0 < n)
    (hid1 : ∀ i ∈ l1, i.length = 20) (hid2 : ∀ i ∈ l2, i.length = 20) :
    Calls Try.prog 35 #[.slice (some ⟨b1, o1, none⟩) n c1, .slice (some ⟨b2, o2, none⟩) n c2, .func (.func 36) #[] #[]] w fun e w' => e = .returned (.bool (decide (l1 = l2))) ∧ Below w.heap.size w w' := by
  obtain ⟨b, o, e, hb1, hc1⟩ := h1 (by omega)
  cases e
  obtain ⟨b, o, e, hb2, hc2⟩ := h2 (by omega)
  cases e
  have HC1 := Lib.hid hc1; have HC2 := Lib.hid hc2; have HID1 := Lib.hid hid1; have HID2 := Lib.hid hid2; have HN1 := Lib.hid hn1; have HN2 := Lib.hid hn2
  have NE := Lib.hid (fun (k : Nat) (h1 : k < l1.length) (h2 : k < l2.length) (h : eqD l1[k] l2[k] = false) => (show decide (l1 = l2) = false by
    rw [decide_eq_false_iff_not]
    intro e
    subst e
    rw [eqD_same] at h
    cases h))
  have EQ := Lib.hid (fun (h : ∀ j (h1 : j < l1.length) (h2 : j < l2.length), l1[j] = l2[j]) => (show decide (l1 = l2) = true by
    rw [decide_eq_true_iff]
    exact List.ext_getElem (by omega) h))
  clear hc1 hc2 hid1 hid2 hn1 hn2 h1 h2 hp
  obtain ⟨R, hR⟩ : ∃ R, decide (l1 = l2) = R := ⟨_, rfl⟩
  rw [hR] at NE EQ ⊢
  clear hR
  go_enter Try.func35, Try.ntmps35
  go_wp2_with fail
  go_loopw [7] (fun i wr => ∃ k : Nat, k ≤ n ∧ i = .int .i64 k ∧ (∀ j (h1 : j < l1.length) (h2 : j < l2.length), j < k → l1[j] = l2[j]) ∧ Below w.heap.size w wr) (fun i _ => n - (intOf i).toNat)
  case atStart => exact ⟨0, Nat.zero_le _, rfl, fun j _ _ h => absurd h (Nat.not_lt_zero _), Below.refl _ _⟩
  case round =>
    obtain ⟨k, hk, rfl, heq, hbr⟩ := hrel
    have HBR := Lib.hid hbr; have HEQ := Lib.hid heq
    clear hbr heq
    by_cases hlt : k < n
    · have hk1 : k < l1.length := by rw [← HN1.out]; exact hlt
      have hk2 : k < l2.length := by rw [← HN2.out]; exact hlt
      obtain ⟨x, hx⟩ : ∃ x, l1[k] = x := ⟨_, rfl⟩
      obtain ⟨y, hy⟩ : ∃ y, l2[k] = y := ⟨_, rfl⟩
      have hx20 := HID1.out x (by rw [← hx]; exact List.getElem_mem _)
      have hy20 := HID2.out y (by rw [← hy]; exact List.getElem_mem _)
      have R1 := Lib.hid (fun u (hu : Below wr.heap.size wr u) => (show u.rangeAt b1 (o1 + k * 20) (cellsD x) from fun j v hv =>
        (hu.cell (p := ⟨b1, o1 + k * 20 + j, none⟩) (Nat.lt_of_lt_of_le hb1 HBR.out.size)).trans ((HBR.out.cell (p := ⟨b1, o1 + k * 20 + j, none⟩) hb1).trans (HC1.out k hk1 j v (by rw [hx]; exact hv)))))
      have R2 := Lib.hid (fun u (hu : Below wr.heap.size wr u) => (show u.rangeAt b2 (o2 + k * 20) (cellsD y) from fun j v hv =>
        (hu.cell (p := ⟨b2, o2 + k * 20 + j, none⟩) (Nat.lt_of_lt_of_le hb2 HBR.out.size)).trans ((HBR.out.cell (p := ⟨b2, o2 + k * 20 + j, none⟩) hb2).trans (HC2.out k hk2 j v (by rw [hy]; exact hv)))))
      have ce := fun u => eq_idD x y hx20 hy20 u
      have LX := Lib.hid (show (Try.prog.info? 32).map (·.size) = some (cellsD x).length by rw [cellsD_len x hx20]; exact infoD_n)
      have LY := Lib.hid (show (Try.prog.info? 32).map (·.size) = some (cellsD y).length by rw [cellsD_len y hy20]; exact infoD_n)
      have HNE := NE.out k hk1 hk2
      rw [hx, hy] at HNE
      have HNX := Lib.hid (fun (e : eqD x y = true) (j : Nat) (h1 : j < l1.length) (h2 : j < l2.length) (hjk : j < k + 1) => (show l1[j] = l2[j] from if h : j < k then HEQ.out j h1 h2 h else by
        obtain rfl : j = k := by omega
        rw [hx, hy]; exact (eqD_iff x y).1 e))
      obtain ⟨r, hr⟩ : ∃ r, eqD x y = r := ⟨_, rfl⟩
      rw [hr] at ce HNE HNX
      unfold arrD at ce
      have CE := Lib.hid ce; have HNE := Lib.hid HNE
      clear ce hx hy hx20 hy20 hr
      generalize cellsD x = cx at *
      generalize cellsD y = cy at *
      go_wp2_with fail
      refine rgB _ (fun hHeld => ?_)
      refine tkW 0 rfl hHeld ?_
      refine tkW 1 rfl hHeld ?_
      refine tkW 2 rfl hHeld ?_
      refine tkW 3 rfl hHeld ?_
      refine tkH 4 rfl (yieldsIf_load_mid (by kernel_rfl) 32 (.tmp 22) (by kernel_rfl) b1 (o1 + k * 20) (by kernel_rfl) cx _ (fun u hu => R1.out u hu) Try.underlying32 rfl LX.out) hHeld ?_
      refine tkW 5 rfl hHeld ?_
      refine tkW 6 rfl hHeld ?_
      refine tkW 7 rfl hHeld ?_
      refine tkH 8 rfl (yieldsIf_load_mid (by kernel_rfl) 32 (.tmp 26) (by kernel_rfl) b2 (o2 + k * 20) (by kernel_rfl) cy _ (fun u hu => R2.out u hu) Try.underlying32 rfl LY.out) hHeld ?_
      refine rdH 9 rfl (fun K hK => ?_)
      go_simp
      refine (CE.out _).mono ?_
      rintro e u1 ⟨rfl, h1⟩
      have hH := hHeld.trans (h1.mono hHeld.size)
      clear hHeld h1
      refine hK.out _ _ hH (fun hHeld => ?_)
      clear hK K
      try simp only [Act.put, List.setIfInBounds_toArray, List.set_cons_zero, List.set_cons_succ]
      refine tkW 10 rfl hHeld ?_
      try simp only [Act.put, List.getElem_toArray, List.getElem_cons_succ, List.getElem_cons_zero, lsA, lsZ, lsS]
      refine wpAnyH_done (by kernel_rfl) ?_ _
      have HB2 := Lib.hid (HBR.out.trans (hHeld.mono HBR.out.size))
      clear hHeld
      cases r with
      | true =>
        go_wp2
        go_roundw
        case rel => exact ⟨k + 1, by omega, by go_num, HNX.out rfl, HB2.out⟩
        case measure => simp [intOf]; omega
      | false =>
        go_wp2
        go_ret
        exact ⟨by first | rfl | (rw [show R = false from HNE.out trivial]; rfl), HB2.out⟩
    · obtain rfl : k = n := by omega
      go_wp2
      go_ret
      exact ⟨by rw [EQ.out (fun j h1 h2 => HEQ.out j h1 h2 (by rw [HN1.out]; exact h1))]; rfl, HBR.out⟩
theorem SameIds_is (a1 a2 : Option Addr) (n1 n2 c1 c2 : Nat) (l1 l2 : List (List UInt8)) (w : World) (h1 : IdsAt w a1 l1) (h2 : IdsAt w a2 l2) (hn1 : n1 = l1.length) (hn2 : n2 = l2.length) (hm : n1 ≤ 1000000) (hid1 : ∀ i ∈ l1, i.length = 20) (hid2 : ∀ i ∈ l2, i.length = 20) :
    Calls Try.prog 35 #[.slice a1 n1 c1, .slice a2 n2 c2, .func (.func 36) #[] #[]] w fun e w' => e = .returned (.bool (decide (l1 = l2))) ∧ Below w.heap.size w w' := by
  by_cases hn : n1 = n2
  · subst hn
    by_cases hp : 0 < n1
    · obtain ⟨b1, o1, rfl, -, -⟩ := h1 (by omega)
      obtain ⟨b2, o2, rfl, -, -⟩ := h2 (by omega)
      exact SameIds_two b1 o1 b2 o2 c1 c2 n1 l1 l2 w hn1 hn2 hm h1 h2 hp hid1 hid2
    · obtain rfl : n1 = 0 := by omega
      obtain rfl := List.eq_nil_of_length_eq_zero hn1.symm
      obtain rfl := List.eq_nil_of_length_eq_zero hn2.symm
      exact SameIds_none a1 a2 c1 c2 w
  · have e : decide (l1 = l2) = false := by
      rw [decide_eq_false_iff_not]
      intro e
      subst e
      exact hn (hn1.trans hn2.symm)
    rw [e]
    exact SameIds_lens a1 a2 n1 n2 c1 c2 w hn
set_option maxHeartbeats 400000 in
theorem PlainIds_is (a1 a2 : Option Addr) (n1 n2 c1 c2 : Nat) (l1 l2 : List (List UInt8)) (w : World) (h1 : IdsAt w a1 l1) (h2 : IdsAt w a2 l2) (hn1 : n1 = l1.length) (hn2 : n2 = l2.length) (hm : n1 ≤ 1000000) (hid1 : ∀ i ∈ l1, i.length = 20) (hid2 : ∀ i ∈ l2, i.length = 20) :
    Calls Try.prog 15 #[.slice a1 n1 c1, .slice a2 n2 c2] w fun e w' => e = .returned (.bool (decide (l1 = l2))) ∧ Below w.heap.size w w' := by
  have C := Lib.hid (SameIds_is a1 a2 n1 n2 c1 c2 l1 l2 w h1 h2 hn1 hn2 hm hid1 hid2)
  generalize decide (l1 = l2) = r at *
  clear h1 h2 hn1 hn2 hm hid1 hid2
  go_enter Try.func15, Try.ntmps15
  go_wp2_with fail
  refine C.out.mono ?_
  rintro e w1 ⟨rfl, hb⟩
  go_wp2
  go_ret
  exact ⟨rfl, hb⟩
set_option maxHeartbeats 400000 in
theorem InIds_none (a : Option Addr) (c : Nat) (x : List UInt8) (w : World) :
    Calls Try.prog 28 #[.slice a 0 c, .agg (arrD x)] w fun e w' => e = .returned (.bool false) ∧ Below w.heap.size w w' := by
  obtain ⟨A, hA⟩ : ∃ A, arrD x = A := ⟨_, rfl⟩
  rw [hA]
  clear hA
  have B1 := Lib.hid ((Below.refl w.heap.size w).alloc (Nat.le_refl _) (.cells A 32))
  go_enter Try.func28, Try.ntmps28
  go_wp2_with fail
  refine wp_loop_rounds 1 ?_
  rw [rounds_succ]
  go_wp2
  go_ret
  exact ⟨rfl, B1.out⟩
theorem InIds_is (a : Option Addr) (n c : Nat) (l : List (List UInt8)) (x : List UInt8) (w : World) (hr : IdsAt w a l) (hn : n = l.length) (hm : n ≤ 1000000) (hid : ∀ i ∈ l, i.length = 20) (hx : x.length = 20) :
    Calls Try.prog 28 #[.slice a n c, .agg (arrD x)] w fun e w' => e = .returned (.bool (l.contains x)) ∧ Below w.heap.size w w' := by
  have e : amongD l x = l.contains x := by rw [Bool.eq_iff_iff, among_iff, List.contains_iff_mem]
  by_cases hp : 0 < n
  · obtain ⟨b, o, rfl, hb, hc⟩ := hr (by omega)
    rw [← e]
    exact InIds_some b o c n l x w hn hm hb hc hid hx
  · obtain rfl : n = 0 := by omega
    obtain rfl := List.eq_nil_of_length_eq_zero hn.symm
    exact InIds_none a c x w
end Go.Proofs.Ytajmgjhknmkfpaa
