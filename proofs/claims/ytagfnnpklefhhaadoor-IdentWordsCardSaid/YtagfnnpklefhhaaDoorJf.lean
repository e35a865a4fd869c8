/-
  Layer 6: zones of the program: twoDigits, zoneText, minutes, Zone.
-/
import Derived.Test.YtagfnnpklefhhaaDoorHna
import Derived.Test.YtagfnnpklefhhaaDoorJc
namespace Go.Proofs.YtagfnnpklefhhaaDoor
open Go.RowKit
set_option linter.unusedVariables false
set_option linter.unusedSimpArgs false

def minV (s a b c d : UInt8) : Option Int :=
  if digB a = true ∧ digB b = true ∧ digB c = true ∧ digB d = true then some (if s.toNat = 45 then -((digV a * 600 + digV b * 60 + digV c * 10 + digV d : Nat) : Int) else ((digV a * 600 + digV b * 60 + digV c * 10 + digV d : Nat) : Int)) else none
/-- What may be a zone, read. -/
def minR : List UInt8 → Option Int
  | [s, a, b, c, d] => minV s a b c d
  | _ => none
theorem min_read (z : Int) (h0 : -840 ≤ z) (h1 : z ≤ 840) : minR (zoneT z) = some z := by
  obtain ⟨n, hn⟩ : ∃ n, z.natAbs = n := ⟨_, rfl⟩
  have hn840 : n ≤ 840 := by omega
  have e1 := digB_of (n / 60 / 10) (by omega)
  have e2 := digB_of (n / 60 % 10) (by omega)
  have e3 := digB_of (n % 60 / 10) (by omega)
  have e4 := digB_of (n % 60 % 10) (by omega)
  have hz : n / 60 / 10 * 600 + n / 60 % 10 * 60 + n % 60 / 10 * 10 + n % 60 % 10 = n := by omega
  unfold zoneT twoD
  rw [hn]
  simp only [List.cons_append, List.nil_append]
  show minV _ _ _ _ _ = some z
  unfold minV
  rw [e1.1, e1.2, e2.1, e2.2, e3.1, e3.2, e4.1, e4.2, hz]
  by_cases hneg : z < 0
  · rw [if_pos hneg, if_pos ⟨rfl, rfl, rfl, rfl⟩, if_pos (by decide)]
    congr 1; omega
  · rw [if_neg hneg, if_pos ⟨rfl, rfl, rfl, rfl⟩, if_neg (by decide)]
    congr 1; omega
/-- The program's way to read a zone. -/
def zoneP (s : List UInt8) : Option Int := match minR s with
  | none => none
  | some z => if -840 ≤ z ∧ z ≤ 840 ∧ zoneT z = s then some z else none
theorem zoneP_same (s : List UInt8) : zoneP s = zoneR s := by
  cases e : zoneR s with
  | some z =>
    obtain ⟨h1, h2, h3⟩ := zone_back s z e
    unfold zoneP
    rw [← h1, min_read z h2 h3]
    simp only
    rw [if_pos ⟨h2, h3, trivial⟩]
  | none =>
    unfold zoneP
    cases e2 : minR s with
    | none => rfl
    | some z =>
      simp only
      rw [if_neg]
      rintro ⟨h1, h2, h3⟩
      rw [← h3, zone_read z h1 h2] at e
      cases e
theorem Digit_is (d : Int) (h0 : 0 ≤ d) (h1 : d < 10) (w : World) (tab : Tab w) :
    Calls Tryd.prog 26 #[.int .i64 d] w fun e w' => e = .returned (.string ⟨[UInt8.ofNat (48 + d.toNat)].toArray⟩) ∧ Below w.heap.size w w' := by
  have h := Number_any d (by omega) (by omega) w tab
  have e : Lib.itoa d = [UInt8.ofNat (48 + d.toNat)] := by
    unfold Lib.itoa
    rw [if_neg (by omega), Lib.decDigits_one (by omega)]
  rw [e] at h
  exact h
set_option maxHeartbeats 2000000 in
theorem twoDigits_is (n : Int) (h0 : 0 ≤ n) (h1 : n < 100) (w : World) (tab : Tab w) :
    Calls Tryd.prog 39 #[.int .i64 n] w fun e w' => e = .returned (.string ⟨(twoD n.toNat).toArray⟩) ∧ Below w.heap.size w w' := by
  have q1 := IntWalk.i64_quo n 10 (by omega)
  have q2 := IntWalk.rem_in n 10 (by omega)
  have c1 := Digit_is (n / 10) (by omega) (by omega) w tab
  have TAB := Lib.hid tab
  have c2 := fun w t => Digit_is (n % 10) (by omega) (by omega) w t
  have ad := fun w => add_lists (P := Tryd.prog) w [UInt8.ofNat (48 + (n / 10).toNat)] [UInt8.ofNat (48 + (n % 10).toNat)] (by simp)
  have E := Lib.hid (show [UInt8.ofNat (48 + (n / 10).toNat)] ++ [UInt8.ofNat (48 + (n % 10).toNat)] = twoD n.toNat by
    unfold twoD
    rw [show (n / 10).toNat = n.toNat / 10 by omega, show (n % 10).toNat = n.toNat % 10 by omega]
    rfl)
  generalize [UInt8.ofNat (48 + (n / 10).toNat)] = l1 at c1 ad E
  generalize [UInt8.ofNat (48 + (n % 10).toNat)] = l2 at c2 ad E
  clear tab
  go_enter Tryd.func39, Tryd.ntmps39
  go_wp2_with fail
  refine c1.mono ?_
  rintro e w1 ⟨rfl, b1⟩
  go_wp2_with fail
  refine (c2 _ (TAB.out.keep b1)).mono ?_
  rintro e w2 ⟨rfl, b2⟩
  have ad2 := ad w2
  clear c2 ad
  go_wp2
  go_ret
  exact ⟨ret_str E.out, b1.trans (b2.mono b1.size)⟩
set_option maxHeartbeats 2000000 in
theorem zoneText_is (z : Int) (h0 : -840 ≤ z) (h1 : z ≤ 840) (w : World) (tab : Tab w) :
    Calls Tryd.prog 23 #[.int .i64 z] w fun e w' => e = .returned (.string ⟨(zoneT z).toArray⟩) ∧ Below w.heap.size w w' := by
  obtain ⟨n, hn⟩ : ∃ n : Nat, z.natAbs = n := ⟨_, rfl⟩
  have q1 := IntWalk.i64_quo (n : Int) 60 (by omega)
  have q2 := IntWalk.rem_in (n : Int) 60 (by omega)
  have c1 := fun w t => twoDigits_is ((n : Int) / 60) (by omega) (by omega) w t
  have c2 := fun w t => twoDigits_is ((n : Int) % 60) (by omega) (by omega) w t
  rw [show ((n : Int) / 60).toNat = n / 60 by omega] at c1
  rw [show ((n : Int) % 60).toNat = n % 60 by omega] at c2
  have E := Lib.hid (show zoneT z = (if z < 0 then (45 : UInt8) else 43) :: (twoD (n / 60) ++ twoD (n % 60)) by unfold zoneT; rw [hn])
  have T1 := Lib.hid (show (twoD (n / 60)).length = 2 from rfl)
  have T2 := Lib.hid (show (twoD (n % 60)).length = 2 from rfl)
  generalize twoD (n / 60) = l1 at c1 E T1
  generalize twoD (n % 60) = l2 at c2 E T2
  have TAB := Lib.hid tab
  clear tab
  by_cases hneg : z < 0
  · have hz : -z = (n : Int) := by omega
    have ad1 := fun w => add_lists (P := Tryd.prog) w [45] l1 (by rw [T1.out]; simp)
    have ad2 := fun w => add_lists (P := Tryd.prog) w (45 :: l1) l2 (by rw [List.length_cons, T1.out, T2.out]; simp)
    rw [if_pos hneg] at E
    clear hn
    go_enter Tryd.func23, Tryd.ntmps23
    go_wp2_with fail
    refine (c1 _ TAB.out).mono ?_
    rintro e w1 ⟨rfl, b1⟩
    have ad1 := ad1 w1
    go_wp2_with fail
    refine (c2 _ (TAB.out.keep b1)).mono ?_
    rintro e w2 ⟨rfl, b2⟩
    have ad2 := ad2 w2
    go_wp2
    go_ret
    exact ⟨ret_str (by rw [E.out]), b1.trans (b2.mono b1.size)⟩
  · have hz : z = (n : Int) := by omega
    have ad1 := fun w => add_lists (P := Tryd.prog) w [43] l1 (by rw [T1.out]; simp)
    have ad2 := fun w => add_lists (P := Tryd.prog) w (43 :: l1) l2 (by rw [List.length_cons, T1.out, T2.out]; simp)
    rw [if_neg hneg] at E
    clear hn
    subst hz
    go_enter Tryd.func23, Tryd.ntmps23
    go_wp2_with fail
    refine (c1 _ TAB.out).mono ?_
    rintro e w1 ⟨rfl, b1⟩
    have ad1 := ad1 w1
    go_wp2_with fail
    refine (c2 _ (TAB.out.keep b1)).mono ?_
    rintro e w2 ⟨rfl, b2⟩
    have ad2 := ad2 w2
    go_wp2
    go_ret
    exact ⟨ret_str (by rw [E.out]), b1.trans (b2.mono b1.size)⟩
def placeL : List Nat := [600, 60, 10, 1]
/-- The places of a zone's digits, as the program's variable has them. -/
structure ZTab (w : World) : Prop where
  lt : 0 < w.heap.size
  cell : ∀ k : Nat, k < 4 → w.cell? ⟨0, k, none⟩ = some (.int .i64 ((placeL.getD k 0 : Nat) : Int))
theorem ZTab.keep {w w' : World} (h : ZTab w) (hb : Below w.heap.size w w') : ZTab w' :=
  ⟨Nat.lt_of_lt_of_le h.lt hb.size, fun k hk => (hb.cell (p := ⟨0, k, none⟩) h.lt).trans (h.cell k hk)⟩
def minA (s : List UInt8) : Value := match minR s with
  | none => .tuple #[.int .i64 0, .bool false]
  | some z => .tuple #[.int .i64 z, .bool true]
theorem min_len (s : List UInt8) (h : s.length ≠ 5) : minR s = none := by
  match s, h with
  | [], _ => rfl
  | [_], _ => rfl
  | [_, _], _ => rfl
  | [_, _, _], _ => rfl
  | [_, _, _, _], _ => rfl
  | [_, _, _, _, _], h => exact absurd rfl h
  | _ :: _ :: _ :: _ :: _ :: _ :: _, _ => rfl
theorem min_bad (x : UInt8) (m : List UInt8) (i : Nat) (hi : i < m.length) (h4 : m.length = 4) (h : digB (m.getD i 0) = false) : minR (x :: m) = none := by
  match m, h4, hi, h with
  | [a, b, c, d], _, hi, h =>
    show minV x a b c d = none
    unfold minV
    rw [if_neg]
    rintro ⟨h1, h2, h3, h5⟩
    obtain rfl | rfl | rfl | rfl : i = 0 ∨ i = 1 ∨ i = 2 ∨ i = 3 := by simp at hi; omega
    · simp at h; rw [h] at h1; cases h1
    · simp at h; rw [h] at h2; cases h2
    · simp at h; rw [h] at h3; cases h3
    · simp at h; rw [h] at h5; cases h5
def zsum (m : List UInt8) : Nat → Nat
  | 0 => 0
  | i + 1 => zsum m i + digV (m.getD i 0) * placeL.getD i 0
theorem min_good (x : UInt8) (m : List UInt8) (h4 : m.length = 4) (h : ∀ i, i < 4 → digB (m.getD i 0) = true) : minR (x :: m) = some (if x.toNat = 45 then -((zsum m 4 : Nat) : Int) else ((zsum m 4 : Nat) : Int)) := by
  match m, h4, h with
  | [a, b, c, d], _, h =>
    show minV x a b c d = _
    unfold minV
    have e : zsum [a, b, c, d] 4 = digV a * 600 + digV b * 60 + digV c * 10 + digV d := by
      simp [zsum, placeL]
    rw [if_pos ⟨h 0 (by omega), h 1 (by omega), h 2 (by omega), h 3 (by omega)⟩, e]
theorem zsum_le (m : List UInt8) : ∀ i, i ≤ 4 → (∀ j, j < i → digB (m.getD j 0) = true) → zsum m i ≤ 5400 * i
  | 0, _, _ => Nat.le_refl _
  | i + 1, hi, h => by
    have ih := zsum_le m i (by omega) (fun j hj => h j (by omega))
    have hd := (digB_iff _ (h i (by omega))).2
    have hp : placeL.getD i 0 ≤ 600 := by
      obtain rfl | rfl | rfl | rfl : i = 0 ∨ i = 1 ∨ i = 2 ∨ i = 3 := by omega
      · decide
      · decide
      · decide
      · decide
    have hm : digV (m.getD i 0) * placeL.getD i 0 ≤ 9 * 600 := Nat.mul_le_mul (by omega) hp
    show zsum m i + digV (m.getD i 0) * placeL.getD i 0 ≤ _
    omega
set_option maxHeartbeats 16000000 in
set_option maxRecDepth 100000 in
theorem minutes_five (x : UInt8) (m : List UInt8) (h4 : m.length = 4) (w : World) (tab : ZTab w) :
    Calls Tryd.prog 21 #[.string ⟨(x :: m).toArray⟩] w fun e w' => e = .returned (minA (x :: m)) ∧ Below w.heap.size w w' := by
  have RI := Lib.hid (rune_int m)
  have MB := Lib.hid (fun i hi h => min_bad x m i hi h4 h)
  have MG := Lib.hid (min_good x m h4)
  have ZS := Lib.hid (zsum_le m)
  have hsz : (⟨(x :: m).toArray⟩ : ByteArray).size = 5 := by rw [size_toArray, List.length_cons, h4]
  have htz := size_toArray m
  have hext : (⟨(x :: m).toArray⟩ : ByteArray).extract 1 5 = ⟨m.toArray⟩ := ext_from (x :: m) 1 5 (by rw [List.length_cons, h4])
  have hx : ∀ h, (⟨(x :: m).toArray⟩ : ByteArray)[0]'h = x := fun _ => rfl
  generalize (⟨(x :: m).toArray⟩ : ByteArray) = s at hsz hext hx ⊢
  generalize (⟨m.toArray⟩ : ByteArray) = t at RI htz hext
  have hx0 := hx (by omega)
  have ZT := Lib.hid tab
  have it0 := Lib.hid (World.iter_heap w t 0)
  have bl0 := Lib.hid ((Below.refl w.heap.size w).alloc (Nat.le_refl _) (.stringIter t 0))
  clear hx tab
  go_enter Tryd.func21, Tryd.ntmps21
  go_wp2_with fail
  go_loopw [4] (fun v4 wr => ∃ i : Nat, i ≤ 4 ∧ v4 = .int .i64 (zsum m i : Nat) ∧ (∀ j, j < i → digB (m.getD j 0) = true) ∧ wr.heap[w.heap.size]? = some (.stringIter t i) ∧ Below w.heap.size w wr) (fun _ wr => 4 - wr.iterPos w.heap.size)
  case atStart => exact ⟨0, by omega, rfl, fun j hj => absurd hj (Nat.not_lt_zero _), it0.out, bl0.out⟩
  case round =>
    clear it0 bl0
    obtain ⟨i, hi, rfl, hdg, hit, hbr⟩ := hrel
    have DG := Lib.hid hdg
    clear hdg
    by_cases hlt : i < 4
    · have hnx := fun ty => Lib.run_next_any_at (P := Tryd.prog) wr w.heap.size t i ty hit (by omega)
      obtain ⟨r, k, hr, hk, hr0, hr1, hk1, hkl, hw⟩ := RI.out i (by omega)
      rw [← hr, ← hk] at hnx
      clear hr hk
      have HP := Lib.hid (show wr.iterPos w.heap.size = i by simp [World.iterPos, hit])
      have hit2 := Lib.iterAt_heap wr w.heap.size t i (i + k) hit
      have hbr2 := Lib.below_iterAt hbr (k := w.heap.size) (Nat.le_refl _) t (i + k)
      generalize wr.iterAt w.heap.size t (i + k) = w3 at hnx hit2 hbr2
      clear hit hbr
      by_cases c1 : 48 ≤ r ∧ r ≤ 57
      · obtain ⟨c1, c2⟩ := c1
        have hlow : k = 1 ∧ r = ((m.getD i 0).toNat : Int) := by
          rcases hw with ⟨_, h1, h2⟩ | ⟨h, _, _⟩
          · exact ⟨h2, h1⟩
          · omega
        obtain ⟨rfl, hrb⟩ := hlow
        have RD := Lib.hid (show ((digV (m.getD i 0) : Nat) : Int) = r - 48 by unfold digV; omega)
        have DG2 := Lib.hid (show ∀ j, j < i + 1 → digB (m.getD j 0) = true from fun j hj => by
          by_cases e : j = i
          · subst e; unfold digB; rw [Bool.and_eq_true, decide_eq_true_eq, decide_eq_true_eq]; omega
          · exact DG.out j (by omega))
        clear hw hrb
        have four : i = 0 ∨ i = 1 ∨ i = 2 ∨ i = 3 := by omega
        rcases four with rfl | rfl | rfl | rfl
        · have hcell : w3.cell? ⟨0, 0, none⟩ = some (.int .i64 600) := (ZT.out.keep hbr2).cell 0 (by omega)
          have EZ := Lib.hid (show zsum m 1 = zsum m 0 + digV (m.getD 0 0) * 600 from rfl)
          have Z1 := Lib.hid (zsum_le m 0 (by omega) DG.out)
          obtain ⟨z, hz⟩ : ∃ z, z = zsum m 0 := ⟨_, rfl⟩
          have hz2 := Z1.out
          rw [← hz] at hz2 EZ
          have E2 := Lib.hid (show (zsum m 1 : Int) = z + (r - 48) * 600 by rw [EZ.out]; have h := RD.out; omega)
          rw [← hz]
          clear hz
          go_wp2
          go_roundw
          case rel => exact ⟨1, by omega, by first | (rw [E2.out]; done) | (rw [E2.out]; go_num), DG2.out, hit2, hbr2⟩
          case measure =>
            rw [HP.out, show World.iterPos _ w.heap.size = 0 + 1 by simp [World.iterPos, hit2]]
            omega
        · have hcell : w3.cell? ⟨0, 1, none⟩ = some (.int .i64 60) := (ZT.out.keep hbr2).cell 1 (by omega)
          have EZ := Lib.hid (show zsum m 2 = zsum m 1 + digV (m.getD 1 0) * 60 from rfl)
          have Z1 := Lib.hid (zsum_le m 1 (by omega) DG.out)
          obtain ⟨z, hz⟩ : ∃ z, z = zsum m 1 := ⟨_, rfl⟩
          have hz2 := Z1.out
          rw [← hz] at hz2 EZ
          have E2 := Lib.hid (show (zsum m 2 : Int) = z + (r - 48) * 60 by rw [EZ.out]; have h := RD.out; omega)
          rw [← hz]
          clear hz
          go_wp2
          go_roundw
          case rel => exact ⟨2, by omega, by first | (rw [E2.out]; done) | (rw [E2.out]; go_num), DG2.out, hit2, hbr2⟩
          case measure =>
            rw [HP.out, show World.iterPos _ w.heap.size = 1 + 1 by simp [World.iterPos, hit2]]
            omega
        · have hcell : w3.cell? ⟨0, 2, none⟩ = some (.int .i64 10) := (ZT.out.keep hbr2).cell 2 (by omega)
          have EZ := Lib.hid (show zsum m 3 = zsum m 2 + digV (m.getD 2 0) * 10 from rfl)
          have Z1 := Lib.hid (zsum_le m 2 (by omega) DG.out)
          obtain ⟨z, hz⟩ : ∃ z, z = zsum m 2 := ⟨_, rfl⟩
          have hz2 := Z1.out
          rw [← hz] at hz2 EZ
          have E2 := Lib.hid (show (zsum m 3 : Int) = z + (r - 48) * 10 by rw [EZ.out]; have h := RD.out; omega)
          rw [← hz]
          clear hz
          go_wp2
          go_roundw
          case rel => exact ⟨3, by omega, by first | (rw [E2.out]; done) | (rw [E2.out]; go_num), DG2.out, hit2, hbr2⟩
          case measure =>
            rw [HP.out, show World.iterPos _ w.heap.size = 2 + 1 by simp [World.iterPos, hit2]]
            omega
        · have hcell : w3.cell? ⟨0, 3, none⟩ = some (.int .i64 1) := (ZT.out.keep hbr2).cell 3 (by omega)
          have EZ := Lib.hid (show zsum m 4 = zsum m 3 + digV (m.getD 3 0) * 1 from rfl)
          have Z1 := Lib.hid (zsum_le m 3 (by omega) DG.out)
          obtain ⟨z, hz⟩ : ∃ z, z = zsum m 3 := ⟨_, rfl⟩
          have hz2 := Z1.out
          rw [← hz] at hz2 EZ
          have E2 := Lib.hid (show (zsum m 4 : Int) = z + (r - 48) * 1 by rw [EZ.out]; have h := RD.out; omega)
          rw [← hz]
          clear hz
          go_wp2
          go_roundw
          case rel => exact ⟨4, by omega, by first | (rw [E2.out]; done) | (rw [E2.out]; go_num), DG2.out, hit2, hbr2⟩
          case measure =>
            rw [HP.out, show World.iterPos _ w.heap.size = 3 + 1 by simp [World.iterPos, hit2]]
            omega
      · have hbad : digB (m.getD i 0) = false := by
          unfold digB
          rcases hw with ⟨_, h1, h2⟩ | ⟨_, _, h⟩
          · rw [Bool.and_eq_false_iff, decide_eq_false_iff_not, decide_eq_false_iff_not]; omega
          · have := h i (Nat.le_refl _) (by omega); rw [Bool.and_eq_false_iff, decide_eq_false_iff_not, decide_eq_false_iff_not]; omega
        have NO := Lib.hid (MB.out i (by omega) hbad)
        clear hw hbad
        by_cases c2 : r < 48
        · go_wp2
          go_ret2
          exact ⟨by unfold minA; rw [NO.out]; rfl, hbr2⟩
        · have c3 : 57 < r := by omega
          go_wp2
          go_ret2
          exact ⟨by unfold minA; rw [NO.out]; rfl, hbr2⟩
    · obtain rfl : i = 4 := by omega
      have hnx := fun ty => Lib.run_next_end_at (P := Tryd.prog) wr w.heap.size t 4 ty hit (by omega)
      have G := Lib.hid (MG.out (fun j hj => DG.out j (by omega)))
      have Z1 := zsum_le m 4 (by omega) DG.out
      generalize zsum m 4 = z at G Z1 ⊢
      by_cases h45 : x.toNat = 45
      · have f : ((x.toNat : Int) == 45) = true := by simp [h45]
        rw [if_pos h45] at G
        clear h45
        go_wp2
        go_ret2
        exact ⟨by unfold minA; rw [G.out]; rfl, hbr⟩
      · have f : ((x.toNat : Int) == 45) = false := by simp; omega
        rw [if_neg h45] at G
        clear h45
        go_wp2
        go_ret2
        exact ⟨by unfold minA; rw [G.out]; rfl, hbr⟩
set_option maxHeartbeats 400000 in
theorem minutes_other (l : List UInt8) (h : l.length ≠ 5) (hn : l.length ≤ 1000000) (w : World) :
    Calls Tryd.prog 21 #[.string ⟨l.toArray⟩] w fun e w' => e = .returned (minA l) ∧ Below w.heap.size w w' := by
  have hsz := size_toArray l
  have NO := Lib.hid (min_len l h)
  have MA := Lib.hid (show minA l = .tuple #[.int .i64 0, .bool false] by unfold minA; rw [NO.out])
  rw [MA.out]
  generalize (⟨l.toArray⟩ : ByteArray) = s at hsz ⊢
  have f : (((l.length : Nat) : Int) != 5) = true := by simp; omega
  clear h
  go_enter Tryd.func21, Tryd.ntmps21
  go_wp2
  go_ret2
  exact ⟨rfl, Below.refl _ _⟩
theorem minutes_is (l : List UInt8) (hn : l.length ≤ 1000000) (w : World) (tab : ZTab w) :
    Calls Tryd.prog 21 #[.string ⟨l.toArray⟩] w fun e w' => e = .returned (minA l) ∧ Below w.heap.size w w' := by
  by_cases h : l.length = 5
  · cases l with
    | nil => cases h
    | cons x m => exact minutes_five x m (by simpa using h) w tab
  · exact minutes_other l h hn w
def zoneA (s : List UInt8) : Value := match zoneR s with
  | none => .tuple #[.int .i64 0, .int .i64 4]
  | some z => .tuple #[.int .i64 z, .int .i64 0]
theorem zoneA_none {s : List UInt8} (h : zoneP s = none) : zoneA s = .tuple #[.int .i64 0, .int .i64 4] := by
  rw [zoneP_same] at h; unfold zoneA; rw [h]
theorem zoneA_some {s : List UInt8} {z : Int} (h : zoneP s = some z) : zoneA s = .tuple #[.int .i64 z, .int .i64 0] := by
  rw [zoneP_same] at h; unfold zoneA; rw [h]
set_option maxHeartbeats 4000000 in
set_option maxRecDepth 100000 in
theorem Zone_is (l : List UInt8) (hn : l.length ≤ 1000000) (w : World) (tab : Tab w) (zt : ZTab w) :
    Calls Tryd.prog 11 #[.string ⟨l.toArray⟩] w fun e w' => e = .returned (zoneA l) ∧ Below w.heap.size w w' := by
  have c1 := minutes_is l hn w zt
  have TAB := Lib.hid tab
  clear tab zt
  cases hm : minR l with
  | none =>
    have A := zoneA_none (show zoneP l = none by unfold zoneP; rw [hm])
    have M : minA l = .tuple #[.int .i64 0, .bool false] := by unfold minA; rw [hm]
    rw [M] at c1
    rw [A]
    clear A M hm
    go_enter Tryd.func11, Tryd.ntmps11
    go_wp2_with fail
    refine c1.mono ?_
    rintro e w1 ⟨rfl, b1⟩
    go_wp2
    go_ret2
    exact ⟨rfl, b1⟩
  | some z =>
    have M : minA l = .tuple #[.int .i64 z, .bool true] := by unfold minA; rw [hm]
    rw [M] at c1
    clear M
    have c2 := fun w => rightZone_is z w
    by_cases hz : -840 ≤ z ∧ z ≤ 840
    · rw [decide_eq_true hz.1, decide_eq_true hz.2] at c2
      have c3 := fun w t => zoneText_is z hz.1 hz.2 w t
      by_cases ht : zoneT z = l
      · have A := zoneA_some (show zoneP l = some z by unfold zoneP; rw [hm]; simp only; rw [if_pos ⟨hz.1, hz.2, ht⟩])
        have f : (zoneT z == l) = true := by rw [ht]; simp
        rw [A]
        generalize zoneT z = t at c3 f
        clear A hm ht hz
        go_enter Tryd.func11, Tryd.ntmps11
        go_wp2_with fail
        refine c1.mono ?_
        rintro e w1 ⟨rfl, b1⟩
        go_wp2_with fail
        refine (c2 _).mono ?_
        rintro e w2 ⟨rfl, rfl⟩
        go_wp2_with fail
        refine (c3 _ (TAB.out.keep b1)).mono ?_
        rintro e w3 ⟨rfl, b3⟩
        go_wp2
        go_ret2
        exact ⟨rfl, b1.trans (b3.mono b1.size)⟩
      · have A := zoneA_none (show zoneP l = none by unfold zoneP; rw [hm]; simp only; rw [if_neg (fun h => ht h.2.2)])
        have f : (zoneT z == l) = false := by rw [beq_eq_false_iff_ne]; exact ht
        rw [A]
        generalize zoneT z = t at c3 f
        clear A hm ht hz
        go_enter Tryd.func11, Tryd.ntmps11
        go_wp2_with fail
        refine c1.mono ?_
        rintro e w1 ⟨rfl, b1⟩
        go_wp2_with fail
        refine (c2 _).mono ?_
        rintro e w2 ⟨rfl, rfl⟩
        go_wp2_with fail
        refine (c3 _ (TAB.out.keep b1)).mono ?_
        rintro e w3 ⟨rfl, b3⟩
        go_wp2
        go_ret2
        exact ⟨rfl, b1.trans (b3.mono b1.size)⟩
    · have A := zoneA_none (show zoneP l = none by unfold zoneP; rw [hm]; simp only; rw [if_neg (fun h => hz ⟨h.1, h.2.1⟩)])
      have e2 : (decide (-840 ≤ z) && decide (z ≤ 840)) = false := by
        rw [Bool.and_eq_false_iff, decide_eq_false_iff_not, decide_eq_false_iff_not]; omega
      rw [e2] at c2
      rw [A]
      clear A hm hz e2
      go_enter Tryd.func11, Tryd.ntmps11
      go_wp2_with fail
      refine c1.mono ?_
      rintro e w1 ⟨rfl, b1⟩
      go_wp2_with fail
      refine (c2 _).mono ?_
      rintro e w2 ⟨rfl, rfl⟩
      go_wp2
      go_ret2
      exact ⟨rfl, b1⟩
end Go.Proofs.YtagfnnpklefhhaaDoor
