/-
  Texts that belong together, one behind the other.
-/
import Derived.Test.YtonkclkopmdahaaGreatDoorFu08
import Derived.Test.YtonkclkopmdahaaGreatDoorFu02
import Derived.Test.YtonkclkopmdahaaGreatDoorShelf
import Derived.Lib.LaidTab
import Derived.Lib.ItoaNum
import Derived.WalkSmall
import Derived.IntWalk
import Derived.Lib.AppendIntMem
import Derived.Test.YtonkclkopmdahaaGreatDoorFu07
import Derived.Lib.ItoaLen
import Derived.Deep.RegionHeld3
/-
  Layer 6: allowed, Clean and rightText of the program.
-/
namespace Go.Proofs.YtonkclkopmdahaaGreatDoor
open Go.RowKit
set_option linter.unusedVariables false
set_option linter.unusedSimpArgs false

theorem free_keep (f out v : List UInt8) (i : Nat) (h : f = out ++ (pieces (v.drop i)).flatten) (hi : i < v.length) (hv : Lib.validD (v.drop i) = true) (hb : barR (Lib.decodeL (v.drop i)).1 = false) :
    f = (out ++ (v.drop i).take (widL (v.drop i))) ++ (pieces (v.drop (i + widL (v.drop i)))).flatten ∧ Lib.validD (v.drop (i + widL (v.drop i))) = true := by
  have hne := drop_ne v i hi
  obtain ⟨hg, hv2⟩ := good_of_valid _ hne hv
  rw [pieces_step _ hne, if_pos ((keep_iff _ hne hg).2 hb), List.flatten_cons, List.drop_drop, ← List.append_assoc] at h
  rw [List.drop_drop] at hv2
  exact ⟨h, hv2⟩
theorem free_skip (f out v : List UInt8) (i : Nat) (h : f = out ++ (pieces (v.drop i)).flatten) (hi : i < v.length) (hv : Lib.validD (v.drop i) = true) (hb : barR (Lib.decodeL (v.drop i)).1 = true) :
    f = out ++ (pieces (v.drop (i + widL (v.drop i)))).flatten ∧ Lib.validD (v.drop (i + widL (v.drop i))) = true := by
  have hne := drop_ne v i hi
  obtain ⟨hg, hv2⟩ := good_of_valid _ hne hv
  rw [pieces_step _ hne, if_neg (fun hk => by rw [(keep_iff _ hne hg).1 hk] at hb; cases hb), List.drop_drop] at h
  rw [List.drop_drop] at hv2
  exact ⟨h, hv2⟩

set_option maxHeartbeats 16000000 in
set_option maxRecDepth 100000 in
theorem allowed_is (l : List UInt8) (w : World) (hn : l.length ≤ 1000000) (hT : Lib.Utf8Tabs 0 1 w) :
    Calls Tryz.prog 84 #[.string ⟨l.toArray⟩] w fun e w' => e = .returned (.string ⟨(freeT l).toArray⟩) ∧ Below w.heap.size w w' := by
  have BN := Lib.hid (Bu.new w)
  have B1 := Lib.hid ((Below.refl w.heap.size w).alloc (Nat.le_refl _) (.cells #[.pointer none, .slice none 0 0] 67))
  have TV := Lib.hid (ToValid_is l (w.alloc (.cells #[.pointer none, .slice none 0 0] 67)) hn (Utf8Tabs_below hT B1.out))
  have VL := valT_len l
  have VV := valT_valid l
  have V0 := Lib.hid (show freeT l = [] ++ (pieces ((valT l).drop 0)).flatten by rw [List.drop_zero, valT_pieces, List.nil_append]; rfl)
  have VV0 := Lib.hid (show Lib.validD ((valT l).drop 0) = true by rw [List.drop_zero]; exact VV)
  obtain ⟨f, hf⟩ : ∃ f, f = freeT l := ⟨_, rfl⟩
  rw [← hf] at V0 ⊢
  clear hf VV
  generalize valT l = v at TV V0 VV0 VL
  have hvl : v.length ≤ 1000000 := by omega
  have RI := Lib.hid (rune_int v)
  have hsz := size_toArray v
  have DD := Lib.hid (dec_drop v)
  generalize (⟨v.toArray⟩ : ByteArray) = t at TV RI hsz DD
  go_enter Tryz.func84, Tryz.ntmps84
  go_wp2_with fail
  refine TV.out.mono ?_
  rintro e w1 ⟨rfl, b1⟩
  have hb1 := B1.out.trans (b1.mono B1.out.size)
  have bn1 := BN.out.below b1
  have lt1 := bn1.lt
  have it1 := World.iter_heap w1 t 0
  have i10 : Bu w.heap.size w.heap.size [] (w1.iter t 0) := bn1.alloc _
  have hb10 := hb1.alloc hb1.size (.stringIter t 0)
  have hsz1 := hb1.size
  have I1 := Lib.hid i10
  have B10 := Lib.hid hb10
  clear TV BN B1 bn1 b1 hb1 i10 hb10
  go_wp2_with fail
  go_loopw [] (fun wr => ∃ (i : Nat) (out : List UInt8), i ≤ v.length ∧ f = out ++ (pieces (v.drop i)).flatten ∧ Lib.validD (v.drop i) = true ∧ out.length ≤ i ∧ wr.heap[w1.heap.size]? = some (.stringIter t i) ∧ Bu w.heap.size w.heap.size out wr ∧ Below w.heap.size w wr) (fun wr => v.length - wr.iterPos w1.heap.size)
  case atStart => exact ⟨0, [], Nat.zero_le _, V0.out, VV0.out, Nat.le_refl _, it1, I1.out, B10.out⟩
  case round =>
    clear I1 B10 it1 V0 VV0
    obtain ⟨i, out, hi, hfo, hval, hol, hit, hbu, hbr⟩ := hrel
    have FO := Lib.hid hfo
    have VA := Lib.hid hval
    clear hfo hval
    by_cases hlt : i < v.length
    · have hnx := fun ty => Lib.run_next_any_at (P := Tryz.prog) wr w1.heap.size t i ty hit (by omega)
      obtain ⟨r, k, hr, hk, hr0, hr1, hk1, hkl, hw⟩ := RI.out i hlt
      rw [← hr, ← hk] at hnx
      obtain ⟨n, hnn⟩ : ∃ n : Nat, n = (Lib.decodeL (v.drop i)).1 := ⟨_, rfl⟩
      have hrn : r = (n : Int) := by rw [hr, DD.out, hnn]
      have HK2 := Lib.hid (show k = widL (v.drop i) by rw [hk, DD.out]; rfl)
      have KP := Lib.hid (free_keep f out v i FO.out hlt VA.out)
      have SK := Lib.hid (free_skip f out v i FO.out hlt VA.out)
      rw [← hnn, ← HK2.out] at KP SK
      have GD := Lib.hid (good_of_valid (v.drop i) (drop_ne v i hlt) VA.out).1
      have HN := Lib.hid hnn
      have TK := Lib.hid (show ((v.drop i).take k).length ≤ k by rw [List.length_take]; omega)
      clear hr hk hw hnn
      subst hrn
      have HP := Lib.hid (show wr.iterPos w1.heap.size = i by simp [World.iterPos, hit])
      have hit2 := Lib.iterAt_heap wr w1.heap.size t i (i + k) hit
      have hbu2 : Bu w.heap.size w.heap.size _ _ := hbu.iterAt hit (i + k)
      have hbr2 := Lib.below_iterAt hbr (k := w1.heap.size) (by omega) t (i + k)
      generalize wr.iterAt w1.heap.size t (i + k) = w3 at hnx hit2 hbu2 hbr2
      clear hit hbu hbr
      cases hbar : barR n with
      | true =>
        obtain ⟨s1, s2⟩ := SK.out hbar
        have S1 := Lib.hid s1
        have S2 := Lib.hid s2
        have cB := fun w => barred_is n (by omega) w
        rw [hbar] at cB
        clear s1 s2 hbar
        go_wp2_with fail
        refine (cB _).mono ?_
        rintro e w4 ⟨rfl, rfl⟩
        go_wp2
        go_roundw
        case rel => exact ⟨i + k, out, by omega, S1.out, S2.out, by omega, hit2, hbu2, hbr2⟩
        case measure =>
          rw [HP.out, show World.iterPos _ w1.heap.size = i + k by simp [World.iterPos, hit2]]
          omega
      | false =>
        obtain ⟨s1, s2⟩ := KP.out hbar
        have S1 := Lib.hid s1
        have S2 := Lib.hid s2
        have cB := fun w => barred_is n (by omega) w
        rw [hbar] at cB
        have cW := hbu2.rune hbr2.size (v.drop i) (drop_ne v i hlt) GD.out (by omega) (n : Int) (by rw [HN.out])
        rw [← HK2.out] at cW
        clear s1 s2 hbar
        go_wp2_with fail
        refine (cB _).mono ?_
        rintro e w4 ⟨rfl, rfl⟩
        go_wp2_with fail
        refine cW.mono ?_
        rintro e w5 ⟨rfl, i5, b5, o5⟩
        have hit5 := o5.iter hit2 (by omega)
        have hbr5 := hbr2.trans b5
        go_wp2
        go_roundw
        case rel => exact ⟨i + k, out ++ (v.drop i).take k, by omega, S1.out, S2.out, by have := TK.out; rw [List.length_append]; omega, hit5, i5, hbr5⟩
        case measure =>
          rw [HP.out, show World.iterPos _ w1.heap.size = i + k by simp [World.iterPos, hit5]]
          omega
    · obtain rfl : i = v.length := by omega
      have hnx := fun ty => Lib.run_next_end_at (P := Tryz.prog) wr w1.heap.size t v.length ty hit (by omega)
      have E := Lib.hid (show f = out by have := FO.out; rw [List.drop_length, pieces_nil] at this; simpa using this)
      go_wp2_with fail
      refine (hbu.text hbr.size).mono ?_
      rintro e w4 ⟨rfl, b4⟩
      go_wp2
      go_ret
      exact ⟨by rw [E.out]; rfl, hbr.trans b4⟩

set_option maxHeartbeats 4000000 in
set_option maxRecDepth 100000 in
theorem Clean_is (l : List UInt8) (w : World) (hn : l.length ≤ 1000000) (hT : Lib.Utf8Tabs 0 1 w) :
    Calls Tryz.prog 72 #[.string ⟨l.toArray⟩] w fun e w' => e = .returned (.string ⟨(cleanT l).toArray⟩) ∧ Below w.heap.size w w' := by
  have hpl := pieces_len l
  have hll := lstrip_len (pieces l)
  have c1 := allowed_is l w hn hT
  have c2 := fun w => Tryz.strings_TrimLeft_one ⟨(freeT l).toArray⟩ 32 (by decide) w
  have c3 := fun w => prefix_is (lstrip (pieces l)).flatten (lstrip (pieces l)) rfl (lstrip_rune l) (by omega) w
  have c4 := fun w => Tryz.strings_TrimRight_one ⟨(cutT l).toArray⟩ 32 (by decide) w (by
    rw [size_toArray]
    have := fit_len (lstrip (pieces l)) 200
    unfold cutT
    omega)
  have e2 : (⟨(freeT l).toArray⟩ : ByteArray).data.toList = freeT l := rfl
  have e4 : (⟨(cutT l).toArray⟩ : ByteArray).data.toList = cutT l := rfl
  rw [e2, clean_left] at c2
  rw [e4, clean_right] at c4
  change ∀ w, Calls _ _ _ w fun e w' => e = .returned (.string ⟨(cutT l).toArray⟩) ∧ _ at c3
  generalize (⟨(freeT l).toArray⟩ : ByteArray) = s1 at c1 c2
  generalize (⟨((lstrip (pieces l)).flatten).toArray⟩ : ByteArray) = s2 at c2 c3
  generalize (⟨(cutT l).toArray⟩ : ByteArray) = s3 at c3 c4
  generalize (⟨(cleanT l).toArray⟩ : ByteArray) = s4 at c4 ⊢
  clear e2 e4 hpl hll hT
  go_enter Tryz.func72, Tryz.ntmps72
  go_wp2_with fail
  refine c1.mono ?_
  rintro e w1 ⟨rfl, b1⟩
  go_wp2_with fail
  refine (c2 _).mono ?_
  rintro e w2 ⟨rfl, rfl⟩
  go_wp2_with fail
  refine (c3 _).mono ?_
  rintro e w3 ⟨rfl, b3⟩
  go_wp2_with fail
  refine (c4 _).mono ?_
  rintro e w4 ⟨rfl, rfl⟩
  go_wp2
  go_ret
  exact ⟨rfl, b1.trans (b3.mono b1.size)⟩

set_option maxHeartbeats 4000000 in
theorem rightText_is (l : List UInt8) (w : World) (hn : l.length ≤ 1000000) (hT : Lib.Utf8Tabs 0 1 w) :
    Calls Tryz.prog 53 #[.string ⟨l.toArray⟩] w fun e w' => e = .returned (.bool (wordL l)) ∧ Below w.heap.size w w' := by
  have c1 := Clean_is l w hn hT
  have E : (cleanT l == l) = wordL l := by
    cases h : wordL l with
    | true => rw [(clean_iff l).2 h]; simp
    | false =>
      rw [beq_eq_false_iff_ne]
      intro e
      rw [(clean_iff l).1 e] at h
      cases h
  have E2 := Lib.hid E
  clear E hT
  generalize cleanT l = m at c1 E2
  go_enter Tryz.func53, Tryz.ntmps53
  go_wp2_with fail
  refine c1.mono ?_
  rintro e w1 ⟨rfl, b1⟩
  go_wp2
  go_ret
  exact ⟨ret_bool E2.out, b1⟩
end Go.Proofs.YtonkclkopmdahaaGreatDoor

/-
  Layer 1: Number of the program.
-/
namespace Go.Proofs.YtonkclkopmdahaaGreatDoor
set_option maxRecDepth 20000
open Go.RowKit
set_option linter.unusedVariables false

/-- strconv's table of powers holds what its initialiser lays. -/
def Tab (w : World) : Prop := Lib.TabIs Tryz.prog w "internal/strconv.uint64pow10" .u64 Lib.pow10Tab ∧ 3 < w.heap.size
theorem gPow : Tryz.prog.globalNamed "internal/strconv.uint64pow10" = some 3 := by kernel_rfl
theorem Tab.keep {w w' : World} (h : Tab w) (hb : Below w.heap.size w w') : Tab w' :=
  ⟨var?_below hb gPow h.2 h.1, Nat.lt_of_lt_of_le h.2 hb.size⟩

set_option maxHeartbeats 400000 in
theorem Number_any (n : Int) (h0 : -9223372036854775808 ≤ n) (h1 : n ≤ 9223372036854775807) (w : World) (htab : Tab w) :
    Calls Tryz.prog 41 #[.int .i64 n] w fun e w' => e = .returned (.string ⟨(Lib.itoa n).toArray⟩) ∧ Below w.heap.size w w' := by
  go_enter Tryz.func41, Tryz.ntmps41
  go_wp2_with fail
  refine (Tryz.strconv_FormatInt_10 n h0 h1 _ htab.1).mono ?_
  rintro e w1 ⟨rfl, k, os, rfl⟩
  go_wp2
  go_ret
  exact ⟨rfl, Lib.below_grow _ _ (Nat.le_refl _) _ _⟩
end Go.Proofs.YtonkclkopmdahaaGreatDoor

/-
  Layer 6: zones of the program, written: twoDigits, zoneText.
-/
namespace Go.Proofs.YtonkclkopmdahaaGreatDoor
open Go.RowKit
set_option linter.unusedVariables false
set_option linter.unusedSimpArgs false

theorem Digit_is (d : Int) (h0 : 0 ≤ d) (h1 : d < 10) (w : World) (tab : Tab w) :
    Calls Tryz.prog 41 #[.int .i64 d] w fun e w' => e = .returned (.string ⟨[UInt8.ofNat (48 + d.toNat)].toArray⟩) ∧ Below w.heap.size w w' := by
  have h := Number_any d (by omega) (by omega) w tab
  have e : Lib.itoa d = [UInt8.ofNat (48 + d.toNat)] := by
    unfold Lib.itoa
    rw [if_neg (by omega), Lib.decDigits_one (by omega)]
  rw [e] at h
  exact h
set_option maxHeartbeats 2000000 in
theorem twoDigits_is (n : Int) (h0 : 0 ≤ n) (h1 : n < 100) (w : World) (tab : Tab w) :
    Calls Tryz.prog 64 #[.int .i64 n] w fun e w' => e = .returned (.string ⟨(twoD n.toNat).toArray⟩) ∧ Below w.heap.size w w' := by
  have q1 := IntWalk.i64_quo n 10 (by omega)
  have q2 := IntWalk.rem_in n 10 (by omega)
  have c1 := Digit_is (n / 10) (by omega) (by omega) w tab
  have TAB := Lib.hid tab
  have c2 := fun w t => Digit_is (n % 10) (by omega) (by omega) w t
  have ad := fun w => add_lists (P := Tryz.prog) w [UInt8.ofNat (48 + (n / 10).toNat)] [UInt8.ofNat (48 + (n % 10).toNat)] (by simp)
  have E := Lib.hid (show [UInt8.ofNat (48 + (n / 10).toNat)] ++ [UInt8.ofNat (48 + (n % 10).toNat)] = twoD n.toNat by
    unfold twoD
    rw [show (n / 10).toNat = n.toNat / 10 by omega, show (n % 10).toNat = n.toNat % 10 by omega]
    rfl)
  generalize [UInt8.ofNat (48 + (n / 10).toNat)] = l1 at c1 ad E
  generalize [UInt8.ofNat (48 + (n % 10).toNat)] = l2 at c2 ad E
  clear tab
  go_enter Tryz.func64, Tryz.ntmps64
  go_wp2_with fail
  refine c1.mono ?_
  rintro e w1 ⟨rfl, b1⟩
  go_wp2_with fail
  refine (c2 _ (TAB.out.keep b1)).mono ?_
  rintro e w2 ⟨rfl, b2⟩
  have ad2 := ad w2
  clear c2 ad
  go_wp2
  go_ret
  exact ⟨ret_str E.out, b1.trans (b2.mono b1.size)⟩
set_option maxHeartbeats 2000000 in
theorem zoneText_is (z : Int) (h0 : -840 ≤ z) (h1 : z ≤ 840) (w : World) (tab : Tab w) :
    Calls Tryz.prog 42 #[.int .i64 z] w fun e w' => e = .returned (.string ⟨(zoneT z).toArray⟩) ∧ Below w.heap.size w w' := by
  obtain ⟨n, hn⟩ : ∃ n : Nat, z.natAbs = n := ⟨_, rfl⟩
  have q1 := IntWalk.i64_quo (n : Int) 60 (by omega)
  have q2 := IntWalk.rem_in (n : Int) 60 (by omega)
  have c1 := fun w t => twoDigits_is ((n : Int) / 60) (by omega) (by omega) w t
  have c2 := fun w t => twoDigits_is ((n : Int) % 60) (by omega) (by omega) w t
  rw [show ((n : Int) / 60).toNat = n / 60 by omega] at c1
  rw [show ((n : Int) % 60).toNat = n % 60 by omega] at c2
  have E := Lib.hid (show zoneT z = (if z < 0 then (45 : UInt8) else 43) :: (twoD (n / 60) ++ twoD (n % 60)) by unfold zoneT; rw [hn])
  have T1 := Lib.hid (show (twoD (n / 60)).length = 2 from rfl)
  have T2 := Lib.hid (show (twoD (n % 60)).length = 2 from rfl)
  generalize twoD (n / 60) = l1 at c1 E T1
  generalize twoD (n % 60) = l2 at c2 E T2
  have TAB := Lib.hid tab
  clear tab
  by_cases hneg : z < 0
  · have hz : -z = (n : Int) := by omega
    have ad1 := fun w => add_lists (P := Tryz.prog) w [45] l1 (by rw [T1.out]; simp)
    have ad2 := fun w => add_lists (P := Tryz.prog) w (45 :: l1) l2 (by rw [List.length_cons, T1.out, T2.out]; simp)
    rw [if_pos hneg] at E
    clear hn
    go_enter Tryz.func42, Tryz.ntmps42
    go_wp2_with fail
    refine (c1 _ TAB.out).mono ?_
    rintro e w1 ⟨rfl, b1⟩
    have ad1 := ad1 w1
    go_wp2_with fail
    refine (c2 _ (TAB.out.keep b1)).mono ?_
    rintro e w2 ⟨rfl, b2⟩
    have ad2 := ad2 w2
    go_wp2
    go_ret
    exact ⟨ret_str (by rw [E.out]), b1.trans (b2.mono b1.size)⟩
  · have hz : z = (n : Int) := by omega
    have ad1 := fun w => add_lists (P := Tryz.prog) w [43] l1 (by rw [T1.out]; simp)
    have ad2 := fun w => add_lists (P := Tryz.prog) w (43 :: l1) l2 (by rw [List.length_cons, T1.out, T2.out]; simp)
    rw [if_neg hneg] at E
    clear hn
    subst hz
    go_enter Tryz.func42, Tryz.ntmps42
    go_wp2_with fail
    refine (c1 _ TAB.out).mono ?_
    rintro e w1 ⟨rfl, b1⟩
    have ad1 := ad1 w1
    go_wp2_with fail
    refine (c2 _ (TAB.out.keep b1)).mono ?_
    rintro e w2 ⟨rfl, b2⟩
    have ad2 := ad2 w2
    go_wp2
    go_ret
    exact ⟨ret_str (by rw [E.out]), b1.trans (b2.mono b1.size)⟩
end Go.Proofs.YtonkclkopmdahaaGreatDoor

/-
  Layer 6: Right and Print of the program.
-/
namespace Go.Proofs.YtonkclkopmdahaaGreatDoor
open Go.RowKit
set_option linter.unusedVariables false
set_option linter.unusedSimpArgs false

/-- An ident as a value. -/
def idtV (i : Idt) : Value := .agg #[.string ⟨i.name.toArray⟩, .string ⟨i.email.toArray⟩, .int .i64 i.whn, .int .i64 i.zone]
/-- What layer 6 reads of the world. -/
structure T6 (w : World) : Prop where
  pow : Tab w
  utf : Lib.Utf8Tabs 0 1 w
theorem T6.keep {w w' : World} (h : T6 w) (hb : Below w.heap.size w w') : T6 w' := ⟨h.pow.keep hb, Utf8Tabs_below h.utf hb⟩

set_option maxHeartbeats 4000000 in
set_option maxRecDepth 100000 in
theorem Right_is (i : Idt) (h1 : i.name.length ≤ 1000000) (h2 : i.email.length ≤ 1000000) (w : World) (tab : T6 w) :
    Calls Tryz.prog 32 #[idtV i] w fun e w' => e = .returned (.bool (rightI i)) ∧ Below w.heap.size w w' := by
  obtain ⟨name, email, t, z⟩ := i
  unfold idtV rightI
  simp only at h1 h2 ⊢
  have c1 := fun w hT => rightText_is name w h1 hT
  have c2 := fun w hT => rightText_is email w h2 hT
  have c3 := fun w => rightZone_is z w
  generalize (⟨name.toArray⟩ : ByteArray) = sn at c1 ⊢
  generalize (⟨email.toArray⟩ : ByteArray) = se at c2 ⊢
  have B0 := Lib.hid ((Below.refl w.heap.size w).alloc (Nat.le_refl _) (.cells #[.string sn, .string se, .int .i64 t, .int .i64 z] 26))
  have T0 := Lib.hid (Utf8Tabs_below tab.utf B0.out)
  have N0 := Lib.hid (heap_alloc_new w (.cells #[.string sn, .string se, .int .i64 t, .int .i64 z] 26))
  have S0 := Lib.hid (show (w.alloc (.cells #[.string sn, .string se, .int .i64 t, .int .i64 z] 26)).heap.size = w.heap.size + 1 by simp)
  clear tab h1 h2
  generalize wordL name = bn at c1 ⊢
  generalize wordL email = be at c2 ⊢
  cases bn with
  | false =>
    go_enter Tryz.func32, Tryz.ntmps32
    go_wp2_with fail
    refine (c1 _ T0.out).mono ?_
    rintro e w1 ⟨rfl, b1⟩
    have hb1 := B0.out.trans (b1.mono B0.out.size)
    go_wp2
    go_ret
    exact ⟨rfl, hb1⟩
  | true =>
    go_enter Tryz.func32, Tryz.ntmps32
    go_wp2_with fail
    refine (c1 _ T0.out).mono ?_
    rintro e w1 ⟨rfl, b1⟩
    have hb1 := B0.out.trans (b1.mono B0.out.size)
    have hN1 := (b1.block w.heap.size (by rw [S0.out]; omega)).trans N0.out
    have hc1 : w1.cell? ⟨w.heap.size, 1, none⟩ = some (.string se) := by rw [Lib.cell_of_heap hN1]; rfl
    have T1 := Lib.hid (Utf8Tabs_below T0.out b1)
    have S1 := Lib.hid (show w.heap.size < w1.heap.size by have := b1.size; rw [S0.out] at this; omega)
    have N1 := Lib.hid hN1
    clear b1 hN1
    go_wp2_with fail
    refine (c2 _ T1.out).mono ?_
    rintro e w2 ⟨rfl, b2⟩
    have hb2 := hb1.trans (b2.mono hb1.size)
    have hN2 := (b2.block w.heap.size S1.out).trans N1.out
    have hc2 : w2.cell? ⟨w.heap.size, 2, none⟩ = some (.int .i64 t) := by rw [Lib.cell_of_heap hN2]; rfl
    have hc3 : w2.cell? ⟨w.heap.size, 3, none⟩ = some (.int .i64 z) := by rw [Lib.cell_of_heap hN2]; rfl
    clear hb1 b2 hN2 N1 N0 S0 S1 T1 T0 B0 c1 c2
    cases be with
    | false =>
      go_wp2
      go_ret
      exact ⟨rfl, hb2⟩
    | true =>
      by_cases t0 : 0 ≤ t
      · by_cases t1 : t ≤ 1099511627775
        · go_wp2_with fail
          refine (c3 _).mono ?_
          rintro e w3 ⟨rfl, rfl⟩
          go_wp2
          go_ret
          exact ⟨ret_bool (by rw [decide_eq_true t0, decide_eq_true t1]; simp [Bool.and_assoc]), hb2⟩
        · have u1 := decide_eq_false t1
          go_wp2
          go_ret
          exact ⟨ret_bool (by rw [u1]; simp), hb2⟩
      · have u0 := decide_eq_false t0
        go_wp2
        go_ret
        exact ⟨ret_bool (by rw [u0]; simp), hb2⟩

/-! Print. -/
def Rest (w w' : World) : Prop := T6 w' ∧ Below w.heap.size w w' ∧ w.heap.size < w'.heap.size
/-- What holds of the world while an ident's text is put together: three of its fields, where they lie; the tables. -/
abbrev PS (se : ByteArray) (t z : Int) (w w' : World) : Prop :=
  w'.cell? ⟨w.heap.size, 1, none⟩ = some (.string se) ∧ w'.cell? ⟨w.heap.size, 2, none⟩ = some (.int .i64 t) ∧ w'.cell? ⟨w.heap.size, 3, none⟩ = some (.int .i64 z) ∧ Rest w w'
theorem ps_keep {se : ByteArray} {t z : Int} {w w1 w2 : World} (h : PS se t z w w1) (hb : Below w1.heap.size w1 w2) : PS se t z w w2 := by
  obtain ⟨h1, h2, h3, h4, h5, h6⟩ := h
  exact ⟨(hb.cell (p := ⟨w.heap.size, 1, none⟩) h6).trans h1, (hb.cell (p := ⟨w.heap.size, 2, none⟩) h6).trans h2, (hb.cell (p := ⟨w.heap.size, 3, none⟩) h6).trans h3, h4.keep hb, h5.trans (hb.mono h5.size), Nat.lt_of_lt_of_le h6 hb.size⟩
theorem ps_drew {se : ByteArray} {t z : Int} {w w1 : World} (h : PS se t z w w1) : PS se t z w w1.drew := ps_keep h ((Below.refl w1.heap.size w1).drew)
theorem num_len (t : Int) (h0 : 0 ≤ t) (h1 : t ≤ 1099511627775) : (Lib.itoa t).length ≤ 21 := Lib.itoa_length_le t (by omega) (by omega)

set_option maxHeartbeats 8000000 in
set_option maxRecDepth 100000 in
theorem Print_bad (i : Idt) (h1 : i.name.length ≤ 1000000) (h2 : i.email.length ≤ 1000000) (hr : rightI i = false) (w : World) (tab : T6 w) :
    Calls Tryz.prog 23 #[idtV i] w fun e w' => e = .returned (.string ⟨#[]⟩) ∧ Below w.heap.size w w' := by
  have cR := fun w t => Right_is i h1 h2 w t
  rw [hr] at cR
  unfold idtV at cR ⊢
  have B0 := Lib.hid ((Below.refl w.heap.size w).alloc (Nat.le_refl _) (.cells #[.string ⟨i.name.toArray⟩, .string ⟨i.email.toArray⟩, .int .i64 i.whn, .int .i64 i.zone] 26))
  have T0 := Lib.hid (tab.keep B0.out)
  clear tab
  go_enter Tryz.func23, Tryz.ntmps23
  go_wp2_with fail
  refine (cR _ T0.out).mono ?_
  rintro e w1 ⟨rfl, b1⟩
  go_wp2
  go_ret
  exact ⟨rfl, B0.out.trans (b1.mono B0.out.size)⟩

set_option maxHeartbeats 8000000 in
set_option maxRecDepth 100000 in
theorem Print_good (i : Idt) (hr : rightI i = true) (w : World) (tab : T6 w) :
    Calls Tryz.prog 23 #[idtV i] w fun e w' => e = .returned (.string ⟨(textT i.name i.email (Lib.itoa i.whn) (zoneT i.zone)).toArray⟩) ∧ Below w.heap.size w w' := by
  obtain ⟨r1, r2, r3, r4, r5, r6⟩ := (right_iff i).1 hr
  have l1 := ((word_iff _).1 r1).2.1
  have l2 := ((word_iff _).1 r2).2.1
  have l3 := num_len i.whn r3 r4
  have l4 := zone_len i.zone
  have cR := fun w t => Right_is i (by omega) (by omega) w t
  rw [hr] at cR
  have cN := fun w t => Number_any i.whn (by omega) (by omega) w t
  have cZ := fun w t => zoneText_is i.zone r5 r6 w t
  unfold idtV at cR ⊢
  obtain ⟨name, email, t, z⟩ := i
  simp only at cR cN cZ l1 l2 l3 l4 ⊢
  clear r1 r2 hr
  generalize Lib.itoa t = num at cN l3 ⊢
  generalize zoneT z = zt at cZ l4 ⊢
  have B0 := Lib.hid ((Below.refl w.heap.size w).alloc (Nat.le_refl _) (.cells #[.string ⟨name.toArray⟩, .string ⟨email.toArray⟩, .int .i64 t, .int .i64 z] 26))
  have T0 := Lib.hid (tab.keep B0.out)
  have N0 := Lib.hid (heap_alloc_new w (.cells #[.string ⟨name.toArray⟩, .string ⟨email.toArray⟩, .int .i64 t, .int .i64 z] 26))
  have S0 := Lib.hid (show (w.alloc (.cells #[.string ⟨name.toArray⟩, .string ⟨email.toArray⟩, .int .i64 t, .int .i64 z] 26)).heap.size = w.heap.size + 1 by simp)
  have la : (aheadT name).length ≤ 201 := by
    unfold aheadT
    split
    · simp
    · simp; omega
  have ad0 := fun w => add_lists (P := Tryz.prog) w name [32] (by simp; omega)
  have ad1 := fun w => add_lists (P := Tryz.prog) w (aheadT name) [60] (by simp; omega)
  have ad2 := fun w => add_lists (P := Tryz.prog) w (aheadT name ++ [60]) email (by simp; omega)
  have ad3 := fun w => add_lists (P := Tryz.prog) w (aheadT name ++ [60] ++ email) [62, 32] (by simp; omega)
  have ad4 := fun w => add_lists (P := Tryz.prog) w (aheadT name ++ [60] ++ email ++ [62, 32]) num (by simp; omega)
  have ad5 := fun w => add_lists (P := Tryz.prog) w (aheadT name ++ [60] ++ email ++ [62, 32] ++ num) [32] (by simp; omega)
  have ad6 := fun w => add_lists (P := Tryz.prog) w (aheadT name ++ [60] ++ email ++ [62, 32] ++ num ++ [32]) zt (by simp; omega)
  have E := Lib.hid (show textT name email num zt = aheadT name ++ [60] ++ email ++ [62, 32] ++ num ++ [32] ++ zt by unfold textT; simp)
  rw [E.out]
  generalize (⟨(aheadT name ++ [60] ++ email ++ [62, 32] ++ num ++ [32] ++ zt).toArray⟩ : ByteArray) = s6 at ad6 ⊢
  generalize (⟨(aheadT name ++ [60] ++ email ++ [62, 32] ++ num ++ [32]).toArray⟩ : ByteArray) = s5 at ad5 ad6
  generalize (⟨(aheadT name ++ [60] ++ email ++ [62, 32] ++ num).toArray⟩ : ByteArray) = s4 at ad4 ad5
  generalize (⟨(aheadT name ++ [60] ++ email ++ [62, 32]).toArray⟩ : ByteArray) = s3 at ad3 ad4
  generalize (⟨(aheadT name ++ [60] ++ email).toArray⟩ : ByteArray) = s2 at ad2 ad3
  generalize (⟨(aheadT name ++ [60]).toArray⟩ : ByteArray) = s1 at ad1 ad2
  generalize (⟨email.toArray⟩ : ByteArray) = se at *
  generalize (⟨num.toArray⟩ : ByteArray) = sn at *
  generalize (⟨zt.toArray⟩ : ByteArray) = sz at *
  have dN := fun w' (h : PS se t z w w') => ((cN w' h.2.2.2.1.pow).mono (fun e w'' ⟨he, hb⟩ => ⟨he, ps_keep h hb⟩) : Calls Tryz.prog 41 #[.int .i64 t] w' fun e w'' => e = .returned (.string sn) ∧ PS se t z w w'')
  have dZ := fun w' (h : PS se t z w w') => ((cZ w' h.2.2.2.1.pow).mono (fun e w'' ⟨he, hb⟩ => ⟨he, ps_keep h hb⟩) : Calls Tryz.prog 42 #[.int .i64 z] w' fun e w'' => e = .returned (.string sz) ∧ PS se t z w w'')
  have DN := Lib.hid dN
  have DZ := Lib.hid dZ
  clear tab E l1 l2 l3 l4 la r3 r4 r5 r6 cN cZ dN dZ
  by_cases hne : name = []
  · subst hne
    have ea : aheadT ([] : List UInt8) = [] := rfl
    rw [ea] at ad1
    go_enter Tryz.func23, Tryz.ntmps23
    go_wp2_with fail
    refine (cR _ T0.out).mono ?_
    rintro e w1 ⟨rfl, b1⟩
    have hb1 := B0.out.trans (b1.mono B0.out.size)
    have hN1 := (b1.block w.heap.size (by rw [S0.out]; omega)).trans N0.out
    have hS1 : PS se t z w w1 := ⟨by rw [Lib.cell_of_heap hN1]; rfl, by rw [Lib.cell_of_heap hN1]; rfl, by rw [Lib.cell_of_heap hN1]; rfl, T0.out.keep b1, hb1, by have := b1.size; rw [S0.out] at this; omega⟩
    have hc0 : w1.cell? ⟨w.heap.size, 0, none⟩ = some (.string ⟨#[]⟩) := by rw [Lib.cell_of_heap hN1]; rfl
    have K0 := ps_drew hS1
    clear b1 hb1 hN1 hS1 B0 T0 N0 S0 cR
    go_wp2_with fail
    go_region_held3 (fun w' => w'.cell? ⟨w.heap.size, 1, none⟩ = some (.string se) ∧ w'.cell? ⟨w.heap.size, 2, none⟩ = some (.int .i64 t) ∧ w'.cell? ⟨w.heap.size, 3, none⟩ = some (.int .i64 z) ∧ Rest w w') (assumption)
      (first | (go_at_call 41; refine (DN.out _ (by assumption)).mono ?_; rintro e w' ⟨rfl, hS⟩) | (go_at_call 42; refine (DZ.out _ (by assumption)).mono ?_; rintro e w' ⟨rfl, hS⟩))
    go_wp2
    go_ret
    exact ⟨rfl, hS.2.2.2.2.1⟩
  · have ea : aheadT name = name ++ [32] := by unfold aheadT; rw [if_neg hne]
    rw [ea] at ad1
    generalize (⟨(name ++ [32]).toArray⟩ : ByteArray) = sA at ad0 ad1
    have fe : (name == ([] : List UInt8)) = false := by rw [beq_eq_false_iff_ne]; exact hne
    have fi : name.isEmpty = false := by cases name with | nil => exact absurd rfl hne | cons _ _ => rfl
    clear hne ea
    go_enter Tryz.func23, Tryz.ntmps23
    go_wp2_with fail
    refine (cR _ T0.out).mono ?_
    rintro e w1 ⟨rfl, b1⟩
    have hb1 := B0.out.trans (b1.mono B0.out.size)
    have hN1 := (b1.block w.heap.size (by rw [S0.out]; omega)).trans N0.out
    have hS1 : PS se t z w w1 := ⟨by rw [Lib.cell_of_heap hN1]; rfl, by rw [Lib.cell_of_heap hN1]; rfl, by rw [Lib.cell_of_heap hN1]; rfl, T0.out.keep b1, hb1, by have := b1.size; rw [S0.out] at this; omega⟩
    have hc0 : w1.cell? ⟨w.heap.size, 0, none⟩ = some (.string ⟨name.toArray⟩) := by rw [Lib.cell_of_heap hN1]; rfl
    have K0 := ps_drew hS1
    clear b1 hb1 hN1 hS1 B0 T0 N0 S0 cR
    go_wp2_with fail
    go_region_held3 (fun w' => w'.cell? ⟨w.heap.size, 1, none⟩ = some (.string se) ∧ w'.cell? ⟨w.heap.size, 2, none⟩ = some (.int .i64 t) ∧ w'.cell? ⟨w.heap.size, 3, none⟩ = some (.int .i64 z) ∧ Rest w w') (assumption)
      (first | (go_at_call 41; refine (DN.out _ (by assumption)).mono ?_; rintro e w' ⟨rfl, hS⟩) | (go_at_call 42; refine (DZ.out _ (by assumption)).mono ?_; rintro e w' ⟨rfl, hS⟩))
    go_wp2
    go_ret
    exact ⟨rfl, hS.2.2.2.2.1⟩
theorem Print_is (i : Idt) (h1 : i.name.length ≤ 1000000) (h2 : i.email.length ≤ 1000000) (w : World) (tab : T6 w) :
    Calls Tryz.prog 23 #[idtV i] w fun e w' => e = .returned (.string ⟨(printI Lib.itoa i).toArray⟩) ∧ Below w.heap.size w w' := by
  unfold printI
  cases hr : rightI i with
  | true => rw [if_pos rfl]; exact Print_good i hr w tab
  | false => rw [if_neg (by decide)]; exact Print_bad i h1 h2 hr w tab
end Go.Proofs.YtonkclkopmdahaaGreatDoor

/-
  Layer 9, the program: which records are right.
-/
namespace Go.Proofs.YtonkclkopmdahaaGreatDoor
set_option maxRecDepth 20000
open Go.RowKit
set_option linter.unusedVariables false
set_option linter.unusedSimpArgs false

theorem rightR_way (t : List UInt8) (l : List (List UInt8)) (a c : Idt) (x : List UInt8) : rightR ⟨t, l, a, c, x⟩ = ((!eqD t idZ) && ((decide (l.length ≤ 16) && parentsR l) && (rightI a && (rightI c && textR x)))) := by
  unfold rightR textR
  have e : decide (t ≠ idZ) = !eqD t idZ := by
    cases h : eqD t idZ with
    | true =>
      have h2 := (eqD_iff _ _).1 h
      simp [h2]
    | false =>
      have h2 : t ≠ idZ := fun q => by rw [q, eqD_same] at h; cases h
      simp [h2]
  simp only [e, Bool.and_assoc]
set_option maxHeartbeats 16000000 in
theorem Right9_is (t : List UInt8) (a1 : Option Addr) (n c1 : Nat) (l : List (List UInt8)) (a c : Idt) (x : List UInt8) (w : World) (tab : T6 w) (ht : t.length = 20) (hit : IdsAt w a1 l) (hn : n = l.length) (hm : n ≤ 1000000) (hnc : n ≤ c1) (hid : ∀ i ∈ l, i.length = 20)
    (s1 : a.name.length ≤ 1000000) (s2 : a.email.length ≤ 1000000) (s3 : c.name.length ≤ 1000000) (s4 : c.email.length ≤ 1000000) :
    Calls Tryz.prog 14 #[.agg (arrC t (.slice a1 n c1) a c x)] w fun e w' => e = .returned (.bool (rightR ⟨t, l, a, c, x⟩)) ∧ Below w.heap.size w w' := by
  rw [rightR_way]
  obtain ⟨A1, hA1⟩ : ∃ A, arrC t (.slice a1 n c1) a c x = A := ⟨_, rfl⟩
  obtain ⟨z, hz0, hzs, hzv, hzb, hz1⟩ := zId_any
  have HZ0 := Lib.hid hz0; have pZ := Lib.hid hzb
  have ED := fun u => neq_arrD t idZ ht rfl u
  rw [← HZ0.out] at ED
  unfold arrD at ED
  clear hz0 hzs hz1 hzb hzv
  have b1 : Below w.heap.size w (w.alloc (.cells A1 28)) := (Below.refl w.heap.size w).alloc (Nat.le_refl _) (.cells A1 28)
  have r1 : RecAt (w.alloc (.cells A1 28)) w.heap.size t (.slice a1 n c1) a c x := recAt_of (ty := 28) (fr := (0, 0)) ht (by rw [hA1]; exact heap_alloc_new w _)
  have K := Lib.hid (fun u (hb : Below (w.alloc (.cells A1 28)).heap.size (w.alloc (.cells A1 28)) u) => r1.keep hb)
  have CP := Lib.hid (fun u (hb : Below w.heap.size w u) => rightParents9_is a1 n c1 l u (hit.keep hb) hn hm hnc hid)
  have CA := Lib.hid (fun u (hb : Below w.heap.size w u) => Right_is a s1 s2 u (tab.keep hb))
  have CC := Lib.hid (fun u (hb : Below w.heap.size w u) => Right_is c s3 s4 u (tab.keep hb))
  have CX := Lib.hid (fun u => rightText9_is x u)
  have ea : idtV a = .agg (cellsT a).toArray := rfl
  have ec : idtV c = .agg (cellsT c).toArray := rfl
  rw [ea] at CA
  rw [ec] at CC
  rw [hn] at CP
  rw [← hn] at CP
  have LD := Lib.hid (show (Tryz.prog.info? 23).map (·.size) = some (cellsD t).length by rw [cellsD_len t ht]; exact infoD_n)
  have LA := Lib.hid (show (Tryz.prog.info? 26).map (·.size) = some (cellsT a).length from infoT)
  have LC := Lib.hid (show (Tryz.prog.info? 26).map (·.size) = some (cellsT c).length from infoT)
  have B1 := Lib.hid b1
  have RD := Lib.hid r1.tree
  have p1 := r1.parents
  have KA := Lib.hid (fun u (hb : Below (w.alloc (.cells A1 28)).heap.size (w.alloc (.cells A1 28)) u) => (K.out u hb).author)
  have KC := Lib.hid (fun u (hb : Below (w.alloc (.cells A1 28)).heap.size (w.alloc (.cells A1 28)) u) => (K.out u hb).committer)
  have KX := Lib.hid (fun u (hb : Below (w.alloc (.cells A1 28)).heap.size (w.alloc (.cells A1 28)) u) => (K.out u hb).text)
  have e16 : decide (l.length ≤ 16) = decide (n ≤ 16) := by rw [hn]
  rw [e16]
  rw [hA1]
  clear hit hid hnc hn K r1 b1 ea ec hm tab e16 s1 s2 s3 s4 hA1
  generalize (decide (n ≤ 16) && parentsR l) = bp at *
  generalize rightI a = ba at *
  generalize rightI c = bc at *
  generalize textR x = bx at *
  generalize eqD t idZ = be at *
  generalize cellsD t = cd at *
  generalize cellsT a = ca at *
  generalize cellsT c = cc at *
  generalize (⟨x.toArray⟩ : ByteArray) = X at *
  cases be with
  | true =>
    go_enter Tryz.func14, Tryz.ntmps14
    go_wp2_with (first | (with_reducible refine wpList_load_mid rfl 23 (.tmp 3) rfl w.heap.size 0 rfl cd _ RD.out Tryz.underlying23 rfl LD.out ?_) | (refine wpList_build_none rfl 23 rfl _ pZ.out ?_) | fail)
    go_ret
    exact ⟨rfl, B1.out⟩
  | false =>
    cases bp with
    | false =>
      go_enter Tryz.func14, Tryz.ntmps14
      go_wp2_with (first | (with_reducible refine wpList_load_mid rfl 23 (.tmp 3) rfl w.heap.size 0 rfl cd _ RD.out Tryz.underlying23 rfl LD.out ?_) | (refine wpList_build_none rfl 23 rfl _ pZ.out ?_) | fail)
      refine (CP.out _ B1.out).mono ?_
      rintro e w2 ⟨rfl, hb2⟩
      have HB2 := Lib.hid hb2
      have RA := Lib.hid (KA.out _ hb2)
      clear hb2
      go_wp2_with (first | (with_reducible refine wpList_load_midD 26 (.tmp 13) rfl (by kernel_rfl) w.heap.size 21 rfl ca _ RA.out Tryz.underlying26 rfl LA.out ?_) | fail)
      go_ret
      exact ⟨rfl, B1.out.trans (HB2.out.mono B1.out.size)⟩
    | true =>
      cases ba with
      | false =>
        go_enter Tryz.func14, Tryz.ntmps14
        go_wp2_with (first | (with_reducible refine wpList_load_mid rfl 23 (.tmp 3) rfl w.heap.size 0 rfl cd _ RD.out Tryz.underlying23 rfl LD.out ?_) | (refine wpList_build_none rfl 23 rfl _ pZ.out ?_) | fail)
        refine (CP.out _ B1.out).mono ?_
        rintro e w2 ⟨rfl, hb2⟩
        have HB2 := Lib.hid hb2
        have RA := Lib.hid (KA.out _ hb2)
        clear hb2
        go_wp2_with (first | (with_reducible refine wpList_load_midD 26 (.tmp 13) rfl (by kernel_rfl) w.heap.size 21 rfl ca _ RA.out Tryz.underlying26 rfl LA.out ?_) | fail)
        refine (CA.out _ (B1.out.trans (HB2.out.mono B1.out.size))).mono ?_
        rintro e w3 ⟨rfl, hb3⟩
        have HB3 := Lib.hid (HB2.out.trans (hb3.mono HB2.out.size))
        have RC := Lib.hid (KC.out _ HB3.out)
        clear hb3
        go_wp2_with (first | (with_reducible refine wpList_load_midD 26 (.tmp 18) rfl (by kernel_rfl) w.heap.size 25 rfl cc _ RC.out Tryz.underlying26 rfl LC.out ?_) | fail)
        go_ret
        exact ⟨rfl, B1.out.trans (HB3.out.mono B1.out.size)⟩
      | true =>
        cases bc with
        | false =>
          go_enter Tryz.func14, Tryz.ntmps14
          go_wp2_with (first | (with_reducible refine wpList_load_mid rfl 23 (.tmp 3) rfl w.heap.size 0 rfl cd _ RD.out Tryz.underlying23 rfl LD.out ?_) | (refine wpList_build_none rfl 23 rfl _ pZ.out ?_) | fail)
          refine (CP.out _ B1.out).mono ?_
          rintro e w2 ⟨rfl, hb2⟩
          have HB2 := Lib.hid hb2
          have RA := Lib.hid (KA.out _ hb2)
          clear hb2
          go_wp2_with (first | (with_reducible refine wpList_load_midD 26 (.tmp 13) rfl (by kernel_rfl) w.heap.size 21 rfl ca _ RA.out Tryz.underlying26 rfl LA.out ?_) | fail)
          refine (CA.out _ (B1.out.trans (HB2.out.mono B1.out.size))).mono ?_
          rintro e w3 ⟨rfl, hb3⟩
          have HB3 := Lib.hid (HB2.out.trans (hb3.mono HB2.out.size))
          have RC := Lib.hid (KC.out _ HB3.out)
          clear hb3
          go_wp2_with (first | (with_reducible refine wpList_load_midD 26 (.tmp 18) rfl (by kernel_rfl) w.heap.size 25 rfl cc _ RC.out Tryz.underlying26 rfl LC.out ?_) | fail)
          refine (CC.out _ (B1.out.trans (HB3.out.mono B1.out.size))).mono ?_
          rintro e w4 ⟨rfl, hb4⟩
          have HB4 := Lib.hid (HB3.out.trans (hb4.mono HB3.out.size))
          have p4 := KX.out _ HB4.out
          clear hb4
          go_wp2_with fail
          go_ret
          exact ⟨rfl, B1.out.trans (HB4.out.mono B1.out.size)⟩
        | true =>
          go_enter Tryz.func14, Tryz.ntmps14
          go_wp2_with (first | (with_reducible refine wpList_load_mid rfl 23 (.tmp 3) rfl w.heap.size 0 rfl cd _ RD.out Tryz.underlying23 rfl LD.out ?_) | (refine wpList_build_none rfl 23 rfl _ pZ.out ?_) | fail)
          refine (CP.out _ B1.out).mono ?_
          rintro e w2 ⟨rfl, hb2⟩
          have HB2 := Lib.hid hb2
          have RA := Lib.hid (KA.out _ hb2)
          clear hb2
          go_wp2_with (first | (with_reducible refine wpList_load_midD 26 (.tmp 13) rfl (by kernel_rfl) w.heap.size 21 rfl ca _ RA.out Tryz.underlying26 rfl LA.out ?_) | fail)
          refine (CA.out _ (B1.out.trans (HB2.out.mono B1.out.size))).mono ?_
          rintro e w3 ⟨rfl, hb3⟩
          have HB3 := Lib.hid (HB2.out.trans (hb3.mono HB2.out.size))
          have RC := Lib.hid (KC.out _ HB3.out)
          clear hb3
          go_wp2_with (first | (with_reducible refine wpList_load_midD 26 (.tmp 18) rfl (by kernel_rfl) w.heap.size 25 rfl cc _ RC.out Tryz.underlying26 rfl LC.out ?_) | fail)
          refine (CC.out _ (B1.out.trans (HB3.out.mono B1.out.size))).mono ?_
          rintro e w4 ⟨rfl, hb4⟩
          have HB4 := Lib.hid (HB3.out.trans (hb4.mono HB3.out.size))
          have p4 := KX.out _ HB4.out
          clear hb4
          go_wp2_with fail
          refine (CX.out _).mono ?_
          rintro e w5 ⟨rfl, hb5⟩
          have HB5 := Lib.hid (HB4.out.trans (hb5.mono HB4.out.size))
          clear hb5
          go_wp2
          cases bx with
          | false =>
            go_ret
            exact ⟨rfl, B1.out.trans (HB5.out.mono B1.out.size)⟩
          | true =>
            go_ret
            exact ⟨rfl, B1.out.trans (HB5.out.mono B1.out.size)⟩
end Go.Proofs.YtonkclkopmdahaaGreatDoor
