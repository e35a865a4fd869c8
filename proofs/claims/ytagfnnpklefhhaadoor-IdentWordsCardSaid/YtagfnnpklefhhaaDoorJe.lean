/-
  Layer 6: allowed, Clean and rightText of the program.
-/
import Derived.Test.YtagfnnpklefhhaaDoorJd
namespace Go.Proofs.YtagfnnpklefhhaaDoor
open Go.RowKit
set_option linter.unusedVariables false
set_option linter.unusedSimpArgs false

theorem free_keep (f out v : List UInt8) (i : Nat) (h : f = out ++ (pieces (v.drop i)).flatten) (hi : i < v.length) (hv : Lib.validD (v.drop i) = true) (hb : barR (Lib.decodeL (v.drop i)).1 = false) :
    f = (out ++ (v.drop i).take (widL (v.drop i))) ++ (pieces (v.drop (i + widL (v.drop i)))).flatten ∧ Lib.validD (v.drop (i + widL (v.drop i))) = true := by
  have hne := drop_ne v i hi
  obtain ⟨hg, hv2⟩ := good_of_valid _ hne hv
  rw [pieces_step _ hne, if_pos ((keep_iff _ hne hg).2 hb), List.flatten_cons, List.drop_drop, ← List.append_assoc] at h
  rw [List.drop_drop] at hv2
  exact ⟨h, hv2⟩
theorem free_skip (f out v : List UInt8) (i : Nat) (h : f = out ++ (pieces (v.drop i)).flatten) (hi : i < v.length) (hv : Lib.validD (v.drop i) = true) (hb : barR (Lib.decodeL (v.drop i)).1 = true) :
    f = out ++ (pieces (v.drop (i + widL (v.drop i)))).flatten ∧ Lib.validD (v.drop (i + widL (v.drop i))) = true := by
  have hne := drop_ne v i hi
  obtain ⟨hg, hv2⟩ := good_of_valid _ hne hv
  rw [pieces_step _ hne, if_neg (fun hk => by rw [(keep_iff _ hne hg).1 hk] at hb; cases hb), List.drop_drop] at h
  rw [List.drop_drop] at hv2
  exact ⟨h, hv2⟩

set_option maxHeartbeats 16000000 in
set_option maxRecDepth 100000 in
theorem allowed_is (l : List UInt8) (w : World) (hn : l.length ≤ 1000000) (hT : Lib.Utf8Tabs 1 2 w) :
    Calls Tryd.prog 30 #[.string ⟨l.toArray⟩] w fun e w' => e = .returned (.string ⟨(freeT l).toArray⟩) ∧ Below w.heap.size w w' := by
  have BN := Lib.hid (Bu.new w)
  have B1 := Lib.hid ((Below.refl w.heap.size w).alloc (Nat.le_refl _) (.cells #[.pointer none, .slice none 0 0] 70))
  have TV := Lib.hid (ToValid_is l (w.alloc (.cells #[.pointer none, .slice none 0 0] 70)) hn (Utf8Tabs_below hT B1.out))
  have VL := valT_len l
  have VV := valT_valid l
  have V0 := Lib.hid (show freeT l = [] ++ (pieces ((valT l).drop 0)).flatten by rw [List.drop_zero, valT_pieces, List.nil_append]; rfl)
  have VV0 := Lib.hid (show Lib.validD ((valT l).drop 0) = true by rw [List.drop_zero]; exact VV)
  obtain ⟨f, hf⟩ : ∃ f, f = freeT l := ⟨_, rfl⟩
  rw [← hf] at V0 ⊢
  clear hf VV
  generalize valT l = v at TV V0 VV0 VL
  have hvl : v.length ≤ 1000000 := by omega
  have RI := Lib.hid (rune_int v)
  have hsz := size_toArray v
  have DD := Lib.hid (dec_drop v)
  generalize (⟨v.toArray⟩ : ByteArray) = t at TV RI hsz DD
  go_enter Tryd.func30, Tryd.ntmps30
  go_wp2_with fail
  refine TV.out.mono ?_
  rintro e w1 ⟨rfl, b1⟩
  have hb1 := B1.out.trans (b1.mono B1.out.size)
  have bn1 := BN.out.below b1
  have lt1 := bn1.lt
  have it1 := World.iter_heap w1 t 0
  have i10 : Bu w.heap.size w.heap.size [] (w1.iter t 0) := bn1.alloc _
  have hb10 := hb1.alloc hb1.size (.stringIter t 0)
  have hsz1 := hb1.size
  have I1 := Lib.hid i10
  have B10 := Lib.hid hb10
  clear TV BN B1 bn1 b1 hb1 i10 hb10
  go_wp2_with fail
  go_loopw [] (fun wr => ∃ (i : Nat) (out : List UInt8), i ≤ v.length ∧ f = out ++ (pieces (v.drop i)).flatten ∧ Lib.validD (v.drop i) = true ∧ out.length ≤ i ∧ wr.heap[w1.heap.size]? = some (.stringIter t i) ∧ Bu w.heap.size w.heap.size out wr ∧ Below w.heap.size w wr) (fun wr => v.length - wr.iterPos w1.heap.size)
  case atStart => exact ⟨0, [], Nat.zero_le _, V0.out, VV0.out, Nat.le_refl _, it1, I1.out, B10.out⟩
  case round =>
    clear I1 B10 it1 V0 VV0
    obtain ⟨i, out, hi, hfo, hval, hol, hit, hbu, hbr⟩ := hrel
    have FO := Lib.hid hfo
    have VA := Lib.hid hval
    clear hfo hval
    by_cases hlt : i < v.length
    · have hnx := fun ty => Lib.run_next_any_at (P := Tryd.prog) wr w1.heap.size t i ty hit (by omega)
      obtain ⟨r, k, hr, hk, hr0, hr1, hk1, hkl, hw⟩ := RI.out i hlt
      rw [← hr, ← hk] at hnx
      obtain ⟨n, hnn⟩ : ∃ n : Nat, n = (Lib.decodeL (v.drop i)).1 := ⟨_, rfl⟩
      have hrn : r = (n : Int) := by rw [hr, DD.out, hnn]
      have HK2 := Lib.hid (show k = widL (v.drop i) by rw [hk, DD.out]; rfl)
      have KP := Lib.hid (free_keep f out v i FO.out hlt VA.out)
      have SK := Lib.hid (free_skip f out v i FO.out hlt VA.out)
      rw [← hnn, ← HK2.out] at KP SK
      have GD := Lib.hid (good_of_valid (v.drop i) (drop_ne v i hlt) VA.out).1
      have HN := Lib.hid hnn
      have TK := Lib.hid (show ((v.drop i).take k).length ≤ k by rw [List.length_take]; omega)
      clear hr hk hw hnn
      subst hrn
      have HP := Lib.hid (show wr.iterPos w1.heap.size = i by simp [World.iterPos, hit])
      have hit2 := Lib.iterAt_heap wr w1.heap.size t i (i + k) hit
      have hbu2 : Bu w.heap.size w.heap.size _ _ := hbu.iterAt hit (i + k)
      have hbr2 := Lib.below_iterAt hbr (k := w1.heap.size) (by omega) t (i + k)
      generalize wr.iterAt w1.heap.size t (i + k) = w3 at hnx hit2 hbu2 hbr2
      clear hit hbu hbr
      cases hbar : barR n with
      | true =>
        obtain ⟨s1, s2⟩ := SK.out hbar
        have S1 := Lib.hid s1
        have S2 := Lib.hid s2
        have cB := fun w => barred_is n (by omega) w
        rw [hbar] at cB
        clear s1 s2 hbar
        go_wp2_with fail
        refine (cB _).mono ?_
        rintro e w4 ⟨rfl, rfl⟩
        go_wp2
        go_roundw
        case rel => exact ⟨i + k, out, by omega, S1.out, S2.out, by omega, hit2, hbu2, hbr2⟩
        case measure =>
          rw [HP.out, show World.iterPos _ w1.heap.size = i + k by simp [World.iterPos, hit2]]
          omega
      | false =>
        obtain ⟨s1, s2⟩ := KP.out hbar
        have S1 := Lib.hid s1
        have S2 := Lib.hid s2
        have cB := fun w => barred_is n (by omega) w
        rw [hbar] at cB
        have cW := hbu2.rune hbr2.size (v.drop i) (drop_ne v i hlt) GD.out (by omega) (n : Int) (by rw [HN.out])
        rw [← HK2.out] at cW
        clear s1 s2 hbar
        go_wp2_with fail
        refine (cB _).mono ?_
        rintro e w4 ⟨rfl, rfl⟩
        go_wp2_with fail
        refine cW.mono ?_
        rintro e w5 ⟨rfl, i5, b5, o5⟩
        have hit5 := o5.iter hit2 (by omega)
        have hbr5 := hbr2.trans b5
        go_wp2
        go_roundw
        case rel => exact ⟨i + k, out ++ (v.drop i).take k, by omega, S1.out, S2.out, by have := TK.out; rw [List.length_append]; omega, hit5, i5, hbr5⟩
        case measure =>
          rw [HP.out, show World.iterPos _ w1.heap.size = i + k by simp [World.iterPos, hit5]]
          omega
    · obtain rfl : i = v.length := by omega
      have hnx := fun ty => Lib.run_next_end_at (P := Tryd.prog) wr w1.heap.size t v.length ty hit (by omega)
      have E := Lib.hid (show f = out by have := FO.out; rw [List.drop_length, pieces_nil] at this; simpa using this)
      go_wp2_with fail
      refine (hbu.text hbr.size).mono ?_
      rintro e w4 ⟨rfl, b4⟩
      go_wp2
      go_ret
      exact ⟨by rw [E.out]; rfl, hbr.trans b4⟩

set_option maxHeartbeats 4000000 in
set_option maxRecDepth 100000 in
theorem Clean_is (l : List UInt8) (w : World) (hn : l.length ≤ 1000000) (hT : Lib.Utf8Tabs 1 2 w) :
    Calls Tryd.prog 17 #[.string ⟨l.toArray⟩] w fun e w' => e = .returned (.string ⟨(cleanT l).toArray⟩) ∧ Below w.heap.size w w' := by
  have hpl := pieces_len l
  have hll := lstrip_len (pieces l)
  have c1 := allowed_is l w hn hT
  have c2 := fun w => Tryd.strings_TrimLeft_one ⟨(freeT l).toArray⟩ 32 (by decide) w
  have c3 := fun w => prefix_is (lstrip (pieces l)).flatten (lstrip (pieces l)) rfl (lstrip_rune l) (by omega) w
  have c4 := fun w => Tryd.strings_TrimRight_one ⟨(cutT l).toArray⟩ 32 (by decide) w (by
    rw [size_toArray]
    have := fit_len (lstrip (pieces l)) 200
    unfold cutT
    omega)
  have e2 : (⟨(freeT l).toArray⟩ : ByteArray).data.toList = freeT l := rfl
  have e4 : (⟨(cutT l).toArray⟩ : ByteArray).data.toList = cutT l := rfl
  rw [e2, clean_left] at c2
  rw [e4, clean_right] at c4
  change ∀ w, Calls _ _ _ w fun e w' => e = .returned (.string ⟨(cutT l).toArray⟩) ∧ _ at c3
  generalize (⟨(freeT l).toArray⟩ : ByteArray) = s1 at c1 c2
  generalize (⟨((lstrip (pieces l)).flatten).toArray⟩ : ByteArray) = s2 at c2 c3
  generalize (⟨(cutT l).toArray⟩ : ByteArray) = s3 at c3 c4
  generalize (⟨(cleanT l).toArray⟩ : ByteArray) = s4 at c4 ⊢
  clear e2 e4 hpl hll hT
  go_enter Tryd.func17, Tryd.ntmps17
  go_wp2_with fail
  refine c1.mono ?_
  rintro e w1 ⟨rfl, b1⟩
  go_wp2_with fail
  refine (c2 _).mono ?_
  rintro e w2 ⟨rfl, rfl⟩
  go_wp2_with fail
  refine (c3 _).mono ?_
  rintro e w3 ⟨rfl, b3⟩
  go_wp2_with fail
  refine (c4 _).mono ?_
  rintro e w4 ⟨rfl, rfl⟩
  go_wp2
  go_ret
  exact ⟨rfl, b1.trans (b3.mono b1.size)⟩

set_option maxHeartbeats 4000000 in
theorem rightText_is (l : List UInt8) (w : World) (hn : l.length ≤ 1000000) (hT : Lib.Utf8Tabs 1 2 w) :
    Calls Tryd.prog 24 #[.string ⟨l.toArray⟩] w fun e w' => e = .returned (.bool (wordL l)) ∧ Below w.heap.size w w' := by
  have c1 := Clean_is l w hn hT
  have E : (cleanT l == l) = wordL l := by
    cases h : wordL l with
    | true => rw [(clean_iff l).2 h]; simp
    | false =>
      rw [beq_eq_false_iff_ne]
      intro e
      rw [(clean_iff l).1 e] at h
      cases h
  have E2 := Lib.hid E
  clear E hT
  generalize cleanT l = m at c1 E2
  go_enter Tryd.func24, Tryd.ntmps24
  go_wp2_with fail
  refine c1.mono ?_
  rintro e w1 ⟨rfl, b1⟩
  go_wp2
  go_ret
  exact ⟨ret_bool E2.out, b1⟩
end Go.Proofs.YtagfnnpklefhhaaDoor
