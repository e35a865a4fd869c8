/-
  Layer 11, the document's answers: Right and Branch.
-/
import Derived.Test.YtbnhchffdccjnaaDoorVc
import Derived.Test.YtbnhchffdccjnaaDoorVu
namespace Go.Proofs.YtbnhchffdccjnaaDoor
open Go.RowKit
set_option linter.unusedVariables false
set_option linter.unusedSimpArgs false
set_option maxRecDepth 20000

theorem split_count : ∀ (l : List UInt8), (splitL l).length ≤ l.length + 1
  | [] => by simp [splitL]
  | c :: r => by
    have ih := split_count r
    by_cases h : c.toNat = 47
    · rw [split_slash c r h]; simp; omega
    · obtain ⟨x, m, hx⟩ := split_form r
      rw [split_other c r x m h hx]
      rw [hx] at ih
      simp at ih ⊢
      omega
/-- How far the parts are read: they are right up to a place, and so is each byte up to another one. -/
structure Parts (l : List UInt8) (done : List (List UInt8)) (k i : Nat) : Prop where
  all : done.all partR = true
  split : splitL l = done ++ splitL (l.drop k)
  slash : ∀ j, k ≤ j → j < i → (l.getD j 0).toNat ≠ 47
  ok : ∀ j, j < i → okR (l.getD j 0) = true
theorem Parts.count {l : List UInt8} {done : List (List UInt8)} {k i : Nat} (h : Parts l done k i) : done.length ≤ l.length + 1 := by
  have := split_count l
  rw [h.split, List.length_append] at this
  omega
theorem getD_of (l : List UInt8) (j : Nat) (h : j < l.length) : l.getD j 0 = l[j] := by rw [List.getD_eq_getElem?_getD, List.getElem?_eq_getElem h]; rfl
theorem no_slash {l : List UInt8} {k i : Nat} (h : ∀ j, k ≤ j → j < i → (l.getD j 0).toNat ≠ 47) : ∀ c ∈ (l.drop k).take (i - k), c.toNat ≠ 47 := by
  intro c hc
  obtain ⟨j, hj, rfl⟩ := List.getElem_of_mem hc
  rw [List.length_take, List.length_drop] at hj
  rw [List.getElem_take, List.getElem_drop]
  have := h (k + j) (by omega) (by omega)
  rwa [getD_of l _ (by omega)] at this
theorem Parts.next {l : List UInt8} {done : List (List UInt8)} {k i : Nat} (h : Parts l done k i) (hi : i < l.length) (hk : k ≤ i) (hs : (l.getD i 0).toNat = 47) :
    splitL l = done ++ (l.drop k).take (i - k) :: splitL (l.drop (i + 1)) := by
  rw [h.split]
  congr 1
  have e : l.drop k = (l.drop k).take (i - k) ++ l.getD i 0 :: l.drop (i + 1) := by
    conv => lhs; rw [← List.take_append_drop (i - k) (l.drop k), List.drop_drop, show k + (i - k) = i by omega]
    rw [List.drop_eq_getElem_cons hi, getD_of l i hi]
  conv => lhs; rw [e]
  exact split_at _ _ hs _ (no_slash h.slash)
theorem Parts.last {l : List UInt8} {done : List (List UInt8)} {k : Nat} (h : Parts l done k l.length) (hk : k ≤ l.length) : splitL l = done ++ [l.drop k] := by
  rw [h.split]
  congr 1
  have := no_slash h.slash
  rw [List.take_of_length_le (by rw [List.length_drop]; omega)] at this
  exact split_none _ this
theorem okR_slash (c : UInt8) (h : c.toNat = 47) : okR c = true := by
  rw [UInt8.toNat_inj.1 (show c.toNat = (47 : UInt8).toNat from h)]; decide
theorem Parts.step {l : List UInt8} {done : List (List UInt8)} {k i : Nat} (h : Parts l done k i) (hi : i < l.length) (hk : k ≤ i) (hs : (l.getD i 0).toNat = 47) (hp : partR ((l.drop k).take (i - k)) = true) :
    Parts l (done ++ [(l.drop k).take (i - k)]) (i + 1) (i + 1) where
  all := by rw [List.all_append, h.all]; simp [hp]
  split := by rw [h.next hi hk hs]; simp
  slash := fun j h1 h2 => absurd h2 (by omega)
  ok := fun j hj => by
    by_cases e : j < i
    · exact h.ok j e
    · obtain rfl : j = i := by omega
      exact okR_slash _ hs
theorem Parts.byte {l : List UInt8} {done : List (List UInt8)} {k i : Nat} (h : Parts l done k i) (hs : (l.getD i 0).toNat ≠ 47) (hp : okR (l.getD i 0) = true) : Parts l done k (i + 1) where
  all := h.all
  split := h.split
  slash := fun j h1 h2 => by
    by_cases e : j < i
    · exact h.slash j h1 e
    · obtain rfl : j = i := by omega
      exact hs
  ok := fun j hj => by
    by_cases e : j < i
    · exact h.ok j e
    · obtain rfl : j = i := by omega
      exact hp
theorem suffix_last (l : List UInt8) (h : l ≠ []) : ([46].isSuffixOf l : Bool) = (l.getD (l.length - 1) 0 == 46) := by
  have := suffix_take l [46] (by cases l with | nil => exact absurd rfl h | cons _ _ => simp)
  rw [← this]
  have hl : 0 < l.length := List.length_pos_iff.2 h
  rw [show ([46] : List UInt8).length = 1 from rfl, List.drop_eq_getElem_cons (show l.length - 1 < l.length by omega), List.drop_eq_nil_of_le (by omega), getD_of l _ (by omega)]
  rw [Bool.eq_iff_iff]
  simp

set_option maxHeartbeats 16000000 in
set_option maxRecDepth 100000 in
theorem rRight11 (l : List UInt8) (hl : l.length ≤ 1000000) (w : World) (hT : Lib.Utf8Tabs 0 1 w) :
    Calls Tryd.prog 9 #[.string ⟨l.toArray⟩] w fun e w' => e = .returned (.bool (refL l)) ∧ Below w.heap.size w w' := by
  by_cases hn : l = []
  · subst hn
    go_enter Tryd.func9, Tryd.ntmps9
    go_wp2
    go_ret
    exact ⟨rfl, Below.refl _ _⟩
  have hl0 : 0 < l.length := List.length_pos_iff.2 hn
  have z := size_toArray l
  have cV := fun w (t : Lib.Utf8Tabs 0 1 w) => valid_is l w hl t
  have cD := fun w => Find_two 46 46 l hl w
  have cA := fun w => Find_two 64 123 l hl w
  have SL := Lib.hid (suffix_last l hn)
  have PT := Lib.hid (pairs_two l)
  have CU := Lib.hid (fun a b => cutt_list l a b)
  have GS := Lib.hid (fun i h h2 => getD_str l i h h2)
  obtain ⟨P, hP⟩ : ∃ P, refL l = P := ⟨_, rfl⟩
  have HP := Lib.hid hP
  have TT := Lib.hid hT
  rw [hP]
  obtain ⟨S, hS⟩ : ∃ S : ByteArray, S = ⟨l.toArray⟩ := ⟨_, rfl⟩
  rw [← hS] at z cV cD cA CU GS ⊢
  clear hS hP hT hn
  by_cases h2 : 200 < l.length
  · have R : Hid (P = false) := Lib.hid (by rw [← HP.out]; unfold refL; rw [decide_eq_false (by omega)]; rfl)
    go_enter Tryd.func9, Tryd.ntmps9
    go_wp2
    go_ret
    exact ⟨ret_bool R.out.symm, Below.refl _ _⟩
  obtain ⟨vb, hvb⟩ : ∃ vb, Lib.validD l = vb := ⟨_, rfl⟩
  have HV := Lib.hid hvb
  simp only [hvb] at cV
  clear hvb
  cases vb with
  | false =>
    have R : Hid (P = false) := Lib.hid (by rw [← HP.out]; unfold refL; rw [HV.out]; simp)
    go_enter Tryd.func9, Tryd.ntmps9
    go_wp2_with fail
    refine (cV _ TT.out).mono ?_
    rintro e w1 ⟨rfl, b1⟩
    go_wp2
    go_ret
    exact ⟨ret_bool R.out.symm, b1⟩
  | true =>
    have hlz : (1 : Int) ≤ l.length := by omega
    have q1 : IntKind.i64.wrap ((l.length : Int) - 1) = ((l.length - 1 : Nat) : Int) := by rw [IntWalk.i64_in _ (by omega)]; omega
    obtain ⟨x, hx⟩ : ∃ x, l.getD (l.length - 1) 0 = x := ⟨_, rfl⟩
    have HX := Lib.hid hx
    have gx : ∀ h, S[l.length - 1]'h = x := fun h => by rw [GS.out _ (by omega) h]; exact hx
    clear hx
    go_enter Tryd.func9, Tryd.ntmps9
    go_wp2_with fail
    refine (cV _ TT.out).mono ?_
    rintro e w1 ⟨rfl, b1⟩
    go_wp2_with fail
    refine (cD _).mono ?_
    rintro e w2 ⟨v, rfl, rfl, v1, v2, v3⟩
    by_cases hv : 0 ≤ v
    · have R : Hid (P = false) := Lib.hid (by
        have : pairsL l = false := by rw [← Bool.not_eq_true, PT.out]; exact fun h => h.1 (v3.1 hv)
        rw [← HP.out]; unfold refL; rw [this]; simp)
      clear v3
      go_wp2
      go_ret
      exact ⟨ret_bool R.out.symm, b1⟩
    have N1 := Lib.hid (show ¬ hasTwo 46 46 l from fun h => hv (v3.2 h))
    clear v3
    go_wp2_with fail
    refine (cA _).mono ?_
    rintro e w3 ⟨v', rfl, rfl, v1', v2', v3'⟩
    by_cases hv' : 0 ≤ v'
    · have R : Hid (P = false) := Lib.hid (by
        have : pairsL l = false := by rw [← Bool.not_eq_true, PT.out]; exact fun h => h.2 (v3'.1 hv')
        rw [← HP.out]; unfold refL; rw [this]; simp)
      clear v3'
      go_wp2
      go_ret
      exact ⟨ret_bool R.out.symm, b1⟩
    have N2 := Lib.hid (show ¬ hasTwo 64 123 l from fun h => hv' (v3'.2 h))
    clear v3'
    have PP : Hid (pairsL l = true) := Lib.hid (PT.out.2 ⟨N1.out, N2.out⟩)
    by_cases hx : x = 46
    · subst hx
      have R : Hid (P = false) := Lib.hid (by
        have : ([46].isSuffixOf l : Bool) = true := by rw [SL.out, HX.out]; rfl
        rw [← HP.out]; unfold refL; rw [this]; simp)
      go_wp2
      go_ret
      exact ⟨ret_bool R.out.symm, b1⟩
    have hxz : ((x.toNat : Int) == 46) = false := by
      have : x.toNat ≠ 46 := fun e => hx (UInt8.toNat_inj.1 e)
      simp; omega
    have FORM : Hid (P = (decide (2 ≤ (splitL l).length) && (splitL l).all partR && l.all okR)) := Lib.hid (by
      have : ([46].isSuffixOf l : Bool) = false := by rw [SL.out, HX.out]; exact beq_false_of_ne hx
      rw [← HP.out]; unfold refL; rw [this, PP.out, HV.out, decide_eq_true (show l.length ≤ 200 by omega)]; simp)
    clear hx
    go_wp2_with fail
    clear cV cD cA q1 hlz hxz gx
    go_loopw [3, 4, 5] (fun nv fv iv wr => Below w.heap.size w wr ∧ ∃ i : Nat, iv = .int .i64 i ∧ ((i ≤ l.length ∧ ∃ (done : List (List UInt8)) (k : Nat), nv = .int .i64 done.length ∧ fv = .int .i64 k ∧ k ≤ i ∧ Parts l done k i) ∨ (i = l.length + 1 ∧ nv = .int .i64 (splitL l).length ∧ (splitL l).all partR = true ∧ l.all okR = true ∧ ∃ k : Nat, fv = .int .i64 k))) (fun _ _ i _ => l.length + 2 - (intOf i).toNat)
    case atStart => exact ⟨b1, 0, rfl, .inl ⟨Nat.zero_le _, [], 0, rfl, rfl, Nat.le_refl _, ⟨rfl, by simp, fun j _ h => absurd h (Nat.not_lt_zero _), fun j h => absurd h (Nat.not_lt_zero _)⟩⟩⟩
    case round =>
      obtain ⟨hbr, i, rfl, hcase⟩ := hrel
      have HBR := Lib.hid hbr
      clear hbr
      rcases hcase with ⟨hi, done, k, rfl, rfl, hk, hp⟩ | ⟨rfl, rfl, hA, hO, k, rfl⟩
      · have HPT := Lib.hid hp
        clear hp
        have hdc : done.length ≤ l.length + 1 := HPT.out.count
        by_cases hlast : i = l.length
        · subst hlast
          have ex : S.extract k l.length = ⟨(l.drop k).toArray⟩ := by rw [CU.out, List.take_of_length_le (by rw [List.length_drop]; omega)]
          have cP := fun w => rpart_is (l.drop k) (by rw [List.length_drop]; omega) w
          have LST := Lib.hid (HPT.out.last hk)
          have OKA := Lib.hid ((okR_at l).2 HPT.out.ok)
          obtain ⟨y, hy⟩ : ∃ y, l.drop k = y := ⟨_, rfl⟩
          rw [hy] at ex cP
          have HY := Lib.hid hy
          obtain ⟨pb, hpb⟩ : ∃ pb, partR y = pb := ⟨_, rfl⟩
          rw [hpb] at cP
          have HPB := Lib.hid hpb
          clear hy hpb
          cases pb with
          | false =>
            have R : Hid (P = false) := Lib.hid (by rw [FORM.out, LST.out, List.all_append]; simp [HY.out, HPB.out])
            go_wp2_with fail
            refine (cP _).mono ?_
            rintro e w4 ⟨rfl, rfl⟩
            go_wp2
            go_ret
            exact ⟨ret_bool R.out.symm, HBR.out⟩
          | true =>
            go_wp2_with fail
            refine (cP _).mono ?_
            rintro e w4 ⟨rfl, rfl⟩
            go_wp2
            go_roundw
            case rel => exact ⟨HBR.out, l.length + 1, by go_num, .inr ⟨rfl, congrArg (Value.int .i64) (by rw [LST.out, List.length_append]; rfl), by rw [LST.out, List.all_append, HPT.out.all, HY.out]; simp [HPB.out], OKA.out, l.length + 1, by go_num⟩⟩
            case measure => simp [intOf]
        · have hlt : i < l.length := by omega
          have gi : ∀ h, S[i]'h = l.getD i 0 := fun h => GS.out i hlt h
          have BAD : Hid (okR (l.getD i 0) = false → P = false) := Lib.hid fun h => by
            have : l.all okR = false := by
              rw [← Bool.not_eq_true, okR_at]
              intro h2
              have := h2 i hlt
              rw [h] at this
              cases this
            rw [FORM.out, this]; simp
          have BYTE := Lib.hid (HPT.out.byte (i := i))
          have STEP := Lib.hid (HPT.out.step hlt hk)
          have NEXT := Lib.hid (HPT.out.next hlt hk)
          obtain ⟨c, hc⟩ : ∃ c, l.getD i 0 = c := ⟨_, rfl⟩
          rw [hc] at gi BAD BYTE STEP NEXT
          clear hc
          by_cases hs : c.toNat = 47
          · obtain rfl : c = 47 := UInt8.toNat_inj.1 hs
            have ex : S.extract k i = ⟨((l.drop k).take (i - k)).toArray⟩ := CU.out k i
            have cP := fun w => rpart_is ((l.drop k).take (i - k)) (by rw [List.length_take, List.length_drop]; omega) w
            obtain ⟨y, hy⟩ : ∃ y, (l.drop k).take (i - k) = y := ⟨_, rfl⟩
            rw [hy] at ex cP STEP NEXT
            obtain ⟨pb, hpb⟩ : ∃ pb, partR y = pb := ⟨_, rfl⟩
            rw [hpb] at cP
            have HPB := Lib.hid hpb
            clear hy hpb hs
            cases pb with
            | false =>
              have R : Hid (P = false) := Lib.hid (by rw [FORM.out, NEXT.out rfl, List.all_append]; simp [HPB.out])
              go_wp2_with fail
              refine (cP _).mono ?_
              rintro e w4 ⟨rfl, rfl⟩
              go_wp2
              go_ret
              exact ⟨ret_bool R.out.symm, HBR.out⟩
            | true =>
              go_wp2_with fail
              refine (cP _).mono ?_
              rintro e w4 ⟨rfl, rfl⟩
              go_wp2
              go_roundw
              case rel => exact ⟨HBR.out, i + 1, by go_num, .inl ⟨by omega, done ++ [y], i + 1, congrArg (Value.int .i64) (by rw [List.length_append]; rfl), by go_num, Nat.le_refl _, STEP.out rfl HPB.out⟩⟩
              case measure => simp [intOf]; omega
          · have hcz : ((c.toNat : Int) == 47) = false := by simp; omega
            have c256 := c.toNat_lt
            by_cases h32 : c.toNat ≤ 32
            · have R : Hid (P = false) := Lib.hid (BAD.out (okR_low c h32))
              go_wp2
              go_ret
              exact ⟨ret_bool R.out.symm, HBR.out⟩
            by_cases h127 : c.toNat = 127
            · have R : Hid (P = false) := Lib.hid (BAD.out (okR_del c h127))
              go_wp2
              go_ret
              exact ⟨ret_bool R.out.symm, HBR.out⟩
            have h127z : ((c.toNat : Int) == 127) = false := by simp; omega
            have MID := Lib.hid (okR_mid c (by omega) h127)
            have BY := Lib.hid (BYTE.out hs)
            have FM := Lib.hid (findB_mem signsL c)
            have cF := fun w => Find_byte c signsL 0 (by decide) (by decide) w
            rw [show (⟨signsL.toArray⟩ : ByteArray) = ⟨#[126, 94, 58, 63, 42, 91, 92]⟩ from rfl, show ((0 : Nat) : Int) = 0 from rfl] at cF
            obtain ⟨v, hv⟩ : ∃ v, findB signsL c 0 = v := ⟨_, rfl⟩
            rw [hv] at FM cF
            have hbat : BAt (wr.alloc (.cells #[.int .u8 c.toNat] 5)) (some ⟨wr.heap.size, 0, none⟩) [c] := fun _ => ⟨wr.heap.size, 0, rfl, by simp, fun j hj => by
              obtain rfl : j = 0 := by simp at hj; omega
              exact (cell_of_row _ _ 0 _ _ _ (heap_alloc_new wr _)).trans rfl⟩
            have hcv : (convert 33 9 (.slice (some ⟨wr.heap.size, 0, none⟩) 1 1)).run Tryd.prog (wr.alloc (.cells #[.int .u8 c.toNat] 5)) = .ok (.string ⟨#[c]⟩) (wr.alloc (.cells #[.int .u8 c.toNat] 5)) :=
              hbat.conv (P := Tryd.prog) 1 33 5 Tryd.underlying33 Tryd.underlying5 9 Tryd.underlying9
            have HB2 := Lib.hid (show Below w.heap.size w (wr.alloc (.cells #[.int .u8 c.toNat] 5)) from HBR.out.alloc HBR.out.size _)
            clear hbat hv hs h127
            by_cases hv0 : 0 ≤ v
            · have R : Hid (P = false) := Lib.hid (BAD.out (by rw [MID.out, ← FM.out, decide_eq_true hv0]; rfl))
              go_wp2_with fail
              refine (cF _).mono ?_
              rintro e w4 ⟨rfl, rfl⟩
              go_wp2
              go_ret
              exact ⟨ret_bool R.out.symm, HB2.out⟩
            · have OKC := Lib.hid (show okR c = true by rw [MID.out, ← FM.out, decide_eq_false hv0]; rfl)
              go_wp2_with fail
              refine (cF _).mono ?_
              rintro e w4 ⟨rfl, rfl⟩
              go_wp2
              go_roundw
              case rel => exact ⟨HB2.out, i + 1, by go_num, .inl ⟨by omega, done, k, rfl, rfl, by omega, BY.out OKC.out⟩⟩
              case measure => simp [intOf]; omega
      · have hsc : (splitL l).length ≤ l.length + 1 := split_count l
        have R : Hid (P = decide (2 ≤ (splitL l).length)) := Lib.hid (by rw [FORM.out, hA, hO]; simp)
        obtain ⟨m, hm⟩ : ∃ m, (splitL l).length = m := ⟨_, rfl⟩
        rw [hm] at R hsc ⊢
        clear hA hO hm
        go_wp2
        go_ret
        exact ⟨ret_bool (by rw [R.out]; exact decide_eq_decide.2 (by omega)), HBR.out⟩

set_option maxHeartbeats 4000000 in
theorem rBranch11 (l : List UInt8) (hl : l.length ≤ 900000) (w : World) (hT : Lib.Utf8Tabs 0 1 w) :
    Calls Tryd.prog 11 #[.string ⟨l.toArray⟩] w fun e w' => e = .returned (.bool (branchL l)) ∧ Below w.heap.size w w' := by
  have hs := fun u => add_lists (P := Tryd.prog) u headsL l (by rw [show headsL.length = 11 from rfl]; omega)
  rw [show (⟨headsL.toArray⟩ : ByteArray) = ⟨#[114, 101, 102, 115, 47, 104, 101, 97, 100, 115, 47]⟩ from rfl] at hs
  have cR := fun w t => rRight11 (headsL ++ l) (by rw [List.length_append, show headsL.length = 11 from rfl]; omega) w t
  have cB := fun w => Begins_is l [45] (by omega) (by decide) w
  rw [show (⟨[45].toArray⟩ : ByteArray) = ⟨#[45]⟩ from rfl] at cB
  have hb : (l.take ([45] : List UInt8).length == [45]) = ([45].isPrefixOf l : Bool) := by
    cases l with
    | nil => rfl
    | cons c r =>
      rw [Bool.eq_iff_iff]
      simp [List.isPrefixOf]
      exact ⟨fun h => h.symm, fun h => h.symm⟩
  rw [hb] at cB
  obtain ⟨P, hP⟩ : ∃ P, branchL l = P := ⟨_, rfl⟩
  have HP := Lib.hid hP
  unfold branchL at hP
  rw [show branchL l = P from HP.out]
  obtain ⟨a, ha⟩ : ∃ a, refL (headsL ++ l) = a := ⟨_, rfl⟩
  obtain ⟨b, hb2⟩ : ∃ b, ([45].isPrefixOf l : Bool) = b := ⟨_, rfl⟩
  rw [ha] at cR hP
  rw [hb2] at cB hP
  have R := Lib.hid hP
  have TT := Lib.hid hT
  obtain ⟨S, hS⟩ : ∃ S : ByteArray, S = ⟨l.toArray⟩ := ⟨_, rfl⟩
  rw [← hS] at hs cB ⊢
  obtain ⟨S2, hS2⟩ : ∃ S2 : ByteArray, S2 = ⟨(headsL ++ l).toArray⟩ := ⟨_, rfl⟩
  rw [← hS2] at hs cR
  clear hS hS2 hP ha hb hb2 hT
  cases a with
  | false =>
    go_enter Tryd.func11, Tryd.ntmps11
    go_wp2_with fail
    refine (cR _ TT.out).mono ?_
    rintro e w1 ⟨rfl, b1⟩
    go_wp2
    go_ret
    exact ⟨ret_bool (by rw [← R.out]; simp), b1⟩
  | true =>
    go_enter Tryd.func11, Tryd.ntmps11
    go_wp2_with fail
    refine (cR _ TT.out).mono ?_
    rintro e w1 ⟨rfl, b1⟩
    go_wp2_with fail
    refine (cB _).mono ?_
    rintro e w2 ⟨rfl, rfl⟩
    go_wp2
    go_ret
    exact ⟨ret_bool (by rw [← R.out]; simp), b1⟩
end Go.Proofs.YtbnhchffdccjnaaDoor
