/-
  Layer 3: Unquote of the reference, of a text without marks.
-/
import Derived.Test.YtkhfgddjnnibdaaDoorQx
import Derived.Test.YtkhfgddjnnibdaaDoorQj
import Derived.RegionTactic
namespace Go.Proofs.YtkhfgddjnnibdaaDoor
open Go.RowKit
set_option linter.unusedVariables false
set_option linter.unusedSimpArgs false

theorem eq_texts (a b : List UInt8) : ((⟨a.toArray⟩ : ByteArray).toList == (⟨b.toArray⟩ : ByteArray).toList) = decide (a = b) := by
  rw [Lib.toList_data, Lib.toList_data, Bool.eq_iff_iff]; simp
theorem unq_word (l : List UInt8) (h0 : (l.getD 0 0).toNat ≠ 34) : unqL l = if quoteL (l.take (wordLen l)) = l.take (wordLen l) then (l.take (wordLen l), wordLen l, 0) else ([], 0, 4) := by
  unfold unqL
  rw [if_neg h0]

set_option maxHeartbeats 16000000 in
set_option maxRecDepth 100000 in
theorem rUnq_bare (l : List UInt8) (w : World) (hn : l.length ≤ 1000000) (h0 : (l.getD 0 0).toNat ≠ 34) :
    Calls Tryd.prog 14 #[.string ⟨l.toArray⟩] w fun e w' => e = .returned (unqV (unqL l)) ∧ Below w.heap.size w w' := by
  have UW := Lib.hid (unq_word l h0)
  have hem := empty_list l
  have hsz := size_toArray l
  have hget : ∀ i, i < l.length → ∀ h2 : i < (⟨l.toArray⟩ : ByteArray).size, (⟨l.toArray⟩ : ByteArray)[i]'h2 = l.getD i 0 := fun i h h2 => getD_str l i h h2
  have htk := fun n => ext_take l n
  obtain ⟨s, hs⟩ : ∃ s : ByteArray, s = ⟨l.toArray⟩ := ⟨_, rfl⟩
  rw [← hs] at hem hsz hget htk ⊢
  have HGET := Lib.hid hget
  have HTK := Lib.hid htk
  have HN := Lib.hid hn
  clear hs hget htk
  have pre : (s.toList.isEmpty = true ∧ l.length = 0) ∨ (s.toList.isEmpty = false ∧ 0 < l.length) := by
    by_cases h : l.length = 0
    · exact .inl ⟨by rw [hem]; simp [h], h⟩
    · exact .inr ⟨by rw [hem]; simp [h], by omega⟩
  clear hem
  -- behind the word: what is quoted is held against it
  have tail : ∀ n : Nat, n = wordLen l → n ≤ l.length := fun n h => h ▸ wordLen_le l
  go_enter Tryd.func14, Tryd.ntmps14
  rcases pre with ⟨e0, hl0⟩ | ⟨e0, hl0⟩
  · have hl : l = [] := List.eq_nil_of_length_eq_zero hl0
    have R : Hid (unqL l = ([], 0, 4)) := Lib.hid (by rw [hl]; decide +kernel)
    have CQ : Hid (∀ w, Calls Tryd.prog 16 #[.string ByteArray.empty] w fun e w' => e = .returned (.string ⟨[34, 34].toArray⟩) ∧ Below w.heap.size w w') := Lib.hid (fun w => by
      have := rQuote_is ([] : List UInt8) w (by simp)
      rw [show quoteL [] = [34, 34] from by decide +kernel] at this
      exact this)
    have q1 : ((⟨[34, 34].toArray⟩ : ByteArray).toList == ByteArray.empty.toList) = false := by
      rw [Lib.toList_data, Lib.toList_data]; rfl
    have q2 : (⟨[34, 34].toArray⟩ : ByteArray).toList.isEmpty = false := by rw [Lib.toList_data]; rfl
    obtain ⟨qb, hqb⟩ : ∃ qb : ByteArray, qb = ⟨[34, 34].toArray⟩ := ⟨_, rfl⟩
    rw [← hqb] at CQ q1 q2
    have hb0 : Below w.heap.size w w := Below.refl _ _
    have hs0 : s.size = 0 := hsz.trans hl0
    clear hsz hl hl0 hqb
    go_wp2_with fail
    refine wp_loop_rounds 1 ?_
    rw [rounds_succ]
    go_wp2_with fail
    refine wp_region_any (by kernel_rfl) ?_
    change wpAny _ _ _ _ _ _ _ (World.drew _)
    refine wpAny_take (i := 0) (v := .string s) rfl (by kernel_rfl) (by kernel_rfl) (by kernel_rfl) (fun _ _ _ h => h) (Or.inl ⟨by rfl, fun w => by go_simp⟩) ?_
    refine wpAny_take (i := 1) (v := .int .i64 0) rfl (by kernel_rfl) (by kernel_rfl) (by kernel_rfl) (fun _ _ _ h => h) (Or.inl ⟨by rfl, fun w => by go_simp⟩) ?_
    refine wpAny_take (i := 2) (v := .string ByteArray.empty) rfl (by kernel_rfl) (by kernel_rfl) (by kernel_rfl) (fun _ _ _ h => h) (Or.inl ⟨by rfl, fun w => by go_simp⟩) ?_
    refine wpAny_take (i := 4) (v := .string s) rfl (by kernel_rfl) (by kernel_rfl) (by kernel_rfl) (fun _ _ _ h => h) (Or.inl ⟨by rfl, fun w => by go_simp⟩) ?_
    refine wpAny_take (i := 5) (v := .int .i64 0) rfl (by kernel_rfl) (by kernel_rfl) (by kernel_rfl) (fun _ _ _ h => h) (Or.inl ⟨by rfl, fun w => by go_simp⟩) ?_
    refine wpAny_take (i := 6) (v := .string ByteArray.empty) rfl (by kernel_rfl) (by kernel_rfl) (by kernel_rfl) (fun _ _ _ h => h) (Or.inl ⟨by rfl, fun w => by go_simp⟩) ?_
    refine wpAny_ready (rs := [3]) (by kernel_rfl) (by simp) ?_
    refine AllReady.cons rfl (fun K hK => ?_) AllReady.nil
    go_simp
    refine (CQ.out _).mono ?_
    rintro e5 w5 ⟨rfl, b5w⟩
    have b5 := hb0.drew.trans (b5w.mono hb0.drew.size)
    refine hK _ _ ?_
    clear hK K b5w
    refine wpAny_ready (rs := [7]) (by kernel_rfl) (by simp) ?_
    refine AllReady.cons rfl (fun K hK => ?_) AllReady.nil
    go_simp
    refine hK _ _ ?_
    clear hK K
    refine wpAny_done (by kernel_rfl) ?_ _
    go_wp2
    go_ret3
    exact ⟨by rw [R.out]; rfl, b5⟩
  · have hx0 := HGET.out 0 hl0 (by omega)
    obtain ⟨x0, hx0e⟩ : ∃ x : UInt8, x = l.getD 0 0 := ⟨_, rfl⟩
    rw [← hx0e] at hx0 h0
    have f0 : ((x0.toNat : Int) != 34) = true := by simp; omega
    have X0 := Lib.hid hx0e
    clear hx0e h0
    go_wp2_with fail
    go_loopw [5] (fun vi wr => ∃ i : Nat, i ≤ l.length ∧ vi = .int .i64 i ∧ Below w.heap.size w wr ∧ Hid (∀ j, j < i → (l.getD j 0).toNat ≠ 32 ∧ (l.getD j 0).toNat ≠ 10)) (fun vi _ => l.length - (intOf vi).toNat)
    case atStart => exact ⟨0, Nat.zero_le _, rfl, Below.refl _ _, Lib.hid fun j h => absurd h (Nat.not_lt_zero _)⟩
    case round =>
      obtain ⟨i, hi, rfl, hbr, HALL⟩ := hrel
      by_cases hgo : i < l.length ∧ (l.getD i 0).toNat ≠ 32 ∧ (l.getD i 0).toNat ≠ 10
      · obtain ⟨hlt, n32, n10⟩ := hgo
        have hx := HGET.out i hlt (by omega)
        have NX : Hid (∀ j, j < i + 1 → (l.getD j 0).toNat ≠ 32 ∧ (l.getD j 0).toNat ≠ 10) := Lib.hid fun j hj => by
          by_cases h : j < i
          · exact HALL.out j h
          · obtain rfl : j = i := by omega
            exact ⟨n32, n10⟩
        obtain ⟨x, hxe⟩ : ∃ x : UInt8, x = l.getD i 0 := ⟨_, rfl⟩
        rw [← hxe] at hx n32 n10
        have f1 : ((x.toNat : Int) != 32) = true := by simp; omega
        have f2 : ((x.toNat : Int) != 10) = true := by simp; omega
        clear hxe n32 n10
        go_wp2
        go_roundw
        case rel => exact ⟨i + 1, by omega, by go_num, hbr, NX⟩
        case measure => simp [intOf]; omega
      · have hw : Hid (i = wordLen l) := Lib.hid (by
          by_cases hlt : i < l.length
          · exact (word_stop l i hlt HALL.out (by omega)).symm
          · obtain rfl : i = l.length := by omega
            exact (word_none l HALL.out).symm)
        have ho : ¬ i < l.length ∨ (i < l.length ∧ (l.getD i 0).toNat = 32) ∨ (i < l.length ∧ (l.getD i 0).toNat ≠ 32 ∧ (l.getD i 0).toNat = 10) := by omega
        have hx := HTK.out i
        have cQ := fun w => rQuote_is (l.take i) w (by simp; have := HN.out; omega)
        have hbe := eq_texts (quoteL (l.take i)) (l.take i)
        obtain ⟨t, ht⟩ : ∃ t, t = l.take i := ⟨_, rfl⟩
        rw [← ht] at hx cQ hbe
        have U2 : Hid (unqL l = if quoteL t = t then (t, i, 0) else ([], 0, 4)) := Lib.hid (by rw [UW.out, ← hw.out, ht])
        obtain ⟨q, hq⟩ : ∃ q, q = quoteL t := ⟨_, rfl⟩
        rw [← hq] at cQ hbe U2
        obtain ⟨tb, htb⟩ : ∃ tb : ByteArray, tb = ⟨t.toArray⟩ := ⟨_, rfl⟩
        obtain ⟨qb, hqb⟩ : ∃ qb : ByteArray, qb = ⟨q.toArray⟩ := ⟨_, rfl⟩
        rw [← htb] at hx cQ hbe
        rw [← hqb] at cQ hbe
        have TB := Lib.hid htb
        have CQ := Lib.hid cQ
        have hi2 : (i : Int) ≤ (l.length : Int) := by omega
        have hi3 : ¬ ((i : Int) < 0) := by omega
        have hi4 : (0 : Int) ≤ (i : Int) := by omega
        clear ht hq htb hqb cQ hgo hw
        have ho2 : ∃ (c : Nat) (x : UInt8), (c = 0 ∧ ¬ i < l.length) ∨ (c = 1 ∧ i < l.length ∧ x = l.getD i 0 ∧ x.toNat = 32) ∨ (c = 2 ∧ i < l.length ∧ x = l.getD i 0 ∧ x.toNat ≠ 32 ∧ x.toNat = 10) := by
          rcases ho with h | ⟨h1, h2⟩ | ⟨h1, h2, h3⟩
          · exact ⟨0, 0, .inl ⟨rfl, h⟩⟩
          · exact ⟨1, _, .inr (.inl ⟨rfl, h1, rfl, h2⟩)⟩
          · exact ⟨2, _, .inr (.inr ⟨rfl, h1, rfl, h2, h3⟩)⟩
        clear ho
        obtain ⟨c, x, ho⟩ := ho2
        by_cases hqt : q = t
        · rw [decide_eq_true hqt] at hbe
          have R : Hid (unqL l = (t, i, 0)) := Lib.hid (by rw [U2.out, if_pos hqt])
          clear hqt U2
          rcases ho with ⟨_, h⟩ | ⟨_, hlt, hxe, h32⟩ | ⟨_, hlt, hxe, h32, h10⟩
          · go_wp2_with fail
            refine wp_region_any (by kernel_rfl) ?_
            change wpAny _ _ _ _ _ _ _ (World.drew _)
            refine wpAny_take (i := 0) (v := .string s) rfl (by kernel_rfl) (by kernel_rfl) (by kernel_rfl) (fun _ _ _ h => h) (Or.inl ⟨by rfl, fun w => by go_simp⟩) ?_
            refine wpAny_take (i := 1) (v := .int .i64 i) rfl (by kernel_rfl) (by kernel_rfl) (by kernel_rfl) (fun _ _ _ h => h) (Or.inl ⟨by rfl, fun w => by go_simp⟩) ?_
            refine wpAny_take (i := 2) (v := .string tb) rfl (by kernel_rfl) (by kernel_rfl) (by kernel_rfl) (fun _ _ _ h => h) (Or.inl ⟨by rfl, fun w => by go_simp⟩) ?_
            refine wpAny_take (i := 4) (v := .string s) rfl (by kernel_rfl) (by kernel_rfl) (by kernel_rfl) (fun _ _ _ h => h) (Or.inl ⟨by rfl, fun w => by go_simp⟩) ?_
            refine wpAny_take (i := 5) (v := .int .i64 i) rfl (by kernel_rfl) (by kernel_rfl) (by kernel_rfl) (fun _ _ _ h => h) (Or.inl ⟨by rfl, fun w => by go_simp⟩) ?_
            refine wpAny_take (i := 6) (v := .string tb) rfl (by kernel_rfl) (by kernel_rfl) (by kernel_rfl) (fun _ _ _ h => h) (Or.inl ⟨by rfl, fun w => by go_simp⟩) ?_
            refine wpAny_ready (rs := [3]) (by kernel_rfl) (by simp) ?_
            refine AllReady.cons rfl (fun K hK => ?_) AllReady.nil
            go_simp
            refine (CQ.out _).mono ?_
            rintro e5 w5 ⟨rfl, b5w⟩
            have b5 := hbr.drew.trans (b5w.mono hbr.drew.size)
            refine hK _ _ ?_
            clear hK K b5w
            refine wpAny_ready (rs := [7]) (by kernel_rfl) (by simp) ?_
            refine AllReady.cons rfl (fun K hK => ?_) AllReady.nil
            go_simp
            refine hK _ _ ?_
            clear hK K
            refine wpAny_done (by kernel_rfl) ?_ _
            go_wp2
            go_ret3
            exact ⟨by rw [R.out, TB.out]; rfl, b5⟩
          · have hxx := HGET.out i hlt (by omega)
            rw [← hxe] at hxx
            have f1 : ((x.toNat : Int) != 32) = false := by simp [h32]
            clear hxe h32
            go_wp2_with fail
            refine wp_region_any (by kernel_rfl) ?_
            change wpAny _ _ _ _ _ _ _ (World.drew _)
            refine wpAny_take (i := 0) (v := .string s) rfl (by kernel_rfl) (by kernel_rfl) (by kernel_rfl) (fun _ _ _ h => h) (Or.inl ⟨by rfl, fun w => by go_simp⟩) ?_
            refine wpAny_take (i := 1) (v := .int .i64 i) rfl (by kernel_rfl) (by kernel_rfl) (by kernel_rfl) (fun _ _ _ h => h) (Or.inl ⟨by rfl, fun w => by go_simp⟩) ?_
            refine wpAny_take (i := 2) (v := .string tb) rfl (by kernel_rfl) (by kernel_rfl) (by kernel_rfl) (fun _ _ _ h => h) (Or.inl ⟨by rfl, fun w => by go_simp⟩) ?_
            refine wpAny_take (i := 4) (v := .string s) rfl (by kernel_rfl) (by kernel_rfl) (by kernel_rfl) (fun _ _ _ h => h) (Or.inl ⟨by rfl, fun w => by go_simp⟩) ?_
            refine wpAny_take (i := 5) (v := .int .i64 i) rfl (by kernel_rfl) (by kernel_rfl) (by kernel_rfl) (fun _ _ _ h => h) (Or.inl ⟨by rfl, fun w => by go_simp⟩) ?_
            refine wpAny_take (i := 6) (v := .string tb) rfl (by kernel_rfl) (by kernel_rfl) (by kernel_rfl) (fun _ _ _ h => h) (Or.inl ⟨by rfl, fun w => by go_simp⟩) ?_
            refine wpAny_ready (rs := [3]) (by kernel_rfl) (by simp) ?_
            refine AllReady.cons rfl (fun K hK => ?_) AllReady.nil
            go_simp
            refine (CQ.out _).mono ?_
            rintro e5 w5 ⟨rfl, b5w⟩
            have b5 := hbr.drew.trans (b5w.mono hbr.drew.size)
            refine hK _ _ ?_
            clear hK K b5w
            refine wpAny_ready (rs := [7]) (by kernel_rfl) (by simp) ?_
            refine AllReady.cons rfl (fun K hK => ?_) AllReady.nil
            go_simp
            refine hK _ _ ?_
            clear hK K
            refine wpAny_done (by kernel_rfl) ?_ _
            go_wp2
            go_ret3
            exact ⟨by rw [R.out, TB.out]; rfl, b5⟩
          · have hxx := HGET.out i hlt (by omega)
            rw [← hxe] at hxx
            have f1 : ((x.toNat : Int) != 32) = true := by simp; omega
            have f2 : ((x.toNat : Int) != 10) = false := by simp [h10]
            clear hxe h32 h10
            go_wp2_with fail
            refine wp_region_any (by kernel_rfl) ?_
            change wpAny _ _ _ _ _ _ _ (World.drew _)
            refine wpAny_take (i := 0) (v := .string s) rfl (by kernel_rfl) (by kernel_rfl) (by kernel_rfl) (fun _ _ _ h => h) (Or.inl ⟨by rfl, fun w => by go_simp⟩) ?_
            refine wpAny_take (i := 1) (v := .int .i64 i) rfl (by kernel_rfl) (by kernel_rfl) (by kernel_rfl) (fun _ _ _ h => h) (Or.inl ⟨by rfl, fun w => by go_simp⟩) ?_
            refine wpAny_take (i := 2) (v := .string tb) rfl (by kernel_rfl) (by kernel_rfl) (by kernel_rfl) (fun _ _ _ h => h) (Or.inl ⟨by rfl, fun w => by go_simp⟩) ?_
            refine wpAny_take (i := 4) (v := .string s) rfl (by kernel_rfl) (by kernel_rfl) (by kernel_rfl) (fun _ _ _ h => h) (Or.inl ⟨by rfl, fun w => by go_simp⟩) ?_
            refine wpAny_take (i := 5) (v := .int .i64 i) rfl (by kernel_rfl) (by kernel_rfl) (by kernel_rfl) (fun _ _ _ h => h) (Or.inl ⟨by rfl, fun w => by go_simp⟩) ?_
            refine wpAny_take (i := 6) (v := .string tb) rfl (by kernel_rfl) (by kernel_rfl) (by kernel_rfl) (fun _ _ _ h => h) (Or.inl ⟨by rfl, fun w => by go_simp⟩) ?_
            refine wpAny_ready (rs := [3]) (by kernel_rfl) (by simp) ?_
            refine AllReady.cons rfl (fun K hK => ?_) AllReady.nil
            go_simp
            refine (CQ.out _).mono ?_
            rintro e5 w5 ⟨rfl, b5w⟩
            have b5 := hbr.drew.trans (b5w.mono hbr.drew.size)
            refine hK _ _ ?_
            clear hK K b5w
            refine wpAny_ready (rs := [7]) (by kernel_rfl) (by simp) ?_
            refine AllReady.cons rfl (fun K hK => ?_) AllReady.nil
            go_simp
            refine hK _ _ ?_
            clear hK K
            refine wpAny_done (by kernel_rfl) ?_ _
            go_wp2
            go_ret3
            exact ⟨by rw [R.out, TB.out]; rfl, b5⟩
        · rw [decide_eq_false hqt] at hbe
          have R : Hid (unqL l = ([], 0, 4)) := Lib.hid (by rw [U2.out, if_neg hqt])
          clear hqt U2
          rcases ho with ⟨_, h⟩ | ⟨_, hlt, hxe, h32⟩ | ⟨_, hlt, hxe, h32, h10⟩
          · go_wp2_with fail
            refine wp_region_any (by kernel_rfl) ?_
            change wpAny _ _ _ _ _ _ _ (World.drew _)
            refine wpAny_take (i := 0) (v := .string s) rfl (by kernel_rfl) (by kernel_rfl) (by kernel_rfl) (fun _ _ _ h => h) (Or.inl ⟨by rfl, fun w => by go_simp⟩) ?_
            refine wpAny_take (i := 1) (v := .int .i64 i) rfl (by kernel_rfl) (by kernel_rfl) (by kernel_rfl) (fun _ _ _ h => h) (Or.inl ⟨by rfl, fun w => by go_simp⟩) ?_
            refine wpAny_take (i := 2) (v := .string tb) rfl (by kernel_rfl) (by kernel_rfl) (by kernel_rfl) (fun _ _ _ h => h) (Or.inl ⟨by rfl, fun w => by go_simp⟩) ?_
            refine wpAny_take (i := 4) (v := .string s) rfl (by kernel_rfl) (by kernel_rfl) (by kernel_rfl) (fun _ _ _ h => h) (Or.inl ⟨by rfl, fun w => by go_simp⟩) ?_
            refine wpAny_take (i := 5) (v := .int .i64 i) rfl (by kernel_rfl) (by kernel_rfl) (by kernel_rfl) (fun _ _ _ h => h) (Or.inl ⟨by rfl, fun w => by go_simp⟩) ?_
            refine wpAny_take (i := 6) (v := .string tb) rfl (by kernel_rfl) (by kernel_rfl) (by kernel_rfl) (fun _ _ _ h => h) (Or.inl ⟨by rfl, fun w => by go_simp⟩) ?_
            refine wpAny_ready (rs := [3]) (by kernel_rfl) (by simp) ?_
            refine AllReady.cons rfl (fun K hK => ?_) AllReady.nil
            go_simp
            refine (CQ.out _).mono ?_
            rintro e5 w5 ⟨rfl, b5w⟩
            have b5 := hbr.drew.trans (b5w.mono hbr.drew.size)
            refine hK _ _ ?_
            clear hK K b5w
            refine wpAny_ready (rs := [7]) (by kernel_rfl) (by simp) ?_
            refine AllReady.cons rfl (fun K hK => ?_) AllReady.nil
            go_simp
            refine hK _ _ ?_
            clear hK K
            refine wpAny_done (by kernel_rfl) ?_ _
            go_wp2
            go_ret3
            exact ⟨by rw [R.out]; rfl, b5⟩
          · have hxx := HGET.out i hlt (by omega)
            rw [← hxe] at hxx
            have f1 : ((x.toNat : Int) != 32) = false := by simp [h32]
            clear hxe h32
            go_wp2_with fail
            refine wp_region_any (by kernel_rfl) ?_
            change wpAny _ _ _ _ _ _ _ (World.drew _)
            refine wpAny_take (i := 0) (v := .string s) rfl (by kernel_rfl) (by kernel_rfl) (by kernel_rfl) (fun _ _ _ h => h) (Or.inl ⟨by rfl, fun w => by go_simp⟩) ?_
            refine wpAny_take (i := 1) (v := .int .i64 i) rfl (by kernel_rfl) (by kernel_rfl) (by kernel_rfl) (fun _ _ _ h => h) (Or.inl ⟨by rfl, fun w => by go_simp⟩) ?_
            refine wpAny_take (i := 2) (v := .string tb) rfl (by kernel_rfl) (by kernel_rfl) (by kernel_rfl) (fun _ _ _ h => h) (Or.inl ⟨by rfl, fun w => by go_simp⟩) ?_
            refine wpAny_take (i := 4) (v := .string s) rfl (by kernel_rfl) (by kernel_rfl) (by kernel_rfl) (fun _ _ _ h => h) (Or.inl ⟨by rfl, fun w => by go_simp⟩) ?_
            refine wpAny_take (i := 5) (v := .int .i64 i) rfl (by kernel_rfl) (by kernel_rfl) (by kernel_rfl) (fun _ _ _ h => h) (Or.inl ⟨by rfl, fun w => by go_simp⟩) ?_
            refine wpAny_take (i := 6) (v := .string tb) rfl (by kernel_rfl) (by kernel_rfl) (by kernel_rfl) (fun _ _ _ h => h) (Or.inl ⟨by rfl, fun w => by go_simp⟩) ?_
            refine wpAny_ready (rs := [3]) (by kernel_rfl) (by simp) ?_
            refine AllReady.cons rfl (fun K hK => ?_) AllReady.nil
            go_simp
            refine (CQ.out _).mono ?_
            rintro e5 w5 ⟨rfl, b5w⟩
            have b5 := hbr.drew.trans (b5w.mono hbr.drew.size)
            refine hK _ _ ?_
            clear hK K b5w
            refine wpAny_ready (rs := [7]) (by kernel_rfl) (by simp) ?_
            refine AllReady.cons rfl (fun K hK => ?_) AllReady.nil
            go_simp
            refine hK _ _ ?_
            clear hK K
            refine wpAny_done (by kernel_rfl) ?_ _
            go_wp2
            go_ret3
            exact ⟨by rw [R.out]; rfl, b5⟩
          · have hxx := HGET.out i hlt (by omega)
            rw [← hxe] at hxx
            have f1 : ((x.toNat : Int) != 32) = true := by simp; omega
            have f2 : ((x.toNat : Int) != 10) = false := by simp [h10]
            clear hxe h32 h10
            go_wp2_with fail
            refine wp_region_any (by kernel_rfl) ?_
            change wpAny _ _ _ _ _ _ _ (World.drew _)
            refine wpAny_take (i := 0) (v := .string s) rfl (by kernel_rfl) (by kernel_rfl) (by kernel_rfl) (fun _ _ _ h => h) (Or.inl ⟨by rfl, fun w => by go_simp⟩) ?_
            refine wpAny_take (i := 1) (v := .int .i64 i) rfl (by kernel_rfl) (by kernel_rfl) (by kernel_rfl) (fun _ _ _ h => h) (Or.inl ⟨by rfl, fun w => by go_simp⟩) ?_
            refine wpAny_take (i := 2) (v := .string tb) rfl (by kernel_rfl) (by kernel_rfl) (by kernel_rfl) (fun _ _ _ h => h) (Or.inl ⟨by rfl, fun w => by go_simp⟩) ?_
            refine wpAny_take (i := 4) (v := .string s) rfl (by kernel_rfl) (by kernel_rfl) (by kernel_rfl) (fun _ _ _ h => h) (Or.inl ⟨by rfl, fun w => by go_simp⟩) ?_
            refine wpAny_take (i := 5) (v := .int .i64 i) rfl (by kernel_rfl) (by kernel_rfl) (by kernel_rfl) (fun _ _ _ h => h) (Or.inl ⟨by rfl, fun w => by go_simp⟩) ?_
            refine wpAny_take (i := 6) (v := .string tb) rfl (by kernel_rfl) (by kernel_rfl) (by kernel_rfl) (fun _ _ _ h => h) (Or.inl ⟨by rfl, fun w => by go_simp⟩) ?_
            refine wpAny_ready (rs := [3]) (by kernel_rfl) (by simp) ?_
            refine AllReady.cons rfl (fun K hK => ?_) AllReady.nil
            go_simp
            refine (CQ.out _).mono ?_
            rintro e5 w5 ⟨rfl, b5w⟩
            have b5 := hbr.drew.trans (b5w.mono hbr.drew.size)
            refine hK _ _ ?_
            clear hK K b5w
            refine wpAny_ready (rs := [7]) (by kernel_rfl) (by simp) ?_
            refine AllReady.cons rfl (fun K hK => ?_) AllReady.nil
            go_simp
            refine hK _ _ ?_
            clear hK K
            refine wpAny_done (by kernel_rfl) ?_ _
            go_wp2
            go_ret3
            exact ⟨by rw [R.out]; rfl, b5⟩
end Go.Proofs.YtkhfgddjnnibdaaDoor
