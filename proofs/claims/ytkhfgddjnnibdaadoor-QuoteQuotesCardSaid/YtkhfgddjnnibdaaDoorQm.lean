/-
  Layer 3: Unquote of the program.
-/
import Derived.Test.YtkhfgddjnnibdaaDoorQl
import Derived.Test.YtkhfgddjnnibdaaDoorQz
import Derived.RegionTactic
namespace Go.Proofs.YtkhfgddjnnibdaaDoor
open Go.RowKit
set_option linter.unusedVariables false
set_option linter.unusedSimpArgs false

theorem prefix_mark (l : List UInt8) : Lib.hasPrefix l [34] = decide ((l.getD 0 0).toNat = 34) := by
  unfold Lib.hasPrefix
  cases l with
  | nil => rfl
  | cons c r =>
    rw [Bool.eq_iff_iff]
    simp only [List.isPrefixOf, Bool.and_true, beq_iff_eq, decide_eq_true_eq, List.getD_cons_zero]
    exact ⟨fun h => by rw [← h]; rfl, fun h => (UInt8.toNat_inj.1 h).symm⟩

/-- A text with marks that ends. -/
theorem unq_marks (l : List UInt8) (h0 : (l.getD 0 0).toNat = 34) (e : Nat) (he : e = 1 + endL l.tail) (hlt : e < l.length) :
    unqL l = if quoteL (unescL ((l.take e).tail)) = l.take (e + 1) then (unescL ((l.take e).tail), e + 1, 0) else ([], 0, 4) := by
  subst he
  unfold unqL
  rw [if_pos h0]
  simp only []
  rw [if_neg (by omega)]
theorem unq_none (l : List UInt8) (h0 : (l.getD 0 0).toNat = 34) (e : Nat) (he : e = 1 + endL l.tail) (hlt : e < l.length) (n : Nat) (hn : ((l.take e).tail).length ≤ n) (hb : betL n ((l.take e).tail) = none) : unqL l = ([], 0, 4) := by
  rw [unq_marks l h0 e he hlt]
  by_cases hq : quoteL (unescL ((l.take e).tail)) = l.take (e + 1)
  · have := (dec_either (t' := unescL ((l.take e).tail)) h0 hlt (by omega) hn).2 ⟨rfl, hq⟩
    rw [hb] at this
    cases this.1
  · rw [if_neg hq]
theorem unq_some (l : List UInt8) (h0 : (l.getD 0 0).toNat = 34) (e : Nat) (he : e = 1 + endL l.tail) (hlt : e < l.length) (n : Nat) (hn : ((l.take e).tail).length ≤ n) (t : List UInt8) (hb : betL n ((l.take e).tail) = some t) :
    unqL l = if quoteL t = l.take (e + 1) then (t, e + 1, 0) else ([], 0, 4) := by
  rw [unq_marks l h0 e he hlt]
  by_cases hq : quoteL t = l.take (e + 1)
  · have := ((dec_either (t' := t) h0 hlt (by omega) hn).1 ⟨hb, hq⟩).1
    rw [← this]
  · rw [if_neg hq]
    by_cases hq2 : quoteL (unescL ((l.take e).tail)) = l.take (e + 1)
    · have := (dec_either (t' := unescL ((l.take e).tail)) h0 hlt (by omega) hn).2 ⟨rfl, hq2⟩
      rw [hb] at this
      have h2 := Option.some.inj this.1
      rw [h2] at hq
      exact absurd hq2 hq
    · rw [if_neg hq2]

set_option maxHeartbeats 16000000 in
set_option maxRecDepth 100000 in
theorem Unquote_is (l : List UInt8) (w : World) (hn : l.length ≤ 1000000) (hT : Lib.Utf8Tabs 0 1 w) (hE : ErrTab w) :
    Calls Tryd.prog 13 #[.string ⟨l.toArray⟩] w fun e w' => e = .returned (unqV (unqL l)) ∧ Below w.heap.size w w' := by
  have hpre : ∀ w, Calls Tryd.prog 22 #[.string ⟨l.toArray⟩, .string ⟨#[34]⟩] w fun e w' => e = .returned (.bool (decide ((l.getD 0 0).toNat = 34))) ∧ w' = w := fun w => by
    have := Tryd.strings_HasPrefix ⟨l.toArray⟩ ⟨#[34]⟩ w
    rw [← prefix_mark]
    exact this
  have HT := Lib.hid hT
  have HE := Lib.hid hE
  clear hT hE
  by_cases h0 : (l.getD 0 0).toNat = 34
  · rw [decide_eq_true h0] at hpre
    have cQ := fun w => quotedLen_is l w (by omega)
    by_cases hs : l.length ≤ 1 + endL l.tail
    · have hq : quotedL l = (0, false) := by unfold quotedL; rw [if_pos hs]
      have hu : unqL l = ([], 0, 3) := by
        unfold unqL
        rw [if_pos h0]
        simp only []
        rw [if_pos hs]
      rw [hq] at cQ
      rw [hu]
      unfold unqV
      obtain ⟨s, hse⟩ : ∃ s : ByteArray, s = ⟨l.toArray⟩ := ⟨_, rfl⟩
      rw [← hse] at cQ hpre ⊢
      clear hse hq hu hs h0
      go_enter Tryd.func13, Tryd.ntmps13
      go_wp2_with fail
      refine (hpre _).mono ?_
      rintro e w1 ⟨rfl, rfl⟩
      go_wp2_with fail
      refine (cQ _).mono ?_
      rintro e w2 ⟨rfl, b2⟩
      go_wp2
      go_ret3
      exact ⟨rfl, b2⟩
    · obtain ⟨e, he⟩ : ∃ e, e = 1 + endL l.tail := ⟨_, rfl⟩
      have hlt : e < l.length := by omega
      have hq : quotedL l = (((e + 1 : Nat) : Int), true) := by unfold quotedL; rw [if_neg hs, he]
      rw [hq] at cQ
      have hsz := size_toArray l
      have hbl : ((l.take e).tail).length ≤ 1000000 := by simp; omega
      have cBw := fun w (h : ErrTab w) => between_is ((l.take e).tail) w hbl h
      have hx1 : (⟨l.toArray⟩ : ByteArray).extract 1 e = ⟨((l.take e).tail).toArray⟩ := by
        rw [ext_list, tail_drop, List.drop_take]
      have hx2 := ext_take l (e + 1)
      have US := Lib.hid (unq_some l h0 e he hlt _ (Nat.le_refl _))
      have UN := Lib.hid (unq_none l h0 e he hlt _ (Nat.le_refl _))
      have he1 : 1 ≤ e := by omega
      generalize (l.take e).tail = body at cBw hx1 hbl US UN
      obtain ⟨tk, htk⟩ : ∃ tk, tk = l.take (e + 1) := ⟨_, rfl⟩
      rw [← htk] at hx2 US
      clear htk
      obtain ⟨s, hse⟩ : ∃ s : ByteArray, s = ⟨l.toArray⟩ := ⟨_, rfl⟩
      obtain ⟨bs, hbs⟩ : ∃ bs : ByteArray, bs = ⟨body.toArray⟩ := ⟨_, rfl⟩
      rw [← hse] at cQ hpre hsz hx1 hx2 ⊢
      rw [← hbs] at cBw hx1
      clear hse hq hs h0 he hbs
      go_enter Tryd.func13, Tryd.ntmps13
      go_wp2_with fail
      refine (hpre _).mono ?_
      rintro e' w1 ⟨rfl, rfl⟩
      go_wp2_with fail
      refine (cQ _).mono ?_
      rintro e' w2 ⟨rfl, b2⟩
      go_wp2_with fail
      refine (cBw _ (HE.out.below b2)).mono ?_
      rintro e' w3 ⟨b3, ⟨t, hb, htl, rfl⟩ | ⟨hb, z, rfl⟩⟩
      · have b13 := b2.trans (b3.mono b2.size)
        have UU := Lib.hid (US.out t hb)
        have cK := fun w h => Quote_is t w (by omega) h
        have TT := Lib.hid (Utf8Tabs_below HT.out b13.drew)
        have hbe : ((⟨(quoteL t).toArray⟩ : ByteArray).toList == (⟨tk.toArray⟩ : ByteArray).toList) = decide (quoteL t = tk) := by
          rw [list_text, list_text, Bool.eq_iff_iff]; simp
        obtain ⟨qb, hqb⟩ : ∃ qb : ByteArray, qb = ⟨(quoteL t).toArray⟩ := ⟨_, rfl⟩
        obtain ⟨kb, hkb⟩ : ∃ kb : ByteArray, kb = ⟨tk.toArray⟩ := ⟨_, rfl⟩
        rw [← hqb, ← hkb] at hbe
        rw [← hqb] at cK
        rw [← hkb] at hx2
        have CK := Lib.hid cK
        clear US UN hb cQ cBw b2 b3 hqb hkb cK htl
        have he2 : (e : Int) + 1 ≤ (l.length : Int) := by omega
        have he3 : ¬ ((e : Int) + 1 < 0) := by omega
        have he4 : (0 : Int) ≤ (e : Int) + 1 := by omega
        by_cases hq : quoteL t = tk
        · rw [decide_eq_true hq] at hbe
          have UE := Lib.hid (show unqL l = (t, e + 1, 0) by rw [UU.out, if_pos hq])
          clear hq UU
          go_wp2_with fail
          refine wp_region_any (by kernel_rfl) ?_
          change wpAny _ _ _ _ _ _ _ (World.drew _)
          refine wpAny_take (i := 0) (v := .bool true) rfl (by kernel_rfl) (by kernel_rfl) (by kernel_rfl) (fun _ _ _ h => h) (Or.inl ⟨by rfl, fun w => by go_simp⟩) ?_
          refine wpAny_take (i := 1) (v := .bool false) rfl (by kernel_rfl) (by kernel_rfl) (by kernel_rfl) (fun _ _ _ h => h) (Or.inl ⟨by rfl, fun w => by go_simp⟩) ?_
          refine wpAny_take (i := 2) (v := .bool false) rfl (by kernel_rfl) (by kernel_rfl) (by kernel_rfl) (fun _ _ _ h => h) (Or.inl ⟨by rfl, fun w => by go_simp⟩) ?_
          refine wpAny_take (i := 3) (v := .string ⟨t.toArray⟩) rfl (by kernel_rfl) (by kernel_rfl) (by kernel_rfl) (fun _ _ _ h => h) (Or.inl ⟨by rfl, fun w => by go_simp⟩) ?_
          refine wpAny_take (i := 5) (v := .string s) rfl (by kernel_rfl) (by kernel_rfl) (by kernel_rfl) (fun _ _ _ h => h) (Or.inl ⟨by rfl, fun w => by go_simp⟩) ?_
          refine wpAny_take (i := 6) (v := .int .i64 ((e : Int) + 1)) rfl (by kernel_rfl) (by kernel_rfl) (by kernel_rfl) (fun _ _ _ h => h) (Or.inl ⟨by rfl, fun w => by go_simp⟩) ?_
          refine wpAny_take (i := 7) (v := .string kb) rfl (by kernel_rfl) (by kernel_rfl) (by kernel_rfl) (fun _ _ _ h => h) (Or.inl ⟨by rfl, fun w => by go_simp⟩) ?_
          refine wpAny_ready (rs := [4]) (by kernel_rfl) (by simp) ?_
          refine AllReady.cons rfl (fun K hK => ?_) AllReady.nil
          go_simp
          refine (CK.out _ TT.out).mono ?_
          rintro e5 w5 ⟨rfl, b5⟩
          have b35 := b13.drew.trans (b5.mono b13.drew.size)
          refine hK _ _ ?_
          clear hK K b5
          refine wpAny_ready (rs := [8]) (by kernel_rfl) (by simp) ?_
          refine AllReady.cons rfl (fun K hK => ?_) AllReady.nil
          go_simp
          refine hK _ _ ?_
          clear hK K
          refine wpAny_ready (rs := [9]) (by kernel_rfl) (by simp) ?_
          refine AllReady.cons rfl (fun K hK => ?_) AllReady.nil
          go_simp
          refine hK _ _ ?_
          clear hK K
          refine wpAny_done (by kernel_rfl) ?_ _
          go_wp2
          go_ret3
          exact ⟨by rw [UE.out]; rfl, b35⟩
        · rw [decide_eq_false hq] at hbe
          have UE := Lib.hid (show unqL l = ([], 0, 4) by rw [UU.out, if_neg hq])
          clear hq UU
          go_wp2_with fail
          refine wp_region_any (by kernel_rfl) ?_
          change wpAny _ _ _ _ _ _ _ (World.drew _)
          refine wpAny_take (i := 0) (v := .bool true) rfl (by kernel_rfl) (by kernel_rfl) (by kernel_rfl) (fun _ _ _ h => h) (Or.inl ⟨by rfl, fun w => by go_simp⟩) ?_
          refine wpAny_take (i := 1) (v := .bool false) rfl (by kernel_rfl) (by kernel_rfl) (by kernel_rfl) (fun _ _ _ h => h) (Or.inl ⟨by rfl, fun w => by go_simp⟩) ?_
          refine wpAny_take (i := 2) (v := .bool false) rfl (by kernel_rfl) (by kernel_rfl) (by kernel_rfl) (fun _ _ _ h => h) (Or.inl ⟨by rfl, fun w => by go_simp⟩) ?_
          refine wpAny_take (i := 3) (v := .string ⟨t.toArray⟩) rfl (by kernel_rfl) (by kernel_rfl) (by kernel_rfl) (fun _ _ _ h => h) (Or.inl ⟨by rfl, fun w => by go_simp⟩) ?_
          refine wpAny_take (i := 5) (v := .string s) rfl (by kernel_rfl) (by kernel_rfl) (by kernel_rfl) (fun _ _ _ h => h) (Or.inl ⟨by rfl, fun w => by go_simp⟩) ?_
          refine wpAny_take (i := 6) (v := .int .i64 ((e : Int) + 1)) rfl (by kernel_rfl) (by kernel_rfl) (by kernel_rfl) (fun _ _ _ h => h) (Or.inl ⟨by rfl, fun w => by go_simp⟩) ?_
          refine wpAny_take (i := 7) (v := .string kb) rfl (by kernel_rfl) (by kernel_rfl) (by kernel_rfl) (fun _ _ _ h => h) (Or.inl ⟨by rfl, fun w => by go_simp⟩) ?_
          refine wpAny_ready (rs := [4]) (by kernel_rfl) (by simp) ?_
          refine AllReady.cons rfl (fun K hK => ?_) AllReady.nil
          go_simp
          refine (CK.out _ TT.out).mono ?_
          rintro e5 w5 ⟨rfl, b5⟩
          have b35 := b13.drew.trans (b5.mono b13.drew.size)
          refine hK _ _ ?_
          clear hK K b5
          refine wpAny_ready (rs := [8]) (by kernel_rfl) (by simp) ?_
          refine AllReady.cons rfl (fun K hK => ?_) AllReady.nil
          go_simp
          refine hK _ _ ?_
          clear hK K
          refine wpAny_ready (rs := [9]) (by kernel_rfl) (by simp) ?_
          refine AllReady.cons rfl (fun K hK => ?_) AllReady.nil
          go_simp
          refine hK _ _ ?_
          clear hK K
          refine wpAny_done (by kernel_rfl) ?_ _
          go_wp2
          go_ret3
          exact ⟨by rw [UE.out]; rfl, b35⟩
      · have b13 := b2.trans (b3.mono b2.size)
        have UU := Lib.hid (UN.out hb)
        clear US UN hb cQ cBw b2 b3
        go_wp2_with fail
        go_quiet (fail)
        go_wp2
        go_ret3
        exact ⟨by rw [UU.out]; rfl, below_drewN b13 _⟩
  · rw [decide_eq_false h0] at hpre
    have cU := fun w => unquoteBare_is l w hn h0
    generalize unqL l = u at cU ⊢
    unfold unqV at cU ⊢
    obtain ⟨s, hse⟩ : ∃ s : ByteArray, s = ⟨l.toArray⟩ := ⟨_, rfl⟩
    rw [← hse] at cU hpre ⊢
    clear hse h0
    go_enter Tryd.func13, Tryd.ntmps13
    go_wp2_with fail
    refine (hpre _).mono ?_
    rintro e w1 ⟨rfl, rfl⟩
    go_wp2_with fail
    refine (cU _).mono ?_
    rintro e w2 ⟨rfl, b2⟩
    go_wp2
    go_ret3
    exact ⟨rfl, b2⟩
end Go.Proofs.YtkhfgddjnnibdaaDoor
