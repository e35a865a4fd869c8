/-
  The walk of QuoteBack, over the contracts.
-/
import Derived.Test.YtkhfgddjnnibdaaDoorQb
import Derived.Test.YtkhfgddjnnibdaaDoorQm
import Derived.RegionTactic
namespace Go.Proofs.YtkhfgddjnnibdaaDoor
open Go.RowKit
theorem unesc_len (l : List UInt8) : (unescL l).length ≤ l.length := by
  fun_induction unescL l <;> simp_all <;> omega
theorem unq_len (l : List UInt8) : (unqL l).1.length ≤ l.length := by
  unfold unqL
  split
  · simp only []
    split
    · simp
    · split
      · have := unesc_len ((l.take (1 + endL l.tail)).tail)
        simp at this ⊢
        omega
      · simp
  · simp only []
    split
    · simp; omega
    · simp
end Go.Proofs.YtkhfgddjnnibdaaDoor
namespace Go.Proofs.YtkhfgddjnnibdaaDoor.quoteBack
open Go.RowKit
set_option linter.unusedVariables false
set_option linter.unusedSimpArgs false

theorem drewN_below {B : Nat} {a w : World} (h : Below B a w) : ∀ q, Below B a (w.drewN q)
  | 0 => h
  | q + 1 => (drewN_below h q).drew

set_option maxHeartbeats 8000000 in
set_option maxRecDepth 100000 in
theorem walk_long (w : World) (l m : List UInt8) (b : Bool) (t : List UInt8) (hl : l.length ≤ maxLen) (hm : m.length ≤ maxLen) (ht : t.length ≤ maxLen) (tab : Tab w) (h : 800 < l.length ∨ 300 < m.length ∨ 800 < t.length) :
    Calls Tryd.prog 5 #[.string ⟨l.toArray⟩, .string ⟨m.toArray⟩, .bool b, .string ⟨t.toArray⟩] w fun e w' => e = .returned (.bool true) ∧ Below w.heap.size w w' := by
  unfold maxLen at hl hm ht
  have T := Lib.hid tab
  clear tab
  have z1 := size_toArray l
  have z2 := size_toArray m
  have z3 := size_toArray t
  generalize (⟨l.toArray⟩ : ByteArray) = s1 at z1 ⊢
  generalize (⟨m.toArray⟩ : ByteArray) = s2 at z2 ⊢
  generalize (⟨t.toArray⟩ : ByteArray) = s3 at z3 ⊢
  have hq : 800 < l.length ∨ (¬ 800 < l.length ∧ 300 < m.length) ∨ (¬ 800 < l.length ∧ ¬ 300 < m.length ∧ 800 < t.length) := by omega
  clear h
  rcases hq with h1 | ⟨h1, h2⟩ | ⟨h1, h2, h3⟩
  all_goals
    go_enter Tryd.func5, Tryd.ntmps5
    go_wp2_with fail
    refine (awake_quote _ T.out).mono ?_
    rintro e w1 ⟨rfl, b1⟩
    go_wp2
    go_ret
    exact ⟨rfl, b1⟩

set_option maxHeartbeats 16000000 in
set_option maxRecDepth 100000 in
theorem walk_short (w : World) (l m : List UInt8) (b : Bool) (t : List UInt8) (h1 : l.length ≤ 800) (h2 : m.length ≤ 300) (h3 : t.length ≤ 800) (tab : Tab w) (err : ErrTab w) :
    Calls Tryd.prog 5 #[.string ⟨l.toArray⟩, .string ⟨m.toArray⟩, .bool b, .string ⟨t.toArray⟩] w fun e w' => e = .returned (.bool true) ∧ Below w.heap.size w w' := by
  have T := Lib.hid tab
  have EE := Lib.hid err
  clear tab err
  have ql := quote_len l
  obtain ⟨c, hc, hcb⟩ : ∃ c : UInt8, (c.toNat = 32 ∨ c.toNat = 10) ∧ c = (if b = true then 10 else 32) := by
    cases b
    · exact ⟨32, .inl rfl, rfl⟩
    · exact ⟨10, .inr rfl, rfl⟩
  have c1 := fun w (tb : Tab w) => Quote_is l w (by omega) tb.utf
  have c2 := fun w (tb : Tab w) (er : ErrTab w) => Unquote_is (quoteL l ++ ([c] ++ m)) w (by simp; omega) tb.utf er
  have c3 := fun w (tb : Tab w) (er : ErrTab w) => Unquote_is t w (by omega) tb.utf er
  rw [show unqL (quoteL l ++ ([c] ++ m)) = (l, (quoteL l).length, 0) from unq_quote l m c hc] at c2
  have yl := unq_len t
  have c4 := fun w (tb : Tab w) => Quote_is (unqL t).1 w (by omega) tb.utf
  have U := fun y n h => @unq_ok t y n h
  have d32 := fun w => add_lists (P := Tryd.prog) w [32] m (by simp; omega)
  have d10 := fun w => add_lists (P := Tryd.prog) w [10] m (by simp; omega)
  have d2 := fun w => add_lists (P := Tryd.prog) w (quoteL l) ([c] ++ m) (by simp; omega)
  obtain ⟨q, hq⟩ : ∃ q, q = quoteL l := ⟨_, rfl⟩
  rw [← hq] at c1 c2 d2 ql
  have zq := size_toArray q
  obtain ⟨⟨y, n, f⟩, hu⟩ : ∃ u, unqL t = u := ⟨_, rfl⟩
  rw [hu] at c3 c4 yl
  have U2 : Hid (f = 0 → n ≤ t.length ∧ quoteL y = t.take n) := Lib.hid (fun h => U y n (by rw [hu, h]))
  have hx := ext_take t n
  unfold unqV at c2 c3
  simp only at c2 c3 c4 yl
  have z1 := size_toArray l
  have z2 := size_toArray m
  have z3 := size_toArray t
  have hbe := Lib.hid (fun h => (by rw [Lib.toList_data, Lib.toList_data, h]; simp : ((⟨(quoteL y).toArray⟩ : ByteArray).toList == (⟨(t.take n).toArray⟩ : ByteArray).toList) = true) : quoteL y = t.take n → ((⟨(quoteL y).toArray⟩ : ByteArray).toList == (⟨(t.take n).toArray⟩ : ByteArray).toList) = true)
  obtain ⟨yb, hyb⟩ : ∃ yb : ByteArray, yb = ⟨y.toArray⟩ := ⟨_, rfl⟩
  obtain ⟨qy, hqy⟩ : ∃ qy : ByteArray, qy = ⟨(quoteL y).toArray⟩ := ⟨_, rfl⟩
  obtain ⟨tk, htk⟩ : ∃ tk : ByteArray, tk = ⟨(t.take n).toArray⟩ := ⟨_, rfl⟩
  rw [← hyb] at c3 c4
  rw [← hqy] at c4 hbe
  rw [← htk] at hx hbe
  obtain ⟨qb, hqb⟩ : ∃ qb : ByteArray, qb = ⟨(q ++ ([c] ++ m)).toArray⟩ := ⟨_, rfl⟩
  obtain ⟨qq, hqq⟩ : ∃ qq : ByteArray, qq = ⟨q.toArray⟩ := ⟨_, rfl⟩
  rw [← hqb] at c2 d2
  rw [← hqq] at c1 d2 zq
  generalize (⟨l.toArray⟩ : ByteArray) = S1 at c1 c2 z1 ⊢
  generalize (⟨m.toArray⟩ : ByteArray) = S2 at d32 d10 z2 ⊢
  generalize (⟨t.toArray⟩ : ByteArray) = T3 at c3 hx z3 ⊢
  have hss : (S1.toList == S1.toList) = true := by simp
  have C1 := Lib.hid c1
  have C2 := Lib.hid c2
  have C3 := Lib.hid c3
  have C4 := Lib.hid c4
  clear c1 c2 c3 c4 hu hyb hqy htk hqb hqq hq hc U
  cases b with
  | false =>
    obtain rfl : c = 32 := hcb
    clear d10
    generalize (⟨([32] ++ m).toArray⟩ : ByteArray) = b32 at d32 d2
    go_enter Tryd.func5, Tryd.ntmps5
    go_wp2_with fail
    refine (C1.out _ T.out).mono ?_
    rintro e w1 ⟨rfl, b1⟩
    go_wp2_with fail
    refine (C2.out _ (T.out.below b1) (EE.out.below b1)).mono ?_
    rintro e w2 ⟨rfl, b2⟩
    have b12 := b1.trans (b2.mono b1.size)
    go_wp2_with fail
    refine (awake_quote _ (T.out.below b12)).mono ?_
    rintro e w3 ⟨rfl, b3⟩
    have b13 := b12.trans (b3.mono b12.size)
    go_wp2_with fail
    refine (C3.out _ (T.out.below b13) (EE.out.below b13)).mono ?_
    rintro e w4 ⟨rfl, b4⟩
    have b16 := b13.trans (b4.mono b13.size)
    clear b1 b2 b12 b3 b13 b4
    by_cases hf : f = 0
    · obtain ⟨hnl, hqt⟩ := U2.out hf
      have hbq := hbe.out hqt
      subst hf
      have hn0 : (0 : Int) ≤ (n : Int) := by omega
      have hn1 : (n : Int) ≤ (t.length : Int) := by omega
      have hn2 : ¬ ((n : Int) < 0) := by omega
      clear U2 hbe hqt
      go_wp2_with fail
      refine wp_region_any (by kernel_rfl) ?_
      change wpAny _ _ _ _ _ _ _ (World.drew _)
      refine wpAny_take (i := 0) (v := .int .i64 0) rfl (by kernel_rfl) (by kernel_rfl) (by kernel_rfl) (fun _ _ _ h => h) (Or.inl ⟨by kernel_rfl, fun w => by go_simp⟩) ?_
      refine wpAny_take (i := 1) (v := .bool false) rfl (by kernel_rfl) (by kernel_rfl) (by kernel_rfl) (fun _ _ _ h => h) (Or.inl ⟨by kernel_rfl, fun w => by go_simp⟩) ?_
      refine wpAny_take (i := 2) (v := .bool false) rfl (by kernel_rfl) (by kernel_rfl) (by kernel_rfl) (fun _ _ _ h => h) (Or.inl ⟨by kernel_rfl, fun w => by go_simp⟩) ?_
      refine wpAny_take (i := 3) (v := .int .i64 n) rfl (by kernel_rfl) (by kernel_rfl) (by kernel_rfl) (fun _ _ _ h => h) (Or.inl ⟨by kernel_rfl, fun w => by go_simp⟩) ?_
      refine wpAny_take (i := 4) (v := .bool true) rfl (by kernel_rfl) (by kernel_rfl) (by kernel_rfl) (fun _ _ _ h => h) (Or.inl ⟨by kernel_rfl, fun w => by go_simp⟩) ?_
      refine wpAny_take (i := 5) (v := .bool true) rfl (by kernel_rfl) (by kernel_rfl) (by kernel_rfl) (fun _ _ _ h => h) (Or.inl ⟨by kernel_rfl, fun w => by go_simp⟩) ?_
      refine wpAny_take (i := 6) (v := .int .i64 n) rfl (by kernel_rfl) (by kernel_rfl) (by kernel_rfl) (fun _ _ _ h => h) (Or.inl ⟨by kernel_rfl, fun w => by go_simp⟩) ?_
      refine wpAny_take (i := 7) (v := .string T3) rfl (by kernel_rfl) (by kernel_rfl) (by kernel_rfl) (fun _ _ _ h => h) (Or.inl ⟨by kernel_rfl, fun w => by go_simp⟩) ?_
      refine wpAny_take (i := 8) (v := .int .i64 t.length) rfl (by kernel_rfl) (by kernel_rfl) (by kernel_rfl) (fun _ _ _ h => h) (Or.inl ⟨by kernel_rfl, fun w => by go_simp⟩) ?_
      refine wpAny_take (i := 9) (v := .bool true) rfl (by kernel_rfl) (by kernel_rfl) (by kernel_rfl) (fun _ _ _ h => h) (Or.inl ⟨by kernel_rfl, fun w => by go_simp⟩) ?_
      refine wpAny_take (i := 10) (v := .bool true) rfl (by kernel_rfl) (by kernel_rfl) (by kernel_rfl) (fun _ _ _ h => h) (Or.inl ⟨by kernel_rfl, fun w => by go_simp⟩) ?_
      refine wpAny_take (i := 11) (v := .bool true) rfl (by kernel_rfl) (by kernel_rfl) (by kernel_rfl) (fun _ _ _ h => h) (Or.inl ⟨by kernel_rfl, fun w => by go_simp⟩) ?_
      refine wpAny_take (i := 12) (v := .string yb) rfl (by kernel_rfl) (by kernel_rfl) (by kernel_rfl) (fun _ _ _ h => h) (Or.inl ⟨by kernel_rfl, fun w => by go_simp⟩) ?_
      refine wpAny_take (i := 14) (v := .string T3) rfl (by kernel_rfl) (by kernel_rfl) (by kernel_rfl) (fun _ _ _ h => h) (Or.inl ⟨by kernel_rfl, fun w => by go_simp⟩) ?_
      refine wpAny_take (i := 15) (v := .int .i64 n) rfl (by kernel_rfl) (by kernel_rfl) (by kernel_rfl) (fun _ _ _ h => h) (Or.inl ⟨by kernel_rfl, fun w => by go_simp⟩) ?_
      refine wpAny_take (i := 16) (v := .string tk) rfl (by kernel_rfl) (by kernel_rfl) (by kernel_rfl) (fun _ _ _ h => h) (Or.inl ⟨by kernel_rfl, fun w => by go_simp⟩) ?_
      refine wpAny_ready (rs := [13]) (by kernel_rfl) (by simp) ?_
      refine AllReady.cons rfl (fun K hK => ?_) AllReady.nil
      go_simp
      refine (C4.out _ (T.out.below b16.drew)).mono ?_
      rintro e7 w7 ⟨rfl, b7⟩
      have b17 := b16.drew.trans (b7.mono b16.drew.size)
      refine hK _ _ ?_
      clear hK K b7
      refine wpAny_ready (rs := [17]) (by kernel_rfl) (by simp) ?_
      refine AllReady.cons rfl (fun K hK => ?_) AllReady.nil
      go_simp
      refine hK _ _ ?_
      clear hK K
      refine wpAny_ready (rs := [18]) (by kernel_rfl) (by simp) ?_
      refine AllReady.cons rfl (fun K hK => ?_) AllReady.nil
      go_simp
      refine hK _ _ ?_
      clear hK K
      refine wpAny_ready (rs := [19]) (by kernel_rfl) (by simp) ?_
      refine AllReady.cons rfl (fun K hK => ?_) AllReady.nil
      go_simp
      refine hK _ _ ?_
      clear hK K
      refine wpAny_ready (rs := [20]) (by kernel_rfl) (by simp) ?_
      refine AllReady.cons rfl (fun K hK => ?_) AllReady.nil
      go_simp
      refine hK _ _ ?_
      clear hK K
      refine wpAny_done (by kernel_rfl) ?_ _
      go_wp2
      go_ret
      exact ⟨rfl, b17⟩
    · have f1 : (f != 0) = true := by simp [hf]
      clear U2 hbe hf
      go_wp2_with fail
      go_quiet (fail)
      go_wp2
      go_ret
      exact ⟨rfl, drewN_below b16 _⟩
  | true =>
    obtain rfl : c = 10 := hcb
    generalize (⟨([32] ++ m).toArray⟩ : ByteArray) = b32 at d32
    generalize (⟨([10] ++ m).toArray⟩ : ByteArray) = b10 at d10 d2
    go_enter Tryd.func5, Tryd.ntmps5
    go_wp2_with fail
    refine (C1.out _ T.out).mono ?_
    rintro e w1 ⟨rfl, b1⟩
    go_wp2_with fail
    refine (C2.out _ (T.out.below b1) (EE.out.below b1)).mono ?_
    rintro e w2 ⟨rfl, b2⟩
    have b12 := b1.trans (b2.mono b1.size)
    go_wp2_with fail
    refine (awake_quote _ (T.out.below b12)).mono ?_
    rintro e w3 ⟨rfl, b3⟩
    have b13 := b12.trans (b3.mono b12.size)
    go_wp2_with fail
    refine (C3.out _ (T.out.below b13) (EE.out.below b13)).mono ?_
    rintro e w4 ⟨rfl, b4⟩
    have b16 := b13.trans (b4.mono b13.size)
    clear b1 b2 b12 b3 b13 b4
    by_cases hf : f = 0
    · obtain ⟨hnl, hqt⟩ := U2.out hf
      have hbq := hbe.out hqt
      subst hf
      have hn0 : (0 : Int) ≤ (n : Int) := by omega
      have hn1 : (n : Int) ≤ (t.length : Int) := by omega
      have hn2 : ¬ ((n : Int) < 0) := by omega
      clear U2 hbe hqt
      go_wp2_with fail
      refine wp_region_any (by kernel_rfl) ?_
      change wpAny _ _ _ _ _ _ _ (World.drew _)
      refine wpAny_take (i := 0) (v := .int .i64 0) rfl (by kernel_rfl) (by kernel_rfl) (by kernel_rfl) (fun _ _ _ h => h) (Or.inl ⟨by kernel_rfl, fun w => by go_simp⟩) ?_
      refine wpAny_take (i := 1) (v := .bool false) rfl (by kernel_rfl) (by kernel_rfl) (by kernel_rfl) (fun _ _ _ h => h) (Or.inl ⟨by kernel_rfl, fun w => by go_simp⟩) ?_
      refine wpAny_take (i := 2) (v := .bool false) rfl (by kernel_rfl) (by kernel_rfl) (by kernel_rfl) (fun _ _ _ h => h) (Or.inl ⟨by kernel_rfl, fun w => by go_simp⟩) ?_
      refine wpAny_take (i := 3) (v := .int .i64 n) rfl (by kernel_rfl) (by kernel_rfl) (by kernel_rfl) (fun _ _ _ h => h) (Or.inl ⟨by kernel_rfl, fun w => by go_simp⟩) ?_
      refine wpAny_take (i := 4) (v := .bool true) rfl (by kernel_rfl) (by kernel_rfl) (by kernel_rfl) (fun _ _ _ h => h) (Or.inl ⟨by kernel_rfl, fun w => by go_simp⟩) ?_
      refine wpAny_take (i := 5) (v := .bool true) rfl (by kernel_rfl) (by kernel_rfl) (by kernel_rfl) (fun _ _ _ h => h) (Or.inl ⟨by kernel_rfl, fun w => by go_simp⟩) ?_
      refine wpAny_take (i := 6) (v := .int .i64 n) rfl (by kernel_rfl) (by kernel_rfl) (by kernel_rfl) (fun _ _ _ h => h) (Or.inl ⟨by kernel_rfl, fun w => by go_simp⟩) ?_
      refine wpAny_take (i := 7) (v := .string T3) rfl (by kernel_rfl) (by kernel_rfl) (by kernel_rfl) (fun _ _ _ h => h) (Or.inl ⟨by kernel_rfl, fun w => by go_simp⟩) ?_
      refine wpAny_take (i := 8) (v := .int .i64 t.length) rfl (by kernel_rfl) (by kernel_rfl) (by kernel_rfl) (fun _ _ _ h => h) (Or.inl ⟨by kernel_rfl, fun w => by go_simp⟩) ?_
      refine wpAny_take (i := 9) (v := .bool true) rfl (by kernel_rfl) (by kernel_rfl) (by kernel_rfl) (fun _ _ _ h => h) (Or.inl ⟨by kernel_rfl, fun w => by go_simp⟩) ?_
      refine wpAny_take (i := 10) (v := .bool true) rfl (by kernel_rfl) (by kernel_rfl) (by kernel_rfl) (fun _ _ _ h => h) (Or.inl ⟨by kernel_rfl, fun w => by go_simp⟩) ?_
      refine wpAny_take (i := 11) (v := .bool true) rfl (by kernel_rfl) (by kernel_rfl) (by kernel_rfl) (fun _ _ _ h => h) (Or.inl ⟨by kernel_rfl, fun w => by go_simp⟩) ?_
      refine wpAny_take (i := 12) (v := .string yb) rfl (by kernel_rfl) (by kernel_rfl) (by kernel_rfl) (fun _ _ _ h => h) (Or.inl ⟨by kernel_rfl, fun w => by go_simp⟩) ?_
      refine wpAny_take (i := 14) (v := .string T3) rfl (by kernel_rfl) (by kernel_rfl) (by kernel_rfl) (fun _ _ _ h => h) (Or.inl ⟨by kernel_rfl, fun w => by go_simp⟩) ?_
      refine wpAny_take (i := 15) (v := .int .i64 n) rfl (by kernel_rfl) (by kernel_rfl) (by kernel_rfl) (fun _ _ _ h => h) (Or.inl ⟨by kernel_rfl, fun w => by go_simp⟩) ?_
      refine wpAny_take (i := 16) (v := .string tk) rfl (by kernel_rfl) (by kernel_rfl) (by kernel_rfl) (fun _ _ _ h => h) (Or.inl ⟨by kernel_rfl, fun w => by go_simp⟩) ?_
      refine wpAny_ready (rs := [13]) (by kernel_rfl) (by simp) ?_
      refine AllReady.cons rfl (fun K hK => ?_) AllReady.nil
      go_simp
      refine (C4.out _ (T.out.below b16.drew)).mono ?_
      rintro e7 w7 ⟨rfl, b7⟩
      have b17 := b16.drew.trans (b7.mono b16.drew.size)
      refine hK _ _ ?_
      clear hK K b7
      refine wpAny_ready (rs := [17]) (by kernel_rfl) (by simp) ?_
      refine AllReady.cons rfl (fun K hK => ?_) AllReady.nil
      go_simp
      refine hK _ _ ?_
      clear hK K
      refine wpAny_ready (rs := [18]) (by kernel_rfl) (by simp) ?_
      refine AllReady.cons rfl (fun K hK => ?_) AllReady.nil
      go_simp
      refine hK _ _ ?_
      clear hK K
      refine wpAny_ready (rs := [19]) (by kernel_rfl) (by simp) ?_
      refine AllReady.cons rfl (fun K hK => ?_) AllReady.nil
      go_simp
      refine hK _ _ ?_
      clear hK K
      refine wpAny_ready (rs := [20]) (by kernel_rfl) (by simp) ?_
      refine AllReady.cons rfl (fun K hK => ?_) AllReady.nil
      go_simp
      refine hK _ _ ?_
      clear hK K
      refine wpAny_done (by kernel_rfl) ?_ _
      go_wp2
      go_ret
      exact ⟨rfl, b17⟩
    · have f1 : (f != 0) = true := by simp [hf]
      clear U2 hbe hf
      go_wp2_with fail
      go_quiet (fail)
      go_wp2
      go_ret
      exact ⟨rfl, drewN_below b16 _⟩
theorem walk (w : World) (l : List UInt8) (hl : l.length ≤ maxLen) (m : List UInt8) (hm : m.length ≤ maxLen) (b : Bool) (t : List UInt8) (ht : t.length ≤ maxLen) (tab : Tab w ∧ ErrTab w) :
    Calls Tryd.prog 5 #[.string ⟨l.toArray⟩, .string ⟨m.toArray⟩, .bool b, .string ⟨t.toArray⟩] w fun e w' => e = .returned (.bool true) ∧ Below w.heap.size w w' := by
  by_cases h : 800 < l.length ∨ 300 < m.length ∨ 800 < t.length
  · exact walk_long w l m b t hl hm ht tab.1 h
  · exact walk_short w l m b t (by omega) (by omega) (by omega) tab.1 tab.2
end Go.Proofs.YtkhfgddjnnibdaaDoor.quoteBack
