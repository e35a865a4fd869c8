/-
  Texts that belong together, one behind the other.
-/
import Derived.Test.YtgbmbemmkadagaaFu10
import Derived.Test.YtgbmbemmkadagaaFu14
/-
  What an append leaves (cut out of Fg).
-/
namespace Go.Proofs.Ytgbmbemmkadagaa
set_option maxRecDepth 20000
open Go.RowKit
set_option linter.unusedVariables false

theorem Appended.new {w w' : World} {v v' : Value} {l : List UInt8} (h : Appended w v l v' w') {B : Nat} (hf : ∀ g, foot v = some g → B ≤ g) (hB : B ≤ w.heap.size) : ∀ g, foot v' = some g → B ≤ g := fun g hg => by
  rcases h.2.2 with h3 | h3 | h3
  · rw [h3] at hg; exact hf g hg
  · rw [h3] at hg; cases hg
  · rw [h3] at hg; cases hg; exact hB
theorem Appended.below {w w' w0 : World} {v v' : Value} {l : List UInt8} (h : Appended w v l v' w') {B : Nat} (hb : Below B w0 w) (hf : ∀ g, foot v = some g → B ≤ g) (hB : B ≤ w.heap.size) : Below B w0 w' :=
  hb.grown h.2.1 hB hf
end Go.Proofs.Ytgbmbemmkadagaa

/-
  Layer 14, the program: Print.
-/
namespace Go.Proofs.Ytgbmbemmkadagaa
set_option maxRecDepth 20000
open Go.RowKit
set_option linter.unusedVariables false
set_option linter.unusedSimpArgs false

theorem printE_next (l : List Edx) (k : Nat) (h : k < l.length) : printE (l.take (k + 1)) = printE (l.take k) ++ prE l[k] := by
  unfold printE
  rw [take_next l k h, List.map_append, List.flatten_append]
  simp
theorem prE_len (e : Edx) : (prE e).length = 12 + e.2.2.length := by
  unfold prE
  simp only [List.length_append, numX_len]
  omega
theorem printE_len : ∀ l : List Edx, (printE l).length = 12 * l.length + sumE l
  | [] => rfl
  | e :: l => by
    have ih := printE_len l
    unfold printE sumE at ih ⊢
    simp only [List.map_cons, List.flatten_cons, List.length_append, List.length_cons, List.sum_cons, prE_len]
    omega
theorem sumE_take (l : List Edx) (k : Nat) : sumE (l.take k) ≤ sumE l := by
  unfold sumE
  conv => rhs; rw [← List.take_append_drop k l]
  rw [List.map_append, List.sum_append]
  omega
theorem sumE_at (l : List Edx) (k : Nat) (h : k < l.length) : l[k].2.2.length ≤ sumE l := by
  have h1 : sumE (l.take (k + 1)) = sumE (l.take k) + l[k].2.2.length := by
    unfold sumE
    rw [take_next l k h, List.map_append, List.sum_append]
    simp
  have := sumE_take l (k + 1)
  omega
/-- What is printed so far, while an edit is at hand. -/
structure PrS (w0 : World) (g : Nat) (E : Array Value) (w : World) (v : Value) (l : List UInt8) : Prop where
  row : Row w v l
  foot : ∀ k, foot v = some k → w0.heap.size ≤ k ∧ k ≠ g
  below : Below w0.heap.size w0 w
  cell : w.heap[g]? = some (.cells E 93 (0, 0))
theorem PrS.next {w0 w w' : World} {g : Nat} {E : Array Value} {v v' : Value} {l l' : List UInt8} (h : PrS w0 g E w v l) (hr : Row w' v' l') (hf : ∀ k, Go.Proofs.Ytgbmbemmkadagaa.foot v' = some k → Go.Proofs.Ytgbmbemmkadagaa.foot v = some k ∨ w.heap.size ≤ k) (hc : Chg (fun k => Go.Proofs.Ytgbmbemmkadagaa.foot v = some k) w w') : PrS w0 g E w' v' l' where
  row := hr
  foot := fun k hk => by
    rcases hf k hk with h1 | h1
    · exact h.foot k h1
    · exact ⟨Nat.le_trans h.below.size h1, fun e => by have := lt_of_heap h.cell; omega⟩
  below := h.below.trans (hc.below h.below.size (fun k _ hk => (h.foot k hk).1))
  cell := (hc.block g (lt_of_heap h.cell) (fun hk => (h.foot g hk).2 rfl)).trans h.cell
set_option maxHeartbeats 16000000 in
theorem Print_is (a : Option Addr) (n c : Nat) (l : List Edc) (w : World) (h : EdAt w a l) (hn : n = l.length) (hs : 12 * n + sumE (l.map Edc.x) ≤ 900000) :
    Calls Try.prog 47 #[.slice a n c] w fun e w' => ∃ v, e = .returned v ∧ Row w' v (printE (l.map Edc.x)) ∧ (∀ g, foot v = some g → w.heap.size ≤ g) ∧ Below w.heap.size w w' := by
  obtain ⟨z, hz, hzs, hzv, hzb, hz1⟩ := zEdit_any
  have ZS := Lib.hid hzs
  have H := Lib.hid h; have HN := Lib.hid hn
  obtain ⟨L, hL⟩ : ∃ L, l.map Edc.x = L := ⟨_, rfl⟩
  have LL := Lib.hid (show L.length = l.length by rw [← hL, List.length_map])
  have HK := Lib.hid (show ∀ k (hk : k < l.length) (hk2 : k < L.length), L[k] = (l[k].f, l[k].t, l[k].b) from fun k hk hk2 => by simp only [← hL, List.getElem_map]; rfl)
  rw [hL] at hs ⊢
  have hm : n ≤ 900000 := by omega
  have HS := Lib.hid hs
  clear h hn hz hzs hzb hz1 hL hs
  go_enter Try.func47, Try.ntmps47
  go_wp2_with fail
  go_loopw [3, 8] (fun v i wr => ∃ k : Nat, k ≤ n ∧ i = .int .i64 k ∧ Row wr v (printE (L.take k)) ∧ (∀ g, foot v = some g → w.heap.size ≤ g) ∧ Below w.heap.size w wr) (fun _ i _ => n - (intOf i).toNat)
  case atStart => exact ⟨0, Nat.zero_le _, rfl, Row.nil _ _, fun g hg => (by cases hg), Below.refl _ _⟩
  case round =>
    obtain ⟨k, hk, rfl, hrow, hft, hbr⟩ := hrel
    have HR := Lib.hid hrow; have HF := Lib.hid hft; have HBR := Lib.hid hbr
    clear hrow hft hbr
    by_cases hlt : k < n
    · have hkl : k < l.length := by rw [← HN.out]; exact hlt
      have hkL : k < L.length := by rw [LL.out]; exact hkl
      obtain ⟨b, o, rfl, -⟩ := H.out.1.some (by omega)
      obtain ⟨av, cv, E, hv, hE, hrg, hred, e3, eo, ie, il⟩ := (H.out.keep HBR.out).round k hkl
      obtain ⟨-, -, -, hred0⟩ := H.out.cells k hkl
      rw [hv] at hred0
      have PX := printE_next L k hkL
      have PL := printE_len (L.take k)
      have SA := sumE_at L k hkL
      have ST := sumE_take L k
      rw [List.length_take] at PL
      rw [HK.out k hkl hkL] at PX SA
      obtain ⟨f, hf⟩ : ∃ f, l[k].f = f := ⟨_, rfl⟩
      obtain ⟨t, ht⟩ : ∃ t, l[k].t = t := ⟨_, rfl⟩
      obtain ⟨B, hB⟩ : ∃ B, l[k].b = B := ⟨_, rfl⟩
      rw [hf, ht, hB] at PX
      rw [hB] at SA
      simp only at SA
      unfold prE at PX
      rw [hf, ht, hB] at hE
      rw [hB] at hred0
      obtain ⟨m, hm⟩ : ∃ m, B.length = m := ⟨_, rfl⟩
      simp only [hm] at PX
      rw [hm] at hE SA
      have mle : m ≤ 900000 := by have := HS.out; omega
      have P0 := Lib.hid (show (printE (L.take k)).length ≤ 900000 by have := HS.out; omega)
      obtain ⟨T, hT⟩ : ∃ T, printE (L.take k) = T := ⟨_, rfl⟩
      rw [hT] at PX P0
      have HR := Lib.hid (show Row wr u3 T by rw [← hT]; exact HR.out)
      have PX := Lib.hid PX; have HE := Lib.hid hE; have RG := Lib.hid hrg; have E3 := Lib.hid e3; have EO := Lib.hid eo; have IE := Lib.hid ie; have IL := Lib.hid il; have R0 := Lib.hid hred0; have HM := Lib.hid hm
      have SZ := Lib.hid (show E.size = z.size by rw [E3.out, ZS.out])
      have N2 := Lib.hid (heap_alloc_new wr (.cells z 93))
      clear hrg hred e3 eo ie il hE hv hf ht hB hred0 hm PL SA ST hT
      go_wp2_with (first
        | (with_reducible refine wpList_load_mid rfl 93 (.tmp 10) rfl b (o + k * 3) rfl E.toList _ RG.out Try.underlying93 rfl IL.out ?_; rw [Array.toArray_toList])
        | (with_reducible refine wpList_store_all rfl 93 (.tmp 5) (.tmp 11) rfl wr.heap.size E rfl rfl 93 z N2.out IE.out SZ.out EO.out ?_; intro w4 hg4 ho4 hs4; obtain ⟨x0, -, -⟩ := edit_cells hg4 HE.out)
        | fail)
      have b4 := ((Below.refl wr.heap.size wr).alloc (Nat.le_refl _) (.cells z 93)).trans (ho4.below (B := wr.heap.size) (Nat.le_refl _) (by simp))
      have S4 := Lib.hid (show PrS w wr.heap.size E w4 u3 T from ⟨HR.out.chg (S := fun _ => False) (Chg.of_below b4) (fun _ _ h => h), fun k hk => ⟨HF.out k hk, fun e => absurd (HR.out.lt k hk) (by omega)⟩, HBR.out.trans (b4.mono HBR.out.size), hg4⟩)
      clear b4 ho4 hs4 hg4
      refine (appendNumber_is u3 T f w4 S4.out.row (Nat.le_trans P0.out (by decide))).mono ?_
      rintro e w5 ⟨v5, rfl, hr5, hf5, hc5⟩
      have S5 := Lib.hid (S4.out.next hr5 hf5 hc5)
      have x5 := (edit_cells S5.out.cell HE.out).2.1
      clear hr5 hf5 hc5 x0 S4
      go_wp2_with fail
      refine (appendNumber_is v5 _ t w5 S5.out.row (by rw [List.length_append, numX_len]; have := P0.out; omega)).mono ?_
      rintro e w6 ⟨v6, rfl, hr6, hf6, hc6⟩
      have S6 := Lib.hid (S5.out.next hr6 hf6 hc6)
      have x6 := (edit_cells S6.out.cell HE.out).2.2
      clear hr6 hf6 hc6 x5 S5
      go_wp2_with fail
      refine (appendNumber_is v6 _ (m : Int) w6 S6.out.row (by rw [List.length_append, List.length_append, numX_len, numX_len]; have := P0.out; omega)).mono ?_
      rintro e w7 ⟨v7, rfl, hr7, hf7, hc7⟩
      have S7 := Lib.hid (S6.out.next hr7 hf7 hc7)
      have x7 := (edit_cells S7.out.cell HE.out).2.2
      have hred7 : Red w7 (.slice av B.length cv) B := R0.out.below S7.out.below (Nat.le_refl _)
      obtain ⟨-, hbat, hno, -⟩ := redP hred7
      rw [HM.out] at hno
      have HB := Lib.hid hbat; have HNO := Lib.hid hno
      clear hr7 hf7 hc7 x6 S6 hbat hno hred7
      go_wp2_with (first
        | (at_builtin; refine wpList_append_row rfl (.tmp 25) (.tmp 27) rfl v7 rfl _ B S7.out.row av m cv rfl HB.out HM.out.symm HNO.out (by rw [List.length_append, List.length_append, List.length_append, numX_len, numX_len, numX_len, HM.out]; have := P0.out; omega) ?_; intro v8 w8 hap)
        | fail)
      have HA := Lib.hid hap
      refine ⟨⟨k + 1, by omega, by go_num, ?_, hap.new (fun g hg => (S7.out.foot g hg).1) S7.out.below.size, hap.below S7.out.below (fun g hg => (S7.out.foot g hg).1) S7.out.below.size⟩, by simp only [intOf]; omega⟩
      rw [PX.out]
      have q := HA.out.1
      simp only [List.append_assoc] at q
      exact q
    · have hkn : k = n := by omega
      have hLk : L.take k = L := by rw [hkn, HN.out, ← LL.out, List.take_length]
      rw [hLk] at HR
      subst hkn
      clear hLk
      go_wp2
      go_ret
      exact ⟨_, rfl, HR.out, HF.out, HBR.out⟩
end Go.Proofs.Ytgbmbemmkadagaa
