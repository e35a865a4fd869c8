/-
  Layer 14, the document's Print.
-/
import Derived.Test.YtbilempgnpnacaaE4m
/-
  Layer 14, the laws' helper: few.
-/
namespace Go.Proofs.Ytbilempgnpnacaa
set_option maxRecDepth 20000
open Go.RowKit
set_option linter.unusedVariables false
set_option linter.unusedSimpArgs false

theorem sumE_next (l : List Edx) (k : Nat) (h : k < l.length) : sumE (l.take (k + 1)) = sumE (l.take k) + l[k].2.2.length := by
  unfold sumE
  rw [take_next l k h, List.map_append, List.sum_append]
  simp
/-- Not too many edits, of not too many bytes. -/
def fewE (l : List Edx) : Bool := decide (l.length < 60) && decide (sumE l < 3000)
set_option maxHeartbeats 8000000 in
theorem few_is (a : Option Addr) (n c : Nat) (l : List Edc) (w : World) (h : EdAt w a l) (hn : n = l.length) (hm : n ≤ maxLen) (hr : ∀ e ∈ l, e.b.length ≤ 1000000000000000) :
    Calls Try.prog 7 #[.slice a n c] w fun e w' => e = .returned (.bool (fewE (l.map Edc.x))) ∧ w' = w := by
  have H := Lib.hid h; have HN := Lib.hid hn
  obtain ⟨L, hL⟩ : ∃ L, l.map Edc.x = L := ⟨_, rfl⟩
  have LL := Lib.hid (show L.length = l.length by rw [← hL, List.length_map])
  have HK := Lib.hid (show ∀ k (hk : k < l.length) (hk2 : k < L.length), L[k] = (l[k].f, l[k].t, l[k].b) from fun k hk hk2 => by simp only [← hL, List.getElem_map]; rfl)
  rw [hL]
  have hm2 : n ≤ 9223372036854775807 := Nat.le_trans hm (by decide)
  have RC := Lib.hid hr
  clear h hn hL hm hr
  go_enter Try.func7, Try.ntmps7
  go_wp2_with fail
  go_loopw [3, 4] (fun p i wr => ∃ k s : Nat, k ≤ n ∧ k ≤ 60 ∧ i = .int .i64 k ∧ p = .int .i64 s ∧ s = sumE (L.take k) ∧ s ≤ k * 1000000000000000 ∧ wr = w) (fun _ i _ => n - (intOf i).toNat)
  case atStart => exact ⟨0, 0, Nat.zero_le _, by omega, rfl, rfl, rfl, Nat.zero_le _, rfl⟩
  case round =>
    obtain ⟨k, s, hk, hk6, rfl, rfl, hs, hsb, hwr⟩ := hrel
    have HS := Lib.hid hs; have HW := Lib.hid hwr
    clear hs hwr
    by_cases hlt : k < n
    · by_cases hl6 : k < 60
      · have hkl : k < l.length := by rw [← HN.out]; exact hlt
        have hkL : k < L.length := by rw [LL.out]; exact hkl
        obtain ⟨b, o, rfl, -⟩ := H.out.1.some (by omega)
        obtain ⟨-, -, c2, hred⟩ := H.out.cells k hkl
        obtain ⟨av, cv, hv, -⟩ := hred
        have mm := RC.out _ (List.getElem_mem hkl)
        rw [hv, ← HW.out] at c2
        have SN := sumE_next L k hkL
        rw [HK.out k hkl hkL] at SN
        simp only at SN
        obtain ⟨m, hm⟩ : ∃ m, l[k].b.length = m := ⟨_, rfl⟩
        rw [hm] at c2 SN mm
        have SN := Lib.hid (show s + m = sumE (L.take (k + 1)) by rw [SN, HS.out])
        have d1 : decide ((k : Int) < (n : Int)) = true := decide_eq_true (by omega)
        have d2 : decide ((k : Int) < 60) = true := decide_eq_true (by omega)
        have gs : s + m ≤ (k + 1) * 1000000000000000 := by omega
        clear hv hm
        go_wp2
        go_roundw
        case rel => exact ⟨k + 1, s + m, by omega, by omega, by go_num, by go_num, SN.out, gs, HW.out⟩
        case measure => simp [intOf]; omega
      · have hk60 : k = 60 := by omega
        subst hk60
        have F := Lib.hid (show fewE L = false by unfold fewE; rw [decide_eq_false (by rw [LL.out, ← HN.out]; omega)]; rfl)
        have d3 : decide ((n : Int) < 60) = false := decide_eq_false (by omega)
        have d1 : decide ((60 : Int) < (n : Int)) = true := decide_eq_true (by omega)
        go_wp2
        go_ret
        exact ⟨by rw [F.out]; rfl, HW.out⟩
    · have hkn : k = n := by omega
      have d1 : decide ((k : Int) < (n : Int)) = false := decide_eq_false (by omega)
      have SF : sumE L = s := by rw [HS.out, hkn, HN.out, ← LL.out, List.take_length]
      have HF := Lib.hid (show fewE L = (decide ((k : Int) < 60) && decide ((s : Int) < 3000)) by
        unfold fewE
        rw [SF, LL.out, ← HN.out, ← hkn]
        congr 1
        · exact decide_eq_decide.2 (by omega)
        · exact decide_eq_decide.2 (by omega))
      subst hkn
      clear SF
      by_cases h60 : k < 60
      · have d2 : decide ((k : Int) < 60) = true := decide_eq_true (by omega)
        go_wp2
        go_ret
        exact ⟨by rw [HF.out, d2]; rfl, HW.out⟩
      · have d2 : decide ((k : Int) < 60) = false := decide_eq_false (by omega)
        go_wp2
        go_ret
        exact ⟨by rw [HF.out, d2]; rfl, HW.out⟩
end Go.Proofs.Ytbilempgnpnacaa
namespace Go.Proofs.Ytbilempgnpnacaa
set_option maxRecDepth 20000
open Go.RowKit
set_option linter.unusedVariables false
set_option linter.unusedSimpArgs false

set_option maxHeartbeats 8000000 in
theorem four_is (x : Int) (w : World) :
    Calls Try.prog 29 #[.int .i64 x] w fun e w' => ∃ g, e = .returned (.slice (some ⟨g, 0, none⟩) 4 4) ∧ BAt w' (some ⟨g, 0, none⟩) (numX (clampN x)) ∧ Below w.heap.size w w' := by
  obtain ⟨N, hN⟩ : ∃ N, clampN x = N := ⟨_, rfl⟩
  have hNle := clampN_le x
  rw [hN] at hNle ⊢
  have hc : (x < 0 ∧ N = 0) ∨ (x = 0 ∧ N = 0) ∨ (0 < N ∧ x ≤ 2147483647 ∧ x = (N : Int)) ∨ (¬ x < 0 ∧ ¬ x ≤ 2147483647 ∧ N = 2147483647) := by
    unfold clampN at hN
    split at hN
    · left; omega
    · split at hN
      · by_cases h0 : x = 0
        · right; left; omega
        · right; right; left; omega
      · right; right; right; omega
  clear hN
  have AP := Lib.hid (fun (C : Array Value) (hC : numV N = C) => num_bat (w := w.alloc (.cells C 5)) (g := w.heap.size) (n := N) (t := 5) (fr := (0, 0)) hNle (by rw [hC]; exact heap_alloc_new w _))
  rcases hc with ⟨h1, rfl⟩ | ⟨rfl, rfl⟩ | ⟨h1, h2, rfl⟩ | ⟨h1, h2, rfl⟩
  all_goals
    go_enter Try.func29, Try.ntmps29
    go_wp2
    go_ret
    exact ⟨_, rfl, AP.out _ rfl, (Below.refl _ _).alloc (Nat.le_refl _) _⟩
set_option maxHeartbeats 16000000 in
theorem rPrint_is (a : Option Addr) (n c : Nat) (l : List Edc) (w : World) (h : EdAt w a l) (hn : n = l.length) (hs : 12 * n + sumE (l.map Edc.x) ≤ 900000) :
    Calls Try.prog 20 #[.slice a n c] w fun e w' => ∃ v, e = .returned v ∧ Row w' v (printE (l.map Edc.x)) ∧ (∀ g, foot v = some g → w.heap.size ≤ g) ∧ Below w.heap.size w w' := by
  have H := Lib.hid h; have HN := Lib.hid hn
  obtain ⟨L, hL⟩ : ∃ L, l.map Edc.x = L := ⟨_, rfl⟩
  have LL := Lib.hid (show L.length = l.length by rw [← hL, List.length_map])
  have HK := Lib.hid (show ∀ k (hk : k < l.length) (hk2 : k < L.length), L[k] = (l[k].f, l[k].t, l[k].b) from fun k hk hk2 => by simp only [← hL, List.getElem_map]; rfl)
  rw [hL] at hs ⊢
  have hm : n ≤ 900000 := by omega
  have HS := Lib.hid hs
  clear h hn hL hs
  go_enter Try.func20, Try.ntmps20
  go_wp2_with fail
  go_loopw [3, 4] (fun v i wr => ∃ k : Nat, k ≤ n ∧ i = .int .i64 k ∧ Row wr v (printE (L.take k)) ∧ (∀ g, foot v = some g → w.heap.size ≤ g) ∧ Below w.heap.size w wr) (fun _ i _ => n - (intOf i).toNat)
  case atStart => exact ⟨0, Nat.zero_le _, rfl, Row.nil _ _, fun g hg => (by cases hg), Below.refl _ _⟩
  case round =>
    obtain ⟨k, hk, rfl, hrow, hft, hbr⟩ := hrel
    have HR := Lib.hid hrow; have HF := Lib.hid hft; have HBR := Lib.hid hbr
    clear hrow hft hbr
    by_cases hlt : k < n
    · have hkl : k < l.length := by rw [← HN.out]; exact hlt
      have hkL : k < L.length := by rw [LL.out]; exact hkl
      obtain ⟨b, o, rfl, -⟩ := H.out.1.some (by omega)
      obtain ⟨-, -, -, hred0⟩ := H.out.cells k hkl
      obtain ⟨av, cv, hv⟩ : ∃ a c, l[k].v = .slice a l[k].b.length c := by
        obtain ⟨a, c, e, -⟩ := hred0
        exact ⟨a, c, e⟩
      have PX := printE_next L k hkL
      have PL := printE_len (L.take k)
      have SA := sumE_at L k hkL
      have ST := sumE_take L k
      rw [List.length_take] at PL
      rw [HK.out k hkl hkL] at PX SA
      have CL := fun u (hu : Below w.heap.size w u) => (H.out.keep hu).cells k hkl
      obtain ⟨f, hf⟩ : ∃ f, l[k].f = f := ⟨_, rfl⟩
      obtain ⟨t, ht⟩ : ∃ t, l[k].t = t := ⟨_, rfl⟩
      obtain ⟨B, hB⟩ : ∃ B, l[k].b = B := ⟨_, rfl⟩
      rw [hf, ht, hB] at PX
      rw [hB] at SA
      rw [hv] at CL
      rw [hf, ht, hB] at CL
      simp only at SA
      unfold prE at PX
      obtain ⟨m, hm⟩ : ∃ m, B.length = m := ⟨_, rfl⟩
      simp only [hm] at PX
      rw [hm] at SA CL
      have mle : m ≤ 900000 := by have := HS.out; omega
      have P0 := Lib.hid (show (printE (L.take k)).length ≤ 900000 by have := HS.out; omega)
      obtain ⟨T, hT⟩ : ∃ T, printE (L.take k) = T := ⟨_, rfl⟩
      rw [hT] at PX P0
      have HR := Lib.hid (show Row wr u3 T by rw [← hT]; exact HR.out)
      have PX := Lib.hid PX; have HM := Lib.hid hm; have HCL := Lib.hid CL
      obtain ⟨c0, -, -, -⟩ := CL wr HBR.out
      clear hv hf ht hB hred0 hm PL SA ST hT CL
      go_wp2_with fail
      refine (four_is f wr).mono ?_
      rintro e w4 ⟨g4, rfl, hb4, hbe4⟩
      have B4 := Lib.hid (HBR.out.trans (hbe4.mono HBR.out.size))
      have R4 := Lib.hid (HR.out.chg (S := fun _ => False) (Chg.of_below hbe4) (fun _ _ h => h))
      have X4 := Lib.hid hb4
      clear hb4 hbe4 c0
      go_wp2_with (first
        | (at_builtin; refine wpList_append_row rfl (.tmp 11) (.tmp 17) rfl u3 rfl T (numX (clampN f)) R4.out (some ⟨g4, 0, none⟩) 4 4 rfl X4.out rfl (fun h => by cases h) (by rw [numX_len]; have := P0.out; omega) ?_; intro v5 w5 hap; have B5 := Lib.hid (hap.below B4.out HF.out B4.out.size); have F5 := Lib.hid (hap.new (B := w.heap.size) HF.out B4.out.size); have R5 := Lib.hid hap.1; obtain ⟨-, c1, -, -⟩ := HCL.out w5 B5.out; clear hap)
        | fail)
      refine (four_is t w5).mono ?_
      rintro e w6 ⟨g6, rfl, hb6, hbe6⟩
      have B6 := Lib.hid (B5.out.trans (hbe6.mono B5.out.size))
      have R6 := Lib.hid (R5.out.chg (S := fun _ => False) (Chg.of_below hbe6) (fun _ _ h => h))
      have X6 := Lib.hid hb6
      clear hb6 hbe6 c1
      go_wp2_with (first
        | (at_builtin; refine wpList_append_row rfl (.tmp 19) (.tmp 25) rfl v5 rfl _ (numX (clampN t)) R6.out (some ⟨g6, 0, none⟩) 4 4 rfl X6.out rfl (fun h => by cases h) (by rw [List.length_append, numX_len, numX_len]; have := P0.out; omega) ?_; intro v7 w7 hap; have B7 := Lib.hid (hap.below B6.out F5.out B6.out.size); have F7 := Lib.hid (hap.new (B := w.heap.size) F5.out B6.out.size); have R7 := Lib.hid hap.1; obtain ⟨-, -, c2, -⟩ := HCL.out w7 B7.out; clear hap)
        | fail)
      refine (four_is (m : Int) w7).mono ?_
      rintro e w8 ⟨g8, rfl, hb8, hbe8⟩
      have B8 := Lib.hid (B7.out.trans (hbe8.mono B7.out.size))
      have R8 := Lib.hid (R7.out.chg (S := fun _ => False) (Chg.of_below hbe8) (fun _ _ h => h))
      have X8 := Lib.hid hb8
      clear hb8 hbe8 c2
      go_wp2_with (first
        | (at_builtin; refine wpList_append_row rfl (.tmp 27) (.tmp 34) rfl v7 rfl _ (numX (clampN (m : Int))) R8.out (some ⟨g8, 0, none⟩) 4 4 rfl X8.out rfl (fun h => by cases h) (by rw [List.length_append, List.length_append, numX_len, numX_len, numX_len]; have := P0.out; omega) ?_; intro v9 w9 hap; have B9 := Lib.hid (hap.below B8.out F7.out B8.out.size); have F9 := Lib.hid (hap.new (B := w.heap.size) F7.out B8.out.size); have R9 := Lib.hid hap.1; obtain ⟨-, -, c3, hrd⟩ := HCL.out w9 B9.out; obtain ⟨-, hbt, hnn, -⟩ := redP hrd; rw [HM.out] at hnn; have X9 := Lib.hid hbt; have N9 := Lib.hid hnn; clear hap hrd hbt hnn)
        | (at_builtin; refine wpList_append_row rfl (.tmp 36) (.tmp 41) rfl v9 rfl _ B R9.out av m cv rfl X9.out HM.out.symm N9.out (by rw [List.length_append, List.length_append, List.length_append, numX_len, numX_len, numX_len, HM.out]; have := P0.out; omega) ?_; intro v10 w10 hap; have B10 := Lib.hid (hap.below B9.out F9.out B9.out.size); have F10 := Lib.hid (hap.new (B := w.heap.size) F9.out B9.out.size); have R10 := Lib.hid hap.1; clear hap)
        | fail)
      refine ⟨⟨k + 1, by omega, by go_num, ?_, F10.out, B10.out⟩, by simp only [intOf]; omega⟩
      rw [PX.out]
      have q := R10.out
      simp only [List.append_assoc] at q
      exact q
    · have hkn : k = n := by omega
      have hLk : L.take k = L := by rw [hkn, HN.out, ← LL.out, List.take_length]
      rw [hLk] at HR
      subst hkn
      clear hLk
      go_wp2
      go_ret
      exact ⟨_, rfl, HR.out, HF.out, HBR.out⟩
end Go.Proofs.Ytbilempgnpnacaa
