/-
  Layer 14, the document's Apply.
-/
import Derived.Test.YtbilempgnpnacaaE4h
import Derived.Test.YtbilempgnpnacaaApn
import Derived.Deep.RegionLaw
namespace Go.Proofs.Ytbilempgnpnacaa
set_option maxRecDepth 20000
open Go.RowKit
set_option linter.unusedVariables false
set_option linter.unusedSimpArgs false

theorem red_form' {w : World} {v : Value} {l : List UInt8} (h : Red w v l) : ∃ a c, v = .slice a l.length c := by
  obtain ⟨a, c, e, -⟩ := h
  exact ⟨a, c, e⟩
set_option maxHeartbeats 16000000 in
theorem rapply_bad (a1 : Option Addr) (n1 c1 : Nat) (N : Nat) (a2 : Option Addr) (n2 c2 : Nat) (l : List Edc) (w : World) (e1 : n1 = N) (h2 : EdAt w a2 l) (e2 : n2 = l.length) (m2 : n2 ≤ 1000000) (hok : okE (l.map Edc.x) 0 N = false) :
    Calls Try.prog 11 #[.slice a1 n1 c1, .slice a2 n2 c2] w fun e w' => e = .returned (.tuple #[.slice none 0 0, .int .i64 11]) ∧ Below w.heap.size w w' := by
  subst e1
  have H := Lib.hid h2; have HN := Lib.hid e2
  obtain ⟨L, hL⟩ : ∃ L, l.map Edc.x = L := ⟨_, rfl⟩
  have LL := Lib.hid (show L.length = l.length by rw [← hL, List.length_map])
  have HK := Lib.hid (show ∀ k (hk : k < l.length) (hk2 : k < L.length), L[k] = (l[k].f, l[k].t, l[k].b) from fun k hk hk2 => by simp only [← hL, List.getElem_map]; rfl)
  rw [hL] at hok
  have HOK := Lib.hid hok
  clear h2 e2 hL hok
  go_enter Try.func11, Try.ntmps11
  go_wp2_with fail
  go_loopw [6, 7] (fun p i wr => ∃ k : Nat, k ≤ n2 ∧ i = .int .i64 k ∧ p = .int .i64 (lastE (L.take k) 0) ∧ okE (L.take k) 0 n1 = true ∧ Below w.heap.size w wr) (fun _ i _ => n2 - (intOf i).toNat)
  case atStart => exact ⟨0, Nat.zero_le _, rfl, rfl, rfl, Below.refl _ _⟩
  case round =>
    obtain ⟨k, hk, rfl, rfl, hokk, hbr⟩ := hrel
    have HO := Lib.hid hokk; have HBR := Lib.hid hbr
    clear hokk hbr
    by_cases hlt : k < n2
    · have hkl : k < l.length := by rw [← HN.out]; exact hlt
      have hkL : k < L.length := by rw [LL.out]; exact hkl
      obtain ⟨b, o, rfl, -⟩ := H.out.1.some (by omega)
      obtain ⟨c0, c1', -, -⟩ := (H.out.keep HBR.out).cells k hkl
      have NX := okE_next L k hkL 0 n1
      have LX := lastE_next L k hkL 0
      rw [HO.out, Bool.true_and] at NX
      rw [HK.out k hkl hkL] at NX LX
      obtain ⟨p, hp⟩ : ∃ p, lastE (L.take k) 0 = p := ⟨_, rfl⟩
      obtain ⟨f, hf⟩ : ∃ f, l[k].f = f := ⟨_, rfl⟩
      obtain ⟨t, ht⟩ : ∃ t, l[k].t = t := ⟨_, rfl⟩
      rw [hf, ht] at NX LX
      rw [hf] at c0
      rw [ht] at c1'
      rw [hp] at NX ⊢
      have NX := Lib.hid NX; have LX := Lib.hid LX
      have SE := Lib.hid (show stepE p n1 (f, t, l[k].b) = (decide (p ≤ f) && decide (f ≤ t) && decide (t ≤ (n1 : Int))) from rfl)
      clear hp hf ht
      have hc : f < p ∨ (¬ f < p ∧ t < f) ∨ (¬ f < p ∧ ¬ t < f ∧ (n1 : Int) < t) ∨ (¬ f < p ∧ ¬ t < f ∧ ¬ (n1 : Int) < t) := by omega
      rcases hc with h1 | ⟨h1, h2⟩ | ⟨h1, h2, h3⟩ | ⟨h1, h2, h3⟩
      · have d1 : decide (f < p) = true := decide_eq_true h1
        clear h1
        go_wp2_with fail
        go_quiet (fail)
        go_wp2
        go_ret2
        exact ⟨rfl, below_drewN HBR.out _⟩
      · have d1 : decide (f < p) = false := decide_eq_false h1
        have d2 : decide (t < f) = true := decide_eq_true h2
        clear h1 h2
        go_wp2_with fail
        go_quiet (fail)
        go_wp2
        go_ret2
        exact ⟨rfl, below_drewN HBR.out _⟩
      · have d1 : decide (f < p) = false := decide_eq_false h1
        have d2 : decide (t < f) = false := decide_eq_false h2
        have d3 : decide ((n1 : Int) < t) = true := decide_eq_true h3
        clear h1 h2 h3
        go_wp2_with fail
        go_quiet (fail)
        go_wp2
        go_ret2
        exact ⟨rfl, below_drewN HBR.out _⟩
      · have d1 : decide (f < p) = false := decide_eq_false h1
        have d2 : decide (t < f) = false := decide_eq_false h2
        have d3 : decide ((n1 : Int) < t) = false := decide_eq_false h3
        have ST := Lib.hid (show stepE p n1 (f, t, l[k].b) = true by rw [SE.out]; simp; omega)
        clear h1 h2 h3
        go_wp2_with fail
        go_quiet (fail)
        have HB2 := Lib.hid (below_drewN HBR.out nq)
        go_wp2
        go_roundw
        case rel => exact ⟨k + 1, by omega, by go_num, by rw [LX.out], by rw [NX.out, ST.out], HB2.out⟩
        case measure => simp [intOf]; omega
    · exfalso
      have hkn : k = n2 := by omega
      have q := HO.out
      rw [hkn, HN.out, ← LL.out, List.take_length, HOK.out] at q
      cases q
set_option maxHeartbeats 16000000 in
theorem rapply_ok (a1 : Option Addr) (n1 c1 : Nat) (l1 : List UInt8) (a2 : Option Addr) (n2 c2 : Nat) (l : List Edc) (w : World) (h1 : BAt w a1 l1) (e1 : n1 = l1.length) (q1 : n1 ≤ c1) (qm : c1 ≤ maxLen) (hno : a1 = none → n1 = 0 ∧ c1 = 0) (m1 : n1 ≤ 1000000)
    (h2 : EdAt w a2 l) (e2 : n2 = l.length) (m2 : n2 ≤ 10000) (hok : okE (l.map Edc.x) 0 l1.length = true) (ht : (appE l1 (l.map Edc.x)).length ≤ 65536) :
    Calls Try.prog 11 #[.slice a1 n1 c1, .slice a2 n2 c2] w fun e w' => ∃ v, e = .returned (.tuple #[v, .int .i64 0]) ∧ Row w' v (appE l1 (l.map Edc.x)) ∧ Below w.heap.size w w' := by
  have H1 := Lib.hid h1; have H := Lib.hid h2; have E1 := Lib.hid e1; have HN := Lib.hid e2; have HNO := Lib.hid hno
  obtain ⟨L, hL⟩ : ∃ L, l.map Edc.x = L := ⟨_, rfl⟩
  have LL := Lib.hid (show L.length = l.length by rw [← hL, List.length_map])
  have HK := Lib.hid (show ∀ k (hk : k < l.length) (hk2 : k < L.length), L[k] = (l[k].f, l[k].t, l[k].b) from fun k hk hk2 => by simp only [← hL, List.getElem_map]; rfl)
  rw [hL] at hok ht ⊢
  have HOK := Lib.hid hok; have HT := Lib.hid ht
  clear h1 h2 e1 e2 hno hL hok ht qm
  go_enter Try.func11, Try.ntmps11
  go_wp2_with fail
  go_loopw [6, 7] (fun p i wr => ∃ k : Nat, k ≤ n2 ∧ i = .int .i64 k ∧ p = .int .i64 (lastE (L.take k) 0) ∧ Below w.heap.size w wr) (fun _ i _ => n2 - (intOf i).toNat)
  case atStart => exact ⟨0, Nat.zero_le _, rfl, rfl, Below.refl _ _⟩
  case round =>
    obtain ⟨k, hk, rfl, rfl, hbr⟩ := hrel
    have HBR := Lib.hid hbr
    clear hbr
    by_cases hlt : k < n2
    · have hkl : k < l.length := by rw [← HN.out]; exact hlt
      have hkL : k < L.length := by rw [LL.out]; exact hkl
      obtain ⟨b, o, rfl, -⟩ := H.out.1.some (by omega)
      obtain ⟨c0, c1', -, -⟩ := (H.out.keep HBR.out).cells k hkl
      have AT := okE_at HOK.out (by omega) k hkL
      have LX := lastE_next L k hkL 0
      rw [HK.out k hkl hkL] at AT LX
      simp only at AT
      rw [← E1.out] at AT
      obtain ⟨p, hp⟩ : ∃ p, lastE (L.take k) 0 = p := ⟨_, rfl⟩
      obtain ⟨f, hf⟩ : ∃ f, l[k].f = f := ⟨_, rfl⟩
      obtain ⟨t, ht⟩ : ∃ t, l[k].t = t := ⟨_, rfl⟩
      rw [hp, hf, ht] at AT
      rw [ht] at LX c1'
      rw [hf] at c0
      rw [hp]
      have LX := Lib.hid LX
      obtain ⟨-, g1, g2, g3⟩ := AT
      have z1 : decide (f < p) = false := decide_eq_false (by omega)
      have z2 : decide (t < f) = false := decide_eq_false (by omega)
      have z3 : decide ((n1 : Int) < t) = false := decide_eq_false (by omega)
      clear hp hf ht g1 g2 g3
      go_wp2_with fail
      go_quiet (fail)
      have HB2 := Lib.hid (below_drewN HBR.out nq)
      go_wp2
      go_roundw
      case rel => exact ⟨k + 1, by omega, by go_num, by rw [LX.out], HB2.out⟩
      case measure => simp [intOf]; omega
    · have hkn : k = n2 := by omega
      subst hkn
      go_wp2_with fail
      go_loopw [8, 9, 10] (fun v p i wt => ∃ j : Nat, j ≤ k ∧ i = .int .i64 j ∧ p = .int .i64 (lastE (L.take j) 0) ∧ Row wt v (preE l1 (L.take j) 0).flatten ∧ (∀ g, foot v = some g → w.heap.size ≤ g) ∧ Below w.heap.size w wt) (fun _ _ i _ => k - (intOf i).toNat)
      case atStart => exact ⟨0, Nat.zero_le _, rfl, rfl, Row.nil _ _, fun g hg => (by cases hg), HBR.out⟩
      case round =>
        clear HBR
        obtain ⟨j, hj, rfl, rfl, hrow, hft, hbt⟩ := hrel
        rename World => wt
        have HR := Lib.hid hrow; have HF := Lib.hid hft; have HBT := Lib.hid hbt
        clear hrow hft hbt
        by_cases hlt2 : j < k
        · have hkl : j < l.length := by rw [← HN.out]; exact hlt2
          have hkL : j < L.length := by rw [LL.out]; exact hkl
          obtain ⟨b, o, rfl, -⟩ := H.out.1.some (by omega)
          obtain ⟨c0, c1', c2', hred⟩ := (H.out.keep HBT.out).cells j hkl
          obtain ⟨av, cv, hv⟩ := red_form' hred
          rw [hv] at c2' hred
          have AT := okE_at HOK.out (by omega) j hkL
          have LX := lastE_next L j hkL 0
          have PX := preE_next l1 L j hkL 0
          rw [HK.out j hkl hkL] at AT LX PX
          simp only at AT
          rw [← E1.out] at AT
          obtain ⟨p, hp⟩ : ∃ p : Nat, lastE (L.take j) 0 = p := ⟨(lastE (L.take j) 0).toNat, by omega⟩
          obtain ⟨f, hf⟩ : ∃ f : Nat, l[j].f = f := ⟨l[j].f.toNat, by omega⟩
          obtain ⟨t, ht⟩ : ∃ t : Nat, l[j].t = t := ⟨l[j].t.toNat, by omega⟩
          obtain ⟨B, hB⟩ : ∃ B, l[j].b = B := ⟨_, rfl⟩
          rw [hp, hf, ht] at AT
          obtain ⟨-, AT1, AT2, AT3⟩ := AT
          have AT1 : p ≤ f := by omega
          have AT2 : f ≤ t := by omega
          have AT3 : t ≤ n1 := by omega
          rw [hf] at c0
          rw [ht] at LX c1'
          rw [hB] at hred c2'
          rw [hp, hf, hB] at PX
          simp only [Int.toNat_natCast] at PX
          rw [hp]
          obtain ⟨m, hm⟩ : ∃ m, B.length = m := ⟨_, rfl⟩
          rw [hm] at c2' hred
          have hpp := redP hred
          have hfl : (preE l1 (L.take (j + 1)) 0).flatten = (preE l1 (L.take j) 0).flatten ++ (l1.take f).drop p ++ B := by
            rw [PX, List.flatten_append]
            simp
          have hflen : (preE l1 (L.take (j + 1)) 0).flatten.length ≤ 65536 := by
            have e1 : preE l1 L 0 = preE l1 (L.take (j + 1)) 0 ++ preE l1 (L.drop (j + 1)) (lastE (L.take (j + 1)) 0) := by
              conv => lhs; rw [← List.take_append_drop (j + 1) L, preE_app]
            have q := HT.out
            unfold appE at q
            rw [e1, List.flatten_append, List.length_append, List.length_append] at q
            omega
          have s1 := fun u => slice_u8_lh u a1 n1 c1 p f AT1 (by omega) p f rfl rfl
          obtain ⟨A1, hA1⟩ : ∃ A, (if c1 = p then a1 else a1.map (·.add p)) = A := ⟨_, rfl⟩
          rw [hA1] at s1
          have BX := Lib.hid (fun u (hu : Below w.heap.size w u) => (show BAt u A1 ((l1.take f).drop p) by rw [← hA1]; exact bat_mid (H1.out.keep hu) c1 p f AT1 (by have := E1.out; omega) (by have := E1.out; omega)))
          have XL := Lib.hid (show f - p = ((l1.take f).drop p).length by rw [List.length_drop, List.length_take, Nat.min_eq_left (by have := E1.out; omega)])
          have XN := Lib.hid (show A1 = none → f - p = 0 ∧ c1 - p = 0 from fun h => no_mid HNO.out AT1 (by omega) (by rw [hA1]; exact h))
          have LX := Lib.hid LX
          obtain ⟨T, hT⟩ : ∃ T, (preE l1 (L.take j) 0).flatten = T := ⟨_, rfl⟩
          obtain ⟨X, hX⟩ : ∃ X, (l1.take f).drop p = X := ⟨_, rfl⟩
          rw [hT, hX] at hfl
          rw [hX] at BX XL
          have HR := Lib.hid (show Row wt.drew u8 T by rw [← hT]; exact HR.out)
          have FL := Lib.hid hfl
          have TL := Lib.hid (show T.length + X.length + B.length ≤ 65536 by rw [hfl, List.length_append, List.length_append] at hflen; exact hflen)
          have RB := Lib.hid (fun u (hu : Below w.heap.size w u) => (show Red u (.slice av m cv) B by
            have q := (H.out.keep hu).2 _ (List.getElem_mem hkl)
            rw [hv, hB, hm] at q
            exact q))
          have CL := Lib.hid (fun u (hu : Below w.heap.size w u) => (show u.cell? ⟨b, o + j * 3 + 1, none⟩ = some (.int .i64 (t : Int)) ∧ u.cell? ⟨b, o + j * 3 + 2, none⟩ = some (.slice av m cv) by
            obtain ⟨-, y1, y2, -⟩ := (H.out.keep hu).cells j hkl
            rw [ht] at y1
            rw [hv, hB, hm] at y2
            exact ⟨y1, y2⟩))
          clear hA1 hp hf ht hB hm hred hpp hfl hflen hT hX PX hv
          go_wp2_with (first
            | (at_builtin; refine wpList_append_row rfl (.tmp 58) (.tmp 66) rfl u8 rfl T X HR.out A1 (f - p) (c1 - p) rfl (BX.out _ HBT.out) XL.out XN.out (by have := TL.out; omega) ?_; intro v5 w5 hap; have B5 := Lib.hid (hap.below HBT.out HF.out HBT.out.size); have F5 := Lib.hid (hap.new (B := w.heap.size) HF.out HBT.out.size); have R5 := Lib.hid hap.1; obtain ⟨d1, d2⟩ := CL.out w5 B5.out; obtain ⟨rm, rb, rn, -⟩ := redP (RB.out w5 B5.out); have RM := Lib.hid rm; have RBB := Lib.hid rb; have RN := Lib.hid (show av = none → m = 0 ∧ cv = 0 from fun h => by rw [rm]; exact rn h); clear hap c0 c1' c2' rm rb rn)
            | (at_builtin; refine wpList_append_row rfl (.tmp 68) (.tmp 73) rfl v5 rfl (T ++ X) B R5.out av m cv rfl RBB.out RM.out RN.out (by rw [List.length_append]; have := TL.out; omega) ?_; intro v6 w6 hap; have B6 := Lib.hid (hap.below B5.out F5.out B5.out.size); have F6 := Lib.hid (hap.new (B := w.heap.size) F5.out B5.out.size); have R6 := Lib.hid hap.1; obtain ⟨y1, y2⟩ := CL.out w6 B6.out; clear hap d1 d2)
            | fail)
          refine ⟨⟨j + 1, by omega, by go_num, by rw [LX.out], by rw [FL.out]; exact R6.out, F6.out, B6.out⟩, by simp only [intOf]; omega⟩
        · have hjk : j = k := by omega
          have hLk : L.take j = L := by rw [hjk, HN.out, ← LL.out, List.take_length]
          rw [hLk] at HR ⊢
          have LE := okE_last L 0 _ HOK.out (by omega)
          obtain ⟨p, hp⟩ : ∃ p : Nat, lastE L 0 = p := ⟨(lastE L 0).toNat, by omega⟩
          rw [hp] at LE ⊢
          have AT3 : p ≤ n1 := by have := E1.out; omega
          have s1 := fun u => slice_u8_l u a1 n1 c1 p AT3 p rfl
          obtain ⟨A1, hA1⟩ : ∃ A, (if c1 = p then a1 else a1.map (·.add p)) = A := ⟨_, rfl⟩
          rw [hA1] at s1
          have BX := Lib.hid (show BAt wt A1 (l1.drop p) by rw [← hA1]; exact bat_drop (H1.out.keep HBT.out) c1 p (by have := E1.out; omega) (by have := E1.out; omega))
          have XL := Lib.hid (show n1 - p = (l1.drop p).length by rw [List.length_drop, E1.out])
          have XN := Lib.hid (show A1 = none → n1 - p = 0 ∧ c1 - p = 0 from fun h => no_mid (k := p) (m := n1) HNO.out (by omega) (Nat.le_refl _) (by rw [hA1]; exact h))
          have AP : (preE l1 L 0).flatten ++ l1.drop p = appE l1 L := by unfold appE; rw [hp]; rfl
          have TL := Lib.hid (show (preE l1 L 0).flatten.length + (l1.drop p).length ≤ 65536 by rw [← List.length_append, AP]; exact HT.out)
          have AP := Lib.hid AP
          subst hjk
          clear hLk hp hA1 LE
          obtain ⟨T, hT⟩ : ∃ T, (preE l1 L 0).flatten = T := ⟨_, rfl⟩
          rw [hT] at HR TL AP
          clear hT
          go_wp2_with (first
            | (at_builtin; refine wpList_append_row rfl (.tmp 80) (.tmp 83) rfl u8 rfl T (l1.drop p) HR.out A1 (n1 - p) (c1 - p) rfl BX.out XL.out XN.out (by have := TL.out; omega) ?_; intro v5 w5 hap; have B5 := Lib.hid (hap.below HBT.out HF.out HBT.out.size); have hrow := hap.1; clear hap; rw [AP.out] at hrow; obtain ⟨a5, c5, hv5, -⟩ := hrow.shape; have hN := HT.out; obtain ⟨N, hNe⟩ : ∃ N, (appE l1 L).length = N := ⟨_, rfl⟩; rw [hNe] at hv5 hN; subst hv5; have R5 := Lib.hid hrow; clear hrow hNe)
            | fail)
          go_ret2
          exact ⟨_, rfl, R5.out, B5.out⟩
/-- The document's Apply, whatever the edits: of so few bytes that they are no more than a text may have. -/
theorem rApply_is (a1 : Option Addr) (n1 c1 : Nat) (l1 : List UInt8) (a2 : Option Addr) (n2 c2 : Nat) (l : List Edc) (w : World) (h1 : BAt w a1 l1) (e1 : n1 = l1.length) (q1 : n1 ≤ c1) (qm : c1 ≤ maxLen) (hno : a1 = none → n1 = 0 ∧ c1 = 0)
    (h2 : EdAt w a2 l) (e2 : n2 = l.length) (m2 : n2 ≤ 10000) (ht : n1 + sumE (l.map Edc.x) ≤ 65536) :
    Calls Try.prog 11 #[.slice a1 n1 c1, .slice a2 n2 c2] w fun e w' => ∃ v, e = .returned (.tuple #[v, .int .i64 (if okE (l.map Edc.x) 0 l1.length = true then 0 else 11)]) ∧
      Row w' v (if okE (l.map Edc.x) 0 l1.length = true then appE l1 (l.map Edc.x) else []) ∧ Below w.heap.size w w' := by
  by_cases hok : okE (l.map Edc.x) 0 l1.length = true
  · rw [if_pos hok, if_pos hok]
    exact rapply_ok a1 n1 c1 l1 a2 n2 c2 l w h1 e1 q1 qm hno (by omega) h2 e2 m2 hok (Nat.le_trans (app_sum _ _ hok) (by omega))
  · rw [if_neg hok, if_neg hok]
    refine (rapply_bad a1 n1 c1 l1.length a2 n2 c2 l w e1 h2 e2 (by omega) (by simpa using hok)).mono ?_
    rintro e w' ⟨rfl, hb⟩
    exact ⟨_, rfl, Row.nil _ _, hb⟩
end Go.Proofs.Ytbilempgnpnacaa
