/-
  Layer 14, the document's Make.
-/
import Derived.Test.YtbilempgnpnacaaE4e
import Derived.Test.YtbilempgnpnacaaHelpB
namespace Go.Proofs.Ytbilempgnpnacaa
set_option maxRecDepth 20000
open Go.RowKit
set_option linter.unusedVariables false
set_option linter.unusedSimpArgs false

set_option maxHeartbeats 4000000 in
theorem rmake_same (a1 a2 : Option Addr) (n1 n2 c1 c2 : Nat) (l : List UInt8) (w : World) (h1 : BAt w a1 l) (h2 : BAt w a2 l) (e1 : n1 = l.length) (e2 : n2 = l.length) :
    Calls Try.prog 16 #[.slice a1 n1 c1, .slice a2 n2 c2] w fun e w' => e = .returned (.slice none 0 0) ∧ Below w.heap.size w w' := by
  have C := Lib.hid (Bytes_same a1 a2 n1 n2 c1 c2 l w h1 h2 e1 e2)
  clear h1 h2 e1 e2
  go_enter Try.func16, Try.ntmps16
  go_wp2_with fail
  refine C.out.mono ?_
  rintro e w1 ⟨rfl, rfl⟩
  go_wp2
  go_ret
  exact ⟨rfl, Below.refl _ _⟩
set_option maxHeartbeats 32000000 in
theorem rmake_other (a1 a2 : Option Addr) (n1 n2 c1 c2 : Nat) (l1 l2 : List UInt8) (w : World) (h1 : BAt w a1 l1) (h2 : BAt w a2 l2) (e1 : n1 = l1.length) (e2 : n2 = l2.length) (m1 : n1 ≤ 1000000) (m2 : n2 ≤ 1000000)
    (q1 : n1 ≤ c1) (q2 : n2 ≤ c2) (hno2 : a2 = none → n2 = 0 ∧ c2 = 0) (hne : l1 ≠ l2) :
    Calls Try.prog 16 #[.slice a1 n1 c1, .slice a2 n2 c2] w fun e w' => ∃ g a c, e = .returned (.slice (some ⟨g, 0, none⟩) 1 1) ∧
      EdAt w' (some ⟨g, 0, none⟩) (madeL l1 l2 a c) ∧ Below w.heap.size w w' := by
  have ML := Lib.hid (show ∀ a c, madeL l1 l2 a c = [⟨fromL l1 l2, ((n1 - tailL l1 l2 : Nat) : Int), .slice a (putL l1 l2).length c, putL l1 l2⟩] from fun a c => by unfold madeL; rw [if_neg hne, e1])
  have CB := Lib.hid (by
    have q := Bytes_any a1 a2 n1 n2 c1 c2 l1 l2 w h1 h2 e1 e2
    rw [show (l1 == l2) = false by simpa using hne] at q
    exact q)
  have H1 := Lib.hid h1; have H2 := Lib.hid h2; have E1 := Lib.hid e1; have E2 := Lib.hid e2; have NO2 := Lib.hid hno2
  clear h1 h2 e1 e2 hno2 hne
  go_enter Try.func16, Try.ntmps16
  go_wp2_with fail
  refine CB.out.mono ?_
  rintro e w1 ⟨rfl, rfl⟩
  go_wp2_with fail
  go_loopw [5] (fun i wr => ∃ k : Nat, k ≤ n1 ∧ k ≤ n2 ∧ i = .int .i64 k ∧ (∀ j, j < k → l1.getD j 0 = l2.getD j 0) ∧ Below w.heap.size w wr) (fun i _ => n1 - (intOf i).toNat)
  case atStart => exact ⟨0, Nat.zero_le _, Nat.zero_le _, rfl, fun j h => absurd h (Nat.not_lt_zero _), Below.refl _ _⟩
  case round =>
    obtain ⟨F, hk1, hk2, rfl, hal, hbr⟩ := hrel
    have HAL := Lib.hid hal; have HBR := Lib.hid hbr
    clear hal hbr
    by_cases hgo : (F < n1 ∧ F < n2) ∧ l1.getD F 0 = l2.getD F 0
    · obtain ⟨⟨p1, p2⟩, heq⟩ := hgo
      obtain ⟨b1, o1, rfl, g1, y1⟩ := H1.out.at (by rw [← E1.out]; omega)
      obtain ⟨b2, o2, rfl, g2, y2⟩ := H2.out.at (by rw [← E2.out]; omega)
      have c1' : wr.cell? ⟨b1, o1 + F, none⟩ = _ := (HBR.out.cell (p := ⟨b1, o1 + F, none⟩) g1).trans (y1 F (by rw [← E1.out]; exact p1))
      have c2' : wr.cell? ⟨b2, o2 + F, none⟩ = _ := (HBR.out.cell (p := ⟨b2, o2 + F, none⟩) g2).trans (y2 F (by rw [← E2.out]; exact p2))
      have HEQ := Lib.hid heq
      rw [heq] at c1'
      generalize (((l2.getD F 0).toNat : Nat) : Int) = x at *
      clear y1 y2 heq
      go_wp2_with fail
      go_quiet (fail)
      have HB2 := Lib.hid (below_drewN HBR.out nq)
      clear c1' c2'
      go_wp2
      go_roundw
      case rel => exact ⟨F + 1, p1, p2, by go_num, fun j hj => by
        by_cases e : j = F
        · subst e; exact HEQ.out
        · exact HAL.out j (by omega), HB2.out⟩
      case measure => simp [intOf]; omega
    · have hF : comL l1 l2 = F := comL_is l1 l2 F (by rw [← E1.out]; exact hk1) (by rw [← E2.out]; exact hk2) HAL.out (fun p q e => hgo ⟨⟨by rw [E1.out]; exact p, by rw [E2.out]; exact q⟩, e⟩)
      have HF := Lib.hid hF
      have hex : (¬ F < n1) ∨ (F < n1 ∧ ¬ F < n2) ∨ (F < n1 ∧ F < n2 ∧ l1.getD F 0 ≠ l2.getD F 0) := by
        by_cases p : F < n1
        · by_cases q : F < n2
          · exact .inr (.inr ⟨p, q, fun e => hgo ⟨⟨p, q⟩, e⟩⟩)
          · exact .inr (.inl ⟨p, q⟩)
        · exact .inl p
      clear hF hgo HAL
      obtain ⟨P1, hP1⟩ : ∃ P1 : Nat, n1 - F = P1 := ⟨_, rfl⟩
      obtain ⟨P2, hP2⟩ : ∃ P2 : Nat, n2 - F = P2 := ⟨_, rfl⟩
      have i1 : (n1 : Int) - F = (P1 : Int) := by omega
      have i2 : (n2 : Int) - F = (P2 : Int) := by omega
      rcases hex with p1 | ⟨p1, p2⟩ | ⟨p1, p2, p3⟩
      · go_wp2_with fail
        go_quiet (fail)
        have HB0 := Lib.hid (below_drewN HBR.out nq)
        generalize wr.drewN nq = u0 at *
        clear HBR
        go_wp2_with fail
        go_loopw [6] (fun i wt => ∃ T : Nat, T ≤ P1 ∧ T ≤ P2 ∧ i = .int .i64 T ∧ (∀ j, j < T → l1.getD (n1 - 1 - j) 0 = l2.getD (n2 - 1 - j) 0) ∧ Below w.heap.size w wt) (fun i _ => P1 - (intOf i).toNat)
        case atStart => exact ⟨0, Nat.zero_le _, Nat.zero_le _, rfl, fun j h => absurd h (Nat.not_lt_zero _), HB0.out⟩
        case round =>
          clear HB0
          obtain ⟨T, hT1, hT2, rfl, hal, hbt⟩ := hrel
          rename World => wt
          have HAL := Lib.hid hal; have HBT := Lib.hid hbt
          clear hal hbt
          by_cases hgo : (T < P1 ∧ T < P2) ∧ l1.getD (n1 - 1 - T) 0 = l2.getD (n2 - 1 - T) 0
          · obtain ⟨⟨z1, z2⟩, heq⟩ := hgo
            obtain ⟨b1, o1, rfl, g1, y1⟩ := H1.out.at (by rw [← E1.out]; omega)
            obtain ⟨b2, o2, rfl, g2, y2⟩ := H2.out.at (by rw [← E2.out]; omega)
            obtain ⟨k1, hk1e⟩ : ∃ k1 : Nat, n1 - 1 - T = k1 := ⟨_, rfl⟩
            obtain ⟨k2, hk2e⟩ : ∃ k2 : Nat, n2 - 1 - T = k2 := ⟨_, rfl⟩
            have x1 : (n1 : Int) - 1 - T = k1 := by omega
            have x2 : (n2 : Int) - 1 - T = k2 := by omega
            have x1b : k1 < n1 := by omega
            have x2b : k2 < n2 := by omega
            have c1' : wt.cell? ⟨b1, o1 + k1, none⟩ = _ := (HBT.out.cell (p := ⟨b1, o1 + k1, none⟩) g1).trans (y1 k1 (by rw [← E1.out]; omega))
            have c2' : wt.cell? ⟨b2, o2 + k2, none⟩ = _ := (HBT.out.cell (p := ⟨b2, o2 + k2, none⟩) g2).trans (y2 k2 (by rw [← E2.out]; omega))
            rw [hk1e, hk2e] at heq
            have HEQ := Lib.hid heq; have K1 := Lib.hid hk1e; have K2 := Lib.hid hk2e
            rw [heq] at c1'
            generalize (((l2.getD k2 0).toNat : Nat) : Int) = x at *
            clear y1 y2 heq hk1e hk2e
            go_wp2_with fail
            go_quiet (fail)
            have HB2 := Lib.hid (below_drewN HBT.out nq)
            clear c1' c2'
            go_wp2
            go_roundw
            case rel => exact ⟨T + 1, z1, z2, by go_num, fun j hj => by
              by_cases e : j = T
              · subst e; rw [K1.out, K2.out]; exact HEQ.out
              · exact HAL.out j (by omega), HB2.out⟩
            case measure => simp [intOf]; omega
          · have HT := Lib.hid (show tailL l1 l2 = T by
              unfold tailL
              rw [HF.out]
              exact endL_is l1 l2 F T (by rw [← E1.out]; exact hk1) (by rw [← E2.out]; exact hk2) (by rw [← E1.out]; omega) (by rw [← E2.out]; omega) (by rw [← E1.out, ← E2.out]; exact HAL.out) (fun p q e => hgo ⟨⟨by have := E1.out; omega, by have := E2.out; omega⟩, by rw [E1.out, E2.out]; exact e⟩))
            have hex2 : (¬ T < P1) ∨ (T < P1 ∧ ¬ T < P2) ∨ (T < P1 ∧ T < P2 ∧ l1.getD (n1 - 1 - T) 0 ≠ l2.getD (n2 - 1 - T) 0) := by
              by_cases p : T < P1
              · by_cases q : T < P2
                · exact .inr (.inr ⟨p, q, fun e => hgo ⟨⟨p, q⟩, e⟩⟩)
                · exact .inr (.inl ⟨p, q⟩)
              · exact .inl p
            clear hgo HAL
            rcases hex2 with z1 | ⟨z1, z2⟩ | ⟨z1, z2, z3⟩
            · go_wp2_with fail
              go_quiet (fail)
              have FIN := Lib.hid (below_drewN HBT.out nq)
              generalize wt.drewN nq = u1 at *
              clear HBT
              have htl := tail_le l1 l2
              have hpl := putL_len l1 l2
              rw [show fromL l1 l2 = F from HF.out, HT.out, ← E1.out, ← E2.out] at htl
              rw [show fromL l1 l2 = F from HF.out, HT.out, ← E2.out] at hpl
              obtain ⟨A2, hA2⟩ : ∃ A, (if c2 = F then a2 else a2.map (·.add F)) = A := ⟨_, rfl⟩
              have k3 : BAt u1 A2 (putL l1 l2) := by
                unfold putL
                rw [show fromL l1 l2 = F from HF.out, HT.out, ← hA2]
                exact bat_mid (H2.out.keep FIN.out) c2 F (l2.length - T) (by have := E2.out; omega) (by omega) (by have := E2.out; omega)
              have CC := CopyBytes_any (putL l1 l2) u1 A2 (n2 - T - F) (c2 - F) k3 (by omega) (fun h => no_mid (m := n2 - T) NO2.out (by omega) (by omega) (by rw [hA2]; exact h)) (by omega)
              have s3 := fun u => slice_u8_lh u a2 n2 c2 F (n2 - T) (by omega) (by omega) F ((n2 - T : Nat) : Int) rfl rfl
              rw [hA2] at s3
              have CC := Lib.hid CC; have HPL := Lib.hid hpl
              have j1 : (n1 : Int) - T = ((n1 - T : Nat) : Int) := by omega
              have j2 : (n2 : Int) - T = ((n2 - T : Nat) : Int) := by omega
              have ML2 := Lib.hid (show ∀ a c, madeL l1 l2 a c = [⟨F, ((n1 - T : Nat) : Int), .slice a (putL l1 l2).length c, putL l1 l2⟩] from fun a c => by rw [ML.out, show fromL l1 l2 = F from HF.out, HT.out])
              generalize putL l1 l2 = B at *
              clear htl hpl hA2 k3
              go_wp2_with fail
              refine CC.out.mono ?_
              rintro e w5 ⟨v5, rfl, hr, hf, hb⟩
              obtain ⟨av, cv, hv, -⟩ := hr.shape
              subst hv
              obtain ⟨bl, hbl⟩ : ∃ bl, B.length = bl := ⟨_, rfl⟩
              rw [hbl]
              obtain ⟨E, hE⟩ : ∃ E, arrDl (F : Int) ((n1 - T : Nat) : Int) (.slice av bl cv) = E := ⟨_, rfl⟩
              have E3 := Lib.hid (show E.size = 3 by rw [← hE]; rfl)
              have HE := Lib.hid hE; have HBL := Lib.hid hbl
              have HR := Lib.hid hr; have HB5 := Lib.hid (FIN.out.trans (hb.mono FIN.out.size))
              clear hr hf hb hE hbl CC
              go_wp2_with (first
                | (with_reducible refine wpList_build_edit rfl (.tmp 68) (.tmp 72) (.tmp 80) rfl (F : Int) ((n1 - T : Nat) : Int) av bl cv rfl rfl rfl E HE.out ?_)
                | (with_reducible refine wpList_build_oneE rfl (.tmp 81) rfl E E3.out rfl ?_)
                | fail)
              go_ret
              refine ⟨w5.heap.size, av, cv, rfl, ?_, HB5.out.alloc HB5.out.size _⟩
              rw [ML2.out, HBL.out]
              refine ⟨rowR_one (R := rowDl) (P := Try.prog) goodDl (t := 34) (fr := (0, 0)) ?_, fun e he => ?_⟩
              · rw [heap_alloc_new, ← HE.out]; rfl
              · obtain rfl : e = _ := by simpa using he
                have q := HR.out.red.below ((Below.refl w5.heap.size w5).alloc (Nat.le_refl _) (.cells E 34)) (Nat.le_refl _)
                rw [HBL.out] at q
                exact q
            · go_wp2_with fail
              go_quiet (fail)
              have FIN := Lib.hid (below_drewN HBT.out nq)
              generalize wt.drewN nq = u1 at *
              clear HBT
              have htl := tail_le l1 l2
              have hpl := putL_len l1 l2
              rw [show fromL l1 l2 = F from HF.out, HT.out, ← E1.out, ← E2.out] at htl
              rw [show fromL l1 l2 = F from HF.out, HT.out, ← E2.out] at hpl
              obtain ⟨A2, hA2⟩ : ∃ A, (if c2 = F then a2 else a2.map (·.add F)) = A := ⟨_, rfl⟩
              have k3 : BAt u1 A2 (putL l1 l2) := by
                unfold putL
                rw [show fromL l1 l2 = F from HF.out, HT.out, ← hA2]
                exact bat_mid (H2.out.keep FIN.out) c2 F (l2.length - T) (by have := E2.out; omega) (by omega) (by have := E2.out; omega)
              have CC := CopyBytes_any (putL l1 l2) u1 A2 (n2 - T - F) (c2 - F) k3 (by omega) (fun h => no_mid (m := n2 - T) NO2.out (by omega) (by omega) (by rw [hA2]; exact h)) (by omega)
              have s3 := fun u => slice_u8_lh u a2 n2 c2 F (n2 - T) (by omega) (by omega) F ((n2 - T : Nat) : Int) rfl rfl
              rw [hA2] at s3
              have CC := Lib.hid CC; have HPL := Lib.hid hpl
              have j1 : (n1 : Int) - T = ((n1 - T : Nat) : Int) := by omega
              have j2 : (n2 : Int) - T = ((n2 - T : Nat) : Int) := by omega
              have ML2 := Lib.hid (show ∀ a c, madeL l1 l2 a c = [⟨F, ((n1 - T : Nat) : Int), .slice a (putL l1 l2).length c, putL l1 l2⟩] from fun a c => by rw [ML.out, show fromL l1 l2 = F from HF.out, HT.out])
              generalize putL l1 l2 = B at *
              clear htl hpl hA2 k3
              go_wp2_with fail
              refine CC.out.mono ?_
              rintro e w5 ⟨v5, rfl, hr, hf, hb⟩
              obtain ⟨av, cv, hv, -⟩ := hr.shape
              subst hv
              obtain ⟨bl, hbl⟩ : ∃ bl, B.length = bl := ⟨_, rfl⟩
              rw [hbl]
              obtain ⟨E, hE⟩ : ∃ E, arrDl (F : Int) ((n1 - T : Nat) : Int) (.slice av bl cv) = E := ⟨_, rfl⟩
              have E3 := Lib.hid (show E.size = 3 by rw [← hE]; rfl)
              have HE := Lib.hid hE; have HBL := Lib.hid hbl
              have HR := Lib.hid hr; have HB5 := Lib.hid (FIN.out.trans (hb.mono FIN.out.size))
              clear hr hf hb hE hbl CC
              go_wp2_with (first
                | (with_reducible refine wpList_build_edit rfl (.tmp 68) (.tmp 72) (.tmp 80) rfl (F : Int) ((n1 - T : Nat) : Int) av bl cv rfl rfl rfl E HE.out ?_)
                | (with_reducible refine wpList_build_oneE rfl (.tmp 81) rfl E E3.out rfl ?_)
                | fail)
              go_ret
              refine ⟨w5.heap.size, av, cv, rfl, ?_, HB5.out.alloc HB5.out.size _⟩
              rw [ML2.out, HBL.out]
              refine ⟨rowR_one (R := rowDl) (P := Try.prog) goodDl (t := 34) (fr := (0, 0)) ?_, fun e he => ?_⟩
              · rw [heap_alloc_new, ← HE.out]; rfl
              · obtain rfl : e = _ := by simpa using he
                have q := HR.out.red.below ((Below.refl w5.heap.size w5).alloc (Nat.le_refl _) (.cells E 34)) (Nat.le_refl _)
                rw [HBL.out] at q
                exact q
            · obtain ⟨b1, o1, rfl, g1, y1⟩ := H1.out.at (by rw [← E1.out]; omega)
              obtain ⟨b2, o2, rfl, g2, y2⟩ := H2.out.at (by rw [← E2.out]; omega)
              obtain ⟨k1, hk1e⟩ : ∃ k1 : Nat, n1 - 1 - T = k1 := ⟨_, rfl⟩
              obtain ⟨k2, hk2e⟩ : ∃ k2 : Nat, n2 - 1 - T = k2 := ⟨_, rfl⟩
              have x1 : (n1 : Int) - 1 - T = k1 := by omega
              have x2 : (n2 : Int) - 1 - T = k2 := by omega
              have x1b : k1 < n1 := by omega
              have x2b : k2 < n2 := by omega
              have c1' : wt.cell? ⟨b1, o1 + k1, none⟩ = _ := (HBT.out.cell (p := ⟨b1, o1 + k1, none⟩) g1).trans (y1 k1 (by rw [← E1.out]; omega))
              have c2' : wt.cell? ⟨b2, o2 + k2, none⟩ = _ := (HBT.out.cell (p := ⟨b2, o2 + k2, none⟩) g2).trans (y2 k2 (by rw [← E2.out]; omega))
              rw [hk1e, hk2e] at z3
              have UB : (((l1.getD k1 0).toNat : Int) == ((l2.getD k2 0).toNat : Int)) = false := by rw [u8_beq]; simpa using z3
              generalize (((l1.getD k1 0).toNat : Nat) : Int) = x at *
              generalize (((l2.getD k2 0).toNat : Nat) : Int) = y at *
              clear y1 y2 z3 hk1e hk2e
              go_wp2_with fail
              go_quiet (fail)
              clear c1' c2'
              have FIN := Lib.hid (below_drewN HBT.out nq)
              generalize wt.drewN nq = u1 at *
              clear HBT
              have htl := tail_le l1 l2
              have hpl := putL_len l1 l2
              rw [show fromL l1 l2 = F from HF.out, HT.out, ← E1.out, ← E2.out] at htl
              rw [show fromL l1 l2 = F from HF.out, HT.out, ← E2.out] at hpl
              obtain ⟨A2, hA2⟩ : ∃ A, (if c2 = F then (some ⟨b2, o2, none⟩ : Option Addr) else (some ⟨b2, o2, none⟩ : Option Addr).map (·.add F)) = A := ⟨_, rfl⟩
              have k3 : BAt u1 A2 (putL l1 l2) := by
                unfold putL
                rw [show fromL l1 l2 = F from HF.out, HT.out, ← hA2]
                exact bat_mid (H2.out.keep FIN.out) c2 F (l2.length - T) (by have := E2.out; omega) (by omega) (by have := E2.out; omega)
              have CC := CopyBytes_any (putL l1 l2) u1 A2 (n2 - T - F) (c2 - F) k3 (by omega) (fun h => no_mid (m := n2 - T) NO2.out (by omega) (by omega) (by rw [hA2]; exact h)) (by omega)
              have s3 := fun u => slice_u8_lh u (some ⟨b2, o2, none⟩) n2 c2 F (n2 - T) (by omega) (by omega) F ((n2 - T : Nat) : Int) rfl rfl
              rw [hA2] at s3
              have CC := Lib.hid CC; have HPL := Lib.hid hpl
              have j1 : (n1 : Int) - T = ((n1 - T : Nat) : Int) := by omega
              have j2 : (n2 : Int) - T = ((n2 - T : Nat) : Int) := by omega
              have ML2 := Lib.hid (show ∀ a c, madeL l1 l2 a c = [⟨F, ((n1 - T : Nat) : Int), .slice a (putL l1 l2).length c, putL l1 l2⟩] from fun a c => by rw [ML.out, show fromL l1 l2 = F from HF.out, HT.out])
              generalize putL l1 l2 = B at *
              clear htl hpl hA2 k3
              go_wp2_with fail
              refine CC.out.mono ?_
              rintro e w5 ⟨v5, rfl, hr, hf, hb⟩
              obtain ⟨av, cv, hv, -⟩ := hr.shape
              subst hv
              obtain ⟨bl, hbl⟩ : ∃ bl, B.length = bl := ⟨_, rfl⟩
              rw [hbl]
              obtain ⟨E, hE⟩ : ∃ E, arrDl (F : Int) ((n1 - T : Nat) : Int) (.slice av bl cv) = E := ⟨_, rfl⟩
              have E3 := Lib.hid (show E.size = 3 by rw [← hE]; rfl)
              have HE := Lib.hid hE; have HBL := Lib.hid hbl
              have HR := Lib.hid hr; have HB5 := Lib.hid (FIN.out.trans (hb.mono FIN.out.size))
              clear hr hf hb hE hbl CC
              go_wp2_with (first
                | (with_reducible refine wpList_build_edit rfl (.tmp 68) (.tmp 72) (.tmp 80) rfl (F : Int) ((n1 - T : Nat) : Int) av bl cv rfl rfl rfl E HE.out ?_)
                | (with_reducible refine wpList_build_oneE rfl (.tmp 81) rfl E E3.out rfl ?_)
                | fail)
              go_ret
              refine ⟨w5.heap.size, av, cv, rfl, ?_, HB5.out.alloc HB5.out.size _⟩
              rw [ML2.out, HBL.out]
              refine ⟨rowR_one (R := rowDl) (P := Try.prog) goodDl (t := 34) (fr := (0, 0)) ?_, fun e he => ?_⟩
              · rw [heap_alloc_new, ← HE.out]; rfl
              · obtain rfl : e = _ := by simpa using he
                have q := HR.out.red.below ((Below.refl w5.heap.size w5).alloc (Nat.le_refl _) (.cells E 34)) (Nat.le_refl _)
                rw [HBL.out] at q
                exact q
      · go_wp2_with fail
        go_quiet (fail)
        have HB0 := Lib.hid (below_drewN HBR.out nq)
        generalize wr.drewN nq = u0 at *
        clear HBR
        go_wp2_with fail
        go_loopw [6] (fun i wt => ∃ T : Nat, T ≤ P1 ∧ T ≤ P2 ∧ i = .int .i64 T ∧ (∀ j, j < T → l1.getD (n1 - 1 - j) 0 = l2.getD (n2 - 1 - j) 0) ∧ Below w.heap.size w wt) (fun i _ => P1 - (intOf i).toNat)
        case atStart => exact ⟨0, Nat.zero_le _, Nat.zero_le _, rfl, fun j h => absurd h (Nat.not_lt_zero _), HB0.out⟩
        case round =>
          clear HB0
          obtain ⟨T, hT1, hT2, rfl, hal, hbt⟩ := hrel
          rename World => wt
          have HAL := Lib.hid hal; have HBT := Lib.hid hbt
          clear hal hbt
          by_cases hgo : (T < P1 ∧ T < P2) ∧ l1.getD (n1 - 1 - T) 0 = l2.getD (n2 - 1 - T) 0
          · obtain ⟨⟨z1, z2⟩, heq⟩ := hgo
            obtain ⟨b1, o1, rfl, g1, y1⟩ := H1.out.at (by rw [← E1.out]; omega)
            obtain ⟨b2, o2, rfl, g2, y2⟩ := H2.out.at (by rw [← E2.out]; omega)
            obtain ⟨k1, hk1e⟩ : ∃ k1 : Nat, n1 - 1 - T = k1 := ⟨_, rfl⟩
            obtain ⟨k2, hk2e⟩ : ∃ k2 : Nat, n2 - 1 - T = k2 := ⟨_, rfl⟩
            have x1 : (n1 : Int) - 1 - T = k1 := by omega
            have x2 : (n2 : Int) - 1 - T = k2 := by omega
            have x1b : k1 < n1 := by omega
            have x2b : k2 < n2 := by omega
            have c1' : wt.cell? ⟨b1, o1 + k1, none⟩ = _ := (HBT.out.cell (p := ⟨b1, o1 + k1, none⟩) g1).trans (y1 k1 (by rw [← E1.out]; omega))
            have c2' : wt.cell? ⟨b2, o2 + k2, none⟩ = _ := (HBT.out.cell (p := ⟨b2, o2 + k2, none⟩) g2).trans (y2 k2 (by rw [← E2.out]; omega))
            rw [hk1e, hk2e] at heq
            have HEQ := Lib.hid heq; have K1 := Lib.hid hk1e; have K2 := Lib.hid hk2e
            rw [heq] at c1'
            generalize (((l2.getD k2 0).toNat : Nat) : Int) = x at *
            clear y1 y2 heq hk1e hk2e
            go_wp2_with fail
            go_quiet (fail)
            have HB2 := Lib.hid (below_drewN HBT.out nq)
            clear c1' c2'
            go_wp2
            go_roundw
            case rel => exact ⟨T + 1, z1, z2, by go_num, fun j hj => by
              by_cases e : j = T
              · subst e; rw [K1.out, K2.out]; exact HEQ.out
              · exact HAL.out j (by omega), HB2.out⟩
            case measure => simp [intOf]; omega
          · have HT := Lib.hid (show tailL l1 l2 = T by
              unfold tailL
              rw [HF.out]
              exact endL_is l1 l2 F T (by rw [← E1.out]; exact hk1) (by rw [← E2.out]; exact hk2) (by rw [← E1.out]; omega) (by rw [← E2.out]; omega) (by rw [← E1.out, ← E2.out]; exact HAL.out) (fun p q e => hgo ⟨⟨by have := E1.out; omega, by have := E2.out; omega⟩, by rw [E1.out, E2.out]; exact e⟩))
            have hex2 : (¬ T < P1) ∨ (T < P1 ∧ ¬ T < P2) ∨ (T < P1 ∧ T < P2 ∧ l1.getD (n1 - 1 - T) 0 ≠ l2.getD (n2 - 1 - T) 0) := by
              by_cases p : T < P1
              · by_cases q : T < P2
                · exact .inr (.inr ⟨p, q, fun e => hgo ⟨⟨p, q⟩, e⟩⟩)
                · exact .inr (.inl ⟨p, q⟩)
              · exact .inl p
            clear hgo HAL
            rcases hex2 with z1 | ⟨z1, z2⟩ | ⟨z1, z2, z3⟩
            · go_wp2_with fail
              go_quiet (fail)
              have FIN := Lib.hid (below_drewN HBT.out nq)
              generalize wt.drewN nq = u1 at *
              clear HBT
              have htl := tail_le l1 l2
              have hpl := putL_len l1 l2
              rw [show fromL l1 l2 = F from HF.out, HT.out, ← E1.out, ← E2.out] at htl
              rw [show fromL l1 l2 = F from HF.out, HT.out, ← E2.out] at hpl
              obtain ⟨A2, hA2⟩ : ∃ A, (if c2 = F then a2 else a2.map (·.add F)) = A := ⟨_, rfl⟩
              have k3 : BAt u1 A2 (putL l1 l2) := by
                unfold putL
                rw [show fromL l1 l2 = F from HF.out, HT.out, ← hA2]
                exact bat_mid (H2.out.keep FIN.out) c2 F (l2.length - T) (by have := E2.out; omega) (by omega) (by have := E2.out; omega)
              have CC := CopyBytes_any (putL l1 l2) u1 A2 (n2 - T - F) (c2 - F) k3 (by omega) (fun h => no_mid (m := n2 - T) NO2.out (by omega) (by omega) (by rw [hA2]; exact h)) (by omega)
              have s3 := fun u => slice_u8_lh u a2 n2 c2 F (n2 - T) (by omega) (by omega) F ((n2 - T : Nat) : Int) rfl rfl
              rw [hA2] at s3
              have CC := Lib.hid CC; have HPL := Lib.hid hpl
              have j1 : (n1 : Int) - T = ((n1 - T : Nat) : Int) := by omega
              have j2 : (n2 : Int) - T = ((n2 - T : Nat) : Int) := by omega
              have ML2 := Lib.hid (show ∀ a c, madeL l1 l2 a c = [⟨F, ((n1 - T : Nat) : Int), .slice a (putL l1 l2).length c, putL l1 l2⟩] from fun a c => by rw [ML.out, show fromL l1 l2 = F from HF.out, HT.out])
              generalize putL l1 l2 = B at *
              clear htl hpl hA2 k3
              go_wp2_with fail
              refine CC.out.mono ?_
              rintro e w5 ⟨v5, rfl, hr, hf, hb⟩
              obtain ⟨av, cv, hv, -⟩ := hr.shape
              subst hv
              obtain ⟨bl, hbl⟩ : ∃ bl, B.length = bl := ⟨_, rfl⟩
              rw [hbl]
              obtain ⟨E, hE⟩ : ∃ E, arrDl (F : Int) ((n1 - T : Nat) : Int) (.slice av bl cv) = E := ⟨_, rfl⟩
              have E3 := Lib.hid (show E.size = 3 by rw [← hE]; rfl)
              have HE := Lib.hid hE; have HBL := Lib.hid hbl
              have HR := Lib.hid hr; have HB5 := Lib.hid (FIN.out.trans (hb.mono FIN.out.size))
              clear hr hf hb hE hbl CC
              go_wp2_with (first
                | (with_reducible refine wpList_build_edit rfl (.tmp 68) (.tmp 72) (.tmp 80) rfl (F : Int) ((n1 - T : Nat) : Int) av bl cv rfl rfl rfl E HE.out ?_)
                | (with_reducible refine wpList_build_oneE rfl (.tmp 81) rfl E E3.out rfl ?_)
                | fail)
              go_ret
              refine ⟨w5.heap.size, av, cv, rfl, ?_, HB5.out.alloc HB5.out.size _⟩
              rw [ML2.out, HBL.out]
              refine ⟨rowR_one (R := rowDl) (P := Try.prog) goodDl (t := 34) (fr := (0, 0)) ?_, fun e he => ?_⟩
              · rw [heap_alloc_new, ← HE.out]; rfl
              · obtain rfl : e = _ := by simpa using he
                have q := HR.out.red.below ((Below.refl w5.heap.size w5).alloc (Nat.le_refl _) (.cells E 34)) (Nat.le_refl _)
                rw [HBL.out] at q
                exact q
            · go_wp2_with fail
              go_quiet (fail)
              have FIN := Lib.hid (below_drewN HBT.out nq)
              generalize wt.drewN nq = u1 at *
              clear HBT
              have htl := tail_le l1 l2
              have hpl := putL_len l1 l2
              rw [show fromL l1 l2 = F from HF.out, HT.out, ← E1.out, ← E2.out] at htl
              rw [show fromL l1 l2 = F from HF.out, HT.out, ← E2.out] at hpl
              obtain ⟨A2, hA2⟩ : ∃ A, (if c2 = F then a2 else a2.map (·.add F)) = A := ⟨_, rfl⟩
              have k3 : BAt u1 A2 (putL l1 l2) := by
                unfold putL
                rw [show fromL l1 l2 = F from HF.out, HT.out, ← hA2]
                exact bat_mid (H2.out.keep FIN.out) c2 F (l2.length - T) (by have := E2.out; omega) (by omega) (by have := E2.out; omega)
              have CC := CopyBytes_any (putL l1 l2) u1 A2 (n2 - T - F) (c2 - F) k3 (by omega) (fun h => no_mid (m := n2 - T) NO2.out (by omega) (by omega) (by rw [hA2]; exact h)) (by omega)
              have s3 := fun u => slice_u8_lh u a2 n2 c2 F (n2 - T) (by omega) (by omega) F ((n2 - T : Nat) : Int) rfl rfl
              rw [hA2] at s3
              have CC := Lib.hid CC; have HPL := Lib.hid hpl
              have j1 : (n1 : Int) - T = ((n1 - T : Nat) : Int) := by omega
              have j2 : (n2 : Int) - T = ((n2 - T : Nat) : Int) := by omega
              have ML2 := Lib.hid (show ∀ a c, madeL l1 l2 a c = [⟨F, ((n1 - T : Nat) : Int), .slice a (putL l1 l2).length c, putL l1 l2⟩] from fun a c => by rw [ML.out, show fromL l1 l2 = F from HF.out, HT.out])
              generalize putL l1 l2 = B at *
              clear htl hpl hA2 k3
              go_wp2_with fail
              refine CC.out.mono ?_
              rintro e w5 ⟨v5, rfl, hr, hf, hb⟩
              obtain ⟨av, cv, hv, -⟩ := hr.shape
              subst hv
              obtain ⟨bl, hbl⟩ : ∃ bl, B.length = bl := ⟨_, rfl⟩
              rw [hbl]
              obtain ⟨E, hE⟩ : ∃ E, arrDl (F : Int) ((n1 - T : Nat) : Int) (.slice av bl cv) = E := ⟨_, rfl⟩
              have E3 := Lib.hid (show E.size = 3 by rw [← hE]; rfl)
              have HE := Lib.hid hE; have HBL := Lib.hid hbl
              have HR := Lib.hid hr; have HB5 := Lib.hid (FIN.out.trans (hb.mono FIN.out.size))
              clear hr hf hb hE hbl CC
              go_wp2_with (first
                | (with_reducible refine wpList_build_edit rfl (.tmp 68) (.tmp 72) (.tmp 80) rfl (F : Int) ((n1 - T : Nat) : Int) av bl cv rfl rfl rfl E HE.out ?_)
                | (with_reducible refine wpList_build_oneE rfl (.tmp 81) rfl E E3.out rfl ?_)
                | fail)
              go_ret
              refine ⟨w5.heap.size, av, cv, rfl, ?_, HB5.out.alloc HB5.out.size _⟩
              rw [ML2.out, HBL.out]
              refine ⟨rowR_one (R := rowDl) (P := Try.prog) goodDl (t := 34) (fr := (0, 0)) ?_, fun e he => ?_⟩
              · rw [heap_alloc_new, ← HE.out]; rfl
              · obtain rfl : e = _ := by simpa using he
                have q := HR.out.red.below ((Below.refl w5.heap.size w5).alloc (Nat.le_refl _) (.cells E 34)) (Nat.le_refl _)
                rw [HBL.out] at q
                exact q
            · obtain ⟨b1, o1, rfl, g1, y1⟩ := H1.out.at (by rw [← E1.out]; omega)
              obtain ⟨b2, o2, rfl, g2, y2⟩ := H2.out.at (by rw [← E2.out]; omega)
              obtain ⟨k1, hk1e⟩ : ∃ k1 : Nat, n1 - 1 - T = k1 := ⟨_, rfl⟩
              obtain ⟨k2, hk2e⟩ : ∃ k2 : Nat, n2 - 1 - T = k2 := ⟨_, rfl⟩
              have x1 : (n1 : Int) - 1 - T = k1 := by omega
              have x2 : (n2 : Int) - 1 - T = k2 := by omega
              have x1b : k1 < n1 := by omega
              have x2b : k2 < n2 := by omega
              have c1' : wt.cell? ⟨b1, o1 + k1, none⟩ = _ := (HBT.out.cell (p := ⟨b1, o1 + k1, none⟩) g1).trans (y1 k1 (by rw [← E1.out]; omega))
              have c2' : wt.cell? ⟨b2, o2 + k2, none⟩ = _ := (HBT.out.cell (p := ⟨b2, o2 + k2, none⟩) g2).trans (y2 k2 (by rw [← E2.out]; omega))
              rw [hk1e, hk2e] at z3
              have UB : (((l1.getD k1 0).toNat : Int) == ((l2.getD k2 0).toNat : Int)) = false := by rw [u8_beq]; simpa using z3
              generalize (((l1.getD k1 0).toNat : Nat) : Int) = x at *
              generalize (((l2.getD k2 0).toNat : Nat) : Int) = y at *
              clear y1 y2 z3 hk1e hk2e
              go_wp2_with fail
              go_quiet (fail)
              clear c1' c2'
              have FIN := Lib.hid (below_drewN HBT.out nq)
              generalize wt.drewN nq = u1 at *
              clear HBT
              have htl := tail_le l1 l2
              have hpl := putL_len l1 l2
              rw [show fromL l1 l2 = F from HF.out, HT.out, ← E1.out, ← E2.out] at htl
              rw [show fromL l1 l2 = F from HF.out, HT.out, ← E2.out] at hpl
              obtain ⟨A2, hA2⟩ : ∃ A, (if c2 = F then (some ⟨b2, o2, none⟩ : Option Addr) else (some ⟨b2, o2, none⟩ : Option Addr).map (·.add F)) = A := ⟨_, rfl⟩
              have k3 : BAt u1 A2 (putL l1 l2) := by
                unfold putL
                rw [show fromL l1 l2 = F from HF.out, HT.out, ← hA2]
                exact bat_mid (H2.out.keep FIN.out) c2 F (l2.length - T) (by have := E2.out; omega) (by omega) (by have := E2.out; omega)
              have CC := CopyBytes_any (putL l1 l2) u1 A2 (n2 - T - F) (c2 - F) k3 (by omega) (fun h => no_mid (m := n2 - T) NO2.out (by omega) (by omega) (by rw [hA2]; exact h)) (by omega)
              have s3 := fun u => slice_u8_lh u (some ⟨b2, o2, none⟩) n2 c2 F (n2 - T) (by omega) (by omega) F ((n2 - T : Nat) : Int) rfl rfl
              rw [hA2] at s3
              have CC := Lib.hid CC; have HPL := Lib.hid hpl
              have j1 : (n1 : Int) - T = ((n1 - T : Nat) : Int) := by omega
              have j2 : (n2 : Int) - T = ((n2 - T : Nat) : Int) := by omega
              have ML2 := Lib.hid (show ∀ a c, madeL l1 l2 a c = [⟨F, ((n1 - T : Nat) : Int), .slice a (putL l1 l2).length c, putL l1 l2⟩] from fun a c => by rw [ML.out, show fromL l1 l2 = F from HF.out, HT.out])
              generalize putL l1 l2 = B at *
              clear htl hpl hA2 k3
              go_wp2_with fail
              refine CC.out.mono ?_
              rintro e w5 ⟨v5, rfl, hr, hf, hb⟩
              obtain ⟨av, cv, hv, -⟩ := hr.shape
              subst hv
              obtain ⟨bl, hbl⟩ : ∃ bl, B.length = bl := ⟨_, rfl⟩
              rw [hbl]
              obtain ⟨E, hE⟩ : ∃ E, arrDl (F : Int) ((n1 - T : Nat) : Int) (.slice av bl cv) = E := ⟨_, rfl⟩
              have E3 := Lib.hid (show E.size = 3 by rw [← hE]; rfl)
              have HE := Lib.hid hE; have HBL := Lib.hid hbl
              have HR := Lib.hid hr; have HB5 := Lib.hid (FIN.out.trans (hb.mono FIN.out.size))
              clear hr hf hb hE hbl CC
              go_wp2_with (first
                | (with_reducible refine wpList_build_edit rfl (.tmp 68) (.tmp 72) (.tmp 80) rfl (F : Int) ((n1 - T : Nat) : Int) av bl cv rfl rfl rfl E HE.out ?_)
                | (with_reducible refine wpList_build_oneE rfl (.tmp 81) rfl E E3.out rfl ?_)
                | fail)
              go_ret
              refine ⟨w5.heap.size, av, cv, rfl, ?_, HB5.out.alloc HB5.out.size _⟩
              rw [ML2.out, HBL.out]
              refine ⟨rowR_one (R := rowDl) (P := Try.prog) goodDl (t := 34) (fr := (0, 0)) ?_, fun e he => ?_⟩
              · rw [heap_alloc_new, ← HE.out]; rfl
              · obtain rfl : e = _ := by simpa using he
                have q := HR.out.red.below ((Below.refl w5.heap.size w5).alloc (Nat.le_refl _) (.cells E 34)) (Nat.le_refl _)
                rw [HBL.out] at q
                exact q
      · obtain ⟨b1, o1, rfl, g1, y1⟩ := H1.out.at (by rw [← E1.out]; omega)
        obtain ⟨b2, o2, rfl, g2, y2⟩ := H2.out.at (by rw [← E2.out]; omega)
        have c1' : wr.cell? ⟨b1, o1 + F, none⟩ = _ := (HBR.out.cell (p := ⟨b1, o1 + F, none⟩) g1).trans (y1 F (by rw [← E1.out]; exact p1))
        have c2' : wr.cell? ⟨b2, o2 + F, none⟩ = _ := (HBR.out.cell (p := ⟨b2, o2 + F, none⟩) g2).trans (y2 F (by rw [← E2.out]; exact p2))
        have UB : (((l1.getD F 0).toNat : Int) == ((l2.getD F 0).toNat : Int)) = false := by rw [u8_beq]; simpa using p3
        generalize (((l1.getD F 0).toNat : Nat) : Int) = x at *
        generalize (((l2.getD F 0).toNat : Nat) : Int) = y at *
        clear y1 y2 p3
        go_wp2_with fail
        go_quiet (fail)
        clear c1' c2' UB
        have HB0 := Lib.hid (below_drewN HBR.out nq)
        generalize wr.drewN nq = u0 at *
        clear HBR
        go_wp2_with fail
        go_loopw [6] (fun i wt => ∃ T : Nat, T ≤ P1 ∧ T ≤ P2 ∧ i = .int .i64 T ∧ (∀ j, j < T → l1.getD (n1 - 1 - j) 0 = l2.getD (n2 - 1 - j) 0) ∧ Below w.heap.size w wt) (fun i _ => P1 - (intOf i).toNat)
        case atStart => exact ⟨0, Nat.zero_le _, Nat.zero_le _, rfl, fun j h => absurd h (Nat.not_lt_zero _), HB0.out⟩
        case round =>
          clear HB0
          obtain ⟨T, hT1, hT2, rfl, hal, hbt⟩ := hrel
          rename World => wt
          have HAL := Lib.hid hal; have HBT := Lib.hid hbt
          clear hal hbt
          by_cases hgo : (T < P1 ∧ T < P2) ∧ l1.getD (n1 - 1 - T) 0 = l2.getD (n2 - 1 - T) 0
          · obtain ⟨⟨z1, z2⟩, heq⟩ := hgo
            obtain ⟨b1', o1', hb1', g1, y1⟩ := H1.out.at (by rw [← E1.out]; omega)
            cases hb1'
            obtain ⟨b2', o2', hb2', g2, y2⟩ := H2.out.at (by rw [← E2.out]; omega)
            cases hb2'
            obtain ⟨k1, hk1e⟩ : ∃ k1 : Nat, n1 - 1 - T = k1 := ⟨_, rfl⟩
            obtain ⟨k2, hk2e⟩ : ∃ k2 : Nat, n2 - 1 - T = k2 := ⟨_, rfl⟩
            have x1 : (n1 : Int) - 1 - T = k1 := by omega
            have x2 : (n2 : Int) - 1 - T = k2 := by omega
            have x1b : k1 < n1 := by omega
            have x2b : k2 < n2 := by omega
            have c1' : wt.cell? ⟨b1, o1 + k1, none⟩ = _ := (HBT.out.cell (p := ⟨b1, o1 + k1, none⟩) g1).trans (y1 k1 (by rw [← E1.out]; omega))
            have c2' : wt.cell? ⟨b2, o2 + k2, none⟩ = _ := (HBT.out.cell (p := ⟨b2, o2 + k2, none⟩) g2).trans (y2 k2 (by rw [← E2.out]; omega))
            rw [hk1e, hk2e] at heq
            have HEQ := Lib.hid heq; have K1 := Lib.hid hk1e; have K2 := Lib.hid hk2e
            rw [heq] at c1'
            generalize (((l2.getD k2 0).toNat : Nat) : Int) = x at *
            clear y1 y2 heq hk1e hk2e
            go_wp2_with fail
            go_quiet (fail)
            have HB2 := Lib.hid (below_drewN HBT.out nq)
            clear c1' c2'
            go_wp2
            go_roundw
            case rel => exact ⟨T + 1, z1, z2, by go_num, fun j hj => by
              by_cases e : j = T
              · subst e; rw [K1.out, K2.out]; exact HEQ.out
              · exact HAL.out j (by omega), HB2.out⟩
            case measure => simp [intOf]; omega
          · have HT := Lib.hid (show tailL l1 l2 = T by
              unfold tailL
              rw [HF.out]
              exact endL_is l1 l2 F T (by rw [← E1.out]; exact hk1) (by rw [← E2.out]; exact hk2) (by rw [← E1.out]; omega) (by rw [← E2.out]; omega) (by rw [← E1.out, ← E2.out]; exact HAL.out) (fun p q e => hgo ⟨⟨by have := E1.out; omega, by have := E2.out; omega⟩, by rw [E1.out, E2.out]; exact e⟩))
            have hex2 : (¬ T < P1) ∨ (T < P1 ∧ ¬ T < P2) ∨ (T < P1 ∧ T < P2 ∧ l1.getD (n1 - 1 - T) 0 ≠ l2.getD (n2 - 1 - T) 0) := by
              by_cases p : T < P1
              · by_cases q : T < P2
                · exact .inr (.inr ⟨p, q, fun e => hgo ⟨⟨p, q⟩, e⟩⟩)
                · exact .inr (.inl ⟨p, q⟩)
              · exact .inl p
            clear hgo HAL
            rcases hex2 with z1 | ⟨z1, z2⟩ | ⟨z1, z2, z3⟩
            · go_wp2_with fail
              go_quiet (fail)
              have FIN := Lib.hid (below_drewN HBT.out nq)
              generalize wt.drewN nq = u1 at *
              clear HBT
              have htl := tail_le l1 l2
              have hpl := putL_len l1 l2
              rw [show fromL l1 l2 = F from HF.out, HT.out, ← E1.out, ← E2.out] at htl
              rw [show fromL l1 l2 = F from HF.out, HT.out, ← E2.out] at hpl
              obtain ⟨A2, hA2⟩ : ∃ A, (if c2 = F then (some ⟨b2, o2, none⟩ : Option Addr) else (some ⟨b2, o2, none⟩ : Option Addr).map (·.add F)) = A := ⟨_, rfl⟩
              have k3 : BAt u1 A2 (putL l1 l2) := by
                unfold putL
                rw [show fromL l1 l2 = F from HF.out, HT.out, ← hA2]
                exact bat_mid (H2.out.keep FIN.out) c2 F (l2.length - T) (by have := E2.out; omega) (by omega) (by have := E2.out; omega)
              have CC := CopyBytes_any (putL l1 l2) u1 A2 (n2 - T - F) (c2 - F) k3 (by omega) (fun h => no_mid (m := n2 - T) NO2.out (by omega) (by omega) (by rw [hA2]; exact h)) (by omega)
              have s3 := fun u => slice_u8_lh u (some ⟨b2, o2, none⟩) n2 c2 F (n2 - T) (by omega) (by omega) F ((n2 - T : Nat) : Int) rfl rfl
              rw [hA2] at s3
              have CC := Lib.hid CC; have HPL := Lib.hid hpl
              have j1 : (n1 : Int) - T = ((n1 - T : Nat) : Int) := by omega
              have j2 : (n2 : Int) - T = ((n2 - T : Nat) : Int) := by omega
              have ML2 := Lib.hid (show ∀ a c, madeL l1 l2 a c = [⟨F, ((n1 - T : Nat) : Int), .slice a (putL l1 l2).length c, putL l1 l2⟩] from fun a c => by rw [ML.out, show fromL l1 l2 = F from HF.out, HT.out])
              generalize putL l1 l2 = B at *
              clear htl hpl hA2 k3
              go_wp2_with fail
              refine CC.out.mono ?_
              rintro e w5 ⟨v5, rfl, hr, hf, hb⟩
              obtain ⟨av, cv, hv, -⟩ := hr.shape
              subst hv
              obtain ⟨bl, hbl⟩ : ∃ bl, B.length = bl := ⟨_, rfl⟩
              rw [hbl]
              obtain ⟨E, hE⟩ : ∃ E, arrDl (F : Int) ((n1 - T : Nat) : Int) (.slice av bl cv) = E := ⟨_, rfl⟩
              have E3 := Lib.hid (show E.size = 3 by rw [← hE]; rfl)
              have HE := Lib.hid hE; have HBL := Lib.hid hbl
              have HR := Lib.hid hr; have HB5 := Lib.hid (FIN.out.trans (hb.mono FIN.out.size))
              clear hr hf hb hE hbl CC
              go_wp2_with (first
                | (with_reducible refine wpList_build_edit rfl (.tmp 68) (.tmp 72) (.tmp 80) rfl (F : Int) ((n1 - T : Nat) : Int) av bl cv rfl rfl rfl E HE.out ?_)
                | (with_reducible refine wpList_build_oneE rfl (.tmp 81) rfl E E3.out rfl ?_)
                | fail)
              go_ret
              refine ⟨w5.heap.size, av, cv, rfl, ?_, HB5.out.alloc HB5.out.size _⟩
              rw [ML2.out, HBL.out]
              refine ⟨rowR_one (R := rowDl) (P := Try.prog) goodDl (t := 34) (fr := (0, 0)) ?_, fun e he => ?_⟩
              · rw [heap_alloc_new, ← HE.out]; rfl
              · obtain rfl : e = _ := by simpa using he
                have q := HR.out.red.below ((Below.refl w5.heap.size w5).alloc (Nat.le_refl _) (.cells E 34)) (Nat.le_refl _)
                rw [HBL.out] at q
                exact q
            · go_wp2_with fail
              go_quiet (fail)
              have FIN := Lib.hid (below_drewN HBT.out nq)
              generalize wt.drewN nq = u1 at *
              clear HBT
              have htl := tail_le l1 l2
              have hpl := putL_len l1 l2
              rw [show fromL l1 l2 = F from HF.out, HT.out, ← E1.out, ← E2.out] at htl
              rw [show fromL l1 l2 = F from HF.out, HT.out, ← E2.out] at hpl
              obtain ⟨A2, hA2⟩ : ∃ A, (if c2 = F then (some ⟨b2, o2, none⟩ : Option Addr) else (some ⟨b2, o2, none⟩ : Option Addr).map (·.add F)) = A := ⟨_, rfl⟩
              have k3 : BAt u1 A2 (putL l1 l2) := by
                unfold putL
                rw [show fromL l1 l2 = F from HF.out, HT.out, ← hA2]
                exact bat_mid (H2.out.keep FIN.out) c2 F (l2.length - T) (by have := E2.out; omega) (by omega) (by have := E2.out; omega)
              have CC := CopyBytes_any (putL l1 l2) u1 A2 (n2 - T - F) (c2 - F) k3 (by omega) (fun h => no_mid (m := n2 - T) NO2.out (by omega) (by omega) (by rw [hA2]; exact h)) (by omega)
              have s3 := fun u => slice_u8_lh u (some ⟨b2, o2, none⟩) n2 c2 F (n2 - T) (by omega) (by omega) F ((n2 - T : Nat) : Int) rfl rfl
              rw [hA2] at s3
              have CC := Lib.hid CC; have HPL := Lib.hid hpl
              have j1 : (n1 : Int) - T = ((n1 - T : Nat) : Int) := by omega
              have j2 : (n2 : Int) - T = ((n2 - T : Nat) : Int) := by omega
              have ML2 := Lib.hid (show ∀ a c, madeL l1 l2 a c = [⟨F, ((n1 - T : Nat) : Int), .slice a (putL l1 l2).length c, putL l1 l2⟩] from fun a c => by rw [ML.out, show fromL l1 l2 = F from HF.out, HT.out])
              generalize putL l1 l2 = B at *
              clear htl hpl hA2 k3
              go_wp2_with fail
              refine CC.out.mono ?_
              rintro e w5 ⟨v5, rfl, hr, hf, hb⟩
              obtain ⟨av, cv, hv, -⟩ := hr.shape
              subst hv
              obtain ⟨bl, hbl⟩ : ∃ bl, B.length = bl := ⟨_, rfl⟩
              rw [hbl]
              obtain ⟨E, hE⟩ : ∃ E, arrDl (F : Int) ((n1 - T : Nat) : Int) (.slice av bl cv) = E := ⟨_, rfl⟩
              have E3 := Lib.hid (show E.size = 3 by rw [← hE]; rfl)
              have HE := Lib.hid hE; have HBL := Lib.hid hbl
              have HR := Lib.hid hr; have HB5 := Lib.hid (FIN.out.trans (hb.mono FIN.out.size))
              clear hr hf hb hE hbl CC
              go_wp2_with (first
                | (with_reducible refine wpList_build_edit rfl (.tmp 68) (.tmp 72) (.tmp 80) rfl (F : Int) ((n1 - T : Nat) : Int) av bl cv rfl rfl rfl E HE.out ?_)
                | (with_reducible refine wpList_build_oneE rfl (.tmp 81) rfl E E3.out rfl ?_)
                | fail)
              go_ret
              refine ⟨w5.heap.size, av, cv, rfl, ?_, HB5.out.alloc HB5.out.size _⟩
              rw [ML2.out, HBL.out]
              refine ⟨rowR_one (R := rowDl) (P := Try.prog) goodDl (t := 34) (fr := (0, 0)) ?_, fun e he => ?_⟩
              · rw [heap_alloc_new, ← HE.out]; rfl
              · obtain rfl : e = _ := by simpa using he
                have q := HR.out.red.below ((Below.refl w5.heap.size w5).alloc (Nat.le_refl _) (.cells E 34)) (Nat.le_refl _)
                rw [HBL.out] at q
                exact q
            · obtain ⟨b1', o1', hb1', g1, y1⟩ := H1.out.at (by rw [← E1.out]; omega)
              cases hb1'
              obtain ⟨b2', o2', hb2', g2, y2⟩ := H2.out.at (by rw [← E2.out]; omega)
              cases hb2'
              obtain ⟨k1, hk1e⟩ : ∃ k1 : Nat, n1 - 1 - T = k1 := ⟨_, rfl⟩
              obtain ⟨k2, hk2e⟩ : ∃ k2 : Nat, n2 - 1 - T = k2 := ⟨_, rfl⟩
              have x1 : (n1 : Int) - 1 - T = k1 := by omega
              have x2 : (n2 : Int) - 1 - T = k2 := by omega
              have x1b : k1 < n1 := by omega
              have x2b : k2 < n2 := by omega
              have c1' : wt.cell? ⟨b1, o1 + k1, none⟩ = _ := (HBT.out.cell (p := ⟨b1, o1 + k1, none⟩) g1).trans (y1 k1 (by rw [← E1.out]; omega))
              have c2' : wt.cell? ⟨b2, o2 + k2, none⟩ = _ := (HBT.out.cell (p := ⟨b2, o2 + k2, none⟩) g2).trans (y2 k2 (by rw [← E2.out]; omega))
              rw [hk1e, hk2e] at z3
              have UB : (((l1.getD k1 0).toNat : Int) == ((l2.getD k2 0).toNat : Int)) = false := by rw [u8_beq]; simpa using z3
              generalize (((l1.getD k1 0).toNat : Nat) : Int) = x at *
              generalize (((l2.getD k2 0).toNat : Nat) : Int) = y at *
              clear y1 y2 z3 hk1e hk2e
              go_wp2_with fail
              go_quiet (fail)
              clear c1' c2'
              have FIN := Lib.hid (below_drewN HBT.out nq)
              generalize wt.drewN nq = u1 at *
              clear HBT
              have htl := tail_le l1 l2
              have hpl := putL_len l1 l2
              rw [show fromL l1 l2 = F from HF.out, HT.out, ← E1.out, ← E2.out] at htl
              rw [show fromL l1 l2 = F from HF.out, HT.out, ← E2.out] at hpl
              obtain ⟨A2, hA2⟩ : ∃ A, (if c2 = F then (some ⟨b2, o2, none⟩ : Option Addr) else (some ⟨b2, o2, none⟩ : Option Addr).map (·.add F)) = A := ⟨_, rfl⟩
              have k3 : BAt u1 A2 (putL l1 l2) := by
                unfold putL
                rw [show fromL l1 l2 = F from HF.out, HT.out, ← hA2]
                exact bat_mid (H2.out.keep FIN.out) c2 F (l2.length - T) (by have := E2.out; omega) (by omega) (by have := E2.out; omega)
              have CC := CopyBytes_any (putL l1 l2) u1 A2 (n2 - T - F) (c2 - F) k3 (by omega) (fun h => no_mid (m := n2 - T) NO2.out (by omega) (by omega) (by rw [hA2]; exact h)) (by omega)
              have s3 := fun u => slice_u8_lh u (some ⟨b2, o2, none⟩) n2 c2 F (n2 - T) (by omega) (by omega) F ((n2 - T : Nat) : Int) rfl rfl
              rw [hA2] at s3
              have CC := Lib.hid CC; have HPL := Lib.hid hpl
              have j1 : (n1 : Int) - T = ((n1 - T : Nat) : Int) := by omega
              have j2 : (n2 : Int) - T = ((n2 - T : Nat) : Int) := by omega
              have ML2 := Lib.hid (show ∀ a c, madeL l1 l2 a c = [⟨F, ((n1 - T : Nat) : Int), .slice a (putL l1 l2).length c, putL l1 l2⟩] from fun a c => by rw [ML.out, show fromL l1 l2 = F from HF.out, HT.out])
              generalize putL l1 l2 = B at *
              clear htl hpl hA2 k3
              go_wp2_with fail
              refine CC.out.mono ?_
              rintro e w5 ⟨v5, rfl, hr, hf, hb⟩
              obtain ⟨av, cv, hv, -⟩ := hr.shape
              subst hv
              obtain ⟨bl, hbl⟩ : ∃ bl, B.length = bl := ⟨_, rfl⟩
              rw [hbl]
              obtain ⟨E, hE⟩ : ∃ E, arrDl (F : Int) ((n1 - T : Nat) : Int) (.slice av bl cv) = E := ⟨_, rfl⟩
              have E3 := Lib.hid (show E.size = 3 by rw [← hE]; rfl)
              have HE := Lib.hid hE; have HBL := Lib.hid hbl
              have HR := Lib.hid hr; have HB5 := Lib.hid (FIN.out.trans (hb.mono FIN.out.size))
              clear hr hf hb hE hbl CC
              go_wp2_with (first
                | (with_reducible refine wpList_build_edit rfl (.tmp 68) (.tmp 72) (.tmp 80) rfl (F : Int) ((n1 - T : Nat) : Int) av bl cv rfl rfl rfl E HE.out ?_)
                | (with_reducible refine wpList_build_oneE rfl (.tmp 81) rfl E E3.out rfl ?_)
                | fail)
              go_ret
              refine ⟨w5.heap.size, av, cv, rfl, ?_, HB5.out.alloc HB5.out.size _⟩
              rw [ML2.out, HBL.out]
              refine ⟨rowR_one (R := rowDl) (P := Try.prog) goodDl (t := 34) (fr := (0, 0)) ?_, fun e he => ?_⟩
              · rw [heap_alloc_new, ← HE.out]; rfl
              · obtain rfl : e = _ := by simpa using he
                have q := HR.out.red.below ((Below.refl w5.heap.size w5).alloc (Nat.le_refl _) (.cells E 34)) (Nat.le_refl _)
                rw [HBL.out] at q
                exact q
end Go.Proofs.Ytbilempgnpnacaa
