/-
  The law TreePrints: its walk.
-/
import Derived.Test.YtalmoaofodjehaaDoorFu18
namespace Go.Proofs.YtalmoaofodjehaaDoor.treePrints
set_option maxRecDepth 20000
open Go.RowKit
set_option linter.unusedVariables false
set_option linter.unusedSimpArgs false

/-- What stays: both copies. -/
abbrev PS (w : World) (l : List Itm) (m : List UInt8) (gi gb : Nat) (u : World) : Prop := OwnItm u gi l spI ∧ OwnAt u gb m 71 ∧ Below w.heap.size w u
theorem PS.keep {w u u' : World} {l : List Itm} {m : List UInt8} {gi gb : Nat} (h : PS w l m gi gb u) (b : Below u.heap.size u u') : PS w l m gi gb u' :=
  ⟨h.1.keep b, h.2.1.keep b, h.2.2.trans (b.mono h.2.2.size)⟩
set_option maxHeartbeats 16000000 in
theorem walk_small (w : World) (a : Option Addr) (n c : Nat) (l : List Itm) (hb : ItemsAt w a l) (hl : n = l.length) (hno : a = none → n = 0 ∧ c = 0) (hc : n ≤ c) (hid : ∀ i ∈ l, i.id.length = 20) (hf : fewI l = true)
    (a2 : Option Addr) (n2 c2 : Nat) (m : List UInt8) (hb2 : BAt w a2 m) (hl2 : n2 = m.length) (hno2 : a2 = none → n2 = 0 ∧ c2 = 0) (hc2 : n2 ≤ c2) (h2 : n2 ≤ 2000) (tab : QTab w) :
    Calls Tryd.prog 3 #[.slice a n c, .slice a2 n2 c2] w fun e w' => e = .returned (.bool true) ∧ Below w.heap.size w w' := by
  obtain ⟨hn60, hnm⟩ := few_yes hf
  have hn6 : n ≤ 60 := by omega
  have hnm2 : ∀ i ∈ l, i.name.length ≤ 1000000 := fun i hi => Nat.le_trans (hnm i hi) (by decide)
  have g2 : ¬ ((n2 : Int) > 2000) := by omega
  have C1 := Lib.hid (few_is a n c l w hl (by unfold maxLen; omega) hb (fun i hi => Nat.le_trans (hnm i hi) (by decide)))
  rw [hf] at C1
  obtain ⟨A, hA⟩ : ∃ A, arrI spI = A := ⟨_, rfl⟩
  have CO := Lib.hid (fun u (h : Below w.heap.size w u) => OwnItm_any a n c l spI u (hb.keep h) hno hl (by omega) hid spI_id)
  have CKI := Lib.hid (fun u gi gb (h : PS w l m gi gb u) => KeptItm_any gi n c a l spI u h.1 (hb.keep h.2.2) hl (by omega) hid spI_id)
  rw [hA] at CO CKI
  obtain rfl : A = #[.int .i64 0, .string ⟨#[115, 112, 111, 105, 108, 116]⟩, .int .u8 0, .int .u8 0, .int .u8 0, .int .u8 0, .int .u8 0, .int .u8 0, .int .u8 0, .int .u8 0, .int .u8 0, .int .u8 0, .int .u8 0, .int .u8 0, .int .u8 0, .int .u8 0, .int .u8 0, .int .u8 0, .int .u8 0, .int .u8 0, .int .u8 0, .int .u8 0] := hA.symm.trans (by kernel_rfl)
  have CB := Lib.hid (fun u (h : Below w.heap.size w u) => Own_any a2 n2 c2 m 71 u (hb2.keep h) hno2 hl2 (by omega))
  rw [← hl2] at CB
  have CKB := Lib.hid (fun u gi gb (h : PS w l m gi gb u) => Kept_any gb n2 n2 (n2 + 3) c2 a2 m 71 u h.2.1 (hb2.keep h.2.2) hl2 (by omega) hl2 (by omega))
  have CPP := Lib.hid (fun u gi gb (h : PS w l m gi gb u) => pPrint_is (some ⟨gi, 0, none⟩) n (n + 3) l u hl (by unfold maxLen; omega) (h.1.front hid spI_id) hid hnm2 (tab.below h.2.2))
  have CRP := Lib.hid (fun u gi gb (h : PS w l m gi gb u) => rPrint_is a n c l u hl (by unfold maxLen; omega) (hb.keep h.2.2) hid hnm2 (tab.below h.2.2))
  have CPQ := Lib.hid (fun u gi gb (h : PS w l m gi gb u) => pParse_is (some ⟨gb, 0, none⟩) n2 (n2 + 3) m u hl2 h.2.1.bat (tab.below h.2.2))
  have CRQ := Lib.hid (fun u gi gb (h : PS w l m gi gb u) => rParse_is a2 n2 c2 m u hl2 (hb2.keep h.2.2) hc2 (tab.below h.2.2))
  have CPR := Lib.hid (fun u gi gb (h : PS w l m gi gb u) => pRight_is (some ⟨gi, 0, none⟩) n (n + 3) l u hl (by unfold maxLen; omega) (h.1.front hid spI_id) hid hnm2 (tab.below h.2.2))
  have CRR := Lib.hid (fun u gi gb (h : PS w l m gi gb u) => rRight_is a n c l u hl (by unfold maxLen; omega) (hb.keep h.2.2) hid hnm2 (tab.below h.2.2))
  have CA := Lib.hid (fun u gi gb (h : PS w l m gi gb u) => awake_is u (tab.below h.2.2))
  have HL2 := Lib.hid hl2
  obtain ⟨PL, hPL⟩ : ∃ x, (printT l).1 = x := ⟨_, rfl⟩
  obtain ⟨PE, hPE⟩ : ∃ x, (printT l).2 = x := ⟨_, rfl⟩
  rw [hPL, hPE] at CPP CRP
  obtain ⟨R, hR⟩ : ∃ x, rightI l = x := ⟨_, rfl⟩
  rw [hR] at CPR CRR
  clear hb hl hid hb2 hl2 hnm hnm2 hf tab hn60 hPL hPE hno hno2 hA hR hc hc2
  go_enter Tryd.func3, Tryd.ntmps3
  go_wp2_with fail
  refine C1.out.mono ?_
  rintro e w1 ⟨rfl, b1⟩
  have B1 := Lib.hid b1
  clear b1 C1
  go_wp2_with fail
  refine (CO.out _ B1.out).mono ?_
  rintro e w2 ⟨rfl, hoi, b2⟩
  have HOI := Lib.hid hoi
  have B2 := Lib.hid (B1.out.trans (b2.mono B1.out.size))
  clear b2 hoi B1 CO
  generalize w1.heap.size + 1 = gi at *
  go_wp2_with fail
  refine (CB.out _ B2.out).mono ?_
  rintro e w3 ⟨rfl, hob, b3⟩
  have S3 := Lib.hid (show PS w l m gi w2.heap.size w3 from ⟨HOI.out.keep b3, hob, B2.out.trans (b3.mono B2.out.size)⟩)
  clear b3 hob B2 HOI CB
  generalize w2.heap.size = gb at *
  go_wp2_with fail
  refine (CPP.out _ _ _ S3.out).mono ?_
  rintro e w4 ⟨x, rfl, hr4, b4⟩
  have S4 := Lib.hid (S3.out.keep b4)
  obtain ⟨xa, xc, hx, _, _, _, _⟩ := id hr4
  obtain ⟨xn, hxn⟩ : ∃ x, PL.length = x := ⟨_, rfl⟩
  rw [hxn] at hx
  subst hx
  have X4 := Lib.hid hr4; have HXN := Lib.hid hxn
  clear b4 hr4 S3 CPP hxn
  go_wp2_with fail
  refine (CRP.out _ _ _ S4.out).mono ?_
  rintro e w5 ⟨y, rfl, hr5, b5⟩
  have S5 := Lib.hid (S4.out.keep b5)
  have X5 := Lib.hid (RedB.keep X4.out b5)
  obtain ⟨ya, yc, hy, _, _, _, _⟩ := id hr5
  rw [HXN.out] at hy
  subst hy
  have Y5 := Lib.hid hr5
  clear b5 hr5 S4 CRP X4
  go_wp2_with fail
  refine (CPQ.out _ _ _ S5.out).mono ?_
  rintro e w6 ⟨u, p, er, rfl, hr6, hp6, b6⟩
  have S6 := Lib.hid (S5.out.keep b6)
  have X6 := Lib.hid (RedB.keep X5.out b6); have Y6 := Lib.hid (RedB.keep Y5.out b6)
  obtain ⟨ua, uc, hu, _, _, _, _⟩ := id hr6
  obtain ⟨un, hun⟩ : ∃ x, p.length = x := ⟨_, rfl⟩
  rw [hun] at hu
  subst hu
  have U6 := Lib.hid hr6; have HP := Lib.hid hp6; have HUN := Lib.hid hun
  clear b6 hr6 hp6 hun S5 X5 Y5 CPQ
  go_wp2_with fail
  refine (CRQ.out _ _ _ S6.out).mono ?_
  rintro e w7 ⟨v, p2, er2, rfl, hr7, hp7, b7⟩
  obtain ⟨rfl, rfl⟩ := parsedT_same HP.out hp7
  have S7 := Lib.hid (S6.out.keep b7)
  have X7 := Lib.hid (RedB.keep X6.out b7); have Y7 := Lib.hid (RedB.keep Y6.out b7)
  have U7 := Lib.hid (U6.out.keep b7)
  obtain ⟨va, vc, hv, _, _, _, _⟩ := id hr7
  rw [HUN.out] at hv
  subst hv
  have V7 := Lib.hid hr7
  clear b7 hr7 hp7 S6 X6 Y6 U6 CRQ
  go_wp2_with fail
  refine (CA.out _ _ _ S7.out).mono ?_
  rintro e w8 ⟨rfl, b8⟩
  have S8 := Lib.hid (S7.out.keep b8)
  have X8 := Lib.hid (RedB.keep X7.out b8); have Y8 := Lib.hid (RedB.keep Y7.out b8)
  have U8 := Lib.hid (U7.out.keep b8); have V8 := Lib.hid (V7.out.keep b8)
  clear b8 S7 X7 Y7 U7 V7
  go_wp2_with fail
  refine (CPR.out _ _ _ S8.out).mono ?_
  rintro e w9 ⟨rfl, b9⟩
  have S9 := Lib.hid (S8.out.keep b9)
  have X9 := Lib.hid (RedB.keep X8.out b9); have Y9 := Lib.hid (RedB.keep Y8.out b9)
  have U9 := Lib.hid (U8.out.keep b9); have V9 := Lib.hid (V8.out.keep b9)
  clear b9 S8 X8 Y8 U8 V8
  go_wp2_with fail
  refine (CRR.out _ _ _ S9.out).mono ?_
  rintro e w10 ⟨rfl, b10⟩
  have S10 := Lib.hid (S9.out.keep b10)
  have X10 := RedB.keep X9.out b10; have Y10 := RedB.keep Y9.out b10
  have U10 := Lib.hid (U9.out.keep b10); have V10 := Lib.hid (V9.out.keep b10)
  have hx1 := red_bat X10; have hy1 := red_bat Y10
  clear X10 Y10
  have CBY := Lib.hid (Bytes_same xa ya xn xn xc yc PL w10 hx1 hy1 HXN.out.symm HXN.out.symm)
  clear b10 S9 X9 Y9 U9 V9 hx1 hy1
  go_wp2_with fail
  refine CBY.out.mono ?_
  rintro e w11 ⟨rfl, rfl⟩
  have hu1 := redI_items U10.out; have hv1 := redI_items V10.out
  have CPL := Lib.hid (PlainItm_any ua va un uc vc p2 w10 hu1 hv1 HUN.out.symm (by have := (parsedT_len HP.out).1; have := HUN.out; have := HL2.out; omega) (parsedT_len HP.out).2)
  clear hu1 hv1 U10 V10 CBY
  go_wp2_with fail
  refine CPL.out.mono ?_
  rintro e w12 ⟨rfl, b12⟩
  have S12 := Lib.hid (S10.out.keep b12)
  clear b12 S10 CPL
  go_wp2_with fail
  refine (CKI.out _ _ _ S12.out).mono ?_
  rintro e w13 ⟨rfl, b13⟩
  have S13 := Lib.hid (S12.out.keep b13)
  clear b13 S12 CKI
  go_wp2_with fail
  refine (CKB.out _ _ _ S13.out).mono ?_
  rintro e w14 ⟨rfl, b14⟩
  have S14 := Lib.hid (S13.out.keep b14)
  clear b14 S13
  go_wp2
  go_ret
  exact ⟨rfl, S14.out.2.2⟩
set_option maxHeartbeats 2000000 in
theorem walk_few (w : World) (a : Option Addr) (n c : Nat) (l : List Itm) (hb : ItemsAt w a l) (hl : n = l.length) (hm : n ≤ maxLen) (hnm : ∀ i ∈ l, i.name.length ≤ maxLen) (hf : fewI l = false)
    (a2 : Option Addr) (n2 c2 : Nat) (tab : QTab w) :
    Calls Tryd.prog 3 #[.slice a n c, .slice a2 n2 c2] w fun e w' => e = .returned (.bool true) ∧ Below w.heap.size w w' := by
  have C1 := Lib.hid (few_is a n c l w hl hm hb hnm)
  rw [hf] at C1
  have CA := Lib.hid (fun u (h : Below w.heap.size w u) => awake_is u (tab.below h))
  clear hb hl hnm hf tab hm
  go_enter Tryd.func3, Tryd.ntmps3
  go_wp2_with fail
  refine C1.out.mono ?_
  rintro e w1 ⟨rfl, b1⟩
  have B1 := Lib.hid b1
  clear b1 C1
  go_wp2_with fail
  refine (CA.out _ B1.out).mono ?_
  rintro e w2 ⟨rfl, b2⟩
  have B2 := Lib.hid (B1.out.trans (b2.mono B1.out.size))
  clear b2
  go_wp2
  go_ret
  exact ⟨rfl, B2.out⟩
set_option maxHeartbeats 2000000 in
theorem walk_long (w : World) (a : Option Addr) (n c : Nat) (l : List Itm) (hb : ItemsAt w a l) (hl : n = l.length) (hm : n ≤ maxLen) (hnm : ∀ i ∈ l, i.name.length ≤ maxLen) (hf : fewI l = true)
    (a2 : Option Addr) (n2 c2 : Nat) (h2 : 2000 < n2) (tab : QTab w) :
    Calls Tryd.prog 3 #[.slice a n c, .slice a2 n2 c2] w fun e w' => e = .returned (.bool true) ∧ Below w.heap.size w w' := by
  have C1 := Lib.hid (few_is a n c l w hl hm hb hnm)
  rw [hf] at C1
  have CA := Lib.hid (fun u (h : Below w.heap.size w u) => awake_is u (tab.below h))
  have g2 : (n2 : Int) > 2000 := by omega
  clear hb hl hnm hf tab hm h2
  go_enter Tryd.func3, Tryd.ntmps3
  go_wp2_with fail
  refine C1.out.mono ?_
  rintro e w1 ⟨rfl, b1⟩
  have B1 := Lib.hid b1
  clear b1 C1
  go_wp2_with fail
  refine (CA.out _ B1.out).mono ?_
  rintro e w2 ⟨rfl, b2⟩
  have B2 := Lib.hid (B1.out.trans (b2.mono B1.out.size))
  clear b2
  go_wp2
  go_ret
  exact ⟨rfl, B2.out⟩
theorem walk (w : World) (a : Option Addr) (n c : Nat) (l : List Itm) (hb : ItemsAt w a l) (hl : n = l.length) (hno : a = none → n = 0 ∧ c = 0) (hc : n ≤ c ∧ c ≤ maxLen) (hid : ∀ i ∈ l, i.id.length = 20) (hnm : ∀ i ∈ l, i.name.length ≤ maxLen)
    (a2 : Option Addr) (n2 c2 : Nat) (m : List UInt8) (hb2 : BAt w a2 m) (hl2 : n2 = m.length) (hno2 : a2 = none → n2 = 0 ∧ c2 = 0) (hc2 : n2 ≤ c2 ∧ c2 ≤ maxLen) (tab : QTab w) :
    Calls Tryd.prog 3 #[.slice a n c, .slice a2 n2 c2] w fun e w' => e = .returned (.bool true) ∧ Below w.heap.size w w' := by
  have hm : n ≤ maxLen := Nat.le_trans hc.1 hc.2
  cases hf : fewI l with
  | false => exact walk_few w a n c l hb hl hm hnm hf a2 n2 c2 tab
  | true =>
    by_cases h2 : 2000 < n2
    · exact walk_long w a n c l hb hl hm hnm hf a2 n2 c2 h2 tab
    · exact walk_small w a n c l hb hl hno hc.1 hid hf a2 n2 c2 m hb2 hl2 hno2 hc2.1 (by omega) tab
end Go.Proofs.YtalmoaofodjehaaDoor.treePrints
