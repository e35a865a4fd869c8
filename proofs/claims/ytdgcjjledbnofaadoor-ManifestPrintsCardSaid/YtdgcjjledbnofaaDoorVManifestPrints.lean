/-
  The law ManifestPrints: its walk.
-/
import Derived.Test.YtdgcjjledbnofaaDoorFu34
namespace Go.Proofs.YtdgcjjledbnofaaDoor.manifestPrints
set_option maxRecDepth 20000
open Go.RowKit
set_option linter.unusedVariables false
set_option linter.unusedSimpArgs false

set_option maxHeartbeats 2000000 in
theorem walk_many (w : World) (a : Option Addr) (n c : Nat) (l : List Fil) (hb : FilesAt w a l) (hl : n = l.length) (hno : a = none → n = 0 ∧ c = 0) (hc : n ≤ c ∧ c ≤ maxLen) (hid : ∀ i ∈ l, i.id.length = 20) (hnm : ∀ i ∈ l, i.path.length ≤ maxLen)
    (a2 : Option Addr) (n2 c2 : Nat) (m : List UInt8) (hb2 : BAt w a2 m) (hl2 : n2 = m.length) (hno2 : a2 = none → n2 = 0 ∧ c2 = 0) (hc2 : n2 ≤ c2 ∧ c2 ≤ maxLen) (tab : QTab w) (h : 40 < n ∨ n ≤ 40 ∧ 3000 < n2) :
    Calls Tryd.prog 3 #[.slice a n c, .slice a2 n2 c2] w fun e w' => e = .returned (.bool true) ∧ Below w.heap.size w w' := by
  have CA := Lib.hid (awake16 w tab)
  clear hb hl hno hc hid hnm hb2 hl2 hno2 hc2 tab
  rcases h with h | ⟨h, h2⟩
  · have g1 : (n : Int) > 40 := by omega
    clear h
    go_enter Tryd.func3, Tryd.ntmps3
    go_wp2_with fail
    refine CA.out.mono ?_
    rintro e w2 ⟨rfl, b2⟩
    have B2 := Lib.hid b2
    clear b2
    go_wp2
    go_ret
    exact ⟨rfl, B2.out⟩
  · have g1 : ¬ (n : Int) > 40 := by omega
    have g2 : (n2 : Int) > 3000 := by omega
    clear h h2
    go_enter Tryd.func3, Tryd.ntmps3
    go_wp2_with fail
    refine CA.out.mono ?_
    rintro e w2 ⟨rfl, b2⟩
    have B2 := Lib.hid b2
    clear b2
    go_wp2
    go_ret
    exact ⟨rfl, B2.out⟩
set_option maxHeartbeats 16000000 in
theorem walk_rest (w : World) (a : Option Addr) (n c : Nat) (l : List Fil) (hb : FilesAt w a l) (hl : n = l.length) (hno : a = none → n = 0 ∧ c = 0) (hc : n ≤ c ∧ c ≤ maxLen) (hid : ∀ i ∈ l, i.id.length = 20) (hnm : ∀ i ∈ l, i.path.length ≤ maxLen)
    (a2 : Option Addr) (n2 c2 : Nat) (m : List UInt8) (hb2 : BAt w a2 m) (hl2 : n2 = m.length) (hno2 : a2 = none → n2 = 0 ∧ c2 = 0) (hc2 : n2 ≤ c2 ∧ c2 ≤ maxLen) (tab : QTab w) (h40 : n ≤ 40) (h3 : n2 ≤ 3000) :
    Calls Tryd.prog 3 #[.slice a n c, .slice a2 n2 c2] w fun e w' => e = .returned (.bool true) ∧ Below w.heap.size w w' := by
  have hn40 := h40
  have g1 : ¬ (n : Int) > 40 := by omega
  have g2 : ¬ (n2 : Int) > 3000 := by omega
  have BSP := Lib.hid built_spF
  have CO := Lib.hid (fun u (h : Below w.heap.size w u) => OwnFil_any a n c l spF u (hb.keep h) hno hl (by omega) hid spF_id)
  have CKI := Lib.hid (fun u gi gb (h : PS w l m gi gb u) => KeptFil_any gi n c a l spF u h.1 (hb.keep h.2.2) hl (by omega) hid spF_id)
  obtain ⟨A, hA⟩ : ∃ A, arrF spF = A := ⟨_, rfl⟩
  rw [hA] at CO CKI BSP
  obtain ⟨sS, hsS⟩ : ∃ s : ByteArray, (⟨#[115, 112, 111, 105, 108, 116]⟩ : ByteArray) = s := ⟨_, rfl⟩
  rw [hsS] at BSP
  have CB := Lib.hid (fun u (h : Below w.heap.size w u) => Own_any a2 n2 c2 m 71 u (hb2.keep h) hno2 hl2 (by omega))
  rw [← hl2] at CB
  have CKB := Lib.hid (fun u gi gb (h : PS w l m gi gb u) => Kept_any gb n2 n2 (n2 + 3) c2 a2 m 71 u h.2.1 (hb2.keep h.2.2) hl2 (by omega) hl2 (by omega))
  have CPP := Lib.hid (fun (hs : ∀ f ∈ l, f.path.length ≤ 600) u gi gb (h : PS w l m gi gb u) => mPrint_is (some ⟨gi, 0, none⟩) n (n + 3) l u hl (by unfold maxLen; omega) (h.1.front hid spF_id) hid (fun f hf => Nat.le_trans (hs f hf) (by decide)) (tab.below h.2.2))
  have CRP := Lib.hid (fun (hs : ∀ f ∈ l, f.path.length ≤ 600) u gi gb (h : PS w l m gi gb u) => rmPrint_is a n c l u hl (by omega) (hb.keep h.2.2) hid (fun f hf => Nat.le_trans (hs f hf) (by decide)) (tab.below h.2.2))
  have CPQ := Lib.hid (fun u gi gb (h : PS w l m gi gb u) => mParse_is (some ⟨gb, 0, none⟩) n2 (n2 + 3) m u hl2 h.2.1.bat (tab.below h.2.2))
  have CRQ := Lib.hid (fun u gi gb (h : PS w l m gi gb u) => rmParse_is a2 n2 c2 m u hl2 (hb2.keep h.2.2) (by omega) (tab.below h.2.2))
  have CA := Lib.hid (fun u (h : Below w.heap.size w u) => awake16 u (tab.below h))
  have LPM := Lib.hid (parseM_len (b := m) (by omega)); have IPM := Lib.hid (parseM_ids m)
  have HL := Lib.hid hl; have HB := Lib.hid hb
  obtain ⟨PL, hPL⟩ : ∃ x, (printM l).1 = x := ⟨_, rfl⟩
  obtain ⟨PE, hPE⟩ : ∃ x, (printM l).2 = x := ⟨_, rfl⟩
  rw [hPL, hPE] at CPP CRP
  obtain ⟨QL, hQL⟩ : ∃ x, (parseM m).1 = x := ⟨_, rfl⟩
  obtain ⟨QE, hQE⟩ : ∃ x, (parseM m).2 = x := ⟨_, rfl⟩
  rw [hQL] at CPQ CRQ LPM IPM
  rw [hQE] at CPQ CRQ
  clear hb hl hno hc hid hnm hb2 hl2 hno2 hc2 tab hA hPL hPE hQL hQE h40 h3
  go_enter Tryd.func3, Tryd.ntmps3
  rw [hsS]
  clear hsS
  go_wp2_with fail
  go_loopw [5] (fun v5 wr => ∃ i : Nat, i ≤ n ∧ v5 = .int .i64 i ∧ ShortM l i ∧ Below w.heap.size w wr) (fun v5 _ => n - (intOf v5).toNat)
  case atStart => exact ⟨0, Nat.zero_le _, rfl, ShortM.start l, Below.refl _ _⟩
  case round =>
    obtain ⟨i, hi, rfl, hsh, hbr⟩ := hrel
    have HSH := Lib.hid hsh; have HBR := Lib.hid hbr
    clear hsh hbr
    by_cases hlt : i < n
    · have hil : i < l.length := by rw [← HL.out]; exact hlt
      obtain ⟨b, o, ha, hbl⟩ := HB.out.some (by omega)
      subst ha
      have q0 : wr.cell? ⟨b, o + i * 22, none⟩ = some (.string ⟨l[i].path.toArray⟩) := (HBR.out.cell (p := ⟨b, o + i * 22, none⟩) hbl).trans (HB.out.elem i hil 0 _ rfl)
      have hsz := size_toArray l[i].path
      have NX := Lib.hid (fun h => HSH.out.next hil h)
      obtain ⟨k, hk⟩ : ∃ k, l[i].path.length = k := ⟨_, rfl⟩
      rw [hk] at hsz NX
      generalize (⟨l[i].path.toArray⟩ : ByteArray) = sp at q0 hsz
      clear hk hil hbl
      by_cases h6 : k ≤ 600
      · have g3 : ¬ (k : Int) > 600 := by omega
        have NX2 := Lib.hid (NX.out h6)
        have gw := wrapM i (by omega)
        clear h6 NX
        go_wp2
        go_roundw
        case rel => exact ⟨i + 1, by omega, by go_num, NX2.out, HBR.out⟩
        case measure => clear gw; show n - ((i : Int) + 1).toNat < n - (i : Int).toNat; omega
      · have g3 : (k : Int) > 600 := by omega
        clear h6 NX
        go_wp2_with fail
        refine (CA.out _ HBR.out).mono ?_
        rintro e w2 ⟨rfl, b2⟩
        have B2 := Lib.hid (HBR.out.trans (b2.mono HBR.out.size))
        clear b2
        go_wp2
        go_ret
        exact ⟨rfl, B2.out⟩
    · have hs := HSH.out
      obtain rfl : i = n := by omega
      rw [HL.out] at hs
      have CPP := Lib.hid (CPP.out hs.all); have CRP := Lib.hid (CRP.out hs.all)
      have B1 := HBR
      clear hs hlt HSH
      go_wp2_with (first
        | (refine wpList_build_oneW (by kernel_rfl) 28 0 _ rfl _ rfl A BSP.out ?_)
        | fail)
      refine (CO.out _ B1.out).mono ?_
      rintro e w2 ⟨rfl, hoi, b2⟩
      have HOI := Lib.hid hoi
      have B2 := Lib.hid (B1.out.trans (b2.mono B1.out.size))
      clear b2 hoi B1 CO
      generalize wr.heap.size + 1 = gi at *
      go_wp2_with fail
      refine (CB.out _ B2.out).mono ?_
      rintro e w3 ⟨rfl, hob, b3⟩
      have S3 := Lib.hid (show PS w l m gi w2.heap.size w3 from ⟨HOI.out.keep b3, hob, B2.out.trans (b3.mono B2.out.size)⟩)
      clear b3 hob B2 HOI CB
      generalize w2.heap.size = gb at *
      go_wp2_with fail
      refine (CPP.out _ _ _ S3.out).mono ?_
      rintro e w4 ⟨x, rfl, hr4, b4⟩
      have S4 := Lib.hid (S3.out.keep b4)
      obtain ⟨xa, xc, hx, _, _, _, _⟩ := id hr4
      obtain ⟨xn, hxn⟩ : ∃ x, PL.length = x := ⟨_, rfl⟩
      rw [hxn] at hx
      subst hx
      have X4 := Lib.hid hr4; have HXN := Lib.hid hxn
      clear b4 hr4 S3 CPP hxn
      go_wp2_with fail
      refine (CRP.out _ _ _ S4.out).mono ?_
      rintro e w5 ⟨y, rfl, hr5, b5⟩
      have S5 := Lib.hid (S4.out.keep b5)
      have X5 := Lib.hid (X4.out.keepW b5)
      obtain ⟨ya, yc, hy, _, _, _, _⟩ := id hr5
      rw [HXN.out] at hy
      subst hy
      have Y5 := Lib.hid hr5
      clear b5 hr5 S4 CRP X4
      go_wp2_with fail
      refine (CPQ.out _ _ _ S5.out).mono ?_
      rintro e w6 ⟨u, rfl, hr6, b6⟩
      have S6 := Lib.hid (S5.out.keep b6)
      have X6 := Lib.hid (X5.out.keepW b6); have Y6 := Lib.hid (Y5.out.keepW b6)
      obtain ⟨ua, uc, hu, _, _, _, _⟩ := id hr6
      obtain ⟨un, hun⟩ : ∃ x, QL.length = x := ⟨_, rfl⟩
      rw [hun] at hu
      subst hu
      have U6 := Lib.hid hr6; have HUN := Lib.hid hun
      clear b6 hr6 hun S5 X5 Y5 CPQ
      go_wp2_with fail
      refine (CRQ.out _ _ _ S6.out).mono ?_
      rintro e w7 ⟨v, rfl, hr7, b7⟩
      have S7 := Lib.hid (S6.out.keep b7)
      have X7 := Lib.hid (X6.out.keepW b7); have Y7 := Lib.hid (Y6.out.keepW b7)
      have U7 := Lib.hid (U6.out.keep b7)
      obtain ⟨va, vc, hv, _, _, _, _⟩ := id hr7
      rw [HUN.out] at hv
      subst hv
      have V7 := Lib.hid hr7
      clear b7 hr7 S6 X6 Y6 U6 CRQ
      go_wp2_with fail
      refine (CA.out _ S7.out.2.2).mono ?_
      rintro e w8 ⟨rfl, b8⟩
      have S8 := Lib.hid (S7.out.keep b8)
      have X8 := X7.out.keepW b8; have Y8 := Y7.out.keepW b8
      have U8 := Lib.hid (U7.out.keep b8); have V8 := Lib.hid (V7.out.keep b8)
      have CBY := Lib.hid (Bytes_same xa ya xn xn xc yc PL w8 (red_batW X8) (red_batW Y8) HXN.out.symm HXN.out.symm)
      clear b8 S7 X7 Y7 U7 V7 X8 Y8
      go_wp2_with fail
      refine CBY.out.mono ?_
      rintro e w11 ⟨rfl, rfl⟩
      have CPL := Lib.hid (PlainFil_any ua va un uc vc QL w8 (redM_at U8.out) (redM_at V8.out) HUN.out.symm (by have := LPM.out; have := HUN.out; omega) IPM.out)
      clear U8 V8 CBY
      go_wp2_with fail
      refine CPL.out.mono ?_
      rintro e w12 ⟨rfl, b12⟩
      have S12 := Lib.hid (S8.out.keep b12)
      clear b12 S8 CPL
      go_wp2_with (first
        | (refine wpList_build_oneW (by kernel_rfl) 28 0 _ rfl _ rfl A BSP.out ?_)
        | fail)
      refine (CKI.out _ _ _ S12.out).mono ?_
      rintro e w13 ⟨rfl, b13⟩
      have S13 := Lib.hid (S12.out.keep b13)
      clear b13 S12 CKI
      go_wp2_with fail
      refine (CKB.out _ _ _ S13.out).mono ?_
      rintro e w14 ⟨rfl, b14⟩
      have S14 := Lib.hid (S13.out.keep b14)
      clear b14 S13
      go_wp2
      go_ret
      exact ⟨rfl, S14.out.2.2⟩
theorem walk (w : World) (a : Option Addr) (n c : Nat) (l : List Fil) (hb : FilesAt w a l) (hl : n = l.length) (hno : a = none → n = 0 ∧ c = 0) (hc : n ≤ c ∧ c ≤ maxLen) (hid : ∀ i ∈ l, i.id.length = 20) (hnm : ∀ i ∈ l, i.path.length ≤ maxLen)
    (a2 : Option Addr) (n2 c2 : Nat) (m : List UInt8) (hb2 : BAt w a2 m) (hl2 : n2 = m.length) (hno2 : a2 = none → n2 = 0 ∧ c2 = 0) (hc2 : n2 ≤ c2 ∧ c2 ≤ maxLen) (tab : QTab w) :
    Calls Tryd.prog 3 #[.slice a n c, .slice a2 n2 c2] w fun e w' => e = .returned (.bool true) ∧ Below w.heap.size w w' := by
  by_cases h40 : 40 < n
  · exact walk_many w a n c l hb hl hno hc hid hnm a2 n2 c2 m hb2 hl2 hno2 hc2 tab (.inl h40)
  · by_cases h3 : 3000 < n2
    · exact walk_many w a n c l hb hl hno hc hid hnm a2 n2 c2 m hb2 hl2 hno2 hc2 tab (.inr ⟨by omega, h3⟩)
    · exact walk_rest w a n c l hb hl hno hc hid hnm a2 n2 c2 m hb2 hl2 hno2 hc2 tab (by omega) (by omega)
end Go.Proofs.YtdgcjjledbnofaaDoor.manifestPrints
