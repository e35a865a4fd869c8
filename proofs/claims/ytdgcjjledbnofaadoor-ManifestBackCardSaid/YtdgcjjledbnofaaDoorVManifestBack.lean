/-
  The law ManifestBack: its walk.
-/
import Derived.Test.YtdgcjjledbnofaaDoorFu34
namespace Go.Proofs.YtdgcjjledbnofaaDoor.manifestBack
set_option maxRecDepth 20000
open Go.RowKit
set_option linter.unusedVariables false
set_option linter.unusedSimpArgs false

theorem paths_parse {b : List UInt8} (h : b.length ≤ 65536) : ∀ f ∈ (parseM b).1, f.path.length ≤ 65536 := by
  unfold parseM
  split
  · intro f hf; cases hf
  · cases hf : filesM b with
    | none => intro f hf; cases hf
    | some l =>
      simp only
      split
      · next hr => intro f hf; exact Nat.le_trans (pathM_len hr f hf) (by decide)
      · intro f hf; cases hf
set_option maxHeartbeats 2000000 in
theorem walk_many (w : World) (a : Option Addr) (n c : Nat) (l : List Fil) (hb : FilesAt w a l) (hl : n = l.length) (hno : a = none → n = 0 ∧ c = 0) (hc : n ≤ c ∧ c ≤ maxLen) (hid : ∀ i ∈ l, i.id.length = 20) (hnm : ∀ i ∈ l, i.path.length ≤ maxLen)
    (a2 : Option Addr) (n2 c2 : Nat) (m : List UInt8) (hb2 : BAt w a2 m) (hl2 : n2 = m.length) (hno2 : a2 = none → n2 = 0 ∧ c2 = 0) (hc2 : n2 ≤ c2 ∧ c2 ≤ maxLen) (tab : QTab w) (h : 40 < n ∨ n ≤ 40 ∧ 3000 < n2) :
    Calls Tryd.prog 4 #[.slice a n c, .slice a2 n2 c2] w fun e w' => e = .returned (.bool true) ∧ Below w.heap.size w w' := by
  have CA := Lib.hid (awake16 w tab)
  clear hb hl hno hc hid hnm hb2 hl2 hno2 hc2 tab
  rcases h with h | ⟨h, h2⟩
  · have g1 : (n : Int) > 40 := by omega
    clear h
    go_enter Tryd.func4, Tryd.ntmps4
    go_wp2_with fail
    refine CA.out.mono ?_
    rintro e w2 ⟨rfl, b2⟩
    have B2 := Lib.hid b2
    clear b2
    go_wp2
    go_ret
    exact ⟨rfl, B2.out⟩
  · have g1 : ¬ (n : Int) > 40 := by omega
    have g2 : (n2 : Int) > 3000 := by omega
    clear h h2
    go_enter Tryd.func4, Tryd.ntmps4
    go_wp2_with fail
    refine CA.out.mono ?_
    rintro e w2 ⟨rfl, b2⟩
    have B2 := Lib.hid b2
    clear b2
    go_wp2
    go_ret
    exact ⟨rfl, B2.out⟩
set_option maxHeartbeats 16000000 in
theorem walk_rest (w : World) (a : Option Addr) (n c : Nat) (l : List Fil) (hb : FilesAt w a l) (hl : n = l.length) (hno : a = none → n = 0 ∧ c = 0) (hc : n ≤ c ∧ c ≤ maxLen) (hid : ∀ i ∈ l, i.id.length = 20) (hnm : ∀ i ∈ l, i.path.length ≤ maxLen)
    (a2 : Option Addr) (n2 c2 : Nat) (m : List UInt8) (hb2 : BAt w a2 m) (hl2 : n2 = m.length) (hno2 : a2 = none → n2 = 0 ∧ c2 = 0) (hc2 : n2 ≤ c2 ∧ c2 ≤ maxLen) (tab : QTab w) (h40 : n ≤ 40) (h3 : n2 ≤ 3000) :
    Calls Tryd.prog 4 #[.slice a n c, .slice a2 n2 c2] w fun e w' => e = .returned (.bool true) ∧ Below w.heap.size w w' := by
  have hn40 := h40
  have g1 : ¬ (n : Int) > 40 := by omega
  have g2 : ¬ (n2 : Int) > 3000 := by omega
  have CPP := Lib.hid (fun (hs : ∀ f ∈ l, f.path.length ≤ 600) u (h : Below w.heap.size w u) => mPrint_is a n c l u hl (by unfold maxLen; omega) (hb.keep h) hid (fun f hf => Nat.le_trans (hs f hf) (by decide)) (tab.below h))
  have CPQ := Lib.hid (fun u (h : Below w.heap.size w u) => mParse_is a2 n2 c2 m u hl2 (hb2.keep h) (tab.below h))
  have CPA := Lib.hid (fun u (h : Below w.heap.size w u) (x : List UInt8) xa xc (hx : BAt u xa x) => mParse_is xa x.length xc x u rfl hx (tab.below h))
  have CPL := Lib.hid (fun u (h : Below w.heap.size w u) ya yc (hy : FilesAt u ya l) => PlainFil_any ya a n yc c l u hy (hb.keep h) hl (by omega) hid)
  have CPR := Lib.hid (fun u (h : Below w.heap.size w u) (z : List Fil) za zc (hz : FilesAt u za z) (h1 : z.length ≤ 65536) (h2 : ∀ f ∈ z, f.id.length = 20) (h3 : ∀ f ∈ z, f.path.length ≤ 65536) => mPrint_is za z.length zc z u rfl (by unfold maxLen; omega) hz h2 (fun f hf => Nat.le_trans (h3 f hf) (by decide)) (tab.below h))
  have CBY := Lib.hid (fun u (h : Below w.heap.size w u) xa xc (hx : BAt u xa m) => Bytes_same xa a2 m.length n2 xc c2 m u hx (hb2.keep h) rfl hl2)
  have CA := Lib.hid (fun u (h : Below w.heap.size w u) => awake16 u (tab.below h))
  have LPM := Lib.hid (parseM_len (b := m) (by omega)); have IPM := Lib.hid (parseM_ids m); have PPM := Lib.hid (paths_parse (b := m) (by omega))
  have PB := Lib.hid (fun h => @parse_printM l hid h)
  have BP := Lib.hid (fun h => @print_parseM m h)
  have HL := Lib.hid hl; have HB := Lib.hid hb
  clear hb hl hno hc hid hnm hb2 hl2 hno2 hc2 tab h40 h3
  go_enter Tryd.func4, Tryd.ntmps4
  go_wp2_with fail
  go_loopw [5] (fun v5 wr => ∃ i : Nat, i ≤ n ∧ v5 = .int .i64 i ∧ ShortM l i ∧ Below w.heap.size w wr) (fun v5 _ => n - (intOf v5).toNat)
  case atStart => exact ⟨0, Nat.zero_le _, rfl, ShortM.start l, Below.refl _ _⟩
  case round =>
    obtain ⟨i, hi, rfl, hsh, hbr⟩ := hrel
    have HSH := Lib.hid hsh; have HBR := Lib.hid hbr
    clear hsh hbr
    by_cases hlt : i < n
    · have hil : i < l.length := by rw [← HL.out]; exact hlt
      obtain ⟨b, o, ha, hbl⟩ := HB.out.some (by omega)
      subst ha
      have q0 : wr.cell? ⟨b, o + i * 22, none⟩ = some (.string ⟨l[i].path.toArray⟩) := (HBR.out.cell (p := ⟨b, o + i * 22, none⟩) hbl).trans (HB.out.elem i hil 0 _ rfl)
      have hsz := size_toArray l[i].path
      have NX := Lib.hid (fun h => HSH.out.next hil h)
      obtain ⟨k, hk⟩ : ∃ k, l[i].path.length = k := ⟨_, rfl⟩
      rw [hk] at hsz NX
      generalize (⟨l[i].path.toArray⟩ : ByteArray) = sp at q0 hsz
      clear hk hil hbl
      by_cases h6 : k ≤ 600
      · have g3 : ¬ (k : Int) > 600 := by omega
        have NX2 := Lib.hid (NX.out h6)
        have gw := wrapM i (by omega)
        clear h6 NX
        go_wp2
        go_roundw
        case rel => exact ⟨i + 1, by omega, by go_num, NX2.out, HBR.out⟩
        case measure => clear gw; show n - ((i : Int) + 1).toNat < n - (i : Int).toNat; omega
      · have g3 : (k : Int) > 600 := by omega
        clear h6 NX
        go_wp2_with fail
        refine (CA.out _ HBR.out).mono ?_
        rintro e w2 ⟨rfl, b2⟩
        have B2 := Lib.hid (HBR.out.trans (b2.mono HBR.out.size))
        clear b2
        go_wp2
        go_ret
        exact ⟨rfl, B2.out⟩
    · have hs := HSH.out
      obtain rfl : i = n := by omega
      rw [HL.out] at hs
      have CPP := Lib.hid (CPP.out hs.all)
      clear hs hlt HSH
      go_wp2_with fail
      refine (CPP.out _ HBR.out).mono ?_
      rintro e w4 ⟨x, rfl, hx, b4⟩
      have S4 := Lib.hid (HBR.out.trans (b4.mono HBR.out.size))
      obtain ⟨xa, xc, hx1, hx2, _, _, _⟩ := id hx
      subst hx1
      have CQ := Lib.hid (CPA.out w4 S4.out (printM l).1 xa xc hx2)
      clear hx hx2 b4 CPP
      by_cases hp : (printM l).2 = 0
      · rw [PB.out hp] at CQ
        rw [hp]
        obtain ⟨PL, hPL⟩ : ∃ x, (printM l).1.length = x := ⟨_, rfl⟩
        rw [hPL] at CQ ⊢
        clear hPL hp
        go_wp2_with fail
        refine CQ.out.mono ?_
        rintro e w5 ⟨y, rfl, ⟨ya, yc, hy1, hy2, _, _, _⟩, b5⟩
        try simp only at hy1
        rw [← HL.out] at hy1
        subst hy1
        have S5 := Lib.hid (S4.out.trans (b5.mono S4.out.size))
        have Y5 := Lib.hid hy2
        clear hy2 b5 CQ
        go_wp2_with fail
        refine (CA.out _ S5.out).mono ?_
        rintro e w6 ⟨rfl, b6⟩
        have S := Lib.hid (S5.out.trans (b6.mono S5.out.size))
        have CL := Lib.hid (CPL.out w6 S.out ya yc (Y5.out.keep b6))
        clear b6 CA
        go_wp2_with fail
        refine CL.out.mono ?_
        rintro e w6 ⟨rfl, b6⟩
        have S := Lib.hid (S.out.trans (b6.mono S.out.size))
        clear b6 CL
        go_wp2_with fail
        refine (CPQ.out _ S.out).mono ?_
        rintro e w7 ⟨z, rfl, hz, b7⟩
        have S7 := Lib.hid (S.out.trans (b7.mono S.out.size))
        obtain ⟨za, zc, hz1, hz2, _, _, _⟩ := id hz
        subst hz1
        have CR := Lib.hid (CPR.out w7 S7.out (parseM m).1 za zc hz2 LPM.out IPM.out PPM.out)
        clear hz hz2 b7
        by_cases hq : (parseM m).2 = 0
        · have E2 := BP.out hq
          rw [E2] at CR
          obtain ⟨QL, hQL⟩ : ∃ x, (parseM m).1.length = x := ⟨_, rfl⟩
          rw [hQL] at CR
          rw [hq]
          rw [hQL]
          clear hQL hq E2
          go_wp2_with fail
          refine CR.out.mono ?_
          rintro e w8 ⟨x, rfl, ⟨xa, xc, hx1, hx2, _, _, _⟩, b8⟩
          try simp only at hx1
          subst hx1
          have S8 := Lib.hid (S7.out.trans (b8.mono S7.out.size))
          have CB := Lib.hid (CBY.out w8 S8.out xa xc hx2)
          clear hx2 b8
          go_wp2_with fail
          refine CB.out.mono ?_
          rintro e w9 ⟨rfl, rfl⟩
          go_wp2
          go_ret
          exact ⟨rfl, S8.out⟩
        · obtain ⟨QE, hQE⟩ : ∃ x, (parseM m).2 = x := ⟨_, rfl⟩
          rw [hQE] at hq ⊢
          have g5 : (QE != 0) = true := bne_iff_ne.2 hq
          obtain ⟨QL, hQL⟩ : ∃ x, (parseM m).1.length = x := ⟨_, rfl⟩
          rw [hQL] at CR ⊢
          clear hQL hq hQE
          go_wp2_with fail
          refine CR.out.mono ?_
          rintro e w8 ⟨x, rfl, -, b8⟩
          have S8 := Lib.hid (S7.out.trans (b8.mono S7.out.size))
          clear b8
          go_wp2
          go_ret
          exact ⟨rfl, S8.out⟩
      · obtain ⟨PE, hPE⟩ : ∃ x, (printM l).2 = x := ⟨_, rfl⟩
        rw [hPE] at hp ⊢
        have g4 : (PE == 0) = false := beq_false_of_ne hp
        obtain ⟨PL, hPL⟩ : ∃ x, (printM l).1.length = x := ⟨_, rfl⟩
        rw [hPL] at CQ ⊢
        clear hPL hp hPE
        go_wp2_with fail
        refine CQ.out.mono ?_
        rintro e w5 ⟨y, rfl, -, b5⟩
        have S5 := Lib.hid (S4.out.trans (b5.mono S4.out.size))
        clear b5 CQ
        go_wp2_with fail
        refine (CA.out _ S5.out).mono ?_
        rintro e w6 ⟨rfl, b6⟩
        have S := Lib.hid (S5.out.trans (b6.mono S5.out.size))
        clear b6 CA
        go_wp2_with fail
        refine (CPQ.out _ S.out).mono ?_
        rintro e w7 ⟨z, rfl, hz, b7⟩
        have S7 := Lib.hid (S.out.trans (b7.mono S.out.size))
        obtain ⟨za, zc, hz1, hz2, _, _, _⟩ := id hz
        subst hz1
        have CR := Lib.hid (CPR.out w7 S7.out (parseM m).1 za zc hz2 LPM.out IPM.out PPM.out)
        clear hz hz2 b7
        by_cases hq : (parseM m).2 = 0
        · have E2 := BP.out hq
          rw [E2] at CR
          obtain ⟨QL, hQL⟩ : ∃ x, (parseM m).1.length = x := ⟨_, rfl⟩
          rw [hQL] at CR
          rw [hq]
          rw [hQL]
          clear hQL hq E2
          go_wp2_with fail
          refine CR.out.mono ?_
          rintro e w8 ⟨x, rfl, ⟨xa, xc, hx1, hx2, _, _, _⟩, b8⟩
          try simp only at hx1
          subst hx1
          have S8 := Lib.hid (S7.out.trans (b8.mono S7.out.size))
          have CB := Lib.hid (CBY.out w8 S8.out xa xc hx2)
          clear hx2 b8
          go_wp2_with fail
          refine CB.out.mono ?_
          rintro e w9 ⟨rfl, rfl⟩
          go_wp2
          go_ret
          exact ⟨rfl, S8.out⟩
        · obtain ⟨QE, hQE⟩ : ∃ x, (parseM m).2 = x := ⟨_, rfl⟩
          rw [hQE] at hq ⊢
          have g5 : (QE != 0) = true := bne_iff_ne.2 hq
          obtain ⟨QL, hQL⟩ : ∃ x, (parseM m).1.length = x := ⟨_, rfl⟩
          rw [hQL] at CR ⊢
          clear hQL hq hQE
          go_wp2_with fail
          refine CR.out.mono ?_
          rintro e w8 ⟨x, rfl, -, b8⟩
          have S8 := Lib.hid (S7.out.trans (b8.mono S7.out.size))
          clear b8
          go_wp2
          go_ret
          exact ⟨rfl, S8.out⟩
theorem walk (w : World) (a : Option Addr) (n c : Nat) (l : List Fil) (hb : FilesAt w a l) (hl : n = l.length) (hno : a = none → n = 0 ∧ c = 0) (hc : n ≤ c ∧ c ≤ maxLen) (hid : ∀ i ∈ l, i.id.length = 20) (hnm : ∀ i ∈ l, i.path.length ≤ maxLen)
    (a2 : Option Addr) (n2 c2 : Nat) (m : List UInt8) (hb2 : BAt w a2 m) (hl2 : n2 = m.length) (hno2 : a2 = none → n2 = 0 ∧ c2 = 0) (hc2 : n2 ≤ c2 ∧ c2 ≤ maxLen) (tab : QTab w) :
    Calls Tryd.prog 4 #[.slice a n c, .slice a2 n2 c2] w fun e w' => e = .returned (.bool true) ∧ Below w.heap.size w w' := by
  by_cases h40 : 40 < n
  · exact walk_many w a n c l hb hl hno hc hid hnm a2 n2 c2 m hb2 hl2 hno2 hc2 tab (.inl h40)
  · by_cases h3 : 3000 < n2
    · exact walk_many w a n c l hb hl hno hc hid hnm a2 n2 c2 m hb2 hl2 hno2 hc2 tab (.inr ⟨by omega, h3⟩)
    · exact walk_rest w a n c l hb hl hno hc hid hnm a2 n2 c2 m hb2 hl2 hno2 hc2 tab (by omega) (by omega)
end Go.Proofs.YtdgcjjledbnofaaDoor.manifestBack
