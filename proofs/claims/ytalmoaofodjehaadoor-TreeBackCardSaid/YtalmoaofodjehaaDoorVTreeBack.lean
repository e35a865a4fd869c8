/-
  The law TreeBack: its walk.
-/
import Derived.Test.YtalmoaofodjehaaDoorFu18
namespace Go.Proofs.YtalmoaofodjehaaDoor.treeBack
set_option maxRecDepth 20000
open Go.RowKit
set_option linter.unusedVariables false
set_option linter.unusedSimpArgs false

set_option maxHeartbeats 8000000 in
theorem walk_small (w : World) (a : Option Addr) (n c : Nat) (l : List Itm) (hb : ItemsAt w a l) (hl : n = l.length) (hid : ∀ i ∈ l, i.id.length = 20) (hf : fewI l = true)
    (a2 : Option Addr) (n2 c2 : Nat) (m : List UInt8) (hb2 : BAt w a2 m) (hl2 : n2 = m.length) (h2 : n2 ≤ 2000) (tab : QTab w) :
    Calls Tryd.prog 4 #[.slice a n c, .slice a2 n2 c2] w fun e w' => e = .returned (.bool true) ∧ Below w.heap.size w w' := by
  obtain ⟨hn60, hnm⟩ := few_yes hf
  have hn6 : n ≤ 60 := by omega
  have hnm2 : ∀ i ∈ l, i.name.length ≤ 1000000 := fun i hi => Nat.le_trans (hnm i hi) (by decide)
  have g2 : ¬ ((n2 : Int) > 2000) := by omega
  have C1 := Lib.hid (few_is a n c l w hl (by unfold maxLen; omega) hb (fun i hi => Nat.le_trans (hnm i hi) (by decide)))
  rw [hf] at C1
  have C2 := Lib.hid (fun u (h : Below w.heap.size w u) => pPrint_is a n c l u hl (by unfold maxLen; omega) (hb.keep h) hid hnm2 (tab.below h))
  have CA := Lib.hid (fun u (h : Below w.heap.size w u) => awake_is u (tab.below h))
  have CP := Lib.hid (fun (u : World) (a' : Option Addr) (n' c' : Nat) (bs : List UInt8) (h : Below w.heap.size w u) (hn : n' = bs.length) (hb' : BAt u a' bs) => pParse_is a' n' c' bs u hn hb' (tab.below h))
  have CQ := Lib.hid (fun (u : World) (a' : Option Addr) (n' c' : Nat) (q : List Itm) (h : Below w.heap.size w u) (hn : n' = q.length) (hm : n' ≤ 2000) (hq : ItemsAt u a' q) (h20 : ∀ i ∈ q, i.id.length = 20) (hqn : ∀ i ∈ q, i.name.length ≤ 2000) => pPrint_is a' n' c' q u hn (by unfold maxLen; omega) hq h20 (fun i hi => Nat.le_trans (hqn i hi) (by decide)) (tab.below h))
  have HB := Lib.hid hb; have HL := Lib.hid hl; have HID := Lib.hid hid; have HB2 := Lib.hid hb2; have HL2 := Lib.hid hl2
  obtain ⟨PL, hPL⟩ : ∃ x, (printT l).1 = x := ⟨_, rfl⟩
  obtain ⟨PE, hPE⟩ : ∃ x, (printT l).2 = x := ⟨_, rfl⟩
  rw [hPL, hPE] at C2
  have HPR := Lib.hid (show PE = 0 → PL = flatI l ∧ ParsedT (flatI l) l 0 from fun h => by rw [← hPL]; exact print_parsed hid (by rw [hPE]; exact h))
  clear hb hl hid hb2 hl2 hnm hnm2 hf tab hn60 hPL hPE
  go_enter Tryd.func4, Tryd.ntmps4
  go_wp2_with fail
  refine C1.out.mono ?_
  rintro e w1 ⟨rfl, b1⟩
  have B1 := Lib.hid b1
  clear b1 C1
  go_wp2_with fail
  refine (C2.out _ B1.out).mono ?_
  rintro e w2 ⟨x, rfl, hr2, b2⟩
  obtain ⟨xa, xc, hx, hxb, _, _, _⟩ := hr2
  obtain ⟨xn, hxn⟩ : ∃ x, PL.length = x := ⟨_, rfl⟩
  rw [hxn] at hx
  subst hx
  have B2 := Lib.hid (B1.out.trans (b2.mono B1.out.size))
  have C3 := Lib.hid (CP.out w2 xa xn xc PL B2.out hxn.symm hxb)
  clear b2 C2 hxn hxb B1
  go_wp2_with fail
  refine C3.out.mono ?_
  rintro e w3 ⟨y, p, err, rfl, hr3, hp3, b3⟩
  have B3 := Lib.hid (B2.out.trans (b3.mono B2.out.size))
  obtain ⟨ya, yc, hy, hyi, _, _, _⟩ := hr3
  obtain ⟨yn, hyn⟩ : ∃ x, p.length = x := ⟨_, rfl⟩
  rw [hyn] at hy
  subst hy
  have HP3 := Lib.hid hp3; have HYI := Lib.hid hyi; have HYN := Lib.hid hyn
  clear b3 C3 hp3 hyi B2 hyn
  go_wp2_with fail
  refine (CA.out _ B3.out).mono ?_
  rintro e w4 ⟨rfl, b4⟩
  have B4 := Lib.hid (B3.out.trans (b4.mono B3.out.size))
  have HYI4 := Lib.hid (HYI.out.keep b4)
  clear b4 HYI B3
  have key : ∀ u (G : Below w.heap.size w u), True := fun _ _ => trivial
  by_cases h0 : PE = 0
  · obtain ⟨h1, h2'⟩ := HPR.out h0
    have hp := HP3.out
    rw [h1] at hp
    obtain ⟨hpl, he⟩ := parsedT_same h2' hp
    have hyl : yn = n := by rw [← HYN.out, hpl, HL.out]
    have hyi4 := HYI4.out
    rw [hpl] at hyi4
    have C5 := Lib.hid (PlainItm_any ya a n yc c l w4 hyi4 (HB.out.keep B4.out) HL.out (by omega) HID.out)
    subst he; subst h0; subst hyl
    clear h1 h2' hp hpl hyi4
    go_wp2_with fail
    refine C5.out.mono ?_
    rintro e w5 ⟨rfl, b5⟩
    have B5 := Lib.hid (B4.out.trans (b5.mono B4.out.size))
    have C6 := Lib.hid (CP.out w5 a2 n2 c2 m B5.out HL2.out (HB2.out.keep B5.out))
    clear b5 C5 B4
    go_wp2_with fail
    refine C6.out.mono ?_
    rintro e w6 ⟨z, q, er, rfl, hr6, hp6, b6⟩
    have B6 := Lib.hid (B5.out.trans (b6.mono B5.out.size))
    obtain ⟨za, zc, hz, hzi, _, _, _⟩ := hr6
    have hql := parsedT_len hp6
    have hqn := parsedT_names hp6
    have C7 := Lib.hid (CQ.out w6 za q.length zc q B6.out rfl (by have := HL2.out; omega) hzi hql.2 (fun i hi => by have := hqn i hi; have := HL2.out; omega))
    subst hz
    have HP6 := Lib.hid hp6
    obtain ⟨QL, hQL⟩ : ∃ x, (printT q).1 = x := ⟨_, rfl⟩
    obtain ⟨QE, hQE⟩ : ∃ x, (printT q).2 = x := ⟨_, rfl⟩
    rw [hQL, hQE] at C7
    have HQP := Lib.hid (show er = 0 → QL = m ∧ QE = 0 from fun h => by
      have h1 := parsed_print (h ▸ HP6.out)
      rw [← hQL, ← hQE, h1]
      exact ⟨rfl, rfl⟩)
    obtain ⟨zn, hzn⟩ : ∃ x, q.length = x := ⟨_, rfl⟩
    rw [hzn] at C7 ⊢
    clear b6 C6 B5 hzi hql hqn hp6 hQL hQE hzn
    go_wp2_with fail
    refine C7.out.mono ?_
    rintro e w7 ⟨v, rfl, hr7, b7⟩
    have B7 := Lib.hid (B6.out.trans (b7.mono B6.out.size))
    obtain ⟨va, vc, hv, hvb, _, _, _⟩ := hr7
    subst hv
    by_cases he0 : er = 0
    · obtain ⟨h3, h4⟩ := HQP.out he0
      have C8 := Lib.hid (Bytes_same va a2 QL.length n2 vc c2 m w7 (by rw [← h3]; exact hvb) (HB2.out.keep B7.out) (by rw [h3]) HL2.out)
      obtain ⟨vn, hvn⟩ : ∃ x, QL.length = x := ⟨_, rfl⟩
      rw [hvn] at C8 ⊢
      subst he0; subst h4
      clear b7 C7 B6 hvb hvn h3
      go_wp2_with fail
      refine C8.out.mono ?_
      rintro e w8 ⟨rfl, rfl⟩
      go_wp2
      go_ret
      exact ⟨rfl, B7.out⟩
    · have g3 : (er == 0) = false := beq_false_of_ne he0
      obtain ⟨vn, hvn⟩ : ∃ x, QL.length = x := ⟨_, rfl⟩
      rw [hvn]
      clear b7 C7 B6 hvb hvn
      go_wp2
      go_ret
      exact ⟨rfl, B7.out⟩
  · have g0 : (PE == 0) = false := beq_false_of_ne h0
    have C6 := Lib.hid (CP.out w4 a2 n2 c2 m B4.out HL2.out (HB2.out.keep B4.out))
    go_wp2_with fail
    refine C6.out.mono ?_
    rintro e w6 ⟨z, q, er, rfl, hr6, hp6, b6⟩
    have B6 := Lib.hid (B4.out.trans (b6.mono B4.out.size))
    obtain ⟨za, zc, hz, hzi, _, _, _⟩ := hr6
    have hql := parsedT_len hp6
    have hqn := parsedT_names hp6
    have C7 := Lib.hid (CQ.out w6 za q.length zc q B6.out rfl (by have := HL2.out; omega) hzi hql.2 (fun i hi => by have := hqn i hi; have := HL2.out; omega))
    subst hz
    have HP6 := Lib.hid hp6
    obtain ⟨QL, hQL⟩ : ∃ x, (printT q).1 = x := ⟨_, rfl⟩
    obtain ⟨QE, hQE⟩ : ∃ x, (printT q).2 = x := ⟨_, rfl⟩
    rw [hQL, hQE] at C7
    have HQP := Lib.hid (show er = 0 → QL = m ∧ QE = 0 from fun h => by
      have h1 := parsed_print (h ▸ HP6.out)
      rw [← hQL, ← hQE, h1]
      exact ⟨rfl, rfl⟩)
    obtain ⟨zn, hzn⟩ : ∃ x, q.length = x := ⟨_, rfl⟩
    rw [hzn] at C7 ⊢
    clear b6 C6 B4 hzi hql hqn hp6 hQL hQE hzn
    go_wp2_with fail
    refine C7.out.mono ?_
    rintro e w7 ⟨v, rfl, hr7, b7⟩
    have B7 := Lib.hid (B6.out.trans (b7.mono B6.out.size))
    obtain ⟨va, vc, hv, hvb, _, _, _⟩ := hr7
    subst hv
    by_cases he0 : er = 0
    · obtain ⟨h3, h4⟩ := HQP.out he0
      have C8 := Lib.hid (Bytes_same va a2 QL.length n2 vc c2 m w7 (by rw [← h3]; exact hvb) (HB2.out.keep B7.out) (by rw [h3]) HL2.out)
      obtain ⟨vn, hvn⟩ : ∃ x, QL.length = x := ⟨_, rfl⟩
      rw [hvn] at C8 ⊢
      subst he0; subst h4
      clear b7 C7 B6 hvb hvn h3
      go_wp2_with fail
      refine C8.out.mono ?_
      rintro e w8 ⟨rfl, rfl⟩
      go_wp2
      go_ret
      exact ⟨rfl, B7.out⟩
    · have g3 : (er == 0) = false := beq_false_of_ne he0
      obtain ⟨vn, hvn⟩ : ∃ x, QL.length = x := ⟨_, rfl⟩
      rw [hvn]
      clear b7 C7 B6 hvb hvn
      go_wp2
      go_ret
      exact ⟨rfl, B7.out⟩
set_option maxHeartbeats 2000000 in
theorem walk_few (w : World) (a : Option Addr) (n c : Nat) (l : List Itm) (hb : ItemsAt w a l) (hl : n = l.length) (hm : n ≤ maxLen) (hnm : ∀ i ∈ l, i.name.length ≤ maxLen) (hf : fewI l = false)
    (a2 : Option Addr) (n2 c2 : Nat) (tab : QTab w) :
    Calls Tryd.prog 4 #[.slice a n c, .slice a2 n2 c2] w fun e w' => e = .returned (.bool true) ∧ Below w.heap.size w w' := by
  have C1 := Lib.hid (few_is a n c l w hl hm hb hnm)
  rw [hf] at C1
  have CA := Lib.hid (fun u (h : Below w.heap.size w u) => awake_is u (tab.below h))
  clear hb hl hnm hf tab hm
  go_enter Tryd.func4, Tryd.ntmps4
  go_wp2_with fail
  refine C1.out.mono ?_
  rintro e w1 ⟨rfl, b1⟩
  have B1 := Lib.hid b1
  clear b1 C1
  go_wp2_with fail
  refine (CA.out _ B1.out).mono ?_
  rintro e w2 ⟨rfl, b2⟩
  have B2 := Lib.hid (B1.out.trans (b2.mono B1.out.size))
  clear b2
  go_wp2
  go_ret
  exact ⟨rfl, B2.out⟩
set_option maxHeartbeats 2000000 in
theorem walk_long (w : World) (a : Option Addr) (n c : Nat) (l : List Itm) (hb : ItemsAt w a l) (hl : n = l.length) (hm : n ≤ maxLen) (hnm : ∀ i ∈ l, i.name.length ≤ maxLen) (hf : fewI l = true)
    (a2 : Option Addr) (n2 c2 : Nat) (h2 : 2000 < n2) (tab : QTab w) :
    Calls Tryd.prog 4 #[.slice a n c, .slice a2 n2 c2] w fun e w' => e = .returned (.bool true) ∧ Below w.heap.size w w' := by
  have C1 := Lib.hid (few_is a n c l w hl hm hb hnm)
  rw [hf] at C1
  have CA := Lib.hid (fun u (h : Below w.heap.size w u) => awake_is u (tab.below h))
  have g2 : (n2 : Int) > 2000 := by omega
  clear hb hl hnm hf tab hm h2
  go_enter Tryd.func4, Tryd.ntmps4
  go_wp2_with fail
  refine C1.out.mono ?_
  rintro e w1 ⟨rfl, b1⟩
  have B1 := Lib.hid b1
  clear b1 C1
  go_wp2_with fail
  refine (CA.out _ B1.out).mono ?_
  rintro e w2 ⟨rfl, b2⟩
  have B2 := Lib.hid (B1.out.trans (b2.mono B1.out.size))
  clear b2
  go_wp2
  go_ret
  exact ⟨rfl, B2.out⟩
theorem walk (w : World) (a : Option Addr) (n c : Nat) (l : List Itm) (hb : ItemsAt w a l) (hl : n = l.length) (hno : a = none → n = 0 ∧ c = 0) (hc : n ≤ c ∧ c ≤ maxLen) (hid : ∀ i ∈ l, i.id.length = 20) (hnm : ∀ i ∈ l, i.name.length ≤ maxLen)
    (a2 : Option Addr) (n2 c2 : Nat) (m : List UInt8) (hb2 : BAt w a2 m) (hl2 : n2 = m.length) (hno2 : a2 = none → n2 = 0 ∧ c2 = 0) (hc2 : n2 ≤ c2 ∧ c2 ≤ maxLen) (tab : QTab w) :
    Calls Tryd.prog 4 #[.slice a n c, .slice a2 n2 c2] w fun e w' => e = .returned (.bool true) ∧ Below w.heap.size w w' := by
  have hm : n ≤ maxLen := Nat.le_trans hc.1 hc.2
  cases hf : fewI l with
  | false => exact walk_few w a n c l hb hl hm hnm hf a2 n2 c2 tab
  | true =>
    by_cases h2 : 2000 < n2
    · exact walk_long w a n c l hb hl hm hnm hf a2 n2 c2 h2 tab
    · exact walk_small w a n c l hb hl hid hf a2 n2 c2 m hb2 hl2 (by omega) tab
end Go.Proofs.YtalmoaofodjehaaDoor.treeBack
