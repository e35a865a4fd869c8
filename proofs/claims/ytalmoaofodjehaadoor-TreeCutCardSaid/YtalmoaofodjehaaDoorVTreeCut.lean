/-
  The law TreeCut: its walk.
-/
import Derived.Test.YtalmoaofodjehaaDoorFu18
import Derived.Test.YtalmoaofodjehaaDoorFu19
namespace Go.Proofs.YtalmoaofodjehaaDoor.treeCut
set_option maxRecDepth 20000
open Go.RowKit
set_option linter.unusedVariables false
set_option linter.unusedSimpArgs false

/-- Is a cut at k between two items, as far as the first i of them tell? -/
def wholeI (l : List Itm) (k i : Nat) : Bool := (k == 0) || (List.range i).any (fun j => (flatI (l.take (j + 1))).length == k)
theorem whole_next (l : List Itm) (k i : Nat) : wholeI l k (i + 1) = (wholeI l k i || ((flatI (l.take (i + 1))).length == k)) := by
  unfold wholeI
  rw [List.range_succ, List.any_append]
  simp [Bool.or_assoc]
theorem whole_parsed {l m : List Itm} {k : Nat} {e : Int} (hr : rightI l = true) (hid : ∀ i ∈ l, i.id.length = 20) (h6 : (flatI l).length ≤ 65536) (hk : k < (flatI l).length) (hp : ParsedT ((flatI l).take k) m e) :
    (e = 0 ∧ wholeI l k l.length = true) ∨ (e = 4 ∧ m = [] ∧ wholeI l k l.length = false) := by
  rcases cut_parsed hr hid h6 hk hp with ⟨h1, j, hj, hl⟩ | ⟨h1, h2, h3⟩
  · left
    refine ⟨h1, ?_⟩
    unfold wholeI
    rw [Bool.or_eq_true]
    cases j with
    | zero => left; rw [← hl]; rfl
    | succ j => right; rw [List.any_eq_true]; exact ⟨j, List.mem_range.2 (by omega), by rw [hl]; simp⟩
  · right
    refine ⟨h1, h2, ?_⟩
    unfold wholeI
    rw [Bool.or_eq_false_iff]
    refine ⟨?_, ?_⟩
    · have := h3 0 (Nat.zero_le _)
      rw [beq_eq_false_iff_ne]
      intro e
      exact this (by rw [e]; rfl)
    · rw [List.any_eq_false]
      intro j hj
      have := h3 (j + 1) (by have := List.mem_range.1 hj; omega)
      simpa using this
set_option maxHeartbeats 16000000 in
theorem walk_small (w : World) (a : Option Addr) (n c : Nat) (l : List Itm) (hb : ItemsAt w a l) (hl : n = l.length) (hc : n ≤ c) (hid : ∀ i ∈ l, i.id.length = 20) (hf : fewI l = true) (hr : rightI l = true)
    (x3 : Int) (tab : QTab w) :
    Calls Tryd.prog 7 #[.slice a n c, .int .i64 x3] w fun e w' => e = .returned (.bool true) ∧ Below w.heap.size w w' := by
  obtain ⟨hn60, hnm⟩ := few_yes hf
  have hn6 : n ≤ 60 := by omega
  have hnm2 : ∀ i ∈ l, i.name.length ≤ 1000000 := fun i hi => Nat.le_trans (hnm i hi) (by decide)
  have hn0 : 1 ≤ n := by have := ((right_iff l).1 hr).1; omega
  have C1 := Lib.hid (few_is a n c l w hl (by unfold maxLen; omega) hb (fun i hi => Nat.le_trans (hnm i hi) (by decide)))
  rw [hf] at C1
  have C2 := Lib.hid (fun u (h : Below w.heap.size w u) => rRight_is a n c l u hl (by unfold maxLen; omega) (hb.keep h) hid hnm2 (tab.below h))
  rw [hr] at C2
  have CA := Lib.hid (fun u (h : Below w.heap.size w u) => awake_is u (tab.below h))
  have hfl := flat_le (right_one hr) hid
  have h65 : (flatI l).length ≤ 65536 := by omega
  have ht6 : ∀ j, (flatI (l.take j)).length ≤ 65536 := fun j => by
    have h1 := flat_le (l := l.take j) (fun i hi => right_one hr i (List.mem_of_mem_take hi)) (fun i hi => hid i (List.mem_of_mem_take hi))
    rw [List.length_take] at h1
    omega
  have hpt : ∀ j, printT (l.take j) = (flatI (l.take j), 0) := fun j => by
    rw [printT_good ((right_take hr j).imp (fun h => by rw [h]; rfl) id), if_neg (by have := ht6 j; omega)]
  have hpl : printT l = (flatI l, 0) := by
    have := hpt l.length
    rwa [List.take_length] at this
  have CT := Lib.hid (fun u j (h : Below w.heap.size w u) (hj : j ≤ n) => by
    have := rPrint_is a j c (l.take j) u (by rw [List.length_take]; omega) (by unfold maxLen; omega) ((hb.keep h).take j) (mem_take_of hid) (mem_take_of hnm2) (tab.below h)
    rw [hpt j] at this
    exact this)
  have C3 := Lib.hid (fun u (h : Below w.heap.size w u) => by
    have := rPrint_is a n c l u hl (by unfold maxLen; omega) (hb.keep h) hid hnm2 (tab.below h)
    rw [hpl] at this
    exact this)
  have CP := Lib.hid (fun (u : World) (a' : Option Addr) (n' c' : Nat) (bs : List UInt8) (h : Below w.heap.size w u) (hn : n' = bs.length) (hb' : BAt u a' bs) => pParse_is a' n' c' bs u hn hb' (tab.below h))
  obtain ⟨L, hL⟩ : ∃ x, (flatI l).length = x := ⟨_, rfl⟩
  have HWP := Lib.hid (fun k m e (hk : k < L) (hp : ParsedT ((flatI l).take k) m e) => whole_parsed hr hid h65 (by rw [hL]; exact hk) hp)
  have hL0 : 0 < L := by have := flat_count l; omega
  have HL := Lib.hid hl; have HLL := Lib.hid hL
  have hL6 : L ≤ 65536 := by omega
  clear hb hl hid hnm hnm2 hf tab hn60 hfl h65 hpl hpt ht6 hL hr
  go_enter Tryd.func7, Tryd.ntmps7
  go_wp2_with fail
  refine C1.out.mono ?_
  rintro e w1 ⟨rfl, b1⟩
  have B1 := Lib.hid b1
  clear b1 C1
  go_wp2_with fail
  refine (C2.out _ B1.out).mono ?_
  rintro e w2 ⟨rfl, b2⟩
  have B2 := Lib.hid (B1.out.trans (b2.mono B1.out.size))
  clear b2 B1 C2
  go_wp2_with fail
  refine (C3.out _ B2.out).mono ?_
  rintro e w3 ⟨v3, rfl, hr3, b3⟩
  have B3 := Lib.hid (B2.out.trans (b3.mono B2.out.size))
  obtain ⟨xa, xc, hx, hxb, _, hxc, _⟩ := hr3
  rw [HLL.out] at hx hxc
  subst hx
  have HXB := Lib.hid hxb
  obtain ⟨u, hu⟩ : ∃ u, IntKind.u64.wrap x3 = u := ⟨_, rfl⟩
  have hu0 : 0 ≤ u := by rw [← hu, IntKind.wrap_u64]; omega
  obtain ⟨r, hr1⟩ : ∃ r : Nat, u.tmod (L : Int) = (r : Int) := by
    rw [IntWalk.rem_in u _ hu0]
    exact Int.eq_ofNat_of_zero_le (Int.emod_nonneg _ (by omega))
  have hr2 : u % (L : Int) = (r : Int) := by rw [← IntWalk.rem_in u _ hu0]; exact hr1
  have hr3 : r < L := by
    have := Int.emod_lt_of_pos u (show 0 < (L : Int) by omega)
    omega
  have HW0 := Lib.hid (show wholeI l r 0 = ((r : Int) == 0) by unfold wholeI; simp; rw [Bool.eq_iff_iff]; simp)
  clear b3 hxb B2 C3
  go_wp2_with fail
  go_loopw [8, 9] (fun v8 v9 wr => ∃ i : Nat, i ≤ n ∧ v9 = .int .i64 i ∧ v8 = .bool (wholeI l r i) ∧ Below w.heap.size w wr ∧ Below w3.heap.size w3 wr) (fun _ v9 _ => n - (intOf v9).toNat)
  case atStart => exact ⟨0, Nat.zero_le _, rfl, by rw [HW0.out], B3.out, Below.refl _ _⟩
  case round =>
    obtain ⟨i, hi, rfl, rfl, hbr, hbr3⟩ := hrel
    have HBR := Lib.hid hbr; have HB3 := Lib.hid hbr3
    clear hbr hbr3
    by_cases hlt : i < n
    · have ih := fun u => is_head a n c (i + 1) ((i : Int) + 1) (by omega) (by omega) u
      have C4 := Lib.hid (CT.out wr (i + 1) HBR.out (by omega))
      have HNX := Lib.hid (whole_next l r i)
      obtain ⟨Li, hLi⟩ : ∃ x, (flatI (l.take (i + 1))).length = x := ⟨_, rfl⟩
      rw [hLi] at HNX
      have HLI := Lib.hid hLi
      clear hLi
      obtain ⟨wh, hwh⟩ : ∃ x, wholeI l r i = x := ⟨_, rfl⟩
      rw [hwh] at HNX ⊢
      clear hwh
      go_wp2_with fail
      refine C4.out.mono ?_
      rintro e w4 ⟨v4, rfl, hr4, b4⟩
      obtain ⟨ta, tc, ht, _, _, _, _⟩ := hr4
      rw [HLI.out] at ht
      subst ht
      have B4 := Lib.hid (HBR.out.trans (b4.mono HBR.out.size))
      have B34 := Lib.hid (HB3.out.trans (b4.mono HB3.out.size))
      clear b4 C4 ih
      cases wh with
      | true =>
        go_wp2
        go_roundw
        case rel => exact ⟨i + 1, by omega, by go_num, by rw [HNX.out, Bool.true_or], B4.out, B34.out⟩
        case measure => simp [intOf]; omega
      | false =>
        by_cases he : Li = r
        · subst he
          go_wp2
          refine ⟨?re2, ?me2⟩
          case re2 => exact ⟨i + 1, by omega, by go_num, by rw [HNX.out]; simp, B4.out, B34.out⟩
          case me2 => simp [intOf]; omega
        · have g5 : ((Li : Int) == (r : Int)) = false := beq_false_of_ne (by omega)
          have HF := Lib.hid (show wholeI l r (i + 1) = false by rw [HNX.out, Bool.false_or]; exact beq_false_of_ne he)
          clear he
          go_wp2
          refine ⟨?re3, ?me3⟩
          case re3 => exact ⟨i + 1, by omega, by go_num, by rw [HF.out], B4.out, B34.out⟩
          case me3 => simp [intOf]; omega
    · obtain rfl : i = n := by omega
      have bh := fun u => bs_head xa L xc r r rfl (by omega) u
      have C5 := Lib.hid (CP.out wr xa r xc ((flatI l).take r) HBR.out (by rw [List.length_take, HLL.out]; omega) (bat_take (HXB.out.keep HB3.out) r))
      have HWR := Lib.hid (fun m e hp => HWP.out r m e hr3 hp)
      rw [← HL.out] at HWR
      obtain ⟨wh, hwh⟩ : ∃ x, wholeI l r i = x := ⟨_, rfl⟩
      rw [hwh] at HWR ⊢
      clear hwh
      go_wp2_with fail
      refine C5.out.mono ?_
      rintro e w4 ⟨v4, p, er, rfl, hr4, hp4, b4⟩
      have B4 := Lib.hid (HBR.out.trans (b4.mono HBR.out.size))
      obtain ⟨ya, yc, hy, _, _, _, _⟩ := hr4
      subst hy
      have C6 := Lib.hid (CA.out w4 B4.out)
      have hw := HWR.out p er hp4
      clear b4 hp4 C5
      rcases hw with ⟨rfl, rfl⟩ | ⟨rfl, rfl, rfl⟩
      · obtain ⟨pn, hpn⟩ : ∃ x, p.length = x := ⟨_, rfl⟩
        rw [hpn]
        clear hpn
        go_wp2_with fail
        refine C6.out.mono ?_
        rintro e w5 ⟨rfl, b5⟩
        have B5 := Lib.hid (B4.out.trans (b5.mono B4.out.size))
        clear b5 C6
        go_wp2
        go_ret
        exact ⟨rfl, B5.out⟩
      · rw [show ([] : List Itm).length = 0 from rfl]
        go_wp2_with fail
        refine C6.out.mono ?_
        rintro e w5 ⟨rfl, b5⟩
        have B5 := Lib.hid (B4.out.trans (b5.mono B4.out.size))
        clear b5 C6
        go_wp2
        go_ret
        exact ⟨rfl, B5.out⟩
set_option maxHeartbeats 2000000 in
theorem walk_few (w : World) (a : Option Addr) (n c : Nat) (l : List Itm) (hb : ItemsAt w a l) (hl : n = l.length) (hm : n ≤ maxLen) (hnm : ∀ i ∈ l, i.name.length ≤ maxLen) (hf : fewI l = false) (x3 : Int) (tab : QTab w) :
    Calls Tryd.prog 7 #[.slice a n c, .int .i64 x3] w fun e w' => e = .returned (.bool true) ∧ Below w.heap.size w w' := by
  have C1 := Lib.hid (few_is a n c l w hl hm hb hnm)
  rw [hf] at C1
  have CA := Lib.hid (fun u (h : Below w.heap.size w u) => awake_is u (tab.below h))
  clear hb hl hnm hf tab hm
  go_enter Tryd.func7, Tryd.ntmps7
  go_wp2_with fail
  refine C1.out.mono ?_
  rintro e w1 ⟨rfl, b1⟩
  have B1 := Lib.hid b1
  clear b1 C1
  go_wp2_with fail
  refine (CA.out _ B1.out).mono ?_
  rintro e w2 ⟨rfl, b2⟩
  have B2 := Lib.hid (B1.out.trans (b2.mono B1.out.size))
  clear b2
  go_wp2
  go_ret
  exact ⟨rfl, B2.out⟩
set_option maxHeartbeats 2000000 in
theorem walk_odd (w : World) (a : Option Addr) (n c : Nat) (l : List Itm) (hb : ItemsAt w a l) (hl : n = l.length) (hm : n ≤ maxLen) (hid : ∀ i ∈ l, i.id.length = 20) (hf : fewI l = true) (hr : rightI l = false) (x3 : Int) (tab : QTab w) :
    Calls Tryd.prog 7 #[.slice a n c, .int .i64 x3] w fun e w' => e = .returned (.bool true) ∧ Below w.heap.size w w' := by
  obtain ⟨hn60, hnm⟩ := few_yes hf
  have C1 := Lib.hid (few_is a n c l w hl hm hb (fun i hi => Nat.le_trans (hnm i hi) (by decide)))
  rw [hf] at C1
  have C2 := Lib.hid (fun u (h : Below w.heap.size w u) => rRight_is a n c l u hl hm (hb.keep h) hid (fun i hi => Nat.le_trans (hnm i hi) (by decide)) (tab.below h))
  rw [hr] at C2
  have CA := Lib.hid (fun u (h : Below w.heap.size w u) => awake_is u (tab.below h))
  clear hb hl hnm hf tab hm hid hr hn60
  go_enter Tryd.func7, Tryd.ntmps7
  go_wp2_with fail
  refine C1.out.mono ?_
  rintro e w1 ⟨rfl, b1⟩
  have B1 := Lib.hid b1
  clear b1 C1
  go_wp2_with fail
  refine (C2.out _ B1.out).mono ?_
  rintro e w2 ⟨rfl, b2⟩
  have B2 := Lib.hid (B1.out.trans (b2.mono B1.out.size))
  clear b2 C2
  go_wp2_with fail
  refine (CA.out _ B2.out).mono ?_
  rintro e w3 ⟨rfl, b3⟩
  have B3 := Lib.hid (B2.out.trans (b3.mono B2.out.size))
  clear b3
  go_wp2
  go_ret
  exact ⟨rfl, B3.out⟩
theorem walk (w : World) (a : Option Addr) (n c : Nat) (l : List Itm) (hb : ItemsAt w a l) (hl : n = l.length) (hno : a = none → n = 0 ∧ c = 0) (hc : n ≤ c ∧ c ≤ maxLen) (hid : ∀ i ∈ l, i.id.length = 20) (hnm : ∀ i ∈ l, i.name.length ≤ maxLen)
    (x3 : Int) (lo3 : -9223372036854775808 ≤ x3) (hi3 : x3 ≤ 9223372036854775807) (tab : QTab w) :
    Calls Tryd.prog 7 #[.slice a n c, .int .i64 x3] w fun e w' => e = .returned (.bool true) ∧ Below w.heap.size w w' := by
  have hm : n ≤ maxLen := Nat.le_trans hc.1 hc.2
  cases hf : fewI l with
  | false => exact walk_few w a n c l hb hl hm hnm hf x3 tab
  | true =>
    cases hr : rightI l with
    | false => exact walk_odd w a n c l hb hl hm hid hf hr x3 tab
    | true => exact walk_small w a n c l hb hl hc.1 hid hf hr x3 tab
end Go.Proofs.YtalmoaofodjehaaDoor.treeCut
