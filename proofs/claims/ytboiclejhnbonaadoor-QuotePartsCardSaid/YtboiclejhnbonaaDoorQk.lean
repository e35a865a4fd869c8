/-
  Layer 3: takeForm of the program.
-/
import Derived.Test.YtboiclejhnbonaaDoorQv
import Derived.Test.YtboiclejhnbonaaDoorQj
import Derived.Deep.QuietTactic
import Derived.BigQuiet
namespace Go.Proofs.YtboiclejhnbonaaDoor
open Go.RowKit
set_option linter.unusedVariables false
set_option linter.unusedSimpArgs false

/-- strconv's two error variables hold errors, or nothing. -/
def ErrTab (w : World) : Prop :=
  (∃ ev, w.cell? ⟨6, 0, none⟩ = some ev ∧ (ev = .nilIface ∨ ∃ te pe, ev = .iface te pe)) ∧
  (∃ ev, w.cell? ⟨7, 0, none⟩ = some ev ∧ (ev = .nilIface ∨ ∃ te pe, ev = .iface te pe))
theorem ErrTab.below {w w' : World} (h : ErrTab w) (hb : Below w.heap.size w w') : ErrTab w' := by
  obtain ⟨⟨e1, h1, k1⟩, ⟨e2, h2, k2⟩⟩ := h
  exact ⟨⟨e1, (hb.cell (p := ⟨6, 0, none⟩) (Lib.lt_of_cell h1)).trans h1, k1⟩, ⟨e2, (hb.cell (p := ⟨7, 0, none⟩) (Lib.lt_of_cell h2)).trans h2, k2⟩⟩

/-- What the public ParseUint leaves. -/
def PubPost (l : List UInt8) (w : World) (e : Ending) (w' : World) : Prop := Below w.heap.size w w' ∧
  ((∃ n : Nat, oct8 0 l = some n ∧ e = .returned (.tuple #[.int .u64 n, .nilIface])) ∨
    (oct8 0 l = none ∧ ∃ (z : Int) (p : Value), e = .returned (.tuple #[.int .u64 z, .iface 102 p])))

set_option maxHeartbeats 4000000 in
set_option maxRecDepth 100000 in
theorem ParseUint_oct (t : ByteArray) (hne : t.size ≠ 0) (hmax : t.size ≤ 1000000) (w : World) (hE : ErrTab w) :
    Calls Tryd.prog 53 #[.string t, .int .i64 8, .int .i64 8] w fun e w' => PubPost t.data.toList w e w' := by
  have HE := Lib.hid hE
  clear hE
  go_enter Tryd.func53, Tryd.ntmps53
  go_wp2_with fail
  refine (ParseInner_oct t hne (by omega) w).mono ?_
  rintro e w1 ⟨b1, ⟨n, ho, rfl⟩ | ⟨ho, z, k, hk, rfl⟩⟩
  · have HO := Lib.hid ho
    clear ho
    go_wp2
    go_ret2
    exact ⟨b1, .inl ⟨n, HO.out, rfl⟩⟩
  · have HO := Lib.hid ho
    clear ho
    obtain ⟨⟨e1, h1, k1⟩, ⟨e2, h2, k2⟩⟩ := HE.out.below b1
    rcases hk with rfl | rfl
    · go_wp2_with fail
      refine (Tryd.strconv_toError_range _ t 8 8 e2 w1 (by omega) h2 k2).mono ?_
      rintro e w2 ⟨N, rfl, _, _, b2⟩
      go_wp2
      go_ret2
      exact ⟨b1.trans (b2.mono b1.size), .inr ⟨HO.out, _, _, rfl⟩⟩
    · go_wp2_with fail
      refine (Tryd.strconv_toError_syntax _ t 8 8 e1 w1 (by omega) h1 k1).mono ?_
      rintro e w2 ⟨N, rfl, _, _, b2⟩
      go_wp2
      go_ret2
      exact ⟨b1.trans (b2.mono b1.size), .inr ⟨HO.out, _, _, rfl⟩⟩

/-- What takeForm leaves. -/
def TPost (l : List UInt8) (w : World) (e : Ending) (w' : World) : Prop := Below w.heap.size w w' ∧
  ((∃ (c : UInt8) (k : Nat), formL l = some (c, k) ∧ e = .returned (.tuple #[.int .u8 c.toNat, .int .i64 k, .bool true])) ∨
    (formL l = none ∧ ∃ z k : Int, e = .returned (.tuple #[.int .u8 z, .int .i64 k, .bool false])))

theorem pair_eq (d x : UInt8) : (([92, d] : List UInt8) == [92, x]) = decide (d.toNat = x.toNat) := by
  rw [Bool.eq_iff_iff]
  simp only [beq_iff_eq, List.cons.injEq, and_true, true_and, decide_eq_true_eq]
  exact UInt8.toNat_inj.symm
theorem list_text (l : List UInt8) : (⟨l.toArray⟩ : ByteArray).toList = l := by rw [Lib.toList_data]

set_option maxHeartbeats 8000000 in
set_option maxRecDepth 100000 in
theorem takeForm_pair (d : UInt8) (r2 : List UInt8) (w : World) (hn : (92 :: d :: r2).length ≤ 1000000) (hE : ErrTab w) :
    Calls Tryd.prog 40 #[.string ⟨((92 : UInt8) :: d :: r2).toArray⟩] w fun e w' => TPost (92 :: d :: r2) w e w' := by
  obtain ⟨l, hl⟩ : ∃ l, l = (92 : UInt8) :: d :: r2 := ⟨_, rfl⟩
  have hl2 : 2 ≤ l.length := by rw [hl]; simp
  have hx0 : l.getD 0 0 = 92 := by rw [hl]; rfl
  have hx1 : l.getD 1 0 = d := by rw [hl]; rfl
  have ht2 : l.take 2 = [92, d] := by rw [hl]; rfl
  have hr2 : l.drop 2 = r2 := by rw [hl]; rfl
  have hfm : formL l = if d.toNat = 34 ∨ d.toNat = 92 then some (d, 2) else if d.toNat = 110 then some (10, 2) else if d.toNat = 116 then some (9, 2) else
      match r2 with
      | e :: f :: _ => if oct3 d e f then some (octB d e f, 4) else none
      | _ => none := by
    rw [hl]
    conv => lhs; unfold formL
    rw [if_neg (by decide)]
    rfl
  rw [← hl] at hn ⊢
  have hsz := size_toArray l
  have i0 := getD_str l 0 (by omega) (by omega)
  have i1 := getD_str l 1 (by omega) (by omega)
  rw [hx0] at i0
  rw [hx1] at i1
  have hp := ext_take l 2
  rw [ht2] at hp
  have hm : min (2 : Int) (l.length : Int) = 2 := by omega
  have q1 : ((⟨[92, d].toArray⟩ : ByteArray).toList == [92, 34]) = decide (d.toNat = 34) := by rw [list_text]; exact pair_eq d 34
  have q2 : ((⟨[92, d].toArray⟩ : ByteArray).toList == [92, 92]) = decide (d.toNat = 92) := by rw [list_text]; exact pair_eq d 92
  have q3 : ((⟨[92, d].toArray⟩ : ByteArray).toList == [92, 110]) = decide (d.toNat = 110) := by rw [list_text]; exact pair_eq d 110
  have q4 : ((⟨[92, d].toArray⟩ : ByteArray).toList == [92, 116]) = decide (d.toNat = 116) := by rw [list_text]; exact pair_eq d 116
  obtain ⟨p, hpe⟩ : ∃ p : ByteArray, p = ⟨[92, d].toArray⟩ := ⟨_, rfl⟩
  rw [← hpe] at hp q1 q2 q3 q4
  have hx4 := ext_list l 1 4
  obtain ⟨s, hs⟩ : ∃ s : ByteArray, s = ⟨l.toArray⟩ := ⟨_, rfl⟩
  have i0' : ∀ h, s[0]'h = 92 := by subst hs; exact fun _ => i0
  have i1' : ∀ h, s[1]'h = d := by subst hs; exact fun _ => i1
  rw [← hs] at hsz hp hx4 ⊢
  have FM := Lib.hid hfm
  have HE := Lib.hid hE
  clear hfm hs hpe i0 i1 hx0 hx1 ht2 hE
  by_cases h1 : d.toNat = 34
  · have hF : formL l = some (d, 2) := by rw [FM.out, if_pos (.inl h1)]
    rw [decide_eq_true h1] at q1
    have HF := Lib.hid hF
    clear hF q2 q3 q4 h1 hl hr2
    go_enter Tryd.func40, Tryd.ntmps40
    go_wp2
    go_ret3
    exact ⟨Below.refl _ _, .inl ⟨d, 2, HF.out, rfl⟩⟩
  rw [decide_eq_false h1] at q1
  by_cases h2 : d.toNat = 92
  · have hF : formL l = some (d, 2) := by rw [FM.out, if_pos (.inr h2)]
    rw [decide_eq_true h2] at q2
    have HF := Lib.hid hF
    clear hF q3 q4 h1 h2 hl hr2
    go_enter Tryd.func40, Tryd.ntmps40
    go_wp2
    go_ret3
    exact ⟨Below.refl _ _, .inl ⟨d, 2, HF.out, rfl⟩⟩
  rw [decide_eq_false h2] at q2
  by_cases h3 : d.toNat = 110
  · have hF : formL l = some (10, 2) := by rw [FM.out, if_neg (by omega), if_pos h3]
    rw [decide_eq_true h3] at q3
    have HF := Lib.hid hF
    clear hF q4 h1 h2 h3 hl hr2
    go_enter Tryd.func40, Tryd.ntmps40
    go_wp2
    go_ret3
    exact ⟨Below.refl _ _, .inl ⟨10, 2, HF.out, rfl⟩⟩
  rw [decide_eq_false h3] at q3
  by_cases h4 : d.toNat = 116
  · have hF : formL l = some (9, 2) := by rw [FM.out, if_neg (by omega), if_neg h3, if_pos h4]
    rw [decide_eq_true h4] at q4
    have HF := Lib.hid hF
    clear hF h1 h2 h3 h4 hl hr2
    go_enter Tryd.func40, Tryd.ntmps40
    go_wp2
    go_ret3
    exact ⟨Below.refl _ _, .inl ⟨9, 2, HF.out, rfl⟩⟩
  rw [decide_eq_false h4] at q4
  have hF := FM.out
  rw [if_neg (by omega), if_neg h3, if_neg h4] at hF
  by_cases h5 : l.length < 4
  · have hN : formL l = none := by
      rw [hF]
      have : r2.length < 2 := by rw [hl] at h5; simp at h5; omega
      revert this
      match r2 with
      | [] => exact fun _ => rfl
      | [_] => exact fun _ => rfl
      | _ :: _ :: _ => exact fun h => by simp at h; omega
    have HN := Lib.hid hN
    clear hN hF h1 h2 h3 h4 hl hr2
    go_enter Tryd.func40, Tryd.ntmps40
    go_wp2
    go_ret3
    exact ⟨Below.refl _ _, .inr ⟨HN.out, 0, 0, rfl⟩⟩
  · obtain ⟨e, f, r3, hr⟩ : ∃ e f r3, r2 = e :: f :: r3 := by
      have : 2 ≤ r2.length := by rw [hl] at h5; simp at h5; omega
      match r2, this with
      | e :: f :: r3, _ => exact ⟨e, f, r3, rfl⟩
    have h14 : (l.drop 1).take (4 - 1) = [d, e, f] := by rw [hl, hr]; rfl
    rw [h14] at hx4
    have hN : formL l = if oct3 d e f = true then some (octB d e f, 4) else none := by rw [hF, hr]
    have cP := fun w (h : ErrTab w) => ParseUint_oct ⟨[d, e, f].toArray⟩ (by rw [size_toArray]; simp) (by rw [size_toArray]; simp) w h
    obtain ⟨t, hte⟩ : ∃ t : ByteArray, t = ⟨[d, e, f].toArray⟩ := ⟨_, rfl⟩
    have htl : t.data.toList = [d, e, f] := by rw [hte]
    rw [← hte] at hx4 cP
    rw [htl] at cP
    have HN := Lib.hid hN
    clear hN hF h1 h2 h3 h4 hl hr2 h14 hr hte htl
    go_enter Tryd.func40, Tryd.ntmps40
    go_wp2_with fail
    refine (cP _ HE.out).mono ?_
    rintro e w1 ⟨b1, ⟨n, ho, rfl⟩ | ⟨ho, z, v, rfl⟩⟩
    · have hN : formL l = some (octB d e f, 4) ∧ n = (octB d e f).toNat := by
        rw [oct8_three] at ho
        rw [HN.out]
        cases ho3 : oct3 d e f with
        | true =>
          rw [ho3, if_pos rfl] at ho
          exact ⟨by rw [if_pos rfl], (Option.some.inj ho).symm⟩
        | false =>
          rw [ho3, if_neg (by decide)] at ho
          cases ho
      obtain ⟨hF, hnn⟩ := hN
      have HF := Lib.hid hF
      have n8 : n < 256 := by rw [hnn]; exact (octB d e f).toNat_lt
      have NN := Lib.hid hnn
      clear hF hnn ho HN
      go_wp2_with fail
      go_quiet (fail)
      go_wp2
      go_ret3
      exact ⟨below_drewN b1 _, .inl ⟨octB d e f, 4, HF.out, by have e := NN.out; subst e; rfl⟩⟩
    · have hN : formL l = none := by
        rw [oct8_three] at ho
        rw [HN.out]
        cases ho3 : oct3 d e f with
        | true =>
          rw [ho3, if_pos rfl] at ho
          cases ho
        | false => rw [if_neg (by decide)]
      have HF := Lib.hid hN
      clear hN ho HN
      go_wp2_with fail
      go_quiet (fail)
      go_wp2
      go_ret3
      exact ⟨below_drewN b1 _, .inr ⟨HF.out, _, 4, rfl⟩⟩

set_option maxHeartbeats 8000000 in
set_option maxRecDepth 100000 in
theorem takeForm_is (l : List UInt8) (hl : 0 < l.length) (w : World) (hn : l.length ≤ 1000000) (hE : ErrTab w) :
    Calls Tryd.prog 40 #[.string ⟨l.toArray⟩] w fun e w' => TPost l w e w' := by
  obtain ⟨c, r, rfl⟩ : ∃ c r, l = c :: r := by
    cases l with
    | nil => simp at hl
    | cons c r => exact ⟨c, r, rfl⟩
  have hsz := size_toArray (c :: r)
  have hx := getD_str (c :: r) 0 hl (by rw [hsz]; exact hl)
  simp only [List.getD_cons_zero] at hx
  by_cases hc : c.toNat = 92
  · obtain rfl : c = 92 := UInt8.toNat_inj.1 hc
    cases r with
    | nil =>
      have hp := ext_list [92] 0 1
      have q : ∀ x : UInt8, ((⟨[(92 : UInt8)].toArray⟩ : ByteArray).toList == [92, x]) = false := fun x => by rw [list_text]; rfl
      have q1 := q 34
      have q2 := q 92
      have q3 := q 110
      have q4 := q 116
      have hF : formL [92] = none := rfl
      have HF := Lib.hid hF
      obtain ⟨p, hpe⟩ : ∃ p : ByteArray, p = ⟨[(92 : UInt8)].toArray⟩ := ⟨_, rfl⟩
      have hp2 : p.extract 0 1 = p := by rw [hpe]; rfl
      have i0 : ∀ h, p[0]'h = 92 := by subst hpe; exact fun _ => rfl
      rw [← hpe] at q1 q2 q3 q4 hsz ⊢
      have hm : min (2 : Int) 1 = 1 := by decide
      have hsz2 : p.size = 1 := hsz
      clear hpe hp hx q hF hsz
      go_enter Tryd.func40, Tryd.ntmps40
      go_wp2
      go_ret3
      exact ⟨Below.refl _ _, .inr ⟨HF.out, 0, 0, rfl⟩⟩
    | cons d r2 => exact takeForm_pair d r2 w hn hE
  · have f1 : ((c.toNat : Int) != 92) = true := by simp; omega
    have hF : formL (c :: r) = some (c, 1) := by unfold formL; rw [if_pos hc]
    have HF := Lib.hid hF
    generalize (⟨(c :: r).toArray⟩ : ByteArray) = s at hsz hx ⊢
    clear hc hF
    go_enter Tryd.func40, Tryd.ntmps40
    go_wp2
    go_ret3
    exact ⟨Below.refl _ _, .inl ⟨c, 1, HF.out, rfl⟩⟩
end Go.Proofs.YtboiclejhnbonaaDoor
