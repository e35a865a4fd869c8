/-
  Texts that belong together, one behind the other.
-/
import Derived.Test.YtgbmbemmkadagaaFu01
import Derived.Test.YtgbmbemmkadagaaFu12
/-
  Layer 14, plain: edits applied.
-/
namespace Go.Proofs.Ytgbmbemmkadagaa
open Go
set_option linter.unusedVariables false
set_option linter.unusedSimpArgs false

/-- An edit: its ends, its bytes. -/
abbrev Edx := Int × Int × List UInt8
def stepE (p n : Int) (e : Edx) : Bool := decide (p ≤ e.1) && decide (e.1 ≤ e.2.1) && decide (e.2.1 ≤ n)
/-- Are they valid for so many bytes? -/
def okE : List Edx → Int → Int → Bool
  | [], _, _ => true
  | e :: l, p, n => stepE p n e && okE l e.2.1 n
def lastE : List Edx → Int → Int
  | [], p => p
  | e :: l, _ => lastE l e.2.1
/-- The pieces ahead of the last. -/
def preE (a : List UInt8) : List Edx → Int → List (List UInt8)
  | [], _ => []
  | e :: l, p => (a.take e.1.toNat).drop p.toNat :: e.2.2 :: preE a l e.2.1
def appE (a : List UInt8) (l : List Edx) : List UInt8 := (preE a l 0).flatten ++ a.drop (lastE l 0).toNat
theorem okE_app : ∀ (l m : List Edx) (p n : Int), okE (l ++ m) p n = (okE l p n && okE m (lastE l p) n)
  | [], _, _, _ => by simp [okE, lastE]
  | e :: l, m, p, n => by simp [okE, lastE, okE_app l m, Bool.and_assoc]
theorem lastE_app : ∀ (l m : List Edx) (p : Int), lastE (l ++ m) p = lastE m (lastE l p)
  | [], _, _ => rfl
  | e :: l, m, p => by simp [lastE, lastE_app l m]
theorem preE_app (a : List UInt8) : ∀ (l m : List Edx) (p : Int), preE a (l ++ m) p = preE a l p ++ preE a m (lastE l p)
  | [], _, _ => rfl
  | e :: l, m, p => by simp [preE, lastE, preE_app a l m]
theorem preE_len (a : List UInt8) : ∀ (l : List Edx) (p : Int), (preE a l p).length = 2 * l.length
  | [], _ => rfl
  | e :: l, p => by simp [preE, preE_len a l]; omega
theorem take_next {α : Type} (l : List α) (k : Nat) (h : k < l.length) : l.take (k + 1) = l.take k ++ [l[k]] := List.take_succ_eq_append_getElem h
theorem okE_next (l : List Edx) (k : Nat) (h : k < l.length) (p n : Int) : okE (l.take (k + 1)) p n = (okE (l.take k) p n && stepE (lastE (l.take k) p) n l[k]) := by
  rw [take_next l k h, okE_app]
  simp [okE]
theorem lastE_next (l : List Edx) (k : Nat) (h : k < l.length) (p : Int) : lastE (l.take (k + 1)) p = l[k].2.1 := by
  rw [take_next l k h, lastE_app]
  rfl
theorem preE_next (a : List UInt8) (l : List Edx) (k : Nat) (h : k < l.length) (p : Int) : preE a (l.take (k + 1)) p = preE a (l.take k) p ++ [(a.take l[k].1.toNat).drop (lastE (l.take k) p).toNat, l[k].2.2] := by
  rw [take_next l k h, preE_app]
  rfl
theorem okE_false (l : List Edx) (k : Nat) (p n : Int) (h : okE (l.take k) p n = false) : okE l p n = false := by
  conv => lhs; rw [← List.take_append_drop k l]
  rw [okE_app, h]
  rfl
theorem okE_take {l : List Edx} {p n : Int} (h : okE l p n = true) (k : Nat) : okE (l.take k) p n = true := by
  rw [← List.take_append_drop k l, okE_app, Bool.and_eq_true] at h
  exact h.1
theorem okE_last : ∀ (l : List Edx) (p n : Int), okE l p n = true → p ≤ n → p ≤ lastE l p ∧ lastE l p ≤ n
  | [], p, n, _, h => ⟨Int.le_refl _, h⟩
  | e :: l, p, n, h, hp => by
    simp only [okE, stepE, Bool.and_eq_true, decide_eq_true_eq] at h
    have := okE_last l e.2.1 n h.2 h.1.2
    simp only [lastE]
    omega
/-- What stands at a place, of edits that are valid. -/
theorem okE_at {l : List Edx} {n : Int} (h : okE l 0 n = true) (h0 : 0 ≤ n) (k : Nat) (hk : k < l.length) : 0 ≤ lastE (l.take k) 0 ∧ lastE (l.take k) 0 ≤ l[k].1 ∧ l[k].1 ≤ l[k].2.1 ∧ l[k].2.1 ≤ n := by
  have h1 := okE_take h (k + 1)
  rw [okE_next l k hk, Bool.and_eq_true] at h1
  have h2 := okE_last _ _ _ h1.1 h0
  have h3 := h1.2
  simp only [stepE, Bool.and_eq_true, decide_eq_true_eq] at h3
  omega
/-- How much there is at most. -/
def sumE (l : List Edx) : Nat := (l.map fun e => e.2.2.length).sum
theorem pre_sum (a : List UInt8) : ∀ (l : List Edx) (p : Int), okE l p a.length = true → 0 ≤ p → p ≤ a.length → (preE a l p).flatten.length + (a.drop (lastE l p).toNat).length ≤ a.length - p.toNat + sumE l
  | [], p, _, _, _ => by simp [preE, lastE, sumE]
  | e :: l, p, h, h0, h1 => by
    simp only [okE, stepE, Bool.and_eq_true, decide_eq_true_eq] at h
    have ih := pre_sum a l e.2.1 h.2 (by omega) h.1.2
    simp only [preE, lastE, List.flatten_cons, List.length_append, sumE, List.map_cons, List.sum_cons] at ih ⊢
    rw [List.length_drop, List.length_take]
    omega
theorem app_sum (a : List UInt8) (l : List Edx) (h : okE l 0 a.length = true) : (appE a l).length ≤ a.length + sumE l := by
  have := pre_sum a l 0 h (Int.le_refl _) (by omega)
  unfold appE
  rw [List.length_append]
  simpa using this
/-- One piece's end lies within all. -/
theorem flat_le (l : List (List UInt8)) (k : Nat) : (l.take k).flatten.length ≤ l.flatten.length := by
  conv => rhs; rw [← List.take_append_drop k l, List.flatten_append, List.length_append]
  omega
theorem flat_next (l : List (List UInt8)) (k : Nat) (h : k < l.length) : (l.take (k + 1)).flatten.length = (l.take k).flatten.length + l[k].length := by
  rw [take_next l k h, List.flatten_append, List.length_append]
  simp
/-- What is made, applied. -/
theorem app_made (a b : List UInt8) : appE a [((fromL a b : Nat), ((a.length - tailL a b : Nat) : Int), putL a b)] = b := by
  have h := make_apply a b
  simp only [appE, preE, lastE, List.flatten_cons, List.flatten_nil, List.append_nil, Int.toNat_natCast, Int.toNat_zero, List.drop_zero]
  rw [List.append_assoc]
  exact h
theorem ok_made (a b : List UInt8) : okE [((fromL a b : Nat), ((a.length - tailL a b : Nat) : Int), putL a b)] 0 a.length = true := by
  have := tail_le a b
  simp only [okE, stepE, Bool.and_eq_true, decide_eq_true_eq, and_true]
  omega
end Go.Proofs.Ytgbmbemmkadagaa

/-
  Layer 14, the program: valid.
-/
namespace Go.Proofs.Ytgbmbemmkadagaa
set_option maxRecDepth 20000
open Go.RowKit
set_option linter.unusedVariables false
set_option linter.unusedSimpArgs false

def Edc.x (e : Edc) : Edx := (e.f, e.t, e.b)
/-- What a round over edits finds at its place. -/
theorem EdAt.round {w : World} {b o : Nat} {l : List Edc} (h : EdAt w (some ⟨b, o, none⟩) l) (k : Nat) (hk : k < l.length) : ∃ av cv E, l[k].v = .slice av l[k].b.length cv ∧ arrDl l[k].f l[k].t (.slice av l[k].b.length cv) = E ∧
    w.rangeAt b (o + k * 3) E.toList ∧ Red w (.slice av l[k].b.length cv) l[k].b ∧ E.size = 3 ∧ E.all (·.oneCell') = true ∧ (Try.prog.info? 93).map (·.size) = some E.size ∧ (Try.prog.info? 93).map (·.size) = some E.toList.length := by
  obtain ⟨-, -, -, hr⟩ := h.cells k hk
  obtain ⟨av, cv, hv, r1, r2, r3, r4⟩ := id hr
  rw [hv] at hr
  refine ⟨av, cv, _, hv, rfl, ?_, hr, rfl, arrDl_one _ _ _ _ _, infoEdit, infoEdit⟩
  have q := h.1.elem k hk
  rw [← hv]
  exact q
set_option maxHeartbeats 16000000 in
theorem valid_some (b o n c : Nat) (l : List Edc) (N : Int) (w : World) (h : EdAt w (some ⟨b, o, none⟩) l) (hb : b < w.heap.size) (hn : n = l.length) (hm : n ≤ 1000000) :
    Calls Try.prog 73 #[.slice (some ⟨b, o, none⟩) n c, .int .i64 N] w fun e w' => e = .returned (.bool (okE (l.map Edc.x) 0 N)) ∧ Below w.heap.size w w' := by
  obtain ⟨z, hz, hzs, hzv, hzb, hz1⟩ := zEdit_any
  have ZS := Lib.hid hzs
  have H := Lib.hid h; have HN := Lib.hid hn
  obtain ⟨L, hL⟩ : ∃ L, l.map Edc.x = L := ⟨_, rfl⟩
  have HL := Lib.hid hL
  have LL := Lib.hid (show L.length = l.length by rw [← hL, List.length_map])
  have HK := Lib.hid (show ∀ k (hk : k < l.length) (hk2 : k < L.length), L[k] = (l[k].f, l[k].t, l[k].b) from fun k hk hk2 => by simp only [← hL, List.getElem_map]; rfl)
  rw [hL]
  clear h hn hz hzs hzb hz1 hL
  go_enter Try.func73, Try.ntmps73
  go_wp2_with fail
  go_loopw [5, 10] (fun p i wr => ∃ k : Nat, k ≤ n ∧ i = .int .i64 k ∧ p = .int .i64 (lastE (L.take k) 0) ∧ okE (L.take k) 0 N = true ∧ Below w.heap.size w wr) (fun _ i _ => n - (intOf i).toNat)
  case atStart => exact ⟨0, Nat.zero_le _, rfl, rfl, rfl, Below.refl _ _⟩
  case round =>
    obtain ⟨k, hk, rfl, rfl, hok, hbr⟩ := hrel
    have HOK := Lib.hid hok; have HBR := Lib.hid hbr
    clear hok hbr
    by_cases hlt : k < n
    · have hkl : k < l.length := by rw [← HN.out]; exact hlt
      have hkL : k < L.length := by rw [LL.out]; exact hkl
      obtain ⟨av, cv, E, hv, hE, hrg, -, e3, eo, ie, il⟩ := (H.out.keep HBR.out).round k hkl
      have NX := okE_next L k hkL 0 N
      have LX := lastE_next L k hkL 0
      rw [HOK.out, Bool.true_and] at NX
      rw [HK.out k hkl hkL] at NX LX
      obtain ⟨p, hp⟩ : ∃ p, lastE (L.take k) 0 = p := ⟨_, rfl⟩
      obtain ⟨f, hf⟩ : ∃ f, l[k].f = f := ⟨_, rfl⟩
      obtain ⟨t, ht⟩ : ∃ t, l[k].t = t := ⟨_, rfl⟩
      rw [hf, ht] at NX hE LX
      rw [hp] at NX ⊢
      have NX := Lib.hid NX; have LX := Lib.hid LX; have HE := Lib.hid hE; have RG := Lib.hid hrg; have E3 := Lib.hid e3; have EO := Lib.hid eo; have IE := Lib.hid ie; have IL := Lib.hid il
      have SZ := Lib.hid (show E.size = z.size by rw [E3.out, ZS.out])
      have N2 := Lib.hid (heap_alloc_new wr (.cells z 93))
      have HB := hb
      have SE := Lib.hid (show stepE p N (f, t, l[k].b) = (decide (p ≤ f) && decide (f ≤ t) && decide (t ≤ N)) from rfl)
      clear hrg e3 eo ie il hE hv hp hf ht
      have hc : f < p ∨ (¬ f < p ∧ t < f) ∨ (¬ f < p ∧ ¬ t < f ∧ N < t) ∨ (¬ f < p ∧ ¬ t < f ∧ ¬ N < t) := by omega
      rcases hc with h1 | ⟨h1, h2⟩ | ⟨h1, h2, h3⟩ | ⟨h1, h2, h3⟩
      all_goals
        go_wp2_with (first
          | (with_reducible refine wpList_load_mid rfl 93 (.tmp 12) rfl b (o + k * 3) rfl E.toList _ RG.out Try.underlying93 rfl IL.out ?_; rw [Array.toArray_toList])
          | (with_reducible refine wpList_store_all rfl 93 (.tmp 7) (.tmp 13) rfl wr.heap.size E rfl rfl 93 z N2.out IE.out SZ.out EO.out ?_; intro w4 hg4 ho4 hs4; obtain ⟨x0, x1, x2⟩ := edit_cells hg4 HE.out; clear hg4)
          | fail)
        have B4 := Lib.hid ((HBR.out.alloc HBR.out.size (.cells z 93)).trans (ho4.below (B := w.heap.size) HBR.out.size (by simp; have := HBR.out.size; omega)))
        first
          | (go_ret
             refine ⟨?_, B4.out⟩
             have q := NX.out
             rw [SE.out, show (decide (p ≤ f) && decide (f ≤ t) && decide (t ≤ N)) = false from by simp; omega] at q
             rw [okE_false L (k + 1) 0 N q]
             rfl)
          | (go_roundw
             case rel =>
               refine ⟨k + 1, by omega, by go_num, by rw [LX.out], ?_, B4.out⟩
               rw [NX.out, SE.out]
               simp
               omega
             case measure => simp [intOf]; omega)
    · have hkn : k = n := by omega
      have q := HOK.out
      rw [hkn, HN.out, ← LL.out, List.take_length] at q
      have Q := Lib.hid q
      clear q
      subst hkn
      go_wp2
      go_ret
      exact ⟨by rw [Q.out]; rfl, HBR.out⟩
theorem valid_is (a : Option Addr) (n c : Nat) (l : List Edc) (N : Int) (w : World) (h : EdAt w a l) (hn : n = l.length) (hm : n ≤ 1000000) :
    Calls Try.prog 73 #[.slice a n c, .int .i64 N] w fun e w' => e = .returned (.bool (okE (l.map Edc.x) 0 N)) ∧ Below w.heap.size w w' := by
  by_cases hp : 0 < l.length
  · obtain ⟨b, o, rfl, hb⟩ := h.1.some hp
    exact valid_some b o n c l N w h hb hn hm
  · obtain rfl : l = [] := List.eq_nil_of_length_eq_zero (by omega)
    obtain rfl : n = 0 := hn
    have e : okE (([] : List Edc).map Edc.x) 0 N = true := rfl
    rw [e]
    go_enter Try.func73, Try.ntmps73
    go_wp2_with fail
    refine wp_loop_rounds 1 ?_
    rw [rounds_succ]
    go_wp2
    go_ret
    exact ⟨rfl, Below.refl _ _⟩
end Go.Proofs.Ytgbmbemmkadagaa
