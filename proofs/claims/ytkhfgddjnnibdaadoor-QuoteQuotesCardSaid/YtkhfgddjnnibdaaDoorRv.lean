/-
  Layer 3: Unquote of the reference, of a text with marks.
-/
import Derived.Test.YtkhfgddjnnibdaaDoorRu
import Derived.Test.YtkhfgddjnnibdaaDoorOb
import Derived.StillTailTactics
import Derived.RegionTactic
namespace Go.Proofs.YtkhfgddjnnibdaaDoor
open Go.RowKit
set_option linter.unusedVariables false
set_option linter.unusedSimpArgs false

theorem oct3_no {d e f : UInt8} (h : ¬ (48 ≤ d.toNat ∧ d.toNat ≤ 51 ∧ 48 ≤ e.toNat ∧ e.toNat ≤ 55 ∧ 48 ≤ f.toNat ∧ f.toNat ≤ 55)) : oct3 d e f = false := by
  cases ho : oct3 d e f with
  | false => rfl
  | true => exact absurd (oct3_not ho) h
theorem oct3_is {d e f : UInt8} (h : 48 ≤ d.toNat ∧ d.toNat ≤ 51 ∧ 48 ≤ e.toNat ∧ e.toNat ≤ 55 ∧ 48 ≤ f.toNat ∧ f.toNat ≤ 55) : oct3 d e f = true := by
  unfold oct3
  simp only [h.1, h.2.1, h.2.2.1, h.2.2.2.1, h.2.2.2.2.1, h.2.2.2.2.2, decide_true, Bool.and_true]
/-- How far the decoder came: acc is told, the rest begins at i, and no pair crosses the end. -/
def DecAt (l : List UInt8) (e i : Nat) (acc : List UInt8) : Prop :=
  i ≤ e ∧ 1 ≤ i ∧ i + endL (l.drop i) = e ∧ acc.length ≤ i ∧ unescL ((l.take e).tail) = acc ++ unescL ((l.take e).drop i)
theorem DecAt.start (l : List UInt8) (e : Nat) (he : e = 1 + endL l.tail) (h1 : 1 ≤ e) : DecAt l e 1 [] :=
  ⟨h1, Nat.le_refl _, by rw [he, tail_drop], by simp, by rw [tail_drop]; rfl⟩
theorem DecAt.ne {l : List UInt8} {e i : Nat} {acc : List UInt8} (d : DecAt l e i acc) (hel : e < l.length) (h : i < e) : (l.getD i 0).toNat ≠ 34 := by
  intro h2
  have := d.2.2.1
  rw [end_at l i (by omega), if_pos h2] at this
  omega
theorem DecAt.plain {l : List UInt8} {e i : Nat} {acc : List UInt8} (d : DecAt l e i acc) (hel : e < l.length) (h : i < e) (hc : (l.getD i 0).toNat ≠ 92) : DecAt l e (i + 1) (acc ++ [l.getD i 0]) := by
  have hne := d.ne hel h
  obtain ⟨a, b, c, k, u⟩ := d
  rw [end_at l i (by omega), if_neg hne, if_neg hc] at c
  refine ⟨h, by omega, by omega, by simp; omega, ?_⟩
  have g := take_getD l e i h
  rw [u, dec_at (l.take e) i (by rw [List.length_take]; omega) (by rw [g]; exact hc), g]
  simp
theorem DecAt.pair {l : List UInt8} {e i : Nat} {acc : List UInt8} (d : DecAt l e i acc) (hel : e < l.length) (h : i < e) (hc : (l.getD i 0).toNat = 92) : i + 2 ≤ e ∧ i + 2 + endL (l.drop (i + 2)) = e := by
  have c := d.2.2.1
  rw [end_at l i (by omega), if_neg (by omega), if_pos hc] at c
  omega
theorem DecAt.two {l : List UInt8} {e i : Nat} {acc : List UInt8} (d : DecAt l e i acc) (hel : e < l.length) (h : i < e) (hc : (l.getD i 0).toNat = 92) (x : UInt8)
    (hx : unescL ((l.take e).drop i) = x :: unescL ((l.take e).drop (i + 2))) : DecAt l e (i + 2) (acc ++ [x]) := by
  obtain ⟨p1, p2⟩ := d.pair hel h hc
  obtain ⟨a, b, c, k, u⟩ := d
  exact ⟨p1, by omega, p2, by simp; omega, by rw [u, hx]; simp⟩
theorem DecAt.n {l : List UInt8} {e i : Nat} {acc : List UInt8} (d : DecAt l e i acc) (hel : e < l.length) (h : i < e) (hc : (l.getD i 0).toNat = 92) (hd : (l.getD (i + 1) 0).toNat = 110) : DecAt l e (i + 2) (acc ++ [10]) := by
  have p := d.pair hel h hc
  refine d.two hel h hc 10 (dec_at_n _ i (by rw [List.length_take]; omega) ?_ ?_)
  · rw [take_getD l e i h]; exact hc
  · rw [take_getD l e (i + 1) (by omega)]; exact hd
theorem DecAt.t {l : List UInt8} {e i : Nat} {acc : List UInt8} (d : DecAt l e i acc) (hel : e < l.length) (h : i < e) (hc : (l.getD i 0).toNat = 92) (hd : (l.getD (i + 1) 0).toNat = 116) : DecAt l e (i + 2) (acc ++ [9]) := by
  have p := d.pair hel h hc
  refine d.two hel h hc 9 (dec_at_t _ i (by rw [List.length_take]; omega) ?_ ?_)
  · rw [take_getD l e i h]; exact hc
  · rw [take_getD l e (i + 1) (by omega)]; exact hd
theorem DecAt.other {l : List UInt8} {e i : Nat} {acc : List UInt8} (d : DecAt l e i acc) (hel : e < l.length) (h : i < e) (hc : (l.getD i 0).toNat = 92) (h1 : (l.getD (i + 1) 0).toNat ≠ 110) (h2 : (l.getD (i + 1) 0).toNat ≠ 116)
    (ho : i + 3 < e → oct3 (l.getD (i + 1) 0) (l.getD (i + 2) 0) (l.getD (i + 3) 0) = false) : DecAt l e (i + 2) (acc ++ [l.getD (i + 1) 0]) := by
  have p := d.pair hel h hc
  have g := take_getD l e (i + 1) (by omega)
  rw [← g] at h1 h2 ⊢
  refine d.two hel h hc _ (dec_at_other _ i (by rw [List.length_take]; omega) ?_ h1 h2 ?_)
  · rw [take_getD l e i h]; exact hc
  · intro h3
    rw [List.length_take] at h3
    rw [g, take_getD l e (i + 2) (by omega), take_getD l e (i + 3) (by omega)]
    exact ho (by omega)
theorem DecAt.oct {l : List UInt8} {e i : Nat} {acc : List UInt8} (d : DecAt l e i acc) (hel : e < l.length) (h : i + 3 < e) (hc : (l.getD i 0).toNat = 92) (ho : oct3 (l.getD (i + 1) 0) (l.getD (i + 2) 0) (l.getD (i + 3) 0) = true) :
    DecAt l e (i + 4) (acc ++ [octB (l.getD (i + 1) 0) (l.getD (i + 2) 0) (l.getD (i + 3) 0)]) := by
  obtain ⟨p1, p2⟩ := d.pair hel (by omega) hc
  have o := oct3_not ho
  rw [end_at l (i + 2) (by omega), if_neg (by omega), if_neg (by omega), end_at l (i + 2 + 1) (by omega), show i + 2 + 1 = i + 3 by omega, if_neg (by omega), if_neg (by omega)] at p2
  obtain ⟨a, b, c, k, u⟩ := d
  have g1 := take_getD l e (i + 1) (by omega)
  have g2 := take_getD l e (i + 2) (by omega)
  have g3 := take_getD l e (i + 3) (by omega)
  refine ⟨by omega, by omega, by rw [show i + 4 = i + 3 + 1 by omega]; omega, by simp; omega, ?_⟩
  rw [u, dec_at_oct (l.take e) i (by rw [List.length_take]; omega) (by rw [take_getD l e i (by omega)]; exact hc) (by rw [g1, g2, g3]; exact ho), g1, g2, g3]
  simp
theorem DecAt.fin {l : List UInt8} {e : Nat} {acc : List UInt8} (d : DecAt l e e acc) : unescL ((l.take e).tail) = acc := by
  have u := d.2.2.2.2
  rw [u, List.drop_of_length_le (by rw [List.length_take]; omega)]
  simp [unescL]

theorem own_slice {w : World} {base : Nat} {v : Value} {l : List UInt8} (h : w.ownsRow base 5 1 v l.length (Lib.byteCells l)) : ∃ a c, v = .slice a l.length c ∧ BAt w a l := by
  have h2 := h.2
  rcases h2 with ⟨rfl, hn⟩ | ⟨g, cap, cur, rfl, hb, hg, r⟩
  · have : l = [] := List.eq_nil_of_length_eq_zero (by first | exact hn | exact hn.1 | omega)
    subst this
    exact ⟨none, 0, rfl, BAt.nil _ _⟩
  · exact ⟨_, cap, rfl, own_bat h⟩
theorem unq_short (l : List UInt8) (h0 : (l.getD 0 0).toNat = 34) (h : l.length ≤ 1 + endL l.tail) : unqL l = ([], 0, 3) := by
  unfold unqL
  rw [if_pos h0]
  simp only []
  rw [if_pos h]
theorem unq_held (l : List UInt8) (h0 : (l.getD 0 0).toNat = 34) (e : Nat) (he : e = 1 + endL l.tail) (hlt : e < l.length) :
    unqL l = if quoteL (unescL ((l.take e).tail)) = l.take (e + 1) then (unescL ((l.take e).tail), e + 1, 0) else ([], 0, 4) := by
  subst he
  unfold unqL
  rw [if_pos h0]
  simp only []
  rw [if_neg (by omega)]
set_option maxHeartbeats 400000000 in
set_option maxRecDepth 100000 in
theorem rUnq_marks (l : List UInt8) (w : World) (hn : l.length ≤ 1000000) (h0 : (l.getD 0 0).toNat = 34) :
    Calls Tryd.prog 14 #[.string ⟨l.toArray⟩] w fun e w' => e = .returned (unqV (unqL l)) ∧ Below w.heap.size w w' := by
  obtain ⟨i0, hi0, hz0, hz1, hz2⟩ := info_parts info5
  have hl0 : 0 < l.length := by
    cases l with
    | nil => simp at h0
    | cons c r => simp
  have hem := empty_list l
  have hsz := size_toArray l
  have hget : ∀ i, i < l.length → ∀ h2 : i < (⟨l.toArray⟩ : ByteArray).size, (⟨l.toArray⟩ : ByteArray)[i]'h2 = l.getD i 0 := fun i h h2 => getD_str l i h h2
  have htk := fun n => ext_take l n
  obtain ⟨s, hs⟩ : ∃ s : ByteArray, s = ⟨l.toArray⟩ := ⟨_, rfl⟩
  rw [← hs] at hem hsz hget htk ⊢
  have HGET := Lib.hid hget
  have HTK := Lib.hid htk
  have HN := Lib.hid hn
  have e0 : s.toList.isEmpty = false := by rw [hem]; exact decide_eq_false (by omega)
  have hx0 := hget 0 hl0 (by omega)
  obtain ⟨x0, hx0e⟩ : ∃ x : UInt8, x = l.getD 0 0 := ⟨_, rfl⟩
  rw [← hx0e] at hx0
  have f0 : ((x0.toNat : Int) != 34) = false := by
    have : x0.toNat = 34 := by rw [hx0e]; exact h0
    simp [this]
  obtain ⟨E, hE⟩ : ∃ E, E = 1 + endL l.tail := ⟨_, rfl⟩
  have HE := Lib.hid hE
  have H0 := Lib.hid h0
  clear hs hget htk hem hx0e hE h0
  go_enter Tryd.func14, Tryd.ntmps14
  go_wp2_with fail
  go_loopw [6] (fun vi wr => ∃ i : Nat, 1 ≤ i ∧ i ≤ l.length + 1 ∧ vi = .int .i64 i ∧ Below w.heap.size w wr ∧ Hid (E = i + endL (l.drop i))) (fun vi _ => l.length + 1 - (intOf vi).toNat)
  case atStart => exact ⟨1, Nat.le_refl _, by omega, rfl, Below.refl _ _, Lib.hid (by rw [HE.out, tail_drop])⟩
  case round =>
    obtain ⟨i, h1i, hi, rfl, hbr, EI⟩ := hrel
    by_cases hlt : i < l.length
    · have hx := HGET.out i hlt (by omega)
      obtain ⟨x, hxe⟩ : ∃ x : UInt8, x = l.getD i 0 := ⟨_, rfl⟩
      rw [← hxe] at hx
      have XE := Lib.hid hxe
      clear hxe
      by_cases h34 : x.toNat = 34
      · -- the closing mark
        have f1 : ((x.toNat : Int) != 34) = false := by simp [h34]
        have hEi : Hid (E = i) := Lib.hid (by
          have h := EI.out
          rw [end_at l i hlt, if_pos (by rw [← XE.out]; exact h34)] at h
          exact h)
        have D0 : Hid (DecAt l i 1 []) := Lib.hid (by
          have h := hEi.out
          rw [← h]
          exact DecAt.start l E HE.out (by omega))
        have UH := Lib.hid (unq_held l H0.out i (hEi.out ▸ HE.out) hlt)
        have dle : decide (l.length ≤ i) = false := decide_eq_false (by omega)
        have dle2 : decide ((l.length : Int) ≤ (i : Int)) = false := decide_eq_false (by omega)
        clear h34 EI
        go_wp2_with fail
        have hE1 : (i : Int) ≤ (l.length : Int) := by omega
        go_loopw [7, 8] (fun v vk wz => ∃ (k : Nat) (acc : List UInt8), k ≤ i ∧ vk = .int .i64 k ∧ acc.length ≤ i ∧ wz.ownsRow w.heap.size 5 1 v acc.length (Lib.byteCells acc) ∧ Below w.heap.size w wz ∧ Hid (DecAt l i k acc)) (fun _ vk _ => i - (intOf vk).toNat)
        case atStart => exact ⟨1, [], h1i, rfl, Nat.zero_le _, World.ownsRow_nil _ _ _ _, hbr, D0⟩
        case round =>
          obtain ⟨k, acc, hk, rfl, hal, hown, hbz, DA⟩ := hrel
          clear hbr D0
          by_cases hki : k < i
          · have hy := HGET.out k (by omega) (by omega)
            obtain ⟨y, hye⟩ : ∃ y : UInt8, y = l.getD k 0 := ⟨_, rfl⟩
            rw [← hye] at hy
            have YE := Lib.hid hye
            clear hye
            by_cases y92 : y.toNat = 92
            · have g1 : ((y.toNat : Int) != 92) = false := by simp [y92]
              have hk2 : k + 2 ≤ i := (DA.out.pair hlt hki (by rw [← YE.out]; exact y92)).1
              have Y92 : Hid ((l.getD k 0).toNat = 92) := Lib.hid (by rw [← YE.out]; exact y92)
              have hd := HGET.out (k + 1) (by omega) (by omega)
              obtain ⟨d, hde⟩ : ∃ d : UInt8, d = l.getD (k + 1) 0 := ⟨_, rfl⟩
              rw [← hde] at hd
              have DE := Lib.hid hde
              have hk2z : (k : Int) + 1 < (l.length : Int) := by omega
              have hk2s : (k : Int) + 1 < (s.size : Int) := by omega
              have d8 := d.toNat_lt
              clear hde y92
              by_cases d110 : d.toNat = 110
              · have g2 : ((d.toNat : Int) == 110) = true := by simp [d110]
                have DN : Hid (DecAt l i (k + 2) (acc ++ [10])) := Lib.hid (DA.out.n hlt hki Y92.out (by rw [← DE.out]; exact d110))
                clear d110 DA
                go_wp2_with (at_builtin; refine wpList_append_own _ rfl _ _ 31 rfl w.heap.size 5 i0 (.int .u8 0) 1 1 Tryd.underlying31 hi0 hz0 hz1 hz2 rfl (by decide) _ _ _ rfl (hown.alloc _) ⟨wr.heap.size, 0, none⟩ 1 1 [.int .u8 10] rfl rfl ?c1 ?c2 ?c3 ?c4 ?c5 ?_)
                try (case c1 =>
                  intro j u hj
                  cases j with
                  | zero =>
                    simp at hj
                    subst hj
                    exact Lib.cell_of_heap (heap_alloc_new wr _) 0
                  | succ j => simp at hj)
                case c2 => first | rfl | (intro u hu; simp at hu; subst hu; rfl)
                case c3 => unfold maxLen; omega
                case c4 => omega
                case c5 => have := hbz.size; simp; omega
                intro v' w3 hown3 hgrow3 _
                have hbr3 : Below w.heap.size w w3 := (hbz.alloc hbz.size _).grown hgrow3 (by have := hbz.size; simp; omega) (fun j hj => own_block hown j hj)
                have HO3 : Hid (w3.ownsRow w.heap.size 5 1 v' (acc ++ [10]).length (Lib.byteCells (acc ++ [10]))) := Lib.hid (by rw [Lib.byteCells_append, List.length_append]; exact hown3)
                clear hown3 hgrow3 hown hbz
                go_wp2
                go_roundw
                case rel => exact ⟨k + 2, acc ++ [10], by omega, by go_num, by have := DN.out.2.2.2.1; have := DN.out.1; omega, HO3.out, hbr3, DN⟩
                case measure => simp [intOf]; omega
              · have g2 : ((d.toNat : Int) == 110) = false := by simp; omega
                by_cases d116 : d.toNat = 116
                · have g3 : ((d.toNat : Int) == 116) = true := by simp [d116]
                  have DN : Hid (DecAt l i (k + 2) (acc ++ [9])) := Lib.hid (DA.out.t hlt hki Y92.out (by rw [← DE.out]; exact d116))
                  clear d110 d116 DA
                  go_wp2_with (at_builtin; refine wpList_append_own _ rfl _ _ 31 rfl w.heap.size 5 i0 (.int .u8 0) 1 1 Tryd.underlying31 hi0 hz0 hz1 hz2 rfl (by decide) _ _ _ rfl (hown.alloc _) ⟨wr.heap.size, 0, none⟩ 1 1 [.int .u8 9] rfl rfl ?c1 ?c2 ?c3 ?c4 ?c5 ?_)
                  try (case c1 =>
                    intro j u hj
                    cases j with
                    | zero =>
                      simp at hj
                      subst hj
                      exact Lib.cell_of_heap (heap_alloc_new wr _) 0
                    | succ j => simp at hj)
                  case c2 => first | rfl | (intro u hu; simp at hu; subst hu; rfl)
                  case c3 => unfold maxLen; omega
                  case c4 => omega
                  case c5 => have := hbz.size; simp; omega
                  intro v' w3 hown3 hgrow3 _
                  have hbr3 : Below w.heap.size w w3 := (hbz.alloc hbz.size _).grown hgrow3 (by have := hbz.size; simp; omega) (fun j hj => own_block hown j hj)
                  have HO3 : Hid (w3.ownsRow w.heap.size 5 1 v' (acc ++ [9]).length (Lib.byteCells (acc ++ [9]))) := Lib.hid (by rw [Lib.byteCells_append, List.length_append]; exact hown3)
                  clear hown3 hgrow3 hown hbz
                  go_wp2
                  go_roundw
                  case rel => exact ⟨k + 2, acc ++ [9], by omega, by go_num, by have := DN.out.2.2.2.1; have := DN.out.1; omega, HO3.out, hbr3, DN⟩
                  case measure => simp [intOf]; omega
                · have g3 : ((d.toNat : Int) == 116) = false := by simp; omega
                  by_cases hoct : 48 ≤ d.toNat ∧ d.toNat ≤ 51 ∧ k + 3 < i ∧ 48 ≤ (l.getD (k + 2) 0).toNat ∧ (l.getD (k + 2) 0).toNat ≤ 55 ∧ 48 ≤ (l.getD (k + 3) 0).toNat ∧ (l.getD (k + 3) 0).toNat ≤ 55
                  · obtain ⟨o1, o2, o3, o4, o5, o6, o7⟩ := hoct
                    have ha := HGET.out (k + 2) (by omega) (by omega)
                    obtain ⟨a, hae⟩ : ∃ a : UInt8, a = l.getD (k + 2) 0 := ⟨_, rfl⟩
                    have hb := HGET.out (k + 3) (by omega) (by omega)
                    obtain ⟨b, hbe⟩ : ∃ b : UInt8, b = l.getD (k + 3) 0 := ⟨_, rfl⟩
                    rw [← hae] at ha o4 o5
                    rw [← hbe] at hb o6 o7
                    have hk3a : (k : Int) + 1 + 2 < (i : Int) := by omega
                    have hk3b : (k : Int) + 2 < (s.size : Int) := by omega
                    have hk3c : (k : Int) + 3 < (s.size : Int) := by omega
                    have hk3d : (k : Int) + 2 < (l.length : Int) := by omega
                    have hk3e : (k : Int) + 3 < (l.length : Int) := by omega
                    have DN : Hid (DecAt l i (k + 4) (acc ++ [octB d a b])) := Lib.hid (by
                      have := DA.out.oct hlt o3 Y92.out (by rw [← DE.out, ← hae, ← hbe]; exact oct3_is ⟨o1, o2, o4, o5, o6, o7⟩)
                      rw [← DE.out, ← hae, ← hbe] at this
                      exact this)
                    obtain ⟨X, hX⟩ : ∃ X : Nat, d.toNat = X + 48 := ⟨d.toNat - 48, by omega⟩
                    obtain ⟨Y, hY⟩ : ∃ Y : Nat, a.toNat = Y + 48 := ⟨a.toNat - 48, by omega⟩
                    obtain ⟨Z, hZ⟩ : ∃ Z : Nat, b.toNat = Z + 48 := ⟨b.toNat - 48, by omega⟩
                    have hor := or_oct ⟨X, by omega⟩ ⟨Y, by omega⟩ ⟨Z, by omega⟩
                    simp only at hor
                    push_cast at hor
                    have hval : Hid ((octB d a b).toNat = X * 64 + Y * 8 + Z) := Lib.hid (by
                      unfold octB
                      rw [UInt8.toNat_ofNat', hX, hY, hZ]
                      omega)
                    have v1 : (d.toNat : Int) - 48 = (X : Int) := by omega
                    have v2 : (a.toNat : Int) - 48 = (Y : Int) := by omega
                    have v3 : (b.toNat : Int) - 48 = (Z : Int) := by omega
                    have x4 : X < 4 := by omega
                    have y8 : Y < 8 := by omega
                    have z8 : Z < 8 := by omega
                    have w1 : IntKind.u8.wrap (X : Int) = (X : Int) := by rw [IntKind.wrap_u8]; omega
                    have w2 : IntKind.u8.wrap ((X : Int) * 64) = (X : Int) * 64 := by rw [IntKind.wrap_u8]; omega
                    have w3 : IntKind.u8.wrap (Y : Int) = (Y : Int) := by rw [IntKind.wrap_u8]; omega
                    have w4 : IntKind.u8.wrap ((Y : Int) * 8) = (Y : Int) * 8 := by rw [IntKind.wrap_u8]; omega
                    have w5 : IntKind.u8.wrap (Z : Int) = (Z : Int) := by rw [IntKind.wrap_u8]; omega
                    have w6 : IntKind.i64.wrap ((k : Int) + 1 + 1) = (k : Int) + 2 := (IntWalk.i64_in _ (by omega)).trans (by omega)
                    have w7 : IntKind.i64.wrap ((k : Int) + 1 + 2) = (k : Int) + 3 := (IntWalk.i64_in _ (by omega)).trans (by omega)
                    have hp2 : (0 : Int) ≤ (k : Int) + 2 := by omega
                    have hp3 : (0 : Int) ≤ (k : Int) + 3 := by omega
                    have ht2 : ((k : Int) + 2).toNat = k + 2 := by omega
                    have ht3 : ((k : Int) + 3).toNat = k + 3 := by omega
                    clear hae hbe DA hX hY hZ d110 d116
                    go_wp2_with fail
                    refine wp_region_any (by kernel_rfl) ?_
                    change wpAny _ _ _ _ _ _ _ (World.drew _)
                    refine wpAny_take (i := 0) (v := u7) rfl (by kernel_rfl) (by kernel_rfl) (by kernel_rfl) (fun _ _ _ h => h) (Or.inl ⟨by kernel_rfl, fun w => by go_simp⟩) ?_
                    refine wpAny_take (i := 1) (v := .int .u8 d.toNat) rfl (by kernel_rfl) (by kernel_rfl) (by kernel_rfl) (fun _ _ _ h => h) (Or.inl ⟨by kernel_rfl, fun w => by go_simp⟩) ?_
                    refine wpAny_take (i := 2) (v := .int .u8 X) rfl (by kernel_rfl) (by kernel_rfl) (by kernel_rfl) (fun _ _ _ h => h) (Or.inl ⟨by kernel_rfl, fun w => by go_simp⟩) ?_
                    refine wpAny_take (i := 3) (v := .int .u8 ((X * 64 : Nat) : Int)) rfl (by kernel_rfl) (by kernel_rfl) (by kernel_rfl) (fun _ _ _ h => h) (Or.inl ⟨by kernel_rfl, fun w => by go_simp⟩) ?_
                    refine wpAny_take (i := 4) (v := .string s) rfl (by kernel_rfl) (by kernel_rfl) (by kernel_rfl) (fun _ _ _ h => h) (Or.inl ⟨by kernel_rfl, fun w => by go_simp⟩) ?_
                    refine wpAny_take (i := 5) (v := .int .i64 ((k : Int) + 1)) rfl (by kernel_rfl) (by kernel_rfl) (by kernel_rfl) (fun _ _ _ h => h) (Or.inl ⟨by kernel_rfl, fun w => by go_simp⟩) ?_
                    refine wpAny_take (i := 6) (v := .int .i64 ((k : Int) + 2)) rfl (by kernel_rfl) (by kernel_rfl) (by kernel_rfl) (fun _ _ _ h => h) (Or.inl ⟨by kernel_rfl, fun w => by go_simp⟩) ?_
                    refine wpAny_take (i := 7) (v := .int .u8 a.toNat) rfl (by kernel_rfl) (by kernel_rfl) (by kernel_rfl) (fun _ _ _ h => h) (Or.inl ⟨by kernel_rfl, fun w => by go_simp⟩) ?_
                    refine wpAny_take (i := 8) (v := .int .u8 Y) rfl (by kernel_rfl) (by kernel_rfl) (by kernel_rfl) (fun _ _ _ h => h) (Or.inl ⟨by kernel_rfl, fun w => by go_simp⟩) ?_
                    refine wpAny_take (i := 9) (v := .int .u8 ((Y * 8 : Nat) : Int)) rfl (by kernel_rfl) (by kernel_rfl) (by kernel_rfl) (fun _ _ _ h => h) (Or.inl ⟨by kernel_rfl, fun w => by go_simp⟩) ?_
                    refine wpAny_take (i := 10) (v := .int .u8 (bits BinOp.or .u8 ((X * 64 : Nat) : Int) ((Y * 8 : Nat) : Int))) rfl (by kernel_rfl) (by kernel_rfl) (by kernel_rfl) (fun _ _ _ h => h) (Or.inl ⟨by kernel_rfl, fun w => by go_simp⟩) ?_
                    refine wpAny_take (i := 11) (v := .string s) rfl (by kernel_rfl) (by kernel_rfl) (by kernel_rfl) (fun _ _ _ h => h) (Or.inl ⟨by kernel_rfl, fun w => by go_simp⟩) ?_
                    refine wpAny_take (i := 12) (v := .int .i64 ((k : Int) + 1)) rfl (by kernel_rfl) (by kernel_rfl) (by kernel_rfl) (fun _ _ _ h => h) (Or.inl ⟨by kernel_rfl, fun w => by go_simp⟩) ?_
                    refine wpAny_take (i := 13) (v := .int .i64 ((k : Int) + 3)) rfl (by kernel_rfl) (by kernel_rfl) (by kernel_rfl) (fun _ _ _ h => h) (Or.inl ⟨by kernel_rfl, fun w => by go_simp⟩) ?_
                    refine wpAny_take (i := 14) (v := .int .u8 b.toNat) rfl (by kernel_rfl) (by kernel_rfl) (by kernel_rfl) (fun _ _ _ h => h) (Or.inl ⟨by kernel_rfl, fun w => by go_simp⟩) ?_
                    refine wpAny_take (i := 15) (v := .int .u8 Z) rfl (by kernel_rfl) (by kernel_rfl) (by kernel_rfl) (fun _ _ _ h => h) (Or.inl ⟨by kernel_rfl, fun w => by go_simp⟩) ?_
                    refine wpAny_take (i := 16) (v := .int .u8 ((X * 64 + Y * 8 + Z : Nat) : Int)) rfl (by kernel_rfl) (by kernel_rfl) (by kernel_rfl) (fun _ _ _ h => h) (Or.inl ⟨by kernel_rfl, fun w => by go_simp⟩) ?_
                    refine wpAny_ready (rs := [17]) (by kernel_rfl) (by simp) ?_
                    refine AllReady.cons rfl (fun K hK => ?_) AllReady.nil
                    go_simp
                    refine hK _ _ ?_
                    clear hK K
                    refine wpAny_ready (rs := [18]) (by kernel_rfl) (by simp) ?_
                    refine AllReady.cons rfl (fun K hK => ?_) AllReady.nil
                    rw [if_pos (by kernel_rfl)]
                    refine wp_append_own _ _ _ 31 rfl w.heap.size 5 i0 (.int .u8 0) 1 1 Tryd.underlying31 hi0 hz0 hz1 hz2 rfl (by decide) u7 acc.length (Lib.byteCells acc) rfl ((show wr.drew.ownsRow _ _ _ _ _ _ from hown).alloc _) ⟨wr.heap.size, 0, none⟩ 1 1 [.int .u8 ((X * 64 + Y * 8 + Z : Nat) : Int)] rfl rfl ?c1 ?c2 ?c3 ?c4 ?c5 ?_
                    case c1 =>
                      intro j u hj
                      cases j with
                      | zero =>
                        simp at hj
                        subst hj
                        exact Lib.cell_of_heap (heap_alloc_new wr.drew _) 0
                      | succ j => simp at hj
                    case c2 => first | rfl | (intro u hu; simp at hu; subst hu; rfl)
                    case c3 => unfold maxLen; omega
                    case c4 => omega
                    case c5 => have := hbz.size; simp; omega
                    intro v' w3 hown3 hgrow3 _
                    have hbd := hbz.drew
                    have hbs := hbz.size
                    have hbr3 : Below w.heap.size w w3 := (hbd.alloc hbd.size _).grown hgrow3 (by have hs : wr.drew.heap.size = wr.heap.size := rfl; have := hbd.size; first | (simp; omega) | (simp; done) | (simp [World.drew]; omega) | omega) (fun j hj => own_block hown j hj)
                    have HO3 : Hid (w3.ownsRow w.heap.size 5 1 v' (acc ++ [octB d a b]).length (Lib.byteCells (acc ++ [octB d a b]))) := Lib.hid (by rw [Lib.byteCells_append, List.length_append, show Lib.byteCells [octB d a b] = [.int .u8 ((X * 64 + Y * 8 + Z : Nat) : Int)] by simp [Lib.byteCells, hval.out]]; exact hown3)
                    refine hK _ _ ?_
                    clear hK K hown3 hgrow3 hown hbz hbd
                    refine wpAny_ready (rs := [19]) (by kernel_rfl) (by simp) ?_
                    refine AllReady.cons rfl (fun K hK => ?_) AllReady.nil
                    go_simp
                    refine hK _ _ ?_
                    clear hK K
                    refine wpAny_done (by kernel_rfl) ?_ _
                    go_wp2
                    go_roundw
                    case rel => exact ⟨k + 4, acc ++ [octB d a b], by omega, by go_num, by have := DN.out.2.2.2.1; have := DN.out.1; omega, HO3.out, hbr3, DN⟩
                    case measure => simp [intOf]; omega
                  · have DN : Hid (DecAt l i (k + 2) (acc ++ [d])) := Lib.hid (by
                      have := DA.out.other hlt hki Y92.out (by rw [← DE.out]; exact d110) (by rw [← DE.out]; exact d116) (fun h3 => by
                        rw [← DE.out]
                        exact oct3_no (fun h => hoct ⟨h.1, h.2.1, h3, h.2.2⟩))
                      rw [← DE.out] at this
                      exact this)
                    clear d110 d116
                    by_cases q1 : 48 ≤ d.toNat
                    · by_cases q2 : d.toNat ≤ 51
                      · by_cases q3 : k + 3 < i
                        · have ha := HGET.out (k + 2) (by omega) (by omega)
                          obtain ⟨a, hae⟩ : ∃ a : UInt8, a = l.getD (k + 2) 0 := ⟨_, rfl⟩
                          have hb := HGET.out (k + 3) (by omega) (by omega)
                          obtain ⟨b, hbe⟩ : ∃ b : UInt8, b = l.getD (k + 3) 0 := ⟨_, rfl⟩
                          rw [← hae] at ha hoct
                          rw [← hbe] at hb hoct
                          have hk3a : (k : Int) + 1 + 2 < (i : Int) := by omega
                          have hk3b : (k : Int) + 2 < (s.size : Int) := by omega
                          have hk3c : (k : Int) + 3 < (s.size : Int) := by omega
                          have hk3d : (k : Int) + 2 < (l.length : Int) := by omega
                          have hk3e : (k : Int) + 3 < (l.length : Int) := by omega
                          clear hae hbe DA
                          by_cases r1 : 48 ≤ a.toNat
                          · by_cases r2 : a.toNat ≤ 55
                            · by_cases r3 : 48 ≤ b.toNat
                              · have r4 : ¬ b.toNat ≤ 55 := fun h => hoct ⟨q1, q2, q3, r1, r2, r3, h⟩
                                clear hoct
                                go_wp2_with (at_builtin; refine wpList_append_own _ rfl _ _ 31 rfl w.heap.size 5 i0 (.int .u8 0) 1 1 Tryd.underlying31 hi0 hz0 hz1 hz2 rfl (by decide) _ _ _ rfl (hown.alloc _) ⟨wr.heap.size, 0, none⟩ 1 1 [.int .u8 d.toNat] rfl rfl ?c1 ?c2 ?c3 ?c4 ?c5 ?_)
                                try (case c1 =>
                                  intro j u hj
                                  cases j with
                                  | zero =>
                                    simp at hj
                                    subst hj
                                    exact Lib.cell_of_heap (heap_alloc_new wr _) 0
                                  | succ j => simp at hj)
                                case c2 => first | rfl | (intro u hu; simp at hu; subst hu; rfl)
                                case c3 => unfold maxLen; omega
                                case c4 => omega
                                case c5 => have := hbz.size; simp; omega
                                intro v' w3 hown3 hgrow3 _
                                have hbr3 : Below w.heap.size w w3 := (hbz.alloc hbz.size _).grown hgrow3 (by have := hbz.size; simp; omega) (fun j hj => own_block hown j hj)
                                have HO3 : Hid (w3.ownsRow w.heap.size 5 1 v' (acc ++ [d]).length (Lib.byteCells (acc ++ [d]))) := Lib.hid (by rw [Lib.byteCells_append, List.length_append]; exact hown3)
                                clear hown3 hgrow3 hown hbz
                                go_wp2
                                go_roundw
                                case rel => exact ⟨k + 2, acc ++ [d], by omega, by go_num, by have := DN.out.2.2.2.1; have := DN.out.1; omega, HO3.out, hbr3, DN⟩
                                case measure => simp [intOf]; omega
                              · clear hoct
                                go_wp2_with (at_builtin; refine wpList_append_own _ rfl _ _ 31 rfl w.heap.size 5 i0 (.int .u8 0) 1 1 Tryd.underlying31 hi0 hz0 hz1 hz2 rfl (by decide) _ _ _ rfl (hown.alloc _) ⟨wr.heap.size, 0, none⟩ 1 1 [.int .u8 d.toNat] rfl rfl ?c1 ?c2 ?c3 ?c4 ?c5 ?_)
                                try (case c1 =>
                                  intro j u hj
                                  cases j with
                                  | zero =>
                                    simp at hj
                                    subst hj
                                    exact Lib.cell_of_heap (heap_alloc_new wr _) 0
                                  | succ j => simp at hj)
                                case c2 => first | rfl | (intro u hu; simp at hu; subst hu; rfl)
                                case c3 => unfold maxLen; omega
                                case c4 => omega
                                case c5 => have := hbz.size; simp; omega
                                intro v' w3 hown3 hgrow3 _
                                have hbr3 : Below w.heap.size w w3 := (hbz.alloc hbz.size _).grown hgrow3 (by have := hbz.size; simp; omega) (fun j hj => own_block hown j hj)
                                have HO3 : Hid (w3.ownsRow w.heap.size 5 1 v' (acc ++ [d]).length (Lib.byteCells (acc ++ [d]))) := Lib.hid (by rw [Lib.byteCells_append, List.length_append]; exact hown3)
                                clear hown3 hgrow3 hown hbz
                                go_wp2
                                go_roundw
                                case rel => exact ⟨k + 2, acc ++ [d], by omega, by go_num, by have := DN.out.2.2.2.1; have := DN.out.1; omega, HO3.out, hbr3, DN⟩
                                case measure => simp [intOf]; omega
                            · clear hoct
                              go_wp2_with (at_builtin; refine wpList_append_own _ rfl _ _ 31 rfl w.heap.size 5 i0 (.int .u8 0) 1 1 Tryd.underlying31 hi0 hz0 hz1 hz2 rfl (by decide) _ _ _ rfl (hown.alloc _) ⟨wr.heap.size, 0, none⟩ 1 1 [.int .u8 d.toNat] rfl rfl ?c1 ?c2 ?c3 ?c4 ?c5 ?_)
                              try (case c1 =>
                                intro j u hj
                                cases j with
                                | zero =>
                                  simp at hj
                                  subst hj
                                  exact Lib.cell_of_heap (heap_alloc_new wr _) 0
                                | succ j => simp at hj)
                              case c2 => first | rfl | (intro u hu; simp at hu; subst hu; rfl)
                              case c3 => unfold maxLen; omega
                              case c4 => omega
                              case c5 => have := hbz.size; simp; omega
                              intro v' w3 hown3 hgrow3 _
                              have hbr3 : Below w.heap.size w w3 := (hbz.alloc hbz.size _).grown hgrow3 (by have := hbz.size; simp; omega) (fun j hj => own_block hown j hj)
                              have HO3 : Hid (w3.ownsRow w.heap.size 5 1 v' (acc ++ [d]).length (Lib.byteCells (acc ++ [d]))) := Lib.hid (by rw [Lib.byteCells_append, List.length_append]; exact hown3)
                              clear hown3 hgrow3 hown hbz
                              go_wp2
                              go_roundw
                              case rel => exact ⟨k + 2, acc ++ [d], by omega, by go_num, by have := DN.out.2.2.2.1; have := DN.out.1; omega, HO3.out, hbr3, DN⟩
                              case measure => simp [intOf]; omega
                          · clear hoct
                            go_wp2_with (at_builtin; refine wpList_append_own _ rfl _ _ 31 rfl w.heap.size 5 i0 (.int .u8 0) 1 1 Tryd.underlying31 hi0 hz0 hz1 hz2 rfl (by decide) _ _ _ rfl (hown.alloc _) ⟨wr.heap.size, 0, none⟩ 1 1 [.int .u8 d.toNat] rfl rfl ?c1 ?c2 ?c3 ?c4 ?c5 ?_)
                            try (case c1 =>
                              intro j u hj
                              cases j with
                              | zero =>
                                simp at hj
                                subst hj
                                exact Lib.cell_of_heap (heap_alloc_new wr _) 0
                              | succ j => simp at hj)
                            case c2 => first | rfl | (intro u hu; simp at hu; subst hu; rfl)
                            case c3 => unfold maxLen; omega
                            case c4 => omega
                            case c5 => have := hbz.size; simp; omega
                            intro v' w3 hown3 hgrow3 _
                            have hbr3 : Below w.heap.size w w3 := (hbz.alloc hbz.size _).grown hgrow3 (by have := hbz.size; simp; omega) (fun j hj => own_block hown j hj)
                            have HO3 : Hid (w3.ownsRow w.heap.size 5 1 v' (acc ++ [d]).length (Lib.byteCells (acc ++ [d]))) := Lib.hid (by rw [Lib.byteCells_append, List.length_append]; exact hown3)
                            clear hown3 hgrow3 hown hbz
                            go_wp2
                            go_roundw
                            case rel => exact ⟨k + 2, acc ++ [d], by omega, by go_num, by have := DN.out.2.2.2.1; have := DN.out.1; omega, HO3.out, hbr3, DN⟩
                            case measure => simp [intOf]; omega
                        · have hk3a : ¬ (k : Int) + 1 + 2 < (i : Int) := by omega
                          clear hoct DA
                          go_wp2_with (at_builtin; refine wpList_append_own _ rfl _ _ 31 rfl w.heap.size 5 i0 (.int .u8 0) 1 1 Tryd.underlying31 hi0 hz0 hz1 hz2 rfl (by decide) _ _ _ rfl (hown.alloc _) ⟨wr.heap.size, 0, none⟩ 1 1 [.int .u8 d.toNat] rfl rfl ?c1 ?c2 ?c3 ?c4 ?c5 ?_)
                          try (case c1 =>
                            intro j u hj
                            cases j with
                            | zero =>
                              simp at hj
                              subst hj
                              exact Lib.cell_of_heap (heap_alloc_new wr _) 0
                            | succ j => simp at hj)
                          case c2 => first | rfl | (intro u hu; simp at hu; subst hu; rfl)
                          case c3 => unfold maxLen; omega
                          case c4 => omega
                          case c5 => have := hbz.size; simp; omega
                          intro v' w3 hown3 hgrow3 _
                          have hbr3 : Below w.heap.size w w3 := (hbz.alloc hbz.size _).grown hgrow3 (by have := hbz.size; simp; omega) (fun j hj => own_block hown j hj)
                          have HO3 : Hid (w3.ownsRow w.heap.size 5 1 v' (acc ++ [d]).length (Lib.byteCells (acc ++ [d]))) := Lib.hid (by rw [Lib.byteCells_append, List.length_append]; exact hown3)
                          clear hown3 hgrow3 hown hbz
                          go_wp2
                          go_roundw
                          case rel => exact ⟨k + 2, acc ++ [d], by omega, by go_num, by have := DN.out.2.2.2.1; have := DN.out.1; omega, HO3.out, hbr3, DN⟩
                          case measure => simp [intOf]; omega
                      · clear hoct DA
                        go_wp2_with (at_builtin; refine wpList_append_own _ rfl _ _ 31 rfl w.heap.size 5 i0 (.int .u8 0) 1 1 Tryd.underlying31 hi0 hz0 hz1 hz2 rfl (by decide) _ _ _ rfl (hown.alloc _) ⟨wr.heap.size, 0, none⟩ 1 1 [.int .u8 d.toNat] rfl rfl ?c1 ?c2 ?c3 ?c4 ?c5 ?_)
                        try (case c1 =>
                          intro j u hj
                          cases j with
                          | zero =>
                            simp at hj
                            subst hj
                            exact Lib.cell_of_heap (heap_alloc_new wr _) 0
                          | succ j => simp at hj)
                        case c2 => first | rfl | (intro u hu; simp at hu; subst hu; rfl)
                        case c3 => unfold maxLen; omega
                        case c4 => omega
                        case c5 => have := hbz.size; simp; omega
                        intro v' w3 hown3 hgrow3 _
                        have hbr3 : Below w.heap.size w w3 := (hbz.alloc hbz.size _).grown hgrow3 (by have := hbz.size; simp; omega) (fun j hj => own_block hown j hj)
                        have HO3 : Hid (w3.ownsRow w.heap.size 5 1 v' (acc ++ [d]).length (Lib.byteCells (acc ++ [d]))) := Lib.hid (by rw [Lib.byteCells_append, List.length_append]; exact hown3)
                        clear hown3 hgrow3 hown hbz
                        go_wp2
                        go_roundw
                        case rel => exact ⟨k + 2, acc ++ [d], by omega, by go_num, by have := DN.out.2.2.2.1; have := DN.out.1; omega, HO3.out, hbr3, DN⟩
                        case measure => simp [intOf]; omega
                    · clear hoct DA
                      go_wp2_with (at_builtin; refine wpList_append_own _ rfl _ _ 31 rfl w.heap.size 5 i0 (.int .u8 0) 1 1 Tryd.underlying31 hi0 hz0 hz1 hz2 rfl (by decide) _ _ _ rfl (hown.alloc _) ⟨wr.heap.size, 0, none⟩ 1 1 [.int .u8 d.toNat] rfl rfl ?c1 ?c2 ?c3 ?c4 ?c5 ?_)
                      try (case c1 =>
                        intro j u hj
                        cases j with
                        | zero =>
                          simp at hj
                          subst hj
                          exact Lib.cell_of_heap (heap_alloc_new wr _) 0
                        | succ j => simp at hj)
                      case c2 => first | rfl | (intro u hu; simp at hu; subst hu; rfl)
                      case c3 => unfold maxLen; omega
                      case c4 => omega
                      case c5 => have := hbz.size; simp; omega
                      intro v' w3 hown3 hgrow3 _
                      have hbr3 : Below w.heap.size w w3 := (hbz.alloc hbz.size _).grown hgrow3 (by have := hbz.size; simp; omega) (fun j hj => own_block hown j hj)
                      have HO3 : Hid (w3.ownsRow w.heap.size 5 1 v' (acc ++ [d]).length (Lib.byteCells (acc ++ [d]))) := Lib.hid (by rw [Lib.byteCells_append, List.length_append]; exact hown3)
                      clear hown3 hgrow3 hown hbz
                      go_wp2
                      go_roundw
                      case rel => exact ⟨k + 2, acc ++ [d], by omega, by go_num, by have := DN.out.2.2.2.1; have := DN.out.1; omega, HO3.out, hbr3, DN⟩
                      case measure => simp [intOf]; omega
            · have g1 : ((y.toNat : Int) != 92) = true := by simp; omega
              have DN : Hid (DecAt l i (k + 1) (acc ++ [y])) := Lib.hid (by
                have := DA.out.plain hlt hki (by rw [← YE.out]; exact y92)
                rw [YE.out]
                exact this)
              clear y92 DA
              go_wp2_with (at_builtin; refine wpList_append_own _ rfl _ _ 31 rfl w.heap.size 5 i0 (.int .u8 0) 1 1 Tryd.underlying31 hi0 hz0 hz1 hz2 rfl (by decide) _ _ _ rfl (hown.alloc _) ⟨wr.heap.size, 0, none⟩ 1 1 [.int .u8 y.toNat] rfl rfl ?p1 ?p2 ?p3 ?p4 ?p5 ?_)
              try (case p1 =>
                intro j u hj
                cases j with
                | zero =>
                  simp at hj
                  subst hj
                  exact Lib.cell_of_heap (heap_alloc_new wr _) 0
                | succ j => simp at hj)
              case p2 => first | rfl | (intro u hu; simp at hu; subst hu; rfl)
              case p3 => unfold maxLen; omega
              case p4 => omega
              case p5 => have := hbz.size; simp; omega
              intro v' w3 hown3 hgrow3 _
              have hbr3 : Below w.heap.size w w3 := (hbz.alloc hbz.size _).grown hgrow3 (by have := hbz.size; simp; omega) (fun j hj => own_block hown j hj)
              have HO3 : Hid (w3.ownsRow w.heap.size 5 1 v' (acc ++ [y]).length (Lib.byteCells (acc ++ [y]))) := Lib.hid (by rw [Lib.byteCells_append, List.length_append]; exact hown3)
              clear hown3 hgrow3 hown hbz
              go_wp2
              go_roundw
              case rel => exact ⟨k + 1, acc ++ [y], by omega, by go_num, by have := DN.out.2.2.2.1; omega, HO3.out, hbr3, DN⟩
              case measure => simp [intOf]; omega
          · obtain rfl : i = k := by omega
            obtain ⟨av, cv, rfl, hbat⟩ := own_slice hown
            have U2 : Hid (unqL l = if quoteL acc = l.take (i + 1) then (acc, i + 1, 0) else ([], 0, 4)) := Lib.hid (by
              have h := UH.out
              rw [DA.out.fin] at h
              exact h)
            have hcv := fun (W : World) (h : Below wr.heap.size wr W) => (hbat.keep h).conv (P := Tryd.prog) cv 31 5 Tryd.underlying31 Tryd.underlying5 9 Tryd.underlying9
            have CV := Lib.hid hcv
            have hc1 := hcv wr.drew (Below.refl _ _).drew
            have hx := HTK.out (i + 1)
            have CQ := Lib.hid (fun w => rQuote_is acc w (by have := HN.out; omega))
            have hbe := eq_texts (quoteL acc) (l.take (i + 1))
            obtain ⟨qb, hqb⟩ : ∃ qb : ByteArray, qb = ⟨(quoteL acc).toArray⟩ := ⟨_, rfl⟩
            obtain ⟨kb, hkb⟩ : ∃ kb : ByteArray, kb = ⟨(l.take (i + 1)).toArray⟩ := ⟨_, rfl⟩
            rw [← hqb, ← hkb] at hbe
            rw [← hqb] at CQ
            rw [← hkb] at hx
            have he2 : (i : Int) + 1 ≤ (l.length : Int) := by omega
            have he3 : ¬ ((i : Int) + 1 < 0) := by omega
            have he4 : (0 : Int) ≤ (i : Int) + 1 := by omega
            have qw := IntWalk.i64_in ((i : Int) + 1) (by omega)
            clear hcv hqb hkb hbat DA hown
            by_cases hq : quoteL acc = l.take (i + 1)
            · rw [decide_eq_true hq] at hbe
              have R := Lib.hid (show unqL l = (acc, i + 1, 0) by rw [U2.out, if_pos hq])
              clear hq U2
              go_wp2_with fail
              refine wp_region_any (by kernel_rfl) ?_
              change wpAny _ _ _ _ _ _ _ (World.drew _)
              refine wpAny_take (i := 0) (v := .slice av acc.length cv) rfl (by kernel_rfl) (by kernel_rfl) (by kernel_rfl) (fun _ _ _ h => h) (Or.inl ⟨by kernel_rfl, fun w => by go_simp⟩) ?_
              refine wpAny_take (i := 3) (v := .string s) rfl (by kernel_rfl) (by kernel_rfl) (by kernel_rfl) (fun _ _ _ h => h) (Or.inl ⟨by kernel_rfl, fun w => by go_simp⟩) ?_
              refine wpAny_take (i := 4) (v := .int .i64 i) rfl (by kernel_rfl) (by kernel_rfl) (by kernel_rfl) (fun _ _ _ h => h) (Or.inl ⟨by kernel_rfl, fun w => by go_simp⟩) ?_
              refine wpAny_take (i := 5) (v := .int .i64 ((i : Int) + 1)) rfl (by kernel_rfl) (by kernel_rfl) (by kernel_rfl) (fun _ _ _ h => h) (Or.inl ⟨by kernel_rfl, fun w => by go_simp⟩) ?_
              refine wpAny_take (i := 6) (v := .string kb) rfl (by kernel_rfl) (by kernel_rfl) (by kernel_rfl) (fun _ _ _ h => h) (Or.inl ⟨by kernel_rfl, fun w => by go_simp⟩) ?_
              refine wpAny_ready (rs := [1]) (by kernel_rfl) (by simp) ?_
              refine AllReady.cons rfl (fun K hK => ?_) AllReady.nil
              go_simp
              refine hK _ _ ?_
              clear hK K
              refine wpAny_ready (rs := [2]) (by kernel_rfl) (by simp) ?_
              refine AllReady.cons rfl (fun K hK => ?_) AllReady.nil
              go_simp
              refine (CQ.out _).mono ?_
              rintro e5 w5 ⟨rfl, b5w⟩
              have hq5 : Below wr.heap.size wr w5 := (Below.refl _ _).drew.trans b5w
              have b5 := hbz.trans (hq5.mono hbz.size)
              refine hK _ _ ?_
              clear hK K b5w
              refine wpAny_ready (rs := [7]) (by kernel_rfl) (by simp) ?_
              refine AllReady.cons rfl (fun K hK => ?_) AllReady.nil
              go_simp
              refine hK _ _ ?_
              clear hK K
              refine wpAny_done (by kernel_rfl) ?_ _
              have hc5 := CV.out w5 hq5
              go_wp2
              go_ret3
              exact ⟨by rw [R.out]; rfl, b5⟩
            · rw [decide_eq_false hq] at hbe
              have R := Lib.hid (show unqL l = ([], 0, 4) by rw [U2.out, if_neg hq])
              clear hq U2
              go_wp2_with fail
              refine wp_region_any (by kernel_rfl) ?_
              change wpAny _ _ _ _ _ _ _ (World.drew _)
              refine wpAny_take (i := 0) (v := .slice av acc.length cv) rfl (by kernel_rfl) (by kernel_rfl) (by kernel_rfl) (fun _ _ _ h => h) (Or.inl ⟨by kernel_rfl, fun w => by go_simp⟩) ?_
              refine wpAny_take (i := 3) (v := .string s) rfl (by kernel_rfl) (by kernel_rfl) (by kernel_rfl) (fun _ _ _ h => h) (Or.inl ⟨by kernel_rfl, fun w => by go_simp⟩) ?_
              refine wpAny_take (i := 4) (v := .int .i64 i) rfl (by kernel_rfl) (by kernel_rfl) (by kernel_rfl) (fun _ _ _ h => h) (Or.inl ⟨by kernel_rfl, fun w => by go_simp⟩) ?_
              refine wpAny_take (i := 5) (v := .int .i64 ((i : Int) + 1)) rfl (by kernel_rfl) (by kernel_rfl) (by kernel_rfl) (fun _ _ _ h => h) (Or.inl ⟨by kernel_rfl, fun w => by go_simp⟩) ?_
              refine wpAny_take (i := 6) (v := .string kb) rfl (by kernel_rfl) (by kernel_rfl) (by kernel_rfl) (fun _ _ _ h => h) (Or.inl ⟨by kernel_rfl, fun w => by go_simp⟩) ?_
              refine wpAny_ready (rs := [1]) (by kernel_rfl) (by simp) ?_
              refine AllReady.cons rfl (fun K hK => ?_) AllReady.nil
              go_simp
              refine hK _ _ ?_
              clear hK K
              refine wpAny_ready (rs := [2]) (by kernel_rfl) (by simp) ?_
              refine AllReady.cons rfl (fun K hK => ?_) AllReady.nil
              go_simp
              refine (CQ.out _).mono ?_
              rintro e5 w5 ⟨rfl, b5w⟩
              have hq5 : Below wr.heap.size wr w5 := (Below.refl _ _).drew.trans b5w
              have b5 := hbz.trans (hq5.mono hbz.size)
              refine hK _ _ ?_
              clear hK K b5w
              refine wpAny_ready (rs := [7]) (by kernel_rfl) (by simp) ?_
              refine AllReady.cons rfl (fun K hK => ?_) AllReady.nil
              go_simp
              refine hK _ _ ?_
              clear hK K
              refine wpAny_done (by kernel_rfl) ?_ _
              go_wp2
              go_ret3
              exact ⟨by rw [R.out]; rfl, b5⟩
      · have f1 : ((x.toNat : Int) != 34) = true := by simp; omega
        by_cases h92 : x.toNat = 92
        · have f2 : ((x.toNat : Int) == 92) = true := by simp [h92]
          have EN : Hid (E = i + 2 + endL (l.drop (i + 2))) := Lib.hid (by
            have h := EI.out
            rw [end_at l i hlt, if_neg (by rw [← XE.out]; exact h34), if_pos (by rw [← XE.out]; exact h92)] at h
            omega)
          clear h34 h92 EI
          go_wp2
          go_roundw
          case rel => exact ⟨i + 2, by omega, by omega, by go_num, hbr, EN⟩
          case measure => simp [intOf]; omega
        · have f2 : ((x.toNat : Int) == 92) = false := by simp; omega
          have EN : Hid (E = i + 1 + endL (l.drop (i + 1))) := Lib.hid (by
            have h := EI.out
            rw [end_at l i hlt, if_neg (by rw [← XE.out]; exact h34), if_neg (by rw [← XE.out]; exact h92)] at h
            omega)
          clear h34 h92 EI
          go_wp2
          go_roundw
          case rel => exact ⟨i + 1, by omega, by omega, by go_num, hbr, EN⟩
          case measure => simp [intOf]; omega
    · have R : Hid (unqL l = ([], 0, 3)) := Lib.hid (unq_short l H0.out (by
        have h := EI.out
        have h2 := HE.out
        omega))
      clear EI
      go_wp2
      go_ret3
      exact ⟨by rw [R.out]; rfl, hbr⟩
end Go.Proofs.YtkhfgddjnnibdaaDoor
