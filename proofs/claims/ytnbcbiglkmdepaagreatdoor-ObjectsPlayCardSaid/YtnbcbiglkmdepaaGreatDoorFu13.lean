/-
  Texts that belong together, one behind the other.
-/
import Derived.Test.YtnbcbiglkmdepaaGreatDoorFu01
import Derived.Test.YtnbcbiglkmdepaaGreatDoorFu12
import Derived.Test.YtnbcbiglkmdepaaGreatDoorFu06
import Derived.Test.YtnbcbiglkmdepaaGreatDoorFu08
import Derived.Lib.ItoaLen
import Derived.Deep.RegionHeld3
import Derived.Test.YtnbcbiglkmdepaaGreatDoorFu03
set_option maxHeartbeats 64000000
set_option linter.unusedVariables false
set_option linter.unusedSimpArgs false
open Go.Lib renaming hid → hyd
namespace Go.Proofs.YtnbcbiglkmdepaaGreatDoor
open Go.RowKit
abbrev Bu (B b : Nat) (l : List UInt8) (w : World) : Prop := Lib.IsBuilderF 253 5 B b (Lib.byteCells l) w
theorem Bu.lt {B b : Nat} {l : List UInt8} {w : World} (h : Bu B b l w) : b < w.heap.size := h.elim (fun x => x.lt) (fun x => x.lt)
theorem Bu.below {B b : Nat} {l : List UInt8} {w w' : World} (h : Bu B b l w) (hb : Below w.heap.size w w') : Bu B b l w' := by
 have key : ∀ p, Lib.BuilderAtF 253 5 B b p (Lib.byteCells l) w → Lib.BuilderAtF 253 5 B b p (Lib.byteCells l) w' := by
  intro p h; have hlt := h.lt; obtain ⟨hB, v, hv, hown, hne⟩ := h; exact ⟨hB, v, (hb.block b hlt).trans hv, hown.kept (row := none) ⟨hb.os, hb.tape, hb.output, hb.size, fun k hk _ => hb.block k hk⟩ (Classical.em _), hne⟩
 exact h.elim (fun x => .inl (key _ x)) (fun x => .inr (key _ x))
theorem Bu.new (w : World) : Bu w.heap.size w.heap.size [] (w.alloc (.cells #[.pointer none, .slice none 0 0] 253)) :=
 Lib.IsBuilderF.of (Or.inl ⟨Nat.le_refl _, .slice none 0 0, heap_alloc_new _ _, World.ownsRow_nil _ _ _ _, by simp [Value.ownBlock]⟩)
theorem Bu.byte {B b : Nat} {l : List UInt8} {w : World} (h : Bu B b l w) (hB : B ≤ w.heap.size) (hlen : l.length + 1 ≤ 140737488355328) (c : UInt8) (z : Int) (hz : z = (c.toNat : Int)) :
  Calls Tryz.prog 223 #[.pointer (some ⟨b, 0, none⟩), .int .u8 z] w fun e w' => e = .returned .nilIface ∧ Bu B b (l ++ [c]) w' ∧ Below B w w' ∧ Lib.OthersKept 5 (some b) w w' := by
 subst hz; refine (Tryz.Builder_WriteByte_k B b _ _ _ h (by rw [Lib.byteCells_length]; exact hlen) hB).mono ?_; rintro e w2 ⟨rfl, h2, b2, o2⟩; exact ⟨rfl, by unfold Bu; rw [Lib.byteCells_append]; exact Or.inr h2, b2, o2⟩
theorem Bu.str {B b : Nat} {l : List UInt8} {w : World} (h : Bu B b l w) (hB : B ≤ w.heap.size) (s : List UInt8) (hlen : l.length + s.length ≤ 140737488355328) :
  Calls Tryz.prog 221 #[.pointer (some ⟨b, 0, none⟩), .string ⟨s.toArray⟩] w fun e w' => e = .returned (.tuple #[.int .i64 s.length, .nilIface]) ∧ Bu B b (l ++ s) w' ∧ Below B w w' ∧ Lib.OthersKept 5 (some b) w w' := by
 refine (Tryz.Builder_WriteString_k B b _ _ _ h (by rw [Lib.byteCells_length, size_toArray]; exact hlen) hB).mono ?_; rintro e w2 ⟨rfl, h2, b2, o2⟩; rw [Lib.strCells_eq] at h2; exact ⟨by rw [size_toArray], by unfold Bu; rw [Lib.byteCells_append]; exact Or.inr h2, b2, o2⟩
theorem Bu.text {B b : Nat} {l : List UInt8} {w : World} (h : Bu B b l w) (hB : B ≤ w.heap.size) :
  Calls Tryz.prog 206 #[.pointer (some ⟨b, 0, none⟩)] w fun e w' => e = .returned (.string ⟨l.toArray⟩) ∧ Below B w w' := by
 refine (Tryz.Builder_String_any_k B b l _ h hB).mono ?_; rintro e w2 ⟨rfl, _, b2, _⟩; exact ⟨rfl, b2⟩
theorem getD_mk (l : List UInt8) (i : Nat) (h : i < l.length) (h2 : i < (⟨l.toArray⟩ : ByteArray).size) : (⟨l.toArray⟩ : ByteArray)[i]'h2 = l.getD i 0 := by
 have := Lib.getElem_mk l i h2; rw [List.getD_eq_getElem?_getD, this]; rfl
theorem low_good (x : List UInt8) (h : x ≠ []) (h0 : (x.getD 0 0).toNat < 128) : goodL x ∧ widL x = 1 := by
 refine ⟨?_, wid_low x h h0⟩; unfold goodL; rw [decodeL_N]; unfold Lib.decodeN; rw [if_pos h0]; simp only
 omega
theorem val_next (l : List UInt8) (i : Nat) (h : valT l = l.take i ++ valT (l.drop i)) (hi : i < l.length) (hg : goodL (l.drop i)) :
  valT l = l.take (i + widL (l.drop i)) ++ valT (l.drop (i + widL (l.drop i))) := by
 rw [valT_step (l.drop i) (drop_ne l i hi), if_pos hg, List.drop_drop, ← List.append_assoc, ← List.take_add] at h; exact h
theorem val_put (l out m : List UInt8) (j : Nat) (h : valT l = out ++ valT (m.drop j)) (hj : j < m.length) (hg : goodL (m.drop j)) :
  valT l = (out ++ (m.drop j).take (widL (m.drop j))) ++ valT (m.drop (j + widL (m.drop j))) := by
 rw [valT_step (m.drop j) (drop_ne m j hj), if_pos hg, List.drop_drop, ← List.append_assoc] at h; exact h
theorem val_skip (l out m : List UInt8) (j : Nat) (h : valT l = out ++ valT (m.drop j)) (hj : j < m.length) (hg : ¬ goodL (m.drop j)) : valT l = out ++ valT (m.drop (j + 1)) := by
 rw [valT_step (m.drop j) (drop_ne m j hj), if_neg hg, List.drop_drop, bad_wid _ hg] at h; exact h
theorem val_low (l out m : List UInt8) (j : Nat) (h : valT l = out ++ valT (m.drop j)) (hj : j < m.length) (h0 : (m.getD j 0).toNat < 128) : valT l = (out ++ [m.getD j 0]) ++ valT (m.drop (j + 1)) := by
 have e : (m.drop j).getD 0 0 = m.getD j 0 := by simp [List.getD_eq_getElem?_getD, List.getElem?_drop]
 obtain ⟨h1, h2⟩ := low_good (m.drop j) (drop_ne m j hj) (by rw [e]; exact h0); have := val_put l out m j h hj h1; rw [h2] at this; rw [this]
 congr 2
 cases hd : m.drop j with
 | nil => exact absurd hd (drop_ne m j hj)
 | cons c r => rw [hd] at e; rw [← e]; rfl
theorem val_end (l out m : List UInt8) (h : valT l = out ++ valT (m.drop m.length)) : valT l = out := by
 rw [List.drop_length, valT_nil, List.append_nil] at h; exact h
theorem Bu.rune {B b : Nat} {l : List UInt8} {w : World} (h : Bu B b l w) (hB : B ≤ w.heap.size) (x : List UInt8) (hx : x ≠ []) (hg : goodL x) (hlen : l.length + 4 ≤ 140737488355328) (r : Int) (hr : r = ((Lib.decodeL x).1 : Int)) :
  Calls Tryz.prog 205 #[.pointer (some ⟨b, 0, none⟩), .int .i32 r] w fun e w' => e = .returned (.tuple #[.int .i64 (Lib.runeCells r).length, .nilIface]) ∧ Bu B b (l ++ x.take (widL x)) w' ∧ Below B w w' ∧ Lib.OthersKept 5 (some b) w w' := by
 have hb : (Lib.decodeL x).1 ≤ 2147483647 := by
  have hr := rune_at x 0 (by cases x with | nil => exact absurd rfl hx | cons _ _ => simp); rw [dec_drop, List.drop_zero] at hr
  rcases hr with ⟨h1, h2⟩ | ⟨_, _, h3, _⟩
  ·rw [h2]; simp only; omega
  ·exact h3
 refine (Tryz.Builder_WriteRune_k B b _ r (by omega) (by omega) w h (by rw [Lib.byteCells_length]; exact hlen) hB).mono ?_; rintro e w2 ⟨rfl, h2, b2, o2⟩; refine ⟨rfl, ?_, b2, o2⟩; rw [← Lib.byteCells_encodeRune, hr, Lib.encode_decode x hx hg] at h2; unfold Bu; rw [Lib.byteCells_append]; exact Or.inr h2
theorem cap_of {B b : Nat} {bs : List Value} {p : Value} {w : World} (h : Lib.BuilderAtF 253 5 B b p bs w) : ∃ a n c, w.cell? ⟨b, 1, none⟩ = some (.slice a n c) := by
 obtain ⟨_, v, hbk, hown, _⟩ := h
 have hc : w.cell? ⟨b, 1, none⟩ = some v := by rw [Lib.cell_of_heap hbk]; rfl
 rcases hown.2 with ⟨hv, _⟩ | ⟨g, cap, cur, fz, hv, _⟩
 ·exact ⟨_, _, _, by rw [hc, hv]⟩
 ·exact ⟨_, _, _, by rw [hc, hv]⟩
theorem Grow_new {B b n : Nat} {w : World} (hB : B ≤ b) (hbk : w.heap[b]? = some (.cells #[.pointer none, .slice none 0 0] 253 (0, 0))) (hBw : B ≤ w.heap.size) (hn : n ≤ 281474976710656) (z : Int) (hz : z = n) :
  Calls Tryz.prog 220 #[.pointer (some ⟨b, 0, none⟩), .int .i64 z] w fun e w' => e = .returned (.tuple #[]) ∧ Bu B b [] w' ∧ Below B w w' ∧ ∃ p cap : _, w'.cell? ⟨b, 1, none⟩ = some (.slice p 0 cap) ∧ n ≤ cap := by
 subst hz; refine (Tryz.Builder_Grow_fresh_cap B b n w hB hbk hBw hn).mono ?_; rintro e w2 ⟨rfl, ⟨h1, h2⟩, h3⟩; exact ⟨rfl, Or.inr (Lib.BuilderAtF.of h1), h2, h3⟩
theorem Str_new {B b : Nat} {w : World} (h : Bu B b [] w) (hB : B ≤ w.heap.size) (s : List UInt8) (hlen : s.length ≤ 1000000) (p : Option Addr) (n c : Nat) (hc : w.cell? ⟨b, 1, none⟩ = some (.slice p n c)) (h1 : 1 ≤ c) :
  Calls Tryz.prog 221 #[.pointer (some ⟨b, 0, none⟩), .string ⟨s.toArray⟩] w fun e w' => e = .returned (.tuple #[.int .i64 s.length, .nilIface]) ∧ Bu B b s w' ∧ Below B w w' ∧ ∃ p n c : _, w'.cell? ⟨b, 1, none⟩ = some (.slice p n c) ∧ 1 ≤ c := by
 refine (Tryz.Builder_WriteString_kc B b _ _ _ h (by rw [Lib.byteCells_length, size_toArray]; simp; omega) hB).mono ?_; rintro e w2 ⟨rfl, ⟨h2, b2, o2⟩, h3⟩; obtain ⟨v1, e1, le1⟩ := h3 _ hc; obtain ⟨a, n', c', e2⟩ := cap_of h2; rw [e2] at e1
 cases e1
 rw [Lib.strCells_eq] at h2; refine ⟨by rw [size_toArray], Or.inr (by simpa [Lib.byteCells] using h2), b2, a, n', c', e2, Nat.le_trans h1 le1⟩
set_option maxRecDepth 100000 in
theorem ToValid_is (l : List UInt8) (w : World) (hn : l.length ≤ 1000000) (hT : Lib.Utf8Tabs 2 3 w) :
  Calls Tryz.prog 203 #[.string ⟨l.toArray⟩, .string ⟨#[]⟩] w fun e w' => e = .returned (.string ⟨(valT l).toArray⟩) ∧ Below w.heap.size w w' := by
 have RI := hyd (rune_int l); have hsz := size_toArray l; have DD := hyd (dec_drop l); have EX := hyd (ext_upto l); have EF := hyd (fun k => ext_from l k l.length rfl); obtain ⟨s, hs⟩ : ∃ s : ByteArray, s = ⟨l.toArray⟩ := ⟨_, rfl⟩; have HS := hyd hs; rw [← hs] at RI hsz DD EX EF ⊢; clear hs; have HT := hyd hT; have it0 : ((w.alloc (.cells #[.pointer none, .slice none 0 0] 253)).iter s 0).heap[w.heap.size + 1]? = some (.stringIter s 0) := heap_alloc2_new _ _ _; have nb0 : ((w.alloc (.cells #[.pointer none, .slice none 0 0] 253)).iter s 0).heap[w.heap.size]? = some (.cells #[.pointer none, .slice none 0 0] 253 (0, 0)) := heap_alloc2_old _ _ _; have bl0 : Below w.heap.size w ((w.alloc (.cells #[.pointer none, .slice none 0 0] 253)).iter s 0) := ((Below.refl w.heap.size w).alloc (Nat.le_refl _) _).alloc (by simp) _; have V0 := hyd (show valT l = l.take 0 ++ valT (l.drop 0) by simp); have IT := hyd it0; have NB := hyd nb0; have BL := hyd bl0; clear hT it0 nb0 bl0
 go_enter Tryz.func203, Tryz.ntmps203
 go_wp2_with fail
 go_loopw [0] (fun v0 wr => v0 = .string s ∧ ∃ i : Nat, i ≤ l.length ∧ valT l = l.take i ++ valT (l.drop i) ∧ wr.heap[w.heap.size + 1]? = some (.stringIter s i) ∧ wr.heap[w.heap.size]? = some (.cells #[.pointer none, .slice none 0 0] 253 (0, 0)) ∧ Below w.heap.size w wr) (fun _ wr => l.length - wr.iterPos (w.heap.size + 1))
 case atStart => exact ⟨rfl, 0, Nat.zero_le _, V0.out, IT.out, NB.out, BL.out⟩
 case round =>
  clear V0 IT NB BL; obtain ⟨rfl, i, hi, hv, hit, hnb, hbr⟩ := hrel; have HV := hyd hv; clear hv
  by_cases hlt : i < l.length
  ·have hnx := fun ty => Lib.run_next_any_at (P := Tryz.prog) wr (w.heap.size + 1) s i ty hit (by omega)
   obtain ⟨r, k, hr, hk, hr0, hr1, hk1, hkl, hw⟩ := RI.out i hlt; rw [← hr, ← hk] at hnx; have HR := hyd hr; have HK := hyd hk; have HR2 := hyd (show r = ((Lib.decodeL (l.drop i)).1 : Int) by rw [hr, DD.out]); have HK2 := hyd (show k = widL (l.drop i) by rw [hk, DD.out]; rfl); clear hr hk hw; have HP := hyd (show wr.iterPos (w.heap.size + 1) = i by simp [World.iterPos, hit]); have hit2 := Lib.iterAt_heap wr (w.heap.size + 1) s i (i + k) hit; have hbr2 := Lib.below_iterAt hbr (k := w.heap.size + 1) (by omega) s (i + k); have hnb2 := (Lib.iterAt_other wr (w.heap.size + 1) w.heap.size s (i + k) (by omega)).trans hnb; generalize wr.iterAt (w.heap.size + 1) s (i + k) = w3 at hnx hit2 hbr2 hnb2; clear hit hbr hnb
   by_cases c1 : r = 65533
   ·have HT3 := hyd (Utf8Tabs_below HT.out hbr2)
    have hi2 : (i : Int) ≤ (s.size : Int) := by omega
    have hi3 : (i : Int) ≤ (l.length : Int) := by omega
    have lt3 : w.heap.size + 1 < w3.heap.size := (Array.getElem?_eq_some_iff.1 hit2).1
    have f1 : (r == 65533) = true := by simp [c1]
    have f2 : (r != 65533) = false := by simp [c1]
    have C1 := hyd c1; clear c1
    go_wp2_with fail
    refine (decode_from s i l.length hsz hlt r k HR.out HK.out _ HT3.out).mono ?_; rintro e w4 ⟨rfl, b4⟩; have hit4 := (b4.block _ lt3).trans hit2; have hnb4 := (b4.block w.heap.size (by omega)).trans hnb2; have hbr4 := hbr2.trans (b4.mono hbr2.size); clear HT3 hit2 hnb2 hbr2
    by_cases k1 : k = 1
    ·have bad : ¬ goodL (l.drop i) := fun hg => hg ⟨by have := HR2.out; have := C1.out; omega, by have := HK2.out; show widL _ = 1; omega⟩
     have f3 : ((k : Int) == 1) = true := by simp [k1]
     have hb4 : w.heap.size ≤ w4.heap.size := hbr4.size
     have i0 : (0 : Int) ≤ (i : Int) := by omega
     have BAD := hyd bad; clear bad k1 f1 f2; have hd : (l.drop i).length = l.length - i := List.length_drop; have hm := ext_from l i l.length rfl; rw [← HS.out] at hm; have HM := hyd hm; have V2 := hyd (show valT l = l.take i ++ valT ((l.drop i).drop 0) by rw [List.drop_zero]; exact HV.out); have HL := hyd (show (l.take i).length ≤ i by rw [List.length_take]; omega); generalize l.drop i = m at hd HM V2 BAD HR2 HK2; have HD := hyd hd
     have hml : m.length ≤ 1000000 := by omega
     clear hm hd HR2 HK2
     go_wp2_with fail
     refine (Grow_new (n := l.length) (Nat.le_refl _) hnb4 hb4 (by omega) _ (by first | rfl | omega | simp)).mono ?_; rintro e w5 ⟨rfl, i5, b5, p5, cap5, c5, le5⟩; have hbr5 := hbr4.trans b5; have cS := Str_new i5 hbr5.size (l.take i) (by rw [List.length_take]; omega) p5 0 cap5 c5 (by omega); rw [← EX.out i] at cS; clear c5 i5 b5 hnb4 hit4
     go_wp2_with fail
     refine cS.mono ?_; rintro e w6 ⟨rfl, i6, b6, p6, n6, cap6, c6, le6⟩; have hbr6 := hbr5.trans b6
     have f6 : ((cap6 : Int) == 0) = false := by simp; omega
     clear cS b6
     go_wp2_with fail
     refine (Cap_cell w.heap.size p6 n6 cap6 _ c6).mono ?_; rintro e w7 ⟨rfl, rfl⟩; clear c6 le6 le5; have hm := HM.out; generalize s.extract i l.length = t at hm
     have hts : t.size = m.length := by rw [hm, size_toArray]
     have hget : ∀ j, j < m.length → ∀ h2 : j < t.size, t[j]'h2 = m.getD j 0 := by subst hm; exact fun i h h2 => getD_mk m i h h2
     have GET := hyd hget; have MID := hyd (show ∀ j k : Nat, t.extract j (j + k) = ⟨((m.drop j).take k).toArray⟩ by intro j k; rw [hm, Lib.extract_mk, Nat.add_sub_cancel_left]); have RM := hyd (rune_int m); have DM := hyd (dec_drop m); rw [← hm] at RM DM; have I6 := hyd i6; have B6 := hyd hbr6; clear hget hm i6 hbr6 hbr5 hbr4
     go_wp2_with fail
     go_loopw [10, 11] (fun v10 v11 wz => ∃ (iv : Bool) (j : Nat) (out : List UInt8), j ≤ m.length ∧ v10 = .bool iv ∧ v11 = .int .i64 j ∧ valT l = out ++ valT (m.drop j) ∧ out.length ≤ i + j ∧ Bu w.heap.size w.heap.size out wz ∧ Below w.heap.size w wz) (fun _ v11 _ => m.length - (intOf v11).toNat)
     case atStart => exact ⟨false, 0, l.take i, Nat.zero_le _, rfl, rfl, V2.out, HL.out, I6.out, B6.out⟩
     case round =>
      clear I6 B6 V2 HL; obtain ⟨iv, j, out, hj, rfl, rfl, hvj, houtl, hbu, hbrj⟩ := hrel; have VJ := hyd hvj; have OL := hyd houtl
      have ol2 : out.length ≤ 1000000 := by have := HD.out; omega
      clear hvj houtl
      by_cases hjl : j < m.length
      ·have j1 : (j : Int) < (t.size : Int) := by omega
       have j2 : (j : Int) < (m.length : Int) := by omega
       have hx := GET.out j hjl (by omega); have XL := hyd (val_low l out m j VJ.out hjl); have xhi := val_skip l out m j VJ.out hjl; obtain ⟨r2, k2, hr, hk, hr0, hr1, hk1, hkl, hw⟩ := RM.out j hjl
       have hk2 : k2 = widL (m.drop j) := by rw [hk, DM.out]; rfl
       have hgk : (m.getD j 0).toNat ≥ 128 → k2 ≠ 1 → goodL (m.drop j) := fun _ h hg => h (by rw [hk2]; exact hg.2)
       have hgb : (m.getD j 0).toNat ≥ 128 → k2 = 1 → ¬ goodL (m.drop j) := fun h0 h hg => by
        have e : (m.drop j).getD 0 0 = m.getD j 0 := by simp [List.getD_eq_getElem?_getD, List.getElem?_drop]
        have := good_high (m.drop j) (drop_ne m j hjl) (by rw [e]; exact h0) hg
        omega
       obtain ⟨x, hxe⟩ : ∃ x : UInt8, x = m.getD j 0 := ⟨_, rfl⟩; rw [← hxe] at hx XL hgk hgb; have HR3 := hyd hr; have HK3 := hyd hk; have HK4 := hyd hk2; clear hxe hw hr hk hk2
       by_cases lo : x.toNat < 128
       ·have XL2 := hyd (XL.out lo)
        clear xhi hgk hgb
        go_wp2_with fail
        refine (hbu.byte hbrj.size (by omega) x _ (by rfl)).mono ?_; rintro e w8 ⟨rfl, i8, b8, o8⟩; have hbr8 := hbrj.trans b8; go_wp2
        go_roundw
        case rel => exact ⟨false, j + 1, out ++ [x], by omega, rfl, by go_num, XL2.out, by have := OL.out; simp; omega, i8, hbr8⟩
        case measure => simp [intOf]; omega
       ·have hi128 : 128 ≤ x.toNat := by omega
        have HT8 := hyd (Utf8Tabs_below HT.out hbrj); clear XL lo
        by_cases k1 : k2 = 1
        ·have SK := hyd (xhi (hgb (by omega) k1))
         have f8 : ((k2 : Int) == 1) = true := by simp [k1]
         clear xhi hgk hgb k1
         go_wp2_with fail
         refine (decode_from t j m.length hts hjl r2 k2 HR3.out HK3.out _ HT8.out).mono ?_; rintro e w8 ⟨rfl, b8⟩; have hbu8 := hbu.below b8; have hbr8 := hbrj.trans (b8.mono hbrj.size); clear hbu hbrj b8 HT8
         cases iv with
         | true =>
          go_wp2
          go_roundw
          case rel => exact ⟨true, j + 1, out, by omega, rfl, by go_num, SK.out, by have := OL.out; omega, hbu8, hbr8⟩
          case measure => simp [intOf]; omega
         | false =>
          go_wp2_with fail
          refine (hbu8.str hbr8.size [] (by simp; omega)).mono ?_; rintro e w9 ⟨rfl, i9, b9, o9⟩; have hbr9 := hbr8.trans b9; rw [List.append_nil] at i9; go_wp2
          go_roundw
          case rel => exact ⟨true, j + 1, out, by omega, rfl, by go_num, SK.out, by have := OL.out; omega, i9, hbr9⟩
          case measure => simp [intOf]; omega
        ·have GD := hgk (by omega) k1
         have PU := val_put l out m j VJ.out hjl GD; rw [← HK4.out] at PU; have PUT := hyd PU
         have f8 : ((k2 : Int) == 1) = false := by simp; omega
         have TL := hyd (show ((m.drop j).take k2).length ≤ k2 by rw [List.length_take]; omega)
         have jk : (j : Int) + (k2 : Int) ≤ (t.size : Int) := by omega
         have jk2 : (j : Int) + (k2 : Int) ≤ (m.length : Int) := by omega
         clear xhi hgk hgb k1 GD PU
         go_wp2_with fail
         refine (decode_from t j m.length hts hjl r2 k2 HR3.out HK3.out _ HT8.out).mono ?_; rintro e w8 ⟨rfl, b8⟩; have hbu8 := hbu.below b8; have hbr8 := hbrj.trans (b8.mono hbrj.size); clear hbu hbrj b8 HT8; have cW := hbu8.str hbr8.size ((m.drop j).take k2) (by have := TL.out; omega); rw [← MID.out j k2] at cW
         go_wp2_with fail
         refine cW.mono ?_; rintro e w9 ⟨rfl, i9, b9, o9⟩; have hbr9 := hbr8.trans b9; go_wp2
         go_roundw
         case rel => exact ⟨false, j + k2, out ++ (m.drop j).take k2, by omega, rfl, by go_num, PUT.out, by have := OL.out; have := TL.out; rw [List.length_append]; omega, i9, hbr9⟩
         case measure => simp [intOf]; omega
      ·obtain rfl : j = m.length := by omega
       have E := hyd (val_end l out m VJ.out)
       go_wp2_with fail
       refine (hbu.text hbrj.size).mono ?_; rintro e w8 ⟨rfl, b8⟩; go_wp2; go_ret; exact ⟨by rw [E.out]; rfl, hbrj.trans b8⟩
    ·have good : goodL (l.drop i) := fun hg => k1 (by rw [HK2.out]; exact hg.2)
     have f3 : ((k : Int) == 1) = false := by simp; omega
     have NV := hyd (val_next l i HV.out hlt good); clear good k1; go_wp2
     go_roundw
     case rel => exact ⟨rfl, i + k, by omega, by rw [HK2.out]; exact NV.out, hit4, hnb4, hbr4⟩
     case measure =>
      rw [HP.out, show World.iterPos _ (w.heap.size + 1) = i + k by simp [World.iterPos, hit4]]
      omega
   ·have good : goodL (l.drop i) := fun hg => c1 (by rw [HR2.out]; exact congrArg Int.ofNat hg.1)
    have NV := hyd (val_next l i HV.out hlt good)
    have f2 : (r != 65533) = true := by simp [c1]
    clear good; go_wp2
    go_roundw
    case rel => exact ⟨rfl, i + k, by omega, by rw [HK2.out]; exact NV.out, hit2, hnb2, hbr2⟩
    case measure =>
     rw [HP.out, show World.iterPos _ (w.heap.size + 1) = i + k by simp [World.iterPos, hit2]]
     omega
  ·obtain rfl : i = l.length := by omega
   have hnx := fun ty => Lib.run_next_end_at (P := Tryz.prog) wr (w.heap.size + 1) s l.length ty hit (by omega)
   have hc : wr.cell? ⟨w.heap.size, 1, none⟩ = some (.slice none 0 0) := by rw [Lib.cell_of_heap hnb]; rfl
   have E := hyd (show s = ⟨(valT l).toArray⟩ by rw [HV.out, List.take_length, List.drop_length, valT_nil, List.append_nil]; exact HS.out)
   go_wp2_with fail
   refine (Cap_cell w.heap.size none 0 0 _ hc).mono ?_; rintro e w4 ⟨rfl, rfl⟩; go_wp2; go_ret; exact ⟨by rw [← E.out]; rfl, hbr⟩
theorem free_keep (f out v : List UInt8) (i : Nat) (h : f = out ++ (pieces (v.drop i)).flatten) (hi : i < v.length) (hv : Lib.validD (v.drop i) = true) (hb : barR (Lib.decodeL (v.drop i)).1 = false) :
  f = (out ++ (v.drop i).take (widL (v.drop i))) ++ (pieces (v.drop (i + widL (v.drop i)))).flatten ∧ Lib.validD (v.drop (i + widL (v.drop i))) = true := by
 have hne := drop_ne v i hi; obtain ⟨hg, hv2⟩ := good_of_valid _ hne hv; rw [pieces_step _ hne, if_pos ((keep_iff _ hne hg).2 hb), List.flatten_cons, List.drop_drop, ← List.append_assoc] at h; rw [List.drop_drop] at hv2; exact ⟨h, hv2⟩
theorem free_skip (f out v : List UInt8) (i : Nat) (h : f = out ++ (pieces (v.drop i)).flatten) (hi : i < v.length) (hv : Lib.validD (v.drop i) = true) (hb : barR (Lib.decodeL (v.drop i)).1 = true) :
  f = out ++ (pieces (v.drop (i + widL (v.drop i)))).flatten ∧ Lib.validD (v.drop (i + widL (v.drop i))) = true := by
 have hne := drop_ne v i hi; obtain ⟨hg, hv2⟩ := good_of_valid _ hne hv; rw [pieces_step _ hne, if_neg (fun hk => by rw [(keep_iff _ hne hg).1 hk] at hb; cases hb), List.drop_drop] at h; rw [List.drop_drop] at hv2; exact ⟨h, hv2⟩
set_option maxRecDepth 100000 in
theorem allowed_is (l : List UInt8) (w : World) (hn : l.length ≤ 1000000) (hT : Lib.Utf8Tabs 2 3 w) :
  Calls Tryz.prog 185 #[.string ⟨l.toArray⟩] w fun e w' => e = .returned (.string ⟨(freeT l).toArray⟩) ∧ Below w.heap.size w w' := by
 have BN := hyd (Bu.new w); have B1 := hyd ((Below.refl w.heap.size w).alloc (Nat.le_refl _) (.cells #[.pointer none, .slice none 0 0] 253)); have TV := hyd (ToValid_is l (w.alloc (.cells #[.pointer none, .slice none 0 0] 253)) hn (Utf8Tabs_below hT B1.out)); have VL := valT_len l; have VV := valT_valid l; have V0 := hyd (show freeT l = [] ++ (pieces ((valT l).drop 0)).flatten by rw [List.drop_zero, valT_pieces, List.nil_append]; rfl); have VV0 := hyd (show Lib.validD ((valT l).drop 0) = true by rw [List.drop_zero]; exact VV); obtain ⟨f, hf⟩ : ∃ f, f = freeT l := ⟨_, rfl⟩; rw [← hf] at V0 ⊢; clear hf VV; generalize valT l = v at TV V0 VV0 VL
 have hvl : v.length ≤ 1000000 := by omega
 have RI := hyd (rune_int v); have hsz := size_toArray v; have DD := hyd (dec_drop v); generalize (⟨v.toArray⟩ : ByteArray) = t at TV RI hsz DD
 go_enter Tryz.func185, Tryz.ntmps185
 go_wp2_with fail
 refine TV.out.mono ?_; rintro e w1 ⟨rfl, b1⟩; have hb1 := B1.out.trans (b1.mono B1.out.size); have bn1 := BN.out.below b1; have lt1 := bn1.lt; have it1 := World.iter_heap w1 t 0; have i10 : Bu w.heap.size w.heap.size [] (w1.iter t 0) := bn1.alloc _; have hb10 := hb1.alloc hb1.size (.stringIter t 0); have hsz1 := hb1.size; have I1 := hyd i10; have B10 := hyd hb10; clear TV BN B1 bn1 b1 hb1 i10 hb10
 go_wp2_with fail
 go_loopw [] (fun wr => ∃ (i : Nat) (out : List UInt8), i ≤ v.length ∧ f = out ++ (pieces (v.drop i)).flatten ∧ Lib.validD (v.drop i) = true ∧ out.length ≤ i ∧ wr.heap[w1.heap.size]? = some (.stringIter t i) ∧ Bu w.heap.size w.heap.size out wr ∧ Below w.heap.size w wr) (fun wr => v.length - wr.iterPos w1.heap.size)
 case atStart => exact ⟨0, [], Nat.zero_le _, V0.out, VV0.out, Nat.le_refl _, it1, I1.out, B10.out⟩
 case round =>
  clear I1 B10 it1 V0 VV0; obtain ⟨i, out, hi, hfo, hval, hol, hit, hbu, hbr⟩ := hrel; have FO := hyd hfo; have VA := hyd hval; clear hfo hval
  by_cases hlt : i < v.length
  ·have hnx := fun ty => Lib.run_next_any_at (P := Tryz.prog) wr w1.heap.size t i ty hit (by omega)
   obtain ⟨r, k, hr, hk, hr0, hr1, hk1, hkl, hw⟩ := RI.out i hlt; rw [← hr, ← hk] at hnx; obtain ⟨n, hnn⟩ : ∃ n : Nat, n = (Lib.decodeL (v.drop i)).1 := ⟨_, rfl⟩
   have hrn : r = (n : Int) := by rw [hr, DD.out, hnn]
   have HK2 := hyd (show k = widL (v.drop i) by rw [hk, DD.out]; rfl); have KP := hyd (free_keep f out v i FO.out hlt VA.out); have SK := hyd (free_skip f out v i FO.out hlt VA.out); rw [← hnn, ← HK2.out] at KP SK; have GD := hyd (good_of_valid (v.drop i) (drop_ne v i hlt) VA.out).1; have HN := hyd hnn; have TK := hyd (show ((v.drop i).take k).length ≤ k by rw [List.length_take]; omega); clear hr hk hw hnn; subst hrn; have HP := hyd (show wr.iterPos w1.heap.size = i by simp [World.iterPos, hit]); have hit2 := Lib.iterAt_heap wr w1.heap.size t i (i + k) hit; have hbu2 : Bu w.heap.size w.heap.size _ _ := hbu.iterAt hit (i + k); have hbr2 := Lib.below_iterAt hbr (k := w1.heap.size) (by omega) t (i + k); generalize wr.iterAt w1.heap.size t (i + k) = w3 at hnx hit2 hbu2 hbr2; clear hit hbu hbr
   cases hbar : barR n with
   | true =>
    obtain ⟨s1, s2⟩ := SK.out hbar; have S1 := hyd s1; have S2 := hyd s2
    have cB := fun w => barred_is n (by omega) w
    rw [hbar] at cB; clear s1 s2 hbar
    go_wp2_with fail
    refine (cB _).mono ?_; rintro e w4 ⟨rfl, rfl⟩; go_wp2
    go_roundw
    case rel => exact ⟨i + k, out, by omega, S1.out, S2.out, by omega, hit2, hbu2, hbr2⟩
    case measure =>
     rw [HP.out, show World.iterPos _ w1.heap.size = i + k by simp [World.iterPos, hit2]]
     omega
   | false =>
    obtain ⟨s1, s2⟩ := KP.out hbar; have S1 := hyd s1; have S2 := hyd s2
    have cB := fun w => barred_is n (by omega) w
    rw [hbar] at cB; have cW := hbu2.rune hbr2.size (v.drop i) (drop_ne v i hlt) GD.out (by omega) (n : Int) (by rw [HN.out]); rw [← HK2.out] at cW; clear s1 s2 hbar
    go_wp2_with fail
    refine (cB _).mono ?_; rintro e w4 ⟨rfl, rfl⟩
    go_wp2_with fail
    refine cW.mono ?_; rintro e w5 ⟨rfl, i5, b5, o5⟩; have hit5 := o5.iter hit2 (by omega); have hbr5 := hbr2.trans b5; go_wp2
    go_roundw
    case rel => exact ⟨i + k, out ++ (v.drop i).take k, by omega, S1.out, S2.out, by have := TK.out; rw [List.length_append]; omega, hit5, i5, hbr5⟩
    case measure =>
     rw [HP.out, show World.iterPos _ w1.heap.size = i + k by simp [World.iterPos, hit5]]
     omega
  ·obtain rfl : i = v.length := by omega
   have hnx := fun ty => Lib.run_next_end_at (P := Tryz.prog) wr w1.heap.size t v.length ty hit (by omega)
   have E := hyd (show f = out by have := FO.out; rw [List.drop_length, pieces_nil] at this; simpa using this)
   go_wp2_with fail
   refine (hbu.text hbr.size).mono ?_; rintro e w4 ⟨rfl, b4⟩; go_wp2; go_ret; exact ⟨by rw [E.out]; rfl, hbr.trans b4⟩
set_option maxRecDepth 100000 in
theorem Clean_is (l : List UInt8) (w : World) (hn : l.length ≤ 1000000) (hT : Lib.Utf8Tabs 2 3 w) :
  Calls Tryz.prog 165 #[.string ⟨l.toArray⟩] w fun e w' => e = .returned (.string ⟨(cleanT l).toArray⟩) ∧ Below w.heap.size w w' := by
 have hpl := pieces_len l; have hll := lstrip_len (pieces l); have c1 := allowed_is l w hn hT
 have c2 := fun w => Tryz.strings_TrimLeft_one ⟨(freeT l).toArray⟩ 32 (by decide) w
 have c3 := fun w => prefix_is (lstrip (pieces l)).flatten (lstrip (pieces l)) rfl (lstrip_rune l) (by omega) w
 have c4 := fun w => Tryz.strings_TrimRight_one ⟨(cutT l).toArray⟩ 32 (by decide) w (by
  rw [size_toArray]; have := fit_len (lstrip (pieces l)) 200; unfold cutT
  omega)
 have e2 : (⟨(freeT l).toArray⟩ : ByteArray).data.toList = freeT l := rfl; have e4 : (⟨(cutT l).toArray⟩ : ByteArray).data.toList = cutT l := rfl; rw [e2, clean_left] at c2; rw [e4, clean_right] at c4
 change ∀ w, Calls _ _ _ w fun e w' => e = .returned (.string ⟨(cutT l).toArray⟩) ∧ _ at c3
 generalize (⟨(freeT l).toArray⟩ : ByteArray) = s1 at c1 c2; generalize (⟨((lstrip (pieces l)).flatten).toArray⟩ : ByteArray) = s2 at c2 c3; generalize (⟨(cutT l).toArray⟩ : ByteArray) = s3 at c3 c4; generalize (⟨(cleanT l).toArray⟩ : ByteArray) = s4 at c4 ⊢; clear e2 e4 hpl hll hT
 go_enter Tryz.func165, Tryz.ntmps165
 go_wp2_with fail
 refine c1.mono ?_; rintro e w1 ⟨rfl, b1⟩
 go_wp2_with fail
 refine (c2 _).mono ?_; rintro e w2 ⟨rfl, rfl⟩
 go_wp2_with fail
 refine (c3 _).mono ?_; rintro e w3 ⟨rfl, b3⟩
 go_wp2_with fail
 refine (c4 _).mono ?_; rintro e w4 ⟨rfl, rfl⟩; go_wp2; go_ret; exact ⟨rfl, b1.trans (b3.mono b1.size)⟩
theorem rightText_is (l : List UInt8) (w : World) (hn : l.length ≤ 1000000) (hT : Lib.Utf8Tabs 2 3 w) :
  Calls Tryz.prog 141 #[.string ⟨l.toArray⟩] w fun e w' => e = .returned (.bool (wordL l)) ∧ Below w.heap.size w w' := by
 have c1 := Clean_is l w hn hT
 have E : (cleanT l == l) = wordL l := by
  cases h : wordL l with
  | true => rw [(clean_iff l).2 h]; simp
  | false =>
   rw [beq_eq_false_iff_ne]; intro e; rw [(clean_iff l).1 e] at h
   cases h
 have E2 := hyd E; clear E hT; generalize cleanT l = m at c1 E2
 go_enter Tryz.func141, Tryz.ntmps141
 go_wp2_with fail
 refine c1.mono ?_; rintro e w1 ⟨rfl, b1⟩; go_wp2; go_ret; exact ⟨ret_bool E2.out, b1⟩
theorem Digit_is (d : Int) (h0 : 0 ≤ d) (h1 : d < 10) (w : World) (tab : Tab w) :
  Calls Tryz.prog 71 #[.int .i64 d] w fun e w' => e = .returned (.string ⟨[UInt8.ofNat (48 + d.toNat)].toArray⟩) ∧ Below w.heap.size w w' := by
 have h := Number_any d (by omega) (by omega) w tab
 have e : Lib.itoa d = [UInt8.ofNat (48 + d.toNat)] := by
  unfold Lib.itoa; rw [if_neg (by omega), Lib.decDigits_one (by omega)]
 rw [e] at h; exact h
theorem twoDigits_is (n : Int) (h0 : 0 ≤ n) (h1 : n < 100) (w : World) (tab : Tab w) :
  Calls Tryz.prog 198 #[.int .i64 n] w fun e w' => e = .returned (.string ⟨(twoD n.toNat).toArray⟩) ∧ Below w.heap.size w w' := by
 have q1 := IntWalk.i64_quo n 10 (by omega); have q2 := IntWalk.rem_in n 10 (by omega); have c1 := Digit_is (n / 10) (by omega) (by omega) w tab; have TAB := hyd tab
 have c2 := fun w t => Digit_is (n % 10) (by omega) (by omega) w t
 have ad := fun w => add_lists (P := Tryz.prog) w [UInt8.ofNat (48 + (n / 10).toNat)] [UInt8.ofNat (48 + (n % 10).toNat)] (by simp)
 have E := hyd (show [UInt8.ofNat (48 + (n / 10).toNat)] ++ [UInt8.ofNat (48 + (n % 10).toNat)] = twoD n.toNat by
  unfold twoD; rw [show (n / 10).toNat = n.toNat / 10 by omega, show (n % 10).toNat = n.toNat % 10 by omega]
  rfl)
 generalize [UInt8.ofNat (48 + (n / 10).toNat)] = l1 at c1 ad E; generalize [UInt8.ofNat (48 + (n % 10).toNat)] = l2 at c2 ad E; clear tab
 go_enter Tryz.func198, Tryz.ntmps198
 go_wp2_with fail
 refine c1.mono ?_; rintro e w1 ⟨rfl, b1⟩
 go_wp2_with fail
 refine (c2 _ (TAB.out.keep b1)).mono ?_; rintro e w2 ⟨rfl, b2⟩; have ad2 := ad w2; clear c2 ad; go_wp2; go_ret; exact ⟨ret_str E.out, b1.trans (b2.mono b1.size)⟩
theorem zoneText_is (z : Int) (h0 : -840 ≤ z) (h1 : z ≤ 840) (w : World) (tab : Tab w) :
  Calls Tryz.prog 183 #[.int .i64 z] w fun e w' => e = .returned (.string ⟨(zoneT z).toArray⟩) ∧ Below w.heap.size w w' := by
 obtain ⟨n, hn⟩ : ∃ n : Nat, z.natAbs = n := ⟨_, rfl⟩; have q1 := IntWalk.i64_quo (n : Int) 60 (by omega); have q2 := IntWalk.rem_in (n : Int) 60 (by omega)
 have c1 := fun w t => twoDigits_is ((n : Int) / 60) (by omega) (by omega) w t
 have c2 := fun w t => twoDigits_is ((n : Int) % 60) (by omega) (by omega) w t
 rw [show ((n : Int) / 60).toNat = n / 60 by omega] at c1; rw [show ((n : Int) % 60).toNat = n % 60 by omega] at c2; have E := hyd (show zoneT z = (if z < 0 then (45 : UInt8) else 43) :: (twoD (n / 60) ++ twoD (n % 60)) by unfold zoneT; rw [hn]); have T1 := hyd (show (twoD (n / 60)).length = 2 from rfl); have T2 := hyd (show (twoD (n % 60)).length = 2 from rfl); generalize twoD (n / 60) = l1 at c1 E T1; generalize twoD (n % 60) = l2 at c2 E T2; have TAB := hyd tab; clear tab
 by_cases hneg : z < 0
 ·have hz : -z = (n : Int) := by omega
  have ad1 := fun w => add_lists (P := Tryz.prog) w [45] l1 (by rw [T1.out]; simp)
  have ad2 := fun w => add_lists (P := Tryz.prog) w (45 :: l1) l2 (by rw [List.length_cons, T1.out, T2.out]; simp)
  rw [if_pos hneg] at E; clear hn
  go_enter Tryz.func183, Tryz.ntmps183
  go_wp2_with fail
  refine (c1 _ TAB.out).mono ?_; rintro e w1 ⟨rfl, b1⟩; have ad1 := ad1 w1
  go_wp2_with fail
  refine (c2 _ (TAB.out.keep b1)).mono ?_; rintro e w2 ⟨rfl, b2⟩; have ad2 := ad2 w2; go_wp2; go_ret; exact ⟨ret_str (by rw [E.out]), b1.trans (b2.mono b1.size)⟩
 ·have hz : z = (n : Int) := by omega
  have ad1 := fun w => add_lists (P := Tryz.prog) w [43] l1 (by rw [T1.out]; simp)
  have ad2 := fun w => add_lists (P := Tryz.prog) w (43 :: l1) l2 (by rw [List.length_cons, T1.out, T2.out]; simp)
  rw [if_neg hneg] at E; clear hn; subst hz
  go_enter Tryz.func183, Tryz.ntmps183
  go_wp2_with fail
  refine (c1 _ TAB.out).mono ?_; rintro e w1 ⟨rfl, b1⟩; have ad1 := ad1 w1
  go_wp2_with fail
  refine (c2 _ (TAB.out.keep b1)).mono ?_; rintro e w2 ⟨rfl, b2⟩; have ad2 := ad2 w2; go_wp2; go_ret; exact ⟨ret_str (by rw [E.out]), b1.trans (b2.mono b1.size)⟩
def idtV (i : Idt) : Value := .agg #[.string ⟨i.name.toArray⟩, .string ⟨i.email.toArray⟩, .int .i64 i.whn, .int .i64 i.zone]
structure T6 (w : World) : Prop where
 pow : Tab w
 utf : Lib.Utf8Tabs 2 3 w
theorem T6.keep {w w' : World} (h : T6 w) (hb : Below w.heap.size w w') : T6 w' := ⟨h.pow.keep hb, Utf8Tabs_below h.utf hb⟩
set_option maxRecDepth 100000 in
theorem Right_is (i : Idt) (h1 : i.name.length ≤ 1000000) (h2 : i.email.length ≤ 1000000) (w : World) (tab : T6 w) :
  Calls Tryz.prog 108 #[idtV i] w fun e w' => e = .returned (.bool (rightI i)) ∧ Below w.heap.size w w' := by
 obtain ⟨name, email, t, z⟩ := i; unfold idtV rightI; simp only at h1 h2 ⊢
 have c1 := fun w hT => rightText_is name w h1 hT
 have c2 := fun w hT => rightText_is email w h2 hT
 have c3 := fun w => rightZone_is z w
 generalize (⟨name.toArray⟩ : ByteArray) = sn at c1 ⊢; generalize (⟨email.toArray⟩ : ByteArray) = se at c2 ⊢; have B0 := hyd ((Below.refl w.heap.size w).alloc (Nat.le_refl _) (.cells #[.string sn, .string se, .int .i64 t, .int .i64 z] 70)); have T0 := hyd (Utf8Tabs_below tab.utf B0.out); have N0 := hyd (heap_alloc_new w (.cells #[.string sn, .string se, .int .i64 t, .int .i64 z] 70)); have S0 := hyd (show (w.alloc (.cells #[.string sn, .string se, .int .i64 t, .int .i64 z] 70)).heap.size = w.heap.size + 1 by simp); clear tab h1 h2; generalize wordL name = bn at c1 ⊢; generalize wordL email = be at c2 ⊢
 cases bn with
 | false =>
  go_enter Tryz.func108, Tryz.ntmps108
  go_wp2_with fail
  refine (c1 _ T0.out).mono ?_; rintro e w1 ⟨rfl, b1⟩; have hb1 := B0.out.trans (b1.mono B0.out.size); go_wp2; go_ret; exact ⟨rfl, hb1⟩
 | true =>
  go_enter Tryz.func108, Tryz.ntmps108
  go_wp2_with fail
  refine (c1 _ T0.out).mono ?_; rintro e w1 ⟨rfl, b1⟩; have hb1 := B0.out.trans (b1.mono B0.out.size); have hN1 := (b1.block w.heap.size (by rw [S0.out]; omega)).trans N0.out
  have hc1 : w1.cell? ⟨w.heap.size, 1, none⟩ = some (.string se) := by rw [Lib.cell_of_heap hN1]; rfl
  have T1 := hyd (Utf8Tabs_below T0.out b1); have S1 := hyd (show w.heap.size < w1.heap.size by have := b1.size; rw [S0.out] at this; omega); have N1 := hyd hN1; clear b1 hN1
  go_wp2_with fail
  refine (c2 _ T1.out).mono ?_; rintro e w2 ⟨rfl, b2⟩; have hb2 := hb1.trans (b2.mono hb1.size); have hN2 := (b2.block w.heap.size S1.out).trans N1.out
  have hc2 : w2.cell? ⟨w.heap.size, 2, none⟩ = some (.int .i64 t) := by rw [Lib.cell_of_heap hN2]; rfl
  have hc3 : w2.cell? ⟨w.heap.size, 3, none⟩ = some (.int .i64 z) := by rw [Lib.cell_of_heap hN2]; rfl
  clear hb1 b2 hN2 N1 N0 S0 S1 T1 T0 B0 c1 c2
  cases be with
  | false =>
   go_wp2; go_ret; exact ⟨rfl, hb2⟩
  | true =>
   by_cases t0 : 0 ≤ t
   ·by_cases t1 : t ≤ 1099511627775
    ·go_wp2_with fail
     refine (c3 _).mono ?_; rintro e w3 ⟨rfl, rfl⟩; go_wp2; go_ret; exact ⟨ret_bool (by rw [decide_eq_true t0, decide_eq_true t1]; simp [Bool.and_assoc]), hb2⟩
    ·have u1 := decide_eq_false t1
     go_wp2; go_ret; exact ⟨ret_bool (by rw [u1]; simp), hb2⟩
   ·have u0 := decide_eq_false t0
    go_wp2; go_ret; exact ⟨ret_bool (by rw [u0]; simp), hb2⟩
def Rest (w w' : World) : Prop := T6 w' ∧ Below w.heap.size w w' ∧ w.heap.size < w'.heap.size
abbrev PS (se : ByteArray) (t z : Int) (w w' : World) : Prop :=
 w'.cell? ⟨w.heap.size, 1, none⟩ = some (.string se) ∧ w'.cell? ⟨w.heap.size, 2, none⟩ = some (.int .i64 t) ∧ w'.cell? ⟨w.heap.size, 3, none⟩ = some (.int .i64 z) ∧ Rest w w'
theorem ps_keep {se : ByteArray} {t z : Int} {w w1 w2 : World} (h : PS se t z w w1) (hb : Below w1.heap.size w1 w2) : PS se t z w w2 := by
 obtain ⟨h1, h2, h3, h4, h5, h6⟩ := h; exact ⟨(hb.cell (p := ⟨w.heap.size, 1, none⟩) h6).trans h1, (hb.cell (p := ⟨w.heap.size, 2, none⟩) h6).trans h2, (hb.cell (p := ⟨w.heap.size, 3, none⟩) h6).trans h3, h4.keep hb, h5.trans (hb.mono h5.size), Nat.lt_of_lt_of_le h6 hb.size⟩
theorem ps_drew {se : ByteArray} {t z : Int} {w w1 : World} (h : PS se t z w w1) : PS se t z w w1.drew := ps_keep h ((Below.refl w1.heap.size w1).drew)
theorem num_len (t : Int) (h0 : 0 ≤ t) (h1 : t ≤ 1099511627775) : (Lib.itoa t).length ≤ 21 := Lib.itoa_length_le t (by omega) (by omega)
set_option maxRecDepth 100000 in
theorem Print_bad (i : Idt) (h1 : i.name.length ≤ 1000000) (h2 : i.email.length ≤ 1000000) (hr : rightI i = false) (w : World) (tab : T6 w) :
  Calls Tryz.prog 163 #[idtV i] w fun e w' => e = .returned (.string ⟨#[]⟩) ∧ Below w.heap.size w w' := by
 have cR := fun w t => Right_is i h1 h2 w t
 rw [hr] at cR; unfold idtV at cR ⊢; have B0 := hyd ((Below.refl w.heap.size w).alloc (Nat.le_refl _) (.cells #[.string ⟨i.name.toArray⟩, .string ⟨i.email.toArray⟩, .int .i64 i.whn, .int .i64 i.zone] 70)); have T0 := hyd (tab.keep B0.out); clear tab
 go_enter Tryz.func163, Tryz.ntmps163
 go_wp2_with fail
 refine (cR _ T0.out).mono ?_; rintro e w1 ⟨rfl, b1⟩; go_wp2; go_ret; exact ⟨rfl, B0.out.trans (b1.mono B0.out.size)⟩
set_option maxRecDepth 100000 in
theorem Print_good (i : Idt) (hr : rightI i = true) (w : World) (tab : T6 w) :
  Calls Tryz.prog 163 #[idtV i] w fun e w' => e = .returned (.string ⟨(textT i.name i.email (Lib.itoa i.whn) (zoneT i.zone)).toArray⟩) ∧ Below w.heap.size w w' := by
 obtain ⟨r1, r2, r3, r4, r5, r6⟩ := (right_iff i).1 hr; have l1 := ((word_iff _).1 r1).2.1; have l2 := ((word_iff _).1 r2).2.1; have l3 := num_len i.whn r3 r4; have l4 := zone_len i.zone
 have cR := fun w t => Right_is i (by omega) (by omega) w t
 rw [hr] at cR
 have cN := fun w t => Number_any i.whn (by omega) (by omega) w t
 have cZ := fun w t => zoneText_is i.zone r5 r6 w t
 unfold idtV at cR ⊢; obtain ⟨name, email, t, z⟩ := i; simp only at cR cN cZ l1 l2 l3 l4 ⊢; clear r1 r2 hr; generalize Lib.itoa t = num at cN l3 ⊢; generalize zoneT z = zt at cZ l4 ⊢; have B0 := hyd ((Below.refl w.heap.size w).alloc (Nat.le_refl _) (.cells #[.string ⟨name.toArray⟩, .string ⟨email.toArray⟩, .int .i64 t, .int .i64 z] 70)); have T0 := hyd (tab.keep B0.out); have N0 := hyd (heap_alloc_new w (.cells #[.string ⟨name.toArray⟩, .string ⟨email.toArray⟩, .int .i64 t, .int .i64 z] 70)); have S0 := hyd (show (w.alloc (.cells #[.string ⟨name.toArray⟩, .string ⟨email.toArray⟩, .int .i64 t, .int .i64 z] 70)).heap.size = w.heap.size + 1 by simp)
 have la : (aheadT name).length ≤ 201 := by
  unfold aheadT
  split
  ·simp
  ·simp; omega
 have ad0 := fun w => add_lists (P := Tryz.prog) w name [32] (by simp; omega)
 have ad1 := fun w => add_lists (P := Tryz.prog) w (aheadT name) [60] (by simp; omega)
 have ad2 := fun w => add_lists (P := Tryz.prog) w (aheadT name ++ [60]) email (by simp; omega)
 have ad3 := fun w => add_lists (P := Tryz.prog) w (aheadT name ++ [60] ++ email) [62, 32] (by simp; omega)
 have ad4 := fun w => add_lists (P := Tryz.prog) w (aheadT name ++ [60] ++ email ++ [62, 32]) num (by simp; omega)
 have ad5 := fun w => add_lists (P := Tryz.prog) w (aheadT name ++ [60] ++ email ++ [62, 32] ++ num) [32] (by simp; omega)
 have ad6 := fun w => add_lists (P := Tryz.prog) w (aheadT name ++ [60] ++ email ++ [62, 32] ++ num ++ [32]) zt (by simp; omega)
 have E := hyd (show textT name email num zt = aheadT name ++ [60] ++ email ++ [62, 32] ++ num ++ [32] ++ zt by unfold textT; simp); rw [E.out]; generalize (⟨(aheadT name ++ [60] ++ email ++ [62, 32] ++ num ++ [32] ++ zt).toArray⟩ : ByteArray) = s6 at ad6 ⊢; generalize (⟨(aheadT name ++ [60] ++ email ++ [62, 32] ++ num ++ [32]).toArray⟩ : ByteArray) = s5 at ad5 ad6; generalize (⟨(aheadT name ++ [60] ++ email ++ [62, 32] ++ num).toArray⟩ : ByteArray) = s4 at ad4 ad5; generalize (⟨(aheadT name ++ [60] ++ email ++ [62, 32]).toArray⟩ : ByteArray) = s3 at ad3 ad4; generalize (⟨(aheadT name ++ [60] ++ email).toArray⟩ : ByteArray) = s2 at ad2 ad3; generalize (⟨(aheadT name ++ [60]).toArray⟩ : ByteArray) = s1 at ad1 ad2
 generalize (⟨email.toArray⟩ : ByteArray) = se at *
 generalize (⟨num.toArray⟩ : ByteArray) = sn at *
 generalize (⟨zt.toArray⟩ : ByteArray) = sz at *
 have dN := fun w' (h : PS se t z w w') => ((cN w' h.2.2.2.1.pow).mono (fun e w'' ⟨he, hb⟩ => ⟨he, ps_keep h hb⟩) : Calls Tryz.prog 71 #[.int .i64 t] w' fun e w'' => e = .returned (.string sn) ∧ PS se t z w w'')
 have dZ := fun w' (h : PS se t z w w') => ((cZ w' h.2.2.2.1.pow).mono (fun e w'' ⟨he, hb⟩ => ⟨he, ps_keep h hb⟩) : Calls Tryz.prog 183 #[.int .i64 z] w' fun e w'' => e = .returned (.string sz) ∧ PS se t z w w'')
 have DN := hyd dN; have DZ := hyd dZ; clear tab E l1 l2 l3 l4 la r3 r4 r5 r6 cN cZ dN dZ
 by_cases hne : name = []
 ·subst hne
  have ea : aheadT ([] : List UInt8) = [] := rfl; rw [ea] at ad1
  go_enter Tryz.func163, Tryz.ntmps163
  go_wp2_with fail
  refine (cR _ T0.out).mono ?_; rintro e w1 ⟨rfl, b1⟩; have hb1 := B0.out.trans (b1.mono B0.out.size); have hN1 := (b1.block w.heap.size (by rw [S0.out]; omega)).trans N0.out; have hS1 : PS se t z w w1 := ⟨by rw [Lib.cell_of_heap hN1]; rfl, by rw [Lib.cell_of_heap hN1]; rfl, by rw [Lib.cell_of_heap hN1]; rfl, T0.out.keep b1, hb1, by have := b1.size; rw [S0.out] at this; omega⟩
  have hc0 : w1.cell? ⟨w.heap.size, 0, none⟩ = some (.string ⟨#[]⟩) := by rw [Lib.cell_of_heap hN1]; rfl
  have K0 := ps_drew hS1; clear b1 hb1 hN1 hS1 B0 T0 N0 S0 cR
  go_wp2_with fail
  go_region_held3 (fun w' => w'.cell? ⟨w.heap.size, 1, none⟩ = some (.string se) ∧ w'.cell? ⟨w.heap.size, 2, none⟩ = some (.int .i64 t) ∧ w'.cell? ⟨w.heap.size, 3, none⟩ = some (.int .i64 z) ∧ Rest w w') (assumption)
   (first | (go_at_call 71; refine (DN.out _ (by assumption)).mono ?_; rintro e w' ⟨rfl, hS⟩) | (go_at_call 183; refine (DZ.out _ (by assumption)).mono ?_; rintro e w' ⟨rfl, hS⟩))
  go_wp2; go_ret; exact ⟨rfl, hS.2.2.2.2.1⟩
 ·have ea : aheadT name = name ++ [32] := by unfold aheadT; rw [if_neg hne]
  rw [ea] at ad1; generalize (⟨(name ++ [32]).toArray⟩ : ByteArray) = sA at ad0 ad1
  have fe : (name == ([] : List UInt8)) = false := by rw [beq_eq_false_iff_ne]; exact hne
  have fi : name.isEmpty = false := by cases name with | nil => exact absurd rfl hne | cons _ _ => rfl
  clear hne ea
  go_enter Tryz.func163, Tryz.ntmps163
  go_wp2_with fail
  refine (cR _ T0.out).mono ?_; rintro e w1 ⟨rfl, b1⟩; have hb1 := B0.out.trans (b1.mono B0.out.size); have hN1 := (b1.block w.heap.size (by rw [S0.out]; omega)).trans N0.out; have hS1 : PS se t z w w1 := ⟨by rw [Lib.cell_of_heap hN1]; rfl, by rw [Lib.cell_of_heap hN1]; rfl, by rw [Lib.cell_of_heap hN1]; rfl, T0.out.keep b1, hb1, by have := b1.size; rw [S0.out] at this; omega⟩
  have hc0 : w1.cell? ⟨w.heap.size, 0, none⟩ = some (.string ⟨name.toArray⟩) := by rw [Lib.cell_of_heap hN1]; rfl
  have K0 := ps_drew hS1; clear b1 hb1 hN1 hS1 B0 T0 N0 S0 cR
  go_wp2_with fail
  go_region_held3 (fun w' => w'.cell? ⟨w.heap.size, 1, none⟩ = some (.string se) ∧ w'.cell? ⟨w.heap.size, 2, none⟩ = some (.int .i64 t) ∧ w'.cell? ⟨w.heap.size, 3, none⟩ = some (.int .i64 z) ∧ Rest w w') (assumption)
   (first | (go_at_call 71; refine (DN.out _ (by assumption)).mono ?_; rintro e w' ⟨rfl, hS⟩) | (go_at_call 183; refine (DZ.out _ (by assumption)).mono ?_; rintro e w' ⟨rfl, hS⟩))
  go_wp2; go_ret; exact ⟨rfl, hS.2.2.2.2.1⟩
theorem Print_is (i : Idt) (h1 : i.name.length ≤ 1000000) (h2 : i.email.length ≤ 1000000) (w : World) (tab : T6 w) :
  Calls Tryz.prog 163 #[idtV i] w fun e w' => e = .returned (.string ⟨(printI Lib.itoa i).toArray⟩) ∧ Below w.heap.size w w' := by
 unfold printI
 cases hr : rightI i with
 | true => rw [if_pos rfl]; exact Print_good i hr w tab
 | false => rw [if_neg (by decide)]; exact Print_bad i h1 h2 hr w tab
set_option maxRecDepth 20000
theorem rightR_way (t : List UInt8) (l : List (List UInt8)) (a c : Idt) (x : List UInt8) : rightR ⟨t, l, a, c, x⟩ = ((!eqD t idZ) && ((decide (l.length ≤ 16) && parentsR l) && (rightI a && (rightI c && textR x)))) := by
 unfold rightR textR
 have e : decide (t ≠ idZ) = !eqD t idZ := by
  cases h : eqD t idZ with
  | true =>
   have h2 := (eqD_iff _ _).1 h
   simp [h2]
  | false =>
   have h2 : t ≠ idZ := fun q => by rw [q, eqD_same] at h; cases h
   simp [h2]
 simp only [e, Bool.and_assoc]
theorem Right9_is (t : List UInt8) (a1 : Option Addr) (n c1 : Nat) (l : List (List UInt8)) (a c : Idt) (x : List UInt8) (w : World) (tab : T6 w) (ht : t.length = 20) (hit : IdsAt w a1 l) (hn : n = l.length) (hm : n ≤ 1000000) (hnc : n ≤ c1) (hid : ∀ i ∈ l, i.length = 20)
  (s1 : a.name.length ≤ 1000000) (s2 : a.email.length ≤ 1000000) (s3 : c.name.length ≤ 1000000) (s4 : c.email.length ≤ 1000000) :
  Calls Tryz.prog 87 #[.agg (arrC t (.slice a1 n c1) a c x)] w fun e w' => e = .returned (.bool (rightR ⟨t, l, a, c, x⟩)) ∧ Below w.heap.size w w' := by
 rw [rightR_way]; obtain ⟨A1, hA1⟩ : ∃ A, arrC t (.slice a1 n c1) a c x = A := ⟨_, rfl⟩; obtain ⟨z, hz0, hzs, hzv, hzb, hz1⟩ := zId_any; have HZ0 := hyd hz0; have pZ := hyd hzb
 have ED := fun u => neq_arrD t idZ ht rfl u
 rw [← HZ0.out] at ED; unfold arrD at ED; clear hz0 hzs hz1 hzb hzv; have b1 : Below w.heap.size w (w.alloc (.cells A1 72)) := (Below.refl w.heap.size w).alloc (Nat.le_refl _) (.cells A1 72); have r1 : RecAt (w.alloc (.cells A1 72)) w.heap.size t (.slice a1 n c1) a c x := recAt_of (ty := 72) (fr := (0, 0)) ht (by rw [hA1]; exact heap_alloc_new w _); have K := hyd (fun u (hb : Below (w.alloc (.cells A1 72)).heap.size (w.alloc (.cells A1 72)) u) => r1.keep hb); have CP := hyd (fun u (hb : Below w.heap.size w u) => rightParents9_is a1 n c1 l u (hit.keep hb) hn hm hnc hid); have CA := hyd (fun u (hb : Below w.heap.size w u) => Right_is a s1 s2 u (tab.keep hb)); have CC := hyd (fun u (hb : Below w.heap.size w u) => Right_is c s3 s4 u (tab.keep hb)); have CX := hyd (fun u => rightText9_is x u); have ea : idtV a = .agg (cellsT a).toArray := rfl; have ec : idtV c = .agg (cellsT c).toArray := rfl; rw [ea] at CA; rw [ec] at CC; rw [hn] at CP; rw [← hn] at CP; have LD := hyd (show (Tryz.prog.info? 24).map (·.size) = some (cellsD t).length by rw [cellsD_len t ht]; exact infoD_n); have LA := hyd (show (Tryz.prog.info? 70).map (·.size) = some (cellsT a).length from infoT); have LC := hyd (show (Tryz.prog.info? 70).map (·.size) = some (cellsT c).length from infoT); have B1 := hyd b1; have RD := hyd r1.tree; have p1 := r1.parents; have KA := hyd (fun u (hb : Below (w.alloc (.cells A1 72)).heap.size (w.alloc (.cells A1 72)) u) => (K.out u hb).author)
 have KC := hyd (fun u (hb : Below (w.alloc (.cells A1 72)).heap.size (w.alloc (.cells A1 72)) u) => (K.out u hb).committer); have KX := hyd (fun u (hb : Below (w.alloc (.cells A1 72)).heap.size (w.alloc (.cells A1 72)) u) => (K.out u hb).text)
 have e16 : decide (l.length ≤ 16) = decide (n ≤ 16) := by rw [hn]
 rw [e16]; rw [hA1]; clear hit hid hnc hn K r1 b1 ea ec hm tab e16 s1 s2 s3 s4 hA1
 generalize (decide (n ≤ 16) && parentsR l) = bp at *
 generalize rightI a = ba at *
 generalize rightI c = bc at *
 generalize textR x = bx at *
 generalize eqD t idZ = be at *
 generalize cellsD t = cd at *
 generalize cellsT a = ca at *
 generalize cellsT c = cc at *
 generalize (⟨x.toArray⟩ : ByteArray) = X at *
 cases be with
 | true =>
  go_enter Tryz.func87, Tryz.ntmps87
  go_wp2_with (first | (with_reducible refine wpList_load_mid rfl 24 (.tmp 3) rfl w.heap.size 0 rfl cd _ RD.out Tryz.underlying24 rfl LD.out ?_) | (refine wpList_build_none rfl 24 rfl _ pZ.out ?_) | fail)
  go_ret; exact ⟨rfl, B1.out⟩
 | false =>
  cases bp with
  | false =>
   go_enter Tryz.func87, Tryz.ntmps87
   go_wp2_with (first | (with_reducible refine wpList_load_mid rfl 24 (.tmp 3) rfl w.heap.size 0 rfl cd _ RD.out Tryz.underlying24 rfl LD.out ?_) | (refine wpList_build_none rfl 24 rfl _ pZ.out ?_) | fail)
   refine (CP.out _ B1.out).mono ?_; rintro e w2 ⟨rfl, hb2⟩; have HB2 := hyd hb2; have RA := hyd (KA.out _ hb2); clear hb2
   go_wp2_with (first | (with_reducible refine wpList_load_midD 70 (.tmp 13) rfl (by kernel_rfl) w.heap.size 21 rfl ca _ RA.out Tryz.underlying70 rfl LA.out ?_) | fail)
   go_ret; exact ⟨rfl, B1.out.trans (HB2.out.mono B1.out.size)⟩
  | true =>
   cases ba with
   | false =>
    go_enter Tryz.func87, Tryz.ntmps87
    go_wp2_with (first | (with_reducible refine wpList_load_mid rfl 24 (.tmp 3) rfl w.heap.size 0 rfl cd _ RD.out Tryz.underlying24 rfl LD.out ?_) | (refine wpList_build_none rfl 24 rfl _ pZ.out ?_) | fail)
    refine (CP.out _ B1.out).mono ?_; rintro e w2 ⟨rfl, hb2⟩; have HB2 := hyd hb2; have RA := hyd (KA.out _ hb2); clear hb2
    go_wp2_with (first | (with_reducible refine wpList_load_midD 70 (.tmp 13) rfl (by kernel_rfl) w.heap.size 21 rfl ca _ RA.out Tryz.underlying70 rfl LA.out ?_) | fail)
    refine (CA.out _ (B1.out.trans (HB2.out.mono B1.out.size))).mono ?_; rintro e w3 ⟨rfl, hb3⟩; have HB3 := hyd (HB2.out.trans (hb3.mono HB2.out.size)); have RC := hyd (KC.out _ HB3.out); clear hb3
    go_wp2_with (first | (with_reducible refine wpList_load_midD 70 (.tmp 18) rfl (by kernel_rfl) w.heap.size 25 rfl cc _ RC.out Tryz.underlying70 rfl LC.out ?_) | fail)
    go_ret; exact ⟨rfl, B1.out.trans (HB3.out.mono B1.out.size)⟩
   | true =>
    cases bc with
    | false =>
     go_enter Tryz.func87, Tryz.ntmps87
     go_wp2_with (first | (with_reducible refine wpList_load_mid rfl 24 (.tmp 3) rfl w.heap.size 0 rfl cd _ RD.out Tryz.underlying24 rfl LD.out ?_) | (refine wpList_build_none rfl 24 rfl _ pZ.out ?_) | fail)
     refine (CP.out _ B1.out).mono ?_; rintro e w2 ⟨rfl, hb2⟩; have HB2 := hyd hb2; have RA := hyd (KA.out _ hb2); clear hb2
     go_wp2_with (first | (with_reducible refine wpList_load_midD 70 (.tmp 13) rfl (by kernel_rfl) w.heap.size 21 rfl ca _ RA.out Tryz.underlying70 rfl LA.out ?_) | fail)
     refine (CA.out _ (B1.out.trans (HB2.out.mono B1.out.size))).mono ?_; rintro e w3 ⟨rfl, hb3⟩; have HB3 := hyd (HB2.out.trans (hb3.mono HB2.out.size)); have RC := hyd (KC.out _ HB3.out); clear hb3
     go_wp2_with (first | (with_reducible refine wpList_load_midD 70 (.tmp 18) rfl (by kernel_rfl) w.heap.size 25 rfl cc _ RC.out Tryz.underlying70 rfl LC.out ?_) | fail)
     refine (CC.out _ (B1.out.trans (HB3.out.mono B1.out.size))).mono ?_; rintro e w4 ⟨rfl, hb4⟩; have HB4 := hyd (HB3.out.trans (hb4.mono HB3.out.size)); have p4 := KX.out _ HB4.out; clear hb4
     go_wp2_with fail
     go_ret; exact ⟨rfl, B1.out.trans (HB4.out.mono B1.out.size)⟩
    | true =>
     go_enter Tryz.func87, Tryz.ntmps87
     go_wp2_with (first | (with_reducible refine wpList_load_mid rfl 24 (.tmp 3) rfl w.heap.size 0 rfl cd _ RD.out Tryz.underlying24 rfl LD.out ?_) | (refine wpList_build_none rfl 24 rfl _ pZ.out ?_) | fail)
     refine (CP.out _ B1.out).mono ?_; rintro e w2 ⟨rfl, hb2⟩; have HB2 := hyd hb2; have RA := hyd (KA.out _ hb2); clear hb2
     go_wp2_with (first | (with_reducible refine wpList_load_midD 70 (.tmp 13) rfl (by kernel_rfl) w.heap.size 21 rfl ca _ RA.out Tryz.underlying70 rfl LA.out ?_) | fail)
     refine (CA.out _ (B1.out.trans (HB2.out.mono B1.out.size))).mono ?_; rintro e w3 ⟨rfl, hb3⟩; have HB3 := hyd (HB2.out.trans (hb3.mono HB2.out.size)); have RC := hyd (KC.out _ HB3.out); clear hb3
     go_wp2_with (first | (with_reducible refine wpList_load_midD 70 (.tmp 18) rfl (by kernel_rfl) w.heap.size 25 rfl cc _ RC.out Tryz.underlying70 rfl LC.out ?_) | fail)
     refine (CC.out _ (B1.out.trans (HB3.out.mono B1.out.size))).mono ?_; rintro e w4 ⟨rfl, hb4⟩; have HB4 := hyd (HB3.out.trans (hb4.mono HB3.out.size)); have p4 := KX.out _ HB4.out; clear hb4
     go_wp2_with fail
     refine (CX.out _).mono ?_; rintro e w5 ⟨rfl, hb5⟩; have HB5 := hyd (HB4.out.trans (hb5.mono HB4.out.size)); clear hb5; go_wp2
     cases bx with
     | false =>
      go_ret; exact ⟨rfl, B1.out.trans (HB5.out.mono B1.out.size)⟩
     | true =>
      go_ret; exact ⟨rfl, B1.out.trans (HB5.out.mono B1.out.size)⟩
def hexDig (n : Nat) : UInt8 := UInt8.ofNat (if n < 10 then 48 + n else 87 + n)
def hexL : List UInt8 → List UInt8
 | [] => []
 | c :: r => hexDig (c.toNat / 16) :: hexDig (c.toNat % 16) :: hexL r
theorem right_len (i : Idt) (h : rightI i = true) : i.name.length ≤ 200 ∧ i.email.length ≤ 200 := by
 obtain ⟨r1, r2, _⟩ := (right_iff i).1 h; exact ⟨((word_iff _).1 r1).2.1, ((word_iff _).1 r2).2.1⟩
def treeV : List UInt8 := [116, 114, 101, 101]
def parentV : List UInt8 := [112, 97, 114, 101, 110, 116]
def authorV : List UInt8 := [97, 117, 116, 104, 111, 114]
def committerV : List UInt8 := [99, 111, 109, 109, 105, 116, 116, 101, 114]
theorem digit_dec (r base : Int) (h0 : 48 ≤ r) (h1 : r ≤ 57) (hb : 10 ≤ base) (hb2 : base ≤ 16) (w : World) :
  Calls Tryz.prog 179 #[.int .i32 r, .int .i64 base] w fun e w' => e = .returned (.tuple #[.int .i64 (r - 48), .bool true]) ∧ w = w' := by
 go_enter Tryz.func179, Tryz.ntmps179
 go_wp2
 go_ret2
 exact ⟨rfl, rfl⟩
theorem digit_hex (r : Int) (h0 : 97 ≤ r) (h1 : r ≤ 102) (w : World) :
  Calls Tryz.prog 179 #[.int .i32 r, .int .i64 16] w fun e w' => e = .returned (.tuple #[.int .i64 (r - 87), .bool true]) ∧ w = w' := by
 go_enter Tryz.func179, Tryz.ntmps179
 go_wp2
 go_ret2
 exact ⟨tup_int (by omega), rfl⟩
theorem digit_low (r base : Int) (h1 : r < 48) (hb : 10 ≤ base) (hb2 : base ≤ 16) (w : World) :
  Calls Tryz.prog 179 #[.int .i32 r, .int .i64 base] w fun e w' => e = .returned (.tuple #[.int .i64 0, .bool false]) ∧ w = w' := by
 go_enter Tryz.func179, Tryz.ntmps179
 go_wp2
 go_ret2
 exact ⟨rfl, rfl⟩
theorem digit_mid (r base : Int) (h0 : 57 < r) (h1 : r < 97) (hb : 10 ≤ base) (hb2 : base ≤ 16) (w : World) :
  Calls Tryz.prog 179 #[.int .i32 r, .int .i64 base] w fun e w' => e = .returned (.tuple #[.int .i64 0, .bool false]) ∧ w = w' := by
 go_enter Tryz.func179, Tryz.ntmps179
 go_wp2
 go_ret2
 exact ⟨rfl, rfl⟩
theorem digit_high (r base : Int) (h0 : 102 < r) (hb : 10 ≤ base) (hb2 : base ≤ 16) (w : World) :
  Calls Tryz.prog 179 #[.int .i32 r, .int .i64 base] w fun e w' => e = .returned (.tuple #[.int .i64 0, .bool false]) ∧ w = w' := by
 go_enter Tryz.func179, Tryz.ntmps179
 go_wp2
 go_ret2
 exact ⟨rfl, rfl⟩
theorem digit_af10 (r : Int) (h0 : 97 ≤ r) (h1 : r ≤ 102) (w : World) :
  Calls Tryz.prog 179 #[.int .i32 r, .int .i64 10] w fun e w' => e = .returned (.tuple #[.int .i64 0, .bool false]) ∧ w = w' := by
 go_enter Tryz.func179, Tryz.ntmps179
 go_wp2
 go_ret2
 exact ⟨rfl, rfl⟩
def dig16 (r : Int) : Int := if 48 ≤ r ∧ r ≤ 57 then r - 48 else if 97 ≤ r ∧ r ≤ 102 then r - 87 else -1
theorem dig16_yes {r : Int} (h : 0 ≤ dig16 r) : (48 ≤ r ∧ r ≤ 57) ∧ dig16 r = r - 48 ∨ (97 ≤ r ∧ r ≤ 102) ∧ dig16 r = r - 87 := by
 unfold dig16 at *; split at h
 ·simp_all
 ·split at h
  ·simp_all
  ·omega
theorem dig16_lt (r : Int) : dig16 r < 16 := by unfold dig16; split <;> (try split) <;> omega
theorem dig16_ge (r : Int) : -1 ≤ dig16 r := by unfold dig16; split <;> (try split) <;> omega
theorem digit16_yes (r : Int) (h : 0 ≤ dig16 r) (w : World) :
  Calls Tryz.prog 179 #[.int .i32 r, .int .i64 16] w fun e w' => e = .returned (.tuple #[.int .i64 (dig16 r), .bool true]) ∧ w = w' := by
 rcases dig16_yes h with ⟨⟨a, b⟩, e⟩ | ⟨⟨a, b⟩, e⟩ <;> rw [e]
 ·exact digit_dec r 16 a b (by omega) (by omega) w
 ·exact digit_hex r a b w
theorem digit16_no (r : Int) (h : dig16 r < 0) (w : World) :
  Calls Tryz.prog 179 #[.int .i32 r, .int .i64 16] w fun e w' => e = .returned (.tuple #[.int .i64 0, .bool false]) ∧ w = w' := by
 unfold dig16 at h
 split at h
 ·omega
 ·split at h
  ·omega
  ·by_cases h1 : r < 48
   ·exact digit_low r 16 h1 (by omega) (by omega) w
   ·by_cases h2 : 102 < r
    ·exact digit_high r 16 h2 (by omega) (by omega) w
    ·exact digit_mid r 16 (by omega) (by omega) (by omega) (by omega) w
theorem digit10_no (r : Int) (h : ¬ (48 ≤ r ∧ r ≤ 57)) (w : World) :
  Calls Tryz.prog 179 #[.int .i32 r, .int .i64 10] w fun e w' => e = .returned (.tuple #[.int .i64 0, .bool false]) ∧ w = w' := by
 by_cases h1 : r < 48
 ·exact digit_low r 10 h1 (by omega) (by omega) w
 ·by_cases h2 : 102 < r
  ·exact digit_high r 10 h2 (by omega) (by omega) w
  ·by_cases h3 : 97 ≤ r
   ·exact digit_af10 r h3 (by omega) w
   ·exact digit_mid r 10 (by omega) (by omega) (by omega) (by omega) w
end Go.Proofs.YtnbcbiglkmdepaaGreatDoor
