/-
  The law ObjectBack: its walk.
-/
import Derived.Test.YtbcbbkdfdfgnfaaDoorNx
namespace Go.Proofs.YtbcbbkdfdfgnfaaDoor.objectBack
set_option maxRecDepth 20000
open Go.RowKit
set_option linter.unusedVariables false
set_option linter.unusedSimpArgs false

theorem rSum_n (w : World) (A : Option Addr) (n c : Nat) (l : List UInt8) (hn : n = l.length) (hl : l.length ≤ 1000000) (hr : Red w (.slice A n c) l) :
    Calls Tryd.prog 20 #[.slice A n c] w fun e w' => e = .returned (idv (sumL l)) ∧ Below w.heap.size w w' := by
  obtain ⟨a, c', e, hb, hno, _⟩ := hr
  cases e
  exact rSum_any w A c l hl hb hno
/-- The object of the law, printed and parsed. -/
abbrev PB (w : World) (g7 g10 : Nat) (k : Int) (a : Option Addr) (n c : Nat) (l : List UInt8) (p x : Value) (pl : List UInt8) (u : World) : Prop :=
  u.heap[g7]? = some (.cells #[.int .i64 k, .slice a n c] 24 (0, 0)) ∧ u.heap[g10]? = some (.cells #[.int .i64 k, x] 24 (0, 0)) ∧ Red u p pl ∧ Red u x l ∧ Below w.heap.size w u
theorem pb_keep {w : World} {g7 g10 : Nat} {k : Int} {a : Option Addr} {n c : Nat} {l : List UInt8} {p x : Value} {pl : List UInt8} {u u' : World} (h : PB w g7 g10 k a n c l p x pl u) (b : Below u.heap.size u u') : PB w g7 g10 k a n c l p x pl u' :=
  ⟨heap_keep h.1 b, heap_keep h.2.1 b, h.2.2.1.keep b, h.2.2.2.1.keep b, h.2.2.2.2.trans (b.mono h.2.2.2.2.size)⟩

set_option maxHeartbeats 32000000 in
theorem walk_small (w : World) (kd : Int) (a : Option Addr) (n c : Nat) (l : List UInt8) (hb : BAt w a l) (hl : n = l.length) (hno : a = none → n = 0 ∧ c = 0) (hc : n ≤ c ∧ c ≤ maxLen)
    (a2 : Option Addr) (n2 c2 : Nat) (m : List UInt8) (hb2 : BAt w a2 m) (hl2 : n2 = m.length) (hno2 : a2 = none → n2 = 0 ∧ c2 = 0) (hc2 : n2 ≤ c2 ∧ c2 ≤ maxLen) (hs1 : n ≤ 1500) (hs2 : n2 ≤ 2000) (tab : Tab w) :
    Calls Tryd.prog 4 #[.int .i64 kd, .slice a n c, .slice a2 n2 c2] w fun e w' => e = .returned (.bool true) ∧ Below w.heap.size w w' := by
  have g1 : ¬ ((n : Int) > 1500) := by omega
  have g2 : ¬ ((n2 : Int) > 2000) := by omega
  obtain ⟨u, hu⟩ : ∃ u, IntKind.u64.wrap kd = u := ⟨_, rfl⟩
  have hu0 : 0 ≤ u := by rw [← hu, IntKind.wrap_u64]; omega
  obtain ⟨r, hr⟩ : ∃ r : Nat, u.tmod 3 = (r : Int) := by
    rw [Int.tmod_eq_emod_of_nonneg hu0]
    exact ⟨(u % 3).toNat, by omega⟩
  have hr3 : r < 3 := by rw [Int.tmod_eq_emod_of_nonneg hu0] at hr; omega
  have hk : kindO ((r : Int) + 1) := by unfold kindO; omega
  have hw1 : IntKind.i64.wrap (1 + (r : Int)) = (r : Int) + 1 := by rw [IntWalk.i64_in _ (by omega)]; omega
  have hw2 : IntKind.i64.wrap (r : Int) = (r : Int) := IntWalk.i64_in _ (by omega)
  have hw3 : IntKind.u64.wrap (r : Int) = (r : Int) := by rw [IntKind.wrap_u64]; omega
  obtain ⟨k, hk2⟩ : ∃ k, (r : Int) + 1 = k := ⟨_, rfl⟩
  rw [hk2] at hk hw1
  have HB := Lib.hid hb; have HL := Lib.hid hl; have HNO := Lib.hid hno; have HC := Lib.hid hc
  have HB2 := Lib.hid hb2; have HL2 := Lib.hid hl2; have HNO2 := Lib.hid hno2; have HC2 := Lib.hid hc2
  have TB := Lib.hid tab; have HK := Lib.hid hk
  clear hb hl hno hc hb2 hl2 hno2 hc2 tab hk2 hk
  go_enter Tryd.func4, Tryd.ntmps4
  go_wp2_with (first
    | (with_reducible refine wpList_store_obj rfl (.tmp 7) (.tmp 31) rfl w.heap.size _ _ _ _ rfl rfl (heap_alloc_new w _) (one_obj _ _ _ _) ?_)
    | fail)
  intro w1 h1 hb1 hk1 hs1'
  have b1 := hb1 _ _ (Nat.le_refl _) ((Below.refl _ w).alloc (Nat.le_refl _) _)
  obtain ⟨y0, y1⟩ := cells2 h1
  have C2 := Lib.hid (Print_good k HK.out a n c l w1 HL.out (by omega) (HB.out.keep b1) HNO.out HC.out.1 (TB.out.keep b1))
  have G1 := Lib.hid h1; have B1 := Lib.hid b1
  generalize w.heap.size = g7 at G1 y0 y1 ⊢
  clear h1 hb1 hk1 hs1' b1 hw1 hw2 hw3 hr hu hu0
  go_wp2_with fail
  refine C2.out.mono ?_
  rintro e w2 ⟨v2, rfl, hr2, hf2, hb2'⟩
  obtain ⟨xa, xc, hv2, hxc, hxm, hxb, hxn⟩ := hr2.shape
  obtain ⟨ob, hob⟩ : ∃ ob, objO k l = ob := ⟨_, rfl⟩
  have hobl : ob.length ≤ 2000 := by
    rw [← hob, objO_length]
    have h1 := wordO_len k
    have h2 := numO_le l.length 4 (by have := HL.out; omega)
    have := HL.out
    omega
  rw [hob] at hv2 hxc hxb hxn hr2
  obtain ⟨xn, hxn2⟩ : ∃ x, ob.length = x := ⟨_, rfl⟩
  rw [hxn2] at hv2 hxc hxn hobl
  subst hv2
  have HOB := Lib.hid hob; have HXN := Lib.hid hxn2
  have hxl : xn ≤ 1000000 := by omega
  have b2 := B1.out.trans (hb2'.mono B1.out.size)
  have C3 := Lib.hid (Parse_is xa xn xc ob w2 hxn2.symm hxb (fun h => by have := hxn h; omega) hxc hxm (by omega) (TB.out.keep b2))
  have R2 := Lib.hid (show Red w2 (.slice xa xn xc) ob from ⟨xa, xc, by rw [hxn2], hxb, (fun h => by rw [hxn2]; exact hxn h), by rw [hxn2]; exact hxc, hxm⟩)
  have G2 := Lib.hid (heap_keep G1.out hb2'); have B2 := Lib.hid b2
  clear C2 hr2 hf2 hb2' hxc hxm hxb hxn hob hxn2 b2 G1 B1 y0 y1 hobl
  go_wp2_with fail
  refine C3.out.mono ?_
  rintro e w3 ⟨kk, x3, bd, er, rfl, hr3, hf3, hp3, hb3⟩
  have hpp : kk = k ∧ bd = l ∧ er = 0 := by
    have h := hp3
    rw [← HOB.out] at h
    have ht := take_obj HK.out (show l.length ≤ 65536 by have := HL.out; omega)
    rcases h with ⟨h1, h2⟩ | ⟨h1, _⟩
    · rw [ht] at h1; cases h1; exact ⟨rfl, rfl, h2⟩
    · rw [ht] at h1; cases h1
  obtain ⟨rfl, rfl, rfl⟩ := hpp
  obtain ⟨pa, pc, hx3, _, _, _, _⟩ := hr3.shape
  rw [← HL.out] at hx3
  subst hx3
  have G3 := Lib.hid (heap_keep G2.out hb3); have R3 := Lib.hid (R2.out.keep hb3); have B3 := Lib.hid (B2.out.trans (hb3.mono B2.out.size))
  have X3 := Lib.hid hr3.red
  clear C3 hr3 hf3 hp3 hb3 G2 R2 B2
  go_wp2_with (first
    | (with_reducible refine wpList_store_obj rfl (.tmp 10) (.tmp 40) rfl w3.heap.size _ _ _ _ rfl rfl (heap_alloc_new w3 _) (one_obj _ _ _ _) ?_)
    | fail)
  intro w4 h4 hb4 hk4 hs4
  have b34 := hb4 _ _ (Nat.le_refl _) ((Below.refl _ w3).alloc (Nat.le_refl _) _)
  have P4 : PB w g7 w3.heap.size kk a n c bd (.slice xa xn xc) (.slice pa n pc) ob w4 := ⟨heap_keep G3.out b34, h4, R3.out.keep b34, X3.out.keep b34, B3.out.trans (b34.mono B3.out.size)⟩
  generalize w3.heap.size = g10 at P4 ⊢
  have S4 := Lib.hid P4
  have C4 := Lib.hid (awake7 w4 (TB.out.keep P4.2.2.2.2))
  clear h4 hb4 hk4 hs4 b34 P4 G3 R3 B3 X3
  go_wp2_with fail
  refine C4.out.mono ?_
  rintro e w5 ⟨rfl, hb5⟩
  have P5 := pb_keep S4.out hb5
  obtain ⟨y0, y1⟩ := cells2 P5.1
  obtain ⟨z0, z1⟩ := cells2 P5.2.1
  have S5 := Lib.hid P5
  have C5 := Lib.hid (object_same kk (.slice pa n pc) (.slice a n c) bd w5 P5.2.2.2.1 ⟨a, c, by rw [HL.out], HB.out.keep P5.2.2.2.2, (fun h => by rw [← HL.out]; exact HNO.out h), by rw [← HL.out]; exact HC.out.1, HC.out.2⟩)
  clear hb5 P5 C4 S4
  go_wp2_with fail
  refine C5.out.mono ?_
  rintro e w6 ⟨rfl, hb6⟩
  have P6 := pb_keep S5.out hb6
  obtain ⟨y0', y1'⟩ := cells2 P6.1
  have S6 := Lib.hid P6
  have C6 := Id_is kk a n c bd w6 HL.out (HB.out.keep P6.2.2.2.2) HNO.out HC.out.1 HC.out.2 (TB.out.keep P6.2.2.2.2)
  have hso : sumO kk bd = sumL ob := by unfold sumO; rw [printO_ok kk bd HK.out (by have := HL.out; omega), if_pos rfl, HOB.out]
  rw [hso] at C6
  have ids := fun u => neq_idv u (sumL ob) (sumL ob) (by simp [sumL, digest_len]) (by simp [sumL, digest_len])
  rw [show (sumL ob == sumL ob) = true by simp] at ids
  obtain ⟨arr, hia, hia2⟩ := idv_cells (sumL ob)
  rw [hia] at C6 ids
  have HIA := Lib.hid hia
  have HC6 := Lib.hid C6
  clear hb6 P6 C5 S5 C6 hso hia hia2 y0 y1 z0 z1
  go_wp2_with fail
  refine HC6.out.mono ?_
  rintro e w7 ⟨rfl, hb7⟩
  have P7 := pb_keep S6.out hb7
  have S7 := Lib.hid P7
  have C7 := rSum_n w7 xa xn xc ob HXN.out.symm (by rw [HXN.out]; exact hxl) P7.2.2.1
  rw [HIA.out] at C7
  have HC7 := Lib.hid C7
  clear hb7 P7 HC6 S6 C7 y0' y1'
  go_wp2_with fail
  refine HC7.out.mono ?_
  rintro e w8 ⟨rfl, hb8⟩
  have S8 := Lib.hid (S7.out.2.2.2.2.trans (hb8.mono S7.out.2.2.2.2.size))
  have C8 := Lib.hid (Parse_is a2 n2 c2 m w8 HL2.out (HB2.out.keep S8.out) HNO2.out HC2.out.1 HC2.out.2 (by omega) (TB.out.keep S8.out))
  clear HC7 hb8 S7
  go_wp2_with fail
  refine C8.out.mono ?_
  rintro e w9 ⟨k9, x9, b9, e9, rfl, hr9, hf9, hp9, hb9⟩
  obtain ⟨ra, rc, hx9, _, _, _, _⟩ := hr9.shape
  obtain ⟨rn, hrn⟩ : ∃ x, b9.length = x := ⟨_, rfl⟩
  rw [hrn] at hx9
  subst hx9
  have B9 := Lib.hid (S8.out.trans (hb9.mono S8.out.size)); have X9 := Lib.hid hr9.red; have HP9 := Lib.hid hp9; have HRN := Lib.hid hrn
  clear C8 hr9 hf9 hp9 hb9 hrn S8 ids
  go_wp2_with (first
    | (with_reducible refine wpList_store_obj rfl (.tmp 12) (.tmp 68) rfl w9.heap.size _ _ _ _ rfl rfl (heap_alloc_new w9 _) (one_obj _ _ _ _) ?_)
    | fail)
  intro w10 h10 hb10 hk10 hs10
  have b910 := hb10 _ _ (Nat.le_refl _) ((Below.refl _ w9).alloc (Nat.le_refl _) _)
  obtain ⟨q0, q1⟩ := cells2 h10
  have B10 := Lib.hid (B9.out.trans (b910.mono B9.out.size)); have X10 := Lib.hid (X9.out.keep b910)
  generalize w9.heap.size = g12 at q0 q1 ⊢
  clear h10 hb10 hk10 hs10 b910 B9 X9
  rcases HP9.out with ⟨ht, rfl⟩ | ⟨ht, rfl, hbn, rfl⟩
  · have HT := Lib.hid (take_some ht)
    obtain ⟨hx0, hx1, hx2, hx3, hx4⟩ := red_parts X10.out
    have C11 := Print_any k9 ra rn rc b9 w10 hx0 hx1 hx2 hx3 hx4 (TB.out.keep B10.out)
    rw [printO_ok k9 b9 HT.out.1 HT.out.2.1, HT.out.2.2] at C11
    have HC11 := Lib.hid C11
    clear C11 hx0 hx1 hx2 hx3 hx4 ht HP9
    go_wp2_with fail
    refine HC11.out.mono ?_
    rintro e w11 ⟨v11, rfl, hr11, _, hb11⟩
    obtain ⟨sa, sc, hv11, _, _, hbs, _⟩ := hr11.shape
    rw [← HL2.out] at hv11
    subst hv11
    have b11 := B10.out.trans (hb11.mono B10.out.size)
    have C12 := Bytes_any sa a2 n2 n2 sc c2 m m w11 hbs (HB2.out.keep b11) HL2.out HL2.out
    rw [show (m == m) = true by simp] at C12
    have B11 := Lib.hid b11; have HC12 := Lib.hid C12
    clear HC11 hr11 hb11 hbs b11 C12
    go_wp2_with fail
    refine HC12.out.mono ?_
    rintro e w12 ⟨rfl, rfl⟩
    go_wp2
    go_ret
    exact ⟨rfl, B11.out⟩
  · subst hbn
    have hrn0 : rn = 0 := by rw [← HRN.out]; rfl
    subst hrn0
    have C11 := Lib.hid (object_same 0 (.slice ra 0 rc) (.slice none 0 0) [] w10 X10.out (Red.none _))
    clear ht HP9
    go_wp2_with fail
    refine C11.out.mono ?_
    rintro e w11 ⟨rfl, hb11⟩
    have B11 := Lib.hid (B10.out.trans (hb11.mono B10.out.size))
    clear C11 hb11
    go_wp2
    go_ret
    exact ⟨rfl, B11.out⟩
set_option maxHeartbeats 8000000 in
theorem walk_long (w : World) (kd : Int) (a : Option Addr) (n c : Nat) (a2 : Option Addr) (n2 c2 : Nat) (hn : n ≤ maxLen) (hn2 : n2 ≤ maxLen) (hl : ¬ (n ≤ 1500 ∧ n2 ≤ 2000)) (tab : Tab w) :
    Calls Tryd.prog 4 #[.int .i64 kd, .slice a n c, .slice a2 n2 c2] w fun e w' => e = .returned (.bool true) ∧ Below w.heap.size w w' := by
  unfold maxLen at *
  have CA := Lib.hid (awake7 w tab)
  by_cases g1 : (n : Int) > 1500
  · clear hl hn hn2 tab
    go_enter Tryd.func4, Tryd.ntmps4
    go_wp2_with fail
    refine CA.out.mono ?_
    rintro e w1 ⟨rfl, b1⟩
    have B1 := Lib.hid b1
    clear b1
    go_wp2
    go_ret
    exact ⟨rfl, B1.out⟩
  · have g2 : (n2 : Int) > 2000 := by omega
    clear hl hn hn2 tab
    go_enter Tryd.func4, Tryd.ntmps4
    go_wp2_with fail
    refine CA.out.mono ?_
    rintro e w1 ⟨rfl, b1⟩
    have B1 := Lib.hid b1
    clear b1
    go_wp2
    go_ret
    exact ⟨rfl, B1.out⟩
theorem walk (w : World) (k : Int) (k0 : -9223372036854775808 ≤ k) (k1 : k ≤ 9223372036854775807) (a : Option Addr) (n c : Nat) (l : List UInt8) (hb : BAt w a l) (hl : n = l.length) (hno : a = none → n = 0 ∧ c = 0) (hc : n ≤ c ∧ c ≤ maxLen)
    (a2 : Option Addr) (n2 c2 : Nat) (m : List UInt8) (hb2 : BAt w a2 m) (hl2 : n2 = m.length) (hno2 : a2 = none → n2 = 0 ∧ c2 = 0) (hc2 : n2 ≤ c2 ∧ c2 ≤ maxLen) (tab : Tab w) :
    Calls Tryd.prog 4 #[.int .i64 k, .slice a n c, .slice a2 n2 c2] w fun e w' => e = .returned (.bool true) ∧ Below w.heap.size w w' := by
  by_cases h : n ≤ 1500 ∧ n2 ≤ 2000
  · exact walk_small w k a n c l hb hl hno hc a2 n2 c2 m hb2 hl2 hno2 hc2 h.1 h.2 tab
  · exact walk_long w k a n c a2 n2 c2 (by omega) (by omega) h tab
end Go.Proofs.YtbcbbkdfdfgnfaaDoor.objectBack
