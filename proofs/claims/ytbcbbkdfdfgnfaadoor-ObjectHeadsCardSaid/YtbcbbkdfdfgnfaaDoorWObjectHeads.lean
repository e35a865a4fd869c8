/-
  The law ObjectHeads: its walk.
-/
import Derived.Test.YtbcbbkdfdfgnfaaDoorNx
namespace Go.Proofs.YtbcbbkdfdfgnfaaDoor.objectHeads
set_option maxRecDepth 20000
open Go.RowKit
set_option linter.unusedVariables false
set_option linter.unusedSimpArgs false

/-- The heads that are none: for so many bytes, and so many more. -/
def headB (n q : Nat) (r : Nat) : List UInt8 :=
  match r with
  | 0 => [98, 108, 111, 98, 32] ++ numO (n + q)
  | 1 => [98, 108, 111, 98, 32, 48] ++ numO n
  | 2 => [98, 108, 111, 98, 32, 43] ++ numO n
  | 3 => [98, 108, 111, 98, 32, 32] ++ numO n
  | 4 => [66, 108, 111, 98, 32] ++ numO n
  | 5 => [98, 108, 111, 98]
  | 6 => [116, 97, 103, 32] ++ numO n
  | _ => [98, 108, 111, 98, 32] ++ numO n ++ [32]
theorem headB_nz (n q r : Nat) : ∀ c ∈ headB n q r, c ≠ 0 := by
  have h1 := numO_nz n
  have h2 := numO_nz (n + q)
  intro c hc e
  subst e
  unfold headB at hc
  split at hc <;> simp at hc <;> first | exact h1 0 hc rfl | exact h2 0 hc rfl
theorem headB_len (n q r : Nat) (hn : n ≤ 500) (hq : q ≤ 100) : (headB n q r).length ≤ 11 := by
  have h1 := numO_le n 3 (by omega)
  have h2 := numO_le (n + q) 3 (by omega)
  unfold headB
  split <;> simp <;> omega
theorem headB_bad (n q r : Nat) (hq : 0 < q) (k : Int) (hk : kindO k) : headO k n ≠ headB n q r := by
  unfold headB
  split
  · exact bad_more k hk n (n + q) (by omega)
  · exact bad_zero k hk n
  · exact bad_plus k hk n
  · exact bad_blank k hk n
  · exact bad_great k hk n _
  · exact bad_bare k hk n
  · exact bad_tag k hk n _
  · rw [List.append_assoc]; exact bad_behind k hk n
theorem heads_none (n q r : Nat) (hq : 0 < q) (l : List UInt8) (hl : n = l.length) : takeO (headB n q r ++ [0] ++ l) = none := by
  rw [List.append_assoc]
  show takeO (headB n q r ++ 0 :: l) = none
  exact take_head (headB_nz n q r) (fun k hk => by rw [← hl]; exact headB_bad n q r hq k hk)

set_option maxHeartbeats 32000000 in
theorem walk_small (w : World) (a : Option Addr) (n c : Nat) (l : List UInt8) (hb : BAt w a l) (hl : n = l.length) (hno : a = none → n = 0 ∧ c = 0) (hc : n ≤ c ∧ c ≤ maxLen) (mo wh : Int) (hs1 : n ≤ 500) (tab : Tab w) :
    Calls Tryd.prog 6 #[.slice a n c, .int .i64 mo, .int .i64 wh] w fun e w' => e = .returned (.bool true) ∧ Below w.heap.size w w' := by
  have g1 : ¬ ((n : Int) > 500) := by omega
  obtain ⟨u, hu⟩ : ∃ u, IntKind.u64.wrap mo = u := ⟨_, rfl⟩
  have hu0 : 0 ≤ u := by rw [← hu, IntKind.wrap_u64]; omega
  obtain ⟨s, hs⟩ : ∃ s : Nat, u.tmod 100 = (s : Int) := by
    rw [Int.tmod_eq_emod_of_nonneg hu0]
    exact ⟨(u % 100).toNat, by omega⟩
  have hs3 : s < 100 := by rw [Int.tmod_eq_emod_of_nonneg hu0] at hs; omega
  obtain ⟨v, hv⟩ : ∃ v, IntKind.u64.wrap wh = v := ⟨_, rfl⟩
  have hv0 : 0 ≤ v := by rw [← hv, IntKind.wrap_u64]; omega
  obtain ⟨r, hr⟩ : ∃ r : Nat, v.tmod 8 = (r : Int) := by
    rw [Int.tmod_eq_emod_of_nonneg hv0]
    exact ⟨(v % 8).toNat, by omega⟩
  have hr8 : r < 8 := by rw [Int.tmod_eq_emod_of_nonneg hv0] at hr; omega
  have k1 : IntKind.i64.wrap (s : Int) = (s : Int) := IntWalk.i64_in _ (by omega)
  have k2 : IntKind.u64.wrap (s : Int) = (s : Int) := by rw [IntKind.wrap_u64]; omega
  obtain ⟨q, hq⟩ : ∃ q : Nat, 1 + (s : Int) = (q : Int) := ⟨s + 1, by omega⟩
  have k3 : IntKind.i64.wrap (1 + (s : Int)) = (q : Int) := by rw [hq]; exact IntWalk.i64_in _ (by omega)
  have k4 : IntKind.i64.wrap (r : Int) = (r : Int) := IntWalk.i64_in _ (by omega)
  have k5 : IntKind.u64.wrap (r : Int) = (r : Int) := by rw [IntKind.wrap_u64]; omega
  obtain ⟨y, hy⟩ : ∃ y : Int, (n : Int) + (q : Int) = y := ⟨_, rfl⟩
  have k6 : IntKind.i64.wrap ((n : Int) + (q : Int)) = y := by rw [← hy]; exact IntWalk.i64_in _ (by omega)
  have cN := fun w => rNumber (n : Int) (by omega) (by omega) w
  rw [show Lib.itoa (n : Int) = numO n from rfl] at cN
  have cM := fun w => rNumber y (by omega) (by omega) w
  rw [← hy, show ((n : Int) + (q : Int)) = ((n + q : Nat) : Int) by omega, show Lib.itoa ((n + q : Nat) : Int) = numO (n + q) from rfl, show ((n + q : Nat) : Int) = y by omega] at cM
  have nl := numO_le n 3 (by omega)
  have ml := numO_le (n + q) 3 (by omega)
  have ad0 := fun w => add_lists (P := Tryd.prog) w [98, 108, 111, 98, 32] (numO (n + q)) (by simp; omega)
  have ad1 := fun w => add_lists (P := Tryd.prog) w [98, 108, 111, 98, 32, 48] (numO n) (by simp; omega)
  have ad2 := fun w => add_lists (P := Tryd.prog) w [98, 108, 111, 98, 32, 43] (numO n) (by simp; omega)
  have ad3 := fun w => add_lists (P := Tryd.prog) w [98, 108, 111, 98, 32, 32] (numO n) (by simp; omega)
  have ad4 := fun w => add_lists (P := Tryd.prog) w [66, 108, 111, 98, 32] (numO n) (by simp; omega)
  have ad6 := fun w => add_lists (P := Tryd.prog) w [116, 97, 103, 32] (numO n) (by simp; omega)
  have ad7 := fun w => add_lists (P := Tryd.prog) w [98, 108, 111, 98, 32] (numO n) (by simp; omega)
  have ad8 := fun w => add_lists (P := Tryd.prog) w ([98, 108, 111, 98, 32] ++ numO n) [32] (by simp; omega)
  have ad9 := fun w => add_lists (P := Tryd.prog) w ([98, 108, 111, 98, 32] ++ numO n) [0] (by simp; omega)
  have adr := fun w => add_lists (P := Tryd.prog) w (headB n q r) [0] (by have := headB_len n q r hs1 (by omega); simp; omega)
  have hcell : ∀ u : World, ∀ g, u.heap[g]? = some (.cells #[.string ⟨([98, 108, 111, 98, 32] ++ numO (n + q)).toArray⟩, .string ⟨([98, 108, 111, 98, 32, 48] ++ numO n).toArray⟩, .string ⟨([98, 108, 111, 98, 32, 43] ++ numO n).toArray⟩, .string ⟨([98, 108, 111, 98, 32, 32] ++ numO n).toArray⟩, .string ⟨([66, 108, 111, 98, 32] ++ numO n).toArray⟩, .string ⟨#[98, 108, 111, 98]⟩, .string ⟨([116, 97, 103, 32] ++ numO n).toArray⟩, .string ⟨([98, 108, 111, 98, 32] ++ numO n ++ [32]).toArray⟩] 9 (0, 0)) → u.cell? ⟨g, r, none⟩ = some (.string ⟨(headB n q r).toArray⟩) := fun u g h => by
    rw [Lib.cell_of_heap h]
    have : r = 0 ∨ r = 1 ∨ r = 2 ∨ r = 3 ∨ r = 4 ∨ r = 5 ∨ r = 6 ∨ r = 7 := by omega
    rcases this with rfl | rfl | rfl | rfl | rfl | rfl | rfl | rfl <;> rfl
  have hnone := heads_none n q r (by omega) l hl
  have hbl := headB_len n q r hs1 (by omega)
  obtain ⟨hr0, hhr⟩ : ∃ x, headB n q r ++ [0] = x := ⟨_, rfl⟩
  obtain ⟨hg0, hhg⟩ : ∃ x, [98, 108, 111, 98, 32] ++ numO n ++ [0] = x := ⟨_, rfl⟩
  have hgood : hg0 ++ l = objO 1 l := by rw [← hhg, hl]; simp [objO, headO, wordO]
  have lr : hr0.length ≤ 12 := by rw [← hhr, List.length_append]; simp; omega
  have lg : hg0.length ≤ 12 := by rw [← hhg]; simp; omega
  rw [hhr] at adr hnone
  rw [hhg] at ad9
  have SR := Lib.hid (fun w => str_row w hr0 (by omega))
  have SG := Lib.hid (fun w => str_row w hg0 (by omega))
  generalize (⟨hr0.toArray⟩ : ByteArray) = sr0 at adr SR
  generalize (⟨hg0.toArray⟩ : ByteArray) = sg0 at ad9 SG
  generalize (⟨(headB n q r).toArray⟩ : ByteArray) = sr at adr hcell
  generalize (⟨([98, 108, 111, 98, 32] ++ numO n ++ [32]).toArray⟩ : ByteArray) = s8 at ad8 hcell
  generalize (⟨([98, 108, 111, 98, 32] ++ numO n).toArray⟩ : ByteArray) = s7 at ad7 ad8 ad9 hcell
  generalize (⟨([116, 97, 103, 32] ++ numO n).toArray⟩ : ByteArray) = s6 at ad6 hcell
  generalize (⟨([66, 108, 111, 98, 32] ++ numO n).toArray⟩ : ByteArray) = s4 at ad4 hcell
  generalize (⟨([98, 108, 111, 98, 32, 32] ++ numO n).toArray⟩ : ByteArray) = s3 at ad3 hcell
  generalize (⟨([98, 108, 111, 98, 32, 43] ++ numO n).toArray⟩ : ByteArray) = s2 at ad2 hcell
  generalize (⟨([98, 108, 111, 98, 32, 48] ++ numO n).toArray⟩ : ByteArray) = s1 at ad1 hcell
  generalize (⟨([98, 108, 111, 98, 32] ++ numO (n + q)).toArray⟩ : ByteArray) = s0 at ad0 hcell
  generalize (⟨(numO n).toArray⟩ : ByteArray) = sn at cN ad1 ad2 ad3 ad4 ad6 ad7
  generalize (⟨(numO (n + q)).toArray⟩ : ByteArray) = sm at cM ad0
  have HCELL := Lib.hid hcell; have HNONE := Lib.hid hnone; have HGOOD := Lib.hid hgood
  have HB := Lib.hid hb; have HL := Lib.hid hl; have HNO := Lib.hid hno; have HC := Lib.hid hc
  have TB := Lib.hid tab
  have LR := Lib.hid lr; have LG := Lib.hid lg
  obtain ⟨rl, hrl⟩ : ∃ x, hr0.length = x := ⟨_, rfl⟩
  obtain ⟨gl, hgl⟩ : ∃ x, hg0.length = x := ⟨_, rfl⟩
  have HRL := Lib.hid hrl; have HGL := Lib.hid hgl
  rw [hrl] at SR
  rw [hgl] at SG
  clear hcell hnone hgood hhr hhg hb hl hno hc tab hy hq lr lg hbl nl ml hrl hgl
  go_enter Tryd.func6, Tryd.ntmps6
  go_wp2_with fail
  refine (cN _).mono ?_
  rintro e w1 ⟨rfl, b1⟩
  have B1 := Lib.hid b1
  clear b1 cN
  go_wp2_with fail
  refine (cM _).mono ?_
  rintro e w2 ⟨rfl, b2⟩
  have B2 := Lib.hid (B1.out.trans (b2.mono B1.out.size))
  clear b2 cM B1
  have qc := HCELL.out _ _ (heap_alloc_new w2 (.cells #[.string s0, .string s1, .string s2, .string s3, .string s4, .string ⟨#[98, 108, 111, 98]⟩, .string s6, .string s8] 9))
  obtain ⟨cap, w4, cv, b4, r4⟩ := SR.out (w2.alloc (.cells #[.string s0, .string s1, .string s2, .string s3, .string s4, .string ⟨#[98, 108, 111, 98]⟩, .string s6, .string s8] 9))
  have hE : (w2.alloc (.cells #[.string s0, .string s1, .string s2, .string s3, .string s4, .string ⟨#[98, 108, 111, 98]⟩, .string s6, .string s8] 9)).heap.size = w2.heap.size + 1 := by simp
  have B4 := Lib.hid (((B2.out.alloc B2.out.size _).trans (b4.mono (Nat.le_trans B2.out.size (by simp)))))
  have G4 := Lib.hid (show w.heap.size ≤ w2.heap.size + 1 from Nat.le_trans B2.out.size (Nat.le_succ _))
  rw [hE] at cv r4
  have R4 := Lib.hid r4
  have HB4 := Lib.hid (HB.out.keep B4.out)
  have HLE := Lib.hid (show hr0.length + l.length ≤ 1099511627776 by have := LR.out; have := HL.out; omega)
  have HLG := Lib.hid (show hg0.length + l.length ≤ 1099511627776 by have := LG.out; have := HL.out; omega)
  clear b4 r4 HCELL hE
  generalize w2.heap.size + 1 = g4 at cv R4 G4 ⊢
  go_wp2_with (first
    | (at_builtin; refine wpList_append_rowX rfl (.tmp 56) (.tmp 57) rfl g4 cap rl hr0 l HRL.out.symm rfl R4.out a n c rfl HB4.out HL.out HNO.out HLE.out ?_)
    | fail)
  intro g5 cap5 w5 r5 gr5 hg5
  have B5 := Lib.hid (B4.out.grown gr5 B4.out.size (fun k hk => by cases hk; exact G4.out))
  obtain ⟨L, hL⟩ : ∃ L, hr0.length + l.length = L := ⟨_, rfl⟩
  have hL2 : L = (hr0 ++ l).length := by rw [List.length_append]; exact hL.symm
  obtain ⟨p0, p1, p2, p3, p4⟩ := red_parts (r5.red L hL2)
  have C5 := Lib.hid (Parse_is (some ⟨g5, 0, none⟩) L cap5 (hr0 ++ l) w5 p0 p1 p2 p3 p4 (by have := LR.out; have := HL.out; omega) (TB.out.keep B5.out))
  rw [hL]
  clear cv qc R4 HB4 B4 G4 r5 gr5 hg5 hL hL2 p0 p1 p2 p3 p4
  go_wp2_with fail
  refine C5.out.mono ?_
  rintro e w6 ⟨kk, x6, bd, er, rfl, hr6, hf6, hp6, hb6⟩
  have hpp : kk = 0 ∧ bd = [] ∧ er = 4 := by
    rcases hp6 with ⟨h1, h2⟩ | ⟨h1, h2, h3, h4⟩
    · rw [HNONE.out] at h1; cases h1
    · exact ⟨h2, h3, h4⟩
  obtain ⟨rfl, rfl, rfl⟩ := hpp
  obtain ⟨pa, pc, hx6, _, _, _, _⟩ := hr6.shape
  rw [List.length_nil] at hx6
  subst hx6
  have B6 := Lib.hid (B5.out.trans (hb6.mono B5.out.size)); have X6 := Lib.hid hr6.red
  clear C5 hr6 hf6 hp6 hb6 B5
  go_wp2_with (first
    | (with_reducible refine wpList_store_obj rfl (.tmp 10) (.tmp 60) rfl w6.heap.size _ _ _ _ rfl rfl (heap_alloc_new w6 _) (one_obj _ _ _ _) ?_)
    | fail)
  intro w7 h7 hb7 hk7 hs7
  have b67 := hb7 _ _ (Nat.le_refl _) ((Below.refl _ w6).alloc (Nat.le_refl _) _)
  have B7 := Lib.hid (B6.out.trans (b67.mono B6.out.size)); have X7 := Lib.hid (X6.out.keep b67); have H7 := Lib.hid h7
  generalize w6.heap.size = g7 at H7 ⊢
  clear h7 hb7 hk7 hs7 b67 B6 X6
  obtain ⟨cap8, w8, cv, b8, r8⟩ := SG.out w7
  have B8 := Lib.hid (B7.out.trans (b8.mono B7.out.size)); have X8 := Lib.hid (X7.out.keep b8); have H8 := Lib.hid (heap_keep H7.out b8)
  have G8 := Lib.hid (show w.heap.size ≤ w7.heap.size from B7.out.size)
  have G7 := Lib.hid (show g7 < w7.heap.size from (Array.getElem?_eq_some_iff.1 H7.out).1)
  have R8 := Lib.hid r8
  have HB8 := Lib.hid (HB.out.keep B8.out)
  have hE8 := Lib.hid (show Below w7.heap.size w7 w8 from b8)
  clear b8 r8 B7 H7 SG
  generalize hw7 : w7.heap.size = g8 at cv R8 G8 G7 ⊢
  go_wp2_with (first
    | (at_builtin; refine wpList_append_rowX rfl (.tmp 66) (.tmp 67) rfl g8 cap8 gl hg0 l HGL.out.symm rfl R8.out a n c rfl HB8.out HL.out HNO.out HLG.out ?_)
    | fail)
  intro g9 cap9 w9 r9 gr9 hg9
  have b79 : Below g8 w7 w9 := (hw7 ▸ hE8.out : Below g8 w7 w8).grown gr9 (by rw [← hw7]; exact hE8.out.size) (fun k hk => by cases hk; exact Nat.le_refl _)
  have B9 := Lib.hid (B8.out.grown gr9 B8.out.size (fun k hk => by cases hk; exact G8.out))
  have X9 := Lib.hid (X7.out.below b79 (by rw [hw7]; exact Nat.le_refl _))
  obtain ⟨L2, hL⟩ : ∃ L, hg0.length + l.length = L := ⟨_, rfl⟩
  have hL2 : L2 = (hg0 ++ l).length := by rw [List.length_append]; exact hL.symm
  obtain ⟨p0, p1, p2, p3, p4⟩ := red_parts (r9.red L2 hL2)
  have C9 := Lib.hid (Parse_is (some ⟨g9, 0, none⟩) L2 cap9 (hg0 ++ l) w9 p0 p1 p2 p3 p4 (by have := LG.out; have := HL.out; omega) (TB.out.keep B9.out))
  have H9 := Lib.hid ((gr9.block g7 (Nat.lt_of_lt_of_le G7.out (by rw [← hw7]; exact hE8.out.size)) (by intro h; have := G7.out; cases h; omega)).trans H8.out)
  rw [hL]
  clear cv R8 HB8 B8 G8 G7 H8 X8 X7 hE8 r9 gr9 hg9 hL hL2 p0 p1 p2 p3 p4 b79 hw7
  go_wp2_with fail
  refine C9.out.mono ?_
  rintro e w10 ⟨kk, x10, bd, er, rfl, hr10, hf10, hp10, hb10⟩
  have hpp : kk = 1 ∧ bd = l ∧ er = 0 := by
    rw [HGOOD.out] at hp10
    have ht := take_obj (k := 1) (.inl rfl) (show l.length ≤ 65536 by have := HL.out; omega)
    rcases hp10 with ⟨h1, h2⟩ | ⟨h1, _⟩
    · rw [ht] at h1; cases h1; exact ⟨rfl, rfl, h2⟩
    · rw [ht] at h1; cases h1
  obtain ⟨rfl, rfl, rfl⟩ := hpp
  obtain ⟨qa, qc, hx10, _, _, _, _⟩ := hr10.shape
  rw [← HL.out] at hx10
  subst hx10
  have B10 := Lib.hid (B9.out.trans (hb10.mono B9.out.size)); have X10 := Lib.hid (X9.out.keep hb10); have Y10 := Lib.hid hr10.red; have H10 := Lib.hid (heap_keep H9.out hb10)
  clear C9 hr10 hf10 hp10 hb10 B9 X9 H9
  go_wp2_with (first
    | (with_reducible refine wpList_store_obj rfl (.tmp 12) (.tmp 70) rfl w10.heap.size _ _ _ _ rfl rfl (heap_alloc_new w10 _) (one_obj _ _ _ _) ?_)
    | fail)
  intro w11 h11 hb11 hk11 hs11
  have b1011 := hb11 _ _ (Nat.le_refl _) ((Below.refl _ w10).alloc (Nat.le_refl _) _)
  have B11 := Lib.hid (B10.out.trans (b1011.mono B10.out.size)); have X11 := Lib.hid (X10.out.keep b1011); have Y11 := Lib.hid (Y10.out.keep b1011); have H11 := Lib.hid (heap_keep H10.out b1011); have K11 := Lib.hid h11
  generalize w10.heap.size = g11 at K11 ⊢
  clear h11 hb11 hk11 hs11 b1011 B10 X10 Y10 H10
  have C11 := Lib.hid (awake7 w11 (TB.out.keep B11.out))
  go_wp2_with fail
  refine C11.out.mono ?_
  rintro e w12 ⟨rfl, hb12⟩
  have B12 := Lib.hid (B11.out.trans (hb12.mono B11.out.size)); have X12 := Lib.hid (X11.out.keep hb12); have Y12 := Lib.hid (Y11.out.keep hb12)
  obtain ⟨y0, y1⟩ := cells2 (heap_keep H11.out hb12)
  have K12 := Lib.hid (heap_keep K11.out hb12)
  have C12 := Lib.hid (object_same 0 (.slice pa 0 pc) (.slice none 0 0) [] w12 X12.out (Red.none _))
  clear C11 hb12 B11 X11 Y11 H11 K11
  go_wp2_with fail
  refine C12.out.mono ?_
  rintro e w13 ⟨rfl, hb13⟩
  have B13 := Lib.hid (B12.out.trans (hb13.mono B12.out.size)); have Y13 := Lib.hid (Y12.out.keep hb13)
  obtain ⟨z0, z1⟩ := cells2 (heap_keep K12.out hb13)
  have C13 := Lib.hid (object_same 1 (.slice qa n qc) (.slice a n c) bd w13 Y13.out (red_of HL.out (HB.out.keep B13.out) HNO.out HC.out.1 HC.out.2))
  clear C12 hb13 B12 X12 Y12 K12 y0 y1
  go_wp2_with fail
  refine C13.out.mono ?_
  rintro e w14 ⟨rfl, hb14⟩
  have B14 := Lib.hid (B13.out.trans (hb14.mono B13.out.size))
  clear C13 hb14
  go_wp2
  go_ret
  exact ⟨rfl, B14.out⟩
set_option maxHeartbeats 8000000 in
theorem walk_long (w : World) (a : Option Addr) (n c : Nat) (mo wh : Int) (hn : n ≤ maxLen) (hl : ¬ n ≤ 500) (tab : Tab w) :
    Calls Tryd.prog 6 #[.slice a n c, .int .i64 mo, .int .i64 wh] w fun e w' => e = .returned (.bool true) ∧ Below w.heap.size w w' := by
  unfold maxLen at *
  have CA := Lib.hid (awake7 w tab)
  have g1 : (n : Int) > 500 := by omega
  clear hl hn tab
  go_enter Tryd.func6, Tryd.ntmps6
  go_wp2_with fail
  refine CA.out.mono ?_
  rintro e w1 ⟨rfl, b1⟩
  have B1 := Lib.hid b1
  clear b1
  go_wp2
  go_ret
  exact ⟨rfl, B1.out⟩
theorem walk (w : World) (a : Option Addr) (n c : Nat) (l : List UInt8) (hb : BAt w a l) (hl : n = l.length) (hno : a = none → n = 0 ∧ c = 0) (hc : n ≤ c ∧ c ≤ maxLen)
    (mo : Int) (m0 : -9223372036854775808 ≤ mo) (m1 : mo ≤ 9223372036854775807) (wh : Int) (w0 : -9223372036854775808 ≤ wh) (w1 : wh ≤ 9223372036854775807) (tab : Tab w) :
    Calls Tryd.prog 6 #[.slice a n c, .int .i64 mo, .int .i64 wh] w fun e w' => e = .returned (.bool true) ∧ Below w.heap.size w w' := by
  by_cases h : n ≤ 500
  · exact walk_small w a n c l hb hl hno hc mo wh h tab
  · exact walk_long w a n c mo wh (by omega) h tab
end Go.Proofs.YtbcbbkdfdfgnfaaDoor.objectHeads
