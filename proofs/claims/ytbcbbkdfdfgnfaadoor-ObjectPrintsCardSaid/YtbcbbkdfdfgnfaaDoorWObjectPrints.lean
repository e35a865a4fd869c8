/-
  The law ObjectPrints: its walk.
-/
import Derived.Test.YtbcbbkdfdfgnfaaDoorNw
import Derived.Deep.RegionHeld3
namespace Go.Proofs.YtbcbbkdfdfgnfaaDoor.objectPrints
set_option maxRecDepth 20000
open Go.RowKit
set_option linter.unusedVariables false
set_option linter.unusedSimpArgs false

/-- The object that came in, in its cell. -/
abbrev PN0 (w : World) (k : Int) (a : Option Addr) (n c : Nat) (u : World) : Prop :=
  u.cell? ⟨w.heap.size, 0, none⟩ = some (.int .i64 k) ∧ u.cell? ⟨w.heap.size, 1, none⟩ = some (.slice a n c) ∧ Below w.heap.size w u ∧ w.heap.size < u.heap.size
theorem pn0_keep {w u u' : World} {k : Int} {a : Option Addr} {n c : Nat} (h : PN0 w k a n c u) (b : Below u.heap.size u u') : PN0 w k a n c u' :=
  ⟨(b.cell (p := ⟨w.heap.size, 0, none⟩) h.2.2.2).trans h.1, (b.cell (p := ⟨w.heap.size, 1, none⟩) h.2.2.2).trans h.2.1, h.2.2.1.trans (b.mono h.2.2.1.size), Nat.lt_of_lt_of_le h.2.2.2 b.size⟩
/-- What holds behind the first region. -/
abbrev PR1 (w : World) (k : Int) (a : Option Addr) (n c : Nat) (l : List UInt8) (g5 go : Nat) (u : World) : Prop :=
  OwnAt u go l 71 ∧ PN0 w k a n c u ∧ w.heap.size < go ∧ w.heap.size < g5 ∧ go ≠ g5 ∧ u.heap[g5]? = some (.cells #[.int .i64 k, .slice (some ⟨go, 0, none⟩) n (n + 3)] 24 (0, 0))
theorem leafA {w u : World} {k : Int} {a : Option Addr} {n c : Nat} {l : List UInt8} {go : Nat} (ho : OwnAt u go l 71) (hp : PN0 w k a n c u) (hg : w.heap.size < go) : PR1 w k a n c l u.heap.size go (u.alloc (.cells #[.int .i64 k, .slice (some ⟨go, 0, none⟩) n (n + 3)] 24)) :=
  ⟨own_same ho (Below.heap_alloc u _ go ho.lt), pn0_keep hp ((Below.refl _ u).alloc (Nat.le_refl _) _), hg, hp.2.2.2, Nat.ne_of_lt ho.lt, heap_alloc_new u _⟩
theorem leafB {w u : World} {k : Int} {a : Option Addr} {n c : Nat} {l : List UInt8} {go g5 : Nat} (ho : OwnAt u go l 71) (hp : PN0 w k a n c u) (hg : w.heap.size < go) (h5 : w.heap.size < g5) (hne : go ≠ g5) (hz : u.heap[g5]? = some (.cells #[.int .i64 0, .slice none 0 0] 24 (0, 0))) :
    PR1 w k a n c l g5 go ((u.setCell ⟨g5, 0, none⟩ (.int .i64 k)).setCell ⟨g5, 1, none⟩ (.slice (some ⟨go, 0, none⟩) n (n + 3))) := by
  have e : ∀ j, j ≠ g5 → ((u.setCell ⟨g5, 0, none⟩ (.int .i64 k)).setCell ⟨g5, 1, none⟩ (.slice (some ⟨go, 0, none⟩) n (n + 3))).heap[j]? = u.heap[j]? := fun j hj => by
    rw [heap_setCell_other _ _ _ _ hj, heap_setCell_other _ _ _ _ hj]
  have c1 : ∀ i v, u.cell? ⟨w.heap.size, i, none⟩ = some v → ((u.setCell ⟨g5, 0, none⟩ (.int .i64 k)).setCell ⟨g5, 1, none⟩ (.slice (some ⟨go, 0, none⟩) n (n + 3))).cell? ⟨w.heap.size, i, none⟩ = some v := fun i v h =>
    (World.cell?_of_block (e w.heap.size (by omega))).trans h
  refine ⟨own_same ho (e go hne), ⟨c1 _ _ hp.1, c1 _ _ hp.2.1, (hp.2.2.1.setCell (by show w.heap.size ≤ g5; omega) _).setCell (by show w.heap.size ≤ g5; omega) _, ?_⟩, hg, h5, hne, ?_⟩
  · have hz2 := (heap_set (heap_set hz 0 (.int .i64 k)) 1 (.slice (some ⟨go, 0, none⟩) n (n + 3)))
    exact Nat.lt_trans h5 (Array.getElem?_eq_some_iff.1 hz2).1
  · exact (heap_set (heap_set hz 0 _) 1 _).trans rfl
/-- What stays while the calls go on: both copies, what came in, the object handed in. -/
abbrev PS9 (w : World) (k : Int) (a : Option Addr) (n c : Nat) (l m : List UInt8) (g5 go gb : Nat) (u : World) : Prop :=
  OwnAt u go l 71 ∧ OwnAt u gb m 71 ∧ PN0 w k a n c u ∧ u.heap[g5]? = some (.cells #[.int .i64 k, .slice (some ⟨go, 0, none⟩) n (n + 3)] 24 (0, 0))
theorem ps9_keep {w u u' : World} {k : Int} {a : Option Addr} {n c : Nat} {l m : List UInt8} {g5 go gb : Nat} (h : PS9 w k a n c l m g5 go gb u) (b : Below u.heap.size u u') : PS9 w k a n c l m g5 go gb u' :=
  ⟨h.1.keep b, h.2.1.keep b, pn0_keep h.2.2.1 b, heap_keep h.2.2.2 b⟩
/-- The rest of it while the last condition is reckoned. -/
def RestP (w : World) (k : Int) (a : Option Addr) (n c : Nat) (l m : List UInt8) (g5 go gb : Nat) (x y p q : Value) (xs ps : List UInt8) (u : World) : Prop :=
  PS9 w k a n c l m g5 go gb u ∧ Red u x xs ∧ Red u y xs ∧ Red u p ps ∧ Red u q ps
theorem restP_keep {w u u' : World} {k : Int} {a : Option Addr} {n c : Nat} {l m : List UInt8} {g5 go gb : Nat} {x y p q : Value} {xs ps : List UInt8} (h : RestP w k a n c l m g5 go gb x y p q xs ps u) (b : Below u.heap.size u u') : RestP w k a n c l m g5 go gb x y p q xs ps u' :=
  ⟨ps9_keep h.1 b, h.2.1.keep b, h.2.2.1.keep b, h.2.2.2.1.keep b, h.2.2.2.2.keep b⟩
abbrev QP (w : World) (k : Int) (a : Option Addr) (n c : Nat) (l m : List UInt8) (g5 go gb : Nat) (x y p q : Value) (xs ps : List UInt8) (kk : Int) (g1 g2 : Nat) (u : World) : Prop :=
  u.cell? ⟨w.heap.size, 0, none⟩ = some (.int .i64 k) ∧ u.cell? ⟨w.heap.size, 1, none⟩ = some (.slice a n c) ∧ u.cell? ⟨g5, 0, none⟩ = some (.int .i64 k) ∧ u.cell? ⟨g5, 1, none⟩ = some (.slice (some ⟨go, 0, none⟩) n (n + 3)) ∧
  u.cell? ⟨g1, 0, none⟩ = some (.int .i64 kk) ∧ u.cell? ⟨g1, 1, none⟩ = some p ∧ u.cell? ⟨g2, 0, none⟩ = some (.int .i64 kk) ∧ u.cell? ⟨g2, 1, none⟩ = some q ∧ RestP w k a n c l m g5 go gb x y p q xs ps u
theorem qp_keep {w u u' : World} {k : Int} {a : Option Addr} {n c : Nat} {l m : List UInt8} {g5 go gb : Nat} {x y p q : Value} {xs ps : List UInt8} {kk : Int} {g1 g2 : Nat} (h : QP w k a n c l m g5 go gb x y p q xs ps kk g1 g2 u) (b : Below u.heap.size u u') : QP w k a n c l m g5 go gb x y p q xs ps kk g1 g2 u' := by
  have e : ∀ (p : Addr) v, u.cell? p = some v → u'.cell? p = some v := fun p v hc => (b.cell (World.block_lt_of_cell? u p hc)).trans hc
  obtain ⟨h0, h1, h2, h3, h4, h5, h6, h7, h8⟩ := h
  exact ⟨e _ _ h0, e _ _ h1, e _ _ h2, e _ _ h3, e _ _ h4, e _ _ h5, e _ _ h6, e _ _ h7, restP_keep h8 b⟩
set_option maxHeartbeats 32000000 in
theorem walk_small (w : World) (k : Int) (a : Option Addr) (n c : Nat) (l : List UInt8) (hb : BAt w a l) (hl : n = l.length) (hno : a = none → n = 0 ∧ c = 0) (hc : n ≤ c ∧ c ≤ maxLen)
    (a2 : Option Addr) (n2 c2 : Nat) (m : List UInt8) (hb2 : BAt w a2 m) (hl2 : n2 = m.length) (hno2 : a2 = none → n2 = 0 ∧ c2 = 0) (hc2 : n2 ≤ c2 ∧ c2 ≤ maxLen) (hs1 : n ≤ 1500) (hs2 : n2 ≤ 2000) (tab : Tab w) :
    Calls Tryd.prog 3 #[.agg #[.int .i64 k, .slice a n c], .slice a2 n2 c2] w fun e w' => e = .returned (.bool true) ∧ Below w.heap.size w w' := by
  have b0 := (Below.refl w.heap.size w).alloc (Nat.le_refl _) (.cells #[.int .i64 k, .slice a n c] 24)
  have h0 := heap_alloc_new w (.cells #[.int .i64 k, .slice a n c] 24)
  have s0 : (w.alloc (.cells #[.int .i64 k, .slice a n c] 24)).heap.size = w.heap.size + 1 := by simp
  obtain ⟨q0, q1⟩ := cells2 h0
  have CO := Lib.hid (fun u h => Own_any a n c l 71 u h hno hl (by omega))
  have g1 : ¬ ((n : Int) > 1500) := by omega
  have g2 : ¬ ((n2 : Int) > 2000) := by omega
  have HB := Lib.hid hb; have HL := Lib.hid hl; have HNO := Lib.hid hno; have HC := Lib.hid hc
  have HB2 := Lib.hid hb2; have HL2 := Lib.hid hl2; have HNO2 := Lib.hid hno2; have HC2 := Lib.hid hc2
  have TB := Lib.hid tab
  have B0 := Lib.hid b0; have H0 := Lib.hid h0; have S0 := Lib.hid s0
  clear hb hl hno hc hb2 hl2 hno2 hc2 tab b0 h0 s0
  go_enter Tryd.func3, Tryd.ntmps3
  go_wp2_with fail
  have K0 : PN0 w k a n c (w.alloc (.cells #[.int .i64 k, .slice a n c] 24)).drew := ⟨q0, q1, B0.out.drew, by show _ < (w.alloc (.cells #[.int .i64 k, .slice a n c] 24)).heap.size; rw [S0.out]; omega⟩
  have K1 : PN0 w k a n c ((w.alloc (.cells #[.int .i64 k, .slice a n c] 24)).drew.alloc (.cells #[.int .i64 0, .slice none 0 0] 24)) := pn0_keep K0 ((Below.refl _ _).alloc (Nat.le_refl _) _)
  have S1 := Lib.hid (show w.heap.size + 1 < ((w.alloc (.cells #[.int .i64 k, .slice a n c] 24)).drew.alloc (.cells #[.int .i64 0, .slice none 0 0] 24)).heap.size by
    show _ < ((w.alloc (.cells #[.int .i64 k, .slice a n c] 24)).heap.push _).size
    rw [Array.size_push, S0.out]; omega)
  have H1 := Lib.hid (heap_alloc_new (w.alloc (.cells #[.int .i64 k, .slice a n c] 24)).drew (.cells #[.int .i64 0, .slice none 0 0] 24))
  rw [show (w.alloc (.cells #[.int .i64 k, .slice a n c] 24)).drew.heap.size = w.heap.size + 1 from S0.out] at H1
  have DO := Lib.hid (fun u (h : PN0 w k a n c u) =>
    ((CO.out u (HB.out.keep h.2.2.1)).mono (fun e u' he => ⟨he.1, he.2.1, pn0_keep h he.2.2, he.2.2⟩) : Calls Tryd.prog 8 #[.slice a n c, .int .u8 71] u fun e u' => e = .returned (.slice (some ⟨u.heap.size, 0, none⟩) l.length (l.length + 3)) ∧ OwnAt u' u.heap.size l 71 ∧ PN0 w k a n c u' ∧ Below u.heap.size u u'))
  rw [← HL.out] at DO
  have E2 : ((w.alloc (.cells #[.int .i64 k, .slice a n c] 24)).alloc (.cells #[.int .i64 0, .slice none 0 0] 24)).drew.heap.size = w.heap.size + 1 + 1 := by
    show ((w.alloc (.cells #[.int .i64 k, .slice a n c] 24)).heap.push _).size = _
    rw [Array.size_push, S0.out]
  have E1 : (w.alloc (.cells #[.int .i64 k, .slice a n c] 24)).drew.heap.size = w.heap.size + 1 := S0.out
  refine region_cut (fun a0 a' u => ∃ g5 go, a' = ((((((a0.put (some 25) (.pointer (some ⟨w.heap.size, 0, none⟩))).put (some 26) (.int .i64 k)).put (some 27) (.pointer (some ⟨w.heap.size, 1, none⟩))).put (some 28) (.slice a n c)).put (some 29) (.slice (some ⟨go, 0, none⟩) n (n + 3))).put (some 30) (.agg #[.int .i64 k, .slice (some ⟨go, 0, none⟩) n (n + 3)])).put (some 5) (.pointer (some ⟨g5, 0, none⟩))
    ∧ PR1 w k a n c l g5 go u) ?_ ?_
  · go_region_law (first
      | (go_simp; go_at_call 8; refine (DO.out _ (by assumption)).mono ?_; rintro e u ⟨rfl, ho, hp, hb⟩; (first | rw [E2] at ho | rw [E1] at ho); have HOB := Lib.hid (And.intro ho (And.intro hp hb)); have p0 := hp.1; have p1 := hp.2.1; have p2 := hp.2.2.2; first | (have hz := (hb.block (w.heap.size + 1) S1.out).trans H1.out; obtain ⟨y0, y1⟩ := cells2 hz; have z0 := not_frozen hz 0; have z1 := not_frozen hz 1; have HZ := Lib.hid hz; clear ho hp hb hz) | (clear ho hp hb)))
    all_goals first
      | (have hz := HZ.out; refine ⟨w.heap.size + 1, w.heap.size + 1 + 1, ?_, ?_⟩; go_simp; exact leafB HOB.out.1 HOB.out.2.1 (by omega) (by omega) (by omega) hz)
      | (refine ⟨u.heap.size, w.heap.size + 1, ?_, ?_⟩; go_simp; exact leafA HOB.out.1 HOB.out.2.1 (by omega))
  · rintro a' u ⟨g5, go, rfl, hp1⟩
    clear q0 q1 K0 K1 S1 H1 DO E2 E1 CO B0 H0 S0
    obtain ⟨r1, r2, r3, r4, r5, r6⟩ := hp1
    have CO2 := Lib.hid (Own_any a2 n2 c2 m 71 u (HB2.out.keep r2.2.2.1) HNO2.out HL2.out (by have := HL2.out; omega))
    have P1 := Lib.hid (show PN0 w k a n c u from r2)
    have O1 := Lib.hid r1; have G1 := Lib.hid r6
    have HM1 := Lib.hid (show n + 3 ≤ maxLen by unfold maxLen; omega)
    have HM2 := Lib.hid (show n2 + 3 ≤ maxLen by unfold maxLen; omega)
    clear r1 r2 r3 r4 r5 r6
    go_wp2_with fail
    refine CO2.out.mono ?_
    rintro e w4 ⟨rfl, ho2, hb4⟩
    have P4 : PS9 w k a n c l m g5 go u.heap.size w4 := ⟨O1.out.keep hb4, ho2, pn0_keep P1.out hb4, heap_keep G1.out hb4⟩
    rw [← HL2.out]
    generalize u.heap.size = gb at P4 ⊢
    obtain ⟨y0, y1⟩ := cells2 P4.2.2.2
    have C5 := Lib.hid (Print_any k (some ⟨go, 0, none⟩) n (n + 3) l w4 HL.out P4.1.bat (fun h => by cases h) (by omega) HM1.out (TB.out.keep P4.2.2.1.2.2.1))
    have S4 := Lib.hid P4
    clear P4 ho2 hb4 CO2 P1 O1 G1
    go_wp2_with fail
    refine C5.out.mono ?_
    rintro e w5 ⟨x5, rfl, hr5, _, hb5⟩
    have P5 := ps9_keep S4.out hb5
    obtain ⟨z0, z1, _, _⟩ := P5.2.2.1
    have C6 := Lib.hid (roPrint_any k a n c l w5 HL.out (HB.out.keep P5.2.2.1.2.2.1) HNO.out HC.out.1 HC.out.2)
    obtain ⟨PE, hPE⟩ : ∃ x, (printO k l).2 = x := ⟨_, rfl⟩
    obtain ⟨PL, hPL⟩ : ∃ x, (printO k l).1 = x := ⟨_, rfl⟩
    rw [hPE, hPL] at C6
    rw [hPL] at hr5
    rw [hPE]
    have hd5 := hr5.red
    obtain ⟨xa, xc, hx5, hx51, hx52, hx53, hx54⟩ := hd5
    obtain ⟨xn, hxn⟩ : ∃ x, PL.length = x := ⟨_, rfl⟩
    rw [hxn] at hx5
    subst hx5
    have S5 := Lib.hid P5
    have R5 := Lib.hid (show Red w5 (.slice xa xn xc) PL from hr5.red)
    clear C5 hr5 hb5 P5 hPE hPL hx51 hx52 hx53 hx54 y0 y1 S4
    go_wp2_with fail
    refine C6.out.mono ?_
    rintro e w6 ⟨x6, rfl, hr6, hb6⟩
    have P6 := ps9_keep S5.out hb6
    have R6 := Lib.hid (R5.out.keep hb6)
    have Y6 := Lib.hid hr6
    obtain ⟨ya, yc, hx6, _, _, _, _⟩ := hr6
    rw [hxn] at hx6
    subst hx6
    have C7 := Lib.hid (Parse_is (some ⟨gb, 0, none⟩) n2 (n2 + 3) m w6 HL2.out P6.2.1.bat (fun h => by cases h) (by omega) HM2.out (by omega) (TB.out.keep P6.2.2.1.2.2.1))
    have S6 := Lib.hid P6
    clear C6 hb6 P6 S5 R5 z0 z1
    go_wp2_with fail
    refine C7.out.mono ?_
    rintro e w7 ⟨kk, x7, bd, er, rfl, hr7, hf7, hp7, hb7⟩
    obtain ⟨pa, pc, hx7, _, _, _, _⟩ := hr7.shape
    have hbdl := parsed_len hp7
    obtain ⟨pn, hpn⟩ : ∃ x, bd.length = x := ⟨_, rfl⟩
    rw [hpn] at hx7 hbdl
    subst hx7
    have S7 := Lib.hid (ps9_keep S6.out hb7)
    have R7 := Lib.hid (R6.out.keep hb7); have Y7 := Lib.hid (Y6.out.keep hb7)
    have U7 := Lib.hid hr7.red
    have HP7 := Lib.hid hp7
    have HPN := Lib.hid hpn; have HXN := Lib.hid hxn
    clear C7 hr7 hf7 hp7 hb7 S6 R6 Y6 hpn hxn
    go_wp2_with (first
      | (with_reducible refine wpList_store_obj rfl (.tmp 11) (.tmp 46) rfl w7.heap.size _ _ _ _ rfl rfl (heap_alloc_new w7 _) (one_obj _ _ _ _) ?_)
      | fail)
    intro w8 h8 hb8 hk8 hs8
    have b78 := hb8 _ _ (Nat.le_refl _) ((Below.refl _ w7).alloc (Nat.le_refl _) _)
    have P8 := ps9_keep S7.out b78
    have S8 := Lib.hid P8
    have R8 := Lib.hid (R7.out.keep b78); have Y8 := Lib.hid (Y7.out.keep b78)
    have U8 := Lib.hid (U7.out.keep b78)
    have X8 := Lib.hid h8
    have C9 := Lib.hid (roParse_is a2 n2 c2 m w8 HL2.out (HB2.out.keep P8.2.2.1.2.2.1) HNO2.out HC2.out.1 HC2.out.2 (by omega))
    generalize w7.heap.size = g1 at X8 ⊢
    clear h8 hb8 hk8 hs8 b78 P8 S7 R7 Y7 U7
    go_wp2_with fail
    refine C9.out.mono ?_
    rintro e w9 ⟨kk2, x9, bd2, er2, rfl, hr9, hp9, hb9⟩
    obtain ⟨rfl, rfl, rfl⟩ := parsed_same HP7.out hp9
    have S9 := Lib.hid (ps9_keep S8.out hb9)
    have R9 := Lib.hid (R8.out.keep hb9); have Y9 := Lib.hid (Y8.out.keep hb9)
    have U9 := Lib.hid (U8.out.keep hb9); have X9 := Lib.hid (heap_keep X8.out hb9)
    have V9 := Lib.hid hr9
    obtain ⟨qa, qc, hx9, _, _, _, _⟩ := hr9
    rw [HPN.out] at hx9
    subst hx9
    clear C9 hp9 hb9 S8 R8 Y8 U8 X8
    go_wp2_with (first
      | (with_reducible refine wpList_store_obj rfl (.tmp 13) (.tmp 51) rfl w9.heap.size _ _ _ _ rfl rfl (heap_alloc_new w9 _) (one_obj _ _ _ _) ?_)
      | fail)
    intro w10 h10 hb10 hk10 hs10
    have b910 := hb10 _ _ (Nat.le_refl _) ((Below.refl _ w9).alloc (Nat.le_refl _) _)
    have P10 := ps9_keep S9.out b910
    obtain ⟨c0, c1⟩ := cells2 P10.2.2.2
    obtain ⟨c2', c3⟩ := cells2 (heap_keep X9.out b910)
    obtain ⟨c4, c5⟩ := cells2 h10
    have K10 : QP w k a n c l m g5 go gb (.slice xa xn xc) (.slice ya xn yc) (.slice pa pn pc) (.slice qa pn qc) PL bd2 kk2 g1 w9.heap.size w10 :=
      ⟨P10.2.2.1.1, P10.2.2.1.2.1, c0, c1, c2', c3, c4, c5, P10, R9.out.keep b910, Y9.out.keep b910, U9.out.keep b910, V9.out.keep b910⟩
    generalize w9.heap.size = g2 at K10 ⊢
    clear h10 hb10 hk10 hs10 b910 P10 c0 c1 c2' c3 c4 c5 S9 R9 Y9 U9 X9 V9
    have K11 := qp_keep K10 ((Below.refl _ w10).drew)
    have ids := fun u => eql_idv u (sumO k l) (sumO k l) (sumO_len k l) (sumO_len k l)
    rw [show (sumO k l == sumO k l) = true by simp] at ids
    obtain ⟨arr, hia, hia2⟩ := idv_cells (sumO k l)
    rw [hia] at ids
    clear hia2
    have DA := Lib.hid (fun u (h : QP w k a n c l m g5 go gb (.slice xa xn xc) (.slice ya xn yc) (.slice pa pn pc) (.slice qa pn qc) PL bd2 kk2 g1 g2 u) => ((awake7 u (TB.out.keep h.2.2.2.2.2.2.2.2.1.2.2.1.2.2.1)).mono (fun e u' ⟨he, hb⟩ => ⟨he, qp_keep h hb⟩) : Calls Tryd.prog 7 #[] u fun e u' => e = .returned (.bool true) ∧ QP w k a n c l m g5 go gb (.slice xa xn xc) (.slice ya xn yc) (.slice pa pn pc) (.slice qa pn qc) PL bd2 kk2 g1 g2 u'))
    have HBY := Lib.hid (show (PL == PL) = true by simp)
    have DB := Lib.hid (fun u (h : QP w k a n c l m g5 go gb (.slice xa xn xc) (.slice ya xn yc) (.slice pa pn pc) (.slice qa pn qc) PL bd2 kk2 g1 g2 u) => ((bytes_red xn PL HXN.out u h.2.2.2.2.2.2.2.2.2.1 h.2.2.2.2.2.2.2.2.2.2.1).mono (fun e u' ⟨he, hb⟩ => ⟨he, qp_keep h hb⟩) : Calls Tryd.prog 13 #[.slice xa xn xc, .slice ya xn yc] u fun e u' => e = .returned (.bool true) ∧ QP w k a n c l m g5 go gb (.slice xa xn xc) (.slice ya xn yc) (.slice pa pn pc) (.slice qa pn qc) PL bd2 kk2 g1 g2 u'))
    have DI := Lib.hid (fun u (h : QP w k a n c l m g5 go gb (.slice xa xn xc) (.slice ya xn yc) (.slice pa pn pc) (.slice qa pn qc) PL bd2 kk2 g1 g2 u) => ((hia ▸ Id_is k (some ⟨go, 0, none⟩) n (n + 3) l u HL.out h.2.2.2.2.2.2.2.2.1.1.bat (fun h => by cases h) (by omega) HM1.out (TB.out.keep h.2.2.2.2.2.2.2.2.1.2.2.1.2.2.1)).mono (fun e u' ⟨he, hb⟩ => ⟨he, qp_keep h hb⟩) : Calls Tryd.prog 14 #[.agg #[.int .i64 k, .slice (some ⟨go, 0, none⟩) n (n + 3)]] u fun e u' => e = .returned (.agg arr) ∧ QP w k a n c l m g5 go gb (.slice xa xn xc) (.slice ya xn yc) (.slice pa pn pc) (.slice qa pn qc) PL bd2 kk2 g1 g2 u'))
    have DIr := Lib.hid (fun u (h : QP w k a n c l m g5 go gb (.slice xa xn xc) (.slice ya xn yc) (.slice pa pn pc) (.slice qa pn qc) PL bd2 kk2 g1 g2 u) => ((hia ▸ roId_is k a n c l u HL.out (HB.out.keep h.2.2.2.2.2.2.2.2.1.2.2.1.2.2.1) HNO.out HC.out.1 HC.out.2).mono (fun e u' ⟨he, hb⟩ => ⟨he, qp_keep h hb⟩) : Calls Tryd.prog 15 #[.agg #[.int .i64 k, .slice a n c]] u fun e u' => e = .returned (.agg arr) ∧ QP w k a n c l m g5 go gb (.slice xa xn xc) (.slice ya xn yc) (.slice pa pn pc) (.slice qa pn qc) PL bd2 kk2 g1 g2 u'))
    have DOb := Lib.hid (fun u (h : QP w k a n c l m g5 go gb (.slice xa xn xc) (.slice ya xn yc) (.slice pa pn pc) (.slice qa pn qc) PL bd2 kk2 g1 g2 u) => ((object_same kk2 _ _ bd2 u h.2.2.2.2.2.2.2.2.2.2.2.1 h.2.2.2.2.2.2.2.2.2.2.2.2).mono (fun e u' ⟨he, hb⟩ => ⟨he, qp_keep h hb⟩) : Calls Tryd.prog 16 #[.agg #[.int .i64 kk2, .slice pa pn pc], .agg #[.int .i64 kk2, .slice qa pn qc]] u fun e u' => e = .returned (.bool true) ∧ QP w k a n c l m g5 go gb (.slice xa xn xc) (.slice ya xn yc) (.slice pa pn pc) (.slice qa pn qc) PL bd2 kk2 g1 g2 u'))
    obtain ⟨wd, hwd⟩ : ∃ wd : ByteArray, ⟨(wordO k).toArray⟩ = wd := ⟨_, rfl⟩
    have DW := Lib.hid (fun u (h : QP w k a n c l m g5 go gb (.slice xa xn xc) (.slice ya xn yc) (.slice pa pn pc) (.slice qa pn qc) PL bd2 kk2 g1 g2 u) => ((hwd ▸ Word_is k u).mono (fun e u' ⟨he, hb⟩ => ⟨he, qp_keep h hb⟩) : Calls Tryd.prog 17 #[.int .i64 k] u fun e u' => e = .returned (.string wd) ∧ QP w k a n c l m g5 go gb (.slice xa xn xc) (.slice ya xn yc) (.slice pa pn pc) (.slice qa pn qc) PL bd2 kk2 g1 g2 u'))
    have DWr := Lib.hid (fun u (h : QP w k a n c l m g5 go gb (.slice xa xn xc) (.slice ya xn yc) (.slice pa pn pc) (.slice qa pn qc) PL bd2 kk2 g1 g2 u) => ((hwd ▸ roWord_below k u).mono (fun e u' ⟨he, hb⟩ => ⟨he, qp_keep h hb⟩) : Calls Tryd.prog 18 #[.int .i64 k] u fun e u' => e = .returned (.string wd) ∧ QP w k a n c l m g5 go gb (.slice xa xn xc) (.slice ya xn yc) (.slice pa pn pc) (.slice qa pn qc) PL bd2 kk2 g1 g2 u'))
    have DK := Lib.hid (fun u (h : QP w k a n c l m g5 go gb (.slice xa xn xc) (.slice ya xn yc) (.slice pa pn pc) (.slice qa pn qc) PL bd2 kk2 g1 g2 u) => ((Kept_any go n n (n + 3) c a l 71 u h.2.2.2.2.2.2.2.2.1.1 (HB.out.keep h.2.2.2.2.2.2.2.2.1.2.2.1.2.2.1) HL.out (by have := HL.out; omega) HL.out (by have := HL.out; omega)).mono (fun e u' ⟨he, hb⟩ => ⟨he, qp_keep h hb⟩) : Calls Tryd.prog 19 #[.slice (some ⟨go, 0, none⟩) n (n + 3), .slice a n c, .int .u8 71] u fun e u' => e = .returned (.bool true) ∧ QP w k a n c l m g5 go gb (.slice xa xn xc) (.slice ya xn yc) (.slice pa pn pc) (.slice qa pn qc) PL bd2 kk2 g1 g2 u'))
    have DK2 := Lib.hid (fun u (h : QP w k a n c l m g5 go gb (.slice xa xn xc) (.slice ya xn yc) (.slice pa pn pc) (.slice qa pn qc) PL bd2 kk2 g1 g2 u) => ((Kept_any gb n2 n2 (n2 + 3) c2 a2 m 71 u h.2.2.2.2.2.2.2.2.1.2.1 (HB2.out.keep h.2.2.2.2.2.2.2.2.1.2.2.1.2.2.1) HL2.out (by have := HL2.out; omega) HL2.out (by have := HL2.out; omega)).mono (fun e u' ⟨he, hb⟩ => ⟨he, qp_keep h hb⟩) : Calls Tryd.prog 19 #[.slice (some ⟨gb, 0, none⟩) n2 (n2 + 3), .slice a2 n2 c2, .int .u8 71] u fun e u' => e = .returned (.bool true) ∧ QP w k a n c l m g5 go gb (.slice xa xn xc) (.slice ya xn yc) (.slice pa pn pc) (.slice qa pn qc) PL bd2 kk2 g1 g2 u'))
    clear K10
    go_wp2_with fail
    go_region_held3 (fun u => u.cell? ⟨w.heap.size, 0, none⟩ = some (.int .i64 k) ∧ u.cell? ⟨w.heap.size, 1, none⟩ = some (.slice a n c) ∧ u.cell? ⟨g5, 0, none⟩ = some (.int .i64 k) ∧ u.cell? ⟨g5, 1, none⟩ = some (.slice (some ⟨go, 0, none⟩) n (n + 3)) ∧
      u.cell? ⟨g1, 0, none⟩ = some (.int .i64 kk2) ∧ u.cell? ⟨g1, 1, none⟩ = some (.slice pa pn pc) ∧ u.cell? ⟨g2, 0, none⟩ = some (.int .i64 kk2) ∧ u.cell? ⟨g2, 1, none⟩ = some (.slice qa pn qc) ∧ RestP w k a n c l m g5 go gb (.slice xa xn xc) (.slice ya xn yc) (.slice pa pn pc) (.slice qa pn qc) PL bd2 u) (assumption)
      (first | (go_at_call 7; refine (DA.out _ (by assumption)).mono ?_; rintro e w' ⟨rfl, hS⟩) | (go_at_call 13; refine (DB.out _ (by assumption)).mono ?_; rintro e w' ⟨rfl, hS⟩) | (go_at_call 14; refine (DI.out _ (by assumption)).mono ?_; rintro e w' ⟨rfl, hS⟩) | (go_at_call 15; refine (DIr.out _ (by assumption)).mono ?_; rintro e w' ⟨rfl, hS⟩) | (go_at_call 16; refine (DOb.out _ (by assumption)).mono ?_; rintro e w' ⟨rfl, hS⟩) | (go_at_call 17; refine (DW.out _ (by assumption)).mono ?_; rintro e w' ⟨rfl, hS⟩) | (go_at_call 18; refine (DWr.out _ (by assumption)).mono ?_; rintro e w' ⟨rfl, hS⟩) | (go_at_call 19; with_reducible refine (DK.out _ (by assumption)).mono ?_; rintro e w' ⟨rfl, hS⟩) | (go_at_call 19; with_reducible refine (DK2.out _ (by assumption)).mono ?_; rintro e w' ⟨rfl, hS⟩))
    all_goals
      go_wp2
      go_ret
      exact ⟨by first | rfl | (apply ret_bool; simp), hS.2.2.2.2.2.2.2.2.1.2.2.1.2.2.1⟩
set_option maxHeartbeats 8000000 in
theorem walk_long (w : World) (k : Int) (a : Option Addr) (n c : Nat) (a2 : Option Addr) (n2 c2 : Nat) (hn : n ≤ maxLen) (hn2 : n2 ≤ maxLen) (hl : ¬ (n ≤ 1500 ∧ n2 ≤ 2000)) (tab : Tab w) :
    Calls Tryd.prog 3 #[.agg #[.int .i64 k, .slice a n c], .slice a2 n2 c2] w fun e w' => e = .returned (.bool true) ∧ Below w.heap.size w w' := by
  unfold maxLen at *
  have b0 := (Below.refl w.heap.size w).alloc (Nat.le_refl _) (.cells #[.int .i64 k, .slice a n c] 24)
  obtain ⟨q0, q1⟩ := cells2 (heap_alloc_new w (.cells #[.int .i64 k, .slice a n c] 24))
  have cA := awake7 _ (tab.keep b0)
  have B0 := Lib.hid b0
  have CA := Lib.hid cA
  clear b0 cA tab
  by_cases g1 : (n : Int) > 1500
  · clear hl hn hn2
    go_enter Tryd.func3, Tryd.ntmps3
    go_wp2_with fail
    refine CA.out.mono ?_
    rintro e w1 ⟨rfl, b1⟩
    have B1 := Lib.hid (B0.out.trans (b1.mono B0.out.size))
    clear b1
    go_wp2
    go_ret
    exact ⟨rfl, B1.out⟩
  · have g2 : (n2 : Int) > 2000 := by omega
    clear hl hn hn2
    go_enter Tryd.func3, Tryd.ntmps3
    go_wp2_with fail
    refine CA.out.mono ?_
    rintro e w1 ⟨rfl, b1⟩
    have B1 := Lib.hid (B0.out.trans (b1.mono B0.out.size))
    clear b1
    go_wp2
    go_ret
    exact ⟨rfl, B1.out⟩
theorem walk (w : World) (k : Int) (k0 : -9223372036854775808 ≤ k) (k1 : k ≤ 9223372036854775807) (a : Option Addr) (n c : Nat) (l : List UInt8) (hb : BAt w a l) (hl : n = l.length) (hno : a = none → n = 0 ∧ c = 0) (hc : n ≤ c ∧ c ≤ maxLen)
    (a2 : Option Addr) (n2 c2 : Nat) (m : List UInt8) (hb2 : BAt w a2 m) (hl2 : n2 = m.length) (hno2 : a2 = none → n2 = 0 ∧ c2 = 0) (hc2 : n2 ≤ c2 ∧ c2 ≤ maxLen) (tab : Tab w) :
    Calls Tryd.prog 3 #[.agg #[.int .i64 k, .slice a n c], .slice a2 n2 c2] w fun e w' => e = .returned (.bool true) ∧ Below w.heap.size w w' := by
  by_cases h : n ≤ 1500 ∧ n2 ≤ 2000
  · exact walk_small w k a n c l hb hl hno hc a2 n2 c2 m hb2 hl2 hno2 hc2 h.1 h.2 tab
  · exact walk_long w k a n c a2 n2 c2 (by omega) (by omega) h tab
end Go.Proofs.YtbcbbkdfdfgnfaaDoor.objectPrints
