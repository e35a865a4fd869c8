/-
  The law CommitPrints: its walk.
-/
import Derived.Test.YtonkclkopmdahaaGreatDoorFu22
namespace Go.Proofs.YtonkclkopmdahaaGreatDoor.commitPrints
set_option maxRecDepth 20000
open Go.RowKit
set_option linter.unusedVariables false
set_option linter.unusedSimpArgs false

set_option maxHeartbeats 4000000 in
theorem walk_few (w : World) (t : List UInt8) (a0 : Option Addr) (n c0 : Nat) (l : List (List UInt8)) (ia ic : Idt) (tx : List UInt8) (hi : RecIn w t a0 n c0 l ia ic tx) (hr : ia.name.length ≤ reachN ∧ ia.email.length ≤ reachN ∧ ic.name.length ≤ reachN ∧ ic.email.length ≤ reachN) (hf : fewC n ia ic tx = false)
    (a2 : Option Addr) (n2 c2 : Nat) (tab : T7 w) :
    Calls Tryz.prog 3 #[.agg (arrC t (.slice a0 n c0) ia ic tx), .slice a2 n2 c2] w fun e w' => e = .returned (.bool true) ∧ Below w.heap.size w w' := by
  have C1 := Lib.hid (fun u => fewC_is t a0 n c0 ia ic tx u hi.tree hr.1 hr.2.1 hr.2.2.1 hr.2.2.2)
  rw [hf] at C1
  have CA := Lib.hid (fun u (h : Below w.heap.size w u) => awake9 u (tab.keep h).t6)
  obtain ⟨A1, hA1⟩ : ∃ A, arrC t (.slice a0 n c0) ia ic tx = A := ⟨_, rfl⟩
  have I1 := Lib.hid (infoC_arr A1 (by rw [← hA1]; exact arrC_size _ _ _ _ _ hi.tree))
  have B1 := Lib.hid ((Below.refl w.heap.size w).alloc (Nat.le_refl _) (.cells A1 28))
  have H1 := Lib.hid (heap_alloc_new w (.cells A1 28))
  rw [hA1] at C1 ⊢
  clear hi hr hf tab hA1
  go_enter Tryz.func3, Tryz.ntmps3
  go_wp2_with (first
    | (with_reducible refine wpList_load_all 28 (.tmp 2) rfl (by kernel_rfl) w.heap.size A1 28 (0, 0) rfl H1.out _ Tryz.underlying28 rfl I1.out ?_)
    | fail)
  refine (C1.out _).mono ?_
  rintro e w2 ⟨rfl, hb2⟩
  have B2 := Lib.hid (B1.out.trans (hb2.mono B1.out.size))
  clear hb2
  go_wp2_with fail
  refine (CA.out _ B2.out).mono ?_
  rintro e w3 ⟨rfl, hb3⟩
  have B3 := Lib.hid (B2.out.trans (hb3.mono B2.out.size))
  clear hb3
  go_wp2
  go_ret
  exact ⟨rfl, B3.out⟩
set_option maxHeartbeats 4000000 in
theorem walk_long (w : World) (t : List UInt8) (a0 : Option Addr) (n c0 : Nat) (l : List (List UInt8)) (ia ic : Idt) (tx : List UInt8) (hi : RecIn w t a0 n c0 l ia ic tx) (hr : ia.name.length ≤ reachN ∧ ia.email.length ≤ reachN ∧ ic.name.length ≤ reachN ∧ ic.email.length ≤ reachN) (hf : fewC n ia ic tx = true)
    (a2 : Option Addr) (n2 c2 : Nat) (h2 : 4000 < n2) (tab : T7 w) :
    Calls Tryz.prog 3 #[.agg (arrC t (.slice a0 n c0) ia ic tx), .slice a2 n2 c2] w fun e w' => e = .returned (.bool true) ∧ Below w.heap.size w w' := by
  have C1 := Lib.hid (fun u => fewC_is t a0 n c0 ia ic tx u hi.tree hr.1 hr.2.1 hr.2.2.1 hr.2.2.2)
  rw [hf] at C1
  have CA := Lib.hid (fun u (h : Below w.heap.size w u) => awake9 u (tab.keep h).t6)
  obtain ⟨A1, hA1⟩ : ∃ A, arrC t (.slice a0 n c0) ia ic tx = A := ⟨_, rfl⟩
  have I1 := Lib.hid (infoC_arr A1 (by rw [← hA1]; exact arrC_size _ _ _ _ _ hi.tree))
  have B1 := Lib.hid ((Below.refl w.heap.size w).alloc (Nat.le_refl _) (.cells A1 28))
  have H1 := Lib.hid (heap_alloc_new w (.cells A1 28))
  rw [hA1] at C1 ⊢
  have g2 : (n2 : Int) > 4000 := by omega
  clear hi hr hf tab hA1 h2
  go_enter Tryz.func3, Tryz.ntmps3
  go_wp2_with (first
    | (with_reducible refine wpList_load_all 28 (.tmp 2) rfl (by kernel_rfl) w.heap.size A1 28 (0, 0) rfl H1.out _ Tryz.underlying28 rfl I1.out ?_)
    | fail)
  refine (C1.out _).mono ?_
  rintro e w2 ⟨rfl, hb2⟩
  have B2 := Lib.hid (B1.out.trans (hb2.mono B1.out.size))
  clear hb2
  go_wp2_with fail
  refine (CA.out _ B2.out).mono ?_
  rintro e w3 ⟨rfl, hb3⟩
  have B3 := Lib.hid (B2.out.trans (hb3.mono B2.out.size))
  clear hb3
  go_wp2
  go_ret
  exact ⟨rfl, B3.out⟩
/-- What stays: the record, its copy, and both copies' rows. -/
structure PS (w : World) (l : List (List UInt8)) (m : List UInt8) (A1 A5 : Array Value) (g5 gi gb : Nat) (u : World) : Prop where
  one : u.heap[w.heap.size]? = some (.cells A1 28 (0, 0))
  two : u.heap[g5]? = some (.cells A5 28 (0, 0))
  ids : OwnIds u gi l fill71
  row : OwnAt u gb m 71
  below : Below w.heap.size w u
theorem PS.keep {w u u' : World} {l : List (List UInt8)} {m : List UInt8} {A1 A5 : Array Value} {g5 gi gb : Nat} (h : PS w l m A1 A5 g5 gi gb u) (b : Below u.heap.size u u') : PS w l m A1 A5 g5 gi gb u' :=
  ⟨heap_keep h.one b, heap_keep h.two b, h.ids.keep b, h.row.keep b, h.below.trans (b.mono h.below.size)⟩
set_option maxHeartbeats 32000000 in
theorem walk_good (w : World) (t : List UInt8) (a0 : Option Addr) (n c0 : Nat) (l : List (List UInt8)) (ia ic : Idt) (tx : List UInt8) (hi : RecIn w t a0 n c0 l ia ic tx) (hr : ia.name.length ≤ reachN ∧ ia.email.length ≤ reachN ∧ ic.name.length ≤ reachN ∧ ic.email.length ≤ reachN) (hf : fewC n ia ic tx = true)
    (a2 : Option Addr) (n2 c2 : Nat) (m : List UInt8) (hb2 : BAt w a2 m) (hl2 : n2 = m.length) (hno2 : a2 = none → n2 = 0 ∧ c2 = 0) (hc2 : n2 ≤ c2) (h2 : n2 ≤ 4000) (tab : T7 w) :
    Calls Tryz.prog 3 #[.agg (arrC t (.slice a0 n c0) ia ic tx), .slice a2 n2 c2] w fun e w' => e = .returned (.bool true) ∧ Below w.heap.size w w' := by
  obtain ⟨f1, f2, f3⟩ := fewC_yes hf
  have g2 : ¬ ((n2 : Int) > 4000) := by omega
  have hn40 : n ≤ 40 := f1
  have C1 := Lib.hid (fun u => fewC_is t a0 n c0 ia ic tx u hi.tree hr.1 hr.2.1 hr.2.2.1 hr.2.2.2)
  rw [hf] at C1
  obtain ⟨A1, hA1⟩ : ∃ A, arrC t (.slice a0 n c0) ia ic tx = A := ⟨_, rfl⟩
  have A1S := Lib.hid (show A1.size = 30 by rw [← hA1]; exact arrC_size _ _ _ _ _ hi.tree)
  have A1O := Lib.hid (show A1.all (·.oneCell') = true by rw [← hA1]; exact arrC_one _ _ _ _ _ _ _)
  have I1 := Lib.hid (infoC_arr A1 A1S.out)
  have B1 := Lib.hid ((Below.refl w.heap.size w).alloc (Nat.le_refl _) (.cells A1 28))
  have H1 := Lib.hid (heap_alloc_new w (.cells A1 28))
  have HI := Lib.hid hi
  have CO := Lib.hid (fun u (h : Below w.heap.size w u) => OwnIds_any a0 n c0 l fill71 u (hi.ids.keep h) hi.nil hi.len (by omega) hi.each fill_len)
  have CB := Lib.hid (fun u (h : Below w.heap.size w u) => Own_any a2 n2 c2 m 71 u (hb2.keep h) hno2 hl2 (by omega))
  rw [← hl2] at CB
  have hBF := built_fill
  obtain ⟨AF, hAF⟩ : ∃ A, arrD fill71 = A := ⟨_, rfl⟩
  have HAF := Lib.hid hAF
  rw [hAF] at CO hBF
  have BF := Lib.hid hBF
  have HA1 := Lib.hid hA1
  have HBB := Lib.hid hb2; have HL2 := Lib.hid hl2; have HC2 := Lib.hid hc2
  have TB := Lib.hid (fun u (h : Below w.heap.size w u) => tab.keep h)
  have NA := Lib.hid (show ia.name.length ≤ 1000000 ∧ ia.email.length ≤ 1000000 ∧ ic.name.length ≤ 1000000 ∧ ic.email.length ≤ 1000000 ∧ tx.length ≤ 1000000 from ⟨by omega, by omega, by omega, by omega, by omega⟩)
  obtain ⟨z, hz0, hzs, hzv, hzb, hz1⟩ := zRec_any
  have ZS := Lib.hid hzs
  rw [hA1] at C1 ⊢
  clear hi hr hf tab hA1 f1 f2 f3 hAF hBF hb2 hl2 hno2 hc2 hz0 hzs hzb hz1
  go_enter Tryz.func3, Tryz.ntmps3
  go_wp2_with (first
    | (with_reducible refine wpList_load_all 28 (.tmp 2) rfl (by kernel_rfl) w.heap.size A1 28 (0, 0) rfl H1.out _ Tryz.underlying28 rfl I1.out ?_)
    | fail)
  refine (C1.out _).mono ?_
  rintro e w2 ⟨rfl, hb2⟩
  have B2 := Lib.hid (B1.out.trans (hb2.mono B1.out.size))
  have H2 := Lib.hid (heap_keep H1.out hb2)
  have LT5 := Lib.hid (show w.heap.size < w2.heap.size from lt_of_heap H2.out)
  clear hb2 C1
  go_wp2_with (first
    | (with_reducible refine wpList_load_all 28 (.tmp 2) rfl (by kernel_rfl) w.heap.size A1 28 (0, 0) rfl H2.out _ Tryz.underlying28 rfl I1.out ?_)
    | (with_reducible refine wpList_store_all rfl 28 (.tmp 5) (.tmp 24) rfl w2.heap.size A1 rfl rfl 28 z (heap_alloc_new w2 _) I1.out (A1S.out.trans ZS.out.symm) A1O.out ?_)
    | fail)
  intro w3 hg3 ho3 hs3
  have hb3 := ((Below.refl w2.heap.size w2).alloc (Nat.le_refl _) (.cells z 28)).trans (ho3.below (Nat.le_refl _) (by simp))
  have B3 := Lib.hid (B2.out.trans (hb3.mono B2.out.size))
  have H3 := Lib.hid (heap_keep H2.out hb3)
  have K3 := Lib.hid hg3
  clear hg3 ho3 hs3 hb3
  have p20 : w3.cell? ⟨w.heap.size, 20, none⟩ = some (.slice a0 n c0) := (recAt_of HI.out.tree (show w3.heap[w.heap.size]? = some (.cells (arrC t (.slice a0 n c0) ia ic tx) _ _) by rw [HA1.out]; exact H3.out)).parents
  go_wp2_with (first
    | (refine wpList_build_one rfl 23 0 _ rfl (.int .u8 71) rfl _ BF.out ?_)
    | fail)
  refine (CO.out _ B3.out).mono ?_
  rintro e w4 ⟨rfl, hoi, hb4⟩
  have B4 := Lib.hid (B3.out.trans (hb4.mono B3.out.size))
  have H4 := Lib.hid (heap_keep H3.out hb4)
  have K4 := Lib.hid (show RcAt w4 w2.heap.size t (.slice a0 n c0) ia ic tx by unfold RcAt; rw [HA1.out]; exact heap_keep K3.out hb4)
  have O4 := Lib.hid hoi
  have LTI := Lib.hid (show w2.heap.size < w3.heap.size + 1 from Nat.lt_succ_of_lt (lt_of_heap K3.out))
  clear hb4 hoi CO p20
  generalize w3.heap.size + 1 = gi at *
  have q20 := (recAt_of HI.out.tree K4.out).parents
  have z20 := not_frozen K4.out 20
  have F5 := off_set w4 w2.heap.size 20 (.slice (some ⟨gi, 0, none⟩) n (n + 3))
  have K5 := Lib.hid (rc_parents (v' := .slice (some ⟨gi, 0, none⟩) n (n + 3)) K4.out HI.out.tree)
  have H5 := Lib.hid (F5.far (Nat.ne_of_gt LT5.out) H4.out)
  have B5 := Lib.hid (B4.out.trans (F5.below (B := w.heap.size) (Nat.le_of_lt LT5.out) B4.out.size))
  have O5 := Lib.hid (own_sameD O4.out (F5.block gi O4.out.lt (Nat.ne_of_gt LTI.out)))
  obtain ⟨w5, hw5⟩ : ∃ w5, w4.setCell ⟨w2.heap.size, 20, none⟩ (.slice (some ⟨gi, 0, none⟩) n (n + 3)) = w5 := ⟨_, rfl⟩
  have HW5 := Lib.hid hw5
  rw [hw5] at K5 H5 B5 O5
  clear F5 hw5
  go_wp2_with fail
  rw [HW5.out]
  clear q20 z20 HW5
  refine (CB.out _ B5.out).mono ?_
  rintro e w6 ⟨rfl, hob, hb6⟩
  have IDS := Lib.hid (fun u (h : OwnIds u gi l fill71) => h.front HI.out.each fill_len)
  obtain ⟨A5, hA5⟩ : ∃ A, arrC t (.slice (some ⟨gi, 0, none⟩) n (n + 3)) ia ic tx = A := ⟨_, rfl⟩
  have A5S := Lib.hid (show A5.size = 30 by rw [← hA5]; exact arrC_size _ _ _ _ _ HI.out.tree)
  have I5 := Lib.hid (infoC_arr A5 A5S.out)
  have HA5 := Lib.hid hA5
  have S6 := Lib.hid (show PS w l m A1 A5 w2.heap.size gi w5.heap.size w6 from ⟨heap_keep H5.out hb6, heap_keep (by rw [← hA5]; exact K5.out) hb6, OwnIds.keep O5.out hb6, hob, B5.out.trans (hb6.mono B5.out.size)⟩)
  clear hob hb6 CB H5 K5 O5 B5 O4 K4 H4 B4 H3 K3 B3 H2 B2 H1 B1
  generalize w5.heap.size = gb at *
  generalize w2.heap.size = g5 at *
  have CPP := Lib.hid (fun u (h : PS w l m A1 A5 g5 gi gb u) => Print9_is t (some ⟨gi, 0, none⟩) n (n + 3) l ia ic tx u (TB.out u h.below).t6 HI.out.tree (IDS.out u h.ids) HI.out.len (by omega) (by omega) HI.out.each NA.out.1 NA.out.2.1 NA.out.2.2.1 NA.out.2.2.2.1)
  have CRP := Lib.hid (fun u (h : PS w l m A1 A5 g5 gi gb u) => rPrint9_is t a0 n c0 l ia ic tx u (TB.out u h.below).t6 HI.out.tree (HI.out.ids.keep h.below) HI.out.len (by omega) HI.out.cap.1 NA.out.2.2.2.2 HI.out.each NA.out.1 NA.out.2.1 NA.out.2.2.1 NA.out.2.2.2.1)
  have CPQ := Lib.hid (fun u (h : PS w l m A1 A5 g5 gi gb u) => Parse9_is (some ⟨gb, 0, none⟩) n2 (n2 + 3) m u (TB.out u h.below) HL2.out h.row.bat (by omega))
  have CRQ := Lib.hid (fun u (h : PS w l m A1 A5 g5 gi gb u) => rParse9_is a2 n2 c2 m u (TB.out u h.below).t6 HL2.out (HBB.out.keep h.below) (by omega))
  have CPR := Lib.hid (fun u (h : PS w l m A1 A5 g5 gi gb u) => Right9_is t (some ⟨gi, 0, none⟩) n (n + 3) l ia ic tx u (TB.out u h.below).t6 HI.out.tree (IDS.out u h.ids) HI.out.len (by omega) (by omega) HI.out.each NA.out.1 NA.out.2.1 NA.out.2.2.1 NA.out.2.2.2.1)
  have CRR := Lib.hid (fun u (h : PS w l m A1 A5 g5 gi gb u) => rRight9 t a0 n c0 l ia ic tx u (TB.out u h.below).t6 HI.out.tree (HI.out.ids.keep h.below) HI.out.len (by omega) HI.out.cap.1 HI.out.each NA.out.1 NA.out.2.1 NA.out.2.2.1 NA.out.2.2.2.1 NA.out.2.2.2.2)
  have CA := Lib.hid (fun u (h : PS w l m A1 A5 g5 gi gb u) => awake9 u (TB.out u h.below).t6)
  have CKI := Lib.hid (fun u (h : PS w l m A1 A5 g5 gi gb u) => KeptIds_any gi n c0 a0 l fill71 u h.ids (HI.out.ids.keep h.below) HI.out.len (by omega) HI.out.each fill_len)
  have CKB := Lib.hid (fun u (h : PS w l m A1 A5 g5 gi gb u) => Kept_any gb n2 n2 (n2 + 3) c2 a2 m 71 u h.row (HBB.out.keep h.below) HL2.out (by rw [HL2.out]) HL2.out (by have := HL2.out; omega))
  rw [HA5.out] at CPP CPR
  rw [HA1.out] at CRP CRR
  rw [HAF.out] at CKI
  obtain ⟨PL, hPL⟩ : ∃ x, (printR ⟨t, l, ia, ic, tx⟩).1 = x := ⟨_, rfl⟩
  obtain ⟨PE, hPE⟩ : ∃ x, (printR ⟨t, l, ia, ic, tx⟩).2 = x := ⟨_, rfl⟩
  rw [hPL, hPE] at CPP CRP
  obtain ⟨R, hR⟩ : ∃ x, rightR ⟨t, l, ia, ic, tx⟩ = x := ⟨_, rfl⟩
  rw [hR] at CPR CRR
  have hpl16 := parsed_len m
  obtain ⟨RC, hRC⟩ : ∃ x, (parsedR m).1 = x := ⟨_, rfl⟩
  obtain ⟨RE, hRE⟩ : ∃ x, (parsedR m).2 = x := ⟨_, rfl⟩
  rw [hRC, hRE] at CPQ CRQ
  rw [hRC] at hpl16
  have HP16 := Lib.hid hpl16
  have P20A := Lib.hid (fun (u : World) (h : u.heap[g5]? = some (.cells A5 28 (0, 0))) => (show u.cell? ⟨g5, 20, none⟩ = some (.slice (some ⟨gi, 0, none⟩) n (n + 3)) from (recAt_of HI.out.tree (show u.heap[g5]? = some (.cells (arrC t (.slice (some ⟨gi, 0, none⟩) n (n + 3)) ia ic tx) _ _) by rw [HA5.out]; exact h)).parents))
  have P20B := Lib.hid (fun (u : World) (h : u.heap[w.heap.size]? = some (.cells A1 28 (0, 0))) => (show u.cell? ⟨w.heap.size, 20, none⟩ = some (.slice a0 n c0) from (recAt_of HI.out.tree (show u.heap[w.heap.size]? = some (.cells (arrC t (.slice a0 n c0) ia ic tx) _ _) by rw [HA1.out]; exact h)).parents))
  clear hPL hPE hR hRC hRE hpl16 hA5 HA5 HA1 TB NA IDS HBB HC2 LTI LT5 HAF
  go_wp2_with (first
    | (with_reducible refine wpList_load_all 28 (.tmp 5) rfl (by kernel_rfl) g5 A5 28 (0, 0) rfl S6.out.two _ Tryz.underlying28 rfl I5.out ?_)
    | fail)
  refine (CPP.out _ S6.out).mono ?_
  rintro e w7 ⟨x, rfl, hx7, hb7⟩
  have S7 := Lib.hid (S6.out.keep hb7)
  obtain ⟨xa, xc, hx, _, _, _⟩ := red_shape hx7
  obtain ⟨xn, hxn⟩ : ∃ x, PL.length = x := ⟨_, rfl⟩
  rw [hxn] at hx
  subst hx
  have X7 := Lib.hid hx7; have HXN := Lib.hid hxn
  clear hb7 hx7 S6 CPP hxn
  go_wp2_with (first
    | (with_reducible refine wpList_load_all 28 (.tmp 2) rfl (by kernel_rfl) w.heap.size A1 28 (0, 0) rfl S7.out.one _ Tryz.underlying28 rfl I1.out ?_)
    | fail)
  refine (CRP.out _ S7.out).mono ?_
  rintro e w8 ⟨y, rfl, hy8, hb8⟩
  have S8 := Lib.hid (S7.out.keep hb8)
  have X8 := Lib.hid (red_keep X7.out hb8)
  obtain ⟨ya, yc, hy, _, _, _⟩ := red_shape hy8
  rw [HXN.out] at hy
  subst hy
  have Y8 := Lib.hid hy8
  clear hb8 hy8 S7 CRP X7
  go_wp2_with fail
  refine (CPQ.out _ S8.out).mono ?_
  rintro e w9 ⟨AU, rfl, hu9, hb9⟩
  have S9 := Lib.hid (S8.out.keep hb9)
  have X9 := Lib.hid (red_keep X8.out hb9); have Y9 := Lib.hid (red_keep Y8.out hb9)
  have U9 := Lib.hid hu9
  obtain ⟨aus, auo⟩ := rec_size hu9
  have AUS := Lib.hid aus; have AUO := Lib.hid auo
  have IU := Lib.hid (infoC_arr AU aus)
  clear hb9 hu9 S8 X8 Y8 aus auo
  go_wp2_with (first
    | (with_reducible refine wpList_store_all rfl 28 (.tmp 11) (.tmp 45) rfl w9.heap.size AU rfl rfl 28 z (heap_alloc_new w9 _) IU.out (AUS.out.trans ZS.out.symm) AUO.out ?_)
    | fail)
  intro w10 hg10 ho10 hs10
  have hb10 := ((Below.refl w9.heap.size w9).alloc (Nat.le_refl _) (.cells z 28)).trans (ho10.below (Nat.le_refl _) (by simp))
  have S10 := Lib.hid (S9.out.keep hb10)
  have X10 := Lib.hid (red_keep X9.out hb10); have Y10 := Lib.hid (red_keep Y9.out hb10)
  have U10 := Lib.hid (U9.out.keep hb10)
  have KU10 := Lib.hid hg10
  clear hg10 ho10 hs10 hb10 S9 X9 Y9 U9
  generalize w9.heap.size = gu at *
  go_wp2_with fail
  refine (CRQ.out _ S10.out).mono ?_
  rintro e w11 ⟨AV, rfl, hv11, hb11⟩
  have S11 := Lib.hid (S10.out.keep hb11)
  have X11 := Lib.hid (red_keep X10.out hb11); have Y11 := Lib.hid (red_keep Y10.out hb11)
  have U11 := Lib.hid (U10.out.keep hb11)
  have KU11 := Lib.hid (heap_keep KU10.out hb11)
  have V11 := Lib.hid hv11
  obtain ⟨avs, avo⟩ := rec_size hv11
  have AVS := Lib.hid avs; have AVO := Lib.hid avo
  have IV := Lib.hid (infoC_arr AV avs)
  clear hb11 hv11 S10 X10 Y10 U10 KU10 avs avo
  go_wp2_with (first
    | (with_reducible refine wpList_store_all rfl 28 (.tmp 13) (.tmp 50) rfl w11.heap.size AV rfl rfl 28 z (heap_alloc_new w11 _) IV.out (AVS.out.trans ZS.out.symm) AVO.out ?_)
    | fail)
  intro w12 hg12 ho12 hs12
  have hb12 := ((Below.refl w11.heap.size w11).alloc (Nat.le_refl _) (.cells z 28)).trans (ho12.below (Nat.le_refl _) (by simp))
  have S12 := Lib.hid (S11.out.keep hb12)
  have X12 := Lib.hid (red_keep X11.out hb12); have Y12 := Lib.hid (red_keep Y11.out hb12)
  have U12 := Lib.hid (U11.out.keep hb12); have V12 := Lib.hid (V11.out.keep hb12)
  have KU12 := Lib.hid (heap_keep KU11.out hb12)
  have KV12 := Lib.hid hg12
  clear hg12 ho12 hs12 hb12 S11 X11 Y11 U11 KU11 V11
  generalize w11.heap.size = gv at *
  have PSX := Lib.hid (fun u (hu : Below w12.heap.size w12 u) => S12.out.keep hu)
  have CBY := Lib.hid (fun u (hu : Below w12.heap.size w12 u) => Bytes_same xa ya xn xn xc yc PL u (red_bat9 (red_keep X12.out hu)).1 (red_bat9 (red_keep Y12.out hu)).1 (red_bat9 (red_keep X12.out hu)).2 (red_bat9 (red_keep Y12.out hu)).2)
  have CRC := Lib.hid (fun u (hu : Below w12.heap.size w12 u) => record_red AU AV RC u (U12.out.keep hu) (V12.out.keep hu) (by have := HP16.out; omega))
  have L5 := Lib.hid (fun u (hu : Below w12.heap.size w12 u) => row_arrD (PSX.out u hu).two)
  have L1 := Lib.hid (fun u (hu : Below w12.heap.size w12 u) => row_arrD (PSX.out u hu).one)
  have LU := Lib.hid (fun u (hu : Below w12.heap.size w12 u) => row_arrD (heap_keep KU12.out hu))
  have LV := Lib.hid (fun u (hu : Below w12.heap.size w12 u) => row_arrD (heap_keep KV12.out hu))
  have Q5 := Lib.hid (fun u (hu : Below w12.heap.size w12 u) => P20A.out u (PSX.out u hu).two)
  have Q1 := Lib.hid (fun u (hu : Below w12.heap.size w12 u) => P20B.out u (PSX.out u hu).one)
  have BW := Lib.hid S12.out.below
  clear S12 X12 Y12 U12 V12 KU12 KV12 P20A P20B
  go_wp2_with fail
  refine wp_region_held_drew (S := fun u => Below w12.heap.size w12 u) (by kernel_rfl) (Below.refl _ _).drew (fun hHeld => ?_)
  refine wpAnyH_ready (rs := [0]) (by kernel_rfl) (by simp) ?_
  refine AllReadyH.cons rfl (fun K hK => ?_) AllReadyH.nil
  go_simp
  refine (CA.out _ (PSX.out _ hHeld)).mono ?_
  rintro e u1 ⟨rfl, hI⟩
  have hH := hHeld.trans (hI.mono hHeld.size)
  clear hHeld hI
  refine hK.out _ _ hH (fun hHeld => ?_)
  clear hK K
  try simp only [Act.put, List.setIfInBounds_toArray, List.set_cons_zero, List.set_cons_succ]
  refine wpAnyH_take (i := 1) (v := ?hv1) rfl (by kernel_rfl) (by kernel_rfl) (by kernel_rfl) (fun _ _ _ h => h) (Or.inl ⟨by kernel_rfl, ?hy1⟩) hHeld ?_
  case hy1 => intro u hu; go_simp; try with_reducible rfl
  try simp only [Act.put, List.setIfInBounds_toArray, List.set_cons_zero, List.set_cons_succ]
  refine wpAnyH_take (i := 2) rfl (by kernel_rfl) (by kernel_rfl) (by kernel_rfl) (fun _ _ _ h => h) (yields_load_all (by kernel_rfl) 28 (.tmp 5) (by kernel_rfl) g5 A5 (by kernel_rfl) (fun u hu => L5.out u hu) _ Tryz.underlying28 rfl I5.out) hHeld ?_
  try simp only [Act.put, List.setIfInBounds_toArray, List.set_cons_zero, List.set_cons_succ]
  refine wpAnyH_take (i := 4) rfl (by kernel_rfl) (by kernel_rfl) (by kernel_rfl) (fun _ _ _ h => h) (yields_load_all (by kernel_rfl) 28 (.tmp 2) (by kernel_rfl) w.heap.size A1 (by kernel_rfl) (fun u hu => L1.out u hu) _ Tryz.underlying28 rfl I1.out) hHeld ?_
  try simp only [Act.put, List.setIfInBounds_toArray, List.set_cons_zero, List.set_cons_succ]
  refine wpAnyH_ready (rs := [3]) (by kernel_rfl) (by simp) ?_
  refine AllReadyH.cons rfl (fun K hK => ?_) AllReadyH.nil
  go_simp
  refine (CPR.out _ (PSX.out _ hHeld)).mono ?_
  rintro e u1 ⟨rfl, hI⟩
  have hH := hHeld.trans (hI.mono hHeld.size)
  clear hHeld hI
  refine hK.out _ _ hH (fun hHeld => ?_)
  clear hK K
  try simp only [Act.put, List.setIfInBounds_toArray, List.set_cons_zero, List.set_cons_succ]
  refine wpAnyH_ready (rs := [5]) (by kernel_rfl) (by simp) ?_
  refine AllReadyH.cons rfl (fun K hK => ?_) AllReadyH.nil
  go_simp
  refine (CRR.out _ (PSX.out _ hHeld)).mono ?_
  rintro e u1 ⟨rfl, hI⟩
  have hH := hHeld.trans (hI.mono hHeld.size)
  clear hHeld hI
  refine hK.out _ _ hH (fun hHeld => ?_)
  clear hK K
  try simp only [Act.put, List.setIfInBounds_toArray, List.set_cons_zero, List.set_cons_succ]
  refine wpAnyH_take (i := 6) (v := ?hv6) rfl (by kernel_rfl) (by kernel_rfl) (by kernel_rfl) (fun _ _ _ h => h) (Or.inl ⟨by kernel_rfl, ?hy6⟩) hHeld ?_
  case hy6 => intro u hu; go_simp; try with_reducible rfl
  try simp only [Act.put, List.setIfInBounds_toArray, List.set_cons_zero, List.set_cons_succ]
  refine wpAnyH_take (i := 7) (v := ?hv7) rfl (by kernel_rfl) (by kernel_rfl) (by kernel_rfl) (fun _ _ _ h => h) (Or.inl ⟨by kernel_rfl, ?hy7⟩) hHeld ?_
  case hy7 => intro u hu; go_simp; try with_reducible rfl
  try simp only [Act.put, List.setIfInBounds_toArray, List.set_cons_zero, List.set_cons_succ]
  refine wpAnyH_take (i := 8) (v := ?hv8) rfl (by kernel_rfl) (by kernel_rfl) (by kernel_rfl) (fun _ _ _ h => h) (Or.inl ⟨by kernel_rfl, ?hy8⟩) hHeld ?_
  case hy8 => intro u hu; go_simp; try with_reducible rfl
  try simp only [Act.put, List.setIfInBounds_toArray, List.set_cons_zero, List.set_cons_succ]
  refine wpAnyH_take (i := 9) (v := ?hv9) rfl (by kernel_rfl) (by kernel_rfl) (by kernel_rfl) (fun _ _ _ h => h) (Or.inl ⟨by kernel_rfl, ?hy9⟩) hHeld ?_
  case hy9 => intro u hu; go_simp; try with_reducible rfl
  try simp only [Act.put, List.setIfInBounds_toArray, List.set_cons_zero, List.set_cons_succ]
  refine wpAnyH_take (i := 10) (v := ?hv10) rfl (by kernel_rfl) (by kernel_rfl) (by kernel_rfl) (fun _ _ _ h => h) (Or.inl ⟨by kernel_rfl, ?hy10⟩) hHeld ?_
  case hy10 => intro u hu; go_simp; try with_reducible rfl
  try simp only [Act.put, List.setIfInBounds_toArray, List.set_cons_zero, List.set_cons_succ]
  refine wpAnyH_ready (rs := [11]) (by kernel_rfl) (by simp) ?_
  refine AllReadyH.cons rfl (fun K hK => ?_) AllReadyH.nil
  go_simp
  refine (CBY.out _ hHeld).mono ?_
  rintro e u1 ⟨rfl, hE⟩
  subst hE
  have hH := hHeld
  clear hHeld
  refine hK.out _ _ hH (fun hHeld => ?_)
  clear hK K
  try simp only [Act.put, List.setIfInBounds_toArray, List.set_cons_zero, List.set_cons_succ]
  refine wpAnyH_take (i := 12) (v := ?hv12) rfl (by kernel_rfl) (by kernel_rfl) (by kernel_rfl) (fun _ _ _ h => h) (Or.inl ⟨by kernel_rfl, ?hy12⟩) hHeld ?_
  case hy12 => intro u hu; go_simp; try with_reducible rfl
  try simp only [Act.put, List.setIfInBounds_toArray, List.set_cons_zero, List.set_cons_succ]
  refine wpAnyH_take (i := 13) (v := ?hv13) rfl (by kernel_rfl) (by kernel_rfl) (by kernel_rfl) (fun _ _ _ h => h) (Or.inl ⟨by kernel_rfl, ?hy13⟩) hHeld ?_
  case hy13 => intro u hu; go_simp; try with_reducible rfl
  try simp only [Act.put, List.setIfInBounds_toArray, List.set_cons_zero, List.set_cons_succ]
  refine wpAnyH_take (i := 14) (v := ?hv14) rfl (by kernel_rfl) (by kernel_rfl) (by kernel_rfl) (fun _ _ _ h => h) (Or.inl ⟨by kernel_rfl, ?hy14⟩) hHeld ?_
  case hy14 => intro u hu; go_simp; try with_reducible rfl
  try simp only [Act.put, List.setIfInBounds_toArray, List.set_cons_zero, List.set_cons_succ]
  refine wpAnyH_take (i := 15) (v := ?hv15) rfl (by kernel_rfl) (by kernel_rfl) (by kernel_rfl) (fun _ _ _ h => h) (Or.inl ⟨by kernel_rfl, ?hy15⟩) hHeld ?_
  case hy15 => intro u hu; go_simp; try with_reducible rfl
  try simp only [Act.put, List.setIfInBounds_toArray, List.set_cons_zero, List.set_cons_succ]
  refine wpAnyH_take (i := 16) (v := ?hv16) rfl (by kernel_rfl) (by kernel_rfl) (by kernel_rfl) (fun _ _ _ h => h) (Or.inl ⟨by kernel_rfl, ?hy16⟩) hHeld ?_
  case hy16 => intro u hu; go_simp; try with_reducible rfl
  try simp only [Act.put, List.setIfInBounds_toArray, List.set_cons_zero, List.set_cons_succ]
  refine wpAnyH_take (i := 17) (v := ?hv17) rfl (by kernel_rfl) (by kernel_rfl) (by kernel_rfl) (fun _ _ _ h => h) (Or.inl ⟨by kernel_rfl, ?hy17⟩) hHeld ?_
  case hy17 => intro u hu; go_simp; try with_reducible rfl
  try simp only [Act.put, List.setIfInBounds_toArray, List.set_cons_zero, List.set_cons_succ]
  refine wpAnyH_take (i := 18) (v := ?hv18) rfl (by kernel_rfl) (by kernel_rfl) (by kernel_rfl) (fun _ _ _ h => h) (Or.inl ⟨by kernel_rfl, ?hy18⟩) hHeld ?_
  case hy18 => intro u hu; go_simp; try with_reducible rfl
  try simp only [Act.put, List.setIfInBounds_toArray, List.set_cons_zero, List.set_cons_succ]
  refine wpAnyH_take (i := 19) rfl (by kernel_rfl) (by kernel_rfl) (by kernel_rfl) (fun _ _ _ h => h) (yields_load_all (by kernel_rfl) 28 (.tmp 11) (by kernel_rfl) gu AU (by kernel_rfl) (fun u hu => LU.out u hu) _ Tryz.underlying28 rfl IU.out) hHeld ?_
  try simp only [Act.put, List.setIfInBounds_toArray, List.set_cons_zero, List.set_cons_succ]
  refine wpAnyH_take (i := 20) rfl (by kernel_rfl) (by kernel_rfl) (by kernel_rfl) (fun _ _ _ h => h) (yields_load_all (by kernel_rfl) 28 (.tmp 13) (by kernel_rfl) gv AV (by kernel_rfl) (fun u hu => LV.out u hu) _ Tryz.underlying28 rfl IV.out) hHeld ?_
  try simp only [Act.put, List.setIfInBounds_toArray, List.set_cons_zero, List.set_cons_succ]
  refine wpAnyH_ready (rs := [21]) (by kernel_rfl) (by simp) ?_
  refine AllReadyH.cons rfl (fun K hK => ?_) AllReadyH.nil
  go_simp
  refine (CRC.out _ hHeld).mono ?_
  rintro e u1 ⟨rfl, hI⟩
  have hH := hHeld.trans (hI.mono hHeld.size)
  clear hHeld hI
  refine hK.out _ _ hH (fun hHeld => ?_)
  clear hK K
  try simp only [Act.put, List.setIfInBounds_toArray, List.set_cons_zero, List.set_cons_succ]
  refine wpAnyH_take (i := 22) (v := ?hv22) rfl (by kernel_rfl) (by kernel_rfl) (by kernel_rfl) (fun _ _ _ h => h) (Or.inl ⟨by kernel_rfl, ?hy22⟩) hHeld ?_
  case hy22 => intro u hu; go_simp; try with_reducible rfl
  try simp only [Act.put, List.setIfInBounds_toArray, List.set_cons_zero, List.set_cons_succ]
  refine wpAnyH_take (i := 23) (v := ?hv23) rfl (by kernel_rfl) (by kernel_rfl) (by kernel_rfl) (fun _ _ _ h => h) (Or.inl ⟨by kernel_rfl, ?hy23⟩) hHeld ?_
  case hy23 => intro u hu; go_simp; try with_reducible rfl
  try simp only [Act.put, List.setIfInBounds_toArray, List.set_cons_zero, List.set_cons_succ]
  refine wpAnyH_take (i := 24) (v := ?hv24) rfl (by kernel_rfl) (by kernel_rfl) (by kernel_rfl) (fun _ _ _ h => h) (Or.inl ⟨by kernel_rfl, ?hy24⟩) hHeld ?_
  case hy24 => intro u hu; go_simp; try with_reducible rfl
  try simp only [Act.put, List.setIfInBounds_toArray, List.set_cons_zero, List.set_cons_succ]
  refine wpAnyH_take (i := 25) (v := ?hv25) rfl (by kernel_rfl) (by kernel_rfl) (by kernel_rfl) (fun _ _ _ h => h) (Or.inl ⟨by kernel_rfl, ?hy25⟩) hHeld ?_
  case hy25 => intro u hu; go_simp; try with_reducible rfl
  try simp only [Act.put, List.setIfInBounds_toArray, List.set_cons_zero, List.set_cons_succ]
  refine wpAnyH_take (i := 26) (v := ?hv26) rfl (by kernel_rfl) (by kernel_rfl) (by kernel_rfl) (fun _ _ _ h => h) (Or.inl ⟨by kernel_rfl, ?hy26⟩) hHeld ?_
  case hy26 => intro u hu; go_simp; try with_reducible rfl
  try simp only [Act.put, List.setIfInBounds_toArray, List.set_cons_zero, List.set_cons_succ]
  refine wpAnyH_take (i := 27) (v := ?hv27) rfl (by kernel_rfl) (by kernel_rfl) (by kernel_rfl) (fun _ _ _ h => h) (Or.inl ⟨by kernel_rfl, ?hy27⟩) hHeld ?_
  case hy27 => intro u hu; go_simp; try with_reducible rfl
  try simp only [Act.put, List.setIfInBounds_toArray, List.set_cons_zero, List.set_cons_succ]
  refine wpAnyH_take (i := 28) (v := ?hv28) rfl (by kernel_rfl) (by kernel_rfl) (by kernel_rfl) (fun _ _ _ h => h) (Or.inl ⟨by kernel_rfl, ?hy28⟩) hHeld ?_
  case hy28 => intro u hu; go_simp; try with_reducible rfl
  try simp only [Act.put, List.setIfInBounds_toArray, List.set_cons_zero, List.set_cons_succ]
  refine wpAnyH_take (i := 29) (v := ?hv29) rfl (by kernel_rfl) (by kernel_rfl) (by kernel_rfl) (fun _ _ _ h => h) (Or.inl ⟨by kernel_rfl, ?hy29⟩) hHeld ?_
  case hy29 => intro u hu; go_simp; try with_reducible rfl
  try simp only [Act.put, List.setIfInBounds_toArray, List.set_cons_zero, List.set_cons_succ]
  refine wpAnyH_take (i := 30) (v := .slice (some ⟨gi, 0, none⟩) n (n + 3)) rfl (by kernel_rfl) (by kernel_rfl) (by kernel_rfl) (fun _ _ _ h => h) (Or.inl ⟨by kernel_rfl, ?hy30x⟩) hHeld ?_
  case hy30x => intro u hu; have q := Q5.out u hu; go_simp
  try simp only [Act.put, List.setIfInBounds_toArray, List.set_cons_zero, List.set_cons_succ]
  refine wpAnyH_take (i := 31) (v := ?hv31) rfl (by kernel_rfl) (by kernel_rfl) (by kernel_rfl) (fun _ _ _ h => h) (Or.inl ⟨by kernel_rfl, ?hy31⟩) hHeld ?_
  case hy31 => intro u hu; go_simp; try with_reducible rfl
  try simp only [Act.put, List.setIfInBounds_toArray, List.set_cons_zero, List.set_cons_succ]
  refine wpAnyH_take (i := 32) (v := .slice a0 n c0) rfl (by kernel_rfl) (by kernel_rfl) (by kernel_rfl) (fun _ _ _ h => h) (Or.inl ⟨by kernel_rfl, ?hy32x⟩) hHeld ?_
  case hy32x => intro u hu; have q := Q1.out u hu; go_simp
  try simp only [Act.put, List.setIfInBounds_toArray, List.set_cons_zero, List.set_cons_succ]
  refine wpAnyH_take (i := 33) rfl (by kernel_rfl) (by kernel_rfl) (by kernel_rfl) (fun _ _ _ h => h) (yields_build1 (by kernel_rfl) 23 0 _ rfl (.int .u8 71) rfl _ BF.out) hHeld ?_
  try simp only [Act.put, List.setIfInBounds_toArray, List.set_cons_zero, List.set_cons_succ]
  refine wpAnyH_ready (rs := [34]) (by kernel_rfl) (by simp) ?_
  refine AllReadyH.cons rfl (fun K hK => ?_) AllReadyH.nil
  go_simp
  refine (CKI.out _ (PSX.out _ hHeld)).mono ?_
  rintro e u1 ⟨rfl, hI⟩
  have hH := hHeld.trans (hI.mono hHeld.size)
  clear hHeld hI
  refine hK.out _ _ hH (fun hHeld => ?_)
  clear hK K
  try simp only [Act.put, List.setIfInBounds_toArray, List.set_cons_zero, List.set_cons_succ]
  refine wpAnyH_take (i := 35) (v := ?hv35) rfl (by kernel_rfl) (by kernel_rfl) (by kernel_rfl) (fun _ _ _ h => h) (Or.inl ⟨by kernel_rfl, ?hy35⟩) hHeld ?_
  case hy35 => intro u hu; go_simp; try with_reducible rfl
  try simp only [Act.put, List.setIfInBounds_toArray, List.set_cons_zero, List.set_cons_succ]
  refine wpAnyH_take (i := 36) (v := ?hv36) rfl (by kernel_rfl) (by kernel_rfl) (by kernel_rfl) (fun _ _ _ h => h) (Or.inl ⟨by kernel_rfl, ?hy36⟩) hHeld ?_
  case hy36 => intro u hu; go_simp; try with_reducible rfl
  try simp only [Act.put, List.setIfInBounds_toArray, List.set_cons_zero, List.set_cons_succ]
  refine wpAnyH_take (i := 37) (v := ?hv37) rfl (by kernel_rfl) (by kernel_rfl) (by kernel_rfl) (fun _ _ _ h => h) (Or.inl ⟨by kernel_rfl, ?hy37⟩) hHeld ?_
  case hy37 => intro u hu; go_simp; try with_reducible rfl
  try simp only [Act.put, List.setIfInBounds_toArray, List.set_cons_zero, List.set_cons_succ]
  refine wpAnyH_take (i := 38) (v := ?hv38) rfl (by kernel_rfl) (by kernel_rfl) (by kernel_rfl) (fun _ _ _ h => h) (Or.inl ⟨by kernel_rfl, ?hy38⟩) hHeld ?_
  case hy38 => intro u hu; go_simp; try with_reducible rfl
  try simp only [Act.put, List.setIfInBounds_toArray, List.set_cons_zero, List.set_cons_succ]
  refine wpAnyH_ready (rs := [39]) (by kernel_rfl) (by simp) ?_
  refine AllReadyH.cons rfl (fun K hK => ?_) AllReadyH.nil
  go_simp
  refine (CKB.out _ (PSX.out _ hHeld)).mono ?_
  rintro e u1 ⟨rfl, hI⟩
  have hH := hHeld.trans (hI.mono hHeld.size)
  clear hHeld hI
  refine hK.out _ _ hH (fun hHeld => ?_)
  clear hK K
  try simp only [Act.put, List.setIfInBounds_toArray, List.set_cons_zero, List.set_cons_succ]
  refine wpAnyH_take (i := 40) (v := ?hv40) rfl (by kernel_rfl) (by kernel_rfl) (by kernel_rfl) (fun _ _ _ h => h) (Or.inl ⟨by kernel_rfl, ?hy40⟩) hHeld ?_
  case hy40 => intro u hu; go_simp; try with_reducible rfl
  try simp only [Act.put, List.setIfInBounds_toArray, List.set_cons_zero, List.set_cons_succ]
  refine wpAnyH_take (i := 41) (v := ?hv41) rfl (by kernel_rfl) (by kernel_rfl) (by kernel_rfl) (fun _ _ _ h => h) (Or.inl ⟨by kernel_rfl, ?hy41⟩) hHeld ?_
  case hy41 => intro u hu; go_simp; try with_reducible rfl
  try simp only [Act.put, List.getElem_toArray, List.getElem_cons_succ, List.getElem_cons_zero, List.setIfInBounds_toArray, List.set_cons_zero, List.set_cons_succ]
  refine wpAnyH_done (by kernel_rfl) ?_ _
  have BE := Lib.hid (BW.out.trans (hHeld.mono BW.out.size))
  clear hHeld
  go_wp2
  go_ret
  exact ⟨rfl, BE.out⟩
theorem walk (w : World) (t : List UInt8) (a0 : Option Addr) (n c0 : Nat) (l : List (List UInt8)) (ia ic : Idt) (tx : List UInt8) (hi : RecIn w t a0 n c0 l ia ic tx) (hr : ia.name.length ≤ reachN ∧ ia.email.length ≤ reachN ∧ ic.name.length ≤ reachN ∧ ic.email.length ≤ reachN)
    (a2 : Option Addr) (n2 c2 : Nat) (m : List UInt8) (hb2 : BAt w a2 m) (hl2 : n2 = m.length) (hno2 : a2 = none → n2 = 0 ∧ c2 = 0) (hc2 : n2 ≤ c2 ∧ c2 ≤ maxLen) (tab : T7 w) :
    Calls Tryz.prog 3 #[.agg (arrC t (.slice a0 n c0) ia ic tx), .slice a2 n2 c2] w fun e w' => e = .returned (.bool true) ∧ Below w.heap.size w w' := by
  cases hf : fewC n ia ic tx with
  | false => exact walk_few w t a0 n c0 l ia ic tx hi hr hf a2 n2 c2 tab
  | true =>
    by_cases h2 : n2 ≤ 4000
    · exact walk_good w t a0 n c0 l ia ic tx hi hr hf a2 n2 c2 m hb2 hl2 hno2 hc2.1 h2 tab
    · exact walk_long w t a0 n c0 l ia ic tx hi hr hf a2 n2 c2 (by omega) tab
end Go.Proofs.YtonkclkopmdahaaGreatDoor.commitPrints
