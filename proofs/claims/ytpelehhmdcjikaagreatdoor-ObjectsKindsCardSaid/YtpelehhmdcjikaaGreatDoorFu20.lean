/-
  Texts that belong together, one behind the other.
-/
import Derived.Test.YtpelehhmdcjikaaGreatDoorFu19
import Derived.Test.YtpelehhmdcjikaaGreatDoorFu11
import Derived.Test.YtpelehhmdcjikaaGreatDoorFu04
import Derived.IntWalk
import Derived.WalkSmall
import Derived.OwnWalk
import Derived.Deep.MidRow
import Derived.Deep.QuietTactic
import Derived.BigQuiet
/-
  Layer 9, the program: what may be a record, read.
-/
namespace Go.Proofs.YtpelehhmdcjikaaGreatDoor
set_option maxRecDepth 20000
open Go.RowKit
set_option linter.unusedVariables false
set_option linter.unusedSimpArgs false
theorem wpList_build_five {P : Program} {ops : Array Oper} {rest : List Oper} {o : Oper} {a : Act} {w : World} {Q : Exit → Act → World → Prop} (hgd : o.guard = none) (t : TypeId) (k0 k1 k2 k3 k4 : Nat) (x0 x1 x2 x3 x4 : Operand) (ho : o.op = .build t #[(k0, x0), (k1, x1), (k2, x2), (k3, x3), (k4, x4)])
    (v0 v1 v2 v3 v4 : Value) (h0 : a.eval x0 = v0) (h1 : a.eval x1 = v1) (h2 : a.eval x2 = v2) (h3 : a.eval x3 = v3) (h4 : a.eval x4 = v4) (cells : Array Value) (hb : P.built t [(k0, v0), (k1, v1), (k2, v2), (k3, v3), (k4, v4)] = some cells)
    (h : wpList P ops Q rest (a.put o.dst (.agg cells)) w) : wpList P ops Q (o :: rest) a w :=
  wpList_build_as hgd t #[(k0, x0), (k1, x1), (k2, x2), (k3, x3), (k4, x4)] ho cells (by simp [h0, h1, h2, h3, h4, hb]) h
/-- What is read before it is asked whether it is right. -/
def recQ (s : List UInt8) : Option Rcd :=
  if (idP s treeW).2.1 = true then
    match parsQ unD 16 (idP s treeW).2.2 with
    | none => none
    | some (ps, q) =>
      if (identP q authorW).2.1 = true then
        if (identP (identP q authorW).2.2 committerW).2.1 = true then
          match (identP (identP q authorW).2.2 committerW).2.2 with
          | [] => none
          | d :: tx => if d = 10 then some ⟨(idP s treeW).1, ps, (identP q authorW).1, (identP (identP q authorW).2.2 committerW).1, tx⟩ else none
        else none
      else none
  else none
theorem parse_way9 (s : List UInt8) : parseK s = match recQ s with
    | none => none
    | some c => if rightR c = true then some c else none := by
  unfold parseK
  have ep : ∀ x, parseR Lib.itoa takeN x = parseP Lib.itoa takeN x := fun x => (parse_alike x).symm
  rw [parseC_way]
  unfold recQ idP
  cases e1 : lineL s treeW with
  | none => rfl
  | some y =>
    obtain ⟨x, r⟩ := y
    simp only
    cases e2 : unD x with
    | none => rfl
    | some t =>
      simp only [if_pos]
      cases e3 : parsQ unD 16 r with
      | none => rfl
      | some z =>
        obtain ⟨ps, q⟩ := z
        show endC t (parseR Lib.itoa takeN) ps q = _
        unfold endC whoL identP
        simp only [ep]
        cases e4 : lineL q authorW with
        | none => rfl
        | some y2 =>
          obtain ⟨x2, r2⟩ := y2
          simp only
          cases e5 : parseP Lib.itoa takeN x2 with
          | none => rfl
          | some a =>
            simp only [if_pos]
            cases e6 : lineL r2 committerW with
            | none => rfl
            | some y3 =>
              obtain ⟨x3, r3⟩ := y3
              simp only
              cases e7 : parseP Lib.itoa takeN x3 with
              | none => rfl
              | some c =>
                simp only [if_pos]
                cases r3 with
                | nil => rfl
                | cons d tx =>
                  simp only
                  by_cases hd : d = 10
                  · simp only [if_pos hd]
                  · simp only [if_neg hd]
theorem idP_len (s w : List UInt8) : (idP s w).2.2.length ≤ s.length ∧ (idP s w).1.length = 20 := by
  unfold idP
  cases e1 : lineL s w with
  | none => exact ⟨Nat.le_refl _, rfl⟩
  | some y =>
    obtain ⟨x, r⟩ := y
    have := line_len e1
    simp only
    cases e2 : unD x with
    | none => exact ⟨by simp only; omega, rfl⟩
    | some t => exact ⟨by simp only; omega, un_len e2⟩
theorem identP_len (s w : List UInt8) : (identP s w).2.2.length ≤ s.length ∧ (identP s w).1.name.length ≤ 200 ∧ (identP s w).1.email.length ≤ 200 := by
  unfold identP
  cases e1 : lineL s w with
  | none => exact ⟨Nat.le_refl _, Nat.zero_le _, Nat.zero_le _⟩
  | some y =>
    obtain ⟨x, r⟩ := y
    have := line_len e1
    simp only
    cases e2 : parseP Lib.itoa takeN x with
    | none => exact ⟨by simp only; omega, Nat.zero_le _, Nat.zero_le _⟩
    | some i => exact ⟨by simp only; omega, right_len i (parse_some x i e2).1⟩
/-- A record's cells, read in a world. -/
structure RecRed (w : World) (A : Array Value) (c : Rcd) : Prop where
  fit : c.Fit
  at_ : ∃ pa cap, A = arrC c.tree (.slice pa c.parents.length cap) c.author c.committer c.text ∧ c.parents.length ≤ cap ∧ cap ≤ maxLen ∧ IdsAt w pa c.parents ∧ (pa = none → c.parents.length = 0 ∧ cap = 0)
theorem RecRed.keep {w u : World} {A : Array Value} {c : Rcd} (h : RecRed w A c) (hb : Below w.heap.size w u) : RecRed u A c := by
  obtain ⟨h1, pa, cap, h2, h3, h4, h5, h6⟩ := h
  exact ⟨h1, pa, cap, h2, h3, h4, h5.keep hb, h6⟩
theorem ownD_mono {B B' : Nat} {v : Value} {l : List (List UInt8)} {w : World} (h : OwnD B v l w) (hB : B' ≤ B) : OwnD B' v l w :=
  ⟨h.1, h.2.imp id (fun ⟨g', cap', cur, h', hb', r⟩ => ⟨g', cap', cur, h', Nat.le_trans hB hb', r⟩)⟩
theorem ownD_red {B : Nat} {w : World} {pa : Option Addr} {cap : Nat} {c : Rcd} (h : OwnD B (.slice pa c.parents.length cap) c.parents w) (hf : c.Fit) : RecRed w (arrC c.tree (.slice pa c.parents.length cap) c.author c.committer c.text) c := by
  obtain ⟨pa2, cap2, hv, h1, h2, h3, h4⟩ := ownD_ids h hf.parents
  cases hv
  exact ⟨hf, pa, cap, rfl, h1, h2, h3, h4⟩
def rcdZ : Rcd := ⟨idZ, [], zT, zT, []⟩
theorem recRed_zero (w : World) : RecRed w recZ rcdZ := ⟨⟨rfl, fun p hp => (by cases hp)⟩, none, 0, rfl, Nat.zero_le _, Nat.zero_le _, IdsAt.nil _ _, fun _ => ⟨rfl, rfl⟩⟩
theorem zRd_any : ∀ w, (zeroValue 170).run Tryz.prog w = .ok (.agg #[.string ⟨#[]⟩]) w := zero_arr (n := 1) (by kernel_rfl)
theorem built_rd (s : ByteArray) : Tryz.prog.built 170 [(0, .string s)] = some #[.string s] := by kernel_rfl
theorem authorV_W : authorV ++ [32] = authorW := rfl
theorem committerV_W : committerV ++ [32] = committerW := rfl
theorem treeV_W : treeV ++ [32] = treeW := rfl
set_option maxHeartbeats 32000000 in
theorem record9_is (s : List UInt8) (w : World) (tab : T7 w) (hs : s.length ≤ 1000000) :
    Calls Tryz.prog 74 #[.string ⟨s.toArray⟩] w fun e w' => ∃ A b, e = .returned (.tuple #[.agg A, .bool b]) ∧ Below w.heap.size w w' ∧ A.size = 30 ∧ A.all (·.oneCell') = true ∧
      ((b = true ∧ ∃ c pa cap, recQ s = some c ∧ A = arrC c.tree (.slice pa c.parents.length cap) c.author c.committer c.text ∧ OwnD w.heap.size (.slice pa c.parents.length cap) c.parents w' ∧ c.Fit ∧ c.parents.length ≤ 16 ∧ c.author.name.length ≤ 200 ∧ c.author.email.length ≤ 200 ∧ c.committer.name.length ≤ 200 ∧ c.committer.email.length ≤ 200) ∨ (b = false ∧ recQ s = none)) := by
  obtain ⟨z, hz0, hzs, hzv, hzb, hz1⟩ := zRec_any
  obtain ⟨y, hy0, hys, hyv, hyb, hy1⟩ := zId_any
  obtain ⟨x, hx0, hxs, hxv, hxb, hx1⟩ := zIdt_any
  have hrv := zRd_any
  have ZS := Lib.hid hzs; have ZB := Lib.hid hzb; have Z1 := Lib.hid hz1; have YS := Lib.hid hys; have XS := Lib.hid hxs
  have IZ := Lib.hid (infoC_arr z hzs)
  have TB := Lib.hid tab
  have HS := Lib.hid hs
  obtain ⟨RQ, hRQ⟩ : ∃ RQ, recQ s = RQ := ⟨_, rfl⟩
  have HQ := Lib.hid (show RQ = recQ s from hRQ.symm)
  unfold recQ at HQ
  rw [hRQ]
  obtain ⟨l1, l2⟩ := idP_len s treeW
  have L1 := Lib.hid l1; have L2 := Lib.hid l2
  have CI := Lib.hid (fun u (hg : RdAt u (w.heap.size + 1) s) (hb : Below w.heap.size w u) => rdid_is (w.heap.size + 1) s treeV w u tab (Nat.le_succ _) hb hg hs (by decide) (by rw [treeV_W]; exact noEol_tree))
  rw [treeV_W, show treeV = [116, 114, 101, 101] from rfl] at CI
  have hT20 : (arrD (idP s treeW).1).size = 20 := arrD_size _ l2
  have hT1 := arrD_one (idP s treeW).1
  clear hz0 hzs hzb hz1 hy0 hys hyb hy1 hx0 hxs hxb hx1 hRQ l1 l2 tab
  obtain ⟨T, hT⟩ : ∃ T, arrD (idP s treeW).1 = T := ⟨_, rfl⟩
  have HT := Lib.hid hT
  rw [hT] at CI hT20 hT1
  have HT20 := Lib.hid hT20; have HT1 := Lib.hid hT1
  have IT := Lib.hid (show (Tryz.prog.info? 24).map (·.size) = some T.size by rw [hT20]; exact infoD_n)
  obtain ⟨t, ht⟩ : ∃ t, (idP s treeW).1 = t := ⟨_, rfl⟩
  obtain ⟨q1, hq1⟩ : ∃ q1, (idP s treeW).2.2 = q1 := ⟨_, rfl⟩
  rw [ht] at HQ HT L2
  rw [hq1] at HQ CI L1
  cases hb1 : (idP s treeW).2.1 with
  | false =>
    rw [hb1] at CI HQ
    rw [if_neg (by decide)] at HQ
    have S0 := Lib.hid (size_toArray s)
    have BRS := Lib.hid (built_rd ⟨s.toArray⟩)
    clear hT20 hT1 hT ht hq1 hb1 S0 hs
    obtain ⟨S, hS⟩ : ∃ S : ByteArray, ⟨s.toArray⟩ = S := ⟨_, rfl⟩
    have HSS := Lib.hid hS
    rw [hS] at BRS ⊢
    clear hS
    go_enter Tryz.func74, Tryz.ntmps74
    go_wp2_with (first
      | (with_reducible refine wpList_build_one rfl 170 0 (.tmp 11) rfl (.string S) rfl _ BRS.out ?_)
      | fail)
    have hba := ((Below.refl w.heap.size w).alloc (Nat.le_refl _) (.cells z 54)).alloc (by simp) (.cells #[.string S] 170)
    have hga := (Below.heap_alloc (w.alloc (.cells z 54)) (.cells #[.string S] 170) w.heap.size (by simp)).trans (heap_alloc_new w (.cells z 54))
    have hra := heap_alloc_new (w.alloc (.cells z 54)) (.cells #[.string S] 170)
    rw [show (w.alloc (.cells z 54)).heap.size = w.heap.size + 1 by simp] at hra
    generalize hwa : (w.alloc (.cells z 54)).alloc (.cells #[.string S] 170) = wa at *
    have BA := Lib.hid hba
    have GA := Lib.hid hga
    have RA := Lib.hid (show RdAt wa (w.heap.size + 1) s from by unfold RdAt; rw [HSS.out]; exact hra)
    clear hga hra hwa hba
    refine (CI.out _ RA.out BA.out).mono ?_
    rintro e wb ⟨rfl, hgb, hob⟩
    have BB := Lib.hid (BA.out.trans (hob.below (B := w.heap.size) (Nat.le_succ _) BA.out.size))
    have GB := Lib.hid ((hob.block w.heap.size (lt_of_heap GA.out) (Nat.ne_of_lt (Nat.lt_succ_self _))).trans GA.out)
    have RB := Lib.hid hgb
    clear hgb hob
    go_wp2_with (first
      | (with_reducible refine wpList_store_all rfl 24 (.tmp 5) (.tmp 15) rfl wb.heap.size T rfl rfl 24 y (heap_alloc_new wb _) IT.out (HT20.out.trans YS.out.symm) HT1.out ?_)
      | fail)
    intro wb2 hgb2 hob2 hsb2
    have hbb2 := ((Below.refl wb.heap.size wb).alloc (Nat.le_refl _) (.cells y 24)).trans (hob2.below (Nat.le_refl _) (by simp))
    have BC := Lib.hid (BB.out.trans (hbb2.mono BB.out.size))
    have GC := Lib.hid ((hbb2.block w.heap.size (lt_of_heap GB.out)).trans GB.out)
    have RC := Lib.hid (rd_keep RB.out hbb2)
    have K5C := Lib.hid hgb2
    have LT5 := Lib.hid (show w.heap.size + 1 < wb.heap.size from lt_of_heap RB.out)
    clear hgb2 hob2 hsb2 hbb2
    have NONE := Lib.hid (show RQ = none from HQ.out)
    go_wp2_with (first
      | (refine wpList_build_none rfl 54 rfl _ ZB.out ?_)
      | (with_reducible refine wpList_store_all rfl 54 (.tmp 2) (.tmp 19) rfl w.heap.size z rfl rfl 54 z GC.out IZ.out rfl Z1.out ?_)
      | fail)
    intro wz hgz hoz hsz
    have BZ := Lib.hid (BC.out.trans (hoz.below (B := w.heap.size) (Nat.le_refl _) BC.out.size))
    have GZ := Lib.hid hgz
    clear hgz hoz hsz
    go_wp2
    exact bodyPost_ret (results_rec Tryz.results74 _ _ w.heap.size z (0, 0) _ rfl rfl GZ.out ZS.out) rfl ⟨_, _, rfl, BZ.out, ZS.out, Z1.out, .inr ⟨rfl, NONE.out⟩⟩
  | true =>
    rw [hb1] at CI HQ
    rw [if_pos rfl] at HQ
    have S0 := Lib.hid (size_toArray s)
    have BRS := Lib.hid (built_rd ⟨s.toArray⟩)
    clear hT20 hT1 hT ht hq1 hb1 S0 hs
    obtain ⟨S, hS⟩ : ∃ S : ByteArray, ⟨s.toArray⟩ = S := ⟨_, rfl⟩
    have HSS := Lib.hid hS
    rw [hS] at BRS ⊢
    clear hS
    go_enter Tryz.func74, Tryz.ntmps74
    go_wp2_with (first
      | (with_reducible refine wpList_build_one rfl 170 0 (.tmp 11) rfl (.string S) rfl _ BRS.out ?_)
      | fail)
    have hba := ((Below.refl w.heap.size w).alloc (Nat.le_refl _) (.cells z 54)).alloc (by simp) (.cells #[.string S] 170)
    have hga := (Below.heap_alloc (w.alloc (.cells z 54)) (.cells #[.string S] 170) w.heap.size (by simp)).trans (heap_alloc_new w (.cells z 54))
    have hra := heap_alloc_new (w.alloc (.cells z 54)) (.cells #[.string S] 170)
    rw [show (w.alloc (.cells z 54)).heap.size = w.heap.size + 1 by simp] at hra
    generalize hwa : (w.alloc (.cells z 54)).alloc (.cells #[.string S] 170) = wa at *
    have BA := Lib.hid hba
    have GA := Lib.hid hga
    have RA := Lib.hid (show RdAt wa (w.heap.size + 1) s from by unfold RdAt; rw [HSS.out]; exact hra)
    clear hga hra hwa hba
    refine (CI.out _ RA.out BA.out).mono ?_
    rintro e wb ⟨rfl, hgb, hob⟩
    have BB := Lib.hid (BA.out.trans (hob.below (B := w.heap.size) (Nat.le_succ _) BA.out.size))
    have GB := Lib.hid ((hob.block w.heap.size (lt_of_heap GA.out) (Nat.ne_of_lt (Nat.lt_succ_self _))).trans GA.out)
    have RB := Lib.hid hgb
    clear hgb hob
    go_wp2_with (first
      | (with_reducible refine wpList_store_all rfl 24 (.tmp 5) (.tmp 15) rfl wb.heap.size T rfl rfl 24 y (heap_alloc_new wb _) IT.out (HT20.out.trans YS.out.symm) HT1.out ?_)
      | fail)
    intro wb2 hgb2 hob2 hsb2
    have hbb2 := ((Below.refl wb.heap.size wb).alloc (Nat.le_refl _) (.cells y 24)).trans (hob2.below (Nat.le_refl _) (by simp))
    have BC := Lib.hid (BB.out.trans (hbb2.mono BB.out.size))
    have GC := Lib.hid ((hbb2.block w.heap.size (lt_of_heap GB.out)).trans GB.out)
    have RC := Lib.hid (rd_keep RB.out hbb2)
    have K5C := Lib.hid hgb2
    have LT5 := Lib.hid (show w.heap.size + 1 < wb.heap.size from lt_of_heap RB.out)
    clear hgb2 hob2 hsb2 hbb2
    have HQ1 := HQ
    clear HQ
    have CP := rdparents_is (w.heap.size + 1) q1 w wb2 TB.out (Nat.le_succ _) BC.out RC.out (by have := L1.out; have := HS.out; omega)
    go_wp2_with fail
    refine CP.mono ?_
    rintro e wd ⟨v, b, q2, ps, rfl, hgd, hl2, hod, hcase⟩
    have HCASE := Lib.hid hcase
    have L3 := Lib.hid hl2
    have WS := Lib.hid (show w.heap.size + 1 < wb2.heap.size from lt_of_heap RC.out)
    clear hcase hl2 CP
    have BD := Lib.hid (BC.out.trans (hod.below (B := w.heap.size) (Nat.le_succ _) BC.out.size))
    have GD := Lib.hid ((hod.block w.heap.size (lt_of_heap GC.out) (Nat.ne_of_lt (Nat.lt_succ_self _))).trans GC.out)
    have RD := Lib.hid hgd
    have K5D := Lib.hid ((hod.block wb.heap.size (lt_of_heap K5C.out) (by have := LT5.out; omega)).trans K5C.out)
    clear hgd hod
    rcases HCASE.out with ⟨hb, hpq, hown, h16, hpi⟩ | ⟨hb, hpq, hv⟩
    case inr =>
      subst hb
      subst hv
      have NONE := Lib.hid (show RQ = none by rw [HQ1.out, hpq])
      clear hpq HCASE
      go_wp2_with (first
        | (refine wpList_build_none rfl 54 rfl _ ZB.out ?_)
        | (with_reducible refine wpList_store_all rfl 54 (.tmp 2) (.tmp 26) rfl w.heap.size z rfl rfl 54 z GD.out IZ.out rfl Z1.out ?_)
        | fail)
      intro wz hgz hoz hsz
      have BZ := Lib.hid (BD.out.trans (hoz.below (B := w.heap.size) (Nat.le_refl _) BD.out.size))
      have GZ := Lib.hid hgz
      clear hgz hoz hsz
      go_wp2
      exact bodyPost_ret (results_rec Tryz.results74 _ _ w.heap.size z (0, 0) _ rfl rfl GZ.out ZS.out) rfl ⟨_, _, rfl, BZ.out, ZS.out, Z1.out, .inr ⟨rfl, NONE.out⟩⟩
    subst hb
    have hq := HQ1.out
    rw [hpq] at hq
    dsimp only at hq
    have HQ2 := Lib.hid hq
    clear hq
    have OWD := Lib.hid hown
    have H16 := Lib.hid h16
    have HPI := Lib.hid hpi
    obtain ⟨pa, cap, hv, hcap, hcm, hids, hnil⟩ := ownD_ids hown hpi
    have HCAP := Lib.hid hcap; have HCM := Lib.hid hcm; have HNIL := Lib.hid hnil; have HV := Lib.hid hv
    clear hpq HCASE HQ1 hown h16 hpi hcap hcm hids hnil
    obtain ⟨pn, hpn⟩ : ∃ pn, ps.length = pn := ⟨_, rfl⟩
    have HPN := Lib.hid hpn
    rw [hpn] at hv
    subst hv
    clear hpn
    obtain ⟨l4, l5, l6⟩ := identP_len q2 authorW
    have L4 := Lib.hid l4; have L5 := Lib.hid l5; have L6 := Lib.hid l6
    have CA := rdident_is (w.heap.size + 1) q2 authorV w wd TB.out (Nat.le_succ _) BD.out RD.out (by have := L1.out; have := L3.out; have := HS.out; omega) (by decide) (by rw [authorV_W]; exact noEol_author)
    rw [authorV_W, show authorV = [97, 117, 116, 104, 111, 114] from rfl] at CA
    have HA1 := Lib.hid (arrI9_one (identP q2 authorW).1)
    obtain ⟨au, hau⟩ : ∃ au, (identP q2 authorW).1 = au := ⟨_, rfl⟩
    obtain ⟨q3, hq3⟩ : ∃ q3, (identP q2 authorW).2.2 = q3 := ⟨_, rfl⟩
    rw [hau] at HQ2 CA L5 L6 HA1
    rw [hq3] at HQ2 CA L4
    clear l4 l5 l6
    have HA4 := Lib.hid (arrI9_size au)
    obtain ⟨AU, hAU⟩ : ∃ AU, arrI9 au = AU := ⟨_, rfl⟩
    rw [hAU] at CA HA1 HA4
    have IA := Lib.hid (show (Tryz.prog.info? 52).map (·.size) = some AU.size by rw [HA4.out]; exact infoT)
    have HAU := Lib.hid hAU
    clear hAU
    cases hb2 : (identP q2 authorW).2.1 with
    | false =>
      rw [hb2] at CA HQ2
      rw [if_neg (by decide)] at HQ2
      clear hau hq3 hb2
      go_wp2_with fail
      refine CA.mono ?_
      rintro e we ⟨rfl, hge, hoe⟩
      have OWE := Lib.hid (ownD_off OWD.out hoe WS.out)
      have BE := Lib.hid (BD.out.trans (hoe.below (B := w.heap.size) (Nat.le_succ _) BD.out.size))
      have GE := Lib.hid ((hoe.block w.heap.size (lt_of_heap GD.out) (Nat.ne_of_lt (Nat.lt_succ_self _))).trans GD.out)
      have RE := Lib.hid hge
      have K5E := Lib.hid ((hoe.block wb.heap.size (lt_of_heap K5D.out) (by have := LT5.out; omega)).trans K5D.out)
      clear hge hoe
      go_wp2_with (first
        | (with_reducible refine wpList_store_all rfl 52 (.tmp 8) (.tmp 29) rfl we.heap.size AU rfl rfl 52 x (heap_alloc_new we _) IA.out (HA4.out.trans XS.out.symm) HA1.out ?_)
        | fail)
      intro we2 hge2 hoe2 hse2
      have hbe2 := ((Below.refl we.heap.size we).alloc (Nat.le_refl _) (.cells x 52)).trans (hoe2.below (Nat.le_refl _) (by simp))
      have BF := Lib.hid (BE.out.trans (hbe2.mono BE.out.size))
      have GF := Lib.hid ((hbe2.block w.heap.size (lt_of_heap GE.out)).trans GE.out)
      have RF := Lib.hid (rd_keep RE.out hbe2)
      have K8F := Lib.hid hge2
      have LT8 := Lib.hid (show w.heap.size + 1 < we.heap.size from lt_of_heap RE.out)
      have K5F := Lib.hid ((hbe2.block wb.heap.size (lt_of_heap K5E.out)).trans K5E.out)
      clear hge2 hoe2 hse2 hbe2
      have NONE := Lib.hid (show RQ = none from HQ2.out)
      go_wp2_with (first
        | (refine wpList_build_none rfl 54 rfl _ ZB.out ?_)
        | (with_reducible refine wpList_store_all rfl 54 (.tmp 2) (.tmp 33) rfl w.heap.size z rfl rfl 54 z GF.out IZ.out rfl Z1.out ?_)
        | fail)
      intro wz hgz hoz hsz
      have BZ := Lib.hid (BF.out.trans (hoz.below (B := w.heap.size) (Nat.le_refl _) BF.out.size))
      have GZ := Lib.hid hgz
      clear hgz hoz hsz
      go_wp2
      exact bodyPost_ret (results_rec Tryz.results74 _ _ w.heap.size z (0, 0) _ rfl rfl GZ.out ZS.out) rfl ⟨_, _, rfl, BZ.out, ZS.out, Z1.out, .inr ⟨rfl, NONE.out⟩⟩
    | true =>
      rw [hb2] at CA HQ2
      rw [if_pos rfl] at HQ2
      clear hau hq3 hb2
      go_wp2_with fail
      refine CA.mono ?_
      rintro e we ⟨rfl, hge, hoe⟩
      have OWE := Lib.hid (ownD_off OWD.out hoe WS.out)
      have BE := Lib.hid (BD.out.trans (hoe.below (B := w.heap.size) (Nat.le_succ _) BD.out.size))
      have GE := Lib.hid ((hoe.block w.heap.size (lt_of_heap GD.out) (Nat.ne_of_lt (Nat.lt_succ_self _))).trans GD.out)
      have RE := Lib.hid hge
      have K5E := Lib.hid ((hoe.block wb.heap.size (lt_of_heap K5D.out) (by have := LT5.out; omega)).trans K5D.out)
      clear hge hoe
      go_wp2_with (first
        | (with_reducible refine wpList_store_all rfl 52 (.tmp 8) (.tmp 29) rfl we.heap.size AU rfl rfl 52 x (heap_alloc_new we _) IA.out (HA4.out.trans XS.out.symm) HA1.out ?_)
        | fail)
      intro we2 hge2 hoe2 hse2
      have hbe2 := ((Below.refl we.heap.size we).alloc (Nat.le_refl _) (.cells x 52)).trans (hoe2.below (Nat.le_refl _) (by simp))
      have BF := Lib.hid (BE.out.trans (hbe2.mono BE.out.size))
      have GF := Lib.hid ((hbe2.block w.heap.size (lt_of_heap GE.out)).trans GE.out)
      have RF := Lib.hid (rd_keep RE.out hbe2)
      have K8F := Lib.hid hge2
      have LT8 := Lib.hid (show w.heap.size + 1 < we.heap.size from lt_of_heap RE.out)
      have K5F := Lib.hid ((hbe2.block wb.heap.size (lt_of_heap K5E.out)).trans K5E.out)
      have OWF := Lib.hid (ownD_below OWE.out hbe2)
      clear hge2 hoe2 hse2 hbe2
      have HQ3 := HQ2
      clear HQ2 CA
      obtain ⟨l7, l8, l9⟩ := identP_len q3 committerW
      have L7 := Lib.hid l7; have L8 := Lib.hid l8; have L9 := Lib.hid l9
      have CC := rdident_is (w.heap.size + 1) q3 committerV w we2 TB.out (Nat.le_succ _) BF.out RF.out (by have := L1.out; have := L3.out; have := L4.out; have := HS.out; omega) (by decide) (by rw [committerV_W]; exact noEol_committer)
      rw [committerV_W, show committerV = [99, 111, 109, 109, 105, 116, 116, 101, 114] from rfl] at CC
      have HC1 := Lib.hid (arrI9_one (identP q3 committerW).1)
      obtain ⟨co, hco⟩ : ∃ co, (identP q3 committerW).1 = co := ⟨_, rfl⟩
      obtain ⟨q4, hq4⟩ : ∃ q4, (identP q3 committerW).2.2 = q4 := ⟨_, rfl⟩
      rw [hco] at HQ3 CC L8 L9 HC1
      rw [hq4] at HQ3 CC L7
      clear l7 l8 l9
      have HC4 := Lib.hid (arrI9_size co)
      obtain ⟨CO, hCO⟩ : ∃ CO, arrI9 co = CO := ⟨_, rfl⟩
      rw [hCO] at CC HC1 HC4
      have IC := Lib.hid (show (Tryz.prog.info? 52).map (·.size) = some CO.size by rw [HC4.out]; exact infoT)
      have HCO := Lib.hid hCO
      clear hCO
      cases hb3 : (identP q3 committerW).2.1 with
      | false =>
        rw [hb3] at CC HQ3
        rw [if_neg (by decide)] at HQ3
        clear hco hq4 hb3
        go_wp2_with fail
        refine CC.mono ?_
        rintro e wg ⟨rfl, hgg, hog⟩
        have OWG := Lib.hid (ownD_off OWF.out hog WS.out)
        have BG := Lib.hid (BF.out.trans (hog.below (B := w.heap.size) (Nat.le_succ _) BF.out.size))
        have GG := Lib.hid ((hog.block w.heap.size (lt_of_heap GF.out) (Nat.ne_of_lt (Nat.lt_succ_self _))).trans GF.out)
        have RG := Lib.hid hgg
        have K5G := Lib.hid ((hog.block wb.heap.size (lt_of_heap K5F.out) (by have := LT5.out; omega)).trans K5F.out)
        have K8G := Lib.hid ((hog.block we.heap.size (lt_of_heap K8F.out) (by have := LT8.out; omega)).trans K8F.out)
        clear hgg hog
        go_wp2_with (first
          | (with_reducible refine wpList_store_all rfl 52 (.tmp 9) (.tmp 36) rfl wg.heap.size CO rfl rfl 52 x (heap_alloc_new wg _) IC.out (HC4.out.trans XS.out.symm) HC1.out ?_)
          | fail)
        intro wg2 hgg2 hog2 hsg2
        have hbg2 := ((Below.refl wg.heap.size wg).alloc (Nat.le_refl _) (.cells x 52)).trans (hog2.below (Nat.le_refl _) (by simp))
        have BH := Lib.hid (BG.out.trans (hbg2.mono BG.out.size))
        have GH := Lib.hid ((hbg2.block w.heap.size (lt_of_heap GG.out)).trans GG.out)
        have RH := Lib.hid (rd_keep RG.out hbg2)
        have K9H := Lib.hid hgg2
        have LT9 := Lib.hid (show w.heap.size + 1 < wg.heap.size from lt_of_heap RG.out)
        have K5H := Lib.hid ((hbg2.block wb.heap.size (lt_of_heap K5G.out)).trans K5G.out)
        have K8H := Lib.hid ((hbg2.block we.heap.size (lt_of_heap K8G.out)).trans K8G.out)
        clear hgg2 hog2 hsg2 hbg2
        have NONE := Lib.hid (show RQ = none from HQ3.out)
        go_wp2_with (first
          | (refine wpList_build_none rfl 54 rfl _ ZB.out ?_)
          | (with_reducible refine wpList_store_all rfl 54 (.tmp 2) (.tmp 40) rfl w.heap.size z rfl rfl 54 z GH.out IZ.out rfl Z1.out ?_)
          | fail)
        intro wz hgz hoz hsz
        have BZ := Lib.hid (BH.out.trans (hoz.below (B := w.heap.size) (Nat.le_refl _) BH.out.size))
        have GZ := Lib.hid hgz
        clear hgz hoz hsz
        go_wp2
        exact bodyPost_ret (results_rec Tryz.results74 _ _ w.heap.size z (0, 0) _ rfl rfl GZ.out ZS.out) rfl ⟨_, _, rfl, BZ.out, ZS.out, Z1.out, .inr ⟨rfl, NONE.out⟩⟩
      | true =>
        rw [hb3] at CC HQ3
        rw [if_pos rfl] at HQ3
        clear hco hq4 hb3
        go_wp2_with fail
        refine CC.mono ?_
        rintro e wg ⟨rfl, hgg, hog⟩
        have OWG := Lib.hid (ownD_off OWF.out hog WS.out)
        have BG := Lib.hid (BF.out.trans (hog.below (B := w.heap.size) (Nat.le_succ _) BF.out.size))
        have GG := Lib.hid ((hog.block w.heap.size (lt_of_heap GF.out) (Nat.ne_of_lt (Nat.lt_succ_self _))).trans GF.out)
        have RG := Lib.hid hgg
        have K5G := Lib.hid ((hog.block wb.heap.size (lt_of_heap K5F.out) (by have := LT5.out; omega)).trans K5F.out)
        have K8G := Lib.hid ((hog.block we.heap.size (lt_of_heap K8F.out) (by have := LT8.out; omega)).trans K8F.out)
        clear hgg hog
        go_wp2_with (first
          | (with_reducible refine wpList_store_all rfl 52 (.tmp 9) (.tmp 36) rfl wg.heap.size CO rfl rfl 52 x (heap_alloc_new wg _) IC.out (HC4.out.trans XS.out.symm) HC1.out ?_)
          | fail)
        intro wg2 hgg2 hog2 hsg2
        have hbg2 := ((Below.refl wg.heap.size wg).alloc (Nat.le_refl _) (.cells x 52)).trans (hog2.below (Nat.le_refl _) (by simp))
        have BH := Lib.hid (BG.out.trans (hbg2.mono BG.out.size))
        have GH := Lib.hid ((hbg2.block w.heap.size (lt_of_heap GG.out)).trans GG.out)
        have RH := Lib.hid (rd_keep RG.out hbg2)
        have K9H := Lib.hid hgg2
        have LT9 := Lib.hid (show w.heap.size + 1 < wg.heap.size from lt_of_heap RG.out)
        have K5H := Lib.hid ((hbg2.block wb.heap.size (lt_of_heap K5G.out)).trans K5G.out)
        have K8H := Lib.hid ((hbg2.block we.heap.size (lt_of_heap K8G.out)).trans K8G.out)
        have OWH := Lib.hid (ownD_below OWG.out hbg2)
        clear hgg2 hog2 hsg2 hbg2
        have HQ4 := HQ3
        clear HQ3 CC
        obtain ⟨b10, hbx⟩ : ∃ b10, Lib.hasPrefix q4 [10] = b10 := ⟨_, rfl⟩
        obtain ⟨tx, htx⟩ : ∃ tx, Lib.trimPrefix q4 [10] = tx := ⟨_, rfl⟩
        have c10 := fun u => Tryz.strings_CutPrefix ⟨q4.toArray⟩ ⟨#[10]⟩ u
        rw [show (⟨q4.toArray⟩ : ByteArray).data.toList = q4 from rfl, show (⟨#[10]⟩ : ByteArray).data.toList = [10] from rfl, hbx, htx] at c10
        have HEND := Lib.hid (show (b10 = true ∧ RQ = some ⟨t, ps, au, co, tx⟩) ∨ (b10 = false ∧ RQ = none) by
          rw [HQ4.out]
          cases q4 with
          | nil => exact .inr ⟨hbx.symm.trans rfl, rfl⟩
          | cons d r =>
            by_cases hd : d = 10
            · subst hd
              have e1 : Lib.hasPrefix (10 :: r) [10] = true := by simp [Lib.hasPrefix, List.isPrefixOf]
              have e2 : Lib.trimPrefix (10 :: r) [10] = r := by simp [Lib.trimPrefix, Lib.hasPrefix, List.isPrefixOf]
              refine .inl ⟨hbx.symm.trans e1, ?_⟩
              rw [← htx, e2]
              simp only [if_pos]
            · have e1 : Lib.hasPrefix (d :: r) [10] = false := by simp [Lib.hasPrefix, List.isPrefixOf]; exact fun e => hd e.symm
              exact .inr ⟨hbx.symm.trans e1, by simp only [if_neg hd]⟩)
        clear HQ4 hbx htx
        have q0 : wg2.cell? ⟨w.heap.size + 1, 0, none⟩ = some (.string ⟨q4.toArray⟩) := by rw [Lib.cell_of_heap RH.out]; rfl
        have hbuilt := built_rec t L2.out pa pn cap au co tx
        obtain ⟨A, hA⟩ : ∃ A, arrC t (.slice pa pn cap) au co tx = A := ⟨_, rfl⟩
        have HAA := Lib.hid hA
        have HAS := Lib.hid (show A.size = 30 by rw [← hA]; exact arrC_size _ _ _ _ _ L2.out)
        have HAO := Lib.hid (show A.all (·.oneCell') = true by rw [← hA]; exact arrC_one _ _ _ _ _ _ _)
        rw [hA, HT.out, show (cellsT au).toArray = AU from HAU.out, show (cellsT co).toArray = CO from HCO.out] at hbuilt
        have HBU := Lib.hid hbuilt
        have IAA := Lib.hid (infoC_arr A HAS.out)
        clear hA hbuilt
        obtain ⟨TX, hTX⟩ : ∃ TX : ByteArray, ⟨tx.toArray⟩ = TX := ⟨_, rfl⟩
        rw [hTX] at c10 HBU
        clear hTX
        generalize (⟨q4.toArray⟩ : ByteArray) = Q4 at *
        go_wp2_with fail
        refine (c10 _).mono ?_
        rintro e wh ⟨rfl, hE⟩
        subst hE
        go_wp2_with (first
          | (with_reducible refine wpList_load_all 24 (.tmp 5) rfl (by kernel_rfl) wb.heap.size T 24 (0, 0) rfl K5H.out _ Tryz.underlying24 rfl IT.out ?_)
          | (with_reducible refine wpList_load_all 52 (.tmp 8) rfl (by kernel_rfl) we.heap.size AU 52 (0, 0) rfl K8H.out _ Tryz.underlying52 rfl IA.out ?_)
          | (with_reducible refine wpList_load_all 52 (.tmp 9) rfl (by kernel_rfl) wg.heap.size CO 52 (0, 0) rfl K9H.out _ Tryz.underlying52 rfl IC.out ?_)
          | (refine wpList_build_five rfl 54 0 1 2 3 4 (.tmp 47) (.tmp 48) (.tmp 49) (.tmp 50) (.tmp 51) rfl (.agg T) (.slice pa pn cap) (.agg AU) (.agg CO) (.string TX) rfl rfl rfl rfl rfl _ HBU.out ?_)
          | (with_reducible refine wpList_store_all rfl 54 (.tmp 2) (.tmp 52) rfl w.heap.size A rfl rfl 54 z GH.out IAA.out (HAS.out.trans ZS.out.symm) HAO.out ?_)
          | fail)
        intro wz hgz hoz hsz
        have BZ := Lib.hid (BH.out.trans (hoz.below (B := w.heap.size) (Nat.le_refl _) BH.out.size))
        have GZ := Lib.hid hgz
        have OWZ := Lib.hid (ownD_off OWH.out hoz (Nat.lt_of_lt_of_le (Nat.lt_succ_self _) (Nat.le_of_lt WS.out)))
        clear hgz hoz hsz
        go_wp2
        refine bodyPost_ret (results_rec Tryz.results74 _ _ w.heap.size A (0, 0) _ rfl rfl GZ.out HAS.out) rfl ⟨_, _, rfl, BZ.out, HAS.out, HAO.out, ?_⟩
        rcases HEND.out with ⟨hb, hq⟩ | ⟨hb, hq⟩
        · refine .inl ⟨hb, _, pa, cap, hq, ?_, ?_, ⟨L2.out, HPI.out⟩, H16.out, L5.out, L6.out, L8.out, L9.out⟩
          · show A = arrC t (.slice pa ps.length cap) au co tx
            rw [HPN.out]; exact HAA.out.symm
          · show OwnD w.heap.size (.slice pa ps.length cap) ps wz
            rw [HPN.out]; exact ownD_mono OWZ.out (Nat.le_of_lt (Nat.lt_trans (Nat.lt_succ_self _) WS.out))
        · exact .inr ⟨hb, hq⟩
end Go.Proofs.YtpelehhmdcjikaaGreatDoor

/-
  Layer 9, the program: Parse.
-/
namespace Go.Proofs.YtpelehhmdcjikaaGreatDoor
set_option maxRecDepth 20000
open Go.RowKit
set_option linter.unusedVariables false
set_option linter.unusedSimpArgs false
/-- What Parse answers. -/
def parsedR (s : List UInt8) : Rcd × Int := match parseK s with
  | none => (rcdZ, 4)
  | some c => (c, 0)
set_option maxHeartbeats 16000000 in
theorem Parse9_is (a : Option Addr) (n cp : Nat) (bs : List UInt8) (w : World) (tab : T7 w) (hn : n = bs.length) (hb : BAt w a bs) (hs : n ≤ 1000000) :
    Calls Tryz.prog 50 #[.slice a n cp] w fun e w' => ∃ A, e = .returned (.tuple #[.agg A, .int .i64 (parsedR bs).2]) ∧ RecRed w' A (parsedR bs).1 ∧ Below w.heap.size w w' := by
  subst hn
  obtain ⟨z, hz0, hzs, hzv, hzb, hz1⟩ := zRec_any
  have ZS := Lib.hid hzs; have ZB := Lib.hid hzb; have Z1 := Lib.hid hz1; have Z0 := Lib.hid hz0
  have IZ := Lib.hid (infoC_arr z hzs)
  have hb1 := (Below.refl w.heap.size w).alloc (Nat.le_refl _) (.cells z 54)
  have B1 := Lib.hid hb1
  have G1 := Lib.hid (heap_alloc_new w (.cells z 54))
  have cv := (hb.keep hb1).conv (P := Tryz.prog) cp 32 5 Tryz.underlying32 Tryz.underlying5 9 Tryz.underlying9
  have TB := Lib.hid tab
  have CR := Lib.hid (record9_is bs (w.alloc (.cells z 54)) (tab.keep hb1) hs)
  have HPW := Lib.hid (parse_way9 bs)
  obtain ⟨RQ, hRQ⟩ : ∃ RQ, recQ bs = RQ := ⟨_, rfl⟩
  rw [hRQ] at CR HPW
  obtain ⟨PR, hPR⟩ : ∃ PR, parsedR bs = PR := ⟨_, rfl⟩
  have HPR := Lib.hid (show PR = match parseK bs with | none => (rcdZ, 4) | some c => (c, 0) from hPR.symm)
  rw [HPW.out] at HPR
  rw [hPR]
  clear hz0 hzs hzb hz1 hb1 hb tab hRQ hPR hs
  generalize (⟨bs.toArray⟩ : ByteArray) = S at *
  generalize bs.length = n at *
  go_enter Tryz.func50, Tryz.ntmps50
  go_wp2_with fail
  refine CR.out.mono ?_
  rintro e wb ⟨A, b, rfl, hbb, hAs, hA1, hcase⟩
  have HAS := Lib.hid hAs; have HA1 := Lib.hid hA1; have HCASE := Lib.hid hcase
  have BB := Lib.hid (B1.out.trans (hbb.mono B1.out.size))
  have GB := Lib.hid (heap_keep G1.out hbb)
  have IA := Lib.hid (infoC_arr A hAs)
  clear hAs hA1 hcase hbb CR cv
  go_wp2_with (first
    | (with_reducible refine wpList_store_all rfl 54 (.tmp 4) (.tmp 10) rfl wb.heap.size A rfl rfl 54 z (heap_alloc_new wb _) IA.out (HAS.out.trans ZS.out.symm) HA1.out ?_)
    | fail)
  intro wc hgc hoc hsc
  have hbc := ((Below.refl wb.heap.size wb).alloc (Nat.le_refl _) (.cells z 54)).trans (hoc.below (Nat.le_refl _) (by simp))
  have HBC := Lib.hid hbc
  have BC := Lib.hid (BB.out.trans (hbc.mono BB.out.size))
  have GC := Lib.hid (heap_keep GB.out hbc)
  have KC := Lib.hid hgc
  have LT := Lib.hid (show w.heap.size < wb.heap.size from lt_of_heap GB.out)
  clear hgc hoc hsc hbc
  rcases HCASE.out with ⟨hb, c, pa, cap, hq, hA, hown, hfit, h16, n1, n2, n3, n4⟩ | ⟨hb, hq⟩
  case inr =>
    subst hb
    have HE := Lib.hid (show PR = (rcdZ, 4) by rw [HPR.out, hq])
    clear hq HCASE
    obtain rfl := HE.out
    go_wp2_with (first
      | (refine wpList_build_none rfl 54 rfl _ ZB.out ?_)
      | (with_reducible refine wpList_store_all rfl 54 (.tmp 2) (.tmp 19) rfl w.heap.size z rfl rfl 54 z GC.out IZ.out rfl Z1.out ?_)
      | fail)
    intro wz hgz hoz hsz
    have BZ := Lib.hid (BC.out.trans (hoz.below (B := w.heap.size) (Nat.le_refl _) BC.out.size))
    have GZ := Lib.hid hgz
    clear hgz hoz hsz
    go_wp2
    exact bodyPost_ret (results_rec Tryz.results50 _ _ w.heap.size z (0, 0) _ rfl rfl GZ.out ZS.out) rfl ⟨_, rfl, by rw [Z0.out]; exact recRed_zero _, BZ.out⟩
  subst hb
  have S1 := Lib.hid (show (w.alloc (.cells z 54)).heap.size = w.heap.size + 1 by simp)
  rw [S1.out] at hown
  have HFIT := Lib.hid hfit
  have howc := ownD_below hown HBC.out
  have OWC := Lib.hid howc
  obtain ⟨hcap, hidc⟩ : c.parents.length ≤ cap ∧ IdsAt wc pa c.parents := by
    obtain ⟨pa2, cap2, hv, q1, q2, q3, q4⟩ := ownD_ids howc hfit.parents
    cases hv
    exact ⟨q1, q3⟩
  have CRT := Lib.hid (Right9_is c.tree pa c.parents.length cap c.parents c.author c.committer c.text wc (TB.out.keep BC.out).t6 hfit.tree hidc rfl (by omega) hcap hfit.parents (by omega) (by omega) (by omega) (by omega))
  rw [← hA] at CRT
  have HAE := Lib.hid hA
  clear hfit hcap hidc h16 n1 n2 n3 n4 hA hown howc
  cases hr : rightR c with
  | false =>
    have HE := Lib.hid (show PR = (rcdZ, 4) by rw [HPR.out, hq]; simp only; rw [hr]; rfl)
    rw [show rightR ⟨c.tree, c.parents, c.author, c.committer, c.text⟩ = false from hr] at CRT
    clear hq HCASE hr
    obtain rfl := HE.out
    go_wp2_with (first
      | (with_reducible refine wpList_load_all 54 (.tmp 4) rfl (by kernel_rfl) wb.heap.size A 54 (0, 0) rfl KC.out _ Tryz.underlying54 rfl IA.out ?_)
      | fail)
    refine CRT.out.mono ?_
    rintro e wd ⟨rfl, hbd⟩
    have BD := Lib.hid (BC.out.trans (hbd.mono BC.out.size))
    have GD := Lib.hid (heap_keep GC.out hbd)
    clear hbd CRT
    go_wp2_with (first
      | (refine wpList_build_none rfl 54 rfl _ ZB.out ?_)
      | (with_reducible refine wpList_store_all rfl 54 (.tmp 2) (.tmp 19) rfl w.heap.size z rfl rfl 54 z GD.out IZ.out rfl Z1.out ?_)
      | fail)
    intro wz hgz hoz hsz
    have BZ := Lib.hid (BD.out.trans (hoz.below (B := w.heap.size) (Nat.le_refl _) BD.out.size))
    have GZ := Lib.hid hgz
    clear hgz hoz hsz
    go_wp2
    exact bodyPost_ret (results_rec Tryz.results50 _ _ w.heap.size z (0, 0) _ rfl rfl GZ.out ZS.out) rfl ⟨_, rfl, by rw [Z0.out]; exact recRed_zero _, BZ.out⟩
  | true =>
    have HE := Lib.hid (show PR = (c, 0) by rw [HPR.out, hq]; simp only; rw [if_pos hr])
    rw [show rightR ⟨c.tree, c.parents, c.author, c.committer, c.text⟩ = true from hr] at CRT
    clear hq HCASE hr
    obtain rfl := HE.out
    go_wp2_with (first
      | (with_reducible refine wpList_load_all 54 (.tmp 4) rfl (by kernel_rfl) wb.heap.size A 54 (0, 0) rfl KC.out _ Tryz.underlying54 rfl IA.out ?_)
      | fail)
    refine CRT.out.mono ?_
    rintro e wd ⟨rfl, hbd⟩
    have BD := Lib.hid (BC.out.trans (hbd.mono BC.out.size))
    have GD := Lib.hid (heap_keep GC.out hbd)
    have KD := Lib.hid (heap_keep KC.out hbd)
    have OWD := Lib.hid (ownD_below OWC.out hbd)
    clear hbd CRT
    go_wp2_with (first
      | (with_reducible refine wpList_load_all 54 (.tmp 4) rfl (by kernel_rfl) wb.heap.size A 54 (0, 0) rfl KD.out _ Tryz.underlying54 rfl IA.out ?_)
      | (with_reducible refine wpList_store_all rfl 54 (.tmp 2) (.tmp 20) rfl w.heap.size A rfl rfl 54 z GD.out IA.out (HAS.out.trans ZS.out.symm) HA1.out ?_)
      | fail)
    intro wz hgz hoz hsz
    have BZ := Lib.hid (BD.out.trans (hoz.below (B := w.heap.size) (Nat.le_refl _) BD.out.size))
    have GZ := Lib.hid hgz
    have OWZ := Lib.hid (ownD_off OWD.out hoz (Nat.lt_succ_self _))
    clear hgz hoz hsz
    go_wp2
    refine bodyPost_ret (results_rec Tryz.results50 _ _ w.heap.size A (0, 0) _ rfl rfl GZ.out HAS.out) rfl ⟨_, rfl, ?_, BZ.out⟩
    rw [HAE.out]
    exact ownD_red OWZ.out HFIT.out
end Go.Proofs.YtpelehhmdcjikaaGreatDoor

/-
  The helper Own of the statements over ids: a copy with three ids of room behind it.
-/
namespace Go.Proofs.YtpelehhmdcjikaaGreatDoor
set_option maxRecDepth 20000
open Go.RowKit
set_option linter.unusedVariables false
set_option linter.unusedSimpArgs false
/-- What Own leaves: the copy, and its room, in a block of its own. -/
def OwnIds (w : World) (g : Nat) (l : List (List UInt8)) (f : List UInt8) : Prop :=
  w.ownsRow g 24 20 (.slice (some ⟨g, 0, none⟩) (l.length + 3) (l.length + 3)) (l.length + 3) ((l ++ List.replicate 3 f).flatMap cellsD)
theorem OwnIds.keep {w w' : World} {g : Nat} {l : List (List UInt8)} {f : List UInt8} (h : OwnIds w g l f) (hb : Below w.heap.size w w') : OwnIds w' g l f := own_keepD h hb
theorem OwnIds.lt {w : World} {g : Nat} {l : List (List UInt8)} {f : List UInt8} (h : OwnIds w g l f) : g < w.heap.size := own_ltD h
end Go.Proofs.YtpelehhmdcjikaaGreatDoor

/-
  The helpers Same, Plain, Kept of the statements over ids; few.
-/
namespace Go.Proofs.YtpelehhmdcjikaaGreatDoor
set_option maxRecDepth 20000
open Go.RowKit
set_option linter.unusedVariables false
set_option linter.unusedSimpArgs false
set_option maxHeartbeats 2000000 in
theorem eq_idD (i j : List UInt8) (hi : i.length = 20) (hj : j.length = 20) (w : World) :
    Calls Tryz.prog 40 #[.agg (arrD i), .agg (arrD j)] w fun e w' => e = .returned (.bool (eqD i j)) ∧ Below w.heap.size w w' := by
  have E := fun u => eql_arrD i j hi hj u
  have HA := Lib.hid (arrD_size i hi); have HB := Lib.hid (arrD_size j hj)
  generalize arrD i = A at *
  generalize arrD j = B at *
  generalize eqD i j = r at *
  have b1 := (Below.refl w.heap.size w).alloc (Nat.le_refl _) (.cells A 24)
  have b2 := b1.alloc b1.size (.cells B 24)
  have e1 : (w.alloc (.cells A 24)).heap.size = w.heap.size + 1 := by simp
  have h1 := (((Below.refl (w.alloc (.cells A 24)).heap.size (w.alloc (.cells A 24))).alloc (Nat.le_refl _) (.cells B 24)).block w.heap.size (by simp)).trans (heap_alloc_new w _)
  have h2 := heap_alloc_new (w.alloc (.cells A 24)) (.cells B 24)
  rw [e1] at h2
  have H1 := Lib.hid h1; have H2 := Lib.hid h2; have B2 := Lib.hid b2
  clear b1 b2 h1 h2 hi hj e1
  go_enter Tryz.func40, Tryz.ntmps40
  go_wp2_with (first
    | (with_reducible refine wpList_load_row rfl 24 (.tmp 2) rfl w.heap.size rfl 24 A (0, 0) _ H1.out Tryz.underlying24 rfl (infoD_arr A HA.out) ?_)
    | (with_reducible refine wpList_load_row rfl 24 (.tmp 3) rfl (w.heap.size + 1) rfl 24 B (0, 0) _ H2.out Tryz.underlying24 rfl (infoD_arr B HB.out) ?_))
  go_ret
  exact ⟨rfl, B2.out⟩
set_option maxHeartbeats 8000000 in
theorem SameIds_some (b1 o1 b2 o2 c1 c2 n : Nat) (l : List (List UInt8)) (w : World) (hn : n = l.length) (hm : n ≤ 1000000) (h1 : b1 < w.heap.size) (h2 : b2 < w.heap.size)
    (hc1 : ∀ k (h : k < l.length) j v, (cellsD l[k])[j]? = some v → w.cell? ⟨b1, o1 + k * 20 + j, none⟩ = some v) (hc2 : ∀ k (h : k < l.length) j v, (cellsD l[k])[j]? = some v → w.cell? ⟨b2, o2 + k * 20 + j, none⟩ = some v) (hid : ∀ i ∈ l, i.length = 20) :
    Calls Tryz.prog 39 #[.slice (some ⟨b1, o1, none⟩) n c1, .slice (some ⟨b2, o2, none⟩) n c2, .func (.func 40) #[] #[]] w fun e w' => e = .returned (.bool true) ∧ Below w.heap.size w w' := by
  have HC1 := Lib.hid hc1; have HC2 := Lib.hid hc2; have HID := Lib.hid hid; have HN := Lib.hid hn
  clear hc1 hc2 hid hn
  go_enter Tryz.func39, Tryz.ntmps39
  go_wp2_with fail
  go_loopw [7] (fun i wr => ∃ k : Nat, k ≤ n ∧ i = .int .i64 k ∧ Below w.heap.size w wr) (fun i _ => n - (intOf i).toNat)
  case atStart => exact ⟨0, Nat.zero_le _, rfl, Below.refl _ _⟩
  case round =>
    obtain ⟨k, hk, rfl, hbr⟩ := hrel
    have HBR := Lib.hid hbr
    clear hbr
    by_cases hlt : k < n
    · have hkl : k < l.length := by rw [← HN.out]; exact hlt
      obtain ⟨x, hx2⟩ : ∃ x, l[k] = x := ⟨_, rfl⟩
      have hidx := HID.out x (by rw [← hx2]; exact List.getElem_mem _)
      have r1 : ∀ u, Below wr.heap.size wr u → u.rangeAt b1 (o1 + k * 20) (cellsD x) := fun u hu j v hv =>
        (hu.cell (p := ⟨b1, o1 + k * 20 + j, none⟩) (Nat.lt_of_lt_of_le h1 HBR.out.size)).trans ((HBR.out.cell (p := ⟨b1, o1 + k * 20 + j, none⟩) h1).trans (HC1.out k hkl j v (by rw [hx2]; exact hv)))
      have r2 : ∀ u, Below wr.heap.size wr u → u.rangeAt b2 (o2 + k * 20) (cellsD x) := fun u hu j v hv =>
        (hu.cell (p := ⟨b2, o2 + k * 20 + j, none⟩) (Nat.lt_of_lt_of_le h2 HBR.out.size)).trans ((HBR.out.cell (p := ⟨b2, o2 + k * 20 + j, none⟩) h2).trans (HC2.out k hkl j v (by rw [hx2]; exact hv)))
      have ce : ∀ u, Below wr.heap.size wr u → Calls Tryz.prog 40 #[.agg (cellsD x).toArray, .agg (cellsD x).toArray] u fun e u' => e = .returned (.bool true) ∧ Below wr.heap.size wr u' := fun u hu =>
        (eq_idD x x hidx hidx u).mono fun e u' h => ⟨by rw [h.1, eqD_same], hu.trans (h.2.mono hu.size)⟩
      have ll : (Tryz.prog.info? 24).map (·.size) = some (cellsD x).length := by rw [cellsD_len x hidx]; exact infoD_n
      have R1 := Lib.hid r1; have R2 := Lib.hid r2; have CE := Lib.hid ce; have LX := Lib.hid ll
      clear r1 r2 ce ll hx2 hidx
      generalize cellsD x = cx at *
      go_wp2_with fail
      refine wp_region_held_drew (S := fun u => Below wr.heap.size wr u) (by kernel_rfl) (Below.refl _ _).drew (fun hHeld => ?_)
      refine wpAnyH_take (i := 0) (v := ?hv0) rfl (by kernel_rfl) (by kernel_rfl) (by kernel_rfl) (fun _ _ _ h => h) (Or.inl ⟨by kernel_rfl, ?hy0⟩) hHeld ?_
      case hy0 => intro u hu; go_simp; try with_reducible rfl
      try simp only [Act.put, List.setIfInBounds_toArray, List.set_cons_zero, List.set_cons_succ]
      refine wpAnyH_take (i := 1) (v := ?hv1) rfl (by kernel_rfl) (by kernel_rfl) (by kernel_rfl) (fun _ _ _ h => h) (Or.inl ⟨by kernel_rfl, ?hy1⟩) hHeld ?_
      case hy1 => intro u hu; go_simp; try with_reducible rfl
      try simp only [Act.put, List.setIfInBounds_toArray, List.set_cons_zero, List.set_cons_succ]
      refine wpAnyH_take (i := 2) (v := ?hv2) rfl (by kernel_rfl) (by kernel_rfl) (by kernel_rfl) (fun _ _ _ h => h) (Or.inl ⟨by kernel_rfl, ?hy2⟩) hHeld ?_
      case hy2 => intro u hu; go_simp; try with_reducible rfl
      try simp only [Act.put, List.setIfInBounds_toArray, List.set_cons_zero, List.set_cons_succ]
      refine wpAnyH_take (i := 3) (v := ?hv3) rfl (by kernel_rfl) (by kernel_rfl) (by kernel_rfl) (fun _ _ _ h => h) (Or.inl ⟨by kernel_rfl, ?hy3⟩) hHeld ?_
      case hy3 => intro u hu; go_simp; try with_reducible rfl
      try simp only [Act.put, List.setIfInBounds_toArray, List.set_cons_zero, List.set_cons_succ]
      refine wpAnyH_take (i := 4) rfl (by kernel_rfl) (by kernel_rfl) (by kernel_rfl) (fun _ _ _ h => h) (yieldsIf_load_mid (by kernel_rfl) 24 (.tmp 22) (by kernel_rfl) b1 (o1 + k * 20) (by kernel_rfl) cx _ (fun u hu => R1.out u hu) Tryz.underlying24 rfl LX.out) hHeld ?_
      try simp only [Act.put, List.setIfInBounds_toArray, List.set_cons_zero, List.set_cons_succ]
      refine wpAnyH_take (i := 5) (v := ?hv5) rfl (by kernel_rfl) (by kernel_rfl) (by kernel_rfl) (fun _ _ _ h => h) (Or.inl ⟨by kernel_rfl, ?hy5⟩) hHeld ?_
      case hy5 => intro u hu; go_simp; try with_reducible rfl
      try simp only [Act.put, List.setIfInBounds_toArray, List.set_cons_zero, List.set_cons_succ]
      refine wpAnyH_take (i := 6) (v := ?hv6) rfl (by kernel_rfl) (by kernel_rfl) (by kernel_rfl) (fun _ _ _ h => h) (Or.inl ⟨by kernel_rfl, ?hy6⟩) hHeld ?_
      case hy6 => intro u hu; go_simp; try with_reducible rfl
      try simp only [Act.put, List.setIfInBounds_toArray, List.set_cons_zero, List.set_cons_succ]
      refine wpAnyH_take (i := 7) (v := ?hv7) rfl (by kernel_rfl) (by kernel_rfl) (by kernel_rfl) (fun _ _ _ h => h) (Or.inl ⟨by kernel_rfl, ?hy7⟩) hHeld ?_
      case hy7 => intro u hu; go_simp; try with_reducible rfl
      try simp only [Act.put, List.setIfInBounds_toArray, List.set_cons_zero, List.set_cons_succ]
      refine wpAnyH_take (i := 8) rfl (by kernel_rfl) (by kernel_rfl) (by kernel_rfl) (fun _ _ _ h => h) (yieldsIf_load_mid (by kernel_rfl) 24 (.tmp 26) (by kernel_rfl) b2 (o2 + k * 20) (by kernel_rfl) cx _ (fun u hu => R2.out u hu) Tryz.underlying24 rfl LX.out) hHeld ?_
      try simp only [Act.put, List.setIfInBounds_toArray, List.set_cons_zero, List.set_cons_succ]
      refine wpAnyH_ready (rs := [9]) (by kernel_rfl) (by simp) ?_
      refine AllReadyH.cons rfl (fun K hK => ?_) AllReadyH.nil
      go_simp
      refine (CE.out _ hHeld).mono ?_
      rintro e u1 ⟨rfl, hH⟩
      clear hHeld
      refine hK.out _ _ hH (fun hHeld => ?_)
      clear hK K
      try simp only [Act.put, List.setIfInBounds_toArray, List.set_cons_zero, List.set_cons_succ]
      refine wpAnyH_take (i := 10) (v := ?hv10) rfl (by kernel_rfl) (by kernel_rfl) (by kernel_rfl) (fun _ _ _ h => h) (Or.inl ⟨by kernel_rfl, ?hy10⟩) hHeld ?_
      case hy10 => intro u hu; go_simp; try with_reducible rfl
      try simp only [Act.put, List.setIfInBounds_toArray, List.set_cons_zero, List.set_cons_succ]
      refine wpAnyH_done (by kernel_rfl) ?_ _
      have HB2 := Lib.hid (HBR.out.trans (hHeld.mono HBR.out.size))
      clear hHeld
      go_wp2
      go_roundw
      case rel => exact ⟨k + 1, by omega, by go_num, HB2.out⟩
      case measure => simp [intOf]; omega
    · obtain rfl : k = n := by omega
      go_wp2
      go_ret
      exact ⟨rfl, HBR.out⟩
end Go.Proofs.YtpelehhmdcjikaaGreatDoor

/-
  The helpers Plain, Kept of the statements over ids; few.
-/
namespace Go.Proofs.YtpelehhmdcjikaaGreatDoor
set_option maxRecDepth 20000
open Go.RowKit
set_option linter.unusedVariables false
set_option linter.unusedSimpArgs false
set_option maxHeartbeats 400000 in
theorem SameIds_none (a1 a2 : Option Addr) (c1 c2 : Nat) (w : World) :
    Calls Tryz.prog 39 #[.slice a1 0 c1, .slice a2 0 c2, .func (.func 40) #[] #[]] w fun e w' => e = .returned (.bool true) ∧ Below w.heap.size w w' := by
  go_enter Tryz.func39, Tryz.ntmps39
  go_wp2_with fail
  refine wp_loop_rounds 1 ?_
  rw [rounds_succ]
  go_wp2
  go_ret
  exact ⟨rfl, Below.refl _ _⟩
theorem SameIds_any (a1 a2 : Option Addr) (n c1 c2 : Nat) (l : List (List UInt8)) (w : World) (h1 : IdsAt w a1 l) (h2 : IdsAt w a2 l) (hn : n = l.length) (hm : n ≤ 1000000) (hid : ∀ i ∈ l, i.length = 20) :
    Calls Tryz.prog 39 #[.slice a1 n c1, .slice a2 n c2, .func (.func 40) #[] #[]] w fun e w' => e = .returned (.bool true) ∧ Below w.heap.size w w' := by
  by_cases hp : 0 < l.length
  · obtain ⟨b1, o1, rfl, hb1, hc1⟩ := h1 hp
    obtain ⟨b2, o2, rfl, hb2, hc2⟩ := h2 hp
    exact SameIds_some b1 o1 b2 o2 c1 c2 n l w hn hm hb1 hb2 hc1 hc2 hid
  · obtain rfl : n = 0 := by omega
    exact SameIds_none a1 a2 c1 c2 w
set_option maxHeartbeats 400000 in
theorem PlainIds_any (a1 a2 : Option Addr) (n c1 c2 : Nat) (l : List (List UInt8)) (w : World) (h1 : IdsAt w a1 l) (h2 : IdsAt w a2 l) (hn : n = l.length) (hm : n ≤ 1000000) (hid : ∀ i ∈ l, i.length = 20) :
    Calls Tryz.prog 15 #[.slice a1 n c1, .slice a2 n c2] w fun e w' => e = .returned (.bool true) ∧ Below w.heap.size w w' := by
  have C := Lib.hid (SameIds_any a1 a2 n c1 c2 l w h1 h2 hn hm hid)
  clear h1 h2 hn hm hid
  go_enter Tryz.func15, Tryz.ntmps15
  go_wp2_with fail
  refine C.out.mono ?_
  rintro e w1 ⟨rfl, hb⟩
  go_wp2
  go_ret
  exact ⟨rfl, hb⟩
end Go.Proofs.YtpelehhmdcjikaaGreatDoor

/-
  Layer 10: a commit's parents lie in no block that holds the zero record.
-/
namespace Go.Proofs.YtpelehhmdcjikaaGreatDoor
set_option maxRecDepth 20000
open Go.RowKit
set_option linter.unusedVariables false
set_option linter.unusedSimpArgs false
def isU8 : Option Value → Bool
  | some (.int .u8 _) => true
  | _ => false
theorem recZ_odd : ∀ o : Fin 30, o.1 ≠ 0 → ∃ j : Fin 20, isU8 recZ[o.1 + j.1]? = false := by decide +kernel
def isZ : Option Value → Bool
  | some (.int .u8 z) => z == 0
  | _ => false
theorem recZ_zero : ∀ j : Fin 20, isZ recZ[j.1]? = true := by decide +kernel
theorem cellsD_u8 (i : List UInt8) (h : i.length = 20) (j : Nat) (hj : j < 20) : (cellsD i)[j]? = some (.int .u8 (i.getD j 0).toNat) := by
  unfold cellsD Lib.byteCells
  rw [List.getElem?_map, List.getElem?_eq_getElem (by omega)]
  simp [List.getD, h, hj]
/-- An id whose cells lie in the zero record is the zero id. -/
theorem id_in_recZ {w : World} {g o : Nat} {i : List UInt8} (h : i.length = 20) (hg : w.heap[g]? = some (.cells recZ 54 (0, 0))) (hc : ∀ j v, (cellsD i)[j]? = some v → w.cell? ⟨g, o + j, none⟩ = some v) : i = idZ := by
  have at_ : ∀ j, j < 20 → recZ[o + j]? = some (.int .u8 (i.getD j 0).toNat) := fun j hj => by
    have := hc j _ (cellsD_u8 i h j hj)
    rwa [Lib.cell_of_heap hg] at this
  have ho : o = 0 := by
    by_cases h30 : o < 30
    · by_cases h0 : o = 0
      · exact h0
      · obtain ⟨j, hj⟩ := recZ_odd ⟨o, h30⟩ h0
        have := at_ j.1 j.2
        simp only at hj
        rw [this] at hj
        cases hj
    · have := at_ 0 (by omega)
      rw [Array.getElem?_eq_none (by rw [recZ_size]; omega)] at this
      cases this
  subst ho
  apply List.ext_getElem
  · rw [h]; rfl
  · intro j h1 h2
    have a1 := at_ j (by omega)
    have a2 := recZ_zero ⟨j, by omega⟩
    simp only [Nat.zero_add] at a1 a2
    rw [a1] at a2
    have a3 : (i.getD j 0).toNat = 0 := by simpa [isZ] using a2
    have a4 : i.getD j 0 = i[j] := by rw [List.getD_eq_getElem?_getD, List.getElem?_eq_getElem h1]; rfl
    rw [a4] at a3
    have a5 : i[j] = 0 := UInt8.toNat_inj.1 a3
    rw [a5]
    exact (List.getElem_replicate (a := (0 : UInt8)) (n := 20) (by simpa [idZ] using h2)).symm
theorem parsed_parents (bs : List UInt8) : ∀ i ∈ (parsedR bs).1.parents, i ≠ idZ := by
  unfold parsedR
  cases e : parseK bs with
  | none => intro i hi; cases hi
  | some c =>
    intro i hi
    have hr : rightR c = true := (parse_onlyC wr9 e).2.1
    obtain ⟨-, -, h3, -⟩ := (rightR_iff c).1 hr
    obtain ⟨j, hj, rfl⟩ := List.getElem_of_mem hi
    exact ((parentsR_iff _).1 h3 j hj).1
/-- A record whose parents are none of them zero stays when a block that held the zero record turns. -/
theorem RecRed.off {w u : World} {A : Array Value} {c : Rcd} {g : Nat} (h : RecRed w A c) (hp : ∀ i ∈ c.parents, i ≠ idZ) (hg : w.heap[g]? = some (.cells recZ 54 (0, 0))) (ho : Off g w u) : RecRed u A c := by
  obtain ⟨h1, pa, cap, h2, h3, h4, h5, h6⟩ := h
  refine ⟨h1, pa, cap, h2, h3, h4, fun hl => ?_, h6⟩
  obtain ⟨b, o, e, hb, hc⟩ := h5 hl
  have hne : b ≠ g := fun e2 => by
    subst e2
    exact hp _ (List.getElem_mem hl) (id_in_recZ (o := o) (h1.parents _ (List.getElem_mem hl)) hg (fun j v hv => by
      have := hc 0 hl j v hv
      rwa [Nat.zero_mul, Nat.add_zero] at this))
  refine ⟨b, o, e, Nat.lt_of_lt_of_le hb ho.size, fun k hk j v hv => ?_⟩
  exact ho.cell (hc k hk j v hv) hne
end Go.Proofs.YtpelehhmdcjikaaGreatDoor
