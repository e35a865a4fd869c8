/-
  Texts that belong together, one behind the other.
-/
import Derived.Test.YtnbcbiglkmdepaaGreatDoorFu15
import Derived.Stop.BytesEq
import Derived.Test.YtnbcbiglkmdepaaGreatDoorFu14
import Derived.Test.YtnbcbiglkmdepaaGreatDoorFu13
import Derived.Test.YtnbcbiglkmdepaaGreatDoorFu02
import Derived.Test.YtnbcbiglkmdepaaGreatDoorFu07
import Derived.Test.YtnbcbiglkmdepaaGreatDoorFu01
import Derived.Test.YtnbcbiglkmdepaaGreatDoorFu10
import Derived.Test.YtnbcbiglkmdepaaGreatDoorFu06
import Derived.OwnWalk
import Derived.Deep.RegionHeld3
import Derived.Test.YtnbcbiglkmdepaaGreatDoorFu03
import Derived.Laws.OwnMore
import Derived.Laws.CopyOwn
import Derived.IntWalk
import Derived.WalkSmall
import Derived.Deep.MidRow
import Derived.Deep.QuietTactic
import Derived.BigQuiet
set_option maxHeartbeats 64000000
set_option linter.unusedVariables false
set_option linter.unusedSimpArgs false
open Go.Lib renaming hid → hyd
open List renaming getElem_toArray → lgA, getElem_cons_succ → lgS, getElem_cons_zero → lgZ
namespace Go.Proofs.YtnbcbiglkmdepaaGreatDoor
set_option maxRecDepth 20000
open Go.RowKit
def idR (l : List UInt8) : List UInt8 × Int := match unhexL l with
 | none => (List.replicate 20 0, 4)
 | some t => if t.length = 20 then (t, 0) else (List.replicate 20 0, 4)
theorem idR_bad (l : List UInt8) (h : l.length ≠ 40) : idR l = (List.replicate 20 0, 4) := by
 unfold idR
 cases hu : unhexL l with
 | none => rfl
 | some t => have := (unhex_spec _ _ _ (Nat.le_refl _) hu).1; simp only; rw [if_neg (by omega)]
theorem Id_all (l : List UInt8) (hl : l.length ≤ 1000000) (w : World) :
  Calls Tryz.prog 137 #[.string ⟨l.toArray⟩] w fun e w' => e = .returned (.tuple #[idv (idR l).1, .int .i64 (idR l).2]) ∧ Below w.heap.size w w' := by
 by_cases h40 : l.length = 40
 ·unfold idR
  cases h : unhexL l with
  | none => exact Id_bad ⟨l.toArray⟩ w (by rw [size_toArray]; exact h40) h
  | some t =>
   have := (unhex_spec _ _ _ (Nat.le_refl _) h).1; simp only; rw [if_pos (by omega)]; exact Id_good ⟨l.toArray⟩ t w (by rw [size_toArray]; exact h40) h
 ·rw [idR_bad l h40]
  exact Id_len ⟨l.toArray⟩ w (by rw [size_toArray]; omega) (by rw [size_toArray]; exact h40)
theorem rId_all (l : List UInt8) (hl : l.length ≤ 1000000) (w : World) :
  Calls Tryz.prog 89 #[.string ⟨l.toArray⟩] w fun e w' => e = .returned (.tuple #[idv (idR l).1, .int .i64 (idR l).2]) ∧ Below w.heap.size w w' := by
 unfold idR
 cases h : unhexL l with
 | none => exact rId_none ⟨l.toArray⟩ w (by rw [size_toArray]; omega) h
 | some t =>
  simp only
  by_cases ht : t.length = 20
  ·rw [if_pos ht]; exact rId_good ⟨l.toArray⟩ t w (by rw [size_toArray]; omega) h ht
  ·rw [if_neg ht]; exact rId_len ⟨l.toArray⟩ t w (by rw [size_toArray]; omega) h ht
theorem dg_hexDig' : ∀ n : Fin 16, dg (hexDig n.1) = (n.1 : Int) := by decide
theorem dg_hexDig (n : Nat) (h : n < 16) : dg (hexDig n) = n := dg_hexDig' ⟨n, h⟩
theorem hexDig_dg' : ∀ n : Fin 256, 0 ≤ dg (UInt8.ofNat n.1) → hexDig (dg (UInt8.ofNat n.1)).toNat = UInt8.ofNat n.1 := by decide +kernel
theorem hexDig_dg (c : UInt8) (h : 0 ≤ dg c) : hexDig (dg c).toNat = c := by
 have := hexDig_dg' ⟨c.toNat, c.toNat_lt⟩; simp only [UInt8.ofNat_toNat] at this; exact this h
theorem unhex_hex : ∀ l : List UInt8, unhexL (hexL l) = some l
 | [] => rfl
 | c :: r => by
  have hc := c.toNat_lt; simp only [hexL, unhexL]; rw [dg_hexDig _ (by omega), dg_hexDig _ (by omega), if_pos ⟨by omega, by omega⟩, unhex_hex r]; simp only [Option.map_some, Option.some.injEq, List.cons.injEq, and_true]
  apply UInt8.toNat.inj
  rw [UInt8.toNat_ofNat']
  omega
theorem hex_unhex : ∀ (n : Nat) (l t : List UInt8), l.length ≤ n → unhexL l = some t → hexL t = l := by
 intro n
 induction n using Nat.strongRecOn with
 | ind n ih =>
  intro l t hl h
  match l, hl, h with
  | [], _, h => simp [unhexL] at h; subst h; rfl
  | [_], _, h => simp [unhexL] at h
  | a :: b :: r, hl, h =>
   simp only [unhexL] at h
   split at h
   ·rename_i hab
    cases hr : unhexL r with
    | none => simp [hr] at h
    | some t' =>
     simp [hr] at h
     subst h; have e := ih r.length (by simp at hl; omega) r t' (Nat.le_refl _) hr; have ha := dg_lt a; have hb := dg_lt b
     have e2 : (UInt8.ofNat (16 * dg a + dg b).toNat).toNat = (16 * dg a + dg b).toNat := by rw [UInt8.toNat_ofNat']; omega
     simp only [hexL]; rw [e2, show (16 * dg a + dg b).toNat / 16 = (dg a).toNat by omega, show (16 * dg a + dg b).toNat % 16 = (dg b).toNat by omega, hexDig_dg a hab.1, hexDig_dg b hab.2, e]
   ·cases h
def unD (s : List UInt8) : Option (List UInt8) := match unhexL s with
 | none => none
 | some t => if t.length = 20 then some t else none
theorem idR_some {s t : List UInt8} (h : unD s = some t) : idR s = (t, 0) := by
 unfold unD at h; unfold idR
 cases e : unhexL s with
 | none => rw [e] at h; cases h
 | some u =>
  rw [e] at h; simp only at h ⊢
  by_cases hu : u.length = 20
  ·rw [if_pos hu] at h ⊢; cases h; rfl
  ·rw [if_neg hu] at h; cases h
theorem idR_none {s : List UInt8} (h : unD s = none) : idR s = (List.replicate 20 0, 4) := by
 unfold unD at h; unfold idR
 cases e : unhexL s with
 | none => rfl
 | some u =>
  rw [e] at h; simp only at h ⊢
  by_cases hu : u.length = 20
  ·rw [if_pos hu] at h; cases h
  ·rw [if_neg hu]
theorem dig_eol : ∀ n : Fin 16, hexDig n.1 ≠ 10 := by decide
theorem hex_eol : ∀ l : List UInt8, noEol (hexL l)
 | [] => fun d hd => by cases hd
 | c :: r => fun d hd => by
  unfold hexL at hd
  rcases List.mem_cons.1 hd with rfl | hd
  ·exact dig_eol ⟨c.toNat / 16, by have := c.toNat_lt; omega⟩
  ·rcases List.mem_cons.1 hd with rfl | hd
   ·exact dig_eol ⟨c.toNat % 16, by omega⟩
   ·exact hex_eol r d hd
theorem word_eol {l : List UInt8} (h : wordL l = true) : noEol l := fun d hd e => by
 have := ((word_iff l).1 h).1 d hd; rw [e] at this; exact absurd this (by decide)
theorem itoa_eol (v : Int) (h0 : 0 ≤ v) : noEol (Lib.itoa v) := by
 intro c hc e; unfold Lib.itoa at hc; rw [if_neg (by omega)] at hc; have := (decDigits_spec v.toNat).1 c hc; rw [e] at this; exact absurd this (by decide)
theorem two_eol (n : Nat) (h : n < 100) : noEol (twoD n) := by
 intro d hd e; unfold twoD at hd; have h1 := dig_of (n / 10) (by omega); have h2 := dig_of (n % 10) (by omega); have e' := congrArg UInt8.toNat e
 rcases List.mem_cons.1 hd with rfl | hd
 ·rw [h1] at e'; have h10 : (10 : UInt8).toNat = 10 := rfl; omega
 ·rcases List.mem_cons.1 hd with rfl | hd
  ·rw [h2] at e'; have h10 : (10 : UInt8).toNat = 10 := rfl; omega
  ·cases hd
theorem zone_eol (z : Int) (h0 : -840 ≤ z) (h1 : z ≤ 840) : noEol (zoneT z) := by
 intro d hd; unfold zoneT at hd
 rcases List.mem_cons.1 hd with rfl | hd
 ·split <;> decide
 ·rcases List.mem_append.1 hd with hd | hd
  ·exact two_eol _ (by omega) d hd
  ·exact two_eol _ (by omega) d hd
theorem ident_eol (i : Idt) (h : rightI i = true) : noEol (printI Lib.itoa i) := by
 obtain ⟨h1, h2, h3, h4, h5, h6⟩ := (right_iff i).1 h; unfold printI; rw [if_pos h]; intro d hd; unfold textT aheadT at hd; have w1 := word_eol h1; have w2 := word_eol h2; have w3 := itoa_eol i.whn h3; have w4 := zone_eol i.zone h5 h6; simp only [List.mem_append, List.mem_cons] at hd
 rcases hd with hd | rfl | hd | rfl | rfl | hd | rfl | hd
 ·split at hd
  ·cases hd
  ·rcases List.mem_append.1 hd with hd | hd
   ·exact w1 d hd
   ·rcases List.mem_cons.1 hd with rfl | hd
    ·decide
    ·cases hd
 ·decide
 ·exact w2 d hd
 ·decide
 ·decide
 ·exact w3 d hd
 ·decide
 ·exact w4 d hd
theorem wr9 : Wr hexL unD (printI Lib.itoa) (parseR Lib.itoa takeN) where
 hb := fun l hl => by unfold unD; rw [unhex_hex l]; simp only; rw [if_pos hl]
 ho := fun s l h => by
  unfold unD at h
  cases e : unhexL s with
  | none => rw [e] at h; cases h
  | some u =>
   rw [e] at h; simp only at h
   by_cases hu : u.length = 20
   ·rw [if_pos hu] at h; cases h
    exact ⟨hu, hex_unhex _ s _ (Nat.le_refl _) e⟩
   ·rw [if_neg hu] at h; cases h
 hc := hex_eol
 ib := fun i h => parse_print num_itoa h
 io := fun s i h => parse_only h
 ic := ident_eol
def parseK (s : List UInt8) : Option Rcd := parseC unD (parseR Lib.itoa takeN) s
abbrev RdAt (w : World) (g : Nat) (s : List UInt8) : Prop := w.heap[g]? = some (.cells #[.string ⟨s.toArray⟩] 174 (0, 0))
theorem rd_set {w : World} {g : Nat} {s : List UInt8} (h : RdAt w g s) (r : List UInt8) : RdAt (w.setCell ⟨g, 0, none⟩ (.string ⟨r.toArray⟩)) g r := by
 have := heap_set h 0 (.string ⟨r.toArray⟩)
 simpa using this
theorem off_set (w : World) (g k : Nat) (v : Value) : Off g w (w.setCell ⟨g, k, none⟩ v) :=
 ⟨rfl, rfl, rfl, by simp [World.setCell], fun i _ hn => Below.heap_setCell _ _ _ _ hn⟩
def lineG (s w : List UInt8) : List UInt8 × List UInt8 × Bool := match lineL s w with
 | some (x, r) => (x, r, true)
 | none => ([], s, false)
theorem trim_has (s p : List UInt8) (h : p <+: s) : Lib.hasPrefix s p = true ∧ Lib.trimPrefix s p = s.drop p.length := by
 have h1 : Lib.hasPrefix s p = true := List.isPrefixOf_iff_prefix.2 h; exact ⟨h1, by unfold Lib.trimPrefix; rw [h1, if_pos rfl]⟩
theorem trim_not (s p : List UInt8) (h : ¬ p <+: s) : Lib.hasPrefix s p = false ∧ Lib.trimPrefix s p = s := by
 have h1 : Lib.hasPrefix s p = false := by
  cases e : Lib.hasPrefix s p with
  | false => rfl
  | true => exact absurd (List.isPrefixOf_iff_prefix.1 e) h
 exact ⟨h1, by unfold Lib.trimPrefix; rw [h1]; rfl⟩
theorem rdline_is (g : Nat) (s v : List UInt8) (w : World) (tab : T7 w) (hg : RdAt w g s) (hs : s.length ≤ 1000000) (hv : v.length ≤ 100) (hn : noEol (v ++ [32])) :
  Calls Tryz.prog 136 #[.pointer (some ⟨g, 0, none⟩), .string ⟨v.toArray⟩] w fun e w' => e = .returned (.tuple #[.string ⟨(lineG s (v ++ [32])).1.toArray⟩, .bool (lineG s (v ++ [32])).2.2]) ∧ RdAt w' g (lineG s (v ++ [32])).2.1 ∧ Off g w w' := by
 have HG := hyd hg
 have q0 : w.cell? ⟨g, 0, none⟩ = some (.string ⟨s.toArray⟩) := by rw [Lib.cell_of_heap hg]; rfl
 have z0 := not_frozen hg 0
 have ad0 := fun u => add_lists (P := Tryz.prog) u v [32] (by simp only [List.length_append, List.length_cons, List.length_nil]; omega)
 have c1 := fun u => Tryz.strings_CutPrefix ⟨s.toArray⟩ ⟨(v ++ [32]).toArray⟩ u
 have hc := line_cut s (v ++ [32]) hn; have et : (⟨s.toArray⟩ : ByteArray).data.toList = s := rfl; have ev : (⟨(v ++ [32]).toArray⟩ : ByteArray).data.toList = v ++ [32] := rfl; rw [et, ev] at c1
 by_cases hp : (v ++ [32]) <+: s
 ·obtain ⟨e1, e2⟩ := trim_has s (v ++ [32]) hp
  rw [e1, e2] at c1; rw [if_pos hp] at hc
  have hdl : (s.drop (v ++ [32]).length).length ≤ 1000000 := by rw [List.length_drop]; omega
  obtain ⟨d, hd⟩ : ∃ d, s.drop (v ++ [32]).length = d := ⟨_, rfl⟩; rw [hd] at c1 hc hdl; have c2 := Cut_is d [10] hdl w tab; rw [cut_eol] at c2
  by_cases h2 : eolL d < d.length
  ·rw [if_pos h2] at hc c2
   have er : lineG s (v ++ [32]) = (d.take (eolL d), d.drop (eolL d + 1), true) := by unfold lineG; rw [hc]
   rw [er]; simp only at c2 ⊢; have RS := hyd (fun (u : World) (hu : RdAt u g s) => rd_set hu (d.drop (eolL d + 1))); clear hc er hd hdl h2 et ev e1 e2 hp hs hv hn tab
   generalize d.take (eolL d) = y1 at *
   generalize d.drop (eolL d + 1) = y2 at *
   obtain ⟨S2, hS2⟩ : ∃ S2 : ByteArray, ⟨y2.toArray⟩ = S2 := ⟨_, rfl⟩; rw [hS2] at c2 RS
   generalize (⟨(v ++ [32]).toArray⟩ : ByteArray) = sv2 at *
   generalize (⟨v.toArray⟩ : ByteArray) = sv at *
   generalize (⟨d.toArray⟩ : ByteArray) = sd at *
   generalize (⟨y1.toArray⟩ : ByteArray) = sy1 at *
   have HS2 := hyd hS2; clear hS2 hg
   go_enter Tryz.func136, Tryz.ntmps136
   go_wp2_with fail
   refine (c1 _).mono ?_; rintro e w1 ⟨rfl, hE⟩; subst hE
   go_wp2_with fail
   refine c2.mono ?_; rintro e w2 ⟨rfl, hb2⟩; have HG2 := heap_keep HG.out hb2
   have q2 : w2.cell? ⟨g, 0, none⟩ = some (.string ⟨s.toArray⟩) := by rw [Lib.cell_of_heap HG2]; rfl
   have z2 := not_frozen HG2 0; have HB2 := hyd hb2; have HR2 := hyd (RS.out _ HG2); clear hb2 HG2 q0 z0; go_wp2
   go_ret2
   exact ⟨rfl, HR2.out, (off_of HB2.out).trans (off_set _ _ _ _)⟩
  ·rw [if_neg h2] at hc c2
   have er : lineG s (v ++ [32]) = ([], s, false) := by unfold lineG; rw [hc]
   rw [er]; simp only at c2 ⊢; clear hc er hd hdl h2 et ev e1 e2 hp hs hv hn tab
   generalize (⟨(v ++ [32]).toArray⟩ : ByteArray) = sv2 at *
   generalize (⟨v.toArray⟩ : ByteArray) = sv at *
   generalize (⟨d.toArray⟩ : ByteArray) = sd at *
   clear hg
   go_enter Tryz.func136, Tryz.ntmps136
   go_wp2_with fail
   refine (c1 _).mono ?_; rintro e w1 ⟨rfl, hE⟩; subst hE
   go_wp2_with fail
   refine c2.mono ?_; rintro e w2 ⟨rfl, hb2⟩; have HG2 := hyd (heap_keep HG.out hb2); have HB2 := hyd hb2; clear hb2 q0 z0; go_wp2
   go_ret2
   exact ⟨rfl, HG2.out, off_of HB2.out⟩
 ·obtain ⟨e1, e2⟩ := trim_not s (v ++ [32]) hp
  rw [e1, e2] at c1; rw [if_neg hp] at hc
  have er : lineG s (v ++ [32]) = ([], s, false) := by unfold lineG; rw [hc]
  rw [er]; simp only; clear hc er et ev e1 e2 hp hs hv hn tab
  generalize (⟨(v ++ [32]).toArray⟩ : ByteArray) = sv2 at *
  generalize (⟨v.toArray⟩ : ByteArray) = sv at *
  clear hg
  go_enter Tryz.func136, Tryz.ntmps136
  go_wp2_with fail
  refine (c1 _).mono ?_; rintro e w1 ⟨rfl, hE⟩; subst hE; go_wp2
  go_ret2
  exact ⟨rfl, HG.out, Off.refl _ _⟩
theorem Off.cat {g : Nat} {a b c : World} (h : Off g a b) (k : Below a.heap.size b c) : Off g a c :=
 ⟨k.os.trans h.os, k.tape.trans h.tape, k.output.trans h.output, Nat.le_trans h.size k.size, fun i hi hn => (k.block i hi).trans (h.block i hi hn)⟩
theorem rd_keep {w u : World} {g : Nat} {s : List UInt8} (h : RdAt w g s) (hb : Below w.heap.size w u) : RdAt u g s := heap_keep h hb
def idP (s w : List UInt8) : List UInt8 × Bool × List UInt8 := match lineL s w with
 | none => (idZ, false, s)
 | some (x, r) => match unD x with
  | none => (idZ, false, r)
  | some t => (t, true, r)
def identP (s w : List UInt8) : Idt × Bool × List UInt8 := match lineL s w with
 | none => (zT, false, s)
 | some (x, r) => match parseP Lib.itoa takeN x with
  | none => (zT, false, r)
  | some i => (i, true, r)
theorem Off.off2 {g G : Nat} {a b c : World} (h : Off g a b) (k : Off G b c) (hG : a.heap.size ≤ G := by exact Nat.le_refl _) : Off g a c :=
 ⟨k.os.trans h.os, k.tape.trans h.tape, k.output.trans h.output, Nat.le_trans h.size k.size, fun i hi hn => (k.block i (Nat.lt_of_lt_of_le hi h.size) (by omega)).trans (h.block i hi hn)⟩
def arrI9 (i : Idt) : Array Value := (cellsT i).toArray
theorem arrI9_size (i : Idt) : (arrI9 i).size = 4 := rfl
theorem arrI9_one (i : Idt) : (arrI9 i).all (·.oneCell') = true := cellsT_one i
theorem un_len {x t : List UInt8} (h : unD x = some t) : t.length = 20 := (wr9.ho x t h).1
theorem rdid_is (g : Nat) (s v : List UInt8) (w0 w : World) (tab : T7 w0) (h0 : w0.heap.size ≤ g) (hb0 : Below w0.heap.size w0 w) (hg : RdAt w g s) (hs : s.length ≤ 1000000) (hv : v.length ≤ 100) (hn : noEol (v ++ [32])) :
  Calls Tryz.prog 103 #[.pointer (some ⟨g, 0, none⟩), .string ⟨v.toArray⟩] w fun e w' => e = .returned (.tuple #[.agg (arrD (idP s (v ++ [32])).1), .bool (idP s (v ++ [32])).2.1]) ∧ RdAt w' g (idP s (v ++ [32])).2.2 ∧ Off g w w' := by
 obtain ⟨z, hz0, hzs, hzv, hzb, hz1⟩ := zId_any; have HZ0 := hyd hz0; have HZS := hyd hzs; have HZ1 := hyd hz1; have HZB := hyd hzb; have HGL := hyd (lt_of_heap hg); have hb1 := (Below.refl w.heap.size w).alloc (Nat.le_refl _) (.cells z 24); have HN1 := hyd (heap_alloc_new w (.cells z 24)); have HS1 := hyd (show (w.alloc (.cells z 24)).heap.size = w.heap.size + 1 by simp); have c1 := rdline_is g s v _ ((tab.keep hb0).keep hb1) (rd_keep hg hb1) hs hv hn; have HB1 := hyd hb1; have IZ := hyd (show (Tryz.prog.info? 24).map (·.size) = some z.size by rw [hzs]; exact infoD_n); have TK := hyd (fun (u : World) (hu : Off g w u) => tab.keep (hb0.trans (hu.below h0 hb0.size)))
 cases hl : lineL s (v ++ [32]) with
 | none =>
  have el : lineG s (v ++ [32]) = ([], s, false) := by unfold lineG; rw [hl]
  have ep : idP s (v ++ [32]) = (idZ, false, s) := by unfold idP; rw [hl]
  rw [el] at c1; rw [ep]; simp only at c1 ⊢; have HZA := hyd (show z = arrD idZ from HZ0.out); rw [← HZA.out]; clear el ep hl hv hn hz0 hzs hz1 hzb hs hg hb1 tab hb0 h0
  generalize (⟨v.toArray⟩ : ByteArray) = sv at *
  go_enter Tryz.func103, Tryz.ntmps103
  go_wp2_with fail
  refine c1.mono ?_; rintro e w2 ⟨rfl, hg2, ho2⟩; have HN2 := hyd ((ho2.block w.heap.size (by rw [HS1.out]; omega) (by have := HGL.out; omega)).trans HN1.out); have HO2 := hyd ((off_of HB1.out).trans ho2); have HG2 := hyd hg2; clear hg2 ho2 c1
  go_wp2_with (first
   | (refine wpList_build_none rfl 24 rfl _ HZB.out ?_)
   | (with_reducible refine wpList_store_all rfl 24 (.tmp 4) (.tmp 18) rfl w.heap.size z rfl rfl 24 z HN2.out IZ.out rfl HZ1.out ?_)
   | fail)
  intro w3 hg3 ho3 hs3; have HB3 := hyd (HO2.out.off2 ho3); have HG3 := hyd ((ho3.block g (lt_of_heap HG2.out) (by have := HGL.out; omega)).trans HG2.out); have HN3 := hyd hg3; clear hg3 ho3 hs3; go_wp2; exact bodyPost_ret (results_id9 Tryz.results103 _ _ w.heap.size z (0, 0) _ rfl rfl HN3.out HZS.out) rfl ⟨rfl, HG3.out, HB3.out⟩
 | some y =>
  obtain ⟨x, r⟩ := y
  have el : lineG s (v ++ [32]) = (x, r, true) := by unfold lineG; rw [hl]
  have hxl : x.length ≤ 1000000 := by have := line_len hl; omega
  rw [el] at c1; simp only at c1
  cases hu : unD x with
  | none =>
   have ep : idP s (v ++ [32]) = (idZ, false, r) := by unfold idP; rw [hl]; simp only [hu]
   have C2 := hyd (fun u (ht : T7 u) => (show Calls Tryz.prog 137 #[.string ⟨x.toArray⟩] u fun e u' => e = .returned (.tuple #[.agg (arrD idZ), .int .i64 4]) ∧ Below u.heap.size u u' from (Id_all x hxl u).mono (fun e u' h => ⟨h.1.trans (by rw [idR_none hu]; rfl), h.2⟩))); obtain ⟨Y, hY⟩ : ∃ Y, arrD idZ = Y := ⟨_, rfl⟩; have HYS := hyd (show Y.size = 20 by rw [← hY]; exact arrD_size _ rfl); have HY1 := hyd (show Y.all (·.oneCell') = true by rw [← hY]; exact arrD_one _); rw [ep]; simp only; rw [hY] at C2 ⊢; have IY := hyd (show (Tryz.prog.info? 24).map (·.size) = some Y.size by rw [HYS.out]; exact infoD_n); clear el ep hl hu hv hn hz0 hzs hz1 hzb hs hg hb1 tab hb0 h0 hY hxl
   generalize (⟨v.toArray⟩ : ByteArray) = sv at *
   generalize (⟨x.toArray⟩ : ByteArray) = sx at *
   go_enter Tryz.func103, Tryz.ntmps103
   go_wp2_with fail
   refine c1.mono ?_; rintro e w2 ⟨rfl, hg2, ho2⟩; have HN2 := hyd ((ho2.block w.heap.size (by rw [HS1.out]; omega) (by have := HGL.out; omega)).trans HN1.out); have HO2 := hyd ((off_of HB1.out).trans ho2); have HG2 := hyd hg2; clear hg2 ho2 c1
   go_wp2_with fail
   refine (C2.out _ (TK.out _ HO2.out)).mono ?_; rintro e w3 ⟨rfl, hb3⟩; have HO3 := hyd (HO2.out.cat (hb3.mono HO2.out.size)); have HN3 := hyd ((hb3.block w.heap.size (lt_of_heap HN2.out)).trans HN2.out); have HG3 := hyd (rd_keep HG2.out hb3); clear hb3
   go_wp2_with (first
    | (with_reducible refine wpList_store_all rfl 24 (.tmp 8) (.tmp 22) rfl w3.heap.size Y rfl rfl 24 z (heap_alloc_new w3 _) IY.out (HYS.out.trans HZS.out.symm) HY1.out ?_)
    | fail)
   intro w4 hg4 ho4 hs4; have hb4 := ((Below.refl w3.heap.size w3).alloc (Nat.le_refl _) (.cells z 24)).trans (ho4.below (Nat.le_refl _) (by simp)); have HO4 := hyd (HO3.out.cat (hb4.mono HO3.out.size)); have HN4 := hyd ((hb4.block w.heap.size (lt_of_heap HN3.out)).trans HN3.out); have HG4 := hyd (rd_keep HG3.out hb4); have HY4 := hyd hg4; clear hg4 ho4 hs4 hb4
   go_wp2_with (first
    | (with_reducible refine wpList_load_all 24 (.tmp 8) rfl (by kernel_rfl) w3.heap.size Y 24 (0, 0) rfl HY4.out _ Tryz.underlying24 rfl IY.out ?_)
    | (with_reducible refine wpList_store_all rfl 24 (.tmp 4) (.tmp 24) rfl w.heap.size Y rfl rfl 24 z HN4.out IY.out (HYS.out.trans HZS.out.symm) HY1.out ?_)
    | fail)
   intro w5 hg5 ho5 hs5; have HB5 := hyd (HO4.out.off2 ho5); have HG5 := hyd ((ho5.block g (lt_of_heap HG4.out) (by have := HGL.out; omega)).trans HG4.out); have HN5 := hyd hg5; clear hg5 ho5 hs5; go_wp2; exact bodyPost_ret (results_id9 Tryz.results103 _ _ w.heap.size Y (0, 0) _ rfl rfl HN5.out HYS.out) rfl ⟨rfl, HG5.out, HB5.out⟩
  | some i =>
   have ep : idP s (v ++ [32]) = (i, true, r) := by unfold idP; rw [hl]; simp only [hu]
   have C2 := hyd (fun u (ht : T7 u) => (show Calls Tryz.prog 137 #[.string ⟨x.toArray⟩] u fun e u' => e = .returned (.tuple #[.agg (arrD i), .int .i64 0]) ∧ Below u.heap.size u u' from (Id_all x hxl u).mono (fun e u' h => ⟨h.1.trans (by rw [idR_some hu]; rfl), h.2⟩))); obtain ⟨Y, hY⟩ : ∃ Y, arrD i = Y := ⟨_, rfl⟩; have HYS := hyd (show Y.size = 20 by rw [← hY]; exact arrD_size _ (un_len hu)); have HY1 := hyd (show Y.all (·.oneCell') = true by rw [← hY]; exact arrD_one _); rw [ep]; simp only; rw [hY] at C2 ⊢; have IY := hyd (show (Tryz.prog.info? 24).map (·.size) = some Y.size by rw [HYS.out]; exact infoD_n); clear el ep hl hu hv hn hz0 hzs hz1 hzb hs hg hb1 tab hb0 h0 hY hxl
   generalize (⟨v.toArray⟩ : ByteArray) = sv at *
   generalize (⟨x.toArray⟩ : ByteArray) = sx at *
   go_enter Tryz.func103, Tryz.ntmps103
   go_wp2_with fail
   refine c1.mono ?_; rintro e w2 ⟨rfl, hg2, ho2⟩; have HN2 := hyd ((ho2.block w.heap.size (by rw [HS1.out]; omega) (by have := HGL.out; omega)).trans HN1.out); have HO2 := hyd ((off_of HB1.out).trans ho2); have HG2 := hyd hg2; clear hg2 ho2 c1
   go_wp2_with fail
   refine (C2.out _ (TK.out _ HO2.out)).mono ?_; rintro e w3 ⟨rfl, hb3⟩; have HO3 := hyd (HO2.out.cat (hb3.mono HO2.out.size)); have HN3 := hyd ((hb3.block w.heap.size (lt_of_heap HN2.out)).trans HN2.out); have HG3 := hyd (rd_keep HG2.out hb3); clear hb3
   go_wp2_with (first
    | (with_reducible refine wpList_store_all rfl 24 (.tmp 8) (.tmp 22) rfl w3.heap.size Y rfl rfl 24 z (heap_alloc_new w3 _) IY.out (HYS.out.trans HZS.out.symm) HY1.out ?_)
    | fail)
   intro w4 hg4 ho4 hs4; have hb4 := ((Below.refl w3.heap.size w3).alloc (Nat.le_refl _) (.cells z 24)).trans (ho4.below (Nat.le_refl _) (by simp)); have HO4 := hyd (HO3.out.cat (hb4.mono HO3.out.size)); have HN4 := hyd ((hb4.block w.heap.size (lt_of_heap HN3.out)).trans HN3.out); have HG4 := hyd (rd_keep HG3.out hb4); have HY4 := hyd hg4; clear hg4 ho4 hs4 hb4
   go_wp2_with (first
    | (with_reducible refine wpList_load_all 24 (.tmp 8) rfl (by kernel_rfl) w3.heap.size Y 24 (0, 0) rfl HY4.out _ Tryz.underlying24 rfl IY.out ?_)
    | (with_reducible refine wpList_store_all rfl 24 (.tmp 4) (.tmp 24) rfl w.heap.size Y rfl rfl 24 z HN4.out IY.out (HYS.out.trans HZS.out.symm) HY1.out ?_)
    | fail)
   intro w5 hg5 ho5 hs5; have HB5 := hyd (HO4.out.off2 ho5); have HG5 := hyd ((ho5.block g (lt_of_heap HG4.out) (by have := HGL.out; omega)).trans HG4.out); have HN5 := hyd hg5; clear hg5 ho5 hs5; go_wp2; exact bodyPost_ret (results_id9 Tryz.results103 _ _ w.heap.size Y (0, 0) _ rfl rfl HN5.out HYS.out) rfl ⟨rfl, HG5.out, HB5.out⟩
theorem rdident_is (g : Nat) (s v : List UInt8) (w0 w : World) (tab : T7 w0) (h0 : w0.heap.size ≤ g) (hb0 : Below w0.heap.size w0 w) (hg : RdAt w g s) (hs : s.length ≤ 1000000) (hv : v.length ≤ 100) (hn : noEol (v ++ [32])) :
  Calls Tryz.prog 105 #[.pointer (some ⟨g, 0, none⟩), .string ⟨v.toArray⟩] w fun e w' => e = .returned (.tuple #[.agg (arrI9 (identP s (v ++ [32])).1), .bool (identP s (v ++ [32])).2.1]) ∧ RdAt w' g (identP s (v ++ [32])).2.2 ∧ Off g w w' := by
 obtain ⟨z, hz0, hzs, hzv, hzb, hz1⟩ := zIdt_any; have HZ0 := hyd hz0; have HZS := hyd hzs; have HZ1 := hyd hz1; have HZB := hyd hzb; have HGL := hyd (lt_of_heap hg); have hb1 := (Below.refl w.heap.size w).alloc (Nat.le_refl _) (.cells z 70); have HN1 := hyd (heap_alloc_new w (.cells z 70)); have HS1 := hyd (show (w.alloc (.cells z 70)).heap.size = w.heap.size + 1 by simp); have c1 := rdline_is g s v _ ((tab.keep hb0).keep hb1) (rd_keep hg hb1) hs hv hn; have HB1 := hyd hb1; have IZ := hyd (show (Tryz.prog.info? 70).map (·.size) = some z.size by rw [hzs]; exact infoT); have TK := hyd (fun (u : World) (hu : Off g w u) => tab.keep (hb0.trans (hu.below h0 hb0.size)))
 cases hl : lineL s (v ++ [32]) with
 | none =>
  have el : lineG s (v ++ [32]) = ([], s, false) := by unfold lineG; rw [hl]
  have ep : identP s (v ++ [32]) = (zT, false, s) := by unfold identP; rw [hl]
  rw [el] at c1; rw [ep]; simp only at c1 ⊢; have HZA := hyd (show z = arrI9 zT from HZ0.out); rw [← HZA.out]; clear el ep hl hv hn hz0 hzs hz1 hzb hs hg hb1 tab hb0 h0
  generalize (⟨v.toArray⟩ : ByteArray) = sv at *
  go_enter Tryz.func105, Tryz.ntmps105
  go_wp2_with fail
  refine c1.mono ?_; rintro e w2 ⟨rfl, hg2, ho2⟩; have HN2 := hyd ((ho2.block w.heap.size (by rw [HS1.out]; omega) (by have := HGL.out; omega)).trans HN1.out); have HO2 := hyd ((off_of HB1.out).trans ho2); have HG2 := hyd hg2; clear hg2 ho2 c1
  go_wp2_with (first
   | (refine wpList_build_none rfl 70 rfl _ HZB.out ?_)
   | (with_reducible refine wpList_store_all rfl 70 (.tmp 4) (.tmp 18) rfl w.heap.size z rfl rfl 70 z HN2.out IZ.out rfl HZ1.out ?_)
   | fail)
  intro w3 hg3 ho3 hs3; have HB3 := hyd (HO2.out.off2 ho3); have HG3 := hyd ((ho3.block g (lt_of_heap HG2.out) (by have := HGL.out; omega)).trans HG2.out); have HN3 := hyd hg3; clear hg3 ho3 hs3; go_wp2; exact bodyPost_ret (results_idt9 Tryz.results105 _ _ w.heap.size z (0, 0) _ rfl rfl HN3.out HZS.out) rfl ⟨rfl, HG3.out, HB3.out⟩
 | some y =>
  obtain ⟨x, r⟩ := y
  have el : lineG s (v ++ [32]) = (x, r, true) := by unfold lineG; rw [hl]
  have hxl : x.length ≤ 1000000 := by have := line_len hl; omega
  rw [el] at c1; simp only at c1
  cases hu : parseP Lib.itoa takeN x with
  | none =>
   have ep : identP s (v ++ [32]) = (zT, false, r) := by unfold identP; rw [hl]; simp only [hu]
   have C2 := hyd (fun u (ht : T7 u) => (show Calls Tryz.prog 138 #[.string ⟨x.toArray⟩] u fun e u' => e = .returned (.tuple #[.agg (arrI9 zT), .int .i64 4]) ∧ Below u.heap.size u u' from (Parse_is x hxl u ht).mono (fun e u' h => ⟨h.1.trans (by rw [hu]; rfl), h.2⟩))); obtain ⟨Y, hY⟩ : ∃ Y, arrI9 zT = Y := ⟨_, rfl⟩; have HYS := hyd (show Y.size = 4 by rw [← hY]; exact arrI9_size _); have HY1 := hyd (show Y.all (·.oneCell') = true by rw [← hY]; exact arrI9_one _); rw [ep]; simp only; rw [hY] at C2 ⊢; have IY := hyd (show (Tryz.prog.info? 70).map (·.size) = some Y.size by rw [HYS.out]; exact infoT); clear el ep hl hu hv hn hz0 hzs hz1 hzb hs hg hb1 tab hb0 h0 hY hxl
   generalize (⟨v.toArray⟩ : ByteArray) = sv at *
   generalize (⟨x.toArray⟩ : ByteArray) = sx at *
   go_enter Tryz.func105, Tryz.ntmps105
   go_wp2_with fail
   refine c1.mono ?_; rintro e w2 ⟨rfl, hg2, ho2⟩; have HN2 := hyd ((ho2.block w.heap.size (by rw [HS1.out]; omega) (by have := HGL.out; omega)).trans HN1.out); have HO2 := hyd ((off_of HB1.out).trans ho2); have HG2 := hyd hg2; clear hg2 ho2 c1
   go_wp2_with fail
   refine (C2.out _ (TK.out _ HO2.out)).mono ?_; rintro e w3 ⟨rfl, hb3⟩; have HO3 := hyd (HO2.out.cat (hb3.mono HO2.out.size)); have HN3 := hyd ((hb3.block w.heap.size (lt_of_heap HN2.out)).trans HN2.out); have HG3 := hyd (rd_keep HG2.out hb3); clear hb3
   go_wp2_with (first
    | (with_reducible refine wpList_store_all rfl 70 (.tmp 8) (.tmp 22) rfl w3.heap.size Y rfl rfl 70 z (heap_alloc_new w3 _) IY.out (HYS.out.trans HZS.out.symm) HY1.out ?_)
    | fail)
   intro w4 hg4 ho4 hs4; have hb4 := ((Below.refl w3.heap.size w3).alloc (Nat.le_refl _) (.cells z 70)).trans (ho4.below (Nat.le_refl _) (by simp)); have HO4 := hyd (HO3.out.cat (hb4.mono HO3.out.size)); have HN4 := hyd ((hb4.block w.heap.size (lt_of_heap HN3.out)).trans HN3.out); have HG4 := hyd (rd_keep HG3.out hb4); have HY4 := hyd hg4; clear hg4 ho4 hs4 hb4
   go_wp2_with (first
    | (with_reducible refine wpList_load_all 70 (.tmp 8) rfl (by kernel_rfl) w3.heap.size Y 70 (0, 0) rfl HY4.out _ Tryz.underlying70 rfl IY.out ?_)
    | (with_reducible refine wpList_store_all rfl 70 (.tmp 4) (.tmp 24) rfl w.heap.size Y rfl rfl 70 z HN4.out IY.out (HYS.out.trans HZS.out.symm) HY1.out ?_)
    | fail)
   intro w5 hg5 ho5 hs5; have HB5 := hyd (HO4.out.off2 ho5); have HG5 := hyd ((ho5.block g (lt_of_heap HG4.out) (by have := HGL.out; omega)).trans HG4.out); have HN5 := hyd hg5; clear hg5 ho5 hs5; go_wp2; exact bodyPost_ret (results_idt9 Tryz.results105 _ _ w.heap.size Y (0, 0) _ rfl rfl HN5.out HYS.out) rfl ⟨rfl, HG5.out, HB5.out⟩
  | some i =>
   have ep : identP s (v ++ [32]) = (i, true, r) := by unfold identP; rw [hl]; simp only [hu]
   have C2 := hyd (fun u (ht : T7 u) => (show Calls Tryz.prog 138 #[.string ⟨x.toArray⟩] u fun e u' => e = .returned (.tuple #[.agg (arrI9 i), .int .i64 0]) ∧ Below u.heap.size u u' from (Parse_is x hxl u ht).mono (fun e u' h => ⟨h.1.trans (by rw [hu]; rfl), h.2⟩))); obtain ⟨Y, hY⟩ : ∃ Y, arrI9 i = Y := ⟨_, rfl⟩; have HYS := hyd (show Y.size = 4 by rw [← hY]; exact arrI9_size _); have HY1 := hyd (show Y.all (·.oneCell') = true by rw [← hY]; exact arrI9_one _); rw [ep]; simp only; rw [hY] at C2 ⊢; have IY := hyd (show (Tryz.prog.info? 70).map (·.size) = some Y.size by rw [HYS.out]; exact infoT); clear el ep hl hu hv hn hz0 hzs hz1 hzb hs hg hb1 tab hb0 h0 hY hxl
   generalize (⟨v.toArray⟩ : ByteArray) = sv at *
   generalize (⟨x.toArray⟩ : ByteArray) = sx at *
   go_enter Tryz.func105, Tryz.ntmps105
   go_wp2_with fail
   refine c1.mono ?_; rintro e w2 ⟨rfl, hg2, ho2⟩; have HN2 := hyd ((ho2.block w.heap.size (by rw [HS1.out]; omega) (by have := HGL.out; omega)).trans HN1.out); have HO2 := hyd ((off_of HB1.out).trans ho2); have HG2 := hyd hg2; clear hg2 ho2 c1
   go_wp2_with fail
   refine (C2.out _ (TK.out _ HO2.out)).mono ?_; rintro e w3 ⟨rfl, hb3⟩; have HO3 := hyd (HO2.out.cat (hb3.mono HO2.out.size)); have HN3 := hyd ((hb3.block w.heap.size (lt_of_heap HN2.out)).trans HN2.out); have HG3 := hyd (rd_keep HG2.out hb3); clear hb3
   go_wp2_with (first
    | (with_reducible refine wpList_store_all rfl 70 (.tmp 8) (.tmp 22) rfl w3.heap.size Y rfl rfl 70 z (heap_alloc_new w3 _) IY.out (HYS.out.trans HZS.out.symm) HY1.out ?_)
    | fail)
   intro w4 hg4 ho4 hs4; have hb4 := ((Below.refl w3.heap.size w3).alloc (Nat.le_refl _) (.cells z 70)).trans (ho4.below (Nat.le_refl _) (by simp)); have HO4 := hyd (HO3.out.cat (hb4.mono HO3.out.size)); have HN4 := hyd ((hb4.block w.heap.size (lt_of_heap HN3.out)).trans HN3.out); have HG4 := hyd (rd_keep HG3.out hb4); have HY4 := hyd hg4; clear hg4 ho4 hs4 hb4
   go_wp2_with (first
    | (with_reducible refine wpList_load_all 70 (.tmp 8) rfl (by kernel_rfl) w3.heap.size Y 70 (0, 0) rfl HY4.out _ Tryz.underlying70 rfl IY.out ?_)
    | (with_reducible refine wpList_store_all rfl 70 (.tmp 4) (.tmp 24) rfl w.heap.size Y rfl rfl 70 z HN4.out IY.out (HYS.out.trans HZS.out.symm) HY1.out ?_)
    | fail)
   intro w5 hg5 ho5 hs5; have HB5 := hyd (HO4.out.off2 ho5); have HG5 := hyd ((ho5.block g (lt_of_heap HG4.out) (by have := HGL.out; omega)).trans HG4.out); have HN5 := hyd hg5; clear hg5 ho5 hs5; go_wp2; exact bodyPost_ret (results_idt9 Tryz.results105 _ _ w.heap.size Y (0, 0) _ rfl rfl HN5.out HYS.out) rfl ⟨rfl, HG5.out, HB5.out⟩
theorem ownD_off {B g : Nat} {v : Value} {l : List (List UInt8)} {w w' : World} (h : OwnD B v l w) (ho : Off g w w') (hg : g < B) : OwnD B v l w' :=
 ⟨h.1, h.2.imp id (fun ⟨g', cap', cur, h', hb', hh, r⟩ => ⟨g', cap', cur, h', hb', (ho.block g' (lt_of_heap hh) (by omega)).trans hh, r⟩)⟩
theorem lineG_none {s w : List UInt8} (h : lineL s w = none) : lineG s w = ([], s, false) := by unfold lineG; rw [h]
theorem lineG_some {s w x r : List UInt8} (h : lineL s w = some (x, r)) : lineG s w = (x, r, true) := by unfold lineG; rw [h]
theorem parentV_W : parentV ++ [32] = parentW := rfl
theorem rdparents_is (g : Nat) (s : List UInt8) (w0 w : World) (tab : T7 w0) (h0 : w0.heap.size ≤ g) (hb0 : Below w0.heap.size w0 w) (hg : RdAt w g s) (hs : s.length ≤ 1000000) :
  Calls Tryz.prog 104 #[.pointer (some ⟨g, 0, none⟩)] w fun e w' => ∃ v b r ps, e = .returned (.tuple #[v, .bool b]) ∧ RdAt w' g r ∧ r.length ≤ s.length ∧ Off g w w' ∧
   ((b = true ∧ parsQ unD 16 s = some (ps, r) ∧ OwnD w.heap.size v ps w' ∧ ps.length ≤ 16 ∧ ∀ p ∈ ps, p.length = 20) ∨ (b = false ∧ parsQ unD 16 s = none ∧ v = .slice none 0 0)) := by
 obtain ⟨z, hz0, hzs, hzv, hzb, hz1⟩ := zId_any; have HZS := hyd hzs; have HGL := hyd (lt_of_heap hg); have TK := hyd (fun (u : World) (hu : Off g w u) => tab.keep (hb0.trans (hu.below h0 hb0.size))); have HG := hyd hg; obtain ⟨PQ, hPQ⟩ : ∃ PQ, parsQ unD 16 s = PQ := ⟨_, rfl⟩; have HP0 := hyd (show parsP unD [] 16 s = PQ by rw [parsP_nil, hPQ]); rw [hPQ]; have HSL := hyd hs; clear hz0 hzs hzb hz1 hg tab hb0 h0 hPQ hs
 go_enter Tryz.func104, Tryz.ntmps104
 go_wp2_with fail
 go_loopw [4, 9] (fun v4 v9 wr => ∃ (k : Nat) (ps : List (List UInt8)) (r : List UInt8), k ≤ 16 ∧ v9 = .int .i64 k ∧ OwnD w.heap.size v4 ps wr ∧ ps.length = k ∧ RdAt wr g r ∧ r.length ≤ s.length ∧ (∀ p ∈ ps, p.length = 20) ∧ parsP unD ps (16 - k) r = PQ ∧ Off g w wr) (fun _ v9 _ => 16 - (intOf v9).toNat)
 case atStart => exact ⟨0, [], s, by omega, rfl, ownD_nil _ _, rfl, HG.out, Nat.le_refl _, (fun p hp => by cases hp), HP0.out, Off.refl _ _⟩
 case round =>
  obtain ⟨k, ps, r, hk, rfl, hown, hpl, hgr, hrl, hpi, hpp, hor⟩ := hrel; have HOWN := hyd hown; have HPL := hyd hpl; have HGR := hyd hgr; have HRL := hyd hrl; have HPI := hyd hpi; have HPP := hyd hpp; have HOR := hyd hor; clear hown hpl hgr hrl hpi hpp hor
  by_cases hlt : k < 16
  ·have g1 : (k : Int) < 16 := by omega
   have c1 := rdline_is g r parentV wr (TK.out _ HOR.out) HGR.out (by have := HRL.out; have := HSL.out; omega) (by decide) (by rw [parentV_W]; exact noEol_parent); rw [parentV_W, show parentV = [112, 97, 114, 101, 110, 116] from rfl] at c1
   cases hl : lineL r parentW with
   | none =>
    rw [lineG_none hl] at c1; simp only at c1; have HPQ := hyd (show PQ = some (ps, r) by rw [← HPP.out]; exact parsP_stop hl ps _); clear hl
    go_wp2_with fail
    refine c1.mono ?_; rintro e w2 ⟨rfl, hg2, ho2⟩; have HG2 := hyd hg2; have HO2 := hyd (HOR.out.trans ho2); have HW2 := hyd (ownD_off HOWN.out ho2 HGL.out); clear hg2 ho2 c1; go_wp2
    go_ret2
    exact ⟨_, _, r, ps, rfl, HG2.out, HRL.out, HO2.out, .inl ⟨rfl, HPQ.out, HW2.out, by rw [HPL.out]; omega, HPI.out⟩⟩
   | some y =>
    obtain ⟨x, r'⟩ := y; rw [lineG_some hl] at c1; simp only at c1; have hll := line_len hl; have HRL2 := hyd (show r'.length ≤ s.length by have := HRL.out; omega)
    have hxl : x.length ≤ 1000000 := by have := HRL.out; have := HSL.out; omega
    have C2 := hyd (fun u => Id_all x hxl u)
    cases hu : unD x with
    | none =>
     rw [idR_none hu] at C2; simp only at C2; have HPQ := hyd (show PQ = none by rw [← HPP.out, show 16 - k = (15 - k) + 1 by omega]; exact parsP_bad hl hu ps _); obtain ⟨Y, hY⟩ : ∃ Y, arrD (List.replicate 20 0) = Y := ⟨_, rfl⟩; have HYS := hyd (show Y.size = 20 by rw [← hY]; exact arrD_size _ (by simp)); have HY1 := hyd (show Y.all (·.oneCell') = true by rw [← hY]; exact arrD_one _); have IY := hyd (show (Tryz.prog.info? 24).map (·.size) = some Y.size by rw [HYS.out]; exact infoD_n); rw [idv_arrD, hY] at C2; clear hl hu hY hxl hll
     generalize (⟨x.toArray⟩ : ByteArray) = sx at *
     go_wp2_with fail
     refine c1.mono ?_; rintro e w2 ⟨rfl, hg2, ho2⟩; have HG2 := hyd hg2; have HO2 := hyd (HOR.out.trans ho2); clear hg2 ho2 c1
     go_wp2_with fail
     refine (C2.out _).mono ?_; rintro e w3 ⟨rfl, hb3⟩; have HO3 := hyd (HO2.out.cat (hb3.mono HO2.out.size)); have HG3 := hyd (rd_keep HG2.out hb3); clear hb3
     go_wp2_with (first
      | (with_reducible refine wpList_store_all rfl 24 (.tmp 7) (.tmp 21) rfl w3.heap.size Y rfl rfl 24 z (heap_alloc_new w3 _) IY.out (HYS.out.trans HZS.out.symm) HY1.out ?_)
      | fail)
     intro w4 hg4 ho4 hs4; have hb4 := ((Below.refl w3.heap.size w3).alloc (Nat.le_refl _) (.cells z 24)).trans (ho4.below (Nat.le_refl _) (by simp)); have HO4 := hyd (HO3.out.cat (hb4.mono HO3.out.size)); have HG4 := hyd (rd_keep HG3.out hb4); clear hg4 ho4 hs4 hb4; go_wp2
     go_ret2
     exact ⟨_, _, r', [], rfl, HG4.out, HRL2.out, HO4.out, .inr ⟨rfl, HPQ.out, rfl⟩⟩
    | some p =>
     rw [idR_some hu] at C2; simp only at C2; have hp20 := un_len hu; have HP20 := hyd hp20; have HNX := hyd (show parsP unD (ps ++ [p]) (16 - (k + 1)) r' = PQ by rw [← HPP.out, show 16 - k = (16 - (k + 1)) + 1 by omega]; exact (parsP_next hl hu ps _).symm)
     have HPI2 := hyd (show ∀ q ∈ ps ++ [p], q.length = 20 from fun q hq => by
      rcases List.mem_append.1 hq with hq | hq
      ·exact HPI.out q hq
      ·rw [List.mem_singleton.1 hq]; exact hp20)
     have HPL2 := hyd (show (ps ++ [p]).length = k + 1 by rw [List.length_append, HPL.out]; rfl); obtain ⟨Y, hY⟩ : ∃ Y, arrD p = Y := ⟨_, rfl⟩; have HYS := hyd (show Y.size = 20 by rw [← hY]; exact arrD_size _ hp20); have HY1 := hyd (show Y.all (·.oneCell') = true by rw [← hY]; exact arrD_one _); have IY := hyd (show (Tryz.prog.info? 24).map (·.size) = some Y.size by rw [HYS.out]; exact infoD_n); rw [idv_arrD, hY] at C2; have HY := hyd hY; clear hl hu hY hxl hll hp20
     generalize (⟨x.toArray⟩ : ByteArray) = sx at *
     go_wp2_with fail
     refine c1.mono ?_; rintro e w2 ⟨rfl, hg2, ho2⟩; have HG2 := hyd hg2; have HO2 := hyd (HOR.out.trans ho2); have HW2 := hyd (ownD_off HOWN.out ho2 HGL.out); clear hg2 ho2 c1
     go_wp2_with fail
     refine (C2.out _).mono ?_; rintro e w3 ⟨rfl, hb3⟩; have HO3 := hyd (HO2.out.cat (hb3.mono HO2.out.size)); have HG3 := hyd (rd_keep HG2.out hb3); have HW3 := hyd (ownD_below HW2.out hb3); clear hb3
     go_wp2_with (first
      | (with_reducible refine wpList_store_all rfl 24 (.tmp 7) (.tmp 21) rfl w3.heap.size Y rfl rfl 24 z (heap_alloc_new w3 _) IY.out (HYS.out.trans HZS.out.symm) HY1.out ?_)
      | fail)
     intro w4 hg4 ho4 hs4; have hb4 := ((Below.refl w3.heap.size w3).alloc (Nat.le_refl _) (.cells z 24)).trans (ho4.below (Nat.le_refl _) (by simp)); have HO4 := hyd (HO3.out.cat (hb4.mono HO3.out.size)); have HG4 := hyd (rd_keep HG3.out hb4); have HW4 := hyd (ownD_below HW3.out hb4); have HY4 := hyd hg4; have hb5 := (Below.refl w4.heap.size w4).alloc (Nat.le_refl _) (.cells Y 24); have HO5 := hyd (HO4.out.cat (hb5.mono HO4.out.size)); have HG5 := hyd (rd_keep HG4.out hb5); have HW5 := hyd (ownD_below HW4.out hb5); clear hg4 ho4 hs4 hb4 hb5
     go_wp2_with (first
      | (with_reducible refine wpList_load_all 24 (.tmp 7) rfl (by kernel_rfl) w3.heap.size Y 24 (0, 0) rfl HY4.out _ Tryz.underlying24 rfl IY.out ?_)
      | (with_reducible refine wpList_build_idD rfl (.tmp 26) rfl Y HYS.out rfl ?_)
      | (at_builtin; refine wpList_append_idD rfl _ _ rfl w.heap.size _ ps p w4.heap.size Y HY.out.symm rfl rfl (heap_alloc_new w4 _) HP20.out HW5.out (by rw [HPL.out]; omega) HO5.out.size ?_)
      | fail)
     intro v6 w6 o6 g6; have hb6 := (Below.refl w.heap.size (w4.alloc (.cells Y 24))).grown g6 HO5.out.size (fun j hj => (HW5.out.lt j hj).1); have HO6 := hyd (HO5.out.cat hb6); have HG6 := hyd ((hb6.block g HGL.out).trans HG5.out); have HW6 := hyd o6; clear o6 g6 hb6; go_wp2
     go_roundw
     case rel => exact ⟨k + 1, ps ++ [p], r', by omega, by go_num, HW6.out, HPL2.out, HG6.out, HRL2.out, HPI2.out, HNX.out, HO6.out⟩
     case measure => simp [intOf]; omega
  ·obtain rfl : k = 16 := by omega
   have HPQ := hyd (show PQ = some (ps, r) by rw [← HPP.out]; exact parsP_zero ps r); go_wp2
   go_ret2
   exact ⟨_, _, r, ps, rfl, HGR.out, HRL.out, HOR.out, .inl ⟨rfl, HPQ.out, HOWN.out, by rw [HPL.out]; exact Nat.le_refl _, HPI.out⟩⟩
theorem wpList_build_five {P : Program} {ops : Array Oper} {rest : List Oper} {o : Oper} {a : Act} {w : World} {Q : Exit → Act → World → Prop} (hgd : o.guard = none) (t : TypeId) (k0 k1 k2 k3 k4 : Nat) (x0 x1 x2 x3 x4 : Operand) (ho : o.op = .build t #[(k0, x0), (k1, x1), (k2, x2), (k3, x3), (k4, x4)])
  (v0 v1 v2 v3 v4 : Value) (h0 : a.eval x0 = v0) (h1 : a.eval x1 = v1) (h2 : a.eval x2 = v2) (h3 : a.eval x3 = v3) (h4 : a.eval x4 = v4) (cells : Array Value) (hb : P.built t [(k0, v0), (k1, v1), (k2, v2), (k3, v3), (k4, v4)] = some cells)
  (h : wpList P ops Q rest (a.put o.dst (.agg cells)) w) : wpList P ops Q (o :: rest) a w :=
 wpList_build_as hgd t #[(k0, x0), (k1, x1), (k2, x2), (k3, x3), (k4, x4)] ho cells (by simp [h0, h1, h2, h3, h4, hb]) h
def recQ (s : List UInt8) : Option Rcd :=
 if (idP s treeW).2.1 = true then
  match parsQ unD 16 (idP s treeW).2.2 with
  | none => none
  | some (ps, q) =>
   if (identP q authorW).2.1 = true then
    if (identP (identP q authorW).2.2 committerW).2.1 = true then
     match (identP (identP q authorW).2.2 committerW).2.2 with
     | [] => none
     | d :: tx => if d = 10 then some ⟨(idP s treeW).1, ps, (identP q authorW).1, (identP (identP q authorW).2.2 committerW).1, tx⟩ else none
    else none
   else none
 else none
theorem parse_way9 (s : List UInt8) : parseK s = match recQ s with
  | none => none
  | some c => if rightR c = true then some c else none := by
 unfold parseK
 have ep : ∀ x, parseR Lib.itoa takeN x = parseP Lib.itoa takeN x := fun x => (parse_alike x).symm
 rw [parseC_way]; unfold recQ idP
 cases e1 : lineL s treeW with
 | none => rfl
 | some y =>
  obtain ⟨x, r⟩ := y; simp only
  cases e2 : unD x with
  | none => rfl
  | some t =>
   simp only [if_pos]
   cases e3 : parsQ unD 16 r with
   | none => rfl
   | some z =>
    obtain ⟨ps, q⟩ := z
    show endC t (parseR Lib.itoa takeN) ps q = _
    unfold endC whoL identP; simp only [ep]
    cases e4 : lineL q authorW with
    | none => rfl
    | some y2 =>
     obtain ⟨x2, r2⟩ := y2; simp only
     cases e5 : parseP Lib.itoa takeN x2 with
     | none => rfl
     | some a =>
      simp only [if_pos]
      cases e6 : lineL r2 committerW with
      | none => rfl
      | some y3 =>
       obtain ⟨x3, r3⟩ := y3; simp only
       cases e7 : parseP Lib.itoa takeN x3 with
       | none => rfl
       | some c =>
        simp only [if_pos]
        cases r3 with
        | nil => rfl
        | cons d tx =>
         simp only
         by_cases hd : d = 10
         ·simp only [if_pos hd]
         ·simp only [if_neg hd]
theorem idP_len (s w : List UInt8) : (idP s w).2.2.length ≤ s.length ∧ (idP s w).1.length = 20 := by
 unfold idP
 cases e1 : lineL s w with
 | none => exact ⟨Nat.le_refl _, rfl⟩
 | some y =>
  obtain ⟨x, r⟩ := y; have := line_len e1; simp only
  cases e2 : unD x with
  | none => exact ⟨by simp only; omega, rfl⟩
  | some t => exact ⟨by simp only; omega, un_len e2⟩
theorem identP_len (s w : List UInt8) : (identP s w).2.2.length ≤ s.length ∧ (identP s w).1.name.length ≤ 200 ∧ (identP s w).1.email.length ≤ 200 := by
 unfold identP
 cases e1 : lineL s w with
 | none => exact ⟨Nat.le_refl _, Nat.zero_le _, Nat.zero_le _⟩
 | some y =>
  obtain ⟨x, r⟩ := y; have := line_len e1; simp only
  cases e2 : parseP Lib.itoa takeN x with
  | none => exact ⟨by simp only; omega, Nat.zero_le _, Nat.zero_le _⟩
  | some i => exact ⟨by simp only; omega, right_len i (parse_some x i e2).1⟩
structure RecRed (w : World) (A : Array Value) (c : Rcd) : Prop where
 fit : c.Fit
 at_ : ∃ pa cap, A = arrC c.tree (.slice pa c.parents.length cap) c.author c.committer c.text ∧ c.parents.length ≤ cap ∧ cap ≤ maxLen ∧ IdsAt w pa c.parents ∧ (pa = none → c.parents.length = 0 ∧ cap = 0)
theorem RecRed.keep {w u : World} {A : Array Value} {c : Rcd} (h : RecRed w A c) (hb : Below w.heap.size w u) : RecRed u A c := by
 obtain ⟨h1, pa, cap, h2, h3, h4, h5, h6⟩ := h; exact ⟨h1, pa, cap, h2, h3, h4, h5.keep hb, h6⟩
theorem ownD_mono {B B' : Nat} {v : Value} {l : List (List UInt8)} {w : World} (h : OwnD B v l w) (hB : B' ≤ B) : OwnD B' v l w :=
 ⟨h.1, h.2.imp id (fun ⟨g', cap', cur, h', hb', r⟩ => ⟨g', cap', cur, h', Nat.le_trans hB hb', r⟩)⟩
theorem ownD_red {B : Nat} {w : World} {pa : Option Addr} {cap : Nat} {c : Rcd} (h : OwnD B (.slice pa c.parents.length cap) c.parents w) (hf : c.Fit) : RecRed w (arrC c.tree (.slice pa c.parents.length cap) c.author c.committer c.text) c := by
 obtain ⟨pa2, cap2, hv, h1, h2, h3, h4⟩ := ownD_ids h hf.parents
 cases hv
 exact ⟨hf, pa, cap, rfl, h1, h2, h3, h4⟩
def rcdZ : Rcd := ⟨idZ, [], zT, zT, []⟩
theorem recRed_zero (w : World) : RecRed w recZ rcdZ := ⟨⟨rfl, fun p hp => (by cases hp)⟩, none, 0, rfl, Nat.zero_le _, Nat.zero_le _, IdsAt.nil _ _, fun _ => ⟨rfl, rfl⟩⟩
theorem zRd_any : ∀ w, (zeroValue 174).run Tryz.prog w = .ok (.agg #[.string ⟨#[]⟩]) w := zero_arr (n := 1) (by kernel_rfl)
theorem built_rd (s : ByteArray) : Tryz.prog.built 174 [(0, .string s)] = some #[.string s] := by kernel_rfl
theorem authorV_W : authorV ++ [32] = authorW := rfl
theorem committerV_W : committerV ++ [32] = committerW := rfl
theorem treeV_W : treeV ++ [32] = treeW := rfl
theorem record9_is (s : List UInt8) (w : World) (tab : T7 w) (hs : s.length ≤ 1000000) :
  Calls Tryz.prog 86 #[.string ⟨s.toArray⟩] w fun e w' => ∃ A b, e = .returned (.tuple #[.agg A, .bool b]) ∧ Below w.heap.size w w' ∧ A.size = 30 ∧ A.all (·.oneCell') = true ∧
   ((b = true ∧ ∃ c pa cap, recQ s = some c ∧ A = arrC c.tree (.slice pa c.parents.length cap) c.author c.committer c.text ∧ OwnD w.heap.size (.slice pa c.parents.length cap) c.parents w' ∧ c.Fit ∧ c.parents.length ≤ 16 ∧ c.author.name.length ≤ 200 ∧ c.author.email.length ≤ 200 ∧ c.committer.name.length ≤ 200 ∧ c.committer.email.length ≤ 200) ∨ (b = false ∧ recQ s = none)) := by
 obtain ⟨z, hz0, hzs, hzv, hzb, hz1⟩ := zRec_any; obtain ⟨y, hy0, hys, hyv, hyb, hy1⟩ := zId_any; obtain ⟨x, hx0, hxs, hxv, hxb, hx1⟩ := zIdt_any; have hrv := zRd_any; have ZS := hyd hzs; have ZB := hyd hzb; have Z1 := hyd hz1; have YS := hyd hys; have XS := hyd hxs; have IZ := hyd (infoC_arr z hzs); have TB := hyd tab; have HS := hyd hs; obtain ⟨RQ, hRQ⟩ : ∃ RQ, recQ s = RQ := ⟨_, rfl⟩; have HQ := hyd (show RQ = recQ s from hRQ.symm); unfold recQ at HQ; rw [hRQ]; obtain ⟨l1, l2⟩ := idP_len s treeW; have L1 := hyd l1; have L2 := hyd l2; have CI := hyd (fun u (hg : RdAt u (w.heap.size + 1) s) (hb : Below w.heap.size w u) => rdid_is (w.heap.size + 1) s treeV w u tab (Nat.le_succ _) hb hg hs (by decide) (by rw [treeV_W]; exact noEol_tree)); rw [treeV_W, show treeV = [116, 114, 101, 101] from rfl] at CI; have hT20 : (arrD (idP s treeW).1).size = 20 := arrD_size _ l2; have hT1 := arrD_one (idP s treeW).1; clear hz0 hzs hzb hz1 hy0 hys hyb hy1 hx0 hxs hxb hx1 hRQ l1 l2 tab; obtain ⟨T, hT⟩ : ∃ T, arrD (idP s treeW).1 = T := ⟨_, rfl⟩; have HT := hyd hT; rw [hT] at CI hT20 hT1; have HT20 := hyd hT20; have HT1 := hyd hT1; have IT := hyd (show (Tryz.prog.info? 24).map (·.size) = some T.size by rw [hT20]; exact infoD_n); obtain ⟨t, ht⟩ : ∃ t, (idP s treeW).1 = t := ⟨_, rfl⟩; obtain ⟨q1, hq1⟩ : ∃ q1, (idP s treeW).2.2 = q1 := ⟨_, rfl⟩; rw [ht] at HQ HT L2; rw [hq1] at HQ CI L1
 cases hb1 : (idP s treeW).2.1 with
 | false =>
  rw [hb1] at CI HQ; rw [if_neg (by decide)] at HQ; have S0 := hyd (size_toArray s); have BRS := hyd (built_rd ⟨s.toArray⟩); clear hT20 hT1 hT ht hq1 hb1 S0 hs; obtain ⟨S, hS⟩ : ∃ S : ByteArray, ⟨s.toArray⟩ = S := ⟨_, rfl⟩; have HSS := hyd hS; rw [hS] at BRS ⊢; clear hS
  go_enter Tryz.func86, Tryz.ntmps86
  go_wp2_with (first
   | (with_reducible refine wpList_build_one rfl 174 0 (.tmp 11) rfl (.string S) rfl _ BRS.out ?_)
   | fail)
  have hba := ((Below.refl w.heap.size w).alloc (Nat.le_refl _) (.cells z 72)).alloc (by simp) (.cells #[.string S] 174); have hga := (Below.heap_alloc (w.alloc (.cells z 72)) (.cells #[.string S] 174) w.heap.size (by simp)).trans (heap_alloc_new w (.cells z 72)); have hra := heap_alloc_new (w.alloc (.cells z 72)) (.cells #[.string S] 174); rw [show (w.alloc (.cells z 72)).heap.size = w.heap.size + 1 by simp] at hra
  generalize hwa : (w.alloc (.cells z 72)).alloc (.cells #[.string S] 174) = wa at *
  have BA := hyd hba; have GA := hyd hga; have RA := hyd (show RdAt wa (w.heap.size + 1) s from by unfold RdAt; rw [HSS.out]; exact hra); clear hga hra hwa hba; refine (CI.out _ RA.out BA.out).mono ?_; rintro e wb ⟨rfl, hgb, hob⟩; have BB := hyd (BA.out.trans (hob.below (B := w.heap.size) (Nat.le_succ _) BA.out.size)); have GB := hyd ((hob.block w.heap.size (lt_of_heap GA.out) (Nat.ne_of_lt (Nat.lt_succ_self _))).trans GA.out); have RB := hyd hgb; clear hgb hob
  go_wp2_with (first
   | (with_reducible refine wpList_store_all rfl 24 (.tmp 5) (.tmp 15) rfl wb.heap.size T rfl rfl 24 y (heap_alloc_new wb _) IT.out (HT20.out.trans YS.out.symm) HT1.out ?_)
   | fail)
  intro wb2 hgb2 hob2 hsb2; have hbb2 := ((Below.refl wb.heap.size wb).alloc (Nat.le_refl _) (.cells y 24)).trans (hob2.below (Nat.le_refl _) (by simp)); have BC := hyd (BB.out.trans (hbb2.mono BB.out.size)); have GC := hyd ((hbb2.block w.heap.size (lt_of_heap GB.out)).trans GB.out); have RC := hyd (rd_keep RB.out hbb2); have K5C := hyd hgb2; have LT5 := hyd (show w.heap.size + 1 < wb.heap.size from lt_of_heap RB.out); clear hgb2 hob2 hsb2 hbb2; have NONE := hyd (show RQ = none from HQ.out)
  go_wp2_with (first
   | (refine wpList_build_none rfl 72 rfl _ ZB.out ?_)
   | (with_reducible refine wpList_store_all rfl 72 (.tmp 2) (.tmp 19) rfl w.heap.size z rfl rfl 72 z GC.out IZ.out rfl Z1.out ?_)
   | fail)
  intro wz hgz hoz hsz; have BZ := hyd (BC.out.trans (hoz.below (B := w.heap.size) (Nat.le_refl _) BC.out.size)); have GZ := hyd hgz; clear hgz hoz hsz; go_wp2; exact bodyPost_ret (results_rec Tryz.results86 _ _ w.heap.size z (0, 0) _ rfl rfl GZ.out ZS.out) rfl ⟨_, _, rfl, BZ.out, ZS.out, Z1.out, .inr ⟨rfl, NONE.out⟩⟩
 | true =>
  rw [hb1] at CI HQ; rw [if_pos rfl] at HQ; have S0 := hyd (size_toArray s); have BRS := hyd (built_rd ⟨s.toArray⟩); clear hT20 hT1 hT ht hq1 hb1 S0 hs; obtain ⟨S, hS⟩ : ∃ S : ByteArray, ⟨s.toArray⟩ = S := ⟨_, rfl⟩; have HSS := hyd hS; rw [hS] at BRS ⊢; clear hS
  go_enter Tryz.func86, Tryz.ntmps86
  go_wp2_with (first
   | (with_reducible refine wpList_build_one rfl 174 0 (.tmp 11) rfl (.string S) rfl _ BRS.out ?_)
   | fail)
  have hba := ((Below.refl w.heap.size w).alloc (Nat.le_refl _) (.cells z 72)).alloc (by simp) (.cells #[.string S] 174); have hga := (Below.heap_alloc (w.alloc (.cells z 72)) (.cells #[.string S] 174) w.heap.size (by simp)).trans (heap_alloc_new w (.cells z 72)); have hra := heap_alloc_new (w.alloc (.cells z 72)) (.cells #[.string S] 174); rw [show (w.alloc (.cells z 72)).heap.size = w.heap.size + 1 by simp] at hra
  generalize hwa : (w.alloc (.cells z 72)).alloc (.cells #[.string S] 174) = wa at *
  have BA := hyd hba; have GA := hyd hga; have RA := hyd (show RdAt wa (w.heap.size + 1) s from by unfold RdAt; rw [HSS.out]; exact hra); clear hga hra hwa hba; refine (CI.out _ RA.out BA.out).mono ?_; rintro e wb ⟨rfl, hgb, hob⟩; have BB := hyd (BA.out.trans (hob.below (B := w.heap.size) (Nat.le_succ _) BA.out.size)); have GB := hyd ((hob.block w.heap.size (lt_of_heap GA.out) (Nat.ne_of_lt (Nat.lt_succ_self _))).trans GA.out); have RB := hyd hgb; clear hgb hob
  go_wp2_with (first
   | (with_reducible refine wpList_store_all rfl 24 (.tmp 5) (.tmp 15) rfl wb.heap.size T rfl rfl 24 y (heap_alloc_new wb _) IT.out (HT20.out.trans YS.out.symm) HT1.out ?_)
   | fail)
  intro wb2 hgb2 hob2 hsb2; have hbb2 := ((Below.refl wb.heap.size wb).alloc (Nat.le_refl _) (.cells y 24)).trans (hob2.below (Nat.le_refl _) (by simp)); have BC := hyd (BB.out.trans (hbb2.mono BB.out.size)); have GC := hyd ((hbb2.block w.heap.size (lt_of_heap GB.out)).trans GB.out); have RC := hyd (rd_keep RB.out hbb2); have K5C := hyd hgb2; have LT5 := hyd (show w.heap.size + 1 < wb.heap.size from lt_of_heap RB.out); clear hgb2 hob2 hsb2 hbb2; have HQ1 := HQ; clear HQ; have CP := rdparents_is (w.heap.size + 1) q1 w wb2 TB.out (Nat.le_succ _) BC.out RC.out (by have := L1.out; have := HS.out; omega)
  go_wp2_with fail
  refine CP.mono ?_; rintro e wd ⟨v, b, q2, ps, rfl, hgd, hl2, hod, hcase⟩; have HCASE := hyd hcase; have L3 := hyd hl2; have WS := hyd (show w.heap.size + 1 < wb2.heap.size from lt_of_heap RC.out); clear hcase hl2 CP; have BD := hyd (BC.out.trans (hod.below (B := w.heap.size) (Nat.le_succ _) BC.out.size)); have GD := hyd ((hod.block w.heap.size (lt_of_heap GC.out) (Nat.ne_of_lt (Nat.lt_succ_self _))).trans GC.out); have RD := hyd hgd; have K5D := hyd ((hod.block wb.heap.size (lt_of_heap K5C.out) (by have := LT5.out; omega)).trans K5C.out); clear hgd hod
  rcases HCASE.out with ⟨hb, hpq, hown, h16, hpi⟩ | ⟨hb, hpq, hv⟩
  case inr =>
   subst hb; subst hv; have NONE := hyd (show RQ = none by rw [HQ1.out, hpq]); clear hpq HCASE
   go_wp2_with (first
    | (refine wpList_build_none rfl 72 rfl _ ZB.out ?_)
    | (with_reducible refine wpList_store_all rfl 72 (.tmp 2) (.tmp 26) rfl w.heap.size z rfl rfl 72 z GD.out IZ.out rfl Z1.out ?_)
    | fail)
   intro wz hgz hoz hsz; have BZ := hyd (BD.out.trans (hoz.below (B := w.heap.size) (Nat.le_refl _) BD.out.size)); have GZ := hyd hgz; clear hgz hoz hsz; go_wp2; exact bodyPost_ret (results_rec Tryz.results86 _ _ w.heap.size z (0, 0) _ rfl rfl GZ.out ZS.out) rfl ⟨_, _, rfl, BZ.out, ZS.out, Z1.out, .inr ⟨rfl, NONE.out⟩⟩
  subst hb; have hq := HQ1.out; rw [hpq] at hq
  dsimp only at hq
  have HQ2 := hyd hq; clear hq; have OWD := hyd hown; have H16 := hyd h16; have HPI := hyd hpi; obtain ⟨pa, cap, hv, hcap, hcm, hids, hnil⟩ := ownD_ids hown hpi; have HCAP := hyd hcap; have HCM := hyd hcm; have HNIL := hyd hnil; have HV := hyd hv; clear hpq HCASE HQ1 hown h16 hpi hcap hcm hids hnil; obtain ⟨pn, hpn⟩ : ∃ pn, ps.length = pn := ⟨_, rfl⟩; have HPN := hyd hpn; rw [hpn] at hv; subst hv; clear hpn; obtain ⟨l4, l5, l6⟩ := identP_len q2 authorW; have L4 := hyd l4; have L5 := hyd l5; have L6 := hyd l6; have CA := rdident_is (w.heap.size + 1) q2 authorV w wd TB.out (Nat.le_succ _) BD.out RD.out (by have := L1.out; have := L3.out; have := HS.out; omega) (by decide) (by rw [authorV_W]; exact noEol_author); rw [authorV_W, show authorV = [97, 117, 116, 104, 111, 114] from rfl] at CA; have HA1 := hyd (arrI9_one (identP q2 authorW).1); obtain ⟨au, hau⟩ : ∃ au, (identP q2 authorW).1 = au := ⟨_, rfl⟩; obtain ⟨q3, hq3⟩ : ∃ q3, (identP q2 authorW).2.2 = q3 := ⟨_, rfl⟩; rw [hau] at HQ2 CA L5 L6 HA1; rw [hq3] at HQ2 CA L4; clear l4 l5 l6; have HA4 := hyd (arrI9_size au); obtain ⟨AU, hAU⟩ : ∃ AU, arrI9 au = AU := ⟨_, rfl⟩; rw [hAU] at CA HA1 HA4; have IA := hyd (show (Tryz.prog.info? 70).map (·.size) = some AU.size by rw [HA4.out]; exact infoT); have HAU := hyd hAU; clear hAU
  cases hb2 : (identP q2 authorW).2.1 with
  | false =>
   rw [hb2] at CA HQ2; rw [if_neg (by decide)] at HQ2; clear hau hq3 hb2
   go_wp2_with fail
   refine CA.mono ?_; rintro e we ⟨rfl, hge, hoe⟩; have OWE := hyd (ownD_off OWD.out hoe WS.out); have BE := hyd (BD.out.trans (hoe.below (B := w.heap.size) (Nat.le_succ _) BD.out.size)); have GE := hyd ((hoe.block w.heap.size (lt_of_heap GD.out) (Nat.ne_of_lt (Nat.lt_succ_self _))).trans GD.out); have RE := hyd hge; have K5E := hyd ((hoe.block wb.heap.size (lt_of_heap K5D.out) (by have := LT5.out; omega)).trans K5D.out); clear hge hoe
   go_wp2_with (first
    | (with_reducible refine wpList_store_all rfl 70 (.tmp 8) (.tmp 29) rfl we.heap.size AU rfl rfl 70 x (heap_alloc_new we _) IA.out (HA4.out.trans XS.out.symm) HA1.out ?_)
    | fail)
   intro we2 hge2 hoe2 hse2; have hbe2 := ((Below.refl we.heap.size we).alloc (Nat.le_refl _) (.cells x 70)).trans (hoe2.below (Nat.le_refl _) (by simp)); have BF := hyd (BE.out.trans (hbe2.mono BE.out.size)); have GF := hyd ((hbe2.block w.heap.size (lt_of_heap GE.out)).trans GE.out); have RF := hyd (rd_keep RE.out hbe2); have K8F := hyd hge2; have LT8 := hyd (show w.heap.size + 1 < we.heap.size from lt_of_heap RE.out); have K5F := hyd ((hbe2.block wb.heap.size (lt_of_heap K5E.out)).trans K5E.out); clear hge2 hoe2 hse2 hbe2; have NONE := hyd (show RQ = none from HQ2.out)
   go_wp2_with (first
    | (refine wpList_build_none rfl 72 rfl _ ZB.out ?_)
    | (with_reducible refine wpList_store_all rfl 72 (.tmp 2) (.tmp 33) rfl w.heap.size z rfl rfl 72 z GF.out IZ.out rfl Z1.out ?_)
    | fail)
   intro wz hgz hoz hsz; have BZ := hyd (BF.out.trans (hoz.below (B := w.heap.size) (Nat.le_refl _) BF.out.size)); have GZ := hyd hgz; clear hgz hoz hsz; go_wp2; exact bodyPost_ret (results_rec Tryz.results86 _ _ w.heap.size z (0, 0) _ rfl rfl GZ.out ZS.out) rfl ⟨_, _, rfl, BZ.out, ZS.out, Z1.out, .inr ⟨rfl, NONE.out⟩⟩
  | true =>
   rw [hb2] at CA HQ2; rw [if_pos rfl] at HQ2; clear hau hq3 hb2
   go_wp2_with fail
   refine CA.mono ?_; rintro e we ⟨rfl, hge, hoe⟩; have OWE := hyd (ownD_off OWD.out hoe WS.out); have BE := hyd (BD.out.trans (hoe.below (B := w.heap.size) (Nat.le_succ _) BD.out.size)); have GE := hyd ((hoe.block w.heap.size (lt_of_heap GD.out) (Nat.ne_of_lt (Nat.lt_succ_self _))).trans GD.out); have RE := hyd hge; have K5E := hyd ((hoe.block wb.heap.size (lt_of_heap K5D.out) (by have := LT5.out; omega)).trans K5D.out); clear hge hoe
   go_wp2_with (first
    | (with_reducible refine wpList_store_all rfl 70 (.tmp 8) (.tmp 29) rfl we.heap.size AU rfl rfl 70 x (heap_alloc_new we _) IA.out (HA4.out.trans XS.out.symm) HA1.out ?_)
    | fail)
   intro we2 hge2 hoe2 hse2; have hbe2 := ((Below.refl we.heap.size we).alloc (Nat.le_refl _) (.cells x 70)).trans (hoe2.below (Nat.le_refl _) (by simp)); have BF := hyd (BE.out.trans (hbe2.mono BE.out.size)); have GF := hyd ((hbe2.block w.heap.size (lt_of_heap GE.out)).trans GE.out); have RF := hyd (rd_keep RE.out hbe2); have K8F := hyd hge2; have LT8 := hyd (show w.heap.size + 1 < we.heap.size from lt_of_heap RE.out); have K5F := hyd ((hbe2.block wb.heap.size (lt_of_heap K5E.out)).trans K5E.out); have OWF := hyd (ownD_below OWE.out hbe2); clear hge2 hoe2 hse2 hbe2; have HQ3 := HQ2; clear HQ2 CA; obtain ⟨l7, l8, l9⟩ := identP_len q3 committerW; have L7 := hyd l7; have L8 := hyd l8; have L9 := hyd l9; have CC := rdident_is (w.heap.size + 1) q3 committerV w we2 TB.out (Nat.le_succ _) BF.out RF.out (by have := L1.out; have := L3.out; have := L4.out; have := HS.out; omega) (by decide) (by rw [committerV_W]; exact noEol_committer); rw [committerV_W, show committerV = [99, 111, 109, 109, 105, 116, 116, 101, 114] from rfl] at CC; have HC1 := hyd (arrI9_one (identP q3 committerW).1); obtain ⟨co, hco⟩ : ∃ co, (identP q3 committerW).1 = co := ⟨_, rfl⟩; obtain ⟨q4, hq4⟩ : ∃ q4, (identP q3 committerW).2.2 = q4 := ⟨_, rfl⟩; rw [hco] at HQ3 CC L8 L9 HC1; rw [hq4] at HQ3 CC L7; clear l7 l8 l9; have HC4 := hyd (arrI9_size co); obtain ⟨CO, hCO⟩ : ∃ CO, arrI9 co = CO := ⟨_, rfl⟩; rw [hCO] at CC HC1 HC4; have IC := hyd (show (Tryz.prog.info? 70).map (·.size) = some CO.size by rw [HC4.out]; exact infoT)
   have HCO := hyd hCO; clear hCO
   cases hb3 : (identP q3 committerW).2.1 with
   | false =>
    rw [hb3] at CC HQ3; rw [if_neg (by decide)] at HQ3; clear hco hq4 hb3
    go_wp2_with fail
    refine CC.mono ?_; rintro e wg ⟨rfl, hgg, hog⟩; have OWG := hyd (ownD_off OWF.out hog WS.out); have BG := hyd (BF.out.trans (hog.below (B := w.heap.size) (Nat.le_succ _) BF.out.size)); have GG := hyd ((hog.block w.heap.size (lt_of_heap GF.out) (Nat.ne_of_lt (Nat.lt_succ_self _))).trans GF.out); have RG := hyd hgg; have K5G := hyd ((hog.block wb.heap.size (lt_of_heap K5F.out) (by have := LT5.out; omega)).trans K5F.out); have K8G := hyd ((hog.block we.heap.size (lt_of_heap K8F.out) (by have := LT8.out; omega)).trans K8F.out); clear hgg hog
    go_wp2_with (first
     | (with_reducible refine wpList_store_all rfl 70 (.tmp 9) (.tmp 36) rfl wg.heap.size CO rfl rfl 70 x (heap_alloc_new wg _) IC.out (HC4.out.trans XS.out.symm) HC1.out ?_)
     | fail)
    intro wg2 hgg2 hog2 hsg2; have hbg2 := ((Below.refl wg.heap.size wg).alloc (Nat.le_refl _) (.cells x 70)).trans (hog2.below (Nat.le_refl _) (by simp)); have BH := hyd (BG.out.trans (hbg2.mono BG.out.size)); have GH := hyd ((hbg2.block w.heap.size (lt_of_heap GG.out)).trans GG.out); have RH := hyd (rd_keep RG.out hbg2); have K9H := hyd hgg2; have LT9 := hyd (show w.heap.size + 1 < wg.heap.size from lt_of_heap RG.out); have K5H := hyd ((hbg2.block wb.heap.size (lt_of_heap K5G.out)).trans K5G.out); have K8H := hyd ((hbg2.block we.heap.size (lt_of_heap K8G.out)).trans K8G.out); clear hgg2 hog2 hsg2 hbg2; have NONE := hyd (show RQ = none from HQ3.out)
    go_wp2_with (first
     | (refine wpList_build_none rfl 72 rfl _ ZB.out ?_)
     | (with_reducible refine wpList_store_all rfl 72 (.tmp 2) (.tmp 40) rfl w.heap.size z rfl rfl 72 z GH.out IZ.out rfl Z1.out ?_)
     | fail)
    intro wz hgz hoz hsz; have BZ := hyd (BH.out.trans (hoz.below (B := w.heap.size) (Nat.le_refl _) BH.out.size)); have GZ := hyd hgz; clear hgz hoz hsz; go_wp2; exact bodyPost_ret (results_rec Tryz.results86 _ _ w.heap.size z (0, 0) _ rfl rfl GZ.out ZS.out) rfl ⟨_, _, rfl, BZ.out, ZS.out, Z1.out, .inr ⟨rfl, NONE.out⟩⟩
   | true =>
    rw [hb3] at CC HQ3; rw [if_pos rfl] at HQ3; clear hco hq4 hb3
    go_wp2_with fail
    refine CC.mono ?_; rintro e wg ⟨rfl, hgg, hog⟩; have OWG := hyd (ownD_off OWF.out hog WS.out); have BG := hyd (BF.out.trans (hog.below (B := w.heap.size) (Nat.le_succ _) BF.out.size)); have GG := hyd ((hog.block w.heap.size (lt_of_heap GF.out) (Nat.ne_of_lt (Nat.lt_succ_self _))).trans GF.out); have RG := hyd hgg; have K5G := hyd ((hog.block wb.heap.size (lt_of_heap K5F.out) (by have := LT5.out; omega)).trans K5F.out); have K8G := hyd ((hog.block we.heap.size (lt_of_heap K8F.out) (by have := LT8.out; omega)).trans K8F.out); clear hgg hog
    go_wp2_with (first
     | (with_reducible refine wpList_store_all rfl 70 (.tmp 9) (.tmp 36) rfl wg.heap.size CO rfl rfl 70 x (heap_alloc_new wg _) IC.out (HC4.out.trans XS.out.symm) HC1.out ?_)
     | fail)
    intro wg2 hgg2 hog2 hsg2; have hbg2 := ((Below.refl wg.heap.size wg).alloc (Nat.le_refl _) (.cells x 70)).trans (hog2.below (Nat.le_refl _) (by simp)); have BH := hyd (BG.out.trans (hbg2.mono BG.out.size)); have GH := hyd ((hbg2.block w.heap.size (lt_of_heap GG.out)).trans GG.out); have RH := hyd (rd_keep RG.out hbg2); have K9H := hyd hgg2; have LT9 := hyd (show w.heap.size + 1 < wg.heap.size from lt_of_heap RG.out); have K5H := hyd ((hbg2.block wb.heap.size (lt_of_heap K5G.out)).trans K5G.out); have K8H := hyd ((hbg2.block we.heap.size (lt_of_heap K8G.out)).trans K8G.out); have OWH := hyd (ownD_below OWG.out hbg2); clear hgg2 hog2 hsg2 hbg2; have HQ4 := HQ3; clear HQ3 CC; obtain ⟨b10, hbx⟩ : ∃ b10, Lib.hasPrefix q4 [10] = b10 := ⟨_, rfl⟩; obtain ⟨tx, htx⟩ : ∃ tx, Lib.trimPrefix q4 [10] = tx := ⟨_, rfl⟩
    have c10 := fun u => Tryz.strings_CutPrefix ⟨q4.toArray⟩ ⟨#[10]⟩ u
    rw [show (⟨q4.toArray⟩ : ByteArray).data.toList = q4 from rfl, show (⟨#[10]⟩ : ByteArray).data.toList = [10] from rfl, hbx, htx] at c10
    have HEND := hyd (show (b10 = true ∧ RQ = some ⟨t, ps, au, co, tx⟩) ∨ (b10 = false ∧ RQ = none) by
     rw [HQ4.out]
     cases q4 with
     | nil => exact .inr ⟨hbx.symm.trans rfl, rfl⟩
     | cons d r =>
      by_cases hd : d = 10
      ·subst hd
       have e1 : Lib.hasPrefix (10 :: r) [10] = true := by simp [Lib.hasPrefix, List.isPrefixOf]
       have e2 : Lib.trimPrefix (10 :: r) [10] = r := by simp [Lib.trimPrefix, Lib.hasPrefix, List.isPrefixOf]
       refine .inl ⟨hbx.symm.trans e1, ?_⟩; rw [← htx, e2]; simp only [if_pos]
      ·have e1 : Lib.hasPrefix (d :: r) [10] = false := by simp [Lib.hasPrefix, List.isPrefixOf]; exact fun e => hd e.symm
       exact .inr ⟨hbx.symm.trans e1, by simp only [if_neg hd]⟩)
    clear HQ4 hbx htx
    have q0 : wg2.cell? ⟨w.heap.size + 1, 0, none⟩ = some (.string ⟨q4.toArray⟩) := by rw [Lib.cell_of_heap RH.out]; rfl
    have hbuilt := built_rec t L2.out pa pn cap au co tx; obtain ⟨A, hA⟩ : ∃ A, arrC t (.slice pa pn cap) au co tx = A := ⟨_, rfl⟩; have HAA := hyd hA; have HAS := hyd (show A.size = 30 by rw [← hA]; exact arrC_size _ _ _ _ _ L2.out); have HAO := hyd (show A.all (·.oneCell') = true by rw [← hA]; exact arrC_one _ _ _ _ _ _ _); rw [hA, HT.out, show (cellsT au).toArray = AU from HAU.out, show (cellsT co).toArray = CO from HCO.out] at hbuilt; have HBU := hyd hbuilt; have IAA := hyd (infoC_arr A HAS.out); clear hA hbuilt; obtain ⟨TX, hTX⟩ : ∃ TX : ByteArray, ⟨tx.toArray⟩ = TX := ⟨_, rfl⟩; rw [hTX] at c10 HBU; clear hTX
    generalize (⟨q4.toArray⟩ : ByteArray) = Q4 at *
    go_wp2_with fail
    refine (c10 _).mono ?_; rintro e wh ⟨rfl, hE⟩; subst hE
    go_wp2_with (first
     | (with_reducible refine wpList_load_all 24 (.tmp 5) rfl (by kernel_rfl) wb.heap.size T 24 (0, 0) rfl K5H.out _ Tryz.underlying24 rfl IT.out ?_)
     | (with_reducible refine wpList_load_all 70 (.tmp 8) rfl (by kernel_rfl) we.heap.size AU 70 (0, 0) rfl K8H.out _ Tryz.underlying70 rfl IA.out ?_)
     | (with_reducible refine wpList_load_all 70 (.tmp 9) rfl (by kernel_rfl) wg.heap.size CO 70 (0, 0) rfl K9H.out _ Tryz.underlying70 rfl IC.out ?_)
     | (refine wpList_build_five rfl 72 0 1 2 3 4 (.tmp 47) (.tmp 48) (.tmp 49) (.tmp 50) (.tmp 51) rfl (.agg T) (.slice pa pn cap) (.agg AU) (.agg CO) (.string TX) rfl rfl rfl rfl rfl _ HBU.out ?_)
     | (with_reducible refine wpList_store_all rfl 72 (.tmp 2) (.tmp 52) rfl w.heap.size A rfl rfl 72 z GH.out IAA.out (HAS.out.trans ZS.out.symm) HAO.out ?_)
     | fail)
    intro wz hgz hoz hsz; have BZ := hyd (BH.out.trans (hoz.below (B := w.heap.size) (Nat.le_refl _) BH.out.size)); have GZ := hyd hgz; have OWZ := hyd (ownD_off OWH.out hoz (Nat.lt_of_lt_of_le (Nat.lt_succ_self _) (Nat.le_of_lt WS.out))); clear hgz hoz hsz; go_wp2; refine bodyPost_ret (results_rec Tryz.results86 _ _ w.heap.size A (0, 0) _ rfl rfl GZ.out HAS.out) rfl ⟨_, _, rfl, BZ.out, HAS.out, HAO.out, ?_⟩
    rcases HEND.out with ⟨hb, hq⟩ | ⟨hb, hq⟩
    ·refine .inl ⟨hb, _, pa, cap, hq, ?_, ?_, ⟨L2.out, HPI.out⟩, H16.out, L5.out, L6.out, L8.out, L9.out⟩
     ·show A = arrC t (.slice pa ps.length cap) au co tx
      rw [HPN.out]; exact HAA.out.symm
     ·show OwnD w.heap.size (.slice pa ps.length cap) ps wz
      rw [HPN.out]; exact ownD_mono OWZ.out (Nat.le_of_lt (Nat.lt_trans (Nat.lt_succ_self _) WS.out))
    ·exact .inr ⟨hb, hq⟩
def parsedR (s : List UInt8) : Rcd × Int := match parseK s with
 | none => (rcdZ, 4)
 | some c => (c, 0)
theorem Parse9_is (a : Option Addr) (n cp : Nat) (bs : List UInt8) (w : World) (tab : T7 w) (hn : n = bs.length) (hb : BAt w a bs) (hs : n ≤ 1000000) :
  Calls Tryz.prog 62 #[.slice a n cp] w fun e w' => ∃ A, e = .returned (.tuple #[.agg A, .int .i64 (parsedR bs).2]) ∧ RecRed w' A (parsedR bs).1 ∧ Below w.heap.size w w' := by
 subst hn; obtain ⟨z, hz0, hzs, hzv, hzb, hz1⟩ := zRec_any; have ZS := hyd hzs; have ZB := hyd hzb; have Z1 := hyd hz1; have Z0 := hyd hz0; have IZ := hyd (infoC_arr z hzs); have hb1 := (Below.refl w.heap.size w).alloc (Nat.le_refl _) (.cells z 72); have B1 := hyd hb1; have G1 := hyd (heap_alloc_new w (.cells z 72)); have cv := (hb.keep hb1).conv (P := Tryz.prog) cp 32 5 Tryz.underlying32 Tryz.underlying5 9 Tryz.underlying9; have TB := hyd tab; have CR := hyd (record9_is bs (w.alloc (.cells z 72)) (tab.keep hb1) hs); have HPW := hyd (parse_way9 bs); obtain ⟨RQ, hRQ⟩ : ∃ RQ, recQ bs = RQ := ⟨_, rfl⟩; rw [hRQ] at CR HPW; obtain ⟨PR, hPR⟩ : ∃ PR, parsedR bs = PR := ⟨_, rfl⟩; have HPR := hyd (show PR = match parseK bs with | none => (rcdZ, 4) | some c => (c, 0) from hPR.symm); rw [HPW.out] at HPR; rw [hPR]; clear hz0 hzs hzb hz1 hb1 hb tab hRQ hPR hs
 generalize (⟨bs.toArray⟩ : ByteArray) = S at *
 generalize bs.length = n at *
 go_enter Tryz.func62, Tryz.ntmps62
 go_wp2_with fail
 refine CR.out.mono ?_; rintro e wb ⟨A, b, rfl, hbb, hAs, hA1, hcase⟩; have HAS := hyd hAs; have HA1 := hyd hA1; have HCASE := hyd hcase; have BB := hyd (B1.out.trans (hbb.mono B1.out.size)); have GB := hyd (heap_keep G1.out hbb); have IA := hyd (infoC_arr A hAs); clear hAs hA1 hcase hbb CR cv
 go_wp2_with (first
  | (with_reducible refine wpList_store_all rfl 72 (.tmp 4) (.tmp 10) rfl wb.heap.size A rfl rfl 72 z (heap_alloc_new wb _) IA.out (HAS.out.trans ZS.out.symm) HA1.out ?_)
  | fail)
 intro wc hgc hoc hsc; have hbc := ((Below.refl wb.heap.size wb).alloc (Nat.le_refl _) (.cells z 72)).trans (hoc.below (Nat.le_refl _) (by simp)); have HBC := hyd hbc; have BC := hyd (BB.out.trans (hbc.mono BB.out.size)); have GC := hyd (heap_keep GB.out hbc); have KC := hyd hgc; have LT := hyd (show w.heap.size < wb.heap.size from lt_of_heap GB.out); clear hgc hoc hsc hbc
 rcases HCASE.out with ⟨hb, c, pa, cap, hq, hA, hown, hfit, h16, n1, n2, n3, n4⟩ | ⟨hb, hq⟩
 case inr =>
  subst hb; have HE := hyd (show PR = (rcdZ, 4) by rw [HPR.out, hq]); clear hq HCASE; obtain rfl := HE.out
  go_wp2_with (first
   | (refine wpList_build_none rfl 72 rfl _ ZB.out ?_)
   | (with_reducible refine wpList_store_all rfl 72 (.tmp 2) (.tmp 19) rfl w.heap.size z rfl rfl 72 z GC.out IZ.out rfl Z1.out ?_)
   | fail)
  intro wz hgz hoz hsz; have BZ := hyd (BC.out.trans (hoz.below (B := w.heap.size) (Nat.le_refl _) BC.out.size)); have GZ := hyd hgz; clear hgz hoz hsz; go_wp2; exact bodyPost_ret (results_rec Tryz.results62 _ _ w.heap.size z (0, 0) _ rfl rfl GZ.out ZS.out) rfl ⟨_, rfl, by rw [Z0.out]; exact recRed_zero _, BZ.out⟩
 subst hb; have S1 := hyd (show (w.alloc (.cells z 72)).heap.size = w.heap.size + 1 by simp); rw [S1.out] at hown; have HFIT := hyd hfit; have howc := ownD_below hown HBC.out; have OWC := hyd howc
 obtain ⟨hcap, hidc⟩ : c.parents.length ≤ cap ∧ IdsAt wc pa c.parents := by
  obtain ⟨pa2, cap2, hv, q1, q2, q3, q4⟩ := ownD_ids howc hfit.parents
  cases hv
  exact ⟨q1, q3⟩
 have CRT := hyd (Right9_is c.tree pa c.parents.length cap c.parents c.author c.committer c.text wc (TB.out.keep BC.out).t6 hfit.tree hidc rfl (by omega) hcap hfit.parents (by omega) (by omega) (by omega) (by omega)); rw [← hA] at CRT; have HAE := hyd hA; clear hfit hcap hidc h16 n1 n2 n3 n4 hA hown howc
 cases hr : rightR c with
 | false =>
  have HE := hyd (show PR = (rcdZ, 4) by rw [HPR.out, hq]; simp only; rw [hr]; rfl); rw [show rightR ⟨c.tree, c.parents, c.author, c.committer, c.text⟩ = false from hr] at CRT; clear hq HCASE hr; obtain rfl := HE.out
  go_wp2_with (first
   | (with_reducible refine wpList_load_all 72 (.tmp 4) rfl (by kernel_rfl) wb.heap.size A 72 (0, 0) rfl KC.out _ Tryz.underlying72 rfl IA.out ?_)
   | fail)
  refine CRT.out.mono ?_; rintro e wd ⟨rfl, hbd⟩; have BD := hyd (BC.out.trans (hbd.mono BC.out.size)); have GD := hyd (heap_keep GC.out hbd); clear hbd CRT
  go_wp2_with (first
   | (refine wpList_build_none rfl 72 rfl _ ZB.out ?_)
   | (with_reducible refine wpList_store_all rfl 72 (.tmp 2) (.tmp 19) rfl w.heap.size z rfl rfl 72 z GD.out IZ.out rfl Z1.out ?_)
   | fail)
  intro wz hgz hoz hsz; have BZ := hyd (BD.out.trans (hoz.below (B := w.heap.size) (Nat.le_refl _) BD.out.size)); have GZ := hyd hgz; clear hgz hoz hsz; go_wp2; exact bodyPost_ret (results_rec Tryz.results62 _ _ w.heap.size z (0, 0) _ rfl rfl GZ.out ZS.out) rfl ⟨_, rfl, by rw [Z0.out]; exact recRed_zero _, BZ.out⟩
 | true =>
  have HE := hyd (show PR = (c, 0) by rw [HPR.out, hq]; simp only; rw [if_pos hr]); rw [show rightR ⟨c.tree, c.parents, c.author, c.committer, c.text⟩ = true from hr] at CRT; clear hq HCASE hr; obtain rfl := HE.out
  go_wp2_with (first
   | (with_reducible refine wpList_load_all 72 (.tmp 4) rfl (by kernel_rfl) wb.heap.size A 72 (0, 0) rfl KC.out _ Tryz.underlying72 rfl IA.out ?_)
   | fail)
  refine CRT.out.mono ?_; rintro e wd ⟨rfl, hbd⟩; have BD := hyd (BC.out.trans (hbd.mono BC.out.size)); have GD := hyd (heap_keep GC.out hbd); have KD := hyd (heap_keep KC.out hbd); have OWD := hyd (ownD_below OWC.out hbd); clear hbd CRT
  go_wp2_with (first
   | (with_reducible refine wpList_load_all 72 (.tmp 4) rfl (by kernel_rfl) wb.heap.size A 72 (0, 0) rfl KD.out _ Tryz.underlying72 rfl IA.out ?_)
   | (with_reducible refine wpList_store_all rfl 72 (.tmp 2) (.tmp 20) rfl w.heap.size A rfl rfl 72 z GD.out IA.out (HAS.out.trans ZS.out.symm) HA1.out ?_)
   | fail)
  intro wz hgz hoz hsz; have BZ := hyd (BD.out.trans (hoz.below (B := w.heap.size) (Nat.le_refl _) BD.out.size)); have GZ := hyd hgz; have OWZ := hyd (ownD_off OWD.out hoz (Nat.lt_succ_self _)); clear hgz hoz hsz; go_wp2; refine bodyPost_ret (results_rec Tryz.results62 _ _ w.heap.size A (0, 0) _ rfl rfl GZ.out HAS.out) rfl ⟨_, rfl, ?_, BZ.out⟩; rw [HAE.out]; exact ownD_red OWZ.out HFIT.out
theorem find_eol (s : List UInt8) : findB s 10 0 = if eolL s < s.length then (eolL s : Int) else -1 := by
 unfold findB eolL; simp only [List.drop_zero]
 by_cases h : s.findIdx (· == 10) < s.length
 ·rw [if_pos h, if_pos h]; simp
 ·rw [if_neg h, if_neg h]
def lineR (s w : List UInt8) : List UInt8 × List UInt8 × Bool := match lineL s w with
 | some (x, r) => (x, r, true)
 | none => ([], s, false)
theorem rline_is (s v : List UInt8) (hs : s.length ≤ 1000000) (hv : v.length ≤ 100) (w : World) :
  Calls Tryz.prog 88 #[.string ⟨s.toArray⟩, .string ⟨v.toArray⟩] w fun e w' => e = .returned (.tuple #[.string ⟨(lineR s v).1.toArray⟩, .string ⟨(lineR s v).2.1.toArray⟩, .bool (lineR s v).2.2]) ∧ Below w.heap.size w w' := by
 have F := Find_byte 10 s 0 hs (Nat.zero_le _) w; rw [find_eol] at F; have z1 := size_toArray s; have z2 := size_toArray v
 by_cases h : eolL s < s.length
 ·rw [if_pos h] at F
  have B := Begins_is (s.take (eolL s)) v (by rw [List.length_take]; omega) (by omega) w; have x1 := cutt_list s 0 (eolL s); rw [List.drop_zero, Nat.sub_zero] at x1
  by_cases hb : (s.take (eolL s)).take v.length = v
  ·have hr : lineR s v = ((s.take (eolL s)).drop v.length, s.drop (eolL s + 1), true) := by
    unfold lineR lineL; rw [if_pos ⟨h, hb⟩]
   rw [hr]
   have hlen : v.length ≤ eolL s := by
    have := congrArg List.length hb; rw [List.length_take, List.length_take] at this
    omega
   have x2 := cutt_list s v.length (eolL s); rw [← List.drop_take] at x2; have x3 := cutt_list s (eolL s + 1) s.length; rw [List.take_of_length_le (by rw [List.length_drop]; omega)] at x3; rw [beq_iff_eq.2 hb] at B; have hsm := hs; clear hr hb
   generalize (s.take (eolL s)).drop v.length = y2 at *
   generalize s.drop (eolL s + 1) = y3 at *
   generalize s.take (eolL s) = y1 at *
   generalize eolL s = k at *
   generalize s.length = n at *
   generalize v.length = m at *
   generalize (⟨s.toArray⟩ : ByteArray) = S at *
   generalize (⟨v.toArray⟩ : ByteArray) = V at *
   go_enter Tryz.func88, Tryz.ntmps88
   go_wp2_with fail
   refine F.mono ?_; rintro e w1 ⟨rfl, rfl⟩
   go_wp2_with fail
   refine B.mono ?_; rintro e w1 ⟨rfl, rfl⟩
   go_wp2_with fail
   refine rgB w (fun hd => ?_)
   have gw : IntKind.i64.wrap ((k : Int) + 1) = ((k + 1 : Nat) : Int) := by
    rw [IntKind.wrap_i64]
    omega
   refine tkW 0 rfl hd ?_; refine tkW 1 rfl hd ?_; refine tkW 2 rfl hd ?_; refine tkW 3 rfl hd ?_; refine tkW 4 rfl hd ?_; refine tkW 5 rfl hd ?_; refine tkW 6 rfl hd ?_; refine tkW 7 rfl hd ?_; refine tkV 8 rfl (.string ⟨y3.toArray⟩) ?hy8 hd ?_
   case hy8 => intro u hu; go_simp; intro hq; exact absurd (hq (by omega)) (by omega)
   refine tkW 9 rfl hd ?_; refine tkW 10 rfl hd ?_; refine tkW 11 rfl hd ?_
   try simp only [Act.put, lgA, lgS, lgZ, lsA, lsZ, lsS]
   refine wpAnyH_done (by kernel_rfl) ?_ _; clear gw; have HB := hyd hd; clear hd; go_wp2
   go_ret3
   exact ⟨rfl, HB.out⟩
  ·have hr : lineR s v = ([], s, false) := by
    unfold lineR lineL; rw [if_neg (fun q => hb q.2)]
   rw [hr]; rw [beq_eq_false_iff_ne.2 hb] at B; clear hr hb
   generalize s.take (eolL s) = y1 at *
   generalize eolL s = k at *
   generalize s.length = n at *
   generalize (⟨s.toArray⟩ : ByteArray) = S at *
   generalize (⟨v.toArray⟩ : ByteArray) = V at *
   go_enter Tryz.func88, Tryz.ntmps88
   go_wp2_with fail
   refine F.mono ?_; rintro e w1 ⟨rfl, rfl⟩
   go_wp2_with fail
   refine B.mono ?_; rintro e w1 ⟨rfl, rfl⟩
   go_wp2_with fail
   go_ret3
   exact ⟨rfl, Below.refl _ _⟩
 ·rw [if_neg h] at F
  have hr : lineR s v = ([], s, false) := by
   unfold lineR lineL; rw [if_neg (fun q => h q.1)]
  rw [hr]; clear hr h
  generalize (⟨s.toArray⟩ : ByteArray) = S at *
  generalize (⟨v.toArray⟩ : ByteArray) = V at *
  go_enter Tryz.func88, Tryz.ntmps88
  go_wp2_with fail
  refine F.mono ?_; rintro e w1 ⟨rfl, rfl⟩
  go_wp2_with fail
  go_ret3
  exact ⟨rfl, Below.refl _ _⟩
theorem eq_idD (i j : List UInt8) (hi : i.length = 20) (hj : j.length = 20) (w : World) :
  Calls Tryz.prog 38 #[.agg (arrD i), .agg (arrD j)] w fun e w' => e = .returned (.bool (eqD i j)) ∧ Below w.heap.size w w' := by
 have E := fun u => eql_arrD i j hi hj u
 have HA := hyd (arrD_size i hi); have HB := hyd (arrD_size j hj)
 generalize arrD i = A at *
 generalize arrD j = B at *
 generalize eqD i j = r at *
 have b1 := (Below.refl w.heap.size w).alloc (Nat.le_refl _) (.cells A 24); have b2 := b1.alloc b1.size (.cells B 24)
 have e1 : (w.alloc (.cells A 24)).heap.size = w.heap.size + 1 := by simp
 have h1 := (((Below.refl (w.alloc (.cells A 24)).heap.size (w.alloc (.cells A 24))).alloc (Nat.le_refl _) (.cells B 24)).block w.heap.size (by simp)).trans (heap_alloc_new w _); have h2 := heap_alloc_new (w.alloc (.cells A 24)) (.cells B 24); rw [e1] at h2; have H1 := hyd h1; have H2 := hyd h2; have B2 := hyd b2; clear b1 b2 h1 h2 hi hj e1
 go_enter Tryz.func38, Tryz.ntmps38
 go_wp2_with (first
  | (with_reducible refine wpList_load_row rfl 24 (.tmp 2) rfl w.heap.size rfl 24 A (0, 0) _ H1.out Tryz.underlying24 rfl (infoD_arr A HA.out) ?_)
  | (with_reducible refine wpList_load_row rfl 24 (.tmp 3) rfl (w.heap.size + 1) rfl 24 B (0, 0) _ H2.out Tryz.underlying24 rfl (infoD_arr B HB.out) ?_))
 go_ret; exact ⟨rfl, B2.out⟩
theorem SameIds_some (b1 o1 b2 o2 c1 c2 n : Nat) (l : List (List UInt8)) (w : World) (hn : n = l.length) (hm : n ≤ 1000000) (h1 : b1 < w.heap.size) (h2 : b2 < w.heap.size)
  (hc1 : ∀ k (h : k < l.length) j v, (cellsD l[k])[j]? = some v → w.cell? ⟨b1, o1 + k * 20 + j, none⟩ = some v) (hc2 : ∀ k (h : k < l.length) j v, (cellsD l[k])[j]? = some v → w.cell? ⟨b2, o2 + k * 20 + j, none⟩ = some v) (hid : ∀ i ∈ l, i.length = 20) :
  Calls Tryz.prog 37 #[.slice (some ⟨b1, o1, none⟩) n c1, .slice (some ⟨b2, o2, none⟩) n c2, .func (.func 38) #[] #[]] w fun e w' => e = .returned (.bool true) ∧ Below w.heap.size w w' := by
 have HC1 := hyd hc1; have HC2 := hyd hc2; have HID := hyd hid; have HN := hyd hn; clear hc1 hc2 hid hn
 go_enter Tryz.func37, Tryz.ntmps37
 go_wp2_with fail
 go_loopw [7] (fun i wr => ∃ k : Nat, k ≤ n ∧ i = .int .i64 k ∧ Below w.heap.size w wr) (fun i _ => n - (intOf i).toNat)
 case atStart => exact ⟨0, Nat.zero_le _, rfl, Below.refl _ _⟩
 case round =>
  obtain ⟨k, hk, rfl, hbr⟩ := hrel; have HBR := hyd hbr; clear hbr
  by_cases hlt : k < n
  ·have hkl : k < l.length := by rw [← HN.out]; exact hlt
   obtain ⟨x, hx2⟩ : ∃ x, l[k] = x := ⟨_, rfl⟩; have hidx := HID.out x (by rw [← hx2]; exact List.getElem_mem _)
   have r1 : ∀ u, Below wr.heap.size wr u → u.rangeAt b1 (o1 + k * 20) (cellsD x) := fun u hu j v hv =>
    (hu.cell (p := ⟨b1, o1 + k * 20 + j, none⟩) (Nat.lt_of_lt_of_le h1 HBR.out.size)).trans ((HBR.out.cell (p := ⟨b1, o1 + k * 20 + j, none⟩) h1).trans (HC1.out k hkl j v (by rw [hx2]; exact hv)))
   have r2 : ∀ u, Below wr.heap.size wr u → u.rangeAt b2 (o2 + k * 20) (cellsD x) := fun u hu j v hv =>
    (hu.cell (p := ⟨b2, o2 + k * 20 + j, none⟩) (Nat.lt_of_lt_of_le h2 HBR.out.size)).trans ((HBR.out.cell (p := ⟨b2, o2 + k * 20 + j, none⟩) h2).trans (HC2.out k hkl j v (by rw [hx2]; exact hv)))
   have ce : ∀ u, Below wr.heap.size wr u → Calls Tryz.prog 38 #[.agg (cellsD x).toArray, .agg (cellsD x).toArray] u fun e u' => e = .returned (.bool true) ∧ Below wr.heap.size wr u' := fun u hu =>
    (eq_idD x x hidx hidx u).mono fun e u' h => ⟨by rw [h.1, eqD_same], hu.trans (h.2.mono hu.size)⟩
   have ll : (Tryz.prog.info? 24).map (·.size) = some (cellsD x).length := by rw [cellsD_len x hidx]; exact infoD_n
   have R1 := hyd r1; have R2 := hyd r2; have CE := hyd ce; have LX := hyd ll; clear r1 r2 ce ll hx2 hidx
   generalize cellsD x = cx at *
   go_wp2_with fail
   refine rgB wr (fun hd => ?_); refine tkW 0 rfl hd ?_; refine tkW 1 rfl hd ?_; refine tkW 2 rfl hd ?_; refine tkW 3 rfl hd ?_; refine tkH 4 rfl (yieldsIf_load_mid (by kernel_rfl) 24 (.tmp 22) (by kernel_rfl) b1 (o1 + k * 20) (by kernel_rfl) cx _ (fun u hu => R1.out u hu) Tryz.underlying24 rfl LX.out) hd ?_; refine tkW 5 rfl hd ?_; refine tkW 6 rfl hd ?_; refine tkW 7 rfl hd ?_; refine tkH 8 rfl (yieldsIf_load_mid (by kernel_rfl) 24 (.tmp 26) (by kernel_rfl) b2 (o2 + k * 20) (by kernel_rfl) cx _ (fun u hu => R2.out u hu) Tryz.underlying24 rfl LX.out) hd ?_; refine rdH 9 rfl (fun K hK => ?_)
   go_simp
   refine (CE.out _ hd).mono ?_; rintro e u1 ⟨rfl, hH⟩; clear hd; refine hK.out _ _ hH (fun hd => ?_); clear hK K
   try simp only [Act.put, lsA, lsZ, lsS]
   refine tkW 10 rfl hd ?_; refine wpAnyH_done (by kernel_rfl) ?_ _; have HB2 := hyd (HBR.out.trans (hd.mono HBR.out.size)); clear hd; go_wp2
   go_roundw
   case rel => exact ⟨k + 1, by omega, by go_num, HB2.out⟩
   case measure => simp [intOf]; omega
  ·obtain rfl : k = n := by omega
   go_wp2; go_ret; exact ⟨rfl, HBR.out⟩
end Go.Proofs.YtnbcbiglkmdepaaGreatDoor
