/-
  Texts that belong together, one behind the other.
-/
import Derived.Test.YtpelehhmdcjikaaGreatDoorFu18
import Derived.Stop.BytesEq
import Derived.Test.YtpelehhmdcjikaaGreatDoorFu17
import Derived.Test.YtpelehhmdcjikaaGreatDoorFu16
import Derived.Test.YtpelehhmdcjikaaGreatDoorFu02
/-
  Layer 1: Unhex and Id, whatever the text, of the program and of its reference in one form.
-/
namespace Go.Proofs.YtpelehhmdcjikaaGreatDoor
set_option maxRecDepth 20000
open Go.RowKit
set_option linter.unusedVariables false
/-- The id, and the error, of any text. -/
def idR (l : List UInt8) : List UInt8 × Int := match unhexL l with
  | none => (List.replicate 20 0, 4)
  | some t => if t.length = 20 then (t, 0) else (List.replicate 20 0, 4)
theorem idR_bad (l : List UInt8) (h : l.length ≠ 40) : idR l = (List.replicate 20 0, 4) := by
  unfold idR
  cases hu : unhexL l with
  | none => rfl
  | some t => have := (unhex_spec _ _ _ (Nat.le_refl _) hu).1; simp only; rw [if_neg (by omega)]
theorem Id_all (l : List UInt8) (hl : l.length ≤ 1000000) (w : World) :
    Calls Tryz.prog 133 #[.string ⟨l.toArray⟩] w fun e w' => e = .returned (.tuple #[idv (idR l).1, .int .i64 (idR l).2]) ∧ Below w.heap.size w w' := by
  by_cases h40 : l.length = 40
  · unfold idR
    cases h : unhexL l with
    | none => exact Id_bad ⟨l.toArray⟩ w (by rw [size_toArray]; exact h40) h
    | some t =>
      have := (unhex_spec _ _ _ (Nat.le_refl _) h).1
      simp only
      rw [if_pos (by omega)]
      exact Id_good ⟨l.toArray⟩ t w (by rw [size_toArray]; exact h40) h
  · rw [idR_bad l h40]
    exact Id_len ⟨l.toArray⟩ w (by rw [size_toArray]; omega) (by rw [size_toArray]; exact h40)
/-- An array of twenty bytes, as the walks carry it: written out nowhere. -/
structure Arr20 (arr : Array Value) (l : List UInt8) : Prop where
  eq : arr = (Lib.byteCells l).toArray
  len : l.length = 20
theorem Arr20.size {arr : Array Value} {l : List UInt8} (h : Arr20 arr l) : arr.size = 20 := by rw [h.eq, size_bytes, h.len]
theorem Arr20.one {arr : Array Value} {l : List UInt8} (h : Arr20 arr l) : arr.all (·.oneCell') = true := by rw [h.eq]; exact oneCell_all l
theorem Arr20.eql {arr brr : Array Value} {l m : List UInt8} (h : Arr20 arr l) (k : Arr20 brr m) (w : World) : (binOp .eql 24 (.agg arr) (.agg brr)).run Tryz.prog w = .ok (.bool (l == m)) w := by
  rw [h.eq, k.eq]
  exact run_eql_bytes w 24 5 20 Tryz.underlying24 Tryz.underlying5 Tryz.sizeOf5 l m h.len k.len
theorem Arr20.store {arr : Array Value} {l : List UInt8} (h : Arr20 arr l) (w : World) : (storeCells ⟨w.heap.size, 0, none⟩ arr.toList 0).run Tryz.prog (w.alloc (.cells zero20 24)) = .ok () (w.alloc (.cells arr 24)) :=
  run_storeCells_new w 24 zero20 arr (by rw [info29, h.size]) (by rw [h.size]; rfl) h.one
theorem Arr20.load {arr : Array Value} {l : List UInt8} (h : Arr20 arr l) {w : World} {g : Nat} {fr : Nat × Nat} (hg : w.heap[g]? = some (.cells arr 24 fr)) : (loadCellsFrom ⟨g, 0, none⟩ 0 20 #[]).run Tryz.prog w = .ok arr w := by
  have := run_loadCells_list (P := Tryz.prog) w ⟨g, 0, none⟩ arr.toList (fun j v hv => by
    have hadd : (⟨g, 0, none⟩ : Addr).add j = ⟨g, j, none⟩ := by unfold Addr.add; split <;> simp_all
    rw [hadd, cell_of_row _ _ j arr 24 fr hg]
    simpa using hv)
  have e : arr.toList.length = 20 := by rw [Array.length_toList, h.size]
  rw [e] at this
  simpa [loadCells] using this
end Go.Proofs.YtpelehhmdcjikaaGreatDoor

/-
  Layer 1: bytes written are read, and what is read is written so: lists alone.
-/
namespace Go.Proofs.YtpelehhmdcjikaaGreatDoor
open Go.RowKit
set_option linter.unusedVariables false
theorem dg_hexDig' : ∀ n : Fin 16, dg (hexDig n.1) = (n.1 : Int) := by decide
theorem dg_hexDig (n : Nat) (h : n < 16) : dg (hexDig n) = n := dg_hexDig' ⟨n, h⟩
theorem hexDig_dg' : ∀ n : Fin 256, 0 ≤ dg (UInt8.ofNat n.1) → hexDig (dg (UInt8.ofNat n.1)).toNat = UInt8.ofNat n.1 := by decide +kernel
theorem hexDig_dg (c : UInt8) (h : 0 ≤ dg c) : hexDig (dg c).toNat = c := by
  have := hexDig_dg' ⟨c.toNat, c.toNat_lt⟩
  simp only [UInt8.ofNat_toNat] at this
  exact this h
theorem unhex_hex : ∀ l : List UInt8, unhexL (hexL l) = some l
  | [] => rfl
  | c :: r => by
    have hc := c.toNat_lt
    simp only [hexL, unhexL]
    rw [dg_hexDig _ (by omega), dg_hexDig _ (by omega), if_pos ⟨by omega, by omega⟩, unhex_hex r]
    simp only [Option.map_some, Option.some.injEq, List.cons.injEq, and_true]
    apply UInt8.toNat.inj
    rw [UInt8.toNat_ofNat']
    omega
theorem hex_unhex : ∀ (n : Nat) (l t : List UInt8), l.length ≤ n → unhexL l = some t → hexL t = l := by
  intro n
  induction n using Nat.strongRecOn with
  | ind n ih =>
    intro l t hl h
    match l, hl, h with
    | [], _, h => simp [unhexL] at h; subst h; rfl
    | [_], _, h => simp [unhexL] at h
    | a :: b :: r, hl, h =>
      simp only [unhexL] at h
      split at h
      · rename_i hab
        cases hr : unhexL r with
        | none => simp [hr] at h
        | some t' =>
          simp [hr] at h
          subst h
          have e := ih r.length (by simp at hl; omega) r t' (Nat.le_refl _) hr
          have ha := dg_lt a; have hb := dg_lt b
          have e2 : (UInt8.ofNat (16 * dg a + dg b).toNat).toNat = (16 * dg a + dg b).toNat := by rw [UInt8.toNat_ofNat']; omega
          simp only [hexL]
          rw [e2, show (16 * dg a + dg b).toNat / 16 = (dg a).toNat by omega, show (16 * dg a + dg b).toNat % 16 = (dg b).toNat by omega, hexDig_dg a hab.1, hexDig_dg b hab.2, e]
      · cases h
end Go.Proofs.YtpelehhmdcjikaaGreatDoor

/-
  Layer 9, plain: hexadecimal ids and idents as the writers and readers of a record.
-/
namespace Go.Proofs.YtpelehhmdcjikaaGreatDoor
set_option linter.unusedVariables false
set_option linter.unusedSimpArgs false
/-- An id's bytes, off its text. -/
def unD (s : List UInt8) : Option (List UInt8) := match unhexL s with
  | none => none
  | some t => if t.length = 20 then some t else none
theorem idR_some {s t : List UInt8} (h : unD s = some t) : idR s = (t, 0) := by
  unfold unD at h
  unfold idR
  cases e : unhexL s with
  | none => rw [e] at h; cases h
  | some u =>
    rw [e] at h
    simp only at h ⊢
    by_cases hu : u.length = 20
    · rw [if_pos hu] at h ⊢; cases h; rfl
    · rw [if_neg hu] at h; cases h
theorem idR_none {s : List UInt8} (h : unD s = none) : idR s = (List.replicate 20 0, 4) := by
  unfold unD at h
  unfold idR
  cases e : unhexL s with
  | none => rfl
  | some u =>
    rw [e] at h
    simp only at h ⊢
    by_cases hu : u.length = 20
    · rw [if_pos hu] at h; cases h
    · rw [if_neg hu]
theorem dig_eol : ∀ n : Fin 16, hexDig n.1 ≠ 10 := by decide
theorem hex_eol : ∀ l : List UInt8, noEol (hexL l)
  | [] => fun d hd => by cases hd
  | c :: r => fun d hd => by
    unfold hexL at hd
    rcases List.mem_cons.1 hd with rfl | hd
    · exact dig_eol ⟨c.toNat / 16, by have := c.toNat_lt; omega⟩
    · rcases List.mem_cons.1 hd with rfl | hd
      · exact dig_eol ⟨c.toNat % 16, by omega⟩
      · exact hex_eol r d hd
theorem word_eol {l : List UInt8} (h : wordL l = true) : noEol l := fun d hd e => by
  have := ((word_iff l).1 h).1 d hd
  rw [e] at this
  exact absurd this (by decide)
theorem itoa_eol (v : Int) (h0 : 0 ≤ v) : noEol (Lib.itoa v) := by
  intro c hc e
  unfold Lib.itoa at hc
  rw [if_neg (by omega)] at hc
  have := (decDigits_spec v.toNat).1 c hc
  rw [e] at this
  exact absurd this (by decide)
theorem two_eol (n : Nat) (h : n < 100) : noEol (twoD n) := by
  intro d hd e
  unfold twoD at hd
  have h1 := dig_of (n / 10) (by omega)
  have h2 := dig_of (n % 10) (by omega)
  have e' := congrArg UInt8.toNat e
  rcases List.mem_cons.1 hd with rfl | hd
  · rw [h1] at e'; have h10 : (10 : UInt8).toNat = 10 := rfl; omega
  · rcases List.mem_cons.1 hd with rfl | hd
    · rw [h2] at e'; have h10 : (10 : UInt8).toNat = 10 := rfl; omega
    · cases hd
theorem zone_eol (z : Int) (h0 : -840 ≤ z) (h1 : z ≤ 840) : noEol (zoneT z) := by
  intro d hd
  unfold zoneT at hd
  rcases List.mem_cons.1 hd with rfl | hd
  · split <;> decide
  · rcases List.mem_append.1 hd with hd | hd
    · exact two_eol _ (by omega) d hd
    · exact two_eol _ (by omega) d hd
theorem ident_eol (i : Idt) (h : rightI i = true) : noEol (printI Lib.itoa i) := by
  obtain ⟨h1, h2, h3, h4, h5, h6⟩ := (right_iff i).1 h
  unfold printI
  rw [if_pos h]
  intro d hd
  unfold textT aheadT at hd
  have w1 := word_eol h1
  have w2 := word_eol h2
  have w3 := itoa_eol i.whn h3
  have w4 := zone_eol i.zone h5 h6
  simp only [List.mem_append, List.mem_cons] at hd
  rcases hd with hd | rfl | hd | rfl | rfl | hd | rfl | hd
  · split at hd
    · cases hd
    · rcases List.mem_append.1 hd with hd | hd
      · exact w1 d hd
      · rcases List.mem_cons.1 hd with rfl | hd
        · decide
        · cases hd
  · decide
  · exact w2 d hd
  · decide
  · decide
  · exact w3 d hd
  · decide
  · exact w4 d hd
/-- The writers and readers fit. -/
theorem wr9 : Wr hexL unD (printI Lib.itoa) (parseR Lib.itoa takeN) where
  hb := fun l hl => by unfold unD; rw [unhex_hex l]; simp only; rw [if_pos hl]
  ho := fun s l h => by
    unfold unD at h
    cases e : unhexL s with
    | none => rw [e] at h; cases h
    | some u =>
      rw [e] at h
      simp only at h
      by_cases hu : u.length = 20
      · rw [if_pos hu] at h; cases h
        exact ⟨hu, hex_unhex _ s _ (Nat.le_refl _) e⟩
      · rw [if_neg hu] at h; cases h
  hc := hex_eol
  ib := fun i h => parse_print num_itoa h
  io := fun s i h => parse_only h
  ic := ident_eol
def parseK (s : List UInt8) : Option Rcd := parseC unD (parseR Lib.itoa takeN) s
end Go.Proofs.YtpelehhmdcjikaaGreatDoor

/-
  Layer 9, the program: its reader: a line, an id, an ident.
-/
namespace Go.Proofs.YtpelehhmdcjikaaGreatDoor
set_option maxRecDepth 20000
open Go.RowKit
set_option linter.unusedVariables false
set_option linter.unusedSimpArgs false
/-- A reader's block: what is left. -/
abbrev RdAt (w : World) (g : Nat) (s : List UInt8) : Prop := w.heap[g]? = some (.cells #[.string ⟨s.toArray⟩] 170 (0, 0))
theorem rd_set {w : World} {g : Nat} {s : List UInt8} (h : RdAt w g s) (r : List UInt8) : RdAt (w.setCell ⟨g, 0, none⟩ (.string ⟨r.toArray⟩)) g r := by
  have := heap_set h 0 (.string ⟨r.toArray⟩)
  simpa using this
theorem off_set (w : World) (g k : Nat) (v : Value) : Off g w (w.setCell ⟨g, k, none⟩ v) :=
  ⟨rfl, rfl, rfl, by simp [World.setCell], fun i _ hn => Below.heap_setCell _ _ _ _ hn⟩
/-- What a line is, and what stands behind it. -/
def lineG (s w : List UInt8) : List UInt8 × List UInt8 × Bool := match lineL s w with
  | some (x, r) => (x, r, true)
  | none => ([], s, false)
theorem trim_has (s p : List UInt8) (h : p <+: s) : Lib.hasPrefix s p = true ∧ Lib.trimPrefix s p = s.drop p.length := by
  have h1 : Lib.hasPrefix s p = true := List.isPrefixOf_iff_prefix.2 h
  exact ⟨h1, by unfold Lib.trimPrefix; rw [h1, if_pos rfl]⟩
theorem trim_not (s p : List UInt8) (h : ¬ p <+: s) : Lib.hasPrefix s p = false ∧ Lib.trimPrefix s p = s := by
  have h1 : Lib.hasPrefix s p = false := by
    cases e : Lib.hasPrefix s p with
    | false => rfl
    | true => exact absurd (List.isPrefixOf_iff_prefix.1 e) h
  exact ⟨h1, by unfold Lib.trimPrefix; rw [h1]; rfl⟩
set_option maxHeartbeats 4000000 in
theorem rdline_is (g : Nat) (s v : List UInt8) (w : World) (tab : T7 w) (hg : RdAt w g s) (hs : s.length ≤ 1000000) (hv : v.length ≤ 100) (hn : noEol (v ++ [32])) :
    Calls Tryz.prog 132 #[.pointer (some ⟨g, 0, none⟩), .string ⟨v.toArray⟩] w fun e w' => e = .returned (.tuple #[.string ⟨(lineG s (v ++ [32])).1.toArray⟩, .bool (lineG s (v ++ [32])).2.2]) ∧ RdAt w' g (lineG s (v ++ [32])).2.1 ∧ Off g w w' := by
  have HG := Lib.hid hg
  have q0 : w.cell? ⟨g, 0, none⟩ = some (.string ⟨s.toArray⟩) := by rw [Lib.cell_of_heap hg]; rfl
  have z0 := not_frozen hg 0
  have ad0 := fun u => add_lists (P := Tryz.prog) u v [32] (by simp only [List.length_append, List.length_cons, List.length_nil]; omega)
  have c1 := fun u => Tryz.strings_CutPrefix ⟨s.toArray⟩ ⟨(v ++ [32]).toArray⟩ u
  have hc := line_cut s (v ++ [32]) hn
  have et : (⟨s.toArray⟩ : ByteArray).data.toList = s := rfl
  have ev : (⟨(v ++ [32]).toArray⟩ : ByteArray).data.toList = v ++ [32] := rfl
  rw [et, ev] at c1
  by_cases hp : (v ++ [32]) <+: s
  · obtain ⟨e1, e2⟩ := trim_has s (v ++ [32]) hp
    rw [e1, e2] at c1
    rw [if_pos hp] at hc
    have hdl : (s.drop (v ++ [32]).length).length ≤ 1000000 := by rw [List.length_drop]; omega
    obtain ⟨d, hd⟩ : ∃ d, s.drop (v ++ [32]).length = d := ⟨_, rfl⟩
    rw [hd] at c1 hc hdl
    have c2 := Cut_is d [10] hdl w tab
    rw [cut_eol] at c2
    by_cases h2 : eolL d < d.length
    · rw [if_pos h2] at hc c2
      have er : lineG s (v ++ [32]) = (d.take (eolL d), d.drop (eolL d + 1), true) := by unfold lineG; rw [hc]
      rw [er]
      simp only at c2 ⊢
      have RS := Lib.hid (fun (u : World) (hu : RdAt u g s) => rd_set hu (d.drop (eolL d + 1)))
      clear hc er hd hdl h2 et ev e1 e2 hp hs hv hn tab
      generalize d.take (eolL d) = y1 at *
      generalize d.drop (eolL d + 1) = y2 at *
      obtain ⟨S2, hS2⟩ : ∃ S2 : ByteArray, ⟨y2.toArray⟩ = S2 := ⟨_, rfl⟩
      rw [hS2] at c2 RS
      generalize (⟨(v ++ [32]).toArray⟩ : ByteArray) = sv2 at *
      generalize (⟨v.toArray⟩ : ByteArray) = sv at *
      generalize (⟨d.toArray⟩ : ByteArray) = sd at *
      generalize (⟨y1.toArray⟩ : ByteArray) = sy1 at *
      have HS2 := Lib.hid hS2
      clear hS2 hg
      go_enter Tryz.func132, Tryz.ntmps132
      go_wp2_with fail
      refine (c1 _).mono ?_
      rintro e w1 ⟨rfl, hE⟩
      subst hE
      go_wp2_with fail
      refine c2.mono ?_
      rintro e w2 ⟨rfl, hb2⟩
      have HG2 := heap_keep HG.out hb2
      have q2 : w2.cell? ⟨g, 0, none⟩ = some (.string ⟨s.toArray⟩) := by rw [Lib.cell_of_heap HG2]; rfl
      have z2 := not_frozen HG2 0
      have HB2 := Lib.hid hb2
      have HR2 := Lib.hid (RS.out _ HG2)
      clear hb2 HG2 q0 z0
      go_wp2
      go_ret2
      exact ⟨rfl, HR2.out, (off_of HB2.out).trans (off_set _ _ _ _)⟩
    · rw [if_neg h2] at hc c2
      have er : lineG s (v ++ [32]) = ([], s, false) := by unfold lineG; rw [hc]
      rw [er]
      simp only at c2 ⊢
      clear hc er hd hdl h2 et ev e1 e2 hp hs hv hn tab
      generalize (⟨(v ++ [32]).toArray⟩ : ByteArray) = sv2 at *
      generalize (⟨v.toArray⟩ : ByteArray) = sv at *
      generalize (⟨d.toArray⟩ : ByteArray) = sd at *
      clear hg
      go_enter Tryz.func132, Tryz.ntmps132
      go_wp2_with fail
      refine (c1 _).mono ?_
      rintro e w1 ⟨rfl, hE⟩
      subst hE
      go_wp2_with fail
      refine c2.mono ?_
      rintro e w2 ⟨rfl, hb2⟩
      have HG2 := Lib.hid (heap_keep HG.out hb2)
      have HB2 := Lib.hid hb2
      clear hb2 q0 z0
      go_wp2
      go_ret2
      exact ⟨rfl, HG2.out, off_of HB2.out⟩
  · obtain ⟨e1, e2⟩ := trim_not s (v ++ [32]) hp
    rw [e1, e2] at c1
    rw [if_neg hp] at hc
    have er : lineG s (v ++ [32]) = ([], s, false) := by unfold lineG; rw [hc]
    rw [er]
    simp only
    clear hc er et ev e1 e2 hp hs hv hn tab
    generalize (⟨(v ++ [32]).toArray⟩ : ByteArray) = sv2 at *
    generalize (⟨v.toArray⟩ : ByteArray) = sv at *
    clear hg
    go_enter Tryz.func132, Tryz.ntmps132
    go_wp2_with fail
    refine (c1 _).mono ?_
    rintro e w1 ⟨rfl, hE⟩
    subst hE
    go_wp2
    go_ret2
    exact ⟨rfl, HG.out, Off.refl _ _⟩
theorem Off.cat {g : Nat} {a b c : World} (h : Off g a b) (k : Below a.heap.size b c) : Off g a c :=
  ⟨k.os.trans h.os, k.tape.trans h.tape, k.output.trans h.output, Nat.le_trans h.size k.size, fun i hi hn => (k.block i hi).trans (h.block i hi hn)⟩
theorem rd_keep {w u : World} {g : Nat} {s : List UInt8} (h : RdAt w g s) (hb : Below w.heap.size w u) : RdAt u g s := heap_keep h hb
/-- An id off a line, and what is left. -/
def idP (s w : List UInt8) : List UInt8 × Bool × List UInt8 := match lineL s w with
  | none => (idZ, false, s)
  | some (x, r) => match unD x with
    | none => (idZ, false, r)
    | some t => (t, true, r)
def identP (s w : List UInt8) : Idt × Bool × List UInt8 := match lineL s w with
  | none => (zT, false, s)
  | some (x, r) => match parseP Lib.itoa takeN x with
    | none => (zT, false, r)
    | some i => (i, true, r)
end Go.Proofs.YtpelehhmdcjikaaGreatDoor

/-
  Layer 9, the program: its reader: an id, an ident.
-/
namespace Go.Proofs.YtpelehhmdcjikaaGreatDoor
set_option maxRecDepth 20000
open Go.RowKit
set_option linter.unusedVariables false
set_option linter.unusedSimpArgs false
theorem Off.off2 {g G : Nat} {a b c : World} (h : Off g a b) (k : Off G b c) (hG : a.heap.size ≤ G := by exact Nat.le_refl _) : Off g a c :=
  ⟨k.os.trans h.os, k.tape.trans h.tape, k.output.trans h.output, Nat.le_trans h.size k.size, fun i hi hn => (k.block i (Nat.lt_of_lt_of_le hi h.size) (by omega)).trans (h.block i hi hn)⟩
def arrI9 (i : Idt) : Array Value := (cellsT i).toArray
theorem arrI9_size (i : Idt) : (arrI9 i).size = 4 := rfl
theorem arrI9_one (i : Idt) : (arrI9 i).all (·.oneCell') = true := cellsT_one i
theorem un_len {x t : List UInt8} (h : unD x = some t) : t.length = 20 := (wr9.ho x t h).1
set_option maxHeartbeats 8000000 in
theorem rdid_is (g : Nat) (s v : List UInt8) (w0 w : World) (tab : T7 w0) (h0 : w0.heap.size ≤ g) (hb0 : Below w0.heap.size w0 w) (hg : RdAt w g s) (hs : s.length ≤ 1000000) (hv : v.length ≤ 100) (hn : noEol (v ++ [32])) :
    Calls Tryz.prog 101 #[.pointer (some ⟨g, 0, none⟩), .string ⟨v.toArray⟩] w fun e w' => e = .returned (.tuple #[.agg (arrD (idP s (v ++ [32])).1), .bool (idP s (v ++ [32])).2.1]) ∧ RdAt w' g (idP s (v ++ [32])).2.2 ∧ Off g w w' := by
  obtain ⟨z, hz0, hzs, hzv, hzb, hz1⟩ := zId_any
  have HZ0 := Lib.hid hz0; have HZS := Lib.hid hzs; have HZ1 := Lib.hid hz1; have HZB := Lib.hid hzb
  have HGL := Lib.hid (lt_of_heap hg)
  have hb1 := (Below.refl w.heap.size w).alloc (Nat.le_refl _) (.cells z 24)
  have HN1 := Lib.hid (heap_alloc_new w (.cells z 24))
  have HS1 := Lib.hid (show (w.alloc (.cells z 24)).heap.size = w.heap.size + 1 by simp)
  have c1 := rdline_is g s v _ ((tab.keep hb0).keep hb1) (rd_keep hg hb1) hs hv hn
  have HB1 := Lib.hid hb1
  have IZ := Lib.hid (show (Tryz.prog.info? 24).map (·.size) = some z.size by rw [hzs]; exact infoD_n)
  have TK := Lib.hid (fun (u : World) (hu : Off g w u) => tab.keep (hb0.trans (hu.below h0 hb0.size)))
  cases hl : lineL s (v ++ [32]) with
  | none =>
    have el : lineG s (v ++ [32]) = ([], s, false) := by unfold lineG; rw [hl]
    have ep : idP s (v ++ [32]) = (idZ, false, s) := by unfold idP; rw [hl]
    rw [el] at c1
    rw [ep]
    simp only at c1 ⊢
    have HZA := Lib.hid (show z = arrD idZ from HZ0.out)
    rw [← HZA.out]
    clear el ep hl hv hn hz0 hzs hz1 hzb hs hg hb1 tab hb0 h0
    generalize (⟨v.toArray⟩ : ByteArray) = sv at *
    go_enter Tryz.func101, Tryz.ntmps101
    go_wp2_with fail
    refine c1.mono ?_
    rintro e w2 ⟨rfl, hg2, ho2⟩
    have HN2 := Lib.hid ((ho2.block w.heap.size (by rw [HS1.out]; omega) (by have := HGL.out; omega)).trans HN1.out)
    have HO2 := Lib.hid ((off_of HB1.out).trans ho2)
    have HG2 := Lib.hid hg2
    clear hg2 ho2 c1
    go_wp2_with (first
      | (refine wpList_build_none rfl 24 rfl _ HZB.out ?_)
      | (with_reducible refine wpList_store_all rfl 24 (.tmp 4) (.tmp 18) rfl w.heap.size z rfl rfl 24 z HN2.out IZ.out rfl HZ1.out ?_)
      | fail)
    intro w3 hg3 ho3 hs3
    have HB3 := Lib.hid (HO2.out.off2 ho3)
    have HG3 := Lib.hid ((ho3.block g (lt_of_heap HG2.out) (by have := HGL.out; omega)).trans HG2.out)
    have HN3 := Lib.hid hg3
    clear hg3 ho3 hs3
    go_wp2
    exact bodyPost_ret (results_id9 Tryz.results101 _ _ w.heap.size z (0, 0) _ rfl rfl HN3.out HZS.out) rfl ⟨rfl, HG3.out, HB3.out⟩
  | some y =>
    obtain ⟨x, r⟩ := y
    have el : lineG s (v ++ [32]) = (x, r, true) := by unfold lineG; rw [hl]
    have hxl : x.length ≤ 1000000 := by have := line_len hl; omega
    rw [el] at c1
    simp only at c1
    cases hu : unD x with
    | none =>
      have ep : idP s (v ++ [32]) = (idZ, false, r) := by unfold idP; rw [hl]; simp only [hu]
      have C2 := Lib.hid (fun u (ht : T7 u) => (show Calls Tryz.prog 133 #[.string ⟨x.toArray⟩] u fun e u' => e = .returned (.tuple #[.agg (arrD idZ), .int .i64 4]) ∧ Below u.heap.size u u' from (Id_all x hxl u).mono (fun e u' h => ⟨h.1.trans (by rw [idR_none hu]; rfl), h.2⟩)))
      obtain ⟨Y, hY⟩ : ∃ Y, arrD idZ = Y := ⟨_, rfl⟩
      have HYS := Lib.hid (show Y.size = 20 by rw [← hY]; exact arrD_size _ rfl)
      have HY1 := Lib.hid (show Y.all (·.oneCell') = true by rw [← hY]; exact arrD_one _)
      rw [ep]
      simp only
      rw [hY] at C2 ⊢
      have IY := Lib.hid (show (Tryz.prog.info? 24).map (·.size) = some Y.size by rw [HYS.out]; exact infoD_n)
      clear el ep hl hu hv hn hz0 hzs hz1 hzb hs hg hb1 tab hb0 h0 hY hxl
      generalize (⟨v.toArray⟩ : ByteArray) = sv at *
      generalize (⟨x.toArray⟩ : ByteArray) = sx at *
      go_enter Tryz.func101, Tryz.ntmps101
      go_wp2_with fail
      refine c1.mono ?_
      rintro e w2 ⟨rfl, hg2, ho2⟩
      have HN2 := Lib.hid ((ho2.block w.heap.size (by rw [HS1.out]; omega) (by have := HGL.out; omega)).trans HN1.out)
      have HO2 := Lib.hid ((off_of HB1.out).trans ho2)
      have HG2 := Lib.hid hg2
      clear hg2 ho2 c1
      go_wp2_with fail
      refine (C2.out _ (TK.out _ HO2.out)).mono ?_
      rintro e w3 ⟨rfl, hb3⟩
      have HO3 := Lib.hid (HO2.out.cat (hb3.mono HO2.out.size))
      have HN3 := Lib.hid ((hb3.block w.heap.size (lt_of_heap HN2.out)).trans HN2.out)
      have HG3 := Lib.hid (rd_keep HG2.out hb3)
      clear hb3
      go_wp2_with (first
        | (with_reducible refine wpList_store_all rfl 24 (.tmp 8) (.tmp 22) rfl w3.heap.size Y rfl rfl 24 z (heap_alloc_new w3 _) IY.out (HYS.out.trans HZS.out.symm) HY1.out ?_)
        | fail)
      intro w4 hg4 ho4 hs4
      have hb4 := ((Below.refl w3.heap.size w3).alloc (Nat.le_refl _) (.cells z 24)).trans (ho4.below (Nat.le_refl _) (by simp))
      have HO4 := Lib.hid (HO3.out.cat (hb4.mono HO3.out.size))
      have HN4 := Lib.hid ((hb4.block w.heap.size (lt_of_heap HN3.out)).trans HN3.out)
      have HG4 := Lib.hid (rd_keep HG3.out hb4)
      have HY4 := Lib.hid hg4
      clear hg4 ho4 hs4 hb4
      go_wp2_with (first
        | (with_reducible refine wpList_load_all 24 (.tmp 8) rfl (by kernel_rfl) w3.heap.size Y 24 (0, 0) rfl HY4.out _ Tryz.underlying24 rfl IY.out ?_)
        | (with_reducible refine wpList_store_all rfl 24 (.tmp 4) (.tmp 24) rfl w.heap.size Y rfl rfl 24 z HN4.out IY.out (HYS.out.trans HZS.out.symm) HY1.out ?_)
        | fail)
      intro w5 hg5 ho5 hs5
      have HB5 := Lib.hid (HO4.out.off2 ho5)
      have HG5 := Lib.hid ((ho5.block g (lt_of_heap HG4.out) (by have := HGL.out; omega)).trans HG4.out)
      have HN5 := Lib.hid hg5
      clear hg5 ho5 hs5
      go_wp2
      exact bodyPost_ret (results_id9 Tryz.results101 _ _ w.heap.size Y (0, 0) _ rfl rfl HN5.out HYS.out) rfl ⟨rfl, HG5.out, HB5.out⟩
    | some i =>
      have ep : idP s (v ++ [32]) = (i, true, r) := by unfold idP; rw [hl]; simp only [hu]
      have C2 := Lib.hid (fun u (ht : T7 u) => (show Calls Tryz.prog 133 #[.string ⟨x.toArray⟩] u fun e u' => e = .returned (.tuple #[.agg (arrD i), .int .i64 0]) ∧ Below u.heap.size u u' from (Id_all x hxl u).mono (fun e u' h => ⟨h.1.trans (by rw [idR_some hu]; rfl), h.2⟩)))
      obtain ⟨Y, hY⟩ : ∃ Y, arrD i = Y := ⟨_, rfl⟩
      have HYS := Lib.hid (show Y.size = 20 by rw [← hY]; exact arrD_size _ (un_len hu))
      have HY1 := Lib.hid (show Y.all (·.oneCell') = true by rw [← hY]; exact arrD_one _)
      rw [ep]
      simp only
      rw [hY] at C2 ⊢
      have IY := Lib.hid (show (Tryz.prog.info? 24).map (·.size) = some Y.size by rw [HYS.out]; exact infoD_n)
      clear el ep hl hu hv hn hz0 hzs hz1 hzb hs hg hb1 tab hb0 h0 hY hxl
      generalize (⟨v.toArray⟩ : ByteArray) = sv at *
      generalize (⟨x.toArray⟩ : ByteArray) = sx at *
      go_enter Tryz.func101, Tryz.ntmps101
      go_wp2_with fail
      refine c1.mono ?_
      rintro e w2 ⟨rfl, hg2, ho2⟩
      have HN2 := Lib.hid ((ho2.block w.heap.size (by rw [HS1.out]; omega) (by have := HGL.out; omega)).trans HN1.out)
      have HO2 := Lib.hid ((off_of HB1.out).trans ho2)
      have HG2 := Lib.hid hg2
      clear hg2 ho2 c1
      go_wp2_with fail
      refine (C2.out _ (TK.out _ HO2.out)).mono ?_
      rintro e w3 ⟨rfl, hb3⟩
      have HO3 := Lib.hid (HO2.out.cat (hb3.mono HO2.out.size))
      have HN3 := Lib.hid ((hb3.block w.heap.size (lt_of_heap HN2.out)).trans HN2.out)
      have HG3 := Lib.hid (rd_keep HG2.out hb3)
      clear hb3
      go_wp2_with (first
        | (with_reducible refine wpList_store_all rfl 24 (.tmp 8) (.tmp 22) rfl w3.heap.size Y rfl rfl 24 z (heap_alloc_new w3 _) IY.out (HYS.out.trans HZS.out.symm) HY1.out ?_)
        | fail)
      intro w4 hg4 ho4 hs4
      have hb4 := ((Below.refl w3.heap.size w3).alloc (Nat.le_refl _) (.cells z 24)).trans (ho4.below (Nat.le_refl _) (by simp))
      have HO4 := Lib.hid (HO3.out.cat (hb4.mono HO3.out.size))
      have HN4 := Lib.hid ((hb4.block w.heap.size (lt_of_heap HN3.out)).trans HN3.out)
      have HG4 := Lib.hid (rd_keep HG3.out hb4)
      have HY4 := Lib.hid hg4
      clear hg4 ho4 hs4 hb4
      go_wp2_with (first
        | (with_reducible refine wpList_load_all 24 (.tmp 8) rfl (by kernel_rfl) w3.heap.size Y 24 (0, 0) rfl HY4.out _ Tryz.underlying24 rfl IY.out ?_)
        | (with_reducible refine wpList_store_all rfl 24 (.tmp 4) (.tmp 24) rfl w.heap.size Y rfl rfl 24 z HN4.out IY.out (HYS.out.trans HZS.out.symm) HY1.out ?_)
        | fail)
      intro w5 hg5 ho5 hs5
      have HB5 := Lib.hid (HO4.out.off2 ho5)
      have HG5 := Lib.hid ((ho5.block g (lt_of_heap HG4.out) (by have := HGL.out; omega)).trans HG4.out)
      have HN5 := Lib.hid hg5
      clear hg5 ho5 hs5
      go_wp2
      exact bodyPost_ret (results_id9 Tryz.results101 _ _ w.heap.size Y (0, 0) _ rfl rfl HN5.out HYS.out) rfl ⟨rfl, HG5.out, HB5.out⟩
set_option maxHeartbeats 8000000 in
theorem rdident_is (g : Nat) (s v : List UInt8) (w0 w : World) (tab : T7 w0) (h0 : w0.heap.size ≤ g) (hb0 : Below w0.heap.size w0 w) (hg : RdAt w g s) (hs : s.length ≤ 1000000) (hv : v.length ≤ 100) (hn : noEol (v ++ [32])) :
    Calls Tryz.prog 103 #[.pointer (some ⟨g, 0, none⟩), .string ⟨v.toArray⟩] w fun e w' => e = .returned (.tuple #[.agg (arrI9 (identP s (v ++ [32])).1), .bool (identP s (v ++ [32])).2.1]) ∧ RdAt w' g (identP s (v ++ [32])).2.2 ∧ Off g w w' := by
  obtain ⟨z, hz0, hzs, hzv, hzb, hz1⟩ := zIdt_any
  have HZ0 := Lib.hid hz0; have HZS := Lib.hid hzs; have HZ1 := Lib.hid hz1; have HZB := Lib.hid hzb
  have HGL := Lib.hid (lt_of_heap hg)
  have hb1 := (Below.refl w.heap.size w).alloc (Nat.le_refl _) (.cells z 52)
  have HN1 := Lib.hid (heap_alloc_new w (.cells z 52))
  have HS1 := Lib.hid (show (w.alloc (.cells z 52)).heap.size = w.heap.size + 1 by simp)
  have c1 := rdline_is g s v _ ((tab.keep hb0).keep hb1) (rd_keep hg hb1) hs hv hn
  have HB1 := Lib.hid hb1
  have IZ := Lib.hid (show (Tryz.prog.info? 52).map (·.size) = some z.size by rw [hzs]; exact infoT)
  have TK := Lib.hid (fun (u : World) (hu : Off g w u) => tab.keep (hb0.trans (hu.below h0 hb0.size)))
  cases hl : lineL s (v ++ [32]) with
  | none =>
    have el : lineG s (v ++ [32]) = ([], s, false) := by unfold lineG; rw [hl]
    have ep : identP s (v ++ [32]) = (zT, false, s) := by unfold identP; rw [hl]
    rw [el] at c1
    rw [ep]
    simp only at c1 ⊢
    have HZA := Lib.hid (show z = arrI9 zT from HZ0.out)
    rw [← HZA.out]
    clear el ep hl hv hn hz0 hzs hz1 hzb hs hg hb1 tab hb0 h0
    generalize (⟨v.toArray⟩ : ByteArray) = sv at *
    go_enter Tryz.func103, Tryz.ntmps103
    go_wp2_with fail
    refine c1.mono ?_
    rintro e w2 ⟨rfl, hg2, ho2⟩
    have HN2 := Lib.hid ((ho2.block w.heap.size (by rw [HS1.out]; omega) (by have := HGL.out; omega)).trans HN1.out)
    have HO2 := Lib.hid ((off_of HB1.out).trans ho2)
    have HG2 := Lib.hid hg2
    clear hg2 ho2 c1
    go_wp2_with (first
      | (refine wpList_build_none rfl 52 rfl _ HZB.out ?_)
      | (with_reducible refine wpList_store_all rfl 52 (.tmp 4) (.tmp 18) rfl w.heap.size z rfl rfl 52 z HN2.out IZ.out rfl HZ1.out ?_)
      | fail)
    intro w3 hg3 ho3 hs3
    have HB3 := Lib.hid (HO2.out.off2 ho3)
    have HG3 := Lib.hid ((ho3.block g (lt_of_heap HG2.out) (by have := HGL.out; omega)).trans HG2.out)
    have HN3 := Lib.hid hg3
    clear hg3 ho3 hs3
    go_wp2
    exact bodyPost_ret (results_idt9 Tryz.results103 _ _ w.heap.size z (0, 0) _ rfl rfl HN3.out HZS.out) rfl ⟨rfl, HG3.out, HB3.out⟩
  | some y =>
    obtain ⟨x, r⟩ := y
    have el : lineG s (v ++ [32]) = (x, r, true) := by unfold lineG; rw [hl]
    have hxl : x.length ≤ 1000000 := by have := line_len hl; omega
    rw [el] at c1
    simp only at c1
    cases hu : parseP Lib.itoa takeN x with
    | none =>
      have ep : identP s (v ++ [32]) = (zT, false, r) := by unfold identP; rw [hl]; simp only [hu]
      have C2 := Lib.hid (fun u (ht : T7 u) => (show Calls Tryz.prog 134 #[.string ⟨x.toArray⟩] u fun e u' => e = .returned (.tuple #[.agg (arrI9 zT), .int .i64 4]) ∧ Below u.heap.size u u' from (Parse_is x hxl u ht).mono (fun e u' h => ⟨h.1.trans (by rw [hu]; rfl), h.2⟩)))
      obtain ⟨Y, hY⟩ : ∃ Y, arrI9 zT = Y := ⟨_, rfl⟩
      have HYS := Lib.hid (show Y.size = 4 by rw [← hY]; exact arrI9_size _)
      have HY1 := Lib.hid (show Y.all (·.oneCell') = true by rw [← hY]; exact arrI9_one _)
      rw [ep]
      simp only
      rw [hY] at C2 ⊢
      have IY := Lib.hid (show (Tryz.prog.info? 52).map (·.size) = some Y.size by rw [HYS.out]; exact infoT)
      clear el ep hl hu hv hn hz0 hzs hz1 hzb hs hg hb1 tab hb0 h0 hY hxl
      generalize (⟨v.toArray⟩ : ByteArray) = sv at *
      generalize (⟨x.toArray⟩ : ByteArray) = sx at *
      go_enter Tryz.func103, Tryz.ntmps103
      go_wp2_with fail
      refine c1.mono ?_
      rintro e w2 ⟨rfl, hg2, ho2⟩
      have HN2 := Lib.hid ((ho2.block w.heap.size (by rw [HS1.out]; omega) (by have := HGL.out; omega)).trans HN1.out)
      have HO2 := Lib.hid ((off_of HB1.out).trans ho2)
      have HG2 := Lib.hid hg2
      clear hg2 ho2 c1
      go_wp2_with fail
      refine (C2.out _ (TK.out _ HO2.out)).mono ?_
      rintro e w3 ⟨rfl, hb3⟩
      have HO3 := Lib.hid (HO2.out.cat (hb3.mono HO2.out.size))
      have HN3 := Lib.hid ((hb3.block w.heap.size (lt_of_heap HN2.out)).trans HN2.out)
      have HG3 := Lib.hid (rd_keep HG2.out hb3)
      clear hb3
      go_wp2_with (first
        | (with_reducible refine wpList_store_all rfl 52 (.tmp 8) (.tmp 22) rfl w3.heap.size Y rfl rfl 52 z (heap_alloc_new w3 _) IY.out (HYS.out.trans HZS.out.symm) HY1.out ?_)
        | fail)
      intro w4 hg4 ho4 hs4
      have hb4 := ((Below.refl w3.heap.size w3).alloc (Nat.le_refl _) (.cells z 52)).trans (ho4.below (Nat.le_refl _) (by simp))
      have HO4 := Lib.hid (HO3.out.cat (hb4.mono HO3.out.size))
      have HN4 := Lib.hid ((hb4.block w.heap.size (lt_of_heap HN3.out)).trans HN3.out)
      have HG4 := Lib.hid (rd_keep HG3.out hb4)
      have HY4 := Lib.hid hg4
      clear hg4 ho4 hs4 hb4
      go_wp2_with (first
        | (with_reducible refine wpList_load_all 52 (.tmp 8) rfl (by kernel_rfl) w3.heap.size Y 52 (0, 0) rfl HY4.out _ Tryz.underlying52 rfl IY.out ?_)
        | (with_reducible refine wpList_store_all rfl 52 (.tmp 4) (.tmp 24) rfl w.heap.size Y rfl rfl 52 z HN4.out IY.out (HYS.out.trans HZS.out.symm) HY1.out ?_)
        | fail)
      intro w5 hg5 ho5 hs5
      have HB5 := Lib.hid (HO4.out.off2 ho5)
      have HG5 := Lib.hid ((ho5.block g (lt_of_heap HG4.out) (by have := HGL.out; omega)).trans HG4.out)
      have HN5 := Lib.hid hg5
      clear hg5 ho5 hs5
      go_wp2
      exact bodyPost_ret (results_idt9 Tryz.results103 _ _ w.heap.size Y (0, 0) _ rfl rfl HN5.out HYS.out) rfl ⟨rfl, HG5.out, HB5.out⟩
    | some i =>
      have ep : identP s (v ++ [32]) = (i, true, r) := by unfold identP; rw [hl]; simp only [hu]
      have C2 := Lib.hid (fun u (ht : T7 u) => (show Calls Tryz.prog 134 #[.string ⟨x.toArray⟩] u fun e u' => e = .returned (.tuple #[.agg (arrI9 i), .int .i64 0]) ∧ Below u.heap.size u u' from (Parse_is x hxl u ht).mono (fun e u' h => ⟨h.1.trans (by rw [hu]; rfl), h.2⟩)))
      obtain ⟨Y, hY⟩ : ∃ Y, arrI9 i = Y := ⟨_, rfl⟩
      have HYS := Lib.hid (show Y.size = 4 by rw [← hY]; exact arrI9_size _)
      have HY1 := Lib.hid (show Y.all (·.oneCell') = true by rw [← hY]; exact arrI9_one _)
      rw [ep]
      simp only
      rw [hY] at C2 ⊢
      have IY := Lib.hid (show (Tryz.prog.info? 52).map (·.size) = some Y.size by rw [HYS.out]; exact infoT)
      clear el ep hl hu hv hn hz0 hzs hz1 hzb hs hg hb1 tab hb0 h0 hY hxl
      generalize (⟨v.toArray⟩ : ByteArray) = sv at *
      generalize (⟨x.toArray⟩ : ByteArray) = sx at *
      go_enter Tryz.func103, Tryz.ntmps103
      go_wp2_with fail
      refine c1.mono ?_
      rintro e w2 ⟨rfl, hg2, ho2⟩
      have HN2 := Lib.hid ((ho2.block w.heap.size (by rw [HS1.out]; omega) (by have := HGL.out; omega)).trans HN1.out)
      have HO2 := Lib.hid ((off_of HB1.out).trans ho2)
      have HG2 := Lib.hid hg2
      clear hg2 ho2 c1
      go_wp2_with fail
      refine (C2.out _ (TK.out _ HO2.out)).mono ?_
      rintro e w3 ⟨rfl, hb3⟩
      have HO3 := Lib.hid (HO2.out.cat (hb3.mono HO2.out.size))
      have HN3 := Lib.hid ((hb3.block w.heap.size (lt_of_heap HN2.out)).trans HN2.out)
      have HG3 := Lib.hid (rd_keep HG2.out hb3)
      clear hb3
      go_wp2_with (first
        | (with_reducible refine wpList_store_all rfl 52 (.tmp 8) (.tmp 22) rfl w3.heap.size Y rfl rfl 52 z (heap_alloc_new w3 _) IY.out (HYS.out.trans HZS.out.symm) HY1.out ?_)
        | fail)
      intro w4 hg4 ho4 hs4
      have hb4 := ((Below.refl w3.heap.size w3).alloc (Nat.le_refl _) (.cells z 52)).trans (ho4.below (Nat.le_refl _) (by simp))
      have HO4 := Lib.hid (HO3.out.cat (hb4.mono HO3.out.size))
      have HN4 := Lib.hid ((hb4.block w.heap.size (lt_of_heap HN3.out)).trans HN3.out)
      have HG4 := Lib.hid (rd_keep HG3.out hb4)
      have HY4 := Lib.hid hg4
      clear hg4 ho4 hs4 hb4
      go_wp2_with (first
        | (with_reducible refine wpList_load_all 52 (.tmp 8) rfl (by kernel_rfl) w3.heap.size Y 52 (0, 0) rfl HY4.out _ Tryz.underlying52 rfl IY.out ?_)
        | (with_reducible refine wpList_store_all rfl 52 (.tmp 4) (.tmp 24) rfl w.heap.size Y rfl rfl 52 z HN4.out IY.out (HYS.out.trans HZS.out.symm) HY1.out ?_)
        | fail)
      intro w5 hg5 ho5 hs5
      have HB5 := Lib.hid (HO4.out.off2 ho5)
      have HG5 := Lib.hid ((ho5.block g (lt_of_heap HG4.out) (by have := HGL.out; omega)).trans HG4.out)
      have HN5 := Lib.hid hg5
      clear hg5 ho5 hs5
      go_wp2
      exact bodyPost_ret (results_idt9 Tryz.results103 _ _ w.heap.size Y (0, 0) _ rfl rfl HN5.out HYS.out) rfl ⟨rfl, HG5.out, HB5.out⟩
end Go.Proofs.YtpelehhmdcjikaaGreatDoor

/-
  Layer 9, the program: its reader of parents.
-/
namespace Go.Proofs.YtpelehhmdcjikaaGreatDoor
set_option maxRecDepth 20000
open Go.RowKit
set_option linter.unusedVariables false
set_option linter.unusedSimpArgs false
theorem ownD_off {B g : Nat} {v : Value} {l : List (List UInt8)} {w w' : World} (h : OwnD B v l w) (ho : Off g w w') (hg : g < B) : OwnD B v l w' :=
  ⟨h.1, h.2.imp id (fun ⟨g', cap', cur, h', hb', hh, r⟩ => ⟨g', cap', cur, h', hb', (ho.block g' (lt_of_heap hh) (by omega)).trans hh, r⟩)⟩
theorem lineG_none {s w : List UInt8} (h : lineL s w = none) : lineG s w = ([], s, false) := by unfold lineG; rw [h]
theorem lineG_some {s w x r : List UInt8} (h : lineL s w = some (x, r)) : lineG s w = (x, r, true) := by unfold lineG; rw [h]
theorem parentV_W : parentV ++ [32] = parentW := rfl
set_option maxHeartbeats 16000000 in
theorem rdparents_is (g : Nat) (s : List UInt8) (w0 w : World) (tab : T7 w0) (h0 : w0.heap.size ≤ g) (hb0 : Below w0.heap.size w0 w) (hg : RdAt w g s) (hs : s.length ≤ 1000000) :
    Calls Tryz.prog 102 #[.pointer (some ⟨g, 0, none⟩)] w fun e w' => ∃ v b r ps, e = .returned (.tuple #[v, .bool b]) ∧ RdAt w' g r ∧ r.length ≤ s.length ∧ Off g w w' ∧
      ((b = true ∧ parsQ unD 16 s = some (ps, r) ∧ OwnD w.heap.size v ps w' ∧ ps.length ≤ 16 ∧ ∀ p ∈ ps, p.length = 20) ∨ (b = false ∧ parsQ unD 16 s = none ∧ v = .slice none 0 0)) := by
  obtain ⟨z, hz0, hzs, hzv, hzb, hz1⟩ := zId_any
  have HZS := Lib.hid hzs
  have HGL := Lib.hid (lt_of_heap hg)
  have TK := Lib.hid (fun (u : World) (hu : Off g w u) => tab.keep (hb0.trans (hu.below h0 hb0.size)))
  have HG := Lib.hid hg
  obtain ⟨PQ, hPQ⟩ : ∃ PQ, parsQ unD 16 s = PQ := ⟨_, rfl⟩
  have HP0 := Lib.hid (show parsP unD [] 16 s = PQ by rw [parsP_nil, hPQ])
  rw [hPQ]
  have HSL := Lib.hid hs
  clear hz0 hzs hzb hz1 hg tab hb0 h0 hPQ hs
  go_enter Tryz.func102, Tryz.ntmps102
  go_wp2_with fail
  go_loopw [4, 9] (fun v4 v9 wr => ∃ (k : Nat) (ps : List (List UInt8)) (r : List UInt8), k ≤ 16 ∧ v9 = .int .i64 k ∧ OwnD w.heap.size v4 ps wr ∧ ps.length = k ∧ RdAt wr g r ∧ r.length ≤ s.length ∧ (∀ p ∈ ps, p.length = 20) ∧ parsP unD ps (16 - k) r = PQ ∧ Off g w wr) (fun _ v9 _ => 16 - (intOf v9).toNat)
  case atStart => exact ⟨0, [], s, by omega, rfl, ownD_nil _ _, rfl, HG.out, Nat.le_refl _, (fun p hp => by cases hp), HP0.out, Off.refl _ _⟩
  case round =>
    obtain ⟨k, ps, r, hk, rfl, hown, hpl, hgr, hrl, hpi, hpp, hor⟩ := hrel
    have HOWN := Lib.hid hown; have HPL := Lib.hid hpl; have HGR := Lib.hid hgr; have HRL := Lib.hid hrl; have HPI := Lib.hid hpi; have HPP := Lib.hid hpp; have HOR := Lib.hid hor
    clear hown hpl hgr hrl hpi hpp hor
    by_cases hlt : k < 16
    · have g1 : (k : Int) < 16 := by omega
      have c1 := rdline_is g r parentV wr (TK.out _ HOR.out) HGR.out (by have := HRL.out; have := HSL.out; omega) (by decide) (by rw [parentV_W]; exact noEol_parent)
      rw [parentV_W, show parentV = [112, 97, 114, 101, 110, 116] from rfl] at c1
      cases hl : lineL r parentW with
      | none =>
        rw [lineG_none hl] at c1
        simp only at c1
        have HPQ := Lib.hid (show PQ = some (ps, r) by rw [← HPP.out]; exact parsP_stop hl ps _)
        clear hl
        go_wp2_with fail
        refine c1.mono ?_
        rintro e w2 ⟨rfl, hg2, ho2⟩
        have HG2 := Lib.hid hg2
        have HO2 := Lib.hid (HOR.out.trans ho2)
        have HW2 := Lib.hid (ownD_off HOWN.out ho2 HGL.out)
        clear hg2 ho2 c1
        go_wp2
        go_ret2
        exact ⟨_, _, r, ps, rfl, HG2.out, HRL.out, HO2.out, .inl ⟨rfl, HPQ.out, HW2.out, by rw [HPL.out]; omega, HPI.out⟩⟩
      | some y =>
        obtain ⟨x, r'⟩ := y
        rw [lineG_some hl] at c1
        simp only at c1
        have hll := line_len hl
        have HRL2 := Lib.hid (show r'.length ≤ s.length by have := HRL.out; omega)
        have hxl : x.length ≤ 1000000 := by have := HRL.out; have := HSL.out; omega
        have C2 := Lib.hid (fun u => Id_all x hxl u)
        cases hu : unD x with
        | none =>
          rw [idR_none hu] at C2
          simp only at C2
          have HPQ := Lib.hid (show PQ = none by rw [← HPP.out, show 16 - k = (15 - k) + 1 by omega]; exact parsP_bad hl hu ps _)
          obtain ⟨Y, hY⟩ : ∃ Y, arrD (List.replicate 20 0) = Y := ⟨_, rfl⟩
          have HYS := Lib.hid (show Y.size = 20 by rw [← hY]; exact arrD_size _ (by simp))
          have HY1 := Lib.hid (show Y.all (·.oneCell') = true by rw [← hY]; exact arrD_one _)
          have IY := Lib.hid (show (Tryz.prog.info? 24).map (·.size) = some Y.size by rw [HYS.out]; exact infoD_n)
          rw [idv_arrD, hY] at C2
          clear hl hu hY hxl hll
          generalize (⟨x.toArray⟩ : ByteArray) = sx at *
          go_wp2_with fail
          refine c1.mono ?_
          rintro e w2 ⟨rfl, hg2, ho2⟩
          have HG2 := Lib.hid hg2
          have HO2 := Lib.hid (HOR.out.trans ho2)
          clear hg2 ho2 c1
          go_wp2_with fail
          refine (C2.out _).mono ?_
          rintro e w3 ⟨rfl, hb3⟩
          have HO3 := Lib.hid (HO2.out.cat (hb3.mono HO2.out.size))
          have HG3 := Lib.hid (rd_keep HG2.out hb3)
          clear hb3
          go_wp2_with (first
            | (with_reducible refine wpList_store_all rfl 24 (.tmp 7) (.tmp 21) rfl w3.heap.size Y rfl rfl 24 z (heap_alloc_new w3 _) IY.out (HYS.out.trans HZS.out.symm) HY1.out ?_)
            | fail)
          intro w4 hg4 ho4 hs4
          have hb4 := ((Below.refl w3.heap.size w3).alloc (Nat.le_refl _) (.cells z 24)).trans (ho4.below (Nat.le_refl _) (by simp))
          have HO4 := Lib.hid (HO3.out.cat (hb4.mono HO3.out.size))
          have HG4 := Lib.hid (rd_keep HG3.out hb4)
          clear hg4 ho4 hs4 hb4
          go_wp2
          go_ret2
          exact ⟨_, _, r', [], rfl, HG4.out, HRL2.out, HO4.out, .inr ⟨rfl, HPQ.out, rfl⟩⟩
        | some p =>
          rw [idR_some hu] at C2
          simp only at C2
          have hp20 := un_len hu
          have HP20 := Lib.hid hp20
          have HNX := Lib.hid (show parsP unD (ps ++ [p]) (16 - (k + 1)) r' = PQ by rw [← HPP.out, show 16 - k = (16 - (k + 1)) + 1 by omega]; exact (parsP_next hl hu ps _).symm)
          have HPI2 := Lib.hid (show ∀ q ∈ ps ++ [p], q.length = 20 from fun q hq => by
            rcases List.mem_append.1 hq with hq | hq
            · exact HPI.out q hq
            · rw [List.mem_singleton.1 hq]; exact hp20)
          have HPL2 := Lib.hid (show (ps ++ [p]).length = k + 1 by rw [List.length_append, HPL.out]; rfl)
          obtain ⟨Y, hY⟩ : ∃ Y, arrD p = Y := ⟨_, rfl⟩
          have HYS := Lib.hid (show Y.size = 20 by rw [← hY]; exact arrD_size _ hp20)
          have HY1 := Lib.hid (show Y.all (·.oneCell') = true by rw [← hY]; exact arrD_one _)
          have IY := Lib.hid (show (Tryz.prog.info? 24).map (·.size) = some Y.size by rw [HYS.out]; exact infoD_n)
          rw [idv_arrD, hY] at C2
          have HY := Lib.hid hY
          clear hl hu hY hxl hll hp20
          generalize (⟨x.toArray⟩ : ByteArray) = sx at *
          go_wp2_with fail
          refine c1.mono ?_
          rintro e w2 ⟨rfl, hg2, ho2⟩
          have HG2 := Lib.hid hg2
          have HO2 := Lib.hid (HOR.out.trans ho2)
          have HW2 := Lib.hid (ownD_off HOWN.out ho2 HGL.out)
          clear hg2 ho2 c1
          go_wp2_with fail
          refine (C2.out _).mono ?_
          rintro e w3 ⟨rfl, hb3⟩
          have HO3 := Lib.hid (HO2.out.cat (hb3.mono HO2.out.size))
          have HG3 := Lib.hid (rd_keep HG2.out hb3)
          have HW3 := Lib.hid (ownD_below HW2.out hb3)
          clear hb3
          go_wp2_with (first
            | (with_reducible refine wpList_store_all rfl 24 (.tmp 7) (.tmp 21) rfl w3.heap.size Y rfl rfl 24 z (heap_alloc_new w3 _) IY.out (HYS.out.trans HZS.out.symm) HY1.out ?_)
            | fail)
          intro w4 hg4 ho4 hs4
          have hb4 := ((Below.refl w3.heap.size w3).alloc (Nat.le_refl _) (.cells z 24)).trans (ho4.below (Nat.le_refl _) (by simp))
          have HO4 := Lib.hid (HO3.out.cat (hb4.mono HO3.out.size))
          have HG4 := Lib.hid (rd_keep HG3.out hb4)
          have HW4 := Lib.hid (ownD_below HW3.out hb4)
          have HY4 := Lib.hid hg4
          have hb5 := (Below.refl w4.heap.size w4).alloc (Nat.le_refl _) (.cells Y 24)
          have HO5 := Lib.hid (HO4.out.cat (hb5.mono HO4.out.size))
          have HG5 := Lib.hid (rd_keep HG4.out hb5)
          have HW5 := Lib.hid (ownD_below HW4.out hb5)
          clear hg4 ho4 hs4 hb4 hb5
          go_wp2_with (first
            | (with_reducible refine wpList_load_all 24 (.tmp 7) rfl (by kernel_rfl) w3.heap.size Y 24 (0, 0) rfl HY4.out _ Tryz.underlying24 rfl IY.out ?_)
            | (with_reducible refine wpList_build_idD rfl (.tmp 26) rfl Y HYS.out rfl ?_)
            | (at_builtin; refine wpList_append_idD rfl _ _ rfl w.heap.size _ ps p w4.heap.size Y HY.out.symm rfl rfl (heap_alloc_new w4 _) HP20.out HW5.out (by rw [HPL.out]; omega) HO5.out.size ?_)
            | fail)
          intro v6 w6 o6 g6
          have hb6 := (Below.refl w.heap.size (w4.alloc (.cells Y 24))).grown g6 HO5.out.size (fun j hj => (HW5.out.lt j hj).1)
          have HO6 := Lib.hid (HO5.out.cat hb6)
          have HG6 := Lib.hid ((hb6.block g HGL.out).trans HG5.out)
          have HW6 := Lib.hid o6
          clear o6 g6 hb6
          go_wp2
          go_roundw
          case rel => exact ⟨k + 1, ps ++ [p], r', by omega, by go_num, HW6.out, HPL2.out, HG6.out, HRL2.out, HPI2.out, HNX.out, HO6.out⟩
          case measure => simp [intOf]; omega
    · obtain rfl : k = 16 := by omega
      have HPQ := Lib.hid (show PQ = some (ps, r) by rw [← HPP.out]; exact parsP_zero ps r)
      go_wp2
      go_ret2
      exact ⟨_, _, r, ps, rfl, HGR.out, HRL.out, HOR.out, .inl ⟨rfl, HPQ.out, HOWN.out, by rw [HPL.out]; exact Nat.le_refl _, HPI.out⟩⟩
end Go.Proofs.YtpelehhmdcjikaaGreatDoor
