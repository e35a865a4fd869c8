/-
  Texts that belong together, one behind the other.
-/
import Derived.Test.YtonkclkopmdahaaGreatDoorFu15
import Derived.Stop.BytesEq
import Derived.Test.YtonkclkopmdahaaGreatDoorFu12
import Derived.Test.YtonkclkopmdahaaGreatDoorFu10
import Derived.Test.YtonkclkopmdahaaGreatDoorFu02
import Derived.Test.YtonkclkopmdahaaGreatDoorFu14
import Derived.Test.YtonkclkopmdahaaGreatDoorFu11
import Derived.Test.YtonkclkopmdahaaGreatDoorFu13
/-
  Layer 1: Id of the reference.
-/
namespace Go.Proofs.YtonkclkopmdahaaGreatDoor
set_option maxRecDepth 20000
open Go.RowKit
set_option linter.unusedVariables false

set_option maxHeartbeats 400000 in
theorem rId_none (s : ByteArray) (w : World) (hs : s.size ≤ 1099511627776) (hu : unhexL s.data.toList = none) :
    Calls Tryz.prog 28 #[.string s] w fun e w' => e = .returned (.tuple #[idv (List.replicate 20 0), .int .i64 4]) ∧ Below w.heap.size w w' := by
  have C := Lib.hid (fun w => rUnhex_none s w hs hu)
  clear hu
  rw [zero20_idv]
  go_enter Tryz.func28, Tryz.ntmps28
  go_wp2_with fail
  refine (C.out _).mono ?_
  rintro e w1 ⟨rfl, hb⟩
  have hg1 : w1.heap[w.heap.size]? = some (.cells zero20 23 (0, 0)) := (hb.block _ (by simp)).trans (heap_alloc_new w _)
  have hbw : Below w.heap.size w w1 := ((Below.refl _ w).alloc (Nat.le_refl _) _).trans (hb.mono (by simp))
  clear hb C
  have HG := Lib.hid hg1; clear hg1
  go_wp2_with (with_reducible refine wpList_store_row rfl 23 _ _ rfl w.heap.size zero20 rfl rfl 23 zero20 ?hg ?hi ?ho ?h1 ?_)
  case hg => exact HG.out
  case hi => exact info29
  case ho => rfl
  case h1 => kernel_rfl
  rw [setRow_self _ w.heap.size zero20 23 (0, 0) HG.out]
  go_wp2_with fail
  exact bodyPost_ret (results_id Tryz.results28 _ _ w.heap.size zero20 (0, 0) (.int .i64 4) rfl rfl HG.out rfl) rfl ⟨rfl, hbw⟩
set_option maxHeartbeats 400000 in
theorem rId_len (s : ByteArray) (t : List UInt8) (w : World) (hs : s.size ≤ 1099511627776) (hu : unhexL s.data.toList = some t) (hne : t.length ≠ 20) :
    Calls Tryz.prog 28 #[.string s] w fun e w' => e = .returned (.tuple #[idv (List.replicate 20 0), .int .i64 4]) ∧ Below w.heap.size w w' := by
  have ht : t.length ≤ 1099511627776 := by have := (unhex_spec _ _ _ (Nat.le_refl _) hu).1; rw [size_list] at this; omega
  have hne2 : ((t.length : Int) != 20) = true := by simp; omega
  have C := Lib.hid (fun w => rUnhex_some s t w hs hu)
  clear hu hne
  rw [zero20_idv]
  go_enter Tryz.func28, Tryz.ntmps28
  go_wp2_with fail
  refine (C.out _).mono ?_
  rintro e w1 ⟨g, c, rfl, _, _, _, hb⟩
  have hg1 : w1.heap[w.heap.size]? = some (.cells zero20 23 (0, 0)) := (hb.block _ (by simp)).trans (heap_alloc_new w _)
  have hbw : Below w.heap.size w w1 := ((Below.refl _ w).alloc (Nat.le_refl _) _).trans (hb.mono (by simp))
  clear hb C
  have HG := Lib.hid hg1; clear hg1
  go_wp2_with (with_reducible refine wpList_store_row rfl 23 _ _ rfl w.heap.size zero20 rfl rfl 23 zero20 ?hg ?hi ?ho ?h1 ?_)
  case hg => exact HG.out
  case hi => exact info29
  case ho => rfl
  case h1 => kernel_rfl
  rw [setRow_self _ w.heap.size zero20 23 (0, 0) HG.out]
  go_wp2_with fail
  exact bodyPost_ret (results_id Tryz.results28 _ _ w.heap.size zero20 (0, 0) (.int .i64 4) rfl rfl HG.out rfl) rfl ⟨rfl, hbw⟩

set_option maxHeartbeats 400000 in
theorem rId_good (s : ByteArray) (t : List UInt8) (w : World) (hs : s.size ≤ 1099511627776) (hu : unhexL s.data.toList = some t) (ht : t.length = 20) :
    Calls Tryz.prog 28 #[.string s] w fun e w' => e = .returned (.tuple #[idv t, .int .i64 0]) ∧ Below w.heap.size w w' := by
  have C := Lib.hid (fun w => rUnhex_some s t w hs hu)
  clear hu
  have HT := Lib.hid ht; clear ht
  go_enter Tryz.func28, Tryz.ntmps28
  go_wp2_with fail
  refine (C.out _).mono ?_
  rintro e w1 ⟨g, c, rfl, hbat, hlc, _, hb⟩
  obtain ⟨b, o, rfl, hbl, hcl⟩ := hbat (by rw [HT.out]; omega)
  have hg0 : w1.heap[w.heap.size]? = some (.cells zero20 23 (0, 0)) := (hb.block _ (by simp)).trans (heap_alloc_new w _)
  have hbw : Below w.heap.size w w1 := ((Below.refl _ w).alloc (Nat.le_refl _) _).trans (hb.mono (by simp))
  have hsz : w.heap.size < w1.heap.size := by have := hb.size; simp at this; omega
  clear hb C hbat
  have HG0 := Lib.hid hg0; clear hg0
  have HCL := Lib.hid hcl; clear hcl
  rw [HT.out]
  go_wp2_with fail
  go_loopw [7] (fun i wr => ∃ (k : Nat) (cur : Array Value), k ≤ 20 ∧ i = .int .i64 k ∧ wr.heap[w1.heap.size]? = some (.cells cur 23 (0, 0)) ∧ cur.size = 20 ∧ cur.toList.take k = Lib.byteCells (t.take k) ∧ Below w1.heap.size w1 wr) (fun i _ => 20 - (intOf i).toNat)
  case atStart => exact ⟨0, zero20, by omega, rfl, heap_alloc_new w1 _, rfl, by simp [Lib.byteCells], (Below.refl _ w1).alloc (Nat.le_refl _) _⟩
  case round =>
    obtain ⟨k, cur, hk, rfl, hh, hcs, hcur, hbr⟩ := hrel
    have HCS := Lib.hid hcs; clear hcs
    have HCUR := Lib.hid hcur; clear hcur
    by_cases hlt : k < 20
    · have hkt : k < t.length := by rw [HT.out]; exact hlt
      have hcell : wr.cell? ⟨b, o + k, none⟩ = some (.int .u8 (t[k]).toNat) := (hbr.cell (p := ⟨b, o + k, none⟩) hbl).trans (HCL.out k hkt)
      obtain ⟨y, hy⟩ : ∃ y, wr.cell? ⟨w1.heap.size, k, none⟩ = some y := ⟨cur[k]'(by rw [HCS.out]; exact hlt), by rw [Lib.cell_of_heap hh, Array.getElem?_eq_getElem]⟩
      have hfz : wr.frozen? ⟨w1.heap.size, k, none⟩ = false := Lib.frozen_of_heap hh k
      have hst := heap_setCell_same wr w1.heap.size k cur 23 (.int .u8 (t[k]).toNat) hh
      have hbr2 := hbr.setCell (p := ⟨w1.heap.size, k, none⟩) (Nat.le_refl _) (.int .u8 (t[k]).toNat)
      have HS := Lib.hid hst; clear hst
      have HB := Lib.hid hbr2; clear hbr2
      clear hh
      go_wp2
      go_roundw
      case rel =>
        refine ⟨k + 1, _, by omega, by go_num, HS.out, by rw [Array.size_setIfInBounds]; exact HCS.out, ?_, HB.out⟩
        have hl : cur.toList.length = 20 := by rw [Array.length_toList]; exact HCS.out
        rw [Array.toList_setIfInBounds, List.take_succ_eq_append_getElem (by rw [List.length_set, hl]; omega), List.take_set_of_le (Nat.le_refl _), HCUR.out, List.take_succ_eq_append_getElem hkt, Lib.byteCells_append]
        simp [Lib.byteCells]
      case measure => simp [intOf]; omega
    · obtain rfl : k = 20 := by omega
      have e : cur = (Lib.byteCells t).toArray := by
        have h := HCUR.out
        rw [List.take_of_length_le (by rw [Array.length_toList, HCS.out]; exact Nat.le_refl _), List.take_of_length_le (by rw [HT.out]; exact Nat.le_refl _)] at h
        rw [← h]
      subst e
      have hb0 : wr.heap[w.heap.size]? = some (.cells zero20 23 (0, 0)) := (hbr.block _ hsz).trans HG0.out
      have hst : (storeCells ⟨w.heap.size, 0, none⟩ (Lib.byteCells t)).run Tryz.prog wr = .ok () (wr.setRow w.heap.size (Lib.byteCells t).toArray) := by
        have h := run_storeCells_from (P := Tryz.prog) w.heap.size 23 (Lib.byteCells t) 0 zero20 wr hb0 (by simp [Lib.byteCells, HT.out]) (oneCell_bytes t)
        simpa using h
      have hbl : (Lib.byteCells t).length = 20 := by simp [Lib.byteCells, HT.out]
      have HH := Lib.hid hh; clear hh
      have HB0 := Lib.hid hb0; clear hb0
      go_wp2_with (with_reducible refine wpList_load_row rfl 23 _ rfl w1.heap.size rfl 23 (Lib.byteCells t).toArray (0, 0) _ ?hg Tryz.underlying23 rfl ?hi ?_)
      case hg => exact HH.out
      case hi => first | rw [info29, size_bytes, HT.out] | simpa using info29
      exact bodyPost_ret (results_id Tryz.results28 _ _ w.heap.size (Lib.byteCells t).toArray (0, 0) (.int .i64 0) rfl rfl (setRow_heap _ _ _ _ _ _ HB0.out) (by rw [size_bytes, HT.out])) rfl ⟨rfl, below_setRow (hbw.trans (hbr.mono (by omega))) (Nat.le_refl _) _⟩
end Go.Proofs.YtonkclkopmdahaaGreatDoor

/-
  Layer 1: Unhex and Id, whatever the text, of the program and of its reference in one form.
-/
namespace Go.Proofs.YtonkclkopmdahaaGreatDoor
set_option maxRecDepth 20000
open Go.RowKit
set_option linter.unusedVariables false

/-- The bytes, and the error, of any text. -/
def uR (l : List UInt8) : List UInt8 × Int := match unhexL l with
  | none => ([], 4)
  | some t => (t, 0)
theorem uR_len (l : List UInt8) : (uR l).1.length ≤ l.length := by
  unfold uR
  cases h : unhexL l with
  | none => simp
  | some t => have := (unhex_spec _ _ _ (Nat.le_refl _) h).1; simp; omega
theorem Unhex_all (l : List UInt8) (hl : l.length ≤ 1000000) (w : World) :
    Calls Tryz.prog 80 #[.string ⟨l.toArray⟩] w fun e w' => ∃ g c, e = .returned (.tuple #[.slice g (uR l).1.length c, .int .i64 (uR l).2]) ∧ BAt w' g (uR l).1 ∧ (uR l).1.length ≤ c ∧ Below w.heap.size w w' := by
  unfold uR
  cases h : unhexL l with
  | none =>
    refine (Unhex_none ⟨l.toArray⟩ w (by rw [size_toArray]; omega) h).mono ?_
    rintro e w' ⟨rfl, hb⟩
    exact ⟨none, 0, rfl, BAt.nil _ _, Nat.le_refl _, hb⟩
  | some t =>
    refine (Unhex_some ⟨l.toArray⟩ t w (by rw [size_toArray]; omega) h).mono ?_
    rintro e w' ⟨g, c, rfl, hbat, hc, _, hb⟩
    exact ⟨g, c, rfl, hbat, hc, hb⟩
theorem rUnhex_all (l : List UInt8) (hl : l.length ≤ 1000000) (w : World) :
    Calls Tryz.prog 49 #[.string ⟨l.toArray⟩] w fun e w' => ∃ g c, e = .returned (.tuple #[.slice g (uR l).1.length c, .int .i64 (uR l).2]) ∧ BAt w' g (uR l).1 ∧ (uR l).1.length ≤ c ∧ Below w.heap.size w w' := by
  unfold uR
  cases h : unhexL l with
  | none =>
    refine (rUnhex_none ⟨l.toArray⟩ w (by rw [size_toArray]; omega) h).mono ?_
    rintro e w' ⟨rfl, hb⟩
    exact ⟨none, 0, rfl, BAt.nil _ _, Nat.le_refl _, hb⟩
  | some t =>
    refine (rUnhex_some ⟨l.toArray⟩ t w (by rw [size_toArray]; omega) h).mono ?_
    rintro e w' ⟨g, c, rfl, hbat, hc, _, hb⟩
    exact ⟨g, c, rfl, hbat, hc, hb⟩
/-- The id, and the error, of any text. -/
def idR (l : List UInt8) : List UInt8 × Int := match unhexL l with
  | none => (List.replicate 20 0, 4)
  | some t => if t.length = 20 then (t, 0) else (List.replicate 20 0, 4)
theorem idR_len (l : List UInt8) : (idR l).1.length = 20 := by
  unfold idR
  cases unhexL l with
  | none => simp
  | some t =>
    simp only
    split
    · assumption
    · simp
theorem idR_bad (l : List UInt8) (h : l.length ≠ 40) : idR l = (List.replicate 20 0, 4) := by
  unfold idR
  cases hu : unhexL l with
  | none => rfl
  | some t => have := (unhex_spec _ _ _ (Nat.le_refl _) hu).1; simp only; rw [if_neg (by omega)]
theorem Id_all (l : List UInt8) (hl : l.length ≤ 1000000) (w : World) :
    Calls Tryz.prog 67 #[.string ⟨l.toArray⟩] w fun e w' => e = .returned (.tuple #[idv (idR l).1, .int .i64 (idR l).2]) ∧ Below w.heap.size w w' := by
  by_cases h40 : l.length = 40
  · unfold idR
    cases h : unhexL l with
    | none => exact Id_bad ⟨l.toArray⟩ w (by rw [size_toArray]; exact h40) h
    | some t =>
      have := (unhex_spec _ _ _ (Nat.le_refl _) h).1
      simp only
      rw [if_pos (by omega)]
      exact Id_good ⟨l.toArray⟩ t w (by rw [size_toArray]; exact h40) h
  · rw [idR_bad l h40]
    exact Id_len ⟨l.toArray⟩ w (by rw [size_toArray]; omega) (by rw [size_toArray]; exact h40)
theorem rId_all (l : List UInt8) (hl : l.length ≤ 1000000) (w : World) :
    Calls Tryz.prog 28 #[.string ⟨l.toArray⟩] w fun e w' => e = .returned (.tuple #[idv (idR l).1, .int .i64 (idR l).2]) ∧ Below w.heap.size w w' := by
  unfold idR
  cases h : unhexL l with
  | none => exact rId_none ⟨l.toArray⟩ w (by rw [size_toArray]; omega) h
  | some t =>
    simp only
    by_cases ht : t.length = 20
    · rw [if_pos ht]; exact rId_good ⟨l.toArray⟩ t w (by rw [size_toArray]; omega) h ht
    · rw [if_neg ht]; exact rId_len ⟨l.toArray⟩ t w (by rw [size_toArray]; omega) h ht

/-- A whole array out of a block, where the operation is guarded and its guard says yes. -/
theorem wpList_load_guard {P : Program} {ops : Array Oper} {rest : List Oper} {o : Oper} {a : Act} {w : World} {Q : Exit → Act → World → Prop} (hgd : Region.wanted o (yielded ops a.tmps) = true) (ty : TypeId) (x : Operand) (ho : o.op = .load ty x)
    (g : Nat) (hx : a.eval x = .pointer (some ⟨g, 0, none⟩)) (t : TypeId) (cs : Array Value) (fr : Nat × Nat) (d : TypeDesc) (hg : w.heap[g]? = some (.cells cs t fr))
    (hu : P.underlying ty = some d) (hd : (match d with | .struct _ | .array _ _ => true | _ => false) = true) (hi : (P.info? ty).map (·.size) = some cs.size)
    (h : wpList P ops Q rest (a.put o.dst (.agg cs)) w) : wpList P ops Q (o :: rest) a w := by
  unfold wpList
  rw [if_pos hgd]
  exact .inl (wp_load_row ty x ho g hx t cs fr d hg hu hd hi h)

/-- An array of twenty bytes, as the walks carry it: written out nowhere. -/
structure Arr20 (arr : Array Value) (l : List UInt8) : Prop where
  eq : arr = (Lib.byteCells l).toArray
  len : l.length = 20
theorem Arr20.size {arr : Array Value} {l : List UInt8} (h : Arr20 arr l) : arr.size = 20 := by rw [h.eq, size_bytes, h.len]
theorem Arr20.one {arr : Array Value} {l : List UInt8} (h : Arr20 arr l) : arr.all (·.oneCell') = true := by rw [h.eq]; exact oneCell_all l
theorem Arr20.eql {arr brr : Array Value} {l m : List UInt8} (h : Arr20 arr l) (k : Arr20 brr m) (w : World) : (binOp .eql 23 (.agg arr) (.agg brr)).run Tryz.prog w = .ok (.bool (l == m)) w := by
  rw [h.eq, k.eq]
  exact run_eql_bytes w 23 5 20 Tryz.underlying23 Tryz.underlying5 Tryz.sizeOf5 l m h.len k.len
theorem Arr20.store {arr : Array Value} {l : List UInt8} (h : Arr20 arr l) (w : World) : (storeCells ⟨w.heap.size, 0, none⟩ arr.toList 0).run Tryz.prog (w.alloc (.cells zero20 23)) = .ok () (w.alloc (.cells arr 23)) :=
  run_storeCells_new w 23 zero20 arr (by rw [info29, h.size]) (by rw [h.size]; rfl) h.one
theorem Arr20.load {arr : Array Value} {l : List UInt8} (h : Arr20 arr l) {w : World} {g : Nat} {fr : Nat × Nat} (hg : w.heap[g]? = some (.cells arr 23 fr)) : (loadCellsFrom ⟨g, 0, none⟩ 0 20 #[]).run Tryz.prog w = .ok arr w := by
  have := run_loadCells_list (P := Tryz.prog) w ⟨g, 0, none⟩ arr.toList (fun j v hv => by
    have hadd : (⟨g, 0, none⟩ : Addr).add j = ⟨g, j, none⟩ := by unfold Addr.add; split <;> simp_all
    rw [hadd, cell_of_row _ _ j arr 23 fr hg]
    simpa using hv)
  have e : arr.toList.length = 20 := by rw [Array.length_toList, h.size]
  rw [e] at this
  simpa [loadCells] using this
end Go.Proofs.YtonkclkopmdahaaGreatDoor

/-
  Layer 1: bytes written are read, and what is read is written so: lists alone.
-/
namespace Go.Proofs.YtonkclkopmdahaaGreatDoor
open Go.RowKit
set_option linter.unusedVariables false

theorem dg_hexDig' : ∀ n : Fin 16, dg (hexDig n.1) = (n.1 : Int) := by decide
theorem dg_hexDig (n : Nat) (h : n < 16) : dg (hexDig n) = n := dg_hexDig' ⟨n, h⟩
theorem hexDig_dg' : ∀ n : Fin 256, 0 ≤ dg (UInt8.ofNat n.1) → hexDig (dg (UInt8.ofNat n.1)).toNat = UInt8.ofNat n.1 := by decide +kernel
theorem hexDig_dg (c : UInt8) (h : 0 ≤ dg c) : hexDig (dg c).toNat = c := by
  have := hexDig_dg' ⟨c.toNat, c.toNat_lt⟩
  simp only [UInt8.ofNat_toNat] at this
  exact this h
theorem unhex_hex : ∀ l : List UInt8, unhexL (hexL l) = some l
  | [] => rfl
  | c :: r => by
    have hc := c.toNat_lt
    simp only [hexL, unhexL]
    rw [dg_hexDig _ (by omega), dg_hexDig _ (by omega), if_pos ⟨by omega, by omega⟩, unhex_hex r]
    simp only [Option.map_some, Option.some.injEq, List.cons.injEq, and_true]
    apply UInt8.toNat.inj
    rw [UInt8.toNat_ofNat']
    omega
theorem hex_unhex : ∀ (n : Nat) (l t : List UInt8), l.length ≤ n → unhexL l = some t → hexL t = l := by
  intro n
  induction n using Nat.strongRecOn with
  | ind n ih =>
    intro l t hl h
    match l, hl, h with
    | [], _, h => simp [unhexL] at h; subst h; rfl
    | [_], _, h => simp [unhexL] at h
    | a :: b :: r, hl, h =>
      simp only [unhexL] at h
      split at h
      · rename_i hab
        cases hr : unhexL r with
        | none => simp [hr] at h
        | some t' =>
          simp [hr] at h
          subst h
          have e := ih r.length (by simp at hl; omega) r t' (Nat.le_refl _) hr
          have ha := dg_lt a; have hb := dg_lt b
          have e2 : (UInt8.ofNat (16 * dg a + dg b).toNat).toNat = (16 * dg a + dg b).toNat := by rw [UInt8.toNat_ofNat']; omega
          simp only [hexL]
          rw [e2, show (16 * dg a + dg b).toNat / 16 = (dg a).toNat by omega, show (16 * dg a + dg b).toNat % 16 = (dg b).toNat by omega, hexDig_dg a hab.1, hexDig_dg b hab.2, e]
      · cases h

end Go.Proofs.YtonkclkopmdahaaGreatDoor

/-
  Layer 9, plain: hexadecimal ids and idents as the writers and readers of a record.
-/
namespace Go.Proofs.YtonkclkopmdahaaGreatDoor
set_option linter.unusedVariables false
set_option linter.unusedSimpArgs false

/-- An id's bytes, off its text. -/
def unD (s : List UInt8) : Option (List UInt8) := match unhexL s with
  | none => none
  | some t => if t.length = 20 then some t else none
theorem idR_some {s t : List UInt8} (h : unD s = some t) : idR s = (t, 0) := by
  unfold unD at h
  unfold idR
  cases e : unhexL s with
  | none => rw [e] at h; cases h
  | some u =>
    rw [e] at h
    simp only at h ⊢
    by_cases hu : u.length = 20
    · rw [if_pos hu] at h ⊢; cases h; rfl
    · rw [if_neg hu] at h; cases h
theorem idR_none {s : List UInt8} (h : unD s = none) : idR s = (List.replicate 20 0, 4) := by
  unfold unD at h
  unfold idR
  cases e : unhexL s with
  | none => rfl
  | some u =>
    rw [e] at h
    simp only at h ⊢
    by_cases hu : u.length = 20
    · rw [if_pos hu] at h; cases h
    · rw [if_neg hu]
theorem dig_eol : ∀ n : Fin 16, hexDig n.1 ≠ 10 := by decide
theorem hex_eol : ∀ l : List UInt8, noEol (hexL l)
  | [] => fun d hd => by cases hd
  | c :: r => fun d hd => by
    unfold hexL at hd
    rcases List.mem_cons.1 hd with rfl | hd
    · exact dig_eol ⟨c.toNat / 16, by have := c.toNat_lt; omega⟩
    · rcases List.mem_cons.1 hd with rfl | hd
      · exact dig_eol ⟨c.toNat % 16, by omega⟩
      · exact hex_eol r d hd
theorem word_eol {l : List UInt8} (h : wordL l = true) : noEol l := fun d hd e => by
  have := ((word_iff l).1 h).1 d hd
  rw [e] at this
  exact absurd this (by decide)
theorem itoa_eol (v : Int) (h0 : 0 ≤ v) : noEol (Lib.itoa v) := by
  intro c hc e
  unfold Lib.itoa at hc
  rw [if_neg (by omega)] at hc
  have := (decDigits_spec v.toNat).1 c hc
  rw [e] at this
  exact absurd this (by decide)
theorem two_eol (n : Nat) (h : n < 100) : noEol (twoD n) := by
  intro d hd e
  unfold twoD at hd
  have h1 := dig_of (n / 10) (by omega)
  have h2 := dig_of (n % 10) (by omega)
  have e' := congrArg UInt8.toNat e
  rcases List.mem_cons.1 hd with rfl | hd
  · rw [h1] at e'; have h10 : (10 : UInt8).toNat = 10 := rfl; omega
  · rcases List.mem_cons.1 hd with rfl | hd
    · rw [h2] at e'; have h10 : (10 : UInt8).toNat = 10 := rfl; omega
    · cases hd
theorem zone_eol (z : Int) (h0 : -840 ≤ z) (h1 : z ≤ 840) : noEol (zoneT z) := by
  intro d hd
  unfold zoneT at hd
  rcases List.mem_cons.1 hd with rfl | hd
  · split <;> decide
  · rcases List.mem_append.1 hd with hd | hd
    · exact two_eol _ (by omega) d hd
    · exact two_eol _ (by omega) d hd
theorem ident_eol (i : Idt) (h : rightI i = true) : noEol (printI Lib.itoa i) := by
  obtain ⟨h1, h2, h3, h4, h5, h6⟩ := (right_iff i).1 h
  unfold printI
  rw [if_pos h]
  intro d hd
  unfold textT aheadT at hd
  have w1 := word_eol h1
  have w2 := word_eol h2
  have w3 := itoa_eol i.whn h3
  have w4 := zone_eol i.zone h5 h6
  simp only [List.mem_append, List.mem_cons] at hd
  rcases hd with hd | rfl | hd | rfl | rfl | hd | rfl | hd
  · split at hd
    · cases hd
    · rcases List.mem_append.1 hd with hd | hd
      · exact w1 d hd
      · rcases List.mem_cons.1 hd with rfl | hd
        · decide
        · cases hd
  · decide
  · exact w2 d hd
  · decide
  · decide
  · exact w3 d hd
  · decide
  · exact w4 d hd
/-- The writers and readers fit. -/
theorem wr9 : Wr hexL unD (printI Lib.itoa) (parseR Lib.itoa takeN) where
  hb := fun l hl => by unfold unD; rw [unhex_hex l]; simp only; rw [if_pos hl]
  ho := fun s l h => by
    unfold unD at h
    cases e : unhexL s with
    | none => rw [e] at h; cases h
    | some u =>
      rw [e] at h
      simp only at h
      by_cases hu : u.length = 20
      · rw [if_pos hu] at h; cases h
        exact ⟨hu, hex_unhex _ s _ (Nat.le_refl _) e⟩
      · rw [if_neg hu] at h; cases h
  hc := hex_eol
  ib := fun i h => parse_print num_itoa h
  io := fun s i h => parse_only h
  ic := ident_eol
/-- A record's text, and the record of a text. -/
def printK (c : Rcd) : List UInt8 := printC hexL (printI Lib.itoa) c
def parseK (s : List UInt8) : Option Rcd := parseC unD (parseR Lib.itoa takeN) s
theorem parsT_len : ∀ (ps : List (List UInt8)) (r : List UInt8), (∀ p ∈ ps, p.length = 20) → (parsT hexL ps r).length = 48 * ps.length + r.length
  | [], r, _ => by simp [parsT]
  | p :: ps, r, h => by
    have ih := parsT_len ps r (fun q hq => h q (by simp [hq]))
    have hl := hexL_length p
    rw [h p (by simp)] at hl
    unfold parsT lineT parentW
    simp only [List.length_append, List.length_cons, List.length_nil, ih, hl]
    omega
theorem printK_len {c : Rcd} (hf : c.Fit) (h : rightR c = true) : (printK c).length ≤ 40000 := by
  obtain ⟨h1, h2, h3, h4, h5, h6, h7⟩ := (rightR_iff c).1 h
  have l1 := print_len c.author
  have l2 := print_len c.committer
  have l3 := hexL_length c.tree
  rw [hf.tree] at l3
  have l4 := fun r => parsT_len c.parents r hf.parents
  unfold printK printC
  simp only [lineT, List.length_append, List.length_cons, l4, l3, treeW, authorW, committerW, List.length_nil]
  omega
end Go.Proofs.YtonkclkopmdahaaGreatDoor

/-
  Layer 9, the program: its reader: a line, an id, an ident.
-/
namespace Go.Proofs.YtonkclkopmdahaaGreatDoor
set_option maxRecDepth 20000
open Go.RowKit
set_option linter.unusedVariables false
set_option linter.unusedSimpArgs false

/-- A reader's block: what is left. -/
abbrev RdAt (w : World) (g : Nat) (s : List UInt8) : Prop := w.heap[g]? = some (.cells #[.string ⟨s.toArray⟩] 76 (0, 0))
theorem rd_set {w : World} {g : Nat} {s : List UInt8} (h : RdAt w g s) (r : List UInt8) : RdAt (w.setCell ⟨g, 0, none⟩ (.string ⟨r.toArray⟩)) g r := by
  have := heap_set h 0 (.string ⟨r.toArray⟩)
  simpa using this
theorem off_set (w : World) (g k : Nat) (v : Value) : Off g w (w.setCell ⟨g, k, none⟩ v) :=
  ⟨rfl, rfl, rfl, by simp [World.setCell], fun i _ hn => Below.heap_setCell _ _ _ _ hn⟩
/-- What a line is, and what stands behind it. -/
def lineG (s w : List UInt8) : List UInt8 × List UInt8 × Bool := match lineL s w with
  | some (x, r) => (x, r, true)
  | none => ([], s, false)
theorem trim_has (s p : List UInt8) (h : p <+: s) : Lib.hasPrefix s p = true ∧ Lib.trimPrefix s p = s.drop p.length := by
  have h1 : Lib.hasPrefix s p = true := List.isPrefixOf_iff_prefix.2 h
  exact ⟨h1, by unfold Lib.trimPrefix; rw [h1, if_pos rfl]⟩
theorem trim_not (s p : List UInt8) (h : ¬ p <+: s) : Lib.hasPrefix s p = false ∧ Lib.trimPrefix s p = s := by
  have h1 : Lib.hasPrefix s p = false := by
    cases e : Lib.hasPrefix s p with
    | false => rfl
    | true => exact absurd (List.isPrefixOf_iff_prefix.1 e) h
  exact ⟨h1, by unfold Lib.trimPrefix; rw [h1]; rfl⟩
set_option maxHeartbeats 4000000 in
theorem rdline_is (g : Nat) (s v : List UInt8) (w : World) (tab : T7 w) (hg : RdAt w g s) (hs : s.length ≤ 1000000) (hv : v.length ≤ 100) (hn : noEol (v ++ [32])) :
    Calls Tryz.prog 66 #[.pointer (some ⟨g, 0, none⟩), .string ⟨v.toArray⟩] w fun e w' => e = .returned (.tuple #[.string ⟨(lineG s (v ++ [32])).1.toArray⟩, .bool (lineG s (v ++ [32])).2.2]) ∧ RdAt w' g (lineG s (v ++ [32])).2.1 ∧ Off g w w' := by
  have HG := Lib.hid hg
  have q0 : w.cell? ⟨g, 0, none⟩ = some (.string ⟨s.toArray⟩) := by rw [Lib.cell_of_heap hg]; rfl
  have z0 := not_frozen hg 0
  have ad0 := fun u => add_lists (P := Tryz.prog) u v [32] (by simp only [List.length_append, List.length_cons, List.length_nil]; omega)
  have c1 := fun u => Tryz.strings_CutPrefix ⟨s.toArray⟩ ⟨(v ++ [32]).toArray⟩ u
  have hc := line_cut s (v ++ [32]) hn
  have et : (⟨s.toArray⟩ : ByteArray).data.toList = s := rfl
  have ev : (⟨(v ++ [32]).toArray⟩ : ByteArray).data.toList = v ++ [32] := rfl
  rw [et, ev] at c1
  by_cases hp : (v ++ [32]) <+: s
  · obtain ⟨e1, e2⟩ := trim_has s (v ++ [32]) hp
    rw [e1, e2] at c1
    rw [if_pos hp] at hc
    have hdl : (s.drop (v ++ [32]).length).length ≤ 1000000 := by rw [List.length_drop]; omega
    obtain ⟨d, hd⟩ : ∃ d, s.drop (v ++ [32]).length = d := ⟨_, rfl⟩
    rw [hd] at c1 hc hdl
    have c2 := Cut_is d [10] hdl w tab
    rw [cut_eol] at c2
    by_cases h2 : eolL d < d.length
    · rw [if_pos h2] at hc c2
      have er : lineG s (v ++ [32]) = (d.take (eolL d), d.drop (eolL d + 1), true) := by unfold lineG; rw [hc]
      rw [er]
      simp only at c2 ⊢
      have RS := Lib.hid (fun (u : World) (hu : RdAt u g s) => rd_set hu (d.drop (eolL d + 1)))
      clear hc er hd hdl h2 et ev e1 e2 hp hs hv hn tab
      generalize d.take (eolL d) = y1 at *
      generalize d.drop (eolL d + 1) = y2 at *
      obtain ⟨S2, hS2⟩ : ∃ S2 : ByteArray, ⟨y2.toArray⟩ = S2 := ⟨_, rfl⟩
      rw [hS2] at c2 RS
      generalize (⟨(v ++ [32]).toArray⟩ : ByteArray) = sv2 at *
      generalize (⟨v.toArray⟩ : ByteArray) = sv at *
      generalize (⟨d.toArray⟩ : ByteArray) = sd at *
      generalize (⟨y1.toArray⟩ : ByteArray) = sy1 at *
      have HS2 := Lib.hid hS2
      clear hS2 hg
      go_enter Tryz.func66, Tryz.ntmps66
      go_wp2_with fail
      refine (c1 _).mono ?_
      rintro e w1 ⟨rfl, hE⟩
      subst hE
      go_wp2_with fail
      refine c2.mono ?_
      rintro e w2 ⟨rfl, hb2⟩
      have HG2 := heap_keep HG.out hb2
      have q2 : w2.cell? ⟨g, 0, none⟩ = some (.string ⟨s.toArray⟩) := by rw [Lib.cell_of_heap HG2]; rfl
      have z2 := not_frozen HG2 0
      have HB2 := Lib.hid hb2
      have HR2 := Lib.hid (RS.out _ HG2)
      clear hb2 HG2 q0 z0
      go_wp2
      go_ret2
      exact ⟨rfl, HR2.out, (off_of HB2.out).trans (off_set _ _ _ _)⟩
    · rw [if_neg h2] at hc c2
      have er : lineG s (v ++ [32]) = ([], s, false) := by unfold lineG; rw [hc]
      rw [er]
      simp only at c2 ⊢
      clear hc er hd hdl h2 et ev e1 e2 hp hs hv hn tab
      generalize (⟨(v ++ [32]).toArray⟩ : ByteArray) = sv2 at *
      generalize (⟨v.toArray⟩ : ByteArray) = sv at *
      generalize (⟨d.toArray⟩ : ByteArray) = sd at *
      clear hg
      go_enter Tryz.func66, Tryz.ntmps66
      go_wp2_with fail
      refine (c1 _).mono ?_
      rintro e w1 ⟨rfl, hE⟩
      subst hE
      go_wp2_with fail
      refine c2.mono ?_
      rintro e w2 ⟨rfl, hb2⟩
      have HG2 := Lib.hid (heap_keep HG.out hb2)
      have HB2 := Lib.hid hb2
      clear hb2 q0 z0
      go_wp2
      go_ret2
      exact ⟨rfl, HG2.out, off_of HB2.out⟩
  · obtain ⟨e1, e2⟩ := trim_not s (v ++ [32]) hp
    rw [e1, e2] at c1
    rw [if_neg hp] at hc
    have er : lineG s (v ++ [32]) = ([], s, false) := by unfold lineG; rw [hc]
    rw [er]
    simp only
    clear hc er et ev e1 e2 hp hs hv hn tab
    generalize (⟨(v ++ [32]).toArray⟩ : ByteArray) = sv2 at *
    generalize (⟨v.toArray⟩ : ByteArray) = sv at *
    clear hg
    go_enter Tryz.func66, Tryz.ntmps66
    go_wp2_with fail
    refine (c1 _).mono ?_
    rintro e w1 ⟨rfl, hE⟩
    subst hE
    go_wp2
    go_ret2
    exact ⟨rfl, HG.out, Off.refl _ _⟩
theorem Off.cat {g : Nat} {a b c : World} (h : Off g a b) (k : Below a.heap.size b c) : Off g a c :=
  ⟨k.os.trans h.os, k.tape.trans h.tape, k.output.trans h.output, Nat.le_trans h.size k.size, fun i hi hn => (k.block i hi).trans (h.block i hi hn)⟩
theorem rd_keep {w u : World} {g : Nat} {s : List UInt8} (h : RdAt w g s) (hb : Below w.heap.size w u) : RdAt u g s := heap_keep h hb
/-- An id off a line, and what is left. -/
def idP (s w : List UInt8) : List UInt8 × Bool × List UInt8 := match lineL s w with
  | none => (idZ, false, s)
  | some (x, r) => match unD x with
    | none => (idZ, false, r)
    | some t => (t, true, r)
def identP (s w : List UInt8) : Idt × Bool × List UInt8 := match lineL s w with
  | none => (zT, false, s)
  | some (x, r) => match parseP Lib.itoa takeN x with
    | none => (zT, false, r)
    | some i => (i, true, r)
end Go.Proofs.YtonkclkopmdahaaGreatDoor
