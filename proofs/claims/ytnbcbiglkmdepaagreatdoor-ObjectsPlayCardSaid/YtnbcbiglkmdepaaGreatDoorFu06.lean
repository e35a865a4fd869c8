/-
  Texts that belong together, one behind the other.
-/
import Derived.Test.YtnbcbiglkmdepaaGreatDoorFu01
import Derived.Test.YtnbcbiglkmdepaaGreatDoorFu05
import Derived.Test.YtnbcbiglkmdepaaGreatDoorFu04
import Derived.Laws.IdiomStrings
import Derived.Lib.FrozenHead2
import Derived.Shelf.Strings.Builder1
import Derived.Shelf.Strings.Builder2
import Derived.Shelf.Strings.Trim
import Derived.Shelf.Small.Utf8
import Derived.Shelf.Small.Bits
import Derived.Shelf.Small.Strs
import Derived.Shelf.Small.Wraps
import Derived.Shelf.Strings.BuilderF
import Derived.Shelf.Strings.BuilderK
import Derived.Shelf.Strings.BuilderRune
import Derived.Shelf.Strings.Builder2Cap
import Derived.Shelf.Strconv.Itoa0
import Derived.Shelf.Strconv.Itoa1
import Derived.Shelf.LaysM
import Derived.Shelf.Strconv.Itoa2
import Derived.Shelf.Strconv.Itoa3
import Derived.Shelf.Strconv.Itoa4
import Derived.Shelf.Strings.Search1
import Derived.Shelf.Strings.Search2
import Derived.Shelf.Strings.Search3
import Derived.Shelf.Strings.Cut
import Derived.Shelf.Strings.Count
import Derived.Shelf.Strings.Shaped
import Derived.Shelf.Strings.Prefix
import Derived.Shelf.Strings.Split
import Derived.Shelf.Strings.SplitShaped
import Derived.Shelf.Strings.Runes
import Derived.Shelf.Strings.AsciiSet
import Derived.Shelf.Unicode.DecodeSlow
import Derived.Shelf.Unicode.DecodeAny
import Derived.Shelf.Unicode.CaseLookup
import Derived.Shelf.Unicode.CaseConvert
import Derived.Shelf.Strings.BuilderCap
import Derived.Test.YtnbcbiglkmdepaaGreatDoorProg
import Derived.Lib.LaidTab
import Derived.Lib.ItoaNum
import Derived.WalkSmall
import Derived.IntWalk
import Derived.Lib.AppendIntMem
import Derived.Test.YtnbcbiglkmdepaaGreatDoorFu03
import Derived.Deep.RegionLaw
import Derived.OwnWalk
import Derived.Deep.QuietTactic
import Derived.BigQuiet
import Derived.Laws.OwnMore
import Derived.Laws.CopyOwn
import Derived.Laws.ResultCell
set_option maxHeartbeats 64000000
set_option linter.unusedVariables false
set_option linter.unusedSimpArgs false
open Go.Lib renaming hid → hyd
open List renaming getElem_toArray → lgA, getElem_cons_succ → lgS, getElem_cons_zero → lgZ
namespace Go.Proofs.YtnbcbiglkmdepaaGreatDoor
set_option maxRecDepth 100000
open Go.RowKit Go.Maps
theorem zThing (w : World) : (zeroValue 63).run Tryz.prog w = .ok .nilIface w := by kernel_rfl
theorem StoreP.look_some {S : Nat → Prop} {w : World} {g : Nat} {M : List Cel} (h : StoreP S w g M) {i : List UInt8} {x : Cel} (hx : getM M i = some x) :
  ∃ mb v, (∀ u, Below w.heap.size w u → u.cell? ⟨g, 0, none⟩ = some (.map mb) ∧ (Instr.lookup 46 (.map mb) (.agg (arrD i)) true).run Tryz.prog u = .ok (.tuple #[thingP x.kind v, .bool true]) u) ∧
   RedS (fun k => S k ∧ k ≠ g ∧ mb ≠ some k) w v x.body ∧ kindO x.kind ∧ ∃ a n c, v = .slice a n c := by
 obtain ⟨hg, E, mb, hE, hblk, hent, hnone, hmap⟩ := h; obtain ⟨hxM, rfl⟩ := getM_some hx; rw [← hE] at hxM; obtain ⟨e, he, rfl⟩ := List.mem_map.1 hxM
 cases mb with
 | none => rw [hnone rfl] at he; cases he
 | some b =>
  obtain ⟨hSb, hbg, hM⟩ := hmap b rfl; refine ⟨some b, e.v, fun u hu => ⟨?_, ?_⟩, (hent e he).2.2, (hent e he).2.1, (hent e he).1.2⟩
  ·rw [Lib.cell_of_heap ((hu.block g (lt_of_heap hblk)).trans hblk)]
   rfl
  ·exact (hM.keep (hu.block b hM.lt)).look_some idKeyed Tryz.underlying46 (celP_keys (fun e he => (hent e he).1)) (List.mem_map.2 ⟨e, he, rfl⟩)
theorem StoreP.look_none {S : Nat → Prop} {w : World} {g : Nat} {M : List Cel} (h : StoreP S w g M) {i : List UInt8} (hi : i.length = 20) (hx : getM M i = none) :
  ∃ mb, ∀ u, Below w.heap.size w u → u.cell? ⟨g, 0, none⟩ = some (.map mb) ∧ (Instr.lookup 46 (.map mb) (.agg (arrD i)) true).run Tryz.prog u = .ok (.tuple #[.nilIface, .bool false]) u := by
 obtain ⟨hg, E, mb, hE, hblk, hent, hnone, hmap⟩ := h; obtain ⟨l, hl⟩ := key_id i hi; refine ⟨mb, fun u hu => ⟨?_, ?_⟩⟩
 ·rw [Lib.cell_of_heap ((hu.block g (lt_of_heap hblk)).trans hblk)]
  rfl
 ·cases mb with
  | none => exact look_nilMap idKeyed Tryz.underlying46 (zThing u) hl
  | some b =>
   obtain ⟨hSb, hbg, hM⟩ := hmap b rfl; refine (hM.keep (hu.block b hM.lt)).look_none idKeyed Tryz.underlying46 (zThing u) (celP_keys (fun e he => (hent e he).1)) hl (fun m hm he => ?_); obtain ⟨e, hee, rfl⟩ := List.mem_map.1 hm; exact getM_none hx e.c (by rw [← hE]; exact List.mem_map.2 ⟨e, hee, rfl⟩) (arrD_inj (Value.agg.inj he))
theorem findP_any {w : World} {g : Nat} {mb : Option Nat} {r : Value} {b : Bool} (i : List UInt8) (hi : i.length = 20)
  (hl : ∀ u, Below w.heap.size w u → u.cell? ⟨g, 0, none⟩ = some (.map mb) ∧ (Instr.lookup 46 (.map mb) (.agg (arrD i)) true).run Tryz.prog u = .ok (.tuple #[r, .bool b]) u) :
  Calls Tryz.prog 57 #[.pointer (some ⟨g, 0, none⟩), .agg (arrD i)] w fun e w' => e = .returned (.tuple #[bif b then r else .nilIface, .int .i64 (bif b then 0 else 6)]) ∧ Below w.heap.size w w' := by
 obtain ⟨A1, hA1⟩ : ∃ A, arrD i = A := ⟨_, rfl⟩
 have sA : A1.size = 20 := by rw [← hA1]; exact arrD_size i hi
 have b1 : Below w.heap.size w (w.alloc (.cells A1 24)) := (Below.refl w.heap.size w).alloc (Nat.le_refl _) (.cells A1 24); have h0 := heap_alloc_new w (.cells A1 24); have B1 := hyd b1; obtain ⟨w1, hw1⟩ : ∃ w1, w.alloc (.cells A1 24) = w1 := ⟨_, rfl⟩; rw [hw1] at B1 h0; have HL := hyd (fun u (hu : Below w1.heap.size w1 u) => hl u (B1.out.trans (hu.mono B1.out.size))); have RA := hyd (fun u (hu : Below w1.heap.size w1 u) => (row_arrD ((hu.block w.heap.size (lt_of_heap h0)).trans h0))); have LA := hyd (show (Tryz.prog.info? 24).map (·.size) = some A1.toList.length from by rw [Array.length_toList, sA]; exact infoD_n); clear hl b1 sA; rw [hA1] at HL ⊢; clear hA1
 go_enter Tryz.func57, Tryz.ntmps57
 go_wp2_with fail
 refine rgB w1 (fun hd => ?_); refine tkW 0 rfl hd ?_; refine tkW 1 rfl hd ?_; refine tkW 2 rfl hd ?_; refine tkV 3 rfl (.map mb) ?py3x hd ?_
 case py3x => intro u hu; have q := (HL.out u hu).1; go_simp
 refine tkH 4 rfl (yieldsIf_load_mid (by kernel_rfl) 24 (.tmp 3) (by kernel_rfl) w.heap.size 0 (by kernel_rfl) A1.toList _ (fun u hu => RA.out u hu) Tryz.underlying24 rfl LA.out) hd ?_; refine tkV 5 rfl (.tuple #[r, .bool b]) ?py5x hd ?_
 case py5x => intro u hu; have q := (HL.out u hu).2; go_simp
 refine tkW 6 rfl hd ?_; refine tkW 7 rfl hd ?_; refine tkW 8 rfl hd ?_; refine tkW 9 rfl hd ?_; refine tkW 10 rfl hd ?_
 try simp only [Act.put, lgA, lgS, lgZ, lsA, lsZ, lsS]
 refine wpAnyH_done (by kernel_rfl) ?_ _; have HB := hyd (B1.out.trans (hd.mono B1.out.size)); clear hd
 cases b with
 | true =>
  go_wp2
  go_ret2
  exact ⟨rfl, HB.out⟩
 | false =>
  go_wp2
  go_ret2
  exact ⟨rfl, HB.out⟩
end Go.Proofs.YtnbcbiglkmdepaaGreatDoor
namespace Go.Proofs.YtnbcbiglkmdepaaGreatDoor
open Go.RowKit
theorem run_storeCells_atX (P : Program) (g o : Nat) (t : TypeId) (fz : Nat × Nat) : ∀ (vs : List Value) (i : Nat) (cur : Array Value) (w : World), w.heap[g]? = some (.cells cur t fz) → (∀ j, j < cur.size → ¬ (fz.1 ≤ j ∧ j < fz.2)) → o + i + vs.length ≤ cur.size → (∀ v ∈ vs, v.oneCell' = true) →
  (storeCells ⟨g, o, none⟩ vs i).run P w = .ok () (w.setRow g (cur.toList.take (o + i) ++ vs ++ cur.toList.drop (o + i + vs.length)).toArray)
 | [], i, cur, w, hg, _, _, _ => by
  simp only [storeCells, List.append_nil, List.length_nil, Nat.add_zero, List.take_append_drop, Array.toArray_toList]; rw [setRow_self w g cur t fz hg]
  rfl
 | v :: rest, i, cur, w, hg, hfz, hl, h1 => by
  have hi : o + i < cur.size := by simp at hl; omega
  have hadd : (⟨g, o, none⟩ : Addr).add i = ⟨g, o + i, none⟩ := by unfold Addr.add; split <;> simp_all
  have hcell : w.cell? ⟨g, o + i, none⟩ = some cur[o + i] := by simp [World.cell?, hg, hi]
  have hfro : w.frozen? ⟨g, o + i, none⟩ = false := by
   have h := hfz (o + i) hi; obtain ⟨lo, hi'⟩ := fz; simp only [World.frozen?, hg, Bool.and_eq_false_iff, decide_eq_false_iff_not]; simp only at h
   omega
  have hst : (store ((⟨g, o, none⟩ : Addr).add i) v).run P w = .ok () (w.setRow g (cur.setIfInBounds (o + i) v)) := by
   rw [hadd, run_store P w _ v _ (h1 v (by simp)), hcell]
   simp [hfro, setCell_eq_setRow w g (o + i) cur t fz v hg]
  have ih := run_storeCells_atX P g o t fz rest (i + 1) (cur.setIfInBounds (o + i) v) (w.setRow g (cur.setIfInBounds (o + i) v)) (setRow_heap w g cur _ t _ hg) (fun j hj => hfz j (by simpa using hj)) (by simp at hl ⊢; omega) (fun x hx => h1 x (by simp [hx])); simp only [storeCells, Sem.run_bind, hst, Result.andThen_ok, ih, setRow_setRow]
  congr 3
  have e := list_seg_step cur.toList (o + i) v rest (by simp at hl ⊢; omega)
  simpa [Array.toList_setIfInBounds, Nat.add_assoc] using e
def RowX (w : World) (g cap : Nat) (l : List UInt8) : Prop :=
 ∃ cur fz, w.heap[g]? = some (.cells cur 5 fz) ∧ l.length ≤ cap ∧ cap ≤ maxLen ∧ cur.size = cap ∧ cur.toList.take l.length = Lib.byteCells l ∧ ∀ j, j < cur.size → ¬ (fz.1 ≤ j ∧ j < fz.2)
theorem RowX.lt {w : World} {g cap : Nat} {l : List UInt8} (h : RowX w g cap l) : g < w.heap.size := by
 obtain ⟨cur, fz, hg, _⟩ := h; exact (Array.getElem?_eq_some_iff.1 hg).1
theorem RowX.cells {w : World} {g cap : Nat} {l : List UInt8} (h : RowX w g cap l) : ∀ j u, (Lib.byteCells l)[j]? = some u → w.cell? ((⟨g, 0, none⟩ : Addr).add j) = some u := by
 obtain ⟨cur, fz, hg, h1, h2, h3, h4, _⟩ := h; intro j u hj
 have hlt : j < l.length := by
  rcases Nat.lt_or_ge j l.length with h' | h'
  ·exact h'
  ·rw [List.getElem?_eq_none (by rw [byteCells_len]; exact h')] at hj; cases hj
 rw [← h4, List.getElem?_take, if_pos hlt] at hj; rw [show (⟨g, 0, none⟩ : Addr).add j = ⟨g, j, none⟩ by unfold Addr.add; split <;> simp_all, cell_of_row w g j cur _ _ hg, ← Array.getElem?_toList, hj]
theorem RowX.bat {w : World} {g cap : Nat} {l : List UInt8} (h : RowX w g cap l) : BAt w (some ⟨g, 0, none⟩) l := fun _ => by
 refine ⟨g, 0, rfl, h.lt, fun i hi => ?_⟩; have := h.cells i (.int .u8 (l[i]).toNat) (by simp [Lib.byteCells, List.getElem?_map, hi])
 rwa [show (⟨g, 0, none⟩ : Addr).add i = ⟨g, 0 + i, none⟩ by unfold Addr.add; split <;> simp_all] at this
theorem str_row (w : World) (l : List UInt8) (hl : l.length ≤ 1099511627776) :
  ∃ cap w', (convert 9 32 (.string ⟨l.toArray⟩)).run Tryz.prog w = .ok (.slice (some ⟨w.heap.size, 0, none⟩) l.length cap) w' ∧ Below w.heap.size w w' ∧ RowX w' w.heap.size cap l := by
 have h := run_bytes_of_string (P := Tryz.prog) w 9 32 5 ⟨l.toArray⟩ Tryz.underlying9 Tryz.underlying32 Tryz.underlying5; rw [size_toArray] at h; have hge := grownCap_ge w l.length 0 5; have hcm : grownCap w l.length 0 5 ≤ maxLen := grownCap_le_maxLen w _ _ _ (by unfold maxLen; omega)
 have hsz : (bytesRow ⟨l.toArray⟩ (grownCap w l.length 0 5)).size = grownCap w l.length 0 5 := by
  unfold bytesRow; simp only [Array.size_append, Array.size_map, Array.size_replicate, List.size_toArray, size_toArray]
  omega
 refine ⟨_, _, h, ((Below.refl _ w).drew).alloc (Nat.le_refl _) _, _, _, heap_alloc_new w.drew _, hge, hcm, hsz, ?_, fun j hj hf => ?_⟩
 ·simp [bytesRow, Lib.byteCells]
 ·have := hf.1
  simp only at this
  omega
theorem run_append_rowX {w : World} {g cap : Nat} {l m : List UInt8} (h : RowX w g cap l) {x : Option Addr} {n c : Nat} (hx : BAt w x m) (hn : n = m.length) (hno : x = none → n = 0 ∧ c = 0) (hb : l.length + m.length ≤ 1099511627776) (ty : TypeId) :
  ∃ g' cap' w', (Builtin.append_ #[32, 32] ty #[.slice (some ⟨g, 0, none⟩) l.length cap, .slice x n c]).run Tryz.prog w = .ok (.slice (some ⟨g', 0, none⟩) (l.length + m.length) cap') w' ∧ RowX w' g' cap' (l ++ m) ∧ w.grownBy w' (some g) ∧ (g' = g ∨ w.heap.size ≤ g') := by
 obtain ⟨i, hi, hz, hs, hby⟩ := info_parts info_u8; have hsrc := src_of hx hn hno; rw [← hs] at hsrc; subst hn; have hml : (Lib.byteCells m).length = m.length := byteCells_len m; have hcl := h.cells
 by_cases hm0 : m.length = 0
 ·obtain rfl : m = [] := List.eq_nil_of_length_eq_zero hm0
  obtain ⟨cur, fz, hg, h1, h2, h3, h4, h5⟩ := h; refine ⟨g, cap, w, run_append_nothing w 32 32 ty 5 i Tryz.underlying32 hi _ l.length cap h1 _ (by simpa [Lib.byteCells] using hsrc), ?_, ⟨rfl, rfl, rfl, Nat.le_refl _, fun _ _ _ => rfl⟩, .inl rfl⟩; rw [List.append_nil]; exact ⟨cur, fz, hg, h1, h2, h3, h4, h5⟩
 ·obtain ⟨cur, fz, hg, h1, h2, h3, h4, h5⟩ := h
  by_cases hroom : l.length + m.length ≤ cap
  ·have hfit : l.length * i.size + (Lib.byteCells m).length ≤ cur.size := by rw [hs, hml, h3]; omega
   have hr : (Builtin.append_ #[32, 32] ty #[.slice (some ⟨g, 0, none⟩) l.length cap, .slice x m.length c]).run Tryz.prog w = .ok (.slice (some ⟨g, 0, none⟩) (l.length + m.length) cap) (w.setRow g (cur.toList.take (l.length * i.size) ++ Lib.byteCells m ++ cur.toList.drop (l.length * i.size + (Lib.byteCells m).length)).toArray) := by
    cases x with
    | none => exact absurd (hno rfl).1 hm0
    | some ad =>
     have hnews : ∀ j u, (Lib.byteCells m)[j]? = some u → w.cell? (ad.add j) = some u := fun j u hj => by
      have hlt : j < m.length := by
       rcases Nat.lt_or_ge j m.length with h' | h'
       ·exact h'
       ·rw [byteCells_at, List.getElem?_eq_none h'] at hj; cases hj
      obtain ⟨b, o, e, _, hc⟩ := hx (by omega)
      cases e
      rw [show (⟨b, o, none⟩ : Addr).add j = ⟨b, o + j, none⟩ by unfold Addr.add; split <;> simp_all, hc j hlt]; rw [byteCells_at, List.getElem?_eq_getElem hlt] at hj
      simpa using hj
     have hf := run_firstCells_some (P := Tryz.prog) w i.size m.length ad m.length c (Lib.byteCells m) (by rw [hs, hml, Nat.mul_one]) hnews; have hst := run_storeCells_atX Tryz.prog g (l.length * i.size) 5 fz (Lib.byteCells m) 0 cur w hg h5 (by simpa using hfit) (byteCells_one m); simp only [Nat.add_zero] at hst; have hu := Tryz.underlying32
     simp [Builtin.append_, run_underlying hu, sizeOf, typeInfo, hi, Builtin.lenOf, hroom, hf, Addr.add_lit, hst]
   have hsz : (cur.toList.take (l.length * i.size) ++ Lib.byteCells m ++ cur.toList.drop (l.length * i.size + (Lib.byteCells m).length)).toArray.size = cur.size := by
    simp only [List.size_toArray, List.length_append, List.length_take, List.length_drop, Array.length_toList, hml, hs]
    omega
   refine ⟨g, cap, _, hr, ⟨_, fz, setRow_heap w g cur _ _ _ hg, by rw [List.length_append]; exact hroom, h2, by rw [hsz]; exact h3, ?_, fun j hj => h5 j (by rw [hsz] at hj; exact hj)⟩, ⟨rfl, rfl, rfl, by simp, fun k _ hk => setRow_other w g k _ (fun e => hk (by rw [e]))⟩, .inl rfl⟩; simp only [hs, Nat.mul_one]; rw [h4, ← Lib.byteCells_append, ← byteCells_len (l ++ m)]; exact List.take_left
  ·have hge := grownCap_ge w (l.length + m.length) cap 5
   have hcm : grownCap w (l.length + m.length) cap 5 ≤ maxLen := grownCap_le_maxLen w _ _ _ (by unfold maxLen; omega)
   have hold : (Builtin.firstCells i.size l.length (.slice (some ⟨g, 0, none⟩) l.length cap)).run Tryz.prog w.drew = .ok (Lib.byteCells l).toArray w.drew :=
    run_firstCells_some w.drew i.size l.length ⟨g, 0, none⟩ l.length cap (Lib.byteCells l) (by rw [byteCells_len, hs, Nat.mul_one]) hcl
   have hr := run_append_grow_src w 32 32 ty 5 i (.int .u8 0) Tryz.underlying32 hi hz (some ⟨g, 0, none⟩) l.length cap (Lib.byteCells l) hold (.slice x m.length c) m.length (Lib.byteCells m) hsrc (by omega) (by omega) (growslice_fits (by omega) (by rw [hby]; omega)); refine ⟨_, _, _, hr, ⟨_, (0, 0), heap_alloc_new w.drew _, by rw [List.length_append]; exact hge, hcm, ?_, ?_, fun j _ hf => absurd hf.2 (Nat.not_lt_zero j)⟩, ⟨rfl, rfl, rfl, by simp, fun k hk _ => Below.heap_alloc w.drew _ k hk⟩, .inr (Nat.le_refl _)⟩
   ·simp only [Array.size_append, List.size_toArray, size_zeroCells, List.length_append, byteCells_len, Value.cells]
    simp; omega
   ·rw [List.length_append, ← Lib.byteCells_append]
    simp only [Array.toList_append]; rw [← List.length_append, ← byteCells_len (l ++ m)]; exact List.take_left
theorem wp_append_rowX {o : Oper} {a : Act} {w : World} {K : Act → World → Prop} {Q : Exit → Act → World → Prop} (s y : Operand)
  (ho : o.op = .call { callee := .builtin .append, args := #[s, y], argTypes := #[32, 32] })
  (g cap k : Nat) (l m : List UInt8) (hk : k = l.length) (hs : a.eval s = .slice (some ⟨g, 0, none⟩) k cap) (hrow : RowX w g cap l) (x : Option Addr) (n c : Nat) (hy : a.eval y = .slice x n c) (hx : BAt w x m) (hn : n = m.length) (hno : x = none → n = 0 ∧ c = 0) (hb : l.length + m.length ≤ 1099511627776)
  (h : ∀ g' cap' w', RowX w' g' cap' (l ++ m) → w.grownBy w' (some g) → (g' = g ∨ w.heap.size ≤ g') → K (a.put o.dst (.slice (some ⟨g', 0, none⟩) (l.length + m.length) cap')) w') : Oper.wp Tryz.prog o a w K Q := by
 subst hk; obtain ⟨g', cap', w', hr, h1, h2, h3⟩ := run_append_rowX hrow hx hn hno hb o.type; unfold Oper.wp execOp; simp only [ho, resolve, invoke, builtin, Sem.run_bind, Sem.run_pure, Result.andThen_ok, List.map_toArray, List.map_cons, List.map_nil, hs, hy, hr]; exact h g' cap' w' h1 h2 h3
theorem step_append_rowX {ops : Array Oper} {o : Oper} {a : Act} {w : World} {K : Act → World → Prop} {Q : Exit → Act → World → Prop} {E : Prop} (hgd : o.guard = none) (s y : Operand)
  (ho : o.op = .call { callee := .builtin .append, args := #[s, y], argTypes := #[32, 32] })
  (g cap k : Nat) (l m : List UInt8) (hk : k = l.length) (hs : a.eval s = .slice (some ⟨g, 0, none⟩) k cap) (hrow : RowX w g cap l) (x : Option Addr) (n c : Nat) (hy : a.eval y = .slice x n c) (hx : BAt w x m) (hn : n = m.length) (hno : x = none → n = 0 ∧ c = 0) (hb : l.length + m.length ≤ 1099511627776)
  (h : ∀ g' cap' w', RowX w' g' cap' (l ++ m) → w.grownBy w' (some g) → (g' = g ∨ w.heap.size ≤ g') → K (a.put o.dst (.slice (some ⟨g', 0, none⟩) (l.length + m.length) cap')) w') : if Region.wanted o (yielded ops a.tmps) = true then Oper.wp Tryz.prog o a w K Q else E := by
 have hw : Region.wanted o (yielded ops a.tmps) = true := by simp [Region.wanted, hgd]
 rw [if_pos hw]; exact wp_append_rowX s y ho g cap k l m hk hs hrow x n c hy hx hn hno hb h
end Go.Proofs.YtnbcbiglkmdepaaGreatDoor
namespace Go.Proofs
open Go.Shelf
def Tryz.lays169_ren : Go.Shelf.Ren := ⟨fun | 169 => 206 | n => n, fun | 70 => 251 | 9 => 9 | 0 => 0 | 72 => 253 | 37 => 32 | 127 => 271 | 3 => 3 | 5 => 5 | n => n, fun | n => n⟩
theorem Tryz.lays169 : Go.Proofs.Lays.n169 Tryz.prog Tryz.lays169_ren := {
 mixed := by kernel_rfl
 f169 := Tryz.func206.trans (congrArg some (by kernel_rfl))
 t0 := Tryz.underlying0
 a0 := Tryz.isAgg0
 z0 := Tryz.sizeOf0
 v0 := Tryz.zeroValue0
 t3 := Tryz.underlying3
 a3 := Tryz.isAgg3
 z3 := Tryz.sizeOf3
 v3 := Tryz.zeroValue3
 t9 := Tryz.underlying9
 a9 := Tryz.isAgg9
 z9 := Tryz.sizeOf9
 v9 := Tryz.zeroValue9
 t37 := Tryz.underlying32
 a37 := Tryz.isAgg32
 z37 := Tryz.sizeOf32
 v37 := Tryz.zeroValue32
 t70 := Tryz.underlying251
 a70 := Tryz.isAgg251
 z70 := Tryz.sizeOf251
 v70 := Tryz.zeroValue251
 t72 := Tryz.underlying253
 a72 := Tryz.isAgg253
 z72 := Tryz.sizeOf253
 v72 := Tryz.zeroValue253
 t127 := Tryz.underlying271
 a127 := Tryz.isAgg271
 z127 := Tryz.sizeOf271
 v127 := Tryz.zeroValue271 }
theorem Tryz.Builder_Extra_169 : Builder.Extra Tryz.prog Tryz.lays169_ren := {
 sizeBuilder := by kernel_rfl
 liesBuilder := by kernel_rfl
 t5 := Tryz.underlying5
 a5 := Tryz.isAgg5
 z5 := Tryz.sizeOf5
 v5 := Tryz.zeroValue5
 infoByte := by kernel_rfl
 cellsByte := by kernel_rfl
 sizeByte := by kernel_rfl
 neB5 := by decide }
def Tryz.lays165_ren : Go.Shelf.Ren := ⟨fun | 165 => 220 | 240 => 224 | 241 => 234 | 276 => 235 | 277 => 239 | n => n, fun | 70 => 251 | 3 => 3 | 0 => 0 | 4 => 4 | 9 => 9 | 20 => 20 | 72 => 253 | 37 => 32 | 164 => 284 | 5 => 5 | n => n, fun | n => n⟩
theorem Tryz.lays165 : Go.Proofs.Lays.n165 Tryz.prog Tryz.lays165_ren := {
 mixed := by kernel_rfl
 f165 := Tryz.func220.trans (congrArg some (by kernel_rfl))
 f240 := Tryz.func224.trans (congrArg some (by kernel_rfl))
 f241 := Tryz.func234.trans (congrArg some (by kernel_rfl))
 f276 := Tryz.func235.trans (congrArg some (by kernel_rfl))
 f277 := Tryz.func239.trans (congrArg some (by kernel_rfl))
 t0 := Tryz.underlying0
 a0 := Tryz.isAgg0
 z0 := Tryz.sizeOf0
 v0 := Tryz.zeroValue0
 t3 := Tryz.underlying3
 a3 := Tryz.isAgg3
 z3 := Tryz.sizeOf3
 v3 := Tryz.zeroValue3
 t4 := Tryz.underlying4
 a4 := Tryz.isAgg4
 z4 := Tryz.sizeOf4
 v4 := Tryz.zeroValue4
 t9 := Tryz.underlying9
 a9 := Tryz.isAgg9
 z9 := Tryz.sizeOf9
 v9 := Tryz.zeroValue9
 t20 := Tryz.underlying20
 a20 := Tryz.isAgg20
 z20 := Tryz.sizeOf20
 v20 := Tryz.zeroValue20
 t37 := Tryz.underlying32
 a37 := Tryz.isAgg32
 z37 := Tryz.sizeOf32
 v37 := Tryz.zeroValue32
 t70 := Tryz.underlying251
 a70 := Tryz.isAgg251
 z70 := Tryz.sizeOf251
 v70 := Tryz.zeroValue251
 t72 := Tryz.underlying253
 a72 := Tryz.isAgg253
 z72 := Tryz.sizeOf253
 v72 := Tryz.zeroValue253
 t164 := Tryz.underlying284
 a164 := Tryz.isAgg284
 z164 := Tryz.sizeOf284
 v164 := Tryz.zeroValue284 }
theorem Tryz.Builder_Extra_165 : Builder.Extra Tryz.prog Tryz.lays165_ren := {
 sizeBuilder := by kernel_rfl
 liesBuilder := by kernel_rfl
 t5 := Tryz.underlying5
 a5 := Tryz.isAgg5
 z5 := Tryz.sizeOf5
 v5 := Tryz.zeroValue5
 infoByte := by kernel_rfl
 cellsByte := by kernel_rfl
 sizeByte := by kernel_rfl
 neB5 := by decide }
def Tryz.lays161_ren : Go.Shelf.Ren := ⟨fun | 161 => 184 | 231 => 199 | 227 => 200 | 233 => 201 | 235 => 202 | 228 => 218 | 197 => 212 | 151 => 219 | 260 => 229 | 152 => 233 | 137 => 143 | 119 => 238 | 224 => 215 | 225 => 214 | 217 => 166 | 266 => 188 | n => n, fun | 9 => 9 | 4 => 4 | 3 => 3 | 5 => 5 | 117 => 247 | 116 => 246 | 0 => 0 | 124 => 250 | 105 => 262 | 21 => 21 | 119 => 231 | 46 => 136 | 139 => 234 | 138 => 233 | n => n, fun | 3 => 2 | 4 => 3 | n => n⟩
theorem Tryz.lays161 : Go.Proofs.Lays.n161 Tryz.prog Tryz.lays161_ren := {
 mixed := by kernel_rfl
 f119 := Tryz.func238.trans (congrArg some (by kernel_rfl))
 f137 := Tryz.func143.trans (congrArg some (by kernel_rfl))
 f151 := Tryz.func219.trans (congrArg some (by kernel_rfl))
 f152 := Tryz.func233.trans (congrArg some (by kernel_rfl))
 f161 := Tryz.func184.trans (congrArg some (by kernel_rfl))
 f197 := Tryz.func212.trans (congrArg some (by kernel_rfl))
 f217 := Tryz.func166.trans (congrArg some (by kernel_rfl))
 f224 := Tryz.func215.trans (congrArg some (by kernel_rfl))
 f225 := Tryz.func214.trans (congrArg some (by kernel_rfl))
 f227 := Tryz.func200.trans (congrArg some (by kernel_rfl))
 f228 := Tryz.func218.trans (congrArg some (by kernel_rfl))
 f231 := Tryz.func199.trans (congrArg some (by kernel_rfl))
 f233 := Tryz.func201.trans (congrArg some (by kernel_rfl))
 f235 := Tryz.func202.trans (congrArg some (by kernel_rfl))
 f260 := Tryz.func229.trans (congrArg some (by kernel_rfl))
 f266 := Tryz.func188.trans (congrArg some (by kernel_rfl))
 t0 := Tryz.underlying0
 a0 := Tryz.isAgg0
 z0 := Tryz.sizeOf0
 v0 := Tryz.zeroValue0
 t3 := Tryz.underlying3
 a3 := Tryz.isAgg3
 z3 := Tryz.sizeOf3
 v3 := Tryz.zeroValue3
 t4 := Tryz.underlying4
 a4 := Tryz.isAgg4
 z4 := Tryz.sizeOf4
 v4 := Tryz.zeroValue4
 t5 := Tryz.underlying5
 a5 := Tryz.isAgg5
 z5 := Tryz.sizeOf5
 v5 := Tryz.zeroValue5
 t9 := Tryz.underlying9
 a9 := Tryz.isAgg9
 z9 := Tryz.sizeOf9
 v9 := Tryz.zeroValue9
 t21 := Tryz.underlying21
 a21 := Tryz.isAgg21
 z21 := Tryz.sizeOf21
 v21 := Tryz.zeroValue21
 t46 := Tryz.underlying136
 a46 := Tryz.isAgg136
 z46 := Tryz.sizeOf136
 v46 := Tryz.zeroValue136
 t105 := Tryz.underlying262
 a105 := Tryz.isAgg262
 z105 := Tryz.sizeOf262
 v105 := Tryz.zeroValue262
 t116 := Tryz.underlying246
 a116 := Tryz.isAgg246
 z116 := Tryz.sizeOf246
 t117 := Tryz.underlying247
 a117 := Tryz.isAgg247
 z117 := Tryz.sizeOf247
 v117 := Tryz.zeroValue247
 t119 := Tryz.underlying231
 a119 := Tryz.isAgg231
 z119 := Tryz.sizeOf231
 t124 := Tryz.underlying250
 a124 := Tryz.isAgg250
 z124 := Tryz.sizeOf250
 v124 := Tryz.zeroValue250
 t138 := Tryz.underlying233
 a138 := Tryz.isAgg233
 z138 := Tryz.sizeOf233
 v138 := Tryz.zeroValue233
 t139 := Tryz.underlying234
 a139 := Tryz.isAgg234
 z139 := Tryz.sizeOf234
 v139 := Tryz.zeroValue234
 g3 := by kernel_rfl
 g4 := by kernel_rfl }
open Go.RowKit in
theorem Tryz.strings_TrimLeft_one (s : ByteArray) (c : UInt8) (hc : c.toNat < 128) (w : World) :
  Calls Tryz.prog 184 #[.string s, .string ⟨#[c]⟩] w fun e w' => e = .returned (.string ⟨(Lib.trimLeftB s.data.toList c).toArray⟩) ∧ w' = w := Any.strings_TrimLeft_one Tryz.lays161 s c hc w
def Tryz.lays162_ren : Go.Shelf.Ren := ⟨fun | 162 => 186 | 232 => 207 | 227 => 200 | 234 => 208 | 236 => 209 | 228 => 218 | 271 => 226 | 151 => 219 | 120 => 237 | 197 => 212 | 152 => 233 | 260 => 229 | 137 => 143 | 119 => 238 | 224 => 215 | 225 => 214 | 217 => 166 | 266 => 188 | n => n, fun | 9 => 9 | 4 => 4 | 3 => 3 | 5 => 5 | 117 => 247 | 116 => 246 | 0 => 0 | 124 => 250 | 21 => 21 | 105 => 262 | 46 => 136 | 119 => 231 | 139 => 234 | 138 => 233 | n => n, fun | 3 => 2 | 4 => 3 | n => n⟩
theorem Tryz.lays162 : Go.Proofs.Lays.n162 Tryz.prog Tryz.lays162_ren := {
 mixed := by kernel_rfl
 f119 := Tryz.func238.trans (congrArg some (by kernel_rfl))
 f120 := Tryz.func237.trans (congrArg some (by kernel_rfl))
 f137 := Tryz.func143.trans (congrArg some (by kernel_rfl))
 f151 := Tryz.func219.trans (congrArg some (by kernel_rfl))
 f152 := Tryz.func233.trans (congrArg some (by kernel_rfl))
 f162 := Tryz.func186.trans (congrArg some (by kernel_rfl))
 f197 := Tryz.func212.trans (congrArg some (by kernel_rfl))
 f217 := Tryz.func166.trans (congrArg some (by kernel_rfl))
 f224 := Tryz.func215.trans (congrArg some (by kernel_rfl))
 f225 := Tryz.func214.trans (congrArg some (by kernel_rfl))
 f227 := Tryz.func200.trans (congrArg some (by kernel_rfl))
 f228 := Tryz.func218.trans (congrArg some (by kernel_rfl))
 f232 := Tryz.func207.trans (congrArg some (by kernel_rfl))
 f234 := Tryz.func208.trans (congrArg some (by kernel_rfl))
 f236 := Tryz.func209.trans (congrArg some (by kernel_rfl))
 f260 := Tryz.func229.trans (congrArg some (by kernel_rfl))
 f266 := Tryz.func188.trans (congrArg some (by kernel_rfl))
 f271 := Tryz.func226.trans (congrArg some (by kernel_rfl))
 t0 := Tryz.underlying0
 a0 := Tryz.isAgg0
 z0 := Tryz.sizeOf0
 v0 := Tryz.zeroValue0
 t3 := Tryz.underlying3
 a3 := Tryz.isAgg3
 z3 := Tryz.sizeOf3
 v3 := Tryz.zeroValue3
 t4 := Tryz.underlying4
 a4 := Tryz.isAgg4
 z4 := Tryz.sizeOf4
 v4 := Tryz.zeroValue4
 t5 := Tryz.underlying5
 a5 := Tryz.isAgg5
 z5 := Tryz.sizeOf5
 v5 := Tryz.zeroValue5
 t9 := Tryz.underlying9
 a9 := Tryz.isAgg9
 z9 := Tryz.sizeOf9
 v9 := Tryz.zeroValue9
 t21 := Tryz.underlying21
 a21 := Tryz.isAgg21
 z21 := Tryz.sizeOf21
 v21 := Tryz.zeroValue21
 t46 := Tryz.underlying136
 a46 := Tryz.isAgg136
 z46 := Tryz.sizeOf136
 v46 := Tryz.zeroValue136
 t105 := Tryz.underlying262
 a105 := Tryz.isAgg262
 z105 := Tryz.sizeOf262
 v105 := Tryz.zeroValue262
 t116 := Tryz.underlying246
 a116 := Tryz.isAgg246
 z116 := Tryz.sizeOf246
 t117 := Tryz.underlying247
 a117 := Tryz.isAgg247
 z117 := Tryz.sizeOf247
 v117 := Tryz.zeroValue247
 t119 := Tryz.underlying231
 a119 := Tryz.isAgg231
 z119 := Tryz.sizeOf231
 t124 := Tryz.underlying250
 a124 := Tryz.isAgg250
 z124 := Tryz.sizeOf250
 v124 := Tryz.zeroValue250
 t138 := Tryz.underlying233
 a138 := Tryz.isAgg233
 z138 := Tryz.sizeOf233
 v138 := Tryz.zeroValue233
 t139 := Tryz.underlying234
 a139 := Tryz.isAgg234
 z139 := Tryz.sizeOf234
 v139 := Tryz.zeroValue234
 g3 := by kernel_rfl
 g4 := by kernel_rfl }
open Go.RowKit in
theorem Tryz.strings_TrimRight_one (s : ByteArray) (c : UInt8) (hc : c.toNat < 128) (w : World) (hs : s.size ≤ 9223372036854775807) :
  Calls Tryz.prog 186 #[.string s, .string ⟨#[c]⟩] w fun e w' => e = .returned (.string ⟨(Lib.trimRightB s.data.toList c).toArray⟩) ∧ w' = w := Any.strings_TrimRight_one Tryz.lays162 s c hc w hs
def Tryz.lays137_ren : Go.Shelf.Ren := ⟨fun | 137 => 143 | 217 => 166 | 266 => 188 | n => n, fun | 9 => 9 | 5 => 5 | 3 => 3 | n => n, fun | n => n⟩
theorem Tryz.lays137 : Go.Proofs.Lays.n137 Tryz.prog Tryz.lays137_ren := {
 mixed := by kernel_rfl
 f137 := Tryz.func143.trans (congrArg some (by kernel_rfl))
 f217 := Tryz.func166.trans (congrArg some (by kernel_rfl))
 f266 := Tryz.func188.trans (congrArg some (by kernel_rfl))
 t3 := Tryz.underlying3
 a3 := Tryz.isAgg3
 z3 := Tryz.sizeOf3
 v3 := Tryz.zeroValue3
 t5 := Tryz.underlying5
 a5 := Tryz.isAgg5
 z5 := Tryz.sizeOf5
 v5 := Tryz.zeroValue5
 t9 := Tryz.underlying9
 a9 := Tryz.isAgg9
 z9 := Tryz.sizeOf9
 v9 := Tryz.zeroValue9 }
open Go.RowKit in
theorem Tryz.strings_IndexByte (s : ByteArray) (c : Int) (w : World) :
  Calls Tryz.prog 143 #[.string s, .int .u8 c] w fun e w' => e = .returned (.int .i64 (Lib.indexByte s.data.toList c.toNat.toUInt8)) ∧ w' = w := Any.strings_IndexByte Tryz.lays137 s c w
def Tryz.lays103_ren : Go.Shelf.Ren := ⟨fun | 103 => 106 | 210 => 139 | 206 => 156 | n => n, fun | 9 => 9 | 4 => 4 | 24 => 181 | 3 => 3 | n => n, fun | n => n⟩
theorem Tryz.lays103 : Go.Proofs.Lays.n103 Tryz.prog Tryz.lays103_ren := {
 mixed := by kernel_rfl
 f103 := Tryz.func106.trans (congrArg some (by kernel_rfl))
 f206 := Tryz.func156.trans (congrArg some (by kernel_rfl))
 f210 := Tryz.func139.trans (congrArg some (by kernel_rfl))
 t3 := Tryz.underlying3
 a3 := Tryz.isAgg3
 z3 := Tryz.sizeOf3
 v3 := Tryz.zeroValue3
 t4 := Tryz.underlying4
 a4 := Tryz.isAgg4
 z4 := Tryz.sizeOf4
 v4 := Tryz.zeroValue4
 t9 := Tryz.underlying9
 a9 := Tryz.isAgg9
 z9 := Tryz.sizeOf9
 v9 := Tryz.zeroValue9
 t24 := Tryz.underlying181
 a24 := Tryz.isAgg181
 z24 := Tryz.sizeOf181
 v24 := Tryz.zeroValue181 }
open Go.RowKit in
theorem Tryz.strings_CutPrefix (s p : ByteArray) (w : World) :
  Calls Tryz.prog 106 #[.string s, .string p] w fun e w' => e = .returned (.tuple #[.string ⟨(Lib.trimPrefix s.data.toList p.data.toList).toArray⟩, .bool (Lib.hasPrefix s.data.toList p.data.toList)]) ∧ w' = w := Any.strings_CutPrefix Tryz.lays103 s p w
open Go.RowKit in
theorem Tryz.Builder_String_any_k (B b : Nat) (l : List UInt8) (w : World) (h : Lib.IsBuilderF 253 5 B b (Lib.byteCells l) w) (hBw : B ≤ w.heap.size) :
  Calls Tryz.prog 206 #[.pointer (some ⟨b, 0, none⟩)] w fun e w' => e = .returned (.string ⟨l.toArray⟩) ∧ (Lib.IsBuilderF 253 5 B b (Lib.byteCells l) w' ∧ Below B w w' ∧ Lib.OthersKept 5 (some b) w w') := Any.Builder_String_any_k Tryz.lays169 Tryz.Builder_Extra_169 B b l w h hBw
open Go.RowKit in
theorem Tryz.Builder_Grow_fresh_cap (B b n : Nat) (w : World) (hB : B ≤ b) (hbk : w.heap[b]? = some (.cells #[.pointer none, .slice none 0 0] 253 (0, 0))) (hBw : B ≤ w.heap.size) (hn : n ≤ 281474976710656) :
  Calls Tryz.prog 220 #[.pointer (some ⟨b, 0, none⟩), .int .i64 n] w fun e w' => e = .returned (.tuple #[]) ∧ (Lib.BuilderAt 253 5 B b (.pointer (some ⟨b, 0, none⟩)) [] w' ∧ Below B w w') ∧ ∃ p cap, w'.cell? ⟨b, 1, none⟩ = some (.slice p 0 cap) ∧ n ≤ cap := Any.Builder_Grow_fresh_cap Tryz.lays165 Tryz.Builder_Extra_165 B b n w hB hbk hBw hn
def Tryz.laysM173_ren : Go.Shelf.Ren := ⟨fun | 173 => 95 | 246 => 126 | 283 => 152 | 284 => 153 | 285 => 154 | 286 => 155 | 129 => 125 | 317 => 169 | 318 => 170 | 319 => 171 | 320 => 172 | 337 => 189 | 338 => 190 | n => n, fun | 2 => 2 | 3 => 3 | 9 => 9 | 4 => 4 | 171 => 215 | 0 => 0 | 53 => 126 | 37 => 32 | 5 => 5 | 173 => 217 | 212 => 226 | 51 => 123 | 20 => 20 | 213 => 227 | 46 => 136 | 232 => 260 | 233 => 125 | n => n, fun | 17 => 1 | 18 => 4 | 19 => 5 | n => n⟩
theorem Tryz.laysM173 : Go.Proofs.LaysM.n173 Tryz.prog Tryz.laysM173_ren := {
 mixed := by kernel_rfl
 f129 := Tryz.func125.trans (congrArg some (by kernel_rfl))
 f173 := Tryz.func95.trans (congrArg some (by kernel_rfl))
 f246 := Tryz.func126.trans (congrArg some (by kernel_rfl))
 f283 := Tryz.func152.trans (congrArg some (by kernel_rfl))
 f284 := Tryz.func153.trans (congrArg some (by kernel_rfl))
 f285 := Tryz.func154.trans (congrArg some (by kernel_rfl))
 f286 := Tryz.func155.trans (congrArg some (by kernel_rfl))
 f317 := Tryz.func169.trans (congrArg some (by kernel_rfl))
 f318 := Tryz.func170.trans (congrArg some (by kernel_rfl))
 f319 := Tryz.func171.trans (congrArg some (by kernel_rfl))
 f320 := Tryz.func172.trans (congrArg some (by kernel_rfl))
 f337 := Tryz.func189.trans (congrArg some (by kernel_rfl))
 f338 := Tryz.func190.trans (congrArg some (by kernel_rfl))
 t0 := Tryz.underlying0
 a0 := Tryz.isAgg0
 z0 := Tryz.sizeOf0
 v0 := Tryz.zeroValue0
 t2 := Tryz.underlying2
 a2 := Tryz.isAgg2
 z2 := Tryz.sizeOf2
 v2 := Tryz.zeroValue2
 t3 := Tryz.underlying3
 a3 := Tryz.isAgg3
 z3 := Tryz.sizeOf3
 v3 := Tryz.zeroValue3
 t4 := Tryz.underlying4
 a4 := Tryz.isAgg4
 z4 := Tryz.sizeOf4
 v4 := Tryz.zeroValue4
 t5 := Tryz.underlying5
 a5 := Tryz.isAgg5
 z5 := Tryz.sizeOf5
 v5 := Tryz.zeroValue5
 t9 := Tryz.underlying9
 a9 := Tryz.isAgg9
 z9 := Tryz.sizeOf9
 v9 := Tryz.zeroValue9
 t20 := Tryz.underlying20
 a20 := Tryz.isAgg20
 z20 := Tryz.sizeOf20
 v20 := Tryz.zeroValue20
 t37 := Tryz.underlying32
 a37 := Tryz.isAgg32
 z37 := Tryz.sizeOf32
 v37 := Tryz.zeroValue32
 t46 := Tryz.underlying136
 a46 := Tryz.isAgg136
 z46 := Tryz.sizeOf136
 v46 := Tryz.zeroValue136
 t51 := Tryz.underlying123
 a51 := Tryz.isAgg123
 z51 := Tryz.sizeOf123
 v51 := Tryz.zeroValue123
 t53 := Tryz.underlying126
 a53 := Tryz.isAgg126
 z53 := Tryz.sizeOf126
 v53 := Tryz.zeroValue126
 t171 := Tryz.underlying215
 a171 := Tryz.isAgg215
 z171 := Tryz.sizeOf215
 v171 := Tryz.zeroValue215
 t173 := Tryz.underlying217
 a173 := Tryz.isAgg217
 z173 := Tryz.sizeOf217
 v173 := Tryz.zeroValue217
 t212 := Tryz.underlying226
 a212 := Tryz.isAgg226
 z212 := Tryz.sizeOf226
 v212 := Tryz.zeroValue226
 t213 := Tryz.underlying227
 a213 := Tryz.isAgg227
 z213 := Tryz.sizeOf227
 t232 := Tryz.underlying260
 a232 := Tryz.isAgg260
 z232 := Tryz.sizeOf260
 v232 := Tryz.zeroValue260
 t233 := Tryz.underlying125
 a233 := Tryz.isAgg125
 z233 := Tryz.sizeOf125
 v233 := Tryz.zeroValue125
 g17 := by kernel_rfl
 g18 := by kernel_rfl
 g19 := by kernel_rfl
 i0 := by kernel_rfl
 i2 := by kernel_rfl
 i3 := by kernel_rfl
 i4 := by kernel_rfl
 i5 := by kernel_rfl
 i9 := by kernel_rfl
 i20 := by kernel_rfl
 i37 := by kernel_rfl
 i46 := by kernel_rfl
 i51 := by kernel_rfl
 i53 := by kernel_rfl
 i171 := by kernel_rfl
 i173 := by kernel_rfl
 i212 := by kernel_rfl
 i232 := by kernel_rfl
 i233 := by kernel_rfl
 m17 := by kernel_rfl
 m18 := by kernel_rfl
 m19 := by kernel_rfl }
open Go.RowKit Go.Sort Go.Lib in
theorem Tryz.strconv_FormatInt_10 (n : Int) (h0 : -9223372036854775808 ≤ n) (h1 : n ≤ 9223372036854775807) (w : World) (htab : Lib.TabIs Tryz.prog w "internal/strconv.uint64pow10" .u64 Lib.pow10Tab) :
  Calls Tryz.prog 95 #[.int .i64 n, .int .i64 10] w fun e w' => e = .returned (.string ⟨(Lib.itoa n).toArray⟩) ∧ ∃ k os, w' = grow (w.drewN k) os := Any.strconv_FormatInt_10 Tryz.laysM173 n h0 h1 w htab
def Tryz.lays144_ren : Go.Shelf.Ren := ⟨fun | 144 => 173 | 143 => 191 | 219 => 194 | 217 => 166 | 225 => 214 | 224 => 215 | 267 => 216 | 266 => 188 | 314 => 232 | n => n, fun | 9 => 9 | 4 => 4 | 3 => 3 | 5 => 5 | 46 => 136 | 146 => 139 | 51 => 123 | n => n, fun | 1 => 0 | n => n⟩
theorem Tryz.lays144 : Go.Proofs.Lays.n144 Tryz.prog Tryz.lays144_ren := {
 mixed := by kernel_rfl
 f143 := Tryz.func191.trans (congrArg some (by kernel_rfl))
 f144 := Tryz.func173.trans (congrArg some (by kernel_rfl))
 f217 := Tryz.func166.trans (congrArg some (by kernel_rfl))
 f219 := Tryz.func194.trans (congrArg some (by kernel_rfl))
 f224 := Tryz.func215.trans (congrArg some (by kernel_rfl))
 f225 := Tryz.func214.trans (congrArg some (by kernel_rfl))
 f266 := Tryz.func188.trans (congrArg some (by kernel_rfl))
 f267 := Tryz.func216.trans (congrArg some (by kernel_rfl))
 f314 := Tryz.func232.trans (congrArg some (by kernel_rfl))
 t3 := Tryz.underlying3
 a3 := Tryz.isAgg3
 z3 := Tryz.sizeOf3
 v3 := Tryz.zeroValue3
 t4 := Tryz.underlying4
 a4 := Tryz.isAgg4
 z4 := Tryz.sizeOf4
 v4 := Tryz.zeroValue4
 t5 := Tryz.underlying5
 a5 := Tryz.isAgg5
 z5 := Tryz.sizeOf5
 v5 := Tryz.zeroValue5
 t9 := Tryz.underlying9
 a9 := Tryz.isAgg9
 z9 := Tryz.sizeOf9
 v9 := Tryz.zeroValue9
 t46 := Tryz.underlying136
 a46 := Tryz.isAgg136
 z46 := Tryz.sizeOf136
 v46 := Tryz.zeroValue136
 t51 := Tryz.underlying123
 a51 := Tryz.isAgg123
 z51 := Tryz.sizeOf123
 v51 := Tryz.zeroValue123
 t146 := Tryz.underlying139
 a146 := Tryz.isAgg139
 z146 := Tryz.sizeOf139
 v146 := Tryz.zeroValue139
 g1 := by kernel_rfl }
open Go.RowKit Go.Lib in
theorem Tryz.strings_Contains_one (s : ByteArray) (c : UInt8) (w : World) :
  Calls Tryz.prog 173 #[.string s, .string ⟨#[c]⟩] w fun e w' => e = .returned (.bool (decide (0 ≤ Lib.indexByte s.data.toList c))) ∧ w' = w := Any.strings_Contains_one Tryz.lays144 s c w
def Tryz.lays145_ren : Go.Shelf.Ren := ⟨fun | 145 => 160 | 220 => 178 | 219 => 194 | 217 => 166 | 225 => 214 | 224 => 215 | 267 => 216 | 266 => 188 | 314 => 232 | n => n, fun | 9 => 9 | 4 => 4 | 59 => 152 | 3 => 3 | 5 => 5 | 46 => 136 | 146 => 139 | 51 => 123 | n => n, fun | 1 => 0 | n => n⟩
theorem Tryz.lays145 : Go.Proofs.Lays.n145 Tryz.prog Tryz.lays145_ren := {
 mixed := by kernel_rfl
 f145 := Tryz.func160.trans (congrArg some (by kernel_rfl))
 f217 := Tryz.func166.trans (congrArg some (by kernel_rfl))
 f219 := Tryz.func194.trans (congrArg some (by kernel_rfl))
 f220 := Tryz.func178.trans (congrArg some (by kernel_rfl))
 f224 := Tryz.func215.trans (congrArg some (by kernel_rfl))
 f225 := Tryz.func214.trans (congrArg some (by kernel_rfl))
 f266 := Tryz.func188.trans (congrArg some (by kernel_rfl))
 f267 := Tryz.func216.trans (congrArg some (by kernel_rfl))
 f314 := Tryz.func232.trans (congrArg some (by kernel_rfl))
 t3 := Tryz.underlying3
 a3 := Tryz.isAgg3
 z3 := Tryz.sizeOf3
 v3 := Tryz.zeroValue3
 t4 := Tryz.underlying4
 a4 := Tryz.isAgg4
 z4 := Tryz.sizeOf4
 v4 := Tryz.zeroValue4
 t5 := Tryz.underlying5
 a5 := Tryz.isAgg5
 z5 := Tryz.sizeOf5
 v5 := Tryz.zeroValue5
 t9 := Tryz.underlying9
 a9 := Tryz.isAgg9
 z9 := Tryz.sizeOf9
 v9 := Tryz.zeroValue9
 t46 := Tryz.underlying136
 a46 := Tryz.isAgg136
 z46 := Tryz.sizeOf136
 v46 := Tryz.zeroValue136
 t51 := Tryz.underlying123
 a51 := Tryz.isAgg123
 z51 := Tryz.sizeOf123
 v51 := Tryz.zeroValue123
 t59 := Tryz.underlying152
 a59 := Tryz.isAgg152
 z59 := Tryz.sizeOf152
 v59 := Tryz.zeroValue152
 t146 := Tryz.underlying139
 a146 := Tryz.isAgg139
 z146 := Tryz.sizeOf139
 v146 := Tryz.zeroValue139
 g1 := by kernel_rfl }
open Go.RowKit Go.Lib in
theorem Tryz.strings_Cut (s sep : ByteArray) (m : Int) (w : World) (hs : s.size < 4294967281) (hm : w.cell? ⟨0, 0, none⟩ = some (.int .i64 m)) :
  Calls Tryz.prog 160 #[.string s, .string sep] w fun e w' => e = .returned (.tuple #[.string ⟨(Lib.cut s.data.toList sep.data.toList).1.toArray⟩, .string ⟨(Lib.cut s.data.toList sep.data.toList).2.1.toArray⟩, .bool (Lib.cut s.data.toList sep.data.toList).2.2]) ∧ ∃ n, w' = w.drewN n := Any.strings_Cut Tryz.lays145 s sep m w hs hm
def Tryz.laysM145_ren : Go.Shelf.Ren := ⟨fun | 145 => 160 | 220 => 178 | 219 => 194 | 217 => 166 | 225 => 214 | 224 => 215 | 267 => 216 | 266 => 188 | 314 => 232 | n => n, fun | 9 => 9 | 4 => 4 | 59 => 152 | 3 => 3 | 5 => 5 | 46 => 136 | 146 => 139 | 51 => 123 | n => n, fun | 1 => 0 | n => n⟩
theorem Tryz.laysM145 : Go.Proofs.LaysM.n145 Tryz.prog Tryz.laysM145_ren := {
 mixed := by kernel_rfl
 f145 := Tryz.func160.trans (congrArg some (by kernel_rfl))
 f217 := Tryz.func166.trans (congrArg some (by kernel_rfl))
 f219 := Tryz.func194.trans (congrArg some (by kernel_rfl))
 f220 := Tryz.func178.trans (congrArg some (by kernel_rfl))
 f224 := Tryz.func215.trans (congrArg some (by kernel_rfl))
 f225 := Tryz.func214.trans (congrArg some (by kernel_rfl))
 f266 := Tryz.func188.trans (congrArg some (by kernel_rfl))
 f267 := Tryz.func216.trans (congrArg some (by kernel_rfl))
 f314 := Tryz.func232.trans (congrArg some (by kernel_rfl))
 t3 := Tryz.underlying3
 a3 := Tryz.isAgg3
 z3 := Tryz.sizeOf3
 v3 := Tryz.zeroValue3
 t4 := Tryz.underlying4
 a4 := Tryz.isAgg4
 z4 := Tryz.sizeOf4
 v4 := Tryz.zeroValue4
 t5 := Tryz.underlying5
 a5 := Tryz.isAgg5
 z5 := Tryz.sizeOf5
 v5 := Tryz.zeroValue5
 t9 := Tryz.underlying9
 a9 := Tryz.isAgg9
 z9 := Tryz.sizeOf9
 v9 := Tryz.zeroValue9
 t46 := Tryz.underlying136
 a46 := Tryz.isAgg136
 z46 := Tryz.sizeOf136
 v46 := Tryz.zeroValue136
 t51 := Tryz.underlying123
 a51 := Tryz.isAgg123
 z51 := Tryz.sizeOf123
 v51 := Tryz.zeroValue123
 t59 := Tryz.underlying152
 a59 := Tryz.isAgg152
 z59 := Tryz.sizeOf152
 v59 := Tryz.zeroValue152
 t146 := Tryz.underlying139
 a146 := Tryz.isAgg139
 z146 := Tryz.sizeOf139
 v146 := Tryz.zeroValue139
 g1 := by kernel_rfl
 i3 := by kernel_rfl
 i4 := by kernel_rfl
 i5 := by kernel_rfl
 i9 := by kernel_rfl
 i46 := by kernel_rfl
 i51 := by kernel_rfl
 i59 := by kernel_rfl
 i146 := by kernel_rfl
 m1 := by kernel_rfl
 s1_3 := fun w h => Go.Proofs.cell_of_shapedOpen_int (zero := #[.int .i64 0]) (t := 3) h (of_decide_eq_true (by kernel_rfl)) (by kernel_rfl) rfl (by kernel_rfl) (by kernel_rfl) Tryz.underlying3 }
def Tryz.lays99_ren : Go.Shelf.Ren := ⟨fun | 99 => 131 | 206 => 156 | n => n, fun | 9 => 9 | 4 => 4 | 3 => 3 | n => n, fun | n => n⟩
theorem Tryz.lays99 : Go.Proofs.Lays.n99 Tryz.prog Tryz.lays99_ren := {
 mixed := by kernel_rfl
 f99 := Tryz.func131.trans (congrArg some (by kernel_rfl))
 f206 := Tryz.func156.trans (congrArg some (by kernel_rfl))
 t3 := Tryz.underlying3
 a3 := Tryz.isAgg3
 z3 := Tryz.sizeOf3
 v3 := Tryz.zeroValue3
 t4 := Tryz.underlying4
 a4 := Tryz.isAgg4
 z4 := Tryz.sizeOf4
 v4 := Tryz.zeroValue4
 t9 := Tryz.underlying9
 a9 := Tryz.isAgg9
 z9 := Tryz.sizeOf9
 v9 := Tryz.zeroValue9 }
open Go.RowKit Go.Lib in
theorem Tryz.strings_HasPrefix (s p : ByteArray) (w : World) :
  Calls Tryz.prog 131 #[.string s, .string p] w fun e w' => e = .returned (.bool (Lib.hasPrefix s.data.toList p.data.toList)) ∧ w' = w := Any.strings_HasPrefix Tryz.lays99 s p w
def Tryz.lays102_ren : Go.Shelf.Ren := ⟨fun | 102 => 182 | 209 => 197 | 207 => 217 | n => n, fun | 9 => 9 | 4 => 4 | 3 => 3 | n => n, fun | n => n⟩
theorem Tryz.lays102 : Go.Proofs.Lays.n102 Tryz.prog Tryz.lays102_ren := {
 mixed := by kernel_rfl
 f102 := Tryz.func182.trans (congrArg some (by kernel_rfl))
 f207 := Tryz.func217.trans (congrArg some (by kernel_rfl))
 f209 := Tryz.func197.trans (congrArg some (by kernel_rfl))
 t3 := Tryz.underlying3
 a3 := Tryz.isAgg3
 z3 := Tryz.sizeOf3
 v3 := Tryz.zeroValue3
 t4 := Tryz.underlying4
 a4 := Tryz.isAgg4
 z4 := Tryz.sizeOf4
 v4 := Tryz.zeroValue4
 t9 := Tryz.underlying9
 a9 := Tryz.isAgg9
 z9 := Tryz.sizeOf9
 v9 := Tryz.zeroValue9 }
open Go.RowKit Go.Lib in
theorem Tryz.strings_TrimSuffix (s p : ByteArray) (w : World) (hs : s.size ≤ 9223372036854775807) :
  Calls Tryz.prog 182 #[.string s, .string p] w fun e w' => e = .returned (.string ⟨(Lib.trimSuffix s.data.toList p.data.toList).toArray⟩) ∧ w' = w := Any.strings_TrimSuffix Tryz.lays102 s p w hs
def Tryz.lays146_ren : Go.Shelf.Ren := ⟨fun | 146 => 174 | 221 => 192 | 268 => 210 | 138 => 211 | 143 => 191 | 195 => 227 | 197 => 212 | 218 => 228 | 219 => 194 | 260 => 229 | 217 => 166 | 225 => 214 | 224 => 215 | 267 => 216 | 266 => 188 | 314 => 232 | n => n, fun | 9 => 9 | 31 => 228 | 3 => 3 | 4 => 4 | 0 => 0 | 105 => 262 | 21 => 21 | 5 => 5 | 46 => 136 | 119 => 231 | 139 => 234 | 138 => 233 | 146 => 139 | 51 => 123 | n => n, fun | 1 => 0 | 3 => 2 | 4 => 3 | n => n⟩
theorem Tryz.lays146 : Go.Proofs.Lays.n146 Tryz.prog Tryz.lays146_ren := {
 mixed := by kernel_rfl
 f138 := Tryz.func211.trans (congrArg some (by kernel_rfl))
 f143 := Tryz.func191.trans (congrArg some (by kernel_rfl))
 f146 := Tryz.func174.trans (congrArg some (by kernel_rfl))
 f195 := Tryz.func227.trans (congrArg some (by kernel_rfl))
 f197 := Tryz.func212.trans (congrArg some (by kernel_rfl))
 f217 := Tryz.func166.trans (congrArg some (by kernel_rfl))
 f218 := Tryz.func228.trans (congrArg some (by kernel_rfl))
 f219 := Tryz.func194.trans (congrArg some (by kernel_rfl))
 f221 := Tryz.func192.trans (congrArg some (by kernel_rfl))
 f224 := Tryz.func215.trans (congrArg some (by kernel_rfl))
 f225 := Tryz.func214.trans (congrArg some (by kernel_rfl))
 f260 := Tryz.func229.trans (congrArg some (by kernel_rfl))
 f266 := Tryz.func188.trans (congrArg some (by kernel_rfl))
 f267 := Tryz.func216.trans (congrArg some (by kernel_rfl))
 f268 := Tryz.func210.trans (congrArg some (by kernel_rfl))
 f314 := Tryz.func232.trans (congrArg some (by kernel_rfl))
 t0 := Tryz.underlying0
 a0 := Tryz.isAgg0
 z0 := Tryz.sizeOf0
 v0 := Tryz.zeroValue0
 t3 := Tryz.underlying3
 a3 := Tryz.isAgg3
 z3 := Tryz.sizeOf3
 v3 := Tryz.zeroValue3
 t4 := Tryz.underlying4
 a4 := Tryz.isAgg4
 z4 := Tryz.sizeOf4
 v4 := Tryz.zeroValue4
 t5 := Tryz.underlying5
 a5 := Tryz.isAgg5
 z5 := Tryz.sizeOf5
 v5 := Tryz.zeroValue5
 t9 := Tryz.underlying9
 a9 := Tryz.isAgg9
 z9 := Tryz.sizeOf9
 v9 := Tryz.zeroValue9
 t21 := Tryz.underlying21
 a21 := Tryz.isAgg21
 z21 := Tryz.sizeOf21
 v21 := Tryz.zeroValue21
 t31 := Tryz.underlying228
 a31 := Tryz.isAgg228
 z31 := Tryz.sizeOf228
 v31 := Tryz.zeroValue228
 t46 := Tryz.underlying136
 a46 := Tryz.isAgg136
 z46 := Tryz.sizeOf136
 v46 := Tryz.zeroValue136
 t51 := Tryz.underlying123
 a51 := Tryz.isAgg123
 z51 := Tryz.sizeOf123
 v51 := Tryz.zeroValue123
 t105 := Tryz.underlying262
 a105 := Tryz.isAgg262
 z105 := Tryz.sizeOf262
 v105 := Tryz.zeroValue262
 t119 := Tryz.underlying231
 a119 := Tryz.isAgg231
 z119 := Tryz.sizeOf231
 t138 := Tryz.underlying233
 a138 := Tryz.isAgg233
 z138 := Tryz.sizeOf233
 v138 := Tryz.zeroValue233
 t139 := Tryz.underlying234
 a139 := Tryz.isAgg234
 z139 := Tryz.sizeOf234
 v139 := Tryz.zeroValue234
 t146 := Tryz.underlying139
 a146 := Tryz.isAgg139
 z146 := Tryz.sizeOf139
 v146 := Tryz.zeroValue139
 g1 := by kernel_rfl
 g3 := by kernel_rfl
 g4 := by kernel_rfl }
open Go.RowKit Go.Lib in
theorem Tryz.strings_Split (s sep : ByteArray) (m : Int) (w : World) (hs : s.size < 4294967281) (hm : w.cell? ⟨0, 0, none⟩ = some (.int .i64 m)) (h1 : 1 ≤ sep.size) :
  Calls Tryz.prog 174 #[.string s, .string sep] w fun e w' =>
   e = .returned (.slice (some ⟨w.heap.size, 0, none⟩) (Lib.countB s sep + 1) (Lib.countB s sep + 1)) ∧ w' = w.alloc (.cells ((Lib.splitB sep 0 (Lib.countB s sep) s).map Value.string).toArray 9) := Any.strings_Split Tryz.lays146 (by kernel_rfl) s sep m w hs hm h1
def Tryz.lays197_ren : Go.Shelf.Ren := ⟨fun | 197 => 212 | 260 => 229 | n => n, fun | 9 => 9 | 21 => 21 | 3 => 3 | 4 => 4 | 5 => 5 | 105 => 262 | 119 => 231 | 0 => 0 | 46 => 136 | 139 => 234 | 138 => 233 | n => n, fun | 3 => 2 | 4 => 3 | n => n⟩
theorem Tryz.lays197 : Go.Proofs.Lays.n197 Tryz.prog Tryz.lays197_ren := {
 mixed := by kernel_rfl
 f197 := Tryz.func212.trans (congrArg some (by kernel_rfl))
 f260 := Tryz.func229.trans (congrArg some (by kernel_rfl))
 t0 := Tryz.underlying0
 a0 := Tryz.isAgg0
 z0 := Tryz.sizeOf0
 v0 := Tryz.zeroValue0
 t3 := Tryz.underlying3
 a3 := Tryz.isAgg3
 z3 := Tryz.sizeOf3
 v3 := Tryz.zeroValue3
 t4 := Tryz.underlying4
 a4 := Tryz.isAgg4
 z4 := Tryz.sizeOf4
 v4 := Tryz.zeroValue4
 t5 := Tryz.underlying5
 a5 := Tryz.isAgg5
 z5 := Tryz.sizeOf5
 v5 := Tryz.zeroValue5
 t9 := Tryz.underlying9
 a9 := Tryz.isAgg9
 z9 := Tryz.sizeOf9
 v9 := Tryz.zeroValue9
 t21 := Tryz.underlying21
 a21 := Tryz.isAgg21
 z21 := Tryz.sizeOf21
 v21 := Tryz.zeroValue21
 t46 := Tryz.underlying136
 a46 := Tryz.isAgg136
 z46 := Tryz.sizeOf136
 v46 := Tryz.zeroValue136
 t105 := Tryz.underlying262
 a105 := Tryz.isAgg262
 z105 := Tryz.sizeOf262
 v105 := Tryz.zeroValue262
 t119 := Tryz.underlying231
 a119 := Tryz.isAgg231
 z119 := Tryz.sizeOf231
 t138 := Tryz.underlying233
 a138 := Tryz.isAgg233
 z138 := Tryz.sizeOf233
 v138 := Tryz.zeroValue233
 t139 := Tryz.underlying234
 a139 := Tryz.isAgg234
 z139 := Tryz.sizeOf234
 v139 := Tryz.zeroValue234
 g3 := by kernel_rfl
 g4 := by kernel_rfl }
open Go.RowKit Go.Lib in
theorem Tryz.utf8_DecodeRuneInString (s : ByteArray) (w : World) (hT : Lib.Utf8Tabs 2 3 w) :
  Calls Tryz.prog 212 #[.string s] w fun e w' => e = .returned (.tuple #[.int .i32 (Lib.decodeGo s).1, .int .i64 (Lib.decodeGo s).2]) ∧ Below w.heap.size w w' := Any.utf8_DecodeRuneInString Tryz.lays197 s w hT
end Go.Proofs
namespace Go.Proofs.YtnbcbiglkmdepaaGreatDoor
set_option maxRecDepth 20000
open Go.RowKit
def Tab (w : World) : Prop := Lib.TabIs Tryz.prog w "internal/strconv.uint64pow10" .u64 Lib.pow10Tab ∧ 1 < w.heap.size
theorem gPow : Tryz.prog.globalNamed "internal/strconv.uint64pow10" = some 1 := by kernel_rfl
theorem Tab.keep {w w' : World} (h : Tab w) (hb : Below w.heap.size w w') : Tab w' :=
 ⟨var?_below hb gPow h.2 h.1, Nat.lt_of_lt_of_le h.2 hb.size⟩
theorem Number_any (n : Int) (h0 : -9223372036854775808 ≤ n) (h1 : n ≤ 9223372036854775807) (w : World) (htab : Tab w) :
  Calls Tryz.prog 71 #[.int .i64 n] w fun e w' => e = .returned (.string ⟨(Lib.itoa n).toArray⟩) ∧ Below w.heap.size w w' := by
 go_enter Tryz.func71, Tryz.ntmps71
 go_wp2_with fail
 refine (Tryz.strconv_FormatInt_10 n h0 h1 _ htab.1).mono ?_; rintro e w1 ⟨rfl, k, os, rfl⟩; go_wp2; go_ret; exact ⟨rfl, Lib.below_grow _ _ (Nat.le_refl _) _ _⟩
theorem conv_cell (b : Nat) (x : Int) (w : World) (h : w.cell? ⟨b, 0, none⟩ = some (.int .u8 x)) :
  (convert 32 9 (.slice (some ⟨b, 0, none⟩) 1 1)).run Tryz.prog w = .ok (.string ⟨[UInt8.ofNat x.toNat].toArray⟩) w :=
 run_convert_bytes_arg _ 32 5 Tryz.underlying32 Tryz.underlying5 b 0 1 1 [x] rfl (fun i hi => by
  obtain rfl : i = 0 := by omega
  exact h) 9 Tryz.underlying9
theorem conv_one (x : Int) (w : World) :
  (convert 32 9 (.slice (some ⟨w.heap.size, 0, none⟩) 1 1)).run Tryz.prog (w.alloc (.cells #[.int .u8 x] 5)) = .ok (.string ⟨[UInt8.ofNat x.toNat].toArray⟩) (w.alloc (.cells #[.int .u8 x] 5)) :=
 run_convert_bytes_arg _ 32 5 Tryz.underlying32 Tryz.underlying5 w.heap.size 0 1 1 [x] rfl (fun i hi => by
  obtain rfl : i = 0 := by omega
  exact Lib.cell_of_heap (heap_alloc_new _ _) 0) 9 Tryz.underlying9
theorem rdigits_small (u : Int) (w : World) (h0 : 0 ≤ u) (h1 : u < 10) :
  Calls Tryz.prog 77 #[.int .u64 u] w fun e w' => e = .returned (.string ⟨(Lib.decDigits u.toNat).toArray⟩) ∧ Below w.heap.size w w' := by
 have hcv := conv_one (48 + u) w
 go_enter Tryz.func77, Tryz.ntmps77
 go_wp2; go_ret; refine ⟨ret_str ?_, (Below.refl _ w).alloc (Nat.le_refl _) _⟩; rw [Lib.decDigits_one (by omega), show (48 + u).toNat = 48 + u.toNat by omega]
theorem nDigits_le (u : Nat) (h : u ≤ 18446744073709551615) : Lib.nDigits u ≤ 20 := by
 rw [← Lib.decDigits_length]
 have key : ∀ (k u : Nat), u < 10 ^ (k + 1) → (Lib.decDigits u).length ≤ k + 1 := by
  intro k
  induction k with
  | zero => intro u hu; rw [Lib.decDigits_one (by omega)]; simp
  | succ k ih =>
   intro u hu; rw [Lib.decDigits]
   split
   ·simp
   ·have := ih (u / 10) (by rw [Nat.div_lt_iff_lt_mul (by omega)]; rw [Nat.pow_succ] at hu; omega)
    simp; omega
 exact key 19 u (by omega)
set_option maxRecDepth 100000 in
theorem rdigits_step (u : Int) (w : World) (h0 : 10 ≤ u) (h1 : u ≤ 18446744073709551615) (sd sl : ByteArray)
  (hcv : ∀ w : World, (convert 32 9 (.slice (some ⟨w.heap.size, 0, none⟩) 1 1)).run Tryz.prog (w.alloc (.cells #[.int .u8 (48 + u % 10)] 5)) = .ok (.string sl) (w.alloc (.cells #[.int .u8 (48 + u % 10)] 5)))
  (hcl : ∀ W : World, W.cell? ⟨w.heap.size, 0, none⟩ = some (.int .u8 (48 + u % 10)) → (convert 32 9 (.slice (some ⟨w.heap.size, 0, none⟩) 1 1)).run Tryz.prog W = .ok (.string sl) W)
  (hadd : ∀ w : World, (Op.stringOp .add sd sl).run Tryz.prog w = .ok (.string (sd ++ sl)) w)
  (ih : ∀ w, Calls Tryz.prog 77 #[.int .u64 (u / 10)] w fun e w' => e = .returned (.string sd) ∧ Below w.heap.size w w') :
  Calls Tryz.prog 77 #[.int .u64 u] w fun e w' => e = .returned (.string (sd ++ sl)) ∧ Below w.heap.size w w' := by
 have IH := hyd ih; clear ih; have hcd := hcl (w.alloc (.cells #[.int .u8 (48 + u % 10)] 5)).drew (Lib.cell_of_heap (heap_alloc_new w _) 0); have HCL := hyd hcl; clear hcl; have q1 := IntWalk.u64_quo u 10 (by omega); have q2 := IntWalk.rem_in u 10 (by omega); have q3 := IntWalk.u64_in (48 + u % 10) (by omega); have q4 := IntWalk.u8_in (48 + u % 10) (by omega); have H1 := hyd h1; clear h1
 go_enter Tryz.func77, Tryz.ntmps77
 go_wp2_with fail
 go_region_with (go_at_call 77; refine (IH.out _).mono ?_; rintro e w' ⟨rfl, hb⟩; try have hcw := HCL.out w' ((hb.cell (p := ⟨w.heap.size, 0, none⟩) (by simp)).trans (Lib.cell_of_heap (heap_alloc_new w _) 0)))
 all_goals (try go_wp2)
 all_goals go_ret
 all_goals refine ⟨rfl, ?_⟩
 all_goals first
  | exact (((Below.refl _ w).alloc (Nat.le_refl _) _).drew).trans (hb.mono (by simp))
  | exact ((Below.refl _ w).drew.trans hb).alloc hb.size _
theorem rdigits (u : Int) (w : World) (h0 : 0 ≤ u) (h1 : u ≤ 18446744073709551615) :
  Calls Tryz.prog 77 #[.int .u64 u] w fun e w' => e = .returned (.string ⟨(Lib.decDigits u.toNat).toArray⟩) ∧ Below w.heap.size w w' := by
 have key : ∀ (m : Nat) (u : Int), u.toNat ≤ m → 0 ≤ u → u ≤ 18446744073709551615 → ∀ w : World,
   Calls Tryz.prog 77 #[.int .u64 u] w fun e w' => e = .returned (.string ⟨(Lib.decDigits u.toNat).toArray⟩) ∧ Below w.heap.size w w' := by
  intro m
  induction m with
  | zero => intro u hm h0 h1 w; exact rdigits_small u w h0 (by omega)
  | succ m ih =>
   intro u hm h0 h1 w
   by_cases h10 : u < 10
   ·exact rdigits_small u w h0 h10
   ·have e := rdigits_step u w (by omega) h1 ⟨(Lib.decDigits (u / 10).toNat).toArray⟩ ⟨[UInt8.ofNat (48 + u % 10).toNat].toArray⟩
     (fun w => conv_one _ w) (fun W h => conv_cell _ _ W h)
     (fun w => run_string_add_sum w _ _ (by
      rw [size_toArray, size_toArray, Lib.decDigits_length]; have := nDigits_le (u / 10).toNat (by omega)
      simp; omega))
     (ih (u / 10) (by omega) (by omega) (by omega))
    refine e.mono ?_; rintro e w' ⟨rfl, hb⟩; refine ⟨?_, hb⟩
    have hh : ¬ u.toNat < 10 := by omega
    rw [Lib.decDigits.eq_1 u.toNat, dif_neg hh, show (u / 10).toNat = u.toNat / 10 by omega, show (48 + u % 10).toNat = 48 + u.toNat % 10 by omega, bytes_append]
 exact key u.toNat u (Nat.le_refl _) h0 h1 w
theorem rNumber_pos (n : Int) (h0 : 0 ≤ n) (h1 : n ≤ 9223372036854775807) (w : World) :
  Calls Tryz.prog 52 #[.int .i64 n] w fun e w' => e = .returned (.string ⟨(Lib.itoa n).toArray⟩) ∧ Below w.heap.size w w' := by
 go_enter Tryz.func52, Tryz.ntmps52
 go_wp2_with fail
 refine (rdigits n _ h0 (by omega)).mono ?_; rintro e w1 ⟨rfl, hb⟩; go_wp2; go_ret; exact ⟨ret_str (by rw [Lib.itoa, if_neg (by omega)]), hb⟩
theorem rNumber_neg (n : Int) (h0 : n < 0) (h1 : -9223372036854775808 ≤ n) (w : World) :
  Calls Tryz.prog 52 #[.int .i64 n] w fun e w' => e = .returned (.string ⟨(Lib.itoa n).toArray⟩) ∧ Below w.heap.size w w' := by
 go_enter Tryz.func52, Tryz.ntmps52
 go_wp2_with fail
 have c := fun w => rdigits (-(n + 1) + 1) w (by omega) (by omega)
 rw [show (-(n + 1) + 1).toNat = n.natAbs by omega] at c; refine (c _).mono ?_; rintro e w1 ⟨rfl, hb⟩; clear c
 have hadd := add_lists (P := Tryz.prog) w1 [45] (Lib.decDigits n.natAbs) (by
  rw [Lib.decDigits_length]; have := nDigits_le n.natAbs (by omega)
  simp; omega)
 go_wp2; go_ret; refine ⟨?_, hb⟩; rw [Lib.itoa, if_pos h0]
 rfl
theorem rNumber (n : Int) (h0 : -9223372036854775808 ≤ n) (h1 : n ≤ 9223372036854775807) (w : World) :
  Calls Tryz.prog 52 #[.int .i64 n] w fun e w' => e = .returned (.string ⟨(Lib.itoa n).toArray⟩) ∧ Below w.heap.size w w' := by
 by_cases h : n < 0
 ·exact rNumber_neg n h h0 w
 ·exact rNumber_pos n (by omega) h1 w
theorem RowX.red {w : World} {g cap : Nat} {l : List UInt8} (h : RowX w g cap l) (n : Nat) (hn : n = l.length) : Red w (.slice (some ⟨g, 0, .none⟩) n cap) l := by
 subst hn; have hb := h.bat; obtain ⟨cur, fz, hg, h1, h2, _⟩ := h; exact ⟨_, cap, rfl, hb, (fun e => nomatch e), h1, h2⟩
theorem roWord_is (k : Int) (w : World) : Calls Tryz.prog 51 #[.int .i64 k] w fun e w' => e = .returned (.string ⟨(wordO k).toArray⟩) ∧ w = w' := by
 unfold wordO
 by_cases h1 : k = 1
 ·rw [if_pos h1]; subst h1
  go_enter Tryz.func51, Tryz.ntmps51
  go_wp2; go_ret; exact ⟨rfl, rfl⟩
 ·rw [if_neg h1]
  by_cases h2 : k = 2
  ·rw [if_pos h2]; subst h2
   go_enter Tryz.func51, Tryz.ntmps51
   go_wp2; go_ret; exact ⟨rfl, rfl⟩
  ·rw [if_neg h2]
   by_cases h3 : k = 3
   ·rw [if_pos h3]; subst h3
    go_enter Tryz.func51, Tryz.ntmps51
    go_wp2; go_ret; exact ⟨rfl, rfl⟩
   ·rw [if_neg h3]
    go_enter Tryz.func51, Tryz.ntmps51
    go_wp2; go_ret; exact ⟨rfl, rfl⟩
theorem roPrint_kind (k : Int) (v : Value) (w : World) (hk : ¬ kindO k) :
  Calls Tryz.prog 20 #[.agg #[.int .i64 k, v]] w fun e w' => e = .returned (.tuple #[.slice none 0 0, .int .i64 10]) ∧ Below w.heap.size w w' := by
 have cW := fun w => roWord_is k w
 rw [(wordO_nil k).2 hk] at cW; have B0 := hyd ((Below.refl w.heap.size w).alloc (Nat.le_refl _) (.cells #[.int .i64 k, v] 34)); clear hk
 go_enter Tryz.func20, Tryz.ntmps20
 go_wp2_with fail
 refine (cW _).mono ?_; rintro e w1 ⟨rfl, rfl⟩; go_wp2
 go_ret2
 exact ⟨rfl, B0.out⟩
theorem roPrint_limit (k : Int) (a : Option Addr) (n c : Nat) (w : World) (hk : kindO k) (hn : 65536 < n) (hm : n ≤ maxLen) :
  Calls Tryz.prog 20 #[.agg #[.int .i64 k, .slice a n c]] w fun e w' => e = .returned (.tuple #[.slice none 0 0, .int .i64 5]) ∧ Below w.heap.size w w' := by
 unfold maxLen at hm
 have cW := fun w => roWord_is k w
 have hne : wordO k ≠ [] := fun h => (wordO_nil k).1 h hk
 have fe : (wordO k == ([] : List UInt8)) = false := by rw [beq_eq_false_iff_ne]; exact hne
 have fi : (wordO k).isEmpty = false := by cases hw : wordO k with | nil => exact absurd hw hne | cons _ _ => rfl
 generalize wordO k = wd at cW fe fi hne; have B0 := hyd ((Below.refl w.heap.size w).alloc (Nat.le_refl _) (.cells #[.int .i64 k, .slice a n c] 34)); clear hk
 go_enter Tryz.func20, Tryz.ntmps20
 go_wp2_with fail
 refine (cW _).mono ?_; rintro e w1 ⟨rfl, rfl⟩; go_wp2
 go_ret2
 exact ⟨rfl, B0.out⟩
def RestN (a : Option Addr) (l : List UInt8) (w w' : World) : Prop := BAt w' a l ∧ Below w.heap.size w w' ∧ w.heap.size + 1 ≤ w'.heap.size
abbrev PN (a : Option Addr) (n c : Nat) (l : List UInt8) (w w' : World) : Prop := w'.cell? ⟨w.heap.size, 1, .none⟩ = some (.slice a n c) ∧ RestN a l w w'
theorem pn_keep {a : Option Addr} {n c : Nat} {l : List UInt8} {w w' w'' : World} (h : PN a n c l w w') (hb : Below w'.heap.size w' w'') : PN a n c l w w'' := by
 obtain ⟨h1, h2, h3, h4⟩ := h; exact ⟨(hb.cell (p := ⟨w.heap.size, 1, .none⟩) (by show w.heap.size < _; omega)).trans h1, h2.keep hb, h3.trans (hb.mono h3.size), Nat.le_trans h4 hb.size⟩
theorem pn_drew {a : Option Addr} {n c : Nat} {l : List UInt8} {w w' : World} (h : PN a n c l w w') : PN a n c l w w'.drew := pn_keep h ((Below.refl _ w').drew)
theorem pn_grown {a : Option Addr} {n c : Nat} {l : List UInt8} {w w' w'' : World} {g : Nat} (h : PN a n c l w w') (hg : w'.grownBy w'' (some g)) (hgw : w.heap.size + 1 ≤ g) (hb : BAt w a l) : PN a n c l w w'' := by
 obtain ⟨h1, h2, h3, h4⟩ := h; have hbl : Below w.heap.size w w'' := h3.grown hg h3.size (fun k hk => by cases hk; omega); exact ⟨(World.cell?_of_block (hg.block _ (by show w.heap.size < _; omega) (by simp; omega))).trans h1, hb.keep hbl, hbl, Nat.le_trans h4 hg.size⟩
set_option maxRecDepth 100000 in
theorem roPrint_ok (k : Int) (a : Option Addr) (n c : Nat) (l : List UInt8) (w : World) (hk : kindO k) (hl : n ≤ 65536) (hn : n = l.length) (hb : BAt w a l) (hno : a = none → n = 0 ∧ c = 0) (hc : n ≤ c) :
  Calls Tryz.prog 20 #[.agg #[.int .i64 k, .slice a n c]] w fun e w' => ∃ v, e = .returned (.tuple #[v, .int .i64 0]) ∧ Red w' v (objO k l) ∧ Below w.heap.size w w' := by
 have cW := fun w => roWord_is k w
 have hne : wordO k ≠ [] := fun h => (wordO_nil k).1 h hk
 have fe : (wordO k == ([] : List UInt8)) = false := by rw [beq_eq_false_iff_ne]; exact hne
 have fi : (wordO k).isEmpty = false := by cases hw : wordO k with | nil => exact absurd hw hne | cons _ _ => rfl
 have hO : objO k l = wordO k ++ [32] ++ numO n ++ [0] ++ l := by subst hn; unfold objO headO; simp
 rw [hO]; have wl := wordO_len k; have nl : (numO n).length ≤ 5 := numO_le n 4 (by omega)
 have cN := fun w => rNumber (n : Int) (by omega) (by omega) w
 rw [show Lib.itoa (n : Int) = numO n from rfl] at cN; generalize wordO k = wd at cW fe fi hne wl ⊢; generalize numO n = nm at cN nl ⊢
 have ad0 := fun w => add_lists (P := Tryz.prog) w wd [32] (by simp; omega)
 have ad1 := fun w => add_lists (P := Tryz.prog) w (wd ++ [32]) nm (by simp; omega)
 have ad2 := fun w => add_lists (P := Tryz.prog) w (wd ++ [32] ++ nm) [0] (by simp; omega)
 obtain ⟨hd, hhd⟩ : ∃ hd, wd ++ [32] ++ nm ++ [0] = hd := ⟨_, rfl⟩
 have hdl : hd.length ≤ 13 := by rw [← hhd]; simp; omega
 rw [hhd] at ad2 ⊢; have SR := hyd (fun w => str_row w hd (by omega)); generalize (⟨hd.toArray⟩ : ByteArray) = s3 at ad2 SR; generalize (⟨(wd ++ [32] ++ nm).toArray⟩ : ByteArray) = s2 at ad1 ad2; generalize (⟨(wd ++ [32]).toArray⟩ : ByteArray) = s1 at ad0 ad1; generalize (⟨nm.toArray⟩ : ByteArray) = sn at ad1 cN; have DN := hyd (fun w' (h : PN a n c l w w') => ((cN w').mono (fun e w'' ⟨he, hb⟩ => ⟨he, pn_keep h hb⟩) : Calls Tryz.prog 52 #[.int .i64 (n : Int)] w' fun e w'' => e = .returned (.string sn) ∧ PN a n c l w w'')); have B0 := (Below.refl w.heap.size w).alloc (Nat.le_refl _) (.cells #[.int .i64 k, .slice a n c] 34); have K0 : PN a n c l w (w.alloc (.cells #[.int .i64 k, .slice a n c] 34)) := ⟨(Lib.cell_of_heap (heap_alloc_new w _) 1).trans rfl, hb.keep B0, B0, by simp⟩; have K1 := pn_drew K0; have HN := hyd hn; have HNO := hyd hno; have HBW := hyd hb; have HL := hyd hl; have HDL := hyd hdl; have hds : decide ((65536 : Int) < (n : Int)) = false := decide_eq_false (by omega)
 have hn2 : n ≤ 1000000 := by omega
 have q00 := K0.1; have q01 := K1.1; have k00 : (w.alloc (.cells #[.int .i64 k, .slice a n c] 34)).cell? ⟨w.heap.size, 0, none⟩ = some (.int .i64 k) := (Lib.cell_of_heap (heap_alloc_new w _) 0).trans rfl; clear cN hn hno B0 hk hne wl nl hO hhd hb hl hdl
 go_enter Tryz.func20, Tryz.ntmps20
 go_wp2_with fail
 refine (cW _).mono ?_; rintro e w1 ⟨rfl, rfl⟩
 go_wp2_with fail
 go_region_law (first
   | (go_simp; go_at_call 52; refine (DN.out _ (by assumption)).mono ?_; rintro e w' ⟨rfl, hS⟩; have hq := hS.1; obtain ⟨cap, w2, cv, b2, hr2⟩ := SR.out w'; have hS2 := pn_keep hS b2; have hq2 := hS2.1; have HX := hyd (And.intro hr2 hS.2.2.2); clear hr2 b2)
   | (refine step_append_rowX (by rfl) (.tmp 22) (.tmp 24) (by rfl) _ _ _ hd l (by rfl) (by rfl) HX.out.1 a n c (by rfl) hS2.2.1 HN.out HNO.out (by have := HDL.out; have := HN.out; have := HL.out; omega) ?_; intro g' cap' w3 hr3 hg3 hgg; have hS3 := pn_grown hS2 hg3 HX.out.2 HBW.out; have HY := hyd hr3; clear hr3 hg3 hgg))
 all_goals
  go_wp2
  (try simp only [Exit.inBlock, Exit.then])
  go_ret2
  exact ⟨_, rfl, HY.out.red _ (by simp), hS3.2.2.1⟩
theorem cutt_list (l : List UInt8) (a b : Nat) : (⟨l.toArray⟩ : ByteArray).extract a b = ⟨((l.drop a).take (b - a)).toArray⟩ := by
 apply ByteArray.ext
 simp [List.drop_take]
theorem Begins_is (s t : List UInt8) (hs : s.length ≤ 1000000) (ht : t.length ≤ 1000000) (w : World) :
  Calls Tryz.prog 82 #[.string ⟨s.toArray⟩, .string ⟨t.toArray⟩] w fun e w' => e = .returned (.bool (s.take t.length == t)) ∧ w = w' := by
 have ex := cutt_list s 0 t.length; rw [List.drop_zero, Nat.sub_zero] at ex; have z1 := size_toArray s; have z2 := size_toArray t
 by_cases h : t.length ≤ s.length
 ·obtain ⟨r, hr⟩ : ∃ r, (s.take t.length == t) = r := ⟨_, rfl⟩
  rw [hr]
  generalize (⟨s.toArray⟩ : ByteArray) = S at *
  obtain ⟨x, hx⟩ : ∃ x, s.take t.length = x := ⟨_, rfl⟩; rw [hx] at ex hr; clear hx
  go_enter Tryz.func82, Tryz.ntmps82
  go_wp2; go_ret; exact ⟨rfl, rfl⟩
 ·have hr : (s.take t.length == t) = false := by
   rw [beq_eq_false_iff_ne]; intro e; have := congrArg List.length e; rw [List.length_take] at this
   omega
  rw [hr]; clear hr ex
  generalize (⟨s.toArray⟩ : ByteArray) = S at *
  generalize (⟨t.toArray⟩ : ByteArray) = T at *
  go_enter Tryz.func82, Tryz.ntmps82
  go_wp2; go_ret; exact ⟨rfl, rfl⟩
theorem eq_byte (x y : Int) (w : World) :
  Calls Tryz.prog 55 #[.int .u8 x, .int .u8 y] w fun e w' => e = .returned (.bool (x == y)) ∧ w = w' := by
 go_enter Tryz.func55, Tryz.ntmps55
 go_wp2; go_ret; exact ⟨rfl, rfl⟩
theorem eq_byte_same (x : Int) (w : World) :
  Calls Tryz.prog 55 #[.int .u8 x, .int .u8 x] w fun e w' => e = .returned (.bool true) ∧ w = w' := by
 have h := eq_byte x x w
 rwa [show (x == x) = true by simp] at h
theorem Same_some (b1 o1 b2 o2 c1 c2 : Nat) (l : List UInt8) (w : World) (h1 : b1 < w.heap.size) (h2 : b2 < w.heap.size)
  (hc1 : ∀ i (h : i < l.length), w.cell? ⟨b1, o1 + i, none⟩ = some (.int .u8 (l[i]).toNat)) (hc2 : ∀ i (h : i < l.length), w.cell? ⟨b2, o2 + i, none⟩ = some (.int .u8 (l[i]).toNat)) (hn : l.length ≤ 1099511627776) :
  Calls Tryz.prog 54 #[.slice (some ⟨b1, o1, none⟩) l.length c1, .slice (some ⟨b2, o2, none⟩) l.length c2, .func (.func 55) #[] #[]] w fun e w' => e = .returned (.bool true) ∧ Below w.heap.size w w' := by
 have HC1 := hyd hc1; clear hc1; have HC2 := hyd hc2; clear hc2
 go_enter Tryz.func54, Tryz.ntmps54
 go_wp2_with fail
 go_loopw [7] (fun i wr => ∃ k : Nat, k ≤ l.length ∧ i = .int .i64 k ∧ Below w.heap.size w wr) (fun i _ => l.length - (intOf i).toNat)
 case atStart => exact ⟨0, Nat.zero_le _, rfl, Below.refl _ _⟩
 case round =>
  obtain ⟨k, hk, rfl, hbr⟩ := hrel
  by_cases hlt : k < l.length
  ·have hcell1 : wr.cell? ⟨b1, o1 + k, none⟩ = some (.int .u8 (l[k]).toNat) := (hbr.cell (p := ⟨b1, o1 + k, none⟩) h1).trans (HC1.out k hlt)
   have hcell2 : wr.cell? ⟨b2, o2 + k, none⟩ = some (.int .u8 (l[k]).toNat) := (hbr.cell (p := ⟨b2, o2 + k, none⟩) h2).trans (HC2.out k hlt); obtain ⟨x, hxe⟩ : ∃ x : Int, x = (l[k]).toNat := ⟨_, rfl⟩; rw [← hxe] at hcell1 hcell2; clear hxe
   go_wp2_with fail
   go_quiet ((go_at_call 55; exact Calls.quiet_of_same ((eq_byte_same _ _).mono fun _ _ h => ⟨h.1, h.2.symm⟩)))
   go_wp2
   go_roundw
   case rel => exact ⟨k + 1, by omega, by go_num, _root_.Go.below_drewN hbr _⟩
   case measure => simp [intOf]; omega
  ·obtain rfl : k = l.length := by omega
   go_wp2; go_ret; exact ⟨rfl, hbr⟩
theorem Same_none (a1 a2 : Option Addr) (c1 c2 : Nat) (w : World) :
  Calls Tryz.prog 54 #[.slice a1 0 c1, .slice a2 0 c2, .func (.func 55) #[] #[]] w fun e w' => e = .returned (.bool true) ∧ Below w.heap.size w w' := by
 go_enter Tryz.func54, Tryz.ntmps54
 go_wp2_with fail
 refine wp_loop_rounds 1 ?_; rw [rounds_succ]; go_wp2; go_ret; exact ⟨rfl, Below.refl _ _⟩
theorem Same_any (a1 a2 : Option Addr) (n1 n2 c1 c2 : Nat) (l : List UInt8) (w : World) (h1 : BAt w a1 l) (h2 : BAt w a2 l) (e1 : n1 = l.length) (e2 : n2 = l.length) (hn : l.length ≤ 1099511627776) :
  Calls Tryz.prog 54 #[.slice a1 n1 c1, .slice a2 n2 c2, .func (.func 55) #[] #[]] w fun e w' => e = .returned (.bool true) ∧ Below w.heap.size w w' := by
 subst e1; subst e2
 by_cases hp : 0 < l.length
 ·obtain ⟨b1, o1, rfl, hb1, hc1⟩ := h1 hp
  obtain ⟨b2, o2, rfl, hb2, hc2⟩ := h2 hp; exact Same_some b1 o1 b2 o2 c1 c2 l w hb1 hb2 hc1 hc2 hn
 ·obtain rfl : l = [] := List.eq_nil_of_length_eq_zero (by omega)
  exact Same_none a1 a2 c1 c2 w
theorem Plain_any (a1 a2 : Option Addr) (n1 n2 c1 c2 : Nat) (l : List UInt8) (w : World) (h1 : BAt w a1 l) (h2 : BAt w a2 l) (e1 : n1 = l.length) (e2 : n2 = l.length) (hn : l.length ≤ 1099511627776) :
  Calls Tryz.prog 25 #[.slice a1 n1 c1, .slice a2 n2 c2] w fun e w' => e = .returned (.bool true) ∧ Below w.heap.size w w' := by
 have C := hyd (Same_any a1 a2 n1 n2 c1 c2 l w h1 h2 e1 e2 hn); clear h1 h2 e1 e2
 go_enter Tryz.func25, Tryz.ntmps25
 go_wp2_with fail
 refine C.out.mono ?_; rintro e w1 ⟨rfl, hb⟩; go_wp2; go_ret; exact ⟨rfl, hb⟩
theorem Bytes_any (a1 a2 : Option Addr) (n1 n2 c1 c2 : Nat) (l1 l2 : List UInt8) (w : World) (h1 : BAt w a1 l1) (h2 : BAt w a2 l2) (e1 : n1 = l1.length) (e2 : n2 = l2.length) :
  Calls Tryz.prog 36 #[.slice a1 n1 c1, .slice a2 n2 c2] w fun e w' => e = .returned (.bool (l1 == l2)) ∧ w = w' := by
 subst e1; subst e2; have g1 := h1.conv (P := Tryz.prog) c1 32 5 Tryz.underlying32 Tryz.underlying5 9 Tryz.underlying9; have g2 := h2.conv (P := Tryz.prog) c2 32 5 Tryz.underlying32 Tryz.underlying5 9 Tryz.underlying9; clear h1 h2
 go_enter Tryz.func36, Tryz.ntmps36
 go_wp2; go_ret; exact ⟨rfl, rfl⟩
theorem Bytes_same (a1 a2 : Option Addr) (n1 n2 c1 c2 : Nat) (l : List UInt8) (w : World) (h1 : BAt w a1 l) (h2 : BAt w a2 l) (e1 : n1 = l.length) (e2 : n2 = l.length) :
  Calls Tryz.prog 36 #[.slice a1 n1 c1, .slice a2 n2 c2] w fun e w' => e = .returned (.bool true) ∧ w = w' := by
 have h := Bytes_any a1 a2 n1 n2 c1 c2 l l w h1 h2 e1 e2
 rwa [show (l == l) = true by simp] at h
theorem roPrint_any (k : Int) (a : Option Addr) (n c : Nat) (l : List UInt8) (w : World) (hn : n = l.length) (hb : BAt w a l) (hno : a = none → n = 0 ∧ c = 0) (hc : n ≤ c) (hm : c ≤ maxLen) :
  Calls Tryz.prog 20 #[.agg #[.int .i64 k, .slice a n c]] w fun e w' => ∃ v, e = .returned (.tuple #[v, .int .i64 (printO k l).2]) ∧ Red w' v (printO k l).1 ∧ Below w.heap.size w w' := by
 by_cases hk : kindO k
 ·by_cases hl : l.length ≤ 65536
  ·rw [printO_ok k l hk hl]
   exact roPrint_ok k a n c l w hk (by omega) hn hb hno hc
  ·rw [printO_limit k l hk (by omega)]
   refine (roPrint_limit k a n c w hk (by omega) (by omega)).mono ?_; rintro e w' ⟨rfl, h⟩; exact ⟨_, rfl, Red.none _, h⟩
 ·rw [printO_kind k l hk]
  refine (roPrint_kind k _ w hk).mono ?_; rintro e w' ⟨rfl, h⟩; exact ⟨_, rfl, Red.none _, h⟩
theorem infoOb : (Tryz.prog.info? 34).map (·.size) = some 2 := by kernel_rfl
theorem infoOb2 (a b : Value) : (Tryz.prog.info? 34).map (·.size) = some (#[a, b] : Array Value).size := infoOb
theorem sizeOb2 (a b e f : Value) : (#[e, f] : Array Value).size = (#[a, b] : Array Value).size := rfl
theorem wpList_store_obj {ops : Array Oper} {rest : List Oper} {o : Oper} {a : Act} {w : World} {Q : Exit → Act → World → Prop} (hgd : o.guard = none) (x y : Operand) (ho : o.op = .store 34 x y)
  (g : Nat) (a0 a1 b0 b1 : Value) (hx : a.eval x = .pointer (some ⟨g, 0, none⟩)) (hy : a.eval y = .agg #[a0, a1]) (hg : w.heap[g]? = some (.cells #[b0, b1] 34 (0, 0)))
  (one : (#[a0, a1] : Array Value).all (·.oneCell') = true)
  (h : ∀ w', w'.heap[g]? = some (.cells #[a0, a1] 34 (0, 0)) → (∀ B w0, B ≤ g → Below B w0 w → Below B w0 w') → (∀ k, k ≠ g → w'.heap[k]? = w.heap[k]?) → w'.heap.size = w.heap.size → wpList Tryz.prog ops Q rest (a.put o.dst undef) w') :
  wpList Tryz.prog ops Q (o :: rest) a w := by
 refine wpList_store_row hgd 34 x y ho g #[a0, a1] hx hy 34 #[b0, b1] hg (infoOb2 _ _) (sizeOb2 _ _ _ _) one ?_; refine h _ (setRow_heap w g _ _ _ (0, 0) hg) (fun B w0 hB hb => below_setRow hb hB _) (fun k hk => ?_) ?_
 ·simp [World.setRow, Array.getElem?_modify]
  intro e; exact absurd e.symm hk
 ·simp [World.setRow]
theorem Row.red {w : World} {v : Value} {l : List UInt8} (h : Row w v l) : Red w v l := by
 obtain ⟨a, c, e, h1, h2, h3, h4⟩ := h.shape; exact ⟨a, c, e, h3, h4, h1, h2⟩
theorem cells2 {w : World} {g : Nat} {a b : Value} {t : TypeId} {fr : Nat × Nat} (h : w.heap[g]? = some (.cells #[a, b] t fr)) :
  w.cell? ⟨g, 0, none⟩ = some a ∧ w.cell? ⟨g, 1, none⟩ = some b :=
 ⟨by rw [Lib.cell_of_heap h]; rfl, by rw [Lib.cell_of_heap h]; rfl⟩
theorem one_obj (k : Int) (a : Option Addr) (n c : Nat) : (#[.int .i64 k, .slice a n c] : Array Value).all (·.oneCell') = true := by simp [Value.oneCell']
end Go.Proofs.YtnbcbiglkmdepaaGreatDoor
