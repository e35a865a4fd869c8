/-
  Texts that belong together, one behind the other.
-/
import Derived.Lib.LaidU8T
import Derived.PinnedBridge
import Derived.Test.YtpelehhmdcjikaaGreatDoorFu02
import Derived.Shelf.Unicode.ValidAny
import Derived.Test.YtpelehhmdcjikaaGreatDoorFu17
import Derived.Test.YtpelehhmdcjikaaGreatDoorFu14
import Derived.Test.YtpelehhmdcjikaaGreatDoorFu15
import Derived.Test.YtpelehhmdcjikaaGreatDoorFu08
import Derived.Deep.QuietTactic
import Derived.BigQuiet
import Derived.Test.YtpelehhmdcjikaaGreatDoorFu16
import Derived.Test.YtpelehhmdcjikaaGreatDoorFu05
import Derived.Lib.OthersKept
import Derived.Laws.CopyRow
import Derived.Laws.CopyOwn
import Derived.Laws.Rows
import Derived.Laws.Tables
import Derived.Deep.WholeRow
/-
  unicode/utf8's tables, as the row lists them.
-/
namespace Go.Proofs
open Go.Shelf Go.RowKit Go.Lib
def Tryz.utRen : Go.Shelf.Ren := ⟨fun n => n, fun | 5 => 5 | 119 => 237 | 138 => 239 | 139 => 240 | n => n, fun | 3 => 2 | 4 => 3 | n => n⟩
theorem Tryz.utTypes : U8Types Tryz.prog Tryz.utRen := {
  t5 := by kernel_rfl
  t119 := by kernel_rfl
  t138 := by kernel_rfl
  t139 := by kernel_rfl }
theorem Tryz.utExtra : U8Extra Tryz.prog Tryz.utRen := {
  n3 := by kernel_rfl
  n4 := by kernel_rfl
  y3 := by kernel_rfl
  y4 := by kernel_rfl
  c5 := by kernel_rfl
  c119 := by kernel_rfl
  c138 := by kernel_rfl }
namespace YtpelehhmdcjikaaGreatDoor
theorem tabs_of (w : World) (h3 : VarReads Tryz.prog w "unicode/utf8.first" firstData) (h4 : VarReads Tryz.prog w "unicode/utf8.acceptRanges" acceptData) : Lib.Utf8Tabs 2 3 w :=
  utf8Tabs_of_readsT Tryz.utTypes Tryz.utExtra h3 h4
end YtpelehhmdcjikaaGreatDoor
end Go.Proofs

/-
  The contract of utf8.ValidString at this program, the library's own, laid by hand; the tables of unicode/utf8, from what the row lists.
-/
namespace Go.Proofs
open Go.Shelf Go.RowKit Go.Lib
def Tryz.vsRen : Go.Shelf.Ren := ⟨fun | 196 => 167 | 259 => 189 | n => n, fun | 0 => 0 | 3 => 3 | 4 => 4 | 5 => 5 | 9 => 9 | 12 => 12 | 46 => 62 | 53 => 143 | 119 => 237 | 138 => 239 | 139 => 240 | n => n, fun | 3 => 2 | 4 => 3 | n => n⟩
theorem Tryz.vs196 : Go.Proofs.Lays.n196 Tryz.prog Tryz.vsRen := {
  mixed := by kernel_rfl
  f196 := Tryz.func167.trans (congrArg some (by kernel_rfl))
  f259 := Tryz.func189.trans (congrArg some (by kernel_rfl))
  t0 := Tryz.underlying0
  a0 := Tryz.isAgg0
  z0 := Tryz.sizeOf0
  v0 := Tryz.zeroValue0
  t3 := Tryz.underlying3
  a3 := Tryz.isAgg3
  z3 := Tryz.sizeOf3
  v3 := Tryz.zeroValue3
  t4 := Tryz.underlying4
  a4 := Tryz.isAgg4
  z4 := Tryz.sizeOf4
  v4 := Tryz.zeroValue4
  t5 := Tryz.underlying5
  a5 := Tryz.isAgg5
  z5 := Tryz.sizeOf5
  v5 := Tryz.zeroValue5
  t9 := Tryz.underlying9
  a9 := Tryz.isAgg9
  z9 := Tryz.sizeOf9
  v9 := Tryz.zeroValue9
  t12 := Tryz.underlying12
  a12 := Tryz.isAgg12
  z12 := Tryz.sizeOf12
  v12 := Tryz.zeroValue12
  t46 := Tryz.underlying62
  a46 := Tryz.isAgg62
  z46 := Tryz.sizeOf62
  v46 := Tryz.zeroValue62
  t53 := Tryz.underlying143
  a53 := Tryz.isAgg143
  z53 := Tryz.sizeOf143
  v53 := Tryz.zeroValue143
  t119 := Tryz.underlying237
  a119 := Tryz.isAgg237
  z119 := Tryz.sizeOf237
  t138 := Tryz.underlying239
  a138 := Tryz.isAgg239
  z138 := Tryz.sizeOf239
  v138 := Tryz.zeroValue239
  t139 := Tryz.underlying240
  a139 := Tryz.isAgg240
  z139 := Tryz.sizeOf240
  v139 := Tryz.zeroValue240
  g3 := by kernel_rfl
  g4 := by kernel_rfl }
namespace YtpelehhmdcjikaaGreatDoor
theorem valid_is (l : List UInt8) (w : World) (hn : l.length ≤ 1000000) (hT : Lib.Utf8Tabs 2 3 w) :
    Calls Tryz.prog 167 #[.string ⟨l.toArray⟩] w fun e w' => e = .returned (.bool (Lib.validD l)) ∧ Below w.heap.size w w' :=
  Any.utf8_ValidString Tryz.vs196 ⟨l.toArray⟩ w (by rw [size_toArray]; omega) hT
end YtpelehhmdcjikaaGreatDoor
end Go.Proofs

/-
  Layer 6: both ways to parse are one; numbers that fit; how long a text is.
-/
namespace Go.Proofs.YtpelehhmdcjikaaGreatDoor
open Go.RowKit
set_option linter.unusedVariables false
set_option linter.unusedSimpArgs false
theorem num_itoa : Num Lib.itoa takeN := ⟨fun v h0 h1 => (take_itoa v (by omega) (by omega)).1, fun v h0 h1 => by
  have h := (take_itoa v (by omega) (by omega)).2.1
  cases e : Lib.itoa v with
  | nil => exact absurd e h
  | cons _ _ => simp⟩
theorem itoa_no_blank : ∀ v, 0 ≤ v → v ≤ 1099511627775 → ∀ c ∈ Lib.itoa v, c ≠ 32 := by
  intro v h0 h1 c hc
  unfold Lib.itoa at hc
  rw [if_neg (by omega)] at hc
  have := (decDigits_spec v.toNat).1 c hc
  intro e
  rw [e] at this
  exact absurd this (by decide)
/-- Both parse alike. -/
theorem parse_alike (s : List UInt8) : parseP Lib.itoa takeN s = parseR Lib.itoa takeN s := parse_same num_itoa itoa_no_blank s
theorem parse_some (s : List UInt8) (i : Idt) (h : parseP Lib.itoa takeN s = some i) : rightI i = true ∧ printI Lib.itoa i = s := by rw [parse_alike] at h; exact parse_only h
end Go.Proofs.YtpelehhmdcjikaaGreatDoor

/-
  Layer 1: Unhex of the program.
-/
namespace Go.Proofs.YtpelehhmdcjikaaGreatDoor
open Go.RowKit
set_option linter.unusedVariables false
/-- What a byte stands for as a digit; below zero: it is none. -/
def dg (c : UInt8) : Int := dig16 (c.toNat : Int)
theorem dg_lt (c : UInt8) : dg c < 16 := dig16_lt _
/-- What stands at place j behind k digits. -/
def uh (l : List UInt8) (k j : Nat) : Int := if 2 * j + 1 < k then 16 * dg (l.getD (2 * j) 0) + dg (l.getD (2 * j + 1) 0) else if 2 * j < k then dg (l.getD (2 * j) 0) else 0
theorem uh_next_even (l : List UInt8) (k j : Nat) (h : k = 2 * j) : uh l (k + 1) j = dg (l.getD k 0) ∧ uh l k j = 0 := by
  subst h; unfold uh; constructor
  · rw [if_neg (by omega), if_pos (by omega)]
  · rw [if_neg (by omega), if_neg (by omega)]
theorem uh_next_odd (l : List UInt8) (k j : Nat) (h : k = 2 * j + 1) : uh l (k + 1) j = 16 * uh l k j + dg (l.getD k 0) ∧ uh l k j = dg (l.getD (2 * j) 0) := by
  subst h; unfold uh
  have e : (if 2 * j + 1 < 2 * j + 1 then 16 * dg (l.getD (2 * j) 0) + dg (l.getD (2 * j + 1) 0) else if 2 * j < 2 * j + 1 then dg (l.getD (2 * j) 0) else 0) = dg (l.getD (2 * j) 0) := by
    rw [if_neg (by omega), if_pos (by omega)]
  rw [e]
  exact ⟨by rw [if_pos (by omega)], rfl⟩
theorem uh_other (l : List UInt8) (k j : Nat) (h : j ≠ k / 2) : uh l (k + 1) j = uh l k j := by
  unfold uh
  by_cases h1 : 2 * j + 1 < k
  · rw [if_pos h1, if_pos (by omega)]
  · rw [if_neg h1, if_neg (by omega)]
    by_cases h2 : 2 * j < k
    · rw [if_pos h2, if_pos (by omega)]
    · rw [if_neg h2, if_neg (by omega)]
theorem or16' : ∀ x d : Fin 16, bits BinOp.or IntKind.u8 ((x.1 : Int) * 16 % 256) (d.1 : Int) = 16 * (x.1 : Int) + (d.1 : Int) := by decide +kernel
theorem or16 (x d : Int) (h0 : 0 ≤ x) (h1 : x < 16) (h2 : 0 ≤ d) (h3 : d < 16) : bits BinOp.or IntKind.u8 (x * 16 % 256) d = 16 * x + d := by
  have h := or16' ⟨x.toNat, by omega⟩ ⟨d.toNat, by omega⟩
  simpa [Int.toNat_of_nonneg h0, Int.toNat_of_nonneg h2] using h
theorem set_at (ys : List Value) (i j : Nat) (u : Value) (h : j < ys.length) : (ys.set i u)[j]? = if i = j then some u else ys[j]? := by
  rw [List.getElem?_set]
  split
  · rw [if_pos (by omega)]
  · rfl
/-- One digit more. -/
theorem uh_step (l : List UInt8) (pos n : Nat) (ys : List Value) (x d : Int) (hn : ys.length = n) (hp : pos / 2 < n) (hdig : ∀ i, i < pos → 0 ≤ dg (l.getD i 0))
    (hx : x = uh l pos (pos / 2)) (hd : d = dg (l.getD pos 0)) (hd0 : 0 ≤ d) (hys : ∀ j, j < n → ys[j]? = some (.int .u8 (uh l pos j))) :
    ∀ j, j < n → (ys.set (pos / 2) (.int .u8 (bits BinOp.or IntKind.u8 (x * 16 % 256) d)))[j]? = some (.int .u8 (uh l (pos + 1) j)) := by
  intro j hj
  have hd3 : d < 16 := by rw [hd]; exact dg_lt _
  have key : 0 ≤ x ∧ x < 16 ∧ uh l (pos + 1) (pos / 2) = 16 * x + d := by
    rcases Nat.mod_two_eq_zero_or_one pos with h | h
    · obtain ⟨a, b⟩ := uh_next_even l pos (pos / 2) (by omega)
      rw [b] at hx
      rw [a, hx, hd]; omega
    · obtain ⟨a, b⟩ := uh_next_odd l pos (pos / 2) (by omega)
      have c := hdig (2 * (pos / 2)) (by omega)
      have e := dg_lt (l.getD (2 * (pos / 2)) 0)
      rw [b] at hx a
      rw [a, hd, ← hx]
      omega
  rw [set_at _ _ _ _ (by omega)]
  split
  · rename_i e; subst e
    rw [or16 x d key.1 key.2.1 hd0 hd3, key.2.2]
  · rename_i e
    rw [uh_other l pos j (fun h => e h.symm)]
    exact hys j hj
/-- What Unhex of an even text leaves. -/
def UPost (s : ByteArray) (w : World) (e : Ending) (w' : World) : Prop :=
  Below w.heap.size w w' ∧ ((e = .returned (.tuple #[.slice none 0 0, .int .i64 4]) ∧ ∃ i, i < s.size ∧ dg (s.data.toList.getD i 0) < 0) ∨
    ((∀ i, i < s.size → 0 ≤ dg (s.data.toList.getD i 0)) ∧ ∃ g ys, e = .returned (.tuple #[.slice (some ⟨g, 0, none⟩) (s.size / 2) (s.size / 2), .int .i64 0]) ∧ w.heap.size ≤ g ∧
      w'.ownsRow w.heap.size 5 1 (.slice (some ⟨g, 0, none⟩) (s.size / 2) (s.size / 2)) (s.size / 2) ys ∧ ∀ j, j < s.size / 2 → ys[j]? = some (.int .u8 (uh s.data.toList s.size j))))
theorem own_iter {w : World} {base : Nat} {e : TypeId} {g n cap : Nat} {xs : List Value} (h : w.ownsRow base e 1 (.slice (some ⟨g, 0, none⟩) n cap) n xs) {k : Nat} {s : ByteArray} {pos : Nat} (hk : w.heap[k]? = some (.stringIter s pos)) (p : Nat) :
    (w.iterAt k s p).ownsRow base e 1 (.slice (some ⟨g, 0, none⟩) n cap) n xs := by
  refine ⟨h.1, ?_⟩
  rcases h.2 with ⟨h', _⟩ | ⟨g', cap', cur, h', hb', hg, r⟩
  · simp at h'
  · refine .inr ⟨g', cap', cur, h', hb', ?_, r⟩
    rw [Lib.iterAt_other _ _ _ _ _ (fun e => by rw [e, hk] at hg; cases hg)]
    exact hg
set_option maxHeartbeats 1000000 in
theorem Unhex_core (s : ByteArray) (w : World) (hs : s.size ≤ 1099511627776) (he : s.size % 2 = 0) :
    Calls Tryz.prog 157 #[.string s] w fun e w' => UPost s w e w' := by
  obtain ⟨i0, hi, hz0, hz1, hz2⟩ := info_parts info5
  have hev : ((s.size : Int) % 2 != 0) = false := by simp; omega
  have hmod : (s.size : Int).tmod 2 = (s.size : Int) % 2 := IntWalk.rem_in _ _ (by omega)
  go_enter Tryz.func157, Tryz.ntmps157
  go_wp2_with (at_make; refine wpList_make_full _ rfl _ _ 32 rfl w.heap.size 5 i0 (.int .u8 0) 1 Tryz.underlying32 hi hz0 hz1 _ _ _ _ (s.size / 2) rfl rfl (by omega) (by omega) ?b2 ?b3 (Nat.le_refl _) ?_)
  case b2 => rw [hz2]; omega
  case b3 => unfold maxLen; omega
  intro w0 hown0 hgrow0
  have hb0 : Below w.heap.size w w0 := (Below.refl _ _).grown hgrow0 (Nat.le_refl _) (fun k h => by cases h)
  have hB : w.heap.size < w0.heap.size := own_lt hown0
  have hz : ∀ j, j < s.size / 2 → (madeCells #[Value.int .u8 0] (s.size / 2)).toList[j]? = some (.int .u8 (uh s.data.toList 0 j)) := fun j hj => by
    rw [toList_madeCells_one, List.getElem?_replicate, if_pos (by omega)]
    unfold uh
    rw [if_neg (by omega), if_neg (by omega)]
  have HZ := Lib.hid hz; clear hz
  have HO := Lib.hid hown0
  clear hown0 hgrow0
  go_wp2_with fail
  go_loopw [] (fun wr => ∃ (pos : Nat) (ys : List Value), pos ≤ s.size ∧ (∀ i, i < pos → 0 ≤ dg (s.data.toList.getD i 0)) ∧ wr.heap[w0.heap.size]? = some (.stringIter s pos) ∧
      wr.ownsRow w.heap.size 5 1 (.slice (some ⟨w.heap.size, 0, none⟩) (s.size / 2) (s.size / 2)) (s.size / 2) ys ∧ (∀ j, j < s.size / 2 → ys[j]? = some (.int .u8 (uh s.data.toList pos j))) ∧ Below w.heap.size w wr) (fun wr => s.size - wr.iterPos w0.heap.size)
  case atStart =>
    exact ⟨0, _, Nat.zero_le _, fun i hi => absurd hi (Nat.not_lt_zero _), World.iter_heap w0 s 0, own_keep HO.out ((Below.refl _ w0).alloc (Nat.le_refl _) _), HZ.out, hb0.alloc hb0.size _⟩
  case round =>
    clear hb0 HZ HO
    obtain ⟨pos, ys, hpos, hdig, hit, hown, hys, hbr⟩ := hrel
    have HDIG := Lib.hid hdig; clear hdig
    have HYS := Lib.hid hys; clear hys
    have hsz := hbr.size
    by_cases hp : pos < s.size
    · have hgd : s.data.toList.getD pos 0 = s[pos] := by
        have : pos < s.data.toList.length := by simpa using hp
        rw [List.getD_eq_getElem?_getD, List.getElem?_eq_getElem this]; rfl
      have HGD := Lib.hid hgd; clear hgd
      by_cases ha : (s[pos]).toNat < 128
      · have hnx : ∀ ty, (Instr.next (.pointer (some ⟨w0.heap.size, 0, none⟩)) true ty).run Tryz.prog wr = _ := fun ty => Lib.run_next_ascii_at wr w0.heap.size s pos ty hit hp ha
        obtain ⟨r, hr⟩ : ∃ r : Int, r = ((s[pos]).toNat : Int) := ⟨_, rfl⟩
        rw [← hr] at hnx
        have HR := Lib.hid hr; clear hr
        have hit2 := Lib.iterAt_heap wr w0.heap.size s pos (pos + 1) hit
        have hown2 := own_iter hown hit (pos + 1)
        have hbr2 := Lib.below_iterAt hbr (k := w0.heap.size) (Nat.le_of_lt hB) s (pos + 1)
        generalize wr.iterAt w0.heap.size s (pos + 1) = w2 at hnx hit2 hown2 hbr2
        by_cases hd : 0 ≤ dig16 r
        · go_wp2_with fail
          refine (digit16_yes r hd _).mono ?_
          rintro e w3 ⟨rfl, rfl⟩
          obtain ⟨x, hx⟩ : ∃ x : Int, x = uh s.data.toList pos (pos / 2) := ⟨_, rfl⟩
          have hcell : w2.cell? ⟨w.heap.size, pos / 2, none⟩ = some (.int .u8 x) := by
            rw [hx, hown2.cellAt (pos / 2) (by omega)]; exact HYS.out _ (by omega)
          have hfz := hown2.frozenAt (pos / 2)
          obtain ⟨d, hde⟩ : ∃ d : Int, d = dig16 r := ⟨_, rfl⟩
          rw [← hde] at hd
          simp only [← hde]
          have hd2 : d < 16 := by rw [hde]; exact dig16_lt r
          have HD := Lib.hid hde; clear hde
          have HX := Lib.hid hx; clear hx
          obtain ⟨hst, hgr⟩ := hown2.stored (pos / 2) (.int .u8 (bits BinOp.or IntKind.u8 (x * 16 % 256) d))
          have HS := Lib.hid hst; clear hst
          have HG := Lib.hid hgr; clear hgr
          have hit3 : (w2.setCell ⟨w.heap.size, pos / 2, none⟩ (.int .u8 (bits BinOp.or IntKind.u8 (x * 16 % 256) d))).heap[w0.heap.size]? = some (.stringIter s (pos + 1)) :=
            (heap_setCell_other w2 ⟨w.heap.size, pos / 2, none⟩ w0.heap.size _ (Nat.ne_of_gt hB)).trans hit2
          have hlen := own_len hown
          have HL := Lib.hid hlen; clear hlen
          have HI3 := Lib.hid hit3; clear hit3
          go_wp2
          go_roundw
          case rel =>
            refine ⟨pos + 1, _, by omega, ?_, HI3.out, HS.out, uh_step s.data.toList pos _ ys x d HL.out (by omega) HDIG.out HX.out ?_ hd HYS.out, hbr2.grown HG.out hbr2.size (fun k hk => by cases hk; exact Nat.le_refl _)⟩
            · intro i hi
              by_cases h : i < pos
              · exact HDIG.out i h
              · obtain rfl : i = pos := by omega
                rw [HGD.out]; unfold dg; rw [← HR.out, ← HD.out]; exact hd
            · rw [HGD.out]; unfold dg; rw [← HR.out]; exact HD.out
          case measure =>
            rw [iterPos_of HI3.out, iterPos_of hit]
            omega
        · go_wp2_with fail
          refine (digit16_no r (by omega) _).mono ?_
          rintro e w3 ⟨rfl, rfl⟩
          go_wp2
          go_ret2
          refine ⟨hbr2, .inl ⟨rfl, pos, hp, ?_⟩⟩
          rw [HGD.out]; unfold dg; rw [← HR.out]; omega
      · have hnx : ∀ ty, (Instr.next (.pointer (some ⟨w0.heap.size, 0, none⟩)) true ty).run Tryz.prog wr = _ := fun ty => Lib.run_next_any_at wr w0.heap.size s pos ty hit hp
        have hh := (decode_high s pos hp (by omega)).1
        have hbr2 := Lib.below_iterAt hbr (k := w0.heap.size) (Nat.le_of_lt hB) s (pos + (Utf8.decode s pos).2)
        generalize (Utf8.decode s pos).1 = r at hnx hh
        generalize wr.iterAt w0.heap.size s (pos + (Utf8.decode s pos).2) = w2 at hnx hbr2
        go_wp2_with fail
        refine (digit_high r 16 (by omega) (by omega) (by omega) _).mono ?_
        rintro e w3 ⟨rfl, rfl⟩
        go_wp2
        go_ret2
        refine ⟨hbr2, .inl ⟨rfl, pos, hp, ?_⟩⟩
        rw [HGD.out]; unfold dg dig16; rw [if_neg (by omega), if_neg (by omega)]; omega
    · have hnx : ∀ ty, (Instr.next (.pointer (some ⟨w0.heap.size, 0, none⟩)) true ty).run Tryz.prog wr = _ := fun ty => Lib.run_next_end_at wr w0.heap.size s pos ty hit hp
      obtain rfl : pos = s.size := by omega
      go_wp2
      go_ret2
      exact ⟨hbr, .inr ⟨HDIG.out, w.heap.size, ys, rfl, Nat.le_refl _, hown, HYS.out⟩⟩
end Go.Proofs.YtpelehhmdcjikaaGreatDoor

/-
  Layer 1: which bytes a text of digits is; Unhex of the program, whatever the text.
-/
namespace Go.Proofs.YtpelehhmdcjikaaGreatDoor
open Go.RowKit
set_option linter.unusedVariables false
/-- The bytes of a text of hexadecimal digits. -/
def unhexL : List UInt8 → Option (List UInt8)
  | [] => some []
  | [_] => none
  | a :: b :: r => if 0 ≤ dg a ∧ 0 ≤ dg b then (unhexL r).map (fun t => UInt8.ofNat (16 * dg a + dg b).toNat :: t) else none
theorem unhex_spec : ∀ (n : Nat) (l t : List UInt8), l.length ≤ n → unhexL l = some t → l.length = 2 * t.length ∧ (∀ i, i < l.length → 0 ≤ dg (l.getD i 0)) ∧ ∀ j, j < t.length → ((t.getD j 0).toNat : Int) = 16 * dg (l.getD (2 * j) 0) + dg (l.getD (2 * j + 1) 0) := by
  intro n
  induction n using Nat.strongRecOn with
  | ind n ih =>
    intro l t hl h
    match l, hl, h with
    | [], _, h => simp [unhexL] at h; subst h; simp
    | [_], _, h => simp [unhexL] at h
    | a :: b :: r, hl, h =>
      simp only [unhexL] at h
      split at h
      · rename_i hab
        cases hr : unhexL r with
        | none => simp [hr] at h
        | some t' =>
          simp [hr] at h
          subst h
          obtain ⟨h1, h2, h3⟩ := ih r.length (by simp at hl; omega) r t' (Nat.le_refl _) hr
          refine ⟨by simp; omega, ?_, ?_⟩
          · intro i hi
            match i, hi with
            | 0, _ => exact hab.1
            | 1, _ => exact hab.2
            | i + 2, hi => exact h2 i (by simp at hi; omega)
          · intro j hj
            match j, hj with
            | 0, _ =>
              have c := dg_lt a; have d := dg_lt b
              show ((UInt8.ofNat (16 * dg a + dg b).toNat).toNat : Int) = 16 * dg a + dg b
              rw [UInt8.toNat_ofNat']; omega
            | j + 1, hj =>
              have e := h3 j (by simp at hj; omega)
              rw [show 2 * (j + 1) = 2 * j + 2 by omega, show 2 * j + 2 + 1 = 2 * j + 1 + 2 by omega]
              exact e
      · cases h
theorem unhex_none : ∀ (n : Nat) (l : List UInt8), l.length ≤ n → unhexL l = none → l.length % 2 = 1 ∨ ∃ i, i < l.length ∧ dg (l.getD i 0) < 0 := by
  intro n
  induction n using Nat.strongRecOn with
  | ind n ih =>
    intro l hl h
    match l, hl, h with
    | [], _, h => simp [unhexL] at h
    | [_], _, h => left; rfl
    | a :: b :: r, hl, h =>
      simp only [unhexL] at h
      by_cases ha : dg a < 0
      · exact .inr ⟨0, by simp, ha⟩
      by_cases hb : dg b < 0
      · exact .inr ⟨1, by simp, hb⟩
      rw [if_pos ⟨by omega, by omega⟩] at h
      have hr : unhexL r = none := by simpa using h
      rcases ih r.length (by simp at hl; omega) r (Nat.le_refl _) hr with h1 | ⟨i, h1, h2⟩
      · left; simp; omega
      · right; exact ⟨i + 2, by simp; omega, h2⟩
set_option maxHeartbeats 400000 in
theorem Unhex_odd (s : ByteArray) (w : World) (hs : s.size ≤ 1099511627776) (he : s.size % 2 = 1) :
    Calls Tryz.prog 157 #[.string s] w fun e w' => e = .returned (.tuple #[.slice none 0 0, .int .i64 4]) ∧ w = w' := by
  have hev : ((s.size : Int) % 2 != 0) = true := by simp; omega
  go_enter Tryz.func157, Tryz.ntmps157
  go_wp2
  go_ret2
  exact ⟨rfl, rfl⟩
theorem Unhex_none (s : ByteArray) (w : World) (hs : s.size ≤ 1099511627776) (h : unhexL s.data.toList = none) :
    Calls Tryz.prog 157 #[.string s] w fun e w' => e = .returned (.tuple #[.slice none 0 0, .int .i64 4]) ∧ Below w.heap.size w w' := by
  have hl := size_list s
  by_cases ho : s.size % 2 = 1
  · refine (Unhex_odd s w hs ho).mono ?_
    rintro e w' ⟨rfl, rfl⟩
    exact ⟨rfl, Below.refl _ _⟩
  · refine (Unhex_core s w hs (by omega)).mono ?_
    rintro e w' ⟨hb, ⟨he, _⟩ | ⟨hd, _⟩⟩
    · exact ⟨he, hb⟩
    · rcases unhex_none _ _ (Nat.le_refl _) h with h1 | ⟨i, hi, h1⟩
      · omega
      · have := hd i (by omega); omega
theorem Unhex_some (s : ByteArray) (t : List UInt8) (w : World) (hs : s.size ≤ 1099511627776) (h : unhexL s.data.toList = some t) :
    Calls Tryz.prog 157 #[.string s] w fun e w' => ∃ g c, e = .returned (.tuple #[.slice g t.length c, .int .i64 0]) ∧ BAt w' g t ∧ t.length ≤ c ∧ (g = none → t.length = 0 ∧ c = 0) ∧ Below w.heap.size w w' := by
  have hl := size_list s
  obtain ⟨h1, h2, h3⟩ := unhex_spec _ _ _ (Nat.le_refl _) h
  have hn : s.size / 2 = t.length := by omega
  refine (Unhex_core s w hs (by omega)).mono ?_
  rintro e w' ⟨hb, ⟨_, i, hi, hd⟩ | ⟨_, g, ys, he, hg, hown, hys⟩⟩
  · have := h2 i (by omega); omega
  · rw [hn] at he hown hys
    refine ⟨some ⟨g, 0, none⟩, t.length, he, fun hp => ⟨g, 0, rfl, own_lt hown, fun i hi => ?_⟩, Nat.le_refl _, (fun h => by cases h), hb⟩
    rw [Nat.zero_add, hown.cellAt i (by omega), hys i hi]
    have e := h3 i hi
    rw [List.getD_eq_getElem?_getD, List.getElem?_eq_getElem hi] at e
    have e2 : uh s.data.toList s.size i = ((t[i]).toNat : Int) := by
      unfold uh; rw [if_pos (by omega)]; exact e.symm
    rw [e2]
end Go.Proofs.YtpelehhmdcjikaaGreatDoor

/-
  Layer 1: Id of the program and of its reference.
-/
namespace Go.Proofs.YtpelehhmdcjikaaGreatDoor
set_option maxRecDepth 20000
open Go.RowKit
set_option linter.unusedVariables false
theorem results_id {fn : Func} (h : fn.results = #[.cell 2 24, .tmp 3]) (tmps : Array Value) (w : World) (g : Nat) (cs : Array Value) (fr : Nat × Nat) (x : Value)
    (hp : tmps.getD 2 undef = .pointer (some ⟨g, 0, none⟩)) (hx : tmps.getD 3 undef = x) (hg : w.heap[g]? = some (.cells cs 24 fr)) (hn : cs.size = 20) :
    (results fn tmps).run Tryz.prog w = .ok (.tuple #[.agg cs, x]) w := by
  rw [results_cell_tmp h, hp, hx]
  have e : (asAddr (.pointer (some ⟨g, 0, none⟩))).run Tryz.prog w = .ok ⟨g, 0, none⟩ w := rfl
  rw [e]
  simp only [Result.andThen_ok]
  rw [run_loadVar_row w g 24 24 cs fr _ hg Tryz.underlying24 rfl (by rw [info29, hn])]
  rfl
abbrev zero20 : Array Value := #[Value.int .u8 0, Value.int .u8 0, Value.int .u8 0, Value.int .u8 0, Value.int .u8 0, Value.int .u8 0, Value.int .u8 0, Value.int .u8 0, Value.int .u8 0, Value.int .u8 0, Value.int .u8 0, Value.int .u8 0, Value.int .u8 0, Value.int .u8 0, Value.int .u8 0, Value.int .u8 0, Value.int .u8 0, Value.int .u8 0, Value.int .u8 0, Value.int .u8 0]
theorem zero20_idv : idv (List.replicate 20 0) = .agg zero20 := rfl
set_option maxHeartbeats 400000 in
theorem Id_len (s : ByteArray) (w : World) (hs : s.size ≤ 1099511627776) (he : s.size ≠ 40) :
    Calls Tryz.prog 133 #[.string s] w fun e w' => e = .returned (.tuple #[idv (List.replicate 20 0), .int .i64 4]) ∧ Below w.heap.size w w' := by
  have hev : ((s.size : Int) != 40) = true := by simp; omega
  rw [zero20_idv]
  go_enter Tryz.func133, Tryz.ntmps133
  go_wp2_with (with_reducible refine wpList_store_row rfl 24 _ _ rfl w.heap.size zero20 rfl rfl 24 zero20 ?hg ?hi ?ho ?h1 ?_)
  case hg => exact two_new w _ _
  case hi => exact info29
  case ho => rfl
  case h1 => kernel_rfl
  rw [setRow_self _ w.heap.size zero20 24 (0, 0) (two_new w _ _)]
  go_wp2_with fail
  refine bodyPost_ret (results_id Tryz.results133 _ _ w.heap.size zero20 (0, 0) (.int .i64 4) rfl rfl (two_new w _ _) rfl) rfl ⟨rfl, ?_⟩
  exact ((Below.refl _ w).alloc (Nat.le_refl _) _).alloc (by simp) _
set_option maxHeartbeats 400000 in
theorem Id_bad (s : ByteArray) (w : World) (he : s.size = 40) (hu : unhexL s.data.toList = none) :
    Calls Tryz.prog 133 #[.string s] w fun e w' => e = .returned (.tuple #[idv (List.replicate 20 0), .int .i64 4]) ∧ Below w.heap.size w w' := by
  have hev : ((s.size : Int) != 40) = false := by simp; omega
  have C := Lib.hid (fun w => Unhex_none s w (by omega) hu)
  clear hu he
  rw [zero20_idv]
  go_enter Tryz.func133, Tryz.ntmps133
  go_wp2_with fail
  refine (C.out _).mono ?_
  rintro e w1 ⟨rfl, hb⟩
  have hg1 : w1.heap[w.heap.size]? = some (.cells zero20 24 (0, 0)) := (hb.block _ (by simp; omega)).trans (two_new w _ _)
  have hbw : Below w.heap.size w w1 := (((Below.refl _ w).alloc (Nat.le_refl _) _).alloc (by simp) _).trans (hb.mono (by simp; omega))
  clear hb C
  have HG := Lib.hid hg1; clear hg1
  go_wp2_with (with_reducible refine wpList_store_row rfl 24 _ _ rfl w.heap.size zero20 rfl rfl 24 zero20 ?hg ?hi ?ho ?h1 ?_)
  case hg => exact HG.out
  case hi => exact info29
  case ho => rfl
  case h1 => kernel_rfl
  rw [setRow_self _ w.heap.size zero20 24 (0, 0) HG.out]
  go_wp2_with fail
  exact bodyPost_ret (results_id Tryz.results133 _ _ w.heap.size zero20 (0, 0) (.int .i64 4) rfl rfl HG.out rfl) rfl ⟨rfl, hbw⟩
theorem oneCell_bytes (t : List UInt8) : ∀ v ∈ Lib.byteCells t, v.oneCell' = true := by
  intro v hv; simp [Lib.byteCells] at hv; obtain ⟨x, _, rfl⟩ := hv; rfl
theorem oneCell_all (t : List UInt8) : (Lib.byteCells t).toArray.all (·.oneCell') = true := by
  rw [Array.all_eq_true_iff_forall_mem]; intro v hv; exact oneCell_bytes t v (by simpa using hv)
theorem size_bytes (t : List UInt8) : (Lib.byteCells t).toArray.size = t.length := by simp [Lib.byteCells]
theorem copy_id (w : World) (g : Nat) (b o c : Nat) (t : List UInt8) (ht : t.length = 20) (hg : w.heap[g]? = some (.cells zero20 24 (0, 0))) (hc : BAt w (some ⟨b, o, none⟩) t) :
    (Builtin.copy_ #[32, 32] 3 #[.slice (some ⟨g, 0, none⟩) 20 20, .slice (some ⟨b, o, none⟩) 20 c]).run Tryz.prog w = .ok (goInt 20) (w.setRow g (Lib.byteCells t).toArray) := by
  have hl : (Lib.byteCells t).length = 20 := by simp [Lib.byteCells, ht]
  have h := run_copy_row (P := Tryz.prog) w 32 32 3 5 g 0 20 20 ⟨b, o, none⟩ 20 c zero20 24 (Lib.byteCells t) Tryz.underlying32 (by kernel_rfl) hg (by rw [hl]; rfl) (fun j v hj => hc.cells _ rfl j v hj) (by rw [hl]; exact Nat.le_refl _) (oneCell_bytes t)
  rw [h, hl]
  congr 2
  simp
set_option maxHeartbeats 400000 in
theorem Id_good (s : ByteArray) (t : List UInt8) (w : World) (he : s.size = 40) (hu : unhexL s.data.toList = some t) :
    Calls Tryz.prog 133 #[.string s] w fun e w' => e = .returned (.tuple #[idv t, .int .i64 0]) ∧ Below w.heap.size w w' := by
  have hev : ((s.size : Int) != 40) = false := by simp; omega
  have ht : t.length = 20 := by have := (unhex_spec _ _ _ (Nat.le_refl _) hu).1; rw [size_list] at this; omega
  have C := Lib.hid (fun w => Unhex_some s t w (by omega) hu)
  clear hu he
  have HT := Lib.hid ht; clear ht
  go_enter Tryz.func133, Tryz.ntmps133
  go_wp2_with fail
  refine (C.out _).mono ?_
  rintro e w1 ⟨g, c, rfl, hbat, hlc, _, hb⟩
  obtain ⟨b, o, rfl, _, _⟩ := hbat (by rw [HT.out]; omega)
  have hg0 : w1.heap[w.heap.size]? = some (.cells zero20 24 (0, 0)) := (hb.block _ (by simp; omega)).trans (two_new w _ _)
  have hg1 : w1.heap[w.heap.size + 1]? = some (.cells zero20 24 (0, 0)) := (hb.block _ (by simp)).trans (heap_alloc2_new w _ _)
  have hbw : Below w.heap.size w w1 := (((Below.refl _ w).alloc (Nat.le_refl _) _).alloc (by simp) _).trans (hb.mono (by simp; omega))
  have hcopy := copy_id w1 (w.heap.size + 1) b o c t HT.out hg1 hbat
  clear hb C
  have HG0 := Lib.hid hg0; clear hg0
  have HG1 := Lib.hid hg1; clear hg1
  have HB := Lib.hid hbat; clear hbat
  rw [HT.out]
  have hbw2 : Below w.heap.size w (w1.setRow (w.heap.size + 1) (Lib.byteCells t).toArray) := below_setRow hbw (by omega) _
  have hn0 : (w1.setRow (w.heap.size + 1) (Lib.byteCells t).toArray).heap[w.heap.size]? = some (.cells zero20 24 (0, 0)) := by
    rw [setRow_other w1 _ _ _ (by omega)]; exact HG0.out
  have hn1 : (w1.setRow (w.heap.size + 1) (Lib.byteCells t).toArray).heap[w.heap.size + 1]? = some (.cells (Lib.byteCells t).toArray 24 (0, 0)) := setRow_heap _ _ _ _ _ _ HG1.out
  have HN0 := Lib.hid hn0; clear hn0
  have HN1 := Lib.hid hn1; clear hn1
  generalize w1.setRow (w.heap.size + 1) (Lib.byteCells t).toArray = w2 at hcopy hbw2 HN0 HN1
  have hst : (storeCells ⟨w.heap.size, 0, none⟩ (Lib.byteCells t)).run Tryz.prog w2 = .ok () (w2.setRow w.heap.size (Lib.byteCells t).toArray) := by
    have h := run_storeCells_from (P := Tryz.prog) w.heap.size 24 (Lib.byteCells t) 0 zero20 w2 HN0.out (by simp [Lib.byteCells, HT.out]) (oneCell_bytes t)
    simpa using h
  have hbl : (Lib.byteCells t).length = 20 := by simp [Lib.byteCells, HT.out]
  go_wp2_with (with_reducible refine wpList_load_row rfl 24 _ rfl (w.heap.size + 1) rfl 24 (Lib.byteCells t).toArray (0, 0) _ ?hg Tryz.underlying24 rfl ?hi ?_)
  case hg => exact HN1.out
  case hi => rw [info29, size_bytes, HT.out]
  exact bodyPost_ret (results_id Tryz.results133 _ _ w.heap.size (Lib.byteCells t).toArray (0, 0) (.int .i64 0) rfl rfl (setRow_heap _ _ _ _ _ _ HN0.out) (by rw [size_bytes, HT.out])) rfl ⟨rfl, below_setRow hbw2 (Nat.le_refl _) _⟩
end Go.Proofs.YtpelehhmdcjikaaGreatDoor
