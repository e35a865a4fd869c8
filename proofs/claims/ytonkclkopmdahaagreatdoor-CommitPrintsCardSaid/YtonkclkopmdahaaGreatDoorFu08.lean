/-
  Texts that belong together, one behind the other.
-/
import Derived.Test.YtonkclkopmdahaaGreatDoorFu07
import Derived.Shelf.Strings.BuilderRune
import Derived.Shelf.Strings.BuilderCap
import Derived.Test.YtonkclkopmdahaaGreatDoorFu02
import Derived.Test.YtonkclkopmdahaaGreatDoorShelf
import Derived.Lib.RuneCountTail
/-
  The contract of strings.Builder's WriteString at this program: the shelf's own, laid by hand (its command misses two types that no body names).
-/
namespace Go.Proofs
open Go.Shelf Go.RowKit
def Tryz.bsRen : Go.Shelf.Ren := ⟨fun | 166 => 120 | 240 => 61 | 276 => 76 | n => n, fun | 0 => 0 | 3 => 3 | 4 => 4 | 5 => 5 | 9 => 9 | 20 => 20 | 37 => 29 | 70 => 65 | 72 => 67 | 75 => 70 | 80 => 72 | 164 => 106 | n => n, fun | n => n⟩
theorem Tryz.bs166 : Go.Proofs.Lays.n166 Tryz.prog Tryz.bsRen := {
  mixed := by kernel_rfl
  f166 := Tryz.func120.trans (congrArg some (by kernel_rfl))
  f240 := Tryz.func61.trans (congrArg some (by kernel_rfl))
  f276 := Tryz.func76.trans (congrArg some (by kernel_rfl))
  t0 := Tryz.underlying0
  a0 := Tryz.isAgg0
  z0 := Tryz.sizeOf0
  v0 := Tryz.zeroValue0
  t3 := Tryz.underlying3
  a3 := Tryz.isAgg3
  z3 := Tryz.sizeOf3
  v3 := Tryz.zeroValue3
  t4 := Tryz.underlying4
  a4 := Tryz.isAgg4
  z4 := Tryz.sizeOf4
  v4 := Tryz.zeroValue4
  t9 := Tryz.underlying9
  a9 := Tryz.isAgg9
  z9 := Tryz.sizeOf9
  v9 := Tryz.zeroValue9
  t20 := Tryz.underlying20
  a20 := Tryz.isAgg20
  z20 := Tryz.sizeOf20
  v20 := Tryz.zeroValue20
  t37 := Tryz.underlying29
  a37 := Tryz.isAgg29
  z37 := Tryz.sizeOf29
  v37 := Tryz.zeroValue29
  t70 := Tryz.underlying65
  a70 := Tryz.isAgg65
  z70 := Tryz.sizeOf65
  v70 := Tryz.zeroValue65
  t72 := Tryz.underlying67
  a72 := Tryz.isAgg67
  z72 := Tryz.sizeOf67
  v72 := Tryz.zeroValue67
  t75 := Tryz.underlying70
  a75 := Tryz.isAgg70
  z75 := Tryz.sizeOf70
  v75 := Tryz.zeroValue70
  t164 := Tryz.underlying106
  a164 := Tryz.isAgg106
  z164 := Tryz.sizeOf106
  v164 := Tryz.zeroValue106 }
theorem Tryz.bsExtra : Builder.Extra Tryz.prog Tryz.bsRen := {
  sizeBuilder := by kernel_rfl
  liesBuilder := by kernel_rfl
  t5 := Tryz.underlying5
  a5 := Tryz.isAgg5
  z5 := Tryz.sizeOf5
  v5 := Tryz.zeroValue5
  infoByte := by kernel_rfl
  cellsByte := by kernel_rfl
  sizeByte := by kernel_rfl
  neB5 := by decide }
theorem Tryz.Builder_WriteString_k (B b : Nat) (bs : List Value) (s : ByteArray) (w : World) (h : Lib.IsBuilderF 67 5 B b bs w) (hlen : bs.length + s.size ≤ 140737488355328) (hBw : B ≤ w.heap.size) :
    Calls Tryz.prog 120 #[.pointer (some ⟨b, 0, none⟩), .string s] w fun e w' => e = .returned (.tuple #[.int .i64 s.size, .nilIface]) ∧ (Lib.BuilderAtF 67 5 B b (.pointer (some ⟨b, 0, none⟩)) (bs ++ Lib.strCells s) w' ∧ Below B w w' ∧ Lib.OthersKept 5 (some b) w w') := Any.Builder_WriteString_k Tryz.bs166 Tryz.bsExtra B b bs s w h hlen hBw
end Go.Proofs

/-
  The contracts of strings.Builder's WriteRune, and of WriteString with the room it keeps, at this program: the shelf's own, laid by hand (its command misses types that no body names); Cap by its walk.
-/
namespace Go.Proofs
open Go.Shelf Go.RowKit
def Tryz.brRen : Go.Shelf.Ren := ⟨fun | 168 => 104 | 240 => 61 | 242 => 122 | 276 => 76 | 278 => 132 | n => n, fun | 0 => 0 | 3 => 3 | 4 => 4 | 5 => 5 | 9 => 9 | 20 => 20 | 21 => 21 | 37 => 29 | 46 => 46 | 51 => 135 | 70 => 65 | 72 => 67 | 75 => 70 | 80 => 72 | 164 => 106 | n => n, fun | n => n⟩
theorem Tryz.br168 : Go.Proofs.Lays.n168 Tryz.prog Tryz.brRen := {
  mixed := by kernel_rfl
  f168 := Tryz.func104.trans (congrArg some (by kernel_rfl))
  f240 := Tryz.func61.trans (congrArg some (by kernel_rfl))
  f242 := Tryz.func122.trans (congrArg some (by kernel_rfl))
  f276 := Tryz.func76.trans (congrArg some (by kernel_rfl))
  f278 := Tryz.func132.trans (congrArg some (by kernel_rfl))
  t0 := Tryz.underlying0
  a0 := Tryz.isAgg0
  z0 := Tryz.sizeOf0
  v0 := Tryz.zeroValue0
  t3 := Tryz.underlying3
  a3 := Tryz.isAgg3
  z3 := Tryz.sizeOf3
  v3 := Tryz.zeroValue3
  t4 := Tryz.underlying4
  a4 := Tryz.isAgg4
  z4 := Tryz.sizeOf4
  v4 := Tryz.zeroValue4
  t5 := Tryz.underlying5
  a5 := Tryz.isAgg5
  z5 := Tryz.sizeOf5
  v5 := Tryz.zeroValue5
  t9 := Tryz.underlying9
  a9 := Tryz.isAgg9
  z9 := Tryz.sizeOf9
  v9 := Tryz.zeroValue9
  t20 := Tryz.underlying20
  a20 := Tryz.isAgg20
  z20 := Tryz.sizeOf20
  v20 := Tryz.zeroValue20
  t21 := Tryz.underlying21
  a21 := Tryz.isAgg21
  z21 := Tryz.sizeOf21
  v21 := Tryz.zeroValue21
  t37 := Tryz.underlying29
  a37 := Tryz.isAgg29
  z37 := Tryz.sizeOf29
  v37 := Tryz.zeroValue29
  t46 := Tryz.underlying46
  a46 := Tryz.isAgg46
  z46 := Tryz.sizeOf46
  v46 := Tryz.zeroValue46
  t51 := Tryz.underlying135
  a51 := Tryz.isAgg135
  z51 := Tryz.sizeOf135
  v51 := Tryz.zeroValue135
  t70 := Tryz.underlying65
  a70 := Tryz.isAgg65
  z70 := Tryz.sizeOf65
  v70 := Tryz.zeroValue65
  t72 := Tryz.underlying67
  a72 := Tryz.isAgg67
  z72 := Tryz.sizeOf67
  v72 := Tryz.zeroValue67
  t75 := Tryz.underlying70
  a75 := Tryz.isAgg70
  z75 := Tryz.sizeOf70
  v75 := Tryz.zeroValue70
  t164 := Tryz.underlying106
  a164 := Tryz.isAgg106
  z164 := Tryz.sizeOf106
  v164 := Tryz.zeroValue106 }
theorem Tryz.brExtra : Builder.Extra Tryz.prog Tryz.brRen := {
  sizeBuilder := by kernel_rfl
  liesBuilder := by kernel_rfl
  t5 := Tryz.underlying5
  a5 := Tryz.isAgg5
  z5 := Tryz.sizeOf5
  v5 := Tryz.zeroValue5
  infoByte := by kernel_rfl
  cellsByte := by kernel_rfl
  sizeByte := by kernel_rfl
  neB5 := by decide }
theorem Tryz.Builder_WriteRune_k (B b : Nat) (bs : List Value) (r : Int) (hr0 : -2147483648 ≤ r) (hr1 : r ≤ 2147483647) (w : World) (h : Lib.IsBuilderF 67 5 B b bs w) (hlen : bs.length + 4 ≤ 140737488355328) (hBw : B ≤ w.heap.size) :
    Calls Tryz.prog 104 #[.pointer (some ⟨b, 0, none⟩), .int .i32 r] w fun e w' => e = .returned (.tuple #[.int .i64 (Lib.runeCells r).length, .nilIface]) ∧ (Lib.BuilderAtF 67 5 B b (.pointer (some ⟨b, 0, none⟩)) (bs ++ Lib.runeCells r) w' ∧ Below B w w' ∧ Lib.OthersKept 5 (some b) w w') := Any.Builder_WriteRune_k Tryz.br168 Tryz.brExtra B b bs r hr0 hr1 w h hlen hBw
theorem Tryz.Builder_WriteString_kc (B b : Nat) (bs : List Value) (s : ByteArray) (w : World) (h : Lib.IsBuilderF 67 5 B b bs w) (hlen : bs.length + s.size ≤ 140737488355328) (hBw : B ≤ w.heap.size) :
    Calls Tryz.prog 120 #[.pointer (some ⟨b, 0, none⟩), .string s] w fun e w' => e = .returned (.tuple #[.int .i64 s.size, .nilIface]) ∧ (Lib.BuilderAtF 67 5 B b (.pointer (some ⟨b, 0, none⟩)) (bs ++ Lib.strCells s) w' ∧ Below B w w' ∧ Lib.OthersKept 5 (some b) w w') ∧ ∀ v0, w.cell? ⟨b, 1, none⟩ = some v0 → ∃ v1, w'.cell? ⟨b, 1, none⟩ = some v1 ∧ v0.capOf ≤ v1.capOf := Any.Builder_WriteString_kc Tryz.bs166 Tryz.bsExtra B b bs s w h hlen hBw
namespace YtonkclkopmdahaaGreatDoor
set_option linter.unusedVariables false
set_option maxHeartbeats 1000000 in
theorem Cap_cell (b : Nat) (p : Option Addr) (n cap : Nat) (w : World) (c1 : w.cell? ⟨b, 1, none⟩ = some (.slice p n cap)) :
    Calls Tryz.prog 121 #[.pointer (some ⟨b, 0, none⟩)] w fun e w' => e = .returned (.int .i64 cap) ∧ w = w' := by
  go_enter Tryz.func121, Tryz.ntmps121
  go_wp2
  go_ret
  exact ⟨rfl, rfl⟩
end YtonkclkopmdahaaGreatDoor
end Go.Proofs

/-
  A strings.Builder that a call made: what it holds, and its calls.
-/
namespace Go.Proofs.YtonkclkopmdahaaGreatDoor
open Go.RowKit
set_option linter.unusedVariables false
set_option linter.unusedSimpArgs false

abbrev Bu (B b : Nat) (l : List UInt8) (w : World) : Prop := Lib.IsBuilderF 67 5 B b (Lib.byteCells l) w
theorem Bu.lt {B b : Nat} {l : List UInt8} {w : World} (h : Bu B b l w) : b < w.heap.size := h.elim (fun x => x.lt) (fun x => x.lt)
theorem Bu.below {B b : Nat} {l : List UInt8} {w w' : World} (h : Bu B b l w) (hb : Below w.heap.size w w') : Bu B b l w' := by
  have key : ∀ p, Lib.BuilderAtF 67 5 B b p (Lib.byteCells l) w → Lib.BuilderAtF 67 5 B b p (Lib.byteCells l) w' := by
    intro p h
    have hlt := h.lt
    obtain ⟨hB, v, hv, hown, hne⟩ := h
    exact ⟨hB, v, (hb.block b hlt).trans hv, hown.kept (row := none) ⟨hb.os, hb.tape, hb.output, hb.size, fun k hk _ => hb.block k hk⟩ (Classical.em _), hne⟩
  exact h.elim (fun x => .inl (key _ x)) (fun x => .inr (key _ x))
theorem Bu.new (w : World) : Bu w.heap.size w.heap.size [] (w.alloc (.cells #[.pointer none, .slice none 0 0] 67)) :=
  Lib.IsBuilderF.of (Or.inl ⟨Nat.le_refl _, .slice none 0 0, heap_alloc_new _ _, World.ownsRow_nil _ _ _ _, by simp [Value.ownBlock]⟩)
/-- A byte more. -/
theorem Bu.byte {B b : Nat} {l : List UInt8} {w : World} (h : Bu B b l w) (hB : B ≤ w.heap.size) (hlen : l.length + 1 ≤ 140737488355328) (c : UInt8) (z : Int) (hz : z = (c.toNat : Int)) :
    Calls Tryz.prog 39 #[.pointer (some ⟨b, 0, none⟩), .int .u8 z] w fun e w' => e = .returned .nilIface ∧ Bu B b (l ++ [c]) w' ∧ Below B w w' ∧ Lib.OthersKept 5 (some b) w w' := by
  subst hz
  refine (Tryz.Builder_WriteByte_k B b _ _ _ h (by rw [Lib.byteCells_length]; exact hlen) hB).mono ?_
  rintro e w2 ⟨rfl, h2, b2, o2⟩
  exact ⟨rfl, by unfold Bu; rw [Lib.byteCells_append]; exact Or.inr h2, b2, o2⟩
theorem Bu.str {B b : Nat} {l : List UInt8} {w : World} (h : Bu B b l w) (hB : B ≤ w.heap.size) (s : List UInt8) (hlen : l.length + s.length ≤ 140737488355328) :
    Calls Tryz.prog 120 #[.pointer (some ⟨b, 0, none⟩), .string ⟨s.toArray⟩] w fun e w' => e = .returned (.tuple #[.int .i64 s.length, .nilIface]) ∧ Bu B b (l ++ s) w' ∧ Below B w w' ∧ Lib.OthersKept 5 (some b) w w' := by
  refine (Tryz.Builder_WriteString_k B b _ _ _ h (by rw [Lib.byteCells_length, size_toArray]; exact hlen) hB).mono ?_
  rintro e w2 ⟨rfl, h2, b2, o2⟩
  rw [Lib.strCells_eq] at h2
  exact ⟨by rw [size_toArray], by unfold Bu; rw [Lib.byteCells_append]; exact Or.inr h2, b2, o2⟩
theorem Bu.text {B b : Nat} {l : List UInt8} {w : World} (h : Bu B b l w) (hB : B ≤ w.heap.size) :
    Calls Tryz.prog 40 #[.pointer (some ⟨b, 0, none⟩)] w fun e w' => e = .returned (.string ⟨l.toArray⟩) ∧ Below B w w' := by
  refine (Tryz.Builder_String_any_k B b l _ h hB).mono ?_
  rintro e w2 ⟨rfl, _, b2, _⟩
  exact ⟨rfl, b2⟩
end Go.Proofs.YtonkclkopmdahaaGreatDoor

/-
  What stands behind a place of a text, decoded.
-/
namespace Go.Proofs.YtonkclkopmdahaaGreatDoor
open Go.RowKit
set_option linter.unusedVariables false

/-- What stands behind a place, decoded. -/
theorem decode_from (s : ByteArray) (i n : Nat) (hn : s.size = n) (h : i < n) (r : Int) (k : Nat) (hr : r = ((Utf8.decode s i).1 : Int)) (hk : k = (Utf8.decode s i).2) (w : World) (hT : Lib.Utf8Tabs 0 1 w) :
    Calls Tryz.prog 118 #[.string (s.extract i n)] w fun e w' => e = .returned (.tuple #[.int .i32 r, .int .i64 k]) ∧ Below w.heap.size w w' := by
  subst hn
  have e : Lib.decodeGo (s.extract i s.size) = Utf8.decode s i := by
    unfold Lib.decodeGo
    rw [if_neg (by rw [Lib.tail_size]; omega), Lib.tail_decode]
    rfl
  subst hr hk
  rw [← e]
  exact Tryz.utf8_DecodeRuneInString _ w hT
end Go.Proofs.YtonkclkopmdahaaGreatDoor

/-
  Layer 6: strings.ToValidUTF8 with nothing in the place of what is broken.
-/
namespace Go.Proofs.YtonkclkopmdahaaGreatDoor
open Go.RowKit
set_option linter.unusedVariables false
set_option linter.unusedSimpArgs false

theorem getD_mk (l : List UInt8) (i : Nat) (h : i < l.length) (h2 : i < (⟨l.toArray⟩ : ByteArray).size) : (⟨l.toArray⟩ : ByteArray)[i]'h2 = l.getD i 0 := by
  have := Lib.getElem_mk l i h2
  rw [List.getD_eq_getElem?_getD, this]; rfl
theorem low_good (x : List UInt8) (h : x ≠ []) (h0 : (x.getD 0 0).toNat < 128) : goodL x ∧ widL x = 1 := by
  refine ⟨?_, wid_low x h h0⟩
  unfold goodL
  rw [decodeL_N]
  unfold Lib.decodeN
  rw [if_pos h0]
  simp only
  omega
theorem val_next (l : List UInt8) (i : Nat) (h : valT l = l.take i ++ valT (l.drop i)) (hi : i < l.length) (hg : goodL (l.drop i)) :
    valT l = l.take (i + widL (l.drop i)) ++ valT (l.drop (i + widL (l.drop i))) := by
  rw [valT_step (l.drop i) (drop_ne l i hi), if_pos hg, List.drop_drop, ← List.append_assoc, ← List.take_add] at h
  exact h
theorem val_put (l out m : List UInt8) (j : Nat) (h : valT l = out ++ valT (m.drop j)) (hj : j < m.length) (hg : goodL (m.drop j)) :
    valT l = (out ++ (m.drop j).take (widL (m.drop j))) ++ valT (m.drop (j + widL (m.drop j))) := by
  rw [valT_step (m.drop j) (drop_ne m j hj), if_pos hg, List.drop_drop, ← List.append_assoc] at h
  exact h
theorem val_skip (l out m : List UInt8) (j : Nat) (h : valT l = out ++ valT (m.drop j)) (hj : j < m.length) (hg : ¬ goodL (m.drop j)) : valT l = out ++ valT (m.drop (j + 1)) := by
  rw [valT_step (m.drop j) (drop_ne m j hj), if_neg hg, List.drop_drop, bad_wid _ hg] at h
  exact h
theorem val_low (l out m : List UInt8) (j : Nat) (h : valT l = out ++ valT (m.drop j)) (hj : j < m.length) (h0 : (m.getD j 0).toNat < 128) : valT l = (out ++ [m.getD j 0]) ++ valT (m.drop (j + 1)) := by
  have e : (m.drop j).getD 0 0 = m.getD j 0 := by simp [List.getD_eq_getElem?_getD, List.getElem?_drop]
  obtain ⟨h1, h2⟩ := low_good (m.drop j) (drop_ne m j hj) (by rw [e]; exact h0)
  have := val_put l out m j h hj h1
  rw [h2] at this
  rw [this]
  congr 2
  cases hd : m.drop j with
  | nil => exact absurd hd (drop_ne m j hj)
  | cons c r => rw [hd] at e; rw [← e]; rfl
theorem val_end (l out m : List UInt8) (h : valT l = out ++ valT (m.drop m.length)) : valT l = out := by
  rw [List.drop_length, valT_nil, List.append_nil] at h; exact h
/-- A right rune written. -/
theorem Bu.rune {B b : Nat} {l : List UInt8} {w : World} (h : Bu B b l w) (hB : B ≤ w.heap.size) (x : List UInt8) (hx : x ≠ []) (hg : goodL x) (hlen : l.length + 4 ≤ 140737488355328) (r : Int) (hr : r = ((Lib.decodeL x).1 : Int)) :
    Calls Tryz.prog 104 #[.pointer (some ⟨b, 0, none⟩), .int .i32 r] w fun e w' => e = .returned (.tuple #[.int .i64 (Lib.runeCells r).length, .nilIface]) ∧ Bu B b (l ++ x.take (widL x)) w' ∧ Below B w w' ∧ Lib.OthersKept 5 (some b) w w' := by
  have hb : (Lib.decodeL x).1 ≤ 2147483647 := by
    have hr := rune_at x 0 (by cases x with | nil => exact absurd rfl hx | cons _ _ => simp)
    rw [dec_drop, List.drop_zero] at hr
    rcases hr with ⟨h1, h2⟩ | ⟨_, _, h3, _⟩
    · rw [h2]; simp only; omega
    · exact h3
  refine (Tryz.Builder_WriteRune_k B b _ r (by omega) (by omega) w h (by rw [Lib.byteCells_length]; exact hlen) hB).mono ?_
  rintro e w2 ⟨rfl, h2, b2, o2⟩
  refine ⟨rfl, ?_, b2, o2⟩
  rw [← Lib.byteCells_encodeRune, hr, Lib.encode_decode x hx hg] at h2
  unfold Bu
  rw [Lib.byteCells_append]
  exact Or.inr h2
/-- The room of a builder that has been written. -/
theorem cap_of {B b : Nat} {bs : List Value} {p : Value} {w : World} (h : Lib.BuilderAtF 67 5 B b p bs w) : ∃ a n c, w.cell? ⟨b, 1, none⟩ = some (.slice a n c) := by
  obtain ⟨_, v, hbk, hown, _⟩ := h
  have hc : w.cell? ⟨b, 1, none⟩ = some v := by rw [Lib.cell_of_heap hbk]; rfl
  rcases hown.2 with ⟨hv, _⟩ | ⟨g, cap, cur, fz, hv, _⟩
  · exact ⟨_, _, _, by rw [hc, hv]⟩
  · exact ⟨_, _, _, by rw [hc, hv]⟩

/-- Grow of a builder that is new. -/
theorem Grow_new {B b n : Nat} {w : World} (hB : B ≤ b) (hbk : w.heap[b]? = some (.cells #[.pointer none, .slice none 0 0] 67 (0, 0))) (hBw : B ≤ w.heap.size) (hn : n ≤ 281474976710656) (z : Int) (hz : z = n) :
    Calls Tryz.prog 38 #[.pointer (some ⟨b, 0, none⟩), .int .i64 z] w fun e w' => e = .returned (.tuple #[]) ∧ Bu B b [] w' ∧ Below B w w' ∧ ∃ p cap : _, w'.cell? ⟨b, 1, none⟩ = some (.slice p 0 cap) ∧ n ≤ cap := by
  subst hz
  refine (Tryz.Builder_Grow_fresh_cap B b n w hB hbk hBw hn).mono ?_
  rintro e w2 ⟨rfl, ⟨h1, h2⟩, h3⟩
  exact ⟨rfl, Or.inr (Lib.BuilderAtF.of h1), h2, h3⟩
/-- The first text written behind a Grow: there is room. -/
theorem Str_new {B b : Nat} {w : World} (h : Bu B b [] w) (hB : B ≤ w.heap.size) (s : List UInt8) (hlen : s.length ≤ 1000000) (p : Option Addr) (n c : Nat) (hc : w.cell? ⟨b, 1, none⟩ = some (.slice p n c)) (h1 : 1 ≤ c) :
    Calls Tryz.prog 120 #[.pointer (some ⟨b, 0, none⟩), .string ⟨s.toArray⟩] w fun e w' => e = .returned (.tuple #[.int .i64 s.length, .nilIface]) ∧ Bu B b s w' ∧ Below B w w' ∧ ∃ p n c : _, w'.cell? ⟨b, 1, none⟩ = some (.slice p n c) ∧ 1 ≤ c := by
  refine (Tryz.Builder_WriteString_kc B b _ _ _ h (by rw [Lib.byteCells_length, size_toArray]; simp; omega) hB).mono ?_
  rintro e w2 ⟨rfl, ⟨h2, b2, o2⟩, h3⟩
  obtain ⟨v1, e1, le1⟩ := h3 _ hc
  obtain ⟨a, n', c', e2⟩ := cap_of h2
  rw [e2] at e1
  cases e1
  rw [Lib.strCells_eq] at h2
  refine ⟨by rw [size_toArray], Or.inr (by simpa [Lib.byteCells] using h2), b2, a, n', c', e2, Nat.le_trans h1 le1⟩

set_option maxHeartbeats 16000000 in
set_option maxRecDepth 100000 in
theorem ToValid_is (l : List UInt8) (w : World) (hn : l.length ≤ 1000000) (hT : Lib.Utf8Tabs 0 1 w) :
    Calls Tryz.prog 102 #[.string ⟨l.toArray⟩, .string ⟨#[]⟩] w fun e w' => e = .returned (.string ⟨(valT l).toArray⟩) ∧ Below w.heap.size w w' := by
  have RI := Lib.hid (rune_int l)
  have hsz := size_toArray l
  have DD := Lib.hid (dec_drop l)
  have EX := Lib.hid (ext_upto l)
  have EF := Lib.hid (fun k => ext_from l k l.length rfl)
  obtain ⟨s, hs⟩ : ∃ s : ByteArray, s = ⟨l.toArray⟩ := ⟨_, rfl⟩
  have HS := Lib.hid hs
  rw [← hs] at RI hsz DD EX EF ⊢
  clear hs
  have HT := Lib.hid hT
  have it0 : ((w.alloc (.cells #[.pointer none, .slice none 0 0] 67)).iter s 0).heap[w.heap.size + 1]? = some (.stringIter s 0) := heap_alloc2_new _ _ _
  have nb0 : ((w.alloc (.cells #[.pointer none, .slice none 0 0] 67)).iter s 0).heap[w.heap.size]? = some (.cells #[.pointer none, .slice none 0 0] 67 (0, 0)) := heap_alloc2_old _ _ _
  have bl0 : Below w.heap.size w ((w.alloc (.cells #[.pointer none, .slice none 0 0] 67)).iter s 0) := ((Below.refl w.heap.size w).alloc (Nat.le_refl _) _).alloc (by simp) _
  have V0 := Lib.hid (show valT l = l.take 0 ++ valT (l.drop 0) by simp)
  have IT := Lib.hid it0; have NB := Lib.hid nb0; have BL := Lib.hid bl0
  clear hT it0 nb0 bl0
  go_enter Tryz.func102, Tryz.ntmps102
  go_wp2_with fail
  go_loopw [0] (fun v0 wr => v0 = .string s ∧ ∃ i : Nat, i ≤ l.length ∧ valT l = l.take i ++ valT (l.drop i) ∧ wr.heap[w.heap.size + 1]? = some (.stringIter s i) ∧ wr.heap[w.heap.size]? = some (.cells #[.pointer none, .slice none 0 0] 67 (0, 0)) ∧ Below w.heap.size w wr) (fun _ wr => l.length - wr.iterPos (w.heap.size + 1))
  case atStart => exact ⟨rfl, 0, Nat.zero_le _, V0.out, IT.out, NB.out, BL.out⟩
  case round =>
    clear V0 IT NB BL
    obtain ⟨rfl, i, hi, hv, hit, hnb, hbr⟩ := hrel
    have HV := Lib.hid hv
    clear hv
    by_cases hlt : i < l.length
    · have hnx := fun ty => Lib.run_next_any_at (P := Tryz.prog) wr (w.heap.size + 1) s i ty hit (by omega)
      obtain ⟨r, k, hr, hk, hr0, hr1, hk1, hkl, hw⟩ := RI.out i hlt
      rw [← hr, ← hk] at hnx
      have HR := Lib.hid hr
      have HK := Lib.hid hk
      have HR2 := Lib.hid (show r = ((Lib.decodeL (l.drop i)).1 : Int) by rw [hr, DD.out])
      have HK2 := Lib.hid (show k = widL (l.drop i) by rw [hk, DD.out]; rfl)
      clear hr hk hw
      have HP := Lib.hid (show wr.iterPos (w.heap.size + 1) = i by simp [World.iterPos, hit])
      have hit2 := Lib.iterAt_heap wr (w.heap.size + 1) s i (i + k) hit
      have hbr2 := Lib.below_iterAt hbr (k := w.heap.size + 1) (by omega) s (i + k)
      have hnb2 := (Lib.iterAt_other wr (w.heap.size + 1) w.heap.size s (i + k) (by omega)).trans hnb
      generalize wr.iterAt (w.heap.size + 1) s (i + k) = w3 at hnx hit2 hbr2 hnb2
      clear hit hbr hnb
      by_cases c1 : r = 65533
      · have HT3 := Lib.hid (Utf8Tabs_below HT.out hbr2)
        have hi2 : (i : Int) ≤ (s.size : Int) := by omega
        have hi3 : (i : Int) ≤ (l.length : Int) := by omega
        have lt3 : w.heap.size + 1 < w3.heap.size := (Array.getElem?_eq_some_iff.1 hit2).1
        have f1 : (r == 65533) = true := by simp [c1]
        have f2 : (r != 65533) = false := by simp [c1]
        have C1 := Lib.hid c1
        clear c1
        go_wp2_with fail
        refine (decode_from s i l.length hsz hlt r k HR.out HK.out _ HT3.out).mono ?_
        rintro e w4 ⟨rfl, b4⟩
        have hit4 := (b4.block _ lt3).trans hit2
        have hnb4 := (b4.block w.heap.size (by omega)).trans hnb2
        have hbr4 := hbr2.trans (b4.mono hbr2.size)
        clear HT3 hit2 hnb2 hbr2
        by_cases k1 : k = 1
        · have bad : ¬ goodL (l.drop i) := fun hg => hg ⟨by have := HR2.out; have := C1.out; omega, by have := HK2.out; show widL _ = 1; omega⟩
          have f3 : ((k : Int) == 1) = true := by simp [k1]
          have hb4 : w.heap.size ≤ w4.heap.size := hbr4.size
          have i0 : (0 : Int) ≤ (i : Int) := by omega
          have BAD := Lib.hid bad
          clear bad k1 f1 f2
          have hd : (l.drop i).length = l.length - i := List.length_drop
          have hm := ext_from l i l.length rfl
          rw [← HS.out] at hm
          have HM := Lib.hid hm
          have V2 := Lib.hid (show valT l = l.take i ++ valT ((l.drop i).drop 0) by rw [List.drop_zero]; exact HV.out)
          have HL := Lib.hid (show (l.take i).length ≤ i by rw [List.length_take]; omega)
          generalize l.drop i = m at hd HM V2 BAD HR2 HK2
          have HD := Lib.hid hd
          have hml : m.length ≤ 1000000 := by omega
          clear hm hd HR2 HK2
          go_wp2_with fail
          refine (Grow_new (n := l.length) (Nat.le_refl _) hnb4 hb4 (by omega) _ (by first | rfl | omega | simp)).mono ?_
          rintro e w5 ⟨rfl, i5, b5, p5, cap5, c5, le5⟩
          have hbr5 := hbr4.trans b5
          have cS := Str_new i5 hbr5.size (l.take i) (by rw [List.length_take]; omega) p5 0 cap5 c5 (by omega)
          rw [← EX.out i] at cS
          clear c5 i5 b5 hnb4 hit4
          go_wp2_with fail
          refine cS.mono ?_
          rintro e w6 ⟨rfl, i6, b6, p6, n6, cap6, c6, le6⟩
          have hbr6 := hbr5.trans b6
          have f6 : ((cap6 : Int) == 0) = false := by simp; omega
          clear cS b6
          go_wp2_with fail
          refine (Cap_cell w.heap.size p6 n6 cap6 _ c6).mono ?_
          rintro e w7 ⟨rfl, rfl⟩
          clear c6 le6 le5
          have hm := HM.out
          generalize s.extract i l.length = t at hm
          have hts : t.size = m.length := by rw [hm, size_toArray]
          have hget : ∀ j, j < m.length → ∀ h2 : j < t.size, t[j]'h2 = m.getD j 0 := by subst hm; exact fun i h h2 => getD_mk m i h h2
          have GET := Lib.hid hget
          have MID := Lib.hid (show ∀ j k : Nat, t.extract j (j + k) = ⟨((m.drop j).take k).toArray⟩ by intro j k; rw [hm, Lib.extract_mk, Nat.add_sub_cancel_left])
          have RM := Lib.hid (rune_int m)
          have DM := Lib.hid (dec_drop m)
          rw [← hm] at RM DM
          have I6 := Lib.hid i6
          have B6 := Lib.hid hbr6
          clear hget hm i6 hbr6 hbr5 hbr4
          go_wp2_with fail
          go_loopw [10, 11] (fun v10 v11 wz => ∃ (iv : Bool) (j : Nat) (out : List UInt8), j ≤ m.length ∧ v10 = .bool iv ∧ v11 = .int .i64 j ∧ valT l = out ++ valT (m.drop j) ∧ out.length ≤ i + j ∧ Bu w.heap.size w.heap.size out wz ∧ Below w.heap.size w wz) (fun _ v11 _ => m.length - (intOf v11).toNat)
          case atStart => exact ⟨false, 0, l.take i, Nat.zero_le _, rfl, rfl, V2.out, HL.out, I6.out, B6.out⟩
          case round =>
            clear I6 B6 V2 HL
            obtain ⟨iv, j, out, hj, rfl, rfl, hvj, houtl, hbu, hbrj⟩ := hrel
            have VJ := Lib.hid hvj
            have OL := Lib.hid houtl
            have ol2 : out.length ≤ 1000000 := by have := HD.out; omega
            clear hvj houtl
            by_cases hjl : j < m.length
            · have j1 : (j : Int) < (t.size : Int) := by omega
              have j2 : (j : Int) < (m.length : Int) := by omega
              have hx := GET.out j hjl (by omega)
              have XL := Lib.hid (val_low l out m j VJ.out hjl)
              have xhi := val_skip l out m j VJ.out hjl
              obtain ⟨r2, k2, hr, hk, hr0, hr1, hk1, hkl, hw⟩ := RM.out j hjl
              have hk2 : k2 = widL (m.drop j) := by rw [hk, DM.out]; rfl
              have hgk : (m.getD j 0).toNat ≥ 128 → k2 ≠ 1 → goodL (m.drop j) := fun _ h hg => h (by rw [hk2]; exact hg.2)
              have hgb : (m.getD j 0).toNat ≥ 128 → k2 = 1 → ¬ goodL (m.drop j) := fun h0 h hg => by
                have e : (m.drop j).getD 0 0 = m.getD j 0 := by simp [List.getD_eq_getElem?_getD, List.getElem?_drop]
                have := good_high (m.drop j) (drop_ne m j hjl) (by rw [e]; exact h0) hg
                omega
              obtain ⟨x, hxe⟩ : ∃ x : UInt8, x = m.getD j 0 := ⟨_, rfl⟩
              rw [← hxe] at hx XL hgk hgb
              have HR3 := Lib.hid hr
              have HK3 := Lib.hid hk
              have HK4 := Lib.hid hk2
              clear hxe hw hr hk hk2
              by_cases lo : x.toNat < 128
              · have XL2 := Lib.hid (XL.out lo)
                clear xhi hgk hgb
                go_wp2_with fail
                refine (hbu.byte hbrj.size (by omega) x _ (by rfl)).mono ?_
                rintro e w8 ⟨rfl, i8, b8, o8⟩
                have hbr8 := hbrj.trans b8
                go_wp2
                go_roundw
                case rel => exact ⟨false, j + 1, out ++ [x], by omega, rfl, by go_num, XL2.out, by have := OL.out; simp; omega, i8, hbr8⟩
                case measure => simp [intOf]; omega
              · have hi128 : 128 ≤ x.toNat := by omega
                have HT8 := Lib.hid (Utf8Tabs_below HT.out hbrj)
                clear XL lo
                by_cases k1 : k2 = 1
                · have SK := Lib.hid (xhi (hgb (by omega) k1))
                  have f8 : ((k2 : Int) == 1) = true := by simp [k1]
                  clear xhi hgk hgb k1
                  go_wp2_with fail
                  refine (decode_from t j m.length hts hjl r2 k2 HR3.out HK3.out _ HT8.out).mono ?_
                  rintro e w8 ⟨rfl, b8⟩
                  have hbu8 := hbu.below b8
                  have hbr8 := hbrj.trans (b8.mono hbrj.size)
                  clear hbu hbrj b8 HT8
                  cases iv with
                  | true =>
                    go_wp2
                    go_roundw
                    case rel => exact ⟨true, j + 1, out, by omega, rfl, by go_num, SK.out, by have := OL.out; omega, hbu8, hbr8⟩
                    case measure => simp [intOf]; omega
                  | false =>
                    go_wp2_with fail
                    refine (hbu8.str hbr8.size [] (by simp; omega)).mono ?_
                    rintro e w9 ⟨rfl, i9, b9, o9⟩
                    have hbr9 := hbr8.trans b9
                    rw [List.append_nil] at i9
                    go_wp2
                    go_roundw
                    case rel => exact ⟨true, j + 1, out, by omega, rfl, by go_num, SK.out, by have := OL.out; omega, i9, hbr9⟩
                    case measure => simp [intOf]; omega
                · have GD := hgk (by omega) k1
                  have PU := val_put l out m j VJ.out hjl GD
                  rw [← HK4.out] at PU
                  have PUT := Lib.hid PU
                  have f8 : ((k2 : Int) == 1) = false := by simp; omega
                  have TL := Lib.hid (show ((m.drop j).take k2).length ≤ k2 by rw [List.length_take]; omega)
                  have jk : (j : Int) + (k2 : Int) ≤ (t.size : Int) := by omega
                  have jk2 : (j : Int) + (k2 : Int) ≤ (m.length : Int) := by omega
                  clear xhi hgk hgb k1 GD PU
                  go_wp2_with fail
                  refine (decode_from t j m.length hts hjl r2 k2 HR3.out HK3.out _ HT8.out).mono ?_
                  rintro e w8 ⟨rfl, b8⟩
                  have hbu8 := hbu.below b8
                  have hbr8 := hbrj.trans (b8.mono hbrj.size)
                  clear hbu hbrj b8 HT8
                  have cW := hbu8.str hbr8.size ((m.drop j).take k2) (by have := TL.out; omega)
                  rw [← MID.out j k2] at cW
                  go_wp2_with fail
                  refine cW.mono ?_
                  rintro e w9 ⟨rfl, i9, b9, o9⟩
                  have hbr9 := hbr8.trans b9
                  go_wp2
                  go_roundw
                  case rel => exact ⟨false, j + k2, out ++ (m.drop j).take k2, by omega, rfl, by go_num, PUT.out, by have := OL.out; have := TL.out; rw [List.length_append]; omega, i9, hbr9⟩
                  case measure => simp [intOf]; omega
            · obtain rfl : j = m.length := by omega
              have E := Lib.hid (val_end l out m VJ.out)
              go_wp2_with fail
              refine (hbu.text hbrj.size).mono ?_
              rintro e w8 ⟨rfl, b8⟩
              go_wp2
              go_ret
              exact ⟨by rw [E.out]; rfl, hbrj.trans b8⟩
        · have good : goodL (l.drop i) := fun hg => k1 (by rw [HK2.out]; exact hg.2)
          have f3 : ((k : Int) == 1) = false := by simp; omega
          have NV := Lib.hid (val_next l i HV.out hlt good)
          clear good k1
          go_wp2
          go_roundw
          case rel => exact ⟨rfl, i + k, by omega, by rw [HK2.out]; exact NV.out, hit4, hnb4, hbr4⟩
          case measure =>
            rw [HP.out, show World.iterPos _ (w.heap.size + 1) = i + k by simp [World.iterPos, hit4]]
            omega
      · have good : goodL (l.drop i) := fun hg => c1 (by rw [HR2.out]; exact congrArg Int.ofNat hg.1)
        have NV := Lib.hid (val_next l i HV.out hlt good)
        have f2 : (r != 65533) = true := by simp [c1]
        clear good
        go_wp2
        go_roundw
        case rel => exact ⟨rfl, i + k, by omega, by rw [HK2.out]; exact NV.out, hit2, hnb2, hbr2⟩
        case measure =>
          rw [HP.out, show World.iterPos _ (w.heap.size + 1) = i + k by simp [World.iterPos, hit2]]
          omega
    · obtain rfl : i = l.length := by omega
      have hnx := fun ty => Lib.run_next_end_at (P := Tryz.prog) wr (w.heap.size + 1) s l.length ty hit (by omega)
      have hc : wr.cell? ⟨w.heap.size, 1, none⟩ = some (.slice none 0 0) := by rw [Lib.cell_of_heap hnb]; rfl
      have E := Lib.hid (show s = ⟨(valT l).toArray⟩ by rw [HV.out, List.take_length, List.drop_length, valT_nil, List.append_nil]; exact HS.out)
      go_wp2_with fail
      refine (Cap_cell w.heap.size none 0 0 _ hc).mono ?_
      rintro e w4 ⟨rfl, rfl⟩
      go_wp2
      go_ret
      exact ⟨by rw [← E.out]; rfl, hbr⟩
end Go.Proofs.YtonkclkopmdahaaGreatDoor
