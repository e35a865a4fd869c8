/-
  Texts that belong together, one behind the other.
-/
import Derived.Test.YtalmoaofodjehaaDoorFu02
import Derived.Lib.FrozenHead2
import Derived.OwnWalk
import Derived.Test.YtalmoaofodjehaaDoorFu11
import Derived.StillTailTactics
import Derived.Test.YtalmoaofodjehaaDoorFu10
import Derived.Test.YtalmoaofodjehaaDoorFu04
import Derived.Test.YtalmoaofodjehaaDoorFu03
/-
  Bytes that are read alone.
-/
namespace Go.Proofs.YtalmoaofodjehaaDoor
open Go.RowKit
set_option linter.unusedVariables false

/-- Bytes that are read alone. -/
def Red (w : World) (v : Value) (l : List UInt8) : Prop := ∃ a c, v = .slice a l.length c ∧ BAt w a l ∧ (a = none → l.length = 0 ∧ c = 0) ∧ l.length ≤ c ∧ c ≤ maxLen
theorem Red.below {w w' : World} {v : Value} {l : List UInt8} (h : Red w v l) {B : Nat} (hb : Below B w w') (hB : w.heap.size ≤ B) : Red w' v l := by
  obtain ⟨a, c, e, hba, r⟩ := h
  exact ⟨a, c, e, hba.below hb hB, r⟩
theorem Red.none (w : World) : Red w (.slice none 0 0) [] := ⟨.none, 0, rfl, BAt.nil w _, fun _ => ⟨rfl, rfl⟩, Nat.le_refl _, Nat.zero_le _⟩
end Go.Proofs.YtalmoaofodjehaaDoor

/-
  Rows of bytes that a call owns, appended to: texts, cells; cut in two.
-/
namespace Go.Proofs.YtalmoaofodjehaaDoor
open Go.RowKit
set_option linter.unusedVariables false
set_option linter.unusedSimpArgs false

/-- A row of bytes that a call owns. -/
abbrev OwnF (B : Nat) (v : Value) (l : List UInt8) (w : World) : Prop := w.ownsRowF B 5 1 v l.length (Lib.byteCells l)
theorem ownF_below {B : Nat} {v : Value} {l : List UInt8} {w w' : World} (h : OwnF B v l w) (hb : Below w.heap.size w w') : OwnF B v l w' :=
  World.ownsRowF.kept (row := none) h ⟨hb.os, hb.tape, hb.output, hb.size, fun k hk _ => hb.block k hk⟩ (Classical.em _)
theorem ownF_shape {B : Nat} {v : Value} {l : List UInt8} {w : World} (h : OwnF B v l w) : ∃ a c, v = .slice a l.length c ∧ l.length ≤ c ∧ c ≤ maxLen ∧ BAt w a l := by
  rcases h.2 with ⟨hv, h0⟩ | ⟨g, cap, cur, fz, hv, hB, hg, _, hc, hm, _, _⟩
  · obtain rfl : l = [] := List.eq_nil_of_length_eq_zero h0
    exact ⟨none, 0, hv, Nat.le_refl _, Nat.zero_le _, BAt.nil w _⟩
  · have hcs := World.ownsRowF.cells h (g := g) (by rw [hv]; rfl)
    refine ⟨_, cap, hv, hc, hm, fun _ => ⟨g, 0, rfl, (Array.getElem?_eq_some_iff.1 hg).1, fun i hi => ?_⟩⟩
    have := hcs i (.int .u8 (l[i]).toNat) (by simp [Lib.byteCells, List.getElem?_map, hi])
    cases i with
    | zero => simpa [Addr.add] using this
    | succ k => simpa [Addr.add] using this
theorem info_byte : (Tryd.prog.info? 5).map (fun i => (i.zero, i.size, i.bytes)) = some (some (.int .u8 0), 1, 1) := by kernel_rfl
/-- 'append(b, s...)' onto a row that the call owns, s a text. -/
theorem wpList_append_str {ops : Array Oper} {rest : List Oper} {o : Oper} {a : Act} {w : World} {Q : Exit → Act → World → Prop} (hgd : o.guard = none) (sl x : Operand)
    (ho : o.op = .call { callee := .builtin .append, args := #[sl, x], argTypes := #[23, 9] }) (B : Nat) (v : Value) (out m : List UInt8) (s : ByteArray) (hs : a.eval sl = v) (hx : a.eval x = .string s)
    (hS : s = ⟨m.toArray⟩) (hown : OwnF B v out w) (hb : out.length + m.length ≤ 1099511627776) (hB : B ≤ w.heap.size)
    (h : ∀ v' w', OwnF B v' (out ++ m) w' → w.grownBy w' v.ownBlock → wpList Tryd.prog ops Q rest (a.put o.dst v') w') : wpList Tryd.prog ops Q (o :: rest) a w := by
  subst hS
  obtain ⟨i, hi, hz, hz1, hz2⟩ := info_parts info_byte
  refine Lib.wpList_append_own_stringF w hgd sl x 23 9 ho B 5 i Tryd.underlying23 Tryd.underlying9 hi hz hz1 hz2 v out.length (Lib.byteCells out) hs hown ⟨m.toArray⟩ hx (by rw [size_toArray]; unfold maxLen; omega) (by rw [size_toArray]; omega) hB ?_
  intro v' w' ho hg _
  refine h v' w' ?_ hg
  rw [size_toArray, Lib.strCells_eq] at ho
  unfold OwnF
  rw [List.length_append, Lib.byteCells_append]
  exact ho
theorem elem_b : Tryd.prog.underlying 23 = some (.slice (Tryd.prog.elem 23)) := by kernel_rfl
/-- 'b[:k]'. -/
theorem bs_head (a : Option Addr) (n c k : Nat) (x : Int) (hx : x = k) (hk : k ≤ c) (u : World) :
    (Instr.sliceAt 23 (.slice a n c) none (some (.int .i64 x)) none).run Tryd.prog u = .ok (.slice a k c) u := by
  subst hx
  obtain ⟨i, hi, hz, hs, hby⟩ := info_parts info_byte
  have e : Tryd.prog.elem 23 = 5 := by kernel_rfl
  rw [run_sliceAt_slice (h := elem_b), run_slice_h (ht := elem_b) (h0 := by omega) (h2 := by omega)]
  rw [e]
  simp [sizeOf, typeInfo, hi, hs, Result.andThen, sliced]
  cases a with
  | none => simp
  | some a => simp [Addr.add]
/-- 'b[k:]'. -/
theorem bs_tail (a : Option Addr) (n c k : Nat) (l : List UInt8) (hn : n = l.length) (hk : k ≤ n) (hc : n ≤ c) :
    ∃ a', (∀ (x : Int) (u : World), x = k → (Instr.sliceAt 23 (.slice a n c) (some (.int .i64 x)) none none).run Tryd.prog u = .ok (.slice a' (n - k) (c - k)) u) ∧
      ∀ w, BAt w a l → BAt w a' (l.drop k) := by
  obtain ⟨i, hi, hz, hs, hby⟩ := info_parts info_byte
  have e : Tryd.prog.elem 23 = 5 := by kernel_rfl
  refine ⟨if c = k then a else a.map (·.add (k * 1)), fun x u hx => ?_, fun w hb => ?_⟩
  · subst hx
    rw [run_sliceAt_slice (h := elem_b), run_slice_l (ht := elem_b) (h0 := by omega) (h1 := by omega)]
    rw [e]
    simp [sizeOf, typeInfo, hi, hs, Result.andThen, sliced]
  · subst hn
    by_cases hck : c = k
    · rw [if_pos hck]
      intro hp
      rw [List.length_drop] at hp; omega
    · rw [if_neg hck]
      intro hp
      rw [List.length_drop] at hp
      obtain ⟨b, o, rfl, h1, h2⟩ := hb (by omega)
      refine ⟨b, o + k, ?_, h1, fun j hj => ?_⟩
      · simp [Addr.add]
      · rw [List.length_drop] at hj
        rw [show o + k + j = o + (k + j) by omega, h2 (k + j) (by omega), List.getElem_drop]
theorem ownF_red {B : Nat} {v : Value} {l : List UInt8} {w : World} (h : OwnF B v l w) : Red w v l := by
  obtain ⟨a, c, hv, hl, hm, hb⟩ := ownF_shape h
  refine ⟨a, c, hv, hb, fun hn => ?_, hl, hm⟩
  rcases h.2 with ⟨hv2, h0⟩ | ⟨g, cap, cur, fz, hv2, _⟩
  · rw [hv] at hv2
    simp only [Value.slice.injEq] at hv2
    exact ⟨hv2.2.1, hv2.2.2⟩
  · rw [hv] at hv2
    simp only [Value.slice.injEq] at hv2
    rw [hn] at hv2
    exact absurd hv2.1 (by simp)
/-- 'append(b, c...)' onto a row that the call owns, c bytes that lie anywhere. -/
theorem wpList_append_cells {ops : Array Oper} {rest : List Oper} {o : Oper} {a : Act} {w : World} {Q : Exit → Act → World → Prop} (hgd : o.guard = none) (sl x : Operand)
    (ho : o.op = .call { callee := .builtin .append, args := #[sl, x], argTypes := #[23, 23] }) (B : Nat) (v : Value) (out m : List UInt8) (ad : Addr) (n c : Nat) (hs : a.eval sl = v) (hx : a.eval x = .slice (some ad) n c)
    (hn : n = m.length) (hc : ∀ j u, (Lib.byteCells m)[j]? = some u → w.cell? (ad.add j) = some u) (hown : OwnF B v out w) (hb : out.length + m.length ≤ 1099511627776) (hB : B ≤ w.heap.size)
    (h : ∀ v' w', OwnF B v' (out ++ m) w' → w.grownBy w' v.ownBlock → wpList Tryd.prog ops Q rest (a.put o.dst v') w') : wpList Tryd.prog ops Q (o :: rest) a w := by
  subst hn
  obtain ⟨i, hi, hz, hz1, hz2⟩ := info_parts info_byte
  have hbl : (Lib.byteCells m).length = m.length := by simp [Lib.byteCells]
  refine wpList_append_ownF w hgd sl x 23 ho B 5 i (.int .u8 0) 1 1 Tryd.underlying23 hi hz hz1 hz2 rfl (by decide) v out.length (Lib.byteCells out) hs hown ad m.length c (Lib.byteCells m) hx (by rw [hbl]; omega) hc (fun u hu => by simp [Lib.byteCells] at hu; obtain ⟨x, _, rfl⟩ := hu; rfl) (by unfold maxLen; omega) (by omega) hB ?_
  intro v' w' ho hg _
  refine h v' w' ?_ hg
  unfold OwnF
  rw [List.length_append, Lib.byteCells_append]
  exact ho
end Go.Proofs.YtalmoaofodjehaaDoor

/-
  Layer 8, the program: Right whatever comes; Print.
-/
namespace Go.Proofs.YtalmoaofodjehaaDoor
set_option maxRecDepth 20000
open Go.RowKit
set_option linter.unusedVariables false
set_option linter.unusedSimpArgs false

set_option maxHeartbeats 2000000 in
theorem pRight_is (a : Option Addr) (n c : Nat) (l : List Itm) (w : World) (hn : n = l.length) (hm : n ≤ maxLen) (hit : ItemsAt w a l) (hid : ∀ i ∈ l, i.id.length = 20) (hnm : ∀ i ∈ l, i.name.length ≤ 1000000) (tab : QTab w) :
    Calls Tryd.prog 17 #[.slice a n c] w fun e w' => e = .returned (.bool (rightI l)) ∧ Below w.heap.size w w' := by
  unfold maxLen at hm
  by_cases h1 : n = 0
  · have hR := right_no_len l (.inl (by omega))
    rw [hR]
    subst h1
    clear hn hm hit hid hnm tab hR
    go_enter Tryd.func17, Tryd.ntmps17
    go_wp2
    go_ret
    exact ⟨rfl, Below.refl _ _⟩
  · by_cases h5 : 500 < n
    · have hR := right_no_len l (.inr (by omega))
      rw [hR]
      have g1 : ((n : Int) == 0) = false := beq_false_of_ne (by omega)
      have g2 : (n : Int) > 500 := by omega
      clear hn hit hid hnm tab hR h1 h5
      go_enter Tryd.func17, Tryd.ntmps17
      go_wp2
      go_ret
      exact ⟨rfl, Below.refl _ _⟩
    · obtain ⟨b, o, rfl, hb, hc⟩ := hit (by omega)
      exact pRight_some b o n c l w hn (by omega) (by omega) hb hc hid hnm tab

theorem path_len {s : List UInt8} (h : pathL s = true) : s.length ≤ 400 := by
  rw [path_form] at h
  simp only [Bool.and_eq_true, decide_eq_true_eq] at h
  exact h.1.1.1.1
theorem right_one {l : List Itm} (h : rightI l = true) : ∀ i ∈ l, oneI i = true := by
  intro i hi
  obtain ⟨k, hk, rfl⟩ := List.mem_iff_getElem.1 hi
  have hs := ((right_iff l).1 h).2.2 k hk
  unfold stepI aheadI at hs
  have hg : l.getD k noI = l[k] := by rw [List.getD_eq_getElem?_getD, List.getElem?_eq_getElem hk]; rfl
  rw [hg] at hs
  simp only [Bool.and_eq_true] at hs
  exact hs.1.1
theorem one_parts {i : Itm} (h : oneI i = true) : i.name.length ≤ 400 ∧ 1 ≤ i.mode ∧ i.mode ≤ 4 := by
  unfold oneI nameI at h
  simp only [Bool.and_eq_true, decide_eq_true_eq] at h
  exact ⟨path_len h.1.1.1.1, h.1.2, h.2⟩
theorem flat_le {l : List Itm} (h : ∀ i ∈ l, oneI i = true) (hid : ∀ i ∈ l, i.id.length = 20) : (flatI l).length ≤ 430 * l.length := by
  induction l with
  | nil => simp [flat_nil]
  | cons i l ih =>
    have h1 := (one_parts (h i (by simp))).1
    have h2 := hid i (by simp)
    have h3 := modeL_len i.mode
    have h4 := ih (fun j hj => h j (by simp [hj])) (fun j hj => hid j (by simp [hj]))
    rw [flat_cons, List.length_append, print_length, List.length_cons]
    omega
theorem flat_next (l : List Itm) (i : Nat) (h : i < l.length) : flatI (l.take (i + 1)) = flatI (l.take i) ++ printI l[i] := by
  rw [List.take_add_one, List.getElem?_eq_getElem h, flat_append]
  simp [flatI]
theorem print_cut (i : Itm) (hm : 1 ≤ i.mode ∧ i.mode ≤ 4) : printI i = (wordI i.mode ++ [32] ++ i.name ++ [0]) ++ i.id := by
  rw [word_yes _ hm]; unfold printI; simp
theorem printT_bad {l : List Itm} (h : 0 < l.length) (hr : rightI l = false) : printT l = ([], 11) := by
  unfold printT
  rw [if_pos ⟨by rintro rfl; simp at h, hr⟩]
theorem printT_good {l : List Itm} (h : l.length = 0 ∨ rightI l = true) : printT l = if 65536 < (flatI l).length then ([], 5) else (flatI l, 0) := by
  unfold printT
  rw [if_neg]
  rintro ⟨h1, h2⟩
  rcases h with h | h
  · exact h1 (List.eq_nil_of_length_eq_zero h)
  · rw [h] at h2; cases h2

set_option maxHeartbeats 16000000 in
theorem pPrint_some (b o n c : Nat) (l : List Itm) (w : World) (hn : n = l.length) (h1 : 1 ≤ n) (hm : n ≤ maxLen) (hbl : b < w.heap.size)
    (hc : ∀ k (h : k < l.length) j v, (cellsI l[k])[j]? = some v → w.cell? ⟨b, o + k * 22 + j, none⟩ = some v) (hid : ∀ i ∈ l, i.id.length = 20) (hnm : ∀ i ∈ l, i.name.length ≤ 1000000) (tab : QTab w) :
    Calls Tryd.prog 13 #[.slice (some ⟨b, o, none⟩) n c] w fun e w' => ∃ v, e = .returned (.tuple #[v, .int .i64 (printT l).2]) ∧ Red w' v (printT l).1 ∧ Below w.heap.size w w' := by
  have cR := pRight_is (some ⟨b, o, none⟩) n c l w hn hm (fun _ => ⟨b, o, rfl, hbl, hc⟩) hid hnm tab
  have g1 : (n : Int) > 0 := by omega
  have HN := Lib.hid hn; have HC := Lib.hid hc; have HID := Lib.hid hid
  obtain ⟨P, hP⟩ : ∃ P, printT l = P := ⟨_, rfl⟩
  have HP := Lib.hid hP
  rw [hP]
  cases hr : rightI l with
  | false =>
    rw [hr] at cR
    have hp := (HP.out.symm.trans (printT_bad (by omega) hr))
    subst hp
    clear hn hc hid hnm tab hP hr
    go_enter Tryd.func13, Tryd.ntmps13
    go_wp2_with fail
    refine cR.mono ?_
    rintro e w1 ⟨rfl, b1⟩
    have B1 := Lib.hid b1
    clear b1
    go_wp2
    go_ret2
    exact ⟨_, rfl, Red.none _, B1.out⟩
  | true =>
    rw [hr] at cR
    have h5 := ((right_iff l).1 hr).2.1
    have HP2 := Lib.hid (HP.out.symm.trans (printT_good (.inr hr)))
    have HONE := Lib.hid (right_one hr)
    obtain ⟨z, hz, hzs, hzv, hzb, hz1⟩ := zItem_any
    have HZS := Lib.hid hzs
    have hn5 : n ≤ 500 := by omega
    clear hn hc hid hnm tab hP hr hz hzs hzb hz1 h5
    go_enter Tryd.func13, Tryd.ntmps13
    go_wp2_with fail
    refine cR.mono ?_
    rintro e w1 ⟨rfl, b1⟩
    have B1 := Lib.hid b1
    clear b1 cR
    go_wp2_with fail
    go_loopw [4, 17] (fun v4 v17 wr => ∃ i : Nat, i ≤ n ∧ v17 = .int .i64 i ∧ OwnF w.heap.size v4 (flatI (l.take i)) wr ∧ Below w.heap.size w wr) (fun _ v17 _ => n - (intOf v17).toNat)
    case atStart => exact ⟨0, Nat.zero_le _, rfl, World.ownsRowF_nil w1 _ _ _, B1.out⟩
    case round =>
      obtain ⟨i, hi, rfl, hown, hbr⟩ := hrel
      have HOWN := Lib.hid hown
      have HBR := Lib.hid hbr
      clear hown hbr
      by_cases hlt : i < n
      · have hil : i < l.length := by rw [← HN.out]; exact hlt
        obtain ⟨x, hx2⟩ : ∃ x, l[i] = x := ⟨_, rfl⟩
        have hxm : x ∈ l := by rw [← hx2]; exact List.getElem_mem _
        have hidx := HID.out x hxm
        obtain ⟨o1, o2, o3⟩ := one_parts (HONE.out x hxm)
        have rx : wr.rangeAt b (o + i * 22) (cellsI x) := fun j v hv => (HBR.out.cell (p := ⟨b, o + i * 22 + j, none⟩) hbl).trans (HC.out i hil j v (by rw [hx2]; exact hv))
        have lx : (Tryd.prog.info? 30).map (·.size) = some (cellsI x).length := by rw [cellsI_len x hidx]; exact infoItem
        have HFN := Lib.hid (show flatI (l.take (i + 1)) = flatI (l.take i) ++ (wordI x.mode ++ [32] ++ x.name ++ [0]) ++ x.id by rw [flat_next l i hil, hx2, print_cut x ⟨o2, o3⟩]; simp only [List.append_assoc])
        have fle : (flatI (l.take i)).length ≤ 430 * 500 := by
          have := flat_le (l := l.take i) (fun j hj => HONE.out j (List.mem_of_mem_take hj)) (fun j hj => HID.out j (List.mem_of_mem_take hj))
          rw [List.length_take] at this; omega
        have hcs : (arrI x).size = 22 := arrI_size x hidx
        have hc1 : (arrI x).all (·.oneCell') = true := arrI_one x
        have b1 := below_setRow (B := wr.heap.size) (g := wr.heap.size) ((Below.refl wr.heap.size wr).alloc (Nat.le_refl _) (.cells z 30)) (Nat.le_refl _) (arrI x)
        have h1g := setRow_heap (wr.alloc (.cells z 30)) wr.heap.size z (arrI x) 30 (0, 0) (heap_alloc_new wr _)
        obtain ⟨W1, hW1⟩ : ∃ W1, (wr.alloc (.cells z 30)).setRow wr.heap.size (arrI x) = W1 := ⟨_, rfl⟩
        rw [hW1] at b1 h1g
        have HOW := Lib.hid (ownF_below HOWN.out b1)
        have HBW := Lib.hid (HBR.out.trans (b1.mono HBR.out.size))
        have q0 : W1.cell? ⟨wr.heap.size, 0, none⟩ = some (.int .i64 x.mode) := row_cells h1g 0 _ rfl
        have q1 : W1.cell? ⟨wr.heap.size, 1, none⟩ = some (.string ⟨x.name.toArray⟩) := row_cells h1g 1 _ rfl
        have RX := Lib.hid rx; have LX := Lib.hid lx; have HCS := Lib.hid hcs; have HC1 := Lib.hid hc1; have H1G := Lib.hid h1g
        have hcx : (cellsI x).toArray = arrI x := rfl
        have cW : ∀ u, Calls Tryd.prog 27 #[.int .i64 x.mode] u fun e u' => e = .returned (.string ⟨(wordI x.mode).toArray⟩) ∧ u' = u := fun u => (word_is x.mode u).mono fun e u' h => ⟨h.1, h.2.symm⟩
        have hwl : (wordI x.mode).length ≤ 6 := by rw [word_yes _ ⟨o2, o3⟩]; exact (modeL_len _).2
        have a1 := fun u => add_lists (P := Tryd.prog) u (wordI x.mode) [32] (by simp; omega)
        have a2 := fun u => add_lists (P := Tryd.prog) u (wordI x.mode ++ [32]) x.name (by simp; omega)
        have a3 := fun u => add_lists (P := Tryd.prog) u (wordI x.mode ++ [32] ++ x.name) [0] (by simp; omega)
        obtain ⟨pre, hpre⟩ : ∃ pre, wordI x.mode ++ [32] ++ x.name ++ [0] = pre := ⟨_, rfl⟩
        have hpl : pre.length ≤ 410 := by rw [← hpre]; simp; omega
        rw [hpre] at a3 HFN
        have HPL := Lib.hid hpl
        have FLE := Lib.hid fle
        have HIDX := Lib.hid hidx
        have HPRE := Lib.hid hpre
        generalize (⟨(wordI x.mode ++ [32] ++ x.name).toArray⟩ : ByteArray) = s3 at a2 a3
        generalize (⟨(wordI x.mode ++ [32]).toArray⟩ : ByteArray) = s2 at a1 a2
        generalize (⟨(wordI x.mode).toArray⟩ : ByteArray) = s1 at a1 cW
        generalize (⟨x.name.toArray⟩ : ByteArray) = sn at q1 a2
        obtain ⟨sp, hsp⟩ : ∃ sp : ByteArray, ⟨pre.toArray⟩ = sp := ⟨_, rfl⟩
        rw [hsp] at a3
        have HSP := Lib.hid hsp
        clear rx lx hcs hc1 b1 h1g hxm hx2 hil fle hidx hpre hpl hsp hwl
        go_wp2_with (first
          | (with_reducible refine wpList_load_mid rfl 30 (.tmp 19) rfl b (o + i * 22) rfl (cellsI x) _ RX.out Tryd.underlying30 rfl LX.out ?_; rw [hcx])
          | (with_reducible refine wpList_store_row rfl 30 (.tmp 6) (.tmp 20) rfl wr.heap.size (arrI x) rfl rfl 30 z (heap_alloc_new wr _) (info_arr _ HCS.out) (HZS.out.trans HCS.out.symm) HC1.out ?_)
          | fail)
        rw [hW1]
        clear hW1
        have HOD := Lib.hid (ownF_below HOW.out (Below.refl _ _).drew)
        go_frame
        go_still_tail 9, (by kernel_rfl)
        still_call (cW _)
        repeat still_step
        refine wpStill_nil ?_
        change wpList _ _ _ _ _ W1.drew
        go_wp2_with (first
          | (at_builtin; refine wpList_append_str rfl _ _ rfl w.heap.size _ (flatI (l.take i)) pre _ rfl rfl HSP.out.symm HOD.out (by have := FLE.out; have := HPL.out; omega) HBW.out.size ?_)
          | fail)
        intro v2 w2 ow2 gw2
        have hb2 := HBW.out.drew.grown gw2 HBW.out.size (fun j hj => (HOD.out.lt j hj).1)
        have hne : u4.ownBlock ≠ some wr.heap.size := fun e => Nat.lt_irrefl _ (HOWN.out.lt _ e).2
        have hx2 : w2.heap[wr.heap.size]? = some (.cells (arrI x) 30 (0, 0)) := (gw2.block _ (lt_of_heap H1G.out) (fun e => hne e.symm)).trans H1G.out
        have hci : ∀ j u, (Lib.byteCells x.id)[j]? = some u → w2.cell? ((⟨wr.heap.size, 2, none⟩ : Addr).add j) = some u := fun j u hu => by
          have := row_cells (i := x) hx2 (j + 2) u hu
          rw [show (⟨wr.heap.size, 2, none⟩ : Addr).add j = ⟨wr.heap.size, 2 + j, none⟩ by unfold Addr.add; split <;> simp_all]
          rwa [show 0 + (j + 2) = 2 + j by omega] at this
        have HCI := Lib.hid hci
        have HO2 := Lib.hid ow2
        have HB2 := Lib.hid hb2
        have sl := fun u => slice20_all u wr.heap.size 2
        clear hb2 hne hx2 hci ow2 gw2
        go_wp2_with (first
          | (at_builtin; refine wpList_append_cells rfl _ _ rfl w.heap.size _ (flatI (l.take i) ++ pre) x.id _ 20 20 rfl rfl HIDX.out.symm HCI.out HO2.out (by have := FLE.out; have := HPL.out; have := HIDX.out; rw [List.length_append]; omega) HB2.out.size ?_)
          | fail)
        intro v3 w3 ow3 gw3
        have HB3 := Lib.hid (HB2.out.grown gw3 HB2.out.size (fun j hj => (HO2.out.lt j hj).1))
        have HO3 := Lib.hid ow3
        clear ow3 gw3
        go_wp2
        go_roundw
        case rel => exact ⟨i + 1, by omega, by go_num, by rw [HFN.out, List.append_assoc]; exact HO3.out, HB3.out⟩
        case measure => simp [intOf]; omega
      · have hin : i = l.length := by rw [← HN.out]; omega
        have hfl : l.take i = l := by rw [hin, List.take_length]
        have hown := HOWN.out
        rw [hfl] at hown
        obtain ⟨a', c', hv, hl', hm', hb'⟩ := ownF_shape hown
        have HRD := Lib.hid (ownF_red hown)
        subst hv
        have HFL := Lib.hid (show (flatI l).length ≤ 430 * 500 by
          have := flat_le HONE.out HID.out
          have := HN.out
          omega)
        have hfl2 := HFL.out
        have hp := HP2.out
        obtain ⟨fl, hfl3⟩ : ∃ fl, flatI l = fl := ⟨_, rfl⟩
        rw [hfl3] at hp hfl2 ⊢
        have hrd := HRD.out
        rw [hfl3] at hrd
        have HRE := Lib.hid hrd
        clear hin hfl hown hl' hm' hb' HOWN HRD HFL hrd
        by_cases h64 : 65536 < fl.length
        · rw [if_pos h64] at hp
          subst hp
          have g6 : (fl.length : Int) > 65536 := by omega
          clear h64 hfl3
          go_wp2
          go_ret2
          exact ⟨_, rfl, Red.none _, HBR.out⟩
        · rw [if_neg h64] at hp
          subst hp
          have g6 : ¬ (fl.length : Int) > 65536 := by omega
          clear h64 hfl3
          go_wp2
          go_ret2
          exact ⟨_, rfl, HRE.out, HBR.out⟩

set_option maxHeartbeats 4000000 in
theorem pPrint_is (a : Option Addr) (n c : Nat) (l : List Itm) (w : World) (hn : n = l.length) (hm : n ≤ maxLen) (hit : ItemsAt w a l) (hid : ∀ i ∈ l, i.id.length = 20) (hnm : ∀ i ∈ l, i.name.length ≤ 1000000) (tab : QTab w) :
    Calls Tryd.prog 13 #[.slice a n c] w fun e w' => ∃ v, e = .returned (.tuple #[v, .int .i64 (printT l).2]) ∧ Red w' v (printT l).1 ∧ Below w.heap.size w w' := by
  by_cases h1 : n = 0
  · obtain rfl : l = [] := List.eq_nil_of_length_eq_zero (by omega)
    have hp : printT [] = ([], 0) := by rw [printT_good (.inl rfl)]; rfl
    rw [hp]
    subst h1
    clear hn hm hit hid hnm tab hp
    go_enter Tryd.func13, Tryd.ntmps13
    go_wp2_with fail
    refine wp_loop_rounds 1 ?_
    rw [rounds_succ]
    go_wp2
    go_ret2
    exact ⟨_, rfl, Red.none _, Below.refl _ _⟩
  · obtain ⟨b, o, rfl, hb, hc⟩ := hit (by omega)
    exact pPrint_some b o n c l w hn (by omega) hm hb hc hid hnm tab
end Go.Proofs.YtalmoaofodjehaaDoor

/-
  The law's own helper awake of layer 8.
-/
namespace Go.Proofs.YtalmoaofodjehaaDoor
set_option maxRecDepth 20000
open Go.RowKit
set_option linter.unusedVariables false
set_option linter.unusedSimpArgs false

def idOne : List UInt8 := 1 :: List.replicate 19 0
def aItm : Itm := ⟨1, [97], idOne⟩
theorem aItm_print : printT [aItm] = (flatI [aItm], 0) ∧ (flatI [aItm]).length = 29 := by decide +kernel
theorem aName : nameI [97] = true ∧ nameI [97, 47, 98] = false := by decide +kernel
theorem built_one : Tryd.prog.built 28 [(0, .int .u8 1)] = some (Lib.byteCells idOne).toArray := by kernel_rfl
theorem built_aItm : Tryd.prog.built 30 [(0, .int .i64 1), (1, .string ⟨#[97]⟩), (2, .agg (Lib.byteCells idOne).toArray)] = some (arrI aItm) := by kernel_rfl
theorem aItm_id : aItm.id.length = 20 := rfl
theorem items_new (w : World) (i : Itm) : ItemsAt (w.alloc (.cells (arrI i) 30)) (some ⟨w.heap.size, 0, none⟩) [i] := fun _ => ⟨w.heap.size, 0, rfl, by simp, fun k hk j v hv => by
  obtain rfl : k = 0 := by simpa using hk
  have := row_cells (heap_alloc_new w (.cells (arrI i) 30)) j v hv
  rwa [show 0 + 0 * 22 + j = 0 + j by omega]⟩
set_option maxHeartbeats 4000000 in
theorem awake_is (w : World) (tab : QTab w) : Calls Tryd.prog 10 #[] w fun e w' => e = .returned (.bool true) ∧ Below w.heap.size w w' := by
  obtain ⟨C, hC⟩ : ∃ C, (Lib.byteCells idOne).toArray = C := ⟨_, rfl⟩
  obtain ⟨A, hA⟩ : ∃ A, arrI aItm = A := ⟨_, rfl⟩
  have p1 := built_one
  have p2 := built_aItm
  rw [hC] at p1 p2
  rw [hA] at p2
  have HAS : A.size = 22 := by rw [← hA]; exact arrI_size _ aItm_id
  have b1 := (Below.refl w.heap.size w).alloc (Nat.le_refl _) (.cells A 30)
  have it := items_new w aItm
  rw [hA] at it
  have cp := pPrint_is (some ⟨w.heap.size, 0, none⟩) 1 1 [aItm] _ rfl (by decide) it (fun i hi => by rw [List.mem_singleton.1 hi]; exact aItm_id) (fun i hi => by rw [List.mem_singleton.1 hi]; exact Nat.le_trans (Nat.le_of_ble_eq_true rfl) (Nat.le_of_ble_eq_true (rfl : Nat.ble 1 1000000 = true))) (tab.below b1)
  rw [aItm_print.1] at cp
  have TB := Lib.hid tab; have B1 := Lib.hid b1; have CP := Lib.hid cp
  have n1 : ∀ u, QTab u → Calls Tryd.prog 23 #[.string ⟨#[97]⟩] u fun e u' => e = .returned (.bool true) ∧ Below u.heap.size u u' := fun u t => by
    have := pName_is [97] u (by decide) t
    rwa [aName.1] at this
  have n2 : ∀ u, QTab u → Calls Tryd.prog 23 #[.string ⟨#[97, 47, 98]⟩] u fun e u' => e = .returned (.bool false) ∧ Below u.heap.size u u' := fun u t => by
    have := pName_is [97, 47, 98] u (by decide) t
    rwa [aName.2] at this
  have N1 := Lib.hid n1; have N2 := Lib.hid n2
  obtain rfl : A = #[.int .i64 1, .string ⟨#[97]⟩, .int .u8 1, .int .u8 0, .int .u8 0, .int .u8 0, .int .u8 0, .int .u8 0, .int .u8 0, .int .u8 0, .int .u8 0, .int .u8 0, .int .u8 0, .int .u8 0, .int .u8 0, .int .u8 0, .int .u8 0, .int .u8 0, .int .u8 0, .int .u8 0, .int .u8 0, .int .u8 0] := hA.symm.trans (by kernel_rfl)
  clear it cp b1 hC hA tab n1 n2
  go_enter Tryd.func10, Tryd.ntmps10
  go_wp2_with (first
    | (with_reducible refine wpList_build_as rfl 28 _ rfl C p1 ?_)
    | (with_reducible refine wpList_build_as rfl 30 _ rfl A p2 ?_)
    | (with_reducible refine wpList_build_item rfl (.tmp 5) rfl A HAS rfl ?_)
    | fail)
  refine CP.out.mono ?_
  rintro e w2 ⟨v, rfl, hr, b2⟩
  obtain ⟨xa, xc, hx, _, _, _, _⟩ := hr
  rw [show (flatI [aItm], (0 : Int)).1.length = 29 from aItm_print.2] at hx
  subst hx
  have B2 := Lib.hid (B1.out.trans (b2.mono B1.out.size))
  clear b2
  go_wp2_with fail
  refine (N1.out _ (TB.out.below B2.out)).mono ?_
  rintro e w3 ⟨rfl, b3⟩
  have B3 := Lib.hid (B2.out.trans (b3.mono B2.out.size))
  clear b3
  go_wp2_with fail
  refine (N2.out _ (TB.out.below B3.out)).mono ?_
  rintro e w4 ⟨rfl, b4⟩
  have B4 := Lib.hid (B3.out.trans (b4.mono B3.out.size))
  clear b4
  go_wp2
  go_ret
  exact ⟨rfl, B4.out⟩
end Go.Proofs.YtalmoaofodjehaaDoor
