/-
  Texts that belong together, one behind the other.
-/
import Derived.Test.YtpelehhmdcjikaaGreatDoorFu27
import Derived.Test.YtpelehhmdcjikaaGreatDoorFu03
import Derived.Lib.FrozenHead2
import Derived.OwnWalk
import Derived.StillTailTactics
import Derived.Test.YtpelehhmdcjikaaGreatDoorFu26
import Derived.Great.BuildSlice
import Derived.Great.FillDense
import Derived.Laws.AppendOwn
import Derived.Test.YtpelehhmdcjikaaGreatDoorFu07
import Derived.WalkSmall
import Derived.IntWalk
import Derived.Lib.Hide
import Derived.Test.YtpelehhmdcjikaaGreatDoorFu24
import Derived.Test.YtpelehhmdcjikaaGreatDoorFu25
import Derived.Test.YtpelehhmdcjikaaGreatDoorFu02
import Derived.Deep.MidRow
import Derived.Deep.QuietTactic
import Derived.BigQuiet
/-
  Layer 8, the program: Right whatever comes; Print.
-/
namespace Go.Proofs.YtpelehhmdcjikaaGreatDoor
set_option maxRecDepth 20000
open Go.RowKit
set_option linter.unusedVariables false
set_option linter.unusedSimpArgs false
set_option maxHeartbeats 2000000 in
theorem pRight_is (a : Option Addr) (n c : Nat) (l : List Itm) (w : World) (hn : n = l.length) (hm : n ≤ maxLen) (hit : ItemsAt w a l) (hid : ∀ i ∈ l, i.id.length = 20) (hnm : ∀ i ∈ l, i.name.length ≤ 1000000) (tab : QTab w) :
    Calls Tryz.prog 73 #[.slice a n c] w fun e w' => e = .returned (.bool (rightIt l)) ∧ Below w.heap.size w w' := by
  unfold maxLen at hm
  by_cases h1 : n = 0
  · have hR := right_no_len l (.inl (by omega))
    rw [hR]
    subst h1
    clear hn hm hit hid hnm tab hR
    go_enter Tryz.func73, Tryz.ntmps73
    go_wp2
    go_ret
    exact ⟨rfl, Below.refl _ _⟩
  · by_cases h5 : 500 < n
    · have hR := right_no_len l (.inr (by omega))
      rw [hR]
      have g1 : ((n : Int) == 0) = false := beq_false_of_ne (by omega)
      have g2 : (n : Int) > 500 := by omega
      clear hn hit hid hnm tab hR h1 h5
      go_enter Tryz.func73, Tryz.ntmps73
      go_wp2
      go_ret
      exact ⟨rfl, Below.refl _ _⟩
    · obtain ⟨b, o, rfl, hb, hc⟩ := hit (by omega)
      exact pRight_some b o n c l w hn (by omega) (by omega) hb hc hid hnm tab
end Go.Proofs.YtpelehhmdcjikaaGreatDoor

/-
  Layer 8: rows of items that a call owns.
-/
namespace Go.Proofs.YtpelehhmdcjikaaGreatDoor
set_option maxRecDepth 20000
open Go.RowKit
set_option linter.unusedVariables false
set_option linter.unusedSimpArgs false
/-- A row of items that a call owns. -/
abbrev OwnI (B : Nat) (v : Value) (l : List Itm) (w : World) : Prop := w.ownsRow B 81 22 v l.length (l.flatMap cellsI)
theorem ownI_nil (w : World) (B : Nat) : OwnI B (.slice none 0 0) [] w := World.ownsRow_nil w B _ _
theorem ownI_below {B : Nat} {v : Value} {l : List Itm} {w w' : World} (h : OwnI B v l w) (hb : Below w.heap.size w w') : OwnI B v l w' :=
  World.ownsRow.kept (row := none) h ⟨hb.os, hb.tape, hb.output, hb.size, fun k hk _ => hb.block k hk⟩ (by cases v.ownBlock <;> simp)
theorem flat_at : ∀ (l : List Itm) (hid : ∀ i ∈ l, i.id.length = 20) (k : Nat) (h : k < l.length) (j : Nat) (v : Value), (cellsI l[k])[j]? = some v → (l.flatMap cellsI)[k * 22 + j]? = some v
  | [], _, k, h, _, _, _ => absurd h (Nat.not_lt_zero _)
  | i :: l, hid, 0, h, j, v, hv => by
    have hj : j < (cellsI i).length := (List.getElem?_eq_some_iff.1 hv).1
    rw [List.flatMap_cons, Nat.zero_mul, Nat.zero_add, List.getElem?_append_left hj]
    exact hv
  | i :: l, hid, k + 1, h, j, v, hv => by
    have hl := cellsI_len i (hid i (by simp))
    rw [List.flatMap_cons, List.getElem?_append_right (by omega), hl, show (k + 1) * 22 + j - 22 = k * 22 + j by omega]
    exact flat_at l (fun x hx => hid x (by simp [hx])) k (by simpa using h) j v hv
theorem ownI_items {B : Nat} {v : Value} {l : List Itm} {w : World} (h : OwnI B v l w) (hid : ∀ i ∈ l, i.id.length = 20) : ∃ a c, v = .slice a l.length c ∧ l.length ≤ c ∧ c ≤ maxLen ∧ ItemsAt w a l ∧ (a = none → l.length = 0 ∧ c = 0) := by
  rcases h.2 with ⟨hv, h0⟩ | ⟨g, cap, cur, hv, hB, hg, hc, hm, _, _⟩
  · obtain rfl : l = [] := List.eq_nil_of_length_eq_zero h0
    exact ⟨none, 0, hv, Nat.le_refl _, Nat.zero_le _, ItemsAt.nil w _, fun _ => ⟨rfl, rfl⟩⟩
  · have hcs := World.ownsRow.cells h (g := g) (by rw [hv]; rfl)
    refine ⟨_, cap, hv, hc, hm, fun _ => ⟨g, 0, rfl, (Array.getElem?_eq_some_iff.1 hg).1, fun k hk j u hu => ?_⟩, fun e => by cases e⟩
    have := hcs (k * 22 + j) u (flat_at l hid k hk j u hu)
    rw [show (⟨g, 0, none⟩ : Addr).add (k * 22 + j) = ⟨g, 0 + k * 22 + j, none⟩ by unfold Addr.add; split <;> simp_all] at this
    exact this
theorem info_item : (Tryz.prog.info? 81).map (fun i => (i.zero, i.size)) = some (some (.agg (arrI zItm)), 22) := zItem
theorem info_item_b : (Tryz.prog.info? 81).map (fun i => i.bytes) = some 48 := by kernel_rfl
theorem info_all : ∃ ie, Tryz.prog.info? 81 = some ie ∧ ie.zero = some (.agg (arrI zItm)) ∧ ie.size = 22 ∧ ie.bytes = 48 := by
  have h1 := info_item
  have h2 := info_item_b
  cases hq : Tryz.prog.info? 81 with
  | none => rw [hq] at h1; cases h1
  | some ie =>
    rw [hq] at h1 h2
    simp only [Option.map_some, Option.some.injEq, Prod.mk.injEq] at h1 h2
    exact ⟨ie, rfl, h1.1, h1.2, h2⟩
theorem fill_one (A z : Array Value) (hA : A.size = 22) (hz : z.size = 22) : Instr.fill (fun i => some (i * 22, 22)) z [(0, .agg A)] = some A := by
  have h := Great.fill_whole (s := 22) (by decide) [.agg A] z (fun v hv => by simp at hv; subst hv; exact hA) (by simp [hz])
  simpa [Value.cells] using h
/-- A literal of one item: a block of its own. -/
theorem wpList_build_item {ops : Array Oper} {rest : List Oper} {o : Oper} {a : Act} {w : World} {Q : Exit → Act → World → Prop} (hgd : o.guard = none) (x : Operand) (ho : o.op = .buildSlice 48 1 #[(0, x)])
    (A : Array Value) (hA : A.size = 22) (hx : a.eval x = .agg A)
    (h : wpList Tryz.prog ops Q rest (a.put o.dst (.slice (some ⟨w.heap.size, 0, none⟩) 1 1)) (w.alloc (.cells A 81))) : wpList Tryz.prog ops Q (o :: rest) a w := by
  obtain ⟨ie, hie, hz, hs, _⟩ := info_all
  have hzs : (arrI zItm).size = 22 := arrI_size _ (by simp [zItm, zeroId])
  refine wpList_buildSlice hgd 48 81 1 _ ho A ie (.agg (arrI zItm)) Tryz.underlying48 hie hz (by rw [hs]; decide) (by rw [hs]; decide) ?_ h
  rw [hs]
  have e : (Array.map (fun (p : Nat × Operand) => (p.1, a.eval p.2)) #[(0, x)]).toList = [(0, .agg A)] := by simp [hx]
  rw [show (fun (p : Nat × Operand) => match p with | (i, x) => (i, a.eval x)) = (fun (p : Nat × Operand) => (p.1, a.eval p.2)) from rfl, e]
  exact fill_one A _ hA (by simp)
/-- 'append(l, x)'. -/
theorem wpList_append_item {ops : Array Oper} {rest : List Oper} {o : Oper} {a : Act} {w : World} {Q : Exit → Act → World → Prop} (hgd : o.guard = none) (sl x : Operand)
    (ho : o.op = .call { callee := .builtin .append, args := #[sl, x], argTypes := #[48, 48] }) (B : Nat) (v : Value) (l : List Itm) (i : Itm) (g : Nat) (A : Array Value) (hA : A = arrI i) (hs : a.eval sl = v) (hx : a.eval x = .slice (some ⟨g, 0, none⟩) 1 1)
    (hg : w.heap[g]? = some (.cells A 81 (0, 0))) (hid : i.id.length = 20) (hown : OwnI B v l w) (hb : l.length ≤ 1000000000) (hB : B ≤ w.heap.size)
    (h : ∀ v' w', OwnI B v' (l ++ [i]) w' → w.grownBy w' v.ownBlock → wpList Tryz.prog ops Q rest (a.put o.dst v') w') : wpList Tryz.prog ops Q (o :: rest) a w := by
  obtain ⟨ie, hie, hz, hsz, hby⟩ := info_all
  refine wpList_append_own w hgd sl x 48 ho B 81 ie (.agg (arrI zItm)) 22 48 Tryz.underlying48 hie hz hsz hby (arrI_size _ (by simp [zItm, zeroId])) (by decide) v l.length (l.flatMap cellsI) hs hown ⟨g, 0, none⟩ 1 1 (cellsI i) hx (by rw [cellsI_len i hid]) (fun j u hu => ?_) (fun u hu => (Array.all_eq_true_iff_forall_mem.1 (cellsI_one i)) u (by simpa using hu)) (by unfold maxLen; omega) (by omega) hB ?_
  · have := row_cells (i := i) (by rw [hA] at hg; exact hg) j u hu
    rw [show (⟨g, 0, none⟩ : Addr).add j = ⟨g, 0 + j, none⟩ by unfold Addr.add; split <;> simp_all]
    exact this
  · intro v' w' ho hgr _
    refine h v' w' ?_ hgr
    unfold OwnI
    rw [List.length_append, List.flatMap_append]
    simpa using ho
end Go.Proofs.YtpelehhmdcjikaaGreatDoor

/-
  Layer 8, the program: Parse.
-/
namespace Go.Proofs.YtpelehhmdcjikaaGreatDoor
set_option maxRecDepth 20000
open Go.RowKit
set_option linter.unusedVariables false
set_option linter.unusedSimpArgs false
/-- Items that are read alone. -/
def RedI (w : World) (v : Value) (l : List Itm) : Prop := ∃ a c, v = .slice a l.length c ∧ ItemsAt w a l ∧ (a = none → l.length = 0 ∧ c = 0) ∧ l.length ≤ c ∧ c ≤ maxLen
theorem RedI.none (w : World) : RedI w (.slice none 0 0) [] := ⟨.none, 0, rfl, ItemsAt.nil w _, fun _ => ⟨rfl, rfl⟩, Nat.le_refl _, Nat.zero_le _⟩
theorem RedI.keep {w w' : World} {v : Value} {l : List Itm} (h : RedI w v l) (b : Below w.heap.size w w') : RedI w' v l := by
  obtain ⟨a, c, e, hi, r⟩ := h
  exact ⟨a, c, e, hi.keep b, r⟩
def strLen : Value → Nat
  | .string s => s.size
  | _ => 0
theorem strLen_string (s : ByteArray) : strLen (.string s) = s.size := rfl
theorem flat_count (l : List Itm) : l.length ≤ (flatI l).length := by
  induction l with
  | nil => exact Nat.zero_le _
  | cons i l ih => rw [flat_cons, List.length_append, List.length_cons]; have := print_pos i; omega
theorem name_le {l : List Itm} {i : Itm} (h : i ∈ l) : i.name.length ≤ (flatI l).length := by
  induction l with
  | nil => cases h
  | cons j l ih =>
    rw [flat_cons, List.length_append]
    rcases List.mem_cons.1 h with rfl | h
    · rw [print_length]; omega
    · have := ih h; omega
theorem item_take {r r2 : List UInt8} {i : Itm} (h : takeI r = some (i, r2)) : itemR r = .tuple #[.agg (arrI i), .int .i64 (((printIt i).length : Nat) : Int), .bool true] ∧ r = printIt i ++ r2 ∧ fine i ∧ r.drop (printIt i).length = r2 := by
  obtain ⟨h1, h2⟩ := take_back h
  refine ⟨?_, h2, h1, by rw [h2, List.drop_left]⟩
  unfold itemR
  rw [h]
  simp only
  rw [show r.length - r2.length = (printIt i).length by rw [h2, List.length_append]; omega]
theorem item_stop {r : List UInt8} (h : takeI r = none) : itemR r = .tuple #[.agg (arrI zItm), .int .i64 0, .bool false] := by unfold itemR; rw [h]
set_option maxHeartbeats 16000000 in
theorem pParse_is (a : Option Addr) (n c : Nat) (bs : List UInt8) (w : World) (hn : n = bs.length) (hb : BAt w a bs) (tab : QTab w) :
    Calls Tryz.prog 49 #[.slice a n c] w fun e w' => ∃ v p err, e = .returned (.tuple #[v, .int .i64 err]) ∧ RedI w' v p ∧ ParsedT bs p err ∧ Below w.heap.size w w' := by
  by_cases h6 : 65536 < n
  · have g6 : (n : Int) > 65536 := by omega
    have HP := Lib.hid (show ParsedT bs [] 5 from .inl ⟨by omega, rfl, rfl⟩)
    clear hn hb tab h6
    go_enter Tryz.func49, Tryz.ntmps49
    go_wp2
    go_ret2
    exact ⟨_, _, _, rfl, RedI.none _, HP.out, Below.refl _ _⟩
  · have g6 : ¬ (n : Int) > 65536 := by omega
    have cv := hb.conv (P := Tryz.prog) c 32 5 Tryz.underlying32 Tryz.underlying5 9 Tryz.underlying9
    rw [← hn] at cv
    have hb6 : bs.length ≤ 65536 := by omega
    have HB6 := Lib.hid hb6
    have TB := Lib.hid tab
    obtain ⟨z, hz, hzs, hzv, hzb, hz1⟩ := zItem_any
    have HZS := Lib.hid hzs; have HZ := Lib.hid hz
    clear hn hb tab h6 hzs hzb hz1 hz
    go_enter Tryz.func49, Tryz.ntmps49
    go_wp2_with fail
    go_loopw [4, 5] (fun v4 v5 wr => ∃ (p : List Itm) (r : List UInt8), v5 = .string ⟨r.toArray⟩ ∧ flatI p ++ r = bs ∧ (∀ i ∈ p, fine i) ∧ OwnI w.heap.size v4 p wr ∧ Below w.heap.size w wr) (fun _ v5 _ => strLen v5)
    case atStart => exact ⟨[], bs, rfl, rfl, (fun i hi => by cases hi), ownI_nil w _, Below.refl _ _⟩
    case round =>
      obtain ⟨p, r, rfl, hfl, hfi, hown, hbr⟩ := hrel
      have HFL := Lib.hid hfl; have HFI := Lib.hid hfi; have HOWN := Lib.hid hown; have HBR := Lib.hid hbr
      have hlen : (flatI p).length + r.length ≤ 65536 := by rw [← List.length_append, hfl]; exact hb6
      have hpc := flat_count p
      clear hfl hfi hown hbr
      have hem := empty_list r
      by_cases hr : r = []
      · subst hr
        have HFL2 := Lib.hid (show flatI p = bs by rw [← HFL.out, List.append_nil])
        obtain ⟨a', c', hv, hl1, hl2, hit, hno⟩ := ownI_items HOWN.out (fun i hi => (HFI.out i hi).2.2)
        subst hv
        have HRI := Lib.hid (show RedI wr (.slice a' p.length c') p from ⟨a', c', rfl, hit, hno, hl1, hl2⟩)
        have cR := pRight_is a' p.length c' p wr rfl (by unfold maxLen; omega) hit (fun i hi => (HFI.out i hi).2.2) (fun i hi => by have := name_le hi; omega) (TB.out.below HBR.out)
        rw [decide_eq_true (by rfl)] at hem
        obtain ⟨s0, hs0⟩ : ∃ s0 : ByteArray, ⟨([] : List UInt8).toArray⟩ = s0 := ⟨_, rfl⟩
        rw [hs0] at hem ⊢
        have HPC := Lib.hid hpc
        obtain ⟨m, hm⟩ : ∃ m, p.length = m := ⟨_, rfl⟩
        rw [hm] at cR hpc
        have HM := Lib.hid hm
        clear hs0 hit hno hl1 hl2 HOWN hlen
        by_cases hp0 : m = 0
        · have g0 : ¬ (m : Int) > 0 := by omega
          have HPT := Lib.hid (show ParsedT bs p 0 from .inr (.inl ⟨HB6.out, rfl, HFL2.out, HFI.out, .inl (List.eq_nil_of_length_eq_zero (by rw [HM.out]; exact hp0))⟩))
          clear hp0 cR
          go_wp2
          go_ret2
          refine ⟨_, p, 0, rfl, ?_, HPT.out, HBR.out⟩
          rw [← HM.out]
          exact HRI.out
        · have g0 : (m : Int) > 0 := by omega
          cases hr : rightIt p with
          | true =>
            rw [hr] at cR
            have HPT := Lib.hid (show ParsedT bs p 0 from .inr (.inl ⟨HB6.out, rfl, HFL2.out, HFI.out, .inr hr⟩))
            clear hp0 hr
            go_wp2_with fail
            refine cR.mono ?_
            rintro e w1 ⟨rfl, b1⟩
            have HR1 := Lib.hid (HRI.out.keep b1)
            have HB1 := Lib.hid (HBR.out.trans (b1.mono HBR.out.size))
            clear b1
            go_wp2
            go_ret2
            refine ⟨_, p, 0, rfl, ?_, HPT.out, HB1.out⟩
            rw [← HM.out]
            exact HR1.out
          | false =>
            rw [hr] at cR
            have HPT := Lib.hid (show ParsedT bs [] 4 from .inr (.inr ⟨HB6.out, rfl, rfl, fun q hq hq2 e => by
              have := flat_inj q p hq HFI.out (by rw [e, HFL2.out])
              subst this
              rcases hq2 with h | h
              · subst h; exact hp0 (by rw [← HM.out]; rfl)
              · rw [hr] at h; cases h⟩))
            clear hp0 hr
            go_wp2_with fail
            refine cR.mono ?_
            rintro e w1 ⟨rfl, b1⟩
            have HB1 := Lib.hid (HBR.out.trans (b1.mono HBR.out.size))
            clear b1
            go_wp2
            go_ret2
            exact ⟨_, [], 4, rfl, RedI.none _, HPT.out, HB1.out⟩
      · have hne : r.length ≠ 0 := fun h => hr (List.eq_nil_of_length_eq_zero h)
        rw [decide_eq_false hne] at hem
        have cT := fun u => takeItem_is r u (by omega)
        have MS := Lib.hid (show strLen (.string ⟨r.toArray⟩) = r.length by rw [strLen_string, size_toArray])
        have hsz := size_toArray r
        cases ht : takeI r with
        | none =>
          rw [item_stop ht] at cT
          rw [show arrI zItm = z from HZ.out.symm] at cT
          have HPT := Lib.hid (show ParsedT bs [] 4 from .inr (.inr ⟨HB6.out, rfl, rfl, fun q hq hq2 e => take_stop HFI.out hr ht q hq (by rw [HFL.out]; exact e)⟩))
          generalize (⟨r.toArray⟩ : ByteArray) = sr at *
          clear hr ht hne hlen hpc
          have HZ1 := Lib.hid (show z.all (·.oneCell') = true by rw [HZ.out]; exact arrI_one _)
          go_wp2_with fail
          refine (cT _).mono ?_
          rintro e w1 ⟨rfl, b1⟩
          have b2 := below_setRow (B := w1.heap.size) (g := w1.heap.size) ((Below.refl w1.heap.size w1).alloc (Nat.le_refl _) (.cells z 81)) (Nat.le_refl _) z
          have b3 := HBR.out.trans (b1.mono HBR.out.size)
          have HB3 := Lib.hid (b3.trans (b2.mono b3.size))
          clear b1 b2 b3
          go_wp2_with (first
            | (with_reducible refine wpList_store_row rfl 81 (.tmp 6) (.tmp 19) rfl w1.heap.size z rfl rfl 81 z (heap_alloc_new w1 _) (info_arr _ HZS.out) rfl HZ1.out ?_)
            | fail)
          go_ret2
          exact ⟨_, [], 4, rfl, RedI.none _, HPT.out, HB3.out⟩
        | some q =>
          obtain ⟨i, r2⟩ := q
          obtain ⟨t1, t2, t3, t4⟩ := item_take ht
          rw [t1] at cT
          have HNF := Lib.hid (show flatI (p ++ [i]) ++ r2 = bs by rw [flat_append, ← HFL.out, t2]; simp [flatI])
          have HNI := Lib.hid (show ∀ j ∈ p ++ [i], fine j from fun j hj => by
            rcases List.mem_append.1 hj with hj | hj
            · exact HFI.out j hj
            · rw [List.mem_singleton.1 hj]; exact t3)
          have HIDI := Lib.hid t3.2.2
          have hpp := print_pos i
          have hrl : r.length = (printIt i).length + r2.length := by rw [t2, List.length_append]
          have x0 : (⟨r.toArray⟩ : ByteArray).extract (printIt i).length r.length = ⟨r2.toArray⟩ := by
            rw [ext_list, t4, List.take_of_length_le (by omega)]
          have ms2 : strLen (.string ⟨r2.toArray⟩) = r2.length := by rw [strLen_string, size_toArray]
          obtain ⟨A, hA⟩ : ∃ A, arrI i = A := ⟨_, rfl⟩
          rw [hA] at cT
          have HA := Lib.hid hA
          have HAS := Lib.hid (show A.size = 22 by rw [← hA]; exact arrI_size i t3.2.2)
          have HA1 := Lib.hid (show A.all (·.oneCell') = true by rw [← hA]; exact arrI_one i)
          obtain ⟨k, hk⟩ : ∃ k, (printIt i).length = k := ⟨_, rfl⟩
          rw [hk] at cT hpp hrl x0
          generalize (⟨r.toArray⟩ : ByteArray) = sr at *
          obtain ⟨sr2, hsr2⟩ : ∃ sr2 : ByteArray, ⟨r2.toArray⟩ = sr2 := ⟨_, rfl⟩
          rw [hsr2] at x0 ms2
          have MS2 := Lib.hid ms2; have HS2 := Lib.hid hsr2
          clear hsr2
          have j1 : (k : Int) ≤ (r.length : Int) := by omega
          have HPC := Lib.hid hpc; have HRL := Lib.hid hrl
          clear hr ht hne hA hk t1 t2 t3 t4 ms2 hpc hrl
          go_wp2_with fail
          refine (cT _).mono ?_
          rintro e w1 ⟨rfl, b1⟩
          have b2 := below_setRow (B := w1.heap.size) (g := w1.heap.size) ((Below.refl w1.heap.size w1).alloc (Nat.le_refl _) (.cells z 81)) (Nat.le_refl _) A
          have h2 := setRow_heap (w1.alloc (.cells z 81)) w1.heap.size z A 81 (0, 0) (heap_alloc_new w1 _)
          have b3 := HBR.out.trans (b1.mono HBR.out.size)
          have o1 := ownI_below HOWN.out b1
          have o2 := ownI_below o1 b2
          have b4 := b3.trans (b2.mono b3.size)
          obtain ⟨W2, hW2⟩ : ∃ W2, (w1.alloc (.cells z 81)).setRow w1.heap.size A = W2 := ⟨_, rfl⟩
          rw [hW2] at h2 o2 b4
          have b5 := (Below.refl W2.heap.size W2).alloc (Nat.le_refl _) (.cells A 81)
          have H2 := Lib.hid h2
          have HO5 := Lib.hid (ownI_below o2 b5)
          have HB5 := Lib.hid (b4.trans (b5.mono b4.size))
          clear b1 b2 b3 b4 b5 o1 o2 h2
          go_wp2_with (first
            | (with_reducible refine wpList_store_row rfl 81 (.tmp 6) (.tmp 19) rfl w1.heap.size A rfl rfl 81 z (heap_alloc_new w1 _) (info_arr _ HAS.out) (HZS.out.trans HAS.out.symm) HA1.out ?_)
            | (with_reducible refine wpList_load_row rfl 81 _ rfl w1.heap.size rfl 81 A (0, 0) _ H2.out Tryz.underlying81 rfl (info_arr A HAS.out) ?_)
            | (with_reducible refine wpList_build_item rfl (.tmp 25) rfl A HAS.out rfl ?_)
            | (at_builtin; refine wpList_append_item rfl _ _ rfl w.heap.size _ p i W2.heap.size A HA.out.symm rfl rfl (heap_alloc_new W2 _) HIDI.out HO5.out (by have := HPC.out; omega) HB5.out.size ?_)
            | fail)
          intro v6 w6 o6 g6'
          have HO6 := Lib.hid o6
          have HB6' := Lib.hid (HB5.out.grown g6' HB5.out.size (fun j hj => (HO5.out.lt j hj).1))
          clear o6 g6' hW2
          go_wp2
          go_roundw
          case rel => exact ⟨p ++ [i], r2, by rw [HS2.out], HNF.out, HNI.out, HO6.out, HB6'.out⟩
          case measure => rw [MS.out, MS2.out]; have := HRL.out; omega
end Go.Proofs.YtpelehhmdcjikaaGreatDoor

/-
  Layer 8: what Parse of the document's answers leans on: an item's cells written one by one; where an item lies in bytes.
-/
namespace Go.Proofs.YtpelehhmdcjikaaGreatDoor
set_option maxRecDepth 20000
open Go.RowKit
set_option linter.unusedVariables false
set_option linter.unusedSimpArgs false
theorem arr_mode (a m : Int) (s d : List UInt8) : (arrI ⟨a, s, d⟩).setIfInBounds 0 (.int .i64 m) = arrI ⟨m, s, d⟩ := by
  unfold arrI cellsI
  rw [List.setIfInBounds_toArray]
  rfl
theorem arr_name (a : Int) (s t d : List UInt8) : (arrI ⟨a, s, d⟩).setIfInBounds 1 (.string ⟨t.toArray⟩) = arrI ⟨a, t, d⟩ := by
  unfold arrI cellsI
  rw [List.setIfInBounds_toArray]
  rfl
/-- The first bytes of an id, the others zero. -/
def headId (y : List UInt8) (i : Nat) : List UInt8 := y.take i ++ List.replicate (20 - i) 0
theorem headId_next (y : List UInt8) (i : Nat) (hi : i < 20) (hy : 20 ≤ y.length) : (headId y i).set i (y.getD i 0) = headId y (i + 1) := by
  unfold headId
  rw [List.set_append_right _ _ (by rw [List.length_take]; omega), List.length_take, show i - min i y.length = 0 by omega]
  obtain ⟨k, hk⟩ : ∃ k, 20 - i = k + 1 := ⟨19 - i, by omega⟩
  have e : y.getD i 0 = y[i]'(by omega) := by rw [List.getD_eq_getElem?_getD, List.getElem?_eq_getElem (show i < y.length by omega)]; rfl
  rw [hk, show 20 - (i + 1) = k by omega, List.replicate_succ, List.set_cons_zero, List.take_add_one, List.getElem?_eq_getElem (show i < y.length by omega), e, List.append_assoc]
  rfl
theorem arr_id (a : Int) (s y : List UInt8) (i : Nat) (hi : i < 20) (hy : 20 ≤ y.length) : (arrI ⟨a, s, headId y i⟩).setIfInBounds (2 + i) (.int .u8 (y.getD i 0).toNat) = arrI ⟨a, s, headId y (i + 1)⟩ := by
  have e : (Lib.byteCells (headId y i)).set i (.int .u8 (y.getD i 0).toNat) = Lib.byteCells (headId y (i + 1)) := by
    rw [← headId_next y i hi hy]
    unfold Lib.byteCells
    rw [List.map_set]
  unfold arrI cellsI
  rw [List.setIfInBounds_toArray, ← e, show 2 + i = (i + 1) + 1 by omega, List.set_cons_succ, List.set_cons_succ]
end Go.Proofs.YtpelehhmdcjikaaGreatDoor

/-
  Layer 8: Parse of the document's answers.
-/
namespace Go.Proofs.YtpelehhmdcjikaaGreatDoor
set_option maxRecDepth 20000
open Go.RowKit
set_option linter.unusedVariables false
set_option linter.unusedSimpArgs false
/-- An item in a block of its own. -/
abbrev GI (w : World) (g : Nat) (i : Itm) : Prop := w.heap[g]? = some (.cells (arrI i) 81 (0, 0))
theorem GI.mode {w : World} {g : Nat} {a m : Int} {s d : List UInt8} (h : GI w g ⟨a, s, d⟩) : GI (w.setCell ⟨g, 0, none⟩ (.int .i64 m)) g ⟨m, s, d⟩ := by
  have := heap_set h 0 (.int .i64 m)
  rwa [arr_mode] at this
theorem GI.name {w : World} {g : Nat} {a : Int} {s t d : List UInt8} (h : GI w g ⟨a, s, d⟩) : GI (w.setCell ⟨g, 1, none⟩ (.string ⟨t.toArray⟩)) g ⟨a, t, d⟩ := by
  have := heap_set h 1 (.string ⟨t.toArray⟩)
  rwa [arr_name] at this
theorem GI.byte {w : World} {g : Nat} {a : Int} {s y : List UInt8} {i : Nat} (hi : i < 20) (hy : 20 ≤ y.length) (h : GI w g ⟨a, s, headId y i⟩) : GI (w.setCell ⟨g, 2 + i, none⟩ (.int .u8 (y.getD i 0).toNat)) g ⟨a, s, headId y (i + 1)⟩ := by
  have := heap_set h (2 + i) (.int .u8 (y.getD i 0).toNat)
  rwa [arr_id a s y i hi hy] at this
end Go.Proofs.YtpelehhmdcjikaaGreatDoor
