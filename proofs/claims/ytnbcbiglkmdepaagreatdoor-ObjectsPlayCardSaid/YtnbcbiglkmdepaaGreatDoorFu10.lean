/-
  Texts that belong together, one behind the other.
-/
import Derived.Test.YtnbcbiglkmdepaaGreatDoorFu03
import Derived.Lib.FrozenHead2
import Derived.OwnWalk
import Derived.Test.YtnbcbiglkmdepaaGreatDoorFu09
import Derived.StillTailTactics
import Derived.Test.YtnbcbiglkmdepaaGreatDoorFu07
import Derived.Great.BuildSlice
import Derived.Great.FillDense
import Derived.Laws.AppendOwn
import Derived.Test.YtnbcbiglkmdepaaGreatDoorFu08
import Derived.Test.YtnbcbiglkmdepaaGreatDoorFu05
import Derived.WalkSmall
import Derived.IntWalk
import Derived.Lib.Hide
import Derived.Test.YtnbcbiglkmdepaaGreatDoorFu01
import Derived.Deep.MidRow
set_option maxHeartbeats 64000000
set_option linter.unusedVariables false
set_option linter.unusedSimpArgs false
open Go.Lib renaming hid → hyd
namespace Go.Proofs.YtnbcbiglkmdepaaGreatDoor
open Go.RowKit
theorem info_byte : (Tryz.prog.info? 5).map (fun i => (i.zero, i.size, i.bytes)) = some (some (.int .u8 0), 1, 1) := by kernel_rfl
theorem elem_b : Tryz.prog.underlying 32 = some (.slice (Tryz.prog.elem 32)) := by kernel_rfl
theorem bs_tail (a : Option Addr) (n c k : Nat) (l : List UInt8) (hn : n = l.length) (hk : k ≤ n) (hc : n ≤ c) :
  ∃ a', (∀ (x : Int) (u : World), x = k → (Instr.sliceAt 32 (.slice a n c) (some (.int .i64 x)) none none).run Tryz.prog u = .ok (.slice a' (n - k) (c - k)) u) ∧
   ∀ w, BAt w a l → BAt w a' (l.drop k) := by
 obtain ⟨i, hi, hz, hs, hby⟩ := info_parts info_byte
 have e : Tryz.prog.elem 32 = 5 := by kernel_rfl
 refine ⟨if c = k then a else a.map (·.add (k * 1)), fun x u hx => ?_, fun w hb => ?_⟩
 ·subst hx
  rw [run_sliceAt_slice (h := elem_b), run_slice_l (ht := elem_b) (h0 := by omega) (h1 := by omega)]; rw [e]
  simp [sizeOf, typeInfo, hi, hs, Result.andThen, sliced]
 ·subst hn
  by_cases hck : c = k
  ·rw [if_pos hck]
   intro hp; rw [List.length_drop] at hp; omega
  ·rw [if_neg hck]
   intro hp; rw [List.length_drop] at hp; obtain ⟨b, o, rfl, h1, h2⟩ := hb (by omega); refine ⟨b, o + k, ?_, h1, fun j hj => ?_⟩
   ·simp [Addr.add]
   ·rw [List.length_drop] at hj
    rw [show o + k + j = o + (k + j) by omega, h2 (k + j) (by omega), List.getElem_drop]
set_option maxRecDepth 20000
theorem pRight_is (a : Option Addr) (n c : Nat) (l : List Itm) (w : World) (hn : n = l.length) (hm : n ≤ maxLen) (hit : ItemsAt w a l) (hid : ∀ i ∈ l, i.id.length = 20) (hnm : ∀ i ∈ l, i.name.length ≤ 1000000) (tab : QTab w) :
  Calls Tryz.prog 81 #[.slice a n c] w fun e w' => e = .returned (.bool (rightIt l)) ∧ Below w.heap.size w w' := by
 unfold maxLen at hm
 by_cases h1 : n = 0
 ·have hR := right_no_len l (.inl (by omega))
  rw [hR]; subst h1; clear hn hm hit hid hnm tab hR
  go_enter Tryz.func81, Tryz.ntmps81
  go_wp2; go_ret; exact ⟨rfl, Below.refl _ _⟩
 ·by_cases h5 : 500 < n
  ·have hR := right_no_len l (.inr (by omega))
   rw [hR]; have g1 : ((n : Int) == 0) = false := beq_false_of_ne (by omega)
   have g2 : (n : Int) > 500 := by omega
   clear hn hit hid hnm tab hR h1 h5
   go_enter Tryz.func81, Tryz.ntmps81
   go_wp2; go_ret; exact ⟨rfl, Below.refl _ _⟩
  ·obtain ⟨b, o, rfl, hb, hc⟩ := hit (by omega)
   exact pRight_some b o n c l w hn (by omega) (by omega) hb hc hid hnm tab
abbrev OwnI (B : Nat) (v : Value) (l : List Itm) (w : World) : Prop := w.ownsRow B 77 22 v l.length (l.flatMap cellsI)
theorem ownI_nil (w : World) (B : Nat) : OwnI B (.slice none 0 0) [] w := World.ownsRow_nil w B _ _
theorem ownI_below {B : Nat} {v : Value} {l : List Itm} {w w' : World} (h : OwnI B v l w) (hb : Below w.heap.size w w') : OwnI B v l w' :=
 World.ownsRow.kept (row := none) h ⟨hb.os, hb.tape, hb.output, hb.size, fun k hk _ => hb.block k hk⟩ (by cases v.ownBlock <;> simp)
theorem flat_at : ∀ (l : List Itm) (hid : ∀ i ∈ l, i.id.length = 20) (k : Nat) (h : k < l.length) (j : Nat) (v : Value), (cellsI l[k])[j]? = some v → (l.flatMap cellsI)[k * 22 + j]? = some v
 | [], _, k, h, _, _, _ => absurd h (Nat.not_lt_zero _)
 | i :: l, hid, 0, h, j, v, hv => by
  have hj : j < (cellsI i).length := (List.getElem?_eq_some_iff.1 hv).1; rw [List.flatMap_cons, Nat.zero_mul, Nat.zero_add, List.getElem?_append_left hj]; exact hv
 | i :: l, hid, k + 1, h, j, v, hv => by
  have hl := cellsI_len i (hid i (by simp)); rw [List.flatMap_cons, List.getElem?_append_right (by omega), hl, show (k + 1) * 22 + j - 22 = k * 22 + j by omega]; exact flat_at l (fun x hx => hid x (by simp [hx])) k (by simpa using h) j v hv
theorem ownI_items {B : Nat} {v : Value} {l : List Itm} {w : World} (h : OwnI B v l w) (hid : ∀ i ∈ l, i.id.length = 20) : ∃ a c, v = .slice a l.length c ∧ l.length ≤ c ∧ c ≤ maxLen ∧ ItemsAt w a l ∧ (a = none → l.length = 0 ∧ c = 0) := by
 rcases h.2 with ⟨hv, h0⟩ | ⟨g, cap, cur, hv, hB, hg, hc, hm, _, _⟩
 ·obtain rfl : l = [] := List.eq_nil_of_length_eq_zero h0
  exact ⟨none, 0, hv, Nat.le_refl _, Nat.zero_le _, ItemsAt.nil w _, fun _ => ⟨rfl, rfl⟩⟩
 ·have hcs := World.ownsRow.cells h (g := g) (by rw [hv]; rfl)
  refine ⟨_, cap, hv, hc, hm, fun _ => ⟨g, 0, rfl, (Array.getElem?_eq_some_iff.1 hg).1, fun k hk j u hu => ?_⟩, fun e => by cases e⟩; have := hcs (k * 22 + j) u (flat_at l hid k hk j u hu); rw [show (⟨g, 0, none⟩ : Addr).add (k * 22 + j) = ⟨g, 0 + k * 22 + j, none⟩ by unfold Addr.add; split <;> simp_all] at this; exact this
theorem info_item : (Tryz.prog.info? 77).map (fun i => (i.zero, i.size)) = some (some (.agg (arrI zItm)), 22) := zItem
theorem info_item_b : (Tryz.prog.info? 77).map (fun i => i.bytes) = some 48 := by kernel_rfl
theorem info_all : ∃ ie, Tryz.prog.info? 77 = some ie ∧ ie.zero = some (.agg (arrI zItm)) ∧ ie.size = 22 ∧ ie.bytes = 48 := by
 have h1 := info_item; have h2 := info_item_b
 cases hq : Tryz.prog.info? 77 with
 | none => rw [hq] at h1; cases h1
 | some ie =>
  rw [hq] at h1 h2; simp only [Option.map_some, Option.some.injEq, Prod.mk.injEq] at h1 h2; exact ⟨ie, rfl, h1.1, h1.2, h2⟩
theorem fill_one (A z : Array Value) (hA : A.size = 22) (hz : z.size = 22) : Instr.fill (fun i => some (i * 22, 22)) z [(0, .agg A)] = some A := by
 have h := Great.fill_whole (s := 22) (by decide) [.agg A] z (fun v hv => by simp at hv; subst hv; exact hA) (by simp [hz])
 simpa [Value.cells] using h
theorem wpList_build_item {ops : Array Oper} {rest : List Oper} {o : Oper} {a : Act} {w : World} {Q : Exit → Act → World → Prop} (hgd : o.guard = none) (x : Operand) (ho : o.op = .buildSlice 66 1 #[(0, x)])
  (A : Array Value) (hA : A.size = 22) (hx : a.eval x = .agg A)
  (h : wpList Tryz.prog ops Q rest (a.put o.dst (.slice (some ⟨w.heap.size, 0, none⟩) 1 1)) (w.alloc (.cells A 77))) : wpList Tryz.prog ops Q (o :: rest) a w := by
 obtain ⟨ie, hie, hz, hs, _⟩ := info_all; have hzs : (arrI zItm).size = 22 := arrI_size _ (by simp [zItm, zeroId]); refine wpList_buildSlice hgd 66 77 1 _ ho A ie (.agg (arrI zItm)) Tryz.underlying66 hie hz (by rw [hs]; decide) (by rw [hs]; decide) ?_ h; rw [hs]
 have e : (Array.map (fun (p : Nat × Operand) => (p.1, a.eval p.2)) #[(0, x)]).toList = [(0, .agg A)] := by simp [hx]
 rw [show (fun (p : Nat × Operand) => match p with | (i, x) => (i, a.eval x)) = (fun (p : Nat × Operand) => (p.1, a.eval p.2)) from rfl, e]; exact fill_one A _ hA (by simp)
theorem wpList_append_item {ops : Array Oper} {rest : List Oper} {o : Oper} {a : Act} {w : World} {Q : Exit → Act → World → Prop} (hgd : o.guard = none) (sl x : Operand)
  (ho : o.op = .call { callee := .builtin .append, args := #[sl, x], argTypes := #[66, 66] }) (B : Nat) (v : Value) (l : List Itm) (i : Itm) (g : Nat) (A : Array Value) (hA : A = arrI i) (hs : a.eval sl = v) (hx : a.eval x = .slice (some ⟨g, 0, none⟩) 1 1)
  (hg : w.heap[g]? = some (.cells A 77 (0, 0))) (hid : i.id.length = 20) (hown : OwnI B v l w) (hb : l.length ≤ 1000000000) (hB : B ≤ w.heap.size)
  (h : ∀ v' w', OwnI B v' (l ++ [i]) w' → w.grownBy w' v.ownBlock → wpList Tryz.prog ops Q rest (a.put o.dst v') w') : wpList Tryz.prog ops Q (o :: rest) a w := by
 obtain ⟨ie, hie, hz, hsz, hby⟩ := info_all; refine wpList_append_own w hgd sl x 66 ho B 77 ie (.agg (arrI zItm)) 22 48 Tryz.underlying66 hie hz hsz hby (arrI_size _ (by simp [zItm, zeroId])) (by decide) v l.length (l.flatMap cellsI) hs hown ⟨g, 0, none⟩ 1 1 (cellsI i) hx (by rw [cellsI_len i hid]) (fun j u hu => ?_) (fun u hu => (Array.all_eq_true_iff_forall_mem.1 (cellsI_one i)) u (by simpa using hu)) (by unfold maxLen; omega) (by omega) hB ?_
 ·have := row_cells (i := i) (by rw [hA] at hg; exact hg) j u hu
  rw [show (⟨g, 0, none⟩ : Addr).add j = ⟨g, 0 + j, none⟩ by unfold Addr.add; split <;> simp_all]; exact this
 ·intro v' w' ho hgr _
  refine h v' w' ?_ hgr; unfold OwnI; rw [List.length_append, List.flatMap_append]
  simpa using ho
def RedI (w : World) (v : Value) (l : List Itm) : Prop := ∃ a c, v = .slice a l.length c ∧ ItemsAt w a l ∧ (a = none → l.length = 0 ∧ c = 0) ∧ l.length ≤ c ∧ c ≤ maxLen
theorem RedI.none (w : World) : RedI w (.slice none 0 0) [] := ⟨.none, 0, rfl, ItemsAt.nil w _, fun _ => ⟨rfl, rfl⟩, Nat.le_refl _, Nat.zero_le _⟩
theorem RedI.keep {w w' : World} {v : Value} {l : List Itm} (h : RedI w v l) (b : Below w.heap.size w w') : RedI w' v l := by
 obtain ⟨a, c, e, hi, r⟩ := h; exact ⟨a, c, e, hi.keep b, r⟩
def strLen : Value → Nat
 | .string s => s.size
 | _ => 0
theorem strLen_string (s : ByteArray) : strLen (.string s) = s.size := rfl
theorem flat_count (l : List Itm) : l.length ≤ (flatI l).length := by
 induction l with
 | nil => exact Nat.zero_le _
 | cons i l ih => rw [flat_cons, List.length_append, List.length_cons]; have := print_pos i; omega
theorem name_le {l : List Itm} {i : Itm} (h : i ∈ l) : i.name.length ≤ (flatI l).length := by
 induction l with
 | nil => cases h
 | cons j l ih =>
  rw [flat_cons, List.length_append]
  rcases List.mem_cons.1 h with rfl | h
  ·rw [print_length]; omega
  ·have := ih h; omega
theorem item_take {r r2 : List UInt8} {i : Itm} (h : takeI r = some (i, r2)) : itemR r = .tuple #[.agg (arrI i), .int .i64 (((printIt i).length : Nat) : Int), .bool true] ∧ r = printIt i ++ r2 ∧ fine i ∧ r.drop (printIt i).length = r2 := by
 obtain ⟨h1, h2⟩ := take_back h; refine ⟨?_, h2, h1, by rw [h2, List.drop_left]⟩; unfold itemR; rw [h]; simp only; rw [show r.length - r2.length = (printIt i).length by rw [h2, List.length_append]; omega]
theorem item_stop {r : List UInt8} (h : takeI r = none) : itemR r = .tuple #[.agg (arrI zItm), .int .i64 0, .bool false] := by unfold itemR; rw [h]
theorem pParse_is (a : Option Addr) (n c : Nat) (bs : List UInt8) (w : World) (hn : n = bs.length) (hb : BAt w a bs) (tab : QTab w) :
  Calls Tryz.prog 59 #[.slice a n c] w fun e w' => ∃ v p err, e = .returned (.tuple #[v, .int .i64 err]) ∧ RedI w' v p ∧ ParsedT bs p err ∧ Below w.heap.size w w' := by
 by_cases h6 : 65536 < n
 ·have g6 : (n : Int) > 65536 := by omega
  have HP := hyd (show ParsedT bs [] 5 from .inl ⟨by omega, rfl, rfl⟩); clear hn hb tab h6
  go_enter Tryz.func59, Tryz.ntmps59
  go_wp2
  go_ret2
  exact ⟨_, _, _, rfl, RedI.none _, HP.out, Below.refl _ _⟩
 ·have g6 : ¬ (n : Int) > 65536 := by omega
  have cv := hb.conv (P := Tryz.prog) c 32 5 Tryz.underlying32 Tryz.underlying5 9 Tryz.underlying9; rw [← hn] at cv
  have hb6 : bs.length ≤ 65536 := by omega
  have HB6 := hyd hb6; have TB := hyd tab; obtain ⟨z, hz, hzs, hzv, hzb, hz1⟩ := zItem_any; have HZS := hyd hzs; have HZ := hyd hz; clear hn hb tab h6 hzs hzb hz1 hz
  go_enter Tryz.func59, Tryz.ntmps59
  go_wp2_with fail
  go_loopw [4, 5] (fun v4 v5 wr => ∃ (p : List Itm) (r : List UInt8), v5 = .string ⟨r.toArray⟩ ∧ flatI p ++ r = bs ∧ (∀ i ∈ p, fine i) ∧ OwnI w.heap.size v4 p wr ∧ Below w.heap.size w wr) (fun _ v5 _ => strLen v5)
  case atStart => exact ⟨[], bs, rfl, rfl, (fun i hi => by cases hi), ownI_nil w _, Below.refl _ _⟩
  case round =>
   obtain ⟨p, r, rfl, hfl, hfi, hown, hbr⟩ := hrel; have HFL := hyd hfl; have HFI := hyd hfi; have HOWN := hyd hown; have HBR := hyd hbr
   have hlen : (flatI p).length + r.length ≤ 65536 := by rw [← List.length_append, hfl]; exact hb6
   have hpc := flat_count p; clear hfl hfi hown hbr; have hem := empty_list r
   by_cases hr : r = []
   ·subst hr
    have HFL2 := hyd (show flatI p = bs by rw [← HFL.out, List.append_nil]); obtain ⟨a', c', hv, hl1, hl2, hit, hno⟩ := ownI_items HOWN.out (fun i hi => (HFI.out i hi).2.2); subst hv; have HRI := hyd (show RedI wr (.slice a' p.length c') p from ⟨a', c', rfl, hit, hno, hl1, hl2⟩); have cR := pRight_is a' p.length c' p wr rfl (by unfold maxLen; omega) hit (fun i hi => (HFI.out i hi).2.2) (fun i hi => by have := name_le hi; omega) (TB.out.below HBR.out); rw [decide_eq_true (by rfl)] at hem; obtain ⟨s0, hs0⟩ : ∃ s0 : ByteArray, ⟨([] : List UInt8).toArray⟩ = s0 := ⟨_, rfl⟩; rw [hs0] at hem ⊢; have HPC := hyd hpc; obtain ⟨m, hm⟩ : ∃ m, p.length = m := ⟨_, rfl⟩; rw [hm] at cR hpc; have HM := hyd hm; clear hs0 hit hno hl1 hl2 HOWN hlen
    by_cases hp0 : m = 0
    ·have g0 : ¬ (m : Int) > 0 := by omega
     have HPT := hyd (show ParsedT bs p 0 from .inr (.inl ⟨HB6.out, rfl, HFL2.out, HFI.out, .inl (List.eq_nil_of_length_eq_zero (by rw [HM.out]; exact hp0))⟩)); clear hp0 cR; go_wp2
     go_ret2
     refine ⟨_, p, 0, rfl, ?_, HPT.out, HBR.out⟩; rw [← HM.out]; exact HRI.out
    ·have g0 : (m : Int) > 0 := by omega
     cases hr : rightIt p with
     | true =>
      rw [hr] at cR; have HPT := hyd (show ParsedT bs p 0 from .inr (.inl ⟨HB6.out, rfl, HFL2.out, HFI.out, .inr hr⟩)); clear hp0 hr
      go_wp2_with fail
      refine cR.mono ?_; rintro e w1 ⟨rfl, b1⟩; have HR1 := hyd (HRI.out.keep b1); have HB1 := hyd (HBR.out.trans (b1.mono HBR.out.size)); clear b1; go_wp2
      go_ret2
      refine ⟨_, p, 0, rfl, ?_, HPT.out, HB1.out⟩; rw [← HM.out]; exact HR1.out
     | false =>
      rw [hr] at cR
      have HPT := hyd (show ParsedT bs [] 4 from .inr (.inr ⟨HB6.out, rfl, rfl, fun q hq hq2 e => by
       have := flat_inj q p hq HFI.out (by rw [e, HFL2.out]); subst this
       rcases hq2 with h | h
       ·subst h; exact hp0 (by rw [← HM.out]; rfl)
       ·rw [hr] at h; cases h⟩))
      clear hp0 hr
      go_wp2_with fail
      refine cR.mono ?_; rintro e w1 ⟨rfl, b1⟩; have HB1 := hyd (HBR.out.trans (b1.mono HBR.out.size)); clear b1; go_wp2
      go_ret2
      exact ⟨_, [], 4, rfl, RedI.none _, HPT.out, HB1.out⟩
   ·have hne : r.length ≠ 0 := fun h => hr (List.eq_nil_of_length_eq_zero h)
    rw [decide_eq_false hne] at hem
    have cT := fun u => takeItem_is r u (by omega)
    have MS := hyd (show strLen (.string ⟨r.toArray⟩) = r.length by rw [strLen_string, size_toArray]); have hsz := size_toArray r
    cases ht : takeI r with
    | none =>
     rw [item_stop ht] at cT; rw [show arrI zItm = z from HZ.out.symm] at cT; have HPT := hyd (show ParsedT bs [] 4 from .inr (.inr ⟨HB6.out, rfl, rfl, fun q hq hq2 e => take_stop HFI.out hr ht q hq (by rw [HFL.out]; exact e)⟩))
     generalize (⟨r.toArray⟩ : ByteArray) = sr at *
     clear hr ht hne hlen hpc; have HZ1 := hyd (show z.all (·.oneCell') = true by rw [HZ.out]; exact arrI_one _)
     go_wp2_with fail
     refine (cT _).mono ?_; rintro e w1 ⟨rfl, b1⟩; have b2 := below_setRow (B := w1.heap.size) (g := w1.heap.size) ((Below.refl w1.heap.size w1).alloc (Nat.le_refl _) (.cells z 77)) (Nat.le_refl _) z; have b3 := HBR.out.trans (b1.mono HBR.out.size); have HB3 := hyd (b3.trans (b2.mono b3.size)); clear b1 b2 b3
     go_wp2_with (first
      | (with_reducible refine wpList_store_row rfl 77 (.tmp 6) (.tmp 19) rfl w1.heap.size z rfl rfl 77 z (heap_alloc_new w1 _) (info_arr _ HZS.out) rfl HZ1.out ?_)
      | fail)
     go_ret2
     exact ⟨_, [], 4, rfl, RedI.none _, HPT.out, HB3.out⟩
    | some q =>
     obtain ⟨i, r2⟩ := q; obtain ⟨t1, t2, t3, t4⟩ := item_take ht; rw [t1] at cT; have HNF := hyd (show flatI (p ++ [i]) ++ r2 = bs by rw [flat_append, ← HFL.out, t2]; simp [flatI])
     have HNI := hyd (show ∀ j ∈ p ++ [i], fine j from fun j hj => by
      rcases List.mem_append.1 hj with hj | hj
      ·exact HFI.out j hj
      ·rw [List.mem_singleton.1 hj]; exact t3)
     have HIDI := hyd t3.2.2; have hpp := print_pos i
     have hrl : r.length = (printIt i).length + r2.length := by rw [t2, List.length_append]
     have x0 : (⟨r.toArray⟩ : ByteArray).extract (printIt i).length r.length = ⟨r2.toArray⟩ := by
      rw [ext_list, t4, List.take_of_length_le (by omega)]
     have ms2 : strLen (.string ⟨r2.toArray⟩) = r2.length := by rw [strLen_string, size_toArray]
     obtain ⟨A, hA⟩ : ∃ A, arrI i = A := ⟨_, rfl⟩; rw [hA] at cT; have HA := hyd hA; have HAS := hyd (show A.size = 22 by rw [← hA]; exact arrI_size i t3.2.2); have HA1 := hyd (show A.all (·.oneCell') = true by rw [← hA]; exact arrI_one i); obtain ⟨k, hk⟩ : ∃ k, (printIt i).length = k := ⟨_, rfl⟩; rw [hk] at cT hpp hrl x0
     generalize (⟨r.toArray⟩ : ByteArray) = sr at *
     obtain ⟨sr2, hsr2⟩ : ∃ sr2 : ByteArray, ⟨r2.toArray⟩ = sr2 := ⟨_, rfl⟩; rw [hsr2] at x0 ms2; have MS2 := hyd ms2; have HS2 := hyd hsr2; clear hsr2
     have j1 : (k : Int) ≤ (r.length : Int) := by omega
     have HPC := hyd hpc; have HRL := hyd hrl; clear hr ht hne hA hk t1 t2 t3 t4 ms2 hpc hrl
     go_wp2_with fail
     refine (cT _).mono ?_; rintro e w1 ⟨rfl, b1⟩; have b2 := below_setRow (B := w1.heap.size) (g := w1.heap.size) ((Below.refl w1.heap.size w1).alloc (Nat.le_refl _) (.cells z 77)) (Nat.le_refl _) A; have h2 := setRow_heap (w1.alloc (.cells z 77)) w1.heap.size z A 77 (0, 0) (heap_alloc_new w1 _); have b3 := HBR.out.trans (b1.mono HBR.out.size); have o1 := ownI_below HOWN.out b1; have o2 := ownI_below o1 b2; have b4 := b3.trans (b2.mono b3.size); obtain ⟨W2, hW2⟩ : ∃ W2, (w1.alloc (.cells z 77)).setRow w1.heap.size A = W2 := ⟨_, rfl⟩; rw [hW2] at h2 o2 b4; have b5 := (Below.refl W2.heap.size W2).alloc (Nat.le_refl _) (.cells A 77); have H2 := hyd h2; have HO5 := hyd (ownI_below o2 b5); have HB5 := hyd (b4.trans (b5.mono b4.size)); clear b1 b2 b3 b4 b5 o1 o2 h2
     go_wp2_with (first
      | (with_reducible refine wpList_store_row rfl 77 (.tmp 6) (.tmp 19) rfl w1.heap.size A rfl rfl 77 z (heap_alloc_new w1 _) (info_arr _ HAS.out) (HZS.out.trans HAS.out.symm) HA1.out ?_)
      | (with_reducible refine wpList_load_row rfl 77 _ rfl w1.heap.size rfl 77 A (0, 0) _ H2.out Tryz.underlying77 rfl (info_arr A HAS.out) ?_)
      | (with_reducible refine wpList_build_item rfl (.tmp 25) rfl A HAS.out rfl ?_)
      | (at_builtin; refine wpList_append_item rfl _ _ rfl w.heap.size _ p i W2.heap.size A HA.out.symm rfl rfl (heap_alloc_new W2 _) HIDI.out HO5.out (by have := HPC.out; omega) HB5.out.size ?_)
      | fail)
     intro v6 w6 o6 g6'; have HO6 := hyd o6; have HB6' := hyd (HB5.out.grown g6' HB5.out.size (fun j hj => (HO5.out.lt j hj).1)); clear o6 g6' hW2; go_wp2
     go_roundw
     case rel => exact ⟨p ++ [i], r2, by rw [HS2.out], HNF.out, HNI.out, HO6.out, HB6'.out⟩
     case measure => rw [MS.out, MS2.out]; have := HRL.out; omega
def findB (s : List UInt8) (c : UInt8) (k : Nat) : Int := if (s.drop k).findIdx (· == c) < (s.drop k).length then k + ((s.drop k).findIdx (· == c) : Nat) else -1
theorem findB_at (s : List UInt8) (c d : UInt8) (hd : d ≠ c) (k i : Nat) (hk : k ≤ i) (hi : i < s.length) (h : s.getD i d = c) (hn : ∀ j, k ≤ j → j < i → s.getD j d ≠ c) : findB s c k = i := by
 have hl : (s.drop k).length = s.length - k := List.length_drop
 have e : (s.drop k).findIdx (· == c) = i - k := by
  rw [List.findIdx_eq (by omega)]; refine ⟨?_, fun j hj => ?_⟩
  ·rw [List.getD_eq_getElem?_getD, List.getElem?_eq_getElem hi] at h
   simp only [Option.getD_some] at h; rw [List.getElem_drop]; simp only [show k + (i - k) = i by omega, h]
   simp
  ·have := hn (k + j) (by omega) (by omega)
   rw [List.getD_eq_getElem?_getD, List.getElem?_eq_getElem (by omega)] at this; simp only [Option.getD_some] at this; rw [List.getElem_drop]; exact beq_false_of_ne this
 unfold findB; rw [e, if_pos (by omega)]
 omega
theorem findB_no (s : List UInt8) (c d : UInt8) (k : Nat) (hn : ∀ j, k ≤ j → j < s.length → s.getD j d ≠ c) : findB s c k = -1 := by
 unfold findB; rw [if_neg]; intro h; have hl : (s.drop k).length = s.length - k := List.length_drop; have h2 := List.findIdx_getElem (p := (· == c)) (w := h); rw [List.getElem_drop] at h2; have := hn (k + (s.drop k).findIdx (· == c)) (by omega) (by omega); rw [List.getD_eq_getElem?_getD, List.getElem?_eq_getElem (by omega)] at this; simp only [Option.getD_some] at this; exact this (eq_of_beq h2)
theorem cut_oneB (s : List UInt8) (d : UInt8) (i : Nat) (hi : i < s.length) : (⟨s.toArray⟩ : ByteArray).extract i (i + 1) = ⟨[s.getD i d].toArray⟩ := by
 rw [ext_list, Nat.add_sub_cancel_left, List.getD_eq_getElem?_getD, List.getElem?_eq_getElem hi]; rw [List.drop_eq_getElem_cons hi]
 rfl
theorem other_byte (c : UInt8) : ∃ d : UInt8, d ≠ c := ⟨c + 1, by intro h; have := congrArg UInt8.toNat h; rw [UInt8.toNat_add] at this; simp at this; have h2 := c.toNat_lt; omega⟩
theorem Find_byte (c : UInt8) (s : List UInt8) (k : Nat) (hs : s.length ≤ 1000000) (hk : k ≤ s.length) (w : World) :
  Calls Tryz.prog 84 #[.string ⟨s.toArray⟩, .string ⟨#[c]⟩, .int .i64 k] w fun e w' => e = .returned (.int .i64 (findB s c k)) ∧ w = w' := by
 obtain ⟨d, hd⟩ := other_byte c; have z1 := size_toArray s; have z2 : (⟨#[c]⟩ : ByteArray).size = 1 := rfl; have CO := hyd (fun i hi => cut_oneB s d i hi); have FA := hyd (fun i h1 h2 h3 h4 => findB_at s c d hd k i h1 h2 h3 h4); have FN := hyd (fun h => findB_no s c d k h); obtain ⟨R, hR⟩ : ∃ R, findB s c k = R := ⟨_, rfl⟩; rw [hR] at FA FN ⊢; clear hR
 generalize (⟨s.toArray⟩ : ByteArray) = S at *
 go_enter Tryz.func84, Tryz.ntmps84
 go_wp2_with fail
 go_loop [7] (fun v => ∃ i : Nat, k ≤ i ∧ i ≤ s.length ∧ v = .int .i64 i ∧ ∀ j, k ≤ j → j < i → s.getD j d ≠ c) (fun v => s.length - (intOf v).toNat)
 case atStart => exact ⟨k, Nat.le_refl _, hk, rfl, fun j h1 hj => absurd hj (Nat.not_lt.2 h1)⟩
 case round =>
  obtain ⟨i, hki, hi, rfl, hno⟩ := hrel; have HNO := hyd hno; clear hno
  by_cases hlt : i < s.length
  ·have ex := CO.out i hlt
   by_cases h0 : s.getD i d = c
   ·have hz := FA.out i hki hlt h0 HNO.out
    rw [h0] at ex; subst hz; clear h0; go_wp2; go_ret; exact ⟨rfl, rfl⟩
   ·have hb2 : (s.getD i d == c) = false := beq_false_of_ne h0
    have H0 := hyd h0; clear h0; generalize hg : s.getD i d = x at ex hb2; have HG := hyd hg; clear hg; go_wp2
    go_round
    case rel =>
     refine ⟨i + 1, by omega, by omega, by go_num, fun j h1 hj => ?_⟩
     by_cases h : j < i
     ·exact HNO.out j h1 h
     ·obtain rfl : j = i := by omega
      exact H0.out
    case measure => simp [intOf]; omega
  ·have hi2 : i = s.length := by omega
   have hz := FN.out (fun j h1 hj => HNO.out j h1 (by omega)); subst hz; go_wp2; go_ret; exact ⟨rfl, rfl⟩
theorem path_short (l : List UInt8) (h : l.length < 1 ∨ 400 < l.length ∨ Lib.validD l = false) : pathL l = false := by
 unfold pathL
 rcases h with h | h | h
 ·simp [show ¬ 1 ≤ l.length by omega]
 ·simp [show ¬ l.length ≤ 400 by omega]
 ·simp [h]
def Told (l : List UInt8) (i a n : Nat) : Prop :=
 (i ≤ l.length ∧ a ≤ i ∧ n ≤ i + 1 ∧ PathAt l a n ∧ (∀ j, a ≤ j → j < i → (l.getD j 0).toNat ≠ 47) ∧ ∀ j, j < i → (l.getD j 0).toNat ≠ 0) ∨ (i = l.length + 1 ∧ n ≤ l.length + 1 ∧ pathL l = decide (n ≤ 16))
set_option maxRecDepth 100000 in
theorem rPath_is (l : List UInt8) (w : World) (hn : l.length ≤ 1000000) (hV : ∀ w', Below w.heap.size w w' → Calls Tryz.prog 158 #[.string ⟨l.toArray⟩] w' fun e w'' => e = .returned (.bool (Lib.validD l)) ∧ Below w'.heap.size w' w'') :
  Calls Tryz.prog 134 #[.string ⟨l.toArray⟩] w fun e w' => e = .returned (.bool (pathL l)) ∧ Below w.heap.size w w' := by
 have hsz := size_toArray l
 have hget : ∀ i, i < l.length → ∀ h2 : i < (⟨l.toArray⟩ : ByteArray).size, (⟨l.toArray⟩ : ByteArray)[i]'h2 = l.getD i 0 := fun i h h2 => getD_str l i h h2
 have hcut : ∀ a i, (⟨l.toArray⟩ : ByteArray).extract a i = ⟨(cutL l a i).toArray⟩ := fun a i => ext_list l a i
 obtain ⟨s, hs⟩ : ∃ s : ByteArray, s = ⟨l.toArray⟩ := ⟨_, rfl⟩; rw [← hs] at hsz hget hV hcut ⊢; have HGET := hyd hget; have HCUT := hyd hcut; have cV := hV w (Below.refl _ _); clear hs hget hV hcut
 by_cases h1 : l.length < 1
 ·have R := hyd (path_short l (.inl h1))
  clear cV
  go_enter Tryz.func134, Tryz.ntmps134
  go_wp2; go_ret; exact ⟨ret_bool R.out.symm, Below.refl _ _⟩
 by_cases h2 : 400 < l.length
 ·have R := hyd (path_short l (.inr (.inl h2)))
  clear cV
  go_enter Tryz.func134, Tryz.ntmps134
  go_wp2; go_ret; exact ⟨ret_bool R.out.symm, Below.refl _ _⟩
 cases hv : Lib.validD l with
 | false =>
  have R := hyd (path_short l (.inr (.inr hv))); rw [hv] at cV; clear hv
  go_enter Tryz.func134, Tryz.ntmps134
  go_wp2_with fail
  refine cV.mono ?_; rintro e w1 ⟨rfl, b1⟩; go_wp2; go_ret; exact ⟨ret_bool R.out.symm, b1⟩
 | true =>
  rw [hv] at cV; have HV := hyd hv; clear hv
  go_enter Tryz.func134, Tryz.ntmps134
  go_wp2_with fail
  refine cV.mono ?_; rintro e w1 ⟨rfl, b1⟩; clear cV
  go_wp2_with fail
  go_loopw [3, 4, 5] (fun vn va vi wr => ∃ (i a n : Nat), vn = .int .i64 n ∧ va = .int .i64 a ∧ vi = .int .i64 i ∧ Below w.heap.size w wr ∧ i ≤ l.length + 1 ∧ n ≤ l.length + 1 ∧ Hid (Told l i a n)) (fun _ _ vi _ => l.length + 2 - (intOf vi).toNat)
  case atStart => exact ⟨0, 0, 1, rfl, rfl, rfl, b1, by omega, by omega, hyd (.inl ⟨Nat.zero_le _, Nat.le_refl _, by omega, PathAt.start l, fun j _ h => absurd h (Nat.not_lt_zero _), fun j h => absurd h (Nat.not_lt_zero _)⟩)⟩
  case round =>
   obtain ⟨i, a, n, rfl, rfl, rfl, hbr, hi, hnn, TO⟩ := hrel
   by_cases hend : i = l.length + 1
   ·have R : Hid (pathL l = decide (n ≤ 16)) := hyd (by
     rcases TO.out with ⟨h, _⟩ | ⟨_, _, h⟩
     ·omega
     ·exact h)
    have hle : ¬ (i : Int) ≤ (l.length : Int) := by omega
    clear hend; go_wp2; go_ret; refine ⟨ret_bool ?_, hbr⟩; rw [R.out, decide_eq_decide]
    omega
   ·obtain ⟨hil, hai, hni, hpa, hno, hz⟩ : i ≤ l.length ∧ a ≤ i ∧ n ≤ i + 1 ∧ PathAt l a n ∧ (∀ j, a ≤ j → j < i → (l.getD j 0).toNat ≠ 47) ∧ ∀ j, j < i → (l.getD j 0).toNat ≠ 0 := by
     rcases TO.out with h | ⟨h, _⟩
     ·exact h
     ·exact absurd h hend
    have cN := fun w => rname_is (cutL l a i) w (by unfold cutL; simp; omega)
    have hx := HCUT.out a i
    have hle : (i : Int) ≤ (l.length : Int) := by omega
    have haz : (a : Int) ≤ (i : Int) := by omega
    obtain ⟨t, ht⟩ : ∃ t : ByteArray, t = ⟨(cutL l a i).toArray⟩ := ⟨_, rfl⟩; rw [← ht] at cN hx; have PA := hyd hpa; have NO := hyd hno; have HZ := hyd hz; clear ht hend TO hpa hno hz
    by_cases hlt : i < l.length
    ·have hc := HGET.out i hlt (by omega)
     obtain ⟨x, hxe⟩ : ∃ x : UInt8, x = l.getD i 0 := ⟨_, rfl⟩; rw [← hxe] at hc; have XE := hyd hxe; clear hxe
     by_cases x0 : x.toNat = 0
     ·have f0 : ((x.toNat : Int) == 0) = true := by simp [x0]
      have R := hyd (zero_bad l i hlt (by rw [← XE.out]; exact x0)); clear x0 cN; go_wp2; go_ret; exact ⟨ret_bool R.out.symm, hbr⟩
     ·have f0 : ((x.toNat : Int) == 0) = false := by simp; omega
      have fe : ((i : Int) == (l.length : Int)) = false := by simp; omega
      have NZ : Hid (∀ j, j < i + 1 → (l.getD j 0).toNat ≠ 0) := hyd fun j hj => by
       by_cases h : j < i
       ·exact HZ.out j h
       ·obtain rfl : j = i := by omega
        rw [← XE.out]; exact x0
      by_cases x47 : x.toNat = 47
      ·have f1 : ((x.toNat : Int) == 47) = true := by simp [x47]
       have S := hyd (show (l.getD i 0).toNat = 47 by rw [← XE.out]; exact x47)
       cases hN : nameL (cutL l a i) with
       | false =>
        rw [hN] at cN; have R := hyd (PA.out.bad hai hil NO.out (fun _ => S.out) hN); clear x0 x47 hN
        go_wp2_with fail
        refine (cN _).mono ?_; rintro e w2 ⟨rfl, b2⟩; go_wp2; go_ret; exact ⟨ret_bool R.out.symm, hbr.trans (b2.mono hbr.size)⟩
       | true =>
        rw [hN] at cN; have R := hyd (PA.out.next hai hlt NO.out S.out hN); clear x0 x47 hN
        go_wp2_with fail
        refine (cN _).mono ?_; rintro e w2 ⟨rfl, b2⟩; go_wp2
        go_roundw
        case rel => exact ⟨i + 1, i + 1, n + 1, by go_num, by go_num, by go_num, hbr.trans (b2.mono hbr.size), by omega, by omega, hyd (.inl ⟨by omega, by omega, by omega, R.out, fun j h1 h2 => by omega, NZ.out⟩)⟩
        case measure => simp [intOf]; omega
      ·have f1 : ((x.toNat : Int) == 47) = false := by simp; omega
       have NS : Hid (∀ j, a ≤ j → j < i + 1 → (l.getD j 0).toNat ≠ 47) := hyd fun j h1 hj => by
        by_cases h : j < i
        ·exact NO.out j h1 h
        ·obtain rfl : j = i := by omega
         rw [← XE.out]; exact x47
       clear x0 x47 cN; go_wp2
       go_roundw
       case rel => exact ⟨i + 1, a, n, rfl, rfl, by go_num, hbr, by omega, by omega, hyd (.inl ⟨by omega, by omega, by omega, PA.out, NS.out, NZ.out⟩)⟩
       case measure => simp [intOf]; omega
    ·obtain rfl : i = l.length := by omega
     have fe : ((l.length : Int) == (l.length : Int)) = true := by simp
     cases hN : nameL (cutL l a l.length) with
     | false =>
      rw [hN] at cN; have R := hyd (PA.out.bad hai hil NO.out (fun h => absurd h (by omega)) hN); clear hN
      go_wp2_with fail
      refine (cN _).mono ?_; rintro e w2 ⟨rfl, b2⟩; go_wp2; go_ret; exact ⟨ret_bool R.out.symm, hbr.trans (b2.mono hbr.size)⟩
     | true =>
      rw [hN] at cN; have R := hyd (PA.out.fin NO.out hN (by omega) (by omega) HV.out HZ.out); clear hN
      go_wp2_with fail
      refine (cN _).mono ?_; rintro e w2 ⟨rfl, b2⟩; go_wp2
      go_roundw
      case rel => exact ⟨l.length + 1, l.length + 1, n, rfl, by go_num, by go_num, hbr.trans (b2.mono hbr.size), by omega, by omega, hyd (.inr ⟨rfl, by omega, R.out⟩)⟩
      case measure => simp [intOf]
theorem find_any (s : List UInt8) (c : UInt8) : decide (findB s c 0 < 0) = !s.any (fun x => x == c) := by
 unfold findB; rw [List.drop_zero]
 by_cases h : s.findIdx (· == c) < s.length
 ·rw [if_pos h]
  have h2 : s.any (fun x => x == c) = true := by
   rw [List.any_eq_true]; exact ⟨s[s.findIdx (· == c)], List.getElem_mem h, List.findIdx_getElem (p := (· == c)) (w := h)⟩
  rw [h2]
  simp
 ·rw [if_neg h]
  have h2 : s.any (fun x => x == c) = false := by
   rw [List.any_eq_false]; intro x hx hc; exact h (List.findIdx_lt_length.2 ⟨x, hx, hc⟩)
  rw [h2]
  rfl
theorem rName_is (s : List UInt8) (w : World) (hs : s.length ≤ 1000000) (tab : QTab w) :
  Calls Tryz.prog 101 #[.string ⟨s.toArray⟩] w fun e w' => e = .returned (.bool (nameI s)) ∧ Below w.heap.size w w' := by
 have c1 := rPath_is s w hs (fun w' hb => valid_is s w' (by omega) (Utf8Tabs_below tab.utf hb))
 have c2 := fun w => Find_byte 47 s 0 hs (Nat.zero_le _) w
 have hf := find_any s 47; unfold nameI; obtain ⟨z, hz⟩ : ∃ z, findB s 47 0 = z := ⟨_, rfl⟩; rw [hz] at c2 hf
 generalize (⟨s.toArray⟩ : ByteArray) = S at *
 generalize (!s.any fun x => x == 47) = r at *
 cases hp : pathL s with
 | false =>
  rw [hp] at c1; clear hz hs tab c2 hf
  go_enter Tryz.func101, Tryz.ntmps101
  go_wp2_with fail
  refine c1.mono ?_; rintro e w1 ⟨rfl, b1⟩; have B1 := hyd b1; clear b1; go_wp2; go_ret; exact ⟨rfl, B1.out⟩
 | true =>
  rw [hp] at c1; clear hz hs tab
  go_enter Tryz.func101, Tryz.ntmps101
  go_wp2_with fail
  refine c1.mono ?_; rintro e w1 ⟨rfl, b1⟩; have B1 := hyd b1; clear b1
  go_wp2_with fail
  refine (c2 _).mono ?_; rintro e w2 ⟨rfl, rfl⟩; go_wp2; go_ret; exact ⟨by simp, B1.out⟩
theorem rRight_some (b o n c : Nat) (l : List Itm) (w : World) (hn : n = l.length) (h1 : 1 ≤ n) (h5 : n ≤ 500) (hbl : b < w.heap.size)
  (hc : ∀ k (h : k < l.length) j v, (cellsI l[k])[j]? = some v → w.cell? ⟨b, o + k * 22 + j, none⟩ = some v) (hid : ∀ i ∈ l, i.id.length = 20) (hnm : ∀ i ∈ l, i.name.length ≤ 1000000) (tab : QTab w) :
  Calls Tryz.prog 85 #[.slice (some ⟨b, o, none⟩) n c] w fun e w' => e = .returned (.bool (rightIt l)) ∧ Below w.heap.size w w' := by
 have g1 : ¬ ((n : Int) < 1) := by omega
 have g2 : ¬ ((n : Int) > 500) := by omega
 have HN := hyd hn; have HC := hyd hc; have HID := hyd hid; have HNM := hyd hnm; have TB := hyd tab; obtain ⟨R, hR⟩ : ∃ R, rightIt l = R := ⟨_, rfl⟩; have HR := hyd hR; rw [hR]; clear hn hc hid hnm tab hR
 go_enter Tryz.func85, Tryz.ntmps85
 go_wp2_with fail
 go_loopw [3] (fun v3 wr => ∃ i : Nat, i ≤ n ∧ v3 = .int .i64 i ∧ (∀ j, j < i → stepI l j = true) ∧ Below w.heap.size w wr) (fun v3 _ => n - (intOf v3).toNat)
 case atStart => exact ⟨0, Nat.zero_le _, rfl, fun j hj => absurd hj (Nat.not_lt_zero _), Below.refl _ _⟩
 case round =>
  obtain ⟨i, hi, rfl, hst, hbr⟩ := hrel; have HST := hyd hst; clear hst
  by_cases hlt : i < n
  ·have hil : i < l.length := by rw [← HN.out]; exact hlt
   have hx : l.getD i noI = l[i] := by rw [List.getD_eq_getElem?_getD, List.getElem?_eq_getElem hil]; rfl
   obtain ⟨x, hx2⟩ : ∃ x, l[i] = x := ⟨_, rfl⟩
   have hxm : x ∈ l := by rw [← hx2]; exact List.getElem_mem _
   have hidx := HID.out x hxm; have hnx := HNM.out x hxm
   have RX0 : ∀ u, Below w.heap.size w u → u.rangeAt b (o + i * 22) (cellsI x) := fun u hu j v hv => (hu.cell (p := ⟨b, o + i * 22 + j, none⟩) hbl).trans (HC.out i hil j v (by rw [hx2]; exact hv))
   have RI0 : ∀ u, Below w.heap.size w u → u.rangeAt b (o + i * 22 + 2) (Lib.byteCells x.id) := fun u hu j v hv => by
    have := RX0 u hu (j + 2) v hv
    rwa [show o + i * 22 + (j + 2) = o + i * 22 + 2 + j by omega] at this
   have lid : (Tryz.prog.info? 24).map (·.size) = some (Lib.byteCells x.id).length := by rw [show (Lib.byteCells x.id).length = 20 by simp [Lib.byteCells, hidx]]; exact info29
   have lx : (Tryz.prog.info? 77).map (·.size) = some (cellsI x).length := by rw [cellsI_len x hidx]; exact infoItem
   have q0 : ∀ u, Below w.heap.size w u → u.cell? ⟨b, o + i * 22, none⟩ = some (.int .i64 x.mode) := fun u hu => RX0 u hu 0 _ rfl
   have q1 : ∀ u, Below w.heap.size w u → u.cell? ⟨b, o + i * 22 + 1, none⟩ = some (.string ⟨x.name.toArray⟩) := fun u hu => RX0 u hu 1 _ rfl
   obtain ⟨z, hz, hze⟩ := z29; have hzv := zero_arr hz
   have ids0 := fun u => eql_idv u x.id zeroId hidx (by simp [zeroId])
   rw [show idv zeroId = .agg z by rw [hze]; rfl, show idv x.id = .agg (Lib.byteCells x.id).toArray from rfl] at ids0
   have cN := fun u (h : Below w.heap.size w u) => rName_is x.name u hnx (TB.out.below h)
   have cBf : 0 < i → ∃ p y, (p : Nat) + 1 = i ∧ l.getD p noI = y ∧ (∀ u, Below w.heap.size w u → u.rangeAt b (o + p * 22) (cellsI y)) ∧ y.id.length = 20 ∧ y.name.length ≤ 1000000 := fun h0 => by
    have hp : i - 1 < l.length := by omega
    have hm : l[i - 1] ∈ l := List.getElem_mem _; exact ⟨i - 1, l[i - 1], by omega, by rw [List.getD_eq_getElem?_getD, List.getElem?_eq_getElem hp]; rfl, fun u hu j v hv => (hu.cell (p := ⟨b, o + (i - 1) * 22 + j, none⟩) hbl).trans (HC.out (i - 1) hp j v hv), HID.out _ hm, HNM.out _ hm⟩
   have HBF := hyd cBf
   have HAH : aheadI l i = (oneI x && (i == 0 || befI (l.getD (i - 1) noI) x)) := by unfold aheadI; rw [hx, hx2]
   have HA0 := hyd HAH; have HXX := hyd (show l.getD i noI = x by rw [hx, hx2]); have HIX := hyd hidx; have HNX := hyd hnx; obtain ⟨zb, hzb⟩ : ∃ bb, (x.id == zeroId) = bb := ⟨_, rfl⟩; rw [hzb] at ids0; obtain ⟨nm, hnm⟩ : ∃ nm, nameI x.name = nm := ⟨_, rfl⟩; rw [hnm] at cN; obtain ⟨xm, hxm2⟩ : ∃ xm, x.mode = xm := ⟨_, rfl⟩; rw [hxm2] at q0; have HONE := hyd (show oneI x = (nm && !zb && decide (1 ≤ xm) && decide (xm ≤ 4)) by unfold oneI; rw [hnm, hzb, hxm2]); obtain ⟨ic, hic⟩ : ∃ ic, Lib.byteCells x.id = ic := ⟨_, rfl⟩; rw [hic] at RI0 lid ids0; obtain ⟨cx, hcx⟩ : ∃ cx, cellsI x = cx := ⟨_, rfl⟩; rw [hcx] at RX0 lx; have HCX := hyd hcx; obtain ⟨sx, hsx⟩ : ∃ sx : ByteArray, ⟨x.name.toArray⟩ = sx := ⟨_, rfl⟩; rw [hsx] at q1 cN; have HSX := hyd hsx; have MS := hyd (fun u (hu : Below w.heap.size w u) => (⟨q1 u hu, q0 u hu, hu⟩ : u.cell? ⟨b, o + i * 22 + 1, none⟩ = some (.string sx) ∧ u.cell? ⟨b, o + i * 22, none⟩ = some (.int .i64 xm) ∧ Below w.heap.size w u)); have RX := hyd RX0; have RID := hyd RI0; have LID := hyd lid; have LX := hyd lx; have HQ1 := hyd q1; have DN := hyd (fun u (h : u.cell? ⟨b, o + i * 22 + 1, none⟩ = some (.string sx) ∧ u.cell? ⟨b, o + i * 22, none⟩ = some (.int .i64 xm) ∧ Below w.heap.size w u) => ((cN u h.2.2).mono (fun e u' ⟨he, hb⟩ => ⟨he, MS.out u' (h.2.2.trans (hb.mono h.2.2.size))⟩) : Calls Tryz.prog 101 #[.string sx] u fun e u' => e = .returned (.bool nm) ∧ u'.cell? ⟨b, o + i * 22 + 1, none⟩ = some (.string sx) ∧ u'.cell? ⟨b, o + i * 22, none⟩ = some (.int .i64 xm) ∧ Below w.heap.size w u'))
   clear cBf HAH hx hx2 hxm hidx hnx hz hze q0 q1 RX0 RI0 lid lx cN hzb hnm hxm2 hic hcx hsx hil; obtain ⟨ra, hra⟩ : ∃ ra, (!aheadI l i) = ra := ⟨_, rfl⟩; have HRA := hyd hra; clear hra
   go_wp2_with fail
   refine region_cut (fun _ a' u => a' = ({ tmps := List.toArray ((.slice (some ⟨b, o, none⟩) n c : Value) :: undef :: u2 :: (.int .i64 i : Value) :: u4 :: (.slice (some ⟨b, o, none⟩) n c : Value) :: (.int .i64 n : Value) :: (.bool false : Value) :: (.bool false : Value) :: (.slice (some ⟨b, o, none⟩) n c : Value) :: (.int .i64 n : Value) :: (.bool false : Value) :: (.bool false : Value) :: (.int .i64 i : Value) :: (.slice (some ⟨b, o, none⟩) n c : Value) :: (.int .i64 n : Value) :: (.bool true : Value) :: u17 :: u18 :: (a'.tmps.getD 19 undef) :: (a'.tmps.getD 20 undef) :: (a'.tmps.getD 21 undef) :: (a'.tmps.getD 22 undef) :: (a'.tmps.getD 23 undef) :: (a'.tmps.getD 24 undef) :: (a'.tmps.getD 25 undef) :: (a'.tmps.getD 26 undef) :: (a'.tmps.getD 27 undef) :: (a'.tmps.getD 28 undef) :: (a'.tmps.getD 29 undef) :: (a'.tmps.getD 30 undef) :: (a'.tmps.getD 31 undef) :: (a'.tmps.getD 32 undef) :: (a'.tmps.getD 33 undef) :: (a'.tmps.getD 34 undef) :: (a'.tmps.getD 35 undef) :: (a'.tmps.getD 36 undef) :: (a'.tmps.getD 37 undef) :: (a'.tmps.getD 38 undef) :: (a'.tmps.getD 39 undef) :: (a'.tmps.getD 40 undef) :: (a'.tmps.getD 41 undef) :: (a'.tmps.getD 42 undef) :: (a'.tmps.getD 43 undef) :: (a'.tmps.getD 44 undef) :: (a'.tmps.getD 45 undef) :: (a'.tmps.getD 46 undef) :: (a'.tmps.getD 47 undef) :: (a'.tmps.getD 48 undef) :: (a'.tmps.getD 49 undef) :: (a'.tmps.getD 50 undef) :: (a'.tmps.getD 51 undef) :: (a'.tmps.getD 52 undef) :: (a'.tmps.getD 53 undef) :: (a'.tmps.getD 54 undef) :: (a'.tmps.getD 55 undef) :: (a'.tmps.getD 56 undef) :: (a'.tmps.getD 57 undef) :: (a'.tmps.getD 58 undef) :: (a'.tmps.getD 59 undef) :: (a'.tmps.getD 60 undef) :: (a'.tmps.getD 61 undef) :: (a'.tmps.getD 62 undef) :: (a'.tmps.getD 63 undef) :: (a'.tmps.getD 64 undef) :: (a'.tmps.getD 65 undef) :: (a'.tmps.getD 66 undef) :: (.bool ra : Value) :: u68 :: u69 :: u70 :: u71 :: u72 :: u73 :: u74 :: u75 :: u76 :: u77 :: u78 :: u79 :: u80 :: u81 :: u82 :: u83 :: []), defers := [] } : Act) ∧ Below w.heap.size w u) ?_ ?_
   ·cases nm with
    | false =>
     have HA := hyd (show (!aheadI l i) = true by rw [HA0.out, HONE.out]; rfl); obtain rfl : true = ra := HA.out.symm.trans HRA.out; refine wp_region_held_drew (S := fun u => u.cell? ⟨b, o + i * 22 + 1, none⟩ = some (.string sx) ∧ u.cell? ⟨b, o + i * 22, none⟩ = some (.int .i64 xm) ∧ Below w.heap.size w u) (by kernel_rfl) (MS.out _ hbr.drew) (fun hd => ?_); refine tkW 0 rfl hd ?_; refine tkW 1 rfl hd ?_; refine tkW 2 rfl hd ?_; refine tkW 3 rfl hd ?_; refine tkW 4 rfl hd ?_; refine rdH 5 rfl (fun K hK => ?_)
     go_simp
     refine (DN.out _ hd).mono ?_; rintro e u1 ⟨rfl, hH⟩; clear hd; refine hK.out _ _ hH (fun hd => ?_); clear hK K
     try simp only [Act.put, lsA, lsZ, lsS]
     refine tkW 6 rfl hd ?_; refine tkW 7 rfl hd ?_; refine tkU 8 rfl hd ?_; refine tkU 9 rfl hd ?_; refine tkU 10 rfl hd ?_; refine tkU 11 rfl hd ?_; refine tkU 12 rfl hd ?_; refine tkU 13 rfl hd ?_; refine tkU 14 rfl hd ?_; refine tkW 15 rfl hd ?_; refine tkW 16 rfl hd ?_; refine tkU 17 rfl hd ?_; refine tkU 18 rfl hd ?_; refine tkU 19 rfl hd ?_; refine tkU 20 rfl hd ?_; refine tkU 21 rfl hd ?_; refine tkU 22 rfl hd ?_; refine tkW 23 rfl hd ?_; refine tkW 24 rfl hd ?_; refine tkU 25 rfl hd ?_; refine tkU 26 rfl hd ?_; refine tkU 27 rfl hd ?_; refine tkU 28 rfl hd ?_; refine tkU 29 rfl hd ?_; refine tkU 30 rfl hd ?_; refine tkW 31 rfl hd ?_; refine tkW 32 rfl hd ?_; refine tkU 33 rfl hd ?_; refine tkU 34 rfl hd ?_; refine tkU 35 rfl hd ?_; refine tkU 36 rfl hd ?_; refine tkU 37 rfl hd ?_; refine tkU 38 rfl hd ?_; refine tkU 39 rfl hd ?_; refine tkU 40 rfl hd ?_; refine tkU 41 rfl hd ?_; refine tkU 42 rfl hd ?_; refine tkU 43 rfl hd ?_; refine tkU 44 rfl hd ?_; refine tkU 45 rfl hd ?_; refine tkU 46 rfl hd ?_; refine tkU 47 rfl hd ?_; refine tkW 48 rfl hd ?_; refine wpAnyH_done (by kernel_rfl) ?_ _; refine ⟨?_, hH.2.2⟩
     kernel_rfl
    | true =>
     cases zb with
     | true =>
      have HA := hyd (show (!aheadI l i) = true by rw [HA0.out, HONE.out]; rfl); obtain rfl : true = ra := HA.out.symm.trans HRA.out; refine wp_region_held_drew (S := fun u => u.cell? ⟨b, o + i * 22 + 1, none⟩ = some (.string sx) ∧ u.cell? ⟨b, o + i * 22, none⟩ = some (.int .i64 xm) ∧ Below w.heap.size w u) (by kernel_rfl) (MS.out _ hbr.drew) (fun hd => ?_); refine tkW 0 rfl hd ?_; refine tkW 1 rfl hd ?_; refine tkW 2 rfl hd ?_; refine tkW 3 rfl hd ?_; refine tkW 4 rfl hd ?_; refine rdH 5 rfl (fun K hK => ?_)
      go_simp
      refine (DN.out _ hd).mono ?_; rintro e u1 ⟨rfl, hH⟩; clear hd; refine hK.out _ _ hH (fun hd => ?_); clear hK K
      try simp only [Act.put, lsA, lsZ, lsS]
      refine tkW 6 rfl hd ?_; refine tkW 7 rfl hd ?_; refine tkW 8 rfl hd ?_; refine tkW 9 rfl hd ?_; refine tkW 10 rfl hd ?_; refine tkW 11 rfl hd ?_; refine tkH 12 rfl (yieldsIf_load_mid (by kernel_rfl) 24 (.tmp 30) (by kernel_rfl) b (o + i * 22 + 2) (by kernel_rfl) ic _ (fun u hu => RID.out u hu.2.2) Tryz.underlying24 rfl LID.out) hd ?_; refine tkW 13 rfl hd ?_; refine tkW 14 rfl hd ?_; refine tkW 15 rfl hd ?_; refine tkW 16 rfl hd ?_; refine tkU 17 rfl hd ?_; refine tkU 18 rfl hd ?_; refine tkU 19 rfl hd ?_; refine tkU 20 rfl hd ?_; refine tkU 21 rfl hd ?_; refine tkU 22 rfl hd ?_; refine tkW 23 rfl hd ?_; refine tkW 24 rfl hd ?_; refine tkU 25 rfl hd ?_; refine tkU 26 rfl hd ?_; refine tkU 27 rfl hd ?_; refine tkU 28 rfl hd ?_; refine tkU 29 rfl hd ?_; refine tkU 30 rfl hd ?_; refine tkW 31 rfl hd ?_; refine tkW 32 rfl hd ?_; refine tkU 33 rfl hd ?_; refine tkU 34 rfl hd ?_; refine tkU 35 rfl hd ?_; refine tkU 36 rfl hd ?_; refine tkU 37 rfl hd ?_; refine tkU 38 rfl hd ?_; refine tkU 39 rfl hd ?_; refine tkU 40 rfl hd ?_; refine tkU 41 rfl hd ?_; refine tkU 42 rfl hd ?_; refine tkU 43 rfl hd ?_; refine tkU 44 rfl hd ?_; refine tkU 45 rfl hd ?_; refine tkU 46 rfl hd ?_; refine tkU 47 rfl hd ?_; refine tkW 48 rfl hd ?_; refine wpAnyH_done (by kernel_rfl) ?_ _; refine ⟨?_, hH.2.2⟩
      kernel_rfl
     | false =>
      by_cases hm1 : xm < 1
      ·have hd1 : decide (1 ≤ xm) = false := decide_eq_false (by omega)
       have HA := hyd (show (!aheadI l i) = true by rw [HA0.out, HONE.out]; rw [hd1]; rfl); obtain rfl : true = ra := HA.out.symm.trans HRA.out; refine wp_region_held_drew (S := fun u => u.cell? ⟨b, o + i * 22 + 1, none⟩ = some (.string sx) ∧ u.cell? ⟨b, o + i * 22, none⟩ = some (.int .i64 xm) ∧ Below w.heap.size w u) (by kernel_rfl) (MS.out _ hbr.drew) (fun hd => ?_); refine tkW 0 rfl hd ?_; refine tkW 1 rfl hd ?_; refine tkW 2 rfl hd ?_; refine tkW 3 rfl hd ?_; refine tkW 4 rfl hd ?_; refine rdH 5 rfl (fun K hK => ?_)
       go_simp
       refine (DN.out _ hd).mono ?_; rintro e u1 ⟨rfl, hH⟩; clear hd; refine hK.out _ _ hH (fun hd => ?_); clear hK K
       try simp only [Act.put, lsA, lsZ, lsS]
       refine tkW 6 rfl hd ?_; refine tkW 7 rfl hd ?_; refine tkW 8 rfl hd ?_; refine tkW 9 rfl hd ?_; refine tkW 10 rfl hd ?_; refine tkW 11 rfl hd ?_; refine tkH 12 rfl (yieldsIf_load_mid (by kernel_rfl) 24 (.tmp 30) (by kernel_rfl) b (o + i * 22 + 2) (by kernel_rfl) ic _ (fun u hu => RID.out u hu.2.2) Tryz.underlying24 rfl LID.out) hd ?_; refine tkW 13 rfl hd ?_; refine tkW 14 rfl hd ?_; refine tkW 15 rfl hd ?_; refine tkW 16 rfl hd ?_; refine tkW 17 rfl hd ?_; refine tkW 18 rfl hd ?_; refine tkW 19 rfl hd ?_; refine tkW 20 rfl hd ?_; refine tkW 21 rfl hd ?_; refine tkW 22 rfl hd ?_; refine tkW 23 rfl hd ?_; refine tkW 24 rfl hd ?_; refine tkU 25 rfl hd ?_; refine tkU 26 rfl hd ?_; refine tkU 27 rfl hd ?_; refine tkU 28 rfl hd ?_; refine tkU 29 rfl hd ?_; refine tkU 30 rfl hd ?_; refine tkW 31 rfl hd ?_; refine tkW 32 rfl hd ?_; refine tkU 33 rfl hd ?_; refine tkU 34 rfl hd ?_; refine tkU 35 rfl hd ?_; refine tkU 36 rfl hd ?_; refine tkU 37 rfl hd ?_; refine tkU 38 rfl hd ?_; refine tkU 39 rfl hd ?_; refine tkU 40 rfl hd ?_; refine tkU 41 rfl hd ?_; refine tkU 42 rfl hd ?_; refine tkU 43 rfl hd ?_; refine tkU 44 rfl hd ?_; refine tkU 45 rfl hd ?_; refine tkU 46 rfl hd ?_; refine tkU 47 rfl hd ?_; refine tkW 48 rfl hd ?_; refine wpAnyH_done (by kernel_rfl) ?_ _; refine ⟨?_, hH.2.2⟩
       kernel_rfl
      ·by_cases hm4 : xm > 4
       ·have hd4 : decide (xm ≤ 4) = false := decide_eq_false (by omega)
        have hd5 : decide (1 ≤ xm) = true := decide_eq_true (by omega); have HA := hyd (show (!aheadI l i) = true by rw [HA0.out, HONE.out]; rw [hd4, hd5]; rfl); obtain rfl : true = ra := HA.out.symm.trans HRA.out; refine wp_region_held_drew (S := fun u => u.cell? ⟨b, o + i * 22 + 1, none⟩ = some (.string sx) ∧ u.cell? ⟨b, o + i * 22, none⟩ = some (.int .i64 xm) ∧ Below w.heap.size w u) (by kernel_rfl) (MS.out _ hbr.drew) (fun hd => ?_); refine tkW 0 rfl hd ?_; refine tkW 1 rfl hd ?_; refine tkW 2 rfl hd ?_; refine tkW 3 rfl hd ?_; refine tkW 4 rfl hd ?_; refine rdH 5 rfl (fun K hK => ?_)
        go_simp
        refine (DN.out _ hd).mono ?_; rintro e u1 ⟨rfl, hH⟩; clear hd; refine hK.out _ _ hH (fun hd => ?_); clear hK K
        try simp only [Act.put, lsA, lsZ, lsS]
        refine tkW 6 rfl hd ?_; refine tkW 7 rfl hd ?_; refine tkW 8 rfl hd ?_; refine tkW 9 rfl hd ?_; refine tkW 10 rfl hd ?_; refine tkW 11 rfl hd ?_; refine tkH 12 rfl (yieldsIf_load_mid (by kernel_rfl) 24 (.tmp 30) (by kernel_rfl) b (o + i * 22 + 2) (by kernel_rfl) ic _ (fun u hu => RID.out u hu.2.2) Tryz.underlying24 rfl LID.out) hd ?_; refine tkW 13 rfl hd ?_; refine tkW 14 rfl hd ?_; refine tkW 15 rfl hd ?_; refine tkW 16 rfl hd ?_; refine tkW 17 rfl hd ?_; refine tkW 18 rfl hd ?_; refine tkW 19 rfl hd ?_; refine tkW 20 rfl hd ?_; refine tkW 21 rfl hd ?_; refine tkW 22 rfl hd ?_; refine tkW 23 rfl hd ?_; refine tkW 24 rfl hd ?_; refine tkW 25 rfl hd ?_; refine tkW 26 rfl hd ?_; refine tkW 27 rfl hd ?_; refine tkW 28 rfl hd ?_; refine tkW 29 rfl hd ?_; refine tkW 30 rfl hd ?_; refine tkW 31 rfl hd ?_; refine tkW 32 rfl hd ?_; refine tkU 33 rfl hd ?_; refine tkU 34 rfl hd ?_; refine tkU 35 rfl hd ?_; refine tkU 36 rfl hd ?_; refine tkU 37 rfl hd ?_; refine tkU 38 rfl hd ?_; refine tkU 39 rfl hd ?_; refine tkU 40 rfl hd ?_; refine tkU 41 rfl hd ?_; refine tkU 42 rfl hd ?_; refine tkU 43 rfl hd ?_; refine tkU 44 rfl hd ?_; refine tkU 45 rfl hd ?_; refine tkU 46 rfl hd ?_; refine tkU 47 rfl hd ?_; refine tkW 48 rfl hd ?_; refine wpAnyH_done (by kernel_rfl) ?_ _; refine ⟨?_, hH.2.2⟩
        kernel_rfl
       ·have hd4 : decide (xm ≤ 4) = true := decide_eq_true (by omega)
        have hd5 : decide (1 ≤ xm) = true := decide_eq_true (by omega)
        by_cases hi0 : i = 0
        ·have hi1 : (i == 0) = true := by simp [hi0]
         have hz0 : decide ((0 : Int) < (i : Int)) = false := decide_eq_false (by omega); have hz1 : decide (0 < i) = false := decide_eq_false (by omega)
         have hz2 : ¬ 0 < i := by omega
         have HI0 := hyd hi0; clear hi0; have HA := hyd (show (!aheadI l i) = false by rw [HA0.out, HONE.out]; rw [hd4, hd5, hi1]; rfl); obtain rfl : false = ra := HA.out.symm.trans HRA.out; refine wp_region_held_drew (S := fun u => u.cell? ⟨b, o + i * 22 + 1, none⟩ = some (.string sx) ∧ u.cell? ⟨b, o + i * 22, none⟩ = some (.int .i64 xm) ∧ Below w.heap.size w u) (by kernel_rfl) (MS.out _ hbr.drew) (fun hd => ?_); refine tkW 0 rfl hd ?_; refine tkW 1 rfl hd ?_; refine tkW 2 rfl hd ?_; refine tkW 3 rfl hd ?_; refine tkW 4 rfl hd ?_; refine rdH 5 rfl (fun K hK => ?_)
         go_simp
         refine (DN.out _ hd).mono ?_; rintro e u1 ⟨rfl, hH⟩; clear hd; refine hK.out _ _ hH (fun hd => ?_); clear hK K
         try simp only [Act.put, lsA, lsZ, lsS]
         refine tkW 6 rfl hd ?_; refine tkW 7 rfl hd ?_; refine tkW 8 rfl hd ?_; refine tkW 9 rfl hd ?_; refine tkW 10 rfl hd ?_; refine tkW 11 rfl hd ?_; refine tkH 12 rfl (yieldsIf_load_mid (by kernel_rfl) 24 (.tmp 30) (by kernel_rfl) b (o + i * 22 + 2) (by kernel_rfl) ic _ (fun u hu => RID.out u hu.2.2) Tryz.underlying24 rfl LID.out) hd ?_; refine tkW 13 rfl hd ?_; refine tkW 14 rfl hd ?_; refine tkW 15 rfl hd ?_; refine tkW 16 rfl hd ?_; refine tkW 17 rfl hd ?_; refine tkW 18 rfl hd ?_; refine tkW 19 rfl hd ?_; refine tkW 20 rfl hd ?_; refine tkW 21 rfl hd ?_; refine tkW 22 rfl hd ?_; refine tkW 23 rfl hd ?_; refine tkW 24 rfl hd ?_; refine tkW 25 rfl hd ?_; refine tkW 26 rfl hd ?_; refine tkW 27 rfl hd ?_; refine tkW 28 rfl hd ?_; refine tkW 29 rfl hd ?_; refine tkW 30 rfl hd ?_; refine tkW 31 rfl hd ?_; refine tkW 32 rfl hd ?_; refine tkW 33 rfl hd ?_; refine tkW 34 rfl hd ?_; refine tkW 35 rfl hd ?_; refine tkU 36 rfl hd ?_; refine tkU 37 rfl hd ?_; refine tkU 38 rfl hd ?_; refine tkU 39 rfl hd ?_; refine tkU 40 rfl hd ?_; refine tkU 41 rfl hd ?_; refine tkU 42 rfl hd ?_; refine tkU 43 rfl hd ?_; refine tkU 44 rfl hd ?_; refine tkU 45 rfl hd ?_; refine tkU 46 rfl hd ?_; refine tkW 47 rfl hd ?_; refine tkW 48 rfl hd ?_; refine wpAnyH_done (by kernel_rfl) ?_ _; refine ⟨?_, hH.2.2⟩
         kernel_rfl
        ·obtain ⟨p, y, hpi, hyp, hry, hiy, hny⟩ := HBF.out (by omega)
         have hw : IntKind.i64.wrap ((i : Int) - 1) = (p : Int) := by rw [IntWalk.i64_in _ (by omega)]; omega
         have hpn : p < n := by omega
         have ly : (Tryz.prog.info? 77).map (·.size) = some (cellsI y).length := by rw [cellsI_len y hiy]; exact infoItem
         have cB := fun u => Before_is y x hiy HIX.out hny HNX.out u
         obtain ⟨r, hr⟩ : ∃ r, befI y x = r := ⟨_, rfl⟩; rw [hr] at cB; obtain ⟨cp, hcp⟩ : ∃ cp, cellsI y = cp := ⟨_, rfl⟩; rw [HCX.out, hcp] at cB; rw [hcp] at ly hry; have LP := hyd ly; have RP := hyd hry; have DB := hyd (fun u (h : u.cell? ⟨b, o + i * 22 + 1, none⟩ = some (.string sx) ∧ u.cell? ⟨b, o + i * 22, none⟩ = some (.int .i64 xm) ∧ Below w.heap.size w u) => ((cB u).mono (fun e u' ⟨he, hb⟩ => ⟨he, MS.out u' (h.2.2.trans (hb.mono h.2.2.size))⟩) : Calls Tryz.prog 102 #[.agg cp.toArray, .agg cx.toArray] u fun e u' => e = .returned (.bool r) ∧ u'.cell? ⟨b, o + i * 22 + 1, none⟩ = some (.string sx) ∧ u'.cell? ⟨b, o + i * 22, none⟩ = some (.int .i64 xm) ∧ Below w.heap.size w u')); have hi1 : (i == 0) = false := beq_false_of_ne hi0
         have hyp2 : l.getD (i - 1) noI = y := by rw [show i - 1 = p by omega]; exact hyp
         have HH := hyd (And.intro hr hyp2)
         have hpos : 0 < i := by omega
         clear ly hry cB hr hyp hyp2 hiy hny hcp; have HA := hyd (show (!aheadI l i) = (!r) by rw [HA0.out, HONE.out]; rw [hd4, hd5, hi1, HH.out.2, HH.out.1]; rfl); obtain rfl : (!r) = ra := HA.out.symm.trans HRA.out; refine wp_region_held_drew (S := fun u => u.cell? ⟨b, o + i * 22 + 1, none⟩ = some (.string sx) ∧ u.cell? ⟨b, o + i * 22, none⟩ = some (.int .i64 xm) ∧ Below w.heap.size w u) (by kernel_rfl) (MS.out _ hbr.drew) (fun hd => ?_); refine tkW 0 rfl hd ?_; refine tkW 1 rfl hd ?_; refine tkW 2 rfl hd ?_; refine tkW 3 rfl hd ?_; refine tkW 4 rfl hd ?_; refine rdH 5 rfl (fun K hK => ?_)
         go_simp
         refine (DN.out _ hd).mono ?_; rintro e u1 ⟨rfl, hH⟩; clear hd; refine hK.out _ _ hH (fun hd => ?_); clear hK K
         try simp only [Act.put, lsA, lsZ, lsS]
         refine tkW 6 rfl hd ?_; refine tkW 7 rfl hd ?_; refine tkW 8 rfl hd ?_; refine tkW 9 rfl hd ?_; refine tkW 10 rfl hd ?_; refine tkW 11 rfl hd ?_; refine tkH 12 rfl (yieldsIf_load_mid (by kernel_rfl) 24 (.tmp 30) (by kernel_rfl) b (o + i * 22 + 2) (by kernel_rfl) ic _ (fun u hu => RID.out u hu.2.2) Tryz.underlying24 rfl LID.out) hd ?_; refine tkW 13 rfl hd ?_; refine tkW 14 rfl hd ?_; refine tkW 15 rfl hd ?_; refine tkW 16 rfl hd ?_; refine tkW 17 rfl hd ?_; refine tkW 18 rfl hd ?_; refine tkW 19 rfl hd ?_; refine tkW 20 rfl hd ?_; refine tkW 21 rfl hd ?_; refine tkW 22 rfl hd ?_; refine tkW 23 rfl hd ?_; refine tkW 24 rfl hd ?_; refine tkW 25 rfl hd ?_; refine tkW 26 rfl hd ?_; refine tkW 27 rfl hd ?_; refine tkW 28 rfl hd ?_; refine tkW 29 rfl hd ?_; refine tkW 30 rfl hd ?_; refine tkW 31 rfl hd ?_; refine tkW 32 rfl hd ?_; refine tkW 33 rfl hd ?_; refine tkW 34 rfl hd ?_; refine tkW 35 rfl hd ?_; refine tkW 36 rfl hd ?_; refine tkW 37 rfl hd ?_; refine tkW 38 rfl hd ?_; refine tkW 39 rfl hd ?_; refine tkH 40 rfl (yieldsIf_load_mid (by kernel_rfl) 77 (.tmp 58) (by kernel_rfl) b (o + p * 22) (by kernel_rfl) cp _ (fun u hu => RP.out u hu.2.2) Tryz.underlying77 rfl LP.out) hd ?_; refine tkW 41 rfl hd ?_; refine tkW 42 rfl hd ?_; refine tkW 43 rfl hd ?_; refine tkH 44 rfl (yieldsIf_load_mid (by kernel_rfl) 77 (.tmp 62) (by kernel_rfl) b (o + i * 22) (by kernel_rfl) cx _ (fun u hu => RX.out u hu.2.2) Tryz.underlying77 rfl LX.out) hd ?_
         refine rdH 45 rfl (fun K hK => ?_)
         go_simp
         refine (DB.out _ hd).mono ?_; rintro e u2 ⟨rfl, hH⟩; clear hd; refine hK.out _ _ hH (fun hd => ?_); clear hK K
         try simp only [Act.put, lsA, lsZ, lsS]
         refine tkW 46 rfl hd ?_; refine tkW 47 rfl hd ?_; refine tkW 48 rfl hd ?_; refine wpAnyH_done (by kernel_rfl) ?_ _; refine ⟨?_, hH.2.2⟩
         kernel_rfl
   ·rintro a' u ⟨he, hbu⟩
    generalize a'.tmps.getD 19 undef = s19 at he; generalize a'.tmps.getD 20 undef = s20 at he; generalize a'.tmps.getD 21 undef = s21 at he; generalize a'.tmps.getD 22 undef = s22 at he; generalize a'.tmps.getD 23 undef = s23 at he; generalize a'.tmps.getD 24 undef = s24 at he; generalize a'.tmps.getD 25 undef = s25 at he; generalize a'.tmps.getD 26 undef = s26 at he; generalize a'.tmps.getD 27 undef = s27 at he; generalize a'.tmps.getD 28 undef = s28 at he; generalize a'.tmps.getD 29 undef = s29 at he; generalize a'.tmps.getD 30 undef = s30 at he; generalize a'.tmps.getD 31 undef = s31 at he; generalize a'.tmps.getD 32 undef = s32 at he; generalize a'.tmps.getD 33 undef = s33 at he; generalize a'.tmps.getD 34 undef = s34 at he; generalize a'.tmps.getD 35 undef = s35 at he; generalize a'.tmps.getD 36 undef = s36 at he; generalize a'.tmps.getD 37 undef = s37 at he; generalize a'.tmps.getD 38 undef = s38 at he; generalize a'.tmps.getD 39 undef = s39 at he; generalize a'.tmps.getD 40 undef = s40 at he; generalize a'.tmps.getD 41 undef = s41 at he; generalize a'.tmps.getD 42 undef = s42 at he; generalize a'.tmps.getD 43 undef = s43 at he; generalize a'.tmps.getD 44 undef = s44 at he; generalize a'.tmps.getD 45 undef = s45 at he; generalize a'.tmps.getD 46 undef = s46 at he; generalize a'.tmps.getD 47 undef = s47 at he; generalize a'.tmps.getD 48 undef = s48 at he; generalize a'.tmps.getD 49 undef = s49 at he; generalize a'.tmps.getD 50 undef = s50 at he; generalize a'.tmps.getD 51 undef = s51 at he
    generalize a'.tmps.getD 52 undef = s52 at he; generalize a'.tmps.getD 53 undef = s53 at he; generalize a'.tmps.getD 54 undef = s54 at he; generalize a'.tmps.getD 55 undef = s55 at he; generalize a'.tmps.getD 56 undef = s56 at he; generalize a'.tmps.getD 57 undef = s57 at he; generalize a'.tmps.getD 58 undef = s58 at he; generalize a'.tmps.getD 59 undef = s59 at he; generalize a'.tmps.getD 60 undef = s60 at he; generalize a'.tmps.getD 61 undef = s61 at he; generalize a'.tmps.getD 62 undef = s62 at he; generalize a'.tmps.getD 63 undef = s63 at he; generalize a'.tmps.getD 64 undef = s64 at he; generalize a'.tmps.getD 65 undef = s65 at he; generalize a'.tmps.getD 66 undef = s66 at he; subst he; have HB := hyd hbu; clear hbu
    cases ra with
    | true =>
     have hR : false = R := by
      rw [← HR.out]; exact (right_no_step l i (by rw [← HN.out]; exact hlt) (by unfold stepI; have := HRA.out; cases ha : aheadI l i with | false => rfl | true => rw [ha] at this; cases this)).symm
     subst hR; go_wp2; go_ret; exact ⟨rfl, HB.out⟩
    | false =>
     have hah : aheadI l i = true := by have := HRA.out; cases ha : aheadI l i with | true => rfl | false => rw [ha] at this; cases this
     have HAH2 := hyd hah; clear hah; clear hbr
     go_wp2_with fail
     rename World => wo
     go_loopw [4] (fun v4 wr => ∃ k : Nat, k ≤ i ∧ v4 = .int .i64 k ∧ (∀ j, j < k → (l.getD j noI).name ≠ x.name) ∧ Below w.heap.size w wr) (fun v4 _ => i - (intOf v4).toNat)
     case atStart => exact ⟨0, Nat.zero_le _, rfl, fun j hj => absurd hj (Nat.not_lt_zero _), HB.out⟩
     case round =>
      obtain ⟨k, hki, rfl, hdf, hbk⟩ := hrel; have HDF := hyd hdf; clear hdf
      by_cases hkl : k < i
      ·have hkl2 : k < l.length := by rw [← HN.out]; omega
       obtain ⟨y, hy⟩ : ∃ y, l[k] = y := ⟨_, rfl⟩
       have hyg : l.getD k noI = y := by rw [List.getD_eq_getElem?_getD, List.getElem?_eq_getElem hkl2]; exact hy
       have q2 : ∀ u, Below w.heap.size w u → u.cell? ⟨b, o + k * 22 + 1, none⟩ = some (.string ⟨y.name.toArray⟩) := fun u hu => (hu.cell (p := ⟨b, o + k * 22 + 1, none⟩) hbl).trans (HC.out k hkl2 1 _ (by rw [hy]; rfl))
       have hkn : k < n := by omega
       by_cases hne : y.name = x.name
       ·have hR : false = R := by
         rw [← HR.out]; exact (right_no_step l i (by rw [← HN.out]; exact hlt) (by unfold stepI; rw [other_no l i k hkl (by rw [hyg, HXX.out]; exact hne), Bool.and_false])).symm
        subst hR; rw [hne, HSX.out] at q2; have K2 : wr.drew.cell? ⟨b, o + k * 22 + 1, none⟩ = some (.string sx) ∧ wr.drew.cell? ⟨b, o + i * 22 + 1, none⟩ = some (.string sx) ∧ Below w.heap.size w wr.drew := ⟨q2 _ hbk.drew, HQ1.out _ hbk.drew, hbk.drew⟩; clear q2 hyg hy hne hkl2 hbk
        go_wp2_with fail
        go_region_held3 (fun u => u.cell? ⟨b, o + k * 22 + 1, none⟩ = some (.string sx) ∧ u.cell? ⟨b, o + i * 22 + 1, none⟩ = some (.string sx) ∧ Below w.heap.size w u) (assumption) (fail)
        all_goals
         have HH := hyd K2.2.2; clear K2; go_wp2; go_ret; exact ⟨rfl, HH.out⟩
       ·obtain ⟨sy, hsy⟩ : ∃ sy : ByteArray, ⟨y.name.toArray⟩ = sy := ⟨_, rfl⟩
        rw [hsy] at q2
        have e2 : (sy.toList == sx.toList) = false := by
         rw [beq_eq_false_iff_ne]; intro e; rw [← hsy, ← HSX.out, toList_mk, toList_mk] at e; exact hne e
        have HNE := hyd (show (l.getD k noI).name ≠ x.name by rw [hyg]; exact hne); have K2 : wr.drew.cell? ⟨b, o + k * 22 + 1, none⟩ = some (.string sy) ∧ wr.drew.cell? ⟨b, o + i * 22 + 1, none⟩ = some (.string sx) ∧ Below w.heap.size w wr.drew := ⟨q2 _ hbk.drew, HQ1.out _ hbk.drew, hbk.drew⟩; clear q2 hyg hy hne hkl2 hbk hsy
        go_wp2_with fail
        go_region_held3 (fun u => u.cell? ⟨b, o + k * 22 + 1, none⟩ = some (.string sy) ∧ u.cell? ⟨b, o + i * 22 + 1, none⟩ = some (.string sx) ∧ Below w.heap.size w u) (assumption) (fail)
        all_goals
         have HH := hyd K2.2.2; clear K2; go_wp2
         go_roundw
         case rel => exact ⟨k + 1, by omega, by go_num, fun j hj => by
          by_cases hjk : j < k
          ·exact HDF.out j hjk
          ·obtain rfl : j = k := by omega
           exact HNE.out, HH.out⟩
         case measure => simp [intOf]; omega
      ·have hk2 : k = i := by omega
       have hstep : stepI l i = true := by
        unfold stepI; rw [HAH2.out, Bool.true_and, other_iff, HXX.out]
        exact fun j hj => HDF.out j (by omega)
       have HSTEP := hyd hstep; have HBK := hyd hbk; clear hk2 hstep hbk; go_wp2; refine ⟨?re2, ?me2⟩
       case re2 => exact ⟨i + 1, by omega, by go_num, fun j hj => by
        by_cases hji : j < i
        ·exact HST.out j hji
        ·obtain rfl : j = i := by omega
         exact HSTEP.out, HBK.out⟩
       case me2 => simp [intOf]; omega
  ·have hin : i = l.length := by rw [← HN.out]; omega
   have hR : true = R := by
    rw [← HR.out]; exact (right_yes l (by rw [← HN.out]; exact h1) (by rw [← HN.out]; exact h5) (fun j hj => HST.out j (by omega))).symm
   subst hR; clear hin; go_wp2; go_ret; exact ⟨rfl, hbr⟩
end Go.Proofs.YtnbcbiglkmdepaaGreatDoor
