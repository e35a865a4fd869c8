/-
  Layer 12, the program: slices.Backward over nodes: what comes, round by round.
-/
import Derived.Test.YtajmgjhknmkfpaaUl
import Derived.Test.YtajmgjhknmkfpaaXg
import Derived.Deep.MidRow
import Derived.RangeFuncNested
import Derived.RangeFuncBound
import Derived.RangeFuncCalls
import Derived.RangeFuncLeaves
import Derived.Shelf.AbstractIn
import Derived.WalkKit
import Derived.OwnWalkIn
import Derived.TacticsInMore
import Derived.RegionIn
import Derived.LoopNIn
import Derived.LoopIn
namespace Go.Proofs.Ytajmgjhknmkfpaa
set_option maxRecDepth 20000
open Go.RowKit Go.Maps
attribute [local go_sem] Oper.semAt_some
set_option linter.unusedVariables false
set_option linter.unusedSimpArgs false

theorem wpListIn_load_midG {F : Fence} {n : Nat} {ops : Array Oper} {rest : List Oper} {o : Oper} {a : Act} {w : World} {Q : Exit → Act → World → Prop} (hgd : o.guard = none) (ty : TypeId) (x : Operand) (ho : o.op = .load ty x)
    (b k : Nat) (hx : a.eval x = .pointer (some ⟨b, k, none⟩)) (cs : List Value) (d : TypeDesc) (hc : w.rangeAt b k cs)
    (hu : Try.prog.underlying ty = some d) (hd : d.isRow = true) (hi : (Try.prog.info? ty).map (·.size) = some cs.length)
    (h : wpListIn F n Try.prog ops Q rest (a.put o.dst (.agg cs.toArray)) w) : wpListIn F n Try.prog ops Q (o :: rest) a w := by
  refine wpListIn_plain hgd fun K hK => ?_
  unfold Oper.wpIn
  refine ⟨by simp [Oper.about, ho], ?_⟩
  rw [Oper.semAt_plain F _ _ (by rw [ho]; intro c hc; cases hc)]
  unfold execOp
  simp only [ho, hx, Instr.loadAt, Instr.sureAddr, Sem.run_bind, Sem.run_pure, Result.andThen_ok]
  rw [run_loadVar_mid w b k ty cs d hc hu (by cases d <;> first | rfl | cases hd) hi]
  exact hK _ _ h
/-- What a round keeps: all blocks of cells but one. -/
def KeepC (m : Nat) (W W' : World) : Prop := W.heap.size ≤ W'.heap.size ∧ ∀ k cs t fr, k ≠ m → W.heap[k]? = some (.cells cs t fr) → W'.heap[k]? = some (.cells cs t fr)
theorem KeepC.refl (m : Nat) (W : World) : KeepC m W W := ⟨Nat.le_refl _, fun _ _ _ _ _ h => h⟩
theorem KeepC.trans {m : Nat} {A B C : World} (h : KeepC m A B) (k : KeepC m B C) : KeepC m A C := ⟨Nat.le_trans h.1 k.1, fun i cs t fr hi hh => k.2 i cs t fr hi (h.2 i cs t fr hi hh)⟩
theorem KeepC.putObj (m : Nat) (W : World) (l : Nat) (o o' : Obj) (h : W.heap[l]? = some o) (hc : o.isCells = false) : KeepC m W (W.putObj l o') :=
  ⟨by simp [World.putObj], fun k cs t fr _ hk => (World.putObj_heap_other (fun e => by subst e; rw [hk] at h; cases h; cases hc)).trans hk⟩
theorem KeepC.chg {m : Nat} {W W' : World} (h : Chg (fun k => k = m) W W') : KeepC m W W' := ⟨h.size, fun k cs t fr hk hh => (h.block k (lt_of_heap hh) hk).trans hh⟩
theorem backward_in (F : Fence) (n : Nat) (hF : F.fn 47) (hro : F.round = none) (a : Option Addr) (len cap : Nat) (w : World) :
    CallsIn F n Try.prog 47 #[.slice a len cap] w fun e w' => e = .returned (.func (.func 50) #[] #[.pointer (some ⟨w.heap.size, 0, none⟩)]) ∧ w' = w.alloc (.cells #[.slice a len cap] 54) := by
  refine callsIn_of_wp Try.func47 rfl hF ?_ hro
  simp only [Try.ntmps47, List.size_toArray, List.length_cons, List.length_nil, Nat.reduceAdd, Nat.reduceSub, Array.replicate_succ, Array.replicate_zero, List.push_toArray, List.append_toArray, List.nil_append, List.cons_append]
  gi_wp2
  go_ret
  exact ⟨rfl, rfl⟩
/-- What has come when k are left. -/
def downTo (len k : Nat) : List Nat := ((List.range len).drop k).reverse
theorem downTo_top (len : Nat) : downTo len len = [] := by unfold downTo; rw [List.drop_of_length_le (by simp)]; rfl
theorem downTo_step (len k : Nat) (h : k < len) : downTo len k = downTo len (k + 1) ++ [k] := by
  unfold downTo
  rw [List.drop_eq_getElem_cons (by simpa using h), List.reverse_cons]
  simp
theorem downTo_len (len k : Nat) : (downTo len k).length = len - k := by unfold downTo; simp
/-- A node, with its place, as a round is handed it. -/
def encN (E : List Enn) (x : Fin E.length) : Array Value := #[.int .i64 (x.val : Int), .agg (cellsN E[x.val]).toArray]
set_option maxRecDepth 100000 in
set_option maxHeartbeats 4000000 in
theorem back1_in (F : Fence) (n : Nat) (hF : F.fn 50) (hro : F.round = none) (hn : 1 ≤ n) (l Bs m len cap : Nat) (a : Option Addr) (E : List Enn) (hE : E.length = len) (hle : len ≤ 1000000) (hok : ∀ e ∈ E, okN e) (J Jx : List (Fin E.length) → World → Prop)
    (hY : ∀ pre x W, J pre W → pre.length < E.length → YieldAt F (n - 1) Try.prog l (encN E x) W fun e W' =>
      (e = .returned (.bool true) ∧ J (pre ++ [x]) W' ∧ KeepC m W W') ∨ (e = .returned (.bool false) ∧ Jx (pre ++ [x]) W'))
    (W : World) (hBs : W.heap[Bs]? = some (.cells #[.slice a len cap] 54 (0, 0))) (hBm : Bs ≠ m) (hc : len ≤ cap)
    (hrow : ∀ (W' : World), KeepC m W W' → RowAt rowP W' a E) (h0 : J [] W) :
    CallsIn F n Try.prog 50 #[.func (.yield l) #[] #[], .pointer (some ⟨Bs, 0, none⟩)] W fun e W' => (∃ v, e = .returned v) ∧
      ((∃ ys : List (Fin E.length), ys.map Fin.val = (List.range len).reverse ∧ J ys W') ∨ (∃ pre : List (Fin E.length), True ∧ Jx pre W')) := by
  have HB := Lib.hid hBs; have HOK := Lib.hid hok; have HR := Lib.hid hrow; have HE := Lib.hid hE
  have c0 : W.cell? ⟨Bs, 0, none⟩ = some (.slice a len cap) := by rw [Lib.cell_of_heap hBs]; rfl
  clear hBs hok hrow
  refine callsIn_of_wp Try.func50 rfl hF ?_ hro
  simp only [Try.ntmps50, List.size_toArray, List.length_cons, List.length_nil, Nat.reduceAdd, Nat.reduceSub, Array.replicate_succ, Array.replicate_zero, List.push_toArray, List.append_toArray, List.nil_append, List.cons_append]
  have e0 : wrap64 ((len : Int) - 1) = (len : Int) - 1 := (by unfold wrap64; omega)
  gi_wp2
  gi_loopw [3] (fun i wr => ∃ (k : Nat) (ys : List (Fin E.length)), k ≤ len ∧ i = .int .i64 ((k : Int) - 1) ∧ ys.map Fin.val = downTo len k ∧ J ys wr ∧ KeepC m W wr)
    (fun i _ => (intOf i + 1).toNat)
  case atStart => exact ⟨len, [], Nat.le_refl _, rfl, (downTo_top len).symm, h0, KeepC.refl _ _⟩
  case round =>
    clear c0 e0
    obtain ⟨k, ys, hk, rfl, hys, hJs, hkc⟩ := hrel
    have KC := Lib.hid hkc; have HY2 := Lib.hid hys; have HJ := Lib.hid hJs
    clear hkc hys hJs
    rcases k with _ | q
    · have HD := Lib.hid (show ys.map Fin.val = (List.range len).reverse by rw [HY2.out]; unfold downTo; rw [List.drop_zero])
      have ez : (((0 : Nat) : Int) - 1) = -1 := rfl
      rw [ez]
      gi_wp2
      go_end0
      exact ⟨⟨_, rfl⟩, .inl ⟨ys, HD.out, HJ.out⟩⟩
    · have es : (((q + 1 : Nat)) : Int) - 1 = (q : Int) := by omega
      rw [es]
      have eq1 : wrap64 ((q : Int) - 1) = (q : Int) - 1 := (by unfold wrap64; omega)
      have hqE : q < E.length := by rw [HE.out]; omega
      obtain ⟨b, o, rfl, hb⟩ := (HR.out wr KC.out).some (by omega)
      have hel := (HR.out wr KC.out).elem q hqE
      obtain ⟨N, hN⟩ : ∃ N, (cellsN E[q]).toArray = N := ⟨_, rfl⟩
      have RW := Lib.hid (show wr.rangeAt b (o + q * 21) (cellsN E[q]) from hel)
      have IN := Lib.hid (show (Try.prog.info? 65).map (·.size) = some (cellsN E[q]).length by rw [cellsN_len _ (HOK.out _ (List.getElem_mem hqE))]; kernel_rfl)
      have hb1 := KC.out.2 Bs _ _ _ hBm HB.out
      have c1 : wr.cell? ⟨Bs, 0, none⟩ = some (.slice (some ⟨b, o, none⟩) len cap) := by rw [Lib.cell_of_heap hb1]; rfl
      obtain ⟨fn, tmps, assign, body, hy, hR⟩ := hY ys ⟨q, hqE⟩ wr HJ.out (by
        have h1 := congrArg List.length HY2.out
        rw [List.length_map, downTo_len] at h1
        have h2 := HE.out
        omega)
      unfold encN at hy
      simp only at hy
      rw [hN] at hy
      have g1 : (q : Int) < (len : Int) := by omega
      have g0 : (q : Int) ≥ 0 := by omega
      have DS := Lib.hid (downTo_step len q (by omega))
      clear hel hb hb1 es
      gi_wp2_with (first
        | (with_reducible refine wpListIn_load_midG rfl 65 (.tmp 15) rfl b (o + q * 21) rfl (cellsN E[q]) _ RW.out Try.underlying65 rfl IN.out ?_; rw [hN])
        | fail)
      refine hR.mono ?_
      rintro e W3 (⟨rfl, hJ3, hk3⟩ | ⟨rfl, hJx3⟩)
      · have J3 := Lib.hid hJ3; have K3 := Lib.hid (KC.out.trans hk3)
        clear hJ3 hk3
        gi_wp2
        go_roundw
        case rel => exact ⟨q, ys ++ [⟨q, hqE⟩], by omega, rfl, by rw [List.map_append, HY2.out, DS.out]; rfl, J3.out, K3.out⟩
        case measure => simp [intOf]
      · have J3 := Lib.hid hJx3
        clear hJx3
        gi_wp2
        refine bodyPost_ret (results_none rfl _ _ _) rfl ?_
        exact ⟨⟨_, rfl⟩, .inr ⟨_, trivial, J3.out⟩⟩
end Go.Proofs.Ytajmgjhknmkfpaa
