/-
  Inside a fence: whole blocks stored and read; what reads as an id's key is an id.
-/
import Derived.Test.YtajmgjhknmkfpaaXb
import Derived.Test.YtajmgjhknmkfpaaGr
import Derived.OwnWalkIn
import Derived.TacticsInMore
namespace Go.Proofs.Ytajmgjhknmkfpaa
set_option maxRecDepth 20000
open Go.RowKit Go.Maps
set_option linter.unusedVariables false
set_option linter.unusedSimpArgs false

theorem wpListIn_store_all {F : Fence} {n : Nat} {ops : Array Oper} {rest : List Oper} {o : Oper} {a : Act} {w : World} {Q : Exit → Act → World → Prop} (hgd : o.guard = none) (ty : TypeId) (x y : Operand) (ho : o.op = .store ty x y) (g : Nat) (cells : Array Value)
    (hx : a.eval x = .pointer (some ⟨g, 0, none⟩)) (hy : a.eval y = .agg cells) (T : TypeId) (cur : Array Value) (hg : w.heap[g]? = some (.cells cur T (0, 0))) (hi : (Try.prog.info? ty).map (·.size) = some cells.size) (hfit : cells.size = cur.size)
    (h1 : cells.all (·.oneCell') = true)
    (h : ∀ w', w'.heap[g]? = some (.cells cells T (0, 0)) → w.grownBy w' (some g) → w'.heap.size = w.heap.size → wpListIn F n Try.prog ops Q rest (a.put o.dst undef) w') :
    wpListIn F n Try.prog ops Q (o :: rest) a w := by
  refine wpListIn_plain hgd fun K hK => ?_
  obtain ⟨ie, hie, hsz⟩ : ∃ ie, Try.prog.info? ty = some ie ∧ ie.size = cells.size := by
    cases e : Try.prog.info? ty with
    | none => rw [e] at hi; cases hi
    | some ie => rw [e] at hi; exact ⟨ie, rfl, Option.some.inj hi⟩
  have hst := run_storeCells_at Try.prog g 0 T cells.toList 0 cur w hg (by rw [Array.length_toList]; omega) (fun v hv => (Array.all_eq_true_iff_forall_mem.1 h1) v (by simpa using hv))
  have hrun : (storeVar ty ⟨g, 0, none⟩ (.agg cells)).run Try.prog w = .ok () (w.setRow g cells) := by
    have e : (cur.toList.take 0 ++ cells.toList ++ cur.toList.drop (0 + cells.size)).toArray = cells := by
      rw [List.take_zero, List.nil_append, Nat.zero_add, hfit, List.drop_of_length_le (by simp), List.append_nil]
    simp only [Nat.add_zero, Array.length_toList] at hst
    rw [e] at hst
    simp [storeVar, sizeOf, typeInfo, hie, hsz, Value.cells, hst]
  unfold Oper.wpIn
  refine ⟨by simp [Oper.about, ho], ?_⟩
  rw [Oper.semAt_plain F _ _ (by rw [ho]; intro c hc; cases hc)]
  unfold execOp
  simp only [ho, hx, hy, Instr.storeAt, Instr.sureAddr, Sem.run_bind, Sem.run_pure, Result.andThen_ok]
  rw [hrun]
  have b := below_setRow (B := g) (Below.refl g w) (Nat.le_refl _) cells
  refine hK _ _ (h _ (setRow_heap w g cur _ T (0, 0) hg) ⟨b.os, b.tape, b.output, b.size, fun k _ hk => ?_⟩ (by simp [World.setRow]))
  have hkg : ¬ g = k := fun e => hk (by rw [e])
  simp [World.setRow, Array.getElem?_modify, hkg]
theorem wpListIn_load_all {F : Fence} {n : Nat} {ops : Array Oper} {rest : List Oper} {o : Oper} {a : Act} {w : World} {Q : Exit → Act → World → Prop} (hgd : o.guard = none) (ty : TypeId) (x : Operand) (ho : o.op = .load ty x)
    (g : Nat) (A : Array Value) (T : TypeId) (fr : Nat × Nat) (hx : a.eval x = .pointer (some ⟨g, 0, none⟩)) (hg : w.heap[g]? = some (.cells A T fr)) (d : TypeDesc)
    (hu : Try.prog.underlying ty = some d) (hd : d.isRow = true) (hi : (Try.prog.info? ty).map (·.size) = some A.size)
    (h : wpListIn F n Try.prog ops Q rest (a.put o.dst (.agg A)) w) : wpListIn F n Try.prog ops Q (o :: rest) a w := by
  refine wpListIn_plain hgd fun K hK => ?_
  unfold Oper.wpIn
  refine ⟨by simp [Oper.about, ho], ?_⟩
  rw [Oper.semAt_plain F _ _ (by rw [ho]; intro c hc; cases hc)]
  unfold execOp
  simp only [ho, hx, Instr.loadAt, Instr.sureAddr, Sem.run_bind, Sem.run_pure, Result.andThen_ok]
  rw [run_loadVar_row w g T ty A fr d hg hu (by cases d <;> first | rfl | cases hd) hi]
  exact hK _ _ h
theorem mapM_some {α β : Type} {f : α → Option β} : ∀ {l : List α} {r : List β}, l.mapM f = some r → ∀ x ∈ l, ∃ y, f x = some y
  | [], _, _, x, hx => by cases hx
  | a :: l, r, h, x, hx => by
    rw [List.mapM_cons] at h
    cases ha : f a with
    | none => rw [ha] at h; cases h
    | some y =>
      cases hl : l.mapM f with
      | none => rw [ha, hl] at h; cases h
      | some ys =>
        rcases List.mem_cons.1 hx with rfl | hx
        · exact ⟨y, ha⟩
        · exact mapM_some hl x hx
/-- What reads as a key of the type of ids is an id. -/
theorem key_inv {v : Value} {l : Lit} (h : keyOf Try.prog 32 v = some l) : ∃ x : B20, v = encX x := by
  have hu : Try.prog.underlying 32 = some (.array 20 5) := Try.underlying32
  have hu8 : Try.prog.underlying 5 = some (.int .u8) := Try.underlying5
  have c1 : Try.prog.cellsOf 32 = 20 := by kernel_rfl
  have c2 : Try.prog.cellsOf 5 = 1 := by kernel_rfl
  unfold keyOf at h
  rw [hu] at h
  simp only at h
  split at h
  · rename_i hf
    have hf2 := (Bool.and_eq_true_iff.1 hf).2
    cases v with
    | agg cs =>
      obtain ⟨m, hm⟩ : ∃ m, Try.prog.types.size = m + 1 := Nat.exists_eq_succ_of_ne_zero (Nat.ne_of_gt (Nat.lt_of_le_of_lt (Nat.zero_le _) rowX))
      rw [hm] at h
      cases hk : Try.prog.keyLits (m + 1 + 1) 32 (Value.agg cs).cells.toList with
      | none => rw [hk] at h; cases h
      | some L =>
        clear h
        have hc : (Value.agg cs).cells.toList = cs.toList := rfl
        rw [hc, Program.keyLits.eq_def] at hk
        simp only [hu, c1, c2] at hk
        split at hk
        · rename_i hl
          cases hmm : (List.range 20).mapM (fun i => Try.prog.keyLits (m + 1) 5 ((cs.toList.drop (i * 1)).take 1)) with
          | none => rw [hmm] at hk; cases hk
          | some r =>
            have el : ∀ k (h : k < cs.toList.length), ∃ b : UInt8, cs.toList[k] = .int .u8 (b.toNat : Int) := by
              intro k hkl
              obtain ⟨y, hy⟩ := mapM_some hmm k (List.mem_range.2 (by omega))
              have e1 : (cs.toList.drop (k * 1)).take 1 = [cs.toList[k]] := by
                rw [Nat.mul_one, List.drop_eq_getElem_cons hkl, List.take_succ_cons, List.take_zero]
              rw [e1, Program.keyLits.eq_def] at hy
              simp only [hu8] at hy
              cases hv : cs.toList[k] with
              | int q z =>
                rw [hv] at hy
                simp only at hy
                split at hy
                · rename_i hq
                  obtain ⟨rfl, hw⟩ := hq
                  have e1 : IntKind.u8.min = 0 := rfl
                  have e2 : IntKind.u8.max = 255 := rfl
                  have hb : 0 ≤ z ∧ z ≤ 255 := by simpa [Lit.wf, e1, e2] using hw
                  refine ⟨UInt8.ofNat z.toNat, ?_⟩
                  rw [UInt8.toNat_ofNat']
                  congr 1
                  omega
                · cases hy
              | _ => rw [hv] at hy; simp at hy
            have hall : ∃ i : List UInt8, cs.toList = cellsD i := by
              refine ⟨cs.toList.map (fun v => match v with | .int _ z => UInt8.ofNat z.toNat | _ => 0), ?_⟩
              unfold cellsD
              apply List.ext_getElem
              · simp [Lib.byteCells]
              · intro k h1 h2
                obtain ⟨b, hb⟩ := el k h1
                simp only [Lib.byteCells, List.getElem_map, hb]
                congr 1
                have := b.toNat_lt
                rw [UInt8.toNat_ofNat']
                omega
            obtain ⟨i, hi⟩ := hall
            have h20 : i.length = 20 := by
              have := congrArg List.length hi
              rw [hl] at this
              simpa [cellsD, Lib.byteCells] using this.symm
            refine ⟨⟨i, h20⟩, ?_⟩
            unfold encX arrD
            congr 1
            rw [← hi]
        · cases hk
    | _ => simp [Value.formed, hu] at hf2
  · cases h
end Go.Proofs.Ytajmgjhknmkfpaa
