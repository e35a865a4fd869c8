/-
  Texts that belong together, one behind the other.
-/
import Derived.Test.YtnohonjjfjppoaaGreatDoorFu13
import Derived.Test.YtnohonjjfjppoaaGreatDoorFu22
import Derived.OwnWalkIn
import Derived.TacticsInMore
import Derived.RangeFuncNested
import Derived.RangeFuncBound
import Derived.RangeFuncCalls
import Derived.RangeFuncLeaves
import Derived.RangeFuncGives
import Derived.RangeFuncStops
import Derived.RangeFuncOne
import Derived.Maps.AppendAt
import Derived.Shelf.AbstractIn
import Derived.WalkKit
import Derived.RegionIn
import Derived.LoopNIn
import Derived.LoopIn
import Derived.Test.YtnohonjjfjppoaaGreatDoorFu31
import Derived.Test.YtnohonjjfjppoaaGreatDoorFu27
import Derived.Shelf.SlSortCmp.NoneTotal
import Derived.Sort.MapsRangeIn
import Derived.Laws.IdiomRangeMap
/-
  Inside a fence: whole blocks stored and read; what reads as an id's key is an id.
-/
namespace Go.Proofs.YtnohonjjfjppoaaGreatDoor
set_option maxRecDepth 20000
open Go.RowKit Go.Maps
set_option linter.unusedVariables false
set_option linter.unusedSimpArgs false
theorem wpListIn_store_all {F : Fence} {n : Nat} {ops : Array Oper} {rest : List Oper} {o : Oper} {a : Act} {w : World} {Q : Exit → Act → World → Prop} (hgd : o.guard = none) (ty : TypeId) (x y : Operand) (ho : o.op = .store ty x y) (g : Nat) (cells : Array Value)
    (hx : a.eval x = .pointer (some ⟨g, 0, none⟩)) (hy : a.eval y = .agg cells) (T : TypeId) (cur : Array Value) (hg : w.heap[g]? = some (.cells cur T (0, 0))) (hi : (Tryz.prog.info? ty).map (·.size) = some cells.size) (hfit : cells.size = cur.size)
    (h1 : cells.all (·.oneCell') = true)
    (h : ∀ w', w'.heap[g]? = some (.cells cells T (0, 0)) → w.grownBy w' (some g) → w'.heap.size = w.heap.size → wpListIn F n Tryz.prog ops Q rest (a.put o.dst undef) w') :
    wpListIn F n Tryz.prog ops Q (o :: rest) a w := by
  refine wpListIn_plain hgd fun K hK => ?_
  obtain ⟨ie, hie, hsz⟩ : ∃ ie, Tryz.prog.info? ty = some ie ∧ ie.size = cells.size := by
    cases e : Tryz.prog.info? ty with
    | none => rw [e] at hi; cases hi
    | some ie => rw [e] at hi; exact ⟨ie, rfl, Option.some.inj hi⟩
  have hst := run_storeCells_at Tryz.prog g 0 T cells.toList 0 cur w hg (by rw [Array.length_toList]; omega) (fun v hv => (Array.all_eq_true_iff_forall_mem.1 h1) v (by simpa using hv))
  have hrun : (storeVar ty ⟨g, 0, none⟩ (.agg cells)).run Tryz.prog w = .ok () (w.setRow g cells) := by
    have e : (cur.toList.take 0 ++ cells.toList ++ cur.toList.drop (0 + cells.size)).toArray = cells := by
      rw [List.take_zero, List.nil_append, Nat.zero_add, hfit, List.drop_of_length_le (by simp), List.append_nil]
    simp only [Nat.add_zero, Array.length_toList] at hst
    rw [e] at hst
    simp [storeVar, sizeOf, typeInfo, hie, hsz, Value.cells, hst]
  unfold Oper.wpIn
  refine ⟨by simp [Oper.about, ho], ?_⟩
  rw [Oper.semAt_plain F _ _ (by rw [ho]; intro c hc; cases hc)]
  unfold execOp
  simp only [ho, hx, hy, Instr.storeAt, Instr.sureAddr, Sem.run_bind, Sem.run_pure, Result.andThen_ok]
  rw [hrun]
  have b := below_setRow (B := g) (Below.refl g w) (Nat.le_refl _) cells
  refine hK _ _ (h _ (setRow_heap w g cur _ T (0, 0) hg) ⟨b.os, b.tape, b.output, b.size, fun k _ hk => ?_⟩ (by simp [World.setRow]))
  have hkg : ¬ g = k := fun e => hk (by rw [e])
  simp [World.setRow, Array.getElem?_modify, hkg]
theorem wpListIn_load_all {F : Fence} {n : Nat} {ops : Array Oper} {rest : List Oper} {o : Oper} {a : Act} {w : World} {Q : Exit → Act → World → Prop} (hgd : o.guard = none) (ty : TypeId) (x : Operand) (ho : o.op = .load ty x)
    (g : Nat) (A : Array Value) (T : TypeId) (fr : Nat × Nat) (hx : a.eval x = .pointer (some ⟨g, 0, none⟩)) (hg : w.heap[g]? = some (.cells A T fr)) (d : TypeDesc)
    (hu : Tryz.prog.underlying ty = some d) (hd : d.isRow = true) (hi : (Tryz.prog.info? ty).map (·.size) = some A.size)
    (h : wpListIn F n Tryz.prog ops Q rest (a.put o.dst (.agg A)) w) : wpListIn F n Tryz.prog ops Q (o :: rest) a w := by
  refine wpListIn_plain hgd fun K hK => ?_
  unfold Oper.wpIn
  refine ⟨by simp [Oper.about, ho], ?_⟩
  rw [Oper.semAt_plain F _ _ (by rw [ho]; intro c hc; cases hc)]
  unfold execOp
  simp only [ho, hx, Instr.loadAt, Instr.sureAddr, Sem.run_bind, Sem.run_pure, Result.andThen_ok]
  rw [run_loadVar_row w g T ty A fr d hg hu (by cases d <;> first | rfl | cases hd) hi]
  exact hK _ _ h
theorem mapM_some {α β : Type} {f : α → Option β} : ∀ {l : List α} {r : List β}, l.mapM f = some r → ∀ x ∈ l, ∃ y, f x = some y
  | [], _, _, x, hx => by cases hx
  | a :: l, r, h, x, hx => by
    rw [List.mapM_cons] at h
    cases ha : f a with
    | none => rw [ha] at h; cases h
    | some y =>
      cases hl : l.mapM f with
      | none => rw [ha, hl] at h; cases h
      | some ys =>
        rcases List.mem_cons.1 hx with rfl | hx
        · exact ⟨y, ha⟩
        · exact mapM_some hl x hx
/-- What reads as a key of the type of ids is an id. -/
theorem key_inv {v : Value} {l : Lit} (h : keyOf Tryz.prog 27 v = some l) : ∃ x : B20, v = encX x := by
  have hu : Tryz.prog.underlying 27 = some (.array 20 5) := Tryz.underlying27
  have hu8 : Tryz.prog.underlying 5 = some (.int .u8) := Tryz.underlying5
  have c1 : Tryz.prog.cellsOf 27 = 20 := by kernel_rfl
  have c2 : Tryz.prog.cellsOf 5 = 1 := by kernel_rfl
  unfold keyOf at h
  rw [hu] at h
  simp only at h
  split at h
  · rename_i hf
    have hf2 := (Bool.and_eq_true_iff.1 hf).2
    cases v with
    | agg cs =>
      obtain ⟨m, hm⟩ : ∃ m, Tryz.prog.types.size = m + 1 := Nat.exists_eq_succ_of_ne_zero (Nat.ne_of_gt (Nat.lt_of_le_of_lt (Nat.zero_le _) rowX))
      rw [hm] at h
      cases hk : Tryz.prog.keyLits (m + 1 + 1) 27 (Value.agg cs).cells.toList with
      | none => rw [hk] at h; cases h
      | some L =>
        clear h
        have hc : (Value.agg cs).cells.toList = cs.toList := rfl
        rw [hc, Program.keyLits.eq_def] at hk
        simp only [hu, c1, c2] at hk
        split at hk
        · rename_i hl
          cases hmm : (List.range 20).mapM (fun i => Tryz.prog.keyLits (m + 1) 5 ((cs.toList.drop (i * 1)).take 1)) with
          | none => rw [hmm] at hk; cases hk
          | some r =>
            have el : ∀ k (h : k < cs.toList.length), ∃ b : UInt8, cs.toList[k] = .int .u8 (b.toNat : Int) := by
              intro k hkl
              obtain ⟨y, hy⟩ := mapM_some hmm k (List.mem_range.2 (by omega))
              have e1 : (cs.toList.drop (k * 1)).take 1 = [cs.toList[k]] := by
                rw [Nat.mul_one, List.drop_eq_getElem_cons hkl, List.take_succ_cons, List.take_zero]
              rw [e1, Program.keyLits.eq_def] at hy
              simp only [hu8] at hy
              cases hv : cs.toList[k] with
              | int q z =>
                rw [hv] at hy
                simp only at hy
                split at hy
                · rename_i hq
                  obtain ⟨rfl, hw⟩ := hq
                  have e1 : IntKind.u8.min = 0 := rfl
                  have e2 : IntKind.u8.max = 255 := rfl
                  have hb : 0 ≤ z ∧ z ≤ 255 := by simpa [Lit.wf, e1, e2] using hw
                  refine ⟨UInt8.ofNat z.toNat, ?_⟩
                  rw [UInt8.toNat_ofNat']
                  congr 1
                  omega
                · cases hy
              | _ => rw [hv] at hy; simp at hy
            have hall : ∃ i : List UInt8, cs.toList = cellsD i := by
              refine ⟨cs.toList.map (fun v => match v with | .int _ z => UInt8.ofNat z.toNat | _ => 0), ?_⟩
              unfold cellsD
              apply List.ext_getElem
              · simp [Lib.byteCells]
              · intro k h1 h2
                obtain ⟨b, hb⟩ := el k h1
                simp only [Lib.byteCells, List.getElem_map, hb]
                congr 1
                have := b.toNat_lt
                rw [UInt8.toNat_ofNat']
                omega
            obtain ⟨i, hi⟩ := hall
            have h20 : i.length = 20 := by
              have := congrArg List.length hi
              rw [hl] at this
              simpa [cellsD, Lib.byteCells] using this.symm
            refine ⟨⟨i, h20⟩, ?_⟩
            unfold encX arrD
            congr 1
            rw [← hi]
        · cases hk
    | _ => simp [Value.formed, hu] at hf2
  · cases h
end Go.Proofs.YtnohonjjfjppoaaGreatDoor

/-
  slices.AppendSeq over ids, onto nothing: what the iterator gives, in that order, in a row of its own.
-/
namespace Go.Proofs.YtnohonjjfjppoaaGreatDoor
open Go.RowKit Go.Maps
attribute [local go_sem] Oper.semAt_some
set_option linter.unusedVariables false
set_option linter.unusedSimpArgs false
theorem wpListIn_build_idD {F : Fence} {n : Nat} {ops : Array Oper} {rest : List Oper} {o : Oper} {a : Act} {w : World} {Q : Exit → Act → World → Prop} (hgd : o.guard = none) (x : Operand) (ho : o.op = .buildSlice 61 1 #[(0, x)])
    (A : Array Value) (hA : A.size = 20) (hx : a.eval x = .agg A)
    (h : wpListIn F n Tryz.prog ops Q rest (a.put o.dst (.slice (some ⟨w.heap.size, 0, none⟩) 1 1)) (w.alloc (.cells A 27))) : wpListIn F n Tryz.prog ops Q (o :: rest) a w := by
  obtain ⟨ie, hie, hz, hs, _⟩ := infoD_all
  refine wpListIn_plain hgd fun K hK => ?_
  have e : (Array.map (fun (p : Nat × Operand) => (p.1, a.eval p.2)) #[(0, x)]) = #[(0, .agg A)] := by simp [hx]
  have hf : Instr.fill (fun i => some (i * ie.size, ie.size)) ((Array.range (1 * ie.size)).map ((Value.agg (arrD idZ)).cells[· % (Value.agg (arrD idZ)).cells.size]!)) (#[(0, Value.agg A)] : Array (Nat × Value)).toList = some A := by
    rw [hs]
    exact fillD_one A _ hA (by simp)
  unfold Oper.wpIn
  refine ⟨by simp [Oper.about, ho], ?_⟩
  rw [Oper.semAt_plain F _ _ (by rw [ho]; intro c hc; cases hc)]
  unfold execOp
  simp only [ho, Sem.run_bind]
  rw [show (fun (p : Nat × Operand) => match p with | (i, x) => (i, a.eval x)) = (fun (p : Nat × Operand) => (p.1, a.eval p.2)) from rfl, e, run_buildSlice w 61 27 1 _ A ie (.agg (arrD idZ)) Tryz.underlying61 hie hz (by rw [hs]; decide) (by rw [hs]; decide) hf]
  simp only [Result.andThen_ok]
  exact hK _ _ h
/-- The ids' cells, one behind the other. -/
def flatX (l : List B20) : List Value := l.flatMap (fun x => cellsD x.1)
theorem flatX_len (l : List B20) : (flatX l).length = l.length * 20 := by
  have := flatD_len (l.map Subtype.val) (fun i hi => by obtain ⟨x, _, rfl⟩ := List.mem_map.1 hi; exact x.2)
  rw [List.flatMap_map, List.length_map] at this
  exact this
/-- The frame of slices.AppendSeq while a round goes on: the loop's variable in a block of its own. -/
def frX (n0 Bx : Nat) (fv xv : Value) : Act := { tmps := #[.slice none 0 0, fv, .pointer (some ⟨n0, 0, none⟩), undef, .slice none 0 0, .pointer (some ⟨Bx, 0, none⟩), fv, xv, undef, undef, undef, undef, undef], defers := [] }
/-- Between two rounds: a row of its own holds what has come. -/
def IX (w : World) (pre : List B20) (W : World) : Prop :=
  (∃ v, Boxed W w.heap.size 61 v ∧ W.ownsRow w.heap.size 27 20 v pre.length (flatX pre) ∧ (v = .slice none 0 0 ↔ pre = [])) ∧ Below w.heap.size w W
theorem IX_own (w : World) (B : Nat) (hB : w.heap.size ≤ B) : OwnFrom B (IX w) := fun s W W' row h hg hr =>
  ⟨(holdsRow_own w.heap.size w.heap.size 61 27 20 (fun pre : List B20 => pre.length) (fun pre => flatX pre) (fun pre v => v = .slice none 0 0 ↔ pre = [])).from B s W W' row h.1 hg hr,
   ownFrom_below (β := List B20) (Nat.le_refl _) hB s W W' row h.2 hg hr⟩
/-- In a round: the loop's variable lies in a block of its own. -/
def AX (n0 : Nat) (fv : Value) (x : B20) (a' : Act) (W : World) : Prop := ∃ Bx, n0 < Bx ∧ W.heap[Bx]? = some (.cells (arrD x.1) 27 (0, 0)) ∧ a' = frX n0 Bx fv (encX x)
theorem AX_own (n0 B : Nat) (fv : Value) (x : B20) (a' : Act) : OwnFrom B (fun (_ : Unit) W => AX n0 fv x a' W) := by
  intro s W W' row ⟨Bx, h1, h2, h3⟩ hg hr
  refine ⟨Bx, h1, (hg.block Bx (Array.getElem?_eq_some_iff.1 h2).1 (fun e => ?_)).trans h2, h3⟩
  obtain ⟨_, o, ho, hc⟩ := hr Bx e.symm
  rw [h2] at ho
  cases ho
  cases hc
set_option maxRecDepth 100000 in
set_option maxHeartbeats 4000000 in
theorem appendSeqX_in (F : Fence) (n : Nat) (h11 : F.fn 121) (hro : F.round = none) (hn : 2 ≤ n) (g : Nat) (lb : Array Value) (hFg : F.fn g) (eg : ∀ args w, (callFunc g args).run Tryz.prog w = .ok (.enter g args) w)
    (S Sp : List B20 → Prop) (N : Nat) (hN : N ≤ 1000000) (w : World) (hseq : SeqStops F (n - 1) Tryz.prog g lb encX S Sp N w) (hS : ∀ l, S l → l.length ≤ N) :
    CallsIn F n Tryz.prog 121 #[.slice none 0 0, .func (.func g) #[] lb] w fun e w' => ∃ (v : Value) (ss : List B20), e = .returned v ∧ S ss ∧ w'.ownsRow w.heap.size 27 20 v ss.length (flatX ss) ∧ (v = .slice none 0 0 ↔ ss = []) ∧ Below w.heap.size w w' := by
  have h1 : 1 ≤ n := by omega
  obtain ⟨z, hz0, hzs, hzv, hzb, hz1⟩ := zId_any
  obtain ⟨ie, hie, hiz, his, hib⟩ := infoD_all
  have IZ := Lib.hid (show ∀ x : B20, (Tryz.prog.info? 27).map (·.size) = some (arrD x.1).size from fun x => by rw [arrD_size x.1 x.2]; exact infoD_n)
  have ZS := Lib.hid hzs
  clear hz0 hzb hz1 hzs
  refine callsIn_of_wp_marks Tryz.func121 rfl h11 ?_ hro
  simp only [Tryz.ntmps121, List.size_toArray, List.length_cons, List.length_nil, Nat.reduceAdd, Nat.reduceSub, Array.replicate_succ, Array.replicate_zero, List.push_toArray, List.append_toArray, List.nil_append, List.cons_append]
  gi_wp2
  have bO := Boxed.new w 61 (.slice none 0 0)
  have hB0 : Below w.heap.size w (w.alloc (.cells #[.slice none 0 0] 61)) := (Below.refl _ w).alloc (Nat.le_refl _) _
  refine wpIn_rangeFunc_ownH hro h1 (gf := g) (lb := lb) rfl hFg eg
    (encs := fun x => #[encX x]) (Kp := KeepsWalks) (S := S) (Sp := Sp) (N := N) (w0 := w.alloc (.cells #[.slice none 0 0] 61)) (seqStopsA_iff.1 (seqStops_iff.1 (hseq.later hB0))) walksK_t walksK_b (Below.refl _ _) (fun _ => rfl)
    (IX w) (fun _ _ _ => False) (IX_own w _ hB0.size) (fun _ _ _ _ _ hs _ _ => hs) ⟨⟨_, bO, World.ownsRow_nil _ _ _ _, by simp⟩, hB0⟩
    (AX w.heap.size (.func (.func g) #[] lb)) (fun x a' => AX_own _ _ _ x a') ?assign ?body ?done ?stop
  case assign =>
    intro l pre x W K hI hK
    obtain ⟨⟨v, hv, hrow, hnil⟩, hB⟩ := hI
    have hI : IX w pre W := ⟨⟨v, hv, hrow, hnil⟩, hB⟩
    have hlt := hv.lt
    clear hrow hnil hv
    obtain ⟨A, hA⟩ : ∃ A, arrD x.1 = A := ⟨_, rfl⟩
    have hAx : encX x = .agg A := by unfold encX; rw [hA]
    have IA := Lib.hid (hA ▸ IZ.out x : (Tryz.prog.info? 27).map (·.size) = some A.size)
    have SA := Lib.hid (show A.size = z.size from by rw [← hA, arrD_size x.1 x.2, ZS.out])
    have OA := Lib.hid (show A.all (·.oneCell') = true from by rw [← hA]; exact arrD_one _)
    have hw3 := heap_alloc_new W (.cells z 27)
    rw [hAx]
    gi_wp2_with (first
      | (with_reducible refine wpListIn_store_all rfl 27 (.tmp 5) (.tmp 7) rfl W.heap.size A rfl rfl 27 z hw3 IA.out SA.out OA.out ?_; intro w4 r4 g4 s4)
      | fail)
    have hg4 : W.grownBy w4 none := (World.grownBy_alloc W _ none).andThen g4 (fun j e => .inl (Nat.le_of_eq (Option.some.inj e)))
    refine hK _ w4 (KeepsFrom.of_grownBy hg4 (fun j e => by cases e)) (KeepsWalks.of_grownBy hg4 (fun j o e => by cases e)) (IX_own w _ (Nat.le_refl _) pre W w4 none hI hg4 (fun r e => by cases e)) ⟨W.heap.size, hlt, by rw [hA]; exact r4, by rw [hAx]; rfl⟩
  case body =>
    rintro l pre x a' W hl ⟨r, hr⟩ ⟨⟨v, hv, hrow, hnil⟩, hB⟩ ⟨Bx, hBx, bX, rfl⟩ hlt
    have hc := hv.cell
    obtain ⟨A, hA⟩ : ∃ A, arrD x.1 = A := ⟨_, rfl⟩
    have IA := Lib.hid (hA ▸ IZ.out x : (Tryz.prog.info? 27).map (·.size) = some A.size)
    have SA := Lib.hid (show A.size = 20 from by rw [← hA, arrD_size x.1 x.2])
    rw [hA] at bX
    have hrng := Lib.hid (fun (u : World) (hu : u.heap[W.heap.size]? = some (.cells A 27 (0, 0))) (j : Nat) (q : Value) (hq : (cellsD x.1)[j]? = some q) => (by
      have := row_cellsD (i := x.1) (by rw [← hA] at hu; exact hu) j q hq
      rw [show (⟨W.heap.size, 0, none⟩ : Addr).add j = ⟨W.heap.size, 0 + j, none⟩ by unfold Addr.add; split <;> simp_all]
      exact this : u.cell? ((⟨W.heap.size, 0, none⟩ : Addr).add j) = some q))
    have hnew := heap_alloc_new W (.cells A 27)
    unfold frX
    gi_wp2_with (first
      | (with_reducible refine wpListIn_load_all rfl 27 (.tmp 5) rfl Bx A 27 (0, 0) rfl bX _ Tryz.underlying27 rfl IA.out ?_)
      | (with_reducible refine wpListIn_build_idD rfl (.tmp 9) rfl A SA.out rfl ?_)
      | (gi_at_builtin; refine wpListIn_append_own _ rfl _ _ 61 rfl w.heap.size 27 ie (.agg (arrD idZ)) 20 20 Tryz.underlying61 hie hiz his hib (arrD_size _ (by simp [idZ])) (by decide) _ _ _ rfl (hrow.alloc _) ⟨W.heap.size, 0, none⟩ 1 1 (cellsD x.1) rfl (by rw [cellsD_len _ x.2]) (hrng.out _ hnew) (fun u hu => (Array.all_eq_true_iff_forall_mem.1 (cellsD_one x.1)) u (by simpa using hu)) (by unfold maxLen; omega) (by omega) (by have := hB.size; simp; omega) ?_; intro v' w1 hown' hgrow _; obtain ⟨g', cap', rfl⟩ := ownsRow_succ hown'; obtain ⟨hv1, hv2, hr2, hk2, hb2⟩ := hv.appended (by decide) hrow hB.size (Nat.le_refl _) hown' hgrow; have hc1 := hv1.cell; have hf1 := hv1.frozen)
      | fail)
    have hkw : KeepsWalks W _ := ⟨hk2.size, fun k o hk hw => hk2.same k o hk (by cases o <;> first | rfl | cases hw)⟩
    exact ⟨hk2.from _, hkw, ⟨⟨_, hv2, by rw [flatX, List.flatMap_append]; simpa [flatX] using hr2, by simp⟩, hB.trans hb2⟩⟩
  case done =>
    rintro D ys W hD hSy ⟨⟨v, hv, hrow, hnil⟩, hB⟩ hK
    have hc := hv.cell
    gi_wp2
    refine ⟨by simp, .inl ⟨_, _, rfl, run_takeDeferred hK, ?_⟩⟩
    exact ⟨_, results_tmp rfl _ _ _, v, ys, rfl, hSy, ownsRow_putObj hrow _ hK rfl, hnil, hB.trans (belowK_b (w := w) (Nat.le_refl _) W D _ _ (by simp at hD; omega) hK rfl rfl)⟩
  case stop =>
    rintro D c pre W _ _ h _
    exact h.elim
end Go.Proofs.YtnohonjjfjppoaaGreatDoor

/-
  slices.Collect and slices.SortedFunc over ids: what an iterator gives, in order, in a row of its own.
-/
namespace Go.Proofs.YtnohonjjfjppoaaGreatDoor
open Go.RowKit Go.Maps Go.Sort
attribute [local go_sem] Oper.semAt_some
set_option linter.unusedVariables false
set_option linter.unusedSimpArgs false
set_option maxHeartbeats 1000000 in
theorem collectX_in (F : Fence) (n : Nat) (h8 : F.fn 88) (h11 : F.fn 121) (hro : F.round = none) (hn : 3 ≤ n) (g : Nat) (lb : Array Value) (hFg : F.fn g) (eg : ∀ args w, (callFunc g args).run Tryz.prog w = .ok (.enter g args) w)
    (S Sp : List B20 → Prop) (N : Nat) (hN : N ≤ 1000000) (w : World) (hseq : SeqStops F (n - 1 - 1) Tryz.prog g lb encX S Sp N w) (hS : ∀ l, S l → l.length ≤ N) :
    CallsIn F n Tryz.prog 88 #[.func (.func g) #[] lb] w fun e w' => ∃ (v : Value) (ss : List B20), e = .returned v ∧ S ss ∧ w'.ownsRow w.heap.size 27 20 v ss.length (flatX ss) ∧ (v = .slice none 0 0 ↔ ss = []) ∧ Below w.heap.size w w' := by
  have h1 : 1 ≤ n := by omega
  refine callsIn_of_wp Tryz.func88 rfl h8 ?_ hro
  simp only [Tryz.ntmps88, List.size_toArray, List.length_cons, List.length_nil, Nat.reduceAdd, Nat.reduceSub, Array.replicate_succ, Array.replicate_zero, List.push_toArray, List.append_toArray, List.nil_append, List.cons_append]
  gi_wp2_with (gi_at_call 121; refine (appendSeqX_in F (n - 1) h11 hro (by omega) g lb hFg eg S Sp N hN _ hseq hS).mono ?_; rintro e w' ⟨v, ss, rfl, hSs, hrow, hnil, hb⟩)
  go_ret
  exact ⟨v, ss, rfl, hSs, hrow, hnil, hb⟩
/-- The sort's flat row is the ids' cells. -/
theorem flatK_is (ss : List B20) : flatK (fun x : B20 => cellsD x.1) 20 ss.toArray = (flatX ss).toArray := by
  refine ext_get! (by simp [flatX_len]) fun t ht => ?_
  have ht2 : t < ss.length * 20 := by simpa using ht
  rw [get_flatK _ _ _ t (by simpa using ht2)]
  have hq : t / 20 < ss.length := by omega
  have hr : t % 20 < 20 := Nat.mod_lt _ (by decide)
  have e1 : (ss.toArray)[t / 20]! = ss[t / 20] := by simp [hq]
  rw [e1]
  have hl : (cellsD ss[t / 20].1).length = 20 := cellsD_len _ ss[t / 20].2
  have hu : (cellsD ss[t / 20].1)[t % 20]? = some ((cellsD ss[t / 20].1)[t % 20]'(by omega)) := List.getElem?_eq_getElem (by omega)
  have h := flatD_at (ss.map Subtype.val) (fun i hi => by obtain ⟨x, _, rfl⟩ := List.mem_map.1 hi; exact x.2) (t / 20) (by simpa using hq) (t % 20) _ (by rw [List.getElem_map]; exact hu)
  rw [List.flatMap_map] at h
  have e2 : t / 20 * 20 + t % 20 = t := by omega
  rw [e2] at h
  have h2 : (flatX ss)[t]? = some ((cellsD ss[t / 20].1)[t % 20]'(by omega)) := h
  have e3 : (flatX ss).toArray[t]! = (cellsD ss[t / 20].1)[t % 20]'(by omega) := by
    rw [Array.getElem!_eq_getD, Array.getD_eq_getD_getElem?, List.getElem?_toArray, h2]
    rfl
  rw [e3, List.getElem!_eq_getElem?_getD, hu]
  rfl
theorem holdsX {w : World} {g : Nat} {cur : Array Value} {e : TypeId} (ss : List B20) (hb : w.heap[g]? = some (.cells cur e (0, 0))) (ht : cur.toList.take (ss.length * 20) = flatX ss) : HoldsK (fun x : B20 => cellsD x.1) 20 w g 0 ss.toArray := by
  unfold HoldsK
  rw [flatK_is]
  intro j hj
  have hj2 : j < (flatX ss).length := by simpa using hj
  have hj3 : j < ss.length * 20 := by rw [flatX_len] at hj2; exact hj2
  refine ⟨?_, by simp [World.frozen?, hb]⟩
  rw [Lib.cell_of_heap hb, Nat.zero_add, ← Array.getElem?_toList]
  have h1 : (cur.toList.take (ss.length * 20))[j]? = (flatX ss)[j]? := by rw [ht]
  rw [List.getElem?_take_of_lt hj3] at h1
  rw [h1, List.getElem?_eq_getElem hj2]
  simp [hj2]
theorem heap_sortX {w : World} {g n : Nat} {os : Array Obj} {cur : Array Value} {e : TypeId} {fr : Nat × Nat} (d : Array Value) (hb : w.heap[g]? = some (.cells cur e fr)) :
    (grow (putRow id (Sort.ahead w n) g 0 d) os).heap[g]? = some (.cells (putCells id 0 d cur) e fr) := by
  have hg : g < w.heap.size := (Array.getElem?_eq_some_iff.1 hb).1
  rw [heap_grow_old _ _ (by simpa using hg)]
  simp [putRow, mapBlock, Sort.ahead, Array.getElem?_modify, hb, onCells]
theorem grownBy_sortX {w : World} {g n : Nat} {os : Array Obj} (d : Array Value) : w.grownBy (grow (putRow id (Sort.ahead w n) g 0 d) os) (some g) := by
  refine ⟨rfl, rfl, rfl, by simp, fun k hk hne => ?_⟩
  rw [heap_grow_old _ _ (by simpa using hk)]
  have : g ≠ k := fun e => hne (by rw [e])
  simp [putRow, mapBlock, Sort.ahead, Array.getElem?_modify, this]
theorem take_putX (cur : Array Value) (ts : List Value) (h : ts.length ≤ cur.size) : (putCells id 0 ts.toArray cur).toList.take ts.length = ts := by
  apply List.ext_getElem?
  intro j
  by_cases hj : j < ts.length
  · rw [List.getElem?_take_of_lt hj, Array.getElem?_toList]
    simp [putCells, hj, show j < cur.size by omega]
  · rw [List.getElem?_take_eq_none (by omega), List.getElem?_eq_none (by omega)]
theorem isAggX (w : World) : (isAgg 27).run Tryz.prog w = .ok true w := Tryz.isAgg27 w
theorem sizeX (w : World) : (Go.sizeOf 27).run Tryz.prog w = .ok 20 w := Tryz.sizeOf27 w
theorem apartX (x y : B20) (h1 : ltOf cfX x y = false) (h2 : ltOf cfX y x = false) : x = y := by
  rw [ltX] at h1 h2
  simp only [decide_eq_false_iff_not] at h1 h2
  exact Subtype.ext (List.le_antisymm (show x.1 ≤ y.1 from h2) (show y.1 ≤ x.1 from h1))
/-- Ids in order are what a sort makes of them. -/
theorem sortX_is {ss T : List B20} (hp : ss.Perm T) (hT : T.Pairwise (fun a b => a.1 < b.1)) : ss.mergeSort (fun x y => !(ltOf cfX) y x) = T := by
  have tr : ∀ a b c : B20, (!(ltOf cfX) b a) = true → (!(ltOf cfX) c b) = true → (!(ltOf cfX) c a) = true := fun a b c h1 h2 => by
    simp only [Bool.not_eq_true'] at *
    exact swoX.ntrans c b a h2 h1
  have to9 : ∀ a b : B20, ((!(ltOf cfX) b a) || (!(ltOf cfX) a b)) = true := fun a b => by
    rw [ltX, ltX]
    by_cases h : b.1 < a.1
    · have : ¬ a.1 < b.1 := fun h2 => List.lt_irrefl _ (List.lt_trans h h2)
      simp [this]
    · simp [h]
  refine List.Perm.eq_of_pairwise (le := fun a b => (!(ltOf cfX) b a) = true) (fun a b _ _ h1 h2 => ?_) (List.pairwise_mergeSort tr to9 ss) (hT.imp (fun {a b} h => ?_)) ((List.mergeSort_perm ss _).trans hp)
  · simp only [Bool.not_eq_true'] at h1 h2
    exact apartX a b h2 h1
  · rw [ltX]
    have : ¬ b.1 < a.1 := fun h2 => List.lt_irrefl _ (List.lt_trans h h2)
    simp [this]
end Go.Proofs.YtnohonjjfjppoaaGreatDoor

/-
  maps.Keys over a map keyed by ids: the keys come, each once, in some order.
-/
namespace Go.Proofs.YtnohonjjfjppoaaGreatDoor
open Go.RowKit Go.Maps
attribute [local go_sem] Oper.semAt_some
set_option linter.unusedVariables false
set_option linter.unusedSimpArgs false
set_option maxRecDepth 100000 in
set_option maxHeartbeats 4000000 in
theorem keys1X_in (F : Fence) (n : Nat) (h10 : F.fn 90) (hro : F.round = none) (hn : 1 ≤ n) (l Bm b nn : Nat) (D0 : DataW Unit) (M : List B20) (hM : M.Nodup) (hD : ∀ x, Maps.has D0 (codeX x) = true ↔ x ∈ M) (J Jx : List B20 → World → Prop)
    (hY : ∀ pre x W, J pre W → pre.length < Maps.size D0 → YieldAt F (n - 1) Tryz.prog l #[encX x] W fun e W' =>
      (e = .returned (.bool true) ∧ J (pre ++ [x]) W' ∧ KeepsWalks W W') ∨ (e = .returned (.bool false) ∧ Jx (pre ++ [x]) W'))
    (W : World) (hJ : AbidesFrom W.heap.size J) (hm : W.cell? ⟨Bm, 0, none⟩ = some (.map (some b))) (hown : W.ownsMap Tryz.prog 27 anyElem b nn D0) (h0 : J [] W) :
    CallsIn F n Tryz.prog 90 #[.func (.yield l) #[] #[], .pointer (some ⟨Bm, 0, none⟩)] W fun e W' => (∃ v, e = .returned v) ∧
      ((∃ ss : List B20, ss.Perm M ∧ J ss W') ∨ (∃ pre : List B20, True ∧ Jx pre W')) := by
  obtain ⟨z, hz0, hzs, hzv, hzb, hz1⟩ := zId_any
  have IZ := Lib.hid (show ∀ x : B20, (Tryz.prog.info? 27).map (·.size) = some (arrD x.1).size from fun x => by rw [arrD_size x.1 x.2]; exact infoD_n)
  have ZS := Lib.hid hzs
  have hDD := Lib.hid hD
  clear hD hzs hz0 hzb hz1
  refine callsIn_of_wp Tryz.func90 rfl h10 ?_ hro
  simp only [Tryz.ntmps90, List.size_toArray, List.length_cons, List.length_nil, Nat.reduceAdd, Nat.reduceSub, Array.replicate_succ, Array.replicate_zero, List.push_toArray, List.append_toArray, List.nil_append, List.cons_append]
  gi_wp2_with (first
    | (gi_at_range; refine wpListIn_range_own _ rfl _ 64 rfl 27 100 idKeyed Tryz.underlying64 anyElem b nn _ rfl hown ?_; intro w0 hrg0 hg0 hs0)
    | gi_in)
  go_frame
  gi_loopw [3] (fun _ wr => ∃ (left : Lit → Bool) (cnt : Nat) (ss : List B20), wr.ranges Tryz.prog 27 anyElem b W.heap.size nn D0 left cnt ∧ ss.length + cnt ≤ Maps.size D0 ∧ CameX D0 left ss ∧ J ss wr)
    (fun _ wr => wr.rangeLeft b W.heap.size)
  case atStart =>
    exact ⟨_, _, [], hrg0, by simp, CameX.start D0, hJ [] W w0 none h0 hg0 (fun r e => by cases e)⟩
  case round =>
    obtain ⟨left, cnt, ss, hrg, hcs, hC, hJs⟩ := hrel
    gi_wp2_with (first
      | (gi_at_next; refine wpListIn_next_ranges _ rfl _ rfl 27 idKeyed anyElem encX id (fun key kl hk => key_inv hk) (fun v _ _ => ⟨v, rfl⟩) b W.heap.size nn _ _ _ rfl hrg ?_ ?_)
      | gi_in)
    · intro hc0 hl0
      gi_wp2
      go_end0
      exact ⟨⟨_, rfl⟩, .inl ⟨ss, hC.all hl0 hM hDD.out, hJs⟩⟩
    · intro xi xl c kl yd yp w2 cnt2 hkey hlk hv hat hrg2 hlt hg2 hs2 hen
      obtain ⟨x, hx⟩ : ∃ x : B20, (⟨xi, xl⟩ : B20) = x := ⟨_, rfl⟩
      rw [hx] at hkey hen ⊢
      clear hx xl xi hv yp
      obtain rfl : codeX x = kl := by
        have := code_is x
        rw [hkey] at this
        exact (Option.some.inj this).symm
      have hJ2 : J ss w2 := hJ ss wr w2 (some W.heap.size) hJs hg2 (fun r e => by cases e; exact ⟨Nat.le_refl _, hrg.iter_walk⟩)
      have hC2 := hC.step hlk hat
      have hw3 := heap_alloc_new w2 (.cells z 27)
      obtain ⟨A, hA⟩ : ∃ A, arrD x.1 = A := ⟨_, rfl⟩
      have hAx : encX x = .agg A := by unfold encX; rw [hA]
      have IA := Lib.hid (hA ▸ IZ.out x : (Tryz.prog.info? 27).map (·.size) = some A.size)
      have SA := Lib.hid (show A.size = z.size from by rw [← hA, arrD_size x.1 x.2, ZS.out])
      have OA := Lib.hid (show A.all (·.oneCell') = true from by rw [← hA]; exact arrD_one _)
      clear hs2
      rw [hAx] at hen ⊢
      gi_wp2_with (first
        | (with_reducible refine wpListIn_store_all rfl 27 (.tmp 3) (.tmp 9) rfl w2.heap.size A rfl rfl 27 z hw3 IA.out SA.out OA.out ?_; intro w4 r4 g4 s4
           have hg4 : w2.grownBy w4 none := (World.grownBy_alloc w2 _ none).andThen g4 (fun j e => .inl (Nat.le_of_eq (Option.some.inj e)))
           have hrg4 := (hrg2.alloc (.cells z 27)).kept g4 (fun e => by have h8 := hrg2.owns.lt; have h9 := Option.some.inj e; omega) (fun e => by have h8 := hrg2.lt; have h9 := Option.some.inj e; omega)
           have hJ4 : J ss w4 := hJ ss w2 w4 none hJ2 hg4 (fun r e => by cases e)
           obtain ⟨fn, tmps, assign, body, hy, hR⟩ := hY ss x w4 hJ4 (by omega)
           rw [hAx] at hy
           clear hg4 hJ4 s4 g4)
        | (with_reducible refine wpListIn_load_all rfl 27 (.tmp 3) rfl w2.heap.size A 27 (0, 0) rfl r4 _ Tryz.underlying27 rfl IA.out ?_)
        | fail)
      refine hR.mono ?_
      rintro e W3 (⟨rfl, hJ3, hk3⟩ | ⟨rfl, hJx3⟩)
      · gi_wp2
        have hrg3 := hrg4.of_walks hk3
        go_roundw
        case rel => exact ⟨_, cnt2, ss ++ [x], hrg3, by simp; omega, hC2, hJ3⟩
        case measure => rw [hrg3.left_eq, hrg.left_eq]; exact hlt
      · gi_wp2
        refine bodyPost_ret (results_none rfl _ _ _) rfl ?_
        exact ⟨⟨_, rfl⟩, .inr ⟨ss ++ [x], trivial, hJx3⟩⟩
set_option maxRecDepth 100000 in
set_option maxHeartbeats 4000000 in
/-- .. of a nil map: none. -/
theorem keys1X_nil (F : Fence) (n : Nat) (h10 : F.fn 90) (hro : F.round = none) (l Bm : Nat) (J : List B20 → World → Prop) (W : World) (hJ : AbidesFrom W.heap.size J)
    (hm : W.cell? ⟨Bm, 0, none⟩ = some (.map none)) (h0 : J [] W) :
    CallsIn F n Tryz.prog 90 #[.func (.yield l) #[] #[], .pointer (some ⟨Bm, 0, none⟩)] W fun e W' => (∃ v, e = .returned v) ∧ J [] W' := by
  refine callsIn_of_wp Tryz.func90 rfl h10 ?_ hro
  simp only [Tryz.ntmps90, List.size_toArray, List.length_cons, List.length_nil, Nat.reduceAdd, Nat.reduceSub, Array.replicate_succ, Array.replicate_zero, List.push_toArray, List.append_toArray, List.nil_append, List.cons_append]
  have hrg := run_range_nilMap (P := Tryz.prog) W 64 27 100 Tryz.underlying64
  have hnx : ∀ ty, (Instr.next (.pointer (some ⟨W.heap.size, 0, none⟩)) false ty).run Tryz.prog (W.alloc (.mapIter none 0 #[] 0)) = _ := fun ty => run_next_nilMap _ ty 0 0 #[]
  gi_wp2
  refine wpIn_loop_rounds 1 ?_
  rw [roundsIn_succ]
  gi_wp2
  go_end0
  exact ⟨⟨_, rfl⟩, hJ [] W _ none h0 (World.grownBy_alloc W _ none) (fun r e => by cases e)⟩
set_option maxHeartbeats 1000000 in
theorem keysX_in (F : Fence) (n : Nat) (h7 : F.fn 54) (hro : F.round = none) (mb : Option Nat) (w : World) :
    CallsIn F n Tryz.prog 54 #[.map mb] w fun e w' => e = .returned (.func (.func 90) #[] #[.pointer (some ⟨w.heap.size, 0, none⟩)]) ∧ w' = w.alloc (.cells #[.map mb] 64) := by
  refine callsIn_of_wp Tryz.func54 rfl h7 ?_ hro
  simp only [Tryz.ntmps54, List.size_toArray, List.length_cons, List.length_nil, Nat.reduceAdd, Nat.reduceSub, Array.replicate_succ, Array.replicate_zero, List.push_toArray, List.append_toArray, List.nil_append, List.cons_append]
  gi_wp2
  go_ret
  exact ⟨rfl, rfl⟩
end Go.Proofs.YtnohonjjfjppoaaGreatDoor
