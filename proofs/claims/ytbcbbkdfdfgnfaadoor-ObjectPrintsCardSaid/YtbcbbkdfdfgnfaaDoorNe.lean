/-
  Layer 7: Print and Parse of the document's answers.
-/
import Derived.Test.YtbcbbkdfdfgnfaaDoorNc
import Derived.Test.YtbcbbkdfdfgnfaaDoorNd
import Derived.Test.YtbcbbkdfdfgnfaaDoorCb
import Derived.Test.YtbcbbkdfdfgnfaaDoorHelpB
import Derived.Laws.CopyOwn
import Derived.Laws.ResultCell
namespace Go.Proofs.YtbcbbkdfdfgnfaaDoor
open Go.RowKit
set_option linter.unusedVariables false
set_option linter.unusedSimpArgs false

theorem elem_sl : Tryd.prog.underlying 22 = some (.slice (Tryd.prog.elem 22)) := by kernel_rfl
/-- 'b[k:]'. -/
theorem sl_tail (a : Option Addr) (n c k : Nat) (l : List UInt8) (hn : n = l.length) (hk : k ≤ n) (hc : n ≤ c) :
    ∃ a', (∀ (x : Int) (u : World), x = k → (Instr.sliceAt 22 (.slice a n c) (some (.int .i64 x)) none none).run Tryd.prog u = .ok (.slice a' (n - k) (c - k)) u) ∧
      (∀ w, BAt w a l → BAt w a' (l.drop k)) ∧ (a' = none → a = none) := by
  obtain ⟨i, hi, hz, hs, hby⟩ := info_parts info_u8
  have e : Tryd.prog.elem 22 = 5 := by kernel_rfl
  refine ⟨if c = k then a else a.map (·.add (k * 1)), fun x u hx => ?_, fun w hb => ?_, fun h => ?_⟩
  · subst hx
    rw [run_sliceAt_slice (h := elem_sl), run_slice_l (ht := elem_sl) (h0 := by omega) (h1 := by omega)]
    rw [e]
    simp [sizeOf, typeInfo, hi, hs, Result.andThen, sliced]
  · subst hn
    by_cases hck : c = k
    · rw [if_pos hck]
      intro hp
      rw [List.length_drop] at hp; omega
    · rw [if_neg hck]
      intro hp
      rw [List.length_drop] at hp
      obtain ⟨b, o, rfl, h1, h2⟩ := hb (by omega)
      refine ⟨b, o + k, ?_, h1, fun j hj => ?_⟩
      · simp [Addr.add]
      · rw [List.length_drop] at hj
        rw [show o + k + j = o + (k + j) by omega, h2 (k + j) (by omega), List.getElem_drop]
  · by_cases hck : c = k
    · rwa [if_pos hck] at h
    · rw [if_neg hck] at h
      simpa using h

theorem roPrint_any (k : Int) (a : Option Addr) (n c : Nat) (l : List UInt8) (w : World) (hn : n = l.length) (hb : BAt w a l) (hno : a = none → n = 0 ∧ c = 0) (hc : n ≤ c) (hm : c ≤ maxLen) :
    Calls Tryd.prog 10 #[.agg #[.int .i64 k, .slice a n c]] w fun e w' => ∃ v, e = .returned (.tuple #[v, .int .i64 (printO k l).2]) ∧ Red w' v (printO k l).1 ∧ Below w.heap.size w w' := by
  by_cases hk : kindO k
  · by_cases hl : l.length ≤ 65536
    · rw [printO_ok k l hk hl]
      exact roPrint_ok k a n c l w hk (by omega) hn hb hno hc
    · rw [printO_limit k l hk (by omega)]
      refine (roPrint_limit k a n c w hk (by omega) (by omega)).mono ?_
      rintro e w' ⟨rfl, h⟩
      exact ⟨_, rfl, Red.none _, h⟩
  · rw [printO_kind k l hk]
    refine (roPrint_kind k _ w hk).mono ?_
    rintro e w' ⟨rfl, h⟩
    exact ⟨_, rfl, Red.none _, h⟩

/-- What stands at the beginning of an object of that kind. -/
theorem begins_obj (k : Int) (l b : List UInt8) (h : objO k b = l) : (l.take (wordO k ++ [32]).length == wordO k ++ [32]) = true := by
  subst h
  rw [beq_iff_eq]
  have e : objO k b = (wordO k ++ [32]) ++ (numO b.length ++ 0 :: b) := by unfold objO headO; simp
  rw [e, List.take_left]
/-- What a reading tells. -/
def ParsedO (l : List UInt8) (kk : Int) (body : List UInt8) (err : Int) : Prop := (takeO l = some (kk, body) ∧ err = 0) ∨ (takeO l = none ∧ kk = 0 ∧ body = [] ∧ err = 4)
theorem parsed_none {l : List UInt8} (h : takeO l = none) : ParsedO l 0 [] 4 := .inr ⟨h, rfl, rfl, rfl⟩
theorem parsed_some {l body : List UInt8} {k : Int} (hk : kindO k) (hl : body.length ≤ 65536) (h : objO k body = l) : ParsedO l k body 0 := .inl ⟨by rw [← h]; exact take_obj hk hl, rfl⟩
/-- None of the kinds ahead of this one. -/
def NotYet (l : List UInt8) (k : Nat) : Prop := ∀ kk : Int, kindO kk → kk < k → ∀ body, body.length ≤ 65536 → objO kk body ≠ l
theorem notyet_one (l : List UInt8) : NotYet l 1 := fun kk hk h => by rcases hk with rfl | rfl | rfl <;> omega
theorem notyet_more {l : List UInt8} {k : Nat} (h : NotYet l k) (hk : ∀ body, body.length ≤ 65536 → objO (k : Int) body ≠ l) : NotYet l (k + 1) := fun kk hkk hlt => by
  by_cases e : kk = k
  · subst e; exact hk
  · exact h kk hkk (by omega)
theorem notyet_all {l : List UInt8} (h : NotYet l 4) : takeO l = none := take_none fun k b hk hb => h k hk (by rcases hk with rfl | rfl | rfl <;> omega) b hb
/-- The body of an object is what stands behind its first zero. -/
theorem body_of {k : Int} {b l : List UInt8} (h : objO k b = l) : zeroAt l = (headO k b.length).length ∧ b = l.drop ((headO k b.length).length + 1) := by
  subst h
  have hz : (objO k b).findIdx (· == 0) = (headO k b.length).length := zero_first _ _ (headO_nz _ _)
  constructor
  · unfold zeroAt
    rw [hz, if_pos (by unfold objO; simp)]
  · rw [← List.drop_drop]
    show b = ((headO k b.length ++ 0 :: b).drop (headO k b.length).length).drop 1
    rw [List.drop_left]; rfl
theorem infoOb : (Tryd.prog.info? 24).map (·.size) = some 2 := by kernel_rfl
theorem infoOb2 (a b : Value) : (Tryd.prog.info? 24).map (·.size) = some (#[a, b] : Array Value).size := infoOb
theorem sizeOb2 (a b e f : Value) : (#[e, f] : Array Value).size = (#[a, b] : Array Value).size := rfl
/-- An object stored where one lies: the world behind it, by what is told of it. -/
theorem wpList_store_obj {ops : Array Oper} {rest : List Oper} {o : Oper} {a : Act} {w : World} {Q : Exit → Act → World → Prop} (hgd : o.guard = none) (x y : Operand) (ho : o.op = .store 24 x y)
    (g : Nat) (a0 a1 b0 b1 : Value) (hx : a.eval x = .pointer (some ⟨g, 0, none⟩)) (hy : a.eval y = .agg #[a0, a1]) (hg : w.heap[g]? = some (.cells #[b0, b1] 24 (0, 0)))
    (one : (#[a0, a1] : Array Value).all (·.oneCell') = true)
    (h : ∀ w', w'.heap[g]? = some (.cells #[a0, a1] 24 (0, 0)) → (∀ B w0, B ≤ g → Below B w0 w → Below B w0 w') → (∀ k, k ≠ g → w'.heap[k]? = w.heap[k]?) → w'.heap.size = w.heap.size → wpList Tryd.prog ops Q rest (a.put o.dst undef) w') :
    wpList Tryd.prog ops Q (o :: rest) a w := by
  refine wpList_store_row hgd 24 x y ho g #[a0, a1] hx hy 24 #[b0, b1] hg (infoOb2 _ _) (sizeOb2 _ _ _ _) one ?_
  refine h _ (setRow_heap w g _ _ _ (0, 0) hg) (fun B w0 hB hb => below_setRow hb hB _) (fun k hk => ?_) ?_
  · simp [World.setRow, Array.getElem?_modify]
    intro e; exact absurd e.symm hk
  · simp [World.setRow]
theorem results_obj {fn : Func} (h : fn.results = #[.cell 2 24, .tmp 3]) (tmps : Array Value) (w : World) (g : Nat) (cs : Array Value) (fr : Nat × Nat) (x : Value)
    (hp : tmps.getD 2 undef = .pointer (some ⟨g, 0, none⟩)) (hx : tmps.getD 3 undef = x) (hg : w.heap[g]? = some (.cells cs 24 fr)) (hn : cs.size = 2) :
    (results fn tmps).run Tryd.prog w = .ok (.tuple #[.agg cs, x]) w := by
  rw [results_cell_tmp h, hp, hx]
  have e : (asAddr (.pointer (some ⟨g, 0, none⟩))).run Tryd.prog w = .ok ⟨g, 0, none⟩ w := rfl
  rw [e]
  simp only [Result.andThen_ok]
  rw [run_loadVar_row w g 24 24 cs fr _ hg Tryd.underlying24 rfl (by rw [infoOb, hn])]
  rfl
theorem Row.red {w : World} {v : Value} {l : List UInt8} (h : Row w v l) : Red w v l := by
  obtain ⟨a, c, e, h1, h2, h3, h4⟩ := h.shape
  exact ⟨a, c, e, h3, h4, h1, h2⟩
theorem body_at {k : Int} {b l : List UInt8} {i : Nat} (hz : zeroAt l = (i : Int)) (h : objO k b = l) : b = l.drop (i + 1) := by
  obtain ⟨h1, h2⟩ := body_of h
  rw [hz] at h1
  have : i = (headO k b.length).length := by omega
  rw [this]; exact h2
theorem cells2 {w : World} {g : Nat} {a b : Value} {t : TypeId} {fr : Nat × Nat} (h : w.heap[g]? = some (.cells #[a, b] t fr)) :
    w.cell? ⟨g, 0, none⟩ = some a ∧ w.cell? ⟨g, 1, none⟩ = some b :=
  ⟨by rw [Lib.cell_of_heap h]; rfl, by rw [Lib.cell_of_heap h]; rfl⟩
theorem one_obj (k : Int) (a : Option Addr) (n c : Nat) : (#[.int .i64 k, .slice a n c] : Array Value).all (·.oneCell') = true := by simp [Value.oneCell']
end Go.Proofs.YtbcbbkdfdfgnfaaDoor
