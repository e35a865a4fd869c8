/-
  Texts that belong together, one behind the other.
-/
import Derived.Test.YtgbmbemmkadagaaFu10
import Derived.Test.YtgbmbemmkadagaaFu06
import Derived.Test.YtgbmbemmkadagaaFu08
import Derived.Test.YtgbmbemmkadagaaFu09
import Derived.Deep.RegionHeld3
/-
  bytes.Clone (cut out of Fb).
-/
namespace Go.Proofs.Ytgbmbemmkadagaa
open Go.RowKit
set_option linter.unusedVariables false

set_option maxHeartbeats 1000000 in
theorem bClone_any (l : List UInt8) (w : World) (a : Option Addr) (n c : Nat) (hb : BAt w a l) (hn : n = l.length) (hno : a = none → n = 0 ∧ c = 0) (hl : l.length ≤ 1099511627776) :
    Calls Try.prog 33 #[.slice a n c] w fun e w' => ∃ v', e = .returned v' ∧ Row w' v' l ∧ (∀ g, foot v' = some g → w.heap.size ≤ g) ∧ Below w.heap.size w w' := by
  subst hn
  have HB := Lib.hid hb; have HNO := Lib.hid hno
  clear hb hno
  cases a with
  | none =>
    have e1 := (HNO.out rfl).1
    obtain rfl : l = [] := List.eq_nil_of_length_eq_zero e1
    obtain rfl := (HNO.out rfl).2
    clear e1 HB HNO
    have qT : ∀ (w : World) (a : Option Addr) (n c n' c' : Nat), (binOp .eql 32 (.slice a n c) (.slice none n' c')).run Try.prog w = .ok (.bool a.isNone) w := fun w a n c n' c' => Lib.run_eql_slice_nil w _ _ a n c n' c' Try.underlying32
    go_enter Try.func33, Try.ntmps33
    go_wp2
    go_ret
    exact ⟨_, rfl, Row.nil _ _, fun g hg => by simp [foot] at hg, Below.refl _ _⟩
  | some ad =>
    have qT : ∀ (w : World) (a : Option Addr) (n c n' c' : Nat), (binOp .eql 32 (.slice a n c) (.slice none n' c')).run Try.prog w = .ok (.bool a.isNone) w := fun w a n c n' c' => Lib.run_eql_slice_nil w _ _ a n c n' c' Try.underlying32
    go_enter Try.func33, Try.ntmps33
    go_wp2_with (first
      | (at_builtin; refine wpList_append_row rfl (.tmp 5) (.tmp 6) rfl (.slice (some ⟨w.heap.size, 0, none⟩) 0 0) rfl [] l (Row.nil _ _) (some ad) l.length c rfl ((HB.out.below ((Below.refl _ w).alloc (Nat.le_refl _) _) (Nat.le_refl _))) rfl HNO.out (by simpa using hl) ?_; intro v' w' hap)
      | fail)
    obtain ⟨h1, h2, h3⟩ := hap
    have H1 := Lib.hid h1
    have hb2 : Below w.heap.size w w' := ((Below.refl _ w).alloc (Nat.le_refl _) _).grown h2 (by simp) (fun k hk => by rw [foot_zero] at hk; cases hk)
    have hf : ∀ g, foot v' = some g → w.heap.size ≤ g := fun g hg => by
      rcases h3 with h3 | h3 | h3
      · rw [h3, foot_zero] at hg; cases hg
      · rw [h3] at hg; cases hg
      · rw [h3] at hg; simp at hg; omega
    have HF := Lib.hid hf
    clear h1 h2 h3 hf
    go_wp2
    go_ret
    exact ⟨_, rfl, by simpa using H1.out, HF.out, hb2⟩
end Go.Proofs.Ytgbmbemmkadagaa

/-
  Layer 14: edits as rows of cells; an edit in a block of its own; a part of a row of bytes.
-/
namespace Go.Proofs.Ytgbmbemmkadagaa
set_option maxRecDepth 20000
open Go.RowKit
set_option linter.unusedVariables false
set_option linter.unusedSimpArgs false

/-- An edit in its three cells: its ends, its bytes, where they lie. -/
structure Edc where
  f : Int
  t : Int
  v : Value
  b : List UInt8
instance : Inhabited Edc := ⟨⟨0, 0, .slice none 0 0, []⟩⟩
def okDl (e : Edc) : Prop := ∃ a n c, e.v = .slice a n c
def cellsDl (e : Edc) : List Value := [.int .i64 e.f, .int .i64 e.t, e.v]
def arrDl (f t : Int) (v : Value) : Array Value := #[.int .i64 f, .int .i64 t, v]
def rowDl : RowT Edc := ⟨cellsDl, 3, 40, 93, 70, okDl⟩
theorem goodDl : RowT.Good rowDl Try.prog := rgood_of (by decide) (fun x _ => rfl) (fun x h v hv => by
  obtain ⟨a, n, c, e⟩ := h
  simp only [rowDl, cellsDl, List.mem_cons, List.not_mem_nil, or_false] at hv
  rcases hv with rfl | rfl | rfl
  · rfl
  · rfl
  · rw [e]; rfl) Try.underlying70 (by kernel_rfl) (by decide)
theorem arrDl_one (f t : Int) (a : Option Addr) (n c : Nat) : (arrDl f t (.slice a n c)).all (·.oneCell') = true := by simp [arrDl, Value.oneCell']
theorem zEdit : (Try.prog.info? 93).map (fun i => (i.zero, i.size)) = some (some (.agg (arrDl 0 0 (.slice none 0 0))), 3) := by kernel_rfl
theorem infoEdit : (Try.prog.info? 93).map (·.size) = some 3 := by kernel_rfl
theorem builtEdit0 : Try.prog.built 93 [] = some (arrDl 0 0 (.slice none 0 0)) := by kernel_rfl
theorem builtEdit (f t : Int) (a : Option Addr) (n c : Nat) : Try.prog.built 93 [(0, .int .i64 f), (1, .int .i64 t), (2, .slice a n c)] = some (arrDl f t (.slice a n c)) := by kernel_rfl
theorem results_edit {fn : Func} {p u : Tmp} (h : fn.results = #[.cell p 93, .tmp u]) (tmps : Array Value) (w : World) (g : Nat) (cs : Array Value) (fr : Nat × Nat) (x : Value)
    (hp : tmps.getD p undef = .pointer (some ⟨g, 0, none⟩)) (hx : tmps.getD u undef = x) (hg : w.heap[g]? = some (.cells cs 93 fr)) (hn : cs.size = 3) :
    (results fn tmps).run Try.prog w = .ok (.tuple #[.agg cs, x]) w := by
  rw [results_cell_tmp h, hp, hx]
  have e : (asAddr (.pointer (some ⟨g, 0, none⟩))).run Try.prog w = .ok ⟨g, 0, none⟩ w := rfl
  rw [e]
  simp only [Result.andThen_ok]
  rw [run_loadVar_row w g 93 93 cs fr _ hg Try.underlying93 rfl (by rw [infoEdit, hn])]
  rfl
/-- An edit's cells in a block of its own. -/
theorem edit_cells {w : World} {g : Nat} {E : Array Value} {T : TypeId} {fr : Nat × Nat} {f t : Int} {v : Value} (h : w.heap[g]? = some (.cells E T fr)) (e : arrDl f t v = E) :
    w.cell? ⟨g, 0, none⟩ = some (.int .i64 f) ∧ w.cell? ⟨g, 1, none⟩ = some (.int .i64 t) ∧ w.cell? ⟨g, 2, none⟩ = some v := by
  subst e
  exact ⟨(cell_of_row w g 0 _ _ _ h).trans rfl, (cell_of_row w g 1 _ _ _ h).trans rfl, (cell_of_row w g 2 _ _ _ h).trans rfl⟩
/-- A literal of an edit. -/
theorem wpList_build_edit {ops : Array Oper} {rest : List Oper} {o : Oper} {act : Act} {w : World} {Q : Exit → Act → World → Prop} (hgd : o.guard = none) (x0 x1 x2 : Operand) (ho : o.op = .build 93 #[(0, x0), (1, x1), (2, x2)])
    (f t : Int) (a : Option Addr) (n c : Nat) (h0 : act.eval x0 = .int .i64 f) (h1 : act.eval x1 = .int .i64 t) (h2 : act.eval x2 = .slice a n c) (E : Array Value) (hE : arrDl f t (.slice a n c) = E)
    (h : wpList Try.prog ops Q rest (act.put o.dst (.agg E)) w) : wpList Try.prog ops Q (o :: rest) act w :=
  wpList_build_as hgd 93 #[(0, x0), (1, x1), (2, x2)] ho E (by simp only [List.map_toArray, List.map_cons, List.map_nil, h0, h1, h2, builtEdit, hE]) h
/-- Edits that lie somewhere, with their bytes. -/
def EdAt (w : World) (a : Option Addr) (l : List Edc) : Prop := RowAt rowDl w a l ∧ ∀ e ∈ l, Red w e.v e.b
theorem EdAt.keep {w u : World} {a : Option Addr} {l : List Edc} (h : EdAt w a l) (b : Below w.heap.size w u) : EdAt u a l := ⟨h.1.keep b, fun e he => (h.2 e he).below b (Nat.le_refl _)⟩
theorem EdAt.ok {w : World} {a : Option Addr} {l : List Edc} (h : EdAt w a l) : ∀ e ∈ l, okDl e := fun e he => by
  obtain ⟨x, c, e1, _⟩ := h.2 e he
  exact ⟨x, _, c, e1⟩
/-- The k'th of them, cell by cell. -/
theorem EdAt.cells {w : World} {b o : Nat} {l : List Edc} (h : EdAt w (some ⟨b, o, none⟩) l) (k : Nat) (hk : k < l.length) :
    w.cell? ⟨b, o + k * 3, none⟩ = some (.int .i64 l[k].f) ∧ w.cell? ⟨b, o + k * 3 + 1, none⟩ = some (.int .i64 l[k].t) ∧ w.cell? ⟨b, o + k * 3 + 2, none⟩ = some l[k].v ∧ Red w l[k].v l[k].b := by
  obtain ⟨g, o', h1, h2, h3⟩ := h.1 (by omega)
  cases h1
  exact ⟨h3 k hk 0 _ rfl, h3 k hk 1 _ rfl, h3 k hk 2 _ rfl, h.2 _ (List.getElem_mem hk)⟩
/-- A list of one edit. -/
theorem wpList_build_oneE {ops : Array Oper} {rest : List Oper} {o : Oper} {a : Act} {w : World} {Q : Exit → Act → World → Prop} (hgd : o.guard = none) (x : Operand) (ho : o.op = .buildSlice 70 1 #[(0, x)])
    (A : Array Value) (hA : A.size = 3) (hx : a.eval x = .agg A)
    (h : wpList Try.prog ops Q rest (a.put o.dst (.slice (some ⟨w.heap.size, 0, none⟩) 1 1)) (w.alloc (.cells A 93))) : wpList Try.prog ops Q (o :: rest) a w :=
  wpList_build_oneR goodDl hgd x ho A hA hx h
/-- An append of edits that lie somewhere. -/
theorem wpList_append_edit {ops : Array Oper} {rest : List Oper} {o : Oper} {a : Act} {w : World} {Q : Exit → Act → World → Prop} (hgd : o.guard = none) (sl x : Operand)
    (ho : o.op = .call { callee := .builtin .append, args := #[sl, x], argTypes := #[70, 70] }) (B : Nat) (v : Value) (l m : List Edc) (ao : Option Addr) (n c : Nat) (hs : a.eval sl = v) (hx : a.eval x = .slice ao n c)
    (hn : n = m.length) (hrow : RowAt rowDl w ao m) (hok : ∀ x ∈ m, okDl x) (hokl : ∀ x ∈ l, okDl x) (hown : OwnR rowDl B v l w) (hb : l.length + m.length ≤ 1000000000) (hB : B ≤ w.heap.size)
    (h : ∀ v' w', OwnR rowDl B v' (l ++ m) w' → w.grownBy w' v.ownBlock → (v'.ownBlock = v.ownBlock ∨ v'.ownBlock = some w.heap.size) → wpList Try.prog ops Q rest (a.put o.dst v') w') : wpList Try.prog ops Q (o :: rest) a w :=
  wpList_append_atR goodDl hgd sl x ho B v l m ao n c hs hx hn hrow hok hokl hown hb hB h
/-- A row of bytes of a call's own may be read. -/
theorem Row.red {w : World} {v : Value} {l : List UInt8} (h : Row w v l) : Red w v l := by
  obtain ⟨a, c, h1, h2, h3, h4, h5⟩ := h.shape
  exact ⟨a, c, h1, h4, h5, h2, h3⟩
/-- What is read alone, taken apart. -/
theorem redP {w : World} {a : Option Addr} {n c : Nat} {l : List UInt8} (h : Red w (.slice a n c) l) : n = l.length ∧ BAt w a l ∧ (a = none → l.length = 0 ∧ c = 0) ∧ l.length ≤ c ∧ c ≤ maxLen := by
  obtain ⟨a', c', e, h1, h2, h3, h4⟩ := h
  simp only [Value.slice.injEq] at e
  obtain ⟨rfl, rfl, rfl⟩ := e
  exact ⟨rfl, h1, h2, h3, h4⟩
/-- A part of a row. -/
theorem bat_mid {w : World} {a : Option Addr} {l : List UInt8} (h : BAt w a l) (c k m : Nat) (hk : k ≤ m) (hm : m ≤ l.length) (hc : l.length ≤ c) : BAt w (if c = k then a else a.map (·.add k)) ((l.take m).drop k) := by
  have := bat_drop h c k (by omega) hc
  intro hp
  have hl : ((l.take m).drop k).length = m - k := by rw [List.length_drop, List.length_take]; omega
  obtain ⟨b, o, e, hb, hcell⟩ := this (by rw [List.length_drop]; omega)
  refine ⟨b, o, e, hb, fun i hi => ?_⟩
  rw [hcell i (by rw [List.length_drop]; omega)]
  congr 3
  simp
theorem no_mid {a : Option Addr} {n c k m : Nat} (h : a = none → n = 0 ∧ c = 0) (hk : k ≤ m) (hm : m ≤ n) (hx : (if c = k then a else a.map (·.add k)) = none) : m - k = 0 ∧ c - k = 0 := by
  cases a with
  | none => have := h rfl; omega
  | some ad => split at hx <;> simp at hx
/-- A new block stays, and what was there. -/
def KeepD (g : Nat) (Z : Array Value) (T : TypeId) (w0 w : World) : Prop := Below w0.heap.size w0 w ∧ w.heap[g]? = some (.cells Z T (0, 0))
theorem KeepD.keep {g : Nat} {Z : Array Value} {T : TypeId} {w0 w u : World} (h : KeepD g Z T w0 w) (hb : Below w.heap.size w u) : KeepD g Z T w0 u := ⟨h.1.trans (hb.mono h.1.size), (hb.block g (lt_of_heap h.2)).trans h.2⟩
theorem KeepD.drew {g : Nat} {Z : Array Value} {T : TypeId} {w0 w : World} (h : KeepD g Z T w0 w) : KeepD g Z T w0 w.drew := ⟨h.1.drew, h.2⟩
end Go.Proofs.Ytgbmbemmkadagaa
