/-
  Texts that belong together, one behind the other.
-/
import Derived.Test.YtpelehhmdcjikaaGreatDoorFu02
import Derived.Lib.Strings
import Derived.Test.YtpelehhmdcjikaaGreatDoorFu06
import Derived.Lib.Hide
import Derived.Deep.RegionHeld3
import Derived.Lib.Bytes
import Derived.IntWalk
import Derived.WalkSmall
import Derived.Test.YtpelehhmdcjikaaGreatDoorFu04
import Derived.OwnWalk
import Derived.OrdersHeld
import Derived.Deep.RegionHeld
import Derived.Test.YtpelehhmdcjikaaGreatDoorFu05
import Derived.Laws.IdiomStrings
import Derived.Lib.FrozenHead2
/-
  A text's bytes by their places, and pieces of it.
-/
namespace Go.Proofs.YtpelehhmdcjikaaGreatDoor
open Go.RowKit
set_option linter.unusedVariables false
set_option linter.unusedSimpArgs false
theorem getD_str (l : List UInt8) (i : Nat) (h : i < l.length) (h2 : i < (⟨l.toArray⟩ : ByteArray).size) : (⟨l.toArray⟩ : ByteArray)[i]'h2 = l.getD i 0 := by
  simp [List.getD_eq_getElem?_getD, h, ByteArray.getElem_eq_getElem_data]
theorem ext_list (l : List UInt8) (a b : Nat) : (⟨l.toArray⟩ : ByteArray).extract a b = ⟨((l.drop a).take (b - a)).toArray⟩ := by
  apply ByteArray.ext
  simp [List.drop_take]
theorem ext_take (l : List UInt8) (b : Nat) : (⟨l.toArray⟩ : ByteArray).extract 0 b = ⟨(l.take b).toArray⟩ := by rw [ext_list]; simp
theorem ext_drop (l : List UInt8) (a : Nat) : (⟨l.toArray⟩ : ByteArray).extract a l.length = ⟨(l.drop a).toArray⟩ := by
  rw [ext_list, List.take_of_length_le (by simp)]
theorem empty_list (l : List UInt8) : (⟨l.toArray⟩ : ByteArray).toList.isEmpty = decide (l.length = 0) := by
  rw [Lib.toList_data]
  cases l <;> rfl
theorem list_text (l : List UInt8) : (⟨l.toArray⟩ : ByteArray).toList = l := by rw [Lib.toList_data]
end Go.Proofs.YtpelehhmdcjikaaGreatDoor

/-
  Items in memory; what orders them.
-/
namespace Go.Proofs.YtpelehhmdcjikaaGreatDoor
set_option maxRecDepth 20000
open Go.RowKit
set_option linter.unusedVariables false
set_option linter.unusedSimpArgs false
/-- The order of texts. -/
theorem less_is : ∀ (x y : List UInt8), Op.bytesLess x y = decide (x < y)
  | [], [] => by simp [Op.bytesLess]
  | [], d :: y => by simp [Op.bytesLess]
  | c :: x, [] => by simp [Op.bytesLess]
  | c :: x, d :: y => by
    rw [Op.bytesLess, less_is x y]
    simp only [List.cons_lt_cons_iff]
    by_cases h1 : c < d <;> by_cases h2 : c = d <;> by_cases h3 : x < y <;> simp [h1, h2, h3]
theorem toList_mk (l : List UInt8) : (⟨l.toArray⟩ : ByteArray).toList = l := by
  rw [← strOfNums_toNat, Lib.strOfNums_toList]
  unfold Lib.bytesOf
  rw [List.map_map]
  conv => rhs; rw [← List.map_id l]
  apply List.map_congr_left
  intro c _
  simp
theorem less_mk (x y : List UInt8) : Op.bytesLess (⟨x.toArray⟩ : ByteArray).toList (⟨y.toArray⟩ : ByteArray).toList = decide (x < y) := by rw [toList_mk, toList_mk, less_is]
/-- An item's cells. -/
def cellsI (i : Itm) : List Value := .int .i64 i.mode :: .string ⟨i.name.toArray⟩ :: Lib.byteCells i.id
theorem cellsI_len (i : Itm) (h : i.id.length = 20) : (cellsI i).length = 22 := by simp [cellsI, Lib.byteCells, h]
theorem cellsI_one (i : Itm) : (cellsI i).toArray.all (·.oneCell') = true := by
  rw [Array.all_eq_true']
  intro x hx
  simp only [List.mem_toArray, cellsI, List.mem_cons, Lib.byteCells, List.mem_map] at hx
  rcases hx with rfl | rfl | ⟨c, _, rfl⟩ <;> rfl
/-- Items, one behind the other. -/
def ItemsAt (w : World) (a : Option Addr) (l : List Itm) : Prop :=
  0 < l.length → ∃ b o, a = some ⟨b, o, none⟩ ∧ b < w.heap.size ∧ ∀ k (h : k < l.length) j v, (cellsI l[k])[j]? = some v → w.cell? ⟨b, o + k * 22 + j, none⟩ = some v
theorem ItemsAt.keep {w w' : World} {a : Option Addr} {l : List Itm} (h : ItemsAt w a l) (b : Below w.heap.size w w') : ItemsAt w' a l := fun hp => by
  obtain ⟨g, o, h1, h2, h3⟩ := h hp
  exact ⟨g, o, h1, Nat.lt_of_lt_of_le h2 b.size, fun k hk j v hv => (b.cell (p := ⟨g, o + k * 22 + j, none⟩) h2).trans (h3 k hk j v hv)⟩
theorem ItemsAt.nil (w : World) (a : Option Addr) : ItemsAt w a [] := fun h => absurd h (Nat.lt_irrefl 0)
theorem ItemsAt.take {w : World} {a : Option Addr} {l : List Itm} (h : ItemsAt w a l) (n : Nat) : ItemsAt w a (l.take n) := fun hp => by
  have hp2 : 0 < l.length := by rw [List.length_take] at hp; omega
  obtain ⟨g, o, h1, h2, h3⟩ := h hp2
  refine ⟨g, o, h1, h2, fun k hk j v hv => ?_⟩
  rw [List.length_take] at hk
  rw [List.getElem_take] at hv
  exact h3 k (by omega) j v hv
/-- An item's cells in a block of its own. -/
theorem row_cells {w : World} {g : Nat} {i : Itm} {t : TypeId} {fr : Nat × Nat} (h : w.heap[g]? = some (.cells (cellsI i).toArray t fr)) : ∀ j v, (cellsI i)[j]? = some v → w.cell? ⟨g, 0 + j, none⟩ = some v := fun j v hv => by
  rw [Nat.zero_add, Lib.cell_of_heap h, ← hv]
  simp
end Go.Proofs.YtpelehhmdcjikaaGreatDoor

/-
  Layer 10, the document's answers: where an id stands.
-/
namespace Go.Proofs.YtpelehhmdcjikaaGreatDoor
set_option maxRecDepth 20000
open Go.RowKit
set_option linter.unusedVariables false
set_option linter.unusedSimpArgs false
/-- One of a store's cells: its id, its kind, its bytes. -/
theorem CelsAt.id {S : Nat → Prop} {w : World} {g b o : Nat} {E : List Ent} (h : CelsAt S w g (some ⟨b, o, none⟩) E) (k : Nat) (hk : k < E.length) : w.rangeAt b (o + k * 22) (cellsD E[k].c.id) := by
  have hr := h.row.elem k hk
  intro j v hv
  have hl : j < (cellsD E[k].c.id).length := (List.getElem?_eq_some_iff.1 hv).1
  refine hr j v ?_
  show (cellsE E[k])[j]? = some v
  unfold cellsE
  rw [List.getElem?_append_left hl]
  exact hv
end Go.Proofs.YtpelehhmdcjikaaGreatDoor

/-
  The walk of a region that draws its order, S not asked behind the operations X: those wait for every load that leans on S.
-/
namespace Go.Proofs.YtpelehhmdcjikaaGreatDoor
open Go
section
variable {P : Program} {ops : Array Oper} {Q : Exit → Act → World → Prop} {md : Region.Mode} {S : World → Prop} {X : Nat → Bool}
/-- Whatever order is picked from here on; behind every operation that is none of X, S holds. -/
def wpAnyX (P : Program) (md : Region.Mode) (ops : Array Oper) (Q : Exit → Act → World → Prop) (S : World → Prop) (X : Nat → Bool) : Nat → Array Bool → Act → World → Prop
  | 0, listed, a, w => Region.ready md ops listed = [] ∧ Q .normal a w
  | fuel + 1, listed, a, w =>
    (Region.ready md ops listed = [] → Q .normal a w) ∧
    ∀ i ∈ Region.ready md ops listed, wpOp P ops Q i (fun a' w' => (S w' ∨ X i = true) ∧ wpAnyX P md ops Q S X fuel (listed.setIfInBounds i true) a' w') a w
theorem wpAny_ofX : ∀ (fuel : Nat) (listed : Array Bool) (a : Act) (w : World), wpAnyX P md ops Q S X fuel listed a w → wpAny P md ops Q fuel listed a w
  | 0, _, _, _, h => h
  | fuel + 1, _, _, _, h => ⟨h.1, fun i hi => wpOp_mono (fun a' w' h' => wpAny_ofX fuel _ a' w' h'.2) (h.2 i hi)⟩
/-- An operation that leans on S may be taken first, if all of X wait for it. -/
theorem wpAnyX_first {i : Nat} {oi : Oper} {v : Value} (hi : ops[i]? = some oi) (hsel : ∀ (j : Nat) (o : Oper) cs b, ops[j]? = some o → o.op ≠ .select cs b)
    (hQ : ∀ c a w, Q (.panic c) (a.put oi.dst v) w → Q (.panic c) a w) (hX : ∀ j oj, ops[j]? = some oj → X j = true → ∃ e ∈ oj.after, Region.binds md e = true ∧ e.on = i) :
    ∀ (fuel : Nat) (listed : Array Bool) (a : Act) (w : World),
      (∀ j oj, ops[j]? = some oj → j ≠ i → listed.getD j true = false → (∀ e ∈ oj.after, Region.binds md e = true → e.on ≠ i) → oi.apart ops oj = true) →
      i ∈ Region.ready md ops listed → YieldsIf P ops S oi v a → S w →
      wpAnyX P md ops Q S X fuel (listed.setIfInBounds i true) (a.put oi.dst v) w → wpAnyX P md ops Q S X (fuel + 1) listed a w := by
  intro fuel
  induction fuel with
  | zero =>
    intro listed a w _ hr hy hS H
    refine ⟨fun h => (by rw [h] at hr; cases hr), fun j hj => ?_⟩
    by_cases hji : j = i
    · subst hji; exact hy.wpOp hi hS ⟨.inl hS, H⟩
    · have := ready_mono hj hji
      rw [H.1] at this
      cases this
  | succ fuel ih =>
    intro listed a w hfree hr hy hS H
    refine ⟨fun h => (by rw [h] at hr; cases hr), fun j hj => ?_⟩
    by_cases hji : j = i
    · subst hji; exact hy.wpOp hi hS ⟨.inl hS, H⟩
    · have h1 := H.2 j (ready_mono hj hji)
      obtain ⟨hjun, oj, hoj, hall⟩ := mem_ready.1 hj
      have hnot : ∀ e ∈ oj.after, Region.binds md e = true → e.on ≠ i := fun e he hb heq => by
        have h1 := hall e he hb
        have h0 := (mem_ready.1 hr).1
        rw [heq] at h1
        rcases Nat.lt_or_ge i listed.size with h' | h'
        · simp [h'] at h0 h1; rw [h0] at h1; cases h1
        · simp [Array.getElem?_eq_none h'] at h1
      have hXj : X j = true → False := fun hx => by
        obtain ⟨e, he, hb, ho⟩ := hX j oj hoj hx
        exact hnot e he hb ho
      have h2 := wpOp_putIf hoj (hfree j oj hoj hji hjun hnot) (fun cs b => hsel i oi cs b hi) (fun cs b => hsel j oj cs b hoj) hQ hy h1
      have hfree' : ∀ k ok, ops[k]? = some ok → k ≠ i → (listed.setIfInBounds j true).getD k true = false →
          (∀ e ∈ ok.after, Region.binds md e = true → e.on ≠ i) → oi.apart ops ok = true := fun k ok hk hki hun hno => by
        refine hfree k ok hk hki ?_ hno
        by_cases hjk : j = k
        · subst hjk; exact hjun
        · rw [getD_set_ne true hjk] at hun; exact hun
      refine wpOp_mono (fun a' w' h3 => ?_) h2
      have hS' : S w' := h3.2.1.resolve_right hXj
      refine ⟨.inl hS', ih (listed.setIfInBounds j true) a' w' hfree' (ready_mono hr (Ne.symm hji)) h3.1 hS' ?_⟩
      rw [Array.setIfInBounds_comm _ _ hji]
      exact h3.2.2
/-- All of X wait for i, as a Bool. -/
def waitsX (md : Region.Mode) (ops : Array Oper) (X : Nat → Bool) (i : Nat) : Bool :=
  (List.range ops.size).all fun j => !X j || (match ops[j]? with | some oj => oj.after.any (fun e => Region.binds md e && e.on == i) | none => true)
theorem waitsX_spec {i : Nat} (h : waitsX md ops X i = true) : ∀ j oj, ops[j]? = some oj → X j = true → ∃ e ∈ oj.after, Region.binds md e = true ∧ e.on = i := by
  intro j oj hoj hx
  have hj : j < ops.size := (Array.getElem?_eq_some_iff.1 hoj).1
  have := List.all_eq_true.1 h j (List.mem_range.2 hj)
  rw [hx, hoj] at this
  simp only [Bool.not_true, Bool.false_or] at this
  obtain ⟨k, hk, hp⟩ := Array.any_eq_true.1 this
  simp only [Bool.and_eq_true, beq_iff_eq] at hp
  exact ⟨_, Array.getElem_mem hk, hp.1, hp.2⟩
theorem wpAnyX_take {i : Nat} {oi : Oper} {v : Value} {fuel : Nat} {listed : Array Bool} {a : Act} {w : World} (hi : ops[i]? = some oi)
    (hs : Region.noSelect ops = true) (hf : Region.free md ops listed i = true) (hr : (Region.ready md ops listed).contains i = true) (hx : waitsX md ops X i = true)
    (hQ : ∀ c a w, Q (.panic c) (a.put oi.dst v) w → Q (.panic c) a w) (hy : YieldsIf P ops S oi v a) (hS : S w)
    (h : wpAnyX P md ops Q S X fuel (listed.setIfInBounds i true) (a.put oi.dst v) w) : wpAnyX P md ops Q S X (fuel + 1) listed a w :=
  wpAnyX_first hi (Region.noSelect_spec hs) hQ (waitsX_spec hx) fuel listed a w (Region.free_spec hi hf) (by simpa using hr) hy hS h
/-- Each of the operations comes up next. -/
def AllReadyX (P : Program) (md : Region.Mode) (ops : Array Oper) (Q : Exit → Act → World → Prop) (S : World → Prop) (X : Nat → Bool) (fuel : Nat) (listed : Array Bool) (a : Act) (w : World) (rs : List Nat) : Prop :=
  ∀ i ∈ rs, wpOp P ops Q i (fun a' w' => (S w' ∨ X i = true) ∧ wpAnyX P md ops Q S X fuel (listed.setIfInBounds i true) a' w') a w
theorem AllReadyX.nil {fuel : Nat} {listed : Array Bool} {a : Act} {w : World} : AllReadyX P md ops Q S X fuel listed a w [] := fun _ h => by cases h
theorem AllReadyX.cons {fuel : Nat} {listed : Array Bool} {a : Act} {w : World} {i : Nat} {o : Oper} {rs : List Nat} (ho : ops[i]? = some o)
    (h : ∀ K' : Act → World → Prop, Shut (∀ a w, (S w ∨ X i = true) → ((S w ∨ X i = true) → wpAnyX P md ops Q S X fuel (listed.setIfInBounds i true) a w) → K' a w) → if Region.wanted o (yielded ops a.tmps) = true then Oper.wp P o a w K' Q else K' (a.put o.dst undef) w)
    (hs : AllReadyX P md ops Q S X fuel listed a w rs) : AllReadyX P md ops Q S X fuel listed a w (i :: rs) := fun j hj => by
  rcases List.mem_cons.1 hj with rfl | hj
  · exact wpOp_step ho (fun K' hK => h K' (fun a w hS hW => hK a w ⟨hS, hW hS⟩))
  · exact hs j hj
theorem wpAnyX_ready {rs : List Nat} {fuel : Nat} {listed : Array Bool} {a : Act} {w : World} (hr : Region.ready md ops listed = rs) (hne : rs ≠ [])
    (h : AllReadyX P md ops Q S X fuel listed a w rs) : wpAnyX P md ops Q S X (fuel + 1) listed a w := ⟨fun h0 => absurd (hr ▸ h0) hne, hr ▸ h⟩
theorem wpAnyX_done {listed : Array Bool} {a : Act} {w : World} (hr : Region.ready md ops listed = []) (h : Q .normal a w) : ∀ fuel, wpAnyX P md ops Q S X fuel listed a w
  | 0 => ⟨hr, h⟩
  | _ + 1 => ⟨fun _ => h, by rw [hr]; simp⟩
theorem wp_regionX {id : Nat} {a : Act} {w : World} (X : Nat → Bool) (hm : P.follows .mixedOrders = true) (hS : S w.drew)
    (h : S w.drew → wpAnyX P .any ops Q S X ops.size (Array.replicate ops.size false) a w.drew) : (Code.region id ops true).wp P Q a w :=
  wp_region_any hm (wpAny_ofX _ _ _ _ (h hS))
end
end Go.Proofs.YtpelehhmdcjikaaGreatDoor

/-
  Layer 10, the program: what is kept under an id (find).
-/
namespace Go.Proofs.YtpelehhmdcjikaaGreatDoor
set_option maxRecDepth 100000
open Go.RowKit Go.Maps
set_option linter.unusedVariables false
set_option linter.unusedSimpArgs false
theorem zThing (w : World) : (zeroValue 78).run Tryz.prog w = .ok .nilIface w := by kernel_rfl
/-- What is there, as a look-up tells it. -/
theorem StoreP.look_some {S : Nat → Prop} {w : World} {g : Nat} {M : List Cel} (h : StoreP S w g M) {i : List UInt8} {x : Cel} (hx : getM M i = some x) :
    ∃ mb v, (∀ u, Below w.heap.size w u → u.cell? ⟨g, 0, none⟩ = some (.map mb) ∧ (Instr.lookup 64 (.map mb) (.agg (arrD i)) true).run Tryz.prog u = .ok (.tuple #[thingP x.kind v, .bool true]) u) ∧
      RedS (fun k => S k ∧ k ≠ g ∧ mb ≠ some k) w v x.body ∧ kindO x.kind ∧ ∃ a n c, v = .slice a n c := by
  obtain ⟨hg, E, mb, hE, hblk, hent, hnone, hmap⟩ := h
  obtain ⟨hxM, rfl⟩ := getM_some hx
  rw [← hE] at hxM
  obtain ⟨e, he, rfl⟩ := List.mem_map.1 hxM
  cases mb with
  | none => rw [hnone rfl] at he; cases he
  | some b =>
    obtain ⟨hSb, hbg, hM⟩ := hmap b rfl
    refine ⟨some b, e.v, fun u hu => ⟨?_, ?_⟩, (hent e he).2.2, (hent e he).2.1, (hent e he).1.2⟩
    · rw [Lib.cell_of_heap ((hu.block g (lt_of_heap hblk)).trans hblk)]
      rfl
    · exact (hM.keep (hu.block b hM.lt)).look_some idKeyed Tryz.underlying64 (celP_keys (fun e he => (hent e he).1)) (List.mem_map.2 ⟨e, he, rfl⟩)
theorem StoreP.look_none {S : Nat → Prop} {w : World} {g : Nat} {M : List Cel} (h : StoreP S w g M) {i : List UInt8} (hi : i.length = 20) (hx : getM M i = none) :
    ∃ mb, ∀ u, Below w.heap.size w u → u.cell? ⟨g, 0, none⟩ = some (.map mb) ∧ (Instr.lookup 64 (.map mb) (.agg (arrD i)) true).run Tryz.prog u = .ok (.tuple #[.nilIface, .bool false]) u := by
  obtain ⟨hg, E, mb, hE, hblk, hent, hnone, hmap⟩ := h
  obtain ⟨l, hl⟩ := key_id i hi
  refine ⟨mb, fun u hu => ⟨?_, ?_⟩⟩
  · rw [Lib.cell_of_heap ((hu.block g (lt_of_heap hblk)).trans hblk)]
    rfl
  · cases mb with
    | none => exact look_nilMap idKeyed Tryz.underlying64 (zThing u) hl
    | some b =>
      obtain ⟨hSb, hbg, hM⟩ := hmap b rfl
      refine (hM.keep (hu.block b hM.lt)).look_none idKeyed Tryz.underlying64 (zThing u) (celP_keys (fun e he => (hent e he).1)) hl (fun m hm he => ?_)
      obtain ⟨e, hee, rfl⟩ := List.mem_map.1 hm
      exact getM_none hx e.c (by rw [← hE]; exact List.mem_map.2 ⟨e, hee, rfl⟩) (arrD_inj (Value.agg.inj he))
set_option maxHeartbeats 16000000 in
theorem findP_nil (i : List UInt8) (w : World) :
    Calls Tryz.prog 45 #[.pointer none, .agg (arrD i)] w fun e w' => e = .returned (.tuple #[.nilIface, .int .i64 2]) ∧ Below w.heap.size w w' := by
  have b1 := Lib.hid ((Below.refl w.heap.size w).alloc (Nat.le_refl _) (.cells (arrD i) 24))
  generalize arrD i = A at b1 ⊢
  go_enter Tryz.func45, Tryz.ntmps45
  go_wp2
  go_ret2
  exact ⟨rfl, b1.out⟩
set_option maxHeartbeats 16000000 in
/-- A look-up's two parts, whatever they are. -/
theorem findP_any {w : World} {g : Nat} {mb : Option Nat} {r : Value} {b : Bool} (i : List UInt8) (hi : i.length = 20)
    (hl : ∀ u, Below w.heap.size w u → u.cell? ⟨g, 0, none⟩ = some (.map mb) ∧ (Instr.lookup 64 (.map mb) (.agg (arrD i)) true).run Tryz.prog u = .ok (.tuple #[r, .bool b]) u) :
    Calls Tryz.prog 45 #[.pointer (some ⟨g, 0, none⟩), .agg (arrD i)] w fun e w' => e = .returned (.tuple #[bif b then r else .nilIface, .int .i64 (bif b then 0 else 6)]) ∧ Below w.heap.size w w' := by
  obtain ⟨A1, hA1⟩ : ∃ A, arrD i = A := ⟨_, rfl⟩
  have sA : A1.size = 20 := by rw [← hA1]; exact arrD_size i hi
  have b1 : Below w.heap.size w (w.alloc (.cells A1 24)) := (Below.refl w.heap.size w).alloc (Nat.le_refl _) (.cells A1 24)
  have h0 := heap_alloc_new w (.cells A1 24)
  have B1 := Lib.hid b1
  obtain ⟨w1, hw1⟩ : ∃ w1, w.alloc (.cells A1 24) = w1 := ⟨_, rfl⟩
  rw [hw1] at B1 h0
  have HL := Lib.hid (fun u (hu : Below w1.heap.size w1 u) => hl u (B1.out.trans (hu.mono B1.out.size)))
  have RA := Lib.hid (fun u (hu : Below w1.heap.size w1 u) => (row_arrD ((hu.block w.heap.size (lt_of_heap h0)).trans h0)))
  have LA := Lib.hid (show (Tryz.prog.info? 24).map (·.size) = some A1.toList.length from by rw [Array.length_toList, sA]; exact infoD_n)
  clear hl b1 sA
  rw [hA1] at HL ⊢
  clear hA1
  go_enter Tryz.func45, Tryz.ntmps45
  go_wp2_with fail
  refine wp_region_held_drew (S := fun u => Below w1.heap.size w1 u) (by kernel_rfl) (Below.refl _ _).drew (fun hHeld => ?_)
  refine wpAnyH_take (i := 0) (v := ?pv0) rfl (by kernel_rfl) (by kernel_rfl) (by kernel_rfl) (fun _ _ _ h => h) (Or.inl ⟨by kernel_rfl, ?py0⟩) hHeld ?_
  case py0 => intro u hu; go_simp; try with_reducible rfl
  try simp only [Act.put, List.setIfInBounds_toArray, List.set_cons_zero, List.set_cons_succ]
  refine wpAnyH_take (i := 1) (v := ?pv1) rfl (by kernel_rfl) (by kernel_rfl) (by kernel_rfl) (fun _ _ _ h => h) (Or.inl ⟨by kernel_rfl, ?py1⟩) hHeld ?_
  case py1 => intro u hu; go_simp; try with_reducible rfl
  try simp only [Act.put, List.setIfInBounds_toArray, List.set_cons_zero, List.set_cons_succ]
  refine wpAnyH_take (i := 2) (v := ?pv2) rfl (by kernel_rfl) (by kernel_rfl) (by kernel_rfl) (fun _ _ _ h => h) (Or.inl ⟨by kernel_rfl, ?py2⟩) hHeld ?_
  case py2 => intro u hu; go_simp; try with_reducible rfl
  try simp only [Act.put, List.setIfInBounds_toArray, List.set_cons_zero, List.set_cons_succ]
  refine wpAnyH_take (i := 3) (v := .map mb) rfl (by kernel_rfl) (by kernel_rfl) (by kernel_rfl) (fun _ _ _ h => h) (Or.inl ⟨by kernel_rfl, ?py3x⟩) hHeld ?_
  case py3x => intro u hu; have q := (HL.out u hu).1; go_simp
  try simp only [Act.put, List.setIfInBounds_toArray, List.set_cons_zero, List.set_cons_succ]
  refine wpAnyH_take (i := 4) rfl (by kernel_rfl) (by kernel_rfl) (by kernel_rfl) (fun _ _ _ h => h) (yieldsIf_load_mid (by kernel_rfl) 24 (.tmp 3) (by kernel_rfl) w.heap.size 0 (by kernel_rfl) A1.toList _ (fun u hu => RA.out u hu) Tryz.underlying24 rfl LA.out) hHeld ?_
  try simp only [Act.put, List.setIfInBounds_toArray, List.set_cons_zero, List.set_cons_succ]
  refine wpAnyH_take (i := 5) (v := .tuple #[r, .bool b]) rfl (by kernel_rfl) (by kernel_rfl) (by kernel_rfl) (fun _ _ _ h => h) (Or.inl ⟨by kernel_rfl, ?py5x⟩) hHeld ?_
  case py5x => intro u hu; have q := (HL.out u hu).2; go_simp
  try simp only [Act.put, List.setIfInBounds_toArray, List.set_cons_zero, List.set_cons_succ]
  refine wpAnyH_take (i := 6) (v := ?pv6) rfl (by kernel_rfl) (by kernel_rfl) (by kernel_rfl) (fun _ _ _ h => h) (Or.inl ⟨by kernel_rfl, ?py6⟩) hHeld ?_
  case py6 => intro u hu; go_simp; try with_reducible rfl
  try simp only [Act.put, List.setIfInBounds_toArray, List.set_cons_zero, List.set_cons_succ]
  refine wpAnyH_take (i := 7) (v := ?pv7) rfl (by kernel_rfl) (by kernel_rfl) (by kernel_rfl) (fun _ _ _ h => h) (Or.inl ⟨by kernel_rfl, ?py7⟩) hHeld ?_
  case py7 => intro u hu; go_simp; try with_reducible rfl
  try simp only [Act.put, List.setIfInBounds_toArray, List.set_cons_zero, List.set_cons_succ]
  refine wpAnyH_take (i := 8) (v := ?pv8) rfl (by kernel_rfl) (by kernel_rfl) (by kernel_rfl) (fun _ _ _ h => h) (Or.inl ⟨by kernel_rfl, ?py8⟩) hHeld ?_
  case py8 => intro u hu; go_simp; try with_reducible rfl
  try simp only [Act.put, List.setIfInBounds_toArray, List.set_cons_zero, List.set_cons_succ]
  refine wpAnyH_take (i := 9) (v := ?pv9) rfl (by kernel_rfl) (by kernel_rfl) (by kernel_rfl) (fun _ _ _ h => h) (Or.inl ⟨by kernel_rfl, ?py9⟩) hHeld ?_
  case py9 => intro u hu; go_simp; try with_reducible rfl
  try simp only [Act.put, List.setIfInBounds_toArray, List.set_cons_zero, List.set_cons_succ]
  refine wpAnyH_take (i := 10) (v := ?pv10) rfl (by kernel_rfl) (by kernel_rfl) (by kernel_rfl) (fun _ _ _ h => h) (Or.inl ⟨by kernel_rfl, ?py10⟩) hHeld ?_
  case py10 => intro u hu; go_simp; try with_reducible rfl
  try simp only [Act.put, List.getElem_toArray, List.getElem_cons_succ, List.getElem_cons_zero, List.setIfInBounds_toArray, List.set_cons_zero, List.set_cons_succ]
  refine wpAnyH_done (by kernel_rfl) ?_ _
  have HB := Lib.hid (B1.out.trans (hHeld.mono B1.out.size))
  clear hHeld
  cases b with
  | true =>
    go_wp2
    go_ret2
    exact ⟨rfl, HB.out⟩
  | false =>
    go_wp2
    go_ret2
    exact ⟨rfl, HB.out⟩
end Go.Proofs.YtpelehhmdcjikaaGreatDoor

/-
  '[]byte(s)' of a text as a row of bytes, and what is appended to it.
-/
namespace Go.Proofs.YtpelehhmdcjikaaGreatDoor
open Go.RowKit
set_option linter.unusedVariables false
set_option linter.unusedSimpArgs false
/-- A row of bytes with its room, of which no cell is frozen. -/
def RowX (w : World) (g cap : Nat) (l : List UInt8) : Prop :=
  ∃ cur fz, w.heap[g]? = some (.cells cur 5 fz) ∧ l.length ≤ cap ∧ cap ≤ maxLen ∧ cur.size = cap ∧ cur.toList.take l.length = Lib.byteCells l ∧ ∀ j, j < cur.size → ¬ (fz.1 ≤ j ∧ j < fz.2)
theorem RowX.lt {w : World} {g cap : Nat} {l : List UInt8} (h : RowX w g cap l) : g < w.heap.size := by
  obtain ⟨cur, fz, hg, _⟩ := h
  exact (Array.getElem?_eq_some_iff.1 hg).1
theorem RowX.below {w w' : World} {g cap : Nat} {l : List UInt8} (h : RowX w g cap l) {B : Nat} (hb : Below B w w') (hB : g < B) : RowX w' g cap l := by
  obtain ⟨cur, fz, hg, r⟩ := h
  exact ⟨cur, fz, (hb.block g hB).trans hg, r⟩
theorem RowX.cells {w : World} {g cap : Nat} {l : List UInt8} (h : RowX w g cap l) : ∀ j u, (Lib.byteCells l)[j]? = some u → w.cell? ((⟨g, 0, none⟩ : Addr).add j) = some u := by
  obtain ⟨cur, fz, hg, h1, h2, h3, h4, _⟩ := h
  intro j u hj
  have hlt : j < l.length := by
    rcases Nat.lt_or_ge j l.length with h' | h'
    · exact h'
    · rw [List.getElem?_eq_none (by rw [byteCells_len]; exact h')] at hj; cases hj
  rw [← h4, List.getElem?_take, if_pos hlt] at hj
  rw [show (⟨g, 0, none⟩ : Addr).add j = ⟨g, j, none⟩ by unfold Addr.add; split <;> simp_all, cell_of_row w g j cur _ _ hg, ← Array.getElem?_toList, hj]
theorem RowX.bat {w : World} {g cap : Nat} {l : List UInt8} (h : RowX w g cap l) : BAt w (some ⟨g, 0, none⟩) l := fun _ => by
  refine ⟨g, 0, rfl, h.lt, fun i hi => ?_⟩
  have := h.cells i (.int .u8 (l[i]).toNat) (by simp [Lib.byteCells, List.getElem?_map, hi])
  rwa [show (⟨g, 0, none⟩ : Addr).add i = ⟨g, 0 + i, none⟩ by unfold Addr.add; split <;> simp_all] at this
/-- '[]byte(s)'. -/
theorem str_row (w : World) (l : List UInt8) (hl : l.length ≤ 1099511627776) :
    ∃ cap w', (convert 9 32 (.string ⟨l.toArray⟩)).run Tryz.prog w = .ok (.slice (some ⟨w.heap.size, 0, none⟩) l.length cap) w' ∧ Below w.heap.size w w' ∧ RowX w' w.heap.size cap l := by
  have h := run_bytes_of_string (P := Tryz.prog) w 9 32 5 ⟨l.toArray⟩ Tryz.underlying9 Tryz.underlying32 Tryz.underlying5
  rw [size_toArray] at h
  have hge := grownCap_ge w l.length 0 5
  have hcm : grownCap w l.length 0 5 ≤ maxLen := grownCap_le_maxLen w _ _ _ (by unfold maxLen; omega)
  have hsz : (bytesRow ⟨l.toArray⟩ (grownCap w l.length 0 5)).size = grownCap w l.length 0 5 := by
    unfold bytesRow
    simp only [Array.size_append, Array.size_map, Array.size_replicate, List.size_toArray, size_toArray]
    omega
  refine ⟨_, _, h, ((Below.refl _ w).drew).alloc (Nat.le_refl _) _, _, _, heap_alloc_new w.drew _, hge, hcm, hsz, ?_, fun j hj hf => ?_⟩
  · simp [bytesRow, Lib.byteCells]
  · have := hf.1
    simp only at this
    omega
end Go.Proofs.YtpelehhmdcjikaaGreatDoor
