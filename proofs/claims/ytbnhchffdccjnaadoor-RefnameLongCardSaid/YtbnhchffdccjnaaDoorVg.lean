/-
  Layer 11, the program: Right and Branch, and what a program that does nothing does not answer.
-/
import Derived.Test.YtbnhchffdccjnaaDoorVf
import Derived.Test.YtbnhchffdccjnaaDoorVd
import Derived.Test.YtbnhchffdccjnaaDoorLayX
import Derived.Lib.Split
namespace Go.Proofs.YtbnhchffdccjnaaDoor
open Go.RowKit
set_option linter.unusedVariables false
set_option linter.unusedSimpArgs false
set_option maxRecDepth 20000

/-- The pieces between slashes, as the library cuts them. -/
theorem split_lib11 : ∀ (k : Nat) (l : List UInt8), l.length ≤ k → Lib.splitB ⟨#[47]⟩ 0 (Lib.countB ⟨l.toArray⟩ ⟨#[47]⟩) ⟨l.toArray⟩ = (splitL l).map (fun n => (⟨n.toArray⟩ : ByteArray)) ∧ Lib.countB ⟨l.toArray⟩ ⟨#[47]⟩ + 1 = (splitL l).length := by
  intro k
  induction k with
  | zero =>
    intro l hl
    obtain rfl : l = [] := List.eq_nil_of_length_eq_zero (by omega)
    have hi : Lib.indexB ⟨([] : List UInt8).toArray⟩ ⟨#[47]⟩ = -1 := by
      show Lib.index [] [47] = -1
      rw [Lib.index_one]
      rfl
    rw [Lib.countB_miss _ _ hi]
    exact ⟨rfl, rfl⟩
  | succ k ih =>
    intro l hl
    have hb : Lib.indexB ⟨l.toArray⟩ ⟨#[47]⟩ = Lib.indexByte l 47 := by
      show Lib.index l [47] = _
      exact Lib.index_one l 47
    by_cases hm : Lib.indexByte l 47 = -1
    · rw [Lib.countB_miss _ _ (hb.trans hm), Lib.splitB_zero]
      have hno : ∀ c ∈ l, c.toNat ≠ 47 := fun c hc h => by
        obtain ⟨j, hj, rfl⟩ := List.getElem_of_mem hc
        exact Lib.indexByte_none hm j (by rw [List.getElem?_eq_getElem hj]; exact congrArg some (UInt8.toNat_inj.1 h))
      rw [split_none l hno]
      exact ⟨rfl, rfl⟩
    · obtain ⟨i, hi⟩ : ∃ i : Nat, Lib.indexByte l 47 = i := ⟨(Lib.indexByte l 47).toNat, by have := Lib.indexByte_ge l 47; omega⟩
      obtain ⟨h1, h2⟩ := Lib.indexByte_some hi
      have hil : i < l.length := (List.getElem?_eq_some_iff.1 h1).1
      have hg : l.getD i 0 = 47 := by rw [List.getD_eq_getElem?_getD, h1]; rfl
      have e1 : (⟨l.toArray⟩ : ByteArray).extract (i + (⟨#[47]⟩ : ByteArray).size) (⟨l.toArray⟩ : ByteArray).size = ⟨(l.drop (i + 1)).toArray⟩ := by
        rw [size_toArray]
        exact ext_drop l (i + 1)
      have hc := Lib.countB_hit ⟨l.toArray⟩ ⟨#[47]⟩ i (by decide) (hb.trans hi)
      rw [e1] at hc
      obtain ⟨a, b⟩ := ih (l.drop (i + 1)) (by rw [List.length_drop]; omega)
      have hs : splitL l = l.take i :: splitL (l.drop (i + 1)) := by
        have e : l = l.take i ++ l.getD i 0 :: l.drop (i + 1) := by rw [← drop_at l i hil, List.take_append_drop]
        conv => lhs; rw [e]
        refine split_at _ _ (by rw [hg]; rfl) _ (fun c hc h => ?_)
        obtain ⟨j, hj, rfl⟩ := List.getElem_of_mem hc
        rw [List.length_take] at hj
        refine h2 j (by omega) ?_
        rw [List.getElem_take] at h
        rw [List.getElem?_eq_getElem (by omega)]
        exact congrArg some (UInt8.toNat_inj.1 h)
      rw [hs, hc, show 1 + Lib.countB ⟨(l.drop (i + 1)).toArray⟩ ⟨#[47]⟩ = Lib.countB ⟨(l.drop (i + 1)).toArray⟩ ⟨#[47]⟩ + 1 by omega, Lib.splitB_hit _ _ _ _ i (hb.trans hi), e1, a]
      refine ⟨?_, by simp only [List.length_cons]; omega⟩
      rw [List.map_cons, Nat.add_zero, ext_take]

theorem split_len11 : ∀ (l : List UInt8), ∀ n ∈ splitL l, n.length ≤ l.length
  | [], n, hn => by
    simp [splitL] at hn
    subst hn
    simp
  | c :: r, n, hn => by
    have ih := split_len11 r
    by_cases h : c.toNat = 47
    · rw [split_slash c r h, List.mem_cons] at hn
      rcases hn with rfl | hn
      · simp
      · have := ih n hn
        simp
        omega
    · obtain ⟨x, m, hx⟩ := split_form r
      rw [split_other c r x m h hx, List.mem_cons] at hn
      rcases hn with rfl | hn
      · have := ih x (by rw [hx]; simp)
        simp
        omega
      · have := ih n (by rw [hx]; simp [hn])
        simp
        omega

/-- The tables that the calls read. -/
structure RTab (w : World) : Prop where
  utf : Lib.Utf8Tabs 0 1 w
  max : ∃ m : Int, w.cell? ⟨2, 0, none⟩ = some (.int .i64 m)
theorem RTab.below {w w' : World} (t : RTab w) (hb : Below w.heap.size w w') : RTab w' where
  utf := Utf8Tabs_below t.utf hb
  max := by
    obtain ⟨m, h⟩ := t.max
    exact ⟨m, (hb.cell (p := ⟨2, 0, none⟩) (World.block_lt_of_cell? w _ h)).trans h⟩
/-- Texts that are not too long, for a call over a row of them. -/
structure Txt where
  val : List UInt8
  len : val.length ≤ 1000000
instance : Inhabited Txt := ⟨⟨[], by decide⟩⟩
def encT (x : Txt) : Value := .string ⟨x.val.toArray⟩
theorem wrong_at (w : World) : PredAt Tryd.prog 16 #[] encT (fun x : Txt => !partR x.val) w := fun W x _ => by
  refine (wrongPart_is x.val x.len W).mono ?_
  rintro e w' ⟨rfl, rfl⟩
  exact ⟨rfl, 0, rfl⟩
theorem wrong_enters : ∀ args w, (callFunc 16 args).run Tryd.prog w = .ok (.enter 16 args) w := fun args w => by kernel_rfl
theorem any_wrong (ns : List (List UInt8)) : ns.any (fun n => !partR n) = !ns.all partR := by
  induction ns with
  | nil => rfl
  | cons n r ih => rw [List.any_cons, List.all_cons, ih]; cases partR n <;> rfl
theorem txts : ∀ (ns : List (List UInt8)), (∀ n ∈ ns, n.length ≤ 1000000) → ∃ zs : List Txt, zs.map (fun x => x.val) = ns
  | [], _ => ⟨[], rfl⟩
  | n :: r, h => by
    obtain ⟨zs, hz⟩ := txts r (fun m hm => h m (by simp [hm]))
    exact ⟨⟨n, h n (by simp)⟩ :: zs, by rw [List.map_cons, hz]⟩

set_option maxHeartbeats 8000000 in
set_option maxRecDepth 100000 in
theorem Right_is (l : List UInt8) (w : World) (hn : l.length ≤ 1000000) (tab : RTab w) :
    Calls Tryd.prog 8 #[.string ⟨l.toArray⟩] w fun e w' => e = .returned (.bool (refL l)) ∧ Below w.heap.size w w' := by
  have T := Lib.hid tab
  have hsz := size_toArray l
  have cV := fun w (t : RTab w) => valid_is l w hn t.utf
  have cD := fun w => Tryd.strings_HasSuffix ⟨l.toArray⟩ ⟨#[46]⟩ w (by rw [hsz]; omega)
  have e0 : Lib.hasSuffix (⟨l.toArray⟩ : ByteArray).data.toList (⟨#[46]⟩ : ByteArray).data.toList = ([46].isSuffixOf l : Bool) := rfl
  rw [e0] at cD
  have cS := fun w m hm => Tryd.strings_Split ⟨l.toArray⟩ ⟨#[47]⟩ m w (by rw [hsz]; omega) hm (by decide)
  obtain ⟨e1, e2⟩ := split_lib11 l.length l (Nat.le_refl _)
  rw [e1] at cS
  rw [e2] at cS
  have cR := fun w => rightRunes_is l hn w
  have NL : Hid (∀ n ∈ splitL l, n.length ≤ 1000000) := Lib.hid (fun n h => Nat.le_trans (split_len11 l n h) hn)
  have SC : (splitL l).length ≤ 1000001 := by have := split_count l; omega
  obtain ⟨P, hP⟩ : ∃ P, refL l = P := ⟨_, rfl⟩
  have HP := Lib.hid hP
  have FORM : Hid (P = (decide (l.length ≤ 200) && Lib.validD l && !([46].isSuffixOf l) && decide (2 ≤ (splitL l).length) && (splitL l).all partR && (l.all okR && pairsL l))) := Lib.hid (by
    rw [← hP]; unfold refL; simp only [Bool.and_assoc])
  rw [hP]
  obtain ⟨ns, hns⟩ : ∃ ns, ns = splitL l := ⟨_, rfl⟩
  rw [← hns] at cS NL FORM SC
  obtain ⟨rb, hrb⟩ : ∃ rb, (l.all okR && pairsL l) = rb := ⟨_, rfl⟩
  rw [hrb] at FORM
  simp only [hrb] at cR
  obtain ⟨db, hdb⟩ : ∃ db, ([46].isSuffixOf l : Bool) = db := ⟨_, rfl⟩
  rw [hdb] at FORM cD
  obtain ⟨s, hs⟩ : ∃ s : ByteArray, s = ⟨l.toArray⟩ := ⟨_, rfl⟩
  rw [← hs] at cS cD cV cR hsz ⊢
  have CS := Lib.hid cS
  have CR := Lib.hid cR
  clear tab e0 e1 e2 hns hs cS cR hP hrb hdb
  by_cases h2 : 200 < l.length
  · have R : Hid (P = false) := Lib.hid (by rw [FORM.out, decide_eq_false (by omega)]; rfl)
    clear cV cD
    go_enter Tryd.func8, Tryd.ntmps8
    go_wp2
    go_ret
    exact ⟨ret_bool R.out.symm, Below.refl _ _⟩
  have L2 := Lib.hid (show decide (l.length ≤ 200) = true from decide_eq_true (by omega))
  obtain ⟨vb, hvb⟩ : ∃ vb, Lib.validD l = vb := ⟨_, rfl⟩
  rw [hvb] at FORM
  simp only [hvb] at cV
  clear hvb
  cases vb with
  | false =>
    have R : Hid (P = false) := Lib.hid (by rw [FORM.out]; simp)
    go_enter Tryd.func8, Tryd.ntmps8
    go_wp2_with fail
    refine (cV _ T.out).mono ?_
    rintro e w1 ⟨rfl, b1⟩
    go_wp2
    go_ret
    exact ⟨ret_bool R.out.symm, b1⟩
  | true =>
    cases db with
    | true =>
      have R : Hid (P = false) := Lib.hid (by rw [FORM.out]; simp)
      go_enter Tryd.func8, Tryd.ntmps8
      go_wp2_with fail
      refine (cV _ T.out).mono ?_
      rintro e w1 ⟨rfl, b1⟩
      go_wp2_with fail
      refine (cD _).mono ?_
      rintro e w2 ⟨rfl, rfl⟩
      go_wp2
      go_ret
      exact ⟨ret_bool R.out.symm, b1⟩
    | false =>
      have R : Hid (P = (decide (2 ≤ ns.length) && ns.all partR && rb)) := Lib.hid (by rw [FORM.out, L2.out]; simp)
      go_enter Tryd.func8, Tryd.ntmps8
      go_wp2_with fail
      refine (cV _ T.out).mono ?_
      rintro e w1 ⟨rfl, b1⟩
      go_wp2_with fail
      refine (cD _).mono ?_
      rintro e w2 ⟨rfl, rfl⟩
      obtain ⟨m, hm⟩ := (T.out.below b1).max
      have CM := CS.out w2 m hm
      clear cV cD CS
      go_wp2_with fail
      refine CM.mono ?_
      rintro e w3 ⟨rfl, hw3⟩
      have b3 : Below w.heap.size w w3 := by rw [hw3]; exact b1.alloc b1.size _
      have hcell : w3.heap[w2.heap.size]? = some (.cells (((ns.map (fun n => (⟨n.toArray⟩ : ByteArray))).map Value.string).toArray) 9 (0, 0)) := by rw [hw3]; exact heap_alloc_new _ _
      have HC := Lib.hid hcell
      have B3 := Lib.hid b3
      clear CM hm b1 hcell hw3 b3
      by_cases h1 : 1 < ns.length
      · obtain ⟨zs, hz⟩ := txts ns NL.out
        have hzl : zs.length = ns.length := by rw [← hz, List.length_map]
        have cC := AnyE.slices_ContainsFunc Tryd.containsX encT (fun x : Txt => !partR x.val) 16 #[] wrong_enters w2.heap.size 0 ns.length ns.length zs w3 (wrong_at w3) (by omega) (by omega) (fun j hj => by
          have e : ns[j]? = some (zs[j]'hj).val := by rw [← hz, List.getElem?_map, List.getElem?_eq_getElem hj]; rfl
          rw [Nat.zero_add, Lib.cell_of_heap HC.out j, getElem!_pos zs j hj]
          simp only [List.getElem?_toArray, List.getElem?_map, e]
          rfl)
        have hany : (zs.take ns.length).any (fun x : Txt => !partR x.val) = !ns.all partR := by
          rw [List.take_of_length_le (by omega), ← any_wrong, ← hz, List.any_map]
          rfl
        rw [hany] at cC
        obtain ⟨pb, hpb⟩ : ∃ pb, ns.all partR = pb := ⟨_, rfl⟩
        rw [hpb] at cC R
        have CC := Lib.hid cC
        clear hany hz hzl hpb cC
        cases pb with
        | false =>
          have R2 : Hid (P = false) := Lib.hid (by rw [R.out]; simp)
          go_wp2_with fail
          refine (CC.out).mono ?_
          rintro e w4 ⟨rfl, q, rfl⟩
          go_wp2
          go_ret
          exact ⟨ret_bool R2.out.symm, _root_.Go.below_drewN B3.out q⟩
        | true =>
          have R2 : Hid (P = rb) := Lib.hid (by rw [R.out, decide_eq_true (show 2 ≤ ns.length by omega)]; simp)
          go_wp2_with fail
          refine (CC.out).mono ?_
          rintro e w4 ⟨rfl, q, rfl⟩
          have B4 := Lib.hid (_root_.Go.below_drewN B3.out q)
          generalize w3.drewN q = w4 at B4 ⊢
          go_wp2_with fail
          refine (CR.out _).mono ?_
          rintro e w5 ⟨rfl, b5⟩
          go_wp2
          go_ret
          exact ⟨ret_bool R2.out.symm, B4.out.trans (b5.mono B4.out.size)⟩
      · have R2 : Hid (P = false) := Lib.hid (by rw [R.out, decide_eq_false (by omega)]; rfl)
        go_wp2
        go_ret
        exact ⟨ret_bool R2.out.symm, B3.out⟩
end Go.Proofs.YtbnhchffdccjnaaDoor
