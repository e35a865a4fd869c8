/-
  Texts that belong together, one behind the other.
-/
import Derived.Test.YtnohonjjfjppoaaGreatDoorFu30
import Derived.Test.YtnohonjjfjppoaaGreatDoorFu01
import Derived.Test.YtnohonjjfjppoaaGreatDoorFu13
import Derived.Test.YtnohonjjfjppoaaGreatDoorFu22
import Derived.Lib.Bytealg
import Derived.Lib.BytesEntry
import Derived.Test.YtnohonjjfjppoaaGreatDoorFu15
import Derived.Lib.UnsafeStr
import Derived.Shelf.SlSortCmp.WholeK
/-
  Layer 13: directories within directories, of one file at the end: what is put, what is read.
-/
namespace Go.Proofs.YtnohonjjfjppoaaGreatDoor
set_option linter.unusedVariables false
set_option linter.unusedSimpArgs false
def dsF : Nat → List UInt8
  | 0 => []
  | n + 1 => 100 :: 47 :: dsF n
def itC (x : Itm) (ids : List (List UInt8)) : Nat → Itm
  | 0 => x
  | k + 1 => ⟨4, [100], ids.getD k []⟩
def celC (x : Itm) (ids : List (List UInt8)) (k : Nat) : Cel := ⟨ids.getD k [], 2, flatI [itC x ids k]⟩
def chC (x : Itm) (ids : List (List UInt8)) (n : Nat) : List Cel := (List.range n).map (celC x ids)
/-- What is reckoned of the ids. -/
structure GoodC (x : Itm) (ids : List (List UInt8)) (N : Nat) : Prop where
  leaf : oneI x = true ∧ x.mode ≠ 4 ∧ x.id.length = 20 ∧ (∀ c ∈ x.name, c ≠ 47)
  each : ∀ k, k < N → (ids.getD k []).length = 20 ∧ (ids.getD k [] == zeroId) = false ∧ sumO 2 (flatI [itC x ids k]) = ids.getD k []
  apart : ∀ j k, k < N → j < k → ids.getD j [] ≠ ids.getD k []
theorem right_single {x : Itm} (h : oneI x = true) : rightIt [x] = true := by
  unfold rightIt
  simp [stepI, aheadI, otherI, h]
theorem printT_single {x : Itm} (h : oneI x = true) (hid : x.id.length = 20) : printT [x] = (flatI [x], 0) ∧ (flatI [x]).length ≤ 430 := by
  have hl : (flatI [x]).length ≤ 430 * 1 := flat_le (l := [x]) (fun i hi => by rw [List.mem_singleton.1 hi]; exact h) (fun i hi => by rw [List.mem_singleton.1 hi]; exact hid)
  refine ⟨?_, by omega⟩
  unfold printT
  rw [if_neg (fun q => by rw [right_single h] at q; cases q.2), if_neg (by omega)]
theorem itC_one {x : Itm} {ids : List (List UInt8)} {N : Nat} (G : GoodC x ids N) : ∀ k, k < N → oneI (itC x ids k) = true ∧ (itC x ids k).id.length = 20
  | 0, _ => ⟨G.leaf.1, G.leaf.2.2.1⟩
  | k + 1, h => by
    have h1 := G.each k (by omega)
    refine ⟨?_, h1.1⟩
    show (nameI [100] && !(ids.getD k [] == zeroId) && decide ((1 : Int) ≤ 4) && decide ((4 : Int) ≤ 4)) = true
    rw [h1.2.1]
    decide +kernel
theorem tree_single {x : Itm} (h : oneI x = true) (hid : x.id.length = 20) {M : List Cel} {i : List UInt8} (hg : getM M i = some ⟨i, 2, flatI [x]⟩) : TreeS (getM M i) [x] 0 := by
  unfold TreeS
  rw [hg, ofS_some (c := ⟨i, 2, flatI [x]⟩) rfl, if_pos rfl]
  have hp := printT_single h hid
  exact (print_parsed (l := [x]) (fun j hj => by rw [List.mem_singleton.1 hj]; exact hid) (by rw [hp.1])).2
theorem print2_ok (b : List UInt8) (h : b.length ≤ 65536) : (printO 2 b).2 = 0 := by rw [printO_ok 2 b (by unfold kindO; omega) h]
theorem putM_new {M : List Cel} {k : Int} {b i : List UInt8} (h : (printO k b).2 = 0) (hs : sumO k b = i) (hg : getM M i = none) : putM M k b = (M ++ [⟨i, k, b⟩], i, 0) := by
  unfold putM
  rw [if_pos h, hs, hg]
theorem getM_at {x : Itm} {ids : List (List UInt8)} {N : Nat} (G : GoodC x ids N) (n : Nat) (hn : n ≤ N) : (∀ k, k < n → getM (chC x ids n) (ids.getD k []) = some (celC x ids k)) ∧ (n < N → getM (chC x ids n) (ids.getD n []) = none) := by
  have ap : (chC x ids n).Pairwise (fun a b => a.id ≠ b.id) := by
    unfold chC
    rw [List.pairwise_map]
    refine List.Pairwise.imp_of_mem ?_ List.pairwise_lt_range
    intro a b ha hb hab
    exact G.apart a b (by have := List.mem_range.1 hb; omega) hab
  refine ⟨fun k hk => ?_, fun h => ?_⟩
  · exact getM_mem ap (c := celC x ids k) (List.mem_map.2 ⟨k, List.mem_range.2 hk, rfl⟩)
  · unfold getM
    rw [List.find?_eq_none]
    intro c hc he
    obtain ⟨k, hk, rfl⟩ := List.mem_map.1 hc
    exact G.apart k n h (List.mem_range.1 hk) (by simpa [celC] using he)
theorem chC_next (x : Itm) (ids : List (List UInt8)) (n : Nat) : chC x ids (n + 1) = chC x ids n ++ [celC x ids n] := by
  unfold chC
  rw [List.range_succ, List.map_append, List.map_singleton]
theorem put_next {x : Itm} {ids : List (List UInt8)} {N : Nat} (G : GoodC x ids N) {n : Nat} (hn : n < N) : putM (chC x ids n) 2 (flatI [itC x ids n]) = (chC x ids (n + 1), ids.getD n [], 0) := by
  have h1 := itC_one G n hn
  have h2 := printT_single h1.1 h1.2
  rw [putM_new (print2_ok _ (by omega)) (G.each n hn).2.2 ((getM_at G n (Nat.le_of_lt hn)).2 hn), chC_next]
  rfl
theorem slash_no {p : List UInt8} (h : ∀ c ∈ p, c ≠ 47) : ¬ slashF p < p.length := by
  intro hs
  have h2 := List.findIdx_getElem (p := (· == (47 : UInt8))) (w := hs)
  exact h _ (List.getElem_mem hs) (eq_of_beq h2)
theorem wl_chain {x : Itm} {ids : List (List UInt8)} {N : Nat} (G : GoodC x ids N) : ∀ (n : Nat), n < N → ∀ fu, 2 * n + 2 ≤ fu → wl putM fu [] [⟨dsF n ++ x.name, x.mode, x.id⟩] [] = (chC x ids (n + 1), ids.getD n [], 0)
  | 0, hn, fu, hf => by
    obtain ⟨m, rfl⟩ : ∃ m, fu = m + 1 + 1 := ⟨fu - 2, by omega⟩
    have hp := printT_single G.leaf.1 G.leaf.2.2.1
    show wl putM (m + 1 + 1) [] [⟨x.name, x.mode, x.id⟩] [] = _
    rw [wl, if_neg (slash_no G.leaf.2.2.2), wl]
    show (if (printT [x]).2 = 0 then putM [] 2 (printT [x]).1 else _) = _
    rw [hp.1, if_pos rfl]
    exact put_next G hn
  | n + 1, hn, fu, hf => by
    obtain ⟨m, rfl⟩ : ∃ m, fu = m + 1 + 1 := ⟨fu - 2, by omega⟩
    have ih := wl_chain G n (by omega) (m + 1) (by omega)
    have h1 := itC_one G (n + 1) hn
    have hp := printT_single h1.1 h1.2
    have hs : slashF (dsF (n + 1) ++ x.name) = 1 := rfl
    have hh : headF (dsF (n + 1) ++ x.name) = [100] := rfl
    have hc : cntF ([100] ++ [47]) [(⟨dsF (n + 1) ++ x.name, x.mode, x.id⟩ : Fil)] = 1 := rfl
    rw [wl]
    simp only [hs, hh, hc]
    rw [if_pos (by simp [dsF])]
    have hcut : List.map (cutF (1 + 1)) (List.take 1 [(⟨dsF (n + 1) ++ x.name, x.mode, x.id⟩ : Fil)]) = [⟨dsF n ++ x.name, x.mode, x.id⟩] := rfl
    rw [hcut, ih, if_pos rfl]
    show wl putM (m + 1) (chC x ids (n + 1)) [] [itC x ids (n + 1)] = _
    rw [wl, hp.1, if_pos rfl]
    exact put_next G hn
theorem rd_chain {x : Itm} {ids : List (List UInt8)} {N : Nat} (G : GoodC x ids N) {n : Nat} (hn : n < N) : ∀ (k : Nat), k ≤ n → ∀ dir, (∀ j, j < k → pathL (dir ++ (dsF j ++ [100])) = true) → pathL (dir ++ (dsF k ++ x.name)) = true →
    Rd (chC x ids (n + 1)) (ids.getD k []) dir (some ⟨dir ++ (dsF k ++ x.name), x.mode, x.id⟩) 0
  | 0, hk, dir, _, hp => by
    have h1 := itC_one G 0 (by omega)
    exact Rd.file (x := x) (tree_single h1.1 h1.2 ((getM_at G (n + 1) hn).1 0 (by omega))) G.leaf.2.2.1 G.leaf.2.1 hp
  | k + 1, hk, dir, hd, hp => by
    have h1 := itC_one G (k + 1) (by omega)
    have ih := rd_chain G hn k (by omega) (dir ++ [100] ++ [47]) (fun j hj => by
      have := hd (j + 1) (by omega)
      simpa [dsF] using this) (by simpa [dsF] using hp)
    have e : dir ++ [100] ++ [47] ++ (dsF k ++ x.name) = dir ++ (dsF (k + 1) ++ x.name) := by simp [dsF]
    rw [e] at ih
    exact Rd.tree (x := itC x ids (k + 1)) (tree_single h1.1 h1.2 ((getM_at G (n + 1) hn).1 (k + 1) (by omega))) h1.2 rfl (show pathL (dir ++ [100]) = true by simpa [dsF] using hd 0 (by omega)) ih
end Go.Proofs.YtnohonjjfjppoaaGreatDoor

/-
  Layer 13: the directories of the laws, reckoned.
-/
namespace Go.Proofs.YtnohonjjfjppoaaGreatDoor
set_option linter.unusedVariables false
set_option linter.unusedSimpArgs false
set_option maxRecDepth 20000
def idsA : List (List UInt8) := [dgA0, dgA1]
def leafA : Itm := ⟨1, [97], one1⟩
theorem goodA : GoodC leafA idsA 2 where
  leaf := ⟨by decide +kernel, by decide, rfl, by decide⟩
  each := fun k hk => by
    match k, hk with
    | 0, _ => exact ⟨rfl, by decide, dgA0_is⟩
    | 1, _ => exact ⟨rfl, by decide, dgA1_is⟩
  apart := by
    have h : ∀ k, k < 2 → ∀ j, j < k → idsA.getD j [] ≠ idsA.getD k [] := by decide +kernel
    exact fun j k hk hj => h k hk j hj
def idsD : List (List UInt8) := [dgD0, dgD1, dgD2, dgD3, dgD4, dgD5, dgD6, dgD7, dgD8, dgD9, dgD10, dgD11, dgD12, dgD13, dgD14, dgD15]
def leafD : Itm := ⟨2, [102], one5⟩
theorem goodD : GoodC leafD idsD 16 where
  leaf := ⟨by decide +kernel, by decide, rfl, by decide⟩
  each := fun k hk => by
    match k, hk with
    | 0, _ => exact ⟨rfl, by decide, dgD0_is⟩
    | 1, _ => exact ⟨rfl, by decide, dgD1_is⟩
    | 2, _ => exact ⟨rfl, by decide, dgD2_is⟩
    | 3, _ => exact ⟨rfl, by decide, dgD3_is⟩
    | 4, _ => exact ⟨rfl, by decide, dgD4_is⟩
    | 5, _ => exact ⟨rfl, by decide, dgD5_is⟩
    | 6, _ => exact ⟨rfl, by decide, dgD6_is⟩
    | 7, _ => exact ⟨rfl, by decide, dgD7_is⟩
    | 8, _ => exact ⟨rfl, by decide, dgD8_is⟩
    | 9, _ => exact ⟨rfl, by decide, dgD9_is⟩
    | 10, _ => exact ⟨rfl, by decide, dgD10_is⟩
    | 11, _ => exact ⟨rfl, by decide, dgD11_is⟩
    | 12, _ => exact ⟨rfl, by decide, dgD12_is⟩
    | 13, _ => exact ⟨rfl, by decide, dgD13_is⟩
    | 14, _ => exact ⟨rfl, by decide, dgD14_is⟩
    | 15, _ => exact ⟨rfl, by decide, dgD15_is⟩
    | k + 16, h => omega
  apart := by
    have h : ∀ k, k < 16 → ∀ j, j < k → idsD.getD j [] ≠ idsD.getD k [] := by decide +kernel
    exact fun j k hk hj => h k hk j hj
theorem pathD : ∀ n, n < 16 → pathL (dsF n ++ [102]) = true := by decide +kernel
theorem pathD_dir : ∀ n, n < 15 → pathL (dsF n ++ [100]) = true := by decide +kernel
theorem pathD_no : ∀ n, n < 19 → 16 ≤ n → pathL (dsF n ++ [102]) = false := by decide +kernel
theorem notE_D : ∀ n, n < 16 → (idsD.getD n [] == dgE) = false := by decide +kernel
theorem rightF_one {f : Fil} (h : soundF f = true) : rightF [f] = true := by
  unfold rightF
  simp [stepF, clearF, h]
theorem rightF_not {f : Fil} (h : soundF f = false) : rightF [f] = false := rightF_step [f] 0 (by simp) (by unfold stepF; simp [h])
/-- What a write of one file within directories does in a store without objects. -/
theorem wr_chain {x : Itm} {ids : List (List UInt8)} {N : Nat} (G : GoodC x ids N) {n : Nat} (hn : n < N) (hs : soundF ⟨dsF n ++ x.name, x.mode, x.id⟩ = true) (hl : 1 ≤ x.name.length) :
    wrF putM [] [⟨dsF n ++ x.name, x.mode, x.id⟩] = (chC x ids (n + 1), ids.getD n [], 0) := by
  have hd : (dsF n).length = 2 * n := by
    clear hs hn
    induction n with
    | zero => rfl
    | succ n ih => simp only [dsF, List.length_cons, ih]; omega
  have hw := wl_chain G n hn (costF [⟨dsF n ++ x.name, x.mode, x.id⟩]) (by simp [costF, hd]; try omega)
  unfold wrF
  rw [if_pos (rightF_one hs), hw, if_pos rfl]
theorem sl_one (f : Fil) : slF [f] ≤ f.path.length := by
  simp [slF]
  exact List.count_le_length
end Go.Proofs.YtnohonjjfjppoaaGreatDoor

/-
  Layer 10, the program: ids held against each other (bytes.Compare; the literal of Ids), as slices.SortFunc asks it.
-/
namespace Go.Proofs.YtnohonjjfjppoaaGreatDoor
set_option maxRecDepth 20000
open Go.RowKit Go.Sort
set_option linter.unusedVariables false
set_option linter.unusedSimpArgs false
theorem run_bytesOf {P : Program} {w : World} {a : Option Addr} {l : List UInt8} {c : Nat} (h : BAt w a l) (hno : a = none → l.length = 0) : (Extern.Bytes.bytesOf (.slice a l.length c)).run P w = .ok ⟨l.toArray⟩ w := by
  cases a with
  | none =>
    have e := hno rfl
    obtain rfl : l = [] := List.eq_nil_of_length_eq_zero e
    rfl
  | some ad =>
    show (Extern.Bytes.loadBytes ad l.length .empty).run P w = _
    have h2 := Lib.run_loadBytesX (P := P) w (l.map fun c => (c.toNat : Int)) ad .empty (fun j x hj => by
      rw [List.getElem?_map] at hj
      cases hl : l[j]? with
      | none => rw [hl] at hj; cases hj
      | some y =>
        rw [hl] at hj
        cases hj
        exact h.cells ad rfl j _ (by simp [Lib.byteCells, hl]))
    rw [List.length_map] at h2
    rw [h2]
    simp [Lib.bytesOf, ByteArray.empty, ByteArray.emptyWithCapacity, Function.comp_def]
    rfl
theorem run_compare {P : Program} {w : World} {a1 a2 : Option Addr} {l1 l2 : List UInt8} {c1 c2 : Nat} (h1 : BAt w a1 l1) (h2 : BAt w a2 l2) (n1 : a1 = none → l1.length = 0) (n2 : a2 = none → l2.length = 0) :
    (Extern.BytealgCompare.compare #[.slice a1 l1.length c1, .slice a2 l2.length c2]).run P w = .ok (.int .i64 (Lib.compareBytes l1 l2)) w := by
  change Sem.run P (do pure (goInt (Extern.BytealgCompare.cmp (← Extern.Bytes.bytesOf (.slice a1 l1.length c1)) (← Extern.Bytes.bytesOf (.slice a2 l2.length c2))))) w = _
  simp only [Sem.run_bind, run_bytesOf h1 n1, run_bytesOf h2 n2, Sem.run_pure, Result.andThen]
  rw [Lib.cmp_eq]
  rfl
set_option maxHeartbeats 2000000 in
theorem bCompare_is (a1 a2 : Option Addr) (m1 m2 c1 c2 : Nat) (l1 l2 : List UInt8) (w : World) (h1 : BAt w a1 l1) (h2 : BAt w a2 l2) (e1 : m1 = l1.length) (e2 : m2 = l2.length) (n1 : a1 = none → m1 = 0) (n2 : a2 = none → m2 = 0) :
    Calls Tryz.prog 56 #[.slice a1 m1 c1, .slice a2 m2 c2] w fun e w' => e = .returned (.int .i64 (Lib.compareBytes l1 l2)) ∧ w = w' := by
  subst e1; subst e2
  have R := Lib.hid (run_compare (P := Tryz.prog) (c1 := c1) (c2 := c2) h1 h2 n1 n2)
  clear h1 h2 n1 n2
  obtain ⟨m1, hm1⟩ : ∃ m, l1.length = m := ⟨_, rfl⟩
  obtain ⟨m2, hm2⟩ : ∃ m, l2.length = m := ⟨_, rfl⟩
  obtain ⟨z, hz⟩ : ∃ z, Lib.compareBytes l1 l2 = z := ⟨_, rfl⟩
  rw [hm1, hm2, hz] at R
  rw [hm1, hm2, hz]
  go_enter Tryz.func56, Tryz.ntmps56
  go_wp2
  rw [run_callFunc_extern Tryz.func91 (by kernel_rfl) (by kernel_rfl) (by kernel_rfl) (e := Extern.BytealgCompare.compare) (by kernel_rfl), R.out]
  simp only [Result.andThen]
  rw [Oper.upon_value]
  go_wp2
  go_ret
  exact ⟨rfl, rfl⟩
theorem cmp_lt : ∀ a b : List UInt8, decide (Lib.compareBytes a b < 0) = decide (a < b)
  | [], [] => by simp [Lib.compareBytes]
  | [], _ :: _ => by simp [Lib.compareBytes]
  | _ :: _, [] => by simp [Lib.compareBytes]
  | a :: as2, b :: bs => by
    unfold Lib.compareBytes
    by_cases h : a < b
    · rw [if_pos h]
      simp [List.cons_lt_cons_iff, h]
    · rw [if_neg h]
      by_cases h2 : b < a
      · rw [if_pos h2]
        have hne : a ≠ b := fun e => h (by rw [e] at h2; exact absurd h2 (UInt8.lt_irrefl b))
        simp [List.cons_lt_cons_iff, h, hne]
      · rw [if_neg h2, cmp_lt as2 bs]
        have he : a = b := UInt8.le_antisymm (UInt8.not_lt.1 h2) (UInt8.not_lt.1 h)
        simp [List.cons_lt_cons_iff, h, he]
/-- One id held against another, as a number. -/
def cfX (x y : B20) : Int := Lib.compareBytes x.1 y.1
theorem ltX (x y : B20) : ltOf cfX x y = decide (x.1 < y.1) := cmp_lt x.1 y.1
theorem swoX : SWO (ltOf cfX) where
  irrefl x := by rw [ltX]; simp [List.lt_irrefl]
  trans x y z h1 h2 := by
    rw [ltX] at *
    simp only [decide_eq_true_eq] at *
    exact List.lt_trans h1 h2
  ntrans x y z h1 h2 := by
    rw [ltX] at *
    simp only [decide_eq_false_iff_not] at *
    exact fun h => h2 (List.lt_of_le_of_lt (show y.1 ≤ x.1 from h1) h)
end Go.Proofs.YtnohonjjfjppoaaGreatDoor

/-
  Layer 10, the program: the literal of Ids.
-/
namespace Go.Proofs.YtnohonjjfjppoaaGreatDoor
set_option maxRecDepth 20000
open Go.RowKit Go.Sort
set_option linter.unusedVariables false
set_option linter.unusedSimpArgs false
theorem bat_arr {u : World} {g : Nat} {A : Array Value} (i : List UInt8) (e : (cellsD i).toArray = A) (h : u.heap[g]? = some (.cells A 27 (0, 0))) : BAt u (some ⟨g, 0, none⟩) i := by
  subst e
  exact bat_of_range (lt_of_heap h) (row_cellsD h)
set_option maxHeartbeats 4000000 in
theorem cmpX_is (x y : B20) (w : World) :
    Calls Tryz.prog 55 #[.agg (cellsD x.1).toArray, .agg (cellsD y.1).toArray] w fun e w' => e = .returned (.int .i64 (cfX x y)) ∧ ∃ q os', w' = grow (w.drewN q) os' := by
  obtain ⟨A1, hA1⟩ : ∃ A, (cellsD x.1).toArray = A := ⟨_, rfl⟩
  obtain ⟨A2, hA2⟩ : ∃ A, (cellsD y.1).toArray = A := ⟨_, rfl⟩
  have b1 := (Below.refl w.heap.size w).alloc (Nat.le_refl _) (.cells A1 27)
  have b2 := b1.alloc b1.size (.cells A2 27)
  have h1 := ((Below.refl (w.alloc (.cells A1 27)).heap.size (w.alloc (.cells A1 27))).alloc (Nat.le_refl _) (.cells A2 27)).block w.heap.size (by simp)
  rw [heap_alloc_new w (.cells A1 27)] at h1
  have h2 := heap_alloc_new (w.alloc (.cells A1 27)) (.cells A2 27)
  have hs1 : (w.alloc (.cells A1 27)).heap.size = w.heap.size + 1 := by simp
  rw [hs1] at h2
  have hs2 : ((w.alloc (.cells A1 27)).alloc (.cells A2 27)).heap.size = w.heap.size + 2 := by simp
  have G := Lib.hid (show (w.alloc (.cells A1 27)).alloc (.cells A2 27) = grow w (#[.cells A1 27] ++ #[.cells A2 27]) by rw [alloc_eq_grow, alloc_eq_grow, grow_grow])
  have B1 := bat_arr x.1 hA1 h1
  have B2 := bat_arr y.1 hA2 h2
  have C := Lib.hid (fun (q : Nat) => bCompare_is (some ⟨w.heap.size, 0, none⟩) (some ⟨w.heap.size + 1, 0, none⟩) 20 20 20 20 x.1 y.1 (((w.alloc (.cells A1 27)).alloc (.cells A2 27)).drewN q) B1 B2 x.2.symm y.2.symm (fun e => by cases e) (fun e => by cases e))
  have sl1 := fun u => slice20_D u w.heap.size 0
  have sl2 := fun u => slice20_D u (w.heap.size + 1) 0
  rw [hA1, hA2]
  clear b1 b2 h1 h2 hs1 B1 B2
  show Calls _ _ _ _ fun e w' => e = .returned (.int .i64 (Lib.compareBytes x.1 y.1)) ∧ _
  generalize Lib.compareBytes x.1 y.1 = z at C ⊢
  go_enter Tryz.func55, Tryz.ntmps55
  go_wp2_with fail
  obtain ⟨W2, hW2⟩ : ∃ W2, (w.alloc (.cells A1 27)).alloc (.cells A2 27) = W2 := ⟨_, rfl⟩
  rw [hW2] at C G ⊢
  clear hW2 hs2
  go_quiet ((go_at_call 56; exact Calls.quiet_of_same ((C.out _).mono fun _ _ h => ⟨h.1, h.2.symm⟩)))
  go_wp2
  go_ret
  exact ⟨rfl, nq, _, by rw [G.out]; rfl⟩
theorem cmpLaysX (blk off size : Nat) (w : World) : Go.Proofs.CmpLays Tryz.prog 55 #[] (fun x : B20 => cellsD x.1) 20 cfX blk off size w :=
  fun _ _ _ _ x y => cmpX_is x y _
end Go.Proofs.YtnohonjjfjppoaaGreatDoor
