/-
  Texts that belong together, one behind the other.
-/
import Derived.Test.YtdgcjjledbnofaaDoorFu19
import Derived.Test.YtdgcjjledbnofaaDoorFu11
import Derived.Test.YtdgcjjledbnofaaDoorFu01
import Derived.Maps.OwnSet
import Derived.StringKeys
import Derived.OwnWalk
/-
  Layer 16, the program: the file of a line, whatever the line.
-/
namespace Go.Proofs.YtdgcjjledbnofaaDoor
set_option maxRecDepth 20000
open Go.RowKit
set_option linter.unusedVariables false
set_option linter.unusedSimpArgs false

set_option maxHeartbeats 8000000 in
theorem file_long (l : List UInt8) (hn : l.length ≤ 1000000) (w : World) (tab : QTab w) (h1 : idxB 0 l < l.length) (h2 : 40 ≤ (l.drop (idxB 0 l + 1)).length) :
    Calls Tryd.prog 25 #[.string ⟨l.toArray⟩] w fun e w' => e = .returned (fileV (restM (l.take (idxB 0 l)) (l.drop (idxB 0 l + 1)))) ∧ Below w.heap.size w w' := by
  obtain ⟨z, hz, hzs, hzv, hzb, hz1⟩ := zFile_any
  obtain ⟨zd, hzd, hzds, hzdv, hzdb, hzd1⟩ := zId_any
  have b0 := (Below.refl w.heap.size w).alloc (Nat.le_refl _) (.cells z 28)
  have C := CutB_is 0 l hn _ (tab.below b0)
  have H0 := Lib.hid (heap_alloc_new w (.cells z 28))
  have B0 := Lib.hid b0
  have IZ := Lib.hid (show (Tryd.prog.info? 28).map (·.size) = some z.size by rw [hzs]; exact infoFile)
  have HZB := Lib.hid hzb; have HZS := Lib.hid hzs; have HZ1 := Lib.hid hz1; have HZ := Lib.hid hz
  have HZD := Lib.hid hzds; have HZI := Lib.hid (show arrD idZ = zd from hzd.symm)
  have IZD := Lib.hid (show (Tryd.prog.info? 26).map (·.size) = some zd.size by rw [hzds]; exact infoD_n); have OZD := Lib.hid hzd1; have HB4 := Lib.hid (fun (w1 w2 : World) (A : Array Value) (b1 : Below w.heap.size w w1) (o : Off w1.heap.size (w1.alloc (.cells A 26)) w2) => (b1.trans (((Below.refl w1.heap.size w1).alloc (Nat.le_refl _) (.cells A 26)).mono b1.size)).trans (o.below (B := w.heap.size) b1.size (by simp; have := b1.size; omega)))
  have HK4 := Lib.hid (fun (w1 w2 : World) (A c : Array Value) (h : w1.heap[w.heap.size]? = some (.cells c 28 (0, 0))) (o : Off w1.heap.size (w1.alloc (.cells A 26)) w2) => ((o.block w.heap.size (by have := lt_of_heap h; simp; omega) (Nat.ne_of_lt (lt_of_heap h))).trans ((Below.heap_alloc w1 (.cells A 26) _ (lt_of_heap h)).trans h) : w2.heap[w.heap.size]? = some (.cells c 28 (0, 0))))
  unfold cutV at C
  rw [if_pos h1] at C
  have hr1 : (l.drop (idxB 0 l + 1)).length ≤ 1000000 := by rw [List.length_drop]; omega
  have hp1 : (l.take (idxB 0 l)).length ≤ 1000000 := by rw [List.length_take]; omega
  obtain ⟨r, hr⟩ : ∃ r, l.drop (idxB 0 l + 1) = r := ⟨_, rfl⟩
  obtain ⟨p, hp⟩ : ∃ p, l.take (idxB 0 l) = p := ⟨_, rfl⟩
  rw [hr] at C h2 hr1 ⊢
  rw [hp] at C hp1 ⊢
  clear hr hp h1 hn
  have hsz := size_toArray r
  have g1 : ¬ (r.length : Int) < 40 := by omega
  have j1 : (40 : Int) ≤ (r.length : Int) := by omega
  have e1 : (⟨r.toArray⟩ : ByteArray).extract 0 40 = ⟨(r.take 40).toArray⟩ := ext_take r 40
  have e2 : (⟨r.toArray⟩ : ByteArray).extract 40 r.length = ⟨(r.drop 40).toArray⟩ := ext_drop r 40
  have hx40 : (⟨(r.take 40).toArray⟩ : ByteArray).size = 40 := by rw [size_toArray, List.length_take]; omega
  have hmo := fun u => modeOf_is (r.drop 40) u
  simp only at C
  unfold restM
  rw [if_neg (by omega)]
  have CB := Lib.hid (fun u (hu : unhexL (r.take 40) = none) => Id_bad ⟨(r.take 40).toArray⟩ u hx40 hu)
  have CG := Lib.hid (fun u d (hu : unhexL (r.take 40) = some d) => Id_good ⟨(r.take 40).toArray⟩ d u hx40 hu)
  have HL := Lib.hid (fun d (hu : unhexL (r.take 40) = some d) => (show d.length = 20 by
    have := (unhex_spec _ _ _ (Nat.le_refl _) hu).1
    rw [List.length_take] at this
    omega))
  obtain ⟨mo, hm⟩ : ∃ mo, modeM (r.drop 40) = mo := ⟨_, rfl⟩
  rw [hm] at hmo ⊢
  generalize (⟨(r.drop 40).toArray⟩ : ByteArray) = s2 at e2 hmo
  generalize (⟨(r.take 40).toArray⟩ : ByteArray) = s1 at e1 CB CG
  generalize (⟨r.toArray⟩ : ByteArray) = sr at hsz C e1 e2
  have CM := Lib.hid hmo; have C := Lib.hid C
  clear tab hzs hzb hz1 hzd hzdb hzd1 b0 h2 hm hmo hx40 hzds hz
  cases hu : unhexL (r.take 40) with
  | none =>
    have CI := Lib.hid (fun u => CB.out u hu)
    simp only
    rw [show fileV none = .tuple #[.agg (arrF zFil), .bool false] from rfl, ← HZ.out]
    rw [show idv (List.replicate 20 0) = .agg (arrD idZ) from rfl, HZI.out] at CI
    clear hu CB CG HL CM e2
    go_enter Tryd.func25, Tryd.ntmps25
    go_wp2_with fail
    refine C.out.mono ?_
    rintro e u ⟨rfl, b⟩
    have B := Lib.hid (B0.out.trans (b.mono B0.out.size))
    have H1 := Lib.hid ((b.block _ (lt_of_heap H0.out)).trans H0.out)
    clear b C
    go_wp2_with fail
    refine (CI.out _).mono ?_
    rintro e u2 ⟨rfl, b2⟩
    have B2 := Lib.hid (B.out.trans (b2.mono B.out.size))
    have H2 := Lib.hid ((b2.block _ (lt_of_heap H1.out)).trans H1.out)
    clear b2 CI
    go_wp2_with (first
      | (with_reducible refine wpList_store_all rfl 26 (.tmp 7) (.tmp 28) rfl u2.heap.size zd rfl rfl 26 zd (heap_alloc_new _ _) IZD.out rfl OZD.out ?_)
      | fail)
    intro w4 r4 off4 sz4
    have B4 := Lib.hid (HB4.out _ _ _ B2.out off4)
    have H4 := Lib.hid (HK4.out _ _ _ _ H2.out off4)
    clear r4 off4 sz4 HB4 HK4
    go_wp2_with (first
      | (refine wpList_build_none rfl 28 rfl z HZB.out ?_)
      | (with_reducible refine wpList_store_all rfl 28 (.tmp 2) (.tmp 32) rfl w.heap.size z rfl rfl 28 z H4.out IZ.out rfl HZ1.out ?_)
      | fail)
    intro w5 r5 off5 sz5
    have B5 := Lib.hid (B4.out.trans (off5.below (B := w.heap.size) (Nat.le_refl _) B4.out.size))
    have R5 := Lib.hid r5
    clear r5 off5 sz5
    go_wp2_with fail
    exact bodyPost_ret (results_fil Tryd.results25 _ _ w.heap.size z (0, 0) (.bool false) rfl rfl R5.out HZS.out) rfl ⟨rfl, B5.out⟩
  | some d =>
    have hd := HL.out d hu
    have CI := Lib.hid (fun u => CG.out u d hu)
    obtain ⟨A, hA⟩ : ∃ A, arrD d = A := ⟨_, rfl⟩
    rw [show idv d = .agg (arrD d) from rfl, hA] at CI
    have SA := Lib.hid (show A.size = 20 by rw [← hA]; exact arrD_size d hd); have OA := Lib.hid (show A.all (·.oneCell') = true by rw [← hA]; exact arrD_one d)
    have IA := Lib.hid (show (Tryd.prog.info? 26).map (·.size) = some A.size by rw [SA.out]; exact infoD_n)
    have EZ := Lib.hid (SA.out.trans HZD.out.symm)
    have BF := Lib.hid (fun m => built_fil m ⟨p.toArray⟩ d hd)
    rw [hA] at BF
    have AF := Lib.hid (fun m => (show (.string ⟨p.toArray⟩ :: .int .i64 m :: cellsD d : List Value).toArray = arrF ⟨p, m, d⟩ from rfl))
    have SF := Lib.hid (fun m => arrF_size ⟨p, m, d⟩ hd); have OF := Lib.hid (fun m => arrF_one ⟨p, m, d⟩)
    simp only
    generalize (⟨p.toArray⟩ : ByteArray) = sp at C BF AF
    clear hu CB CG HL hd hA HZI
    cases mo with
    | none =>
      simp only
      rw [show fileV none = .tuple #[.agg (arrF zFil), .bool false] from rfl, ← HZ.out]
      rw [show modeV none = .tuple #[.int .i64 0, .bool false] from rfl] at CM
      clear BF AF SF OF
      go_enter Tryd.func25, Tryd.ntmps25
      go_wp2_with fail
      refine C.out.mono ?_
      rintro e u ⟨rfl, b⟩
      have B := Lib.hid (B0.out.trans (b.mono B0.out.size))
      have H1 := Lib.hid ((b.block _ (lt_of_heap H0.out)).trans H0.out)
      clear b C
      go_wp2_with fail
      refine (CI.out _).mono ?_
      rintro e u2 ⟨rfl, b2⟩
      have B2 := Lib.hid (B.out.trans (b2.mono B.out.size))
      have H2 := Lib.hid ((b2.block _ (lt_of_heap H1.out)).trans H1.out)
      clear b2 CI
      go_wp2_with (first
        | (with_reducible refine wpList_store_all rfl 26 (.tmp 7) (.tmp 28) rfl u2.heap.size A rfl rfl 26 zd (heap_alloc_new _ _) IA.out EZ.out OA.out ?_)
        | fail)
      intro w4 r4 off4 sz4
      have B4 := Lib.hid (HB4.out _ _ _ B2.out off4)
      have H4 := Lib.hid (HK4.out _ _ _ _ H2.out off4)
      clear r4 off4 sz4 HB4 HK4
      go_wp2_with fail
      refine (CM.out _).mono ?_
      rintro e u5 ⟨rfl, rfl⟩
      go_wp2_with (first
        | (refine wpList_build_none rfl 28 rfl z HZB.out ?_)
        | (with_reducible refine wpList_store_all rfl 28 (.tmp 2) (.tmp 41) rfl w.heap.size z rfl rfl 28 z H4.out IZ.out rfl HZ1.out ?_)
        | fail)
      intro w5 r5 off5 sz5
      have B5 := Lib.hid (B4.out.trans (off5.below (B := w.heap.size) (Nat.le_refl _) B4.out.size))
      have R5 := Lib.hid r5
      clear r5 off5 sz5
      go_wp2_with fail
      exact bodyPost_ret (results_fil Tryd.results25 _ _ w.heap.size z (0, 0) (.bool false) rfl rfl R5.out HZS.out) rfl ⟨rfl, B5.out⟩
    | some m =>
      simp only
      rw [show fileV (some ⟨p, m, d⟩) = .tuple #[.agg (arrF ⟨p, m, d⟩), .bool true] from rfl]
      rw [show modeV (some m) = .tuple #[.int .i64 m, .bool true] from rfl] at CM
      have BF := Lib.hid (BF.out m)
      rw [AF.out m] at BF
      have SF := Lib.hid (SF.out m); have OF := Lib.hid (OF.out m)
      obtain ⟨F, hF⟩ : ∃ F, arrF ⟨p, m, d⟩ = F := ⟨_, rfl⟩
      rw [hF] at BF SF OF ⊢
      have IF := Lib.hid (show (Tryd.prog.info? 28).map (·.size) = some F.size by rw [SF.out]; exact infoFile)
      have EF := Lib.hid (SF.out.trans HZS.out.symm)
      clear AF hF
      go_enter Tryd.func25, Tryd.ntmps25
      go_wp2_with fail
      refine C.out.mono ?_
      rintro e u ⟨rfl, b⟩
      have B := Lib.hid (B0.out.trans (b.mono B0.out.size))
      have H1 := Lib.hid ((b.block _ (lt_of_heap H0.out)).trans H0.out)
      clear b C
      go_wp2_with fail
      refine (CI.out _).mono ?_
      rintro e u2 ⟨rfl, b2⟩
      have B2 := Lib.hid (B.out.trans (b2.mono B.out.size))
      have H2 := Lib.hid ((b2.block _ (lt_of_heap H1.out)).trans H1.out)
      clear b2 CI
      go_wp2_with (first
        | (with_reducible refine wpList_store_all rfl 26 (.tmp 7) (.tmp 28) rfl u2.heap.size A rfl rfl 26 zd (heap_alloc_new _ _) IA.out EZ.out OA.out ?_)
        | fail)
      intro w4 r4 off4 sz4
      have B4 := Lib.hid (HB4.out _ _ _ B2.out off4)
      have H4 := Lib.hid (HK4.out _ _ _ _ H2.out off4)
      have R4 := Lib.hid r4
      clear r4 off4 sz4 HB4 HK4
      go_wp2_with fail
      refine (CM.out _).mono ?_
      rintro e u5 ⟨rfl, rfl⟩
      go_wp2_with (first
        | (with_reducible refine wpList_load_all 26 (.tmp 7) rfl (by kernel_rfl) u2.heap.size A 26 (0, 0) rfl R4.out _ Tryd.underlying26 rfl IA.out ?_)
        | (refine wpList_build_three rfl 28 0 1 2 _ _ _ rfl _ _ _ rfl rfl rfl F BF.out ?_)
        | (with_reducible refine wpList_store_all rfl 28 (.tmp 2) (.tmp 45) rfl w.heap.size F rfl rfl 28 z H4.out IF.out EF.out OF.out ?_)
        | fail)
      intro w5 r5 off5 sz5
      have B5 := Lib.hid (B4.out.trans (off5.below (B := w.heap.size) (Nat.le_refl _) B4.out.size))
      have R5 := Lib.hid r5
      clear r5 off5 sz5
      go_wp2_with fail
      exact bodyPost_ret (results_fil Tryd.results25 _ _ w.heap.size F (0, 0) (.bool true) rfl rfl R5.out SF.out) rfl ⟨rfl, B5.out⟩
theorem file_is (l : List UInt8) (hn : l.length ≤ 1000000) (w : World) (tab : QTab w) :
    Calls Tryd.prog 25 #[.string ⟨l.toArray⟩] w fun e w' => e = .returned (fileV (fileM l)) ∧ Below w.heap.size w w' := by
  unfold fileM
  by_cases h1 : idxB 0 l < l.length
  · rw [if_pos h1]
    by_cases h2 : (l.drop (idxB 0 l + 1)).length < 40
    · rw [show restM (l.take (idxB 0 l)) (l.drop (idxB 0 l + 1)) = none by unfold restM; rw [if_pos h2]]
      exact file_none l hn w tab (.inr h2)
    · exact file_long l hn w tab h1 (by omega)
  · rw [if_neg h1]
    exact file_none l hn w tab (.inl h1)
end Go.Proofs.YtdgcjjledbnofaaDoor

/-
  Cut of Yj: where a byte stands first.
-/
namespace Go.Proofs.YtdgcjjledbnofaaDoor
set_option maxRecDepth 20000
open Go.RowKit
set_option linter.unusedVariables false
set_option linter.unusedSimpArgs false

/-- Where a byte stands first, and whether it does. -/
def seekI (s : List UInt8) (c : UInt8) : Nat × Bool := if s.findIdx (· == c) < s.length then (s.findIdx (· == c), true) else (0, false)
theorem seek_here (s : List UInt8) (c : UInt8) (i : Nat) (hi : i < s.length) (h : s.getD i 0 = c) (hn : ∀ j, j < i → s.getD j 0 ≠ c) : seekI s c = (i, true) := by
  have e : s.findIdx (· == c) = i := by
    rw [List.findIdx_eq hi]
    refine ⟨?_, fun j hj => ?_⟩
    · rw [List.getD_eq_getElem?_getD, List.getElem?_eq_getElem hi] at h
      simp only [Option.getD_some] at h
      rw [h]; simp
    · have := hn j hj
      rw [List.getD_eq_getElem?_getD, List.getElem?_eq_getElem (by omega)] at this
      simp only [Option.getD_some] at this
      exact beq_false_of_ne this
  unfold seekI
  rw [e, if_pos hi]
theorem seek_none (s : List UInt8) (c : UInt8) (hn : ∀ j, j < s.length → s.getD j 0 ≠ c) : seekI s c = (0, false) := by
  unfold seekI
  rw [if_neg]
  intro h
  have h2 := List.findIdx_getElem (p := (· == c)) (w := h)
  have := hn (s.findIdx (· == c)) h
  rw [List.getD_eq_getElem?_getD, List.getElem?_eq_getElem h] at this
  simp only [Option.getD_some] at this
  exact this (eq_of_beq h2)
theorem seek_le (s : List UInt8) (c : UInt8) : (seekI s c).1 ≤ s.length := by
  unfold seekI
  split
  · next h => exact Nat.le_of_lt h
  · exact Nat.zero_le _
theorem seek_any (s : List UInt8) (c : UInt8) : (seekI s c).2 = s.any (fun x => x == c) := by
  unfold seekI
  by_cases h : s.findIdx (· == c) < s.length
  · rw [if_pos h]
    have h2 : s.any (fun x => x == c) = true := by
      rw [List.any_eq_true]
      exact ⟨s[s.findIdx (· == c)], List.getElem_mem h, List.findIdx_getElem (p := (· == c)) (w := h)⟩
    rw [h2]
  · rw [if_neg h]
    have h2 : s.any (fun x => x == c) = false := by
      rw [List.any_eq_false]
      intro x hx hc
      exact h (List.findIdx_lt_length.2 ⟨x, hx, hc⟩)
    rw [h2]
/-- A rune that is no such byte. -/
theorem seek_go {l : List UInt8} {c : UInt8} (h7 : c.toNat < 128) {i k : Nat} {r : Int} (h : (r < 128 ∧ r = ((l.getD i 0).toNat : Int) ∧ k = 1) ∨ (128 ≤ r ∧ k ≤ 4 ∧ ∀ j, i ≤ j → j < i + k → 128 ≤ (l.getD j 0).toNat)) (hr : r ≠ (c.toNat : Int))
    (hall : ∀ j, j < i → l.getD j 0 ≠ c) : ∀ j, j < i + k → l.getD j 0 ≠ c := by
  intro j hj e
  by_cases hji : j < i
  · exact hall j hji e
  · rcases h with ⟨_, h, hk⟩ | ⟨_, _, h⟩
    · obtain rfl : j = i := by omega
      rw [e] at h
      exact hr h
    · have := h j (by omega) hj
      rw [e] at this
      omega
theorem seek_stop {l : List UInt8} {c : UInt8} (h7 : c.toNat < 128) {i k : Nat} {r : Int} (h : (r < 128 ∧ r = ((l.getD i 0).toNat : Int) ∧ k = 1) ∨ (128 ≤ r ∧ k ≤ 4 ∧ ∀ j, i ≤ j → j < i + k → 128 ≤ (l.getD j 0).toNat)) (hr : r = (c.toNat : Int)) : l.getD i 0 = c := by
  rcases h with ⟨_, h, _⟩ | ⟨h, _, _⟩
  · exact UInt8.toNat_inj.1 (by omega)
  · omega

end Go.Proofs.YtdgcjjledbnofaaDoor

/-
  Cut of Yo: keys that are strings, sets.
-/
namespace Go.Proofs.YtdgcjjledbnofaaDoor
set_option maxRecDepth 20000
open Go.RowKit Go.Maps
set_option linter.unusedVariables false
set_option linter.unusedSimpArgs false

theorem keyLaw : Keyed Tryd.prog 9 := string_keyed Tryd.underlying9
theorem zero_unit (w : World) : (zeroValue 76).run Tryd.prog w = .ok (.agg #[]) w := by kernel_rfl
theorem run_makeMap_hint (n : Int) (w : World) : (Instr.makeMap 73 (some (.int .i64 n))).run Tryd.prog w = .ok (.map (some w.heap.size)) (w.alloc (.map #[] 0)) := by
  simp [Instr.makeMap, run_underlying Tryd.underlying73, asInt, asIntOf, Result.andThen]
theorem string_key (x y : List UInt8) : (Lit.string x).sameKey (Lit.string y) = (x == y) := by
  rfl
theorem map_below {w w' : World} {B n : Nat} {D : DataW Unit} (h : w.ownsMap Tryd.prog 9 unitElem B n D) (b : Below w.heap.size w w') : w'.ownsMap Tryd.prog 9 unitElem B n D := by
  obtain ⟨es, clock, hb, r⟩ := h
  exact ⟨es, clock, (b.block B (Array.getElem?_eq_some_iff.1 hb).1).trans hb, r⟩

end Go.Proofs.YtdgcjjledbnofaaDoor
