/-
  Layer 6: Parse of the program.
-/
import Derived.Test.YtagfnnpklefhhaaDoorJh
namespace Go.Proofs.YtagfnnpklefhhaaDoor
open Go.RowKit
set_option linter.unusedVariables false
set_option linter.unusedSimpArgs false

theorem lt_heap {w : World} {g : Nat} {o : Obj} (h : w.heap[g]? = some o) : g < w.heap.size := (Array.getElem?_eq_some_iff.1 h).1
theorem suffix_len (l p : List UInt8) : (Lib.trimSuffix l p).length ≤ l.length := by
  unfold Lib.trimSuffix
  split
  · rw [List.length_take]; omega
  · exact Nat.le_refl _
theorem parts_len (l : List UInt8) (i : Idt) (h : partsL takeN l = some i) : i.name.length ≤ l.length ∧ i.email.length ≤ l.length := by
  unfold partsL at h
  split at h
  · split at h
    · cases h
    · split at h
      · cases h
      · cases h
        have a := (cut_len l [60]).1
        have b := (cut_len l [60]).2
        have c := (cut_len (Lib.cut l [60]).2.1 [62, 32]).1
        have d := suffix_len (Lib.cut l [60]).1 [32]
        exact ⟨Nat.le_trans d a, Nat.le_trans c b⟩
  · cases h
/-- What Parse answers. -/
def idtA (o : Option Idt) : Value := match o with
  | none => .tuple #[.agg id0, .int .i64 4]
  | some i => .tuple #[idtV i, .int .i64 0]
theorem cells4 {w : World} {g : Nat} {a b c d : Value} {t : TypeId} (h : w.heap[g]? = some (.cells #[a, b, c, d] t (0, 0))) :
    w.cell? ⟨g, 0, none⟩ = some a ∧ w.cell? ⟨g, 1, none⟩ = some b ∧ w.cell? ⟨g, 2, none⟩ = some c ∧ w.cell? ⟨g, 3, none⟩ = some d :=
  ⟨by rw [Lib.cell_of_heap h]; rfl, by rw [Lib.cell_of_heap h]; rfl, by rw [Lib.cell_of_heap h]; rfl, by rw [Lib.cell_of_heap h]; rfl⟩

set_option maxHeartbeats 16000000 in
set_option maxRecDepth 100000 in
theorem Parse_is (l : List UInt8) (hn : l.length ≤ 1000000) (w : World) (tab : T7 w) :
    Calls Tryd.prog 9 #[.string ⟨l.toArray⟩] w fun e w' => e = .returned (idtA (parseP Lib.itoa takeN l)) ∧ Below w.heap.size w w' := by
  have B0 := Lib.hid ((Below.refl w.heap.size w).alloc (Nat.le_refl _) (.cells id0 23))
  have cP := parts_is l hn _ (tab.keep B0.out)
  have T0 := Lib.hid (tab.keep B0.out)
  have N0 := Lib.hid (heap_alloc_new w (.cells id0 23))
  have S0 := Lib.hid (show (w.alloc (.cells id0 23)).heap.size = w.heap.size + 1 by simp)
  obtain ⟨R, hR⟩ : ∃ R, R = idtA (parseP Lib.itoa takeN l) := ⟨_, rfl⟩
  rw [← hR]
  cases hp : partsL takeN l with
  | none =>
    have HV := Lib.hid (show R = .tuple #[.agg id0, .int .i64 4] by rw [hR]; unfold parseP; rw [hp]; rfl)
    rw [hp] at cP
    unfold optV at cP
    clear hR hp tab hn
    go_enter Tryd.func9, Tryd.ntmps9
    go_wp2_with fail
    refine cP.mono ?_
    rintro e w1 ⟨rfl, d1⟩
    have N1 := Lib.hid ((d1.block w.heap.size (by rw [S0.out]; omega)).trans N0.out)
    have G1 := Lib.hid (show w.heap.size < w1.heap.size by have := d1.size; rw [S0.out] at this; omega)
    have D1 := Lib.hid (B0.out.trans (d1.mono B0.out.size))
    have N2 := Lib.hid (show ((w1.alloc (.cells id0 23)).setRow w1.heap.size id0).heap[w.heap.size]? = some (.cells id0 23 (0, 0)) by
      have h := (below_setRow (B := w1.heap.size) ((Below.refl w1.heap.size w1).alloc (Nat.le_refl _) (.cells id0 23)) (Nat.le_refl _) id0)
      exact (h.block _ G1.out).trans N1.out)
    have D2 := Lib.hid (below_setRow (g := w1.heap.size) ((D1.out).alloc D1.out.size (.cells id0 23)) D1.out.size id0)
    clear d1 cP
    go_wp2_with (first
      | (with_reducible refine wpList_store_row rfl 23 (.tmp 4) (.tmp 9) rfl w1.heap.size id0 rfl rfl 23 id0 (heap_alloc_new w1 _) (infoId4 _ _ _ _) (sizeId4 _ _ _ _ _ _ _ _) one_id0 ?_)
      | (with_reducible refine wpList_store_row rfl 23 (.tmp 2) (.tmp 24) rfl w.heap.size id0 rfl rfl 23 id0 N2.out (infoId4 _ _ _ _) (sizeId4 _ _ _ _ _ _ _ _) one_id0 ?_)
      | fail)
    refine bodyPost_ret (results_idt Tryd.results9 _ _ w.heap.size id0 (0, 0) _ rfl rfl (setRow_heap _ w.heap.size id0 id0 _ (0, 0) N2.out) rfl) rfl ⟨by rw [HV.out]; rfl, below_setRow D2.out (Nat.le_refl _) _⟩
  | some i =>
    obtain ⟨k1, k2⟩ := parts_len l i hp
    have cR := fun w t => Right_is i (by omega) (by omega) w t
    have cQ := fun w t => Print_is i (by omega) (by omega) w t
    rw [hp] at cP
    unfold optV idtV at cP
    simp only at cP
    have hE : R = idtA (if rightI i = true ∧ printI Lib.itoa i = l then some i else none) := by rw [hR]; unfold parseP; rw [hp]
    have HE := Lib.hid hE
    have IV := Lib.hid (show idtV i = .agg #[.string ⟨i.name.toArray⟩, .string ⟨i.email.toArray⟩, .int .i64 i.whn, .int .i64 i.zone] from rfl)
    have FQ := Lib.hid (show printI Lib.itoa i = l → (printI Lib.itoa i == l) = true from fun h => by rw [h]; simp)
    have FN := Lib.hid (show printI Lib.itoa i ≠ l → (printI Lib.itoa i == l) = false from fun h => by rw [beq_eq_false_iff_ne]; exact h)
    rw [IV.out] at cR cQ
    clear hR hp tab hn k1 k2 hE
    generalize (⟨i.name.toArray⟩ : ByteArray) = sn at cP cR cQ IV
    generalize (⟨i.email.toArray⟩ : ByteArray) = se at cP cR cQ IV
    generalize hti : i.whn = ti at cP cR cQ IV
    generalize hzi : i.zone = zi at cP cR cQ IV
    have one : (#[Value.string sn, .string se, .int .i64 ti, .int .i64 zi] : Array Value).all (·.oneCell') = true := by simp [Value.oneCell']
    clear hti hzi
    go_enter Tryd.func9, Tryd.ntmps9
    go_wp2_with fail
    refine cP.mono ?_
    rintro e w1 ⟨rfl, d1⟩
    have N1 := Lib.hid ((d1.block w.heap.size (by rw [S0.out]; omega)).trans N0.out)
    have G1 := Lib.hid (show w.heap.size < w1.heap.size by have := d1.size; rw [S0.out] at this; omega)
    have D1 := Lib.hid (B0.out.trans (d1.mono B0.out.size))
    have T1 := Lib.hid (T0.out.keep d1)
    have hb2 := below_setRow (B := w1.heap.size) (g := w1.heap.size) ((Below.refl w1.heap.size w1).alloc (Nat.le_refl _) (.cells id0 23)) (Nat.le_refl _) #[Value.string sn, .string se, .int .i64 ti, .int .i64 zi]
    have N2 := Lib.hid ((hb2.block _ G1.out).trans N1.out)
    have D2 := Lib.hid (D1.out.trans (hb2.mono D1.out.size))
    have T2 := Lib.hid (T1.out.keep hb2)
    have hh2 := setRow_heap (w1.alloc (.cells id0 23)) w1.heap.size id0 #[Value.string sn, .string se, .int .i64 ti, .int .i64 zi] 23 (0, 0) (heap_alloc_new w1 _)
    have H2 := Lib.hid hh2
    obtain ⟨c20, c21, c22, c23⟩ := cells4 hh2
    clear hb2 d1 cP hh2
    go_wp2_with (first
      | (with_reducible refine wpList_store_row rfl 23 (.tmp 4) (.tmp 9) rfl w1.heap.size #[Value.string sn, .string se, .int .i64 ti, .int .i64 zi] rfl rfl 23 id0 (heap_alloc_new w1 _) (infoId4 _ _ _ _) (sizeId4 _ _ _ _ _ _ _ _) one ?_)
      | fail)
    refine (cR _ T2.out.t6).mono ?_
    rintro e w2 ⟨rfl, d2⟩
    have g2a := lt_heap N2.out
    have g2b := lt_heap H2.out
    have N3 := Lib.hid ((d2.block _ g2a).trans N2.out)
    have hh3 := (d2.block _ g2b).trans H2.out
    have H3 := Lib.hid hh3
    have D3 := Lib.hid (D2.out.trans (d2.mono D2.out.size))
    have T3 := Lib.hid (T2.out.keep d2)
    obtain ⟨c30, c31, c32, c33⟩ := cells4 hh3
    clear c20 c21 c22 c23 d2 hh3 g2a g2b N2 H2 D2 T2 cR
    cases hr : rightI i with
    | false =>
      have HV := Lib.hid (show R = .tuple #[.agg id0, .int .i64 4] by rw [HE.out, if_neg (fun h => by rw [hr] at h; exact absurd h.1 (by decide))]; rfl)
      clear hr
      go_wp2_with (first
        | (with_reducible refine wpList_store_row rfl 23 (.tmp 2) (.tmp 24) rfl w.heap.size id0 rfl rfl 23 id0 N3.out (infoId4 _ _ _ _) (sizeId4 _ _ _ _ _ _ _ _) one_id0 ?_)
        | fail)
      refine bodyPost_ret (results_idt Tryd.results9 _ _ w.heap.size _ (0, 0) _ rfl rfl (setRow_heap _ w.heap.size id0 _ _ (0, 0) N3.out) rfl) rfl ⟨by rw [HV.out]; rfl, below_setRow D3.out (Nat.le_refl _) _⟩
    | true =>
      go_wp2_with fail
      refine (cQ _ T3.out.t6).mono ?_
      rintro e w3 ⟨rfl, d3⟩
      have g3a := lt_heap N3.out
      have g3b := lt_heap H3.out
      have N4 := Lib.hid ((d3.block _ g3a).trans N3.out)
      have hh4 := (d3.block _ g3b).trans H3.out
      have D4 := Lib.hid (D3.out.trans (d3.mono D3.out.size))
      obtain ⟨c40, c41, c42, c43⟩ := cells4 hh4
      clear c30 c31 c32 c33 d3 hh4 g3a g3b N3 H3 D3 T3 cQ
      by_cases he : printI Lib.itoa i = l
      · have HV := Lib.hid (show R = .tuple #[.agg #[.string sn, .string se, .int .i64 ti, .int .i64 zi], .int .i64 0] by rw [HE.out, if_pos ⟨hr, he⟩]; unfold idtA; simp only; rw [IV.out])
        have feq := FQ.out he
        clear hr he HE
        go_wp2_with (first
          | (with_reducible refine wpList_store_row rfl 23 (.tmp 2) (.tmp 25) rfl w.heap.size #[Value.string sn, .string se, .int .i64 ti, .int .i64 zi] rfl rfl 23 id0 N4.out (infoId4 _ _ _ _) (sizeId4 _ _ _ _ _ _ _ _) one ?_)
          | fail)
        refine bodyPost_ret (results_idt Tryd.results9 _ _ w.heap.size _ (0, 0) _ rfl rfl (setRow_heap _ w.heap.size id0 _ _ (0, 0) N4.out) rfl) rfl ⟨by rw [HV.out]; rfl, below_setRow D4.out (Nat.le_refl _) _⟩
      · have HV := Lib.hid (show R = .tuple #[.agg id0, .int .i64 4] by rw [HE.out, if_neg (fun h => he h.2)]; rfl)
        have feq := FN.out he
        clear hr he HE
        go_wp2_with (first
          | (with_reducible refine wpList_store_row rfl 23 (.tmp 2) (.tmp 24) rfl w.heap.size id0 rfl rfl 23 id0 N4.out (infoId4 _ _ _ _) (sizeId4 _ _ _ _ _ _ _ _) one_id0 ?_)
          | fail)
        refine bodyPost_ret (results_idt Tryd.results9 _ _ w.heap.size _ (0, 0) _ rfl rfl (setRow_heap _ w.heap.size id0 _ _ (0, 0) N4.out) rfl) rfl ⟨by rw [HV.out]; rfl, below_setRow D4.out (Nat.le_refl _) _⟩
end Go.Proofs.YtagfnnpklefhhaaDoor
