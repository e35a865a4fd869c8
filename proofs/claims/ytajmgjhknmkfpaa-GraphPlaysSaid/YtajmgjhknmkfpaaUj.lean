/-
  Layer 12, the program: Add.
-/
import Derived.Test.YtajmgjhknmkfpaaUg
namespace Go.Proofs.Ytajmgjhknmkfpaa
set_option maxRecDepth 20000
open Go.RowKit Go.Maps
set_option linter.unusedVariables false
set_option linter.unusedSimpArgs false

/-- A literal of two parts. -/
theorem wpList_build_two {ops : Array Oper} {rest : List Oper} {o : Oper} {a : Act} {w : World} {Q : Exit → Act → World → Prop} (hgd : o.guard = none) (t : TypeId) (x y : Operand) (ho : o.op = .build t #[(0, x), (1, y)])
    (u v : Value) (hx : a.eval x = u) (hy : a.eval y = v) (cells : Array Value) (hb : Try.prog.built t [(0, u), (1, v)] = some cells) (h : wpList Try.prog ops Q rest (a.put o.dst (.agg cells)) w) : wpList Try.prog ops Q (o :: rest) a w := by
  subst hx; subst hy
  exact wpList_plain hgd fun K hK => wp_build t #[(0, x), (1, y)] ho (by simp [hb]) (by simp [hb]; exact hK _ _ h)
theorem built_node20 (b0 b1 b2 b3 b4 b5 b6 b7 b8 b9 b10 b11 b12 b13 b14 b15 b16 b17 b18 b19 : UInt8) (a : Option Addr) (n c : Nat) :
    Try.prog.built 65 [(0, .agg (arrD [b0, b1, b2, b3, b4, b5, b6, b7, b8, b9, b10, b11, b12, b13, b14, b15, b16, b17, b18, b19])), (1, .slice a n c)] = some (cellsD [b0, b1, b2, b3, b4, b5, b6, b7, b8, b9, b10, b11, b12, b13, b14, b15, b16, b17, b18, b19] ++ [Value.slice a n c]).toArray := by kernel_rfl
theorem built_node (i : List UInt8) (hi : i.length = 20) (a : Option Addr) (n c : Nat) : Try.prog.built 65 [(0, .agg (arrD i)), (1, .slice a n c)] = some (cellsD i ++ [Value.slice a n c]).toArray := by
  match i, hi with
  | [b0, b1, b2, b3, b4, b5, b6, b7, b8, b9, b10, b11, b12, b13, b14, b15, b16, b17, b18, b19], _ => exact built_node20 b0 b1 b2 b3 b4 b5 b6 b7 b8 b9 b10 b11 b12 b13 b14 b15 b16 b17 b18 b19 a n c
/-- A node's parents, in its cell. -/
theorem GraphIn.parents {S : Nat → Prop} {w : World} {g : Nat} {L : List Gn} {E : List Enn} {v : Value} {mb : Option Nat} (h : GraphIn S w g L E v mb) {k : Nat} (hk : k < L.length) :
    ∃ b o c x, v = .slice (some ⟨b, o, none⟩) L.length c ∧ L.length ≤ c ∧ b < w.heap.size ∧ w.cell? ⟨b, o + k * 21 + 20, none⟩ = some x ∧ w.rangeAt b (o + k * 21) (cellsD (idAt L k)) ∧ RedR rowN (fun k => S k ∧ k ≠ g ∧ v.ownBlock ≠ some k ∧ mb ≠ some k) w x (plAt L k) := by
  obtain ⟨a, c, e, hc, hm, hr, hl⟩ := h.shape
  obtain ⟨b, o, rfl, hb⟩ := hr.some (by omega)
  have hkE : k < E.length := by omega
  have hE : E[k].n = L[k] := by simp only [← h.ens, List.getElem_map]
  have hel := hr.elem k hkE
  obtain ⟨hok, hred⟩ := h.red _ (List.getElem_mem hkE)
  have hl20 : (cellsD E[k].n.id).length = 20 := cellsD_len _ hok.1
  refine ⟨b, o, c, E[k].v, e, hc, hb, hel 20 _ ?_, fun j x hx => hel j x ?_, ?_⟩
  · show (cellsN E[k])[20]? = some E[k].v
    unfold cellsN
    rw [List.getElem?_append_right (by omega), hl20]
    rfl
  · show (cellsN E[k])[j]? = some x
    unfold cellsN
    rw [idAt_lt hk, ← hE] at hx
    rw [List.getElem?_append_left (List.getElem?_eq_some_iff.1 hx).1]
    exact hx
  · rw [plAt_lt hk, ← hE]
    exact hred
theorem addP_nil (i : List UInt8) (v : Value) (w : World) :
    Calls Try.prog 10 #[.pointer none, .agg (arrD i), v] w fun e w' => e = .returned (.int .i64 2) ∧ Below w.heap.size w w' := by
  have b1 := Lib.hid ((Below.refl w.heap.size w).alloc (Nat.le_refl _) (.cells (arrD i) 32))
  generalize arrD i = A at b1 ⊢
  go_enter Try.func10, Try.ntmps10
  go_wp2
  go_ret
  exact ⟨rfl, b1.out⟩
set_option maxRecDepth 100000 in
set_option maxHeartbeats 16000000 in
theorem addP_there {S : Nat → Prop} {w : World} {g : Nat} {L : List Gn} (h : GraphP S w g L) (hSB : ∀ k, S k → k < w.heap.size) (i : List UInt8) (hi : i.length = 20) (a : Option Addr) (n c : Nat) (ps : List (List UInt8)) (hr : RowAt rowI w a ps) (hn : n = ps.length) (hm : n ≤ 1000000) (hid : ∀ i ∈ ps, i.length = 20) (hL : L.length ≤ 1000) (hfew : ∀ k, (plAt L k).length ≤ 1000)
    {k : Nat} (h1 : atG L i = some k) {l : List Nat} (h2 : placesG L ps = some l) :
    Calls Try.prog 10 #[.pointer (some ⟨g, 0, none⟩), .agg (arrD i), .slice a n c] w fun e w' => e = .returned (.int .i64 (addG L i ps).1) ∧ GraphP (fun j => S j ∨ (w.heap.size ≤ j ∧ j < w'.heap.size)) w' g (addG L i ps).2 ∧ Chg S w w' := by
  obtain ⟨A, hA⟩ : ∃ A, arrD i = A := ⟨_, rfl⟩
  have SA := Lib.hid (show A.size = 20 by rw [← hA]; exact arrD_size i hi)
  have IA := Lib.hid (infoD_arr A SA.out)
  have b1 := (Below.refl w.heap.size w).alloc (Nat.le_refl _) (.cells A 32)
  have x1 := heap_alloc_new w (.cells A 32)
  have CPO := placesOfP_is (h.below b1) a n c ps (hr.keep b1) hn hm hid
  rw [h2] at CPO
  simp only [Option.isSome_some, Option.isSome_none] at CPO
  have CPL := Lib.hid (fun u (hu : Below w.heap.size w u) => by
    have q := placeP_is (h.below hu) i hi
    unfold placeV at q
    rw [h1, hA] at q
    simp only [Option.isSome_some, Option.isSome_none, Option.getD_some, Option.getD_none] at q
    exact q)
  have CPO := Lib.hid CPO
  have HFEW := Lib.hid hfew; have HG := Lib.hid h; have HSB := Lib.hid hSB; have HIL := Lib.hid hi; have HA := Lib.hid hA; have HLL := Lib.hid hL; have H1 := Lib.hid h1; have H2 := Lib.hid h2; have B1 := Lib.hid b1; have X1 := Lib.hid x1
  have KEEP := Lib.hid (fun (w' : World) (hb : Below w.heap.size w w') => (And.intro ((h.below hb).mono (S' := fun j => S j ∨ (w.heap.size ≤ j ∧ j < w'.heap.size)) (fun k _ hk => .inl hk)) (Chg.of_below (S := S) hb)))
  rw [hA]
  clear h hSB hi hA hL b1 x1 hr hid hn hm h1 h2 hfew
  go_enter Try.func10, Try.ntmps10
  go_wp2_with fail
  refine CPO.out.mono ?_
  rintro e w2 ⟨v, rfl, hv1, hv2, hb2⟩
  have X2 := Lib.hid ((hb2.block _ (lt_of_heap X1.out)).trans X1.out)
  have B2 := Lib.hid (B1.out.trans (hb2.mono B1.out.size))
  have V1 := Lib.hid hv1; have V2 := Lib.hid hv2
  clear hb2 hv1 hv2 CPO X1
  go_wp2_with (first
    | (with_reducible refine wpList_load_all 32 (.tmp 4) rfl (by kernel_rfl) w.heap.size A 32 (0, 0) rfl X2.out _ Try.underlying32 rfl IA.out ?_)
    | fail)
  refine (CPL.out _ B2.out).mono ?_
  rintro e w3 ⟨rfl, hb3⟩
  have X3 := Lib.hid ((hb3.block _ (lt_of_heap X2.out)).trans X2.out)
  have B3 := Lib.hid (B2.out.trans (hb3.mono B2.out.size))
  have B23 := Lib.hid hb3
  clear hb3 X2
  have K0 : k < L.length := (atG_some H1.out).1
  obtain ⟨hg, E, vv, mb, hin⟩ := HG.out.below B3.out
  obtain ⟨c0, -, -⟩ := hin.cells rfl
  obtain ⟨b, o, cc, x, hvv, hcc, hblt, hx, -, hred⟩ := hin.parents K0
  have CE := equalN_is _ _ x v (plAt L k) l w3 hred (ownR_red goodN (ownR_below (V1.out l rfl) B23.out) (fun _ _ => trivial))
  obtain ⟨a5, c5, hx5, -⟩ := hred
  obtain ⟨av, cv, hv5, -⟩ := ownR_shape goodN (V1.out l rfl) (fun _ _ => trivial)
  have CEH := Lib.hid (CE (Nat.le_trans (HFEW.out k) (by decide)))
  rw [hx5] at hx CEH
  rw [hv5] at CEH
  subst hv5
  rw [hvv] at c0
  obtain ⟨N, hN⟩ : ∃ N, L.length = N := ⟨_, rfl⟩
  rw [hN] at c0 hcc K0
  have g1 : (k : Int) < (N : Int) := by omega
  obtain ⟨pn, hpn⟩ : ∃ m, (plAt L k).length = m := ⟨_, rfl⟩
  obtain ⟨ln, hln⟩ : ∃ m, l.length = m := ⟨_, rfl⟩
  rw [hpn] at hx CEH
  rw [hln] at CEH ⊢
  obtain ⟨r, hrr⟩ : ∃ r, decide (plAt L k = l) = r := ⟨_, rfl⟩
  rw [hrr] at CEH
  have ANS := Lib.hid (show addG L i ps = (bif r then 0 else 8, L) by
    unfold addG
    rw [H1.out, H2.out, ← hrr]
    simp only
    by_cases he : plAt L k = l
    · rw [if_pos he, decide_eq_true he]; rfl
    · rw [if_neg he, decide_eq_false he]; rfl)
  clear hin hg hx5 hvv CE hN hblt hpn hln hrr
  go_wp2_with fail
  refine CEH.out.mono ?_
  rintro e w4 ⟨rfl, hb4⟩
  have B4 := Lib.hid (B3.out.trans (hb4.mono B3.out.size))
  clear hb4
  obtain ⟨k1, k2⟩ := KEEP.out w4 B4.out
  have K1 := Lib.hid k1; have K2 := Lib.hid k2
  clear k1 k2
  cases r with
  | true =>
    go_wp2
    go_ret
    exact ⟨by rw [ANS.out]; rfl, by rw [ANS.out]; exact K1.out, K2.out⟩
  | false =>
    go_wp2
    go_ret
    exact ⟨by rw [ANS.out]; rfl, by rw [ANS.out]; exact K1.out, K2.out⟩
set_option maxRecDepth 100000 in
set_option maxHeartbeats 16000000 in
theorem addP_lost {S : Nat → Prop} {w : World} {g : Nat} {L : List Gn} (h : GraphP S w g L) (hSB : ∀ k, S k → k < w.heap.size) (i : List UInt8) (hi : i.length = 20) (a : Option Addr) (n c : Nat) (ps : List (List UInt8)) (hr : RowAt rowI w a ps) (hn : n = ps.length) (hm : n ≤ 1000000) (hid : ∀ i ∈ ps, i.length = 20) (hL : L.length ≤ 1000)
    {k : Nat} (h1 : atG L i = some k) (h2 : placesG L ps = none) :
    Calls Try.prog 10 #[.pointer (some ⟨g, 0, none⟩), .agg (arrD i), .slice a n c] w fun e w' => e = .returned (.int .i64 (addG L i ps).1) ∧ GraphP (fun j => S j ∨ (w.heap.size ≤ j ∧ j < w'.heap.size)) w' g (addG L i ps).2 ∧ Chg S w w' := by
  obtain ⟨A, hA⟩ : ∃ A, arrD i = A := ⟨_, rfl⟩
  have SA := Lib.hid (show A.size = 20 by rw [← hA]; exact arrD_size i hi)
  have IA := Lib.hid (infoD_arr A SA.out)
  have b1 := (Below.refl w.heap.size w).alloc (Nat.le_refl _) (.cells A 32)
  have x1 := heap_alloc_new w (.cells A 32)
  have CPO := placesOfP_is (h.below b1) a n c ps (hr.keep b1) hn hm hid
  rw [h2] at CPO
  simp only [Option.isSome_some, Option.isSome_none] at CPO
  have CPL := Lib.hid (fun u (hu : Below w.heap.size w u) => by
    have q := placeP_is (h.below hu) i hi
    unfold placeV at q
    rw [h1, hA] at q
    simp only [Option.isSome_some, Option.isSome_none, Option.getD_some, Option.getD_none] at q
    exact q)
  have CPO := Lib.hid CPO
  have HG := Lib.hid h; have HSB := Lib.hid hSB; have HIL := Lib.hid hi; have HA := Lib.hid hA; have HLL := Lib.hid hL; have H1 := Lib.hid h1; have H2 := Lib.hid h2; have B1 := Lib.hid b1; have X1 := Lib.hid x1
  have KEEP := Lib.hid (fun (w' : World) (hb : Below w.heap.size w w') => (And.intro ((h.below hb).mono (S' := fun j => S j ∨ (w.heap.size ≤ j ∧ j < w'.heap.size)) (fun k _ hk => .inl hk)) (Chg.of_below (S := S) hb)))
  rw [hA]
  clear h hSB hi hA hL b1 x1 hr hid hn hm h1 h2
  go_enter Try.func10, Try.ntmps10
  go_wp2_with fail
  refine CPO.out.mono ?_
  rintro e w2 ⟨v, rfl, hv1, hv2, hb2⟩
  have X2 := Lib.hid ((hb2.block _ (lt_of_heap X1.out)).trans X1.out)
  have B2 := Lib.hid (B1.out.trans (hb2.mono B1.out.size))
  have V1 := Lib.hid hv1; have V2 := Lib.hid hv2
  clear hb2 hv1 hv2 CPO X1
  go_wp2_with (first
    | (with_reducible refine wpList_load_all 32 (.tmp 4) rfl (by kernel_rfl) w.heap.size A 32 (0, 0) rfl X2.out _ Try.underlying32 rfl IA.out ?_)
    | fail)
  refine (CPL.out _ B2.out).mono ?_
  rintro e w3 ⟨rfl, hb3⟩
  have X3 := Lib.hid ((hb3.block _ (lt_of_heap X2.out)).trans X2.out)
  have B3 := Lib.hid (B2.out.trans (hb3.mono B2.out.size))
  have B23 := Lib.hid hb3
  clear hb3 X2
  have ANS := Lib.hid (show addG L i ps = (8, L) by unfold addG; rw [H1.out, H2.out])
  have HV : v = .slice none 0 0 := by first | exact V2.out rfl | exact V2.out trivial | exact V2.out
  subst HV
  obtain ⟨k1, k2⟩ := KEEP.out w3 B3.out
  have K1 := Lib.hid k1; have K2 := Lib.hid k2
  clear k1 k2
  go_wp2
  go_ret
  exact ⟨by rw [ANS.out]; rfl, by rw [ANS.out]; exact K1.out, K2.out⟩
set_option maxRecDepth 100000 in
set_option maxHeartbeats 16000000 in
theorem addP_none {S : Nat → Prop} {w : World} {g : Nat} {L : List Gn} (h : GraphP S w g L) (hSB : ∀ k, S k → k < w.heap.size) (i : List UInt8) (hi : i.length = 20) (a : Option Addr) (n c : Nat) (ps : List (List UInt8)) (hr : RowAt rowI w a ps) (hn : n = ps.length) (hm : n ≤ 1000000) (hid : ∀ i ∈ ps, i.length = 20) (hL : L.length ≤ 1000)
    (h1 : atG L i = none) (h2 : placesG L ps = none) :
    Calls Try.prog 10 #[.pointer (some ⟨g, 0, none⟩), .agg (arrD i), .slice a n c] w fun e w' => e = .returned (.int .i64 (addG L i ps).1) ∧ GraphP (fun j => S j ∨ (w.heap.size ≤ j ∧ j < w'.heap.size)) w' g (addG L i ps).2 ∧ Chg S w w' := by
  obtain ⟨A, hA⟩ : ∃ A, arrD i = A := ⟨_, rfl⟩
  have SA := Lib.hid (show A.size = 20 by rw [← hA]; exact arrD_size i hi)
  have IA := Lib.hid (infoD_arr A SA.out)
  have b1 := (Below.refl w.heap.size w).alloc (Nat.le_refl _) (.cells A 32)
  have x1 := heap_alloc_new w (.cells A 32)
  have CPO := placesOfP_is (h.below b1) a n c ps (hr.keep b1) hn hm hid
  rw [h2] at CPO
  simp only [Option.isSome_some, Option.isSome_none] at CPO
  have CPL := Lib.hid (fun u (hu : Below w.heap.size w u) => by
    have q := placeP_is (h.below hu) i hi
    unfold placeV at q
    rw [h1, hA] at q
    simp only [Option.isSome_some, Option.isSome_none, Option.getD_some, Option.getD_none] at q
    exact q)
  have CPO := Lib.hid CPO
  have HG := Lib.hid h; have HSB := Lib.hid hSB; have HIL := Lib.hid hi; have HA := Lib.hid hA; have HLL := Lib.hid hL; have H1 := Lib.hid h1; have H2 := Lib.hid h2; have B1 := Lib.hid b1; have X1 := Lib.hid x1
  have KEEP := Lib.hid (fun (w' : World) (hb : Below w.heap.size w w') => (And.intro ((h.below hb).mono (S' := fun j => S j ∨ (w.heap.size ≤ j ∧ j < w'.heap.size)) (fun k _ hk => .inl hk)) (Chg.of_below (S := S) hb)))
  rw [hA]
  clear h hSB hi hA hL b1 x1 hr hid hn hm h1 h2
  go_enter Try.func10, Try.ntmps10
  go_wp2_with fail
  refine CPO.out.mono ?_
  rintro e w2 ⟨v, rfl, hv1, hv2, hb2⟩
  have X2 := Lib.hid ((hb2.block _ (lt_of_heap X1.out)).trans X1.out)
  have B2 := Lib.hid (B1.out.trans (hb2.mono B1.out.size))
  have V1 := Lib.hid hv1; have V2 := Lib.hid hv2
  clear hb2 hv1 hv2 CPO X1
  go_wp2_with (first
    | (with_reducible refine wpList_load_all 32 (.tmp 4) rfl (by kernel_rfl) w.heap.size A 32 (0, 0) rfl X2.out _ Try.underlying32 rfl IA.out ?_)
    | fail)
  refine (CPL.out _ B2.out).mono ?_
  rintro e w3 ⟨rfl, hb3⟩
  have X3 := Lib.hid ((hb3.block _ (lt_of_heap X2.out)).trans X2.out)
  have B3 := Lib.hid (B2.out.trans (hb3.mono B2.out.size))
  have B23 := Lib.hid hb3
  clear hb3 X2
  have ANS := Lib.hid (show addG L i ps = (6, L) by unfold addG; rw [H1.out, H2.out])
  have HV : v = .slice none 0 0 := by first | exact V2.out rfl | exact V2.out trivial | exact V2.out
  subst HV
  obtain ⟨k1, k2⟩ := KEEP.out w3 B3.out
  have K1 := Lib.hid k1; have K2 := Lib.hid k2
  clear k1 k2
  go_wp2
  go_ret
  exact ⟨by rw [ANS.out]; rfl, by rw [ANS.out]; exact K1.out, K2.out⟩
set_option maxRecDepth 100000 in
set_option maxHeartbeats 16000000 in
theorem addP_new {S : Nat → Prop} {w : World} {g : Nat} {L : List Gn} (h : GraphP S w g L) (hSB : ∀ k, S k → k < w.heap.size) (i : List UInt8) (hi : i.length = 20) (a : Option Addr) (n c : Nat) (ps : List (List UInt8)) (hr : RowAt rowI w a ps) (hn : n = ps.length) (hm : n ≤ 1000000) (hid : ∀ i ∈ ps, i.length = 20) (hL : L.length ≤ 1000)
    (h1 : atG L i = none) {l : List Nat} (h2 : placesG L ps = some l) :
    Calls Try.prog 10 #[.pointer (some ⟨g, 0, none⟩), .agg (arrD i), .slice a n c] w fun e w' => e = .returned (.int .i64 (addG L i ps).1) ∧ GraphP (fun j => S j ∨ (w.heap.size ≤ j ∧ j < w'.heap.size)) w' g (addG L i ps).2 ∧ Chg S w w' := by
  obtain ⟨A, hA⟩ : ∃ A, arrD i = A := ⟨_, rfl⟩
  have SA := Lib.hid (show A.size = 20 by rw [← hA]; exact arrD_size i hi)
  have IA := Lib.hid (infoD_arr A SA.out)
  have b1 := (Below.refl w.heap.size w).alloc (Nat.le_refl _) (.cells A 32)
  have x1 := heap_alloc_new w (.cells A 32)
  have CPO := placesOfP_is (h.below b1) a n c ps (hr.keep b1) hn hm hid
  rw [h2] at CPO
  simp only [Option.isSome_some, Option.isSome_none] at CPO
  have CPL := Lib.hid (fun u (hu : Below w.heap.size w u) => by
    have q := placeP_is (h.below hu) i hi
    unfold placeV at q
    rw [h1, hA] at q
    simp only [Option.isSome_some, Option.isSome_none, Option.getD_some, Option.getD_none] at q
    exact q)
  have CPO := Lib.hid CPO
  have HG := Lib.hid h; have HSB := Lib.hid hSB; have HIL := Lib.hid hi; have HA := Lib.hid hA; have HLL := Lib.hid hL; have H1 := Lib.hid h1; have H2 := Lib.hid h2; have B1 := Lib.hid b1; have X1 := Lib.hid x1
  have KEEP := Lib.hid (fun (w' : World) (hb : Below w.heap.size w w') => (And.intro ((h.below hb).mono (S' := fun j => S j ∨ (w.heap.size ≤ j ∧ j < w'.heap.size)) (fun k _ hk => .inl hk)) (Chg.of_below (S := S) hb)))
  rw [hA]
  clear h hSB hi hA hL b1 x1 hr hid hn hm h1 h2
  go_enter Try.func10, Try.ntmps10
  go_wp2_with fail
  refine CPO.out.mono ?_
  rintro e w2 ⟨v, rfl, hv1, hv2, hb2⟩
  have X2 := Lib.hid ((hb2.block _ (lt_of_heap X1.out)).trans X1.out)
  have B2 := Lib.hid (B1.out.trans (hb2.mono B1.out.size))
  have V1 := Lib.hid hv1; have V2 := Lib.hid hv2
  clear hb2 hv1 hv2 CPO X1
  go_wp2_with (first
    | (with_reducible refine wpList_load_all 32 (.tmp 4) rfl (by kernel_rfl) w.heap.size A 32 (0, 0) rfl X2.out _ Try.underlying32 rfl IA.out ?_)
    | fail)
  refine (CPL.out _ B2.out).mono ?_
  rintro e w3 ⟨rfl, hb3⟩
  have X3 := Lib.hid ((hb3.block _ (lt_of_heap X2.out)).trans X2.out)
  have B3 := Lib.hid (B2.out.trans (hb3.mono B2.out.size))
  have B23 := Lib.hid hb3
  clear hb3 X2
  obtain ⟨av, cv, hv5, -⟩ := ownR_shape goodN (V1.out l rfl) (fun _ _ => trivial)
  have PLR := Lib.hid ((ownR_red goodN (ownR_below (V1.out l rfl) B23.out) (fun _ _ => trivial)).mono (S' := fun k => w.heap.size ≤ k) (fun k _ hk => Nat.le_trans B1.out.size (ownR_lt (V1.out l rfl) k hk).1))
  rw [hv5] at PLR
  subst hv5
  obtain ⟨ln, hln⟩ : ∃ m, l.length = m := ⟨_, rfl⟩
  rw [hln] at PLR ⊢
  obtain ⟨z, hz0, hzs, hzv, hzb, hz1⟩ := zId_any
  have EQ := fun u => eql_arrD i idZ HIL.out rfl u
  rw [HA.out, ← hz0] at EQ
  have HZB := Lib.hid hzb
  obtain ⟨r, hrr⟩ : ∃ r, eqD i idZ = r := ⟨_, rfl⟩
  rw [hrr] at EQ
  clear hln hz0 hzs hzv hz1 hzb
  obtain ⟨hg, E, vv, mb, hin⟩ := HG.out.below B3.out
  obtain ⟨c0, -, -⟩ := hin.cells rfl
  obtain ⟨ao, ac, hvv, hle, -⟩ := hin.shape
  rw [hvv] at c0
  obtain ⟨N, hN⟩ : ∃ N, L.length = N := ⟨_, rfl⟩
  rw [hN] at c0 hle
  have HN := HLL.out
  rw [hN] at HN
  have g1 : ¬ (N : Int) ≥ 5000 := by omega
  have g1b : (decide ((N : Int) ≥ 5000)) = false := decide_eq_false g1
  clear hin hg hvv HN hN
  have BN := Lib.hid (by have q := built_node i HIL.out av ln cv; rw [HA.out] at q; exact q)
  cases r with
  | true =>
    have ANS := Lib.hid (show addG L i ps = (1, L) by
      unfold addG
      rw [H1.out, H2.out]
      simp only
      rw [if_pos (show i = zeroG from (eqD_iff i idZ).1 hrr)])
    obtain ⟨k1, k2⟩ := KEEP.out w3 B3.out
    have K1 := Lib.hid k1; have K2 := Lib.hid k2
    clear k1 k2 hrr
    go_wp2_with (first
      | (with_reducible refine wpList_load_all 32 (.tmp 4) rfl (by kernel_rfl) w.heap.size A 32 (0, 0) rfl X3.out _ Try.underlying32 rfl IA.out ?_)
      | (refine wpList_build_none rfl 32 rfl z HZB.out ?_))
    go_ret
    exact ⟨by rw [ANS.out]; rfl, by rw [ANS.out]; exact K1.out, K2.out⟩
  | false =>
    have hne : i ≠ zeroG := fun e => by
      rw [(eqD_iff i idZ).2 e] at hrr
      cases hrr
    have ANS := Lib.hid (show addG L i ps = (0, L ++ [⟨i, l⟩]) by
      unfold addG
      rw [H1.out, H2.out]
      simp only
      rw [if_neg hne, if_neg (by have := HLL.out; omega)])
    have GG := goodG_put HG.out.good HIL.out hne H1.out (placesG_len H2.out).2
    have CP := Lib.hid (putP_is (HG.out.below B3.out) HSB.out B3.out.size ⟨⟨i, l⟩, .slice av ln cv⟩ GG H1.out (by have := HLL.out; omega) ⟨HIL.out, _, _, _, rfl⟩ PLR.out)
    obtain ⟨NC, hNC⟩ : ∃ NC, (cellsD i ++ [Value.slice av ln cv]).toArray = NC := ⟨_, rfl⟩
    have e1 : (cellsN ⟨⟨i, l⟩, .slice av ln cv⟩).toArray = NC := hNC
    rw [e1] at CP
    rw [hNC] at BN
    clear hrr hne GG hNC e1
    go_wp2_with (first
      | (with_reducible refine wpList_load_all 32 (.tmp 4) rfl (by kernel_rfl) w.heap.size A 32 (0, 0) rfl X3.out _ Try.underlying32 rfl IA.out ?_)
      | (refine wpList_build_none rfl 32 rfl z HZB.out ?_)
      | (with_reducible refine wpList_build_two rfl 65 (.tmp 56) (.tmp 57) rfl (.agg A) (.slice av ln cv) rfl rfl NC BN.out ?_)
      | fail)
    refine CP.out.mono ?_
    rintro e w4 ⟨rfl, hgp, hch⟩
    have FIN := Lib.hid (And.intro (hgp.mono (S' := fun j => S j ∨ (w.heap.size ≤ j ∧ j < w4.heap.size)) (fun k hk h => h.elim .inl (fun h => .inr ⟨h, hk⟩))) ((Chg.of_below (S := S) B3.out).more hch (fun _ _ h => h)))
    clear hgp hch
    go_wp2
    go_ret
    exact ⟨by rw [ANS.out]; rfl, by rw [ANS.out]; exact FIN.out.1, FIN.out.2⟩
theorem addP_is {S : Nat → Prop} {w : World} {g : Nat} {L : List Gn} (h : GraphP S w g L) (hSB : ∀ k, S k → k < w.heap.size) (i : List UInt8) (hi : i.length = 20) (a : Option Addr) (n c : Nat) (ps : List (List UInt8)) (hr : RowAt rowI w a ps) (hn : n = ps.length) (hm : n ≤ 1000000) (hid : ∀ i ∈ ps, i.length = 20) (hL : L.length ≤ 1000) (hfew : ∀ k, (plAt L k).length ≤ 1000) :
    Calls Try.prog 10 #[.pointer (some ⟨g, 0, none⟩), .agg (arrD i), .slice a n c] w fun e w' => e = .returned (.int .i64 (addG L i ps).1) ∧ GraphP (fun j => S j ∨ (w.heap.size ≤ j ∧ j < w'.heap.size)) w' g (addG L i ps).2 ∧ Chg S w w' := by
  cases h1 : atG L i with
  | none =>
    cases h2 : placesG L ps with
    | none => exact addP_none h hSB i hi a n c ps hr hn hm hid hL h1 h2
    | some l => exact addP_new h hSB i hi a n c ps hr hn hm hid hL h1 h2
  | some k =>
    cases h2 : placesG L ps with
    | none => exact addP_lost h hSB i hi a n c ps hr hn hm hid hL h1 h2
    | some l => exact addP_there h hSB i hi a n c ps hr hn hm hid hL hfew h1 h2
end Go.Proofs.Ytajmgjhknmkfpaa
