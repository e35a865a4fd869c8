/-
  Layer 12, the document: where a node is.
  Layer 12, the document: Has, Parents, Ids.
  Layer 12, the document: Heads.
-/
import Derived.Test.YtajmgjhknmkfpaaUy
import Derived.Test.YtajmgjhknmkfpaaLa
import Derived.Test.YtajmgjhknmkfpaaRfa
namespace Go.Proofs.Ytajmgjhknmkfpaa
set_option maxRecDepth 20000
open Go.RowKit
set_option linter.unusedVariables false
set_option linter.unusedSimpArgs false

/-- What is read of a graph of the document's. -/
structure LookR (w : World) (q : Nat) (L : List Gn) (a : Option Addr) (c : Nat) (E : List Enn) : Prop where
  good : GoodG L
  ens : E.map Enn.n = L
  blk : w.heap[q]? = some (.cells #[.slice a L.length c] 29 (0, 0))
  cap : L.length ≤ c
  row : RowAt rowQ w a E
  len : E.length = L.length
  red : ∀ e ∈ E, okN e ∧ RedR rowI (fun _ => True) w e.v (psOf L e.n.pl)
theorem LookR.below {w u : World} {q : Nat} {L : List Gn} {a : Option Addr} {c : Nat} {E : List Enn} (h : LookR w q L a c E) (hb : Below w.heap.size w u) : LookR u q L a c E where
  good := h.good
  ens := h.ens
  blk := (hb.block q (lt_of_heap h.blk)).trans h.blk
  cap := h.cap
  row := h.row.keep hb
  len := h.len
  red := fun e he => ⟨(h.red e he).1, (h.red e he).2.below hb⟩
theorem GraphR.look {S : Nat → Prop} {w : World} {q : Nat} {L : List Gn} (h : GraphR S w q L) : ∃ a c E, LookR w q L a c E := by
  obtain ⟨hg, hG, E, v, hin⟩ := h
  obtain ⟨a, c, e, hc, hm, hr, hn, hb⟩ := ownR_shape goodQ hin.own (fun x hx => (hin.red x hx).1)
  have hl : E.length = L.length := by rw [← hin.ens, List.length_map]
  subst e
  refine ⟨a, c, E, hG, hin.ens, ?_, by rw [← hl]; exact hc, hr, hl, fun e he => ⟨(hin.red e he).1, (hin.red e he).2.mono (fun _ _ _ => trivial)⟩⟩
  rw [← hl]
  exact hin.blk
theorem LookR.cell {w : World} {q : Nat} {L : List Gn} {a : Option Addr} {c : Nat} {E : List Enn} (h : LookR w q L a c E) : w.cell? ⟨q, 0, none⟩ = some (.slice a L.length c) := by
  rw [Lib.cell_of_heap h.blk]
  rfl
theorem LookR.node {w : World} {q : Nat} {L : List Gn} {a : Option Addr} {c : Nat} {E : List Enn} (h : LookR w q L a c E) {k : Nat} (hk : k < L.length) :
    ∃ b o pa pc, a = some ⟨b, o, none⟩ ∧ b < w.heap.size ∧ w.rangeAt b (o + k * 21) (cellsD (idAt L k)) ∧ w.cell? ⟨b, o + k * 21 + 20, none⟩ = some (.slice pa (plAt L k).length pc) ∧ IdsAt w pa (psOf L (plAt L k)) ∧ (plAt L k).length ≤ pc ∧ pc ≤ maxLen := by
  have hkE : k < E.length := by rw [h.len]; exact hk
  obtain ⟨b, o, rfl, hb⟩ := h.row.some (by omega)
  obtain ⟨hok, pa, pc, hv, hr, hn, h1, h2, -⟩ := h.red E[k] (List.getElem_mem hkE)
  have hr2 := h.row.elem k hkE
  have en : E[k].n = L[k] := by
    have : (E.map Enn.n)[k]'(by rw [List.length_map]; exact hkE) = L[k] := by simp only [h.ens]
    rw [← this, List.getElem_map]
  have hr2 : w.rangeAt b (o + k * 21) (cellsN E[k]) := hr2
  have hid := node_id hr2
  have ei : E[k].n.id = idAt L k := by rw [idAt_lt hk, en]
  have ep : E[k].n.pl = plAt L k := by rw [plAt_lt hk, en]
  rw [ei] at hid
  rw [ep] at hv hr hn h1
  rw [psOf_len] at hv h1
  refine ⟨b, o, pa, pc, rfl, hb, hid, ?_, hr, h1, h2⟩
  have := hr2 20 E[k].v (by
    unfold cellsN
    rw [List.getElem?_append_right (by rw [cellsD_len _ hok.1]; exact Nat.le_refl _), cellsD_len _ hok.1]
    rfl)
  rw [this, hv]
def atV (L : List Gn) (i : List UInt8) : Int := match atG L i with
  | some k => (k : Int)
  | none => -1
set_option maxRecDepth 100000 in
set_option maxHeartbeats 16000000 in
theorem atR_is {w : World} {q : Nat} {L : List Gn} {a : Option Addr} {c : Nat} {E : List Enn} (h : LookR w q L a c E) (hm : L.length ≤ 1000000) (i : List UInt8) (hi : i.length = 20) :
    Calls Try.prog 34 #[.pointer (some ⟨q, 0, none⟩), .agg (arrD i)] w fun e w' => e = .returned (.int .i64 (atV L i)) ∧ Below w.heap.size w w' := by
  obtain ⟨A, hA⟩ : ∃ A, arrD i = A := ⟨_, rfl⟩
  have SA := Lib.hid (show A.size = 20 by rw [← hA]; exact arrD_size i hi)
  have IA := Lib.hid (infoD_arr A SA.out)
  have LA := Lib.hid (show (Try.prog.info? 32).map (·.size) = some A.toList.length by rw [Array.length_toList]; exact infoD_arr A SA.out)
  have ED := Lib.hid (fun (y : List UInt8) (hy : y.length = 20) u => eql_arrD y i hy hi u)
  rw [hA] at ED ⊢
  have b1 := (Below.refl w.heap.size w).alloc (Nat.le_refl _) (.cells A 32)
  have x1 := heap_alloc_new w (.cells A 32)
  obtain ⟨w1, hw1⟩ : ∃ w1, w.alloc (.cells A 32) = w1 := ⟨_, rfl⟩
  rw [hw1] at b1 x1
  have LK := Lib.hid (h.below b1)
  have RA := Lib.hid (fun u (hu : Below w1.heap.size w1 u) => (show u.rangeAt w.heap.size 0 A.toList from row_arrD ((hu.block w.heap.size (lt_of_heap x1)).trans x1)))
  have B1 := Lib.hid b1; have W1 := Lib.hid hw1
  have SOME := Lib.hid (fun (k : Nat) (hk : k < L.length) (e : idAt L k = i) => (show atV L i = (k : Int) by
    unfold atV
    rw [atG_is h.good hk (by rw [← idAt_lt hk]; exact e)]))
  have NONE := Lib.hid (fun (e : ∀ k, k < L.length → idAt L k ≠ i) => (show atV L i = -1 by
    unfold atV
    rw [atG_none.2 (fun n hn => by
      obtain ⟨k, hk, rfl⟩ := List.getElem_of_mem hn
      rw [← idAt_lt hk]
      exact e k hk)]))
  obtain ⟨n, hn⟩ : ∃ n, L.length = n := ⟨_, rfl⟩
  have HN := Lib.hid hn
  have hcap := h.cap
  rw [hn] at hm hcap
  obtain ⟨R, hR⟩ : ∃ R, atV L i = R := ⟨_, rfl⟩
  rw [hR] at SOME NONE ⊢
  clear hA h b1 x1 hw1 hn hR
  go_enter Try.func34, Try.ntmps34
  go_wp2_with fail
  rw [W1.out]
  go_loopw [5] (fun v5 wr => ∃ k : Nat, k ≤ n ∧ v5 = .int .i64 k ∧ (∀ j, j < k → idAt L j ≠ i) ∧ Below w1.heap.size w1 wr) (fun v5 _ => n - (intOf v5).toNat)
  case atStart => exact ⟨0, Nat.zero_le _, rfl, fun j h => absurd h (Nat.not_lt_zero _), Below.refl _ _⟩
  case round =>
    obtain ⟨k, hk, rfl, hno, hbr⟩ := hrel
    have HNO := Lib.hid hno; have HBR := Lib.hid hbr
    have d0 := (LK.out.below hbr).cell
    rw [HN.out] at d0
    have B2 := Lib.hid (B1.out.trans (hbr.mono B1.out.size))
    clear hno hbr
    by_cases hlt : k < n
    · obtain ⟨b, o, pa, pc, rfl, hbl, hid, -, -, -, -⟩ := (LK.out.below HBR.out).node (k := k) (by rw [HN.out]; exact hlt)
      obtain ⟨y, hy⟩ : ∃ y, idAt L k = y := ⟨_, rfl⟩
      have hy20 : y.length = 20 := by rw [← hy]; exact idAt_len LK.out.good (by rw [HN.out]; exact hlt)
      rw [hy] at hid
      have RY := Lib.hid (fun u (hu : Below wr.heap.size wr u) => (show u.rangeAt b (o + k * 21) (cellsD y) from fun j v hv => (hu.cell (p := ⟨b, o + k * 21 + j, none⟩) hbl).trans (hid j v hv)))
      have RB := Lib.hid (fun u (hu : Below wr.heap.size wr u) => RA.out u (HBR.out.trans (hu.mono HBR.out.size)))
      have KC := Lib.hid (fun u (hu : Below wr.heap.size wr u) => (hu.cell (p := ⟨q, 0, none⟩) (lt_of_heap (LK.out.below HBR.out).blk)).trans d0)
      have LY := Lib.hid (show (Try.prog.info? 32).map (·.size) = some (cellsD y).length by rw [cellsD_len y hy20]; exact infoD_n)
      have E1 := ED.out y hy20
      unfold arrD at E1
      have SM := Lib.hid (fun (e : eqD y i = true) => SOME.out k (by rw [HN.out]; exact hlt) (hy.trans ((eqD_iff y i).1 e)))
      have NX := Lib.hid (fun (e : eqD y i = false) (j : Nat) (hj : j < k + 1) => (show idAt L j ≠ i from if h : j < k then HNO.out j h else by
        obtain rfl : j = k := by omega
        rw [hy]
        intro e2
        rw [(eqD_iff y i).2 e2] at e
        cases e))
      obtain ⟨r, hr⟩ : ∃ r, eqD y i = r := ⟨_, rfl⟩
      rw [hr] at SM NX
      simp only [hr] at E1
      clear hid hy hy20 hr
      generalize cellsD y = cy at *
      go_wp2_with fail
      refine rgB _ (fun hHeld => ?_)
      refine tkW 0 rfl hHeld ?_
      refine tkW 1 rfl hHeld ?_
      refine tkW 2 rfl hHeld ?_
      refine tkV 3 rfl (.slice (some ⟨b, o, none⟩) n c) (fun u hu => by have q := KC.out u hu; go_simp) hHeld ?_
      refine tkW 4 rfl hHeld ?_
      refine tkW 5 rfl hHeld ?_
      refine tkW 6 rfl hHeld ?_
      refine tkH 7 rfl (yieldsIf_load_mid (by kernel_rfl) 32 (.tmp 21) (by kernel_rfl) b (o + k * 21) (by kernel_rfl) cy _ (fun u hu => RY.out u hu) Try.underlying32 rfl LY.out) hHeld ?_
      refine tkH 8 rfl (yieldsIf_load_mid (by kernel_rfl) 32 (.tmp 3) (by kernel_rfl) w.heap.size 0 (by kernel_rfl) A.toList _ (fun u hu => RB.out u hu) Try.underlying32 rfl LA.out) hHeld ?_
      refine tkW 9 rfl hHeld ?_
      try simp only [Act.put, List.getElem_toArray, List.getElem_cons_succ, List.getElem_cons_zero, lsA, lsZ, lsS]
      refine wpAnyH_done (by kernel_rfl) ?_ _
      have B3 := Lib.hid (B2.out.trans (hHeld.mono B2.out.size))
      have H3 := Lib.hid (HBR.out.trans (hHeld.mono HBR.out.size))
      clear hHeld d0 E1
      cases r with
      | true =>
        have HE : R = (k : Int) := by first | exact SM.out trivial | exact SM.out rfl
        subst HE
        go_wp2
        go_ret
        exact ⟨rfl, B3.out⟩
      | false =>
        have HX : ∀ j, j < k + 1 → idAt L j ≠ i := by first | exact NX.out trivial | exact NX.out rfl
        have HX := Lib.hid HX
        go_wp2
        go_roundw
        case rel => exact ⟨k + 1, by omega, by go_num, HX.out, H3.out⟩
        case measure => simp [intOf]; omega
    · obtain rfl : k = n := by omega
      have HE : R = -1 := NONE.out (fun j hj => HNO.out j (by rw [← HN.out]; exact hj))
      subst HE
      go_wp2
      go_ret
      exact ⟨rfl, B2.out⟩
end Go.Proofs.Ytajmgjhknmkfpaa
namespace Go.Proofs.Ytajmgjhknmkfpaa
set_option maxRecDepth 20000
open Go.RowKit
set_option linter.unusedVariables false
set_option linter.unusedSimpArgs false

theorem atV_cases (L : List Gn) (i : List UInt8) : (∃ k : Nat, atG L i = some k ∧ atV L i = (k : Int)) ∨ (atG L i = none ∧ atV L i = -1) := by
  unfold atV
  cases atG L i with
  | some k => exact .inl ⟨k, rfl, rfl⟩
  | none => exact .inr ⟨rfl, rfl⟩
set_option maxRecDepth 100000 in
set_option maxHeartbeats 4000000 in
theorem hasR_is {w : World} {q : Nat} {L : List Gn} {a : Option Addr} {c : Nat} {E : List Enn} (h : LookR w q L a c E) (hm : L.length ≤ 1000000) (i : List UInt8) (hi : i.length = 20) :
    Calls Try.prog 14 #[.pointer (some ⟨q, 0, none⟩), .agg (arrD i)] w fun e w' => e = .returned (.bool (atG L i).isSome) ∧ Below w.heap.size w w' := by
  obtain ⟨A, hA⟩ : ∃ A, arrD i = A := ⟨_, rfl⟩
  have SA := Lib.hid (show A.size = 20 by rw [← hA]; exact arrD_size i hi)
  have IA := Lib.hid (infoD_arr A SA.out)
  have b1 := (Below.refl w.heap.size w).alloc (Nat.le_refl _) (.cells A 32)
  have X1 := Lib.hid (heap_alloc_new w (.cells A 32))
  have CA := Lib.hid (atR_is (h.below b1) hm i hi)
  rw [hA] at CA ⊢
  have B1 := Lib.hid b1
  have CS := atV_cases L i
  clear hA b1 h
  rcases CS with ⟨k, e1, e2⟩ | ⟨e1, e2⟩
  all_goals
    rw [e2] at CA
    rw [e1]
    clear e1 e2
    go_enter Try.func14, Try.ntmps14
    go_wp2_with (first
      | (with_reducible refine wpList_load_all 32 (.tmp 3) rfl (by kernel_rfl) w.heap.size A 32 (0, 0) rfl X1.out _ Try.underlying32 rfl IA.out ?_)
      | fail)
    refine CA.out.mono ?_
    rintro e w2 ⟨rfl, hb⟩
    have B2 := Lib.hid (B1.out.trans (hb.mono B1.out.size))
    clear hb
    go_wp2
    go_ret
    exact ⟨rfl, B2.out⟩
set_option maxRecDepth 100000 in
set_option maxHeartbeats 4000000 in
theorem parentsR_is {w : World} {q : Nat} {L : List Gn} {a : Option Addr} {c : Nat} {E : List Enn} (h : LookR w q L a c E) (hm : L.length ≤ 1000000) (i : List UInt8) (hi : i.length = 20) :
    Calls Try.prog 17 #[.pointer (some ⟨q, 0, none⟩), .agg (arrD i)] w fun e w' => ∃ pa pc, e = .returned (.slice pa (parG L i).length pc) ∧ IdsAt w' pa (parG L i) ∧ Below w.heap.size w w' := by
  obtain ⟨A, hA⟩ : ∃ A, arrD i = A := ⟨_, rfl⟩
  have SA := Lib.hid (show A.size = 20 by rw [← hA]; exact arrD_size i hi)
  have IA := Lib.hid (infoD_arr A SA.out)
  have b1 := (Below.refl w.heap.size w).alloc (Nat.le_refl _) (.cells A 32)
  have X1 := Lib.hid (heap_alloc_new w (.cells A 32))
  have CA := Lib.hid (atR_is (h.below b1) hm i hi)
  rw [hA] at CA ⊢
  have B1 := Lib.hid b1
  have LK := Lib.hid h
  have CS := atV_cases L i
  have hcap := h.cap
  clear hA b1 h
  rcases CS with ⟨k, e1, e2⟩ | ⟨e1, e2⟩
  · have hkL := (atG_some e1).1
    have ep : parG L i = psOf L (plAt L k) := by unfold parG; rw [e1]
    rw [e2] at CA
    rw [ep, psOf_len]
    obtain ⟨m, hmm⟩ : ∃ m, (plAt L k).length = m := ⟨_, rfl⟩
    rw [hmm]
    have HM := Lib.hid hmm
    clear hmm
    obtain ⟨n, hn⟩ : ∃ n, L.length = n := ⟨_, rfl⟩
    have HN := Lib.hid hn
    have hkn : (k : Int) < (n : Int) := by omega
    rw [hn] at hcap hm hkL
    clear e1 e2 ep hn
    go_enter Try.func17, Try.ntmps17
    go_wp2_with (first
      | (with_reducible refine wpList_load_all 32 (.tmp 3) rfl (by kernel_rfl) w.heap.size A 32 (0, 0) rfl X1.out _ Try.underlying32 rfl IA.out ?_)
      | fail)
    refine CA.out.mono ?_
    rintro e w2 ⟨rfl, hb⟩
    have B2 := Lib.hid (B1.out.trans (hb.mono B1.out.size))
    have d0 := (LK.out.below B2.out).cell
    obtain ⟨b, o, pa, pc, rfl, hbl, -, d1, hr, -, -⟩ := (LK.out.below B2.out).node (k := k) (by rw [HN.out]; exact hkL)
    rw [HN.out] at d0
    rw [HM.out] at d1
    have HR := Lib.hid hr
    clear hb hr
    go_wp2
    go_ret
    exact ⟨pa, pc, rfl, HR.out, B2.out⟩
  · have ep : parG L i = [] := by unfold parG; rw [e1]
    rw [e2] at CA
    rw [ep]
    clear e1 e2 ep
    go_enter Try.func17, Try.ntmps17
    go_wp2_with (first
      | (with_reducible refine wpList_load_all 32 (.tmp 3) rfl (by kernel_rfl) w.heap.size A 32 (0, 0) rfl X1.out _ Try.underlying32 rfl IA.out ?_)
      | fail)
    refine CA.out.mono ?_
    rintro e w2 ⟨rfl, hb⟩
    have B2 := Lib.hid (B1.out.trans (hb.mono B1.out.size))
    clear hb
    go_wp2
    go_ret
    exact ⟨none, 0, rfl, IdsAt.nil _ _, B2.out⟩
theorem idsG_take (L : List Gn) (k : Nat) (hk : k < L.length) : (idsG L).take (k + 1) = (idsG L).take k ++ [idAt L k] := by
  rw [← idsG_get (by rw [idsG_len]; exact hk), List.take_append_getElem]
set_option maxRecDepth 100000 in
set_option maxHeartbeats 4000000 in
theorem idsR_is {w : World} {q : Nat} {L : List Gn} {a : Option Addr} {c : Nat} {E : List Enn} (h : LookR w q L a c E) (hm : L.length ≤ 1000000) :
    Calls Try.prog 19 #[.pointer (some ⟨q, 0, none⟩)] w fun e w' => ∃ v, e = .returned v ∧ OwnD w.heap.size v (idsG L) w' ∧ Below w.heap.size w w' := by
  have LK := Lib.hid h
  have hcap := h.cap
  obtain ⟨n, hn⟩ : ∃ n, L.length = n := ⟨_, rfl⟩
  have HN := Lib.hid hn
  rw [hn] at hcap hm
  clear h hn
  go_enter Try.func19, Try.ntmps19
  go_wp2_with fail
  go_loopw [3, 4] (fun v t wr => ∃ k : Nat, k ≤ n ∧ t = .int .i64 k ∧ OwnD w.heap.size v ((idsG L).take k) wr ∧ Below w.heap.size w wr) (fun _ t _ => n - (intOf t).toNat)
  case atStart => exact ⟨0, Nat.zero_le _, rfl, ownD_nil _ _, Below.refl _ _⟩
  case round =>
    obtain ⟨k, hk, rfl, how, hbr⟩ := hrel
    have HO := Lib.hid how; have HBR := Lib.hid hbr
    have d0 := (LK.out.below hbr).cell
    rw [HN.out] at d0
    clear how hbr
    by_cases hlt : k < n
    · have hkL : k < L.length := by rw [HN.out]; exact hlt
      obtain ⟨b, o, pa, pc, rfl, hbl, hid, -, -, -, -⟩ := (LK.out.below HBR.out).node hkL
      have PS := Lib.hid (idsG_take L k hkL)
      obtain ⟨y, hy⟩ : ∃ y, idAt L k = y := ⟨_, rfl⟩
      have HY20 := Lib.hid (show y.length = 20 by rw [← hy]; exact idAt_len LK.out.good hkL)
      rw [hy] at hid PS
      have RY := Lib.hid hid
      obtain ⟨Y, hY⟩ : ∃ Y, arrD y = Y := ⟨_, rfl⟩
      have HY := Lib.hid hY
      have HYS := Lib.hid (show Y.size = 20 by rw [← hY]; exact arrD_size y HY20.out)
      have LY := Lib.hid (show (Try.prog.info? 32).map (·.size) = some (cellsD y).length by rw [cellsD_len y HY20.out]; exact infoD_n)
      have LL := Lib.hid (show ((idsG L).take k).length ≤ 1000000000 by rw [List.length_take]; omega)
      have ea : (cellsD y).toArray = Y := hY
      have b4 := (Below.refl wr.heap.size wr).alloc (Nat.le_refl _) (.cells Y 32)
      have HO4 := Lib.hid (ownD_below HO.out b4)
      have B4 := Lib.hid (HBR.out.trans (b4.mono HBR.out.size))
      clear hid hy hY b4 hkL
      generalize cellsD y = cy at *
      go_wp2_with (first
        | (with_reducible refine wpList_load_midD 32 (.tmp 21) rfl (by kernel_rfl) b (o + k * 21) rfl cy _ RY.out Try.underlying32 rfl LY.out ?_; rw [ea])
        | (with_reducible refine wpList_build_idD rfl (.tmp 22) rfl Y HYS.out rfl ?_)
        | (at_builtin; refine wpList_append_idD rfl _ _ rfl w.heap.size _ ((idsG L).take k) y wr.heap.size Y HY.out.symm rfl rfl (heap_alloc_new wr _) HY20.out HO4.out LL.out B4.out.size ?_)
        | fail)
      intro v6 w6 o6 g6
      have HB6 := Lib.hid (B4.out.trans ((Below.refl w.heap.size _).grown g6 B4.out.size (fun j hj => (HO4.out.lt j hj).1)))
      have HW6 := Lib.hid (show OwnD w.heap.size v6 ((idsG L).take (k + 1)) w6 by rw [PS.out]; exact o6)
      clear o6 g6
      go_wp2
      go_roundw
      case rel => exact ⟨k + 1, by omega, by go_num, HW6.out, HB6.out⟩
      case measure => simp [intOf]; omega
    · obtain rfl : k = n := by omega
      have HE := Lib.hid (show OwnD w.heap.size _ (idsG L) wr by have q := HO.out; rwa [List.take_of_length_le (by rw [idsG_len, HN.out]; exact Nat.le_refl _)] at q)
      go_wp2
      go_ret
      exact ⟨_, rfl, HE.out, HBR.out⟩
end Go.Proofs.Ytajmgjhknmkfpaa
namespace Go.Proofs.Ytajmgjhknmkfpaa
set_option maxRecDepth 20000
open Go.RowKit
set_option linter.unusedVariables false
set_option linter.unusedSimpArgs false

theorem psOf_has {L : List Gn} (G : GoodG L) {k i : Nat} (hk : k < L.length) : (psOf L (plAt L i)).contains (idAt L k) = true ↔ k ∈ plAt L i := by
  rw [List.contains_iff_mem]
  unfold psOf
  rw [List.mem_map]
  constructor
  · rintro ⟨j, hj, e⟩
    have hjL := low_lt G j hj
    rw [idAt_lt hjL, idAt_lt hk] at e
    rw [← G.nod j k hjL hk e]
    exact hj
  · intro h
    exact ⟨k, h, rfl⟩
def childR (L : List Gn) (k i : Nat) : Bool := (List.range i).any (fun j => (psOf L (plAt L j)).contains (idAt L k))
theorem childR_succ (L : List Gn) (k i : Nat) : childR L k (i + 1) = (childR L k i || (psOf L (plAt L i)).contains (idAt L k)) := by
  unfold childR
  rw [List.range_succ, List.any_append]
  simp
theorem childR_all {L : List Gn} (G : GoodG L) {k : Nat} (hk : k < L.length) : childR L k L.length = onG (parentsG L) k := by
  rw [Bool.eq_iff_iff, parentsG_is G]
  unfold childR
  rw [List.any_eq_true]
  constructor
  · rintro ⟨j, hj, h⟩
    exact ⟨j, List.mem_range.1 hj, (psOf_has G hk).1 h⟩
  · rintro ⟨j, hj, h⟩
    exact ⟨j, List.mem_range.2 hj, (psOf_has G hk).2 h⟩
set_option maxRecDepth 100000 in
set_option maxHeartbeats 4000000 in
theorem headsR_is {w : World} {q : Nat} {L : List Gn} {a : Option Addr} {c : Nat} {E : List Enn} (h : LookR w q L a c E) (hm : L.length ≤ 1000000) (hfew : ∀ k, (plAt L k).length ≤ 1000) :
    Calls Try.prog 21 #[.pointer (some ⟨q, 0, none⟩)] w fun e w' => ∃ v, e = .returned v ∧ OwnD w.heap.size v (headsG L) w' ∧ Below w.heap.size w w' := by
  have LK := Lib.hid h
  have hcap := h.cap
  have FEW := Lib.hid hfew
  obtain ⟨n, hn⟩ : ∃ n, L.length = n := ⟨_, rfl⟩
  have HN := Lib.hid hn
  rw [hn] at hcap hm
  clear h hn hfew
  go_enter Try.func21, Try.ntmps21
  go_wp2_with fail
  go_loopw [3, 4] (fun v t wr => ∃ k : Nat, k ≤ n ∧ t = .int .i64 k ∧ OwnD w.heap.size v (((List.range k).filter (fun i => !onG (parentsG L) i)).map (idAt L)) wr ∧ Below w.heap.size w wr) (fun _ t _ => n - (intOf t).toNat)
  case atStart => exact ⟨0, Nat.zero_le _, rfl, ownD_nil _ _, Below.refl _ _⟩
  case round =>
    obtain ⟨k, hk, rfl, how, hbr⟩ := hrel
    have HO := Lib.hid how; have HBR := Lib.hid hbr
    have d0 := (LK.out.below hbr).cell
    rw [HN.out] at d0
    clear how hbr
    by_cases hlt : k < n
    · have hkL : k < L.length := by rw [HN.out]; exact hlt
      obtain ⟨b, o, pa, pc, rfl, hbl, hid, -, -, -, -⟩ := (LK.out.below HBR.out).node hkL
      obtain ⟨y, hy⟩ : ∃ y, idAt L k = y := ⟨_, rfl⟩
      have HY20 := Lib.hid (show y.length = 20 by rw [← hy]; exact idAt_len LK.out.good hkL)
      have YK := Lib.hid hy
      have ALL := Lib.hid (childR_all LK.out.good hkL)
      rw [HN.out] at ALL
      rw [hy] at hid
      have RY := Lib.hid (fun u (hu : Below wr.heap.size wr u) => (show u.rangeAt b (o + k * 21) (cellsD y) from fun j v hv => (hu.cell (p := ⟨b, o + k * 21 + j, none⟩) hbl).trans (hid j v hv)))
      obtain ⟨Y, hY⟩ : ∃ Y, arrD y = Y := ⟨_, rfl⟩
      have HY := Lib.hid hY
      have HYS := Lib.hid (show Y.size = 20 by rw [← hY]; exact arrD_size y HY20.out)
      have LY := Lib.hid (show (Try.prog.info? 32).map (·.size) = some (cellsD y).length by rw [cellsD_len y HY20.out]; exact infoD_n)
      have ea : (cellsD y).toArray = Y := hY
      have EA := Lib.hid ea
      clear hid hy hY ea hkL
      generalize cellsD y = cy at *
      go_wp2_with fail
      go_loopw [5, 6] (fun cv t wi => ∃ i : Nat, i ≤ n ∧ t = .int .i64 i ∧ cv = .bool (childR L k i) ∧ Below wr.heap.size wr wi) (fun _ t _ => n - (intOf t).toNat)
      case atStart => exact ⟨0, Nat.zero_le _, rfl, rfl, Below.refl _ _⟩
      case round =>
        obtain ⟨i, hi, rfl, rfl, hbi⟩ := hrel
        have HBI := Lib.hid hbi
        clear hbi
        rename World => wi
        have BI := Lib.hid (HBR.out.trans (HBI.out.mono HBR.out.size))
        have e0 := (LK.out.below BI.out).cell
        rw [HN.out] at e0
        by_cases hli : i < n
        · have hiL : i < L.length := by rw [HN.out]; exact hli
          obtain ⟨b', o', qa, qc, hbo, hbl2, -, d1, hr, -, -⟩ := (LK.out.below BI.out).node hiL
          simp only [Option.some.injEq, Addr.mk.injEq, and_true] at hbo
          obtain ⟨rfl, rfl⟩ := hbo
          have SC := Lib.hid (childR_succ L k i)
          obtain ⟨m, hmm⟩ : ∃ m, (plAt L i).length = m := ⟨_, rfl⟩
          have hm3 : m ≤ 1000 := by rw [← hmm]; exact FEW.out i
          rw [hmm] at d1
          have CIN := fun u (hu : Below wi.heap.size wi u) => InIds_is qa m qc (psOf L (plAt L i)) y u (hr.keep hu) (by rw [psOf_len, hmm]) (by omega) (psOf_each LK.out.good i) HY20.out
          rw [HY.out] at CIN
          rw [YK.out] at SC
          obtain ⟨r, hrr⟩ : ∃ r, (psOf L (plAt L i)).contains y = r := ⟨_, rfl⟩
          rw [hrr] at SC CIN
          have CI := Lib.hid CIN
          have K0 := Lib.hid (fun u (hu : Below wi.heap.size wi u) => (hu.cell (p := ⟨q, 0, none⟩) (lt_of_heap (LK.out.below BI.out).blk)).trans e0)
          have K1 := Lib.hid (fun u (hu : Below wi.heap.size wi u) => (hu.cell (p := ⟨b, o + i * 21 + 20, none⟩) hbl2).trans d1)
          have RI := Lib.hid (fun u (hu : Below wi.heap.size wi u) => RY.out u (HBI.out.trans (hu.mono HBI.out.size)))
          clear hr hmm hrr CIN d1 hiL d0
          generalize childR L k i = bb at *
          cases bb with
          | true =>
            go_wp2_with fail
            refine rgB _ (fun hHeld => ?_)
            refine tkW 0 rfl hHeld ?_
            refine tkW 1 rfl hHeld ?_
            refine tkU 2 rfl hHeld ?_
            refine tkU 3 rfl hHeld ?_
            refine tkU 4 rfl hHeld ?_
            refine tkU 5 rfl hHeld ?_
            refine tkU 6 rfl hHeld ?_
            refine tkU 7 rfl hHeld ?_
            refine tkU 8 rfl hHeld ?_
            refine tkU 9 rfl hHeld ?_
            refine tkU 10 rfl hHeld ?_
            refine tkU 11 rfl hHeld ?_
            refine tkU 12 rfl hHeld ?_
            refine tkU 13 rfl hHeld ?_
            refine tkU 14 rfl hHeld ?_
            refine tkU 15 rfl hHeld ?_
            refine tkU 16 rfl hHeld ?_
            refine tkU 17 rfl hHeld ?_
            refine tkU 18 rfl hHeld ?_
            refine tkW 19 rfl hHeld ?_
            refine tkW 20 rfl hHeld ?_
            try simp only [Act.put, List.getElem_toArray, List.getElem_cons_succ, List.getElem_cons_zero, lsA, lsZ, lsS]
            refine wpAnyH_done (by kernel_rfl) ?_ _
            have HB2 := Lib.hid (HBI.out.trans (hHeld.mono HBI.out.size))
            clear hHeld
            go_wp2_with fail
            go_roundw
            case rel => exact ⟨i + 1, by omega, by go_num, by rw [SC.out]; rfl, HB2.out⟩
            case measure => simp [intOf]; omega
          | false =>
            go_wp2_with fail
            refine rgB _ (fun hHeld => ?_)
            refine tkW 0 rfl hHeld ?_
            refine tkW 1 rfl hHeld ?_
            refine tkW 2 rfl hHeld ?_
            refine tkW 3 rfl hHeld ?_
            refine tkW 4 rfl hHeld ?_
            refine tkV 5 rfl (.slice (some ⟨b, o, none⟩) n c) (fun u hu => by have q := K0.out u hu; go_simp) hHeld ?_
            refine tkW 6 rfl hHeld ?_
            refine tkW 7 rfl hHeld ?_
            refine tkW 8 rfl hHeld ?_
            refine tkV 9 rfl (.slice qa m qc) (fun u hu => by have q := K1.out u hu; go_simp) hHeld ?_
            refine tkW 10 rfl hHeld ?_
            refine tkW 11 rfl hHeld ?_
            refine tkW 12 rfl hHeld ?_
            refine tkV 13 rfl (.slice (some ⟨b, o, none⟩) n c) (fun u hu => by have q := K0.out u hu; go_simp) hHeld ?_
            refine tkW 14 rfl hHeld ?_
            refine tkW 15 rfl hHeld ?_
            refine tkW 16 rfl hHeld ?_
            refine tkH 17 rfl (yieldsIf_load_mid (by kernel_rfl) 32 (.tmp 41) (by kernel_rfl) b (o + k * 21) (by kernel_rfl) cy _ (fun u hu => RI.out u hu) Try.underlying32 rfl LY.out) hHeld ?_
            refine rdH 18 rfl (fun K hK => ?_)
            go_simp
            rw [EA.out]
            refine (CI.out _ hHeld).mono ?_
            rintro e u1 ⟨rfl, h1⟩
            have hH := hHeld.trans (h1.mono hHeld.size)
            clear hHeld h1
            refine hK.out _ _ hH (fun hHeld => ?_)
            clear hK K
            try simp only [Act.put, List.setIfInBounds_toArray, List.set_cons_zero, List.set_cons_succ]
            refine tkW 19 rfl hHeld ?_
            refine tkW 20 rfl hHeld ?_
            try simp only [Act.put, List.getElem_toArray, List.getElem_cons_succ, List.getElem_cons_zero, lsA, lsZ, lsS]
            refine wpAnyH_done (by kernel_rfl) ?_ _
            have HB2 := Lib.hid (HBI.out.trans (hHeld.mono HBI.out.size))
            clear hHeld
            go_wp2_with fail
            go_roundw
            case rel => exact ⟨i + 1, by omega, by go_num, by rw [SC.out]; rfl, HB2.out⟩
            case measure => simp [intOf]; omega
        · obtain rfl : i = n := by omega
          have ST := Lib.hid (those_step L (fun i => !onG (parentsG L) i) k)
          have HOI := Lib.hid (ownD_below HO.out HBI.out)
          rw [ALL.out, YK.out] at *
          obtain ⟨bb, hbb⟩ : ∃ bb, onG (parentsG L) k = bb := ⟨_, rfl⟩
          simp only [hbb] at ST
          rw [hbb]
          have RI : wi.rangeAt b (o + k * 21) cy := RY.out wi HBI.out
          have RI := Lib.hid RI
          cases bb with
          | true =>
            go_wp2_with fail
            go_roundw
            case rel => exact ⟨k + 1, by omega, by go_num, by rw [ST.out]; simpa using HOI.out, BI.out⟩
            case measure => simp [intOf]; omega
          | false =>
            have LL := Lib.hid (show (((List.range k).filter (fun i => !onG (parentsG L) i)).map (idAt L)).length ≤ 1000000000 by
              rw [List.length_map]
              have := List.length_filter_le (fun i => !onG (parentsG L) i) (List.range k)
              rw [List.length_range] at this
              omega)
            have b4 := (Below.refl wi.heap.size wi).alloc (Nat.le_refl _) (.cells Y 32)
            have HO4 := Lib.hid (ownD_below HOI.out b4)
            have B4 := Lib.hid (BI.out.trans (b4.mono BI.out.size))
            clear b4
            go_wp2_with (first
              | (with_reducible refine wpList_load_midD 32 (.tmp 54) rfl (by kernel_rfl) b (o + k * 21) rfl cy _ RI.out Try.underlying32 rfl LY.out ?_; rw [EA.out])
              | (with_reducible refine wpList_build_idD rfl (.tmp 55) rfl Y HYS.out rfl ?_)
              | (at_builtin; refine wpList_append_idD rfl _ _ rfl w.heap.size _ (((List.range k).filter (fun i => !onG (parentsG L) i)).map (idAt L)) y wi.heap.size Y HY.out.symm rfl rfl (heap_alloc_new wi _) HY20.out HO4.out LL.out B4.out.size ?_)
              | fail)
            intro v6 w6 o6 g6
            have HB6 := Lib.hid (B4.out.trans ((Below.refl w.heap.size _).grown g6 B4.out.size (fun j hj => (HO4.out.lt j hj).1)))
            have HW6 := Lib.hid (show OwnD w.heap.size v6 (((List.range (k + 1)).filter (fun i => !onG (parentsG L) i)).map (idAt L)) w6 by rw [ST.out]; simpa using o6)
            clear o6 g6
            go_wp2
            go_roundw
            case rel => exact ⟨k + 1, by omega, by go_num, HW6.out, HB6.out⟩
            case measure => simp [intOf]; omega
    · obtain rfl : k = n := by omega
      have HE := Lib.hid (show OwnD w.heap.size _ (headsG L) wr by have q := HO.out; rw [← HN.out] at q; exact q)
      go_wp2
      go_ret
      exact ⟨_, rfl, HE.out, HBR.out⟩
end Go.Proofs.Ytajmgjhknmkfpaa
