/-
  Texts that belong together, one behind the other.
-/
import Derived.Test.YtgbmbemmkadagaaFu38
import Derived.Maps.OwnIn
/-
  Layer 15, the program: a text whose node is there (keep).
-/
namespace Go.Proofs.Ytgbmbemmkadagaa
set_option maxRecDepth 20000
open Go.RowKit Go.Maps
set_option linter.unusedVariables false
set_option linter.unusedSimpArgs false

/-- Three new blocks: where they are, that they stay. -/
theorem three_new (w : World) (A B C : Array Value) (T U V : TypeId) (w1 : World) (h : ((w.alloc (.cells A T)).alloc (.cells B U)).alloc (.cells C V) = w1) :
    Below w.heap.size w w1 ∧ w1.heap.size = w.heap.size + 3 ∧ w1.heap[w.heap.size]? = some (.cells A T (0, 0)) ∧ w1.heap[w.heap.size + 1]? = some (.cells B U (0, 0)) ∧ w1.heap[w.heap.size + 2]? = some (.cells C V (0, 0)) := by
  subst h
  have b1 := (Below.refl w.heap.size w).alloc (Nat.le_refl _) (.cells A T)
  have b2 := b1.alloc b1.size (.cells B U)
  have b3 := b2.alloc b2.size (.cells C V)
  have e1 : (w.alloc (.cells A T)).heap.size = w.heap.size + 1 := by simp
  have e2 : ((w.alloc (.cells A T)).alloc (.cells B U)).heap.size = w.heap.size + 2 := by simp
  have k1 := heap_alloc_new w (.cells A T)
  have k2 := heap_alloc_new (w.alloc (.cells A T)) (.cells B U)
  have k3 := heap_alloc_new ((w.alloc (.cells A T)).alloc (.cells B U)) (.cells C V)
  rw [e1] at k2
  rw [e2] at k3
  exact ⟨b3, by simp, (Below.heap_alloc _ _ _ (by simp; omega)).trans ((Below.heap_alloc _ _ _ (by simp)).trans k1), (Below.heap_alloc _ _ _ (by simp)).trans k2, k3⟩
set_option maxHeartbeats 32000000 in
theorem keepL_there {S : Nat → Prop} {w : World} {g : Nat} {L : LogV} {E : List Enl} {v : Value} {mb : Option Nat} (h2 : LogIn S w g L E v mb) (i : List UInt8) (hi : i.length = 20) {k : Nat} (hk : atLv L i = some k) (hl : k < L.length)
    (a : Option Addr) (n c : Nat) (t p q : List UInt8) (hb : BAt w a t) (hn : n = t.length) (hp : p.length = 20) (hq : q.length = 20) :
    Calls Try.prog 27 #[.pointer (some ⟨g, 0, none⟩), .agg (arrD i), .slice a n c, .agg (arrD p), .agg (arrD q)] w fun e w' =>
      e = .returned (.int .i64 (bif eqD (L[k]).p p && eqD (L[k]).q q && (L[k]).t == t then 0 else 7)) ∧ Below w.heap.size w w' := by
  obtain ⟨Z, hZ, sZ, zr, bZ, oZ⟩ := zEnt_any
  have hlk := h2.look hi
  have es := entE_size h2 i
  have eo := entE_one h2 i
  obtain ⟨hl', hm, hr, hnn⟩ := h2.entE_some hk
  have hids := h2.ids _ hm
  have e40 := arrL_40 (entE L E i) hids.2.1 hids.2.2
  have hsto := h2.sto _ hm
  have NP := fun u => neq_arrD (entE L E i).r.p p hids.2.1 hp u
  have NQ := fun u => neq_arrD (entE L E i).r.q q hids.2.2 hq u
  have ROWS := Lib.hid (fun (u : World) (y : Nat) (h : u.heap[y]? = some (.cells (arrL (entE L E i)) 76 (0, 0))) => rowL_p h hids.2.1 hids.2.2)
  have LP := Lib.hid (show (Try.prog.info? 24).map (·.size) = some (cellsD (entE L E i).r.p).length by rw [cellsD_len _ hids.2.1]; exact infoD_n)
  have LQ := Lib.hid (show (Try.prog.info? 24).map (·.size) = some (cellsD (entE L E i).r.q).length by rw [cellsD_len _ hids.2.2]; exact infoD_n)
  unfold arrD at NP NQ
  rw [← hr]
  rw [hk] at hlk
  obtain ⟨V, hV⟩ : ∃ V, (entE L E i).v = V := ⟨_, rfl⟩
  rw [hV] at hsto e40
  obtain ⟨T, x, f, hT⟩ := hsto.text
  obtain ⟨rfl, m, na, eg, CT⟩ := hT
  obtain ⟨t', ht'⟩ : ∃ t', (entE L E i).r.t = t' := ⟨_, rfl⟩
  obtain ⟨B1, hB1⟩ : ∃ B, eqD (entE L E i).r.p p = B := ⟨_, rfl⟩
  obtain ⟨B2, hB2⟩ : ∃ B, eqD (entE L E i).r.q q = B := ⟨_, rfl⟩
  obtain ⟨B3, hB3⟩ : ∃ B : Bool, (t' == t) = B := ⟨_, rfl⟩
  rw [hB1] at NP
  rw [hB2] at NQ
  rw [ht'] at CT
  rw [hB1, hB2, ht', hB3]
  have CE := Lib.hid (fun (u : World) (hu : Below w.heap.size w u) (b : Option Addr) (d : Nat) (hr : Red u (.slice b t'.length d) t') => (by
    have := bEqual_any b a t'.length n d c t' t u (redP hr).2.1 (hb.keep hu) rfl hn
    rw [hB3] at this
    exact this : Calls Try.prog 37 #[.slice b t'.length d, .slice a n c] u fun e u' => e = .returned (.bool B3) ∧ u = u'))
  have CT := Lib.hid CT
  obtain ⟨EA, hEA⟩ : ∃ EA, arrL (entE L E i) = EA := ⟨_, rfl⟩
  obtain ⟨cp, hcp⟩ : ∃ cp, cellsD (entE L E i).r.p = cp := ⟨_, rfl⟩
  obtain ⟨cq, hcq⟩ : ∃ cq, cellsD (entE L E i).r.q = cq := ⟨_, rfl⟩
  rw [hEA] at hlk es eo e40 ROWS
  rw [hcp] at LP ROWS NP
  rw [hcq] at LQ ROWS NQ
  have EO := Lib.hid eo; have SEZ := Lib.hid (show EA.size = Z.size by rw [es, sZ]); have IE := Lib.hid (infoEnt_arr EA es); have E40 := Lib.hid e40
  obtain ⟨Ai, hAi⟩ : ∃ A, arrD i = A := ⟨_, rfl⟩
  obtain ⟨Ap, hAp⟩ : ∃ A, arrD p = A := ⟨_, rfl⟩
  obtain ⟨Aq, hAq⟩ : ∃ A, arrD q = A := ⟨_, rfl⟩
  have si : Ai.size = 20 := by rw [← hAi]; exact arrD_size i hi
  have sp : Ap.size = 20 := by rw [← hAp]; exact arrD_size p hp
  have sq : Aq.size = 20 := by rw [← hAq]; exact arrD_size q hq
  have LA := Lib.hid (show (Try.prog.info? 24).map (·.size) = some Ai.toList.length from by rw [Array.length_toList, si]; exact infoD_n)
  have IP := Lib.hid (infoD_arr Ap sp); have IQ := Lib.hid (infoD_arr Aq sq)
  rw [show (cellsD p).toArray = Ap from hAp] at NP
  rw [show (cellsD q).toArray = Aq from hAq] at NQ
  rw [hAi] at hlk ⊢
  rw [hAp, hAq]
  obtain ⟨w1, hw1⟩ : ∃ w1, ((w.alloc (.cells Ai 24)).alloc (.cells Ap 24)).alloc (.cells Aq 24) = w1 := ⟨_, rfl⟩
  obtain ⟨b1, z1, k1, k2, k3⟩ := three_new w Ai Ap Aq _ _ _ w1 hw1
  have W1 := Lib.hid hw1; have HB1 := Lib.hid b1; have Z1 := Lib.hid z1; have K2 := Lib.hid k2; have K3 := Lib.hid k3
  have HL := Lib.hid (fun u (hu : Below w1.heap.size w1 u) => hlk u (b1.trans (hu.mono b1.size)))
  have RA := Lib.hid (fun u (hu : Below w1.heap.size w1 u) => (row_arrD ((hu.block w.heap.size (lt_of_heap k1)).trans k1)))
  have eg := fun (args : Array Value) (u : World) => eg args u
  clear hZ sZ bZ oZ hlk es eo hm hr hnn hids e40 hsto hV ht' hB1 hB2 hB3 hEA hcp hcq hAi hAp hAq si sp sq hw1 b1 z1 k1 k2 k3 h2 hb hn hp hq hi
  go_enter Try.func27, Try.ntmps27
  go_wp2_with fail
  rw [W1.out]
  refine rgB _ (fun hHeld => ?_)
  refine tkW 0 rfl hHeld ?_
  refine tkW 1 rfl hHeld ?_
  refine tkW 2 rfl hHeld ?_
  refine tkV 3 rfl (.map mb) (fun u hu => by have q := (HL.out u hu).1; go_simp) hHeld ?_
  refine tkH 4 rfl (yieldsIf_load_mid (by kernel_rfl) 24 (.tmp 6) (by kernel_rfl) w.heap.size 0 (by kernel_rfl) Ai.toList _ (fun u hu => RA.out u hu) Try.underlying24 rfl LA.out) hHeld ?_
  refine tkV 5 rfl (.tuple #[.agg EA, .bool true]) (fun u hu => by have q := (HL.out u hu).2; go_simp) hHeld ?_
  refine tkW 6 rfl hHeld ?_
  refine tkW 7 rfl hHeld ?_
  refine tkW 8 rfl hHeld ?_
  refine rdH 9 rfl (fun K hK => ?_)
  go_simp
  have hH := ((Below.refl w1.heap.size w1).alloc (Nat.le_refl _) (.cells Z 76)).drew
  have x9 := (show ((w1.alloc (.cells Z 76)).drew).heap[w1.heap.size]? = some (.cells Z 76 (0, 0)) from heap_alloc_new w1 _)
  obtain ⟨u9, hu9⟩ : ∃ u9, (w1.alloc (.cells Z 76)).drew = u9 := ⟨_, rfl⟩
  rw [hu9] at hH x9 ⊢
  have X9 := Lib.hid x9
  clear hHeld x9 hu9
  refine hK.out _ _ hH (fun hHeld => ?_)
  clear hK K
  try simp only [Act.put, List.setIfInBounds_toArray, List.set_cons_zero, List.set_cons_succ]
  refine rdH 10 rfl (fun K hK => ?_)
  refine stepW rfl (wp_store_all 76 (.tmp 11) (.tmp 20) rfl w1.heap.size EA (by kernel_rfl) (by kernel_rfl) 76 Z X9.out IE.out SEZ.out EO.out (fun u10 r10 o10 s10 => ?_))
  have hH := hHeld.trans (o10.below (Nat.le_refl _) hHeld.size)
  have R10 := Lib.hid r10
  clear hHeld r10 o10 s10 X9
  refine hK.out _ _ hH (fun hHeld => ?_)
  clear hK K
  refine tkW 11 rfl hHeld ?_
  try simp only [Act.put, List.getElem_toArray, List.getElem_cons_succ, List.getElem_cons_zero, lsA, lsZ, lsS]
  refine wpAnyH_done (by kernel_rfl) ?_ _
  have HB := Lib.hid (HB1.out.trans (hHeld.mono HB1.out.size))
  have X2 := Lib.hid ((hHeld.block _ (lt_of_heap K2.out)).trans K2.out)
  have X3 := Lib.hid ((hHeld.block _ (lt_of_heap K3.out)).trans K3.out)
  have RP := Lib.hid (ROWS.out _ _ R10.out).1
  have RQ := Lib.hid (ROWS.out _ _ R10.out).2
  have x40 := (cell_of_row _ w1.heap.size 40 _ _ _ R10.out).trans E40.out
  have CT1 := Lib.hid (CT.out _ HB.out)
  clear hHeld
  have np := NP; have nq := NQ
  cases B1 with
  | false =>
    go_wp2_with (first
      | (with_reducible refine wpList_load_midD 24 (.tmp 23) rfl (by kernel_rfl) w1.heap.size 0 rfl cp _ RP.out Try.underlying24 rfl LP.out ?_)
      | (with_reducible refine wpList_load_all 24 (.tmp 8) rfl (by kernel_rfl) (w.heap.size + 1) Ap 24 (0, 0) rfl X2.out _ Try.underlying24 rfl IP.out ?_)
      | fail)
    go_ret
    exact ⟨rfl, HB.out⟩
  | true =>
    cases B2 with
    | false =>
      go_wp2_with (first
        | (with_reducible refine wpList_load_midD 24 (.tmp 23) rfl (by kernel_rfl) w1.heap.size 0 rfl cp _ RP.out Try.underlying24 rfl LP.out ?_)
        | (with_reducible refine wpList_load_all 24 (.tmp 8) rfl (by kernel_rfl) (w.heap.size + 1) Ap 24 (0, 0) rfl X2.out _ Try.underlying24 rfl IP.out ?_)
        | (with_reducible refine wpList_load_midD 24 (.tmp 28) rfl (by kernel_rfl) w1.heap.size 20 rfl cq _ RQ.out Try.underlying24 rfl LQ.out ?_)
        | (with_reducible refine wpList_load_all 24 (.tmp 9) rfl (by kernel_rfl) (w.heap.size + 2) Aq 24 (0, 0) rfl X3.out _ Try.underlying24 rfl IQ.out ?_)
        | fail)
      go_ret
      exact ⟨rfl, HB.out⟩
    | true =>
      go_wp2_with (first
        | (with_reducible refine wpList_load_midD 24 (.tmp 23) rfl (by kernel_rfl) w1.heap.size 0 rfl cp _ RP.out Try.underlying24 rfl LP.out ?_)
        | (with_reducible refine wpList_load_all 24 (.tmp 8) rfl (by kernel_rfl) (w.heap.size + 1) Ap 24 (0, 0) rfl X2.out _ Try.underlying24 rfl IP.out ?_)
        | (with_reducible refine wpList_load_midD 24 (.tmp 28) rfl (by kernel_rfl) w1.heap.size 20 rfl cq _ RQ.out Try.underlying24 rfl LQ.out ?_)
        | (with_reducible refine wpList_load_all 24 (.tmp 9) rfl (by kernel_rfl) (w.heap.size + 2) Aq 24 (0, 0) rfl X3.out _ Try.underlying24 rfl IQ.out ?_)
        | fail)
      refine CT1.out.mono ?_
      rintro e u11 ⟨b11, d11, rfl, hr11, hb11⟩
      have H11 := Lib.hid (HB.out.trans (hb11.mono HB.out.size))
      have C12 := Lib.hid (CE.out u11 H11.out b11 d11 hr11)
      clear hr11 hb11 x40
      go_wp2_with fail
      refine C12.out.mono ?_
      rintro e u12 ⟨rfl, rfl⟩
      cases B3 with
      | true =>
        go_wp2
        go_ret
        exact ⟨rfl, H11.out⟩
      | false =>
        go_wp2
        go_ret
        exact ⟨rfl, H11.out⟩
end Go.Proofs.Ytgbmbemmkadagaa

/-
  Layer 15, the program: what a new text leaves; how it is kept behind the last one.
-/
namespace Go.Proofs.Ytgbmbemmkadagaa
set_option maxRecDepth 20000
open Go.RowKit Go.Maps
set_option linter.unusedVariables false
set_option linter.unusedSimpArgs false

/-- What an Add of a new text leaves, step by step: the map turned, then the row of nodes, then the log's own block. -/
theorem LogIn.put {S : Nat → Prop} {w u u2 u3 u4 : World} {g b : Nat} {L : LogV} {E : List Enl} {v v' : Value} (h : LogIn S w g L E v (some b)) (hg : S g) (e : Enl) (hG : GoodV (L ++ [e.r]))
    (hpv : StoAt (fun k => (S k ∧ k ≠ g ∧ v.ownBlock ≠ some k ∧ some b ≠ some k) ∨ w.heap.size ≤ k) u e.v e.r.t e.r.c)
    (h1 : Below w.heap.size w u) (h2 : u.grownBy u2 (some b)) (hm : MapAt u2 b (celL E ++ [(.agg (arrD e.r.n), .agg (arrL e))])) (h3 : Below u2.heap.size u2 u3)
    (h4 : u3.grownBy u4 v.ownBlock) (ho : OwnR rowI 0 v' ((L ++ [e.r]).map Rvl.n) u4) (hat : v'.ownBlock = v.ownBlock ∨ v'.ownBlock = some u3.heap.size) :
    LogIn (fun k => S k ∨ (w.heap.size ≤ k ∧ k < u4.heap.size)) (u4.setCell ⟨g, 0, none⟩ v') g (L ++ [e.r]) (E ++ [e]) v' (some b) ∧ Chg (fun k => k = b ∨ v.ownBlock = some k ∨ k = g) w (u4.setCell ⟨g, 0, none⟩ v') := by
  obtain ⟨m1, m2, m3, m4⟩ := h.map b rfl
  have c2 : Chg (fun k => k = b) w u2 := (Chg.of_below h1).grown h2 (fun k hk _ => by cases hk; rfl)
  have c3 : Chg (fun k => k = b) w u3 := c2.more (Chg.of_below h3) (fun _ _ h => h)
  have c4 : Chg (fun k => k = b ∨ v.ownBlock = some k) w u4 := (c3.weak (fun k _ hk => .inl hk)).grown h4 (fun k hk _ => .inr hk)
  have c5 : Chg (fun k => k = b ∨ v.ownBlock = some k ∨ k = g) w (u4.setCell ⟨g, 0, none⟩ v') := (c4.weak (fun k _ hk => by rcases hk with h | h; exact .inl h; exact .inr (.inl h))).setCell _ (fun _ => .inr (.inr rfl)) _
  have gb : g ≠ b := fun e => m2 e.symm
  have gv : v.ownBlock ≠ some g := fun e => (h.ownS g e).2 rfl
  have bg : u4.heap[g]? = some (.cells #[v, .map (some b)] 66 (0, 0)) := (c4.block g (lt_of_heap h.blk) (fun e => e.elim gb gv)).trans h.blk
  have wb : b < w.heap.size := m4.lt
  have s1 : w.heap.size ≤ u.heap.size := h1.size
  have s2 : u.heap.size ≤ u2.heap.size := h2.size
  have s23 : u2.heap.size ≤ u3.heap.size := h3.size
  have s3 : w.heap.size ≤ u3.heap.size := c3.size
  have s34 : u3.heap.size ≤ u4.heap.size := h4.size
  have vlt : ∀ k, v.ownBlock = some k → k < w.heap.size := fun k hk => (ownR_lt h.own k hk).2
  have own4 : ∀ k, v'.ownBlock = some k → (S k ∨ (w.heap.size ≤ k ∧ k < u4.heap.size)) ∧ k ≠ g ∧ k ≠ b ∧ (v.ownBlock = some k ∨ u.heap.size ≤ k) := fun k hk => by
    have hlt := (ownR_lt ho k hk).2
    rcases hat with h' | h'
    · rw [h'] at hk
      obtain ⟨a1, a2⟩ := h.ownS k hk
      exact ⟨.inl a1, a2, fun e => m3 (by rw [hk, e]), .inl hk⟩
    · rw [h'] at hk
      have e1 := Option.some.inj hk
      refine ⟨.inr ⟨by omega, hlt⟩, fun e => ?_, fun e => by omega, .inr (by omega)⟩
      have := lt_of_heap h.blk
      omega
  refine ⟨⟨hG, ?_, ?_, ?_, ?_, ?_, ?_, ?_⟩, c5⟩
  · rw [List.map_append, h.ens]; rfl
  · exact (heap_set bg 0 v').trans rfl
  · exact ownR_same ho (fun k hk => heap_setCell_other _ _ _ _ (own4 k hk).2.1)
  · exact fun k hk => ⟨(own4 k hk).1, (own4 k hk).2.1⟩
  · intro x hx
    rcases List.mem_append.1 hx with hx | hx
    · have x2 := h.sto x hx
      refine ((x2.mono (S' := fun k => k < w.heap.size ∧ S k ∧ k ≠ g ∧ v.ownBlock ≠ some k ∧ some b ≠ some k) (fun k hk h => ⟨hk, h⟩)).keep ⟨c5.size, fun k hk hl => c5.block k hl (fun hc => ?_)⟩).mono (fun k hk h => ?_)
      · obtain ⟨a0, a1, a2, a3, a4⟩ := hk
        rcases hc with hc | hc | hc
        · exact a4 (by rw [hc])
        · exact a3 hc
        · exact a2 hc
      · obtain ⟨a0, a1, a2, a3, a4⟩ := h
        refine ⟨.inl a1, a2, fun hc => ?_, a4⟩
        rcases (own4 k hc).2.2.2 with h | h
        · exact a3 h
        · omega
    · obtain rfl : x = e := by simpa using hx
      refine ((hpv.mono (S' := fun k => k < u.heap.size ∧ ((S k ∧ k ≠ g ∧ v.ownBlock ≠ some k ∧ some b ≠ some k) ∨ w.heap.size ≤ k)) (fun k hk h => ⟨hk, h⟩)).keep ⟨?_, fun k hk hl => ?_⟩).mono (fun k hk h => ?_)
      · simp only [World.size_setCell]
        omega
      · obtain ⟨a0, a1⟩ := hk
        have kg : k ≠ g := by
          rcases a1 with a1 | a1
          · exact a1.2.1
          · have := lt_of_heap h.blk; omega
        have kb : some b ≠ some k := by
          rcases a1 with a1 | a1
          · exact a1.2.2.2
          · intro e; cases e; omega
        have kv : v.ownBlock ≠ some k := by
          rcases a1 with a1 | a1
          · exact a1.2.2.1
          · intro e; have := vlt k e; omega
        rw [heap_setCell_other _ _ _ _ kg]
        refine (h4.block k (by omega) (fun e => kv e.symm)).trans ((h3.block k (by omega)).trans (h2.block k hl (fun e => kb (by rw [e]))))
      · obtain ⟨a0, a1⟩ := h
        have := lt_of_heap h.blk
        rcases a1 with ⟨a1, a2, a3, a4⟩ | a1
        · refine ⟨.inl a1, a2, fun hc => ?_, a4⟩
          rcases (own4 k hc).2.2.2 with h | h
          · exact a3 h
          · omega
        · refine ⟨.inr ⟨a1, by omega⟩, by omega, fun hc => ?_, fun e => (by cases e; omega)⟩
          rcases (own4 k hc).2.2.2 with h | h
          · have := vlt k h; omega
          · omega
  · intro h; cases h
  · intro k hk
    obtain rfl : b = k := Option.some.inj hk
    refine ⟨.inl m1, m2, fun hc => (own4 b hc).2.2.1 rfl, ?_⟩
    rw [celL_snoc]
    refine hm.keep ?_
    rw [heap_setCell_other _ _ _ _ m2]
    refine (h4.block b ?_ (fun e => m3 e.symm)).trans (h3.block b hm.lt)
    exact Nat.lt_of_lt_of_le hm.lt h3.size
/-- The map made. -/
theorem LogIn.made {S : Nat → Prop} {w : World} {g : Nat} {L : LogV} {E : List Enl} {v : Value} (h : LogIn S w g L E v none) (hg : S g) (hS : S w.heap.size) :
    LogIn S ((w.alloc (.map #[] 0)).setCell ⟨g, 1, none⟩ (.map (some w.heap.size))) g L E v (some w.heap.size) := by
  have hlt := lt_of_heap h.blk
  have hb := (Below.refl w.heap.size w).alloc (Nat.le_refl _) (.map #[] 0)
  have h2 := h.keep hg (StayB.of hb)
  have hoth : ∀ k, k ≠ g → ((w.alloc (.map #[] 0)).setCell ⟨g, 1, none⟩ (.map (some w.heap.size))).heap[k]? = (w.alloc (.map #[] 0)).heap[k]? := fun k hk => heap_setCell_other _ _ _ _ hk
  have hL := h.none_ rfl
  have hE : E = [] := List.map_eq_nil_iff.1 (h.ens.trans hL)
  have hne : v.ownBlock ≠ some w.heap.size := fun e => by
    have := (ownR_lt h.own _ e).2
    omega
  refine ⟨h.good, h.ens, (heap_set h2.blk 1 _).trans rfl, ownR_same h2.own (fun k hk => hoth k (h.ownS k hk).2), h.ownS, (fun e he => ?_), (fun h => (by cases h)), fun b hb => ?_⟩
  · rw [hE] at he
    cases he
  · obtain rfl := Option.some.inj hb
    refine ⟨hS, Nat.ne_of_gt hlt, hne, ?_⟩
    have q := (MapAt.made w).keep (hoth _ (Nat.ne_of_gt hlt))
    rw [hE]
    exact q
/-- The last text, and how another one is kept behind it. -/
theorem last_store {S : Nat → Prop} {w : World} {g : Nat} {L : LogV} {E : List Enl} {v : Value} {mb : Option Nat} (h : LogIn S w g L E v mb) (hg : S g) (hfew : ∀ r ∈ L, r.t.length ≤ 30000)
    (a : Option Addr) (n c : Nat) (t : List UInt8) (hb : BAt w a t) (hn : n = t.length) (hno : a = none → n = 0 ∧ c = 0) (hcn : n ≤ c) (hl : t.length ≤ 30000) :
    ∃ vl, (∀ u, Below w.heap.size w u → Calls Try.prog 39 #[.pointer (some ⟨g, 0, none⟩)] u fun e u' => e = .returned vl ∧ Below u.heap.size u u') ∧
      ∀ u, Below w.heap.size w u → Calls Try.prog 38 #[.slice a n c, vl] u fun e u' => ∃ T x, e = .returned (.iface T x) ∧
        StoAt (fun k => (S k ∧ k ≠ g ∧ v.ownBlock ≠ some k ∧ mb ≠ some k) ∨ w.heap.size ≤ k) u' (.iface T x) t (chainV L t) ∧ Below u.heap.size u u' := by
  rcases hL : L.length with _ | m
  · obtain rfl : L = [] := List.eq_nil_of_length_eq_zero hL
    refine ⟨.nilIface, fun u hu => ?_, fun u hu => ?_⟩
    · refine (lastL_nil (h.keep hg (StayB.of hu))).mono ?_
      rintro e u' ⟨rfl, rfl⟩
      exact ⟨rfl, Below.refl _ _⟩
    · refine (store_nil a n c t u (hb.keep hu) hn hno hl).mono ?_
      rintro e u' ⟨v', rfl, hs, hb'⟩
      obtain ⟨T, x, rfl⟩ := hs.iface
      exact ⟨T, x, rfl, hs.mono (fun k _ hk => .inr (Nat.le_trans hu.size hk)), hb'⟩
  · have hE : m < E.length := by rw [h.len]; omega
    have hm : m < L.length := by omega
    have hr := h.at hE hm
    have hs0 := h.sto _ (List.getElem_mem hE)
    rw [hr] at hs0
    have hch : chainV L t = if (L[m]).c < 8 ∧ (dlB (L[m]).t t).length < t.length then (L[m]).c + 1 else 0 := by
      unfold chainV
      rw [List.getLast?_eq_getElem?, hL, Nat.add_sub_cancel, List.getElem?_eq_getElem hm]
    refine ⟨(E[m]).v, fun u hu => ?_, fun u hu => ?_⟩
    · exact lastL_some (h.keep hg (StayB.of hu)) hL hE
    · refine (store_some (hs0.behind hu) (hfew _ (List.getElem_mem hm)) (Nat.le_trans (h.good.few _ (List.getElem_mem hm)).2 (by omega)) a n c t (hb.keep hu) hn hno hcn hl).mono ?_
      rintro e u' ⟨v', rfl, hs, hb'⟩
      rw [← hch] at hs
      obtain ⟨T, x, rfl⟩ := hs.iface
      exact ⟨T, x, rfl, hs.mono (fun k _ hk => hk.imp id (fun hk => Nat.le_trans hu.size hk)), hb'⟩
end Go.Proofs.Ytgbmbemmkadagaa
