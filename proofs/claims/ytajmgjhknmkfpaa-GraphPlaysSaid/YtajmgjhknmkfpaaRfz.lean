/-
  Layer 12, the document: Comes.
  Layer 12, the document: what a node more leaves; Add of a node that is there, or whose parents are not.
  Layer 12, the document: Add of a node that is there, or whose parents are not.
  Layer 12, the document: Add of a new node.
  Layer 12: a graph of the program and one of the document beside each other.
  Layer 12: two rows of one list that a call owns are the same; the function that GraphPlays hands in.
-/
import Derived.Test.YtajmgjhknmkfpaaRfe
import Derived.Test.YtajmgjhknmkfpaaUg
import Derived.Test.YtajmgjhknmkfpaaUy
import Derived.Test.YtajmgjhknmkfpaaGfk
import Derived.Test.YtajmgjhknmkfpaaGdo
namespace Go.Proofs.Ytajmgjhknmkfpaa
set_option maxRecDepth 20000
open Go.RowKit
set_option linter.unusedVariables false
set_option linter.unusedSimpArgs false

/-- An operation whose guard holds is carried out. -/
theorem stepGd {P : Program} {o : Oper} {ops : Array Oper} {a : Act} {w : World} {K : Act → World → Prop} {Q : Exit → Act → World → Prop} (hw : Region.wanted o (yielded ops a.tmps) = true) (h : o.wp P a w K Q) : if Region.wanted o (yielded ops a.tmps) = true then o.wp P a w K Q else K (a.put o.dst undef) w := by
  rw [if_pos hw]
  exact h
theorem clo_each {L : List Gn} {ids : List (List UInt8)} (G : GoodG L) : ∀ i ∈ cloG L ids, i.length = 20 := those_each G
theorem clo_few {L : List Gn} {ids : List (List UInt8)} (h : L.length ≤ 1000) : (cloG L ids).length ≤ 1000 := Nat.le_trans (thoseG_len L _) h
set_option maxRecDepth 100000 in
set_option maxHeartbeats 16000000 in
theorem comesR_is {w : World} {q : Nat} {L : List Gn} {a : Option Addr} {c : Nat} {E : List Enn} (h : LookR w q L a c E) (hm : L.length ≤ 1000) (hfew : ∀ k, (plAt L k).length ≤ 1000)
    (x y : List UInt8) (hx : x.length = 20) (hy : y.length = 20) :
    Calls Try.prog 27 #[.pointer (some ⟨q, 0, none⟩), .agg (arrD x), .agg (arrD y)] w fun e w' => e = .returned (.bool (comesG L x y)) ∧ Below w.heap.size w w' := by
  rw [← comesG_is h.good x y]
  obtain ⟨X, hX⟩ : ∃ A, arrD x = A := ⟨_, rfl⟩
  obtain ⟨Y, hY⟩ : ∃ A, arrD y = A := ⟨_, rfl⟩
  have SX := Lib.hid (show X.size = 20 by rw [← hX]; exact arrD_size x hx)
  have SY := Lib.hid (show Y.size = 20 by rw [← hY]; exact arrD_size y hy)
  have LX := Lib.hid (show (Try.prog.info? 32).map (·.size) = some X.toList.length by rw [Array.length_toList]; exact infoD_arr X SX.out)
  have LY := Lib.hid (show (Try.prog.info? 32).map (·.size) = some Y.toList.length by rw [Array.length_toList]; exact infoD_arr Y SY.out)
  have b1 := (Below.refl w.heap.size w).alloc (Nat.le_refl _) (.cells X 32)
  have b2 := b1.alloc b1.size (.cells Y 32)
  have e1 : (w.alloc (.cells X 32)).heap.size = w.heap.size + 1 := by simp
  have x1 := (((Below.refl (w.alloc (.cells X 32)).heap.size (w.alloc (.cells X 32))).alloc (Nat.le_refl _) (.cells Y 32)).block w.heap.size (by simp)).trans (heap_alloc_new w _)
  have x2 := heap_alloc_new (w.alloc (.cells X 32)) (.cells Y 32)
  rw [e1] at x2
  obtain ⟨w1, hw1⟩ : ∃ w1, (w.alloc (.cells X 32)).alloc (.cells Y 32) = w1 := ⟨_, rfl⟩
  rw [hw1] at b2 x1 x2
  have B2 := Lib.hid b2; have W1 := Lib.hid hw1
  have RX := Lib.hid (fun u (hu : Below w1.heap.size w1 u) => (show u.rangeAt w.heap.size 0 X.toList from row_arrD ((hu.block w.heap.size (lt_of_heap x1)).trans x1)))
  have RY := Lib.hid (fun u (hu : Below w1.heap.size w1 u) => (show u.rangeAt (w.heap.size + 1) 0 Y.toList from row_arrD ((hu.block (w.heap.size + 1) (lt_of_heap x2)).trans x2)))
  have LK := h.below b2
  have ca := fun u (hu : Below w1.heap.size w1 u) => hasR_is (LK.below hu) (Nat.le_trans hm (by decide)) x hx
  have cb := fun u (hu : Below w1.heap.size w1 u) => hasR_is (LK.below hu) (Nat.le_trans hm (by decide)) y hy
  have cc := fun u (hu : Below w1.heap.size w1 u) => closureR_is (LK.below (hu.alloc hu.size (.cells X 32))) hm hfew (some ⟨u.heap.size, 0, none⟩) 1 1 [x] (one_row hX) rfl (by decide) (fun i h => by rw [List.mem_singleton.1 h]; exact hx)
  have ci := fun (u : World) (ad : Option Addr) (cd : Nat) (hr : IdsAt u ad (cloG L [x])) => InIds_is ad (cloG L [x]).length cd (cloG L [x]) y u hr rfl (Nat.le_trans (clo_few hm) (by decide)) (clo_each h.good) hy
  have EACH := Lib.hid (clo_each (ids := [x]) h.good)
  rw [hX] at ca ⊢
  rw [hY] at cb ci ⊢
  obtain ⟨r1, h1⟩ : ∃ b, (atG L x).isSome = b := ⟨_, rfl⟩
  obtain ⟨r2, h2⟩ : ∃ b, (atG L y).isSome = b := ⟨_, rfl⟩
  obtain ⟨r3, h3⟩ : ∃ b, (cloG L [x]).contains y = b := ⟨_, rfl⟩
  rw [h1] at ca ⊢
  rw [h2] at cb ⊢
  rw [h3] at ci ⊢
  have CA := Lib.hid ca; have CB := Lib.hid cb; have CC := Lib.hid cc; have CI := Lib.hid ci
  clear hX hY b1 b2 e1 x1 x2 hw1 LK ca cb cc ci h1 h2 h3 h hm hfew hx hy
  cases r1 with
  | false =>
    go_enter Try.func27, Try.ntmps27
    go_wp2_with fail
    rw [W1.out]
    refine rgB _ (fun hHeld => ?_)
    refine tkW 0 rfl hHeld ?_
    refine tkH 1 rfl (yieldsIf_load_mid (by kernel_rfl) 32 (.tmp 4) (by kernel_rfl) w.heap.size 0 (by kernel_rfl) X.toList _ (fun u hu => RX.out u hu) Try.underlying32 rfl LX.out) hHeld ?_
    refine rdH 2 rfl (fun K hK => ?_)
    go_simp
    refine (CA.out _ hHeld).mono ?_
    rintro e u1 ⟨rfl, hb⟩
    have hH := hHeld.trans (hb.mono hHeld.size)
    clear hHeld hb
    refine hK.out _ _ hH (fun hHeld => ?_)
    clear hK K
    try simp only [Act.put, List.setIfInBounds_toArray, List.set_cons_zero, List.set_cons_succ]
    refine tkW 3 rfl hHeld ?_
    refine tkU 4 rfl hHeld ?_
    refine tkU 5 rfl hHeld ?_
    refine tkU 6 rfl hHeld ?_
    refine tkW 7 rfl hHeld ?_
    refine tkW 8 rfl hHeld ?_
    refine tkU 9 rfl hHeld ?_
    refine tkU 10 rfl hHeld ?_
    refine tkU 11 rfl hHeld ?_
    refine tkU 12 rfl hHeld ?_
    refine tkU 13 rfl hHeld ?_
    refine tkU 14 rfl hHeld ?_
    refine tkW 15 rfl hHeld ?_
    refine tkW 16 rfl hHeld ?_
    try simp only [Act.put, List.getElem_toArray, List.getElem_cons_succ, List.getElem_cons_zero, lsA, lsZ, lsS]
    refine wpAnyH_done (by kernel_rfl) ?_ _
    have B3 := Lib.hid (B2.out.trans (hHeld.mono B2.out.size))
    clear hHeld
    go_wp2
    go_ret
    exact ⟨rfl, B3.out⟩
  | true =>
    cases r2 with
    | false =>
      go_enter Try.func27, Try.ntmps27
      go_wp2_with fail
      rw [W1.out]
      refine rgB _ (fun hHeld => ?_)
      refine tkW 0 rfl hHeld ?_
      refine tkH 1 rfl (yieldsIf_load_mid (by kernel_rfl) 32 (.tmp 4) (by kernel_rfl) w.heap.size 0 (by kernel_rfl) X.toList _ (fun u hu => RX.out u hu) Try.underlying32 rfl LX.out) hHeld ?_
      refine rdH 2 rfl (fun K hK => ?_)
      go_simp
      refine (CA.out _ hHeld).mono ?_
      rintro e u1 ⟨rfl, hb⟩
      have hH := hHeld.trans (hb.mono hHeld.size)
      clear hHeld hb
      refine hK.out _ _ hH (fun hHeld => ?_)
      clear hK K
      try simp only [Act.put, List.setIfInBounds_toArray, List.set_cons_zero, List.set_cons_succ]
      refine tkW 3 rfl hHeld ?_
      refine tkW 4 rfl hHeld ?_
      refine tkH 5 rfl (yieldsIf_load_mid (by kernel_rfl) 32 (.tmp 5) (by kernel_rfl) (w.heap.size + 1) 0 (by kernel_rfl) Y.toList _ (fun u hu => RY.out u hu) Try.underlying32 rfl LY.out) hHeld ?_
      refine rdH 6 rfl (fun K hK => ?_)
      go_simp
      refine (CB.out _ hHeld).mono ?_
      rintro e u2 ⟨rfl, hb⟩
      have hH := hHeld.trans (hb.mono hHeld.size)
      clear hHeld hb
      refine hK.out _ _ hH (fun hHeld => ?_)
      clear hK K
      try simp only [Act.put, List.setIfInBounds_toArray, List.set_cons_zero, List.set_cons_succ]
      refine tkW 7 rfl hHeld ?_
      refine tkW 8 rfl hHeld ?_
      refine tkU 9 rfl hHeld ?_
      refine tkU 10 rfl hHeld ?_
      refine tkU 11 rfl hHeld ?_
      refine tkU 12 rfl hHeld ?_
      refine tkU 13 rfl hHeld ?_
      refine tkU 14 rfl hHeld ?_
      refine tkW 15 rfl hHeld ?_
      refine tkW 16 rfl hHeld ?_
      try simp only [Act.put, List.getElem_toArray, List.getElem_cons_succ, List.getElem_cons_zero, lsA, lsZ, lsS]
      refine wpAnyH_done (by kernel_rfl) ?_ _
      have B3 := Lib.hid (B2.out.trans (hHeld.mono B2.out.size))
      clear hHeld
      go_wp2
      go_ret
      exact ⟨rfl, B3.out⟩
    | true =>
      go_enter Try.func27, Try.ntmps27
      go_wp2_with fail
      rw [W1.out]
      refine rgB _ (fun hHeld => ?_)
      refine tkW 0 rfl hHeld ?_
      refine tkH 1 rfl (yieldsIf_load_mid (by kernel_rfl) 32 (.tmp 4) (by kernel_rfl) w.heap.size 0 (by kernel_rfl) X.toList _ (fun u hu => RX.out u hu) Try.underlying32 rfl LX.out) hHeld ?_
      refine rdH 2 rfl (fun K hK => ?_)
      go_simp
      refine (CA.out _ hHeld).mono ?_
      rintro e u1 ⟨rfl, hb⟩
      have hH := hHeld.trans (hb.mono hHeld.size)
      clear hHeld hb
      refine hK.out _ _ hH (fun hHeld => ?_)
      clear hK K
      try simp only [Act.put, List.setIfInBounds_toArray, List.set_cons_zero, List.set_cons_succ]
      refine tkW 3 rfl hHeld ?_
      refine tkW 4 rfl hHeld ?_
      refine tkH 5 rfl (yieldsIf_load_mid (by kernel_rfl) 32 (.tmp 5) (by kernel_rfl) (w.heap.size + 1) 0 (by kernel_rfl) Y.toList _ (fun u hu => RY.out u hu) Try.underlying32 rfl LY.out) hHeld ?_
      refine rdH 6 rfl (fun K hK => ?_)
      go_simp
      refine (CB.out _ hHeld).mono ?_
      rintro e u2 ⟨rfl, hb⟩
      have hH := hHeld.trans (hb.mono hHeld.size)
      clear hHeld hb
      refine hK.out _ _ hH (fun hHeld => ?_)
      clear hK K
      try simp only [Act.put, List.setIfInBounds_toArray, List.set_cons_zero, List.set_cons_succ]
      refine tkW 7 rfl hHeld ?_
      refine tkW 8 rfl hHeld ?_
      refine tkW 9 rfl hHeld ?_
      refine tkH 10 rfl (yieldsIf_load_mid (by kernel_rfl) 32 (.tmp 4) (by kernel_rfl) w.heap.size 0 (by kernel_rfl) X.toList _ (fun u hu => RX.out u hu) Try.underlying32 rfl LX.out) hHeld ?_
      refine tkH 13 rfl (yieldsIf_load_mid (by kernel_rfl) 32 (.tmp 5) (by kernel_rfl) (w.heap.size + 1) 0 (by kernel_rfl) Y.toList _ (fun u hu => RY.out u hu) Try.underlying32 rfl LY.out) hHeld ?_
      have C5 := Lib.hid (CC.out _ hHeld)
      have hb5 := hHeld.alloc hHeld.size (.cells X 32)
      obtain ⟨u5, hu5⟩ : ∃ u5, u2.alloc (.cells X 32) = u5 := ⟨_, rfl⟩
      rw [hu5] at C5 hb5
      have hH := hb5
      have HU5 := Lib.hid hu5
      clear hHeld hb5 hu5
      refine rdH 11 rfl (fun K hK => ?_)
      refine stepGd (by kernel_rfl) (wp_build_oneR goodI (.tmp 17) rfl X SX.out (by kernel_rfl) ?_)
      rw [show (u2.alloc (.cells X rowI.ty)) = u5 from HU5.out]
      refine hK.out _ _ hH (fun hHeld => ?_)
      clear hK K
      skip
      refine rdH 12 rfl (fun K hK => ?_)
      go_simp
      refine C5.out.mono ?_
      rintro e u6 ⟨v6, rfl, hv6, hb⟩
      obtain ⟨a6, c6, rfl, -, -, hr6, -⟩ := ownD_ids hv6 EACH.out
      have C7 := Lib.hid (CI.out u6 a6 c6 hr6)
      have hH := hHeld.trans (hb.mono hHeld.size)
      clear hHeld hb hv6 hr6
      generalize (cloG L [x]).length = n6 at *
      refine hK.out _ _ hH (fun hHeld => ?_)
      clear hK K
      try simp only [Act.put, List.setIfInBounds_toArray, List.set_cons_zero, List.set_cons_succ]
      refine rdH 14 rfl (fun K hK => ?_)
      go_simp
      refine C7.out.mono ?_
      rintro e u7 ⟨rfl, hb⟩
      have hH := hHeld.trans (hb.mono hHeld.size)
      clear hHeld hb
      refine hK.out _ _ hH (fun hHeld => ?_)
      clear hK K
      try simp only [Act.put, List.setIfInBounds_toArray, List.set_cons_zero, List.set_cons_succ]
      refine tkW 15 rfl hHeld ?_
      refine tkW 16 rfl hHeld ?_
      try simp only [Act.put, List.getElem_toArray, List.getElem_cons_succ, List.getElem_cons_zero, lsA, lsZ, lsS]
      refine wpAnyH_done (by kernel_rfl) ?_ _
      have B3 := Lib.hid (B2.out.trans (hHeld.mono B2.out.size))
      clear hHeld
      go_wp2
      go_ret
      exact ⟨rfl, B3.out⟩
end Go.Proofs.Ytajmgjhknmkfpaa
namespace Go.Proofs.Ytajmgjhknmkfpaa
set_option maxRecDepth 20000
open Go.RowKit
set_option linter.unusedVariables false
set_option linter.unusedSimpArgs false

theorem psOf_old {L : List Gn} {n : Gn} {l : List Nat} (h : ∀ p ∈ l, p < L.length) : psOf (L ++ [n]) l = psOf L l := by
  unfold psOf
  exact List.map_congr_left (fun p hp => idAt_old (h p hp))
theorem RefIn.put {S : Nat → Prop} {w u3 u4 : World} {q : Nat} {L : List Gn} {E : List Enn} {v v' : Value} (h : RefIn S w q L E v) (hg : S q) (G : GoodG L) (e : Enn) (hok : okN e) (hl : ∀ p ∈ e.n.pl, p < L.length)
    (h1 : Below w.heap.size w u3) (hpv : RedR rowI (fun k => w.heap.size ≤ k) u3 e.v (psOf L e.n.pl))
    (h4 : u3.grownBy u4 v.ownBlock) (ho : OwnR rowQ 0 v' (E ++ [e]) u4) (hat : v'.ownBlock = v.ownBlock ∨ v'.ownBlock = some u3.heap.size) :
    RefIn (fun k => S k ∨ (w.heap.size ≤ k ∧ k < u4.heap.size)) (u4.setCell ⟨q, 0, none⟩ v') q (L ++ [e.n]) (E ++ [e]) v' ∧ Chg (fun k => v.ownBlock = some k ∨ k = q) w (u4.setCell ⟨q, 0, none⟩ v') := by
  have c4 : Chg (fun k => v.ownBlock = some k) w u4 := (Chg.of_below h1).grown h4 (fun k hk _ => hk)
  have c5 : Chg (fun k => v.ownBlock = some k ∨ k = q) w (u4.setCell ⟨q, 0, none⟩ v') := (c4.weak (fun k _ hk => .inl hk)).setCell _ (fun _ => .inr rfl) _
  have qv : v.ownBlock ≠ some q := fun e => (h.ownS q e).2 rfl
  have bq : u4.heap[q]? = some (.cells #[v] 29 (0, 0)) := (c4.block q (lt_of_heap h.blk) qv).trans h.blk
  have hq := lt_of_heap h.blk
  have s3 : w.heap.size ≤ u3.heap.size := h1.size
  have vlt : ∀ k, v.ownBlock = some k → k < w.heap.size := fun k hk => (ownR_lt h.own k hk).2
  have own4 : ∀ k, v'.ownBlock = some k → (S k ∨ (w.heap.size ≤ k ∧ k < u4.heap.size)) ∧ k ≠ q ∧ (v.ownBlock = some k ∨ k = u3.heap.size) := fun k hk => by
    have hlt := (ownR_lt ho k hk).2
    rcases hat with h' | h'
    · rw [h'] at hk
      obtain ⟨a1, a2⟩ := h.ownS k hk
      exact ⟨.inl a1, a2, .inl hk⟩
    · rw [h'] at hk
      have e1 := Option.some.inj hk
      exact ⟨.inr ⟨by omega, hlt⟩, fun e => by omega, .inr e1.symm⟩
  refine ⟨⟨?_, ?_, ?_, ?_, ?_⟩, c5⟩
  · rw [List.map_append, h.ens]; rfl
  · exact (heap_set bq 0 v').trans rfl
  · exact ownR_same ho (fun k hk => heap_setCell_other _ _ _ _ (own4 k hk).2.1)
  · exact fun k hk => ⟨(own4 k hk).1, (own4 k hk).2.1⟩
  · intro x hx
    rcases List.mem_append.1 hx with hx | hx
    · obtain ⟨x1, x2⟩ := h.red x hx
      have hxl : ∀ p ∈ x.n.pl, p < L.length := by
        have hm : x.n ∈ L := by rw [← h.ens]; exact List.mem_map_of_mem hx
        obtain ⟨k, hk, e⟩ := List.getElem_of_mem hm
        intro p hp
        exact low_lt G (k := k) p (by rw [plAt_lt hk, e]; exact hp)
      rw [psOf_old hxl]
      refine ⟨x1, ((x2.mono (S' := fun k => k < w.heap.size ∧ S k ∧ k ≠ q ∧ v.ownBlock ≠ some k) (fun k hk h => ⟨hk, h⟩)).keep ⟨c5.size, fun k hk hl => c5.block k hl (fun hc => ?_)⟩).mono (fun k hk h => ?_)⟩
      · obtain ⟨a0, a1, a2, a3⟩ := hk
        rcases hc with hc | hc
        · exact a3 hc
        · exact a2 hc
      · obtain ⟨a0, a1, a2, a3⟩ := h
        refine ⟨.inl a1, a2, fun hc => ?_⟩
        rcases (own4 k hc).2.2 with h | h
        · exact a3 h
        · omega
    · obtain rfl : x = e := by simpa using hx
      rw [psOf_old hl]
      refine ⟨hok, ((hpv.mono (S' := fun k => w.heap.size ≤ k ∧ k < u3.heap.size) (fun k hk h => ⟨h, hk⟩)).keep ⟨?_, fun k hk hl => ?_⟩).mono (fun k hk h => ?_)⟩
      · simp only [World.size_setCell]
        exact h4.size
      · rw [heap_setCell_other _ _ _ _ (show k ≠ q by omega)]
        exact h4.block k hl (fun e => by have := vlt k e.symm; omega)
      · obtain ⟨a0, a1⟩ := h
        refine ⟨.inr ⟨a0, Nat.lt_of_lt_of_le a1 h4.size⟩, by omega, fun hc => ?_⟩
        rcases (own4 k hc).2.2 with h | h
        · have := vlt k h; omega
        · omega
end Go.Proofs.Ytajmgjhknmkfpaa
namespace Go.Proofs.Ytajmgjhknmkfpaa
set_option maxRecDepth 20000
open Go.RowKit Go.Maps
set_option linter.unusedVariables false
set_option linter.unusedSimpArgs false

theorem addG_same {L : List Gn} (G : GoodG L) {i : List UInt8} {ps : List (List UInt8)} {k : Nat} (h1 : atG L i = some k) (h2 : psOf L (plAt L k) = ps) : addG L i ps = (0, L) ∧ (∀ p ∈ ps, (atG L p).isSome = true) ∧ i ≠ zeroG := by
  have hp : placesG L ps = some (plAt L k) := by rw [← h2]; exact placesG_there G (fun p hp => low_lt G p hp)
  refine ⟨?_, ?_, ?_⟩
  · unfold addG
    rw [h1, hp]
    simp
  · intro p hpm
    cases e : atG L p with
    | some j => rfl
    | none => rw [placesG_none.2 ⟨p, hpm, e⟩] at hp; cases hp
  · obtain ⟨hk, e⟩ := atG_some h1
    rw [← e]
    exact G.nz _ (List.getElem_mem hk)
theorem addG_other {L : List Gn} (G : GoodG L) {i : List UInt8} {ps : List (List UInt8)} {k : Nat} (h1 : atG L i = some k) (h2 : psOf L (plAt L k) ≠ ps) : addG L i ps = (8, L) := by
  unfold addG
  rw [h1]
  cases e : placesG L ps with
  | none => rfl
  | some l =>
    simp only
    rw [if_neg (fun e2 => h2 (by rw [e2]; exact placesG_back e))]
theorem addG_lost {L : List Gn} {i : List UInt8} {ps : List (List UInt8)} (h1 : atG L i = none) (h2 : placesG L ps = none) : addG L i ps = (6, L) := by
  unfold addG
  rw [h1, h2]
theorem places_has {L : List Gn} {ps : List (List UInt8)} {l : List Nat} (h : placesG L ps = some l) : ∀ p ∈ ps, (atG L p).isSome = true := by
  intro p hpm
  cases e : atG L p with
  | some j => rfl
  | none => rw [placesG_none.2 ⟨p, hpm, e⟩] at h; cases h
theorem atV_some {L : List Gn} {i : List UInt8} {k : Nat} (h : atG L i = some k) : atV L i = (k : Int) := by unfold atV; rw [h]
theorem atV_none {L : List Gn} {i : List UInt8} (h : atG L i = none) : atV L i = -1 := by unfold atV; rw [h]
set_option maxRecDepth 100000 in
set_option maxHeartbeats 16000000 in
theorem addR_twice {S : Nat → Prop} {w : World} {q : Nat} {L : List Gn} (h : GraphR S w q L) (hSB : ∀ k, S k → k < w.heap.size) (i : List UInt8) (hi : i.length = 20) (a : Option Addr) (n c : Nat) (ps : List (List UInt8)) (hr : RowAt rowI w a ps) (hn : n = ps.length) (hm : n ≤ 1000000) (hcn : n ≤ c) (hid : ∀ i ∈ ps, i.length = 20) (hL : L.length ≤ 1000) (hfew : ∀ k, (plAt L k).length ≤ 1000)
    {k : Nat} (h1 : atG L i = some k) (h2 : psOf L (plAt L k) ≠ ps) :
    Calls Try.prog 11 #[.pointer (some ⟨q, 0, none⟩), .agg (arrD i), .slice a n c] w fun e w' => e = .returned (.int .i64 (addG L i ps).1) ∧ GraphR (fun j => S j ∨ (w.heap.size ≤ j ∧ j < w'.heap.size)) w' q (addG L i ps).2 ∧ Chg S w w' := by
  obtain ⟨A, hA⟩ : ∃ A, arrD i = A := ⟨_, rfl⟩
  have SA := Lib.hid (show A.size = 20 by rw [← hA]; exact arrD_size i hi)
  have IA := Lib.hid (infoD_arr A SA.out)
  have LA := Lib.hid (show (Try.prog.info? 32).map (·.size) = some A.toList.length by rw [Array.length_toList]; exact infoD_arr A SA.out)
  have b1 := (Below.refl w.heap.size w).alloc (Nat.le_refl _) (.cells A 32)
  have X1 := Lib.hid (heap_alloc_new w (.cells A 32))
  obtain ⟨ga, gc, GE, hlk⟩ := h.look
  have LK := Lib.hid hlk
  have hcap := hlk.cap
  have CA := atR_is (hlk.below b1) (Nat.le_trans hL (by decide)) i hi
  rw [hA] at CA ⊢
  have B1 := Lib.hid b1
  have HG := Lib.hid h; have HSB := Lib.hid hSB; have HIL := Lib.hid hi; have HA := Lib.hid hA; have HLL := Lib.hid hL; have HR := Lib.hid hr; have HPN := Lib.hid hn; have HID := Lib.hid hid; have FEW := Lib.hid hfew
  have KEEP := Lib.hid (fun (w' : World) (hb : Below w.heap.size w w') => (And.intro ((h.below hb).mono (S' := fun j => S j ∨ (w.heap.size ≤ j ∧ j < w'.heap.size)) (fun k _ hk => .inl hk)) (Chg.of_below (S := S) hb)))
  obtain ⟨N, hN⟩ : ∃ N, L.length = N := ⟨_, rfl⟩
  have HN := Lib.hid hN
  have hN1 : N ≤ 1000 := by rw [← hN]; exact hL
  rw [hN] at hcap
  clear h hSB hi hA hL b1 hr hid hn hN hfew hlk
  have hkN : k < N := by rw [← HN.out]; exact (atG_some h1).1
  rw [atV_some h1] at CA
  have ANS := Lib.hid (addG_other LK.out.good h1 h2)
  have CA := Lib.hid CA
  have NE := Lib.hid (show decide (psOf L (plAt L k) = ps) = false from decide_eq_false h2)
  clear h1 h2
  go_enter Try.func11, Try.ntmps11
  go_wp2_with (first
    | (with_reducible refine wpList_load_all 32 (.tmp 4) rfl (by kernel_rfl) w.heap.size A 32 (0, 0) rfl X1.out _ Try.underlying32 rfl IA.out ?_)
    | fail)
  refine CA.out.mono ?_
  rintro e w2 ⟨rfl, hb⟩
  have B2 := Lib.hid (B1.out.trans (hb.mono B1.out.size))
  have X2 := Lib.hid ((hb.block _ (lt_of_heap X1.out)).trans X1.out)
  clear hb X1
  have d0 := (LK.out.below B2.out).cell
  obtain ⟨b, o, pa, pc, rfl, hbl, -, d1, hpr, hpc, -⟩ := (LK.out.below B2.out).node (k := k) (by rw [HN.out]; exact hkN)
  rw [HN.out] at d0
  obtain ⟨m, hmm⟩ : ∃ m, (plAt L k).length = m := ⟨_, rfl⟩
  have hm3 : m ≤ 1000 := by rw [← hmm]; exact FEW.out k
  rw [hmm] at d1
  have CP := PlainIds_is pa a m n pc c (psOf L (plAt L k)) ps w2 hpr (HR.out.keep B2.out) (by rw [psOf_len, hmm]) HPN.out (by omega) (psOf_each LK.out.good k) HID.out
  rw [NE.out] at CP
  have CP := Lib.hid CP
  have g1 : (k : Int) < (N : Int) := by omega
  clear hpr hmm
  go_wp2_with fail
  refine CP.out.mono ?_
  rintro e w3 ⟨rfl, hb⟩
  have B3 := Lib.hid (B2.out.trans (hb.mono B2.out.size))
  have X3 := Lib.hid ((hb.block _ (lt_of_heap X2.out)).trans X2.out)
  clear hb d0 d1
  obtain ⟨k1, k2⟩ := KEEP.out w3 B3.out
  have K1 := Lib.hid k1; have K2 := Lib.hid k2
  clear k1 k2
  go_wp2_with fail
  go_ret
  exact ⟨by rw [ANS.out]; rfl, by rw [ANS.out]; exact K1.out, K2.out⟩
set_option maxRecDepth 100000 in
set_option maxHeartbeats 16000000 in
theorem addR_same {S : Nat → Prop} {w : World} {q : Nat} {L : List Gn} (h : GraphR S w q L) (hSB : ∀ k, S k → k < w.heap.size) (i : List UInt8) (hi : i.length = 20) (a : Option Addr) (n c : Nat) (ps : List (List UInt8)) (hr : RowAt rowI w a ps) (hn : n = ps.length) (hm : n ≤ 1000000) (hcn : n ≤ c) (hid : ∀ i ∈ ps, i.length = 20) (hL : L.length ≤ 1000) (hfew : ∀ k, (plAt L k).length ≤ 1000)
    {k : Nat} (h1 : atG L i = some k) (h2 : psOf L (plAt L k) = ps) :
    Calls Try.prog 11 #[.pointer (some ⟨q, 0, none⟩), .agg (arrD i), .slice a n c] w fun e w' => e = .returned (.int .i64 (addG L i ps).1) ∧ GraphR (fun j => S j ∨ (w.heap.size ≤ j ∧ j < w'.heap.size)) w' q (addG L i ps).2 ∧ Chg S w w' := by
  obtain ⟨A, hA⟩ : ∃ A, arrD i = A := ⟨_, rfl⟩
  have SA := Lib.hid (show A.size = 20 by rw [← hA]; exact arrD_size i hi)
  have IA := Lib.hid (infoD_arr A SA.out)
  have LA := Lib.hid (show (Try.prog.info? 32).map (·.size) = some A.toList.length by rw [Array.length_toList]; exact infoD_arr A SA.out)
  have b1 := (Below.refl w.heap.size w).alloc (Nat.le_refl _) (.cells A 32)
  have X1 := Lib.hid (heap_alloc_new w (.cells A 32))
  obtain ⟨ga, gc, GE, hlk⟩ := h.look
  have LK := Lib.hid hlk
  have hcap := hlk.cap
  have CA := atR_is (hlk.below b1) (Nat.le_trans hL (by decide)) i hi
  rw [hA] at CA ⊢
  have B1 := Lib.hid b1
  have HG := Lib.hid h; have HSB := Lib.hid hSB; have HIL := Lib.hid hi; have HA := Lib.hid hA; have HLL := Lib.hid hL; have HR := Lib.hid hr; have HPN := Lib.hid hn; have HID := Lib.hid hid; have FEW := Lib.hid hfew
  have KEEP := Lib.hid (fun (w' : World) (hb : Below w.heap.size w w') => (And.intro ((h.below hb).mono (S' := fun j => S j ∨ (w.heap.size ≤ j ∧ j < w'.heap.size)) (fun k _ hk => .inl hk)) (Chg.of_below (S := S) hb)))
  obtain ⟨N, hN⟩ : ∃ N, L.length = N := ⟨_, rfl⟩
  have HN := Lib.hid hN
  have hN1 : N ≤ 1000 := by rw [← hN]; exact hL
  rw [hN] at hcap
  clear h hSB hi hA hL b1 hr hid hn hN hfew hlk
  have hkN : k < N := by rw [← HN.out]; exact (atG_some h1).1
  rw [atV_some h1] at CA
  obtain ⟨ans, all, nz⟩ := addG_same LK.out.good h1 h2
  have ANS := Lib.hid ans; have ALL := Lib.hid all
  have CA := Lib.hid CA
  have NE := Lib.hid (show decide (psOf L (plAt L k) = ps) = true from decide_eq_true h2)
  obtain ⟨z, hz0, hzs, hzv, hzb, hz1⟩ := zId_any
  have EQ := fun u => eql_arrD i idZ HIL.out rfl u
  rw [HA.out, ← hz0, show eqD i idZ = false from by
    cases e : eqD i idZ with
    | false => rfl
    | true => exact absurd ((eqD_iff i idZ).1 e) nz] at EQ
  have HZB := Lib.hid hzb
  clear h1 h2 ans all nz hz0 hzs hzv hz1 hzb
  go_enter Try.func11, Try.ntmps11
  go_wp2_with (first
    | (with_reducible refine wpList_load_all 32 (.tmp 4) rfl (by kernel_rfl) w.heap.size A 32 (0, 0) rfl X1.out _ Try.underlying32 rfl IA.out ?_)
    | fail)
  refine CA.out.mono ?_
  rintro e w2 ⟨rfl, hb⟩
  have B2 := Lib.hid (B1.out.trans (hb.mono B1.out.size))
  have X2 := Lib.hid ((hb.block _ (lt_of_heap X1.out)).trans X1.out)
  clear hb X1
  have d0 := (LK.out.below B2.out).cell
  obtain ⟨b, o, pa, pc, rfl, hbl, -, d1, hpr, hpc, -⟩ := (LK.out.below B2.out).node (k := k) (by rw [HN.out]; exact hkN)
  rw [HN.out] at d0
  obtain ⟨m, hmm⟩ : ∃ m, (plAt L k).length = m := ⟨_, rfl⟩
  have hm3 : m ≤ 1000 := by rw [← hmm]; exact FEW.out k
  rw [hmm] at d1
  have CP := PlainIds_is pa a m n pc c (psOf L (plAt L k)) ps w2 hpr (HR.out.keep B2.out) (by rw [psOf_len, hmm]) HPN.out (by omega) (psOf_each LK.out.good k) HID.out
  rw [NE.out] at CP
  have CP := Lib.hid CP
  have g1 : (k : Int) < (N : Int) := by omega
  clear hpr hmm
  go_wp2_with fail
  refine CP.out.mono ?_
  rintro e w3 ⟨rfl, hb⟩
  have B3 := Lib.hid (B2.out.trans (hb.mono B2.out.size))
  have X3 := Lib.hid ((hb.block _ (lt_of_heap X2.out)).trans X2.out)
  clear hb d0 d1
  go_wp2_with fail
  go_loopw [8] (fun v8 wr => ∃ t : Nat, t ≤ n ∧ v8 = .int .i64 t ∧ Below w.heap.size w wr ∧ wr.heap[w.heap.size]? = some (.cells A 32 (0, 0))) (fun v8 _ => n - (intOf v8).toNat)
  case atStart => exact ⟨0, Nat.zero_le _, rfl, B3.out, X3.out⟩
  case round =>
    clear B3 X3
    obtain ⟨t, ht, rfl, hbr, hxr⟩ := hrel
    have BR := Lib.hid hbr; have XR := Lib.hid hxr
    clear hbr hxr
    by_cases hlt : t < n
    · have htl : t < ps.length := by rw [← HPN.out]; exact hlt
      obtain ⟨pb, po, rfl, hpb⟩ := HR.out.some (by omega)
      have rp := HR.out.elem t htl
      obtain ⟨p, hp⟩ : ∃ p, ps[t] = p := ⟨_, rfl⟩
      have hpm : p ∈ ps := by rw [← hp]; exact List.getElem_mem _
      rw [hp] at rp
      have hp20 := HID.out p hpm
      have rp : w.rangeAt pb (po + t * 20) (cellsD p) := rp
      have RP := Lib.hid (show wr.rangeAt pb (po + t * 20) (cellsD p) from fun j v hv => (BR.out.cell (p := ⟨pb, po + t * 20 + j, none⟩) hpb).trans (rp j v hv))
      have LP := Lib.hid (show (Try.prog.info? 32).map (·.size) = some (cellsD p).length by rw [cellsD_len p hp20]; exact infoD_n)
      have ch := hasR_is (LK.out.below BR.out) (by rw [HN.out]; omega) p hp20
      obtain ⟨Z, hZ⟩ : ∃ Z, arrD p = Z := ⟨_, rfl⟩
      have EZ := Lib.hid (show (cellsD p).toArray = Z from hZ)
      rw [hZ] at ch
      rw [ALL.out p hpm] at ch
      have CH := Lib.hid ch
      clear rp hp hpm hp20 hZ ch
      generalize cellsD p = cp at *
      go_wp2_with (first
        | (with_reducible refine wpList_load_midD 32 (.tmp 36) rfl (by kernel_rfl) pb (po + t * 20) rfl cp _ RP.out Try.underlying32 rfl LP.out ?_; rw [EZ.out])
        | fail)
      refine CH.out.mono ?_
      rintro e w5 ⟨rfl, hb5⟩
      have B5 := Lib.hid (BR.out.trans (hb5.mono BR.out.size))
      have X5 := Lib.hid ((hb5.block _ (lt_of_heap XR.out)).trans XR.out)
      clear hb5
      go_wp2_with fail
      go_roundw
      case rel => exact ⟨t + 1, by omega, by go_num, B5.out, X5.out⟩
      case measure => first | (simp [intOf]; done) | (simp [intOf]; omega)

    · obtain rfl : t = n := by omega
      obtain ⟨k1, k2⟩ := KEEP.out wr BR.out
      have K1 := Lib.hid k1; have K2 := Lib.hid k2
      clear k1 k2
      go_wp2_with (first
        | (with_reducible refine wpList_load_all 32 (.tmp 4) rfl (by kernel_rfl) w.heap.size A 32 (0, 0) rfl XR.out _ Try.underlying32 rfl IA.out ?_)
        | (refine wpList_build_none rfl 32 rfl z HZB.out ?_)
        | fail)
      go_ret
      exact ⟨by rw [ANS.out]; rfl, by rw [ANS.out]; exact K1.out, K2.out⟩
set_option maxRecDepth 100000 in
set_option maxHeartbeats 16000000 in
theorem addR_lost {S : Nat → Prop} {w : World} {q : Nat} {L : List Gn} (h : GraphR S w q L) (hSB : ∀ k, S k → k < w.heap.size) (i : List UInt8) (hi : i.length = 20) (a : Option Addr) (n c : Nat) (ps : List (List UInt8)) (hr : RowAt rowI w a ps) (hn : n = ps.length) (hm : n ≤ 1000000) (hcn : n ≤ c) (hid : ∀ i ∈ ps, i.length = 20) (hL : L.length ≤ 1000) (hfew : ∀ k, (plAt L k).length ≤ 1000)
    (h1 : atG L i = none) (h2 : placesG L ps = none) :
    Calls Try.prog 11 #[.pointer (some ⟨q, 0, none⟩), .agg (arrD i), .slice a n c] w fun e w' => e = .returned (.int .i64 (addG L i ps).1) ∧ GraphR (fun j => S j ∨ (w.heap.size ≤ j ∧ j < w'.heap.size)) w' q (addG L i ps).2 ∧ Chg S w w' := by
  obtain ⟨A, hA⟩ : ∃ A, arrD i = A := ⟨_, rfl⟩
  have SA := Lib.hid (show A.size = 20 by rw [← hA]; exact arrD_size i hi)
  have IA := Lib.hid (infoD_arr A SA.out)
  have LA := Lib.hid (show (Try.prog.info? 32).map (·.size) = some A.toList.length by rw [Array.length_toList]; exact infoD_arr A SA.out)
  have b1 := (Below.refl w.heap.size w).alloc (Nat.le_refl _) (.cells A 32)
  have X1 := Lib.hid (heap_alloc_new w (.cells A 32))
  obtain ⟨ga, gc, GE, hlk⟩ := h.look
  have LK := Lib.hid hlk
  have hcap := hlk.cap
  have CA := atR_is (hlk.below b1) (Nat.le_trans hL (by decide)) i hi
  rw [hA] at CA ⊢
  have B1 := Lib.hid b1
  have HG := Lib.hid h; have HSB := Lib.hid hSB; have HIL := Lib.hid hi; have HA := Lib.hid hA; have HLL := Lib.hid hL; have HR := Lib.hid hr; have HPN := Lib.hid hn; have HID := Lib.hid hid; have FEW := Lib.hid hfew
  have KEEP := Lib.hid (fun (w' : World) (hb : Below w.heap.size w w') => (And.intro ((h.below hb).mono (S' := fun j => S j ∨ (w.heap.size ≤ j ∧ j < w'.heap.size)) (fun k _ hk => .inl hk)) (Chg.of_below (S := S) hb)))
  obtain ⟨N, hN⟩ : ∃ N, L.length = N := ⟨_, rfl⟩
  have HN := Lib.hid hN
  have hN1 : N ≤ 1000 := by rw [← hN]; exact hL
  rw [hN] at hcap
  clear h hSB hi hA hL b1 hr hid hn hN hfew hlk
  rw [atV_none h1] at CA
  have ANS := Lib.hid (addG_lost h1 h2)
  have CA := Lib.hid CA
  obtain ⟨p0, hp0, hp1⟩ := placesG_none.1 h2
  obtain ⟨t0, ht0, hp2⟩ := List.getElem_of_mem hp0
  have T0 := Lib.hid (show ∃ h : t0 < ps.length, (atG L ps[t0]).isSome = false from ⟨ht0, by rw [hp2, hp1]; rfl⟩)
  clear h1 h2 hp0 hp1 hp2 ht0
  go_enter Try.func11, Try.ntmps11
  go_wp2_with (first
    | (with_reducible refine wpList_load_all 32 (.tmp 4) rfl (by kernel_rfl) w.heap.size A 32 (0, 0) rfl X1.out _ Try.underlying32 rfl IA.out ?_)
    | fail)
  refine CA.out.mono ?_
  rintro e w2 ⟨rfl, hb⟩
  have B2 := Lib.hid (B1.out.trans (hb.mono B1.out.size))
  have X2 := Lib.hid ((hb.block _ (lt_of_heap X1.out)).trans X1.out)
  clear hb X1
  go_wp2_with fail
  go_loopw [8] (fun v8 wr => ∃ t : Nat, t ≤ n ∧ v8 = .int .i64 t ∧ (∀ j (hj : j < ps.length), j < t → (atG L ps[j]).isSome = true) ∧ Below w.heap.size w wr) (fun v8 _ => n - (intOf v8).toNat)
  case atStart => exact ⟨0, Nat.zero_le _, rfl, fun j _ h => absurd h (Nat.not_lt_zero _), B2.out⟩
  case round =>
    clear B2 X2
    obtain ⟨t, ht, rfl, hno, hbr⟩ := hrel
    have BR := Lib.hid hbr; have HNO := Lib.hid hno
    clear hbr hno
    by_cases hlt : t < n
    · have htl : t < ps.length := by rw [← HPN.out]; exact hlt
      obtain ⟨pb, po, rfl, hpb⟩ := HR.out.some (by omega)
      have rp := HR.out.elem t htl
      obtain ⟨p, hp⟩ : ∃ p, ps[t] = p := ⟨_, rfl⟩
      have hpm : p ∈ ps := by rw [← hp]; exact List.getElem_mem _
      rw [hp] at rp
      have hp20 := HID.out p hpm
      have rp : w.rangeAt pb (po + t * 20) (cellsD p) := rp
      have RP := Lib.hid (show wr.rangeAt pb (po + t * 20) (cellsD p) from fun j v hv => (BR.out.cell (p := ⟨pb, po + t * 20 + j, none⟩) hpb).trans (rp j v hv))
      have LP := Lib.hid (show (Try.prog.info? 32).map (·.size) = some (cellsD p).length by rw [cellsD_len p hp20]; exact infoD_n)
      have ch := hasR_is (LK.out.below BR.out) (by rw [HN.out]; omega) p hp20
      obtain ⟨Z, hZ⟩ : ∃ Z, arrD p = Z := ⟨_, rfl⟩
      have EZ := Lib.hid (show (cellsD p).toArray = Z from hZ)
      rw [hZ] at ch
      obtain ⟨hs, hhs⟩ : ∃ b, (atG L p).isSome = b := ⟨_, rfl⟩
      have NX := Lib.hid (fun (e : hs = true) (j : Nat) (hj : j < ps.length) (hjt : j < t + 1) => (show (atG L ps[j]).isSome = true from if h : j < t then HNO.out j hj h else by
        obtain rfl : j = t := by omega
        rw [hp, hhs]; exact e))
      rw [hhs] at ch
      have CH := Lib.hid ch
      clear rp hp hpm hp20 hZ ch hhs
      generalize cellsD p = cp at *
      cases hs with
      | true =>
        have NX2 := Lib.hid (show ∀ j (hj : j < ps.length), j < t + 1 → (atG L ps[j]).isSome = true by first | exact NX.out trivial | exact NX.out rfl)
        clear NX
        go_wp2_with (first
          | (with_reducible refine wpList_load_midD 32 (.tmp 36) rfl (by kernel_rfl) pb (po + t * 20) rfl cp _ RP.out Try.underlying32 rfl LP.out ?_; rw [EZ.out])
          | fail)
        refine CH.out.mono ?_
        rintro e w5 ⟨rfl, hb5⟩
        have B5 := Lib.hid (BR.out.trans (hb5.mono BR.out.size))
        clear hb5
        go_wp2_with fail
        go_roundw
        case rel => exact ⟨t + 1, by omega, by go_num, NX2.out, B5.out⟩
        case measure => first | (simp [intOf]; done) | (simp [intOf]; omega)
      | false =>
        go_wp2_with (first
          | (with_reducible refine wpList_load_midD 32 (.tmp 36) rfl (by kernel_rfl) pb (po + t * 20) rfl cp _ RP.out Try.underlying32 rfl LP.out ?_; rw [EZ.out])
          | fail)
        refine CH.out.mono ?_
        rintro e w5 ⟨rfl, hb5⟩
        have B5 := Lib.hid (BR.out.trans (hb5.mono BR.out.size))
        clear hb5
        obtain ⟨k1, k2⟩ := KEEP.out w5 B5.out
        have K1 := Lib.hid k1; have K2 := Lib.hid k2
        clear k1 k2
        go_wp2_with fail
        go_ret
        exact ⟨by rw [ANS.out]; rfl, by rw [ANS.out]; exact K1.out, K2.out⟩
    · exfalso
      obtain ⟨h1, h2⟩ := T0.out
      have := HNO.out t0 h1 (by have := HPN.out; omega)
      rw [h2] at this
      cases this
end Go.Proofs.Ytajmgjhknmkfpaa
namespace Go.Proofs.Ytajmgjhknmkfpaa
set_option maxRecDepth 20000
open Go.RowKit Go.Maps
set_option linter.unusedVariables false
set_option linter.unusedSimpArgs false

theorem okN_snoc {E : List Enn} {e : Enn} (h : ∀ x ∈ E, okN x) (he : okN e) : ∀ x ∈ E ++ [e], okN x := by
  intro x hx
  rcases List.mem_append.1 hx with hx | hx
  · exact h x hx
  · rw [List.mem_singleton.1 hx]; exact he
theorem yields_build2 {P : Program} {ops : Array Oper} {S : World → Prop} {o : Oper} {a : Act} (hw : Region.wanted o (yielded ops a.tmps) = true) (t : TypeId) (x y : Operand) (ho : o.op = .build t #[(0, x), (1, y)]) (u v : Value) (hx : a.eval x = u) (hy : a.eval y = v)
    (cells : Array Value) (hb : P.built t [(0, u), (1, v)] = some cells) : YieldsIf P ops S o (.agg cells) a :=
  .inl ⟨hw, fun w _ => by
    subst hx; subst hy
    have hp : P.built t ((#[(0, x), (1, y)] : Array (Nat × Operand)).map fun (i, x) => (i, a.eval x)).toList = some cells := by simpa using hb
    unfold execOp
    simp only [ho, Sem.run_bind, run_build w t _ cells hp, Result.andThen_ok, Sem.run_pure]⟩
theorem built_nodeR20 (b0 b1 b2 b3 b4 b5 b6 b7 b8 b9 b10 b11 b12 b13 b14 b15 b16 b17 b18 b19 : UInt8) (a : Option Addr) (n c : Nat) :
    Try.prog.built 68 [(0, .agg (arrD [b0, b1, b2, b3, b4, b5, b6, b7, b8, b9, b10, b11, b12, b13, b14, b15, b16, b17, b18, b19])), (1, .slice a n c)] = some (cellsD [b0, b1, b2, b3, b4, b5, b6, b7, b8, b9, b10, b11, b12, b13, b14, b15, b16, b17, b18, b19] ++ [Value.slice a n c]).toArray := by kernel_rfl
theorem built_nodeR (i : List UInt8) (hi : i.length = 20) (a : Option Addr) (n c : Nat) : Try.prog.built 68 [(0, .agg (arrD i)), (1, .slice a n c)] = some (cellsD i ++ [Value.slice a n c]).toArray := by
  match i, hi with
  | [b0, b1, b2, b3, b4, b5, b6, b7, b8, b9, b10, b11, b12, b13, b14, b15, b16, b17, b18, b19], _ => exact built_nodeR20 b0 b1 b2 b3 b4 b5 b6 b7 b8 b9 b10 b11 b12 b13 b14 b15 b16 b17 b18 b19 a n c
set_option maxRecDepth 100000 in
set_option maxHeartbeats 16000000 in
theorem addR_new {S : Nat → Prop} {w : World} {q : Nat} {L : List Gn} (h : GraphR S w q L) (hSB : ∀ k, S k → k < w.heap.size) (i : List UInt8) (hi : i.length = 20) (a : Option Addr) (n c : Nat) (ps : List (List UInt8)) (hr : RowAt rowI w a ps) (hn : n = ps.length) (hm : n ≤ 1000000) (hcn : n ≤ c) (hid : ∀ i ∈ ps, i.length = 20) (hL : L.length ≤ 1000) (hfew : ∀ k, (plAt L k).length ≤ 1000)
    (h1 : atG L i = none) {l : List Nat} (h2 : placesG L ps = some l) :
    Calls Try.prog 11 #[.pointer (some ⟨q, 0, none⟩), .agg (arrD i), .slice a n c] w fun e w' => e = .returned (.int .i64 (addG L i ps).1) ∧ GraphR (fun j => S j ∨ (w.heap.size ≤ j ∧ j < w'.heap.size)) w' q (addG L i ps).2 ∧ Chg S w w' := by
  obtain ⟨A, hA⟩ : ∃ A, arrD i = A := ⟨_, rfl⟩
  have SA := Lib.hid (show A.size = 20 by rw [← hA]; exact arrD_size i hi)
  have IA := Lib.hid (infoD_arr A SA.out)
  have LA := Lib.hid (show (Try.prog.info? 32).map (·.size) = some A.toList.length by rw [Array.length_toList]; exact infoD_arr A SA.out)
  have b1 := (Below.refl w.heap.size w).alloc (Nat.le_refl _) (.cells A 32)
  have X1 := Lib.hid (heap_alloc_new w (.cells A 32))
  obtain ⟨ga, gc, GE, hlk⟩ := h.look
  have LK := Lib.hid hlk
  have hcap := hlk.cap
  have CA := atR_is (hlk.below b1) (Nat.le_trans hL (by decide)) i hi
  rw [hA] at CA ⊢
  have B1 := Lib.hid b1
  have HG := Lib.hid h; have HSB := Lib.hid hSB; have HIL := Lib.hid hi; have HA := Lib.hid hA; have HLL := Lib.hid hL; have HR := Lib.hid hr; have HPN := Lib.hid hn; have HID := Lib.hid hid; have FEW := Lib.hid hfew
  have KEEP := Lib.hid (fun (w' : World) (hb : Below w.heap.size w w') => (And.intro ((h.below hb).mono (S' := fun j => S j ∨ (w.heap.size ≤ j ∧ j < w'.heap.size)) (fun k _ hk => .inl hk)) (Chg.of_below (S := S) hb)))
  obtain ⟨N, hN⟩ : ∃ N, L.length = N := ⟨_, rfl⟩
  have HN := Lib.hid hN
  have hN1 : N ≤ 1000 := by rw [← hN]; exact hL
  rw [hN] at hcap
  clear h hSB hi hA hL b1 hr hid hn hN hfew hlk
  rw [atV_none h1] at CA
  have ALL := Lib.hid (places_has h2)
  have CA := Lib.hid CA
  have H1 := Lib.hid h1; have H2 := Lib.hid h2
  obtain ⟨z, hz0, hzs, hzv, hzb, hz1⟩ := zId_any
  have EQ := fun u => eql_arrD i idZ HIL.out rfl u
  rw [HA.out, ← hz0] at EQ
  have HZB := Lib.hid hzb
  obtain ⟨r, hrr⟩ : ∃ r, eqD i idZ = r := ⟨_, rfl⟩
  rw [hrr] at EQ
  have HRR := Lib.hid hrr
  clear h1 h2 hrr hz0 hzs hzv hz1 hzb
  go_enter Try.func11, Try.ntmps11
  go_wp2_with (first
    | (with_reducible refine wpList_load_all 32 (.tmp 4) rfl (by kernel_rfl) w.heap.size A 32 (0, 0) rfl X1.out _ Try.underlying32 rfl IA.out ?_)
    | fail)
  refine CA.out.mono ?_
  rintro e w2 ⟨rfl, hb⟩
  have B2 := Lib.hid (B1.out.trans (hb.mono B1.out.size))
  have X2 := Lib.hid ((hb.block _ (lt_of_heap X1.out)).trans X1.out)
  clear hb X1
  go_wp2_with fail
  go_loopw [8] (fun v8 wr => ∃ t : Nat, t ≤ n ∧ v8 = .int .i64 t ∧ Below w.heap.size w wr ∧ wr.heap[w.heap.size]? = some (.cells A 32 (0, 0))) (fun v8 _ => n - (intOf v8).toNat)
  case atStart => exact ⟨0, Nat.zero_le _, rfl, B2.out, X2.out⟩
  case round =>
    clear B2 X2
    obtain ⟨t, ht, rfl, hbr, hxr⟩ := hrel
    have BR := Lib.hid hbr; have XR := Lib.hid hxr
    clear hbr hxr
    by_cases hlt : t < n
    · have htl : t < ps.length := by rw [← HPN.out]; exact hlt
      obtain ⟨pb, po, rfl, hpb⟩ := HR.out.some (by omega)
      have rp := HR.out.elem t htl
      obtain ⟨p, hp⟩ : ∃ p, ps[t] = p := ⟨_, rfl⟩
      have hpm : p ∈ ps := by rw [← hp]; exact List.getElem_mem _
      rw [hp] at rp
      have hp20 := HID.out p hpm
      have rp : w.rangeAt pb (po + t * 20) (cellsD p) := rp
      have RP := Lib.hid (show wr.rangeAt pb (po + t * 20) (cellsD p) from fun j v hv => (BR.out.cell (p := ⟨pb, po + t * 20 + j, none⟩) hpb).trans (rp j v hv))
      have LP := Lib.hid (show (Try.prog.info? 32).map (·.size) = some (cellsD p).length by rw [cellsD_len p hp20]; exact infoD_n)
      have ch := hasR_is (LK.out.below BR.out) (by rw [HN.out]; omega) p hp20
      obtain ⟨Z, hZ⟩ : ∃ Z, arrD p = Z := ⟨_, rfl⟩
      have EZ := Lib.hid (show (cellsD p).toArray = Z from hZ)
      rw [hZ] at ch
      rw [ALL.out p hpm] at ch
      have CH := Lib.hid ch
      clear rp hp hpm hp20 hZ ch
      generalize cellsD p = cp at *
      go_wp2_with (first
        | (with_reducible refine wpList_load_midD 32 (.tmp 36) rfl (by kernel_rfl) pb (po + t * 20) rfl cp _ RP.out Try.underlying32 rfl LP.out ?_; rw [EZ.out])
        | fail)
      refine CH.out.mono ?_
      rintro e w5 ⟨rfl, hb5⟩
      have B5 := Lib.hid (BR.out.trans (hb5.mono BR.out.size))
      have X5 := Lib.hid ((hb5.block _ (lt_of_heap XR.out)).trans XR.out)
      clear hb5
      go_wp2_with fail
      go_roundw
      case rel => exact ⟨t + 1, by omega, by go_num, B5.out, X5.out⟩
      case measure => first | (simp [intOf]; done) | (simp [intOf]; omega)

    · obtain rfl : t = n := by omega
      cases r with
      | true =>
        have ANS := Lib.hid (show addG L i ps = (1, L) by
          unfold addG
          rw [H1.out, H2.out]
          simp only
          rw [if_pos (show i = zeroG from (eqD_iff i idZ).1 HRR.out)])
        obtain ⟨k1, k2⟩ := KEEP.out wr BR.out
        have K1 := Lib.hid k1; have K2 := Lib.hid k2
        clear k1 k2
        go_wp2_with (first
          | (with_reducible refine wpList_load_all 32 (.tmp 4) rfl (by kernel_rfl) w.heap.size A 32 (0, 0) rfl XR.out _ Try.underlying32 rfl IA.out ?_)
          | (refine wpList_build_none rfl 32 rfl z HZB.out ?_)
          | fail)
        go_ret
        exact ⟨by rw [ANS.out]; rfl, by rw [ANS.out]; exact K1.out, K2.out⟩
      | false =>
        have hne : i ≠ zeroG := fun e => by
          have hrr := HRR.out
          rw [(eqD_iff i idZ).2 e] at hrr
          cases hrr
        have ANS := Lib.hid (show addG L i ps = (0, L ++ [⟨i, l⟩]) by
          unfold addG
          rw [H1.out, H2.out]
          simp only
          rw [if_neg hne, if_neg (by have := HLL.out; omega)])
        have GG := Lib.hid (goodG_put HG.out.2.1 HIL.out hne H1.out (placesG_len H2.out).2)
        obtain ⟨hg, hG0, E, v, hin⟩ := HG.out.below BR.out
        have INR := Lib.hid hin; have HGQ := Lib.hid hg
        obtain ⟨av, vc, hvv, hvc, hvm, -, -, -⟩ := ownR_shape goodQ hin.own (fun x hx => (hin.red x hx).1)
        have hEN : E.length = N := by rw [← HN.out, ← hin.ens, List.length_map]
        rw [hEN] at hvv hvc
        subst hvv
        have VLT := Lib.hid (fun k (hk : (Value.slice av N vc).ownBlock = some k) => HSB.out k (hin.ownS k hk).1)
        have LG := Lib.hid (fun u (hu : Chg (fun k => (Value.slice av N vc).ownBlock = some k) wr u) => (show u.cell? ⟨q, 0, none⟩ = some (.slice av N vc) by
          rw [Lib.cell_of_heap ((hu.block q (lt_of_heap INR.out.blk) (fun e => (INR.out.ownS q e).2 rfl)).trans INR.out.blk)]
          rfl))
        have RA := Lib.hid (fun u (hu : Chg (fun k => (Value.slice av N vc).ownBlock = some k) wr u) => (show u.rangeAt w.heap.size 0 A.toList from row_arrD ((hu.block w.heap.size (lt_of_heap XR.out) (fun e => Nat.lt_irrefl _ (VLT.out _ e))).trans XR.out)))
        have c0 := LG.out wr (Chg.refl _ _)
        have HEN := Lib.hid hEN
        have g1 : ¬ (N : Int) ≥ 5000 := by omega
        have g1b : (decide ((N : Int) ≥ 5000)) = false := decide_eq_false g1
        clear hg hG0 hin hne hvm hEN
        go_wp2_with (first
          | (with_reducible refine wpList_load_all 32 (.tmp 4) rfl (by kernel_rfl) w.heap.size A 32 (0, 0) rfl XR.out _ Try.underlying32 rfl IA.out ?_)
          | (refine wpList_build_none rfl 32 rfl z HZB.out ?_)
          | fail)
        refine wp_regionX (S := fun u => Chg (fun k => (Value.slice av N vc).ownBlock = some k) wr u) (fun j => j == 11 || j == 12 || j == 13) (by kernel_rfl) (Chg.refl _ _).drew (fun hHeld => ?_)
        have BD := Lib.hid ((Below.refl wr.heap.size wr).drew)
        have ROWP := Lib.hid (HR.out.keep (BR.out.trans (BD.out.mono BR.out.size)))
        refine tkXW 0 rfl hHeld ?_
        refine tkXW 1 rfl hHeld ?_
        refine tkXW 2 rfl hHeld ?_
        refine tkXW 3 rfl hHeld ?_
        refine tkXV 4 rfl (.slice av N vc) (fun u hu => by have q := LG.out u hu; go_simp) hHeld ?_
        refine tkX 5 rfl (yieldsIf_load_mid (by kernel_rfl) 32 (.tmp 4) (by kernel_rfl) w.heap.size 0 (by kernel_rfl) A.toList _ (fun u hu => RA.out u hu) Try.underlying32 rfl LA.out) hHeld ?_
        refine tkXW 6 rfl hHeld ?_
        refine rdX 7 rfl (fun K hK => ?_)
        refine stepW rfl (wp_append_atR goodI (.const (.slice none 0 0)) (.tmp 57) rfl wr.heap.size (.slice none 0 0) [] ps a t c rfl (by kernel_rfl) HPN.out ROWP.out HID.out (fun x hx => (by cases hx)) (ownR_nil _ _) (by have := HPN.out; simp only [List.length_nil]; omega) BD.out.size (fun v7 u7 ho7 hg7 hat7 => ?_))
        have hH7 := hHeld.grown hg7 (fun k hk _ => (by cases hk))
        refine hK.out _ _ (.inl hH7) (fun _ => ?_)
        clear hK K hHeld
        have hHeld := hH7
        rw [List.nil_append] at ho7
        have B7 := Lib.hid (BD.out.grown hg7 (Nat.le_refl _) (fun k hk => (by cases hk)))
        obtain ⟨pa, pc, hv7, -⟩ := ownR_shape goodI ho7 HID.out
        have red7 := (ownR_red goodI ho7 HID.out).mono (S' := fun k => wr.heap.size ≤ k) (fun k _ hk => (ownR_lt ho7 k hk).1)
        rw [← HPN.out] at hv7
        subst hv7
        obtain ⟨e9, he9⟩ : ∃ e : Enn, (⟨⟨i, l⟩, .slice pa t pc⟩ : Enn) = e := ⟨_, rfl⟩
        have HE1 := Lib.hid (show e9.n = ⟨i, l⟩ by rw [← he9])
        have OK9 := Lib.hid (show okN e9 by rw [← he9]; exact ⟨HIL.out, _, _, _, rfl⟩)
        have RED7 := Lib.hid (show RedR rowI (fun k => wr.heap.size ≤ k) u7 e9.v ps by rw [← he9]; exact red7)
        have BN := built_nodeR i HIL.out pa t pc
        rw [HA.out] at BN
        obtain ⟨NC, hNC⟩ : ∃ NC, (cellsD i ++ [Value.slice pa t pc]).toArray = NC := ⟨_, rfl⟩
        rw [hNC] at BN
        have BN := Lib.hid BN
        have HNC := Lib.hid (show (rowQ.cl e9).toArray = NC by rw [← he9]; exact hNC)
        have SNC := Lib.hid (show NC.size = rowQ.size by rw [← hNC]; simp [cellsD_len i HIL.out]; rfl)
        clear hNC ho7 hg7 hat7 hH7 he9 red7
        refine tkX 8 rfl (yields_build2 (by kernel_rfl) 68 (.tmp 56) (.tmp 58) rfl (.agg A) (.slice pa t pc) (by kernel_rfl) (by kernel_rfl) NC BN.out) hHeld ?_
        have b9 := (Below.refl u7.heap.size u7).alloc (Nat.le_refl _) (.cells NC 68)
        have hH9 := hHeld.alloc (.cells NC 68)
        have hx9 := heap_alloc_new u7 (.cells NC 68)
        obtain ⟨u9, hu9⟩ : ∃ u9, u7.alloc (.cells NC 68) = u9 := ⟨_, rfl⟩
        rw [hu9] at b9 hH9 hx9
        have HU9 := Lib.hid hu9
        have B9 := Lib.hid (B7.out.trans (b9.mono B7.out.size))
        have ROW9 := Lib.hid (rowR_one (x := e9) goodQ (hx9.trans (by rw [HNC.out])))
        have OWN9 := Lib.hid (ownR_below INR.out.own B9.out)
        have RED9 := Lib.hid (RED7.out.below b9)
        have hokf : ∀ x ∈ E ++ [e9], okN x := okN_snoc (fun x hx => (INR.out.red x hx).1) OK9.out
        have HOKF := Lib.hid hokf
        clear b9 hx9 hu9 hokf
        refine rdX 9 rfl (fun K hK => ?_)
        refine stepW rfl (wp_build_oneR goodQ (.tmp 59) rfl NC SNC.out (by kernel_rfl) ?_)
        rw [show (u7.alloc (.cells NC rowQ.ty)) = u9 from HU9.out]
        refine hK.out _ _ (.inl hH9) (fun _ => ?_)
        clear hK K hHeld
        have hHeld := hH9
        refine rdX 10 rfl (fun K hK => ?_)
        refine stepW rfl (wp_append_atR goodQ (.tmp 55) (.tmp 60) rfl 0 (.slice av N vc) E [e9] (some ⟨u7.heap.size, 0, none⟩) 1 1 (by kernel_rfl) (by kernel_rfl) rfl ROW9.out (fun x hx => by rw [List.mem_singleton.1 hx]; exact OK9.out) (fun x hx => (INR.out.red x hx).1) OWN9.out (by rw [HEN.out]; simp only [List.length_cons, List.length_nil]; omega) (Nat.zero_le _) (fun v' u10 ho10 hg10 hat10 => ?_))
        have hH10 := hHeld.grown hg10 (fun k hk _ => hk)
        obtain ⟨a4, c4, hv4⟩ : ∃ a c, v' = .slice a (E ++ [e9]).length c := ⟨_, _, (ownR_shape goodQ ho10 HOKF.out).choose_spec.choose_spec.1⟩
        generalize (E ++ [e9]).length = n4 at hv4
        subst hv4
        refine hK.out _ _ (.inl hH10) (fun _ => ?_)
        clear hK K
        refine tkXP 11 rfl ?_
        refine tkXP 12 rfl ?_
        have FIN := Lib.hid (INR.out.put HGQ.out HG.out.2.1 e9 OK9.out (by rw [HE1.out]; exact (placesG_len H2.out).2) B9.out (by rw [HE1.out, placesG_back H2.out]; exact RED9.out) hg10 ho10 hat10)
        have q0 := LG.out _ hH10
        have q1 := not_frozen ((hH10.block q (lt_of_heap INR.out.blk) (fun e => (INR.out.ownS q e).2 rfl)).trans INR.out.blk) 0
        have S10 := Lib.hid hH10.size
        clear ho10 hg10 hat10 hH10 hH9 hHeld
        refine rdX 13 rfl (fun K hK => ?_)
        go_simp
        refine hK.out _ _ (.inr rfl) (fun _ => ?_)
        clear hK K
        try simp only [Act.put, List.getElem_toArray, List.getElem_cons_succ, List.getElem_cons_zero, lsA, lsZ, lsS]
        refine wpAnyX_done (by kernel_rfl) ?_ _
        clear q0 q1
        have fin := FIN.out
        rw [HE1.out] at fin
        have FIN := Lib.hid fin
        clear fin
        have FINAL := Lib.hid (show GraphR (fun j => S j ∨ (w.heap.size ≤ j ∧ j < (u10.setCell ⟨q, 0, none⟩ (.slice a4 n4 c4)).heap.size)) (u10.setCell ⟨q, 0, none⟩ (.slice a4 n4 c4)) q (L ++ [⟨i, l⟩]) ∧ Chg S w (u10.setCell ⟨q, 0, none⟩ (.slice a4 n4 c4)) by
          refine ⟨⟨.inl HGQ.out, GG.out, _, _, FIN.out.1.mono (fun k hk h => ?_)⟩, ((Chg.of_below (S := S) BR.out).more FIN.out.2 (fun k hk h => ?_))⟩
          · rcases h with h | h
            · exact .inl h
            · refine .inr ⟨Nat.le_trans BR.out.size h.1, hk⟩
          · rcases h with h | h
            · exact (INR.out.ownS k h).1
            · rw [h]; exact HGQ.out)
        clear FIN
        go_wp2_with fail
        go_ret
        exact ⟨by rw [ANS.out]; rfl, by rw [ANS.out]; exact FINAL.out.1, FINAL.out.2⟩
theorem addR_is {S : Nat → Prop} {w : World} {q : Nat} {L : List Gn} (h : GraphR S w q L) (hSB : ∀ k, S k → k < w.heap.size) (i : List UInt8) (hi : i.length = 20) (a : Option Addr) (n c : Nat) (ps : List (List UInt8)) (hr : RowAt rowI w a ps) (hn : n = ps.length) (hm : n ≤ 1000000) (hcn : n ≤ c) (hid : ∀ i ∈ ps, i.length = 20) (hL : L.length ≤ 1000) (hfew : ∀ k, (plAt L k).length ≤ 1000) :
    Calls Try.prog 11 #[.pointer (some ⟨q, 0, none⟩), .agg (arrD i), .slice a n c] w fun e w' => e = .returned (.int .i64 (addG L i ps).1) ∧ GraphR (fun j => S j ∨ (w.heap.size ≤ j ∧ j < w'.heap.size)) w' q (addG L i ps).2 ∧ Chg S w w' := by
  cases h1 : atG L i with
  | none =>
    cases h2 : placesG L ps with
    | none => exact addR_lost h hSB i hi a n c ps hr hn hm hcn hid hL hfew h1 h2
    | some l => exact addR_new h hSB i hi a n c ps hr hn hm hcn hid hL hfew h1 h2
  | some k =>
    by_cases h2 : psOf L (plAt L k) = ps
    · exact addR_same h hSB i hi a n c ps hr hn hm hcn hid hL hfew h1 h2
    · exact addR_twice h hSB i hi a n c ps hr hn hm hcn hid hL hfew h1 h2
end Go.Proofs.Ytajmgjhknmkfpaa
namespace Go.Proofs.Ytajmgjhknmkfpaa
set_option maxRecDepth 20000
open Go.RowKit
set_option linter.unusedVariables false
set_option linter.unusedSimpArgs false

theorem GraphR.new (S : Nat → Prop) (w : World) (hS : S w.heap.size) : GraphR S (w.alloc (.cells #[.slice none 0 0] 29)) w.heap.size [] :=
  ⟨hS, goodG_nil, [], .slice none 0 0, rfl, heap_alloc_new w _, ownR_nil _ _, (fun b hb => by cases hb), (fun e he => by cases he)⟩
/-- Both graphs, apart, in blocks that are new since w. -/
structure BothG (w u : World) (g q : Nat) (Lp Lr : List Gn) (Sg Sq : Nat → Prop) : Prop where
  p : GraphP Sg u g Lp
  r : GraphR Sq u q Lr
  bel : Below w.heap.size w u
  pin : ∀ k, Sg k → w.heap.size ≤ k ∧ k < u.heap.size
  rin : ∀ k, Sq k → w.heap.size ≤ k ∧ k < u.heap.size
  apart : ∀ k, Sg k → ¬ Sq k
theorem BothG.keep {w u u' : World} {g q : Nat} {Lp Lr : List Gn} {Sg Sq : Nat → Prop} (h : BothG w u g q Lp Lr Sg Sq) (hb : Below u.heap.size u u') : BothG w u' g q Lp Lr Sg Sq :=
  ⟨h.p.below hb, h.r.below hb, h.bel.trans (hb.mono h.bel.size), fun k hk => ⟨(h.pin k hk).1, Nat.lt_of_lt_of_le (h.pin k hk).2 hb.size⟩, fun k hk => ⟨(h.rin k hk).1, Nat.lt_of_lt_of_le (h.rin k hk).2 hb.size⟩, h.apart⟩
theorem BothG.addP {w u u' : World} {g q : Nat} {Lp Lr Lp' : List Gn} {Sg Sq : Nat → Prop} (h : BothG w u g q Lp Lr Sg Sq) (hp : GraphP (fun j => Sg j ∨ (u.heap.size ≤ j ∧ j < u'.heap.size)) u' g Lp') (hc : Chg Sg u u') :
    BothG w u' g q Lp' Lr (fun j => Sg j ∨ (u.heap.size ≤ j ∧ j < u'.heap.size)) Sq where
  p := hp
  r := h.r.keep ⟨hc.size, fun k hk hl => hc.block k hl (fun hs => h.apart k hs hk)⟩
  bel := h.bel.trans (hc.below h.bel.size (fun k _ hk => (h.pin k hk).1))
  pin := fun k hk => by
    have h1 := h.bel.size
    have h2 := hc.size
    rcases hk with hk | hk
    · have := h.pin k hk; omega
    · omega
  rin := fun k hk => ⟨(h.rin k hk).1, Nat.lt_of_lt_of_le (h.rin k hk).2 hc.size⟩
  apart := fun k hk hq => by
    have := h.rin k hq
    rcases hk with hk | hk
    · exact h.apart k hk hq
    · omega
theorem BothG.addR {w u u' : World} {g q : Nat} {Lp Lr Lr' : List Gn} {Sg Sq : Nat → Prop} (h : BothG w u g q Lp Lr Sg Sq) (hp : GraphR (fun j => Sq j ∨ (u.heap.size ≤ j ∧ j < u'.heap.size)) u' q Lr') (hc : Chg Sq u u') :
    BothG w u' g q Lp Lr' Sg (fun j => Sq j ∨ (u.heap.size ≤ j ∧ j < u'.heap.size)) where
  p := h.p.keep ⟨hc.size, fun k hk hl => hc.block k hl (fun hs => h.apart k hk hs)⟩
  r := hp
  bel := h.bel.trans (hc.below h.bel.size (fun k _ hk => (h.rin k hk).1))
  rin := fun k hk => by
    have h1 := h.bel.size
    have h2 := hc.size
    rcases hk with hk | hk
    · have := h.rin k hk; omega
    · omega
  pin := fun k hk => ⟨(h.pin k hk).1, Nat.lt_of_lt_of_le (h.pin k hk).2 hc.size⟩
  apart := fun k hk hq => by
    have := h.pin k hk
    rcases hq with hq | hq
    · exact h.apart k hk hq
    · omega
end Go.Proofs.Ytajmgjhknmkfpaa
namespace Go.Proofs.Ytajmgjhknmkfpaa
set_option maxRecDepth 20000
open Go.RowKit
set_option linter.unusedVariables false
set_option linter.unusedSimpArgs false

theorem plain_two {B1 B2 : Nat} {v1 v2 : Value} {l : List (List UInt8)} {u1 u2 : World} (h1 : OwnD B1 v1 l u1) (hb : Below u1.heap.size u1 u2) (h2 : OwnD B2 v2 l u2) (hid : ∀ i ∈ l, i.length = 20) (hm : l.length ≤ 1000000) :
    Calls Try.prog 15 #[v1, v2] u2 fun e w' => e = .returned (.bool true) ∧ Below u2.heap.size u2 w' := by
  obtain ⟨a1, c1, rfl, -, -, r1, -⟩ := ownD_ids h1 hid
  obtain ⟨a2, c2, rfl, -, -, r2, -⟩ := ownD_ids h2 hid
  exact PlainIds_any a1 a2 l.length c1 c2 l u2 (r1.keep hb) r2 rfl hm hid
def hvG (x : List UInt8) : Bool := (((x.headD 0).toNat : Int) % 2 == 0)
set_option maxHeartbeats 4000000 in
theorem haveP_is (u : World) (x : List UInt8) (hx : x.length = 20) :
    Calls Try.prog 25 #[.agg (arrD x)] u fun e u' => e = .returned (.bool (hvG x)) ∧ Below u.heap.size u u' := by
  obtain ⟨y, r, rfl⟩ : ∃ y r, x = y :: r := by
    cases x with
    | nil => cases hx
    | cons y r => exact ⟨y, r, rfl⟩
  have hc : (arrD (y :: r))[0]? = some (.int .u8 (y.toNat : Int)) := rfl
  have hy : (y.toNat : Int) ≤ 255 := by have := UInt8.toNat_lt y; omega
  obtain ⟨A, hA⟩ : ∃ A, arrD (y :: r) = A := ⟨_, rfl⟩
  have HS := Lib.hid (show A.size = 20 by rw [← hA]; exact arrD_size _ hx)
  rw [hA] at hc ⊢
  have c0 : (u.alloc (.cells A 32)).cell? ⟨u.heap.size, 0, none⟩ = some (.int .u8 (y.toNat : Int)) := by
    rw [Lib.cell_of_heap (heap_alloc_new u _)]
    exact hc
  have B1 := Lib.hid ((Below.refl u.heap.size u).alloc (Nat.le_refl _) (.cells A 32))
  unfold hvG
  rw [List.headD_cons]
  obtain ⟨z, hz⟩ : ∃ z : Nat, y.toNat = z := ⟨_, rfl⟩
  rw [hz] at c0 hy ⊢
  clear hA hc hx hz
  go_enter Try.func25, Try.ntmps25
  go_wp2
  go_ret
  exact ⟨rfl, B1.out⟩
end Go.Proofs.Ytajmgjhknmkfpaa
