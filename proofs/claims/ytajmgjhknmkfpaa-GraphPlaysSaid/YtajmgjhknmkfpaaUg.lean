/-
  Layer 12, the program: a node put behind the others.
-/
import Derived.Test.YtajmgjhknmkfpaaUf
import Derived.Test.YtajmgjhknmkfpaaUh
import Derived.Test.YtajmgjhknmkfpaaSqx
import Derived.Maps.OwnIn
namespace Go.Proofs.Ytajmgjhknmkfpaa
set_option maxRecDepth 20000
open Go.RowKit Go.Maps
set_option linter.unusedVariables false
set_option linter.unusedSimpArgs false

/-- What a put leaves, step by step: the map turned, then the row of nodes, then the graph's own block. -/
theorem GraphIn.put {S : Nat → Prop} {w u u2 u3 u4 : World} {g b : Nat} {L : List Gn} {E : List Enn} {v v' : Value} (h : GraphIn S w g L E v (some b)) (hg : S g) (e : Enn) (hG : GoodG (L ++ [e.n]))
    (hok : okN e) (hpv : RedR rowN (fun k => S k ∧ k ≠ g ∧ v.ownBlock ≠ some k ∧ some b ≠ some k) w e.v e.n.pl)
    (h1 : Below w.heap.size w u) (h2 : u.grownBy u2 (some b)) (hm : MapAt u2 b (celG L ++ [(.agg (arrD e.n.id), .int .i64 L.length)])) (h3 : Below u2.heap.size u2 u3)
    (h4 : u3.grownBy u4 v.ownBlock) (ho : OwnR rowP 0 v' (E ++ [e]) u4) (hat : v'.ownBlock = v.ownBlock ∨ v'.ownBlock = some u3.heap.size) :
    GraphIn (fun k => S k ∨ (w.heap.size ≤ k ∧ k < u4.heap.size)) (u4.setCell ⟨g, 0, none⟩ v') g (L ++ [e.n]) (E ++ [e]) v' (some b) ∧ Chg (fun k => k = b ∨ v.ownBlock = some k ∨ k = g) w (u4.setCell ⟨g, 0, none⟩ v') := by
  obtain ⟨m1, m2, m3, m4⟩ := h.map b rfl
  have c2 : Chg (fun k => k = b) w u2 := (Chg.of_below h1).grown h2 (fun k hk _ => by cases hk; rfl)
  have c3 : Chg (fun k => k = b) w u3 := c2.more (Chg.of_below h3) (fun _ _ h => h)
  have c4 : Chg (fun k => k = b ∨ v.ownBlock = some k) w u4 := (c3.weak (fun k _ hk => .inl hk)).grown h4 (fun k hk _ => .inr hk)
  have c5 : Chg (fun k => k = b ∨ v.ownBlock = some k ∨ k = g) w (u4.setCell ⟨g, 0, none⟩ v') := (c4.weak (fun k _ hk => by rcases hk with h | h; exact .inl h; exact .inr (.inl h))).setCell _ (fun _ => .inr (.inr rfl)) _
  have gb : g ≠ b := fun e => m2 e.symm
  have gv : v.ownBlock ≠ some g := fun e => (h.ownS g e).2 rfl
  have bg : u4.heap[g]? = some (.cells #[v, .map (some b)] 57 (0, 0)) := (c4.block g (lt_of_heap h.blk) (fun e => e.elim gb gv)).trans h.blk
  have wb : b < w.heap.size := m4.lt
  have s3 : w.heap.size ≤ u3.heap.size := c3.size
  have own4 : ∀ k, v'.ownBlock = some k → (S k ∨ (w.heap.size ≤ k ∧ k < u4.heap.size)) ∧ k ≠ g ∧ k ≠ b ∧ (v.ownBlock = some k ∨ w.heap.size ≤ k) := fun k hk => by
    have hlt := (ownR_lt ho k hk).2
    rcases hat with h' | h'
    · rw [h'] at hk
      obtain ⟨a1, a2⟩ := h.ownS k hk
      exact ⟨.inl a1, a2, fun e => m3 (by rw [hk, e]), .inl hk⟩
    · rw [h'] at hk
      have e1 := Option.some.inj hk
      refine ⟨.inr ⟨by omega, hlt⟩, fun e => ?_, fun e => by omega, .inr (by omega)⟩
      have := lt_of_heap h.blk
      omega
  refine ⟨⟨hG, ?_, ?_, ?_, ?_, ?_, ?_, ?_⟩, c5⟩
  · rw [List.map_append, h.ens]; rfl
  · exact (heap_set bg 0 v').trans rfl
  · exact ownR_same ho (fun k hk => heap_setCell_other _ _ _ _ (own4 k hk).2.1)
  · exact fun k hk => ⟨(own4 k hk).1, (own4 k hk).2.1⟩
  · have keep : ∀ (x : Enn), okN x ∧ RedR rowN (fun k => S k ∧ k ≠ g ∧ v.ownBlock ≠ some k ∧ some b ≠ some k) w x.v x.n.pl → okN x ∧ RedR rowN (fun k => (S k ∨ (w.heap.size ≤ k ∧ k < u4.heap.size)) ∧ k ≠ g ∧ v'.ownBlock ≠ some k ∧ some b ≠ some k) (u4.setCell ⟨g, 0, none⟩ v') x.v x.n.pl := by
      rintro x ⟨x1, x2⟩
      refine ⟨x1, ((x2.mono (S' := fun k => k < w.heap.size ∧ S k ∧ k ≠ g ∧ v.ownBlock ≠ some k ∧ some b ≠ some k) (fun k hk h => ⟨hk, h⟩)).keep ⟨c5.size, fun k hk hl => c5.block k hl (fun hc => ?_)⟩).mono (fun k hk h => ?_)⟩
      · obtain ⟨a0, a1, a2, a3, a4⟩ := hk
        rcases hc with hc | hc | hc
        · exact a4 (by rw [hc])
        · exact a3 hc
        · exact a2 hc
      · obtain ⟨a0, a1, a2, a3, a4⟩ := h
        refine ⟨.inl a1, a2, fun hc => ?_, a4⟩
        rcases (own4 k hc).2.2.2 with h | h
        · exact a3 h
        · omega
    intro x hx
    rcases List.mem_append.1 hx with hx | hx
    · exact keep x (h.red x hx)
    · obtain rfl : x = e := by simpa using hx
      exact keep x ⟨hok, hpv⟩
  · intro h; cases h
  · intro k hk
    obtain rfl : b = k := Option.some.inj hk
    refine ⟨.inl m1, m2, fun hc => (own4 b hc).2.2.1 rfl, ?_⟩
    rw [celG_snoc]
    refine hm.keep ?_
    rw [heap_setCell_other _ _ _ _ m2]
    refine (h4.block b ?_ (fun e => m3 e.symm)).trans (h3.block b hm.lt)
    exact Nat.lt_of_lt_of_le hm.lt h3.size
/-- The map made. -/
theorem GraphIn.made {S : Nat → Prop} {w : World} {g : Nat} {L : List Gn} {E : List Enn} {v : Value} (h : GraphIn S w g L E v none) (hg : S g) (hS : S w.heap.size) :
    GraphIn S ((w.alloc (.map #[] 0)).setCell ⟨g, 1, none⟩ (.map (some w.heap.size))) g L E v (some w.heap.size) := by
  have hlt := lt_of_heap h.blk
  have hb := (Below.refl w.heap.size w).alloc (Nat.le_refl _) (.map #[] 0)
  have h2 := h.keep hg (StayB.of hb)
  have hoth : ∀ k, k ≠ g → ((w.alloc (.map #[] 0)).setCell ⟨g, 1, none⟩ (.map (some w.heap.size))).heap[k]? = (w.alloc (.map #[] 0)).heap[k]? := fun k hk => heap_setCell_other _ _ _ _ hk
  have hL := h.none_ rfl
  have hE : E = [] := List.map_eq_nil_iff.1 (h.ens.trans hL)
  have hne : v.ownBlock ≠ some w.heap.size := fun e => by
    have := (ownR_lt h.own _ e).2
    omega
  refine ⟨h.good, h.ens, (heap_set h2.blk 1 _).trans rfl, ownR_same h2.own (fun k hk => hoth k (h.ownS k hk).2), h.ownS, (fun e he => ?_), (fun h => (by cases h)), fun b hb => ?_⟩
  · rw [hE] at he
    cases he
  · obtain rfl := Option.some.inj hb
    refine ⟨hS, Nat.ne_of_gt hlt, hne, ?_⟩
    rw [hL]
    exact (MapAt.made w).keep (hoth _ (Nat.ne_of_gt hlt))
theorem GraphIn.cells {S : Nat → Prop} {w : World} {g : Nat} {L : List Gn} {E : List Enn} {v : Value} {mb : Option Nat} (h : GraphIn S w g L E v mb) {u : World} (hu : u.heap[g]? = w.heap[g]?) : u.cell? ⟨g, 0, none⟩ = some v ∧ u.cell? ⟨g, 1, none⟩ = some (.map mb) ∧ (∀ j, u.frozen? ⟨g, j, none⟩ = false) := by
  have hb := hu.trans h.blk
  refine ⟨?_, ?_, fun j => not_frozen hb j⟩
  · rw [Lib.cell_of_heap hb]; rfl
  · rw [Lib.cell_of_heap hb]; rfl
/-- How many nodes there are. -/
theorem GraphIn.shape {S : Nat → Prop} {w : World} {g : Nat} {L : List Gn} {E : List Enn} {v : Value} {mb : Option Nat} (h : GraphIn S w g L E v mb) : ∃ a c, v = .slice a L.length c ∧ L.length ≤ c ∧ c ≤ maxLen ∧ RowAt rowP w a E ∧ E.length = L.length := by
  obtain ⟨a, c, e, hc, hm, hr, hn, hb⟩ := ownR_shape goodP h.own (fun x hx => (h.red x hx).1)
  have hl : E.length = L.length := by rw [← h.ens, List.length_map]
  rw [hl] at e hc
  exact ⟨a, c, e, hc, hm, hr, hl⟩
theorem eql_mapN (w : World) : (binOp .eql 55 (.map none) (.map none)).run Try.prog w = .ok (.bool true) w := by kernel_rfl
theorem eql_mapS (b : Nat) (w : World) : (binOp .eql 55 (.map (some b)) (.map none)).run Try.prog w = .ok (.bool false) w := by kernel_rfl
set_option maxHeartbeats 16000000 in
theorem putP_is {S : Nat → Prop} {w : World} {g B : Nat} {L : List Gn} (h : GraphP S w g L) (hSB : ∀ k, S k → k < B) (hB : B ≤ w.heap.size) (e : Enn) (hG : GoodG (L ++ [e.n])) (hnew : atG L e.n.id = none) (hL : L.length ≤ 100000)
    (hok : okN e) (hpv : RedR rowN (fun k => B ≤ k) w e.v e.n.pl) :
    Calls Try.prog 33 #[.pointer (some ⟨g, 0, none⟩), .agg (cellsN e).toArray] w fun r w' => r = .returned (.tuple #[]) ∧ GraphP (fun j => S j ∨ B ≤ j) w' g (L ++ [e.n]) ∧ Chg S w w' := by
  obtain ⟨hg, E, v, mb, h0⟩ := h
  have hEl : E.length = L.length := by rw [← h0.ens, List.length_map]
  have hokE : ∀ x ∈ E, okN x := fun x hx => (h0.red x hx).1
  have hiL : e.n.id.length = 20 := hok.1
  have hnewC : ∀ m ∈ celG L, m.1 ≠ .agg (arrD e.n.id) := fun m hm he => by
    obtain ⟨p, hp, rfl⟩ := List.mem_map.1 hm
    exact atG_none.1 hnew p.1 (List.fst_mem_of_mem_zipIdx hp) (arrD_inj (Value.agg.inj he))
  obtain ⟨N, hN⟩ : ∃ N, (cellsN e).toArray = N := ⟨_, rfl⟩
  have sN : N.size = 21 := by rw [← hN, List.size_toArray]; exact cellsN_len e hok
  obtain ⟨A, hA⟩ : ∃ A, arrD e.n.id = A := ⟨_, rfl⟩
  have rgA : ∀ (w : World) (k : Nat) (fr : Nat × Nat), w.heap[k]? = some (.cells N 65 fr) → w.rangeAt k 0 A.toList := fun w k fr hk j u hu => by
    have := row_arrD hk j u (by
      rw [← hN, List.toList_toArray]
      unfold cellsN
      have hj : j < (cellsD e.n.id).length := by
        have h1 := (List.getElem?_eq_some_iff.1 hu).1
        rw [← hA] at h1
        simpa [arrD] using h1
      rw [List.getElem?_append_left hj]
      rw [← hA] at hu
      simpa [arrD] using hu)
    exact this
  have b0 := (Below.refl w.heap.size w).alloc (Nat.le_refl _) (.cells N 65)
  have x0 := heap_alloc_new w (.cells N 65)
  have z0 : (w.alloc (.cells N 65)).heap.size = w.heap.size + 1 := by simp
  have hgw := lt_of_heap h0.blk
  have i0 := (h0.keep hg (StayB.of b0)).mono (S' := fun j => S j ∨ B ≤ j) (fun k _ hk => .inl hk)
  have pv0 := hpv.keep (StayB.of b0)
  obtain ⟨w0, hw0⟩ : ∃ w0, w.alloc (.cells N 65) = w0 := ⟨_, rfl⟩
  rw [hw0] at b0 x0 z0 i0 pv0
  obtain ⟨c0, c1, c2⟩ := i0.cells rfl
  have fz := c2 1
  have fz0 := c2 0
  have HG := Lib.hid hG; have HOK := Lib.hid hok; have HOKE := Lib.hid hokE; have HEL := Lib.hid hEl; have HNEW := Lib.hid hnewC; have HIL := Lib.hid hiL; have HN := Lib.hid hN; have SN := Lib.hid sN; have HA := Lib.hid hA; have RG := Lib.hid rgA
  have HGG := Lib.hid hg; have HSB := Lib.hid hSB; have HB0 := Lib.hid b0; have HLL := Lib.hid hL; have HBB := Lib.hid hB
  have IN := Lib.hid (show (Try.prog.info? 65).map (·.size) = some N.toList.length by rw [Array.length_toList, sN]; exact (by kernel_rfl : (Try.prog.info? 65).map (·.size) = some 21))
  have ON := Lib.hid (show N.all (·.oneCell') = true by rw [← hN, Array.all_eq_true_iff_forall_mem]; intro v hv; exact cellsN_one e hok v (by simpa using hv))
  have IA := Lib.hid (show (Try.prog.info? 32).map (·.size) = some A.toList.length by rw [Array.length_toList, ← hA, arrD_size _ hiL]; exact infoD_n)
  have FR : ∀ u, Below w0.heap.size w0 u → Below w.heap.size w u := fun u hu => b0.trans (hu.mono b0.size)
  have HFR := Lib.hid FR
  have PV1 : ∀ (u : World) (b : Nat), w0.heap.size ≤ u.heap.size → (S b ∨ w.heap.size < b) → (∀ k, B ≤ k → k < w0.heap.size → u.heap[k]? = w0.heap[k]?) → RedR rowN (fun k => (S k ∨ B ≤ k) ∧ k ≠ g ∧ v.ownBlock ≠ some k ∧ some b ≠ some k) u e.v e.n.pl := fun u b hsz hb hk => by
    have h1 := hpv.mono (S' := fun k => k < w.heap.size ∧ B ≤ k) (fun k hk h => ⟨hk, h⟩)
    have h2 := h1.keep (u := u) ⟨by omega, fun k hk1 hk2 => (hk k hk1.2 (by omega)).trans (by rw [← hw0]; exact Below.heap_alloc _ _ _ hk1.1)⟩
    refine h2.mono (fun k hk h => ⟨.inr h.2, fun e => ?_, fun e => ?_, fun e => ?_⟩)
    · have := hSB g hg; omega
    · have := hSB k (h0.ownS k e).1; omega
    · have e2 := Option.some.inj e
      rcases hb with hb | hb
      · have := hSB b hb; omega
      · omega
  have HPV := Lib.hid PV1
  have OWS := Lib.hid (show ∀ k, v.ownBlock = some k → S k ∧ k < w.heap.size from fun k hk => ⟨(h0.ownS k hk).1, (ownR_lt h0.own k hk).2⟩)
  have SMAP := Lib.hid (show ∀ b, mb = some b → S b from fun b hb => (h0.map b hb).1)
  rw [hN]
  have Z0 := Lib.hid z0
  clear hG hnew hL hok hpv hokE hEl hnewC hiL hN sN hA rgA hg hSB b0 h0 pv0 c2 hB FR PV1 z0
  have qm := @run_makeMap Try.prog
  have qn := eql_mapN
  have qs := eql_mapS
  go_enter Try.func33, Try.ntmps33
  rcases mb with _ | b
  case' none =>
    have bm := (Below.refl w0.heap.size w0).alloc (Nat.le_refl _) (.map #[] 0)
    obtain ⟨d0, d1, d2⟩ := i0.cells (u := w0.alloc (.map #[] 0)) (bm.block g (lt_of_heap i0.blk))
    have fa := d2 1
    have hsz : (w0.alloc (.map #[] 0)).heap.size = w0.heap.size + 1 := by simp
    have I1 := Lib.hid (i0.made (.inl HGG.out) (.inr (by have := HBB.out; have := Z0.out; omega)))
    have b1 : Below w.heap.size w (w0.alloc (.map #[] 0)) := HB0.out.alloc HB0.out.size (.map #[] 0)
    have C1 := Lib.hid (((Chg.of_below (S := S) b1).setCell ⟨g, 1, none⟩ (fun _ => HGG.out) (.map (some w0.heap.size))))
    have P1 := Lib.hid (HPV.out ((w0.alloc (.map #[] 0)).setCell ⟨g, 1, none⟩ (.map (some w0.heap.size))) w0.heap.size (by simp) (.inr (by have := Z0.out; omega)) (fun k hk hk2 => by
      rw [heap_setCell_other _ _ _ _ (fun e => by have := HSB.out g HGG.out; simp at e; omega)]
      exact Below.heap_alloc _ _ _ hk2))
    have X1 := Lib.hid (show ((w0.alloc (.map #[] 0)).setCell ⟨g, 1, none⟩ (.map (some w0.heap.size))).heap[w.heap.size]? = some (.cells N 65 (0, 0)) by
      rw [heap_setCell_other _ _ _ _ (fun e => by simp at e; omega)]
      exact (Below.heap_alloc _ _ _ (by have := Z0.out; omega)).trans x0)
    obtain ⟨wm, hwm⟩ : ∃ wm, w0.alloc (.map #[] 0) = wm := ⟨_, rfl⟩
    rw [hwm] at d0 d1 fa I1 C1 P1 X1
    have NB := Lib.hid (show w.heap.size ≠ w0.heap.size from by have := Z0.out; omega)
    have BS := Lib.hid (show ∀ i, i < w.heap.size → i = w0.heap.size → S i from fun i h1 h2 => by have := Z0.out; omega)
    clear d2 bm b1 hsz i0 x0 fz0
    obtain ⟨b, hb⟩ : ∃ b, w0.heap.size = b := ⟨_, rfl⟩
    rw [hb] at I1 C1 P1 X1 NB BS
    go_wp2_with fail
    obtain ⟨w1, hw1⟩ : ∃ w1, wm.setCell ⟨g, 1, none⟩ (.map (some b)) = w1 := ⟨_, rfl⟩
    rw [hw1] at I1 C1 P1 X1 ⊢
  case' some =>
    have I1 := Lib.hid i0
    have C1 := Lib.hid (Chg.of_below (S := S) HB0.out)
    have P1 := Lib.hid (HPV.out w0 b (Nat.le_refl _) (.inl (SMAP.out b rfl)) (fun _ _ _ => rfl))
    have X1 := Lib.hid x0
    have NB := Lib.hid (show w.heap.size ≠ b from by have := HSB.out b (SMAP.out b rfl); have := HBB.out; omega)
    have BS := Lib.hid (show ∀ i, i < w.heap.size → i = b → S i from fun i _ h2 => by rw [h2]; exact SMAP.out b rfl)
    clear i0 x0 fz0
    go_wp2_with fail
    obtain ⟨w1, hw1⟩ : ∃ w1, w0 = w1 := ⟨_, rfl⟩
    rw [hw1] at I1 C1 P1 X1 ⊢
  all_goals
    clear c0 c1 fz
    have OWN1 := Lib.hid I1.out.own
    obtain ⟨va, vc, hv, hle, hmx, hrow, -⟩ := I1.out.shape
    obtain ⟨n, hn⟩ : ∃ n, L.length = n := ⟨_, rfl⟩
    have LOOK := Lib.hid (fun u (hu : Below w1.heap.size w1 u) => I1.out.cells (hu.block g (lt_of_heap I1.out.blk)))
    have RA5 := Lib.hid (fun u (hu : Below w1.heap.size w1 u) => RG.out u w.heap.size (0, 0) ((hu.block _ (lt_of_heap X1.out)).trans X1.out))
    have PU := Lib.hid (fun u (hu : Below w1.heap.size w1 u) => (by
      obtain ⟨m1, m2, m3, m4⟩ := I1.out.map b rfl
      have q := (m4.keep (hu.block b m4.lt)).put (v := .int .i64 L.length) idKeyed Try.underlying55 (celG_keys I1.out.good) (key_idL e.n.id HIL.out) HNEW.out (by rw [celG_len]; unfold maxLen; have := HLL.out; omega)
      rw [HA.out, hn] at q
      exact q : ∃ w', (Instr.mapUpdate 55 (.map (some b)) (.agg A) (.int .i64 n)).run Try.prog u = .ok () w' ∧ MapAt w' b (celG L ++ [(.agg A, .int .i64 n)]) ∧ u.grownBy w' (some b) ∧ w'.heap.size = u.heap.size))
    rw [hn] at hv hle
    have HV := Lib.hid hv; have HNN := Lib.hid hn
    clear hn hle hmx hrow
    subst hv
    refine wp_regionX (S := fun u => Below w1.heap.size w1 u) (fun j => j == 11) (by kernel_rfl) (Below.refl _ _).drew (fun hHeld => ?_)
    refine tkXW 0 rfl hHeld ?_
    refine tkXW 1 rfl hHeld ?_
    refine tkXW 2 rfl hHeld ?_
    refine tkXV 3 rfl (.map (some b)) (fun u hu => by have q := (LOOK.out u hu).2.1; go_simp) hHeld ?_
    refine tkXW 4 rfl hHeld ?_
    refine tkX 5 rfl (yieldsIf_load_mid (by kernel_rfl) 32 (.tmp 17) (by kernel_rfl) w.heap.size 0 (by kernel_rfl) A.toList _ (fun u hu => RA5.out u hu) Try.underlying32 rfl IA.out) hHeld ?_
    refine tkXW 6 rfl hHeld ?_
    refine tkXW 7 rfl hHeld ?_
    refine tkXW 8 rfl hHeld ?_
    refine tkXV 9 rfl (.slice va n vc) (fun u hu => by have q := (LOOK.out u hu).1; go_simp) hHeld ?_
    refine tkXW 10 rfl hHeld ?_
    have hpu := PU.out _ hHeld
    obtain ⟨u2, hrun, hm2, hg2, hs2⟩ := hpu
    have HM := Lib.hid hm2
    have HGR := Lib.hid hg2
    have HU := Lib.hid hHeld
    clear hm2 hg2 hs2 hHeld
    refine rdX 11 rfl (fun K hK => ?_)
    go_simp
    refine hK.out _ _ (.inr rfl) (fun _ => ?_)
    clear hK K
    try simp only [Act.put, List.getElem_toArray, List.getElem_cons_succ, List.getElem_cons_zero, lsA, lsZ, lsS]
    refine wpAnyX_done (by kernel_rfl) ?_ _
    have c2 := ((Chg.of_below (S := fun k => k = b) HU.out).grown HGR.out (fun k hk _ => by cases hk; rfl))
    have X2 := Lib.hid ((c2.block w.heap.size (lt_of_heap X1.out) NB.out).trans X1.out)
    have MB := Lib.hid (I1.out.map b rfl)
    have O2 := Lib.hid (ownR_same OWN1.out (fun k hk => c2.block k (ownR_lt OWN1.out k hk).2 (fun e => MB.out.2.2.1 (by rw [hk, e]))))
    have G2 := Lib.hid ((c2.block g (lt_of_heap I1.out.blk) (fun e => MB.out.2.1 e.symm)).trans I1.out.blk)
    have GOB := Lib.hid (show (Value.slice va n vc).ownBlock ≠ some g from fun e => (I1.out.ownS g e).2 rfl)
    have XOB := Lib.hid (show (Value.slice va n vc).ownBlock ≠ some w.heap.size from fun e => Nat.lt_irrefl _ (OWS.out _ e).2)
    have FINF := Lib.hid (fun (u3 u4 : World) (v' : Value) h3 h4 ho hat => I1.out.put (.inl HGG.out) e HG.out HOK.out P1.out HU.out HGR.out (by rw [HA.out, HNN.out]; exact HM.out) (u3 := u3) (u4 := u4) (v' := v') h3 h4 ho hat)
    have LG := Lib.hid (fun u (hu : Chg (fun k => (Value.slice va n vc).ownBlock = some k) u2 u) => (by
      rw [Lib.cell_of_heap ((hu.block g (lt_of_heap G2.out) GOB.out).trans G2.out)]
      rfl : u.cell? ⟨g, 0, none⟩ = some (.slice va n vc)))
    have RN := Lib.hid (fun u (hu : Chg (fun k => (Value.slice va n vc).ownBlock = some k) u2 u) => row_arrD ((hu.block w.heap.size (lt_of_heap X2.out) XOB.out).trans X2.out))
    have SN2 := Lib.hid (show N.size = rowP.size from SN.out)
    have EN := Lib.hid (show (rowP.cl e).toArray = N from HN.out)
    clear c2 HU HGR HM LOOK RA5 PU MB X1 P1
    go_wp2_with fail
    refine wp_regionX (S := fun u => Chg (fun k => (Value.slice va n vc).ownBlock = some k) u2 u) (fun j => j == 8 || j == 9 || j == 10) (by kernel_rfl) (Chg.refl _ _).drew (fun hHeld => ?_)
    have hZ := heap_alloc_new u2.drew (.cells N 65)
    have O3 := Lib.hid (ownR_below O2.out ((Below.refl u2.heap.size u2).drew.alloc (Nat.le_refl _) (.cells N 65)))
    have h3 := Lib.hid ((Below.refl u2.heap.size u2).drew.alloc (Nat.le_refl _) (.cells N 65))
    have hH6 := hHeld.alloc (.cells N 65)
    have RO := Lib.hid (rowR_one (x := e) goodP (hZ.trans (by rw [EN.out])))
    have LE := Lib.hid (show E.length + 1 ≤ 1000000000 by have := HEL.out; have := HLL.out; omega)
    clear hZ
    refine tkXW 0 rfl hHeld ?_
    refine tkXW 1 rfl hHeld ?_
    refine tkXW 2 rfl hHeld ?_
    refine tkXW 3 rfl hHeld ?_
    refine tkXV 4 rfl (.slice va n vc) (fun u hu => by have q := LG.out u hu; go_simp) hHeld ?_
    refine tkX 5 rfl (yieldsIf_load_mid (by kernel_rfl) 65 (.tmp 3) (by kernel_rfl) w.heap.size 0 (by kernel_rfl) N.toList _ (fun u hu => RN.out u hu) Try.underlying65 rfl IN.out) hHeld ?_
    refine rdX 6 rfl (fun K hK => ?_)
    refine stepW rfl (wp_build_oneR goodP (.tmp 29) rfl N SN2.out rfl ?_)
    refine hK.out _ _ (.inl hH6) (fun _ => ?_)
    clear hK K
    refine rdX 7 rfl (fun K hK => ?_)
    refine stepW rfl (wp_append_atR goodP (.tmp 28) (.tmp 30) rfl 0 (.slice va n vc) E [e] (some ⟨u2.heap.size, 0, none⟩) 1 1 (by kernel_rfl) (by kernel_rfl) rfl RO.out (fun x hx => by rw [List.mem_singleton.1 hx]; exact HOK.out) HOKE.out O3.out LE.out (Nat.zero_le _) (fun v' u4 ho4 hg4 hat => ?_))
    have hH7 := hH6.grown hg4 (fun k hk _ => hk)
    refine hK.out _ _ (.inl hH7) (fun _ => ?_)
    clear hK K
    refine tkXP 8 rfl ?_
    refine tkXP 9 rfl ?_
    have FIN := Lib.hid (FINF.out _ u4 _ h3.out hg4 ho4 hat)
    have q0 := LG.out _ hH7
    have q1 := not_frozen ((hH7.block g (lt_of_heap G2.out) GOB.out).trans G2.out) 0
    obtain ⟨a4, c4, hv4, -⟩ := ownR_shape goodP ho4 (fun x hx => by rcases List.mem_append.1 hx with hx | hx; exact HOKE.out x hx; rw [List.mem_singleton.1 hx]; exact HOK.out)
    generalize (E ++ [e]).length = n4 at hv4
    subst hv4
    clear ho4 hg4 hat hH7 hH6 hHeld O3 h3 RO
    refine rdX 10 rfl (fun K hK => ?_)
    go_simp
    refine hK.out _ _ (.inr rfl) (fun _ => ?_)
    clear hK K
    try simp only [Act.put, List.getElem_toArray, List.getElem_cons_succ, List.getElem_cons_zero, lsA, lsZ, lsS]
    refine wpAnyX_done (by kernel_rfl) ?_ _
    clear q0 q1
    first | go_end0 | (go_wp2; first | go_end0 | refine bodyPost_ret (results_none rfl _ _ _) rfl ?_)
    refine ⟨rfl, ⟨.inl HGG.out, _, _, _, FIN.out.1.mono (fun k hk h => ?_)⟩, C1.out.more FIN.out.2 (fun i hi h => ?_)⟩
    · rcases h with h | h
      · exact h
      · exact .inr (Nat.le_trans HBB.out (Nat.le_trans C1.out.size h.1))
    · rcases h with h | h | h
      · exact BS.out i hi h
      · exact (OWS.out i h).1
      · rw [h]; exact HGG.out
end Go.Proofs.Ytajmgjhknmkfpaa
