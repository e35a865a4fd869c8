/-
  Texts that belong together, one behind the other.
-/
import Derived.Test.YtnohonjjfjppoaaGreatDoorFu16
import Derived.Test.YtnohonjjfjppoaaGreatDoorFu22
import Derived.Test.YtnohonjjfjppoaaGreatDoorFu15
import Derived.Test.YtnohonjjfjppoaaGreatDoorFu17
import Derived.Test.YtnohonjjfjppoaaGreatDoorFu23
import Derived.Shelf.SlMaps.Clone
/-
  Layer 10, the program: a new object in its map (plain).
-/
namespace Go.Proofs.YtnohonjjfjppoaaGreatDoor
set_option maxRecDepth 20000
open Go.RowKit Go.Maps
set_option linter.unusedVariables false
set_option linter.unusedSimpArgs false
/-- Behind the making of a map, if one had to9 be made: the store's map is there. -/
structure KeepAt (S C : Nat → Prop) (w w5 : World) (g b : Nat) (E : List Ent) : Prop where
  chg : Chg C w w5
  blk : w5.heap[g]? = some (.cells #[.map (some b)] 66 (0, 0))
  map : MapAt w5 b (celP E)
  inS : S b ∨ w.heap.size ≤ b
  inC : C b ∨ w.heap.size ≤ b
  ne : b ≠ g
  sg : S g
  ent : ∀ e ∈ E, okE e ∧ kindO e.c.kind ∧ RedS (fun k => S k ∧ k ≠ g ∧ k ≠ b) w5 e.v e.c.body
theorem redS_of_row {S : Nat → Prop} {w : World} {v : Value} {l : List UInt8} (h : Row w v l) (hS : ∀ g, foot v = some g → S g) : RedS S w v l := by
  obtain ⟨a, c, e, h1, h2, h3, h4⟩ := h.shape
  refine ⟨a, c, e, h3, h4, h1, h2, fun ad hp ha => ?_⟩
  rcases h with ⟨a', e', rfl⟩ | ⟨g, cap, cur, e', _⟩
  · exact absurd hp (Nat.lt_irrefl 0)
  · rw [e'] at e
    obtain ⟨rfl, -, -⟩ := Value.slice.inj e
    cases ha
    exact hS g (by rw [e']; rfl)
theorem KeepAt.put {S C : Nat → Prop} {w w5 u u' : World} {g b : Nat} {E : List Ent} (h : KeepAt S C w w5 g b E) (hu : Below w5.heap.size w5 u) {i : List UInt8} (hi : i.length = 20) {k : Int} (hk : kindO k) {v : Value} {l : List UInt8} (hr : Row u v l) (hf : ∀ g, foot v = some g → w5.heap.size ≤ g)
    (hm : MapAt u' b (celP E ++ [(.agg (arrD i), thingP k v)])) (hg : u.grownBy u' (some b)) :
    StoreP (fun j => S j ∨ w.heap.size ≤ j) u' g (E.map Ent.c ++ [⟨i, k, l⟩]) ∧ Chg C w u' := by
  have hb5 : b < w5.heap.size := h.map.lt
  have hg5 : g < w5.heap.size := lt_of_heap h.blk
  have hkeep : ∀ j, j < w5.heap.size → j ≠ b → u'.heap[j]? = w5.heap[j]? := fun j hj hn => (hg.block j (Nat.lt_of_lt_of_le hj hu.size) (fun e => hn (Option.some.inj e))).trans (hu.block j hj)
  have hsz : w5.heap.size ≤ u'.heap.size := Nat.le_trans hu.size hg.size
  have hr' : Row u' v l := hr.keep (fun j hj => hg.block j (hr.lt j hj) (fun e => by have h8 := hf j hj; have h9 := Option.some.inj e; omega))
  refine ⟨⟨.inl h.sg, E ++ [⟨⟨i, k, l⟩, v⟩], some b, by simp, (hkeep g hg5 (fun e => h.ne e.symm)).trans h.blk, ?_, fun e => (by cases e), ?_⟩, ?_⟩
  · intro e he
    rcases List.mem_append.1 he with he | he
    · obtain ⟨h1, h2, h3⟩ := h.ent e he
      refine ⟨h1, h2, ?_⟩
      have h4 : RedS (fun k => S k ∧ k ≠ g ∧ k ≠ b) u' e.v e.c.body := by
        obtain ⟨a, c, e1, e2, e3, e4, e5, e6⟩ := h3
        refine ⟨a, c, e1, e2.same hsz (fun ad hp ha => ?_), e3, e4, e5, e6⟩
        obtain ⟨q, o, q1, q2, _⟩ := e2 hp
        have q3 := e6 ad hp ha
        rw [q1] at ha
        cases ha
        exact hkeep q q2 q3.2.2
      exact h4.mono (fun j _ hj => ⟨.inl hj.1, hj.2.1, fun e => hj.2.2 (Option.some.inj e).symm⟩)
    · rw [List.mem_singleton] at he
      subst he
      refine ⟨⟨hi, ?_⟩, hk, redS_of_row hr' (fun j hj => ?_)⟩
      · obtain ⟨a, n, c, e⟩ := row_shape hr
        exact ⟨a, n, c, e⟩
      · have h8 := hf j hj
        have h9 := h.chg.size
        exact ⟨.inr (by omega), fun e => by omega, fun e => by have := Option.some.inj e; omega⟩
  · intro b' hb'
    cases hb'
    refine ⟨h.inS, h.ne, ?_⟩
    have e : celP (E ++ [⟨⟨i, k, l⟩, v⟩]) = celP E ++ [(.agg (arrD i), thingP k v)] := by simp [celP]
    rw [e]
    exact hm
  · refine (h.chg.more (Chg.of_below (S := fun _ => False) hu) (fun _ _ h => h.elim)).grown hg (fun j e hj => ?_)
    have e := Option.some.inj e
    subst e
    rcases h.inC with h | h
    · exact h
    · omega
end Go.Proofs.YtnohonjjfjppoaaGreatDoor

/-
  Layer 10, the program: an object put under its id (keep).
-/
namespace Go.Proofs.YtnohonjjfjppoaaGreatDoor
set_option maxRecDepth 100000
open Go.RowKit Go.Maps
set_option linter.unusedVariables false
set_option linter.unusedSimpArgs false
set_option maxHeartbeats 16000000 in
theorem keep_there {S : Nat → Prop} {w : World} {g : Nat} {M : List Cel} (h : StoreP S w g M) (i : List UInt8) (hi : i.length = 20) (k : Int) (v : Value) (l : List UInt8) (hv : Red w v l) (x : Cel) (hx : getM M i = some x) :
    Calls Tryz.prog 50 #[.pointer (some ⟨g, 0, none⟩), .agg (arrD i), .agg #[.int .i64 k, v]] w fun e w' => e = .returned (.int .i64 (pickE (x.kind == k && x.body == l))) ∧ Below w.heap.size w w' := by
  have hvr := hv
  obtain ⟨a, c, rfl, hb, hno, hc, hmx⟩ := hv
  obtain ⟨n, hn⟩ : ∃ n, l.length = n := ⟨_, rfl⟩
  obtain ⟨A1, hA1⟩ : ∃ A, arrD i = A := ⟨_, rfl⟩
  have sA : A1.size = 20 := by rw [← hA1]; exact arrD_size i hi
  rw [hn] at hno hc ⊢
  have b1 := (Below.refl w.heap.size w).alloc (Nat.le_refl _) (.cells A1 27)
  have b2 := b1.alloc b1.size (.cells #[.int .i64 k, .slice a n c] 52)
  have hs1 : (w.alloc (.cells A1 27)).heap.size = w.heap.size + 1 := by simp
  have h02 := heap_alloc_new (w.alloc (.cells A1 27)) (.cells #[.int .i64 k, .slice a n c] 52)
  have h01 := (((Below.refl (w.alloc (.cells A1 27)).heap.size (w.alloc (.cells A1 27))).alloc (Nat.le_refl _) (.cells #[.int .i64 k, .slice a n c] 52)).block w.heap.size (by simp)).trans (heap_alloc_new w (.cells A1 27))
  rw [hs1] at h02
  have B1 := Lib.hid b2
  obtain ⟨w1, hw1⟩ : ∃ w1, (w.alloc (.cells A1 27)).alloc (.cells #[.int .i64 k, .slice a n c] 52) = w1 := ⟨_, rfl⟩
  rw [hw1] at B1 h01 h02
  have H1 := Lib.hid h01; have H2 := Lib.hid h02
  have LA := Lib.hid (show (Tryz.prog.info? 27).map (·.size) = some A1.toList.length from by rw [Array.length_toList, sA]; exact infoD_n)
  obtain ⟨mb, tv, hl, hr, hkx, a', n', c', rfl⟩ := h.look_some hx
  obtain ⟨T, hT, hth⟩ := kind_ty hkx
  rw [hA1] at hl ⊢
  rw [hth] at hl
  have HL := Lib.hid (fun u (hu : Below w1.heap.size w1 u) => hl u (B1.out.trans (hu.mono B1.out.size)))
  have RA := Lib.hid (fun u (hu : Below w1.heap.size w1 u) => (row_arrD ((hu.block w.heap.size (lt_of_heap H1.out)).trans H1.out)))
  have CS := Lib.hid (fun u (hu : Below w.heap.size w u) => (by
    have q := sameP_is x.kind k hkx (.slice a' n' c') (.slice a n c) x.body l u ((hr.keep (Stays.of hu)).red) (by rw [← hn]; exact hvr.below hu (Nat.le_refl _))
    rw [hth] at q
    exact q : Calls Tryz.prog 85 #[.iface T (.agg #[.slice a' n' c']), .agg #[.int .i64 k, .slice a n c]] u _))
  obtain ⟨r, hrr⟩ : ∃ r, (x.kind == k && x.body == l) = r := ⟨_, rfl⟩
  rw [hrr] at CS ⊢
  clear h hl hr b1 b2 h01 h02 hs1 hb hno hc hmx hn sA hT hth hkx hvr hrr hx
  go_enter Tryz.func50, Tryz.ntmps50
  go_wp2_with fail
  refine wp_region_held_drew (S := fun u => Below w1.heap.size w1 u) (by kernel_rfl) (Below.refl _ _).drew (fun hHeld => ?_)
  refine wpAnyH_take (i := 0) (v := ?pv0) rfl (by kernel_rfl) (by kernel_rfl) (by kernel_rfl) (fun _ _ _ h => h) (Or.inl ⟨by kernel_rfl, ?py0⟩) hHeld ?_
  case py0 => intro u hu; go_simp; try with_reducible rfl
  try simp only [Act.put, List.setIfInBounds_toArray, List.set_cons_zero, List.set_cons_succ]
  refine wpAnyH_take (i := 1) (v := ?pv1) rfl (by kernel_rfl) (by kernel_rfl) (by kernel_rfl) (fun _ _ _ h => h) (Or.inl ⟨by kernel_rfl, ?py1⟩) hHeld ?_
  case py1 => intro u hu; go_simp; try with_reducible rfl
  try simp only [Act.put, List.setIfInBounds_toArray, List.set_cons_zero, List.set_cons_succ]
  refine wpAnyH_take (i := 2) (v := ?pv2) rfl (by kernel_rfl) (by kernel_rfl) (by kernel_rfl) (fun _ _ _ h => h) (Or.inl ⟨by kernel_rfl, ?py2⟩) hHeld ?_
  case py2 => intro u hu; go_simp; try with_reducible rfl
  try simp only [Act.put, List.setIfInBounds_toArray, List.set_cons_zero, List.set_cons_succ]
  refine wpAnyH_take (i := 3) (v := .map mb) rfl (by kernel_rfl) (by kernel_rfl) (by kernel_rfl) (fun _ _ _ h => h) (Or.inl ⟨by kernel_rfl, ?py3x⟩) hHeld ?_
  case py3x => intro u hu; have q := (HL.out u hu).1; go_simp
  try simp only [Act.put, List.setIfInBounds_toArray, List.set_cons_zero, List.set_cons_succ]
  refine wpAnyH_take (i := 4) rfl (by kernel_rfl) (by kernel_rfl) (by kernel_rfl) (fun _ _ _ h => h) (yieldsIf_load_mid (by kernel_rfl) 27 (.tmp 4) (by kernel_rfl) w.heap.size 0 (by kernel_rfl) A1.toList _ (fun u hu => RA.out u hu) Tryz.underlying27 rfl LA.out) hHeld ?_
  try simp only [Act.put, List.setIfInBounds_toArray, List.set_cons_zero, List.set_cons_succ]
  refine wpAnyH_take (i := 5) (v := .tuple #[.iface T (.agg #[.slice a' n' c']), .bool true]) rfl (by kernel_rfl) (by kernel_rfl) (by kernel_rfl) (fun _ _ _ h => h) (Or.inl ⟨by kernel_rfl, ?py5x⟩) hHeld ?_
  case py5x => intro u hu; have q := (HL.out u hu).2; go_simp
  try simp only [Act.put, List.setIfInBounds_toArray, List.set_cons_zero, List.set_cons_succ]
  refine wpAnyH_take (i := 6) (v := ?pv6) rfl (by kernel_rfl) (by kernel_rfl) (by kernel_rfl) (fun _ _ _ h => h) (Or.inl ⟨by kernel_rfl, ?py6⟩) hHeld ?_
  case py6 => intro u hu; go_simp; try with_reducible rfl
  try simp only [Act.put, List.setIfInBounds_toArray, List.set_cons_zero, List.set_cons_succ]
  refine wpAnyH_take (i := 7) (v := ?pv7) rfl (by kernel_rfl) (by kernel_rfl) (by kernel_rfl) (fun _ _ _ h => h) (Or.inl ⟨by kernel_rfl, ?py7⟩) hHeld ?_
  case py7 => intro u hu; go_simp; try with_reducible rfl
  try simp only [Act.put, List.setIfInBounds_toArray, List.set_cons_zero, List.set_cons_succ]
  refine wpAnyH_take (i := 8) (v := ?pv8) rfl (by kernel_rfl) (by kernel_rfl) (by kernel_rfl) (fun _ _ _ h => h) (Or.inl ⟨by kernel_rfl, ?py8⟩) hHeld ?_
  case py8 => intro u hu; go_simp; try with_reducible rfl
  try simp only [Act.put, List.setIfInBounds_toArray, List.set_cons_zero, List.set_cons_succ]
  refine wpAnyH_take (i := 9) (v := ?pv9) rfl (by kernel_rfl) (by kernel_rfl) (by kernel_rfl) (fun _ _ _ h => h) (Or.inl ⟨by kernel_rfl, ?py9⟩) hHeld ?_
  case py9 => intro u hu; go_simp; try with_reducible rfl
  try simp only [Act.put, List.setIfInBounds_toArray, List.set_cons_zero, List.set_cons_succ]
  refine wpAnyH_take (i := 10) (v := ?pv10) rfl (by kernel_rfl) (by kernel_rfl) (by kernel_rfl) (fun _ _ _ h => h) (Or.inl ⟨by kernel_rfl, ?py10⟩) hHeld ?_
  case py10 => intro u hu; go_simp; try with_reducible rfl
  try simp only [Act.put, List.getElem_toArray, List.getElem_cons_succ, List.getElem_cons_zero, List.setIfInBounds_toArray, List.set_cons_zero, List.set_cons_succ]
  refine wpAnyH_done (by kernel_rfl) ?_ _
  obtain ⟨w2, hw2⟩ : ∃ w2, w1.drew = w2 := ⟨_, rfl⟩
  rw [hw2] at hHeld ⊢
  have HB := Lib.hid (B1.out.trans (hHeld.mono B1.out.size))
  have h2b := (hHeld.block (w.heap.size + 1) (lt_of_heap H2.out)).trans H2.out
  have p0 : w2.cell? ⟨w.heap.size + 1, 0, none⟩ = some (.int .i64 k) := by rw [Lib.cell_of_heap h2b]; rfl
  have p1 : w2.cell? ⟨w.heap.size + 1, 1, none⟩ = some (.slice a n c) := by rw [Lib.cell_of_heap h2b]; rfl
  clear hHeld h2b hw2
  cases r with
  | true =>
    go_wp2_with fail
    refine (CS.out _ HB.out).mono ?_
    rintro e w3 ⟨rfl, hb3⟩
    have HB3 := Lib.hid (HB.out.trans (hb3.mono HB.out.size))
    clear hb3 p0 p1
    go_wp2
    go_ret
    exact ⟨rfl, HB3.out⟩
  | false =>
    go_wp2_with fail
    refine (CS.out _ HB.out).mono ?_
    rintro e w3 ⟨rfl, hb3⟩
    have HB3 := Lib.hid (HB.out.trans (hb3.mono HB.out.size))
    clear hb3 p0 p1
    go_wp2
    go_ret
    exact ⟨rfl, HB3.out⟩
end Go.Proofs.YtnohonjjfjppoaaGreatDoor

/-
  Layer 10, the program: an object put under its id (keep): a new one.
-/
namespace Go.Proofs.YtnohonjjfjppoaaGreatDoor
set_option maxRecDepth 100000
open Go.RowKit Go.Maps
set_option linter.unusedVariables false
set_option linter.unusedSimpArgs false
set_option maxHeartbeats 32000000 in
theorem keep_some {S C : Nat → Prop} {w : World} {g b : Nat} {M : List Cel} (h : StoreP S w g M) (hCb : C b) (hbc : w.cell? ⟨g, 0, none⟩ = some (.map (some b))) (i : List UInt8) (hi : i.length = 20) (k : Int) (hk : kindO k) (v : Value) (l : List UInt8) (hv : Red w v l) (hl65 : l.length ≤ 65536) (hx : getM M i = none) (hM : M.length < 5000) :
    Calls Tryz.prog 50 #[.pointer (some ⟨g, 0, none⟩), .agg (arrD i), .agg #[.int .i64 k, v]] w fun e w' => e = .returned (.int .i64 0) ∧ StoreP (fun j => S j ∨ w.heap.size ≤ j) w' g (M ++ [⟨i, k, l⟩]) ∧ Chg C w w' := by
  obtain ⟨a, c, rfl, hb, hno, hc, hmx⟩ := hv
  obtain ⟨n, hn⟩ : ∃ n, l.length = n := ⟨_, rfl⟩
  obtain ⟨A1, hA1⟩ : ∃ A, arrD i = A := ⟨_, rfl⟩
  have sA : A1.size = 20 := by rw [← hA1]; exact arrD_size i hi
  rw [hn] at hno hc ⊢
  have b1 := (Below.refl w.heap.size w).alloc (Nat.le_refl _) (.cells A1 27)
  have b2 := b1.alloc b1.size (.cells #[.int .i64 k, .slice a n c] 52)
  have hs1 : (w.alloc (.cells A1 27)).heap.size = w.heap.size + 1 := by simp
  have h02 := heap_alloc_new (w.alloc (.cells A1 27)) (.cells #[.int .i64 k, .slice a n c] 52)
  have h01 := (((Below.refl (w.alloc (.cells A1 27)).heap.size (w.alloc (.cells A1 27))).alloc (Nat.le_refl _) (.cells #[.int .i64 k, .slice a n c] 52)).block w.heap.size (by simp)).trans (heap_alloc_new w (.cells A1 27))
  rw [hs1] at h02
  have B1 := Lib.hid b2
  obtain ⟨w1, hw1⟩ : ∃ w1, (w.alloc (.cells A1 27)).alloc (.cells #[.int .i64 k, .slice a n c] 52) = w1 := ⟨_, rfl⟩
  rw [hw1] at B1 h01 h02
  have H1 := Lib.hid h01; have H2 := Lib.hid h02
  have LA := Lib.hid (show (Tryz.prog.info? 27).map (·.size) = some A1.toList.length from by rw [Array.length_toList, sA]; exact infoD_n)
  obtain ⟨mb, hl⟩ := h.look_none hi hx
  obtain ⟨hg, E, mb2, hE, hblk, hent, hnone, hmap⟩ := h
  have hc2 : w.cell? ⟨g, 0, none⟩ = some (.map mb2) := by rw [Lib.cell_of_heap hblk]; rfl
  obtain rfl : mb2 = some b := by rw [hbc] at hc2; exact (Value.map.inj (Option.some.inj hc2)).symm
  obtain rfl : mb = some b := by have q := (hl w (Below.refl _ _)).1; rw [hbc] at q; exact (Value.map.inj (Option.some.inj q)).symm
  obtain ⟨hSb, hbg, hMap⟩ := hmap b rfl
  have hEl : (celP E).length = M.length := by rw [← hE]; simp [celP]
  rw [hA1] at hl ⊢
  have HL := Lib.hid (fun u (hu : Below w1.heap.size w1 u) => hl u (B1.out.trans (hu.mono B1.out.size)))
  have RA := Lib.hid (fun u (hu : Below w1.heap.size w1 u) => (row_arrD ((hu.block w.heap.size (lt_of_heap H1.out)).trans H1.out)))
  have hk0 : ∀ w5, Below w.heap.size w w5 → KeepAt S C w w5 g b E := fun w5 h5 =>
    ⟨Chg.of_below h5, (h5.block g (lt_of_heap hblk)).trans hblk, hMap.keep (h5.block b hMap.lt), .inl hSb, .inl hCb, hbg, hg, fun e he => ⟨(hent e he).1, (hent e he).2.1, ((hent e he).2.2.keep (Stays.of h5)).mono (fun j _ hj => ⟨hj.1, hj.2.1, fun e => hj.2.2 (by rw [e])⟩)⟩⟩
  have hnewE : ∀ m ∈ celP E, m.1 ≠ .agg (arrD i) := fun m hm he => by
    obtain ⟨e, hee, rfl⟩ := List.mem_map.1 hm
    exact getM_none hx e.c (by rw [← hE]; exact List.mem_map.2 ⟨e, hee, rfl⟩) (arrD_inj (Value.agg.inj he))
  have hroomE : (celP E).length < maxLen := by rw [hEl]; unfold maxLen; omega
  have hlen := fun u (hu : Below w.heap.size w u) ty => (by
    have q := (hMap.keep (hu.block b hMap.lt)).length Tryz.underlying64 ty
    rw [hEl] at q
    exact q : (Builtin.len_ #[64] ty #[.map (some b)]).run Tryz.prog u = .ok (goInt M.length) u)
  obtain ⟨N, hN⟩ : ∃ N, M.length = N := ⟨_, rfl⟩
  rw [hN] at hlen hM
  have g1 : (N : Int) < 5000 := by omega
  have hq := fun w => run_eql_map_nil_sl (P := Tryz.prog) w 64 _ _ (some b) Tryz.underlying64
  have HLN := Lib.hid hlen; have HK0 := Lib.hid hk0; have HE := Lib.hid hE; have HB0 := Lib.hid hb
  clear hCb hl hlen hk0 hblk hent hnone hmap hMap hSb hbg hg hc2 hE hEl hbc hc hmx hx hb b1 b2 hs1 h01 h02 sA
  go_enter Tryz.func50, Tryz.ntmps50
  go_wp2_with fail
  refine wp_region_held_drew (S := fun u => Below w1.heap.size w1 u) (by kernel_rfl) (Below.refl _ _).drew (fun hHeld => ?_)
  refine wpAnyH_take (i := 0) (v := ?pv0) rfl (by kernel_rfl) (by kernel_rfl) (by kernel_rfl) (fun _ _ _ h => h) (Or.inl ⟨by kernel_rfl, ?py0⟩) hHeld ?_
  case py0 => intro u hu; go_simp; try with_reducible rfl
  try simp only [Act.put, List.setIfInBounds_toArray, List.set_cons_zero, List.set_cons_succ]
  refine wpAnyH_take (i := 1) (v := ?pv1) rfl (by kernel_rfl) (by kernel_rfl) (by kernel_rfl) (fun _ _ _ h => h) (Or.inl ⟨by kernel_rfl, ?py1⟩) hHeld ?_
  case py1 => intro u hu; go_simp; try with_reducible rfl
  try simp only [Act.put, List.setIfInBounds_toArray, List.set_cons_zero, List.set_cons_succ]
  refine wpAnyH_take (i := 2) (v := ?pv2) rfl (by kernel_rfl) (by kernel_rfl) (by kernel_rfl) (fun _ _ _ h => h) (Or.inl ⟨by kernel_rfl, ?py2⟩) hHeld ?_
  case py2 => intro u hu; go_simp; try with_reducible rfl
  try simp only [Act.put, List.setIfInBounds_toArray, List.set_cons_zero, List.set_cons_succ]
  refine wpAnyH_take (i := 3) (v := .map (some b)) rfl (by kernel_rfl) (by kernel_rfl) (by kernel_rfl) (fun _ _ _ h => h) (Or.inl ⟨by kernel_rfl, ?py3x⟩) hHeld ?_
  case py3x => intro u hu; have q := (HL.out u hu).1; go_simp
  try simp only [Act.put, List.setIfInBounds_toArray, List.set_cons_zero, List.set_cons_succ]
  refine wpAnyH_take (i := 4) rfl (by kernel_rfl) (by kernel_rfl) (by kernel_rfl) (fun _ _ _ h => h) (yieldsIf_load_mid (by kernel_rfl) 27 (.tmp 4) (by kernel_rfl) w.heap.size 0 (by kernel_rfl) A1.toList _ (fun u hu => RA.out u hu) Tryz.underlying27 rfl LA.out) hHeld ?_
  try simp only [Act.put, List.setIfInBounds_toArray, List.set_cons_zero, List.set_cons_succ]
  refine wpAnyH_take (i := 5) (v := .tuple #[.nilIface, .bool false]) rfl (by kernel_rfl) (by kernel_rfl) (by kernel_rfl) (fun _ _ _ h => h) (Or.inl ⟨by kernel_rfl, ?py5x⟩) hHeld ?_
  case py5x => intro u hu; have q := (HL.out u hu).2; go_simp
  try simp only [Act.put, List.setIfInBounds_toArray, List.set_cons_zero, List.set_cons_succ]
  refine wpAnyH_take (i := 6) (v := ?pv6) rfl (by kernel_rfl) (by kernel_rfl) (by kernel_rfl) (fun _ _ _ h => h) (Or.inl ⟨by kernel_rfl, ?py6⟩) hHeld ?_
  case py6 => intro u hu; go_simp; try with_reducible rfl
  try simp only [Act.put, List.setIfInBounds_toArray, List.set_cons_zero, List.set_cons_succ]
  refine wpAnyH_take (i := 7) (v := ?pv7) rfl (by kernel_rfl) (by kernel_rfl) (by kernel_rfl) (fun _ _ _ h => h) (Or.inl ⟨by kernel_rfl, ?py7⟩) hHeld ?_
  case py7 => intro u hu; go_simp; try with_reducible rfl
  try simp only [Act.put, List.setIfInBounds_toArray, List.set_cons_zero, List.set_cons_succ]
  refine wpAnyH_take (i := 8) (v := ?pv8) rfl (by kernel_rfl) (by kernel_rfl) (by kernel_rfl) (fun _ _ _ h => h) (Or.inl ⟨by kernel_rfl, ?py8⟩) hHeld ?_
  case py8 => intro u hu; go_simp; try with_reducible rfl
  try simp only [Act.put, List.setIfInBounds_toArray, List.set_cons_zero, List.set_cons_succ]
  refine wpAnyH_take (i := 9) (v := ?pv9) rfl (by kernel_rfl) (by kernel_rfl) (by kernel_rfl) (fun _ _ _ h => h) (Or.inl ⟨by kernel_rfl, ?py9⟩) hHeld ?_
  case py9 => intro u hu; go_simp; try with_reducible rfl
  try simp only [Act.put, List.setIfInBounds_toArray, List.set_cons_zero, List.set_cons_succ]
  refine wpAnyH_take (i := 10) (v := ?pv10) rfl (by kernel_rfl) (by kernel_rfl) (by kernel_rfl) (fun _ _ _ h => h) (Or.inl ⟨by kernel_rfl, ?py10⟩) hHeld ?_
  case py10 => intro u hu; go_simp; try with_reducible rfl
  try simp only [Act.put, List.getElem_toArray, List.getElem_cons_succ, List.getElem_cons_zero, List.setIfInBounds_toArray, List.set_cons_zero, List.set_cons_succ]
  refine wpAnyH_done (by kernel_rfl) ?_ _
  obtain ⟨w2, hw2⟩ : ∃ w2, w1.drew = w2 := ⟨_, rfl⟩
  rw [hw2] at hHeld ⊢
  have HB := Lib.hid (B1.out.trans (hHeld.mono B1.out.size))
  have K1 := Lib.hid ((hHeld.block w.heap.size (lt_of_heap H1.out)).trans H1.out)
  have K2 := Lib.hid ((hHeld.block (w.heap.size + 1) (lt_of_heap H2.out)).trans H2.out)
  have pg := (HL.out _ hHeld).1
  have hl2 := HLN.out w2 HB.out
  clear hHeld hw2
  go_wp2_with fail
  have hk5 := HK0.out w2 HB.out
  have ha5 := K1.out
  have ho5 := K2.out
  have hba := fun u (hu : Below w2.heap.size w2 u) => HB0.out.keep (HB.out.trans (hu.mono HB.out.size))
  clear pg hl2
  have HK := Lib.hid hk5; have HB5 := Lib.hid (Below.refl w2.heap.size w2)
  have G5 := Lib.hid (fun u (hu : Below w2.heap.size w2 u) => (by
    rw [Lib.cell_of_heap ((hu.block g (lt_of_heap hk5.blk)).trans hk5.blk)]
    rfl : u.cell? ⟨g, 0, none⟩ = some (.map (some b))))
  have A5 := Lib.hid (fun u (hu : Below w2.heap.size w2 u) => (row_arrD ((hu.block w.heap.size (lt_of_heap ha5)).trans ha5)))
  have O5 := Lib.hid (fun u (hu : Below w2.heap.size w2 u) => (by
    have hq := (hu.block (w.heap.size + 1) (lt_of_heap ho5)).trans ho5
    intro j v hv
    rw [Nat.zero_add, Lib.cell_of_heap hq]
    match j, hv with
    | 0, hv => simpa using hv
    | 1, hv => simpa using hv
    | j + 2, hv => simp at hv : u.rangeAt (w.heap.size + 1) 0 [.int .i64 k, .slice a n c]))
  have LO := Lib.hid (show (Tryz.prog.info? 52).map (·.size) = some ([Value.int .i64 k, .slice a n c] : List Value).length from infoOb)
  have CT := Lib.hid (fun u (hu : Below w2.heap.size w2 u) => typedP_is k hk a n c l u hn.symm (hba u hu) hno (by omega))
  have PU := Lib.hid (fun u (hu : Below w2.heap.size w2 u) (tv : Value) => (by
    have q := (hk5.map.keep (hu.block b hk5.map.lt)).put (v := tv) idKeyed Tryz.underlying64 (celP_keys (fun e he => (hk5.ent e he).1)) (key_idL i hi) hnewE hroomE
    rw [hA1] at q
    exact q : ∃ w', (Instr.mapUpdate 64 (.map (some b)) (.agg A1) tv).run Tryz.prog u = .ok () w' ∧ MapAt w' b (celP E ++ [(.agg A1, tv)]) ∧ u.grownBy w' (some b) ∧ w'.heap.size = u.heap.size))
  have KI := Lib.hid hi; have KK := Lib.hid hk; have KA := Lib.hid hA1
  obtain ⟨T, hT, hth⟩ := kind_ty hk
  have TH := Lib.hid hth
  clear hk5 ha5 ho5 hba hnewE hroomE hn hno hk hi hA1 hT hth
  refine wp_regionX (S := fun u => Below w2.heap.size w2 u) (fun j => j == 7) (by kernel_rfl) (Below.refl _ _).drew (fun hHeld => ?_)
  refine wpAnyX_take (i := 0) (v := ?sv0) rfl (by kernel_rfl) (by kernel_rfl) (by kernel_rfl) (by kernel_rfl) (fun _ _ _ h => h) (Or.inl ⟨by kernel_rfl, ?sy0⟩) hHeld ?_
  case sy0 => intro u hu; go_simp; try with_reducible rfl
  try simp only [Act.put, List.setIfInBounds_toArray, List.set_cons_zero, List.set_cons_succ]
  refine wpAnyX_take (i := 1) (v := ?sv1) rfl (by kernel_rfl) (by kernel_rfl) (by kernel_rfl) (by kernel_rfl) (fun _ _ _ h => h) (Or.inl ⟨by kernel_rfl, ?sy1⟩) hHeld ?_
  case sy1 => intro u hu; go_simp; try with_reducible rfl
  try simp only [Act.put, List.setIfInBounds_toArray, List.set_cons_zero, List.set_cons_succ]
  refine wpAnyX_take (i := 2) (v := ?sv2) rfl (by kernel_rfl) (by kernel_rfl) (by kernel_rfl) (by kernel_rfl) (fun _ _ _ h => h) (Or.inl ⟨by kernel_rfl, ?sy2⟩) hHeld ?_
  case sy2 => intro u hu; go_simp; try with_reducible rfl
  try simp only [Act.put, List.setIfInBounds_toArray, List.set_cons_zero, List.set_cons_succ]
  refine wpAnyX_take (i := 3) (v := .map (some b)) rfl (by kernel_rfl) (by kernel_rfl) (by kernel_rfl) (by kernel_rfl) (fun _ _ _ h => h) (Or.inl ⟨by kernel_rfl, ?sy3x⟩) hHeld ?_
  case sy3x => intro u hu; have q := G5.out u hu; go_simp
  try simp only [Act.put, List.setIfInBounds_toArray, List.set_cons_zero, List.set_cons_succ]
  refine wpAnyX_take (i := 4) rfl (by kernel_rfl) (by kernel_rfl) (by kernel_rfl) (by kernel_rfl) (fun _ _ _ h => h) (yieldsIf_load_mid (by kernel_rfl) 27 (.tmp 4) (by kernel_rfl) w.heap.size 0 (by kernel_rfl) A1.toList _ (fun u hu => A5.out u hu) Tryz.underlying27 rfl LA.out) hHeld ?_
  try simp only [Act.put, List.setIfInBounds_toArray, List.set_cons_zero, List.set_cons_succ]
  refine wpAnyX_take (i := 5) rfl (by kernel_rfl) (by kernel_rfl) (by kernel_rfl) (by kernel_rfl) (fun _ _ _ h => h) (yieldsIf_load_mid (by kernel_rfl) 52 (.tmp 5) (by kernel_rfl) (w.heap.size + 1) 0 (by kernel_rfl) [.int .i64 k, .slice a n c] _ (fun u hu => O5.out u hu) Tryz.underlying52 rfl LO.out) hHeld ?_
  try simp only [Act.put, List.setIfInBounds_toArray, List.set_cons_zero, List.set_cons_succ]
  refine wpAnyX_ready (rs := [6]) (by kernel_rfl) (by simp) ?_
  refine AllReadyX.cons rfl (fun K hK => ?_) AllReadyX.nil
  go_simp
  refine (CT.out _ hHeld).mono ?_
  rintro e u1 ⟨v1, rfl, hr1, hf1, hI⟩
  have hF := fun q hq => Nat.le_trans hHeld.size (hf1 q hq)
  have hH := hHeld.trans (hI.mono hHeld.size)
  clear hHeld hI hf1
  obtain ⟨a1, n1, c1, rfl⟩ := row_shape hr1
  have R1 := Lib.hid hr1
  have F1 := Lib.hid hF
  clear hr1 hF
  rw [TH.out]
  refine hK.out _ _ (.inl hH) (fun _ => ?_)
  have hHeld := hH
  clear hK K
  try simp only [Act.put, List.setIfInBounds_toArray, List.set_cons_zero, List.set_cons_succ]
  refine wpAnyX_ready (rs := [7]) (by kernel_rfl) (by simp) ?_
  refine AllReadyX.cons rfl (fun K hK => ?_) AllReadyX.nil
  obtain ⟨u2, hrun, hm2, hg2, hs2⟩ := PU.out _ hHeld (.iface T (.agg #[.slice a1 n1 c1]))
  have HM := Lib.hid hm2
  have HG := Lib.hid hg2
  have HU := Lib.hid hHeld
  clear hm2 hg2 hs2 hHeld
  go_simp
  refine hK.out _ _ (.inr rfl) (fun _ => ?_)
  clear hK K
  try simp only [Act.put, List.getElem_toArray, List.getElem_cons_succ, List.getElem_cons_zero, List.setIfInBounds_toArray, List.set_cons_zero, List.set_cons_succ]
  refine wpAnyX_done (by kernel_rfl) ?_ _
  have FIN := Lib.hid (HK.out.put (i := i) (k := k) HU.out KI.out KK.out R1.out F1.out (by rw [KA.out, TH.out]; exact HM.out) HG.out)
  rw [HE.out] at FIN
  clear HM HG HU R1 F1 HK
  go_wp2
  go_ret
  exact ⟨rfl, FIN.out⟩
end Go.Proofs.YtnohonjjfjppoaaGreatDoor

/-
  Layer 10, the program: an object put under its id (keep): the first one.
-/
namespace Go.Proofs.YtnohonjjfjppoaaGreatDoor
set_option maxRecDepth 100000
open Go.RowKit Go.Maps
set_option linter.unusedVariables false
set_option linter.unusedSimpArgs false
set_option maxHeartbeats 32000000 in
theorem keep_nil {S C : Nat → Prop} {w : World} {g : Nat} {M : List Cel} (h : StoreP S w g M) (hCg : C g) (hbc : w.cell? ⟨g, 0, none⟩ = some (.map none)) (i : List UInt8) (hi : i.length = 20) (k : Int) (hk : kindO k) (v : Value) (l : List UInt8) (hv : Red w v l) (hl65 : l.length ≤ 65536) (hx : getM M i = none) :
    Calls Tryz.prog 50 #[.pointer (some ⟨g, 0, none⟩), .agg (arrD i), .agg #[.int .i64 k, v]] w fun e w' => e = .returned (.int .i64 0) ∧ StoreP (fun j => S j ∨ w.heap.size ≤ j) w' g (M ++ [⟨i, k, l⟩]) ∧ Chg C w w' := by
  obtain ⟨a, c, rfl, hb, hno, hc, hmx⟩ := hv
  obtain ⟨n, hn⟩ : ∃ n, l.length = n := ⟨_, rfl⟩
  obtain ⟨A1, hA1⟩ : ∃ A, arrD i = A := ⟨_, rfl⟩
  have sA : A1.size = 20 := by rw [← hA1]; exact arrD_size i hi
  rw [hn] at hno hc ⊢
  have b1 := (Below.refl w.heap.size w).alloc (Nat.le_refl _) (.cells A1 27)
  have b2 := b1.alloc b1.size (.cells #[.int .i64 k, .slice a n c] 52)
  have hs1 : (w.alloc (.cells A1 27)).heap.size = w.heap.size + 1 := by simp
  have h02 := heap_alloc_new (w.alloc (.cells A1 27)) (.cells #[.int .i64 k, .slice a n c] 52)
  have h01 := (((Below.refl (w.alloc (.cells A1 27)).heap.size (w.alloc (.cells A1 27))).alloc (Nat.le_refl _) (.cells #[.int .i64 k, .slice a n c] 52)).block w.heap.size (by simp)).trans (heap_alloc_new w (.cells A1 27))
  rw [hs1] at h02
  have B1 := Lib.hid b2
  obtain ⟨w1, hw1⟩ : ∃ w1, (w.alloc (.cells A1 27)).alloc (.cells #[.int .i64 k, .slice a n c] 52) = w1 := ⟨_, rfl⟩
  rw [hw1] at B1 h01 h02
  have H1 := Lib.hid h01; have H2 := Lib.hid h02
  have LA := Lib.hid (show (Tryz.prog.info? 27).map (·.size) = some A1.toList.length from by rw [Array.length_toList, sA]; exact infoD_n)
  obtain ⟨mb, hl⟩ := h.look_none hi hx
  obtain ⟨hg, E, mb2, hE, hblk, hent, hnone, hmap⟩ := h
  have hc2 : w.cell? ⟨g, 0, none⟩ = some (.map mb2) := by rw [Lib.cell_of_heap hblk]; rfl
  obtain rfl : mb2 = none := by rw [hbc] at hc2; exact (Value.map.inj (Option.some.inj hc2)).symm
  obtain rfl : mb = none := by have q := (hl w (Below.refl _ _)).1; rw [hbc] at q; exact (Value.map.inj (Option.some.inj q)).symm
  obtain rfl : E = [] := hnone rfl
  obtain rfl : M = [] := hE.symm
  rw [hA1] at hl ⊢
  have HL := Lib.hid (fun u (hu : Below w1.heap.size w1 u) => hl u (B1.out.trans (hu.mono B1.out.size)))
  have RA := Lib.hid (fun u (hu : Below w1.heap.size w1 u) => (row_arrD ((hu.block w.heap.size (lt_of_heap H1.out)).trans H1.out)))
  have hnewE : ∀ m ∈ celP [], m.1 ≠ .agg (arrD i) := fun m hm => by cases hm
  have hroomE : (celP []).length < maxLen := by simp [celP, maxLen]
  have hlen := fun u ty => run_len_nilMap (P := Tryz.prog) u 64 ty (by kernel_rfl)
  have hq := fun w => run_eql_map_nil_sl (P := Tryz.prog) w 64 _ _ none Tryz.underlying64
  have HB0 := Lib.hid hb; have HG0 := Lib.hid hblk; have SG := Lib.hid hg; have CG := Lib.hid hCg
  clear hCg hl hblk hent hnone hmap hg hc2 hbc hc hmx hx hb b1 b2 hs1 h01 h02 sA
  go_enter Tryz.func50, Tryz.ntmps50
  go_wp2_with fail
  refine wp_region_held_drew (S := fun u => Below w1.heap.size w1 u) (by kernel_rfl) (Below.refl _ _).drew (fun hHeld => ?_)
  refine wpAnyH_take (i := 0) (v := ?pv0) rfl (by kernel_rfl) (by kernel_rfl) (by kernel_rfl) (fun _ _ _ h => h) (Or.inl ⟨by kernel_rfl, ?py0⟩) hHeld ?_
  case py0 => intro u hu; go_simp; try with_reducible rfl
  try simp only [Act.put, List.setIfInBounds_toArray, List.set_cons_zero, List.set_cons_succ]
  refine wpAnyH_take (i := 1) (v := ?pv1) rfl (by kernel_rfl) (by kernel_rfl) (by kernel_rfl) (fun _ _ _ h => h) (Or.inl ⟨by kernel_rfl, ?py1⟩) hHeld ?_
  case py1 => intro u hu; go_simp; try with_reducible rfl
  try simp only [Act.put, List.setIfInBounds_toArray, List.set_cons_zero, List.set_cons_succ]
  refine wpAnyH_take (i := 2) (v := ?pv2) rfl (by kernel_rfl) (by kernel_rfl) (by kernel_rfl) (fun _ _ _ h => h) (Or.inl ⟨by kernel_rfl, ?py2⟩) hHeld ?_
  case py2 => intro u hu; go_simp; try with_reducible rfl
  try simp only [Act.put, List.setIfInBounds_toArray, List.set_cons_zero, List.set_cons_succ]
  refine wpAnyH_take (i := 3) (v := .map none) rfl (by kernel_rfl) (by kernel_rfl) (by kernel_rfl) (fun _ _ _ h => h) (Or.inl ⟨by kernel_rfl, ?py3x⟩) hHeld ?_
  case py3x => intro u hu; have q := (HL.out u hu).1; go_simp
  try simp only [Act.put, List.setIfInBounds_toArray, List.set_cons_zero, List.set_cons_succ]
  refine wpAnyH_take (i := 4) rfl (by kernel_rfl) (by kernel_rfl) (by kernel_rfl) (fun _ _ _ h => h) (yieldsIf_load_mid (by kernel_rfl) 27 (.tmp 4) (by kernel_rfl) w.heap.size 0 (by kernel_rfl) A1.toList _ (fun u hu => RA.out u hu) Tryz.underlying27 rfl LA.out) hHeld ?_
  try simp only [Act.put, List.setIfInBounds_toArray, List.set_cons_zero, List.set_cons_succ]
  refine wpAnyH_take (i := 5) (v := .tuple #[.nilIface, .bool false]) rfl (by kernel_rfl) (by kernel_rfl) (by kernel_rfl) (fun _ _ _ h => h) (Or.inl ⟨by kernel_rfl, ?py5x⟩) hHeld ?_
  case py5x => intro u hu; have q := (HL.out u hu).2; go_simp
  try simp only [Act.put, List.setIfInBounds_toArray, List.set_cons_zero, List.set_cons_succ]
  refine wpAnyH_take (i := 6) (v := ?pv6) rfl (by kernel_rfl) (by kernel_rfl) (by kernel_rfl) (fun _ _ _ h => h) (Or.inl ⟨by kernel_rfl, ?py6⟩) hHeld ?_
  case py6 => intro u hu; go_simp; try with_reducible rfl
  try simp only [Act.put, List.setIfInBounds_toArray, List.set_cons_zero, List.set_cons_succ]
  refine wpAnyH_take (i := 7) (v := ?pv7) rfl (by kernel_rfl) (by kernel_rfl) (by kernel_rfl) (fun _ _ _ h => h) (Or.inl ⟨by kernel_rfl, ?py7⟩) hHeld ?_
  case py7 => intro u hu; go_simp; try with_reducible rfl
  try simp only [Act.put, List.setIfInBounds_toArray, List.set_cons_zero, List.set_cons_succ]
  refine wpAnyH_take (i := 8) (v := ?pv8) rfl (by kernel_rfl) (by kernel_rfl) (by kernel_rfl) (fun _ _ _ h => h) (Or.inl ⟨by kernel_rfl, ?py8⟩) hHeld ?_
  case py8 => intro u hu; go_simp; try with_reducible rfl
  try simp only [Act.put, List.setIfInBounds_toArray, List.set_cons_zero, List.set_cons_succ]
  refine wpAnyH_take (i := 9) (v := ?pv9) rfl (by kernel_rfl) (by kernel_rfl) (by kernel_rfl) (fun _ _ _ h => h) (Or.inl ⟨by kernel_rfl, ?py9⟩) hHeld ?_
  case py9 => intro u hu; go_simp; try with_reducible rfl
  try simp only [Act.put, List.setIfInBounds_toArray, List.set_cons_zero, List.set_cons_succ]
  refine wpAnyH_take (i := 10) (v := ?pv10) rfl (by kernel_rfl) (by kernel_rfl) (by kernel_rfl) (fun _ _ _ h => h) (Or.inl ⟨by kernel_rfl, ?py10⟩) hHeld ?_
  case py10 => intro u hu; go_simp; try with_reducible rfl
  try simp only [Act.put, List.getElem_toArray, List.getElem_cons_succ, List.getElem_cons_zero, List.setIfInBounds_toArray, List.set_cons_zero, List.set_cons_succ]
  refine wpAnyH_done (by kernel_rfl) ?_ _
  obtain ⟨w2, hw2⟩ : ∃ w2, w1.drew = w2 := ⟨_, rfl⟩
  rw [hw2] at hHeld ⊢
  have HB := Lib.hid (B1.out.trans (hHeld.mono B1.out.size))
  have K1 := Lib.hid ((hHeld.block w.heap.size (lt_of_heap H1.out)).trans H1.out)
  have K2 := Lib.hid ((hHeld.block (w.heap.size + 1) (lt_of_heap H2.out)).trans H2.out)
  have pg := (HL.out _ hHeld).1
  have G2 := Lib.hid ((hHeld.block g (Nat.lt_of_lt_of_le (lt_of_heap HG0.out) B1.out.size)).trans ((B1.out.block g (lt_of_heap HG0.out)).trans HG0.out))
  clear hHeld hw2
  have hmm := @run_makeMap Tryz.prog
  obtain ⟨w3, hw3⟩ : ∃ w3, w2.alloc (.map #[] 0) = w3 := ⟨_, rfl⟩
  have gl : g < w2.heap.size := lt_of_heap G2.out
  have GL := Lib.hid gl
  have G3 : w3.heap[g]? = some (.cells #[.map none] 66 (0, 0)) := by rw [← hw3]; exact (Below.heap_alloc w2 _ g gl).trans G2.out
  have c3 : w3.cell? ⟨g, 0, none⟩ = some (.map none) := by rw [Lib.cell_of_heap G3]; rfl
  have f3 : w3.frozen? ⟨g, 0, none⟩ = false := by simp [World.frozen?, G3]
  have H3 := Lib.hid G3
  have M3 := Lib.hid (show MapAt w3 w2.heap.size [] by rw [← hw3]; exact MapAt.made w2)
  have K13 := Lib.hid (show w3.heap[w.heap.size]? = some (.cells A1 27 (0, 0)) by rw [← hw3]; exact (Below.heap_alloc w2 _ _ (lt_of_heap K1.out)).trans K1.out)
  have K23 := Lib.hid (show w3.heap[w.heap.size + 1]? = some (.cells #[.int .i64 k, .slice a n c] 52 (0, 0)) by rw [← hw3]; exact (Below.heap_alloc w2 _ _ (lt_of_heap K2.out)).trans K2.out)
  have C3 := Lib.hid (show Chg C w w3 by rw [← hw3]; exact (Chg.of_below HB.out).alloc _)
  have L3 := Lib.hid (lt_of_heap HG0.out)
  clear G3 gl
  go_wp2_with fail
  obtain ⟨b, hbb⟩ : ∃ b, w2.heap.size = b := ⟨_, rfl⟩
  obtain ⟨w5, hw5⟩ : ∃ w5, w3.setCell ⟨g, 0, none⟩ (.map (some w2.heap.size)) = w5 := ⟨_, rfl⟩
  rw [hw5, hbb]
  rw [hbb] at hw5 M3
  have gnb : g < b := by rw [← hbb]; exact GL.out
  have hoth : ∀ j, j ≠ g → w5.heap[j]? = w3.heap[j]? := fun j hj => by rw [← hw5]; exact heap_setCell_other w3 ⟨g, 0, none⟩ j _ hj
  have hg5 : w5.heap[g]? = some (.cells #[.map (some b)] 66 (0, 0)) := by rw [← hw5, heap_setCell_same w3 g 0 _ _ _ H3.out]; rfl
  have hk5 : KeepAt S C w w5 g b [] := ⟨by rw [← hw5]; exact C3.out.setCell ⟨g, 0, none⟩ (fun _ => CG.out) _, hg5, M3.out.keep (hoth b (by omega)), .inr (by rw [← hbb]; exact HB.out.size), .inr (by rw [← hbb]; exact HB.out.size), by omega, SG.out, fun e he => by cases he⟩
  have l3 := L3.out
  have ha5 : w5.heap[w.heap.size]? = some (.cells A1 27 (0, 0)) := (hoth _ (by omega)).trans K13.out
  have ho5 : w5.heap[w.heap.size + 1]? = some (.cells #[.int .i64 k, .slice a n c] 52 (0, 0)) := (hoth _ (by omega)).trans K23.out
  have hs5 : w3.heap.size ≤ w5.heap.size := by rw [← hw5]; simp
  have hba3 : BAt w3 a l := HB0.out.keep (by rw [← hw3]; exact HB.out.alloc HB.out.size _)
  have hba5 : BAt w5 a l := hba3.same hs5 (fun ad hp ha => hoth _ (fun e => by
    obtain ⟨q, o, q1, q2, q3⟩ := hba3 hp
    rw [q1] at ha
    cases ha
    have q4 := q3 0 hp
    simp only at e
    rw [e, Lib.cell_of_heap H3.out] at q4
    match o, q4 with
    | 0, q4 => simp at q4
    | o + 1, q4 => simp at q4))
  have hba := fun u (hu : Below w5.heap.size w5 u) => hba5.keep hu
  clear c3 f3 hoth hg5 l3 hs5 hba3 hba5 hw5 hmm hbb gnb hw3
  have HK := Lib.hid hk5; have HB5 := Lib.hid (Below.refl w5.heap.size w5)
  have G5 := Lib.hid (fun u (hu : Below w5.heap.size w5 u) => (by
    rw [Lib.cell_of_heap ((hu.block g (lt_of_heap hk5.blk)).trans hk5.blk)]
    rfl : u.cell? ⟨g, 0, none⟩ = some (.map (some b))))
  have A5 := Lib.hid (fun u (hu : Below w5.heap.size w5 u) => (row_arrD ((hu.block w.heap.size (lt_of_heap ha5)).trans ha5)))
  have O5 := Lib.hid (fun u (hu : Below w5.heap.size w5 u) => (by
    have hq := (hu.block (w.heap.size + 1) (lt_of_heap ho5)).trans ho5
    intro j v hv
    rw [Nat.zero_add, Lib.cell_of_heap hq]
    match j, hv with
    | 0, hv => simpa using hv
    | 1, hv => simpa using hv
    | j + 2, hv => simp at hv : u.rangeAt (w.heap.size + 1) 0 [.int .i64 k, .slice a n c]))
  have LO := Lib.hid (show (Tryz.prog.info? 52).map (·.size) = some ([Value.int .i64 k, .slice a n c] : List Value).length from infoOb)
  have CT := Lib.hid (fun u (hu : Below w5.heap.size w5 u) => typedP_is k hk a n c l u hn.symm (hba u hu) hno (by omega))
  have PU := Lib.hid (fun u (hu : Below w5.heap.size w5 u) (tv : Value) => (by
    have q := (hk5.map.keep (hu.block b hk5.map.lt)).put (v := tv) idKeyed Tryz.underlying64 (celP_keys (fun e he => (hk5.ent e he).1)) (key_idL i hi) hnewE hroomE
    rw [hA1] at q
    exact q : ∃ w', (Instr.mapUpdate 64 (.map (some b)) (.agg A1) tv).run Tryz.prog u = .ok () w' ∧ MapAt w' b (celP [] ++ [(.agg A1, tv)]) ∧ u.grownBy w' (some b) ∧ w'.heap.size = u.heap.size))
  have KI := Lib.hid hi; have KK := Lib.hid hk; have KA := Lib.hid hA1
  obtain ⟨T, hT, hth⟩ := kind_ty hk
  have TH := Lib.hid hth
  clear hk5 ha5 ho5 hba hnewE hroomE hn hno hk hi hA1 hT hth
  refine wp_regionX (S := fun u => Below w5.heap.size w5 u) (fun j => j == 7) (by kernel_rfl) (Below.refl _ _).drew (fun hHeld => ?_)
  refine wpAnyX_take (i := 0) (v := ?sv0) rfl (by kernel_rfl) (by kernel_rfl) (by kernel_rfl) (by kernel_rfl) (fun _ _ _ h => h) (Or.inl ⟨by kernel_rfl, ?sy0⟩) hHeld ?_
  case sy0 => intro u hu; go_simp; try with_reducible rfl
  try simp only [Act.put, List.setIfInBounds_toArray, List.set_cons_zero, List.set_cons_succ]
  refine wpAnyX_take (i := 1) (v := ?sv1) rfl (by kernel_rfl) (by kernel_rfl) (by kernel_rfl) (by kernel_rfl) (fun _ _ _ h => h) (Or.inl ⟨by kernel_rfl, ?sy1⟩) hHeld ?_
  case sy1 => intro u hu; go_simp; try with_reducible rfl
  try simp only [Act.put, List.setIfInBounds_toArray, List.set_cons_zero, List.set_cons_succ]
  refine wpAnyX_take (i := 2) (v := ?sv2) rfl (by kernel_rfl) (by kernel_rfl) (by kernel_rfl) (by kernel_rfl) (fun _ _ _ h => h) (Or.inl ⟨by kernel_rfl, ?sy2⟩) hHeld ?_
  case sy2 => intro u hu; go_simp; try with_reducible rfl
  try simp only [Act.put, List.setIfInBounds_toArray, List.set_cons_zero, List.set_cons_succ]
  refine wpAnyX_take (i := 3) (v := .map (some b)) rfl (by kernel_rfl) (by kernel_rfl) (by kernel_rfl) (by kernel_rfl) (fun _ _ _ h => h) (Or.inl ⟨by kernel_rfl, ?sy3x⟩) hHeld ?_
  case sy3x => intro u hu; have q := G5.out u hu; go_simp
  try simp only [Act.put, List.setIfInBounds_toArray, List.set_cons_zero, List.set_cons_succ]
  refine wpAnyX_take (i := 4) rfl (by kernel_rfl) (by kernel_rfl) (by kernel_rfl) (by kernel_rfl) (fun _ _ _ h => h) (yieldsIf_load_mid (by kernel_rfl) 27 (.tmp 4) (by kernel_rfl) w.heap.size 0 (by kernel_rfl) A1.toList _ (fun u hu => A5.out u hu) Tryz.underlying27 rfl LA.out) hHeld ?_
  try simp only [Act.put, List.setIfInBounds_toArray, List.set_cons_zero, List.set_cons_succ]
  refine wpAnyX_take (i := 5) rfl (by kernel_rfl) (by kernel_rfl) (by kernel_rfl) (by kernel_rfl) (fun _ _ _ h => h) (yieldsIf_load_mid (by kernel_rfl) 52 (.tmp 5) (by kernel_rfl) (w.heap.size + 1) 0 (by kernel_rfl) [.int .i64 k, .slice a n c] _ (fun u hu => O5.out u hu) Tryz.underlying52 rfl LO.out) hHeld ?_
  try simp only [Act.put, List.setIfInBounds_toArray, List.set_cons_zero, List.set_cons_succ]
  refine wpAnyX_ready (rs := [6]) (by kernel_rfl) (by simp) ?_
  refine AllReadyX.cons rfl (fun K hK => ?_) AllReadyX.nil
  go_simp
  refine (CT.out _ hHeld).mono ?_
  rintro e u1 ⟨v1, rfl, hr1, hf1, hI⟩
  have hF := fun q hq => Nat.le_trans hHeld.size (hf1 q hq)
  have hH := hHeld.trans (hI.mono hHeld.size)
  clear hHeld hI hf1
  obtain ⟨a1, n1, c1, rfl⟩ := row_shape hr1
  have R1 := Lib.hid hr1
  have F1 := Lib.hid hF
  clear hr1 hF
  rw [TH.out]
  refine hK.out _ _ (.inl hH) (fun _ => ?_)
  have hHeld := hH
  clear hK K
  try simp only [Act.put, List.setIfInBounds_toArray, List.set_cons_zero, List.set_cons_succ]
  refine wpAnyX_ready (rs := [7]) (by kernel_rfl) (by simp) ?_
  refine AllReadyX.cons rfl (fun K hK => ?_) AllReadyX.nil
  obtain ⟨u2, hrun, hm2, hg2, hs2⟩ := PU.out _ hHeld (.iface T (.agg #[.slice a1 n1 c1]))
  have HM := Lib.hid hm2
  have HG := Lib.hid hg2
  have HU := Lib.hid hHeld
  clear hm2 hg2 hs2 hHeld
  go_simp
  refine hK.out _ _ (.inr rfl) (fun _ => ?_)
  clear hK K
  try simp only [Act.put, List.getElem_toArray, List.getElem_cons_succ, List.getElem_cons_zero, List.setIfInBounds_toArray, List.set_cons_zero, List.set_cons_succ]
  refine wpAnyX_done (by kernel_rfl) ?_ _
  have FIN := Lib.hid (HK.out.put (i := i) (k := k) HU.out KI.out KK.out R1.out F1.out (by rw [KA.out, TH.out]; exact HM.out) HG.out)
  clear HM HG HU R1 F1 HK
  go_wp2
  go_ret
  exact ⟨rfl, FIN.out⟩
end Go.Proofs.YtnohonjjfjppoaaGreatDoor
