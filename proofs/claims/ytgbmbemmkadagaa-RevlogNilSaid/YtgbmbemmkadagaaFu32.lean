/-
  Texts that belong together, one behind the other.
-/
import Derived.Test.YtgbmbemmkadagaaFu31
import Derived.Test.YtgbmbemmkadagaaFu16
import Derived.Test.YtgbmbemmkadagaaFu01
import Derived.IntWalk
import Derived.WalkSmall
/-
  Layer 15, the program: Parents.
-/
namespace Go.Proofs.Ytgbmbemmkadagaa
set_option maxRecDepth 20000
open Go.RowKit Go.Maps
set_option linter.unusedVariables false
set_option linter.unusedSimpArgs false

theorem results_ids2 {fn : Func} {p q u : Tmp} (h : fn.results = #[.cell p 24, .cell q 24, .tmp u]) (tmps : Array Value) (w : World) (g k : Nat) (cs ds : Array Value) (fr fs : Nat × Nat) (x : Value)
    (hp : tmps.getD p undef = .pointer (some ⟨g, 0, none⟩)) (hq : tmps.getD q undef = .pointer (some ⟨k, 0, none⟩)) (hx : tmps.getD u undef = x) (hg : w.heap[g]? = some (.cells cs 24 fr)) (hk : w.heap[k]? = some (.cells ds 24 fs)) (hn : cs.size = 20) (hm : ds.size = 20) :
    (results fn tmps).run Try.prog w = .ok (.tuple #[.agg cs, .agg ds, x]) w := by
  have e1 := run_loadVar_row w g 24 24 cs fr _ hg Try.underlying24 rfl (by rw [infoD_n, hn])
  have e2 := run_loadVar_row w k 24 24 ds fs _ hk Try.underlying24 rfl (by rw [infoD_n, hm])
  have a1 : (asAddr (.pointer (some ⟨g, 0, none⟩))).run Try.prog w = .ok ⟨g, 0, none⟩ w := rfl
  have a2 : (asAddr (.pointer (some ⟨k, 0, none⟩))).run Try.prog w = .ok ⟨k, 0, none⟩ w := rfl
  rw [Array.getD_eq_getD_getElem?] at hp hq hx
  simp only [results, h]
  simp [Sem.run_bind, Result.andThen, hp, hq, hx, a1, a2, e1, e2]
/-- A block that stays as it is. -/
def BlkL (g : Nat) (A : Array Value) (u : World) : Prop := u.heap[g]? = some (.cells A 76 (0, 0))
theorem rgS {P : Program} {ops : Array Oper} {Q : Exit → Act → World → Prop} {S : World → Prop} {id : Nat} {a : Act} (W : World) (hS : S W.drew) (h : S W.drew → wpAnyH P .any ops Q S ops.size (Array.replicate ops.size false) a W.drew)
    (hm : P.follows .mixedOrders = true := by kernel_rfl) : (Code.region id ops true).wp P Q a W := wp_region_held_drew hm hS h
set_option maxHeartbeats 16000000 in
theorem parentsL_any {po : Option Addr} {w : World} (i : List UInt8) (hi : i.length = 20) (er : Int) (en : Enl) (hp : en.r.p.length = 20) (hq : en.r.q.length = 20) (h1 : en.v.oneCell' = true) (hf : ∀ u, Below w.heap.size w u → Calls Try.prog 32 #[.pointer po, .agg (arrD i)] u fun e w' => e = .returned (.tuple #[.agg (arrL en), .int .i64 er]) ∧ Below u.heap.size u w') :
    Calls Try.prog 19 #[.pointer po, .agg (arrD i)] w fun e w' => e = .returned (.tuple #[.agg (arrD en.r.p), .agg (arrD en.r.q), .int .i64 er]) ∧ Below w.heap.size w w' := by
  obtain ⟨Z, hZ, sZ, zr, bZ, oZ⟩ := zEnt_any
  obtain ⟨z, hz0, hzs, hzv, hzb, hz1⟩ := zId_any
  obtain ⟨A, hA⟩ : ∃ A, arrD i = A := ⟨_, rfl⟩
  have IA := Lib.hid (infoD_arr A (by rw [← hA]; exact arrD_size i hi))
  have es := arrL_size en hp hq
  have eo := arrL_one en h1
  have ROWS := Lib.hid (fun (u : World) (g : Nat) (h : u.heap[g]? = some (.cells (arrL en) 76 (0, 0))) => rowL_p h hp hq)
  obtain ⟨EA, hEA⟩ : ∃ EA, arrL en = EA := ⟨_, rfl⟩
  rw [hEA] at es eo hf ROWS
  have EO := Lib.hid eo; have SEZ := Lib.hid (show EA.size = Z.size by rw [es, sZ]); have IE := Lib.hid (infoEnt_arr EA es)
  have LP := Lib.hid (show (Try.prog.info? 24).map (·.size) = some (cellsD en.r.p).length by rw [cellsD_len _ hp]; exact infoD_n)
  have LQ := Lib.hid (show (Try.prog.info? 24).map (·.size) = some (cellsD en.r.q).length by rw [cellsD_len _ hq]; exact infoD_n)
  have sP := arrD_size en.r.p hp
  have sQ := arrD_size en.r.q hq
  have oP := arrD_one en.r.p
  have oQ := arrD_one en.r.q
  unfold arrD at sP sQ oP oQ ⊢
  obtain ⟨cp, hcp⟩ : ∃ cp, cellsD en.r.p = cp := ⟨_, rfl⟩
  obtain ⟨cq, hcq⟩ : ∃ cq, cellsD en.r.q = cq := ⟨_, rfl⟩
  rw [hcp] at LP sP oP ROWS ⊢
  rw [hcq] at LQ sQ oQ ROWS ⊢
  have SP := Lib.hid sP; have SQ := Lib.hid sQ; have OP := Lib.hid oP; have OQ := Lib.hid oQ
  have SPZ := Lib.hid (show cp.toArray.size = z.size by rw [sP, hzs])
  have SQZ := Lib.hid (show cq.toArray.size = z.size by rw [sQ, hzs])
  have IP := Lib.hid (infoD_arr cp.toArray sP)
  have IQ := Lib.hid (infoD_arr cq.toArray sQ)
  rw [show (cellsD i).toArray = A from hA]
  rw [hA] at hf
  have b1 := (Below.refl w.heap.size w).alloc (Nat.le_refl _) (.cells A 24)
  have b2 := b1.alloc b1.size (.cells z 24)
  have b3 := b2.alloc b2.size (.cells z 24)
  have e1 : (w.alloc (.cells A 24)).heap.size = w.heap.size + 1 := by simp
  have e2 : ((w.alloc (.cells A 24)).alloc (.cells z 24)).heap.size = w.heap.size + 2 := by simp
  have k1 := heap_alloc_new w (.cells A 24)
  have k2 := heap_alloc_new (w.alloc (.cells A 24)) (.cells z 24)
  have k3 := heap_alloc_new ((w.alloc (.cells A 24)).alloc (.cells z 24)) (.cells z 24)
  rw [e1] at k2
  rw [e2] at k3
  have k1' := (Below.heap_alloc (w.alloc (.cells A 24)) (.cells z 24) w.heap.size (by simp)).trans k1
  have k1'' := (Below.heap_alloc ((w.alloc (.cells A 24)).alloc (.cells z 24)) (.cells z 24) w.heap.size (by simp; omega)).trans k1'
  have k2' := (Below.heap_alloc ((w.alloc (.cells A 24)).alloc (.cells z 24)) (.cells z 24) (w.heap.size + 1) (by simp)).trans k2
  obtain ⟨w1, hw1⟩ : ∃ w1, ((w.alloc (.cells A 24)).alloc (.cells z 24)).alloc (.cells z 24) = w1 := ⟨_, rfl⟩
  rw [hw1] at b3 k3 k1'' k2'
  have W1 := Lib.hid hw1
  have Z1 := Lib.hid (show w1.heap.size = w.heap.size + 3 by rw [← hw1]; simp)
  have X1 := Lib.hid (show (((w.alloc (.cells A 24)).alloc (.cells z 24)).alloc (.cells z 24)).heap[w.heap.size]? = some (.cells A 24 (0, 0)) by rw [hw1]; exact k1''); have X2 := Lib.hid k2'; have X3 := Lib.hid k3
  have B1 := Lib.hid b3
  have CF := Lib.hid (hf _ b3)
  clear hZ sZ bZ oZ hz0 hzs hzb hz1 hA hi hp hq h1 es eo hEA hcp hcq sP sQ oP oQ hf b1 b2 b3 e1 e2 k1 k2 k3 k1' k1'' k2' hw1
  go_enter Try.func19, Try.ntmps19
  go_wp2_with (first
    | (with_reducible refine wpList_load_all 24 (.tmp 3) rfl (by kernel_rfl) w.heap.size A 24 (0, 0) rfl X1.out _ Try.underlying24 rfl IA.out ?_)
    | fail)
  rw [W1.out]
  refine CF.out.mono ?_
  rintro e w2 ⟨rfl, hb2⟩
  have B2 := Lib.hid (B1.out.trans (hb2.mono B1.out.size))
  have B3 := Lib.hid (B2.out.alloc B2.out.size (.cells Z 76))
  have NW := Lib.hid (heap_alloc_new w2 (.cells Z 76))
  have ZZ := Lib.hid (show w1.heap.size ≤ w2.heap.size from hb2.size)
  have Y2 := Lib.hid ((Below.heap_alloc w2 (.cells Z 76) (w.heap.size + 1) (by have := ZZ.out; have := Z1.out; omega)).trans ((hb2.block _ (by have := Z1.out; omega)).trans X2.out))
  have Y3 := Lib.hid ((Below.heap_alloc w2 (.cells Z 76) (w.heap.size + 2) (by have := ZZ.out; have := Z1.out; omega)).trans ((hb2.block _ (by have := Z1.out; omega)).trans X3.out))
  clear hb2 CF
  go_wp2_with (first
    | (with_reducible refine wpList_store_all rfl 76 (.tmp 7) (.tmp 13) rfl w2.heap.size EA rfl rfl 76 Z NW.out IE.out SEZ.out EO.out ?_; intro w5 r5 o5 s5)
    | fail)
  have B5 := Lib.hid (B3.out.trans (o5.below (B := w.heap.size) B2.out.size B3.out.size))
  have V2 := Lib.hid ((o5.block (w.heap.size + 1) (by have := ZZ.out; have := Z1.out; simp; omega) (by have := ZZ.out; have := Z1.out; omega)).trans Y2.out)
  have V3 := Lib.hid ((o5.block (w.heap.size + 2) (by have := ZZ.out; have := Z1.out; simp; omega) (by have := ZZ.out; have := Z1.out; omega)).trans Y3.out)
  have S5 := Lib.hid (show w2.heap.size < w5.heap.size from lt_of_heap r5)
  have RP := Lib.hid (fun (u : World) (hu : BlkL w2.heap.size EA u) => (ROWS.out u w2.heap.size hu).1)
  have RQ := Lib.hid (fun (u : World) (hu : BlkL w2.heap.size EA u) => (ROWS.out u w2.heap.size hu).2)
  clear o5 s5 NW
  refine rgS (S := BlkL w2.heap.size EA) _ r5 (fun hHeld => ?_)
  refine tkW 0 rfl hHeld ?_
  refine tkH 1 rfl (yieldsIf_load_mid (by kernel_rfl) 24 (.tmp 15) (by kernel_rfl) w2.heap.size 0 (by kernel_rfl) cp _ (fun u hu => RP.out u hu) Try.underlying24 rfl LP.out) hHeld ?_
  refine tkW 2 rfl hHeld ?_
  refine tkH 3 rfl (yieldsIf_load_mid (by kernel_rfl) 24 (.tmp 17) (by kernel_rfl) w2.heap.size 20 (by kernel_rfl) cq _ (fun u hu => RQ.out u hu) Try.underlying24 rfl LQ.out) hHeld ?_
  refine tkW 4 rfl hHeld ?_
  try simp only [Act.put, List.getElem_toArray, List.getElem_cons_succ, List.getElem_cons_zero, lsA, lsZ, lsS]
  refine rdH 5 rfl (fun K hK => ?_)
  refine stepW rfl (wp_store_all 24 (.tmp 4) (.tmp 16) rfl (w.heap.size + 1) cp.toArray (by kernel_rfl) (by kernel_rfl) 24 z V2.out IP.out SPZ.out OP.out (fun u10 r10 o10 s10 => ?_))
  have hH := (o10.block w2.heap.size S5.out (by have := ZZ.out; have := Z1.out; omega)).trans hHeld
  have R10 := Lib.hid r10
  have B10 := Lib.hid (B5.out.drew.trans (o10.below (B := w.heap.size) (Nat.le_succ _) B5.out.size))
  have V10 := Lib.hid ((o10.block (w.heap.size + 2) (by have := ZZ.out; have := Z1.out; have := S5.out; show _ < w5.heap.size; omega) (by omega)).trans V3.out)
  have S10 := Lib.hid (show w5.heap.size ≤ u10.heap.size from o10.size)
  clear hHeld r10 o10 s10
  refine hK.out _ _ hH (fun hHeld => ?_)
  clear hK K
  try simp only [Act.put, List.getElem_toArray, List.getElem_cons_succ, List.getElem_cons_zero, lsA, lsZ, lsS]
  refine rdH 6 rfl (fun K hK => ?_)
  refine stepW rfl (wp_store_all 24 (.tmp 5) (.tmp 18) rfl (w.heap.size + 2) cq.toArray (by kernel_rfl) (by kernel_rfl) 24 z V10.out IQ.out SQZ.out OQ.out (fun u11 r11 o11 s11 => ?_))
  have hH := (o11.block w2.heap.size (Nat.lt_of_lt_of_le S5.out S10.out) (by have := ZZ.out; have := Z1.out; omega)).trans hHeld
  have R11 := Lib.hid r11
  have R10' := Lib.hid ((o11.block (w.heap.size + 1) (lt_of_heap R10.out) (by omega)).trans R10.out)
  have B11 := Lib.hid (B10.out.trans (o11.below (B := w.heap.size) (by omega) B10.out.size))
  clear hHeld r11 o11 s11
  refine hK.out _ _ hH (fun hHeld => ?_)
  clear hK K
  refine tkW 7 rfl hHeld ?_
  try simp only [Act.put, List.getElem_toArray, List.getElem_cons_succ, List.getElem_cons_zero, lsA, lsZ, lsS]
  refine wpAnyH_done (by kernel_rfl) ?_ _
  clear hHeld
  go_wp2
  exact bodyPost_ret (results_ids2 Try.results19 _ _ (w.heap.size + 1) (w.heap.size + 2) cp.toArray cq.toArray (0, 0) (0, 0) _ rfl rfl rfl R10'.out R11.out SP.out SQ.out) rfl ⟨rfl, B11.out⟩
theorem parentsL_nil (i : List UInt8) (hi : i.length = 20) (w : World) : Calls Try.prog 19 #[.pointer none, .agg (arrD i)] w fun e w' => e = .returned (.tuple #[.agg (arrD idZ), .agg (arrD idZ), .int .i64 2]) ∧ Below w.heap.size w w' :=
  parentsL_any i hi 2 zEnl rfl rfl rfl (fun u _ => findL_nil i u)
theorem parentsL_none {S : Nat → Prop} {w : World} {g : Nat} {L : LogV} (h : LogP S w g L) (i : List UInt8) (hi : i.length = 20) (hk : atLv L i = none) :
    Calls Try.prog 19 #[.pointer (some ⟨g, 0, none⟩), .agg (arrD i)] w fun e w' => e = .returned (.tuple #[.agg (arrD idZ), .agg (arrD idZ), .int .i64 6]) ∧ Below w.heap.size w w' := by
  refine parentsL_any i hi 6 zEnl rfl rfl rfl (fun u hu => ?_)
  obtain ⟨hg, E, v, mb, h2⟩ := h.below hu
  have := findL_is h2 i hi
  rw [entE_none hk, hk] at this
  exact this
theorem parentsL_some {S : Nat → Prop} {w : World} {g : Nat} {L : LogV} (h : LogP S w g L) (i : List UInt8) (hi : i.length = 20) {k : Nat} (hk : atLv L i = some k) (hl : k < L.length) :
    Calls Try.prog 19 #[.pointer (some ⟨g, 0, none⟩), .agg (arrD i)] w fun e w' => e = .returned (.tuple #[.agg (arrD (L[k]).p), .agg (arrD (L[k]).q), .int .i64 0]) ∧ Below w.heap.size w w' := by
  obtain ⟨hg, E, v, mb, h2⟩ := h
  obtain ⟨hl', hm, hr, hn⟩ := h2.entE_some hk
  obtain ⟨T, x, e⟩ := (h2.sto _ hm).iface
  have := parentsL_any (po := some ⟨g, 0, none⟩) (w := w) i hi 0 (entE L E i) (h2.ids _ hm).2.1 (h2.ids _ hm).2.2 (by rw [e]; rfl) (fun u hu => by
    have := findL_is (h2.keep hg (StayB.of hu)) i hi
    rw [hk] at this
    exact this)
  rw [hr] at this
  exact this
end Go.Proofs.Ytgbmbemmkadagaa

/-
  Layer 2: the small calls on words: RotateLeft32, join; of the reference left, mix.
-/
namespace Go.Proofs.Ytgbmbemmkadagaa
open Go.RowKit
set_option linter.unusedVariables false
set_option linter.unusedSimpArgs false

theorem ret_tup {k m : IntKind} {a b c d : Int} (h : a = b) (g : c = d) : Ending.returned (.tuple #[.int k a, .int m c]) = .returned (.tuple #[.int k b, .int m d]) := by rw [h, g]
theorem rot_flip {P : Program} {f : Nat} {args : Array Value} {w : World} {v : Value} (h : Calls P f args w fun e w' => e = .returned v ∧ w = w') : Calls P f args w fun e w' => e = .returned v ∧ w' = w := h.mono fun _ _ h => ⟨h.1, h.2.symm⟩
theorem shl_i (x : BitVec 32) (n : Nat) (m : Int) (hm : m = 2 ^ n) (X : Int) (hX : X = x.toNat) : X * m % 4294967296 = ((x <<< n).toNat : Int) := by subst hm; subst hX; exact b_shl x n
theorem shr_i (x : BitVec 32) (n : Nat) (m : Int) (hm : m = 2 ^ n) (X : Int) (hX : X = x.toNat) : X / m = ((x >>> n).toNat : Int) := by subst hm; subst hX; exact b_shr x n
theorem rl_1 (x : BitVec 32) : bits BinOp.or .u32 ((x.toNat : Int) * 2 % 4294967296) ((x.toNat : Int) / 2147483648) = (rl x 1).toNat := by
  rw [shl_i x 1 2 (by decide) _ rfl, shr_i x 31 2147483648 (by decide) _ rfl, b_or]
  rfl
theorem rl_5 (x : BitVec 32) : bits BinOp.or .u32 ((x.toNat : Int) * 32 % 4294967296) ((x.toNat : Int) / 134217728) = (rl x 5).toNat := by
  rw [shl_i x 5 32 (by decide) _ rfl, shr_i x 27 134217728 (by decide) _ rfl, b_or]
  rfl
theorem rl_30 (x : BitVec 32) : bits BinOp.or .u32 ((x.toNat : Int) * 1073741824 % 4294967296) ((x.toNat : Int) / 4) = (rl x 30).toNat := by
  rw [shl_i x 30 1073741824 (by decide) _ rfl, shr_i x 2 4 (by decide) _ rfl, b_or]
  rfl
theorem c_0 : (1518500249 : Int) = (0x5a827999#32).toNat := by decide
theorem c_1 : (1859775393 : Int) = (0x6ed9eba1#32).toNat := by decide
theorem c_2 : (2400959708 : Int) = (0x8f1bbcdc#32).toNat := by decide
theorem c_3 : (3395469782 : Int) = (0xca62c1d6#32).toNat := by decide
set_option maxHeartbeats 400000 in
theorem rot_1 (x : BitVec 32) (w : World) :
    Calls Try.prog 52 #[.int .u32 x.toNat, .int .i64 1] w fun e w' => e = .returned (.int .u32 (rl x 1).toNat) ∧ w = w' := by
  have hk : bits BinOp.and IntKind.u64 1 31 = 1 := by decide
  go_enter Try.func52, Try.ntmps52
  go_wp2
  go_ret
  exact ⟨ret_int (rl_1 x), rfl⟩
set_option maxHeartbeats 400000 in
theorem left_1 (x : BitVec 32) (w : World) :
    Calls Try.prog 35 #[.int .u32 x.toNat, .int .i64 1] w fun e w' => e = .returned (.int .u32 (rl x 1).toNat) ∧ w = w' := by
  have hk : bits BinOp.and IntKind.u64 1 31 = 1 := by decide
  go_enter Try.func35, Try.ntmps35
  go_wp2
  go_ret
  exact ⟨ret_int (rl_1 x), rfl⟩
set_option maxHeartbeats 400000 in
theorem rot_5 (x : BitVec 32) (w : World) :
    Calls Try.prog 52 #[.int .u32 x.toNat, .int .i64 5] w fun e w' => e = .returned (.int .u32 (rl x 5).toNat) ∧ w = w' := by
  have hk : bits BinOp.and IntKind.u64 5 31 = 5 := by decide
  go_enter Try.func52, Try.ntmps52
  go_wp2
  go_ret
  exact ⟨ret_int (rl_5 x), rfl⟩
set_option maxHeartbeats 400000 in
theorem left_5 (x : BitVec 32) (w : World) :
    Calls Try.prog 35 #[.int .u32 x.toNat, .int .i64 5] w fun e w' => e = .returned (.int .u32 (rl x 5).toNat) ∧ w = w' := by
  have hk : bits BinOp.and IntKind.u64 5 31 = 5 := by decide
  go_enter Try.func35, Try.ntmps35
  go_wp2
  go_ret
  exact ⟨ret_int (rl_5 x), rfl⟩
set_option maxHeartbeats 400000 in
theorem rot_30 (x : BitVec 32) (w : World) :
    Calls Try.prog 52 #[.int .u32 x.toNat, .int .i64 30] w fun e w' => e = .returned (.int .u32 (rl x 30).toNat) ∧ w = w' := by
  have hk : bits BinOp.and IntKind.u64 30 31 = 30 := by decide
  go_enter Try.func52, Try.ntmps52
  go_wp2
  go_ret
  exact ⟨ret_int (rl_30 x), rfl⟩
set_option maxHeartbeats 400000 in
theorem left_30 (x : BitVec 32) (w : World) :
    Calls Try.prog 35 #[.int .u32 x.toNat, .int .i64 30] w fun e w' => e = .returned (.int .u32 (rl x 30).toNat) ∧ w = w' := by
  have hk : bits BinOp.and IntKind.u64 30 31 = 30 := by decide
  go_enter Try.func35, Try.ntmps35
  go_wp2
  go_ret
  exact ⟨ret_int (rl_30 x), rfl⟩
set_option maxHeartbeats 400000 in
theorem join_0 (t : Nat) (h1 : t < 20) (b c d : BitVec 32) (w : World) :
    Calls Try.prog 53 #[.int .i64 t, .int .u32 b.toNat, .int .u32 c.toNat, .int .u32 d.toNat] w fun e w' => e = .returned (.int .u32 (fk t b c d).toNat) ∧ w = w' := by
  go_enter Try.func53, Try.ntmps53
  go_wp2
  go_ret
  refine ⟨ret_int ?_, rfl⟩
  unfold fk fF kF
  simp only [if_pos h1, b_and, b_or, b_xor, b_not, b_add, c_0, c_1, c_2, c_3, ch_xor, maj_xor]
set_option maxHeartbeats 400000 in
theorem rmix_0 (t : Nat) (h1 : t < 20) (b c d : BitVec 32) (w : World) :
    Calls Try.prog 36 #[.int .i64 t, .int .u32 b.toNat, .int .u32 c.toNat, .int .u32 d.toNat] w fun e w' => e = .returned (.tuple #[.int .u32 (fF t b c d).toNat, .int .u32 (kF t).toNat]) ∧ w = w' := by
  go_enter Try.func36, Try.ntmps36
  go_wp2
  go_ret2
  refine ⟨ret_tup ?_ ?_, rfl⟩
  · unfold fF
    simp only [if_pos h1, b_and, b_or, b_xor, b_not, b_add, c_0, c_1, c_2, c_3, ch_xor, maj_xor]
  · unfold kF
    simp only [if_pos h1]
    rfl
set_option maxHeartbeats 400000 in
theorem join_1 (t : Nat) (h0 : 20 ≤ t) (h1 : t < 40) (b c d : BitVec 32) (w : World) :
    Calls Try.prog 53 #[.int .i64 t, .int .u32 b.toNat, .int .u32 c.toNat, .int .u32 d.toNat] w fun e w' => e = .returned (.int .u32 (fk t b c d).toNat) ∧ w = w' := by
  go_enter Try.func53, Try.ntmps53
  go_wp2
  go_ret
  refine ⟨ret_int ?_, rfl⟩
  unfold fk fF kF
  simp only [if_neg (show ¬ t < 20 by omega), if_pos h1, b_and, b_or, b_xor, b_not, b_add, c_0, c_1, c_2, c_3, ch_xor, maj_xor]
set_option maxHeartbeats 400000 in
theorem rmix_1 (t : Nat) (h0 : 20 ≤ t) (h1 : t < 40) (b c d : BitVec 32) (w : World) :
    Calls Try.prog 36 #[.int .i64 t, .int .u32 b.toNat, .int .u32 c.toNat, .int .u32 d.toNat] w fun e w' => e = .returned (.tuple #[.int .u32 (fF t b c d).toNat, .int .u32 (kF t).toNat]) ∧ w = w' := by
  go_enter Try.func36, Try.ntmps36
  go_wp2
  go_ret2
  refine ⟨ret_tup ?_ ?_, rfl⟩
  · unfold fF
    simp only [if_neg (show ¬ t < 20 by omega), if_pos h1, b_and, b_or, b_xor, b_not, b_add, c_0, c_1, c_2, c_3, ch_xor, maj_xor]
  · unfold kF
    simp only [if_neg (show ¬ t < 20 by omega), if_pos h1]
    rfl
set_option maxHeartbeats 400000 in
theorem join_2 (t : Nat) (h0 : 40 ≤ t) (h1 : t < 60) (b c d : BitVec 32) (w : World) :
    Calls Try.prog 53 #[.int .i64 t, .int .u32 b.toNat, .int .u32 c.toNat, .int .u32 d.toNat] w fun e w' => e = .returned (.int .u32 (fk t b c d).toNat) ∧ w = w' := by
  go_enter Try.func53, Try.ntmps53
  go_wp2
  go_ret
  refine ⟨ret_int ?_, rfl⟩
  unfold fk fF kF
  simp only [if_neg (show ¬ t < 20 by omega), if_neg (show ¬ t < 40 by omega), if_pos h1, b_and, b_or, b_xor, b_not, b_add, c_0, c_1, c_2, c_3, ch_xor, maj_xor]
set_option maxHeartbeats 400000 in
theorem rmix_2 (t : Nat) (h0 : 40 ≤ t) (h1 : t < 60) (b c d : BitVec 32) (w : World) :
    Calls Try.prog 36 #[.int .i64 t, .int .u32 b.toNat, .int .u32 c.toNat, .int .u32 d.toNat] w fun e w' => e = .returned (.tuple #[.int .u32 (fF t b c d).toNat, .int .u32 (kF t).toNat]) ∧ w = w' := by
  go_enter Try.func36, Try.ntmps36
  go_wp2
  go_ret2
  refine ⟨ret_tup ?_ ?_, rfl⟩
  · unfold fF
    simp only [if_neg (show ¬ t < 20 by omega), if_neg (show ¬ t < 40 by omega), if_pos h1, b_and, b_or, b_xor, b_not, b_add, c_0, c_1, c_2, c_3, ch_xor, maj_xor]
  · unfold kF
    simp only [if_neg (show ¬ t < 20 by omega), if_neg (show ¬ t < 40 by omega), if_pos h1]
    rfl
set_option maxHeartbeats 400000 in
theorem join_3 (t : Nat) (h0 : 60 ≤ t) (h1 : t < 80) (b c d : BitVec 32) (w : World) :
    Calls Try.prog 53 #[.int .i64 t, .int .u32 b.toNat, .int .u32 c.toNat, .int .u32 d.toNat] w fun e w' => e = .returned (.int .u32 (fk t b c d).toNat) ∧ w = w' := by
  go_enter Try.func53, Try.ntmps53
  go_wp2
  go_ret
  refine ⟨ret_int ?_, rfl⟩
  unfold fk fF kF
  simp only [if_neg (show ¬ t < 20 by omega), if_neg (show ¬ t < 40 by omega), if_neg (show ¬ t < 60 by omega), b_and, b_or, b_xor, b_not, b_add, c_0, c_1, c_2, c_3, ch_xor, maj_xor]
set_option maxHeartbeats 400000 in
theorem rmix_3 (t : Nat) (h0 : 60 ≤ t) (h1 : t < 80) (b c d : BitVec 32) (w : World) :
    Calls Try.prog 36 #[.int .i64 t, .int .u32 b.toNat, .int .u32 c.toNat, .int .u32 d.toNat] w fun e w' => e = .returned (.tuple #[.int .u32 (fF t b c d).toNat, .int .u32 (kF t).toNat]) ∧ w = w' := by
  go_enter Try.func36, Try.ntmps36
  go_wp2
  go_ret2
  refine ⟨ret_tup ?_ ?_, rfl⟩
  · unfold fF
    simp only [if_neg (show ¬ t < 20 by omega), if_neg (show ¬ t < 40 by omega), if_neg (show ¬ t < 60 by omega), b_and, b_or, b_xor, b_not, b_add, c_0, c_1, c_2, c_3, ch_xor, maj_xor]
  · unfold kF
    simp only [if_neg (show ¬ t < 20 by omega), if_neg (show ¬ t < 40 by omega), if_neg (show ¬ t < 60 by omega)]
    rfl
theorem rot_1i (X : Int) (x : BitVec 32) (h : X = x.toNat) (w : World) : Calls Try.prog 52 #[.int .u32 X, .int .i64 1] w fun e w' => e = .returned (.int .u32 (rl x 1).toNat) ∧ w = w' := by subst h; exact rot_1 x w
theorem rot_5i (X : Int) (x : BitVec 32) (h : X = x.toNat) (w : World) : Calls Try.prog 52 #[.int .u32 X, .int .i64 5] w fun e w' => e = .returned (.int .u32 (rl x 5).toNat) ∧ w = w' := by subst h; exact rot_5 x w
theorem rot_30i (X : Int) (x : BitVec 32) (h : X = x.toNat) (w : World) : Calls Try.prog 52 #[.int .u32 X, .int .i64 30] w fun e w' => e = .returned (.int .u32 (rl x 30).toNat) ∧ w = w' := by subst h; exact rot_30 x w
theorem left_1i (X : Int) (x : BitVec 32) (h : X = x.toNat) (w : World) : Calls Try.prog 35 #[.int .u32 X, .int .i64 1] w fun e w' => e = .returned (.int .u32 (rl x 1).toNat) ∧ w = w' := by subst h; exact left_1 x w
theorem left_5i (X : Int) (x : BitVec 32) (h : X = x.toNat) (w : World) : Calls Try.prog 35 #[.int .u32 X, .int .i64 5] w fun e w' => e = .returned (.int .u32 (rl x 5).toNat) ∧ w = w' := by subst h; exact left_5 x w
theorem left_30i (X : Int) (x : BitVec 32) (h : X = x.toNat) (w : World) : Calls Try.prog 35 #[.int .u32 X, .int .i64 30] w fun e w' => e = .returned (.int .u32 (rl x 30).toNat) ∧ w = w' := by subst h; exact left_30 x w
theorem join_any (t : Nat) (h : t < 80) (b c d : BitVec 32) (w : World) :
    Calls Try.prog 53 #[.int .i64 t, .int .u32 b.toNat, .int .u32 c.toNat, .int .u32 d.toNat] w fun e w' => e = .returned (.int .u32 (fk t b c d).toNat) ∧ w = w' := by
  by_cases h1 : t < 20
  · exact join_0 t h1 b c d w
  · by_cases h2 : t < 40
    · exact join_1 t (by omega) h2 b c d w
    · by_cases h3 : t < 60
      · exact join_2 t (by omega) h3 b c d w
      · exact join_3 t (by omega) h b c d w
theorem rmix_any (t : Nat) (h : t < 80) (b c d : BitVec 32) (w : World) :
    Calls Try.prog 36 #[.int .i64 t, .int .u32 b.toNat, .int .u32 c.toNat, .int .u32 d.toNat] w fun e w' => e = .returned (.tuple #[.int .u32 (fF t b c d).toNat, .int .u32 (kF t).toNat]) ∧ w = w' := by
  by_cases h1 : t < 20
  · exact rmix_0 t h1 b c d w
  · by_cases h2 : t < 40
    · exact rmix_1 t (by omega) h2 b c d w
    · by_cases h3 : t < 60
      · exact rmix_2 t (by omega) h3 b c d w
      · exact rmix_3 t (by omega) h b c d w
end Go.Proofs.Ytgbmbemmkadagaa
