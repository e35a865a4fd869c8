/-
  Layer 12, the program: who is wanted (closed).
-/
import Derived.Test.YtajmgjhknmkfpaaUm
namespace Go.Proofs.Ytajmgjhknmkfpaa
set_option maxRecDepth 20000
open Go.RowKit Go.Maps
attribute [local go_sem] Oper.semAt_some
set_option linter.unusedVariables false
set_option linter.unusedSimpArgs false

/-- 'make([]T, n)' inside a fence. -/
theorem wpListIn_make_full {F : Fence} {n : Nat} {P : Program} (w : World) {ops : Array Oper} {rest : List Oper} {o : Oper} {a : Act} {Q : Exit → Act → World → Prop}
    (hg : o.guard = none) (l c : Operand) (t : TypeId) (hop : o.op = Op.makeSlice t l c)
    (base : Nat) (e : TypeId) (i : TypeInfo) (z : Value) (size : Nat) (h1 : P.underlying t = some (.slice e)) (h2 : P.info? e = some i) (h3 : i.zero = some z) (h4 : i.size = size)
    (kl kc : IntKind) (C D : Int) (m : Nat) (hl : a.eval l = .int kl C) (hc : a.eval c = .int kc D) (hC : C = (m : Int)) (hD : D = (m : Int)) (b2 : i.bytes * m ≤ 281474976710656) (b3 : m ≤ maxLen) (b4 : base ≤ w.heap.size)
    (hK : ∀ w', w'.ownsRow base e size (.slice (some ⟨w.heap.size, 0, none⟩) m m) m (madeCells z.cells (m * size)).toList → w.grownBy w' none → wpListIn F n P ops Q rest (a.put o.dst (.slice (some ⟨w.heap.size, 0, none⟩) m m)) w') :
    wpListIn F n P ops Q (o :: rest) a w := by
  refine wpListIn_plain hg fun K hK' => ?_
  obtain ⟨w', hrun, r1, r2⟩ := run_make_full (P := P) w base t e i z size h1 h2 h3 h4 kl kc m b2 b3 b4
  subst hC
  subst hD
  unfold Oper.wpIn
  refine ⟨?_, ?_⟩
  · simp [Oper.about, hop]
  · rw [Oper.semAt_plain F _ _ (by rw [hop]; intro c hc'; cases hc')]
    simp [execOp, hop, hl, hc, hrun, Result.andThen]
    exact hK' _ _ (hK w' r1 r2)
theorem KeepC.cell {m : Nat} {W W' : World} {p : Addr} {v : Value} (h : KeepC m W W') (hc : W.cell? p = some v) (hp : p.block ≠ m) : W'.cell? p = some v := by
  unfold World.cell? at hc ⊢
  cases hb : W.heap[p.block]? with
  | none => rw [hb] at hc; cases hc
  | some o =>
    cases o with
    | cells c t fr => rw [h.2 _ c t fr hp hb]; rw [hb] at hc; exact hc
    | _ => rw [hb] at hc; cases hc
/-- The frame of closed while a round goes on. -/
def frC (p : Value) (pv : Value) (sv : Value) (len : Nat) (mv : Value) (bi fv : Value) (x : Value) (bx : Value) (a19 a20 : Value) : Act :=
  { tmps := #[p, pv, undef, undef, .slice none 0 0, sv, bi, x, bx, p, sv, sv, .int .i64 (len : Int), mv, mv, pv, .tuple #[], sv, fv, a19, a20, undef, undef, undef, undef, undef, undef, undef, undef, undef], defers := [] }
/-- The rounds' marks, one after the other. -/
def foldC (L : List Gn) (s : List Bool) (pre : List Nat) : List Bool := pre.foldl (stepG L) s
theorem foldC_down (L : List Gn) : ∀ (n : Nat) (s : List Bool), foldC L s (List.range n).reverse = backG L n s
  | 0, s => rfl
  | n + 1, s => by
    rw [List.range_succ, List.reverse_append]
    show foldC L (stepG L s n) (List.range n).reverse = backG L n (stepG L s n)
    exact foldC_down L n _
theorem foldC_len (L : List Gn) : ∀ (pre : List Nat) (s : List Bool), (foldC L s pre).length = s.length
  | [], s => rfl
  | k :: r, s => by
    show (foldC L (stepG L s k) r).length = s.length
    rw [foldC_len L r, stepG_len]
/-- Between two rounds. -/
def IC (L : List Gn) (w : World) (m B6 n : Nat) (s0 : List Bool) (E : List Enn) (pre : List (Fin E.length)) (W : World) : Prop :=
  MarksAt W m n (foldC L s0 (pre.map Fin.val)) ∧ W.heap[B6]? = some (.cells #[.slice (some ⟨m, 0, none⟩) n n] 73 (0, 0)) ∧ Below w.heap.size w W
theorem MarksAt.blk {w : World} {m n : Nat} {s : List Bool} (h : MarksAt w m n s) : ∃ cs t fr, w.heap[m]? = some (.cells cs t fr) := by
  rcases h.2.2 with ⟨h', _⟩ | ⟨g', cap', cur, h', hb', hg, r⟩
  · simp at h'
  · simp only [Value.slice.injEq, Option.some.injEq, Addr.mk.injEq, and_true] at h'
    obtain ⟨rfl, _⟩ := h'
    exact ⟨_, _, _, hg⟩
theorem IC_own (L : List Gn) (w : World) (m B6 n : Nat) (s0 : List Bool) (E : List Enn) (B : Nat) (hB : w.heap.size ≤ B) : OwnFrom B (IC L w m B6 n s0 E) := by
  intro s W W' row h hg hr
  obtain ⟨h1, h2, h3⟩ := h
  have old : ∀ (k : Nat) (cs : Array Value) (t : TypeId) (fr : Nat × Nat), W.heap[k]? = some (.cells cs t fr) → W'.heap[k]? = W.heap[k]? := fun k cs t fr hk => hg.block k (lt_of_heap hk) (fun e => by
    obtain ⟨_, o, ho, hc⟩ := hr k e.symm
    rw [hk] at ho
    cases ho
    cases hc)
  obtain ⟨cs, t, fr, hm⟩ := h1.blk
  exact ⟨h1.keep (old m _ _ _ hm), (old B6 _ _ _ h2).trans h2, h3.grown hg h3.size (fun k hk => Nat.le_trans hB (hr k hk).1)⟩
/-- In a round: the node in a block of its own. -/
def AC (p pv sv : Value) (len m B6 Bs : Nat) (E : List Enn) (x : Fin E.length) (a' : Act) (W : World) : Prop :=
  ∃ Bx, B6 < Bx ∧ W.heap[Bx]? = some (.cells (cellsN E[x.val]).toArray 65 (0, 0)) ∧
    a' = frC p pv sv len (.slice (some ⟨m, 0, none⟩) len len) (.pointer (some ⟨B6, 0, none⟩)) (.func (.func 50) #[] #[.pointer (some ⟨Bs, 0, none⟩)]) (.int .i64 (x.val : Int)) (.pointer (some ⟨Bx, 0, none⟩)) (.int .i64 (x.val : Int)) (.agg (cellsN E[x.val]).toArray)
theorem AC_own (p pv sv : Value) (len m B6 Bs : Nat) (E : List Enn) (B : Nat) (x : Fin E.length) (a' : Act) : OwnFrom B (fun (_ : Unit) W => AC p pv sv len m B6 Bs E x a' W) := by
  intro s W W' row ⟨Bx, h1, h2, h3⟩ hg hr
  refine ⟨Bx, h1, (hg.block Bx (lt_of_heap h2) (fun e => ?_)).trans h2, h3⟩
  obtain ⟨_, o, ho, hc⟩ := hr Bx e.symm
  rw [h2] at ho
  cases ho
  cases hc
theorem infoB_all : ∃ ie, Try.prog.info? 4 = some ie ∧ ie.zero = some (.bool false) ∧ ie.size = 1 ∧ ie.bytes = 1 := by
  have h : (Try.prog.info? 4).map (fun i => (i.zero, i.size, i.bytes)) = some (some (.bool false), 1, 1) := by kernel_rfl
  cases hq : Try.prog.info? 4 with
  | none => rw [hq] at h; cases h
  | some ie =>
    rw [hq] at h
    simp only [Option.map_some, Option.some.injEq, Prod.mk.injEq] at h
    exact ⟨ie, rfl, h.1, h.2.1, h.2.2⟩
/-- Marks that have just been made: none. -/
theorem marks_new {w : World} {m n : Nat} (h : w.ownsRow 0 4 1 (.slice (some ⟨m, 0, none⟩) n n) n (madeCells (Value.bool false).cells (n * 1)).toList) : MarksAt w m n (List.replicate n false) := by
  refine ⟨by simp, ?_⟩
  unfold OwnR
  rw [List.length_replicate, flatB]
  rw [show (Value.bool false).cells = #[.bool false] from rfl, Nat.mul_one, toList_madeCells_one] at h
  rw [List.map_replicate]
  exact h
set_option maxRecDepth 100000 in
set_option maxHeartbeats 16000000 in
theorem closedP_any {w : World} {p : Option Addr} {a : Option Addr} {c : Nat} {L : List Gn} {E : List Enn} (G : GoodG L) (hens : E.map Enn.n = L) (n : Nat) (hn : L.length = n) (hn6 : n ≤ 1000000) (hc : n ≤ c)
    (hall : ∀ u, Below w.heap.size w u → Calls Try.prog 39 #[.pointer p] u fun e w' => e = .returned (.slice a n c) ∧ w' = u)
    (hrow : RowAt rowP w a E) (hred : ∀ e ∈ E, okN e ∧ RedR rowN (fun _ => True) w e.v e.n.pl) (hfew : ∀ k, (plAt L k).length ≤ 1000)
    (pv : Value) (l : List Nat) (hpv : RedR rowN (fun _ => True) w pv l) (hl : ∀ p ∈ l, p < n) (hll : l.length ≤ 1000000) :
    Calls Try.prog 42 #[.pointer p, pv] w fun e w' => e = .returned (.slice (some ⟨w.heap.size, 0, none⟩) n n) ∧ MarksAt w' w.heap.size n (closedG L l) ∧ Below w.heap.size w w' := by
  refine (callsIn_wide (n := 6)).1 ?_
  have hEn : E.length = n := by rw [← hn, ← hens, List.length_map]
  obtain ⟨ib, hib, hbz, hbs, hbb⟩ := infoB_all
  obtain ⟨z, hzs, hzv⟩ := zNode_any
  have hf1 : Fence.wide.fn 39 := trivial
  have hf2 : Fence.wide.fn 40 := trivial
  have hf3 : Fence.wide.fn 47 := trivial
  have CA := Lib.hid (hall w (Below.refl _ _))
  have HPV := Lib.hid hpv
  obtain ⟨pa, pc, hpve, -⟩ := hpv
  obtain ⟨pl, hpl⟩ : ∃ m, l.length = m := ⟨_, rfl⟩
  rw [hpl] at hpve
  subst hpve
  have ZS := Lib.hid hzs; have HROW := Lib.hid hrow; have HRED := Lib.hid hred; have HEN := Lib.hid hEn; have HL := Lib.hid hl; have HLL := Lib.hid hll; have HN := Lib.hid hn; have HG := Lib.hid G; have HENS := Lib.hid hens; have HFEW := Lib.hid hfew
  clear hall hpl hzs hrow hred hEn hl hll hn G hens hfew
  refine callsIn_of_wp_marks Try.func42 rfl trivial ?_ rfl
  simp only [Try.ntmps42, List.size_toArray, List.length_cons, List.length_nil, Nat.reduceAdd, Nat.reduceSub, Array.replicate_succ, Array.replicate_zero, List.push_toArray, List.append_toArray, List.nil_append, List.cons_append]
  gi_wp2_with (first
    | (refine ⟨trivial, ?_⟩; gi_at_call 39; refine (callsIn_wide.2 CA.out).mono ?_; rintro e w1 ⟨rfl, rfl⟩)
    | (gi_at_call 39; refine (callsIn_wide.2 CA.out).mono ?_; rintro e w1 ⟨rfl, rfl⟩)
    | (gi_at_make; refine wpListIn_make_full _ rfl _ _ 73 rfl 0 4 ib (.bool false) 1 Try.underlying73 hib hbz hbs _ _ _ _ n rfl rfl rfl rfl (by rw [hbb]; omega) (by unfold maxLen; omega) (Nat.zero_le _) ?_; intro w2 ho2 hg2; have M2 := Lib.hid (marks_new ho2); have B2 := Lib.hid ((Below.refl w1.heap.size w1).grown hg2 (Nat.le_refl _) (fun k h => by cases h)); have M3 := Lib.hid M2.out.lt; clear ho2 hg2; obtain ⟨m, hm⟩ : ∃ m, w1.heap.size = m := ⟨_, rfl⟩; have HM := Lib.hid hm; rw [hm] at M2 M3 ⊢; clear hm)
    | fail)
  obtain ⟨B6, hB6⟩ : ∃ B6, w2.heap.size = B6 := ⟨_, rfl⟩
  have hm6 : m < B6 := by rw [← hB6]; exact M3.out
  have x3 := heap_alloc_new w2 (.cells #[.slice (some ⟨m, 0, none⟩) n n] 73)
  have b23 := (Below.refl w2.heap.size w2).alloc (Nat.le_refl _) (.cells #[.slice (some ⟨m, 0, none⟩) n n] 73)
  have b13 : Below w1.heap.size w1 (w2.alloc (.cells #[.slice (some ⟨m, 0, none⟩) n n] 73)) := B2.out.trans (b23.mono B2.out.size)
  have rp : RedR rowN (fun k => k ≠ m) (w2.alloc (.cells #[.slice (some ⟨m, 0, none⟩) n n] 73)) (.slice pa pl pc) l :=
    ((HPV.out.mono (S' := fun k => k < w1.heap.size) (fun k hk _ => hk)).keep ⟨b13.size, fun k hk _ => b13.block k hk⟩).mono (fun k _ hk => by have := HM.out; omega)
  have CM := markP_is (M2.out.below b23) hn6 (.slice pa pl pc) l rp HL.out HLL.out
  obtain ⟨w3, hw3⟩ : ∃ w3, w2.alloc (.cells #[.slice (some ⟨m, 0, none⟩) n n] 73) = w3 := ⟨_, rfl⟩
  rw [hw3] at x3 b13 CM ⊢
  rw [hB6] at x3 ⊢
  obtain ⟨s0, hs0⟩ : ∃ s0, markL (List.replicate n false) l = s0 := ⟨_, rfl⟩
  have S0 := Lib.hid hs0
  rw [hs0] at CM
  have X3 := Lib.hid x3; have B13 := Lib.hid b13
  clear x3 b13 b23 rp hw3 hs0 HPV
  refine (callsIn_wide.2 CM).mono ?_
  rintro e w4 ⟨rfl, hm4, hc4⟩
  have M4 := Lib.hid hm4
  have X4 := Lib.hid ((hc4.block B6 (lt_of_heap X3.out) (fun e => by omega)).trans X3.out)
  have B14 := Lib.hid (B13.out.trans (hc4.below (by have := B13.out.size; omega) (fun i _ hi => by have := HM.out; omega)))
  clear hm4 hc4 CM X3 B13 M2 M3 hB6
  gi_wp2_with (first
    | (gi_at_call 47; refine (backward_in Fence.wide _ trivial rfl a n c _).mono ?_; rintro e w5 ⟨rfl, rfl⟩)
    | fail)
  have x5 := heap_alloc_new w4 (.cells #[.slice a n c] 54)
  have b45 := (Below.refl w4.heap.size w4).alloc (Nat.le_refl _) (.cells #[.slice a n c] 54)
  have B15 := Lib.hid (B14.out.trans (b45.mono B14.out.size))
  have M5 := Lib.hid (M4.out.below b45)
  have X6 := Lib.hid ((b45.block B6 (lt_of_heap X4.out)).trans X4.out)
  have hB5 : B6 < w4.heap.size := lt_of_heap X4.out
  obtain ⟨Bs, hBs⟩ : ∃ Bs, w4.heap.size = Bs := ⟨_, rfl⟩
  rw [hBs] at x5 hB5 ⊢
  obtain ⟨w5, hw5⟩ : ∃ w5, w4.alloc (.cells #[.slice a n c] 54) = w5 := ⟨_, rfl⟩
  rw [hw5] at x5 B15 M5 X6 ⊢
  have X5 := Lib.hid x5
  have hseq : SeqStopsK Fence.wide 5 Try.prog 50 #[.pointer (some ⟨Bs, 0, none⟩)] (encN E) (KeepC m) (fun xs => xs.map Fin.val = (List.range n).reverse) (fun _ => True) E.length w5 := by
    intro ll J Jx W hW hJ hJx hY h0
    refine back1_in Fence.wide 5 trivial rfl (by omega) ll Bs m n c a E HEN.out hn6 (fun e he => (HRED.out e he).1) J Jx hY W ((hW.block Bs (lt_of_heap X5.out)).trans X5.out) (by omega) hc (fun W' hk => ?_) h0
    intro hp
    obtain ⟨b, o, h1, h2, h3⟩ := HROW.out hp
    have hbW : Below w1.heap.size w1 W := B15.out.trans (hW.mono B15.out.size)
    have hsz := hbW.size
    have hsz2 := hk.1
    refine ⟨b, o, h1, by omega, fun k hk2 j v hv => hk.cell ((hbW.cell (p := ⟨b, o + k * rowP.size + j, none⟩) h2).trans (h3 k hk2 j v hv)) (by show b ≠ m; have := HM.out; omega)⟩
  have HSEQ := Lib.hid hseq
  clear hseq x5 b45 hw5 hBs X4 M4 B14
  refine wpIn_rangeFunc_ownH rfl (by omega) (gf := 50) (lb := #[.pointer (some ⟨Bs, 0, none⟩)]) rfl trivial (enters_of Try.func50 (by kernel_rfl) rfl)
    (encs := encN E) (Kp := KeepC m) (S := fun xs => xs.map Fin.val = (List.range n).reverse) (Sp := fun _ => True) (N := E.length) (w0 := w5) HSEQ.out KeepC.trans (fun W l o o' _ h hc _ => KeepC.putObj m W l o o' h hc) (Below.refl _ _) (fun _ => rfl)
    (IC L w1 m B6 n s0 E) (fun _ _ _ => False) (IC_own L w1 m B6 n s0 E _ B15.out.size) (fun _ _ _ _ _ hs _ _ => hs) ⟨M5.out, X6.out, B15.out⟩
    (AC (.pointer p) (.slice pa pl pc) (.slice a n c) n m B6 Bs E) (fun x a' => AC_own _ _ _ _ _ _ _ _ _ x a') ?assign ?body ?done ?stop
  case assign =>
    intro ll pre x W K hI hK
    have HI := Lib.hid hI
    obtain ⟨hM, hX, hB⟩ := hI
    have hlt := lt_of_heap hX
    clear hM hX hB
    have hok := (HRED.out E[x.val] (List.getElem_mem x.isLt)).1
    obtain ⟨N, hN⟩ : ∃ N, (cellsN E[x.val]).toArray = N := ⟨_, rfl⟩
    have hx : encN E x = #[.int .i64 (x.val : Int), .agg N] := by unfold encN; rw [hN]
    have SN := Lib.hid (show N.size = z.size by rw [← hN, List.size_toArray, ZS.out]; exact cellsN_len _ hok)
    have IN := Lib.hid (show (Try.prog.info? 65).map (·.size) = some N.size by rw [SN.out, ZS.out]; kernel_rfl)
    have ON := Lib.hid (show N.all (·.oneCell') = true by rw [← hN, Array.all_eq_true_iff_forall_mem]; intro v hv; exact cellsN_one _ hok v (by simpa using hv))
    have hw3 := heap_alloc_new W (.cells z 65)
    rw [hx]
    clear hok hx
    gi_wp2_with (first
      | (with_reducible refine wpListIn_store_all rfl 65 (.tmp 8) (.tmp 20) rfl W.heap.size N rfl rfl 65 z hw3 IN.out SN.out ON.out ?_; intro w6 r6 g6 s6)
      | fail)
    have hg6 : W.grownBy w6 none := (World.grownBy_alloc W _ none).andThen g6 (fun j e => .inl (Nat.le_of_eq (Option.some.inj e)))
    refine hK _ w6 (KeepsFrom.of_grownBy hg6 (fun j e => by cases e)) ⟨hg6.size, fun k cs t fr _ hk => (hg6.block k (lt_of_heap hk) (by simp)).trans hk⟩ (IC_own L w1 m B6 n s0 E _ (Nat.le_refl _) pre W w6 none HI.out hg6 (fun r e => by cases e)) ⟨W.heap.size, hlt, by rw [hN]; exact r6, by unfold frC; rw [hN]; rfl⟩
  case body =>
    rintro ll pre x a' W hl ⟨r, hr⟩ ⟨hM, hX, hB⟩ ⟨Bx, hBx, bX, rfl⟩ hlt
    have hxn : x.val < n := by have := x.isLt; have := HEN.out; omega
    have HSS := Lib.hid (show foldC L s0 ((pre ++ [x]).map Fin.val) = stepG L (foldC L s0 (pre.map Fin.val)) x.val by unfold foldC; rw [List.map_append, List.foldl_append]; rfl)
    obtain ⟨s, hs⟩ : ∃ s, foldC L s0 (pre.map Fin.val) = s := ⟨_, rfl⟩
    rw [hs] at hM HSS
    obtain ⟨hok, hred⟩ := HRED.out E[x.val] (List.getElem_mem x.isLt)
    have hpl : E[x.val].n.pl = plAt L x.val := by
      rw [plAt_lt (by rw [HN.out]; exact hxn)]
      simp only [← HENS.out, List.getElem_map]
    rw [hpl] at hred
    have c6 : W.cell? ⟨B6, 0, none⟩ = some (.slice (some ⟨m, 0, none⟩) n n) := by rw [Lib.cell_of_heap hX]; rfl
    have cm := hM.cell hxn
    have rp : RedR rowN (fun k => k ≠ m) W E[x.val].v (plAt L x.val) :=
      ((hred.mono (S' := fun k => k < w1.heap.size) (fun k hk _ => hk)).keep ⟨hB.size, fun k hk _ => hB.block k hk⟩).mono (fun k _ hk => by have := HM.out; omega)
    have CM := Lib.hid (markP_is hM hn6 _ (plAt L x.val) rp (fun p hp => by have := low_lt HG.out p hp; have := HN.out; omega) (Nat.le_trans (HFEW.out x.val) (by decide)))
    have cx : W.cell? ⟨Bx, 20, none⟩ = some E[x.val].v := by
      rw [Lib.cell_of_heap bX]
      have h20 : (cellsD E[x.val].n.id).length = 20 := cellsD_len _ hok.1
      show (cellsN E[x.val]).toArray[20]? = some E[x.val].v
      unfold cellsN
      rw [List.getElem?_toArray, List.getElem?_append_right (by omega), h20]
      rfl
    obtain ⟨-, a5, n5, c5, hv5⟩ := hok
    rw [hv5] at cx CM
    obtain ⟨N, hN⟩ : ∃ N, (cellsN E[x.val]).toArray = N := ⟨_, rfl⟩
    have HMM := Lib.hid hM; have HXX := Lib.hid hX; have HBB := Lib.hid hB; have HBX := Lib.hid hBx
    have gx : (x.val : Int) < (n : Int) := by omega
    unfold frC
    rw [hN]
    obtain ⟨q, hq⟩ : ∃ q, x.val = q := ⟨_, rfl⟩
    rw [hq] at cm CM HSS gx
    simp only [hq]
    obtain ⟨bb, hbb2⟩ : ∃ bb, onG s q = bb := ⟨_, rfl⟩
    rw [hbb2] at cm
    have ST := Lib.hid (show stepG L s q = if bb then markL s (plAt L q) else s by unfold stepG; rw [hbb2])
    clear hs hred hpl rp hv5 hN hM hX hB hBx bX hbb2 hq
    cases bb with
    | false =>
      gi_wp2
      exact ⟨KeepsFrom.refl _ _, KeepC.refl _ _, by show MarksAt W m n _; rw [HSS.out, ST.out]; exact HMM.out, HXX.out, HBB.out⟩
    | true =>
      gi_wp2_with (first
        | (gi_at_call 40; refine (CallsIn.inRound ll (callsIn_wide.2 CM.out)).mono ?_; rintro e W4 ⟨rfl, hm4, hc4⟩; have C4 := Lib.hid hc4; have M4 := Lib.hid hm4; clear hm4 hc4)
        | fail)
      refine ⟨⟨C4.out.size, fun k o _ hk ho => ?_⟩, KeepC.chg C4.out, ?_, ?_, ?_⟩
      · by_cases hkm : k = m
        · subst hkm
          obtain ⟨cs, t, fr, hh⟩ := HMM.out.blk
          rw [hk] at hh
          cases hh
          cases ho
        · exact (C4.out.block k (lt_of_heap hk) hkm).trans hk
      · show MarksAt W4 m n _
        rw [HSS.out, ST.out]
        exact M4.out
      · exact (C4.out.block B6 (lt_of_heap HXX.out) (by omega)).trans HXX.out
      · exact HBB.out.trans (C4.out.below HBB.out.size (fun i _ hi => by have := HM.out; omega))
  case done =>
    rintro D ys W hD hSy ⟨hM, hX, hB⟩ hK
    have hc6 : W.cell? ⟨B6, 0, none⟩ = some (.slice (some ⟨m, 0, none⟩) n n) := by rw [Lib.cell_of_heap hX]; rfl
    have HMM := Lib.hid hM; have HBB := Lib.hid hB; have HKK := Lib.hid hK; have HSY := Lib.hid hSy
    clear hM hX hB hSy
    gi_wp2
    refine ⟨by simp, .inl ⟨_, _, rfl, run_takeDeferred hK, ?_⟩⟩
    refine ⟨_, results_tmp rfl _ _ _, ?_, ?_, ?_⟩
    · rw [HM.out]; rfl
    · rw [HM.out]
      have e1 : foldC L s0 (ys.map Fin.val) = closedG L l := by
        rw [HSY.out, foldC_down]
        unfold closedG
        rw [HN.out, S0.out]
      rw [← e1]
      refine HMM.out.keep (World.putObj_heap_other (fun e => ?_))
      obtain ⟨cs, t, fr, hh⟩ := HMM.out.blk
      rw [e, hK] at hh
      cases hh
    · exact HBB.out.trans (belowK_b (w := w5) (n₀ := w1.heap.size) B15.out.size W D _ _ (by have := B15.out.size; omega) hK rfl rfl)
  case stop =>
    rintro D c pre W _ _ h _
    exact h.elim
end Go.Proofs.Ytajmgjhknmkfpaa
