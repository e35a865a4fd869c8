/-
  Texts that belong together, one behind the other.
-/
import Derived.Test.YtnohonjjfjppoaaGreatDoorFu03
import Derived.Test.YtnohonjjfjppoaaGreatDoorFu13
import Derived.Great.BuildSlice
import Derived.Great.FillDense
import Derived.Test.YtnohonjjfjppoaaGreatDoorFu11
import Derived.Test.YtnohonjjfjppoaaGreatDoorFu23
import Derived.Test.YtnohonjjfjppoaaGreatDoorFu01
import Derived.Test.YtnohonjjfjppoaaGreatDoorFu02
/-
  A literal of one element of a row; a block of one element is a row.
-/
namespace Go.Proofs.YtnohonjjfjppoaaGreatDoor
set_option maxRecDepth 20000
open Go.RowKit
set_option linter.unusedVariables false
set_option linter.unusedSimpArgs false
section
variable {α : Type} {R : RowT α} {P : Program}
theorem build_fill {n : Nat} (hn : 0 < n) (A : Array Value) (hA : A.size = n) (z : Array Value) : Instr.fill (fun i => some (i * n, n)) ((Array.range (1 * n)).map (z[· % z.size]!)) [(0, .agg A)] = some A := by
  have h := Great.fill_whole (s := n) hn [.agg A] ((Array.range (1 * n)).map (z[· % z.size]!)) (fun v hv => by simp at hv; subst hv; exact hA) (by simp)
  simpa [Value.cells] using h
theorem wp_build_oneR (G : R.Good P) {o : Oper} {a : Act} {w : World} {K : Act → World → Prop} {Q : Exit → Act → World → Prop} (x : Operand) (ho : o.op = .buildSlice R.sl 1 #[(0, x)])
    (A : Array Value) (hA : A.size = R.size) (hx : a.eval x = .agg A)
    (h : K (a.put o.dst (.slice (some ⟨w.heap.size, 0, none⟩) 1 1)) (w.alloc (.cells A R.ty))) : o.wp P a w K Q := by
  obtain ⟨ie, z, hie, hz, hs, _, hzs⟩ := G.info
  have h1 := G.small.1
  have h2 := G.pos
  refine wp_buildSlice R.sl R.ty 1 _ ho A ie z G.under hie hz (by rw [hs]; omega) (by rw [hs]; omega) ?_ h
  rw [hs]
  have e : (Array.map (fun (p : Nat × Operand) => (p.1, a.eval p.2)) #[(0, x)]).toList = [(0, .agg A)] := by simp [hx]
  rw [show (fun (p : Nat × Operand) => match p with | (i, x) => (i, a.eval x)) = (fun (p : Nat × Operand) => (p.1, a.eval p.2)) from rfl, e]
  exact build_fill h2 A hA _
theorem wpList_build_oneR (G : R.Good P) {ops : Array Oper} {rest : List Oper} {o : Oper} {a : Act} {w : World} {Q : Exit → Act → World → Prop} (hgd : o.guard = none) (x : Operand) (ho : o.op = .buildSlice R.sl 1 #[(0, x)])
    (A : Array Value) (hA : A.size = R.size) (hx : a.eval x = .agg A)
    (h : wpList P ops Q rest (a.put o.dst (.slice (some ⟨w.heap.size, 0, none⟩) 1 1)) (w.alloc (.cells A R.ty))) : wpList P ops Q (o :: rest) a w :=
  wpList_plain hgd fun K hK => wp_build_oneR G x ho A hA hx (hK _ _ h)
theorem rowR_one (G : R.Good P) {w : World} {q : Nat} {x : α} {t : TypeId} {fr : Nat × Nat} (h : w.heap[q]? = some (.cells (R.cl x).toArray t fr)) : RowAt R w (some ⟨q, 0, none⟩) [x] := fun _ =>
  ⟨q, 0, rfl, lt_of_heap h, fun k hk j v hv => by
    obtain rfl : k = 0 := by simpa using hk
    simp only [Nat.zero_mul, Nat.zero_add]
    rw [Lib.cell_of_heap h, ← hv]
    show (R.cl x).toArray[j]? = (R.cl x)[j]?
    simp⟩
/-- An operation that has no guard is carried out. -/
theorem stepW {o : Oper} {ops : Array Oper} {a : Act} {w : World} {K : Act → World → Prop} {Q : Exit → Act → World → Prop} (hg : o.guard = none) (h : o.wp P a w K Q) : if Region.wanted o (yielded ops a.tmps) = true then o.wp P a w K Q else K (a.put o.dst undef) w := by
  rw [if_pos]
  · exact h
  · unfold Region.wanted; rw [hg]
end
end Go.Proofs.YtnohonjjfjppoaaGreatDoor

/-
  The short form of a step where a store waits.
-/
namespace Go.Proofs.YtnohonjjfjppoaaGreatDoor
open Go.RowKit
variable {P : Program} {ops : Array Oper} {Q : Exit → Act → World → Prop} {md : Region.Mode} {S : World → Prop} {X : Nat → Bool}
theorem tkX (i : Nat) {oi : Oper} {v : Value} {fuel : Nat} {listed : Array Bool} {a b : Act} {w : World} (hi : ops[i]? = some oi) (hy : YieldsIf P ops S oi v a) (hS : S w)
    (h : wpAnyX P md ops Q S X fuel (listed.setIfInBounds i true) b w) (hs : Region.noSelect ops = true := by kernel_rfl) (hf : Region.free md ops listed i = true := by kernel_rfl)
    (hr : (Region.ready md ops listed).contains i = true := by kernel_rfl) (hx : waitsX md ops X i = true := by kernel_rfl) (hQ : ∀ c a w, Q (.panic c) (a.put oi.dst v) w → Q (.panic c) a w := by exact fun _ _ _ h => h)
    (hb : a.put oi.dst v = b := by first | (simp only [Act.put, lsA, lsZ, lsS]; rfl) | rfl) : wpAnyX P md ops Q S X (fuel + 1) listed a w :=
  wpAnyX_take hi hs hf hr hx hQ hy hS (hb ▸ h)
theorem tkXV (i : Nat) {oi : Oper} {fuel : Nat} {listed : Array Bool} {a b : Act} {w : World} (hi : ops[i]? = some oi) (v : Value) (hy : ∀ w, S w → (execOp a.eval oi).run P w = .ok (.value v) w) (hS : S w)
    (h : wpAnyX P md ops Q S X fuel (listed.setIfInBounds i true) b w) (hs : Region.noSelect ops = true := by kernel_rfl) (hf : Region.free md ops listed i = true := by kernel_rfl)
    (hr : (Region.ready md ops listed).contains i = true := by kernel_rfl) (hx : waitsX md ops X i = true := by kernel_rfl) (hQ : ∀ c a w, Q (.panic c) (a.put oi.dst v) w → Q (.panic c) a w := by exact fun _ _ _ h => h) (hw : Region.wanted oi (yielded ops a.tmps) = true := by kernel_rfl)
    (hb : a.put oi.dst v = b := by first | (simp only [Act.put, lsA, lsZ, lsS]; rfl) | rfl) : wpAnyX P md ops Q S X (fuel + 1) listed a w :=
  wpAnyX_take hi hs hf hr hx hQ (.inl ⟨hw, hy⟩) hS (hb ▸ h)
theorem tkXW (i : Nat) {oi : Oper} {fuel : Nat} {listed : Array Bool} {a b : Act} {w : World} {v : Value} (hi : ops[i]? = some oi) (hS : S w)
    (h : wpAnyX P md ops Q S X fuel (listed.setIfInBounds i true) b w) (hs : Region.noSelect ops = true := by kernel_rfl) (hf : Region.free md ops listed i = true := by kernel_rfl)
    (hr : (Region.ready md ops listed).contains i = true := by kernel_rfl) (hx : waitsX md ops X i = true := by kernel_rfl) (hy : ∀ w, S w → (execOp a.eval oi).run P w = .ok (.value v) w := by intro u hu; go_simp; try with_reducible rfl)
    (hQ : ∀ c a w, Q (.panic c) (a.put oi.dst v) w → Q (.panic c) a w := by exact fun _ _ _ h => h) (hw : Region.wanted oi (yielded ops a.tmps) = true := by kernel_rfl)
    (hb : a.put oi.dst v = b := by first | (simp only [Act.put, lsA, lsZ, lsS]; rfl) | rfl) : wpAnyX P md ops Q S X (fuel + 1) listed a w :=
  wpAnyX_take hi hs hf hr hx hQ (.inl ⟨hw, hy⟩) hS (hb ▸ h)
theorem tkXP (i : Nat) {oi : Oper} {fuel : Nat} {listed : Array Bool} {a b : Act} {w : World} {v : Value} (hi : ops[i]? = some oi)
    (h : wpAnyX P md ops Q S X fuel (listed.setIfInBounds i true) b w) (hs : Region.noSelect ops = true := by kernel_rfl) (hf : Region.free md ops listed i = true := by kernel_rfl)
    (hr : (Region.ready md ops listed).contains i = true := by kernel_rfl) (hx : X i = true := by rfl) (hy : ∀ w, True → (execOp a.eval oi).run P w = .ok (.value v) w := by intro u hu; go_simp; try with_reducible rfl)
    (hQ : ∀ c a w, Q (.panic c) (a.put oi.dst v) w → Q (.panic c) a w := by exact fun _ _ _ h => h) (hw : Region.wanted oi (yielded ops a.tmps) = true := by kernel_rfl)
    (hb : a.put oi.dst v = b := by first | (simp only [Act.put, lsA, lsZ, lsS]; rfl) | rfl) : wpAnyX P md ops Q S X (fuel + 1) listed a w :=
  wpAnyX_takeP hi hs hf hr hx hQ (.inl ⟨hw, hy⟩) (hb ▸ h)
theorem rdX (i : Nat) {o : Oper} {fuel : Nat} {listed : Array Bool} {a : Act} {w : World} (ho : ops[i]? = some o)
    (h : ∀ K' : Act → World → Prop, Shut (∀ a w, (S w ∨ X i = true) → ((S w ∨ X i = true) → wpAnyX P md ops Q S X fuel (listed.setIfInBounds i true) a w) → K' a w) → if Region.wanted o (yielded ops a.tmps) = true then Oper.wp P o a w K' Q else K' (a.put o.dst undef) w)
    (hr : Region.ready md ops listed = [i] := by kernel_rfl) : wpAnyX P md ops Q S X (fuel + 1) listed a w := wpAnyX_ready hr (by simp) (.cons ho h .nil)
end Go.Proofs.YtnohonjjfjppoaaGreatDoor

/-
  Layer 10, plain: an object of a kind, and the items of a tree (cut out of Eh and Ei).
-/
namespace Go.Proofs.YtnohonjjfjppoaaGreatDoor
set_option linter.unusedVariables false
/-- The bytes of an object of a kind, and what is answered. -/
def ofS (o : Option Cel) (k : Int) : List UInt8 × Int :=
  match o with
  | some c => if c.kind = k then (c.body, 0) else ([], 10)
  | none => ([], 6)
theorem ofS_some {c : Cel} {k : Int} (h : c.kind = k) : ofS (some c) k = (c.body, 0) := if_pos h
theorem ofS_other {c : Cel} {k : Int} (h : c.kind ≠ k) : ofS (some c) k = ([], 10) := if_neg h
/-- What a tree's items are, and what is answered. -/
def TreeS (o : Option Cel) (p : List Itm) (err : Int) : Prop := if (ofS o 2).2 = 0 then ParsedT (ofS o 2).1 p err else p = [] ∧ err = (ofS o 2).2
end Go.Proofs.YtnohonjjfjppoaaGreatDoor

/-
  Layer 10, the program: the bytes of an object of a kind (body).
-/
namespace Go.Proofs.YtnohonjjfjppoaaGreatDoor
set_option maxRecDepth 20000
open Go.RowKit Go.Maps
set_option linter.unusedVariables false
set_option linter.unusedSimpArgs false
theorem findP_some {S : Nat → Prop} {w : World} {g : Nat} {M : List Cel} (h : StoreP S w g M) (i : List UInt8) (hi : i.length = 20) {x : Cel} (hx : getM M i = some x) :
    ∃ T v, (T = 148 ∨ T = 150 ∨ T = 152) ∧ (∃ a n c, v = .slice a n c) ∧ thingP x.kind v = .iface T (.agg #[v]) ∧ kindO x.kind ∧ RedS S w v x.body ∧
    ∀ u, Below w.heap.size w u → Calls Tryz.prog 65 #[.pointer (some ⟨g, 0, none⟩), .agg (arrD i)] u fun e w' => e = .returned (.tuple #[.iface T (.agg #[v]), .int .i64 0]) ∧ Below u.heap.size u w' := by
  obtain ⟨mb, v, hl, hr, hk, hv⟩ := h.look_some hx
  obtain ⟨T, hT, hth⟩ := kind_ty hk
  refine ⟨T, v, hT, hv, hth v, hk, hr.mono (fun k _ h => h.1), fun u hu => ?_⟩
  have := findP_any (w := u) (g := g) i hi (fun u2 hu2 => hl u2 (hu.trans (hu2.mono hu.size)))
  rw [hth v] at this
  exact this
theorem findP_gone {S : Nat → Prop} {w : World} {g : Nat} {M : List Cel} (h : StoreP S w g M) (i : List UInt8) (hi : i.length = 20) (hx : getM M i = none) :
    ∀ u, Below w.heap.size w u → Calls Tryz.prog 65 #[.pointer (some ⟨g, 0, none⟩), .agg (arrD i)] u fun e w' => e = .returned (.tuple #[.nilIface, .int .i64 6]) ∧ Below u.heap.size u w' := by
  obtain ⟨mb, hl⟩ := h.look_none hi hx
  exact fun u hu => findP_any (w := u) (g := g) i hi (fun u2 hu2 => hl u2 (hu.trans (hu2.mono hu.size)))
set_option maxHeartbeats 16000000 in
theorem bodyP_is {S : Nat → Prop} {w : World} {g : Nat} {M : List Cel} (h : StoreP S w g M) (i : List UInt8) (hi : i.length = 20) (k : Int) :
    Calls Tryz.prog 117 #[.pointer (some ⟨g, 0, none⟩), .agg (arrD i), .int .i64 k] w fun e w' => ∃ v, e = .returned (.tuple #[v, .int .i64 (ofS (getM M i) k).2]) ∧ RedS S w' v (ofS (getM M i) k).1 ∧ Below w.heap.size w w' := by
  obtain ⟨A1, hA1⟩ : ∃ A, arrD i = A := ⟨_, rfl⟩
  have sA : A1.size = 20 := by rw [← hA1]; exact arrD_size i hi
  have H1 := Lib.hid (heap_alloc_new w (.cells A1 27)); have B1 := Lib.hid ((Below.refl w.heap.size w).alloc (Nat.le_refl _) (.cells A1 27))
  have IA := Lib.hid (show (Tryz.prog.info? 27).map (·.size) = some A1.size from by rw [sA]; exact infoD_n)
  cases hx : getM M i with
  | none =>
    have CF := Lib.hid (findP_gone h i hi hx)
    rw [hA1] at CF ⊢
    clear sA h
    go_enter Tryz.func117, Tryz.ntmps117
    go_wp2_with (first
      | (with_reducible refine wpList_load_all 27 (.tmp 4) rfl (by kernel_rfl) w.heap.size A1 27 (0, 0) rfl H1.out _ Tryz.underlying27 rfl IA.out ?_)
      | fail)
    refine (CF.out _ B1.out).mono ?_
    rintro e w3 ⟨rfl, hb3⟩
    have HB3 := Lib.hid (B1.out.trans (hb3.mono B1.out.size))
    clear hb3
    go_wp2
    go_ret2
    exact ⟨_, rfl, redS_nil _ _, HB3.out⟩
  | some x =>
    obtain ⟨T, v, hT, ⟨a, n, c, rfl⟩, hth, hk, hr, hf⟩ := findP_some h i hi hx
    have CF := Lib.hid hf
    have CK := Lib.hid (fun u => hth ▸ kind_is x.kind hk a n c u)
    have HR := Lib.hid hr
    have m := m_bytes T hT (.slice a n c)
    have cb := fun w => obytes_is a n c w
    obtain ⟨kd, hkd⟩ : ∃ kd, x.kind = kd := ⟨_, rfl⟩
    rw [hA1] at CF ⊢
    rw [hkd] at CK
    by_cases hkk : kd = k
    · have HO := Lib.hid (show ofS (some x) k = (x.body, 0) from ofS_some (hkd.trans hkk))
      clear sA h hT hf hr hk hth hkd
      subst hkk
      go_enter Tryz.func117, Tryz.ntmps117
      go_wp2_with (first
        | (with_reducible refine wpList_load_all 27 (.tmp 4) rfl (by kernel_rfl) w.heap.size A1 27 (0, 0) rfl H1.out _ Tryz.underlying27 rfl IA.out ?_)
        | fail)
      refine (CF.out _ B1.out).mono ?_
      rintro e w3 ⟨rfl, hb3⟩
      have HB3 := Lib.hid (B1.out.trans (hb3.mono B1.out.size))
      clear hb3
      go_wp2_with fail
      refine (CK.out _).mono ?_
      rintro e w4 ⟨rfl, hb4⟩
      have HB4 := Lib.hid (HB3.out.trans (hb4.mono HB3.out.size))
      clear hb4
      go_wp2_with fail
      refine (cb _).mono ?_
      rintro e w5 ⟨rfl, rfl⟩
      go_wp2
      go_ret2
      exact ⟨_, by rw [HO.out]; rfl, by rw [HO.out]; exact HR.out.keep (Stays.of HB4.out), HB4.out⟩
    · have HO := Lib.hid (show ofS (some x) k = ([], 10) from ofS_other (fun e => hkk (hkd.symm.trans e)))
      have hne : (kd != k) = true := bne_iff_ne.2 hkk
      clear sA h hT hf hr hk hth hkd hkk
      go_enter Tryz.func117, Tryz.ntmps117
      go_wp2_with (first
        | (with_reducible refine wpList_load_all 27 (.tmp 4) rfl (by kernel_rfl) w.heap.size A1 27 (0, 0) rfl H1.out _ Tryz.underlying27 rfl IA.out ?_)
        | fail)
      refine (CF.out _ B1.out).mono ?_
      rintro e w3 ⟨rfl, hb3⟩
      have HB3 := Lib.hid (B1.out.trans (hb3.mono B1.out.size))
      clear hb3
      go_wp2_with fail
      refine (CK.out _).mono ?_
      rintro e w4 ⟨rfl, hb4⟩
      have HB4 := Lib.hid (HB3.out.trans (hb4.mono HB3.out.size))
      clear hb4
      go_wp2
      go_ret2
      exact ⟨_, by rw [HO.out]; rfl, by rw [HO.out]; exact redS_nil _ _, HB4.out⟩
end Go.Proofs.YtnohonjjfjppoaaGreatDoor
