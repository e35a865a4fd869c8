/-
  DeltaMakes of layer 14 (what is made is what the chapter writes, what is applied, written and read are what it writes, and nothing that came in is turned) answers true for all inputs, its arguments read as before. Conditions: none.
-/
import Derived.Test.YtbilempgnpnacaaE4c
import Derived.Test.YtbilempgnpnacaaFsq
import Derived.SizedLaws
import Derived.Deep.Slices
import Derived.Deep.Strs
import Derived.Lib.SmallJoins
import Derived.Test.YtbilempgnpnacaaVDeltaMakes
import Derived.HandedShaped
import Derived.ProofKit
import Derived.OpenShut
import Derived.Carry
/-
  Layer 14, frame: a slice of edits that came in, opened.
-/
namespace Go.Proofs.Ytbilempgnpnacaa
open Go.ChangeShapes Go.WideShapes Go.ChangeAt Go.RowKit Go.Deep Go.Joins
set_option linter.unusedVariables false
set_option linter.unusedSimpArgs false
set_option maxRecDepth 100000

theorem spot_noneE {w : World} {x : Addr} {v : Value} (h : w.cell? x = some v) : ∃ b o, x = ⟨b, o, none⟩ := by
  obtain ⟨b, o, s⟩ := x
  have := World.cell?_spot h
  exact ⟨b, o, by simpa using this⟩
theorem edit_of_cells {H : Type} {enc : TypeId × Value → H} {W : World} {base fuel : Nat} {cs : List Value} {x : DataW H × List MemPlace} (h : DataW.trod enc Try.prog W base (fun _ => true) true fuel 34 cs = some x) :
    ∃ e : Edc, cs = cellsDl e ∧ Red W e.v e.b ∧ okDl e ∧ ∀ R, (∀ k ∈ x.1.weights Try.prog 34, k ≤ R) → e.b.length ≤ R := by
  obtain ⟨y0, y1, y2, m, hx, hlen, h0, h1, h2⟩ := trod_struct3 Try.underlying34 h
  have c3 : Try.prog.cellsOf 34 = 3 := by kernel_rfl
  have ci : Try.prog.cellsOf 3 = 1 := by kernel_rfl
  have cb : Try.prog.cellsOf 22 = 1 := by kernel_rfl
  rw [c3] at hlen
  match cs, hlen with
  | [v0, v1, v2], _ =>
    have h0' : DataW.trod enc Try.prog W base (fun _ => true) true m 3 [v0] = some y0 := by simpa [ci] using h0
    have h1' : DataW.trod enc Try.prog W base (fun _ => true) true m 3 [v1] = some y1 := by simpa [ci] using h1
    have h2' : DataW.trod enc Try.prog W base (fun _ => true) true m 22 [v2] = some y2 := by simpa [cb] using h2
    obtain ⟨k0, e0, z0, w0⟩ := DataW.trod_int Try.underlying3 h0'
    have e0' : v0 = .int .i64 k0 := by simpa using e0
    subst e0'
    obtain ⟨k1, e1, z1, w1⟩ := DataW.trod_int Try.underlying3 h1'
    have e1' : v1 = .int .i64 k1 := by simpa using e1
    subst e1'
    have hs : ∃ (a : Option Addr) (n c : Nat), v2 = .slice a n c ∧ ∀ R, (∀ k ∈ y2.1.weights Try.prog 22, k ≤ R) → n ≤ R := by
      rcases open_ints Try.underlying22 Try.underlying5 (by kernel_rfl) h2' with ⟨hcs, _⟩ | ⟨x, l, c', zs, hcs, _, hl, _, hz, hy, _⟩
      · simp at hcs
        exact ⟨_, _, _, hcs, fun R _ => Nat.zero_le _⟩
      · simp at hcs
        refine ⟨_, _, _, hcs, fun R hR => ?_⟩
        have hb : Try.prog.bytesOf 5 = 1 := by kernel_rfl
        have hu : Try.prog.underlying 22 = some (.slice 5) := Try.underlying22
        have q := hR (((lits .u8 (zs.take l) : List (DataW H)).length + (lits .u8 (zs.drop l) : List (DataW H)).length) * Try.prog.bytesOf 5) (by rw [hy]; simp only [DataW.weights, hu]; exact List.mem_cons_self)
        rw [hb, Nat.mul_one] at q
        have hzl : zs.length = c' := by simpa using hz
        have e2 : (lits .u8 (zs.take l) : List (DataW H)).length = l := by unfold lits; rw [List.length_map, List.length_take]; omega
        omega
    obtain ⟨a, n, c, rfl, hR⟩ := hs
    have ht : DataW.Trod enc Try.prog W base (fun _ => true) true 22 (.slice a n c) y2.1 y2.2 := ⟨m, by simpa [Value.cells] using h2'⟩
    obtain ⟨l, g2, g3, g4, g5⟩ := open_bytes ht
    refine ⟨⟨k0, k1, .slice a n c, l⟩, rfl, ⟨a, c, by rw [g2], g3, by rw [← g2]; exact g4, by rw [← g2]; exact g5.1, g5.2⟩, ⟨a, n, c, rfl⟩, fun R hr => ?_⟩
    rw [← g2]
    refine hR R (fun k hk => hr k ?_)
    have hu : Try.prog.underlying 34 = _ := Try.underlying34
    rw [hx]
    simp only [DataW.weights, hu]
    exact DataW.weights_mem_each (j := 2) (t := 22) (d := y2.1) rfl rfl _ hk
theorem weights_all_mem {H : Type} {P : Program} {e : TypeId} : ∀ {ds : List (DataW H)} {d : DataW H}, d ∈ ds → ∀ n ∈ d.weights P e, n ∈ DataW.weightsAll P e ds
  | y :: r, d, h, n, hn => by
    unfold DataW.weightsAll
    rcases List.mem_cons.1 h with rfl | h
    · exact List.mem_append_left _ hn
    · exact List.mem_append_right _ (weights_all_mem h n hn)
theorem open_edits {H : Type} {enc : TypeId × Value → H} {W : World} {base : Nat} {a : Option Addr} {n c : Nat} {d : DataW H} {p : List MemPlace} (h : DataW.Trod enc Try.prog W base (fun _ => true) true 23 (.slice a n c) d p) :
    ∃ l : List Edc, n = l.length ∧ EdAt W a l ∧ (n ≤ c ∧ c ≤ maxLen) ∧ ∀ R, (∀ k ∈ d.weights Try.prog 23, k ≤ R) → ∀ e ∈ l, e.b.length ≤ R := by
  obtain ⟨fuel, hf⟩ := h
  rcases open_slice Try.underlying23 hf with ⟨hcs, _⟩ | ⟨x, len, cap, m, q, D, Pl, hcs, hb, hl, hm, hmm, hd, hx⟩
  · simp [Value.cells] at hcs
    obtain ⟨rfl, rfl, rfl⟩ := hcs
    exact ⟨[], rfl, ⟨RowAt.nil _ _, fun e he => (by cases he)⟩, ⟨Nat.le_refl _, Nat.zero_le _⟩, fun R _ e he => (by cases he)⟩
  · simp [Value.cells] at hcs
    obtain ⟨rfl, rfl, rfl⟩ := hcs
    have hmc : m = c := by simpa using hmm
    have c3 : Try.prog.cellsOf 34 = 3 := by kernel_rfl
    rw [c3] at hx
    have each : ∀ r, r < n → ∃ e : Edc, (∀ j v, (cellsDl e)[j]? = some v → W.cell? ((x.add (r * 3)).add j) = some v) ∧ Red W e.v e.b ∧ okDl e ∧ ∀ R, (∀ k ∈ (D r).weights Try.prog 34, k ≤ R) → e.b.length ≤ R := by
      intro r hr
      obtain ⟨cs', h1, h2⟩ := hx r (by omega)
      obtain ⟨_, hlen, hcell⟩ := World.cells?_some h1
      obtain ⟨e, rfl, k1, k2, k3⟩ := edit_of_cells h2
      refine ⟨e, fun j v hj => ?_, k1, k2, k3⟩
      obtain ⟨hjl, hje⟩ := List.getElem?_eq_some_iff.1 hj
      have := hcell j (by simpa [cellsDl] using hjl)
      rw [this, List.getElem?_eq_getElem hjl, hje]
    obtain ⟨z, hz⟩ := choose_lt each
    refine ⟨(List.range n).map z, by simp, ⟨?_, ?_⟩, ⟨hl, hm⟩, ?_⟩
    · intro hp
      have hp2 : 0 < n := by simpa using hp
      obtain ⟨b, o, rfl⟩ : ∃ b o, x = ⟨b, o, none⟩ := by
        have := (hz 0 hp2).1 0 _ rfl
        rw [Nat.zero_mul, show (x.add 0).add 0 = x by unfold Addr.add; simp] at this
        exact spot_noneE this
      have add_eq : ∀ r s, ((⟨b, o, none⟩ : Addr).add r).add s = ⟨b, o + r + s, none⟩ := fun r s => by unfold Addr.add; split <;> split <;> simp_all
      have hlt : b < W.heap.size := by
        have := (hz 0 hp2).1 0 _ rfl
        rw [add_eq] at this
        exact World.block_lt_of_cell? W _ this
      refine ⟨b, o, rfl, hlt, fun k hk j v hv => ?_⟩
      have hk2 : k < n := by simpa using hk
      have e : ((List.range n).map z)[k] = z k := by simp
      rw [e] at hv
      have := (hz k hk2).1 j v hv
      rwa [add_eq] at this
    · intro i hi
      obtain ⟨k, hk, rfl⟩ := List.mem_map.1 hi
      exact (hz k (List.mem_range.1 hk)).2.1
    · intro R hR i hi
      obtain ⟨k, hk, rfl⟩ := List.mem_map.1 hi
      have hkn := List.mem_range.1 hk
      refine (hz k hkn).2.2.2 R (fun j hj => hR j ?_)
      have hu : Try.prog.underlying 23 = some (.slice 34) := Try.underlying23
      have e0 : d = .slice ((List.range n).map D) ((List.range (m - n)).map fun j => D (n + j)) := congrArg Prod.fst hd
      rw [e0]
      simp only [DataW.weights, hu]
      exact List.mem_cons_of_mem _ (List.mem_append_left _ (weights_all_mem (List.mem_map.2 ⟨k, hk, rfl⟩) j hj))
end Go.Proofs.Ytbilempgnpnacaa
namespace Go.Proofs.Ytbilempgnpnacaa.deltaMakes
open Go.ChangeShapes Go.WideShapes Go.ChangeAt Go.RowKit
set_option linter.unusedVariables false

theorem own : ownKnob Try.prog.godebug = none := by kernel_rfl
theorem int_bd {x : Int} (h : (Lit.int .i64 x).wf = true) : -9223372036854775808 ≤ x ∧ x ≤ 9223372036854775807 := by
  have e1 : IntKind.i64.min = -9223372036854775808 := rfl
  have e2 : IntKind.i64.max = 9223372036854775807 := rfl
  simpa [Lit.wf, e1, e2] using h
theorem byte_bd {x : Int} (h : (Lit.int .u8 x).wf = true) : 0 ≤ x ∧ x ≤ 255 := by
  have e1 : IntKind.u8.min = 0 := rfl
  have e2 : IntKind.u8.max = 255 := rfl
  simpa [Lit.wf, e1, e2] using h
set_option maxRecDepth 100000 in
theorem lifted (os : Os) (started : os.Started) (H : Type) (enc : TypeId × Value → H) :
    ReturnsInHanded {} Try.checked os 3 .any (Rows.deltaMakesSpec.pre6 enc Try.prog Try.f3 Rows.deltaMakesRow.domain false) (Rows.deltaMakesSpec.post enc Try.prog Try.f3 false true false false) := by
  refine returnsInHanded_of_change_shaped (C := Try.checked) own started (by kernel_rfl) Try.func3
    (ChangeSpec.witness6 (enc := enc) (C := Try.checked) false ⟨#[], #[.slice none 0 0, .slice none 0 0, .slice none 0 0, .slice none 0 0], []⟩ 8 (by kernel_rfl) (by kernel_rfl) (by kernel_rfl) (by kernel_rfl)) ?_
  intro W base args ds gs before hval0 hW hcnd hR _ _
  have hval : ∀ (j : Nat) t v, Try.f3.params[j]? = some t → args[j]? = some v → Value.okWide Try.prog W .any base t v := hval0
  have hW' := hW
  obtain ⟨p, q, hA0, hV, rfl, hfz, hnd⟩ := hW
  have hA : DataW.TrodAll enc Try.prog W 0 (fun _ => true) true Try.f3.params.toList args.toList ds p := hA0
  rw [Try.params3] at hA hval
  obtain ⟨v0, vs0, d0, ds0, p0, q0, hargs, rfl, rfl, h0, r0⟩ := trodAll_cons hA
  obtain ⟨v1, vs1, d1, ds1, p1, q1, rfl, rfl, rfl, h1, r1⟩ := trodAll_cons r0
  obtain ⟨v2, vs2, d2, ds2, p2, q2, rfl, rfl, rfl, h2, r2⟩ := trodAll_cons r1
  obtain ⟨v3, vs3, d3, ds3, p3, q3, rfl, rfl, rfl, h3, r3⟩ := trodAll_cons r2
  obtain ⟨rfl, rfl, rfl⟩ := trodAll_nil r3
  obtain rfl : args = #[v0, v1, v2, v3] := by cases args; simp_all
  obtain ⟨rfl, rfl⟩ := trodVars_none hV
  obtain ⟨a0, len0, cap0, rfl⟩ := okWide_slice Try.underlying22 (hval 0 22 v0 rfl rfl)
  have k0 := h0
  have lt0 : ∀ x ∈ p0, x.block < W.heap.size := by obtain ⟨m, hm⟩ := k0; exact DataW.trod_lt m _ _ _ hm
  obtain ⟨l0, hl0, hb0, hn0, hc0⟩ := open_bytes h0
  obtain ⟨a1, len1, cap1, rfl⟩ := okWide_slice Try.underlying22 (hval 1 22 v1 rfl rfl)
  have k1 := h1
  have lt1 : ∀ x ∈ p1, x.block < W.heap.size := by obtain ⟨m, hm⟩ := k1; exact DataW.trod_lt m _ _ _ hm
  obtain ⟨l1, hl1, hb1, hn1, hc1⟩ := open_bytes h1
  obtain ⟨a2, len2, cap2, rfl⟩ := okWide_slice Try.underlying23 (hval 2 23 v2 rfl rfl)
  have k2 := h2
  have lt2 : ∀ x ∈ p2, x.block < W.heap.size := by obtain ⟨m, hm⟩ := k2; exact DataW.trod_lt m _ _ _ hm
  obtain ⟨l2, hl2, hb2, hc2, hq2⟩ := open_edits h2
  have hz2 := hq2 reachBytes (fun k hk => of_decide_eq_true (List.all_eq_true.1 hR k (DataW.weights_mem_each (j := 2) (t := 23) (d := d2) (by rw [Try.params3]; rfl) rfl _ hk)))
  have hy2 : ∀ e ∈ l2, e.b.length ≤ 1000000000000000 := fun e he => Nat.le_trans (hz2 e he) (by decide)
  obtain ⟨a3, len3, cap3, rfl⟩ := okWide_slice Try.underlying22 (hval 3 22 v3 rfl rfl)
  have k3 := h3
  have lt3 : ∀ x ∈ p3, x.block < W.heap.size := by obtain ⟨m, hm⟩ := k3; exact DataW.trod_lt m _ _ _ hm
  obtain ⟨l3, hl3, hb3, hn3, hc3⟩ := open_bytes h3
  clear hA0 hval0
  refine (walk W a0 len0 cap0 l0 hl0 hb0 hn0 hc0 a1 len1 cap1 l1 hl1 hb1 hn1 hc1 a2 len2 cap2 l2 hl2 hb2 hc2 hy2 a3 len3 cap3 l3 hl3 hb3 hn3 hc3).mono fun e W' ⟨he, bel⟩ => ?_
  subst he
  exact ⟨_, rfl, _, _, _, [], _, [], hW', trodAll_mk1 (shut_bool Try.underlying4 _), (trodAll_cons_mk (Below.trod laidOut (by kernel_rfl) (of_decide_eq_true (by kernel_rfl)) k0 bel lt0) (trodAll_cons_mk (Below.trod laidOut (by kernel_rfl) (of_decide_eq_true (by kernel_rfl)) k1 bel lt1) (trodAll_cons_mk (Below.trod laidOut (by kernel_rfl) (of_decide_eq_true (by kernel_rfl)) k2 bel lt2) (trodAll_cons_mk (Below.trod laidOut (by kernel_rfl) (of_decide_eq_true (by kernel_rfl)) k3 bel lt3) trodAll_mk0)))), rfl, bel.frame _, fun h => by cases h⟩

/-- The statement. -/
theorem said : Rows.DeltaMakesSaid :=
  OpenClaim.holds_of_wide 3 Try.f3 rfl rfl rfl rfl rfl rfl rfl ⟨rfl, rfl, rfl, rfl, rfl⟩ rfl rfl rfl rfl rfl (by kernel_rfl) Try.func3 (by kernel_rfl)
    (of_decide_eq_true (by kernel_rfl)) (by unfold Func.isWrapper; first | (rw [if_pos (by decide +kernel)]; kernel_rfl) | (rw [if_neg (by decide +kernel)]; exact ⟨rfl, rfl⟩))
    (fun os started H enc _ => lifted os started H enc)
#print axioms said
end Go.Proofs.Ytbilempgnpnacaa.deltaMakes
