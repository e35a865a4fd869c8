/-
  Texts that belong together, one behind the other.
-/
import Derived.Test.YtgbmbemmkadagaaFu27
import Derived.Deep.RegionHeld3
import Derived.OrdersHeld
import Derived.Deep.RegionHeld
import Derived.Test.YtgbmbemmkadagaaFu01
/-
  Layer 15, the program: how many deltas a text is read by (chain).
-/
namespace Go.Proofs.Ytgbmbemmkadagaa
set_option maxRecDepth 20000
open Go.RowKit Go.Maps
set_option linter.unusedVariables false
set_option linter.unusedSimpArgs false

theorem ta_edit (x : Value) (w : World) : (Instr.typeAssert (.iface 101 x) 74 101 true).run Try.prog w = .ok (.tuple #[x, .bool true]) w := by kernel_rfl
theorem ta_whole (x : Value) (w : World) : (Instr.typeAssert (.iface 103 x) 74 101 true).run Try.prog w = .ok (.tuple #[.agg #[.nilIface, .slice none 0 0], .bool false]) w := by kernel_rfl
theorem infoEdd : (Try.prog.info? 101).map (·.size) = some 2 := by kernel_rfl
/-- What an assertion tells of what is kept. -/
theorem StoAt.assert {S : Nat → Prop} {w : World} {v : Value} {t : List UInt8} {c : Nat} (h : StoAt S w v t c) : ∃ x y b, (∀ u : World, (Instr.typeAssert v 74 101 true).run Try.prog u = .ok (.tuple #[.agg #[x, y], .bool b]) u) ∧
    x.oneCell' = true ∧ y.oneCell' = true ∧ (b = true → ∃ t' c', StoAt S w x t' c' ∧ c = c' + 1) ∧ (b = false → c = 0) := by
  cases h with
  | whole h hl => exact ⟨_, _, false, fun u => ta_whole _ u, rfl, rfl, fun h => (by cases h), fun _ => rfl⟩
  | edited h he hok hl hb =>
    obtain ⟨T, x, e⟩ := h.iface
    obtain ⟨a, c', e2, -⟩ := he.at
    exact ⟨_, _, true, fun u => ta_edit _ u, by rw [e]; rfl, by rw [e2]; rfl, fun _ => ⟨_, _, h, rfl⟩, fun h => (by cases h)⟩
set_option maxHeartbeats 16000000 in
theorem chain_is {S : Nat → Prop} {v : Value} {t : List UInt8} {c : Nat} {w : World} (h : StoAt S w v t c) (hc : c ≤ 1000) :
    Calls Try.prog 34 #[v] w fun e w' => e = .returned (.int .i64 c) ∧ Below w.heap.size w w' := by
  obtain ⟨x, y, b, ta, hx, hy, ht, hf⟩ := h.assert
  obtain ⟨E, hE⟩ : ∃ E : Array Value, #[x, y] = E := ⟨_, rfl⟩
  have SE := Lib.hid (show E.size = 2 by rw [← hE]; rfl)
  have IE := Lib.hid (show (Try.prog.info? 101).map (·.size) = some E.size by rw [SE.out]; exact infoEdd)
  have OE := Lib.hid (show E.all (·.oneCell') = true by rw [← hE]; simp [hx, hy])
  have SEZ := Lib.hid (show E.size = (#[Value.nilIface, Value.slice none 0 0] : Array Value).size by rw [SE.out]; rfl)
  have HX := Lib.hid hx; have HY := Lib.hid hy; have HT := Lib.hid ht; have HF := Lib.hid hf; have HE := Lib.hid hE; have HC := Lib.hid hc
  rw [hE] at ta
  have N1 := Lib.hid (heap_alloc_new w (.cells #[.nilIface, .slice none 0 0] 101))
  have B1 := Lib.hid ((Below.refl w.heap.size w).alloc (Nat.le_refl _) (.cells #[.nilIface, .slice none 0 0] 101))
  clear h hx hy ht hf hE hc
  go_enter Try.func34, Try.ntmps34
  go_wp2_with (first
    | (with_reducible refine wpList_store_all rfl 101 (.tmp 4) (.tmp 9) rfl w.heap.size E rfl rfl 101 #[.nilIface, .slice none 0 0] N1.out IE.out SEZ.out OE.out ?_; intro w2 hg2 ho2 hs2)
    | fail)
  have G2 := Lib.hid hg2
  have B2 := Lib.hid (B1.out.trans (ho2.below (B := w.heap.size) (Nat.le_refl _) B1.out.size))
  have S2 := Lib.hid hs2
  clear hg2 ho2 hs2 ta N1 B1
  go_loopw [3, 4, 5] (fun n p ok wr => ∃ (k gp : Nat) (x y : Value) (b : Bool), n = .int .i64 k ∧ p = .pointer (some ⟨gp, 0, none⟩) ∧ ok = .bool b ∧ wr.heap[gp]? = some (.cells #[x, y] 101 (0, 0)) ∧ w.heap.size ≤ gp ∧ x.oneCell' = true ∧ y.oneCell' = true ∧
    (b = true → ∃ t' c', StoAt S w x t' c' ∧ k + c' + 1 = c) ∧ (b = false → k = c) ∧ Below w.heap.size w wr) (fun n _ _ _ => c - (intOf n).toNat)
  case atStart => exact ⟨0, w.heap.size, x, y, b, rfl, rfl, rfl, by rw [HE.out]; exact G2.out, Nat.le_refl _, HX.out, HY.out, fun h => by
    obtain ⟨t', c', h1, h2⟩ := HT.out h
    exact ⟨t', c', h1, by omega⟩, fun h => (HF.out h).symm, B2.out⟩
  case round =>
    obtain ⟨k, gp, x, y, b, rfl, rfl, rfl, hg, hgp, hx, hy, ht, hf, hb⟩ := hrel
    cases b with
    | true =>
      obtain ⟨t', c', hsto, hkc⟩ := ht rfl
      obtain ⟨x2, y2, b2, ta, hx2, hy2, ht2, hf2⟩ := hsto.assert
      obtain ⟨F, hF⟩ : ∃ F : Array Value, #[x, y] = F := ⟨_, rfl⟩
      obtain ⟨F2, hF2⟩ : ∃ F : Array Value, #[x2, y2] = F := ⟨_, rfl⟩
      have SF := Lib.hid (show F.size = 2 by rw [← hF]; rfl)
      have SF2 := Lib.hid (show F2.size = 2 by rw [← hF2]; rfl)
      have IF := Lib.hid (show (Try.prog.info? 101).map (·.size) = some F.size by rw [SF.out]; exact infoEdd)
      have IF2 := Lib.hid (show (Try.prog.info? 101).map (·.size) = some F2.size by rw [SF2.out]; exact infoEdd)
      have OF := Lib.hid (show F.all (·.oneCell') = true by rw [← hF]; simp [hx, hy])
      have OF2 := Lib.hid (show F2.all (·.oneCell') = true by rw [← hF2]; simp [hx2, hy2])
      have SFZ := Lib.hid (show F.size = (#[Value.nilIface, Value.slice none 0 0] : Array Value).size by rw [SF.out]; rfl)
      have SFF := Lib.hid (show F2.size = F.size by rw [SF.out, SF2.out])
      rw [hF] at hg
      rw [hF2] at ta
      have HG := Lib.hid hg; have HGP := Lib.hid hgp; have HB := Lib.hid hb; have HF1 := Lib.hid (show F[0]? = some x by subst hF; rfl); have HF2 := Lib.hid hF2; have HX2 := Lib.hid hx2; have HY2 := Lib.hid hy2
      have HT2 := Lib.hid ht2; have HFF2 := Lib.hid hf2; have HKC := Lib.hid hkc
      have NW := Lib.hid (heap_alloc_new wr (.cells #[.nilIface, .slice none 0 0] 101))
      have BW := Lib.hid (hb.alloc hb.size (.cells #[.nilIface, .slice none 0 0] 101))
      have ZW := Lib.hid (show w.heap.size ≤ wr.heap.size from hb.size)
      have klt : k ≤ 1000 := by have := HC.out; omega
      clear hg hgp hx hy ht hf hb hsto hx2 hy2 ht2 hf2 hF hF2 hkc
      go_wp2_with (first
        | (with_reducible refine wpList_load_all 101 (.tmp 4) rfl (by kernel_rfl) gp F 101 (0, 0) rfl HG.out _ Try.underlying101 rfl IF.out ?_)
        | (with_reducible refine wpList_store_all rfl 101 (.tmp 4) (.tmp 20) rfl wr.heap.size F rfl rfl 101 #[.nilIface, .slice none 0 0] NW.out IF.out SFZ.out OF.out ?_; intro w4 hg4 ho4 hs4; have G4 := Lib.hid hg4; have x4 := (cell_of_row w4 wr.heap.size 0 _ _ _ hg4).trans HF1.out; clear hg4)
        | (with_reducible refine wpList_store_all rfl 101 (.tmp 4) (.tmp 16) rfl wr.heap.size F2 rfl rfl 101 F G4.out IF2.out SFF.out OF2.out ?_; intro w5 hg5 ho5 hs5; have G5 := Lib.hid hg5; clear hg5)
        | fail)
      have b4 := BW.out.trans (ho4.below (B := w.heap.size) ZW.out BW.out.size)
      have b5 := b4.trans (ho5.below (B := w.heap.size) ZW.out b4.size)
      refine ⟨⟨k + 1, wr.heap.size, x2, y2, b2, by go_num, rfl, rfl, by rw [HF2.out]; exact G5.out, ZW.out, HX2.out, HY2.out, fun h => ?_, fun h => ?_, b5⟩, ?_⟩
      · obtain ⟨t2, c2, h1, h2⟩ := HT2.out h
        exact ⟨t2, c2, h1, by have := HKC.out; omega⟩
      · have h1 := HFF2.out h
        have := HKC.out
        omega
      · have := HKC.out
        simp only [intOf]
        omega
    | false =>
      obtain rfl := hf rfl
      have HB := Lib.hid hb
      clear hg hgp hx hy ht hf hb
      go_wp2
      go_ret
      exact ⟨rfl, HB.out⟩
end Go.Proofs.Ytgbmbemmkadagaa

/-
  Short forms of the steps of a region that draws its order, the frame's puts told anew behind each.
-/
namespace Go.Proofs.Ytgbmbemmkadagaa
open Go.RowKit

variable {P : Program} {ops : Array Oper} {Q : Exit → Act → World → Prop} {md : Region.Mode} {S : World → Prop}
theorem lsA (l : List Value) (i : Nat) (x : Value) : l.toArray.setIfInBounds i x = (l.set i x).toArray := List.setIfInBounds_toArray l i x
theorem lsZ (x y : Value) (l : List Value) : (x :: l).set 0 y = y :: l := rfl
theorem lsS (x y : Value) (l : List Value) (i : Nat) : (x :: l).set (i + 1) y = x :: l.set i y := rfl
theorem tkH (i : Nat) {oi : Oper} {v : Value} {fuel : Nat} {listed : Array Bool} {a b : Act} {w : World} (hi : ops[i]? = some oi) (hy : YieldsIf P ops S oi v a) (hS : S w)
    (h : wpAnyH P md ops Q S fuel (listed.setIfInBounds i true) b w) (hs : Region.noSelect ops = true := by kernel_rfl) (hf : Region.free md ops listed i = true := by kernel_rfl)
    (hr : (Region.ready md ops listed).contains i = true := by kernel_rfl) (hQ : ∀ c a w, Q (.panic c) (a.put oi.dst v) w → Q (.panic c) a w := by exact fun _ _ _ h => h)
    (hb : a.put oi.dst v = b := by first | (simp only [Act.put, lsA, lsZ, lsS]; rfl) | rfl) : wpAnyH P md ops Q S (fuel + 1) listed a w :=
  wpAnyH_take hi hs hf hr hQ hy hS (hb ▸ h)
theorem tkV (i : Nat) {oi : Oper} {fuel : Nat} {listed : Array Bool} {a b : Act} {w : World} (hi : ops[i]? = some oi) (v : Value) (hy : ∀ w, S w → (execOp a.eval oi).run P w = .ok (.value v) w) (hS : S w)
    (h : wpAnyH P md ops Q S fuel (listed.setIfInBounds i true) b w) (hs : Region.noSelect ops = true := by kernel_rfl) (hf : Region.free md ops listed i = true := by kernel_rfl)
    (hr : (Region.ready md ops listed).contains i = true := by kernel_rfl) (hQ : ∀ c a w, Q (.panic c) (a.put oi.dst v) w → Q (.panic c) a w := by exact fun _ _ _ h => h) (hw : Region.wanted oi (yielded ops a.tmps) = true := by kernel_rfl)
    (hb : a.put oi.dst v = b := by first | (simp only [Act.put, lsA, lsZ, lsS]; rfl) | rfl) : wpAnyH P md ops Q S (fuel + 1) listed a w :=
  wpAnyH_take hi hs hf hr hQ (.inl ⟨hw, hy⟩) hS (hb ▸ h)
theorem tkW (i : Nat) {oi : Oper} {fuel : Nat} {listed : Array Bool} {a b : Act} {w : World} {v : Value} (hi : ops[i]? = some oi) (hS : S w)
    (h : wpAnyH P md ops Q S fuel (listed.setIfInBounds i true) b w) (hs : Region.noSelect ops = true := by kernel_rfl) (hf : Region.free md ops listed i = true := by kernel_rfl)
    (hr : (Region.ready md ops listed).contains i = true := by kernel_rfl) (hy : ∀ w, S w → (execOp a.eval oi).run P w = .ok (.value v) w := by intro u hu; go_simp; try with_reducible rfl)
    (hQ : ∀ c a w, Q (.panic c) (a.put oi.dst v) w → Q (.panic c) a w := by exact fun _ _ _ h => h) (hw : Region.wanted oi (yielded ops a.tmps) = true := by kernel_rfl)
    (hb : a.put oi.dst v = b := by first | (simp only [Act.put, lsA, lsZ, lsS]; rfl) | rfl) : wpAnyH P md ops Q S (fuel + 1) listed a w :=
  wpAnyH_take hi hs hf hr hQ (.inl ⟨hw, hy⟩) hS (hb ▸ h)
theorem tkU (i : Nat) {oi : Oper} {fuel : Nat} {listed : Array Bool} {a b : Act} {w : World} (hi : ops[i]? = some oi) (hS : S w)
    (h : wpAnyH P md ops Q S fuel (listed.setIfInBounds i true) b w) (hs : Region.noSelect ops = true := by kernel_rfl) (hf : Region.free md ops listed i = true := by kernel_rfl)
    (hr : (Region.ready md ops listed).contains i = true := by kernel_rfl) (hQ : ∀ c a w, Q (.panic c) (a.put oi.dst undef) w → Q (.panic c) a w := by exact fun _ _ _ h => h) (hw : Region.wanted oi (yielded ops a.tmps) = false := by kernel_rfl)
    (hb : a.put oi.dst undef = b := by first | (simp only [Act.put, lsA, lsZ, lsS]; rfl) | rfl) : wpAnyH P md ops Q S (fuel + 1) listed a w :=
  wpAnyH_take hi hs hf hr hQ (.inr ⟨hw, rfl⟩) hS (hb ▸ h)
theorem rdH (i : Nat) {o : Oper} {fuel : Nat} {listed : Array Bool} {a : Act} {w : World} (ho : ops[i]? = some o)
    (h : ∀ K' : Act → World → Prop, Shut (∀ a w, S w → (S w → wpAnyH P md ops Q S fuel (listed.setIfInBounds i true) a w) → K' a w) → if Region.wanted o (yielded ops a.tmps) = true then Oper.wp P o a w K' Q else K' (a.put o.dst undef) w)
    (hr : Region.ready md ops listed = [i] := by kernel_rfl) : wpAnyH P md ops Q S (fuel + 1) listed a w := wpAnyH_ready hr (by simp) (.cons ho h .nil)
theorem rgB {id : Nat} {a : Act} (W : World) (h : Below W.heap.size W W.drew → wpAnyH P .any ops Q (fun u => Below W.heap.size W u) ops.size (Array.replicate ops.size false) a W.drew)
    (hm : P.follows .mixedOrders = true := by kernel_rfl) : (Code.region id ops true).wp P Q a W := wp_region_held_drew (S := fun u => Below W.heap.size W u) hm (Below.refl _ _).drew h
end Go.Proofs.Ytgbmbemmkadagaa
