/-
  Layer 12: what a program that does nothing does not answer (awake).
-/
import Derived.Test.YtajmgjhknmkfpaaUx
namespace Go.Proofs.Ytajmgjhknmkfpaa
set_option maxRecDepth 20000
open Go.RowKit Go.Maps
set_option linter.unusedVariables false
set_option linter.unusedSimpArgs false

/-- A literal of one part, also under a guard that holds. -/
theorem wpList_build_W {ops : Array Oper} {rest : List Oper} {o : Oper} {a : Act} {w : World} {Q : Exit → Act → World → Prop} (t : TypeId) (k : Nat) (x : Operand) (ho : o.op = .build t #[(k, x)]) (hw : Region.wanted o (yielded ops a.tmps) = true)
    (v : Value) (hx : a.eval x = v) (cells : Array Value) (hb : Try.prog.built t [(k, v)] = some cells) (h : wpList Try.prog ops Q rest (a.put o.dst (.agg cells)) w) : wpList Try.prog ops Q (o :: rest) a w := by
  subst hx
  exact Go.BigFrame.wpList_want hw fun _ hK => wp_build t #[(k, x)] ho (by simp [hb]) (by simp [hb]; exact hK _ _ h)
/-- A literal of one id, also under a guard that holds. -/
theorem wpList_row_W {ops : Array Oper} {rest : List Oper} {o : Oper} {a : Act} {w : World} {Q : Exit → Act → World → Prop} (x : Operand) (ho : o.op = .buildSlice 23 1 #[(0, x)]) (hw : Region.wanted o (yielded ops a.tmps) = true)
    (A : Array Value) (hA : A.size = 20) (hx : a.eval x = .agg A)
    (h : wpList Try.prog ops Q rest (a.put o.dst (.slice (some ⟨w.heap.size, 0, none⟩) 1 1)) (w.alloc (.cells A 32))) : wpList Try.prog ops Q (o :: rest) a w :=
  Go.BigFrame.wpList_want hw fun _ hK => wp_build_oneR goodI x ho A hA hx (hK _ _ h)
def idB (b : UInt8) : List UInt8 := b :: List.replicate 19 0
theorem idB_len (b : UInt8) : (idB b).length = 20 := by simp [idB]
theorem built_idB (b : UInt8) : Try.prog.built 32 [(0, .int .u8 (b.toNat : Int))] = some (arrD (idB b)) := by kernel_rfl
theorem one_row {w : World} {x : List UInt8} {A : Array Value} (hA : arrD x = A) : RowAt rowI (w.alloc (.cells A 32)) (some ⟨w.heap.size, 0, none⟩) [x] := by
  subst hA
  exact rowR_one (R := rowI) goodI (heap_alloc_new w _)
def L1 : List Gn := [⟨idB 1, []⟩]
def L2 : List Gn := [⟨idB 1, []⟩, ⟨idB 2, [0]⟩]
theorem add1 : addG [] (idB 1) [] = (0, L1) := by rfl
theorem add2 : addG L1 (idB 2) [idB 1] = (0, L2) := by rfl
theorem comes2 : comesG L2 (idB 2) (idB 1) = true := by rfl
theorem clo2 : cloG L2 [idB 2] = [idB 1, idB 2] := by rfl
theorem few_L1 : ∀ k, (plAt L1 k).length ≤ 1000 := fun k => by
  match k with
  | 0 => decide
  | k + 1 => simp [plAt, L1]
theorem few_L2 : ∀ k, (plAt L2 k).length ≤ 1000 := fun k => by
  match k with
  | 0 => decide
  | 1 => decide
  | k + 2 => simp [plAt, L2]
set_option maxRecDepth 100000 in
set_option maxHeartbeats 16000000 in
theorem awake12 (w : World) : Calls Try.prog 8 #[] w fun e w' => e = .returned (.bool true) ∧ Below w.heap.size w w' := by
  have CN := Lib.hid (newP_is w)
  have G0 := GraphP.new (fun k => k = w.heap.size) w rfl
  have b0 := (Below.refl w.heap.size w).alloc (Nat.le_refl _) (.cells #[.slice none 0 0, .map none] 57)
  obtain ⟨w0, hw0⟩ : ∃ w0, w.alloc (.cells #[.slice none 0 0, .map none] 57) = w0 := ⟨_, rfl⟩
  rw [hw0] at CN G0 b0
  have hg0 := G0.lt
  have C1 := addP_is G0 (fun k hk => by rw [hk]; exact hg0) (idB 1) (idB_len 1) none 0 0 [] (RowAt.nil _ _) rfl (by decide) (fun i h => by cases h) (by decide) (fun k => by simp [plAt])
  rw [add1] at C1
  obtain ⟨A1, hA1⟩ : ∃ A, arrD (idB 1) = A := ⟨_, rfl⟩
  obtain ⟨A2, hA2⟩ : ∃ A, arrD (idB 2) = A := ⟨_, rfl⟩
  have S1 := Lib.hid (show A1.size = 20 by rw [← hA1]; exact arrD_size _ (idB_len 1))
  have S2 := Lib.hid (show A2.size = 20 by rw [← hA2]; exact arrD_size _ (idB_len 2))
  have BB1 := Lib.hid (show Try.prog.built 32 [(0, .int .u8 1)] = some A1 by rw [← hA1]; exact built_idB 1)
  have BB2 := Lib.hid (show Try.prog.built 32 [(0, .int .u8 2)] = some A2 by rw [← hA2]; exact built_idB 2)
  rw [hA1] at C1
  have HA1 := Lib.hid hA1; have HA2 := Lib.hid hA2; have B0 := Lib.hid b0; have C1 := Lib.hid C1; have HG0 := Lib.hid hg0
  clear hA1 hA2 b0 G0 hg0 hw0
  obtain ⟨g, hg⟩ : ∃ g, w.heap.size = g := ⟨_, rfl⟩
  have HG := Lib.hid hg
  rw [hg] at C1 CN HG0
  clear hg
  go_enter Try.func8, Try.ntmps8
  go_wp2_with fail
  refine CN.out.mono ?_
  rintro e w1 ⟨rfl, rfl⟩
  go_wp2_with (first
    | (with_reducible refine wpList_build_W 32 0 (.const (.int .u8 1)) rfl (by kernel_rfl) (.int .u8 1) rfl A1 BB1.out ?_)
    | fail)
  refine C1.out.mono ?_
  rintro e w2 ⟨rfl, hgp, hch⟩
  have B2 := Lib.hid (B0.out.trans (hch.below B0.out.size (fun i _ hi => by have := HG.out; omega)))
  have b3 := (Below.refl w2.heap.size w2).alloc (Nat.le_refl _) (.cells A1 32)
  have B3 := Lib.hid (B2.out.trans (b3.mono B2.out.size))
  have hs3 := b3.size
  have g3 := hgp.below b3
  have SB : ∀ k, (k = g ∨ (w1.heap.size ≤ k ∧ k < w2.heap.size)) → k < (w2.alloc (.cells A1 32)).heap.size := fun k hk => by
    have h1 := HG0.out
    have h2 := hch.size
    rcases hk with hk | hk <;> omega
  have C2 := addP_is g3 SB (idB 2) (idB_len 2) (some ⟨w2.heap.size, 0, none⟩) 1 1 [idB 1] (one_row HA1.out) rfl (by decide) (fun i h => by rw [List.mem_singleton.1 h]; exact idB_len 1) (by decide) few_L1
  rw [add2, HA2.out] at C2
  have C2 := Lib.hid C2
  clear hgp hch b3 hs3 g3 C1
  go_wp2_with (first
    | (with_reducible refine wpList_build_W 32 0 (.const (.int .u8 1)) rfl (by kernel_rfl) (.int .u8 1) rfl A1 BB1.out ?_)
    | (with_reducible refine wpList_build_W 32 0 (.const (.int .u8 2)) rfl (by kernel_rfl) (.int .u8 2) rfl A2 BB2.out ?_)
    | (with_reducible refine wpList_row_W (.tmp 14) rfl (by kernel_rfl) A1 S1.out rfl ?_)
    | fail)
  refine C2.out.mono ?_
  rintro e w4 ⟨rfl, hgp, hch⟩
  have B4 := Lib.hid (B3.out.trans (hch.below B3.out.size (fun i hi hs => by
    have h1 := HG.out
    have h2 := B0.out.size
    rcases hs with hs | hs <;> omega)))
  have C3 := comesP_is hgp (by decide) few_L2 (idB 2) (idB 1) (idB_len 2) (idB_len 1)
  rw [comes2, HA1.out, HA2.out] at C3
  have C3 := Lib.hid C3
  have OPS := Lib.hid (GOps.of hgp (by decide) few_L2)
  clear hgp hch C2 SB
  go_wp2_with (first
    | (with_reducible refine wpList_build_W 32 0 (.const (.int .u8 1)) rfl (by kernel_rfl) (.int .u8 1) rfl A1 BB1.out ?_)
    | (with_reducible refine wpList_build_W 32 0 (.const (.int .u8 2)) rfl (by kernel_rfl) (.int .u8 2) rfl A2 BB2.out ?_)
    | fail)
  refine C3.out.mono ?_
  rintro e w5 ⟨rfl, hb5⟩
  have B5 := Lib.hid (B4.out.trans (hb5.mono B4.out.size))
  have b6 := (Below.refl w5.heap.size w5).alloc (Nat.le_refl _) (.cells A2 32)
  have B6 := Lib.hid (B5.out.trans (b6.mono B5.out.size))
  have C4 := closureP_any ((OPS.out.below hb5).below b6) (some ⟨w5.heap.size, 0, none⟩) 1 1 [idB 2] (one_row HA2.out) rfl (by decide) (fun i h => by rw [List.mem_singleton.1 h]; exact idB_len 2)
  rw [clo2] at C4
  have C4 := Lib.hid C4
  clear hb5 b6 C3
  go_wp2_with (first
    | (with_reducible refine wpList_build_W 32 0 (.const (.int .u8 2)) rfl (by kernel_rfl) (.int .u8 2) rfl A2 BB2.out ?_)
    | (with_reducible refine wpList_row_W (.tmp 25) rfl (by kernel_rfl) A2 S2.out rfl ?_)
    | fail)
  refine C4.out.mono ?_
  rintro e w7 ⟨v, rfl, hv, hb7⟩
  have B7 := Lib.hid (B6.out.trans (hb7.mono B6.out.size))
  obtain ⟨av, cv, hvv, -⟩ := ownD_ids hv (fun i hi => by
    simp only [List.mem_cons, List.not_mem_nil, or_false] at hi
    rcases hi with rfl | rfl <;> exact idB_len _)
  subst hvv
  clear hv hb7 C4
  go_wp2
  go_ret
  exact ⟨rfl, B7.out⟩
end Go.Proofs.Ytajmgjhknmkfpaa
