/-
  Layer 14, the program: a reader's number.
-/
import Derived.Test.YtbilempgnpnacaaE4o
namespace Go.Proofs.Ytbilempgnpnacaa
set_option maxRecDepth 20000
open Go.RowKit
set_option linter.unusedVariables false
set_option linter.unusedSimpArgs false

set_option maxHeartbeats 4000000 in
theorem number_down {w0 w : World} {g : Nat} {v : Value} {r : List UInt8} {e : Nat} (h : RdP w0 w g v r e) (he : e ≠ 0) :
    Calls Try.prog 32 #[.pointer (some ⟨g, 0, none⟩)] w fun x w' => x = .returned (.int .i64 0) ∧ w' = w := by
  have C := Lib.hid (take_down h he 4)
  obtain ⟨c0, c1, -, -⟩ := h.cells
  obtain ⟨E, hE⟩ : ∃ E : Int, (e : Int) = E := ⟨_, rfl⟩
  rw [hE] at c1
  have f1 : (E == 0) = false := by rw [beq_eq_false_iff_ne]; omega
  have f2 : (E != 0) = true := by simp [bne, f1]
  clear h he hE c0
  go_enter Try.func32, Try.ntmps32
  go_wp2_with fail
  refine C.out.mono ?_
  rintro x w1 ⟨rfl, rfl⟩
  go_wp2
  go_ret
  exact ⟨rfl, rfl⟩
set_option maxHeartbeats 4000000 in
theorem number_short {w0 w : World} {g : Nat} {a : Option Addr} {m c : Nat} {r : List UInt8} (h : RdP w0 w g (.slice a m c) r 0) (hm : m < 4) :
    Calls Try.prog 32 #[.pointer (some ⟨g, 0, none⟩)] w fun x w' => x = .returned (.int .i64 0) ∧ RdP w0 w' g (.slice a m c) r 3 ∧ Off g w w' := by
  have C := Lib.hid (take_short h 4 hm)
  clear h
  go_enter Try.func32, Try.ntmps32
  go_wp2_with fail
  refine C.out.mono ?_
  rintro x w1 ⟨rfl, hr, ho⟩
  obtain ⟨c0, c1, -, -⟩ := hr.cells
  have HR := Lib.hid hr; have HO := Lib.hid ho
  clear hr ho C c0
  go_wp2
  go_ret
  exact ⟨rfl, HR.out, HO.out⟩
/-- Four bytes at the head of what is left. -/
theorem red_word {w0 w : World} {a : Option Addr} {m c : Nat} {r : List UInt8} (h : Red w0 (.slice a m c) r) (hm : 4 ≤ m) (hb : Below w0.heap.size w0 w) :
    ∃ (b o : Nat) (x0 x1 x2 x3 : Int), a = some ⟨b, o, none⟩ ∧ b < w0.heap.size ∧ w.cell? ⟨b, o, none⟩ = some (.int .u8 x0) ∧ w.cell? ⟨b, o + 1, none⟩ = some (.int .u8 x1) ∧ w.cell? ⟨b, o + 2, none⟩ = some (.int .u8 x2) ∧ w.cell? ⟨b, o + 3, none⟩ = some (.int .u8 x3) ∧
      (0 ≤ x0 ∧ x0 < 256) ∧ (0 ≤ x1 ∧ x1 < 256) ∧ (0 ≤ x2 ∧ x2 < 256) ∧ (0 ≤ x3 ∧ x3 < 256) ∧ x0 * 16777216 + x1 * 65536 + x2 * 256 + x3 = ((wordX r : Nat) : Int) := by
  obtain ⟨rfl, h1, -, -⟩ := redP h
  obtain ⟨b, o, rfl, hlt, hc⟩ := BAt.at h1 (by omega)
  have q : ∀ k, k < r.length → w.cell? ⟨b, o + k, none⟩ = some (.int .u8 (r.getD k 0).toNat) := fun k hk => (hb.cell (p := ⟨b, o + k, none⟩) hlt).trans (hc k hk)
  refine ⟨b, o, _, _, _, _, rfl, hlt, q 0 (by omega), q 1 (by omega), q 2 (by omega), q 3 (by omega), u8_in _, u8_in _, u8_in _, u8_in _, ?_⟩
  unfold wordX
  omega
set_option maxHeartbeats 8000000 in
theorem number_word {w0 w : World} {g : Nat} {a : Option Addr} {m c : Nat} {r : List UInt8} (h : RdP w0 w g (.slice a m c) r 0) (hm : 4 ≤ m) :
    Calls Try.prog 32 #[.pointer (some ⟨g, 0, none⟩)] w fun x w' => x = .returned (.int .i64 (if 2147483647 < wordX r then 0 else wordX r : Nat)) ∧
      RdP w0 w' g (.slice (if c = 4 then a else a.map (·.add 4)) (m - 4) (c - 4)) (r.drop 4) (if 2147483647 < wordX r then 4 else 0) ∧ Off g w w' := by
  have C := Lib.hid (take_ok h 4 hm)
  obtain ⟨V, hV⟩ : ∃ V, wordX r = V := ⟨_, rfl⟩
  have HV := Lib.hid hV
  have WD := Lib.hid (fun u (hu : Below w0.heap.size w0 u) => red_word h.red hm hu)
  rw [hV]
  clear h hV
  obtain ⟨X, hX⟩ : ∃ X, (Value.slice (if c = 4 then a else a.map (·.add 4)) (m - 4) (c - 4)) = X := ⟨_, rfl⟩
  rw [hX] at C ⊢
  by_cases hbig : 2147483647 < V
  · rw [if_pos hbig, if_pos hbig]
    go_enter Try.func32, Try.ntmps32
    go_wp2_with fail
    refine C.out.mono ?_
    rintro x w1 ⟨rfl, hr, ho⟩
    obtain ⟨-, c1, -, z1⟩ := hr.cells
    obtain ⟨b, o, x0, x1, x2, x3, rfl, hlt, y0, y1, y2, y3, r0, r1, r2, r3, hs⟩ := WD.out w1 hr.below
    have hw := word32 r0 r1 r2 r3
    rw [hs, HV.out] at hw
    obtain ⟨r00, r01⟩ := r0; obtain ⟨r10, r11⟩ := r1; obtain ⟨r20, r21⟩ := r2; obtain ⟨r30, r31⟩ := r3
    have hVb : V < 4294967296 := by have := HV.out; omega
    have HR := Lib.hid hr; have HO := Lib.hid ho
    clear hr ho C hs hlt
    have hbi : (2147483647 : Int) < (V : Int) := by omega
    go_wp2_with fail
    go_quiet (fail)
    have HR2 := Lib.hid (show RdP w0 (w1.drewN nq) g X (r.drop 4) 0 from ⟨HR.out.cell, HR.out.red, below_drewN HR.out.below nq, HR.out.new⟩)
    have HO2 := Lib.hid (show Off g w (w1.drewN nq) from ⟨HO.out.os, HO.out.tape, HO.out.output, HO.out.size, HO.out.block⟩)
    obtain ⟨-, d1, -, f1⟩ := HR2.out.cells
    generalize w1.drewN nq = w2 at *
    clear c1 z1 y0 y1 y2 y3 hw
    go_wp2
    go_ret
    exact ⟨rfl, HR2.out.err 4, HO2.out.trans (off_setCell w2 g 1 _)⟩
  · rw [if_neg hbig, if_neg hbig]
    go_enter Try.func32, Try.ntmps32
    go_wp2_with fail
    refine C.out.mono ?_
    rintro x w1 ⟨rfl, hr, ho⟩
    obtain ⟨-, c1, -, z1⟩ := hr.cells
    obtain ⟨b, o, x0, x1, x2, x3, rfl, hlt, y0, y1, y2, y3, r0, r1, r2, r3, hs⟩ := WD.out w1 hr.below
    have hw := word32 r0 r1 r2 r3
    rw [hs, HV.out] at hw
    obtain ⟨r00, r01⟩ := r0; obtain ⟨r10, r11⟩ := r1; obtain ⟨r20, r21⟩ := r2; obtain ⟨r30, r31⟩ := r3
    have hVb : V < 4294967296 := by have := HV.out; omega
    have HR := Lib.hid hr; have HO := Lib.hid ho
    clear hr ho C hs hlt
    have hbi : ¬ ((2147483647 : Int) < (V : Int)) := by omega
    go_wp2_with fail
    go_quiet (fail)
    have HR2 := Lib.hid (show RdP w0 (w1.drewN nq) g X (r.drop 4) 0 from ⟨HR.out.cell, HR.out.red, below_drewN HR.out.below nq, HR.out.new⟩)
    have HO2 := Lib.hid (show Off g w (w1.drewN nq) from ⟨HO.out.os, HO.out.tape, HO.out.output, HO.out.size, HO.out.block⟩)
    obtain ⟨-, d1, -, f1⟩ := HR2.out.cells
    generalize w1.drewN nq = w2 at *
    clear c1 z1 y0 y1 y2 y3 hw
    go_wp2
    go_ret
    exact ⟨rfl, HR2.out, HO2.out⟩
end Go.Proofs.Ytbilempgnpnacaa
