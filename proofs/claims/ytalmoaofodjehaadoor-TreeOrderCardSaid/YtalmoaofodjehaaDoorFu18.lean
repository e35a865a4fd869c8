/-
  Texts that belong together, one behind the other.
-/
import Derived.Test.YtalmoaofodjehaaDoorFu02
import Derived.Deep.QuietTactic
import Derived.BigQuiet
import Derived.IntWalk
import Derived.WalkSmall
import Derived.OwnWalk
import Derived.Laws.OwnMore
import Derived.Laws.CopyOwn
import Derived.Test.YtalmoaofodjehaaDoorFu17
import Derived.Test.YtalmoaofodjehaaDoorFu05
import Derived.Test.YtalmoaofodjehaaDoorFu06
import Derived.Test.YtalmoaofodjehaaDoorFu12
import Derived.Test.YtalmoaofodjehaaDoorFu16
/-
  The helpers of the statements over bytes: Same, Plain.
-/
namespace Go.Proofs.YtalmoaofodjehaaDoor
open Go.RowKit
set_option linter.unusedVariables false

set_option maxHeartbeats 400000 in
theorem eq_byte (x y : Int) (w : World) :
    Calls Tryd.prog 43 #[.int .u8 x, .int .u8 y] w fun e w' => e = .returned (.bool (x == y)) ∧ w = w' := by
  go_enter Tryd.func43, Tryd.ntmps43
  go_wp2
  go_ret
  exact ⟨rfl, rfl⟩

theorem eq_byte_same (x : Int) (w : World) :
    Calls Tryd.prog 43 #[.int .u8 x, .int .u8 x] w fun e w' => e = .returned (.bool true) ∧ w = w' := by
  have h := eq_byte x x w
  rwa [show (x == x) = true by simp] at h

set_option maxHeartbeats 400000 in
theorem Same_some (b1 o1 b2 o2 c1 c2 : Nat) (l : List UInt8) (w : World) (h1 : b1 < w.heap.size) (h2 : b2 < w.heap.size)
    (hc1 : ∀ i (h : i < l.length), w.cell? ⟨b1, o1 + i, none⟩ = some (.int .u8 (l[i]).toNat)) (hc2 : ∀ i (h : i < l.length), w.cell? ⟨b2, o2 + i, none⟩ = some (.int .u8 (l[i]).toNat)) (hn : l.length ≤ 1099511627776) :
    Calls Tryd.prog 42 #[.slice (some ⟨b1, o1, none⟩) l.length c1, .slice (some ⟨b2, o2, none⟩) l.length c2, .func (.func 43) #[] #[]] w fun e w' => e = .returned (.bool true) ∧ Below w.heap.size w w' := by
  have HC1 := Lib.hid hc1; clear hc1
  have HC2 := Lib.hid hc2; clear hc2
  go_enter Tryd.func42, Tryd.ntmps42
  go_wp2_with fail
  go_loopw [7] (fun i wr => ∃ k : Nat, k ≤ l.length ∧ i = .int .i64 k ∧ Below w.heap.size w wr) (fun i _ => l.length - (intOf i).toNat)
  case atStart => exact ⟨0, Nat.zero_le _, rfl, Below.refl _ _⟩
  case round =>
    obtain ⟨k, hk, rfl, hbr⟩ := hrel
    by_cases hlt : k < l.length
    · have hcell1 : wr.cell? ⟨b1, o1 + k, none⟩ = some (.int .u8 (l[k]).toNat) := (hbr.cell (p := ⟨b1, o1 + k, none⟩) h1).trans (HC1.out k hlt)
      have hcell2 : wr.cell? ⟨b2, o2 + k, none⟩ = some (.int .u8 (l[k]).toNat) := (hbr.cell (p := ⟨b2, o2 + k, none⟩) h2).trans (HC2.out k hlt)
      obtain ⟨x, hxe⟩ : ∃ x : Int, x = (l[k]).toNat := ⟨_, rfl⟩
      rw [← hxe] at hcell1 hcell2
      clear hxe
      go_wp2_with fail
      go_quiet ((go_at_call 43; exact Calls.quiet_of_same ((eq_byte_same _ _).mono fun _ _ h => ⟨h.1, h.2.symm⟩)))
      go_wp2
      go_roundw
      case rel => exact ⟨k + 1, by omega, by go_num, _root_.Go.below_drewN hbr _⟩
      case measure => simp [intOf]; omega
    · obtain rfl : k = l.length := by omega
      go_wp2
      go_ret
      exact ⟨rfl, hbr⟩
set_option maxHeartbeats 400000 in
theorem Same_none (a1 a2 : Option Addr) (c1 c2 : Nat) (w : World) :
    Calls Tryd.prog 42 #[.slice a1 0 c1, .slice a2 0 c2, .func (.func 43) #[] #[]] w fun e w' => e = .returned (.bool true) ∧ Below w.heap.size w w' := by
  go_enter Tryd.func42, Tryd.ntmps42
  go_wp2_with fail
  refine wp_loop_rounds 1 ?_
  rw [rounds_succ]
  go_wp2
  go_ret
  exact ⟨rfl, Below.refl _ _⟩
theorem Same_any (a1 a2 : Option Addr) (n1 n2 c1 c2 : Nat) (l : List UInt8) (w : World) (h1 : BAt w a1 l) (h2 : BAt w a2 l) (e1 : n1 = l.length) (e2 : n2 = l.length) (hn : l.length ≤ 1099511627776) :
    Calls Tryd.prog 42 #[.slice a1 n1 c1, .slice a2 n2 c2, .func (.func 43) #[] #[]] w fun e w' => e = .returned (.bool true) ∧ Below w.heap.size w w' := by
  subst e1; subst e2
  by_cases hp : 0 < l.length
  · obtain ⟨b1, o1, rfl, hb1, hc1⟩ := h1 hp
    obtain ⟨b2, o2, rfl, hb2, hc2⟩ := h2 hp
    exact Same_some b1 o1 b2 o2 c1 c2 l w hb1 hb2 hc1 hc2 hn
  · obtain rfl : l = [] := List.eq_nil_of_length_eq_zero (by omega)
    exact Same_none a1 a2 c1 c2 w
set_option maxHeartbeats 400000 in
theorem Plain_any (a1 a2 : Option Addr) (n1 n2 c1 c2 : Nat) (l : List UInt8) (w : World) (h1 : BAt w a1 l) (h2 : BAt w a2 l) (e1 : n1 = l.length) (e2 : n2 = l.length) (hn : l.length ≤ 1099511627776) :
    Calls Tryd.prog 35 #[.slice a1 n1 c1, .slice a2 n2 c2] w fun e w' => e = .returned (.bool true) ∧ Below w.heap.size w w' := by
  have C := Lib.hid (Same_any a1 a2 n1 n2 c1 c2 l w h1 h2 e1 e2 hn)
  clear h1 h2 e1 e2
  go_enter Tryd.func35, Tryd.ntmps35
  go_wp2_with fail
  refine C.out.mono ?_
  rintro e w1 ⟨rfl, hb⟩
  go_wp2
  go_ret
  exact ⟨rfl, hb⟩
end Go.Proofs.YtalmoaofodjehaaDoor

/-
  The helper Kept of the statements, over bytes: the copy that Own made is as it was.
-/
namespace Go.Proofs.YtalmoaofodjehaaDoor
open Go.RowKit
set_option linter.unusedVariables false

set_option maxHeartbeats 1000000 in
theorem Kept_any (g n n2 c c2 : Nat) (a : Option Addr) (l : List UInt8) (f : Int) (w : World) (ho : OwnAt w g l f) (h : BAt w a l) (e1 : n = l.length) (e2 : c = l.length + 3) (e3 : n2 = l.length) (hn : l.length ≤ 1099511627776) :
    Calls Tryd.prog 22 #[.slice (some ⟨g, 0, none⟩) n c, .slice a n2 c2, .int .u8 f] w fun e w' => e = .returned (.bool true) ∧ Below w.heap.size w w' := by
  subst e1; subst e2; subst e3
  have P := Lib.hid (fun c1 => Plain_any (some ⟨g, 0, none⟩) a l.length l.length c1 c2 l w ho.bat h rfl rfl hn)
  have HO := Lib.hid ho
  have hg := ho.lt
  clear ho h
  go_enter Tryd.func22, Tryd.ntmps22
  go_wp2_with fail
  refine (P.out _).mono ?_
  rintro e w1 ⟨rfl, hb1⟩
  have HO1 := Lib.hid (HO.out.keep hb1)
  go_wp2_with fail
  go_loopw [8] (fun i wr => ∃ k : Nat, l.length ≤ k ∧ k ≤ l.length + 3 ∧ i = .int .i64 k ∧ Below w.heap.size w wr) (fun i _ => l.length + 3 - (intOf i).toNat)
  case atStart => exact ⟨l.length, Nat.le_refl _, by omega, rfl, hb1⟩
  case round =>
    obtain ⟨k, hk0, hk, rfl, hbr⟩ := hrel
    by_cases hlt : k < l.length + 3
    · have hcell := (HO.out.keep hbr).room k hk0 hlt
      go_wp2
      go_roundw
      case rel => exact ⟨k + 1, by omega, by omega, by go_num, hbr⟩
      case measure => simp [intOf]; omega
    · obtain rfl : k = l.length + 3 := by omega
      go_wp2
      go_ret
      exact ⟨rfl, hbr⟩
end Go.Proofs.YtalmoaofodjehaaDoor

/-
  The helper Bytes of the statements.
-/
namespace Go.Proofs.YtalmoaofodjehaaDoor
open Go.RowKit
set_option linter.unusedVariables false

set_option maxHeartbeats 400000 in
theorem Bytes_any (a1 a2 : Option Addr) (n1 n2 c1 c2 : Nat) (l1 l2 : List UInt8) (w : World) (h1 : BAt w a1 l1) (h2 : BAt w a2 l2) (e1 : n1 = l1.length) (e2 : n2 = l2.length) :
    Calls Tryd.prog 19 #[.slice a1 n1 c1, .slice a2 n2 c2] w fun e w' => e = .returned (.bool (l1 == l2)) ∧ w = w' := by
  subst e1; subst e2
  have g1 := h1.conv (P := Tryd.prog) c1 23 5 Tryd.underlying23 Tryd.underlying5 9 Tryd.underlying9
  have g2 := h2.conv (P := Tryd.prog) c2 23 5 Tryd.underlying23 Tryd.underlying5 9 Tryd.underlying9
  clear h1 h2
  go_enter Tryd.func19, Tryd.ntmps19
  go_wp2
  go_ret
  exact ⟨rfl, rfl⟩

theorem Bytes_same (a1 a2 : Option Addr) (n1 n2 c1 c2 : Nat) (l : List UInt8) (w : World) (h1 : BAt w a1 l) (h2 : BAt w a2 l) (e1 : n1 = l.length) (e2 : n2 = l.length) :
    Calls Tryd.prog 19 #[.slice a1 n1 c1, .slice a2 n2 c2] w fun e w' => e = .returned (.bool true) ∧ w = w' := by
  have h := Bytes_any a1 a2 n1 n2 c1 c2 l l w h1 h2 e1 e2
  rwa [show (l == l) = true by simp] at h

end Go.Proofs.YtalmoaofodjehaaDoor

/-
  Layer 8: what the walks share.
-/
namespace Go.Proofs.YtalmoaofodjehaaDoor
set_option maxRecDepth 20000
open Go.RowKit
set_option linter.unusedVariables false
set_option linter.unusedSimpArgs false

theorem parsedT_len {b : List UInt8} {l : List Itm} {e : Int} (h : ParsedT b l e) : l.length ≤ b.length ∧ ∀ i ∈ l, i.id.length = 20 := by
  rcases h with ⟨_, h2, _⟩ | ⟨_, _, h3, h4, _⟩ | ⟨_, _, h3, _⟩
  · subst h2; exact ⟨Nat.zero_le _, fun i hi => by cases hi⟩
  · refine ⟨by rw [← h3]; exact flat_count l, fun i hi => (h4 i hi).2.2⟩
  · subst h3; exact ⟨Nat.zero_le _, fun i hi => by cases hi⟩
theorem parsedT_names {b : List UInt8} {l : List Itm} {e : Int} (h : ParsedT b l e) : ∀ i ∈ l, i.name.length ≤ b.length := by
  rcases h with ⟨_, h2, _⟩ | ⟨_, _, h3, h4, _⟩ | ⟨_, _, h3, _⟩
  · subst h2; intro i hi; cases hi
  · intro i hi; rw [← h3]; exact name_le hi
  · subst h3; intro i hi; cases hi
/-- The item that Own and Kept fill with. -/
def spI : Itm := ⟨0, [115, 112, 111, 105, 108, 116], zeroId⟩
theorem spI_id : spI.id.length = 20 := rfl
theorem RedI.items {w : World} {v : Value} {l : List Itm} (h : RedI w v l) : ∃ a c, v = .slice a l.length c ∧ ItemsAt w a l := by
  obtain ⟨a, c, h1, h2, _⟩ := h
  exact ⟨a, c, h1, h2⟩
theorem RedB.keep {w w' : World} {v : Value} {l : List UInt8} (h : Red w v l) (b : Below w.heap.size w w') : Red w' v l := h.below b (Nat.le_refl _)
theorem red_bat {w : World} {a : Option Addr} {n c : Nat} {l : List UInt8} (h : Red w (.slice a n c) l) : BAt w a l := by
  obtain ⟨_, _, e, hb, _⟩ := h
  cases e
  exact hb
theorem redI_items {w : World} {a : Option Addr} {n c : Nat} {l : List Itm} (h : RedI w (.slice a n c) l) : ItemsAt w a l := by
  obtain ⟨_, _, e, hb, _⟩ := h
  cases e
  exact hb
theorem elem_items : Tryd.prog.underlying 22 = some (.slice (Tryd.prog.elem 22)) := by kernel_rfl
/-- 'l[:k]'. -/
theorem is_head (a : Option Addr) (n c k : Nat) (x : Int) (hx : x = k) (hk : k ≤ c) (u : World) :
    (Instr.sliceAt 22 (.slice a n c) none (some (.int .i64 x)) none).run Tryd.prog u = .ok (.slice a k c) u := by
  subst hx
  obtain ⟨i, hi, hz, hs, hby⟩ := info_all
  have e : Tryd.prog.elem 22 = 30 := by kernel_rfl
  rw [run_sliceAt_slice (h := elem_items), run_slice_h (ht := elem_items) (h0 := by omega) (h2 := by omega)]
  rw [e]
  simp [sizeOf, typeInfo, hi, hs, Result.andThen, sliced]
  cases a with
  | none => simp
  | some a => simp [Addr.add]
theorem bat_take {w : World} {a : Option Addr} {l : List UInt8} (h : BAt w a l) (k : Nat) : BAt w a (l.take k) := fun hp => by
  rw [List.length_take] at hp
  obtain ⟨b, o, rfl, h1, h2⟩ := h (by omega)
  refine ⟨b, o, rfl, h1, fun i hi => ?_⟩
  rw [List.length_take] at hi
  rw [List.getElem_take]
  exact h2 i (by omega)
theorem mem_take_of {l : List Itm} {k : Nat} {P : Itm → Prop} (h : ∀ i ∈ l, P i) : ∀ i ∈ l.take k, P i := fun i hi => h i (List.mem_of_mem_take hi)
end Go.Proofs.YtalmoaofodjehaaDoor
