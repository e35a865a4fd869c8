/-
  Rows of bytes: a head of a slice, CopyBytes, Spoil.
-/
import Derived.Test.YtbilempgnpnacaaTa
import Derived.Test.YtbilempgnpnacaaCb
import Derived.Test.YtbilempgnpnacaaOwn
import Derived.Lib.Hide
import Derived.StillTailTactics
import Derived.RegionTactic
namespace Go.Proofs.Ytbilempgnpnacaa
open Go.RowKit
set_option linter.unusedVariables false

theorem heap_put {w : World} {b k : Nat} {cs : Array Value} {t : TypeId} {fr : Nat × Nat} (h : w.heap[b]? = some (.cells cs t fr)) (x : Value) : (w.setCell ⟨b, k, none⟩ x).heap[b]? = some (.cells (cs.setIfInBounds k x) t fr) := by
  rw [setCell_eq_setRow w b k cs _ _ x h]; exact setRow_heap w b cs _ _ _ h
set_option maxHeartbeats 4000000 in
theorem Spoil_some (g n c : Nat) (w : World) (cur : Array Value) (hg : w.heap[g]? = some (.cells cur 5 (0, 0))) (hn : n ≤ 16777216) (hc : ∀ i, i < n → ∃ x : Int, cur[i]? = some (.int .u8 x)) :
    Calls Try.prog 22 #[.slice (some ⟨g, 0, none⟩) n c] w fun e w' => e = .returned (.tuple #[]) ∧ Chg (fun k => k = g) w w' := by
  have HG := Lib.hid hg; have HC := Lib.hid hc
  clear hg hc
  go_enter Try.func22, Try.ntmps22
  go_wp2_with fail
  go_loopw [2] (fun i wr => ∃ (k : Nat) (cur : Array Value), k ≤ n ∧ i = .int .i64 k ∧ wr.heap[g]? = some (.cells cur 5 (0, 0)) ∧ (∀ i, i < n → ∃ x : Int, cur[i]? = some (.int .u8 x)) ∧ Chg (fun k => k = g) w wr) (fun i _ => n - (intOf i).toNat)
  case atStart => exact ⟨0, cur, Nat.zero_le _, rfl, HG.out, HC.out, Chg.refl _ _⟩
  case round =>
    obtain ⟨k, cur, hk, rfl, hg, hc, hch⟩ := hrel
    by_cases hlt : k < n
    · obtain ⟨x, hx⟩ := hc k hlt
      have c1 : wr.cell? ⟨g, k, none⟩ = some (.int .u8 x) := (cell_of_row wr g k _ _ _ hg).trans hx
      have f1 : wr.frozen? ⟨g, k, none⟩ = false := by simp [World.frozen?, hg]
      have s1 := fun y => heap_put hg (k := k) y
      have hc2 : ∀ y : Int, ∀ i, i < n → ∃ x : Int, (cur.setIfInBounds k (.int .u8 y))[i]? = some (.int .u8 x) := fun y i hi => by
        rw [Array.getElem?_setIfInBounds]
        split
        · exact ⟨y, by rw [if_pos]; subst_vars; exact (Array.getElem?_eq_some_iff.1 hx).1⟩
        · exact hc i hi
      have HS := Lib.hid s1; have HC2 := Lib.hid hc2; have HCH := Lib.hid hch
      clear hg hc hch hx s1 hc2
      go_wp2
      go_roundw
      case rel => exact ⟨k + 1, _, by omega, by go_num, HS.out _, HC2.out _, HCH.out.setCell _ (fun _ => rfl) _⟩
      case measure => simp [intOf]; omega
    · obtain rfl : k = n := by omega
      have HCH := Lib.hid hch
      clear hg hc hch
      go_wp2
      first | go_end0 | (simp only [Exit.inBlock, Exit.then]; refine bodyPost_ret (results_none rfl _ _ _) rfl ?_) | refine bodyPost_ret (results_none rfl _ _ _) rfl ?_
      exact ⟨rfl, HCH.out⟩
set_option maxHeartbeats 1000000 in
theorem Spoil_none (a : Option Addr) (c : Nat) (w : World) :
    Calls Try.prog 22 #[.slice a 0 c] w fun e w' => e = .returned (.tuple #[]) ∧ w = w' := by
  go_enter Try.func22, Try.ntmps22
  go_wp2_with fail
  refine wp_loop_rounds 1 ?_
  rw [rounds_succ]
  go_wp2
  first | go_end0 | (simp only [Exit.inBlock, Exit.then]; refine bodyPost_ret (results_none rfl _ _ _) rfl ?_) | refine bodyPost_ret (results_none rfl _ _ _) rfl ?_
  exact ⟨rfl, rfl⟩
theorem Spoil_row (v : Value) (l : List UInt8) (w : World) (h : Row w v l) (hl : l.length ≤ 16777216) :
    Calls Try.prog 22 #[v] w fun e w' => e = .returned (.tuple #[]) ∧ Chg (fun k => foot v = some k) w w' := by
  rcases h with ⟨a, rfl, rfl⟩ | ⟨g, cap, cur, rfl, hg, h1, h2, h3, h4⟩
  · refine (Spoil_none a 0 w).mono ?_
    rintro e w' ⟨rfl, rfl⟩
    exact ⟨rfl, Chg.refl _ _⟩
  · refine (Spoil_some g l.length (cap + 1) w cur hg hl (fun i hi => ?_)).mono ?_
    · have e : (cur.toList.take l.length)[i]? = (Lib.byteCells l)[i]? := by rw [h4]
      rw [List.getElem?_take, if_pos hi, byteCells_at, List.getElem?_eq_getElem hi, Array.getElem?_toList] at e
      exact ⟨_, e⟩
    · rintro e w' ⟨rfl, h⟩
      exact ⟨rfl, h.weak fun i _ hi => by rw [foot_succ, hi]⟩
end Go.Proofs.Ytbilempgnpnacaa
