/-
  Rows of bytes: a head of a slice, CopyBytes, Spoil.
-/
import Derived.Test.YtjlgihdlcfanbaaTa
import Derived.Test.YtjlgihdlcfanbaaOwn
import Derived.Lib.Hide
import Derived.StillTailTactics
import Derived.RegionTactic
namespace Go.Proofs.Ytjlgihdlcfanbaa
open Go.RowKit
set_option linter.unusedVariables false

theorem elem_bytes : Try.prog.underlying 22 = some (.slice (Try.prog.elem 22)) := by kernel_rfl
theorem slice_head (a : Option Addr) (n c k : Nat) (x : Int) (hx : x = k) (hk : k ≤ c) (u : World) :
    (Instr.sliceAt 22 (.slice a n c) none (some (.int .i64 x)) none).run Try.prog u = .ok (.slice a k c) u := by
  subst hx
  obtain ⟨i, hi, hz, hs, hby⟩ := info_parts info_u8
  have e : Try.prog.elem 22 = 5 := by kernel_rfl
  rw [run_sliceAt_slice (h := elem_bytes), run_slice_h (ht := elem_bytes) (h0 := by omega) (h2 := by omega)]
  rw [e]
  simp [sizeOf, typeInfo, hi, hs, Result.andThen, sliced]
  cases a with
  | none => simp
  | some a => simp [Addr.add]
set_option maxHeartbeats 1000000 in
theorem CopyBytes_any (l : List UInt8) (w : World) (a : Option Addr) (n c : Nat) (hb : BAt w a l) (hn : n = l.length) (hno : a = none → n = 0 ∧ c = 0) (hl : l.length ≤ 1099511627776) :
    Calls Try.prog 18 #[.slice a n c] w fun e w' => ∃ v', e = .returned v' ∧ Row w' v' l ∧ (∀ g, foot v' = some g → w.heap.size ≤ g) ∧ Below w.heap.size w w' := by
  subst hn
  have HB := Lib.hid hb; have HNO := Lib.hid hno
  clear hb hno
  go_enter Try.func18, Try.ntmps18
  go_wp2_with (first
    | (at_builtin; refine wpList_append_row rfl (.const (.slice none 0 0)) (.tmp 3) rfl (.slice none 0 0) rfl [] l (Row.nil _ _) a l.length c rfl HB.out rfl HNO.out (by simpa using hl) ?_; intro v' w' hap)
    | fail)
  obtain ⟨h1, h2, h3⟩ := hap
  have H1 := Lib.hid h1
  have hb2 : Below w.heap.size w w' := (Below.refl _ w).grown h2 (Nat.le_refl _) (fun k hk => by cases hk)
  have hf : ∀ g, foot v' = some g → w.heap.size ≤ g := fun g hg => by
    rcases h3 with h3 | h3 | h3
    · rw [h3] at hg; cases hg
    · rw [h3] at hg; cases hg
    · rw [h3] at hg; cases hg; exact Nat.le_refl _
  have HF := Lib.hid hf
  clear h1 h2 h3 hf
  go_wp2
  go_ret
  exact ⟨_, rfl, by simpa using H1.out, HF.out, hb2⟩
/-- A copy of Own's is a row. -/
theorem OwnAt.row {w : World} {g : Nat} {l : List UInt8} {f : Int} (h : OwnAt w g l f) : Row w (.slice (some ⟨g, 0, none⟩) l.length (l.length + 3)) l := by
  rcases h.2 with ⟨h', _⟩ | ⟨g', cap', cur, h', hb, hg, hnc, hcm, hcs, htake⟩
  · simp at h'
  · simp only [Value.slice.injEq, Option.some.injEq, Addr.mk.injEq, and_true, true_and] at h'
    obtain ⟨rfl, rfl⟩ := h'
    refine .inr ⟨g, l.length + 2, cur, rfl, hg, by omega, hcm, by omega, ?_⟩
    have e := congrArg (List.take l.length) htake
    rw [List.take_take, Nat.min_eq_left (by omega)] at e
    rw [e, List.take_left' (byteCells_len l)]
theorem heap_put {w : World} {b k : Nat} {cs : Array Value} {t : TypeId} {fr : Nat × Nat} (h : w.heap[b]? = some (.cells cs t fr)) (x : Value) : (w.setCell ⟨b, k, none⟩ x).heap[b]? = some (.cells (cs.setIfInBounds k x) t fr) := by
  rw [setCell_eq_setRow w b k cs _ _ x h]; exact setRow_heap w b cs _ _ _ h
set_option maxHeartbeats 4000000 in
theorem Spoil_some (g n c : Nat) (w : World) (cur : Array Value) (hg : w.heap[g]? = some (.cells cur 5 (0, 0))) (hn : n ≤ 16777216) (hc : ∀ i, i < n → ∃ x : Int, cur[i]? = some (.int .u8 x)) :
    Calls Try.prog 15 #[.slice (some ⟨g, 0, none⟩) n c] w fun e w' => e = .returned (.tuple #[]) ∧ Chg (fun k => k = g) w w' := by
  have HG := Lib.hid hg; have HC := Lib.hid hc
  clear hg hc
  go_enter Try.func15, Try.ntmps15
  go_wp2_with fail
  go_loopw [2] (fun i wr => ∃ (k : Nat) (cur : Array Value), k ≤ n ∧ i = .int .i64 k ∧ wr.heap[g]? = some (.cells cur 5 (0, 0)) ∧ (∀ i, i < n → ∃ x : Int, cur[i]? = some (.int .u8 x)) ∧ Chg (fun k => k = g) w wr) (fun i _ => n - (intOf i).toNat)
  case atStart => exact ⟨0, cur, Nat.zero_le _, rfl, HG.out, HC.out, Chg.refl _ _⟩
  case round =>
    obtain ⟨k, cur, hk, rfl, hg, hc, hch⟩ := hrel
    by_cases hlt : k < n
    · obtain ⟨x, hx⟩ := hc k hlt
      have c1 : wr.cell? ⟨g, k, none⟩ = some (.int .u8 x) := (cell_of_row wr g k _ _ _ hg).trans hx
      have f1 : wr.frozen? ⟨g, k, none⟩ = false := by simp [World.frozen?, hg]
      have s1 := fun y => heap_put hg (k := k) y
      have hc2 : ∀ y : Int, ∀ i, i < n → ∃ x : Int, (cur.setIfInBounds k (.int .u8 y))[i]? = some (.int .u8 x) := fun y i hi => by
        rw [Array.getElem?_setIfInBounds]
        split
        · exact ⟨y, by rw [if_pos]; subst_vars; exact (Array.getElem?_eq_some_iff.1 hx).1⟩
        · exact hc i hi
      have HS := Lib.hid s1; have HC2 := Lib.hid hc2; have HCH := Lib.hid hch
      clear hg hc hch hx s1 hc2
      go_wp2
      go_roundw
      case rel => exact ⟨k + 1, _, by omega, by go_num, HS.out _, HC2.out _, HCH.out.setCell _ (fun _ => rfl) _⟩
      case measure => simp [intOf]; omega
    · obtain rfl : k = n := by omega
      have HCH := Lib.hid hch
      clear hg hc hch
      go_wp2
      first | go_end0 | (simp only [Exit.inBlock, Exit.then]; refine bodyPost_ret (results_none rfl _ _ _) rfl ?_) | refine bodyPost_ret (results_none rfl _ _ _) rfl ?_
      exact ⟨rfl, HCH.out⟩
set_option maxHeartbeats 1000000 in
theorem Spoil_none (a : Option Addr) (c : Nat) (w : World) :
    Calls Try.prog 15 #[.slice a 0 c] w fun e w' => e = .returned (.tuple #[]) ∧ w = w' := by
  go_enter Try.func15, Try.ntmps15
  go_wp2_with fail
  refine wp_loop_rounds 1 ?_
  rw [rounds_succ]
  go_wp2
  first | go_end0 | (simp only [Exit.inBlock, Exit.then]; refine bodyPost_ret (results_none rfl _ _ _) rfl ?_) | refine bodyPost_ret (results_none rfl _ _ _) rfl ?_
  exact ⟨rfl, rfl⟩
theorem Spoil_row (v : Value) (l : List UInt8) (w : World) (h : Row w v l) (hl : l.length ≤ 16777216) :
    Calls Try.prog 15 #[v] w fun e w' => e = .returned (.tuple #[]) ∧ Chg (fun k => foot v = some k) w w' := by
  rcases h with ⟨a, rfl, rfl⟩ | ⟨g, cap, cur, rfl, hg, h1, h2, h3, h4⟩
  · refine (Spoil_none a 0 w).mono ?_
    rintro e w' ⟨rfl, rfl⟩
    exact ⟨rfl, Chg.refl _ _⟩
  · refine (Spoil_some g l.length (cap + 1) w cur hg hl (fun i hi => ?_)).mono ?_
    · have e : (cur.toList.take l.length)[i]? = (Lib.byteCells l)[i]? := by rw [h4]
      rw [List.getElem?_take, if_pos hi, byteCells_at, List.getElem?_eq_getElem hi, Array.getElem?_toList] at e
      exact ⟨_, e⟩
    · rintro e w' ⟨rfl, h⟩
      exact ⟨rfl, h.weak fun i _ hi => by rw [foot_succ, hi]⟩
end Go.Proofs.Ytjlgihdlcfanbaa
