/-
  Layer 14, the laws' helpers: Same over edits that are alike; Spoil of bytes that a call made.
-/
import Derived.Test.YtbilempgnpnacaaE4u
import Derived.Test.YtbilempgnpnacaaE4i
import Derived.Test.YtbilempgnpnacaaE4o
namespace Go.Proofs.Ytbilempgnpnacaa
set_option maxRecDepth 20000
open Go.RowKit
set_option linter.unusedVariables false
set_option linter.unusedSimpArgs false

theorem SameE_any (a1 a2 : Option Addr) (n1 n2 c1 c2 : Nat) (l m : List Edc) (w : World) (h1 : EdAt w a1 l) (h2 : EdAt w a2 m) (e1 : n1 = l.length) (e2 : n2 = m.length) (hm : n1 ≤ 1000000) (he : l.map Edc.x = m.map Edc.x) :
    Calls Try.prog 14 #[.slice a1 n1 c1, .slice a2 n2 c2, .func (.func 17) #[] #[]] w fun e w' => e = .returned (.bool true) ∧ Below w.heap.size w w' := by
  have hlen : l.length = m.length := by
    have := congrArg List.length he
    simpa using this
  obtain rfl : n2 = n1 := by omega
  by_cases hp : 0 < l.length
  · obtain ⟨b1, o1, rfl, g1⟩ := h1.1.some hp
    obtain ⟨b2, o2, rfl, g2⟩ := h2.1.some (by omega)
    refine SameE_some b1 o1 b2 o2 c1 c2 n2 l m w e1 e2 hm h1 h2 g1 g2 (fun k p q => ?_)
    have := congrArg (fun s => s[k]?) he
    simp only [List.getElem?_map, List.getElem?_eq_getElem p, List.getElem?_eq_getElem q, Option.map_some, Option.some.injEq] at this
    unfold Edc.x at this
    simp only [Prod.mk.injEq] at this
    exact this
  · obtain rfl : n2 = 0 := by omega
    exact SameE_none a1 a2 c1 c2 w
set_option maxHeartbeats 4000000 in
theorem Spoil_cells (g n c : Nat) (w : World) (hn : n ≤ 16777216) (hc : ∀ i, i < n → (∃ x : Int, w.cell? ⟨g, i, none⟩ = some (.int .u8 x)) ∧ w.frozen? ⟨g, i, none⟩ = false) :
    Calls Try.prog 22 #[.slice (some ⟨g, 0, none⟩) n c] w fun e w' => e = .returned (.tuple #[]) ∧ Off g w w' := by
  have HC := Lib.hid hc
  clear hc
  go_enter Try.func22, Try.ntmps22
  go_wp2_with fail
  go_loopw [2] (fun i wr => ∃ (k : Nat), k ≤ n ∧ i = .int .i64 k ∧ (∀ i, i < n → (∃ x : Int, wr.cell? ⟨g, i, none⟩ = some (.int .u8 x)) ∧ wr.frozen? ⟨g, i, none⟩ = false) ∧ Off g w wr) (fun i _ => n - (intOf i).toNat)
  case atStart => exact ⟨0, Nat.zero_le _, rfl, HC.out, Off.refl _ _⟩
  case round =>
    obtain ⟨k, hk, rfl, hc, hbr⟩ := hrel
    have HB := Lib.hid hbr
    clear hbr
    by_cases hlt : k < n
    · obtain ⟨⟨x, c1⟩, f1⟩ := hc k hlt
      have hc2 : ∀ y : Int, ∀ i, i < n → (∃ x : Int, (wr.setCell ⟨g, k, none⟩ (.int .u8 y)).cell? ⟨g, i, none⟩ = some (.int .u8 x)) ∧ (wr.setCell ⟨g, k, none⟩ (.int .u8 y)).frozen? ⟨g, i, none⟩ = false := fun y i hi => by
        refine ⟨?_, by rw [World.frozen?_setCell]; exact (hc i hi).2⟩
        by_cases e : i = k
        · subst e; exact ⟨y, World.cell?_setCell_same _ _ _ c1⟩
        · obtain ⟨x', hx'⟩ := (hc i hi).1
          exact ⟨x', by rw [World.cell?_setCell_other _ _ _ _ (fun q => e (by cases q; rfl))]; exact hx'⟩
      have HC2 := Lib.hid hc2
      clear hc hc2
      go_wp2
      go_roundw
      case rel => exact ⟨k + 1, by omega, by go_num, HC2.out _, HB.out.trans (off_setCell wr g k _)⟩
      case measure => simp [intOf]; omega
    · obtain rfl : k = n := by omega
      clear hc
      go_wp2
      first | go_end0 | (simp only [Exit.inBlock, Exit.then]; refine bodyPost_ret (results_none rfl _ _ _) rfl ?_) | refine bodyPost_ret (results_none rfl _ _ _) rfl ?_
      exact ⟨rfl, HB.out⟩
/-- Bytes that a call made, spoiled later on. -/
theorem Spoil_fresh {B : Nat} {w u : World} {v : Value} {l : List UInt8} (h : FreshR B w v l) (hb : Below w.heap.size w u) (hl : l.length ≤ 16777216) :
    Calls Try.prog 22 #[v] u fun e u' => e = .returned (.tuple #[]) ∧ Chg (fun k => B ≤ k ∧ k < w.heap.size) u u' := by
  rcases h with ⟨g, cap, zs, rfl, h2, h3, h4, h5, h6, h7, h8, h9⟩ | ⟨rfl, rfl⟩
  · by_cases hp : 0 < l.length
    · have hg : g < w.heap.size := World.block_lt_of_cell? w ⟨g, 0, none⟩ (h8 0 (by omega))
      have hblk := hb.block g hg
      refine (Spoil_cells g l.length cap u hl (fun i hi => ⟨⟨_, (World.cell?_of_block (w := w) (a := ⟨g, i, none⟩) hblk).trans (h8 i (by omega))⟩, ?_⟩)).mono ?_
      · have q := h9 i (by omega)
        unfold World.frozen? at q ⊢
        rw [hblk]
        exact q
      · rintro e u' ⟨rfl, ho⟩
        exact ⟨rfl, ho.os, ho.tape, ho.output, ho.size, fun k hk hn => ho.block k hk (fun e => hn (by rw [e]; exact ⟨h2, hg⟩))⟩
    · have e0 : l.length = 0 := by omega
      rw [e0]
      refine (Spoil_none _ cap u).mono ?_
      rintro e u' ⟨rfl, rfl⟩
      exact ⟨rfl, Chg.refl _ _⟩
  · refine (Spoil_none none 0 u).mono ?_
    rintro e u' ⟨rfl, rfl⟩
    exact ⟨rfl, Chg.refl _ _⟩
end Go.Proofs.Ytbilempgnpnacaa
