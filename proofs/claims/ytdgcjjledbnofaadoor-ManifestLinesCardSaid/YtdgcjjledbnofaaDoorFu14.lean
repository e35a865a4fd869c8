/-
  Texts that belong together, one behind the other.
-/
import Derived.Test.YtdgcjjledbnofaaDoorFu03
import Derived.Test.YtdgcjjledbnofaaDoorFu13
import Derived.Deep.QuietTactic
import Derived.BigQuiet
import Derived.Test.YtdgcjjledbnofaaDoorFu01
import Derived.Below
import Derived.Laws.CopyRow
import Derived.Laws.CopyOwn
import Derived.Laws.Rows
import Derived.Laws.Tables
import Derived.Deep.WholeRow
/-
  Layer 1: Unhex of the reference.
-/
namespace Go.Proofs.YtdgcjjledbnofaaDoor
open Go.RowKit
set_option linter.unusedVariables false

theorem unhex_two (l : List UInt8) (i : Nat) (hi : i + 1 < l.length) (acc : List UInt8) (hacc : unhexL l = (unhexL (l.drop i)).map (acc ++ ·)) (ha : 0 ≤ dg (l.getD i 0)) (hb : 0 ≤ dg (l.getD (i + 1) 0)) :
    unhexL l = (unhexL (l.drop (i + 2))).map ((acc ++ [UInt8.ofNat (16 * dg (l.getD i 0) + dg (l.getD (i + 1) 0)).toNat]) ++ ·) := by
  have e : l.drop i = l.getD i 0 :: l.getD (i + 1) 0 :: l.drop (i + 2) := by
    rw [List.drop_eq_getElem_cons (by omega), List.drop_eq_getElem_cons (show i + 1 < l.length by omega), List.getD_eq_getElem?_getD, List.getElem?_eq_getElem (by omega), List.getD_eq_getElem?_getD, List.getElem?_eq_getElem (by omega)]
    rfl
  rw [hacc, e]
  simp only [unhexL]
  rw [if_pos ⟨ha, hb⟩]
  cases unhexL (l.drop (i + 2)) <;> simp

/-- What the reference's Unhex of an even text leaves. -/
def RPost (s : ByteArray) (w : World) (e : Ending) (w' : World) : Prop :=
  Below w.heap.size w w' ∧ ((e = .returned (.tuple #[.slice none 0 0, .int .i64 4]) ∧ unhexL s.data.toList = none) ∨
    ∃ t v, unhexL s.data.toList = some t ∧ e = .returned (.tuple #[v, .int .i64 0]) ∧ w'.ownsRow w.heap.size 5 1 v t.length (Lib.byteCells t))

set_option maxHeartbeats 1000000 in
theorem rUnhex_core (s : ByteArray) (w : World) (hs : s.size ≤ 1099511627776) (he : s.size % 2 = 0) :
    Calls Tryd.prog 40 #[.string s] w fun e w' => RPost s w e w' := by
  obtain ⟨i0, hi, hz0, hz1, hz2⟩ := info_parts info5
  have hev : ((s.size : Int) % 2 != 0) = false := by simp; omega
  go_enter Tryd.func40, Tryd.ntmps40
  go_wp2_with fail
  go_loopw [4, 5] (fun v i wr => ∃ (k : Nat) (acc : List UInt8), k ≤ s.size ∧ k % 2 = 0 ∧ i = .int .i64 k ∧ wr.ownsRow w.heap.size 5 1 v acc.length (Lib.byteCells acc) ∧ acc.length ≤ k ∧
      unhexL s.data.toList = (unhexL (s.data.toList.drop k)).map (acc ++ ·) ∧ Below w.heap.size w wr) (fun _ i _ => s.size - (intOf i).toNat)
  case atStart => exact ⟨0, [], Nat.zero_le _, rfl, rfl, World.ownsRow_nil _ _ _ _, Nat.zero_le _, by simp, Below.refl _ _⟩
  case round =>
    obtain ⟨k, acc, hk, hk2, rfl, hown, hal, hacc, hbr⟩ := hrel
    have HK2 := Lib.hid hk2; clear hk2
    have HA := Lib.hid hacc; clear hacc
    have hl := size_list s
    have HLL := Lib.hid hl; clear hl
    by_cases hlt : k < s.size
    · have hlt2 : k + 1 < s.size := by have := HK2.out; omega
      have hlt3 : (k : Int) + 1 < s.size := by omega
      have h03 : (0 : Int) ≤ (k : Int) + 1 := by omega
      have ht3 : ((k : Int) + 1).toNat = k + 1 := by omega
      have q3 := IntWalk.i64_in ((k : Int) + 1) (by omega)
      have e1 : dg (s.data.toList.getD k 0) = dig16 ((s[k]'hlt).toNat : Int) := by rw [getD_at s k hlt]; rfl
      have e2 : dg (s.data.toList.getD (k + 1) 0) = dig16 ((s[k + 1]'hlt2).toNat : Int) := by rw [getD_at s (k + 1) hlt2]; rfl
      have E1 := Lib.hid e1; clear e1
      have E2 := Lib.hid e2; clear e2
      go_wp2_with fail
      go_quiet ((go_at_call 52; exact Calls.quiet_of_same ((rdigit _ _).mono fun _ _ h => ⟨h.1, h.2.symm⟩)))
      have g1 := dig16_lt ((s[k]'hlt).toNat : Int)
      have g2 := dig16_lt ((s[k + 1]'hlt2).toNat : Int)
      have g3 := dig16_ge ((s[k]'hlt).toNat : Int)
      have g4 := dig16_ge ((s[k + 1]'hlt2).toNat : Int)
      generalize dig16 ((s[k]'hlt).toNat : Int) = d1 at *
      generalize dig16 ((s[k + 1]'hlt2).toNat : Int) = d2 at *
      have hbr2 := _root_.Go.below_drewN hbr nq
      have hown2 : (wr.drewN nq).ownsRow w.heap.size 5 1 _ acc.length (Lib.byteCells acc) := hown
      generalize wr.drewN nq = w2 at *
      clear hbr hown
      by_cases h1 : d1 < 0
      · go_wp2
        go_ret2
        exact ⟨hbr2, .inl ⟨rfl, unhex_bad _ k (by rw [HLL.out]; omega) (by rw [E1.out]; omega)⟩⟩
      · by_cases h2 : d2 < 0
        · go_wp2
          go_ret2
          exact ⟨hbr2, .inl ⟨rfl, unhex_bad _ (k + 1) (by rw [HLL.out]; omega) (by rw [E2.out]; omega)⟩⟩
        · go_wp2_with (at_builtin; refine wpList_append_own _ rfl _ _ 23 rfl w.heap.size 5 i0 (.int .u8 0) 1 1 Tryd.underlying23 hi hz0 hz1 hz2 rfl (by decide) _ _ _ rfl (hown2.alloc _) ⟨w2.heap.size, 0, none⟩ 1 1 [.int .u8 (16 * d1 + d2)] rfl rfl ?c1 ?c2 ?c3 ?c4 ?c5 ?_)
          case c2 => first | rfl | (intro u hu; simp at hu; subst hu; rfl)
          case c3 => unfold maxLen; omega
          case c4 => omega
          case c5 => have := hbr2.size; simp; omega
          intro v' w3 hown3 hgrow3 _
          have hbr3 : Below w.heap.size w w3 := (hbr2.alloc hbr2.size _).grown hgrow3 (by have := hbr2.size; simp; omega) (fun k hk => own_block hown2 k hk)
          have h16 : Lib.byteCells (acc ++ [UInt8.ofNat (16 * d1 + d2).toNat]) = Lib.byteCells acc ++ [.int .u8 (16 * d1 + d2)] := by
            rw [Lib.byteCells_append]
            simp [Lib.byteCells]
            omega
          have HO3 : Hid (w3.ownsRow w.heap.size 5 1 v' (acc ++ [UInt8.ofNat (16 * d1 + d2).toNat]).length (Lib.byteCells (acc ++ [UInt8.ofNat (16 * d1 + d2).toNat]))) := Lib.hid (by rw [h16, List.length_append]; exact hown3)
          clear hown3 hgrow3 hown2 hbr2 h16
          go_wp2
          go_roundw
          case rel =>
            refine ⟨k + 2, _, by omega, by have := HK2.out; omega, by go_num, HO3.out, by simp; omega, ?_, hbr3⟩
            have := unhex_two s.data.toList k (by rw [HLL.out]; omega) acc HA.out (by rw [E1.out]; omega) (by rw [E2.out]; omega)
            rw [E1.out, E2.out] at this
            exact this
          case measure => simp [intOf]; omega
    · obtain rfl : k = s.size := by omega
      have e : unhexL s.data.toList = some acc := by
        rw [HA.out, List.drop_of_length_le (by rw [HLL.out]; exact Nat.le_refl _)]; simp [unhexL]
      have EE := Lib.hid e; clear e
      go_wp2
      go_ret2
      exact ⟨hbr, .inr ⟨acc, _, EE.out, rfl, hown⟩⟩

set_option maxHeartbeats 400000 in
theorem rUnhex_odd (s : ByteArray) (w : World) (hs : s.size ≤ 1099511627776) (he : s.size % 2 = 1) :
    Calls Tryd.prog 40 #[.string s] w fun e w' => e = .returned (.tuple #[.slice none 0 0, .int .i64 4]) ∧ w = w' := by
  have hev : ((s.size : Int) % 2 != 0) = true := by simp; omega
  go_enter Tryd.func40, Tryd.ntmps40
  go_wp2
  go_ret2
  exact ⟨rfl, rfl⟩
theorem rUnhex_none (s : ByteArray) (w : World) (hs : s.size ≤ 1099511627776) (h : unhexL s.data.toList = none) :
    Calls Tryd.prog 40 #[.string s] w fun e w' => e = .returned (.tuple #[.slice none 0 0, .int .i64 4]) ∧ Below w.heap.size w w' := by
  by_cases ho : s.size % 2 = 1
  · refine (rUnhex_odd s w hs ho).mono ?_
    rintro e w' ⟨rfl, rfl⟩
    exact ⟨rfl, Below.refl _ _⟩
  · refine (rUnhex_core s w hs (by omega)).mono ?_
    rintro e w' ⟨hb, ⟨he, _⟩ | ⟨t, v, ht, _⟩⟩
    · exact ⟨he, hb⟩
    · rw [h] at ht; cases ht
theorem rUnhex_some (s : ByteArray) (t : List UInt8) (w : World) (hs : s.size ≤ 1099511627776) (h : unhexL s.data.toList = some t) :
    Calls Tryd.prog 40 #[.string s] w fun e w' => ∃ g c, e = .returned (.tuple #[.slice g t.length c, .int .i64 0]) ∧ BAt w' g t ∧ t.length ≤ c ∧ (g = none → t.length = 0 ∧ c = 0) ∧ Below w.heap.size w w' := by
  have hl := size_list s
  obtain ⟨h1, _, _⟩ := unhex_spec _ _ _ (Nat.le_refl _) h
  refine (rUnhex_core s w hs (by omega)).mono ?_
  rintro e w' ⟨hb, ⟨_, hn⟩ | ⟨t', v, ht, he, hown⟩⟩
  · rw [h] at hn; cases hn
  · rw [h] at ht; cases ht
    rcases hown.2 with ⟨rfl, hz⟩ | ⟨g, cap, cur, rfl, hg, hh, hnc, hcm, hcs, htk⟩
    · refine ⟨none, 0, by rw [he, hz], fun hp => by omega, by omega, fun _ => ⟨hz, rfl⟩, hb⟩
    · exact ⟨some ⟨g, 0, none⟩, cap, he, own_bat hown, hnc, (fun h => by cases h), hb⟩
end Go.Proofs.YtdgcjjledbnofaaDoor

/-
  An id as a value; two new blocks.
-/
namespace Go.Proofs.YtdgcjjledbnofaaDoor
open Go.RowKit
set_option linter.unusedVariables false

/-- An id as a value. -/
def idv (l : List UInt8) : Value := .agg (Lib.byteCells l).toArray
theorem info29 : (Tryd.prog.info? 26).map (·.size) = some 20 := by kernel_rfl
theorem two_new (w : World) (A B : Obj) : ((w.alloc A).alloc B).heap[w.heap.size]? = some A :=
  (Below.heap_alloc (w.alloc A) B w.heap.size (by simp)).trans (heap_alloc_new w A)
end Go.Proofs.YtdgcjjledbnofaaDoor

/-
  Layer 1: Id of the program and of its reference.
-/
namespace Go.Proofs.YtdgcjjledbnofaaDoor
set_option maxRecDepth 20000
open Go.RowKit
set_option linter.unusedVariables false

theorem results_id {fn : Func} (h : fn.results = #[.cell 2 26, .tmp 3]) (tmps : Array Value) (w : World) (g : Nat) (cs : Array Value) (fr : Nat × Nat) (x : Value)
    (hp : tmps.getD 2 undef = .pointer (some ⟨g, 0, none⟩)) (hx : tmps.getD 3 undef = x) (hg : w.heap[g]? = some (.cells cs 26 fr)) (hn : cs.size = 20) :
    (results fn tmps).run Tryd.prog w = .ok (.tuple #[.agg cs, x]) w := by
  rw [results_cell_tmp h, hp, hx]
  have e : (asAddr (.pointer (some ⟨g, 0, none⟩))).run Tryd.prog w = .ok ⟨g, 0, none⟩ w := rfl
  rw [e]
  simp only [Result.andThen_ok]
  rw [run_loadVar_row w g 26 26 cs fr _ hg Tryd.underlying26 rfl (by rw [info29, hn])]
  rfl
abbrev zero20 : Array Value := #[Value.int .u8 0, Value.int .u8 0, Value.int .u8 0, Value.int .u8 0, Value.int .u8 0, Value.int .u8 0, Value.int .u8 0, Value.int .u8 0, Value.int .u8 0, Value.int .u8 0, Value.int .u8 0, Value.int .u8 0, Value.int .u8 0, Value.int .u8 0, Value.int .u8 0, Value.int .u8 0, Value.int .u8 0, Value.int .u8 0, Value.int .u8 0, Value.int .u8 0]
theorem zero20_idv : idv (List.replicate 20 0) = .agg zero20 := rfl
set_option maxHeartbeats 400000 in
theorem Id_len (s : ByteArray) (w : World) (hs : s.size ≤ 1099511627776) (he : s.size ≠ 40) :
    Calls Tryd.prog 38 #[.string s] w fun e w' => e = .returned (.tuple #[idv (List.replicate 20 0), .int .i64 4]) ∧ Below w.heap.size w w' := by
  have hev : ((s.size : Int) != 40) = true := by simp; omega
  rw [zero20_idv]
  go_enter Tryd.func38, Tryd.ntmps38
  go_wp2_with (with_reducible refine wpList_store_row rfl 26 _ _ rfl w.heap.size zero20 rfl rfl 26 zero20 ?hg ?hi ?ho ?h1 ?_)
  case hg => exact two_new w _ _
  case hi => exact info29
  case ho => rfl
  case h1 => kernel_rfl
  rw [setRow_self _ w.heap.size zero20 26 (0, 0) (two_new w _ _)]
  go_wp2_with fail
  refine bodyPost_ret (results_id Tryd.results38 _ _ w.heap.size zero20 (0, 0) (.int .i64 4) rfl rfl (two_new w _ _) rfl) rfl ⟨rfl, ?_⟩
  exact ((Below.refl _ w).alloc (Nat.le_refl _) _).alloc (by simp) _
set_option maxHeartbeats 400000 in
theorem Id_bad (s : ByteArray) (w : World) (he : s.size = 40) (hu : unhexL s.data.toList = none) :
    Calls Tryd.prog 38 #[.string s] w fun e w' => e = .returned (.tuple #[idv (List.replicate 20 0), .int .i64 4]) ∧ Below w.heap.size w w' := by
  have hev : ((s.size : Int) != 40) = false := by simp; omega
  have C := Lib.hid (fun w => Unhex_none s w (by omega) hu)
  clear hu he
  rw [zero20_idv]
  go_enter Tryd.func38, Tryd.ntmps38
  go_wp2_with fail
  refine (C.out _).mono ?_
  rintro e w1 ⟨rfl, hb⟩
  have hg1 : w1.heap[w.heap.size]? = some (.cells zero20 26 (0, 0)) := (hb.block _ (by simp; omega)).trans (two_new w _ _)
  have hbw : Below w.heap.size w w1 := (((Below.refl _ w).alloc (Nat.le_refl _) _).alloc (by simp) _).trans (hb.mono (by simp; omega))
  clear hb C
  have HG := Lib.hid hg1; clear hg1
  go_wp2_with (with_reducible refine wpList_store_row rfl 26 _ _ rfl w.heap.size zero20 rfl rfl 26 zero20 ?hg ?hi ?ho ?h1 ?_)
  case hg => exact HG.out
  case hi => exact info29
  case ho => rfl
  case h1 => kernel_rfl
  rw [setRow_self _ w.heap.size zero20 26 (0, 0) HG.out]
  go_wp2_with fail
  exact bodyPost_ret (results_id Tryd.results38 _ _ w.heap.size zero20 (0, 0) (.int .i64 4) rfl rfl HG.out rfl) rfl ⟨rfl, hbw⟩

theorem oneCell_bytes (t : List UInt8) : ∀ v ∈ Lib.byteCells t, v.oneCell' = true := by
  intro v hv; simp [Lib.byteCells] at hv; obtain ⟨x, _, rfl⟩ := hv; rfl
theorem oneCell_all (t : List UInt8) : (Lib.byteCells t).toArray.all (·.oneCell') = true := by
  rw [Array.all_eq_true_iff_forall_mem]; intro v hv; exact oneCell_bytes t v (by simpa using hv)
theorem size_bytes (t : List UInt8) : (Lib.byteCells t).toArray.size = t.length := by simp [Lib.byteCells]
theorem copy_id (w : World) (g : Nat) (b o c : Nat) (t : List UInt8) (ht : t.length = 20) (hg : w.heap[g]? = some (.cells zero20 26 (0, 0))) (hc : BAt w (some ⟨b, o, none⟩) t) :
    (Builtin.copy_ #[23, 23] 3 #[.slice (some ⟨g, 0, none⟩) 20 20, .slice (some ⟨b, o, none⟩) 20 c]).run Tryd.prog w = .ok (goInt 20) (w.setRow g (Lib.byteCells t).toArray) := by
  have hl : (Lib.byteCells t).length = 20 := by simp [Lib.byteCells, ht]
  have h := run_copy_row (P := Tryd.prog) w 23 23 3 5 g 0 20 20 ⟨b, o, none⟩ 20 c zero20 26 (Lib.byteCells t) Tryd.underlying23 (by kernel_rfl) hg (by rw [hl]; rfl) (fun j v hj => hc.cells _ rfl j v hj) (by rw [hl]; exact Nat.le_refl _) (oneCell_bytes t)
  rw [h, hl]
  congr 2
  simp

set_option maxHeartbeats 400000 in
theorem Id_good (s : ByteArray) (t : List UInt8) (w : World) (he : s.size = 40) (hu : unhexL s.data.toList = some t) :
    Calls Tryd.prog 38 #[.string s] w fun e w' => e = .returned (.tuple #[idv t, .int .i64 0]) ∧ Below w.heap.size w w' := by
  have hev : ((s.size : Int) != 40) = false := by simp; omega
  have ht : t.length = 20 := by have := (unhex_spec _ _ _ (Nat.le_refl _) hu).1; rw [size_list] at this; omega
  have C := Lib.hid (fun w => Unhex_some s t w (by omega) hu)
  clear hu he
  have HT := Lib.hid ht; clear ht
  go_enter Tryd.func38, Tryd.ntmps38
  go_wp2_with fail
  refine (C.out _).mono ?_
  rintro e w1 ⟨g, c, rfl, hbat, hlc, _, hb⟩
  obtain ⟨b, o, rfl, _, _⟩ := hbat (by rw [HT.out]; omega)
  have hg0 : w1.heap[w.heap.size]? = some (.cells zero20 26 (0, 0)) := (hb.block _ (by simp; omega)).trans (two_new w _ _)
  have hg1 : w1.heap[w.heap.size + 1]? = some (.cells zero20 26 (0, 0)) := (hb.block _ (by simp)).trans (heap_alloc2_new w _ _)
  have hbw : Below w.heap.size w w1 := (((Below.refl _ w).alloc (Nat.le_refl _) _).alloc (by simp) _).trans (hb.mono (by simp; omega))
  have hcopy := copy_id w1 (w.heap.size + 1) b o c t HT.out hg1 hbat
  clear hb C
  have HG0 := Lib.hid hg0; clear hg0
  have HG1 := Lib.hid hg1; clear hg1
  have HB := Lib.hid hbat; clear hbat
  rw [HT.out]
  have hbw2 : Below w.heap.size w (w1.setRow (w.heap.size + 1) (Lib.byteCells t).toArray) := below_setRow hbw (by omega) _
  have hn0 : (w1.setRow (w.heap.size + 1) (Lib.byteCells t).toArray).heap[w.heap.size]? = some (.cells zero20 26 (0, 0)) := by
    rw [setRow_other w1 _ _ _ (by omega)]; exact HG0.out
  have hn1 : (w1.setRow (w.heap.size + 1) (Lib.byteCells t).toArray).heap[w.heap.size + 1]? = some (.cells (Lib.byteCells t).toArray 26 (0, 0)) := setRow_heap _ _ _ _ _ _ HG1.out
  have HN0 := Lib.hid hn0; clear hn0
  have HN1 := Lib.hid hn1; clear hn1
  generalize w1.setRow (w.heap.size + 1) (Lib.byteCells t).toArray = w2 at hcopy hbw2 HN0 HN1
  have hst : (storeCells ⟨w.heap.size, 0, none⟩ (Lib.byteCells t)).run Tryd.prog w2 = .ok () (w2.setRow w.heap.size (Lib.byteCells t).toArray) := by
    have h := run_storeCells_from (P := Tryd.prog) w.heap.size 26 (Lib.byteCells t) 0 zero20 w2 HN0.out (by simp [Lib.byteCells, HT.out]) (oneCell_bytes t)
    simpa using h
  have hbl : (Lib.byteCells t).length = 20 := by simp [Lib.byteCells, HT.out]
  go_wp2_with (with_reducible refine wpList_load_row rfl 26 _ rfl (w.heap.size + 1) rfl 26 (Lib.byteCells t).toArray (0, 0) _ ?hg Tryd.underlying26 rfl ?hi ?_)
  case hg => exact HN1.out
  case hi => rw [info29, size_bytes, HT.out]
  exact bodyPost_ret (results_id Tryd.results38 _ _ w.heap.size (Lib.byteCells t).toArray (0, 0) (.int .i64 0) rfl rfl (setRow_heap _ _ _ _ _ _ HN0.out) (by rw [size_bytes, HT.out])) rfl ⟨rfl, below_setRow hbw2 (Nat.le_refl _) _⟩
end Go.Proofs.YtdgcjjledbnofaaDoor
