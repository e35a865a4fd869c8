/-
  Layer 7: Word and Print of the document's answers.
-/
import Derived.Test.YtbcbbkdfdfgnfaaDoorNa
import Derived.Test.YtbcbbkdfdfgnfaaDoorNb
import Derived.Test.YtbcbbkdfdfgnfaaDoorHc
import Derived.Deep.RegionLaw
namespace Go.Proofs.YtbcbbkdfdfgnfaaDoor
open Go.RowKit
set_option linter.unusedVariables false
set_option linter.unusedSimpArgs false

/-- Bytes that are read alone. -/
def Red (w : World) (v : Value) (l : List UInt8) : Prop := ∃ a c, v = .slice a l.length c ∧ BAt w a l ∧ (a = none → l.length = 0 ∧ c = 0) ∧ l.length ≤ c ∧ c ≤ maxLen
theorem Red.below {w w' : World} {v : Value} {l : List UInt8} (h : Red w v l) {B : Nat} (hb : Below B w w') (hB : w.heap.size ≤ B) : Red w' v l := by
  obtain ⟨a, c, e, hba, r⟩ := h
  exact ⟨a, c, e, hba.below hb hB, r⟩
theorem Red.none (w : World) : Red w (.slice none 0 0) [] := ⟨.none, 0, rfl, BAt.nil w _, fun _ => ⟨rfl, rfl⟩, Nat.le_refl _, Nat.zero_le _⟩
theorem RowX.red {w : World} {g cap : Nat} {l : List UInt8} (h : RowX w g cap l) (n : Nat) (hn : n = l.length) : Red w (.slice (some ⟨g, 0, .none⟩) n cap) l := by
  subst hn
  have hb := h.bat
  obtain ⟨cur, fz, hg, h1, h2, _⟩ := h
  exact ⟨_, cap, rfl, hb, (fun e => nomatch e), h1, h2⟩

theorem roWord_is (k : Int) (w : World) : Calls Tryd.prog 18 #[.int .i64 k] w fun e w' => e = .returned (.string ⟨(wordO k).toArray⟩) ∧ w = w' := by
  unfold wordO
  by_cases h1 : k = 1
  · rw [if_pos h1]; subst h1
    go_enter Tryd.func18, Tryd.ntmps18
    go_wp2
    go_ret
    exact ⟨rfl, rfl⟩
  · rw [if_neg h1]
    by_cases h2 : k = 2
    · rw [if_pos h2]; subst h2
      go_enter Tryd.func18, Tryd.ntmps18
      go_wp2
      go_ret
      exact ⟨rfl, rfl⟩
    · rw [if_neg h2]
      by_cases h3 : k = 3
      · rw [if_pos h3]; subst h3
        go_enter Tryd.func18, Tryd.ntmps18
        go_wp2
        go_ret
        exact ⟨rfl, rfl⟩
      · rw [if_neg h3]
        go_enter Tryd.func18, Tryd.ntmps18
        go_wp2
        go_ret
        exact ⟨rfl, rfl⟩

set_option maxHeartbeats 4000000 in
theorem roPrint_kind (k : Int) (v : Value) (w : World) (hk : ¬ kindO k) :
    Calls Tryd.prog 10 #[.agg #[.int .i64 k, v]] w fun e w' => e = .returned (.tuple #[.slice none 0 0, .int .i64 10]) ∧ Below w.heap.size w w' := by
  have cW := fun w => roWord_is k w
  rw [(wordO_nil k).2 hk] at cW
  have B0 := Lib.hid ((Below.refl w.heap.size w).alloc (Nat.le_refl _) (.cells #[.int .i64 k, v] 24))
  clear hk
  go_enter Tryd.func10, Tryd.ntmps10
  go_wp2_with fail
  refine (cW _).mono ?_
  rintro e w1 ⟨rfl, rfl⟩
  go_wp2
  go_ret2
  exact ⟨rfl, B0.out⟩
set_option maxHeartbeats 4000000 in
theorem roPrint_limit (k : Int) (a : Option Addr) (n c : Nat) (w : World) (hk : kindO k) (hn : 65536 < n) (hm : n ≤ maxLen) :
    Calls Tryd.prog 10 #[.agg #[.int .i64 k, .slice a n c]] w fun e w' => e = .returned (.tuple #[.slice none 0 0, .int .i64 5]) ∧ Below w.heap.size w w' := by
  unfold maxLen at hm
  have cW := fun w => roWord_is k w
  have hne : wordO k ≠ [] := fun h => (wordO_nil k).1 h hk
  have fe : (wordO k == ([] : List UInt8)) = false := by rw [beq_eq_false_iff_ne]; exact hne
  have fi : (wordO k).isEmpty = false := by cases hw : wordO k with | nil => exact absurd hw hne | cons _ _ => rfl
  generalize wordO k = wd at cW fe fi hne
  have B0 := Lib.hid ((Below.refl w.heap.size w).alloc (Nat.le_refl _) (.cells #[.int .i64 k, .slice a n c] 24))
  clear hk
  go_enter Tryd.func10, Tryd.ntmps10
  go_wp2_with fail
  refine (cW _).mono ?_
  rintro e w1 ⟨rfl, rfl⟩
  go_wp2
  go_ret2
  exact ⟨rfl, B0.out⟩
/-- What stays while an object is printed. -/
def RestN (a : Option Addr) (l : List UInt8) (w w' : World) : Prop := BAt w' a l ∧ Below w.heap.size w w' ∧ w.heap.size + 1 ≤ w'.heap.size
/-- And the object's own cell. -/
abbrev PN (a : Option Addr) (n c : Nat) (l : List UInt8) (w w' : World) : Prop := w'.cell? ⟨w.heap.size, 1, .none⟩ = some (.slice a n c) ∧ RestN a l w w'
theorem pn_keep {a : Option Addr} {n c : Nat} {l : List UInt8} {w w' w'' : World} (h : PN a n c l w w') (hb : Below w'.heap.size w' w'') : PN a n c l w w'' := by
  obtain ⟨h1, h2, h3, h4⟩ := h
  exact ⟨(hb.cell (p := ⟨w.heap.size, 1, .none⟩) (by show w.heap.size < _; omega)).trans h1, h2.keep hb, h3.trans (hb.mono h3.size), Nat.le_trans h4 hb.size⟩
theorem pn_drew {a : Option Addr} {n c : Nat} {l : List UInt8} {w w' : World} (h : PN a n c l w w') : PN a n c l w w'.drew := pn_keep h ((Below.refl _ w').drew)
theorem pn_grown {a : Option Addr} {n c : Nat} {l : List UInt8} {w w' w'' : World} {g : Nat} (h : PN a n c l w w') (hg : w'.grownBy w'' (some g)) (hgw : w.heap.size + 1 ≤ g) (hb : BAt w a l) : PN a n c l w w'' := by
  obtain ⟨h1, h2, h3, h4⟩ := h
  have hbl : Below w.heap.size w w'' := h3.grown hg h3.size (fun k hk => by cases hk; omega)
  exact ⟨(World.cell?_of_block (hg.block _ (by show w.heap.size < _; omega) (by simp; omega))).trans h1, hb.keep hbl, hbl, Nat.le_trans h4 hg.size⟩

set_option maxHeartbeats 8000000 in
set_option maxRecDepth 100000 in
theorem roPrint_ok (k : Int) (a : Option Addr) (n c : Nat) (l : List UInt8) (w : World) (hk : kindO k) (hl : n ≤ 65536) (hn : n = l.length) (hb : BAt w a l) (hno : a = none → n = 0 ∧ c = 0) (hc : n ≤ c) :
    Calls Tryd.prog 10 #[.agg #[.int .i64 k, .slice a n c]] w fun e w' => ∃ v, e = .returned (.tuple #[v, .int .i64 0]) ∧ Red w' v (objO k l) ∧ Below w.heap.size w w' := by
  have cW := fun w => roWord_is k w
  have hne : wordO k ≠ [] := fun h => (wordO_nil k).1 h hk
  have fe : (wordO k == ([] : List UInt8)) = false := by rw [beq_eq_false_iff_ne]; exact hne
  have fi : (wordO k).isEmpty = false := by cases hw : wordO k with | nil => exact absurd hw hne | cons _ _ => rfl
  have hO : objO k l = wordO k ++ [32] ++ numO n ++ [0] ++ l := by subst hn; unfold objO headO; simp
  rw [hO]
  have wl := wordO_len k
  have nl : (numO n).length ≤ 5 := numO_le n 4 (by omega)
  have cN := fun w => rNumber (n : Int) (by omega) (by omega) w
  rw [show Lib.itoa (n : Int) = numO n from rfl] at cN
  generalize wordO k = wd at cW fe fi hne wl ⊢
  generalize numO n = nm at cN nl ⊢
  have ad0 := fun w => add_lists (P := Tryd.prog) w wd [32] (by simp; omega)
  have ad1 := fun w => add_lists (P := Tryd.prog) w (wd ++ [32]) nm (by simp; omega)
  have ad2 := fun w => add_lists (P := Tryd.prog) w (wd ++ [32] ++ nm) [0] (by simp; omega)
  obtain ⟨hd, hhd⟩ : ∃ hd, wd ++ [32] ++ nm ++ [0] = hd := ⟨_, rfl⟩
  have hdl : hd.length ≤ 13 := by rw [← hhd]; simp; omega
  rw [hhd] at ad2 ⊢
  have SR := Lib.hid (fun w => str_row w hd (by omega))
  generalize (⟨hd.toArray⟩ : ByteArray) = s3 at ad2 SR
  generalize (⟨(wd ++ [32] ++ nm).toArray⟩ : ByteArray) = s2 at ad1 ad2
  generalize (⟨(wd ++ [32]).toArray⟩ : ByteArray) = s1 at ad0 ad1
  generalize (⟨nm.toArray⟩ : ByteArray) = sn at ad1 cN
  have DN := Lib.hid (fun w' (h : PN a n c l w w') => ((cN w').mono (fun e w'' ⟨he, hb⟩ => ⟨he, pn_keep h hb⟩) : Calls Tryd.prog 21 #[.int .i64 (n : Int)] w' fun e w'' => e = .returned (.string sn) ∧ PN a n c l w w''))
  have B0 := (Below.refl w.heap.size w).alloc (Nat.le_refl _) (.cells #[.int .i64 k, .slice a n c] 24)
  have K0 : PN a n c l w (w.alloc (.cells #[.int .i64 k, .slice a n c] 24)) := ⟨(Lib.cell_of_heap (heap_alloc_new w _) 1).trans rfl, hb.keep B0, B0, by simp⟩
  have K1 := pn_drew K0
  have HN := Lib.hid hn; have HNO := Lib.hid hno; have HBW := Lib.hid hb
  have HL := Lib.hid hl; have HDL := Lib.hid hdl
  have hds : decide ((65536 : Int) < (n : Int)) = false := decide_eq_false (by omega)
  have hn2 : n ≤ 1000000 := by omega
  have q00 := K0.1; have q01 := K1.1
  have k00 : (w.alloc (.cells #[.int .i64 k, .slice a n c] 24)).cell? ⟨w.heap.size, 0, none⟩ = some (.int .i64 k) := (Lib.cell_of_heap (heap_alloc_new w _) 0).trans rfl
  clear cN hn hno B0 hk hne wl nl hO hhd hb hl hdl
  go_enter Tryd.func10, Tryd.ntmps10
  go_wp2_with fail
  refine (cW _).mono ?_
  rintro e w1 ⟨rfl, rfl⟩
  go_wp2_with fail
  go_region_law (first
      | (go_simp; go_at_call 21; refine (DN.out _ (by assumption)).mono ?_; rintro e w' ⟨rfl, hS⟩; have hq := hS.1; obtain ⟨cap, w2, cv, b2, hr2⟩ := SR.out w'; have hS2 := pn_keep hS b2; have hq2 := hS2.1; have HX := Lib.hid (And.intro hr2 hS.2.2.2); clear hr2 b2)
      | (refine step_append_rowX (by rfl) (.tmp 22) (.tmp 24) (by rfl) _ _ _ hd l (by rfl) (by rfl) HX.out.1 a n c (by rfl) hS2.2.1 HN.out HNO.out (by have := HDL.out; have := HN.out; have := HL.out; omega) ?_; intro g' cap' w3 hr3 hg3 hgg; have hS3 := pn_grown hS2 hg3 HX.out.2 HBW.out; have HY := Lib.hid hr3; clear hr3 hg3 hgg))
  all_goals
    go_wp2
    (try simp only [Exit.inBlock, Exit.then])
    go_ret2
    exact ⟨_, rfl, HY.out.red _ (by simp), hS3.2.2.1⟩
end Go.Proofs.YtbcbbkdfdfgnfaaDoor
