/-
  Layer 3: what a text without marks is, read by the program.
-/
import Derived.Test.YtboiclejhnbonaaDoorQi
import Derived.OwnWalk
namespace Go.Proofs.YtboiclejhnbonaaDoor
open Go.RowKit
set_option linter.unusedVariables false
set_option linter.unusedSimpArgs false

theorem ext_list (l : List UInt8) (a b : Nat) : (⟨l.toArray⟩ : ByteArray).extract a b = ⟨((l.drop a).take (b - a)).toArray⟩ := by
  apply ByteArray.ext
  simp [List.drop_take]
theorem ext_take (l : List UInt8) (b : Nat) : (⟨l.toArray⟩ : ByteArray).extract 0 b = ⟨(l.take b).toArray⟩ := by rw [ext_list]; simp
theorem ext_drop (l : List UInt8) (a : Nat) : (⟨l.toArray⟩ : ByteArray).extract a l.length = ⟨(l.drop a).toArray⟩ := by
  rw [ext_list, List.take_of_length_le (by simp)]

theorem any_word (l : List UInt8) : Lib.indexAny l [32, 10] = wordI l := by
  have two : ∀ x : UInt8, [(32 : UInt8), 10].contains x = decide (x.toNat = 32 ∨ x.toNat = 10) := by
    intro x
    have a : ∀ n : UInt8, (x = n) = (x.toNat = n.toNat) := fun n => propext UInt8.toNat_inj.symm
    simp only [List.contains_cons, List.contains_nil, Bool.or_false]
    rw [Bool.eq_iff_iff]
    simp only [Bool.or_eq_true, beq_iff_eq, decide_eq_true_eq, a]
    exact Iff.rfl
  by_cases h : ∀ j, j < l.length → (l.getD j 0).toNat ≠ 32 ∧ (l.getD j 0).toNat ≠ 10
  · rw [Lib.indexAny_none]
    · unfold wordI
      rw [word_none l h, if_neg (by omega)]
    · intro j b hj hb
      have hjl : j < l.length := (List.getElem?_eq_some_iff.1 hb).1
      have := h j hjl
      rw [List.getD_eq_getElem?_getD, hb] at this
      rw [two]
      simpa using this
  · have hex : ∃ j, j < l.length ∧ ((l.getD j 0).toNat = 32 ∨ (l.getD j 0).toNat = 10) := by
      refine Classical.byContradiction fun hc => h fun j hj => ?_
      have : ¬ ((l.getD j 0).toNat = 32 ∨ (l.getD j 0).toNat = 10) := fun h2 => hc ⟨j, hj, h2⟩
      omega
    have hmin : ∃ j, j < l.length ∧ ((l.getD j 0).toNat = 32 ∨ (l.getD j 0).toNat = 10) ∧ ∀ i, i < j → (l.getD i 0).toNat ≠ 32 ∧ (l.getD i 0).toNat ≠ 10 := by
      obtain ⟨j, hj⟩ := hex
      induction j using Nat.strongRecOn with
      | _ j ih =>
        by_cases hc : ∃ i, i < j ∧ ((l.getD i 0).toNat = 32 ∨ (l.getD i 0).toNat = 10)
        · obtain ⟨i, h1, h2⟩ := hc
          exact ih i h1 ⟨by omega, h2⟩
        · exact ⟨j, hj.1, hj.2, fun i hi => by
            have : ¬ ((l.getD i 0).toNat = 32 ∨ (l.getD i 0).toNat = 10) := fun h2 => hc ⟨i, hi, h2⟩
            omega⟩
    obtain ⟨j, h1, h2, h3⟩ := hmin
    have hx : l[j]? = some (l.getD j 0) := by
      rw [List.getD_eq_getElem?_getD, List.getElem?_eq_getElem h1]; rfl
    rw [Lib.indexAny_hit (i := j) (x := l.getD j 0) (fun i b hi hb => by
      have := h3 i hi
      rw [List.getD_eq_getElem?_getD, hb] at this
      rw [two]
      simpa using this) hx (by rw [two]; simpa using h2)]
    unfold wordI
    rw [word_stop l j h1 h3 h2, if_pos h1]

theorem IndexAny_word (l : List UInt8) (w : World) (hn : l.length ≤ 1000000) :
    Calls Tryd.prog 39 #[.string ⟨l.toArray⟩, .string ⟨#[32, 10]⟩] w fun e w' => e = .returned (.int .i64 (wordI l)) ∧ Below w.heap.size w w' := by
  by_cases h8 : l.length ≤ 8
  · exact IndexAny_short l w h8
  · have hz : ∀ w, (zeroValue 71).run Tryd.prog w = .ok (.agg (Array.replicate 256 (.bool false))) w := (zero_of_info (show (Tryd.prog.info? 71).map (fun i => (i.zero, i.size)) = some (some (.agg (Array.replicate 256 (.bool false))), 256) by kernel_rfl)).1
    refine (Tryd.strings_IndexAny_long hz ⟨l.toArray⟩ ⟨#[32, 10]⟩ w (by decide) (by rw [size_toArray]; omega) (by rw [size_toArray]; omega) (by decide) ?_).mono ?_
    · intro j b hb
      have h3 : j = 0 ∨ j = 1 := by
        have := (List.getElem?_eq_some_iff.1 hb).1
        simp at this
        omega
      rcases h3 with rfl | rfl
      · simp at hb; subst hb; decide
      · simp at hb; subst hb; decide
    · rintro e w' ⟨rfl, rfl⟩
      refine ⟨ret_int (any_word l), ?_⟩
      have b1 := (Below.refl w.heap.size w).alloc (Nat.le_refl _) (.cells (Lib.setCells (⟨#[32, 10]⟩ : ByteArray).data.toList) 71)
      exact b1.alloc b1.size _

theorem quote_same (t : List UInt8) : (quoteL t = t) = ((plainL t && cleanL t) = true) := by
  apply propext
  constructor
  · intro h
    cases hc : plainL t && cleanL t with
    | true => rfl
    | false =>
      unfold quoteL at h
      rw [hc, if_neg (by decide)] at h
      have h2 := congrArg List.length h
      have := body_len t
      simp at h2
      omega
  · intro h
    unfold quoteL
    rw [if_pos h]

theorem unq_bare (l : List UInt8) (h0 : (l.getD 0 0).toNat ≠ 34) (b : Bool) (hb : b = (plainL (l.take (wordLen l)) && cleanL (l.take (wordLen l)))) : unqL l = if b = true then (l.take (wordLen l), wordLen l, 0) else ([], 0, 4) := by
  have q := quote_same (l.take (wordLen l))
  rw [← hb] at q
  unfold unqL
  rw [if_neg h0]
  simp only [q]

/-- What is read, as the call's results. -/
def unqV (r : List UInt8 × Nat × Int) : Value := .tuple #[.string ⟨r.1.toArray⟩, .int .i64 r.2.1, .int .i64 r.2.2]

set_option maxHeartbeats 8000000 in
set_option maxRecDepth 100000 in
theorem unquoteBare_is (l : List UInt8) (w : World) (hn : l.length ≤ 1000000) (h0 : (l.getD 0 0).toNat ≠ 34) :
    Calls Tryd.prog 23 #[.string ⟨l.toArray⟩] w fun e w' => e = .returned (unqV (unqL l)) ∧ Below w.heap.size w w' := by
  have wl := wordLen_le l
  have cA := fun w => IndexAny_word l w hn
  obtain ⟨b, hb⟩ : ∃ b, b = (plainL (l.take (wordLen l)) && cleanL (l.take (wordLen l))) := ⟨_, rfl⟩
  rw [unq_bare l h0 b hb]
  unfold unqV
  obtain ⟨n, hne⟩ : ∃ n, n = wordLen l := ⟨_, rfl⟩
  rw [← hne] at hb ⊢
  have cB := fun w => bare_is (l.take n) w
  have hx := ext_take l n
  have hsz := size_toArray l
  unfold wordI at cA
  rw [← hne] at cA wl
  rw [← hb] at cB
  obtain ⟨q, hq⟩ : ∃ q : List UInt8, q = l.take n := ⟨_, rfl⟩
  rw [← hq] at cB hx ⊢
  obtain ⟨s, hs⟩ : ∃ s : ByteArray, s = ⟨l.toArray⟩ := ⟨_, rfl⟩
  rw [← hs] at cA hx hsz ⊢
  clear hs hb hne hq h0
  by_cases hlt : n < l.length
  · rw [if_pos hlt] at cA
    cases b with
    | true =>
      go_enter Tryd.func23, Tryd.ntmps23
      go_wp2_with fail
      refine (cA _).mono ?_
      rintro e w1 ⟨rfl, b1⟩
      go_wp2_with fail
      refine (cB _).mono ?_
      rintro e w2 ⟨rfl, b2⟩
      have b12 := b1.trans (b2.mono b1.size)
      go_wp2
      go_ret3
      exact ⟨rfl, b12⟩
    | false =>
      go_enter Tryd.func23, Tryd.ntmps23
      go_wp2_with fail
      refine (cA _).mono ?_
      rintro e w1 ⟨rfl, b1⟩
      go_wp2_with fail
      refine (cB _).mono ?_
      rintro e w2 ⟨rfl, b2⟩
      have b12 := b1.trans (b2.mono b1.size)
      go_wp2
      go_ret3
      exact ⟨rfl, b12⟩
  · rw [if_neg hlt] at cA
    obtain rfl : n = l.length := by omega
    cases b with
    | true =>
      go_enter Tryd.func23, Tryd.ntmps23
      go_wp2_with fail
      refine (cA _).mono ?_
      rintro e w1 ⟨rfl, b1⟩
      go_wp2_with fail
      refine (cB _).mono ?_
      rintro e w2 ⟨rfl, b2⟩
      have b12 := b1.trans (b2.mono b1.size)
      go_wp2
      go_ret3
      exact ⟨rfl, b12⟩
    | false =>
      go_enter Tryd.func23, Tryd.ntmps23
      go_wp2_with fail
      refine (cA _).mono ?_
      rintro e w1 ⟨rfl, b1⟩
      go_wp2_with fail
      refine (cB _).mono ?_
      rintro e w2 ⟨rfl, b2⟩
      have b12 := b1.trans (b2.mono b1.size)
      go_wp2
      go_ret3
      exact ⟨rfl, b12⟩
end Go.Proofs.YtboiclejhnbonaaDoor
