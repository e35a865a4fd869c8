/-
  Layer 3: octal, one and Quote of the reference.
-/
import Derived.Test.YtboiclejhnbonaaDoorQw
namespace Go.Proofs.YtboiclejhnbonaaDoor
open Go.RowKit
set_option linter.unusedVariables false
set_option linter.unusedSimpArgs false

/-- A row of bytes just laid, as a text. -/
theorem conv_row (w : World) (l : List UInt8) (cs : Array Value) (k : Nat) (hk : k = l.length) (hc : ∀ i (h : i < l.length), cs[i]? = some (.int .u8 (l[i]).toNat)) :
    (convert 31 9 (.slice (some ⟨w.heap.size, 0, none⟩) k k)).run Tryd.prog (w.alloc (.cells cs 5)) = .ok (.string ⟨l.toArray⟩) (w.alloc (.cells cs 5)) := by
  subst hk
  refine BAt.conv (l := l) (fun hp => ⟨w.heap.size, 0, rfl, by simp, fun i hi => ?_⟩) _ 31 5 Tryd.underlying31 Tryd.underlying5 9 Tryd.underlying9
  have := Lib.cell_of_heap (heap_alloc_new w (.cells cs 5)) (0 + i)
  rw [this, Nat.zero_add]
  exact hc i hi

set_option maxHeartbeats 4000000 in
set_option maxRecDepth 100000 in
theorem roctal_is (c : UInt8) (w : World) :
    Calls Tryd.prog 44 #[.int .u8 c.toNat] w fun e w' => e = .returned (.string ⟨(octL c).toArray⟩) ∧ Below w.heap.size w w' := by
  have hc : c.toNat < 256 := c.toNat_lt
  have a1 := and7 ⟨c.toNat / 8, by omega⟩
  have a2 := and7 ⟨c.toNat, by omega⟩
  simp only at a1 a2
  obtain ⟨x, hx⟩ : ∃ x : Nat, x = c.toNat := ⟨_, rfl⟩
  have hcv := conv_row w [UInt8.ofNat (48 + c.toNat / 64), UInt8.ofNat (48 + c.toNat / 8 % 8), UInt8.ofNat (48 + c.toNat % 8)] #[.int .u8 (48 + (c.toNat : Int) / 64), .int .u8 (48 + (c.toNat : Int) / 8 % 8), .int .u8 (48 + (c.toNat : Int) % 8)] 3 rfl (by
    intro i hi
    have h3 : i = 0 ∨ i = 1 ∨ i = 2 := by simp at hi; omega
    rcases h3 with rfl | rfl | rfl
    · simp only [List.getElem_cons_zero, UInt8.toNat_ofNat']; simp; omega
    · simp only [List.getElem_cons_zero, List.getElem_cons_succ, UInt8.toNat_ofNat']; simp; omega
    · simp only [List.getElem_cons_zero, List.getElem_cons_succ, UInt8.toNat_ofNat']; simp; omega)
  obtain ⟨t, ht⟩ : ∃ t : List UInt8, t = [UInt8.ofNat (48 + c.toNat / 64), UInt8.ofNat (48 + c.toNat / 8 % 8), UInt8.ofNat (48 + c.toNat % 8)] := ⟨_, rfl⟩
  rw [← ht] at hcv
  have ho : octL c = [92] ++ t := by rw [ht]; rfl
  have d1 := fun w => add_lists (P := Tryd.prog) w [92] t (by rw [ht]; simp)
  rw [← ho] at d1
  generalize octL c = oc at d1
  clear ht ho
  rw [← hx] at a1 a2 hcv hc ⊢
  clear hx
  go_enter Tryd.func44, Tryd.ntmps44
  go_wp2
  go_ret
  exact ⟨rfl, (Below.refl _ _).alloc (Nat.le_refl _) _⟩

set_option maxHeartbeats 4000000 in
set_option maxRecDepth 100000 in
theorem rone_is (c : UInt8) (w : World) :
    Calls Tryd.prog 32 #[.int .u8 c.toNat] w fun e w' => e = .returned (.string ⟨(oneL c).toArray⟩) ∧ Below w.heap.size w w' := by
  have hc : c.toNat < 256 := c.toNat_lt
  unfold oneL
  by_cases h1 : c.toNat = 34
  · rw [if_pos h1]
    have f1 : ((c.toNat : Int) == 34) = true := by simp [h1]
    clear h1
    go_enter Tryd.func32, Tryd.ntmps32
    go_wp2
    go_ret
    exact ⟨rfl, Below.refl _ _⟩
  rw [if_neg h1]
  have f1 : ((c.toNat : Int) == 34) = false := by simp; omega
  by_cases h2 : c.toNat = 92
  · rw [if_pos h2]
    have f2 : ((c.toNat : Int) == 92) = true := by simp [h2]
    clear h1 h2
    go_enter Tryd.func32, Tryd.ntmps32
    go_wp2
    go_ret
    exact ⟨rfl, Below.refl _ _⟩
  rw [if_neg h2]
  have f2 : ((c.toNat : Int) == 92) = false := by simp; omega
  by_cases h3 : c.toNat = 10
  · rw [if_pos h3]
    have f3 : ((c.toNat : Int) == 10) = true := by simp [h3]
    clear h1 h2 h3
    go_enter Tryd.func32, Tryd.ntmps32
    go_wp2
    go_ret
    exact ⟨rfl, Below.refl _ _⟩
  rw [if_neg h3]
  have f3 : ((c.toNat : Int) == 10) = false := by simp; omega
  by_cases h4 : c.toNat = 9
  · rw [if_pos h4]
    have f4 : ((c.toNat : Int) == 9) = true := by simp [h4]
    clear h1 h2 h3 h4
    go_enter Tryd.func32, Tryd.ntmps32
    go_wp2
    go_ret
    exact ⟨rfl, Below.refl _ _⟩
  rw [if_neg h4]
  have f4 : ((c.toNat : Int) == 9) = false := by simp; omega
  by_cases h5 : c.toNat < 32 ∨ 127 ≤ c.toNat
  · rw [if_pos h5]
    by_cases h6 : c.toNat < 32
    · go_enter Tryd.func32, Tryd.ntmps32
      go_wp2_with fail
      refine (roctal_is c _).mono ?_
      rintro e w1 ⟨rfl, hb⟩
      go_wp2
      go_ret
      exact ⟨rfl, hb⟩
    · have h7 : 127 ≤ c.toNat := by omega
      go_enter Tryd.func32, Tryd.ntmps32
      go_wp2_with fail
      refine (roctal_is c _).mono ?_
      rintro e w1 ⟨rfl, hb⟩
      go_wp2
      go_ret
      exact ⟨rfl, hb⟩
  · rw [if_neg h5]
    have h6 : ¬ c.toNat < 32 := by omega
    have h7 : ¬ 127 ≤ c.toNat := by omega
    have hcv := conv_row w [c] #[.int .u8 (c.toNat : Int)] 1 rfl (by
      intro i hi
      obtain rfl : i = 0 := by simp at hi; omega
      rfl)
    clear h5
    go_enter Tryd.func32, Tryd.ntmps32
    go_wp2
    go_ret
    exact ⟨rfl, (Below.refl _ _).alloc (Nat.le_refl _) _⟩

theorem body_snoc (l : List UInt8) (k : Nat) (h : k < l.length) : bodyL (l.take (k + 1)) = bodyL (l.take k) ++ oneL (l.getD k 0) := by
  unfold bodyL
  rw [List.take_succ_eq_append_getElem h, List.flatMap_append]
  simp [List.getD_eq_getElem?_getD, h]

set_option maxHeartbeats 8000000 in
set_option maxRecDepth 100000 in
theorem rQuote_loop (l : List UInt8) (w : World) (hn : l.length ≤ 1099511627776) (hpc : (plainL l && cleanL l) = false) :
    Calls Tryd.prog 16 #[.string ⟨l.toArray⟩] w fun e w' => e = .returned (.string ⟨(34 :: (bodyL l ++ [34])).toArray⟩) ∧ Below w.heap.size w w' := by
  have cP := fun w => rPlain_is l w hn
  have cC := fun w => rclean_is l w hn
  have hsz := size_toArray l
  obtain ⟨s, hs⟩ : ∃ s : ByteArray, s = ⟨l.toArray⟩ := ⟨_, rfl⟩
  have hget : ∀ i, i < l.length → ∀ h2 : i < s.size, s[i]'h2 = l.getD i 0 := by subst hs; exact fun i h h2 => getD_str l i h h2
  rw [← hs] at hsz cP cC ⊢
  have HGET := Lib.hid hget
  clear hs hget
  have bl := body_len l
  have pre : plainL l = false ∨ (plainL l = true ∧ cleanL l = false) := by
    cases hp : plainL l with
    | false => exact .inl rfl
    | true => rw [hp, Bool.true_and] at hpc; exact .inr ⟨rfl, hpc⟩
  clear hpc
  go_enter Tryd.func16, Tryd.ntmps16
  rcases pre with hp | ⟨hp, hc⟩
  · rw [hp] at cP
    go_wp2_with fail
    refine (cP _).mono ?_
    rintro e w1 ⟨rfl, rfl⟩
    go_wp2_with fail
    go_loopw [3, 4] (fun so vi wr => ∃ i : Nat, i ≤ l.length ∧ vi = .int .i64 i ∧ so = .string ⟨(34 :: bodyL (l.take i)).toArray⟩ ∧ Below w1.heap.size w1 wr) (fun _ vi _ => l.length - (intOf vi).toNat)
    case atStart => exact ⟨0, Nat.zero_le _, rfl, rfl, Below.refl _ _⟩
    case round =>
      obtain ⟨i, hi, rfl, rfl, hbr⟩ := hrel
      have bi := body_len (l.take i)
      rw [List.length_take] at bi
      obtain ⟨acc, hacc⟩ : ∃ acc : List UInt8, acc = 34 :: bodyL (l.take i) := ⟨_, rfl⟩
      have hal : acc.length ≤ 4 * l.length + 1 := by rw [hacc]; simp; omega
      by_cases hlt : i < l.length
      · have hx := HGET.out i hlt (by omega)
        obtain ⟨x, hxe⟩ : ∃ x : UInt8, x = l.getD i 0 := ⟨_, rfl⟩
        rw [← hxe] at hx
        have XE := Lib.hid (hxe.symm ▸ body_snoc l i hlt : bodyL (l.take (i + 1)) = bodyL (l.take i) ++ oneL x)
        clear hxe
        have ol := one_len x
        rw [← hacc]
        have AE := Lib.hid hacc; clear hacc bi
        obtain ⟨o, ho⟩ : ∃ o : List UInt8, o = oneL x := ⟨_, rfl⟩
        have cO := fun w => rone_is x w
        rw [← ho] at cO ol
        have OE := Lib.hid ho; clear ho
        have d1 := fun w => add_lists (P := Tryd.prog) w acc o (by omega)
        go_wp2_with fail
        refine (cO _).mono ?_
        rintro e w2 ⟨rfl, hb2⟩
        go_wp2
        go_roundw
        case rel => exact ⟨i + 1, by omega, by go_num, by rw [AE.out, OE.out, XE.out]; rfl, hbr.trans (hb2.mono hbr.size)⟩
        case measure => simp [intOf]; omega
      · obtain rfl : i = l.length := by omega
        have d1 := fun w => add_lists (P := Tryd.prog) w acc [34] (by simp; omega)
        rw [← hacc]
        have AE := Lib.hid hacc; clear hacc bi
        go_wp2
        go_ret
        exact ⟨ret_str (by rw [AE.out, List.take_length]; rfl), hbr⟩
  · rw [hp] at cP
    rw [hc] at cC
    go_wp2_with fail
    refine (cP _).mono ?_
    rintro e w1 ⟨rfl, rfl⟩
    go_wp2_with fail
    refine (cC _).mono ?_
    rintro e w1 ⟨rfl, rfl⟩
    go_wp2_with fail
    go_loopw [3, 4] (fun so vi wr => ∃ i : Nat, i ≤ l.length ∧ vi = .int .i64 i ∧ so = .string ⟨(34 :: bodyL (l.take i)).toArray⟩ ∧ Below w1.heap.size w1 wr) (fun _ vi _ => l.length - (intOf vi).toNat)
    case atStart => exact ⟨0, Nat.zero_le _, rfl, rfl, Below.refl _ _⟩
    case round =>
      obtain ⟨i, hi, rfl, rfl, hbr⟩ := hrel
      have bi := body_len (l.take i)
      rw [List.length_take] at bi
      obtain ⟨acc, hacc⟩ : ∃ acc : List UInt8, acc = 34 :: bodyL (l.take i) := ⟨_, rfl⟩
      have hal : acc.length ≤ 4 * l.length + 1 := by rw [hacc]; simp; omega
      by_cases hlt : i < l.length
      · have hx := HGET.out i hlt (by omega)
        obtain ⟨x, hxe⟩ : ∃ x : UInt8, x = l.getD i 0 := ⟨_, rfl⟩
        rw [← hxe] at hx
        have XE := Lib.hid (hxe.symm ▸ body_snoc l i hlt : bodyL (l.take (i + 1)) = bodyL (l.take i) ++ oneL x)
        clear hxe
        have ol := one_len x
        rw [← hacc]
        have AE := Lib.hid hacc; clear hacc bi
        obtain ⟨o, ho⟩ : ∃ o : List UInt8, o = oneL x := ⟨_, rfl⟩
        have cO := fun w => rone_is x w
        rw [← ho] at cO ol
        have OE := Lib.hid ho; clear ho
        have d1 := fun w => add_lists (P := Tryd.prog) w acc o (by omega)
        go_wp2_with fail
        refine (cO _).mono ?_
        rintro e w2 ⟨rfl, hb2⟩
        go_wp2
        go_roundw
        case rel => exact ⟨i + 1, by omega, by go_num, by rw [AE.out, OE.out, XE.out]; rfl, hbr.trans (hb2.mono hbr.size)⟩
        case measure => simp [intOf]; omega
      · obtain rfl : i = l.length := by omega
        have d1 := fun w => add_lists (P := Tryd.prog) w acc [34] (by simp; omega)
        rw [← hacc]
        have AE := Lib.hid hacc; clear hacc bi
        go_wp2
        go_ret
        exact ⟨ret_str (by rw [AE.out, List.take_length]; rfl), hbr⟩
theorem rQuote_is (l : List UInt8) (w : World) (hn : l.length ≤ 1099511627776) :
    Calls Tryd.prog 16 #[.string ⟨l.toArray⟩] w fun e w' => e = .returned (.string ⟨(quoteL l).toArray⟩) ∧ Below w.heap.size w w' := by
  unfold quoteL
  cases hpc : (plainL l && cleanL l) with
  | false =>
    rw [if_neg (by decide)]
    exact rQuote_loop l w hn hpc
  | true =>
    rw [if_pos rfl]
    rw [Bool.and_eq_true] at hpc
    have cP := fun w => rPlain_is l w hn
    have cC := fun w => rclean_is l w hn
    rw [hpc.1] at cP
    rw [hpc.2] at cC
    go_enter Tryd.func16, Tryd.ntmps16
    go_wp2_with fail
    refine (cP _).mono ?_
    rintro e w1 ⟨rfl, rfl⟩
    go_wp2_with fail
    refine (cC _).mono ?_
    rintro e w1 ⟨rfl, rfl⟩
    go_wp2
    go_ret
    exact ⟨rfl, Below.refl _ _⟩
end Go.Proofs.YtboiclejhnbonaaDoor
