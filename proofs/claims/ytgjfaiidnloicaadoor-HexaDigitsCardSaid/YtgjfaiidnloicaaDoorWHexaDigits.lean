/-
  The walk of HexaDigits, over the contracts.
-/
import Derived.Test.YtgjfaiidnloicaaDoorAw
import Derived.Test.YtgjfaiidnloicaaDoorHo
import Derived.Test.YtgjfaiidnloicaaDoorHd
import Derived.Test.YtgjfaiidnloicaaDoorKept
namespace Go.Proofs.YtgjfaiidnloicaaDoor.hexaDigits
open Go.RowKit
set_option linter.unusedVariables false

set_option maxHeartbeats 400000 in
theorem walk_long (w : World) (a : Option Addr) (n c : Nat) (l2 : List UInt8) (hl2 : l2.length ≤ maxLen) (tab : Tab w) (hm : n ≤ maxLen) (h : 1000 < n ∨ 1000 < l2.length) :
    Calls Tryd.prog 3 #[.slice a n c, .string ⟨l2.toArray⟩] w fun e w' => e = .returned (.bool true) ∧ Below w.heap.size w w' := by
  unfold maxLen at hl2 hm
  have T := Lib.hid tab; clear tab
  by_cases h1 : 1000 < n
  · go_enter Tryd.func3, Tryd.ntmps3
    go_wp2_with fail
    refine (awake_any _ T.out).mono ?_
    rintro e w1 ⟨rfl, hb⟩
    go_wp2
    go_ret
    exact ⟨rfl, hb⟩
  have h2 : 1000 < l2.length := by omega
  clear h
  go_enter Tryd.func3, Tryd.ntmps3
  go_wp2_with fail
  refine (awake_any _ T.out).mono ?_
  rintro e w1 ⟨rfl, hb⟩
  go_wp2
  go_ret
  exact ⟨rfl, hb⟩
theorem own_of_block {w : World} {b : Nat} {o : Obj} (h : w.heap[b]? = some o) : b < w.heap.size := by
  rcases Nat.lt_or_ge b w.heap.size with h' | h'
  · exact h'
  · simp [Array.getElem?_eq_none h'] at h
set_option maxHeartbeats 1000000 in
theorem walk_short (w : World) (a : Option Addr) (n c : Nat) (l : List UInt8) (hb : BAt w a l) (hl : n = l.length) (hn : a = none → n = 0 ∧ c = 0) (l2 : List UInt8) (tab : Tab w) (h1 : n ≤ 1000) (h2 : l2.length ≤ 1000) :
    Calls Tryd.prog 3 #[.slice a n c, .string ⟨l2.toArray⟩] w fun e w' => e = .returned (.bool true) ∧ Below w.heap.size w w' := by
  have hll : l.length ≤ 1000 := by omega
  have T := Lib.hid tab; clear tab
  have C1 := Lib.hid (Own_any a n c l 71 w hb hn hl (by omega))
  have C2 := Lib.hid (fun w => Unhex_all l2 (by omega) w)
  have C3 := Lib.hid (fun w => rUnhex_all l2 (by omega) w)
  have hid : Arr20 (Lib.byteCells (idR l2).1).toArray (idR l2).1 := ⟨rfl, idR_len l2⟩
  have c4 := fun w => Id_all l2 (by omega) w
  have c5 := fun w => rId_all l2 (by omega) w
  unfold idv at c4 c5
  generalize (Lib.byteCells (idR l2).1).toArray = arr at hid c4 c5
  have C4 := Lib.hid c4
  have C5 := Lib.hid c5
  clear c4 c5
  have heql := hid.eql hid
  rw [show ((idR l2).1 == (idR l2).1) = true by simp] at heql
  have hstore := hid.store
  have hsz := hid.size
  have HID := Lib.hid hid; clear hid
  obtain ⟨er, her⟩ : ∃ k : Int, k = (idR l2).2 := ⟨_, rfl⟩
  rw [← her] at C4 C5
  obtain ⟨ur, hur⟩ : ∃ k : Int, k = (uR l2).2 := ⟨_, rfl⟩
  rw [← hur] at C2 C3
  have hul := uR_len l2
  obtain ⟨u, hu⟩ : ∃ k, k = (uR l2).1 := ⟨_, rfl⟩
  rw [← hu] at C2 C3 hul
  clear her hur hu
  have HB := Lib.hid hb; clear hb
  have HL := Lib.hid hl; clear hl hn
  go_enter Tryd.func3, Tryd.ntmps3
  go_wp2_with fail
  refine C1.out.mono ?_
  rintro e w1 ⟨rfl, ho, b1⟩
  have HO := Lib.hid ho; clear ho
  go_wp2_with fail
  refine (C2.out _).mono ?_
  rintro e w2 ⟨g2, c2, rfl, hg2, _, b2⟩
  have HG2 := Lib.hid hg2; clear hg2
  have b12 := b1.trans (b2.mono b1.size)
  go_wp2_with fail
  refine (C3.out _).mono ?_
  rintro e w3 ⟨g3, c3, rfl, hg3, _, b3⟩
  have HG3 := Lib.hid hg3; clear hg3
  have b13 := b12.trans (b3.mono b12.size)
  have o3 := b2.trans (b3.mono b2.size)
  go_wp2_with fail
  refine (C4.out _).mono ?_
  rintro e w4 ⟨rfl, b4⟩
  have b14 := b13.trans (b4.mono b13.size)
  have o4 := o3.trans (b4.mono o3.size)
  have p4 := b3.trans (b4.mono b3.size)
  go_wp2_with fail
  refine (C5.out _).mono ?_
  rintro e w5 ⟨rfl, b5⟩
  have x5 : w5.heap[w4.heap.size]? = some (.cells arr 29 (0, 0)) := (b5.block _ (by simp)).trans (heap_alloc_new w4 _)
  have q5 : Below w4.heap.size w4 w5 := ((Below.refl _ w4).alloc (Nat.le_refl _) _).trans (b5.mono (by simp))
  have b15 := b14.trans (q5.mono b14.size)
  have o5 := o4.trans (q5.mono o4.size)
  have p5 := p4.trans (q5.mono p4.size)
  have s5 := b4.trans (q5.mono b4.size)
  clear b1 b2 b3 b4 b5 b12 b13 b14 o3 o4 p4 q5
  have HX5 := Lib.hid x5; clear x5
  have r5 : Below w5.heap.size w5 (w5.alloc (.cells arr 29)) := (Below.refl _ w5).alloc (Nat.le_refl _) _
  have y6 : (w5.alloc (.cells arr 29)).heap[w5.heap.size]? = some (.cells arr 29 (0, 0)) := heap_alloc_new w5 _
  have HY6 := Lib.hid y6; clear y6
  have b16 := b15.trans (r5.mono b15.size)
  have o6 := o5.trans (r5.mono o5.size)
  have p6 := p5.trans (r5.mono p5.size)
  have s6 := s5.trans (r5.mono s5.size)
  have A := Lib.hid (awake_any _ (T.out.keep b16))
  go_wp2_with fail
  refine A.out.mono ?_
  rintro e w7 ⟨rfl, b7⟩
  have x7 : w7.heap[w4.heap.size]? = some (.cells arr 29 (0, 0)) := (b7.block _ (by have := own_of_block HX5.out; simp; omega)).trans ((r5.block _ (own_of_block HX5.out)).trans HX5.out)
  have y7 : w7.heap[w5.heap.size]? = some (.cells arr 29 (0, 0)) := (b7.block _ (by simp)).trans HY6.out
  have b17 := b16.trans (b7.mono b16.size)
  have o7 := o6.trans (b7.mono o6.size)
  have p7 := p6.trans (b7.mono p6.size)
  have s7 := s6.trans (b7.mono s6.size)
  clear b15 o5 p5 s5 r5 b16 o6 p6 s6 b7 A
  have HX7 := Lib.hid x7; clear x7 HX5
  have HY7 := Lib.hid y7; clear y7 HY6
  have ho7 := HO.out.keep (o7)
  have C6 := Lib.hid (Hex_any (some ⟨w.heap.size, 0, none⟩) l.length (l.length + 3) l w7 ho7.bat rfl (by omega))
  have HO7 := Lib.hid ho7; clear ho7 HO
  go_wp2_with fail
  refine C6.out.mono ?_
  rintro e w8 ⟨rfl, b8⟩
  have b18 := b17.trans (b8.mono b17.size)
  have C7 := Lib.hid (rHex_any a n c l w8 (HB.out.keep b18) HL.out (by omega))
  go_wp2_with fail
  refine C7.out.mono ?_
  rintro e w9 ⟨rfl, b9⟩
  have b19 := b18.trans (b9.mono b18.size)
  have q9 := b8.trans (b9.mono b8.size)
  have p9 := p7.trans (q9.mono p7.size)
  have s9 := s7.trans (q9.mono s7.size)
  have x9 : w9.heap[w4.heap.size]? = some (.cells arr 29 (0, 0)) := (q9.block _ (own_of_block HX7.out)).trans HX7.out
  have y9 : w9.heap[w5.heap.size]? = some (.cells arr 29 (0, 0)) := (q9.block _ (own_of_block HY7.out)).trans HY7.out
  have k9 := Kept_any w.heap.size l.length n (l.length + 3) c a l 71 w9 (HO7.out.keep q9) (HB.out.keep b19) rfl rfl HL.out (by omega)
  have C8 := Lib.hid (Bytes_same g2 g3 u.length u.length c2 c3 u w9 (HG2.out.keep p9) (HG3.out.keep s9) rfl rfl)
  have K9 := Lib.hid k9; clear k9
  have HX9 := Lib.hid x9
  have HY9 := Lib.hid y9
  clear b17 o7 p7 s7 b8 b18 b9 q9 p9 s9 x9 y9
  go_wp2_with fail
  refine C8.out.mono ?_
  rintro e w10 ⟨rfl, rfl⟩
  go_wp2_with (first | (with_reducible refine wpList_load_guard ?hw1 29 (.tmp 10) rfl w4.heap.size rfl 29 arr (0, 0) _ ?hg1 Tryd.underlying29 rfl ?hi1 ?_) | (with_reducible refine wpList_load_guard ?hw2 29 (.tmp 12) rfl w5.heap.size rfl 29 arr (0, 0) _ ?hg2 Tryd.underlying29 rfl ?hi2 ?_))
  case hg1 => exact HX9.out
  case hi1 => first | (rw [info29, hsz]) | simpa using info29
  case hg2 => exact HY9.out
  case hi2 => first | (rw [info29, hsz]) | simpa using info29
  refine K9.out.mono ?_
  rintro e w10 ⟨rfl, b10⟩
  have b1z := b19.trans (b10.mono b19.size)
  go_wp2
  go_ret
  exact ⟨rfl, b1z⟩
theorem walk (w : World) (a : Option Addr) (n c : Nat) (l : List UInt8) (hb : BAt w a l) (hl : n = l.length) (hn : a = none → n = 0 ∧ c = 0) (hc : n ≤ c ∧ c ≤ maxLen) (l2 : List UInt8) (hl2 : l2.length ≤ maxLen) (tab : Tab w) :
    Calls Tryd.prog 3 #[.slice a n c, .string ⟨l2.toArray⟩] w fun e w' => e = .returned (.bool true) ∧ Below w.heap.size w w' := by
  by_cases h : 1000 < n ∨ 1000 < l2.length
  · exact walk_long w a n c l2 hl2 tab (Nat.le_trans hc.1 hc.2) h
  · exact walk_short w a n c l hb hl hn l2 tab (by omega) (by omega)
end Go.Proofs.YtgjfaiidnloicaaDoor.hexaDigits
