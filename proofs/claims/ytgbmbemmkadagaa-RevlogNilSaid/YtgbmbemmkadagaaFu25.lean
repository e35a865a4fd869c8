/-
  Texts that belong together, one behind the other.
-/
import Derived.Test.YtgbmbemmkadagaaFu13
import Derived.Test.YtgbmbemmkadagaaShelf
/-
  Layer 14, the program: pieces, joined.
-/
namespace Go.Proofs.Ytgbmbemmkadagaa
set_option maxRecDepth 20000
open Go.RowKit
set_option linter.unusedVariables false
set_option linter.unusedSimpArgs false

/-- A piece: where it lies, its bytes. -/
structure Prt where
  v : Value
  b : List UInt8
def okPt (e : Prt) : Prop := ∃ a n c, e.v = .slice a n c
def rowPt : RowT Prt := ⟨fun e => [e.v], 1, 24, 32, 56, okPt⟩
theorem goodPt : RowT.Good rowPt Try.prog := rgood_of (by decide) (fun x _ => rfl) (fun x h v hv => by
  obtain ⟨a, n, c, e⟩ := h
  simp only [rowPt, List.mem_singleton] at hv
  rw [hv, e]; rfl) Try.underlying56 (by kernel_rfl) (by decide)
/-- Pieces that lie somewhere. -/
def PtAt (w : World) (a : Option Addr) (l : List Prt) : Prop := RowAt rowPt w a l ∧ ∀ e ∈ l, Red w e.v e.b
theorem PtAt.keep {w u : World} {a : Option Addr} {l : List Prt} (h : PtAt w a l) (b : Below w.heap.size w u) : PtAt u a l := ⟨h.1.keep b, fun e he => (h.2 e he).below b (Nat.le_refl _)⟩
theorem PtAt.at {w : World} {b o : Nat} {l : List Prt} (h : PtAt w (some ⟨b, o, none⟩) l) (k : Nat) (hk : k < l.length) : w.cell? ⟨b, o + k, none⟩ = some l[k].v ∧ Red w l[k].v l[k].b := by
  obtain ⟨g, o', h1, h2, h3⟩ := h.1 (by omega)
  cases h1
  have q := h3 k hk 0 _ rfl
  rw [show rowPt.size = 1 from rfl, Nat.mul_one, Nat.add_zero] at q
  exact ⟨q, h.2 _ (List.getElem_mem hk)⟩
/-- Bytes of a call's own; or none at all. -/
def FreshR (B : Nat) (w : World) (v : Value) (l : List UInt8) : Prop := Lib.FreshBytes B w v l ∨ (v = .slice none 0 0 ∧ l = [])
theorem Red.holds {w : World} {v : Value} {l : List UInt8} (h : Red w v l) : Lib.HoldsBytes w v l := by
  obtain ⟨a, c, h1, h2, h3, h4, h5⟩ := h
  refine ⟨a, c, h1, fun e => List.eq_nil_of_length_eq_zero (h3 e).1, fun ad e i x hx => ?_⟩
  obtain ⟨hi, rfl⟩ := List.getElem?_eq_some_iff.1 hx
  obtain ⟨b, o, e', -, hc⟩ := h2 (by omega)
  rw [e] at e'
  cases e'
  rw [addr_add]
  exact hc i hi
theorem FreshR.red {B : Nat} {w : World} {v : Value} {l : List UInt8} (h : FreshR B w v l) : Red w v l := by
  rcases h with ⟨g, cap, zs, h1, h2, h3, h4, h5, h6, h7, h8, h9⟩ | ⟨rfl, rfl⟩
  · refine ⟨_, cap, h1, fun hp => ⟨g, 0, rfl, ?_, fun i hi => ?_⟩, (fun e => by cases e), h3, h4⟩
    · exact World.block_lt_of_cell? w ⟨g, 0, none⟩ (h8 0 (by omega))
    · rw [Nat.zero_add, h8 i (by omega)]
      congr 2
      have hz : i < zs.length := by omega
      have e := congrArg (fun m => m[i]?) h7
      simp only [Lib.bytesOf, List.getElem?_map, List.getElem?_take, if_pos hi, List.getElem?_eq_getElem hz, List.getElem?_eq_getElem hi, Option.map_some, Option.some.injEq] at e
      have hb := h6 _ (List.getElem_mem hz)
      rw [List.getD_eq_getElem?_getD, List.getElem?_eq_getElem hz, Option.getD_some, ← e]
      simp
      omega
  · exact Red.none w
/-- Its block is new. -/
theorem FreshR.block {B : Nat} {w : World} {v : Value} {l : List UInt8} (h : FreshR B w v l) : ∃ a c, v = .slice a l.length c ∧ ∀ ad, a = some ad → B ≤ ad.block ∧ ad.off = 0 ∧ ad.spot = none := by
  rcases h with ⟨g, cap, zs, h1, h2, -⟩ | ⟨rfl, rfl⟩
  · exact ⟨_, cap, h1, fun ad e => by cases e; exact ⟨h2, rfl, rfl⟩⟩
  · exact ⟨none, 0, rfl, fun ad e => by cases e⟩
theorem lens_flat (l : List (List UInt8)) : Lib.lens l = l.flatten.length := by
  unfold Lib.lens
  rw [List.length_flatten]
theorem join_flat : ∀ l : List (List UInt8), Lib.join l [] = l.flatten
  | [] => rfl
  | x :: r => by
    rw [Lib.join_cons]
    unfold Lib.joinTail
    simp
theorem bJoin_is (b o n c : Nat) (l : List Prt) (w : World) (h : PtAt w (some ⟨b, o, none⟩) l) (hn : n = l.length) (hc : n ≤ c) (h0 : 0 < n) (hm : n ≤ 1000000) (ht : (l.map (·.b)).flatten.length ≤ 65536) :
    Calls Try.prog 75 #[.slice (some ⟨b, o, none⟩) n c, .slice none 0 0] w fun e w' => ∃ v', e = .returned v' ∧ FreshR w.heap.size w' v' (l.map (·.b)).flatten ∧ Below w.heap.size w w' := by
  have hS : Lib.HoldsBytes w (.slice none 0 0) [] := (Red.none w).holds
  by_cases h2 : 2 ≤ n
  · have hP : Lib.PartsAt w ⟨b, o, none⟩ (l.map (·.v)) (l.map (·.b)) := by
      refine ⟨by simp, fun i v hv => ?_, fun i v m hv hm => ?_⟩
      · rw [List.getElem?_map] at hv
        obtain ⟨x, hx, rfl⟩ := Option.map_eq_some_iff.1 hv
        obtain ⟨hi, rfl⟩ := List.getElem?_eq_some_iff.1 hx
        rw [addr_add]
        exact (h.at i hi).1
      · rw [List.getElem?_map] at hv hm
        obtain ⟨x, hx, rfl⟩ := Option.map_eq_some_iff.1 hv
        obtain ⟨y, hy, rfl⟩ := Option.map_eq_some_iff.1 hm
        rw [hx] at hy
        cases hy
        exact (h.2 x (List.mem_of_getElem? hx)).holds
    refine (Try.bytes_Join_many b o n c (l.map (·.v)) (l.map (·.b)) (.slice none 0 0) [] w (by simp [hn]) h2 hP hc hS (by omega) (by rw [lens_flat]; simp; simp at ht; omega)).mono ?_
    rintro e w' ⟨v', rfl, hf, hb⟩
    rw [join_flat] at hf
    exact ⟨v', rfl, .inl hf, hb⟩
  · obtain rfl : n = 1 := by omega
    obtain ⟨x, rfl⟩ : ∃ x, l = [x] := List.length_eq_one_iff.1 hn.symm
    obtain ⟨hc0, hr⟩ := h.at 0 (by simp)
    obtain ⟨a, cx, hv, hbat, hno, -⟩ := hr
    simp only [List.getElem_cons_zero, Nat.add_zero] at hc0 hv hbat hno
    have e1 : ([x].map (·.b)).flatten = x.b := by simp
    rw [e1] at ht ⊢
    rw [hv] at hc0
    by_cases h0 : 0 < x.b.length
    · obtain ⟨b', o', rfl, -, hcell⟩ := hbat h0
      refine (Try.bytes_Join_one b o c ⟨b', o', none⟩ cx x.b (.slice none 0 0) w hc0 (fun i y hy => ?_) h0 (by omega)).mono ?_
      · obtain ⟨hi, rfl⟩ := List.getElem?_eq_some_iff.1 hy
        rw [addr_add]
        exact hcell i hi
      · rintro e w' ⟨v', rfl, hf, hb⟩
        exact ⟨v', rfl, .inl hf, hb⟩
    · have e2 : x.b = [] := List.eq_nil_of_length_eq_zero (by omega)
      rw [e2] at hc0
      refine (Try.bytes_Join_one_empty b o c a cx (.slice none 0 0) w hc0).mono ?_
      rintro e w' ⟨rfl, rfl⟩
      exact ⟨_, rfl, .inr ⟨rfl, e2⟩, Below.refl _ _⟩
end Go.Proofs.Ytgbmbemmkadagaa

/-
  Layer 14, the program: join.
-/
namespace Go.Proofs.Ytgbmbemmkadagaa
set_option maxRecDepth 20000
open Go.RowKit
set_option linter.unusedVariables false
set_option linter.unusedSimpArgs false

set_option maxHeartbeats 16000000 in
theorem join_is (b o n c : Nat) (l : List Prt) (w : World) (h : PtAt w (some ⟨b, o, none⟩) l) (hbl : b < w.heap.size) (hn : n = l.length) (hc : n ≤ c) (h0 : 0 < n) (hm : n ≤ 1000000) (ht : (l.map (·.b)).flatten.length ≤ 65536) :
    Calls Try.prog 74 #[.slice (some ⟨b, o, none⟩) n c] w fun e w' => ∃ v, e = .returned (.tuple #[v, .int .i64 0]) ∧ FreshR w.heap.size w' v (l.map (·.b)).flatten ∧ Below w.heap.size w w' := by
  have CJ := Lib.hid (bJoin_is b o n c l w h hn hc h0 hm ht)
  have H := Lib.hid h; have HN := Lib.hid hn
  obtain ⟨L, hL⟩ : ∃ L, l.map (·.b) = L := ⟨_, rfl⟩
  have LL := Lib.hid (show L.length = l.length by rw [← hL, List.length_map])
  have HK := Lib.hid (show ∀ k (hk : k < l.length) (hk2 : k < L.length), L[k] = l[k].b from fun k hk hk2 => by simp only [← hL, List.getElem_map])
  rw [hL] at CJ ht ⊢
  have HT := Lib.hid ht
  clear h hn hL ht
  go_enter Try.func74, Try.ntmps74
  go_wp2_with fail
  go_loopw [4, 9] (fun p i wr => ∃ k s : Nat, k ≤ n ∧ i = .int .i64 k ∧ p = .int .i64 s ∧ s + (L.take k).flatten.length = 65536 ∧ wr = w) (fun _ i _ => n - (intOf i).toNat)
  case atStart => exact ⟨0, 65536, Nat.zero_le _, rfl, rfl, by simp, rfl⟩
  case round =>
    obtain ⟨k, s, hk, rfl, rfl, hs, hwr⟩ := hrel
    have HS := Lib.hid hs
    clear hs
    by_cases hlt : k < n
    · have hkl : k < l.length := by rw [← HN.out]; exact hlt
      have hkL : k < L.length := by rw [LL.out]; exact hkl
      obtain ⟨hx, a, cx, hv, -⟩ := H.out.at k hkl
      rw [← hwr, hv] at hx
      have FN := flat_next L k hkL
      have FL := flat_le L (k + 1)
      rw [HK.out k hkl hkL] at FN
      obtain ⟨m, hm2⟩ : ∃ m, l[k].b.length = m := ⟨_, rfl⟩
      rw [hm2] at FN hx
      have h1 : ¬ ((s : Int) < (m : Int)) := by have := HS.out; have := HT.out; omega
      have h2 : m ≤ s := by omega
      have h3 : (s : Int) - m = ((s - m : Nat) : Int) := by omega
      have hs6 : s ≤ 65536 := by have := HS.out; omega
      have HS2 := Lib.hid (show (s - m) + (L.take (k + 1)).flatten.length = 65536 by have := HS.out; omega)
      have HW := Lib.hid hwr
      clear FN FL hv hwr hm2
      go_wp2
      go_roundw
      case rel => exact ⟨k + 1, s - m, by omega, by go_num, by go_num, HS2.out, HW.out⟩
      case measure => simp [intOf]; omega
    · have hkn : k = n := by omega
      subst hkn
      subst hwr
      go_wp2_with fail
      refine CJ.out.mono ?_
      rintro e w1 ⟨v, rfl, hf, hb⟩
      have HF := Lib.hid hf
      clear hf
      obtain ⟨a, cc, hv, -⟩ := HF.out.block
      obtain ⟨fl, hfl⟩ : ∃ fl, L.flatten.length = fl := ⟨_, rfl⟩
      rw [hfl] at hv
      clear hfl
      subst hv
      go_wp2
      go_ret2
      exact ⟨.slice a fl cc, rfl, HF.out, hb⟩
end Go.Proofs.Ytgbmbemmkadagaa
