/-
  Layer 1: the decimal reader of the program (below zero).
-/
import Derived.Test.YtagfnnpklefhhaaDoorHa
import Derived.Lib.OthersKept
import Derived.WalkSmall
import Derived.IntWalk
namespace Go.Proofs.YtagfnnpklefhhaaDoor
open Go.RowKit
set_option linter.unusedVariables false

def isD (c : UInt8) : Prop := 48 ≤ c.toNat ∧ c.toNat ≤ 57
instance (c : UInt8) : Decidable (isD c) := by unfold isD; infer_instance
/-- The number that some digits are. -/
def decL (l : List UInt8) : Nat := l.foldl (fun a c => 10 * a + (c.toNat - 48)) 0
theorem decL_snoc (l : List UInt8) (c : UInt8) : decL (l ++ [c]) = 10 * decL l + (c.toNat - 48) := by simp [decL]
theorem decL_take (l : List UInt8) (k : Nat) (h : k < l.length) : decL (l.take (k + 1)) = 10 * decL (l.take k) + ((l.getD k 0).toNat - 48) := by
  rw [List.take_succ_eq_append_getElem h, decL_snoc, List.getD_eq_getElem?_getD, List.getElem?_eq_getElem h]; rfl
theorem decL_mono (l : List UInt8) (k : Nat) : decL (l.take k) ≤ decL l := by
  have key : ∀ (l : List UInt8) (a : Nat), a ≤ l.foldl (fun a c => 10 * a + (c.toNat - 48)) a := by
    intro l
    induction l with
    | nil => intro a; exact Nat.le_refl _
    | cons c r ih => intro a; have := ih (10 * a + (c.toNat - 48)); simp only [List.foldl_cons]; omega
  conv => rhs; rw [← List.take_append_drop k l]
  unfold decL
  rw [List.foldl_append]
  exact key _ _

def NPost (s : ByteArray) (least : Int) (w : World) (e : Ending) (w' : World) : Prop :=
  Below w.heap.size w w' ∧ ((e = .returned (.tuple #[.int .i64 0, .bool false]) ∧ ((∃ i, i < s.size ∧ ¬ isD (s.data.toList.getD i 0)) ∨ (decL s.data.toList : Int) > -least)) ∨
    (e = .returned (.tuple #[.int .i64 (-(decL s.data.toList : Int)), .bool true]) ∧ (∀ i, i < s.size → isD (s.data.toList.getD i 0)) ∧ (decL s.data.toList : Int) ≤ -least))

theorem getD_at (s : ByteArray) (k : Nat) (h : k < s.size) : s.data.toList.getD k 0 = s[k]'h := by
  have : k < s.data.toList.length := by simpa using h
  rw [List.getD_eq_getElem?_getD, List.getElem?_eq_getElem this]; rfl
theorem size_list (s : ByteArray) : s.data.toList.length = s.size := by simp

theorem tdiv10 (a : Int) (h : a ≤ 0) : a ≤ 10 * a.tdiv 10 ∧ 10 * a.tdiv 10 < a + 10 := by
  have e : a.tdiv 10 = -((-a) / 10) := by
    have h1 : ((-a).tdiv 10) = (-a) / 10 := Int.tdiv_eq_ediv_of_nonneg (by omega)
    rw [← h1, Int.neg_tdiv, Int.neg_neg]
  rw [e]; omega

set_option maxHeartbeats 1000000 in
theorem negated_core (s : ByteArray) (least : Int) (w : World) (hs : s.size ≤ 1099511627776) (hl0 : -9223372036854775808 ≤ least) (hl1 : least ≤ -1000) :
    Calls Tryd.prog 58 #[.string s, .int .i64 least] w fun e w' => NPost s least w e w' := by
  go_enter Tryd.func58, Tryd.ntmps58
  go_wp2_with fail
  go_loopw [6] (fun v wr => ∃ (pos : Nat) (x : Int), pos ≤ s.size ∧ v = .int .i64 x ∧ x = -(decL (s.data.toList.take pos) : Int) ∧ least ≤ x ∧ x ≤ 0 ∧ (∀ i, i < pos → isD (s.data.toList.getD i 0)) ∧ wr.heap[w.heap.size]? = some (.stringIter s pos) ∧ Below w.heap.size w wr) (fun _ wr => s.size - wr.iterPos w.heap.size)
  case atStart => exact ⟨0, 0, Nat.zero_le _, rfl, by simp [decL], by omega, by omega, fun i hi => absurd hi (Nat.not_lt_zero _), World.iter_heap w s 0, (Below.refl _ w).alloc (Nat.le_refl _) _⟩
  case round =>
    obtain ⟨pos, x, hpos, rfl, hx, hx0, hx1, hdig, hit, hbr⟩ := hrel
    have HX := Lib.hid hx; clear hx
    have HDIG := Lib.hid hdig; clear hdig
    by_cases hp : pos < s.size
    · have HGD := Lib.hid (getD_at s pos hp)
      by_cases ha : (s[pos]).toNat < 128
      · have hnx : ∀ ty, (Instr.next (.pointer (some ⟨w.heap.size, 0, none⟩)) true ty).run Tryd.prog wr = _ := fun ty => Lib.run_next_ascii_at wr w.heap.size s pos ty hit hp ha
        obtain ⟨r, hr⟩ : ∃ r : Int, r = ((s[pos]).toNat : Int) := ⟨_, rfl⟩
        rw [← hr] at hnx
        have HR := Lib.hid hr; clear hr
        have hit2 := Lib.iterAt_heap wr w.heap.size s pos (pos + 1) hit
        have hbr2 := Lib.below_iterAt hbr (k := w.heap.size) (Nat.le_refl _) s (pos + 1)
        generalize wr.iterAt w.heap.size s (pos + 1) = w2 at hnx hit2 hbr2
        by_cases hd : 48 ≤ r ∧ r ≤ 57
        · obtain ⟨hd0, hd1⟩ := hd
          obtain ⟨d, hde⟩ : ∃ d : Int, d = r - 48 := ⟨_, rfl⟩
          obtain ⟨q, hq⟩ : ∃ q : Int, q = (least + d).tdiv 10 := ⟨_, rfl⟩
          have hd2 : 0 ≤ d := by omega
          have hd3 : d ≤ 9 := by omega
          have hq1 : least + d ≤ 10 * q := by rw [hq]; exact (tdiv10 _ (by omega)).1
          have hq2 : 10 * q < least + d + 10 := by rw [hq]; exact (tdiv10 _ (by omega)).2
          go_wp2_with fail
          refine (digit_dec r 10 hd0 hd1 (by omega) (by omega) _).mono ?_
          rintro e w3 ⟨rfl, rfl⟩
          rw [← hde]
          clear hnx
          have HDE := Lib.hid hde; clear hde
          have hq3 : IntKind.i64.wrap ((least + d).tdiv 10) = q := by rw [IntWalk.i64_quo' _ _ (by omega), hq]
          have HQ := Lib.hid hq; clear hq
          have hnext : (decL (s.data.toList.take (pos + 1)) : Int) = -(10 * x - d) := by
            rw [decL_take _ _ (by rw [size_list]; exact hp), HGD.out]
            have e1 := HX.out; have e2 := HR.out; have e3 := HDE.out
            omega
          have HN := Lib.hid hnext; clear hnext
          by_cases hlt : x < q
          · go_wp2
            go_ret2
            refine ⟨hbr2, .inl ⟨rfl, .inr ?_⟩⟩
            have := decL_mono s.data.toList (pos + 1)
            have := HN.out
            omega
          · go_wp2
            go_roundw
            case rel =>
              refine ⟨pos + 1, x * 10 - d, by omega, rfl, by have := HN.out; omega, by omega, by omega, ?_, hit2, hbr2⟩
              intro i hi
              by_cases h : i < pos
              · exact HDIG.out i h
              · obtain rfl : i = pos := by omega
                rw [HGD.out]; unfold isD; have := HR.out; omega
            case measure =>
              rw [iterPos_of hit2, iterPos_of hit]; omega
        · go_wp2_with fail
          refine (digit10_no r hd _).mono ?_
          rintro e w3 ⟨rfl, rfl⟩
          go_wp2
          go_ret2
          refine ⟨hbr2, .inl ⟨rfl, .inl ⟨pos, hp, ?_⟩⟩⟩
          rw [HGD.out]; unfold isD; have := HR.out; omega
      · have hnx : ∀ ty, (Instr.next (.pointer (some ⟨w.heap.size, 0, none⟩)) true ty).run Tryd.prog wr = _ := fun ty => Lib.run_next_any_at wr w.heap.size s pos ty hit hp
        have hh := (decode_high s pos hp (by omega)).1
        have hbr2 := Lib.below_iterAt hbr (k := w.heap.size) (Nat.le_refl _) s (pos + (Utf8.decode s pos).2)
        generalize (Utf8.decode s pos).1 = r at hnx hh
        generalize wr.iterAt w.heap.size s (pos + (Utf8.decode s pos).2) = w2 at hnx hbr2
        go_wp2_with fail
        refine (digit_high r 10 (by omega) (by omega) (by omega) _).mono ?_
        rintro e w3 ⟨rfl, rfl⟩
        go_wp2
        go_ret2
        refine ⟨hbr2, .inl ⟨rfl, .inl ⟨pos, hp, ?_⟩⟩⟩
        rw [HGD.out]; unfold isD; omega
    · have hnx : ∀ ty, (Instr.next (.pointer (some ⟨w.heap.size, 0, none⟩)) true ty).run Tryd.prog wr = _ := fun ty => Lib.run_next_end_at wr w.heap.size s pos ty hit hp
      obtain rfl : pos = s.size := by omega
      go_wp2
      go_ret2
      have e : x = -(decL s.data.toList : Int) := by have := HX.out; rwa [List.take_of_length_le (by rw [size_list]; exact Nat.le_refl _)] at this
      exact ⟨hbr, .inr ⟨tup_int e, HDIG.out, by omega⟩⟩
end Go.Proofs.YtagfnnpklefhhaaDoor
