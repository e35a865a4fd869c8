/-
  Texts that belong together, one behind the other.
-/
import Derived.Test.YtnbcbiglkmdepaaGreatDoorFu13
import Derived.Lib.OthersKept
import Derived.WalkSmall
import Derived.IntWalk
import Derived.Test.YtnbcbiglkmdepaaGreatDoorFu06
import Derived.Test.YtnbcbiglkmdepaaGreatDoorFu12
import Derived.Laws.CopyOwn
import Derived.Laws.ResultCell
import Derived.Test.YtnbcbiglkmdepaaGreatDoorFu08
set_option maxHeartbeats 64000000
set_option linter.unusedVariables false
set_option linter.unusedSimpArgs false
open Go.Lib renaming hid → hyd
namespace Go.Proofs.YtnbcbiglkmdepaaGreatDoor
open Go.RowKit
def isD (c : UInt8) : Prop := 48 ≤ c.toNat ∧ c.toNat ≤ 57
instance (c : UInt8) : Decidable (isD c) := by unfold isD; infer_instance
def decL (l : List UInt8) : Nat := l.foldl (fun a c => 10 * a + (c.toNat - 48)) 0
theorem decL_snoc (l : List UInt8) (c : UInt8) : decL (l ++ [c]) = 10 * decL l + (c.toNat - 48) := by simp [decL]
theorem decL_take (l : List UInt8) (k : Nat) (h : k < l.length) : decL (l.take (k + 1)) = 10 * decL (l.take k) + ((l.getD k 0).toNat - 48) := by
 rw [List.take_succ_eq_append_getElem h, decL_snoc, List.getD_eq_getElem?_getD, List.getElem?_eq_getElem h]; rfl
theorem decL_mono (l : List UInt8) (k : Nat) : decL (l.take k) ≤ decL l := by
 have key : ∀ (l : List UInt8) (a : Nat), a ≤ l.foldl (fun a c => 10 * a + (c.toNat - 48)) a := by
  intro l
  induction l with
  | nil => intro a; exact Nat.le_refl _
  | cons c r ih => intro a; have := ih (10 * a + (c.toNat - 48)); simp only [List.foldl_cons]; omega
 conv => rhs; rw [← List.take_append_drop k l]
 unfold decL; rw [List.foldl_append]; exact key _ _
def NPost (s : ByteArray) (least : Int) (w : World) (e : Ending) (w' : World) : Prop :=
 Below w.heap.size w w' ∧ ((e = .returned (.tuple #[.int .i64 0, .bool false]) ∧ ((∃ i, i < s.size ∧ ¬ isD (s.data.toList.getD i 0)) ∨ (decL s.data.toList : Int) > -least)) ∨
  (e = .returned (.tuple #[.int .i64 (-(decL s.data.toList : Int)), .bool true]) ∧ (∀ i, i < s.size → isD (s.data.toList.getD i 0)) ∧ (decL s.data.toList : Int) ≤ -least))
theorem getD_at (s : ByteArray) (k : Nat) (h : k < s.size) : s.data.toList.getD k 0 = s[k]'h := by
 have : k < s.data.toList.length := by simpa using h
 rw [List.getD_eq_getElem?_getD, List.getElem?_eq_getElem this]; rfl
theorem size_list (s : ByteArray) : s.data.toList.length = s.size := by simp
theorem tdiv10 (a : Int) (h : a ≤ 0) : a ≤ 10 * a.tdiv 10 ∧ 10 * a.tdiv 10 < a + 10 := by
 have e : a.tdiv 10 = -((-a) / 10) := by
  have h1 : ((-a).tdiv 10) = (-a) / 10 := Int.tdiv_eq_ediv_of_nonneg (by omega); rw [← h1, Int.neg_tdiv, Int.neg_neg]
 rw [e]; omega
theorem negated_core (s : ByteArray) (least : Int) (w : World) (hs : s.size ≤ 1099511627776) (hl0 : -9223372036854775808 ≤ least) (hl1 : least ≤ -1000) :
  Calls Tryz.prog 195 #[.string s, .int .i64 least] w fun e w' => NPost s least w e w' := by
 go_enter Tryz.func195, Tryz.ntmps195
 go_wp2_with fail
 go_loopw [6] (fun v wr => ∃ (pos : Nat) (x : Int), pos ≤ s.size ∧ v = .int .i64 x ∧ x = -(decL (s.data.toList.take pos) : Int) ∧ least ≤ x ∧ x ≤ 0 ∧ (∀ i, i < pos → isD (s.data.toList.getD i 0)) ∧ wr.heap[w.heap.size]? = some (.stringIter s pos) ∧ Below w.heap.size w wr) (fun _ wr => s.size - wr.iterPos w.heap.size)
 case atStart => exact ⟨0, 0, Nat.zero_le _, rfl, by simp [decL], by omega, by omega, fun i hi => absurd hi (Nat.not_lt_zero _), World.iter_heap w s 0, (Below.refl _ w).alloc (Nat.le_refl _) _⟩
 case round =>
  obtain ⟨pos, x, hpos, rfl, hx, hx0, hx1, hdig, hit, hbr⟩ := hrel; have HX := hyd hx; clear hx; have HDIG := hyd hdig; clear hdig
  by_cases hp : pos < s.size
  ·have HGD := hyd (getD_at s pos hp)
   by_cases ha : (s[pos]).toNat < 128
   ·have hnx : ∀ ty, (Instr.next (.pointer (some ⟨w.heap.size, 0, none⟩)) true ty).run Tryz.prog wr = _ := fun ty => Lib.run_next_ascii_at wr w.heap.size s pos ty hit hp ha
    obtain ⟨r, hr⟩ : ∃ r : Int, r = ((s[pos]).toNat : Int) := ⟨_, rfl⟩; rw [← hr] at hnx; have HR := hyd hr; clear hr; have hit2 := Lib.iterAt_heap wr w.heap.size s pos (pos + 1) hit; have hbr2 := Lib.below_iterAt hbr (k := w.heap.size) (Nat.le_refl _) s (pos + 1); generalize wr.iterAt w.heap.size s (pos + 1) = w2 at hnx hit2 hbr2
    by_cases hd : 48 ≤ r ∧ r ≤ 57
    ·obtain ⟨hd0, hd1⟩ := hd
     obtain ⟨d, hde⟩ : ∃ d : Int, d = r - 48 := ⟨_, rfl⟩; obtain ⟨q, hq⟩ : ∃ q : Int, q = (least + d).tdiv 10 := ⟨_, rfl⟩
     have hd2 : 0 ≤ d := by omega
     have hd3 : d ≤ 9 := by omega
     have hq1 : least + d ≤ 10 * q := by rw [hq]; exact (tdiv10 _ (by omega)).1
     have hq2 : 10 * q < least + d + 10 := by rw [hq]; exact (tdiv10 _ (by omega)).2
     go_wp2_with fail
     refine (digit_dec r 10 hd0 hd1 (by omega) (by omega) _).mono ?_; rintro e w3 ⟨rfl, rfl⟩; rw [← hde]; clear hnx; have HDE := hyd hde; clear hde
     have hq3 : IntKind.i64.wrap ((least + d).tdiv 10) = q := by rw [IntWalk.i64_quo' _ _ (by omega), hq]
     have HQ := hyd hq; clear hq
     have hnext : (decL (s.data.toList.take (pos + 1)) : Int) = -(10 * x - d) := by
      rw [decL_take _ _ (by rw [size_list]; exact hp), HGD.out]; have e1 := HX.out; have e2 := HR.out; have e3 := HDE.out
      omega
     have HN := hyd hnext; clear hnext
     by_cases hlt : x < q
     ·go_wp2
      go_ret2
      refine ⟨hbr2, .inl ⟨rfl, .inr ?_⟩⟩; have := decL_mono s.data.toList (pos + 1); have := HN.out
      omega
     ·go_wp2
      go_roundw
      case rel =>
       refine ⟨pos + 1, x * 10 - d, by omega, rfl, by have := HN.out; omega, by omega, by omega, ?_, hit2, hbr2⟩; intro i hi
       by_cases h : i < pos
       ·exact HDIG.out i h
       ·obtain rfl : i = pos := by omega
        rw [HGD.out]; unfold isD; have := HR.out; omega
      case measure =>
       rw [iterPos_of hit2, iterPos_of hit]; omega
    ·go_wp2_with fail
     refine (digit10_no r hd _).mono ?_; rintro e w3 ⟨rfl, rfl⟩; go_wp2
     go_ret2
     refine ⟨hbr2, .inl ⟨rfl, .inl ⟨pos, hp, ?_⟩⟩⟩; rw [HGD.out]; unfold isD; have := HR.out; omega
   ·have hnx : ∀ ty, (Instr.next (.pointer (some ⟨w.heap.size, 0, none⟩)) true ty).run Tryz.prog wr = _ := fun ty => Lib.run_next_any_at wr w.heap.size s pos ty hit hp
    have hh := (decode_high s pos hp (by omega)).1; have hbr2 := Lib.below_iterAt hbr (k := w.heap.size) (Nat.le_refl _) s (pos + (Utf8.decode s pos).2); generalize (Utf8.decode s pos).1 = r at hnx hh; generalize wr.iterAt w.heap.size s (pos + (Utf8.decode s pos).2) = w2 at hnx hbr2
    go_wp2_with fail
    refine (digit_high r 10 (by omega) (by omega) (by omega) _).mono ?_; rintro e w3 ⟨rfl, rfl⟩; go_wp2
    go_ret2
    refine ⟨hbr2, .inl ⟨rfl, .inl ⟨pos, hp, ?_⟩⟩⟩; rw [HGD.out]; unfold isD; omega
  ·have hnx : ∀ ty, (Instr.next (.pointer (some ⟨w.heap.size, 0, none⟩)) true ty).run Tryz.prog wr = _ := fun ty => Lib.run_next_end_at wr w.heap.size s pos ty hit hp
   obtain rfl : pos = s.size := by omega
   go_wp2
   go_ret2
   have e : x = -(decL s.data.toList : Int) := by have := HX.out; rwa [List.take_of_length_le (by rw [size_list]; exact Nat.le_refl _)] at this
   exact ⟨hbr, .inr ⟨tup_int e, HDIG.out, by omega⟩⟩
theorem Cut_minus (r : List UInt8) (w : World) :
  Calls Tryz.prog 106 #[.string ⟨(45 :: r).toArray⟩, .string ⟨#[45]⟩] w fun e w' => e = .returned (.tuple #[.string ⟨r.toArray⟩, .bool true]) ∧ w = w' := by
 refine (Tryz.strings_CutPrefix _ _ _).mono ?_; rintro e w' ⟨rfl, rfl⟩; refine ⟨?_, rfl⟩
 simp [Lib.trimPrefix, Lib.hasPrefix, List.isPrefixOf]
theorem Cut_other (c : UInt8) (r : List UInt8) (h : c ≠ 45) (w : World) :
  Calls Tryz.prog 106 #[.string ⟨(c :: r).toArray⟩, .string ⟨#[45]⟩] w fun e w' => e = .returned (.tuple #[.string ⟨(c :: r).toArray⟩, .bool false]) ∧ w = w' := by
 refine (Tryz.strings_CutPrefix _ _ _).mono ?_; rintro e w' ⟨rfl, rfl⟩; refine ⟨?_, rfl⟩
 simp [Lib.trimPrefix, Lib.hasPrefix, List.isPrefixOf, Ne.symm h]
theorem Take_empty (w : World) :
  Calls Tryz.prog 180 #[.string ⟨#[]⟩] w fun e w' => e = .returned (.tuple #[.int .i64 0, .int .i64 3]) ∧ w = w' := by
 go_enter Tryz.func180, Tryz.ntmps180
 go_wp2
 go_ret2
 exact ⟨rfl, rfl⟩
theorem Take_dash (w : World) :
  Calls Tryz.prog 180 #[.string ⟨#[45]⟩] w fun e w' => e = .returned (.tuple #[.int .i64 0, .int .i64 4]) ∧ w = w' := by
 go_enter Tryz.func180, Tryz.ntmps180
 go_wp2_with fail
 refine (Cut_minus [] _).mono ?_; rintro e w' ⟨rfl, rfl⟩; go_wp2
 go_ret2
 exact ⟨rfl, rfl⟩
theorem Take_minus0 (r : List UInt8) (w : World) :
  Calls Tryz.prog 180 #[.string ⟨(45 :: 48 :: r).toArray⟩] w fun e w' => e = .returned (.tuple #[.int .i64 0, .int .i64 4]) ∧ w = w' := by
 have hi : ((⟨(48 :: r).toArray⟩ : ByteArray)[0]'(by simp [ByteArray.size])).toNat = 48 := rfl
 go_enter Tryz.func180, Tryz.ntmps180
 go_wp2_with fail
 refine (Cut_minus (48 :: r) _).mono ?_; rintro e w' ⟨rfl, rfl⟩; go_wp2
 go_ret2
 exact ⟨rfl, rfl⟩
theorem Take_plus0 (c : UInt8) (r : List UInt8) (w : World) :
  Calls Tryz.prog 180 #[.string ⟨(48 :: c :: r).toArray⟩] w fun e w' => e = .returned (.tuple #[.int .i64 0, .int .i64 4]) ∧ w = w' := by
 have hi : ((⟨(48 :: c :: r).toArray⟩ : ByteArray)[0]'(by simp [ByteArray.size])).toNat = 48 := rfl
 go_enter Tryz.func180, Tryz.ntmps180
 go_wp2_with fail
 refine (Cut_other 48 (c :: r) (by decide) _).mono ?_; rintro e w' ⟨rfl, rfl⟩; go_wp2
 go_ret2
 exact ⟨rfl, rfl⟩
def TPost (d : List UInt8) (m : Bool) (w : World) (e : Ending) (w' : World) : Prop :=
 Below w.heap.size w w' ∧ ((e = .returned (.tuple #[.int .i64 0, .int .i64 4]) ∧ ((∃ i, i < d.length ∧ ¬ isD (d.getD i 0)) ∨ (decL d : Int) > (if m then 9223372036854775808 else 9223372036854775807))) ∨
  (e = .returned (.tuple #[.int .i64 (if m then -(decL d : Int) else decL d), .int .i64 0]) ∧ (∀ i, i < d.length → isD (d.getD i 0)) ∧ (decL d : Int) ≤ (if m then 9223372036854775808 else 9223372036854775807)))
theorem Take_minus (c : UInt8) (r : List UInt8) (hr : r.length ≤ 1000000) (w : World) (h48 : c ≠ 48) :
  Calls Tryz.prog 180 #[.string ⟨(45 :: c :: r).toArray⟩] w fun e w' => TPost (c :: r) true w e w' := by
 have hne : ¬ c.toNat = 48 := fun h => h48 (UInt8.toNat.inj h)
 have hi : ((⟨(c :: r).toArray⟩ : ByteArray)[0]'(by simp [ByteArray.size])).toNat = c.toNat := rfl
 have hb : ((c.toNat : Int) == 48) = false := by simp; omega
 clear h48 hne
 go_enter Tryz.func180, Tryz.ntmps180
 go_wp2_with fail
 refine (Cut_minus (c :: r) _).mono ?_; rintro e w' ⟨rfl, rfl⟩
 go_wp2_with fail
 refine (negated_core _ _ _ ?_ (by omega) (by omega)).mono ?_
 ·simp [ByteArray.size]; omega
 rintro e w1 ⟨hbw, ⟨rfl, h⟩ | ⟨rfl, h, h2⟩⟩
 ·have H := hyd h; clear h
  go_wp2
  go_ret2
  refine ⟨hbw, .inl ⟨rfl, ?_⟩⟩
  rcases H.out with ⟨i, hi, h⟩ | h
  ·exact .inl ⟨i, by simpa [ByteArray.size] using hi, h⟩
  ·exact .inr (by simpa using h)
 ·have H := hyd h; clear h
  have H2 := hyd h2; clear h2; go_wp2
  go_ret2
  refine ⟨hbw, .inr ⟨rfl, fun i hi => H.out i (by simpa [ByteArray.size] using hi), by simpa using H2.out⟩⟩
theorem Take_plus (c : UInt8) (r : List UInt8) (hr : r.length ≤ 1000000) (w : World) (h48 : c ≠ 48) (h45 : c ≠ 45) :
  Calls Tryz.prog 180 #[.string ⟨(c :: r).toArray⟩] w fun e w' => TPost (c :: r) false w e w' := by
 have hne : ¬ c.toNat = 48 := fun h => h48 (UInt8.toNat.inj h)
 have hi : ((⟨(c :: r).toArray⟩ : ByteArray)[0]'(by simp [ByteArray.size])).toNat = c.toNat := rfl
 have hb : ((c.toNat : Int) == 48) = false := by simp; omega
 have HC := hyd (fun w => Cut_other c r h45 w); clear h48 hne h45
 go_enter Tryz.func180, Tryz.ntmps180
 go_wp2_with fail
 refine (HC.out _).mono ?_; rintro e w' ⟨rfl, rfl⟩
 go_wp2_with fail
 refine (negated_core _ _ _ ?_ (by omega) (by omega)).mono ?_
 ·simp [ByteArray.size]; omega
 rintro e w1 ⟨hbw, ⟨rfl, h⟩ | ⟨rfl, h, h2⟩⟩
 ·have H := hyd h; clear h
  go_wp2
  go_ret2
  refine ⟨hbw, .inl ⟨rfl, ?_⟩⟩
  rcases H.out with ⟨i, hi, h⟩ | h
  ·exact .inl ⟨i, by simpa [ByteArray.size] using hi, h⟩
  ·exact .inr (by simpa using h)
 ·have H := hyd h; clear h
  obtain ⟨x, hx⟩ : ∃ x : Int, x = -(decL (⟨(c :: r).toArray⟩ : ByteArray).data.toList : Int) := ⟨_, rfl⟩; rw [← hx]
  have hx0 : x ≤ 0 := by omega
  have hx1 : -9223372036854775807 ≤ x := by omega
  have HX := hyd hx; have H2 := hyd h2; clear hx h2; go_wp2
  go_ret2
  refine ⟨hbw, .inr ⟨tup_int ?_, fun i hi => H.out i (by simpa [ByteArray.size] using hi), by simpa using H2.out⟩⟩; have := HX.out
  simp at this ⊢
  omega
theorem Take_zero (w : World) :
  Calls Tryz.prog 180 #[.string ⟨[48].toArray⟩] w fun e w' => e = .returned (.tuple #[.int .i64 0, .int .i64 0]) ∧ Below w.heap.size w w' := by
 have hi : ((⟨[48].toArray⟩ : ByteArray)[0]'(by simp [ByteArray.size])).toNat = 48 := rfl
 have hdec : (-(decL (⟨[48].toArray⟩ : ByteArray).data.toList : Int)) = 0 := by decide
 go_enter Tryz.func180, Tryz.ntmps180
 go_wp2_with fail
 refine (Cut_other 48 [] (by decide) _).mono ?_; rintro e w' ⟨rfl, rfl⟩
 go_wp2_with fail
 refine (negated_core _ _ _ (by decide) (by omega) (by omega)).mono ?_; rintro e w1 ⟨hbw, ⟨rfl, h⟩ | ⟨rfl, h, h2⟩⟩
 ·exfalso
  rcases h with ⟨i, hi, h⟩ | h
  ·have hi0 : i = 0 := by have : (⟨[48].toArray⟩ : ByteArray).size = 1 := rfl; omega
   subst hi0; exact h (by decide)
  ·exact absurd h (by decide)
 ·rw [hdec]
  clear h h2 hdec; go_wp2
  go_ret2
  exact ⟨rfl, hbw⟩
def takeD (m : Bool) (d : List UInt8) : Option Int :=
 if d = [] ∨ (d.getD 0 0 = 48 ∧ (1 < d.length ∨ m = true)) ∨ ¬ (∀ i, i < d.length → isD (d.getD i 0)) ∨ (decL d : Int) > (if m then 9223372036854775808 else 9223372036854775807) then none
 else some (if m then -(decL d : Int) else decL d)
def takeN : List UInt8 → Option Int
 | [] => none
 | c :: r => if c = 45 then takeD true r else takeD false (c :: r)
def takeV (l : List UInt8) : Value := match takeN l with
 | none => .tuple #[.int .i64 0, .int .i64 4]
 | some v => .tuple #[.int .i64 v, .int .i64 0]
theorem TPost.takeD {d : List UInt8} {m : Bool} {w w' : World} {e : Ending} (h : TPost d m w e w') (h1 : d ≠ []) (h2 : ¬ (d.getD 0 0 = 48 ∧ (1 < d.length ∨ m = true))) :
  Below w.heap.size w w' ∧ e = .returned (match takeD m d with
   | none => .tuple #[.int .i64 0, .int .i64 4]
   | some v => .tuple #[.int .i64 v, .int .i64 0]) := by
 obtain ⟨hb, ⟨he, h3⟩ | ⟨he, h3, h4⟩⟩ := h
 ·refine ⟨hb, ?_⟩
  rw [he]
  have : _root_.Go.Proofs.YtnbcbiglkmdepaaGreatDoor.takeD m d = none := by
   unfold _root_.Go.Proofs.YtnbcbiglkmdepaaGreatDoor.takeD; rw [if_pos]
   rcases h3 with ⟨i, hi, h3⟩ | h3
   ·exact .inr (.inr (.inl fun h => h3 (h i hi)))
   ·exact .inr (.inr (.inr h3))
  rw [this]
 ·refine ⟨hb, ?_⟩
  rw [he]
  have : _root_.Go.Proofs.YtnbcbiglkmdepaaGreatDoor.takeD m d = some (if m then -(decL d : Int) else decL d) := by
   unfold _root_.Go.Proofs.YtnbcbiglkmdepaaGreatDoor.takeD; rw [if_neg]; rintro (h | h | h | h)
   ·exact h1 h
   ·exact h2 h
   ·exact h h3
   ·omega
  rw [this]
theorem Take_any (l : List UInt8) (hl : l.length ≤ 1000000) (h : l ≠ []) (w : World) :
  Calls Tryz.prog 180 #[.string ⟨l.toArray⟩] w fun e w' => e = .returned (takeV l) ∧ Below w.heap.size w w' := by
 match l, h, hl with
 | c :: r, _, hl =>
  by_cases h45 : c = 45
  ·subst h45
   unfold takeV; rw [show takeN (45 :: r) = takeD true r by simp [takeN]]
   match r, hl with
   | [], _ =>
    refine (Take_dash w).mono ?_; rintro e w' ⟨rfl, rfl⟩; exact ⟨rfl, Below.refl _ _⟩
   | c :: r, hl =>
    by_cases h48 : c = 48
    ·subst h48
     refine (Take_minus0 r w).mono ?_; rintro e w' ⟨rfl, rfl⟩
     have : takeD true (48 :: r) = none := by unfold takeD; rw [if_pos]; exact .inr (.inl ⟨rfl, .inr rfl⟩)
     rw [this]; exact ⟨rfl, Below.refl _ _⟩
    ·refine (Take_minus c r (by simp at hl; omega) w h48).mono ?_
     intro e w' hp; obtain ⟨a, b⟩ := hp.takeD (by simp) (fun h => h48 h.1); exact ⟨b, a⟩
  ·unfold takeV
   rw [show takeN (c :: r) = takeD false (c :: r) by simp [takeN, h45]]
   by_cases h48 : c = 48
   ·subst h48
    match r, hl with
    | [], _ =>
     refine (Take_zero w).mono ?_; rintro e w' ⟨rfl, hb⟩
     have : takeD false [48] = some 0 := by decide
     rw [this]; exact ⟨rfl, hb⟩
    | c :: r, hl =>
     refine (Take_plus0 c r w).mono ?_; rintro e w' ⟨rfl, rfl⟩
     have : takeD false (48 :: c :: r) = none := by unfold takeD; rw [if_pos]; exact .inr (.inl ⟨rfl, .inl (by simp)⟩)
     rw [this]; exact ⟨rfl, Below.refl _ _⟩
   ·refine (Take_plus c r (by simp at hl; omega) w h48 h45).mono ?_
    intro e w' hp; obtain ⟨a, b⟩ := hp.takeD (by simp) (fun h => h48 h.1); exact ⟨b, a⟩
theorem decL_lt (l : List UInt8) (h : ∀ i, i < l.length → isD (l.getD i 0)) : ∀ k, k ≤ l.length → decL (l.take k) < 10 ^ k := by
 intro k
 induction k with
 | zero => intro _; simp [decL]
 | succ k ih =>
  intro hk; have a := ih (by omega); have b := h k (by omega); unfold isD at b; rw [decL_take l k (by omega), Nat.pow_succ]
  omega
theorem decL_ge (l : List UInt8) (a : Nat) : a * 10 ^ l.length ≤ l.foldl (fun a c => 10 * a + (c.toNat - 48)) a := by
 induction l generalizing a with
 | nil => simp
 | cons c r ih =>
  have h := ih (10 * a + (c.toNat - 48)); simp only [List.foldl_cons, List.length_cons]
  have e : a * 10 ^ (r.length + 1) = (10 * a) * 10 ^ r.length := by rw [Nat.pow_succ, Nat.mul_comm 10 a, Nat.mul_assoc, Nat.mul_comm (10 ^ r.length) 10]
  rw [e]; exact Nat.le_trans (Nat.mul_le_mul_right _ (by omega)) h
theorem decL_big (e : UInt8) (t : List UInt8) (he : isD e) (h48 : e ≠ 48) (hl : 19 ≤ t.length) : 10000000000000000000 ≤ decL (e :: t) := by
 have h := decL_ge t (e.toNat - 48)
 have h1 : 1 ≤ e.toNat - 48 := by
  unfold isD at he
  have : e.toNat ≠ 48 := fun h => h48 (UInt8.toNat.inj h)
  omega
 have h2 : 10 ^ 19 ≤ 10 ^ t.length := Nat.pow_le_pow_right (by omega) hl; have h3 : 1 * 10 ^ t.length ≤ (e.toNat - 48) * 10 ^ t.length := Nat.mul_le_mul_right _ h1
 have e2 : decL (e :: t) = t.foldl (fun a c => 10 * a + (c.toNat - 48)) (e.toNat - 48) := by simp [decL]
 rw [e2]
 have e3 : (10 : Nat) ^ 19 = 10000000000000000000 := by decide
 omega
theorem cut_one (r : List UInt8) : (⟨(45 :: r).toArray⟩ : ByteArray).extract 1 (r.length + 1) = ⟨r.toArray⟩ := by
 apply ByteArray.ext
 simp
theorem rTake_empty (w : World) :
  Calls Tryz.prog 111 #[.string ⟨#[]⟩] w fun e w' => e = .returned (.tuple #[.int .i64 0, .int .i64 3]) ∧ w = w' := by
 go_enter Tryz.func111, Tryz.ntmps111
 go_wp2
 go_ret2
 exact ⟨rfl, rfl⟩
theorem rTake_dash (w : World) :
  Calls Tryz.prog 111 #[.string ⟨#[45]⟩] w fun e w' => e = .returned (.tuple #[.int .i64 0, .int .i64 4]) ∧ w = w' := by
 have hi : ((⟨#[45]⟩ : ByteArray)[0]'(by decide)).toNat = 45 := rfl
 have hc : (⟨#[45]⟩ : ByteArray).extract 1 1 = ⟨#[]⟩ := by decide
 go_enter Tryz.func111, Tryz.ntmps111
 go_wp2
 go_ret2
 exact ⟨rfl, rfl⟩
theorem rTake_minus (e : UInt8) (t : List UInt8) (hl : t.length + 1 ≤ 19) (h48 : e ≠ 48) (w : World) :
  Calls Tryz.prog 111 #[.string ⟨(45 :: e :: t).toArray⟩] w fun x w' => TPost (e :: t) true w x w' := by
 have hi : ((⟨(45 :: e :: t).toArray⟩ : ByteArray)[0]'(by simp [ByteArray.size])).toNat = 45 := rfl; have hc := cut_one (e :: t); rw [List.length_cons] at hc; have hi2 : ((⟨(e :: t).toArray⟩ : ByteArray)[0]'(by simp [ByteArray.size])).toNat = e.toNat := rfl
 have hne : ¬ e.toNat = 48 := fun h => h48 (UInt8.toNat.inj h)
 have hb : ((e.toNat : Int) == 48) = false := by simp; omega
 have hdl : decide ((19 : Int) < (t.length : Int) + 1) = false := by simp; omega
 have HNE := hyd hne; clear h48 hne
 go_enter Tryz.func111, Tryz.ntmps111
 go_wp2_with fail
 go_loop [6, 7] (fun a i => ∃ (k : Nat) (v : Int), k ≤ t.length + 1 ∧ i = .int .i64 k ∧ a = .int .u64 v ∧ v = decL ((e :: t).take k) ∧ ∀ j, j < k → isD ((e :: t).getD j 0)) (fun _ i => t.length + 1 - (intOf i).toNat)
 case atStart => exact ⟨0, 0, Nat.zero_le _, rfl, rfl, by simp [decL], fun j hj => absurd hj (Nat.not_lt_zero _)⟩
 case round =>
  obtain ⟨k, v, hk, rfl, rfl, hv, hdig⟩ := hrel; have HV := hyd hv; clear hv; have HDIG := hyd hdig; clear hdig
  have hv0 : 0 ≤ v := by rw [HV.out]; omega
  by_cases hlt : k < t.length + 1
  ·have hvb : v ≤ 999999999999999999 := by
    have h := decL_lt ((e :: t).take k) (fun j hj => by
     rw [List.length_take] at hj; have h := HDIG.out j (by omega)
     rwa [List.getD_eq_getElem?_getD, List.getElem?_take, if_pos (by omega), ← List.getD_eq_getElem?_getD]) k (by simp; omega)
    rw [List.take_take, Nat.min_self] at h; have h2 : 10 ^ k ≤ 10 ^ 18 := Nat.pow_le_pow_right (by omega) (by omega)
    have h3 : (10 : Nat) ^ 18 = 1000000000000000000 := by decide
    have h4 := HV.out
    omega
   have hx : ((⟨(e :: t).toArray⟩ : ByteArray)[k]'(by simp [ByteArray.size]; omega)) = (e :: t).getD k 0 := by
    rw [List.getD_eq_getElem?_getD, List.getElem?_eq_getElem (by simp; omega)]; rfl
   obtain ⟨c, hce⟩ : ∃ c : Nat, c = ((⟨(e :: t).toArray⟩ : ByteArray)[k]'(by simp [ByteArray.size]; omega)).toNat := ⟨_, rfl⟩
   have hcd : c = ((e :: t).getD k 0).toNat := by rw [hce, hx]
   have HCD := hyd hcd; clear hcd hx; have hce2 := hce.symm; clear hce
   have hc256 : c < 256 := by rw [HCD.out]; exact ((e :: t).getD k 0).toNat_lt
   by_cases hd : 48 ≤ c ∧ c ≤ 57
   ·obtain ⟨hd0, hd1⟩ := hd
    go_wp2
    go_round
    case rel =>
     refine ⟨k + 1, _, by omega, by go_num, rfl, ?_, ?_⟩
     ·rw [decL_take _ _ (by simp; omega), ← HCD.out]
      have := HV.out
      omega
     ·intro j hj
      by_cases h : j < k
      ·exact HDIG.out j h
      ·obtain rfl : j = k := by omega
       unfold isD; rw [← HCD.out]; omega
    case measure => simp [intOf]; omega
   ·have hbad : ¬ isD ((e :: t).getD k 0) := by unfold isD; rw [← HCD.out]; exact hd
    have HBAD := hyd hbad; clear hbad
    by_cases h1 : c < 48
    ·go_wp2
     go_ret2
     exact ⟨Below.refl _ _, .inl ⟨rfl, .inl ⟨k, by simp; omega, HBAD.out⟩⟩⟩
    ·have h2 : 57 < c := by omega
     go_wp2
     go_ret2
     exact ⟨Below.refl _ _, .inl ⟨rfl, .inl ⟨k, by simp; omega, HBAD.out⟩⟩⟩
  ·obtain rfl : k = t.length + 1 := by omega
   have hvd : v = decL (e :: t) := by have h := HV.out; rwa [List.take_of_length_le (by simp)] at h
   have HVD := hyd hvd; clear hvd
   have hv1 : 1 ≤ v := by
    have h := decL_ge t (e.toNat - 48)
    have e2 : decL (e :: t) = t.foldl (fun a c => 10 * a + (c.toNat - 48)) (e.toNat - 48) := by simp [decL]
    have h0 := HDIG.out 0 (by omega); unfold isD at h0; have h0' : (([e] ++ t : List UInt8).getD 0 0) = e := rfl; have h0'' : 48 ≤ e.toNat := h0.1; have h4 : e.toNat ≠ 48 := HNE.out; have h5 : 1 * 10 ^ t.length ≤ (e.toNat - 48) * 10 ^ t.length := Nat.mul_le_mul_right _ (by omega); have h6 : 1 ≤ 10 ^ t.length := Nat.one_le_pow _ _ (by omega); have h7 := HV.out; rw [List.take_of_length_le (by simp)] at h7
    omega
   have hvb : v ≤ 9999999999999999999 := by
    have h := decL_lt (e :: t) (fun j hj => HDIG.out j (by simpa using hj)) (t.length + 1) (by simp); rw [List.take_of_length_le (by simp)] at h; have h2 : 10 ^ (t.length + 1) ≤ 10 ^ 19 := Nat.pow_le_pow_right (by omega) (by omega)
    have h3 : (10 : Nat) ^ 19 = 10000000000000000000 := by decide
    have h4 := HVD.out
    omega
   by_cases hbig : v ≤ 9223372036854775808
   ·skip
    go_wp2
    go_ret2
    exact ⟨Below.refl _ _, .inr ⟨tup_int (by have := HVD.out; rw [if_pos rfl]; omega), fun i hi => HDIG.out i (by simpa using hi), by have := HVD.out; rw [if_pos rfl]; omega⟩⟩
   ·have hfin : (decL (e :: t) : Int) > (if true = true then 9223372036854775808 else 9223372036854775807) := by have := HVD.out; rw [if_pos rfl]; omega
    have HF := hyd hfin; clear hfin; go_wp2
    go_ret2
    exact ⟨Below.refl _ _, .inl ⟨rfl, .inr HF.out⟩⟩
theorem rTake_plus (e : UInt8) (t : List UInt8) (hl : t.length + 1 ≤ 19) (h48 : e ≠ 48) (h45 : e ≠ 45) (w : World) :
  Calls Tryz.prog 111 #[.string ⟨(e :: t).toArray⟩] w fun x w' => TPost (e :: t) false w x w' := by
 have h45b : ((e.toNat : Int) == 45) = false := by
  have : ¬ e.toNat = 45 := fun h => h45 (UInt8.toNat.inj h)
  simp; omega
 clear h45; have hi2 : ((⟨(e :: t).toArray⟩ : ByteArray)[0]'(by simp [ByteArray.size])).toNat = e.toNat := rfl
 have hne : ¬ e.toNat = 48 := fun h => h48 (UInt8.toNat.inj h)
 have hb : ((e.toNat : Int) == 48) = false := by simp; omega
 have hdl : decide ((19 : Int) < (t.length : Int) + 1) = false := by simp; omega
 have HNE := hyd hne; clear h48 hne
 go_enter Tryz.func111, Tryz.ntmps111
 go_wp2_with fail
 go_loop [6, 7] (fun a i => ∃ (k : Nat) (v : Int), k ≤ t.length + 1 ∧ i = .int .i64 k ∧ a = .int .u64 v ∧ v = decL ((e :: t).take k) ∧ ∀ j, j < k → isD ((e :: t).getD j 0)) (fun _ i => t.length + 1 - (intOf i).toNat)
 case atStart => exact ⟨0, 0, Nat.zero_le _, rfl, rfl, by simp [decL], fun j hj => absurd hj (Nat.not_lt_zero _)⟩
 case round =>
  obtain ⟨k, v, hk, rfl, rfl, hv, hdig⟩ := hrel; have HV := hyd hv; clear hv; have HDIG := hyd hdig; clear hdig
  have hv0 : 0 ≤ v := by rw [HV.out]; omega
  by_cases hlt : k < t.length + 1
  ·have hvb : v ≤ 999999999999999999 := by
    have h := decL_lt ((e :: t).take k) (fun j hj => by
     rw [List.length_take] at hj; have h := HDIG.out j (by omega)
     rwa [List.getD_eq_getElem?_getD, List.getElem?_take, if_pos (by omega), ← List.getD_eq_getElem?_getD]) k (by simp; omega)
    rw [List.take_take, Nat.min_self] at h; have h2 : 10 ^ k ≤ 10 ^ 18 := Nat.pow_le_pow_right (by omega) (by omega)
    have h3 : (10 : Nat) ^ 18 = 1000000000000000000 := by decide
    have h4 := HV.out
    omega
   have hx : ((⟨(e :: t).toArray⟩ : ByteArray)[k]'(by simp [ByteArray.size]; omega)) = (e :: t).getD k 0 := by
    rw [List.getD_eq_getElem?_getD, List.getElem?_eq_getElem (by simp; omega)]; rfl
   obtain ⟨c, hce⟩ : ∃ c : Nat, c = ((⟨(e :: t).toArray⟩ : ByteArray)[k]'(by simp [ByteArray.size]; omega)).toNat := ⟨_, rfl⟩
   have hcd : c = ((e :: t).getD k 0).toNat := by rw [hce, hx]
   have HCD := hyd hcd; clear hcd hx; have hce2 := hce.symm; clear hce
   have hc256 : c < 256 := by rw [HCD.out]; exact ((e :: t).getD k 0).toNat_lt
   by_cases hd : 48 ≤ c ∧ c ≤ 57
   ·obtain ⟨hd0, hd1⟩ := hd
    go_wp2
    go_round
    case rel =>
     refine ⟨k + 1, _, by omega, by go_num, rfl, ?_, ?_⟩
     ·rw [decL_take _ _ (by simp; omega), ← HCD.out]
      have := HV.out
      omega
     ·intro j hj
      by_cases h : j < k
      ·exact HDIG.out j h
      ·obtain rfl : j = k := by omega
       unfold isD; rw [← HCD.out]; omega
    case measure => simp [intOf]; omega
   ·have hbad : ¬ isD ((e :: t).getD k 0) := by unfold isD; rw [← HCD.out]; exact hd
    have HBAD := hyd hbad; clear hbad
    by_cases h1 : c < 48
    ·go_wp2
     go_ret2
     exact ⟨Below.refl _ _, .inl ⟨rfl, .inl ⟨k, by simp; omega, HBAD.out⟩⟩⟩
    ·have h2 : 57 < c := by omega
     go_wp2
     go_ret2
     exact ⟨Below.refl _ _, .inl ⟨rfl, .inl ⟨k, by simp; omega, HBAD.out⟩⟩⟩
  ·obtain rfl : k = t.length + 1 := by omega
   have hvd : v = decL (e :: t) := by have h := HV.out; rwa [List.take_of_length_le (by simp)] at h
   have HVD := hyd hvd; clear hvd
   have hvb : v ≤ 9999999999999999999 := by
    have h := decL_lt (e :: t) (fun j hj => HDIG.out j (by simpa using hj)) (t.length + 1) (by simp); rw [List.take_of_length_le (by simp)] at h; have h2 : 10 ^ (t.length + 1) ≤ 10 ^ 19 := Nat.pow_le_pow_right (by omega) (by omega)
    have h3 : (10 : Nat) ^ 19 = 10000000000000000000 := by decide
    have h4 := HVD.out
    omega
   by_cases hbig : v ≤ 9223372036854775807
   ·have hq : (v == 9223372036854775808) = false := by simp; omega
    go_wp2
    go_ret2
    exact ⟨Below.refl _ _, .inr ⟨tup_int (by have := HVD.out; rw [if_neg (by decide)]; omega), fun i hi => HDIG.out i (by simpa using hi), by have := HVD.out; rw [if_neg (by decide)]; omega⟩⟩
   ·have hfin : (decL (e :: t) : Int) > (if false = true then 9223372036854775808 else 9223372036854775807) := by have := HVD.out; rw [if_neg (by decide)]; omega
    have HF := hyd hfin; clear hfin
    by_cases hb3 : 9223372036854775808 < v
    ·go_wp2
     go_ret2
     exact ⟨Below.refl _ _, .inl ⟨rfl, .inr HF.out⟩⟩
    ·have hq : (v == 9223372036854775808) = true := by simp; omega
     go_wp2
     go_ret2
     exact ⟨Below.refl _ _, .inl ⟨rfl, .inr HF.out⟩⟩
theorem dig_toNat (k : Nat) (h : k < 10) : (UInt8.ofNat (48 + k)).toNat = 48 + k := by rw [UInt8.toNat_ofNat']; omega
theorem decDigits_spec (u : Nat) : (∀ c ∈ Lib.decDigits u, isD c) ∧ decL (Lib.decDigits u) = u ∧ Lib.decDigits u ≠ [] ∧ (10 ≤ u → (Lib.decDigits u).getD 0 0 ≠ 48) ∧ (0 < u → (Lib.decDigits u).getD 0 0 ≠ 48) := by
 induction u using Nat.strongRecOn with
 | ind u ih =>
  by_cases h : u < 10
  ·rw [Lib.decDigits_one h]
   refine ⟨?_, ?_, by simp, by omega, fun h0 => ?_⟩
   ·intro c hc; rw [List.mem_singleton] at hc; subst hc; unfold isD; rw [dig_toNat u h]; omega
   ·have := decL_snoc [] (UInt8.ofNat (48 + u)); simp only [List.nil_append] at this; rw [this, dig_toNat u h]; simp [decL]
   ·intro e
    have e2 : (UInt8.ofNat (48 + u)).toNat = 48 := congrArg UInt8.toNat e; rw [dig_toNat u h] at e2; omega
  ·obtain ⟨h1, h2, h3, h4, h5⟩ := ih (u / 10) (by omega)
   rw [Lib.decDigits.eq_1 u, dif_neg h]
   have hne : (Lib.decDigits (u / 10) ++ [UInt8.ofNat (48 + u % 10)]).getD 0 0 = (Lib.decDigits (u / 10)).getD 0 0 := by
    cases hd : Lib.decDigits (u / 10) with
    | nil => exact absurd hd h3
    | cons c r => rfl
   refine ⟨?_, ?_, by simp, fun _ => by rw [hne]; exact h5 (by omega), fun _ => by rw [hne]; exact h5 (by omega)⟩
   ·intro c hc
    rcases List.mem_append.1 hc with hc | hc
    ·exact h1 c hc
    ·rw [List.mem_singleton] at hc; subst hc; unfold isD; rw [dig_toNat _ (by omega)]; omega
   ·rw [decL_snoc, h2, dig_toNat _ (by omega)]; omega
theorem isD_getD {l : List UInt8} (h : ∀ c ∈ l, isD c) (i : Nat) (hi : i < l.length) : isD (l.getD i 0) := by
 rw [List.getD_eq_getElem?_getD, List.getElem?_eq_getElem hi]; exact h _ (List.getElem_mem _)
theorem takeD_digits (m : Bool) (u : Nat) (h : (u : Int) ≤ if m then 9223372036854775808 else 9223372036854775807) (h0 : m = true → 0 < u) : takeD m (Lib.decDigits u) = some (if m then -(u : Int) else u) := by
 obtain ⟨h1, h2, h3, h4, h5⟩ := decDigits_spec u; unfold takeD; rw [if_neg, h2]; rintro (h | ⟨h, h6 | h6⟩ | h | h)
 ·exact h3 h
 ·by_cases hu : u < 10
  ·rw [Lib.decDigits_one hu] at h6; simp at h6
  ·exact h4 (by omega) h
 ·exact h5 (h0 h6) h
 ·exact h fun i hi => isD_getD h1 i hi
 ·rw [h2] at h; omega
theorem take_itoa (n : Int) (h0 : -9223372036854775808 ≤ n) (h1 : n ≤ 9223372036854775807) : takeN (Lib.itoa n) = some n ∧ Lib.itoa n ≠ [] ∧ (Lib.itoa n).length ≤ 21 := by
 rw [Lib.itoa]
 split
 ·rename_i hn
  refine ⟨?_, by simp, ?_⟩
  ·simp only [takeN, if_true]
   rw [takeD_digits true n.natAbs (by rw [if_pos rfl]; omega) (fun _ => by omega), if_pos rfl]
   congr 1; omega
  ·have := nDigits_le n.natAbs (by omega)
   simp [Lib.decDigits_length]; omega
 ·rename_i hn
  obtain ⟨g1, g2, g3, _⟩ := decDigits_spec n.toNat; refine ⟨?_, g3, ?_⟩
  ·cases hd : Lib.decDigits n.toNat with
   | nil => exact absurd hd g3
   | cons c r =>
    have hc : c ≠ 45 := fun e => by have := g1 c (by rw [hd]; simp); subst e; exact absurd this (by decide)
    simp only [takeN]; rw [if_neg hc, ← hd, takeD_digits false n.toNat (by rw [if_neg (by decide)]; omega) (fun h => by cases h), if_neg (by decide)]
    congr 1; omega
  ·have := nDigits_le n.toNat (by omega)
   rw [Lib.decDigits_length]; omega
theorem rbarred_is (c : UInt8) (w : World) :
  Calls Tryz.prog 167 #[.int .u8 c.toNat] w fun e w' => e = .returned (.bool (barB c)) ∧ w = w' := by
 unfold barB; obtain ⟨r, hr⟩ : ∃ r, c.toNat = r := ⟨_, rfl⟩; have hr2 := c.toNat_lt; rw [hr] at hr2 ⊢; clear hr
 by_cases h0 : r = 0
 ·subst h0
  go_enter Tryz.func167, Tryz.ntmps167
  go_wp2; go_ret; exact ⟨rfl, rfl⟩
 have f0 : ((r : Int) == 0) = false := by simp; omega
 by_cases h1 : r = 10
 ·subst h1
  go_enter Tryz.func167, Tryz.ntmps167
  go_wp2; go_ret; exact ⟨rfl, rfl⟩
 have f1 : ((r : Int) == 10) = false := by simp; omega
 by_cases h2 : r = 60
 ·subst h2
  go_enter Tryz.func167, Tryz.ntmps167
  go_wp2; go_ret; exact ⟨rfl, rfl⟩
 have f2 : ((r : Int) == 60) = false := by simp; omega
 by_cases h3 : r = 62
 ·subst h3
  go_enter Tryz.func167, Tryz.ntmps167
  go_wp2; go_ret; exact ⟨rfl, rfl⟩
 have f3 : ((r : Int) == 62) = false := by simp; omega
 have e : (r == 0 || r == 10 || r == 60 || r == 62) = false := by simp; omega
 rw [e]; clear h0 h1 h2 h3 e
 go_enter Tryz.func167, Tryz.ntmps167
 go_wp2; go_ret; exact ⟨rfl, rfl⟩
def minV (s a b c d : UInt8) : Option Int :=
 if digB a = true ∧ digB b = true ∧ digB c = true ∧ digB d = true then some (if s.toNat = 45 then -((digV a * 600 + digV b * 60 + digV c * 10 + digV d : Nat) : Int) else ((digV a * 600 + digV b * 60 + digV c * 10 + digV d : Nat) : Int)) else none
def minR : List UInt8 → Option Int
 | [s, a, b, c, d] => minV s a b c d
 | _ => none
theorem min_read (z : Int) (h0 : -840 ≤ z) (h1 : z ≤ 840) : minR (zoneT z) = some z := by
 obtain ⟨n, hn⟩ : ∃ n, z.natAbs = n := ⟨_, rfl⟩
 have hn840 : n ≤ 840 := by omega
 have e1 := digB_of (n / 60 / 10) (by omega); have e2 := digB_of (n / 60 % 10) (by omega); have e3 := digB_of (n % 60 / 10) (by omega); have e4 := digB_of (n % 60 % 10) (by omega)
 have hz : n / 60 / 10 * 600 + n / 60 % 10 * 60 + n % 60 / 10 * 10 + n % 60 % 10 = n := by omega
 unfold zoneT twoD; rw [hn]; simp only [List.cons_append, List.nil_append]
 show minV _ _ _ _ _ = some z
 unfold minV; rw [e1.1, e1.2, e2.1, e2.2, e3.1, e3.2, e4.1, e4.2, hz]
 by_cases hneg : z < 0
 ·rw [if_pos hneg, if_pos ⟨rfl, rfl, rfl, rfl⟩, if_pos (by decide)]
  congr 1; omega
 ·rw [if_neg hneg, if_pos ⟨rfl, rfl, rfl, rfl⟩, if_neg (by decide)]
  congr 1; omega
def zoneP (s : List UInt8) : Option Int := match minR s with
 | none => none
 | some z => if -840 ≤ z ∧ z ≤ 840 ∧ zoneT z = s then some z else none
theorem zoneP_same (s : List UInt8) : zoneP s = zoneR s := by
 cases e : zoneR s with
 | some z =>
  obtain ⟨h1, h2, h3⟩ := zone_back s z e; unfold zoneP; rw [← h1, min_read z h2 h3]; simp only; rw [if_pos ⟨h2, h3, trivial⟩]
 | none =>
  unfold zoneP
  cases e2 : minR s with
  | none => rfl
  | some z =>
   simp only; rw [if_neg]; rintro ⟨h1, h2, h3⟩; rw [← h3, zone_read z h1 h2] at e
   cases e
def placeL : List Nat := [600, 60, 10, 1]
structure ZTab (w : World) : Prop where
 lt : 6 < w.heap.size
 cell : ∀ k : Nat, k < 4 → w.cell? ⟨6, k, none⟩ = some (.int .i64 ((placeL.getD k 0 : Nat) : Int))
theorem ZTab.keep {w w' : World} (h : ZTab w) (hb : Below w.heap.size w w') : ZTab w' :=
 ⟨Nat.lt_of_lt_of_le h.lt hb.size, fun k hk => (hb.cell (p := ⟨6, k, none⟩) h.lt).trans (h.cell k hk)⟩
def minA (s : List UInt8) : Value := match minR s with
 | none => .tuple #[.int .i64 0, .bool false]
 | some z => .tuple #[.int .i64 z, .bool true]
theorem min_len (s : List UInt8) (h : s.length ≠ 5) : minR s = none := by
 match s, h with
 | [], _ => rfl
 | [_], _ => rfl
 | [_, _], _ => rfl
 | [_, _, _], _ => rfl
 | [_, _, _, _], _ => rfl
 | [_, _, _, _, _], h => exact absurd rfl h
 | _ :: _ :: _ :: _ :: _ :: _ :: _, _ => rfl
theorem min_bad (x : UInt8) (m : List UInt8) (i : Nat) (hi : i < m.length) (h4 : m.length = 4) (h : digB (m.getD i 0) = false) : minR (x :: m) = none := by
 match m, h4, hi, h with
 | [a, b, c, d], _, hi, h =>
  show minV x a b c d = none
  unfold minV; rw [if_neg]; rintro ⟨h1, h2, h3, h5⟩
  obtain rfl | rfl | rfl | rfl : i = 0 ∨ i = 1 ∨ i = 2 ∨ i = 3 := by simp at hi; omega
  ·simp at h; rw [h] at h1; cases h1
  ·simp at h; rw [h] at h2; cases h2
  ·simp at h; rw [h] at h3; cases h3
  ·simp at h; rw [h] at h5; cases h5
def zsum (m : List UInt8) : Nat → Nat
 | 0 => 0
 | i + 1 => zsum m i + digV (m.getD i 0) * placeL.getD i 0
theorem min_good (x : UInt8) (m : List UInt8) (h4 : m.length = 4) (h : ∀ i, i < 4 → digB (m.getD i 0) = true) : minR (x :: m) = some (if x.toNat = 45 then -((zsum m 4 : Nat) : Int) else ((zsum m 4 : Nat) : Int)) := by
 match m, h4, h with
 | [a, b, c, d], _, h =>
  show minV x a b c d = _
  unfold minV
  have e : zsum [a, b, c, d] 4 = digV a * 600 + digV b * 60 + digV c * 10 + digV d := by
   simp [zsum, placeL]
  rw [if_pos ⟨h 0 (by omega), h 1 (by omega), h 2 (by omega), h 3 (by omega)⟩, e]
theorem zsum_le (m : List UInt8) : ∀ i, i ≤ 4 → (∀ j, j < i → digB (m.getD j 0) = true) → zsum m i ≤ 5400 * i
 | 0, _, _ => Nat.le_refl _
 | i + 1, hi, h => by
  have ih := zsum_le m i (by omega) (fun j hj => h j (by omega)); have hd := (digB_iff _ (h i (by omega))).2
  have hp : placeL.getD i 0 ≤ 600 := by
   obtain rfl | rfl | rfl | rfl : i = 0 ∨ i = 1 ∨ i = 2 ∨ i = 3 := by omega
   ·decide
   ·decide
   ·decide
   ·decide
  have hm : digV (m.getD i 0) * placeL.getD i 0 ≤ 9 * 600 := Nat.mul_le_mul (by omega) hp
  show zsum m i + digV (m.getD i 0) * placeL.getD i 0 ≤ _
  omega
set_option maxRecDepth 100000 in
theorem minutes_five (x : UInt8) (m : List UInt8) (h4 : m.length = 4) (w : World) (tab : ZTab w) :
  Calls Tryz.prog 196 #[.string ⟨(x :: m).toArray⟩] w fun e w' => e = .returned (minA (x :: m)) ∧ Below w.heap.size w w' := by
 have RI := hyd (rune_int m); have MB := hyd (fun i hi h => min_bad x m i hi h4 h); have MG := hyd (min_good x m h4); have ZS := hyd (zsum_le m)
 have hsz : (⟨(x :: m).toArray⟩ : ByteArray).size = 5 := by rw [size_toArray, List.length_cons, h4]
 have htz := size_toArray m; have hext : (⟨(x :: m).toArray⟩ : ByteArray).extract 1 5 = ⟨m.toArray⟩ := ext_from (x :: m) 1 5 (by rw [List.length_cons, h4])
 have hx : ∀ h, (⟨(x :: m).toArray⟩ : ByteArray)[0]'h = x := fun _ => rfl
 generalize (⟨(x :: m).toArray⟩ : ByteArray) = s at hsz hext hx ⊢; generalize (⟨m.toArray⟩ : ByteArray) = t at RI htz hext; have hx0 := hx (by omega); have ZT := hyd tab; have it0 := hyd (World.iter_heap w t 0); have bl0 := hyd ((Below.refl w.heap.size w).alloc (Nat.le_refl _) (.stringIter t 0)); clear hx tab
 go_enter Tryz.func196, Tryz.ntmps196
 go_wp2_with fail
 go_loopw [4] (fun v4 wr => ∃ i : Nat, i ≤ 4 ∧ v4 = .int .i64 (zsum m i : Nat) ∧ (∀ j, j < i → digB (m.getD j 0) = true) ∧ wr.heap[w.heap.size]? = some (.stringIter t i) ∧ Below w.heap.size w wr) (fun _ wr => 4 - wr.iterPos w.heap.size)
 case atStart => exact ⟨0, by omega, rfl, fun j hj => absurd hj (Nat.not_lt_zero _), it0.out, bl0.out⟩
 case round =>
  clear it0 bl0; obtain ⟨i, hi, rfl, hdg, hit, hbr⟩ := hrel; have DG := hyd hdg; clear hdg
  by_cases hlt : i < 4
  ·have hnx := fun ty => Lib.run_next_any_at (P := Tryz.prog) wr w.heap.size t i ty hit (by omega)
   obtain ⟨r, k, hr, hk, hr0, hr1, hk1, hkl, hw⟩ := RI.out i (by omega); rw [← hr, ← hk] at hnx; clear hr hk; have HP := hyd (show wr.iterPos w.heap.size = i by simp [World.iterPos, hit]); have hit2 := Lib.iterAt_heap wr w.heap.size t i (i + k) hit; have hbr2 := Lib.below_iterAt hbr (k := w.heap.size) (Nat.le_refl _) t (i + k); generalize wr.iterAt w.heap.size t (i + k) = w3 at hnx hit2 hbr2; clear hit hbr
   by_cases c1 : 48 ≤ r ∧ r ≤ 57
   ·obtain ⟨c1, c2⟩ := c1
    have hlow : k = 1 ∧ r = ((m.getD i 0).toNat : Int) := by
     rcases hw with ⟨_, h1, h2⟩ | ⟨h, _, _⟩
     ·exact ⟨h2, h1⟩
     ·omega
    obtain ⟨rfl, hrb⟩ := hlow; have RD := hyd (show ((digV (m.getD i 0) : Nat) : Int) = r - 48 by unfold digV; omega)
    have DG2 := hyd (show ∀ j, j < i + 1 → digB (m.getD j 0) = true from fun j hj => by
     by_cases e : j = i
     ·subst e; unfold digB; rw [Bool.and_eq_true, decide_eq_true_eq, decide_eq_true_eq]; omega
     ·exact DG.out j (by omega))
    clear hw hrb
    have four : i = 0 ∨ i = 1 ∨ i = 2 ∨ i = 3 := by omega
    rcases four with rfl | rfl | rfl | rfl
    ·have hcell : w3.cell? ⟨6, 0, none⟩ = some (.int .i64 600) := (ZT.out.keep hbr2).cell 0 (by omega)
     have EZ := hyd (show zsum m 1 = zsum m 0 + digV (m.getD 0 0) * 600 from rfl); have Z1 := hyd (zsum_le m 0 (by omega) DG.out); obtain ⟨z, hz⟩ : ∃ z, z = zsum m 0 := ⟨_, rfl⟩; have hz2 := Z1.out; rw [← hz] at hz2 EZ; have E2 := hyd (show (zsum m 1 : Int) = z + (r - 48) * 600 by rw [EZ.out]; have h := RD.out; omega); rw [← hz]; clear hz; go_wp2
     go_roundw
     case rel => exact ⟨1, by omega, by first | (rw [E2.out]; done) | (rw [E2.out]; go_num), DG2.out, hit2, hbr2⟩
     case measure =>
      rw [HP.out, show World.iterPos _ w.heap.size = 0 + 1 by simp [World.iterPos, hit2]]
      omega
    ·have hcell : w3.cell? ⟨6, 1, none⟩ = some (.int .i64 60) := (ZT.out.keep hbr2).cell 1 (by omega)
     have EZ := hyd (show zsum m 2 = zsum m 1 + digV (m.getD 1 0) * 60 from rfl); have Z1 := hyd (zsum_le m 1 (by omega) DG.out); obtain ⟨z, hz⟩ : ∃ z, z = zsum m 1 := ⟨_, rfl⟩; have hz2 := Z1.out; rw [← hz] at hz2 EZ; have E2 := hyd (show (zsum m 2 : Int) = z + (r - 48) * 60 by rw [EZ.out]; have h := RD.out; omega); rw [← hz]; clear hz; go_wp2
     go_roundw
     case rel => exact ⟨2, by omega, by first | (rw [E2.out]; done) | (rw [E2.out]; go_num), DG2.out, hit2, hbr2⟩
     case measure =>
      rw [HP.out, show World.iterPos _ w.heap.size = 1 + 1 by simp [World.iterPos, hit2]]
      omega
    ·have hcell : w3.cell? ⟨6, 2, none⟩ = some (.int .i64 10) := (ZT.out.keep hbr2).cell 2 (by omega)
     have EZ := hyd (show zsum m 3 = zsum m 2 + digV (m.getD 2 0) * 10 from rfl); have Z1 := hyd (zsum_le m 2 (by omega) DG.out); obtain ⟨z, hz⟩ : ∃ z, z = zsum m 2 := ⟨_, rfl⟩; have hz2 := Z1.out; rw [← hz] at hz2 EZ; have E2 := hyd (show (zsum m 3 : Int) = z + (r - 48) * 10 by rw [EZ.out]; have h := RD.out; omega); rw [← hz]; clear hz; go_wp2
     go_roundw
     case rel => exact ⟨3, by omega, by first | (rw [E2.out]; done) | (rw [E2.out]; go_num), DG2.out, hit2, hbr2⟩
     case measure =>
      rw [HP.out, show World.iterPos _ w.heap.size = 2 + 1 by simp [World.iterPos, hit2]]
      omega
    ·have hcell : w3.cell? ⟨6, 3, none⟩ = some (.int .i64 1) := (ZT.out.keep hbr2).cell 3 (by omega)
     have EZ := hyd (show zsum m 4 = zsum m 3 + digV (m.getD 3 0) * 1 from rfl); have Z1 := hyd (zsum_le m 3 (by omega) DG.out); obtain ⟨z, hz⟩ : ∃ z, z = zsum m 3 := ⟨_, rfl⟩; have hz2 := Z1.out; rw [← hz] at hz2 EZ; have E2 := hyd (show (zsum m 4 : Int) = z + (r - 48) * 1 by rw [EZ.out]; have h := RD.out; omega); rw [← hz]; clear hz; go_wp2
     go_roundw
     case rel => exact ⟨4, by omega, by first | (rw [E2.out]; done) | (rw [E2.out]; go_num), DG2.out, hit2, hbr2⟩
     case measure =>
      rw [HP.out, show World.iterPos _ w.heap.size = 3 + 1 by simp [World.iterPos, hit2]]
      omega
   ·have hbad : digB (m.getD i 0) = false := by
     unfold digB
     rcases hw with ⟨_, h1, h2⟩ | ⟨_, _, h⟩
     ·rw [Bool.and_eq_false_iff, decide_eq_false_iff_not, decide_eq_false_iff_not]; omega
     ·have := h i (Nat.le_refl _) (by omega); rw [Bool.and_eq_false_iff, decide_eq_false_iff_not, decide_eq_false_iff_not]; omega
    have NO := hyd (MB.out i (by omega) hbad); clear hw hbad
    by_cases c2 : r < 48
    ·go_wp2
     go_ret2
     exact ⟨by unfold minA; rw [NO.out]; rfl, hbr2⟩
    ·have c3 : 57 < r := by omega
     go_wp2
     go_ret2
     exact ⟨by unfold minA; rw [NO.out]; rfl, hbr2⟩
  ·obtain rfl : i = 4 := by omega
   have hnx := fun ty => Lib.run_next_end_at (P := Tryz.prog) wr w.heap.size t 4 ty hit (by omega)
   have G := hyd (MG.out (fun j hj => DG.out j (by omega))); have Z1 := zsum_le m 4 (by omega) DG.out; generalize zsum m 4 = z at G Z1 ⊢
   by_cases h45 : x.toNat = 45
   ·have f : ((x.toNat : Int) == 45) = true := by simp [h45]
    rw [if_pos h45] at G; clear h45; go_wp2
    go_ret2
    exact ⟨by unfold minA; rw [G.out]; rfl, hbr⟩
   ·have f : ((x.toNat : Int) == 45) = false := by simp; omega
    rw [if_neg h45] at G; clear h45; go_wp2
    go_ret2
    exact ⟨by unfold minA; rw [G.out]; rfl, hbr⟩
theorem minutes_other (l : List UInt8) (h : l.length ≠ 5) (hn : l.length ≤ 1000000) (w : World) :
  Calls Tryz.prog 196 #[.string ⟨l.toArray⟩] w fun e w' => e = .returned (minA l) ∧ Below w.heap.size w w' := by
 have hsz := size_toArray l; have NO := hyd (min_len l h); have MA := hyd (show minA l = .tuple #[.int .i64 0, .bool false] by unfold minA; rw [NO.out]); rw [MA.out]; generalize (⟨l.toArray⟩ : ByteArray) = s at hsz ⊢
 have f : (((l.length : Nat) : Int) != 5) = true := by simp; omega
 clear h
 go_enter Tryz.func196, Tryz.ntmps196
 go_wp2
 go_ret2
 exact ⟨rfl, Below.refl _ _⟩
theorem minutes_is (l : List UInt8) (hn : l.length ≤ 1000000) (w : World) (tab : ZTab w) :
  Calls Tryz.prog 196 #[.string ⟨l.toArray⟩] w fun e w' => e = .returned (minA l) ∧ Below w.heap.size w w' := by
 by_cases h : l.length = 5
 ·cases l with
  | nil => cases h
  | cons x m => exact minutes_five x m (by simpa using h) w tab
 ·exact minutes_other l h hn w
def zoneA (s : List UInt8) : Value := match zoneR s with
 | none => .tuple #[.int .i64 0, .int .i64 4]
 | some z => .tuple #[.int .i64 z, .int .i64 0]
theorem zoneA_none {s : List UInt8} (h : zoneP s = none) : zoneA s = .tuple #[.int .i64 0, .int .i64 4] := by
 rw [zoneP_same] at h; unfold zoneA; rw [h]
theorem zoneA_some {s : List UInt8} {z : Int} (h : zoneP s = some z) : zoneA s = .tuple #[.int .i64 z, .int .i64 0] := by
 rw [zoneP_same] at h; unfold zoneA; rw [h]
set_option maxRecDepth 100000 in
theorem Zone_is (l : List UInt8) (hn : l.length ≤ 1000000) (w : World) (tab : Tab w) (zt : ZTab w) :
  Calls Tryz.prog 181 #[.string ⟨l.toArray⟩] w fun e w' => e = .returned (zoneA l) ∧ Below w.heap.size w w' := by
 have c1 := minutes_is l hn w zt; have TAB := hyd tab; clear tab zt
 cases hm : minR l with
 | none =>
  have A := zoneA_none (show zoneP l = none by unfold zoneP; rw [hm])
  have M : minA l = .tuple #[.int .i64 0, .bool false] := by unfold minA; rw [hm]
  rw [M] at c1; rw [A]; clear A M hm
  go_enter Tryz.func181, Tryz.ntmps181
  go_wp2_with fail
  refine c1.mono ?_; rintro e w1 ⟨rfl, b1⟩; go_wp2
  go_ret2
  exact ⟨rfl, b1⟩
 | some z =>
  have M : minA l = .tuple #[.int .i64 z, .bool true] := by unfold minA; rw [hm]
  rw [M] at c1; clear M
  have c2 := fun w => rightZone_is z w
  by_cases hz : -840 ≤ z ∧ z ≤ 840
  ·rw [decide_eq_true hz.1, decide_eq_true hz.2] at c2
   have c3 := fun w t => zoneText_is z hz.1 hz.2 w t
   by_cases ht : zoneT z = l
   ·have A := zoneA_some (show zoneP l = some z by unfold zoneP; rw [hm]; simp only; rw [if_pos ⟨hz.1, hz.2, ht⟩])
    have f : (zoneT z == l) = true := by rw [ht]; simp
    rw [A]; generalize zoneT z = t at c3 f; clear A hm ht hz
    go_enter Tryz.func181, Tryz.ntmps181
    go_wp2_with fail
    refine c1.mono ?_; rintro e w1 ⟨rfl, b1⟩
    go_wp2_with fail
    refine (c2 _).mono ?_; rintro e w2 ⟨rfl, rfl⟩
    go_wp2_with fail
    refine (c3 _ (TAB.out.keep b1)).mono ?_; rintro e w3 ⟨rfl, b3⟩; go_wp2
    go_ret2
    exact ⟨rfl, b1.trans (b3.mono b1.size)⟩
   ·have A := zoneA_none (show zoneP l = none by unfold zoneP; rw [hm]; simp only; rw [if_neg (fun h => ht h.2.2)])
    have f : (zoneT z == l) = false := by rw [beq_eq_false_iff_ne]; exact ht
    rw [A]; generalize zoneT z = t at c3 f; clear A hm ht hz
    go_enter Tryz.func181, Tryz.ntmps181
    go_wp2_with fail
    refine c1.mono ?_; rintro e w1 ⟨rfl, b1⟩
    go_wp2_with fail
    refine (c2 _).mono ?_; rintro e w2 ⟨rfl, rfl⟩
    go_wp2_with fail
    refine (c3 _ (TAB.out.keep b1)).mono ?_; rintro e w3 ⟨rfl, b3⟩; go_wp2
    go_ret2
    exact ⟨rfl, b1.trans (b3.mono b1.size)⟩
  ·have A := zoneA_none (show zoneP l = none by unfold zoneP; rw [hm]; simp only; rw [if_neg (fun h => hz ⟨h.1, h.2.1⟩)])
   have e2 : (decide (-840 ≤ z) && decide (z ≤ 840)) = false := by
    rw [Bool.and_eq_false_iff, decide_eq_false_iff_not, decide_eq_false_iff_not]; omega
   rw [e2] at c2; rw [A]; clear A hm hz e2
   go_enter Tryz.func181, Tryz.ntmps181
   go_wp2_with fail
   refine c1.mono ?_; rintro e w1 ⟨rfl, b1⟩
   go_wp2_with fail
   refine (c2 _).mono ?_; rintro e w2 ⟨rfl, rfl⟩; go_wp2
   go_ret2
   exact ⟨rfl, b1⟩
theorem rTake_minus0 (r : List UInt8) (hl : r.length ≤ 1000000) (w : World) :
  Calls Tryz.prog 111 #[.string ⟨(45 :: 48 :: r).toArray⟩] w fun e w' => e = .returned (.tuple #[.int .i64 0, .int .i64 4]) ∧ w = w' := by
 have hi : ((⟨(45 :: 48 :: r).toArray⟩ : ByteArray)[0]'(by simp [ByteArray.size])).toNat = 45 := rfl; have hi2 : ((⟨(48 :: r).toArray⟩ : ByteArray)[0]'(by simp [ByteArray.size])).toNat = 48 := rfl; have hc := cut_one (48 :: r); rw [List.length_cons] at hc
 by_cases h19 : 19 < r.length + 1
 ·have hdl : decide ((19 : Int) < (r.length : Int) + 1) = true := by simp; omega
  go_enter Tryz.func111, Tryz.ntmps111
  go_wp2
  go_ret2
  exact ⟨rfl, rfl⟩
 ·have hdl : decide ((19 : Int) < (r.length : Int) + 1) = false := by simp; omega
  by_cases h1 : 1 < r.length + 1
  ·have hdl2 : decide ((1 : Int) < (r.length : Int) + 1) = true := by simp; omega
   go_enter Tryz.func111, Tryz.ntmps111
   go_wp2
   go_ret2
   exact ⟨rfl, rfl⟩
  ·have hdl2 : decide ((1 : Int) < (r.length : Int) + 1) = false := by simp; omega
   go_enter Tryz.func111, Tryz.ntmps111
   go_wp2
   go_ret2
   exact ⟨rfl, rfl⟩
theorem rTake_plus0 (c : UInt8) (r : List UInt8) (hl : r.length ≤ 1000000) (w : World) :
  Calls Tryz.prog 111 #[.string ⟨(48 :: c :: r).toArray⟩] w fun e w' => e = .returned (.tuple #[.int .i64 0, .int .i64 4]) ∧ w = w' := by
 have hi2 : ((⟨(48 :: c :: r).toArray⟩ : ByteArray)[0]'(by simp [ByteArray.size])).toNat = 48 := rfl
 by_cases h19 : 19 < r.length + 1 + 1
 ·have hdl : decide ((19 : Int) < (r.length : Int) + 1 + 1) = true := by simp; omega
  go_enter Tryz.func111, Tryz.ntmps111
  go_wp2
  go_ret2
  exact ⟨rfl, rfl⟩
 ·have hdl : decide ((19 : Int) < (r.length : Int) + 1 + 1) = false := by simp; omega
  have hdl2 : decide ((1 : Int) < (r.length : Int) + 1 + 1) = true := by simp; omega
  go_enter Tryz.func111, Tryz.ntmps111
  go_wp2
  go_ret2
  exact ⟨rfl, rfl⟩
theorem rTake_zero (w : World) :
  Calls Tryz.prog 111 #[.string ⟨#[48]⟩] w fun e w' => e = .returned (.tuple #[.int .i64 0, .int .i64 0]) ∧ w = w' := by
 have hi2 : ((⟨#[48]⟩ : ByteArray)[0]'(by decide)).toNat = 48 := rfl
 go_enter Tryz.func111, Tryz.ntmps111
 go_wp2_with fail
 refine wp_loop_rounds 2 ?_; rw [rounds_succ]
 go_wp2_with fail
 rw [rounds_succ]; go_wp2
 go_ret2
 exact ⟨rfl, rfl⟩
theorem rTake_mlong (e : UInt8) (t : List UInt8) (hl : t.length ≤ 1000000) (h : 19 ≤ t.length) (w : World) :
  Calls Tryz.prog 111 #[.string ⟨(45 :: e :: t).toArray⟩] w fun e w' => e = .returned (.tuple #[.int .i64 0, .int .i64 4]) ∧ w = w' := by
 have hi : ((⟨(45 :: e :: t).toArray⟩ : ByteArray)[0]'(by simp [ByteArray.size])).toNat = 45 := rfl; have hc := cut_one (e :: t); rw [List.length_cons] at hc
 have hdl : decide ((19 : Int) < (t.length : Int) + 1) = true := by simp; omega
 go_enter Tryz.func111, Tryz.ntmps111
 go_wp2
 go_ret2
 exact ⟨rfl, rfl⟩
theorem rTake_plong (e : UInt8) (t : List UInt8) (hl : t.length ≤ 1000000) (h : 19 ≤ t.length) (h45 : e ≠ 45) (w : World) :
  Calls Tryz.prog 111 #[.string ⟨(e :: t).toArray⟩] w fun e w' => e = .returned (.tuple #[.int .i64 0, .int .i64 4]) ∧ w = w' := by
 have hi2 : ((⟨(e :: t).toArray⟩ : ByteArray)[0]'(by simp [ByteArray.size])).toNat = e.toNat := rfl
 have h45b : ((e.toNat : Int) == 45) = false := by
  have : ¬ e.toNat = 45 := fun h => h45 (UInt8.toNat.inj h)
  simp; omega
 clear h45
 have hdl : decide ((19 : Int) < (t.length : Int) + 1) = true := by simp; omega
 go_enter Tryz.func111, Tryz.ntmps111
 go_wp2
 go_ret2
 exact ⟨rfl, rfl⟩
theorem takeD_long (m : Bool) (e : UInt8) (t : List UInt8) (h : 19 ≤ t.length) (h48 : e ≠ 48) : takeD m (e :: t) = none := by
 unfold takeD; rw [if_pos]
 by_cases hd : ∀ i, i < (e :: t).length → isD ((e :: t).getD i 0)
 ·right; right; right
  have := decL_big e t (hd 0 (by simp)) h48 h
  split <;> omega
 ·exact .inr (.inr (.inl hd))
theorem rTake_any (l : List UInt8) (hl : l.length ≤ 1000000) (h : l ≠ []) (w : World) :
  Calls Tryz.prog 111 #[.string ⟨l.toArray⟩] w fun e w' => e = .returned (takeV l) ∧ Below w.heap.size w w' := by
 match l, h, hl with
 | c :: r, _, hl =>
  by_cases h45 : c = 45
  ·subst h45
   unfold takeV; rw [show takeN (45 :: r) = takeD true r by simp [takeN]]
   match r, hl with
   | [], _ =>
    refine (rTake_dash w).mono ?_; rintro e w' ⟨rfl, rfl⟩; exact ⟨rfl, Below.refl _ _⟩
   | c :: r, hl =>
    by_cases h48 : c = 48
    ·subst h48
     refine (rTake_minus0 r (by simp at hl; omega) w).mono ?_; rintro e w' ⟨rfl, rfl⟩
     have : takeD true (48 :: r) = none := by unfold takeD; rw [if_pos]; exact .inr (.inl ⟨rfl, .inr rfl⟩)
     rw [this]; exact ⟨rfl, Below.refl _ _⟩
    ·by_cases h19 : 19 ≤ r.length
     ·refine (rTake_mlong c r (by simp at hl; omega) h19 w).mono ?_
      rintro e w' ⟨rfl, rfl⟩; rw [takeD_long true c r h19 h48]; exact ⟨rfl, Below.refl _ _⟩
     ·refine (rTake_minus c r (by omega) h48 w).mono ?_
      intro e w' hp; obtain ⟨a, b⟩ := hp.takeD (by simp) (fun h => h48 h.1); exact ⟨b, a⟩
  ·unfold takeV
   rw [show takeN (c :: r) = takeD false (c :: r) by simp [takeN, h45]]
   by_cases h48 : c = 48
   ·subst h48
    match r, hl with
    | [], _ =>
     refine (rTake_zero w).mono ?_; rintro e w' ⟨rfl, rfl⟩
     have : takeD false [48] = some 0 := by decide
     rw [this]; exact ⟨rfl, Below.refl _ _⟩
    | c :: r, hl =>
     refine (rTake_plus0 c r (by simp at hl; omega) w).mono ?_; rintro e w' ⟨rfl, rfl⟩
     have : takeD false (48 :: c :: r) = none := by unfold takeD; rw [if_pos]; exact .inr (.inl ⟨rfl, .inl (by simp)⟩)
     rw [this]; exact ⟨rfl, Below.refl _ _⟩
   ·by_cases h19 : 19 ≤ r.length
    ·refine (rTake_plong c r (by simp at hl; omega) h19 h45 w).mono ?_
     rintro e w' ⟨rfl, rfl⟩; rw [takeD_long false c r h19 h48]; exact ⟨rfl, Below.refl _ _⟩
    ·refine (rTake_plus c r (by omega) h48 h45 w).mono ?_
     intro e w' hp; obtain ⟨a, b⟩ := hp.takeD (by simp) (fun h => h48 h.1); exact ⟨b, a⟩
def tv (l : List UInt8) : Int × Int := if l = [] then (0, 3) else match takeN l with
 | none => (0, 4)
 | some v => (v, 0)
theorem takeV_tv (l : List UInt8) (h : l ≠ []) : takeV l = .tuple #[.int .i64 (tv l).1, .int .i64 (tv l).2] := by
 unfold takeV tv; rw [if_neg h]; cases takeN l <;> rfl
theorem Take_all (l : List UInt8) (hl : l.length ≤ 1000000) (w : World) :
  Calls Tryz.prog 180 #[.string ⟨l.toArray⟩] w fun e w' => e = .returned (.tuple #[.int .i64 (tv l).1, .int .i64 (tv l).2]) ∧ Below w.heap.size w w' := by
 by_cases h : l = []
 ·subst h
  refine (Take_empty w).mono ?_; rintro e w' ⟨rfl, rfl⟩; exact ⟨rfl, Below.refl _ _⟩
 ·rw [← takeV_tv l h]; exact Take_any l hl h w
theorem rTake_all (l : List UInt8) (hl : l.length ≤ 1000000) (w : World) :
  Calls Tryz.prog 111 #[.string ⟨l.toArray⟩] w fun e w' => e = .returned (.tuple #[.int .i64 (tv l).1, .int .i64 (tv l).2]) ∧ Below w.heap.size w w' := by
 by_cases h : l = []
 ·subst h
  refine (rTake_empty w).mono ?_; rintro e w' ⟨rfl, rfl⟩; exact ⟨rfl, Below.refl _ _⟩
 ·rw [← takeV_tv l h]; exact rTake_any l hl h w
structure T7 (w : World) : Prop where
 t6 : T6 w
 zon : ZTab w
 max : ∃ m : Int, w.cell? ⟨0, 0, none⟩ = some (.int .i64 m)
theorem T7.keep {w w' : World} (h : T7 w) (hb : Below w.heap.size w w') : T7 w' := by
 obtain ⟨m, hm⟩ := h.max; exact ⟨h.t6.keep hb, h.zon.keep hb, m, (hb.cell (p := ⟨0, 0, none⟩) (World.block_lt_of_cell? w _ hm)).trans hm⟩
theorem Cut_is (l sep : List UInt8) (hn : l.length ≤ 1000000) (w : World) (tab : T7 w) :
  Calls Tryz.prog 160 #[.string ⟨l.toArray⟩, .string ⟨sep.toArray⟩] w fun e w' => e = .returned (.tuple #[.string ⟨(Lib.cut l sep).1.toArray⟩, .string ⟨(Lib.cut l sep).2.1.toArray⟩, .bool (Lib.cut l sep).2.2]) ∧ Below w.heap.size w w' := by
 obtain ⟨m, hm⟩ := tab.max; refine (Tryz.strings_Cut ⟨l.toArray⟩ ⟨sep.toArray⟩ m w (by rw [size_toArray]; omega) hm).mono ?_; rintro e w' ⟨rfl, n, rfl⟩; exact ⟨rfl, _root_.Go.below_drewN (Below.refl _ _) n⟩
theorem cut_len (l sep : List UInt8) : (Lib.cut l sep).1.length ≤ l.length ∧ (Lib.cut l sep).2.1.length ≤ l.length := by
 unfold Lib.cut
 split
 ·simp only [List.length_take, List.length_drop]; omega
 ·simp
abbrev id0 : Array Value := #[.string ⟨#[]⟩, .string ⟨#[]⟩, .int .i64 0, .int .i64 0]
theorem infoId : (Tryz.prog.info? 70).map (·.size) = some 4 := by kernel_rfl
theorem infoId4 (a b c d : Value) : (Tryz.prog.info? 70).map (·.size) = some (#[a, b, c, d] : Array Value).size := infoId
theorem sizeId4 (a b c d e f g h : Value) : (#[a, b, c, d] : Array Value).size = (#[e, f, g, h] : Array Value).size := rfl
theorem one_id0 : id0.all (·.oneCell') = true := by kernel_rfl
theorem results_idt {fn : Func} (h : fn.results = #[.cell 2 70, .tmp 3]) (tmps : Array Value) (w : World) (g : Nat) (cs : Array Value) (fr : Nat × Nat) (x : Value)
  (hp : tmps.getD 2 undef = .pointer (some ⟨g, 0, none⟩)) (hx : tmps.getD 3 undef = x) (hg : w.heap[g]? = some (.cells cs 70 fr)) (hn : cs.size = 4) :
  (results fn tmps).run Tryz.prog w = .ok (.tuple #[.agg cs, x]) w := by
 rw [results_cell_tmp h, hp, hx]; have e : (asAddr (.pointer (some ⟨g, 0, none⟩))).run Tryz.prog w = .ok ⟨g, 0, none⟩ w := rfl; rw [e]; simp only [Result.andThen_ok]; rw [run_loadVar_row w g 70 70 cs fr _ hg Tryz.underlying70 rfl (by rw [infoId, hn])]
 rfl
def partsG (f1 f2 f3 : Bool) (a1 a2 a3 b3 : List UInt8) : Option Idt :=
 if f1 = true ∧ f2 = true ∧ f3 = true then
  match takeN a3 with
  | none => none
  | some v => match zoneR b3 with
   | none => none
   | some z => some ⟨Lib.trimSuffix a1 [32], a2, v, z⟩
 else none
def optV (o : Option Idt) : Value := match o with
 | none => .tuple #[.agg id0, .bool false]
 | some i => .tuple #[idtV i, .bool true]
theorem tv_none {l : List UInt8} (h : takeN l = none) : ((tv l).2 == 0) = false ∧ ((tv l).2 != 0) = true := by
 unfold tv
 split
 ·decide
 ·rw [h]; decide
theorem tv_some {l : List UInt8} {v : Int} (h : takeN l = some v) : tv l = (v, 0) := by
 unfold tv
 split
 ·rename_i e; subst e; cases h
 ·rw [h]
set_option maxRecDepth 100000 in
theorem parts_is (l : List UInt8) (hn : l.length ≤ 1000000) (w : World) (tab : T7 w) :
  Calls Tryz.prog 162 #[.string ⟨l.toArray⟩] w fun e w' => e = .returned (optV (partsL takeN l)) ∧ Below w.heap.size w w' := by
 have c1 := fun w t => Cut_is l [60] hn w t
 have n1 := (cut_len l [60]).2
 have c2 := fun w t => Cut_is (Lib.cut l [60]).2.1 [62, 32] (by omega) w t
 have n2 := (cut_len (Lib.cut l [60]).2.1 [62, 32]).2
 have c3 := fun w t => Cut_is (Lib.cut (Lib.cut l [60]).2.1 [62, 32]).2.1 [32] (by omega) w t
 have n3 := cut_len (Lib.cut (Lib.cut l [60]).2.1 [62, 32]).2.1 [32]; have n0 := (cut_len l [60]).1; have E : partsL takeN l = partsG (Lib.cut l [60]).2.2 (Lib.cut (Lib.cut l [60]).2.1 [62, 32]).2.2 (Lib.cut (Lib.cut (Lib.cut l [60]).2.1 [62, 32]).2.1 [32]).2.2 (Lib.cut l [60]).1 (Lib.cut (Lib.cut l [60]).2.1 [62, 32]).1 (Lib.cut (Lib.cut (Lib.cut l [60]).2.1 [62, 32]).2.1 [32]).1 (Lib.cut (Lib.cut (Lib.cut l [60]).2.1 [62, 32]).2.1 [32]).2.1 := rfl; rw [E]; clear E; generalize Lib.cut (Lib.cut (Lib.cut l [60]).2.1 [62, 32]).2.1 [32] = p3 at c3 n3 ⊢; generalize Lib.cut (Lib.cut l [60]).2.1 [62, 32] = p2 at c2 n2 c3 n3 ⊢
 generalize Lib.cut l [60] = p1 at *
 obtain ⟨a1, b1, f1⟩ := p1; obtain ⟨a2, b2, f2⟩ := p2; obtain ⟨a3, b3, f3⟩ := p3; simp only at c1 c2 c3 n0 n1 n2 n3 ⊢
 have cT := fun w => Take_all a3 (by omega) w
 have cZ := fun w t => Zone_is b3 (by omega) w t
 have cS := fun w => Tryz.strings_TrimSuffix ⟨a1.toArray⟩ ⟨[32].toArray⟩ w (by rw [size_toArray]; omega)
 have eS : Lib.trimSuffix (⟨a1.toArray⟩ : ByteArray).data.toList (⟨[32].toArray⟩ : ByteArray).data.toList = Lib.trimSuffix a1 [32] := rfl; rw [eS] at cS; obtain ⟨R, hR⟩ : ∃ R, R = optV (partsG f1 f2 f3 a1 a2 a3 b3) := ⟨_, rfl⟩; rw [← hR]; have HR := hyd hR; clear hR; generalize (⟨l.toArray⟩ : ByteArray) = sl at c1 ⊢; generalize (⟨a1.toArray⟩ : ByteArray) = sa1 at c1 cS; generalize (⟨b1.toArray⟩ : ByteArray) = sb1 at c1 c2; generalize (⟨b2.toArray⟩ : ByteArray) = sb2 at c2 c3; have B0 := hyd ((Below.refl w.heap.size w).alloc (Nat.le_refl _) (.cells id0 70)); have T0 := hyd (tab.keep B0.out); have N0 := hyd (heap_alloc_new w (.cells id0 70)); have S0 := hyd (show (w.alloc (.cells id0 70)).heap.size = w.heap.size + 1 by simp); clear tab n0 n1 n2 n3 hn eS
 go_enter Tryz.func162, Tryz.ntmps162
 go_wp2_with fail
 refine (c1 _ T0.out).mono ?_; rintro e w1 ⟨rfl, d1⟩; have T1 := hyd (T0.out.keep d1)
 go_wp2_with fail
 refine (c2 _ T1.out).mono ?_; rintro e w2 ⟨rfl, d2⟩; have T2 := hyd (T1.out.keep d2)
 go_wp2_with fail
 refine (c3 _ T2.out).mono ?_; rintro e w3 ⟨rfl, d3⟩; have T3 := hyd (T2.out.keep d3); have d13 := (d1.trans (d2.mono d1.size)).trans (d3.mono (d1.trans (d2.mono d1.size)).size); have D3 := hyd (B0.out.trans (d13.mono B0.out.size)); have N3 := hyd ((d13.block w.heap.size (by rw [S0.out]; omega)).trans N0.out); have G3 := hyd (show w.heap.size < w3.heap.size by have := d13.size; rw [S0.out] at this; omega); clear c1 c2 c3 d1 d2 d3 d13 T0 T1 T2 S0 N0 B0
 cases f1 with
 | false =>
  have HV := hyd (show R = .tuple #[.agg id0, .bool false] by rw [HR.out]; rfl)
  go_wp2_with (first
   | (with_reducible refine wpList_store_row rfl 70 _ _ rfl w.heap.size id0 rfl rfl 70 id0 N3.out (infoId4 _ _ _ _) (sizeId4 _ _ _ _ _ _ _ _) one_id0 ?_)
   | fail)
  refine bodyPost_ret (results_idt Tryz.results162 _ _ w.heap.size id0 (0, 0) _ rfl rfl (setRow_heap _ w.heap.size id0 id0 _ (0, 0) N3.out) rfl) rfl ⟨by rw [HV.out]; rfl, below_setRow D3.out (Nat.le_refl _) _⟩
 | true =>
  cases f2 with
  | false =>
   have HV := hyd (show R = .tuple #[.agg id0, .bool false] by rw [HR.out]; rfl)
   go_wp2_with (first
    | (with_reducible refine wpList_store_row rfl 70 _ _ rfl w.heap.size id0 rfl rfl 70 id0 N3.out (infoId4 _ _ _ _) (sizeId4 _ _ _ _ _ _ _ _) one_id0 ?_)
    | fail)
   refine bodyPost_ret (results_idt Tryz.results162 _ _ w.heap.size id0 (0, 0) _ rfl rfl (setRow_heap _ w.heap.size id0 id0 _ (0, 0) N3.out) rfl) rfl ⟨by rw [HV.out]; rfl, below_setRow D3.out (Nat.le_refl _) _⟩
  | true =>
   cases f3 with
   | false =>
    have HV := hyd (show R = .tuple #[.agg id0, .bool false] by rw [HR.out]; rfl)
    go_wp2_with (first
     | (with_reducible refine wpList_store_row rfl 70 _ _ rfl w.heap.size id0 rfl rfl 70 id0 N3.out (infoId4 _ _ _ _) (sizeId4 _ _ _ _ _ _ _ _) one_id0 ?_)
     | fail)
    refine bodyPost_ret (results_idt Tryz.results162 _ _ w.heap.size id0 (0, 0) _ rfl rfl (setRow_heap _ w.heap.size id0 id0 _ (0, 0) N3.out) rfl) rfl ⟨by rw [HV.out]; rfl, below_setRow D3.out (Nat.le_refl _) _⟩
   | true =>
    go_wp2_with fail
    refine (cT _).mono ?_; rintro e w4 ⟨rfl, d4⟩; have D4 := hyd (D3.out.trans (d4.mono D3.out.size)); have N4 := hyd ((d4.block w.heap.size G3.out).trans N3.out); have G4 := hyd (Nat.lt_of_lt_of_le G3.out d4.size); have T4 := hyd (T3.out.keep d4); clear d4 cT D3 N3 G3 T3
    cases ht : takeN a3 with
    | none =>
     obtain ⟨u1, u2⟩ := tv_none ht; have HV := hyd (show R = .tuple #[.agg id0, .bool false] by rw [HR.out]; unfold partsG; rw [if_pos ⟨rfl, rfl, rfl⟩, ht]; rfl); generalize (tv a3).2 = ev at u1 u2 ⊢; generalize (tv a3).1 = vv; clear ht
     go_wp2_with (first
      | (with_reducible refine wpList_store_row rfl 70 _ _ rfl w.heap.size id0 rfl rfl 70 id0 N4.out (infoId4 _ _ _ _) (sizeId4 _ _ _ _ _ _ _ _) one_id0 ?_)
      | fail)
     refine bodyPost_ret (results_idt Tryz.results162 _ _ w.heap.size id0 (0, 0) _ rfl rfl (setRow_heap _ w.heap.size id0 id0 _ (0, 0) N4.out) rfl) rfl ⟨by rw [HV.out]; rfl, below_setRow D4.out (Nat.le_refl _) _⟩
    | some v =>
     rw [tv_some ht]; have HR2 := hyd (show R = optV (match zoneR b3 with | none => none | some z => some ⟨Lib.trimSuffix a1 [32], a2, v, z⟩) by rw [HR.out]; unfold partsG; rw [if_pos ⟨rfl, rfl, rfl⟩, ht]); clear ht
     go_wp2_with fail
     refine (cZ _ T4.out.t6.pow T4.out.zon).mono ?_; rintro e w5 ⟨rfl, d5⟩; have D5 := hyd (D4.out.trans (d5.mono D4.out.size)); have N5 := hyd ((d5.block w.heap.size G4.out).trans N4.out); have G5 := hyd (Nat.lt_of_lt_of_le G4.out d5.size); clear d5 cZ D4 N4 G4 T4; unfold zoneA
     cases hz : zoneR b3 with
     | none =>
      have HV := hyd (show R = .tuple #[.agg id0, .bool false] by rw [HR2.out, hz]; rfl); clear hz
      go_wp2_with (first
       | (with_reducible refine wpList_store_row rfl 70 _ _ rfl w.heap.size id0 rfl rfl 70 id0 N5.out (infoId4 _ _ _ _) (sizeId4 _ _ _ _ _ _ _ _) one_id0 ?_)
       | fail)
      refine bodyPost_ret (results_idt Tryz.results162 _ _ w.heap.size id0 (0, 0) _ rfl rfl (setRow_heap _ w.heap.size id0 id0 _ (0, 0) N5.out) rfl) rfl ⟨by rw [HV.out]; rfl, below_setRow D5.out (Nat.le_refl _) _⟩
     | some z =>
      have hV : R = .tuple #[.agg #[.string ⟨(Lib.trimSuffix a1 [32]).toArray⟩, .string ⟨a2.toArray⟩, .int .i64 v, .int .i64 z], .bool true] := by rw [HR2.out, hz]; rfl
      clear hz; generalize (⟨(Lib.trimSuffix a1 [32]).toArray⟩ : ByteArray) = st at cS hV; generalize (⟨a2.toArray⟩ : ByteArray) = sa2 at hV ⊢; have HV := hyd hV; clear hV
      have one : (#[Value.string st, .string sa2, .int .i64 v, .int .i64 z] : Array Value).all (·.oneCell') = true := by simp [Value.oneCell']
      go_wp2_with fail
      refine (cS _).mono ?_; rintro e w6 ⟨rfl, rfl⟩
      go_wp2_with (first
       | (with_reducible refine wpList_store_row rfl 70 _ _ rfl w.heap.size #[.string st, .string sa2, .int .i64 v, .int .i64 z] rfl rfl 70 id0 N5.out (infoId4 _ _ _ _) (sizeId4 _ _ _ _ _ _ _ _) one ?_)
       | fail)
      refine bodyPost_ret (results_idt Tryz.results162 _ _ w.heap.size _ (0, 0) _ rfl rfl (setRow_heap _ w.heap.size id0 _ _ (0, 0) N5.out) rfl) rfl ⟨by rw [HV.out]; rfl, below_setRow D5.out (Nat.le_refl _) _⟩
theorem lt_heap {w : World} {g : Nat} {o : Obj} (h : w.heap[g]? = some o) : g < w.heap.size := (Array.getElem?_eq_some_iff.1 h).1
theorem suffix_len (l p : List UInt8) : (Lib.trimSuffix l p).length ≤ l.length := by
 unfold Lib.trimSuffix
 split
 ·rw [List.length_take]; omega
 ·exact Nat.le_refl _
theorem parts_len (l : List UInt8) (i : Idt) (h : partsL takeN l = some i) : i.name.length ≤ l.length ∧ i.email.length ≤ l.length := by
 unfold partsL at h
 split at h
 ·split at h
  ·cases h
  ·split at h
   ·cases h
   ·cases h
    have a := (cut_len l [60]).1; have b := (cut_len l [60]).2; have c := (cut_len (Lib.cut l [60]).2.1 [62, 32]).1; have d := suffix_len (Lib.cut l [60]).1 [32]; exact ⟨Nat.le_trans d a, Nat.le_trans c b⟩
 ·cases h
def idtA (o : Option Idt) : Value := match o with
 | none => .tuple #[.agg id0, .int .i64 4]
 | some i => .tuple #[idtV i, .int .i64 0]
theorem cells4 {w : World} {g : Nat} {a b c d : Value} {t : TypeId} (h : w.heap[g]? = some (.cells #[a, b, c, d] t (0, 0))) :
  w.cell? ⟨g, 0, none⟩ = some a ∧ w.cell? ⟨g, 1, none⟩ = some b ∧ w.cell? ⟨g, 2, none⟩ = some c ∧ w.cell? ⟨g, 3, none⟩ = some d :=
 ⟨by rw [Lib.cell_of_heap h]; rfl, by rw [Lib.cell_of_heap h]; rfl, by rw [Lib.cell_of_heap h]; rfl, by rw [Lib.cell_of_heap h]; rfl⟩
set_option maxRecDepth 100000 in
theorem Parse_is (l : List UInt8) (hn : l.length ≤ 1000000) (w : World) (tab : T7 w) :
  Calls Tryz.prog 138 #[.string ⟨l.toArray⟩] w fun e w' => e = .returned (idtA (parseP Lib.itoa takeN l)) ∧ Below w.heap.size w w' := by
 have B0 := hyd ((Below.refl w.heap.size w).alloc (Nat.le_refl _) (.cells id0 70)); have cP := parts_is l hn _ (tab.keep B0.out); have T0 := hyd (tab.keep B0.out); have N0 := hyd (heap_alloc_new w (.cells id0 70)); have S0 := hyd (show (w.alloc (.cells id0 70)).heap.size = w.heap.size + 1 by simp); obtain ⟨R, hR⟩ : ∃ R, R = idtA (parseP Lib.itoa takeN l) := ⟨_, rfl⟩; rw [← hR]
 cases hp : partsL takeN l with
 | none =>
  have HV := hyd (show R = .tuple #[.agg id0, .int .i64 4] by rw [hR]; unfold parseP; rw [hp]; rfl); rw [hp] at cP; unfold optV at cP; clear hR hp tab hn
  go_enter Tryz.func138, Tryz.ntmps138
  go_wp2_with fail
  refine cP.mono ?_; rintro e w1 ⟨rfl, d1⟩; have N1 := hyd ((d1.block w.heap.size (by rw [S0.out]; omega)).trans N0.out); have G1 := hyd (show w.heap.size < w1.heap.size by have := d1.size; rw [S0.out] at this; omega); have D1 := hyd (B0.out.trans (d1.mono B0.out.size))
  have N2 := hyd (show ((w1.alloc (.cells id0 70)).setRow w1.heap.size id0).heap[w.heap.size]? = some (.cells id0 70 (0, 0)) by
   have h := (below_setRow (B := w1.heap.size) ((Below.refl w1.heap.size w1).alloc (Nat.le_refl _) (.cells id0 70)) (Nat.le_refl _) id0)
   exact (h.block _ G1.out).trans N1.out)
  have D2 := hyd (below_setRow (g := w1.heap.size) ((D1.out).alloc D1.out.size (.cells id0 70)) D1.out.size id0); clear d1 cP
  go_wp2_with (first
   | (with_reducible refine wpList_store_row rfl 70 (.tmp 4) (.tmp 9) rfl w1.heap.size id0 rfl rfl 70 id0 (heap_alloc_new w1 _) (infoId4 _ _ _ _) (sizeId4 _ _ _ _ _ _ _ _) one_id0 ?_)
   | (with_reducible refine wpList_store_row rfl 70 (.tmp 2) (.tmp 24) rfl w.heap.size id0 rfl rfl 70 id0 N2.out (infoId4 _ _ _ _) (sizeId4 _ _ _ _ _ _ _ _) one_id0 ?_)
   | fail)
  refine bodyPost_ret (results_idt Tryz.results138 _ _ w.heap.size id0 (0, 0) _ rfl rfl (setRow_heap _ w.heap.size id0 id0 _ (0, 0) N2.out) rfl) rfl ⟨by rw [HV.out]; rfl, below_setRow D2.out (Nat.le_refl _) _⟩
 | some i =>
  obtain ⟨k1, k2⟩ := parts_len l i hp
  have cR := fun w t => Right_is i (by omega) (by omega) w t
  have cQ := fun w t => Print_is i (by omega) (by omega) w t
  rw [hp] at cP; unfold optV idtV at cP; simp only at cP
  have hE : R = idtA (if rightI i = true ∧ printI Lib.itoa i = l then some i else none) := by rw [hR]; unfold parseP; rw [hp]
  have HE := hyd hE; have IV := hyd (show idtV i = .agg #[.string ⟨i.name.toArray⟩, .string ⟨i.email.toArray⟩, .int .i64 i.whn, .int .i64 i.zone] from rfl); have FQ := hyd (show printI Lib.itoa i = l → (printI Lib.itoa i == l) = true from fun h => by rw [h]; simp); have FN := hyd (show printI Lib.itoa i ≠ l → (printI Lib.itoa i == l) = false from fun h => by rw [beq_eq_false_iff_ne]; exact h); rw [IV.out] at cR cQ; clear hR hp tab hn k1 k2 hE; generalize (⟨i.name.toArray⟩ : ByteArray) = sn at cP cR cQ IV; generalize (⟨i.email.toArray⟩ : ByteArray) = se at cP cR cQ IV; generalize hti : i.whn = ti at cP cR cQ IV; generalize hzi : i.zone = zi at cP cR cQ IV
  have one : (#[Value.string sn, .string se, .int .i64 ti, .int .i64 zi] : Array Value).all (·.oneCell') = true := by simp [Value.oneCell']
  clear hti hzi
  go_enter Tryz.func138, Tryz.ntmps138
  go_wp2_with fail
  refine cP.mono ?_; rintro e w1 ⟨rfl, d1⟩; have N1 := hyd ((d1.block w.heap.size (by rw [S0.out]; omega)).trans N0.out); have G1 := hyd (show w.heap.size < w1.heap.size by have := d1.size; rw [S0.out] at this; omega); have D1 := hyd (B0.out.trans (d1.mono B0.out.size)); have T1 := hyd (T0.out.keep d1); have hb2 := below_setRow (B := w1.heap.size) (g := w1.heap.size) ((Below.refl w1.heap.size w1).alloc (Nat.le_refl _) (.cells id0 70)) (Nat.le_refl _) #[Value.string sn, .string se, .int .i64 ti, .int .i64 zi]; have N2 := hyd ((hb2.block _ G1.out).trans N1.out); have D2 := hyd (D1.out.trans (hb2.mono D1.out.size)); have T2 := hyd (T1.out.keep hb2); have hh2 := setRow_heap (w1.alloc (.cells id0 70)) w1.heap.size id0 #[Value.string sn, .string se, .int .i64 ti, .int .i64 zi] 70 (0, 0) (heap_alloc_new w1 _); have H2 := hyd hh2; obtain ⟨c20, c21, c22, c23⟩ := cells4 hh2; clear hb2 d1 cP hh2
  go_wp2_with (first
   | (with_reducible refine wpList_store_row rfl 70 (.tmp 4) (.tmp 9) rfl w1.heap.size #[Value.string sn, .string se, .int .i64 ti, .int .i64 zi] rfl rfl 70 id0 (heap_alloc_new w1 _) (infoId4 _ _ _ _) (sizeId4 _ _ _ _ _ _ _ _) one ?_)
   | fail)
  refine (cR _ T2.out.t6).mono ?_; rintro e w2 ⟨rfl, d2⟩; have g2a := lt_heap N2.out; have g2b := lt_heap H2.out; have N3 := hyd ((d2.block _ g2a).trans N2.out); have hh3 := (d2.block _ g2b).trans H2.out; have H3 := hyd hh3; have D3 := hyd (D2.out.trans (d2.mono D2.out.size)); have T3 := hyd (T2.out.keep d2); obtain ⟨c30, c31, c32, c33⟩ := cells4 hh3; clear c20 c21 c22 c23 d2 hh3 g2a g2b N2 H2 D2 T2 cR
  cases hr : rightI i with
  | false =>
   have HV := hyd (show R = .tuple #[.agg id0, .int .i64 4] by rw [HE.out, if_neg (fun h => by rw [hr] at h; exact absurd h.1 (by decide))]; rfl); clear hr
   go_wp2_with (first
    | (with_reducible refine wpList_store_row rfl 70 (.tmp 2) (.tmp 24) rfl w.heap.size id0 rfl rfl 70 id0 N3.out (infoId4 _ _ _ _) (sizeId4 _ _ _ _ _ _ _ _) one_id0 ?_)
    | fail)
   refine bodyPost_ret (results_idt Tryz.results138 _ _ w.heap.size _ (0, 0) _ rfl rfl (setRow_heap _ w.heap.size id0 _ _ (0, 0) N3.out) rfl) rfl ⟨by rw [HV.out]; rfl, below_setRow D3.out (Nat.le_refl _) _⟩
  | true =>
   go_wp2_with fail
   refine (cQ _ T3.out.t6).mono ?_; rintro e w3 ⟨rfl, d3⟩; have g3a := lt_heap N3.out; have g3b := lt_heap H3.out; have N4 := hyd ((d3.block _ g3a).trans N3.out); have hh4 := (d3.block _ g3b).trans H3.out; have D4 := hyd (D3.out.trans (d3.mono D3.out.size)); obtain ⟨c40, c41, c42, c43⟩ := cells4 hh4; clear c30 c31 c32 c33 d3 hh4 g3a g3b N3 H3 D3 T3 cQ
   by_cases he : printI Lib.itoa i = l
   ·have HV := hyd (show R = .tuple #[.agg #[.string sn, .string se, .int .i64 ti, .int .i64 zi], .int .i64 0] by rw [HE.out, if_pos ⟨hr, he⟩]; unfold idtA; simp only; rw [IV.out])
    have feq := FQ.out he; clear hr he HE
    go_wp2_with (first
     | (with_reducible refine wpList_store_row rfl 70 (.tmp 2) (.tmp 25) rfl w.heap.size #[Value.string sn, .string se, .int .i64 ti, .int .i64 zi] rfl rfl 70 id0 N4.out (infoId4 _ _ _ _) (sizeId4 _ _ _ _ _ _ _ _) one ?_)
     | fail)
    refine bodyPost_ret (results_idt Tryz.results138 _ _ w.heap.size _ (0, 0) _ rfl rfl (setRow_heap _ w.heap.size id0 _ _ (0, 0) N4.out) rfl) rfl ⟨by rw [HV.out]; rfl, below_setRow D4.out (Nat.le_refl _) _⟩
   ·have HV := hyd (show R = .tuple #[.agg id0, .int .i64 4] by rw [HE.out, if_neg (fun h => he h.2)]; rfl)
    have feq := FN.out he; clear hr he HE
    go_wp2_with (first
     | (with_reducible refine wpList_store_row rfl 70 (.tmp 2) (.tmp 24) rfl w.heap.size id0 rfl rfl 70 id0 N4.out (infoId4 _ _ _ _) (sizeId4 _ _ _ _ _ _ _ _) one_id0 ?_)
     | fail)
    refine bodyPost_ret (results_idt Tryz.results138 _ _ w.heap.size _ (0, 0) _ rfl rfl (setRow_heap _ w.heap.size id0 _ _ (0, 0) N4.out) rfl) rfl ⟨by rw [HV.out]; rfl, below_setRow D4.out (Nat.le_refl _) _⟩
theorem word_false (l : List UInt8) (h : ¬ ((∀ c ∈ l, barB c = false) ∧ l.length ≤ 200 ∧ Lib.validD l = true ∧ (l ≠ [] → (l.getD 0 0).toNat ≠ 32 ∧ (l.getD (l.length - 1) 0).toNat ≠ 32))) : wordL l = false := by
 cases e : wordL l with
 | false => rfl
 | true => exact absurd ((word_iff l).1 e) h
theorem word_bad (l : List UInt8) (k : Nat) (hk : k < l.length) (h : barB (l.getD k 0) = true) : wordL l = false :=
 word_false l fun q => by
  rw [List.getD_eq_getElem?_getD, List.getElem?_eq_getElem hk] at h; have := q.1 _ (List.getElem_mem hk); simp only [Option.getD_some] at h; rw [this] at h
  cases h
theorem all_of_getD (l : List UInt8) (h : ∀ j, j < l.length → barB (l.getD j 0) = false) : ∀ c ∈ l, barB c = false := fun c hc => by
 obtain ⟨j, hj, rfl⟩ := List.getElem_of_mem hc; have := h j hj
 rwa [List.getD_eq_getElem?_getD, List.getElem?_eq_getElem hj] at this
set_option maxRecDepth 100000 in
theorem rword_is (l : List UInt8) (w : World) (hn : l.length ≤ 1000000) (hT : Lib.Utf8Tabs 2 3 w) :
  Calls Tryz.prog 145 #[.string ⟨l.toArray⟩] w fun e w' => e = .returned (.bool (wordL l)) ∧ Below w.heap.size w w' := by
 have hsz := size_toArray l
 have hget : ∀ j, j < l.length → ∀ h2 : j < (⟨l.toArray⟩ : ByteArray).size, (⟨l.toArray⟩ : ByteArray)[j]'h2 = l.getD j 0 := fun j h h2 => getD_mk l j h h2
 have cV := fun w t => valid_is l w hn t
 obtain ⟨R, hR⟩ : ∃ R, R = wordL l := ⟨_, rfl⟩; rw [← hR]; have HR := hyd hR; have BAD := hyd (fun k hk h => hR.trans (word_bad l k hk h)); have HT := hyd hT; clear hR hT
 by_cases hnil : l = []
 ·subst hnil
  have HV := hyd (show R = true by rw [HR.out]; rfl); have vt : Lib.validD [] = true := rfl; rw [vt] at cV; clear BAD hget
  go_enter Tryz.func145, Tryz.ntmps145
  go_wp2_with fail
  refine wp_loop_rounds 1 ?_; rw [rounds_succ]
  go_wp2_with fail
  refine (cV _ HT.out).mono ?_; rintro e w1 ⟨rfl, b1⟩; go_wp2; go_ret; exact ⟨ret_bool HV.out.symm, b1⟩
 have hpos : 0 < l.length := by cases l with | nil => exact absurd rfl hnil | cons _ _ => simp
 have ALL := hyd (all_of_getD l); have FALSE := hyd (fun h => HR.out.trans (word_false l h)); have TRUE := hyd (fun h => HR.out.trans ((word_iff l).2 h))
 have fi : (⟨l.toArray⟩ : ByteArray).toList.isEmpty = false := by rw [Lib.toList_data]; cases l with | nil => exact absurd rfl hnil | cons _ _ => rfl
 generalize (⟨l.toArray⟩ : ByteArray) = s at hsz hget cV fi ⊢; have GET := hyd hget; clear hget hnil HR
 go_enter Tryz.func145, Tryz.ntmps145
 go_wp2_with fail
 go_loopw [3] (fun v3 wr => ∃ k : Nat, k ≤ l.length ∧ v3 = .int .i64 k ∧ (∀ j, j < k → barB (l.getD j 0) = false) ∧ w = wr) (fun v3 _ => l.length - (intOf v3).toNat)
 case atStart => exact ⟨0, Nat.zero_le _, rfl, fun j hj => absurd hj (Nat.not_lt_zero _), rfl⟩
 case round =>
  obtain ⟨k, hk, rfl, hall, rfl⟩ := hrel; have HALL := hyd hall; clear hall
  by_cases hlt : k < l.length
  ·have hx := GET.out k hlt (by omega)
   have j1 : (k : Int) < (s.size : Int) := by omega
   have j2 : (k : Int) < (l.length : Int) := by omega
   have BK := hyd (BAD.out k hlt); obtain ⟨x, hxe⟩ : ∃ x : UInt8, x = l.getD k 0 := ⟨_, rfl⟩; rw [← hxe] at hx BK; have HX := hyd hxe; clear hxe
   have cB := fun w => rbarred_is x w
   cases hb : barB x with
   | true =>
    have HV := hyd (BK.out hb); rw [hb] at cB; clear hb
    go_wp2_with fail
    refine (cB _).mono ?_; rintro e w1 ⟨rfl, rfl⟩; go_wp2; go_ret; exact ⟨ret_bool HV.out.symm, Below.refl _ _⟩
   | false =>
    rw [hb] at cB
    go_wp2_with fail
    refine (cB _).mono ?_; rintro e w1 ⟨rfl, rfl⟩; go_wp2
    go_roundw
    case rel =>
     refine ⟨k + 1, by omega, by go_num, fun j hj => ?_, by first | trivial | rfl⟩
     by_cases e : j = k
     ·rw [e, ← HX.out]; exact hb
     ·exact HALL.out j (by omega)
    case measure => simp [intOf]; omega
  ·obtain rfl : k = l.length := by omega
   have AL := hyd (ALL.out HALL.out)
   by_cases h200 : 200 < l.length
   ·have HV := hyd (FALSE.out fun h => by have := h.2.1; omega)
    have f : ((l.length : Int) > 200) = True := by simp; omega
    go_wp2; go_ret; exact ⟨ret_bool HV.out.symm, Below.refl _ _⟩
   ·have f : ((l.length : Int) > 200) = False := by simp; omega
    go_wp2_with fail
    refine (cV _ HT.out).mono ?_; rintro e w1 ⟨rfl, b1⟩
    cases hv : Lib.validD l with
    | false =>
     have HV := hyd (FALSE.out fun h => by have := h.2.2.1; rw [hv] at this; cases this); clear hv; go_wp2; go_ret; exact ⟨ret_bool HV.out.symm, b1⟩
    | true =>
     have x0 := GET.out 0 hpos (by omega); have x1 := GET.out (l.length - 1) (by omega) (by omega)
     have DEC := hyd (show R = (((l.getD 0 0).toNat : Int) != 32 && ((l.getD (l.length - 1) 0).toNat : Int) != 32) by
      by_cases q0 : (l.getD 0 0).toNat = 32
      ·rw [q0]; exact FALSE.out fun h => (h.2.2.2 (by intro e; rw [e] at hpos; simp at hpos)).1 q0
      ·by_cases q1 : (l.getD (l.length - 1) 0).toNat = 32
       ·rw [q1]; simp; exact FALSE.out fun h => (h.2.2.2 (by intro e; rw [e] at hpos; simp at hpos)).2 q1
       ·have a0 : ((((l.getD 0 0).toNat : Nat) : Int) != 32) = true := by rw [bne_iff_ne]; omega
        have a1 : ((((l.getD (l.length - 1) 0).toNat : Nat) : Int) != 32) = true := by rw [bne_iff_ne]; omega
        rw [a0, a1]
        exact TRUE.out ⟨AL.out, by omega, hv, fun _ => ⟨q0, q1⟩⟩)
     generalize l.getD 0 0 = y0 at x0 DEC; generalize l.getD (l.length - 1) 0 = y1 at x1 DEC
     have ix : ((l.length - 1 : Nat) : Int) = (l.length : Int) - 1 := by omega
     clear hv
     by_cases q0 : y0.toNat = 32
     ·have f0 : (((y0.toNat : Nat) : Int) != 32) = false := by rw [q0]; rfl
      rw [f0] at DEC; clear q0; go_wp2; go_ret; exact ⟨ret_bool (by rw [DEC.out]; rfl), b1⟩
     ·have f0 : (((y0.toNat : Nat) : Int) != 32) = true := by rw [bne_iff_ne]; omega
      rw [f0] at DEC; clear q0; go_wp2; go_ret; exact ⟨ret_bool (by rw [DEC.out]; rfl), b1⟩
set_option maxRecDepth 100000 in
theorem rRight_is (i : Idt) (h1 : i.name.length ≤ 1000000) (h2 : i.email.length ≤ 1000000) (w : World) (tab : T6 w) :
  Calls Tryz.prog 113 #[idtV i] w fun e w' => e = .returned (.bool (rightI i)) ∧ Below w.heap.size w w' := by
 obtain ⟨name, email, t, z⟩ := i; unfold idtV rightI; simp only at h1 h2 ⊢
 have c1 := fun w hT => rword_is name w h1 hT
 have c2 := fun w hT => rword_is email w h2 hT
 generalize (⟨name.toArray⟩ : ByteArray) = sn at c1 ⊢; generalize (⟨email.toArray⟩ : ByteArray) = se at c2 ⊢; have B0 := hyd ((Below.refl w.heap.size w).alloc (Nat.le_refl _) (.cells #[.string sn, .string se, .int .i64 t, .int .i64 z] 70)); have T0 := hyd (Utf8Tabs_below tab.utf B0.out); have N0 := hyd (heap_alloc_new w (.cells #[.string sn, .string se, .int .i64 t, .int .i64 z] 70)); have S0 := hyd (show (w.alloc (.cells #[.string sn, .string se, .int .i64 t, .int .i64 z] 70)).heap.size = w.heap.size + 1 by simp); clear tab h1 h2; generalize wordL name = bn at c1 ⊢; generalize wordL email = be at c2 ⊢
 cases bn with
 | false =>
  go_enter Tryz.func113, Tryz.ntmps113
  go_wp2_with fail
  refine (c1 _ T0.out).mono ?_; rintro e w1 ⟨rfl, b1⟩; have hb1 := B0.out.trans (b1.mono B0.out.size); go_wp2; go_ret; exact ⟨rfl, hb1⟩
 | true =>
  go_enter Tryz.func113, Tryz.ntmps113
  go_wp2_with fail
  refine (c1 _ T0.out).mono ?_; rintro e w1 ⟨rfl, b1⟩; have hb1 := B0.out.trans (b1.mono B0.out.size); have hN1 := (b1.block w.heap.size (by rw [S0.out]; omega)).trans N0.out
  have hc1 : w1.cell? ⟨w.heap.size, 1, none⟩ = some (.string se) := by rw [Lib.cell_of_heap hN1]; rfl
  have T1 := hyd (Utf8Tabs_below T0.out b1); have S1 := hyd (show w.heap.size < w1.heap.size by have := b1.size; rw [S0.out] at this; omega); have N1 := hyd hN1; clear b1 hN1
  go_wp2_with fail
  refine (c2 _ T1.out).mono ?_; rintro e w2 ⟨rfl, b2⟩; have hb2 := hb1.trans (b2.mono hb1.size); have hN2 := (b2.block w.heap.size S1.out).trans N1.out
  have hc2 : w2.cell? ⟨w.heap.size, 2, none⟩ = some (.int .i64 t) := by rw [Lib.cell_of_heap hN2]; rfl
  have hc3 : w2.cell? ⟨w.heap.size, 3, none⟩ = some (.int .i64 z) := by rw [Lib.cell_of_heap hN2]; rfl
  clear hb1 b2 hN2 N1 N0 S0 S1 T1 T0 B0 c1 c2
  cases be with
  | false =>
   go_wp2; go_ret; exact ⟨rfl, hb2⟩
  | true =>
   by_cases t0 : 0 ≤ t
   ·by_cases t1 : t ≤ 1099511627775
    ·by_cases z0 : -840 ≤ z
     ·by_cases z1 : z ≤ 840
      ·go_wp2
       go_ret; exact ⟨ret_bool (by rw [decide_eq_true t0, decide_eq_true t1, decide_eq_true z0, decide_eq_true z1]; rfl), hb2⟩
      ·have v1 := decide_eq_false z1
       go_wp2; go_ret; exact ⟨ret_bool (by rw [v1]; simp), hb2⟩
     ·have v0 := decide_eq_false z0
      go_wp2; go_ret; exact ⟨ret_bool (by rw [v0]; simp), hb2⟩
    ·have u1 := decide_eq_false t1
     go_wp2; go_ret; exact ⟨ret_bool (by rw [u1]; simp), hb2⟩
   ·have u0 := decide_eq_false t0
    go_wp2; go_ret; exact ⟨ret_bool (by rw [u0]; simp), hb2⟩
theorem conv_two (x y : Int) (w : World) :
  (convert 32 9 (.slice (some ⟨w.heap.size, 0, none⟩) 2 2)).run Tryz.prog (w.alloc (.cells #[.int .u8 x, .int .u8 y] 5)) = .ok (.string ⟨[UInt8.ofNat x.toNat, UInt8.ofNat y.toNat].toArray⟩) (w.alloc (.cells #[.int .u8 x, .int .u8 y] 5)) :=
 run_convert_bytes_arg _ 32 5 Tryz.underlying32 Tryz.underlying5 w.heap.size 0 2 2 [x, y] rfl (fun i hi => by
  obtain rfl | rfl : i = 0 ∨ i = 1 := by omega
  ·exact Lib.cell_of_heap (heap_alloc_new _ _) 0
  ·exact Lib.cell_of_heap (heap_alloc_new _ _) 1) 9 Tryz.underlying9
theorem rtwo_is (n : Int) (h0 : 0 ≤ n) (h1 : n < 100) (w : World) :
  Calls Tryz.prog 146 #[.int .i64 n] w fun e w' => e = .returned (.string ⟨(twoD n.toNat).toArray⟩) ∧ Below w.heap.size w w' := by
 have q1 := IntWalk.i64_quo n 10 (by omega); have q2 := IntWalk.rem_in n 10 (by omega); have q3 := IntWalk.u8_in (48 + n / 10) (by omega); have q4 := IntWalk.u8_in (48 + n % 10) (by omega); have q5 := IntWalk.i64_in (48 + n / 10) (by omega); have q6 := IntWalk.i64_in (48 + n % 10) (by omega)
 have E := hyd (show [UInt8.ofNat (48 + n / 10).toNat, UInt8.ofNat (48 + n % 10).toNat] = twoD n.toNat by
  unfold twoD
  rw [show (48 + n / 10).toNat = 48 + n.toNat / 10 by omega, show (48 + n % 10).toNat = 48 + n.toNat % 10 by omega])
 have cv := conv_two (48 + n / 10) (48 + n % 10) w; have B1 := hyd ((Below.refl w.heap.size w).alloc (Nat.le_refl _) (.cells #[.int .u8 (48 + n / 10), .int .u8 (48 + n % 10)] 5)); rw [E.out] at cv; generalize twoD n.toNat = l at cv ⊢
 go_enter Tryz.func146, Tryz.ntmps146
 go_wp2; go_ret; exact ⟨rfl, B1.out⟩
end Go.Proofs.YtnbcbiglkmdepaaGreatDoor
