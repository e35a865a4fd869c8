/-
  Texts that belong together, one behind the other.
-/
import Derived.Test.YtpelehhmdcjikaaGreatDoorFu14
import Derived.Test.YtpelehhmdcjikaaGreatDoorFu15
import Derived.Test.YtpelehhmdcjikaaGreatDoorFu02
import Derived.Test.YtpelehhmdcjikaaGreatDoorFu08
import Derived.Test.YtpelehhmdcjikaaGreatDoorFu07
import Derived.Test.YtpelehhmdcjikaaGreatDoorFu03
import Derived.Lib.OthersKept
import Derived.WalkSmall
import Derived.IntWalk
/-
  Layer 9, the program: which records are right.
-/
namespace Go.Proofs.YtpelehhmdcjikaaGreatDoor
set_option maxRecDepth 20000
open Go.RowKit
set_option linter.unusedVariables false
set_option linter.unusedSimpArgs false
theorem rightR_way (t : List UInt8) (l : List (List UInt8)) (a c : Idt) (x : List UInt8) : rightR ⟨t, l, a, c, x⟩ = ((!eqD t idZ) && ((decide (l.length ≤ 16) && parentsR l) && (rightI a && (rightI c && textR x)))) := by
  unfold rightR textR
  have e : decide (t ≠ idZ) = !eqD t idZ := by
    cases h : eqD t idZ with
    | true =>
      have h2 := (eqD_iff _ _).1 h
      simp [h2]
    | false =>
      have h2 : t ≠ idZ := fun q => by rw [q, eqD_same] at h; cases h
      simp [h2]
  simp only [e, Bool.and_assoc]
set_option maxHeartbeats 16000000 in
theorem Right9_is (t : List UInt8) (a1 : Option Addr) (n c1 : Nat) (l : List (List UInt8)) (a c : Idt) (x : List UInt8) (w : World) (tab : T6 w) (ht : t.length = 20) (hit : IdsAt w a1 l) (hn : n = l.length) (hm : n ≤ 1000000) (hnc : n ≤ c1) (hid : ∀ i ∈ l, i.length = 20)
    (s1 : a.name.length ≤ 1000000) (s2 : a.email.length ≤ 1000000) (s3 : c.name.length ≤ 1000000) (s4 : c.email.length ≤ 1000000) :
    Calls Tryz.prog 75 #[.agg (arrC t (.slice a1 n c1) a c x)] w fun e w' => e = .returned (.bool (rightR ⟨t, l, a, c, x⟩)) ∧ Below w.heap.size w w' := by
  rw [rightR_way]
  obtain ⟨A1, hA1⟩ : ∃ A, arrC t (.slice a1 n c1) a c x = A := ⟨_, rfl⟩
  obtain ⟨z, hz0, hzs, hzv, hzb, hz1⟩ := zId_any
  have HZ0 := Lib.hid hz0; have pZ := Lib.hid hzb
  have ED := fun u => neq_arrD t idZ ht rfl u
  rw [← HZ0.out] at ED
  unfold arrD at ED
  clear hz0 hzs hz1 hzb hzv
  have b1 : Below w.heap.size w (w.alloc (.cells A1 54)) := (Below.refl w.heap.size w).alloc (Nat.le_refl _) (.cells A1 54)
  have r1 : RecAt (w.alloc (.cells A1 54)) w.heap.size t (.slice a1 n c1) a c x := recAt_of (ty := 54) (fr := (0, 0)) ht (by rw [hA1]; exact heap_alloc_new w _)
  have K := Lib.hid (fun u (hb : Below (w.alloc (.cells A1 54)).heap.size (w.alloc (.cells A1 54)) u) => r1.keep hb)
  have CP := Lib.hid (fun u (hb : Below w.heap.size w u) => rightParents9_is a1 n c1 l u (hit.keep hb) hn hm hnc hid)
  have CA := Lib.hid (fun u (hb : Below w.heap.size w u) => Right_is a s1 s2 u (tab.keep hb))
  have CC := Lib.hid (fun u (hb : Below w.heap.size w u) => Right_is c s3 s4 u (tab.keep hb))
  have CX := Lib.hid (fun u => rightText9_is x u)
  have ea : idtV a = .agg (cellsT a).toArray := rfl
  have ec : idtV c = .agg (cellsT c).toArray := rfl
  rw [ea] at CA
  rw [ec] at CC
  rw [hn] at CP
  rw [← hn] at CP
  have LD := Lib.hid (show (Tryz.prog.info? 24).map (·.size) = some (cellsD t).length by rw [cellsD_len t ht]; exact infoD_n)
  have LA := Lib.hid (show (Tryz.prog.info? 52).map (·.size) = some (cellsT a).length from infoT)
  have LC := Lib.hid (show (Tryz.prog.info? 52).map (·.size) = some (cellsT c).length from infoT)
  have B1 := Lib.hid b1
  have RD := Lib.hid r1.tree
  have p1 := r1.parents
  have KA := Lib.hid (fun u (hb : Below (w.alloc (.cells A1 54)).heap.size (w.alloc (.cells A1 54)) u) => (K.out u hb).author)
  have KC := Lib.hid (fun u (hb : Below (w.alloc (.cells A1 54)).heap.size (w.alloc (.cells A1 54)) u) => (K.out u hb).committer)
  have KX := Lib.hid (fun u (hb : Below (w.alloc (.cells A1 54)).heap.size (w.alloc (.cells A1 54)) u) => (K.out u hb).text)
  have e16 : decide (l.length ≤ 16) = decide (n ≤ 16) := by rw [hn]
  rw [e16]
  rw [hA1]
  clear hit hid hnc hn K r1 b1 ea ec hm tab e16 s1 s2 s3 s4 hA1
  generalize (decide (n ≤ 16) && parentsR l) = bp at *
  generalize rightI a = ba at *
  generalize rightI c = bc at *
  generalize textR x = bx at *
  generalize eqD t idZ = be at *
  generalize cellsD t = cd at *
  generalize cellsT a = ca at *
  generalize cellsT c = cc at *
  generalize (⟨x.toArray⟩ : ByteArray) = X at *
  cases be with
  | true =>
    go_enter Tryz.func75, Tryz.ntmps75
    go_wp2_with (first | (with_reducible refine wpList_load_mid rfl 24 (.tmp 3) rfl w.heap.size 0 rfl cd _ RD.out Tryz.underlying24 rfl LD.out ?_) | (refine wpList_build_none rfl 24 rfl _ pZ.out ?_) | fail)
    go_ret
    exact ⟨rfl, B1.out⟩
  | false =>
    cases bp with
    | false =>
      go_enter Tryz.func75, Tryz.ntmps75
      go_wp2_with (first | (with_reducible refine wpList_load_mid rfl 24 (.tmp 3) rfl w.heap.size 0 rfl cd _ RD.out Tryz.underlying24 rfl LD.out ?_) | (refine wpList_build_none rfl 24 rfl _ pZ.out ?_) | fail)
      refine (CP.out _ B1.out).mono ?_
      rintro e w2 ⟨rfl, hb2⟩
      have HB2 := Lib.hid hb2
      have RA := Lib.hid (KA.out _ hb2)
      clear hb2
      go_wp2_with (first | (with_reducible refine wpList_load_midD 52 (.tmp 13) rfl (by kernel_rfl) w.heap.size 21 rfl ca _ RA.out Tryz.underlying52 rfl LA.out ?_) | fail)
      go_ret
      exact ⟨rfl, B1.out.trans (HB2.out.mono B1.out.size)⟩
    | true =>
      cases ba with
      | false =>
        go_enter Tryz.func75, Tryz.ntmps75
        go_wp2_with (first | (with_reducible refine wpList_load_mid rfl 24 (.tmp 3) rfl w.heap.size 0 rfl cd _ RD.out Tryz.underlying24 rfl LD.out ?_) | (refine wpList_build_none rfl 24 rfl _ pZ.out ?_) | fail)
        refine (CP.out _ B1.out).mono ?_
        rintro e w2 ⟨rfl, hb2⟩
        have HB2 := Lib.hid hb2
        have RA := Lib.hid (KA.out _ hb2)
        clear hb2
        go_wp2_with (first | (with_reducible refine wpList_load_midD 52 (.tmp 13) rfl (by kernel_rfl) w.heap.size 21 rfl ca _ RA.out Tryz.underlying52 rfl LA.out ?_) | fail)
        refine (CA.out _ (B1.out.trans (HB2.out.mono B1.out.size))).mono ?_
        rintro e w3 ⟨rfl, hb3⟩
        have HB3 := Lib.hid (HB2.out.trans (hb3.mono HB2.out.size))
        have RC := Lib.hid (KC.out _ HB3.out)
        clear hb3
        go_wp2_with (first | (with_reducible refine wpList_load_midD 52 (.tmp 18) rfl (by kernel_rfl) w.heap.size 25 rfl cc _ RC.out Tryz.underlying52 rfl LC.out ?_) | fail)
        go_ret
        exact ⟨rfl, B1.out.trans (HB3.out.mono B1.out.size)⟩
      | true =>
        cases bc with
        | false =>
          go_enter Tryz.func75, Tryz.ntmps75
          go_wp2_with (first | (with_reducible refine wpList_load_mid rfl 24 (.tmp 3) rfl w.heap.size 0 rfl cd _ RD.out Tryz.underlying24 rfl LD.out ?_) | (refine wpList_build_none rfl 24 rfl _ pZ.out ?_) | fail)
          refine (CP.out _ B1.out).mono ?_
          rintro e w2 ⟨rfl, hb2⟩
          have HB2 := Lib.hid hb2
          have RA := Lib.hid (KA.out _ hb2)
          clear hb2
          go_wp2_with (first | (with_reducible refine wpList_load_midD 52 (.tmp 13) rfl (by kernel_rfl) w.heap.size 21 rfl ca _ RA.out Tryz.underlying52 rfl LA.out ?_) | fail)
          refine (CA.out _ (B1.out.trans (HB2.out.mono B1.out.size))).mono ?_
          rintro e w3 ⟨rfl, hb3⟩
          have HB3 := Lib.hid (HB2.out.trans (hb3.mono HB2.out.size))
          have RC := Lib.hid (KC.out _ HB3.out)
          clear hb3
          go_wp2_with (first | (with_reducible refine wpList_load_midD 52 (.tmp 18) rfl (by kernel_rfl) w.heap.size 25 rfl cc _ RC.out Tryz.underlying52 rfl LC.out ?_) | fail)
          refine (CC.out _ (B1.out.trans (HB3.out.mono B1.out.size))).mono ?_
          rintro e w4 ⟨rfl, hb4⟩
          have HB4 := Lib.hid (HB3.out.trans (hb4.mono HB3.out.size))
          have p4 := KX.out _ HB4.out
          clear hb4
          go_wp2_with fail
          go_ret
          exact ⟨rfl, B1.out.trans (HB4.out.mono B1.out.size)⟩
        | true =>
          go_enter Tryz.func75, Tryz.ntmps75
          go_wp2_with (first | (with_reducible refine wpList_load_mid rfl 24 (.tmp 3) rfl w.heap.size 0 rfl cd _ RD.out Tryz.underlying24 rfl LD.out ?_) | (refine wpList_build_none rfl 24 rfl _ pZ.out ?_) | fail)
          refine (CP.out _ B1.out).mono ?_
          rintro e w2 ⟨rfl, hb2⟩
          have HB2 := Lib.hid hb2
          have RA := Lib.hid (KA.out _ hb2)
          clear hb2
          go_wp2_with (first | (with_reducible refine wpList_load_midD 52 (.tmp 13) rfl (by kernel_rfl) w.heap.size 21 rfl ca _ RA.out Tryz.underlying52 rfl LA.out ?_) | fail)
          refine (CA.out _ (B1.out.trans (HB2.out.mono B1.out.size))).mono ?_
          rintro e w3 ⟨rfl, hb3⟩
          have HB3 := Lib.hid (HB2.out.trans (hb3.mono HB2.out.size))
          have RC := Lib.hid (KC.out _ HB3.out)
          clear hb3
          go_wp2_with (first | (with_reducible refine wpList_load_midD 52 (.tmp 18) rfl (by kernel_rfl) w.heap.size 25 rfl cc _ RC.out Tryz.underlying52 rfl LC.out ?_) | fail)
          refine (CC.out _ (B1.out.trans (HB3.out.mono B1.out.size))).mono ?_
          rintro e w4 ⟨rfl, hb4⟩
          have HB4 := Lib.hid (HB3.out.trans (hb4.mono HB3.out.size))
          have p4 := KX.out _ HB4.out
          clear hb4
          go_wp2_with fail
          refine (CX.out _).mono ?_
          rintro e w5 ⟨rfl, hb5⟩
          have HB5 := Lib.hid (HB4.out.trans (hb5.mono HB4.out.size))
          clear hb5
          go_wp2
          cases bx with
          | false =>
            go_ret
            exact ⟨rfl, B1.out.trans (HB5.out.mono B1.out.size)⟩
          | true =>
            go_ret
            exact ⟨rfl, B1.out.trans (HB5.out.mono B1.out.size)⟩
end Go.Proofs.YtpelehhmdcjikaaGreatDoor

/-
  Layer 1: Hex of the program.
-/
namespace Go.Proofs.YtpelehhmdcjikaaGreatDoor
set_option maxRecDepth 20000
open Go.RowKit
set_option linter.unusedVariables false
/-- One hexadecimal digit. -/
def hexDig (n : Nat) : UInt8 := UInt8.ofNat (if n < 10 then 48 + n else 87 + n)
def hexL : List UInt8 → List UInt8
  | [] => []
  | c :: r => hexDig (c.toNat / 16) :: hexDig (c.toNat % 16) :: hexL r
end Go.Proofs.YtpelehhmdcjikaaGreatDoor

/-
  Layer 6: how long an ident's text is.
-/
namespace Go.Proofs.YtpelehhmdcjikaaGreatDoor
set_option linter.unusedVariables false
set_option linter.unusedSimpArgs false
theorem right_len (i : Idt) (h : rightI i = true) : i.name.length ≤ 200 ∧ i.email.length ≤ 200 := by
  obtain ⟨r1, r2, _⟩ := (right_iff i).1 h
  exact ⟨((word_iff _).1 r1).2.1, ((word_iff _).1 r2).2.1⟩
end Go.Proofs.YtpelehhmdcjikaaGreatDoor

/-
  Layer 9, the program: a line of a header, and Print.
-/
namespace Go.Proofs.YtpelehhmdcjikaaGreatDoor
set_option maxRecDepth 20000
open Go.RowKit
set_option linter.unusedVariables false
set_option linter.unusedSimpArgs false
def treeV : List UInt8 := [116, 114, 101, 101]
def parentV : List UInt8 := [112, 97, 114, 101, 110, 116]
def authorV : List UInt8 := [97, 117, 116, 104, 111, 114]
def committerV : List UInt8 := [99, 111, 109, 109, 105, 116, 116, 101, 114]
end Go.Proofs.YtpelehhmdcjikaaGreatDoor

/-
  Layer 1: what the digit functions of hexa and of its reference return, case by case.
-/
namespace Go.Proofs.YtpelehhmdcjikaaGreatDoor
set_option maxRecDepth 20000
open Go.RowKit
set_option linter.unusedVariables false
set_option maxHeartbeats 400000 in
theorem digit_dec (r base : Int) (h0 : 48 ≤ r) (h1 : r ≤ 57) (hb : 10 ≤ base) (hb2 : base ≤ 16) (w : World) :
    Calls Tryz.prog 175 #[.int .i32 r, .int .i64 base] w fun e w' => e = .returned (.tuple #[.int .i64 (r - 48), .bool true]) ∧ w = w' := by
  go_enter Tryz.func175, Tryz.ntmps175
  go_wp2
  go_ret2
  exact ⟨rfl, rfl⟩
set_option maxHeartbeats 400000 in
theorem digit_hex (r : Int) (h0 : 97 ≤ r) (h1 : r ≤ 102) (w : World) :
    Calls Tryz.prog 175 #[.int .i32 r, .int .i64 16] w fun e w' => e = .returned (.tuple #[.int .i64 (r - 87), .bool true]) ∧ w = w' := by
  go_enter Tryz.func175, Tryz.ntmps175
  go_wp2
  go_ret2
  exact ⟨tup_int (by omega), rfl⟩
set_option maxHeartbeats 400000 in
theorem digit_low (r base : Int) (h1 : r < 48) (hb : 10 ≤ base) (hb2 : base ≤ 16) (w : World) :
    Calls Tryz.prog 175 #[.int .i32 r, .int .i64 base] w fun e w' => e = .returned (.tuple #[.int .i64 0, .bool false]) ∧ w = w' := by
  go_enter Tryz.func175, Tryz.ntmps175
  go_wp2
  go_ret2
  exact ⟨rfl, rfl⟩
set_option maxHeartbeats 400000 in
theorem digit_mid (r base : Int) (h0 : 57 < r) (h1 : r < 97) (hb : 10 ≤ base) (hb2 : base ≤ 16) (w : World) :
    Calls Tryz.prog 175 #[.int .i32 r, .int .i64 base] w fun e w' => e = .returned (.tuple #[.int .i64 0, .bool false]) ∧ w = w' := by
  go_enter Tryz.func175, Tryz.ntmps175
  go_wp2
  go_ret2
  exact ⟨rfl, rfl⟩
set_option maxHeartbeats 400000 in
theorem digit_high (r base : Int) (h0 : 102 < r) (hb : 10 ≤ base) (hb2 : base ≤ 16) (w : World) :
    Calls Tryz.prog 175 #[.int .i32 r, .int .i64 base] w fun e w' => e = .returned (.tuple #[.int .i64 0, .bool false]) ∧ w = w' := by
  go_enter Tryz.func175, Tryz.ntmps175
  go_wp2
  go_ret2
  exact ⟨rfl, rfl⟩
set_option maxHeartbeats 400000 in
theorem digit_af10 (r : Int) (h0 : 97 ≤ r) (h1 : r ≤ 102) (w : World) :
    Calls Tryz.prog 175 #[.int .i32 r, .int .i64 10] w fun e w' => e = .returned (.tuple #[.int .i64 0, .bool false]) ∧ w = w' := by
  go_enter Tryz.func175, Tryz.ntmps175
  go_wp2
  go_ret2
  exact ⟨rfl, rfl⟩
/-- What a rune stands for in base 16: below zero where it is no digit. -/
def dig16 (r : Int) : Int := if 48 ≤ r ∧ r ≤ 57 then r - 48 else if 97 ≤ r ∧ r ≤ 102 then r - 87 else -1
theorem dig16_yes {r : Int} (h : 0 ≤ dig16 r) : (48 ≤ r ∧ r ≤ 57) ∧ dig16 r = r - 48 ∨ (97 ≤ r ∧ r ≤ 102) ∧ dig16 r = r - 87 := by
  unfold dig16 at *; split at h
  · simp_all
  · split at h
    · simp_all
    · omega
theorem dig16_lt (r : Int) : dig16 r < 16 := by unfold dig16; split <;> (try split) <;> omega
theorem digit16_yes (r : Int) (h : 0 ≤ dig16 r) (w : World) :
    Calls Tryz.prog 175 #[.int .i32 r, .int .i64 16] w fun e w' => e = .returned (.tuple #[.int .i64 (dig16 r), .bool true]) ∧ w = w' := by
  rcases dig16_yes h with ⟨⟨a, b⟩, e⟩ | ⟨⟨a, b⟩, e⟩ <;> rw [e]
  · exact digit_dec r 16 a b (by omega) (by omega) w
  · exact digit_hex r a b w
theorem digit16_no (r : Int) (h : dig16 r < 0) (w : World) :
    Calls Tryz.prog 175 #[.int .i32 r, .int .i64 16] w fun e w' => e = .returned (.tuple #[.int .i64 0, .bool false]) ∧ w = w' := by
  unfold dig16 at h
  split at h
  · omega
  · split at h
    · omega
    · by_cases h1 : r < 48
      · exact digit_low r 16 h1 (by omega) (by omega) w
      · by_cases h2 : 102 < r
        · exact digit_high r 16 h2 (by omega) (by omega) w
        · exact digit_mid r 16 (by omega) (by omega) (by omega) (by omega) w
theorem digit10_no (r : Int) (h : ¬ (48 ≤ r ∧ r ≤ 57)) (w : World) :
    Calls Tryz.prog 175 #[.int .i32 r, .int .i64 10] w fun e w' => e = .returned (.tuple #[.int .i64 0, .bool false]) ∧ w = w' := by
  by_cases h1 : r < 48
  · exact digit_low r 10 h1 (by omega) (by omega) w
  · by_cases h2 : 102 < r
    · exact digit_high r 10 h2 (by omega) (by omega) w
    · by_cases h3 : 97 ≤ r
      · exact digit_af10 r h3 (by omega) w
      · exact digit_mid r 10 (by omega) (by omega) (by omega) (by omega) w
end Go.Proofs.YtpelehhmdcjikaaGreatDoor

/-
  Layer 1: the decimal reader of the program (below zero).
-/
namespace Go.Proofs.YtpelehhmdcjikaaGreatDoor
open Go.RowKit
set_option linter.unusedVariables false
def isD (c : UInt8) : Prop := 48 ≤ c.toNat ∧ c.toNat ≤ 57
instance (c : UInt8) : Decidable (isD c) := by unfold isD; infer_instance
/-- The number that some digits are. -/
def decL (l : List UInt8) : Nat := l.foldl (fun a c => 10 * a + (c.toNat - 48)) 0
theorem decL_snoc (l : List UInt8) (c : UInt8) : decL (l ++ [c]) = 10 * decL l + (c.toNat - 48) := by simp [decL]
theorem decL_take (l : List UInt8) (k : Nat) (h : k < l.length) : decL (l.take (k + 1)) = 10 * decL (l.take k) + ((l.getD k 0).toNat - 48) := by
  rw [List.take_succ_eq_append_getElem h, decL_snoc, List.getD_eq_getElem?_getD, List.getElem?_eq_getElem h]; rfl
theorem decL_mono (l : List UInt8) (k : Nat) : decL (l.take k) ≤ decL l := by
  have key : ∀ (l : List UInt8) (a : Nat), a ≤ l.foldl (fun a c => 10 * a + (c.toNat - 48)) a := by
    intro l
    induction l with
    | nil => intro a; exact Nat.le_refl _
    | cons c r ih => intro a; have := ih (10 * a + (c.toNat - 48)); simp only [List.foldl_cons]; omega
  conv => rhs; rw [← List.take_append_drop k l]
  unfold decL
  rw [List.foldl_append]
  exact key _ _
def NPost (s : ByteArray) (least : Int) (w : World) (e : Ending) (w' : World) : Prop :=
  Below w.heap.size w w' ∧ ((e = .returned (.tuple #[.int .i64 0, .bool false]) ∧ ((∃ i, i < s.size ∧ ¬ isD (s.data.toList.getD i 0)) ∨ (decL s.data.toList : Int) > -least)) ∨
    (e = .returned (.tuple #[.int .i64 (-(decL s.data.toList : Int)), .bool true]) ∧ (∀ i, i < s.size → isD (s.data.toList.getD i 0)) ∧ (decL s.data.toList : Int) ≤ -least))
theorem getD_at (s : ByteArray) (k : Nat) (h : k < s.size) : s.data.toList.getD k 0 = s[k]'h := by
  have : k < s.data.toList.length := by simpa using h
  rw [List.getD_eq_getElem?_getD, List.getElem?_eq_getElem this]; rfl
theorem size_list (s : ByteArray) : s.data.toList.length = s.size := by simp
theorem tdiv10 (a : Int) (h : a ≤ 0) : a ≤ 10 * a.tdiv 10 ∧ 10 * a.tdiv 10 < a + 10 := by
  have e : a.tdiv 10 = -((-a) / 10) := by
    have h1 : ((-a).tdiv 10) = (-a) / 10 := Int.tdiv_eq_ediv_of_nonneg (by omega)
    rw [← h1, Int.neg_tdiv, Int.neg_neg]
  rw [e]; omega
set_option maxHeartbeats 1000000 in
theorem negated_core (s : ByteArray) (least : Int) (w : World) (hs : s.size ≤ 1099511627776) (hl0 : -9223372036854775808 ≤ least) (hl1 : least ≤ -1000) :
    Calls Tryz.prog 195 #[.string s, .int .i64 least] w fun e w' => NPost s least w e w' := by
  go_enter Tryz.func195, Tryz.ntmps195
  go_wp2_with fail
  go_loopw [6] (fun v wr => ∃ (pos : Nat) (x : Int), pos ≤ s.size ∧ v = .int .i64 x ∧ x = -(decL (s.data.toList.take pos) : Int) ∧ least ≤ x ∧ x ≤ 0 ∧ (∀ i, i < pos → isD (s.data.toList.getD i 0)) ∧ wr.heap[w.heap.size]? = some (.stringIter s pos) ∧ Below w.heap.size w wr) (fun _ wr => s.size - wr.iterPos w.heap.size)
  case atStart => exact ⟨0, 0, Nat.zero_le _, rfl, by simp [decL], by omega, by omega, fun i hi => absurd hi (Nat.not_lt_zero _), World.iter_heap w s 0, (Below.refl _ w).alloc (Nat.le_refl _) _⟩
  case round =>
    obtain ⟨pos, x, hpos, rfl, hx, hx0, hx1, hdig, hit, hbr⟩ := hrel
    have HX := Lib.hid hx; clear hx
    have HDIG := Lib.hid hdig; clear hdig
    by_cases hp : pos < s.size
    · have HGD := Lib.hid (getD_at s pos hp)
      by_cases ha : (s[pos]).toNat < 128
      · have hnx : ∀ ty, (Instr.next (.pointer (some ⟨w.heap.size, 0, none⟩)) true ty).run Tryz.prog wr = _ := fun ty => Lib.run_next_ascii_at wr w.heap.size s pos ty hit hp ha
        obtain ⟨r, hr⟩ : ∃ r : Int, r = ((s[pos]).toNat : Int) := ⟨_, rfl⟩
        rw [← hr] at hnx
        have HR := Lib.hid hr; clear hr
        have hit2 := Lib.iterAt_heap wr w.heap.size s pos (pos + 1) hit
        have hbr2 := Lib.below_iterAt hbr (k := w.heap.size) (Nat.le_refl _) s (pos + 1)
        generalize wr.iterAt w.heap.size s (pos + 1) = w2 at hnx hit2 hbr2
        by_cases hd : 48 ≤ r ∧ r ≤ 57
        · obtain ⟨hd0, hd1⟩ := hd
          obtain ⟨d, hde⟩ : ∃ d : Int, d = r - 48 := ⟨_, rfl⟩
          obtain ⟨q, hq⟩ : ∃ q : Int, q = (least + d).tdiv 10 := ⟨_, rfl⟩
          have hd2 : 0 ≤ d := by omega
          have hd3 : d ≤ 9 := by omega
          have hq1 : least + d ≤ 10 * q := by rw [hq]; exact (tdiv10 _ (by omega)).1
          have hq2 : 10 * q < least + d + 10 := by rw [hq]; exact (tdiv10 _ (by omega)).2
          go_wp2_with fail
          refine (digit_dec r 10 hd0 hd1 (by omega) (by omega) _).mono ?_
          rintro e w3 ⟨rfl, rfl⟩
          rw [← hde]
          clear hnx
          have HDE := Lib.hid hde; clear hde
          have hq3 : IntKind.i64.wrap ((least + d).tdiv 10) = q := by rw [IntWalk.i64_quo' _ _ (by omega), hq]
          have HQ := Lib.hid hq; clear hq
          have hnext : (decL (s.data.toList.take (pos + 1)) : Int) = -(10 * x - d) := by
            rw [decL_take _ _ (by rw [size_list]; exact hp), HGD.out]
            have e1 := HX.out; have e2 := HR.out; have e3 := HDE.out
            omega
          have HN := Lib.hid hnext; clear hnext
          by_cases hlt : x < q
          · go_wp2
            go_ret2
            refine ⟨hbr2, .inl ⟨rfl, .inr ?_⟩⟩
            have := decL_mono s.data.toList (pos + 1)
            have := HN.out
            omega
          · go_wp2
            go_roundw
            case rel =>
              refine ⟨pos + 1, x * 10 - d, by omega, rfl, by have := HN.out; omega, by omega, by omega, ?_, hit2, hbr2⟩
              intro i hi
              by_cases h : i < pos
              · exact HDIG.out i h
              · obtain rfl : i = pos := by omega
                rw [HGD.out]; unfold isD; have := HR.out; omega
            case measure =>
              rw [iterPos_of hit2, iterPos_of hit]; omega
        · go_wp2_with fail
          refine (digit10_no r hd _).mono ?_
          rintro e w3 ⟨rfl, rfl⟩
          go_wp2
          go_ret2
          refine ⟨hbr2, .inl ⟨rfl, .inl ⟨pos, hp, ?_⟩⟩⟩
          rw [HGD.out]; unfold isD; have := HR.out; omega
      · have hnx : ∀ ty, (Instr.next (.pointer (some ⟨w.heap.size, 0, none⟩)) true ty).run Tryz.prog wr = _ := fun ty => Lib.run_next_any_at wr w.heap.size s pos ty hit hp
        have hh := (decode_high s pos hp (by omega)).1
        have hbr2 := Lib.below_iterAt hbr (k := w.heap.size) (Nat.le_refl _) s (pos + (Utf8.decode s pos).2)
        generalize (Utf8.decode s pos).1 = r at hnx hh
        generalize wr.iterAt w.heap.size s (pos + (Utf8.decode s pos).2) = w2 at hnx hbr2
        go_wp2_with fail
        refine (digit_high r 10 (by omega) (by omega) (by omega) _).mono ?_
        rintro e w3 ⟨rfl, rfl⟩
        go_wp2
        go_ret2
        refine ⟨hbr2, .inl ⟨rfl, .inl ⟨pos, hp, ?_⟩⟩⟩
        rw [HGD.out]; unfold isD; omega
    · have hnx : ∀ ty, (Instr.next (.pointer (some ⟨w.heap.size, 0, none⟩)) true ty).run Tryz.prog wr = _ := fun ty => Lib.run_next_end_at wr w.heap.size s pos ty hit hp
      obtain rfl : pos = s.size := by omega
      go_wp2
      go_ret2
      have e : x = -(decL s.data.toList : Int) := by have := HX.out; rwa [List.take_of_length_le (by rw [size_list]; exact Nat.le_refl _)] at this
      exact ⟨hbr, .inr ⟨tup_int e, HDIG.out, by omega⟩⟩
end Go.Proofs.YtpelehhmdcjikaaGreatDoor
