/-
  The walk of RefnameParts, over the contracts.
-/
import Derived.Test.YtbnhchffdccjnaaDoorVh
import Derived.Test.YtbnhchffdccjnaaDoorVj
import Derived.Laws.Tables
import Derived.Laws.Rows
import Derived.IntWalk
namespace Go.Proofs.YtbnhchffdccjnaaDoor.refnameParts
open Go.RowKit
set_option linter.unusedVariables false
set_option linter.unusedSimpArgs false
set_option maxRecDepth 20000

def strsA : Array Value := #[.string ⟨#[97]⟩, .string ⟨#[98, 45, 99]⟩, .string ⟨#[118, 49, 46, 48]⟩, .string ⟨#[99, 97, 102, 195, 169]⟩, .string ⟨#[64]⟩]
theorem strsA_at (m : Nat) (hm : m < 5) : strsA[m]? = some (.string ⟨(nameOf11 m).toArray⟩) := by
  match m, hm with
  | 0, _ => rfl
  | 1, _ => rfl
  | 2, _ => rfl
  | 3, _ => rfl
  | 4, _ => rfl
def strsB : Array Value := #[.string ⟨#[]⟩, .string ⟨#[46, 97]⟩, .string ⟨#[97, 46, 108, 111, 99, 107]⟩, .string ⟨#[97, 46, 46, 98]⟩, .string ⟨#[97, 64, 123, 98]⟩, .string ⟨#[97, 32, 98]⟩, .string ⟨#[97, 126]⟩, .string ⟨#[97, 94]⟩, .string ⟨#[97, 58]⟩, .string ⟨#[97, 63]⟩, .string ⟨#[97, 42]⟩, .string ⟨#[97, 91]⟩, .string ⟨#[97, 92]⟩, .string ⟨#[97, 127]⟩, .string ⟨#[97, 1]⟩, .string ⟨#[97, 46]⟩]
theorem strsB_at (m : Nat) (hm : m < 16) : strsB[m]? = some (.string ⟨(worseOf m).toArray⟩) := by
  match m, hm with
  | 0, _ => rfl
  | 1, _ => rfl
  | 2, _ => rfl
  | 3, _ => rfl
  | 4, _ => rfl
  | 5, _ => rfl
  | 6, _ => rfl
  | 7, _ => rfl
  | 8, _ => rfl
  | 9, _ => rfl
  | 10, _ => rfl
  | 11, _ => rfl
  | 12, _ => rfl
  | 13, _ => rfl
  | 14, _ => rfl
  | 15, _ => rfl
  | n + 16, h => exact absurd h (by omega)
set_option maxHeartbeats 16000000 in
set_option maxRecDepth 100000 in
theorem walk (w : World) (a : Option Addr) (n c : Nat) (nm : n ≤ maxLen ∧ (0 < n → ∃ b o, a = some ⟨b, o, none⟩ ∧ b < w.heap.size ∧ ∀ i, i < n → ∃ x : Int, w.cell? ⟨b, o + i, none⟩ = some (.int .i64 x))) (x1 : Int) (lo : -9223372036854775808 ≤ x1) (hi : x1 ≤ 9223372036854775807) (tab : RTab w) :
    Calls Tryd.prog 4 #[.slice a n c, .int .i64 x1] w fun e w' => e = .returned (.bool true) ∧ Below w.heap.size w w' := by
  obtain ⟨hm, hcells⟩ := nm
  have T := Lib.hid tab
  clear tab
  unfold maxLen at hm
  by_cases h0 : n = 0
  · subst h0
    clear hcells
    go_enter Tryd.func4, Tryd.ntmps4
    go_wp2_with fail
    refine (awake11 _ T.out).mono ?_
    rintro e w1 ⟨rfl, b1⟩
    go_wp2
    go_ret
    exact ⟨rfl, b1⟩
  · by_cases h20 : 12 < n
    · have h1 : (12 : Int) < (n : Int) := by omega
      clear hcells
      go_enter Tryd.func4, Tryd.ntmps4
      go_wp2_with fail
      refine (awake11 _ T.out).mono ?_
      rintro e w1 ⟨rfl, b1⟩
      go_wp2
      go_ret
      exact ⟨rfl, b1⟩
    · obtain ⟨b, o, rfl, hb, hc⟩ := hcells (by omega)
      have HC := Lib.hid hc
      have h1 : ¬ ((12 : Int) < (n : Int)) := by omega
      have hne : ((n : Int) == 0) = false := by simp; omega
      clear hc hcells
      go_enter Tryd.func4, Tryd.ntmps4
      go_wp2_with fail
      go_loopw [5, 6] (fun sv iv wr => ∃ (k : Nat) (ns : List (List UInt8)), k ≤ n ∧ iv = .int .i64 k ∧ ns.length = k ∧ (∀ x ∈ ns, GoodName x) ∧ sv = .string ⟨(joinL ns).toArray⟩ ∧ Below w.heap.size w wr) (fun _ i _ => n - (intOf i).toNat)
      case atStart => exact ⟨0, [], Nat.zero_le _, rfl, rfl, (fun x hx => by cases hx), rfl, Below.refl _ _⟩
      case round =>
        obtain ⟨k, ns, hk, rfl, hns, hok, rfl, hbr⟩ := hrel
        rename World => wo
        have HNS := Lib.hid hns; have HOK := Lib.hid hok
        clear hns hok
        have hjl : (joinL ns).length ≤ 100 := by have := join_len ns (fun y hy => (HOK.out y hy).len); have := HNS.out; omega
        by_cases hlt : k < n
        · obtain ⟨x, hx⟩ := HC.out k hlt
          have q : wo.cell? ⟨b, o + k, none⟩ = some (.int .i64 x) := (hbr.cell (p := ⟨b, o + k, none⟩) hb).trans hx
          clear hx
          obtain ⟨u, hu⟩ : ∃ u, IntKind.u64.wrap x = u := ⟨_, rfl⟩
          have hu0 : 0 ≤ u := by rw [← hu, IntKind.wrap_u64]; omega
          obtain ⟨m, hm1⟩ : ∃ m : Nat, u.tmod 5 = (m : Int) := by
            rw [IntWalk.rem_in u _ hu0]
            exact Int.eq_ofNat_of_zero_le (Int.emod_nonneg _ (by omega))
          have hm2 : u % 5 = (m : Int) := by rw [← IntWalk.rem_in u _ hu0]; exact hm1
          have hm5 : m < 5 := by
            have := Int.emod_lt_of_pos u (show 0 < (5 : Int) by omega)
            omega
          have hstr : (wo.alloc (.cells strsA 9)).cell? ⟨wo.heap.size, m, none⟩ = some (.string ⟨(nameOf11 m).toArray⟩) := (cell_of_row _ _ m _ _ _ (heap_alloc_new wo _)).trans (strsA_at m hm5)
          have HBZ := Lib.hid (show Below w.heap.size w (wo.alloc (.cells strsA 9)) from hbr.alloc hbr.size _)
          have q2 : (wo.alloc (.cells strsA 9)).cell? ⟨b, o + k, none⟩ = some (.int .i64 x) := (((Below.refl _ wo).alloc (Nat.le_refl _) _).cell (p := ⟨b, o + k, none⟩) (Nat.lt_of_lt_of_le hb hbr.size)).trans q
          unfold strsA at hstr HBZ q2
          have NG := Lib.hid (name_good m)
          have hg5 : (nameOf11 m).length ≤ 5 := NG.out.len
          by_cases hk0 : 0 < k
          · have hk1 : (0 : Int) < (k : Int) := by omega
            have hs1 := fun u => add_lists (P := Tryd.prog) u (joinL ns) [47] (by show (joinL ns).length + 1 ≤ _; omega)
            rw [show (⟨([47] : List UInt8).toArray⟩ : ByteArray) = ⟨#[47]⟩ from rfl] at hs1
            have hs2 := fun u => add_lists (P := Tryd.prog) u (joinL ns ++ [47]) (nameOf11 m) (by rw [List.length_append]; show (joinL ns).length + 1 + _ ≤ _; omega)
            have HJ := Lib.hid (show joinL ns ++ [47] ++ nameOf11 m = joinL (ns ++ [nameOf11 m]) from by
              rw [join_snoc ns _ (fun e => by have := HNS.out; rw [e] at this; simp at this; omega)]; simp)
            rw [HJ.out] at hs2
            have NX := Lib.hid (show ∀ x ∈ ns ++ [nameOf11 m], GoodName x from fun y hy => by
              rcases List.mem_append.1 hy with hy | hy
              · exact HOK.out y hy
              · rw [List.mem_singleton.1 hy]; exact NG.out)
            have NL := Lib.hid (show (ns ++ [nameOf11 m]).length = k + 1 by rw [List.length_append, HNS.out]; rfl)
            generalize ns ++ [nameOf11 m] = ns2 at hs2 NX NL HJ
            generalize (⟨(joinL ns).toArray⟩ : ByteArray) = S1 at *
            generalize (⟨(joinL ns ++ [47]).toArray⟩ : ByteArray) = S2 at *
            generalize (⟨(nameOf11 m).toArray⟩ : ByteArray) = S3 at *
            clear HJ hg5 hjl
            obtain ⟨S4, hS4⟩ : ∃ S4 : ByteArray, S4 = ⟨(joinL ns2).toArray⟩ := ⟨_, rfl⟩
            rw [← hS4] at hs2
            have HS4 := Lib.hid hS4
            clear hS4
            go_wp2
            go_roundw
            case rel => exact ⟨k + 1, ns2, by omega, by go_num, NL.out, NX.out, congrArg Value.string HS4.out, HBZ.out⟩
            case measure => simp [intOf]; omega
          · have hk1 : ¬ ((0 : Int) < (k : Int)) := by omega
            obtain rfl : k = 0 := by omega
            rw [Nat.add_zero] at q q2
            obtain rfl : ns = [] := List.eq_nil_of_length_eq_zero HNS.out
            have hs2 := fun u => add_lists (P := Tryd.prog) u [] (nameOf11 m) (by show 0 + _ ≤ _; omega)
            rw [List.nil_append] at hs2
            have NX := Lib.hid (show ∀ x ∈ [nameOf11 m], GoodName x from fun y hy => by
              rw [List.mem_singleton.1 hy]; exact NG.out)
            have e0 : (⟨(joinL []).toArray⟩ : ByteArray) = ⟨([] : List UInt8).toArray⟩ := rfl
            rw [e0]
            generalize (⟨([] : List UInt8).toArray⟩ : ByteArray) = S1 at *
            obtain ⟨S3, hS3⟩ : ∃ S3 : ByteArray, S3 = ⟨(nameOf11 m).toArray⟩ := ⟨_, rfl⟩
            rw [← hS3] at hs2 hstr
            have HS3 := Lib.hid hS3
            clear hS3 hg5 e0
            go_wp2
            go_roundw
            case rel => exact ⟨1, [nameOf11 m], by omega, by go_num, rfl, NX.out, congrArg Value.string HS3.out, HBZ.out⟩
            case measure => simp [intOf]; omega
        · obtain rfl : k = n := by omega
          obtain ⟨u, hu⟩ : ∃ u, IntKind.u64.wrap x1 = u := ⟨_, rfl⟩
          have hu0 : 0 ≤ u := by rw [← hu, IntKind.wrap_u64]; omega
          obtain ⟨m, hm1⟩ : ∃ m : Nat, u.tmod 16 = (m : Int) := by
            rw [IntWalk.rem_in u _ hu0]
            exact Int.eq_ofNat_of_zero_le (Int.emod_nonneg _ (by omega))
          have hm2 : u % 16 = (m : Int) := by rw [← IntWalk.rem_in u _ hu0]; exact hm1
          have hm16 : m < 16 := by
            have := Int.emod_lt_of_pos u (show 0 < (16 : Int) by omega)
            omega
          have hstr : (wo.alloc (.cells strsB 9)).cell? ⟨wo.heap.size, m, none⟩ = some (.string ⟨(worseOf m).toArray⟩) := (cell_of_row _ _ m _ _ _ (heap_alloc_new wo _)).trans (strsB_at m hm16)
          have HBZ := Lib.hid (show Below w.heap.size w (wo.alloc (.cells strsB 9)) from hbr.alloc hbr.size _)
          unfold strsB at hstr HBZ
          obtain ⟨wb1, wb2, wb3⟩ := worse_bad m hm16
          have hne2 : ns ≠ [] := by rintro rfl; have := HNS.out; simp at this; omega
          have hjz := size_toArray (joinL ns)
          have hs1 := fun u => add_lists (P := Tryd.prog) u (joinL ns) [47] (by show (joinL ns).length + 1 ≤ _; omega)
          rw [show (⟨([47] : List UInt8).toArray⟩ : ByteArray) = ⟨#[47]⟩ from rfl] at hs1
          have hs2 := fun u => add_lists (P := Tryd.prog) u (joinL ns ++ [47]) (worseOf m) (by rw [List.length_append]; show (joinL ns).length + 1 + _ ≤ _; omega)
          rw [show (joinL ns ++ [47]) ++ worseOf m = joinL ns ++ 47 :: worseOf m by simp] at hs2
          have c1 := fun w t => Right_is (joinL ns) w (by omega) t
          rw [show refL (joinL ns) = decide (2 ≤ k) from (parts_ref ns hne2 HOK.out (by have := HNS.out; omega)).trans (by rw [HNS.out])] at c1
          have c2 := fun w t => Right_is (joinL ns ++ 47 :: worseOf m) w (by rw [List.length_append, List.length_cons]; omega) t
          rw [bad_ref (joinL ns) (worseOf m) wb2 wb1] at c2
          generalize (⟨(joinL ns).toArray⟩ : ByteArray) = S1 at *
          generalize (⟨(joinL ns ++ [47]).toArray⟩ : ByteArray) = S2 at *
          generalize (⟨(joinL ns ++ 47 :: worseOf m).toArray⟩ : ByteArray) = S3 at *
          generalize (⟨(worseOf m).toArray⟩ : ByteArray) = S4 at *
          have C1 := Lib.hid c1
          have C2 := Lib.hid c2
          obtain ⟨g, hg⟩ : ∃ g : Bool, decide (2 ≤ k) = g := ⟨_, rfl⟩
          have hg2 : decide ((2 : Int) ≤ (k : Int)) = g := by rw [← hg]; exact decide_eq_decide.2 (by omega)
          rw [hg] at C1
          have hgg : (g == g) = true := by simp
          clear wb1 wb2 wb3 hne2 c1 c2 hg
          have T0 := Lib.hid (T.out.below HBZ.out)
          go_wp2_with fail
          refine (awake11 _ T0.out).mono ?_
          rintro e w1 ⟨rfl, b1⟩
          have T1 := Lib.hid (T0.out.below b1)
          have B1 := Lib.hid (HBZ.out.trans (b1.mono HBZ.out.size))
          clear b1
          go_wp2_with fail
          refine (C1.out _ T1.out).mono ?_
          rintro e w2 ⟨rfl, b2⟩
          have T2 := Lib.hid (T1.out.below b2)
          have B2 := Lib.hid (B1.out.trans (b2.mono B1.out.size))
          clear b2
          go_wp2_with fail
          refine (C2.out _ T2.out).mono ?_
          rintro e w3 ⟨rfl, b3⟩
          have B3 := Lib.hid (B2.out.trans (b3.mono B2.out.size))
          clear b3
          go_wp2
          go_ret
          exact ⟨ret_bool (decide_eq_true (by omega)), B3.out⟩
end Go.Proofs.YtbnhchffdccjnaaDoor.refnameParts
