/-
  Layer 14, the program: join.
-/
import Derived.Test.YtbilempgnpnacaaE4i
namespace Go.Proofs.Ytbilempgnpnacaa
set_option maxRecDepth 20000
open Go.RowKit
set_option linter.unusedVariables false
set_option linter.unusedSimpArgs false

set_option maxHeartbeats 16000000 in
theorem join_is (b o n c : Nat) (l : List Prt) (w : World) (h : PtAt w (some ⟨b, o, none⟩) l) (hbl : b < w.heap.size) (hn : n = l.length) (hc : n ≤ c) (h0 : 0 < n) (hm : n ≤ 1000000) (ht : (l.map (·.b)).flatten.length ≤ 65536) :
    Calls Try.prog 24 #[.slice (some ⟨b, o, none⟩) n c] w fun e w' => ∃ v, e = .returned (.tuple #[v, .int .i64 0]) ∧ FreshR w.heap.size w' v (l.map (·.b)).flatten ∧ Below w.heap.size w w' := by
  have CJ := Lib.hid (bJoin_is b o n c l w h hn hc h0 hm ht)
  have H := Lib.hid h; have HN := Lib.hid hn
  obtain ⟨L, hL⟩ : ∃ L, l.map (·.b) = L := ⟨_, rfl⟩
  have LL := Lib.hid (show L.length = l.length by rw [← hL, List.length_map])
  have HK := Lib.hid (show ∀ k (hk : k < l.length) (hk2 : k < L.length), L[k] = l[k].b from fun k hk hk2 => by simp only [← hL, List.getElem_map])
  rw [hL] at CJ ht ⊢
  have HT := Lib.hid ht
  clear h hn hL ht
  go_enter Try.func24, Try.ntmps24
  go_wp2_with fail
  go_loopw [4, 9] (fun p i wr => ∃ k s : Nat, k ≤ n ∧ i = .int .i64 k ∧ p = .int .i64 s ∧ s + (L.take k).flatten.length = 65536 ∧ wr = w) (fun _ i _ => n - (intOf i).toNat)
  case atStart => exact ⟨0, 65536, Nat.zero_le _, rfl, rfl, by simp, rfl⟩
  case round =>
    obtain ⟨k, s, hk, rfl, rfl, hs, hwr⟩ := hrel
    have HS := Lib.hid hs
    clear hs
    by_cases hlt : k < n
    · have hkl : k < l.length := by rw [← HN.out]; exact hlt
      have hkL : k < L.length := by rw [LL.out]; exact hkl
      obtain ⟨hx, a, cx, hv, -⟩ := H.out.at k hkl
      rw [← hwr, hv] at hx
      have FN := flat_next L k hkL
      have FL := flat_le L (k + 1)
      rw [HK.out k hkl hkL] at FN
      obtain ⟨m, hm2⟩ : ∃ m, l[k].b.length = m := ⟨_, rfl⟩
      rw [hm2] at FN hx
      have h1 : ¬ ((s : Int) < (m : Int)) := by have := HS.out; have := HT.out; omega
      have h2 : m ≤ s := by omega
      have h3 : (s : Int) - m = ((s - m : Nat) : Int) := by omega
      have hs6 : s ≤ 65536 := by have := HS.out; omega
      have HS2 := Lib.hid (show (s - m) + (L.take (k + 1)).flatten.length = 65536 by have := HS.out; omega)
      have HW := Lib.hid hwr
      clear FN FL hv hwr hm2
      go_wp2
      go_roundw
      case rel => exact ⟨k + 1, s - m, by omega, by go_num, by go_num, HS2.out, HW.out⟩
      case measure => simp [intOf]; omega
    · have hkn : k = n := by omega
      subst hkn
      subst hwr
      go_wp2_with fail
      refine CJ.out.mono ?_
      rintro e w1 ⟨v, rfl, hf, hb⟩
      have HF := Lib.hid hf
      clear hf
      obtain ⟨a, cc, hv, -⟩ := HF.out.block
      obtain ⟨fl, hfl⟩ : ∃ fl, L.flatten.length = fl := ⟨_, rfl⟩
      rw [hfl] at hv
      clear hfl
      subst hv
      go_wp2
      go_ret2
      exact ⟨.slice a fl cc, rfl, HF.out, hb⟩
end Go.Proofs.Ytbilempgnpnacaa
