/-
  Layer 14, the program: valid.
-/
import Derived.Test.YtbilempgnpnacaaE4d
import Derived.Test.YtbilempgnpnacaaE4g
namespace Go.Proofs.Ytbilempgnpnacaa
set_option maxRecDepth 20000
open Go.RowKit
set_option linter.unusedVariables false
set_option linter.unusedSimpArgs false

def Edc.x (e : Edc) : Edx := (e.f, e.t, e.b)
/-- What a round over edits finds at its place. -/
theorem EdAt.round {w : World} {b o : Nat} {l : List Edc} (h : EdAt w (some ⟨b, o, none⟩) l) (k : Nat) (hk : k < l.length) : ∃ av cv E, l[k].v = .slice av l[k].b.length cv ∧ arrDl l[k].f l[k].t (.slice av l[k].b.length cv) = E ∧
    w.rangeAt b (o + k * 3) E.toList ∧ Red w (.slice av l[k].b.length cv) l[k].b ∧ E.size = 3 ∧ E.all (·.oneCell') = true ∧ (Try.prog.info? 34).map (·.size) = some E.size ∧ (Try.prog.info? 34).map (·.size) = some E.toList.length := by
  obtain ⟨-, -, -, hr⟩ := h.cells k hk
  obtain ⟨av, cv, hv, r1, r2, r3, r4⟩ := id hr
  rw [hv] at hr
  refine ⟨av, cv, _, hv, rfl, ?_, hr, rfl, arrDl_one _ _ _ _ _, infoEdit, infoEdit⟩
  have q := h.1.elem k hk
  rw [← hv]
  exact q
set_option maxHeartbeats 16000000 in
theorem valid_some (b o n c : Nat) (l : List Edc) (N : Int) (w : World) (h : EdAt w (some ⟨b, o, none⟩) l) (hb : b < w.heap.size) (hn : n = l.length) (hm : n ≤ 1000000) :
    Calls Try.prog 23 #[.slice (some ⟨b, o, none⟩) n c, .int .i64 N] w fun e w' => e = .returned (.bool (okE (l.map Edc.x) 0 N)) ∧ Below w.heap.size w w' := by
  obtain ⟨z, hz, hzs, hzv, hzb, hz1⟩ := zEdit_any
  have ZS := Lib.hid hzs
  have H := Lib.hid h; have HN := Lib.hid hn
  obtain ⟨L, hL⟩ : ∃ L, l.map Edc.x = L := ⟨_, rfl⟩
  have HL := Lib.hid hL
  have LL := Lib.hid (show L.length = l.length by rw [← hL, List.length_map])
  have HK := Lib.hid (show ∀ k (hk : k < l.length) (hk2 : k < L.length), L[k] = (l[k].f, l[k].t, l[k].b) from fun k hk hk2 => by simp only [← hL, List.getElem_map]; rfl)
  rw [hL]
  clear h hn hz hzs hzb hz1 hL
  go_enter Try.func23, Try.ntmps23
  go_wp2_with fail
  go_loopw [5, 10] (fun p i wr => ∃ k : Nat, k ≤ n ∧ i = .int .i64 k ∧ p = .int .i64 (lastE (L.take k) 0) ∧ okE (L.take k) 0 N = true ∧ Below w.heap.size w wr) (fun _ i _ => n - (intOf i).toNat)
  case atStart => exact ⟨0, Nat.zero_le _, rfl, rfl, rfl, Below.refl _ _⟩
  case round =>
    obtain ⟨k, hk, rfl, rfl, hok, hbr⟩ := hrel
    have HOK := Lib.hid hok; have HBR := Lib.hid hbr
    clear hok hbr
    by_cases hlt : k < n
    · have hkl : k < l.length := by rw [← HN.out]; exact hlt
      have hkL : k < L.length := by rw [LL.out]; exact hkl
      obtain ⟨av, cv, E, hv, hE, hrg, -, e3, eo, ie, il⟩ := (H.out.keep HBR.out).round k hkl
      have NX := okE_next L k hkL 0 N
      have LX := lastE_next L k hkL 0
      rw [HOK.out, Bool.true_and] at NX
      rw [HK.out k hkl hkL] at NX LX
      obtain ⟨p, hp⟩ : ∃ p, lastE (L.take k) 0 = p := ⟨_, rfl⟩
      obtain ⟨f, hf⟩ : ∃ f, l[k].f = f := ⟨_, rfl⟩
      obtain ⟨t, ht⟩ : ∃ t, l[k].t = t := ⟨_, rfl⟩
      rw [hf, ht] at NX hE LX
      rw [hp] at NX ⊢
      have NX := Lib.hid NX; have LX := Lib.hid LX; have HE := Lib.hid hE; have RG := Lib.hid hrg; have E3 := Lib.hid e3; have EO := Lib.hid eo; have IE := Lib.hid ie; have IL := Lib.hid il
      have SZ := Lib.hid (show E.size = z.size by rw [E3.out, ZS.out])
      have N2 := Lib.hid (heap_alloc_new wr (.cells z 34))
      have HB := hb
      have SE := Lib.hid (show stepE p N (f, t, l[k].b) = (decide (p ≤ f) && decide (f ≤ t) && decide (t ≤ N)) from rfl)
      clear hrg e3 eo ie il hE hv hp hf ht
      have hc : f < p ∨ (¬ f < p ∧ t < f) ∨ (¬ f < p ∧ ¬ t < f ∧ N < t) ∨ (¬ f < p ∧ ¬ t < f ∧ ¬ N < t) := by omega
      rcases hc with h1 | ⟨h1, h2⟩ | ⟨h1, h2, h3⟩ | ⟨h1, h2, h3⟩
      all_goals
        go_wp2_with (first
          | (with_reducible refine wpList_load_mid rfl 34 (.tmp 12) rfl b (o + k * 3) rfl E.toList _ RG.out Try.underlying34 rfl IL.out ?_; rw [Array.toArray_toList])
          | (with_reducible refine wpList_store_all rfl 34 (.tmp 7) (.tmp 13) rfl wr.heap.size E rfl rfl 34 z N2.out IE.out SZ.out EO.out ?_; intro w4 hg4 ho4 hs4; obtain ⟨x0, x1, x2⟩ := edit_cells hg4 HE.out; clear hg4)
          | fail)
        have B4 := Lib.hid ((HBR.out.alloc HBR.out.size (.cells z 34)).trans (ho4.below (B := w.heap.size) HBR.out.size (by simp; have := HBR.out.size; omega)))
        first
          | (go_ret
             refine ⟨?_, B4.out⟩
             have q := NX.out
             rw [SE.out, show (decide (p ≤ f) && decide (f ≤ t) && decide (t ≤ N)) = false from by simp; omega] at q
             rw [okE_false L (k + 1) 0 N q]
             rfl)
          | (go_roundw
             case rel =>
               refine ⟨k + 1, by omega, by go_num, by rw [LX.out], ?_, B4.out⟩
               rw [NX.out, SE.out]
               simp
               omega
             case measure => simp [intOf]; omega)
    · have hkn : k = n := by omega
      have q := HOK.out
      rw [hkn, HN.out, ← LL.out, List.take_length] at q
      have Q := Lib.hid q
      clear q
      subst hkn
      go_wp2
      go_ret
      exact ⟨by rw [Q.out]; rfl, HBR.out⟩
theorem valid_is (a : Option Addr) (n c : Nat) (l : List Edc) (N : Int) (w : World) (h : EdAt w a l) (hn : n = l.length) (hm : n ≤ 1000000) :
    Calls Try.prog 23 #[.slice a n c, .int .i64 N] w fun e w' => e = .returned (.bool (okE (l.map Edc.x) 0 N)) ∧ Below w.heap.size w w' := by
  by_cases hp : 0 < l.length
  · obtain ⟨b, o, rfl, hb⟩ := h.1.some hp
    exact valid_some b o n c l N w h hb hn hm
  · obtain rfl : l = [] := List.eq_nil_of_length_eq_zero (by omega)
    obtain rfl : n = 0 := hn
    have e : okE (([] : List Edc).map Edc.x) 0 N = true := rfl
    rw [e]
    go_enter Try.func23, Try.ntmps23
    go_wp2_with fail
    refine wp_loop_rounds 1 ?_
    rw [rounds_succ]
    go_wp2
    go_ret
    exact ⟨rfl, Below.refl _ _⟩
end Go.Proofs.Ytbilempgnpnacaa
