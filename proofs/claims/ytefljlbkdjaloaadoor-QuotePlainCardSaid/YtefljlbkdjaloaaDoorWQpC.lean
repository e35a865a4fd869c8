/-
  The walk of QuotePlain: an odd byte, form C. (Made by tools/genplain3.py.)
-/
import Derived.Test.YtefljlbkdjaloaaDoorWQp0
import Derived.Test.YtefljlbkdjaloaaDoorOd
namespace Go.Proofs.YtefljlbkdjaloaaDoor.quotePlain
open Go.RowKit
set_option linter.unusedVariables false
set_option linter.unusedSimpArgs false

set_option maxHeartbeats 16000000 in
set_option maxRecDepth 100000 in
theorem oddC (w : World) (a : Option Addr) (n c : Nat) (hn : n ≤ maxLen) (x : Int) (cb : UInt8) (ok0 : Hid (okB cb = false)) (d1 : decide ((cb.toNat : Int) ≤ 32) = false) (d2 : ((cb.toNat : Int) == 34) = false) (d3 : ((cb.toNat : Int) == 92) = true) (tab : Tab w) (h0 : 0 < n) (h1 : n ≤ 100)
    (hcell : ∃ b o, a = some ⟨b, o, none⟩ ∧ b < w.heap.size ∧ ∀ i, i < n → ∃ x : Int, w.cell? ⟨b, o + i, none⟩ = some (.int .i64 x)) :
    Calls Tryd.prog 7 #[.slice a n c, .int .i64 x, .int .u8 cb.toNat] w fun e w' => e = .returned (.bool true) ∧ Below w.heap.size w w' := by
  have T := Lib.hid tab
  obtain ⟨g, o, rfl, hg, hc⟩ := hcell
  have HC := Lib.hid hc
  obtain ⟨i0, hi0, hz0, hz1, hz2⟩ := info_parts info5
  have hd0 : ((n : Int) == 0) = false := by simp; omega
  have hd1 : decide ((100 : Int) < (n : Int)) = false := decide_eq_false (by omega)
  clear tab hc
  go_enter Tryd.func7, Tryd.ntmps7
  go_wp2_with fail
  go_loopw [7, 8] (fun v iv wr => ∃ (k : Nat) (l : List UInt8), k ≤ n ∧ iv = .int .i64 k ∧ l.length = k ∧ Hid (∀ c ∈ l, okB c = true) ∧ wr.ownsRow w.heap.size 5 1 v l.length (Lib.byteCells l) ∧ Below w.heap.size w wr) (fun _ iv _ => n - (intOf iv).toNat)
  case atStart => exact ⟨0, [], Nat.zero_le _, rfl, rfl, Lib.hid (by simp), own_new w _, (Below.refl _ w).alloc (Nat.le_refl _) _⟩
  case round =>
    obtain ⟨k, l, hk, rfl, hlk, hok, hown, hbr⟩ := hrel
    by_cases hlt : k < n
    · obtain ⟨y, hy⟩ := HC.out k hlt
      have q : wr.cell? ⟨g, o + k, none⟩ = some (.int .i64 y) := (hbr.cell (p := ⟨g, o + k, none⟩) hg).trans hy
      obtain ⟨u, hu⟩ : ∃ u, IntKind.u64.wrap y = u := ⟨_, rfl⟩
      have hu0 : 0 ≤ u := by rw [← hu, IntKind.wrap_u64]; omega
      obtain ⟨r, hr⟩ : ∃ r : Nat, u.tmod 12 = (r : Int) := by
        rw [IntWalk.rem_in u _ hu0]
        exact Int.eq_ofNat_of_zero_le (Int.emod_nonneg _ (by omega))
      have hr3 : r < 12 := by
        rw [IntWalk.rem_in u _ hu0] at hr
        have := Int.emod_lt_of_pos u (show (0 : Int) < 12 by omega)
        omega
      have hw := word_at r hr3
      obtain ⟨ch, hch⟩ : ∃ ch : UInt8, ch = wordL.getD r 0 := ⟨_, rfl⟩
      rw [← hch] at hw
      have hcok : okB ch = true := by rw [hch]; exact word_ok ⟨r, hr3⟩
      have OK2 : Hid (∀ c ∈ l ++ [ch], okB c = true) := Lib.hid (by
        intro c hc
        rcases List.mem_append.1 hc with h | h
        · exact hok.out c h
        · simp at h; rw [h]; exact hcok)
      clear hy hch hcok
      go_wp2_with (at_builtin; refine wpList_append_own _ rfl _ _ 31 rfl w.heap.size 5 i0 (.int .u8 0) 1 1 Tryd.underlying31 hi0 hz0 hz1 hz2 rfl (by decide) _ _ _ rfl (hown.alloc _) ⟨wr.heap.size, 0, none⟩ 1 1 [.int .u8 ch.toNat] rfl rfl ?c1 ?c2 ?c3 ?c4 ?c5 ?_)
      try (case c1 =>
        intro j u hj
        cases j with
        | zero =>
          simp at hj
          subst hj
          exact Lib.cell_of_heap (heap_alloc_new wr _) 0
        | succ j => simp at hj)
      case c2 => first | rfl | (intro u hu; simp at hu; subst hu; rfl)
      case c3 => unfold maxLen; omega
      case c4 => omega
      case c5 => have := hbr.size; simp; omega
      intro v' w3 hown3 hgrow3 _
      have hbr3 : Below w.heap.size w w3 := (hbr.alloc hbr.size _).grown hgrow3 (by have := hbr.size; simp; omega) (fun j hj => own_block hown j hj)
      have HO3 : Hid (w3.ownsRow w.heap.size 5 1 v' (l ++ [ch]).length (Lib.byteCells (l ++ [ch]))) := Lib.hid (by rw [Lib.byteCells_append, List.length_append, hlk]; exact hown3)
      clear hown3 hgrow3 hown hbr
      go_wp2
      go_roundw
      case rel => exact ⟨k + 1, l ++ [ch], by omega, by go_num, by simp; omega, OK2, HO3.out, hbr3⟩
      case measure => simp [intOf]; omega
    · obtain rfl : k = n := by omega
      subst hlk
      obtain ⟨gs, cs, rfl, hgs, hgl⟩ := own_some hown h0
      go_wp2_with (at_builtin; refine wpList_append_own _ rfl _ _ 31 rfl wr.heap.size 5 i0 (.int .u8 0) 1 1 Tryd.underlying31 hi0 hz0 hz1 hz2 rfl (by decide) (.slice none 0 0) 0 [] rfl (World.ownsRow_nil _ _ _ _) ⟨gs, 0, none⟩ l.length cs (Lib.byteCells l) rfl (by simp [Lib.byteCells]) (own_news hown) ?q2 ?q3 ?q4 ?q5 ?_)
      case q2 => intro u hu; simp [Lib.byteCells] at hu; obtain ⟨x, _, rfl⟩ := hu; rfl
      case q3 => unfold maxLen; omega
      case q4 => omega
      case q5 => omega
      intro t wt hownt hgrt _
      obtain ⟨gt, ct, rfl, hgt, hgtl⟩ := own_some hownt h0
      have hbt : Below wr.heap.size wr wt := (Below.refl _ wr).grown hgrt (Nat.le_refl _) (fun j hj => by cases hj)
      have hbw := hbr.trans (hbt.mono hbr.size)
      have hos := own_keep hown hbt
      have hgst : gs < gt := by omega
      obtain ⟨u, hu⟩ : ∃ u, IntKind.u64.wrap x = u := ⟨_, rfl⟩
      have hu0 : 0 ≤ u := by rw [← hu, IntKind.wrap_u64]; omega
      have hwl : IntKind.u64.wrap (l.length : Int) = (l.length : Int) := by rw [IntKind.wrap_u64]; omega
      obtain ⟨p, hp⟩ : ∃ p : Nat, u.tmod (l.length : Int) = (p : Int) := by
        rw [IntWalk.rem_in u _ hu0]
        exact Int.eq_ofNat_of_zero_le (Int.emod_nonneg _ (by omega))
      have hp3 : p < l.length := by
        rw [IntWalk.rem_in u _ hu0] at hp
        have := Int.emod_lt_of_pos u (show (0 : Int) < (l.length : Int) by omega)
        omega
      have hne0 : ((l.length : Int) == 0) = false := beq_eq_false_iff_ne.2 (by omega)
      obtain ⟨y, hy⟩ := own_cell hownt p hp3
      have hfz := hownt.frozenAt p
      obtain ⟨hst, hgr⟩ := hownt.stored p (.int .u8 cb.toNat)
      have e1 : (Lib.byteCells l).set p (.int .u8 cb.toNat) = Lib.byteCells (l.set p cb) := by simp [Lib.byteCells, List.map_set]
      rw [e1] at hst
      have hbs := hbw.grown hgr hbw.size (fun j hj => by cases hj; have := hbr.size; omega)
      have hbs2 := hbt.grown hgr hbt.size (fun j hj => by cases hj; omega)
      have hos2 := own_keep hown hbs2
      obtain ⟨m, hm⟩ : ∃ m, m = l.set p cb := ⟨_, rfl⟩
      have hml : m.length = l.length := by rw [hm, List.length_set]
      have CM := Lib.hid (show cb ∈ m by rw [hm]; exact List.mem_iff_getElem.2 ⟨p, by rw [List.length_set]; omega, by simp⟩)
      have OKM : Hid (okB cb = true → ∀ c ∈ m, okB c = true) := Lib.hid (fun h c hc => by
        rw [hm] at hc
        rcases List.mem_or_eq_of_mem_set hc with h2 | h2
        · exact hok.out c h2
        · rw [h2]; exact h)
      rw [← hm] at hst
      have hst' := hst
      rw [← hml] at hst'
      have hcv := fun (W : World) (h : Below (wt.setCell ⟨gt, p, none⟩ (.int .u8 cb.toNat)).heap.size (wt.setCell ⟨gt, p, none⟩ (.int .u8 cb.toNat)) W) => ((own_bat hst').keep h).conv (P := Tryd.prog) ct 31 5 Tryd.underlying31 Tryd.underlying5 9 Tryd.underlying9
      simp only [hml] at hcv
      have hcs := fun (W : World) (h : Below (wt.setCell ⟨gt, p, none⟩ (.int .u8 cb.toNat)).heap.size (wt.setCell ⟨gt, p, none⟩ (.int .u8 cb.toNat)) W) => ((own_bat hos2).keep h).conv (P := Tryd.prog) cs 31 5 Tryd.underlying31 Tryd.underlying5 9 Tryd.underlying9
      have hc0 := hcv _ (Below.refl _ _)
      have HCV := Lib.hid hcv; have HCS := Lib.hid hcs
      clear hst' hcv hcs
      have HST := Lib.hid hst; have HBS := Lib.hid hbs; have HOS := Lib.hid hos2
      clear hst hbs hos2 hm e1 hbs2 hos hbw hbt hownt hown hbr hgr hgrt
      have qo := odd_quote m cb CM.out ok0.out
      have bl := (body_len m).1
      have bl4 := (body_len m).2
      have ql := ok_quote l (by omega) hok.out
      obtain ⟨Q, hQ⟩ : ∃ Q, Q = quoteL m := ⟨_, rfl⟩
      obtain ⟨N, hN⟩ : ∃ N, N = (bodyL m).length + 1 := ⟨_, rfl⟩
      obtain ⟨L, hL⟩ : ∃ L, L = Q.length := ⟨_, rfl⟩
      have hL1 : L = N + 1 := by rw [hL, hQ, qo, hN]; simp
      have hx0 := fun h2 => getD_str Q 0 (by omega) h2
      have hx1 := fun h2 => getD_str Q N (by omega) h2
      have hQ1 : Q.getD 0 0 = 34 := by rw [hQ, qo]; rfl
      have hQ2 : Q.getD N 0 = 34 := by rw [hQ, qo, hN]; simp
      rw [hQ1] at hx0
      rw [hQ2] at hx1
      have C3 := Lib.hid (fun w tb => (by have h := Quote_is m w (by omega) tb; rw [← hQ] at h; exact h : Calls Tryd.prog 15 #[.string ⟨m.toArray⟩] w fun e w' => e = .returned (.string ⟨Q.toArray⟩) ∧ Below w.heap.size w w'))
      have C4 := Lib.hid (fun w tb => (by have h := Quote_is l w (by omega) tb; rw [ql.2] at h; exact h : Calls Tryd.prog 15 #[.string ⟨l.toArray⟩] w fun e w' => e = .returned (.string ⟨l.toArray⟩) ∧ Below w.heap.size w w'))
      have CP := Lib.hid (fun w => (by have h := Plain_is l w; rw [ql.1] at h; exact h : Calls Tryd.prog 11 #[.string ⟨l.toArray⟩] w fun e w' => e = .returned (.bool true) ∧ Below w.heap.size w w'))
      have zq := size_toArray Q
      rw [← hL] at zq
      have hN0 : N < L := by omega
      have hL0 : (0 : Int) < (L : Int) := by omega
      have hL2 : (N : Int) < (L : Int) := by omega
      have hL3 : (L : Int) - 1 = (N : Int) := by omega
      have hge : (l.length : Int) + 2 ≤ (L : Int) := by omega
      have hLB : L ≤ 100000 := by omega
      generalize (⟨Q.toArray⟩ : ByteArray) = qs at zq hx0 hx1 C3
      have hs0 : 0 < qs.size := by omega
      have hs1 : N < qs.size := by omega
      have FZ := Lib.hid zq; have FG := Lib.hid hge; have FX0 : Hid (∃ h : 0 < qs.size, qs[0]'h = 34) := Lib.hid ⟨hs0, hx0 hs0⟩; have FX1 : Hid (∃ h : N < qs.size, qs[N]'h = 34) := Lib.hid ⟨hs1, hx1 hs1⟩; have FL1 := Lib.hid hL1; have FLB := Lib.hid hLB
      clear ql qo hQ hQ1 hQ2 hL hL1 hN bl bl4 zq hx0 hx1 hN0 hL0 hL2 hL3 hge hs0 hs1 hLB
      generalize (⟨m.toArray⟩ : ByteArray) = ms at hc0 HCV C3
      generalize (⟨l.toArray⟩ : ByteArray) = ls at HCS C4 CP
      have qs2 : (ls.toList == ls.toList) = true := by simp
      go_wp2_with fail
      refine (C3.out _ (T.out.below HBS.out).utf).mono ?_
      rintro e w1 ⟨rfl, b1⟩
      clear hc0
      have b1w := HBS.out.trans (b1.mono HBS.out.size)
      go_wp2_with fail
      refine wp_region_any (by kernel_rfl) ?_
      change wpAny _ _ _ _ _ _ _ (World.drew _)
      refine wpAny_ready (rs := [0]) (by kernel_rfl) (by simp) ?_
      refine AllReady.cons rfl (fun K hK => ?_) AllReady.nil
      go_simp
      refine (awake_quote _ (T.out.below b1w.drew)).mono ?_
      rintro e2 w2 ⟨rfl, b2⟩
      have b12 := b1.drew.trans (b2.mono b1.drew.size)
      have b2w := HBS.out.trans (b12.mono HBS.out.size)
      have hd2 := HCS.out w2 b12
      refine hK _ _ ?_
      clear hK K b2
      refine wpAny_take (i := 1) (v := .bool true) rfl (by kernel_rfl) (by kernel_rfl) (by kernel_rfl) (fun _ _ _ h => h) (Or.inl ⟨by kernel_rfl, fun w => by go_simp⟩) ?_
      refine wpAny_take (i := 2) (v := .slice (some ⟨gs, 0, none⟩) l.length cs) rfl (by kernel_rfl) (by kernel_rfl) (by kernel_rfl) (fun _ _ _ h => h) (Or.inl ⟨by kernel_rfl, fun w => by go_simp⟩) ?_
      refine wpAny_take (i := 5) (v := .slice (some ⟨gs, 0, none⟩) l.length cs) rfl (by kernel_rfl) (by kernel_rfl) (by kernel_rfl) (fun _ _ _ h => h) (Or.inl ⟨by kernel_rfl, fun w => by go_simp⟩) ?_
      refine wpAny_ready (rs := [3, 6]) (by kernel_rfl) (by simp) ?_
      refine AllReady.cons rfl (fun K hK => ?_) (AllReady.cons rfl (fun K hK => ?_) AllReady.nil)
      · go_simp
        refine hK _ _ ?_
        clear hK K
        refine wpAny_ready (rs := [4, 6]) (by kernel_rfl) (by simp) ?_
        refine AllReady.cons rfl (fun K hK => ?_) (AllReady.cons rfl (fun K hK => ?_) AllReady.nil)
        · go_simp
          refine (C4.out _ (T.out.below b2w).utf).mono ?_
          rintro e3 w3 ⟨rfl, b3⟩
          have b13 := b12.trans (b3.mono b12.size)
          have b3w := HBS.out.trans (b13.mono HBS.out.size)
          have hd3 := HCS.out w3 b13
          refine hK _ _ ?_
          clear hK K b3
          refine wpAny_ready (rs := [6]) (by kernel_rfl) (by simp) ?_
          refine AllReady.cons rfl (fun K hK => ?_) AllReady.nil
          go_simp
          refine hK _ _ ?_
          clear hK K
          refine wpAny_take (i := 7) (v := .bool true) rfl (by kernel_rfl) (by kernel_rfl) (by kernel_rfl) (fun _ _ _ h => h) (Or.inl ⟨by kernel_rfl, fun w => by go_simp⟩) ?_
          refine wpAny_take (i := 8) (v := .bool true) rfl (by kernel_rfl) (by kernel_rfl) (by kernel_rfl) (fun _ _ _ h => h) (Or.inl ⟨by kernel_rfl, fun w => by go_simp⟩) ?_
          refine wpAny_take (i := 9) (v := .bool true) rfl (by kernel_rfl) (by kernel_rfl) (by kernel_rfl) (fun _ _ _ h => h) (Or.inl ⟨by kernel_rfl, fun w => by go_simp⟩) ?_
          refine wpAny_take (i := 10) (v := .slice (some ⟨gs, 0, none⟩) l.length cs) rfl (by kernel_rfl) (by kernel_rfl) (by kernel_rfl) (fun _ _ _ h => h) (Or.inl ⟨by kernel_rfl, fun w => by go_simp⟩) ?_
          refine wpAny_ready (rs := [11]) (by kernel_rfl) (by simp) ?_
          refine AllReady.cons rfl (fun K hK => ?_) AllReady.nil
          go_simp
          refine hK _ _ ?_
          clear hK K
          refine wpAny_ready (rs := [12]) (by kernel_rfl) (by simp) ?_
          refine AllReady.cons rfl (fun K hK => ?_) AllReady.nil
          go_simp
          refine (CP.out _).mono ?_
          rintro e4 w4 ⟨rfl, b4⟩
          have b14 := b13.trans (b4.mono b13.size)
          have b4w := HBS.out.trans (b14.mono HBS.out.size)
          refine hK _ _ ?_
          clear hK K b4
          refine wpAny_take (i := 13) (v := .bool true) rfl (by kernel_rfl) (by kernel_rfl) (by kernel_rfl) (fun _ _ _ h => h) (Or.inl ⟨by kernel_rfl, fun w => by go_simp⟩) ?_
          refine wpAny_take (i := 14) (v := .bool true) rfl (by kernel_rfl) (by kernel_rfl) (by kernel_rfl) (fun _ _ _ h => h) (Or.inl ⟨by kernel_rfl, fun w => by go_simp⟩) ?_
          refine wpAny_take (i := 15) (v := .bool true) rfl (by kernel_rfl) (by kernel_rfl) (by kernel_rfl) (fun _ _ _ h => h) (Or.inl ⟨by kernel_rfl, fun w => by go_simp⟩) ?_
          refine wpAny_take (i := 16) (v := .bool true) rfl (by kernel_rfl) (by kernel_rfl) (by kernel_rfl) (fun _ _ _ h => h) (Or.inl ⟨by kernel_rfl, fun w => by go_simp⟩) ?_
          refine wpAny_take (i := 17) (v := .string qs) rfl (by kernel_rfl) (by kernel_rfl) (by kernel_rfl) (fun _ _ _ h => h) (Or.inl ⟨by kernel_rfl, fun w => by go_simp⟩) ?_
          refine wpAny_take (i := 18) (v := .int .i64 L) rfl (by kernel_rfl) (by kernel_rfl) (by kernel_rfl) (fun _ _ _ h => h) (Or.inl ⟨by kernel_rfl, y_len _ _ (.tmp 85) (by kernel_rfl) qs L FZ.out (by kernel_rfl)⟩) ?_
          refine wpAny_take (i := 19) (v := .slice (some ⟨gt, 0, none⟩) l.length ct) rfl (by kernel_rfl) (by kernel_rfl) (by kernel_rfl) (fun _ _ _ h => h) (Or.inl ⟨by kernel_rfl, fun w => by go_simp⟩) ?_
          refine wpAny_take (i := 20) (v := .int .i64 l.length) rfl (by kernel_rfl) (by kernel_rfl) (by kernel_rfl) (fun _ _ _ h => h) (Or.inl ⟨by kernel_rfl, y_lens _ _ (.tmp 87) (by kernel_rfl) (some ⟨gt, 0, none⟩) l.length ct (by kernel_rfl)⟩) ?_
          refine wpAny_take (i := 21) (v := .int .i64 ((l.length : Int) + 2)) rfl (by kernel_rfl) (by kernel_rfl) (by kernel_rfl) (fun _ _ _ h => h) (Or.inl ⟨by kernel_rfl, y_add _ _ (.tmp 88) (by kernel_rfl) l.length (by omega) (by kernel_rfl) (by kernel_rfl)⟩) ?_
          refine wpAny_take (i := 22) (v := .bool true) rfl (by kernel_rfl) (by kernel_rfl) (by kernel_rfl) (fun _ _ _ h => h) (Or.inl ⟨by kernel_rfl, y_geq _ _ (.tmp 86) (.tmp 89) (by kernel_rfl) L ((l.length : Int) + 2) FG.out (by kernel_rfl) (by kernel_rfl)⟩) ?_
          refine wpAny_take (i := 23) (v := .bool true) rfl (by kernel_rfl) (by kernel_rfl) (by kernel_rfl) (fun _ _ _ h => h) (Or.inl ⟨by kernel_rfl, fun w => by go_simp⟩) ?_
          refine wpAny_take (i := 24) (v := .bool true) rfl (by kernel_rfl) (by kernel_rfl) (by kernel_rfl) (fun _ _ _ h => h) (Or.inl ⟨by kernel_rfl, fun w => by go_simp⟩) ?_
          refine wpAny_take (i := 25) (v := .string qs) rfl (by kernel_rfl) (by kernel_rfl) (by kernel_rfl) (fun _ _ _ h => h) (Or.inl ⟨by kernel_rfl, fun w => by go_simp⟩) ?_
          refine wpAny_take (i := 26) (v := .int .u8 34) rfl (by kernel_rfl) (by kernel_rfl) (by kernel_rfl) (fun _ _ _ h => h) (Or.inl ⟨by kernel_rfl, y_idx _ _ (.tmp 93) (.const (.int .i64 0)) (by kernel_rfl) qs 0 FX0.out (by kernel_rfl) (by kernel_rfl)⟩) ?_
          refine wpAny_take (i := 27) (v := .bool true) rfl (by kernel_rfl) (by kernel_rfl) (by kernel_rfl) (fun _ _ _ h => h) (Or.inl ⟨by kernel_rfl, y_eql _ _ (.tmp 94) (by kernel_rfl) (by kernel_rfl) (by kernel_rfl)⟩) ?_
          refine wpAny_take (i := 28) (v := .bool true) rfl (by kernel_rfl) (by kernel_rfl) (by kernel_rfl) (fun _ _ _ h => h) (Or.inl ⟨by kernel_rfl, fun w => by go_simp⟩) ?_
          refine wpAny_take (i := 29) (v := .bool true) rfl (by kernel_rfl) (by kernel_rfl) (by kernel_rfl) (fun _ _ _ h => h) (Or.inl ⟨by kernel_rfl, fun w => by go_simp⟩) ?_
          refine wpAny_take (i := 30) (v := .string qs) rfl (by kernel_rfl) (by kernel_rfl) (by kernel_rfl) (fun _ _ _ h => h) (Or.inl ⟨by kernel_rfl, fun w => by go_simp⟩) ?_
          refine wpAny_take (i := 31) (v := .string qs) rfl (by kernel_rfl) (by kernel_rfl) (by kernel_rfl) (fun _ _ _ h => h) (Or.inl ⟨by kernel_rfl, fun w => by go_simp⟩) ?_
          refine wpAny_take (i := 32) (v := .int .i64 L) rfl (by kernel_rfl) (by kernel_rfl) (by kernel_rfl) (fun _ _ _ h => h) (Or.inl ⟨by kernel_rfl, y_len _ _ (.tmp 99) (by kernel_rfl) qs L FZ.out (by kernel_rfl)⟩) ?_
          refine wpAny_take (i := 33) (v := .int .i64 N) rfl (by kernel_rfl) (by kernel_rfl) (by kernel_rfl) (fun _ _ _ h => h) (Or.inl ⟨by kernel_rfl, y_sub _ _ (.tmp 100) (by kernel_rfl) L N FL1.out FLB.out (by kernel_rfl) (by kernel_rfl)⟩) ?_
          refine wpAny_take (i := 34) (v := .int .u8 34) rfl (by kernel_rfl) (by kernel_rfl) (by kernel_rfl) (fun _ _ _ h => h) (Or.inl ⟨by kernel_rfl, y_idx _ _ (.tmp 98) (.tmp 101) (by kernel_rfl) qs N FX1.out (by kernel_rfl) (by kernel_rfl)⟩) ?_
          refine wpAny_take (i := 35) (v := .bool true) rfl (by kernel_rfl) (by kernel_rfl) (by kernel_rfl) (fun _ _ _ h => h) (Or.inl ⟨by kernel_rfl, y_eql _ _ (.tmp 102) (by kernel_rfl) (by kernel_rfl) (by kernel_rfl)⟩) ?_
          refine wpAny_take (i := 36) (v := .bool true) rfl (by kernel_rfl) (by kernel_rfl) (by kernel_rfl) (fun _ _ _ h => h) (Or.inl ⟨by kernel_rfl, fun w => by go_simp⟩) ?_
          refine wpAny_take (i := 37) (v := .bool true) rfl (by kernel_rfl) (by kernel_rfl) (by kernel_rfl) (fun _ _ _ h => h) (Or.inl ⟨by kernel_rfl, fun w => by go_simp⟩) ?_
          refine wpAny_take (i := 38) (v := undef) rfl (by kernel_rfl) (by kernel_rfl) (by kernel_rfl) (fun _ _ _ h => h) (Or.inr ⟨by kernel_rfl, rfl⟩) ?_
          refine wpAny_take (i := 39) (v := undef) rfl (by kernel_rfl) (by kernel_rfl) (by kernel_rfl) (fun _ _ _ h => h) (Or.inr ⟨by kernel_rfl, rfl⟩) ?_
          refine wpAny_take (i := 40) (v := undef) rfl (by kernel_rfl) (by kernel_rfl) (by kernel_rfl) (fun _ _ _ h => h) (Or.inr ⟨by kernel_rfl, rfl⟩) ?_
          refine wpAny_take (i := 41) (v := undef) rfl (by kernel_rfl) (by kernel_rfl) (by kernel_rfl) (fun _ _ _ h => h) (Or.inr ⟨by kernel_rfl, rfl⟩) ?_
          refine wpAny_take (i := 42) (v := undef) rfl (by kernel_rfl) (by kernel_rfl) (by kernel_rfl) (fun _ _ _ h => h) (Or.inr ⟨by kernel_rfl, rfl⟩) ?_
          refine wpAny_take (i := 43) (v := undef) rfl (by kernel_rfl) (by kernel_rfl) (by kernel_rfl) (fun _ _ _ h => h) (Or.inr ⟨by kernel_rfl, rfl⟩) ?_
          refine wpAny_take (i := 44) (v := undef) rfl (by kernel_rfl) (by kernel_rfl) (by kernel_rfl) (fun _ _ _ h => h) (Or.inr ⟨by kernel_rfl, rfl⟩) ?_
          refine wpAny_take (i := 45) (v := undef) rfl (by kernel_rfl) (by kernel_rfl) (by kernel_rfl) (fun _ _ _ h => h) (Or.inr ⟨by kernel_rfl, rfl⟩) ?_
          refine wpAny_take (i := 46) (v := .bool true) rfl (by kernel_rfl) (by kernel_rfl) (by kernel_rfl) (fun _ _ _ h => h) (Or.inl ⟨by kernel_rfl, fun w => by go_simp⟩) ?_
          refine wpAny_take (i := 47) (v := .bool true) rfl (by kernel_rfl) (by kernel_rfl) (by kernel_rfl) (fun _ _ _ h => h) (Or.inl ⟨by kernel_rfl, fun w => by go_simp⟩) ?_
          refine wpAny_take (i := 48) (v := .bool true) rfl (by kernel_rfl) (by kernel_rfl) (by kernel_rfl) (fun _ _ _ h => h) (Or.inl ⟨by kernel_rfl, fun w => by go_simp⟩) ?_
          refine wpAny_done (by kernel_rfl) ?_ _
          go_wp2
          go_ret
          exact ⟨by kernel_rfl, b4w⟩
        · go_simp
          refine hK _ _ ?_
          clear hK K
          refine wpAny_ready (rs := [4]) (by kernel_rfl) (by simp) ?_
          refine AllReady.cons rfl (fun K hK => ?_) AllReady.nil
          go_simp
          refine (C4.out _ (T.out.below b2w).utf).mono ?_
          rintro e3 w3 ⟨rfl, b3⟩
          have b13 := b12.trans (b3.mono b12.size)
          have b3w := HBS.out.trans (b13.mono HBS.out.size)
          have hd3 := HCS.out w3 b13
          refine hK _ _ ?_
          clear hK K b3
          refine wpAny_take (i := 7) (v := .bool true) rfl (by kernel_rfl) (by kernel_rfl) (by kernel_rfl) (fun _ _ _ h => h) (Or.inl ⟨by kernel_rfl, fun w => by go_simp⟩) ?_
          refine wpAny_take (i := 8) (v := .bool true) rfl (by kernel_rfl) (by kernel_rfl) (by kernel_rfl) (fun _ _ _ h => h) (Or.inl ⟨by kernel_rfl, fun w => by go_simp⟩) ?_
          refine wpAny_take (i := 9) (v := .bool true) rfl (by kernel_rfl) (by kernel_rfl) (by kernel_rfl) (fun _ _ _ h => h) (Or.inl ⟨by kernel_rfl, fun w => by go_simp⟩) ?_
          refine wpAny_take (i := 10) (v := .slice (some ⟨gs, 0, none⟩) l.length cs) rfl (by kernel_rfl) (by kernel_rfl) (by kernel_rfl) (fun _ _ _ h => h) (Or.inl ⟨by kernel_rfl, fun w => by go_simp⟩) ?_
          refine wpAny_ready (rs := [11]) (by kernel_rfl) (by simp) ?_
          refine AllReady.cons rfl (fun K hK => ?_) AllReady.nil
          go_simp
          refine hK _ _ ?_
          clear hK K
          refine wpAny_ready (rs := [12]) (by kernel_rfl) (by simp) ?_
          refine AllReady.cons rfl (fun K hK => ?_) AllReady.nil
          go_simp
          refine (CP.out _).mono ?_
          rintro e4 w4 ⟨rfl, b4⟩
          have b14 := b13.trans (b4.mono b13.size)
          have b4w := HBS.out.trans (b14.mono HBS.out.size)
          refine hK _ _ ?_
          clear hK K b4
          refine wpAny_take (i := 13) (v := .bool true) rfl (by kernel_rfl) (by kernel_rfl) (by kernel_rfl) (fun _ _ _ h => h) (Or.inl ⟨by kernel_rfl, fun w => by go_simp⟩) ?_
          refine wpAny_take (i := 14) (v := .bool true) rfl (by kernel_rfl) (by kernel_rfl) (by kernel_rfl) (fun _ _ _ h => h) (Or.inl ⟨by kernel_rfl, fun w => by go_simp⟩) ?_
          refine wpAny_take (i := 15) (v := .bool true) rfl (by kernel_rfl) (by kernel_rfl) (by kernel_rfl) (fun _ _ _ h => h) (Or.inl ⟨by kernel_rfl, fun w => by go_simp⟩) ?_
          refine wpAny_take (i := 16) (v := .bool true) rfl (by kernel_rfl) (by kernel_rfl) (by kernel_rfl) (fun _ _ _ h => h) (Or.inl ⟨by kernel_rfl, fun w => by go_simp⟩) ?_
          refine wpAny_take (i := 17) (v := .string qs) rfl (by kernel_rfl) (by kernel_rfl) (by kernel_rfl) (fun _ _ _ h => h) (Or.inl ⟨by kernel_rfl, fun w => by go_simp⟩) ?_
          refine wpAny_take (i := 18) (v := .int .i64 L) rfl (by kernel_rfl) (by kernel_rfl) (by kernel_rfl) (fun _ _ _ h => h) (Or.inl ⟨by kernel_rfl, y_len _ _ (.tmp 85) (by kernel_rfl) qs L FZ.out (by kernel_rfl)⟩) ?_
          refine wpAny_take (i := 19) (v := .slice (some ⟨gt, 0, none⟩) l.length ct) rfl (by kernel_rfl) (by kernel_rfl) (by kernel_rfl) (fun _ _ _ h => h) (Or.inl ⟨by kernel_rfl, fun w => by go_simp⟩) ?_
          refine wpAny_take (i := 20) (v := .int .i64 l.length) rfl (by kernel_rfl) (by kernel_rfl) (by kernel_rfl) (fun _ _ _ h => h) (Or.inl ⟨by kernel_rfl, y_lens _ _ (.tmp 87) (by kernel_rfl) (some ⟨gt, 0, none⟩) l.length ct (by kernel_rfl)⟩) ?_
          refine wpAny_take (i := 21) (v := .int .i64 ((l.length : Int) + 2)) rfl (by kernel_rfl) (by kernel_rfl) (by kernel_rfl) (fun _ _ _ h => h) (Or.inl ⟨by kernel_rfl, y_add _ _ (.tmp 88) (by kernel_rfl) l.length (by omega) (by kernel_rfl) (by kernel_rfl)⟩) ?_
          refine wpAny_take (i := 22) (v := .bool true) rfl (by kernel_rfl) (by kernel_rfl) (by kernel_rfl) (fun _ _ _ h => h) (Or.inl ⟨by kernel_rfl, y_geq _ _ (.tmp 86) (.tmp 89) (by kernel_rfl) L ((l.length : Int) + 2) FG.out (by kernel_rfl) (by kernel_rfl)⟩) ?_
          refine wpAny_take (i := 23) (v := .bool true) rfl (by kernel_rfl) (by kernel_rfl) (by kernel_rfl) (fun _ _ _ h => h) (Or.inl ⟨by kernel_rfl, fun w => by go_simp⟩) ?_
          refine wpAny_take (i := 24) (v := .bool true) rfl (by kernel_rfl) (by kernel_rfl) (by kernel_rfl) (fun _ _ _ h => h) (Or.inl ⟨by kernel_rfl, fun w => by go_simp⟩) ?_
          refine wpAny_take (i := 25) (v := .string qs) rfl (by kernel_rfl) (by kernel_rfl) (by kernel_rfl) (fun _ _ _ h => h) (Or.inl ⟨by kernel_rfl, fun w => by go_simp⟩) ?_
          refine wpAny_take (i := 26) (v := .int .u8 34) rfl (by kernel_rfl) (by kernel_rfl) (by kernel_rfl) (fun _ _ _ h => h) (Or.inl ⟨by kernel_rfl, y_idx _ _ (.tmp 93) (.const (.int .i64 0)) (by kernel_rfl) qs 0 FX0.out (by kernel_rfl) (by kernel_rfl)⟩) ?_
          refine wpAny_take (i := 27) (v := .bool true) rfl (by kernel_rfl) (by kernel_rfl) (by kernel_rfl) (fun _ _ _ h => h) (Or.inl ⟨by kernel_rfl, y_eql _ _ (.tmp 94) (by kernel_rfl) (by kernel_rfl) (by kernel_rfl)⟩) ?_
          refine wpAny_take (i := 28) (v := .bool true) rfl (by kernel_rfl) (by kernel_rfl) (by kernel_rfl) (fun _ _ _ h => h) (Or.inl ⟨by kernel_rfl, fun w => by go_simp⟩) ?_
          refine wpAny_take (i := 29) (v := .bool true) rfl (by kernel_rfl) (by kernel_rfl) (by kernel_rfl) (fun _ _ _ h => h) (Or.inl ⟨by kernel_rfl, fun w => by go_simp⟩) ?_
          refine wpAny_take (i := 30) (v := .string qs) rfl (by kernel_rfl) (by kernel_rfl) (by kernel_rfl) (fun _ _ _ h => h) (Or.inl ⟨by kernel_rfl, fun w => by go_simp⟩) ?_
          refine wpAny_take (i := 31) (v := .string qs) rfl (by kernel_rfl) (by kernel_rfl) (by kernel_rfl) (fun _ _ _ h => h) (Or.inl ⟨by kernel_rfl, fun w => by go_simp⟩) ?_
          refine wpAny_take (i := 32) (v := .int .i64 L) rfl (by kernel_rfl) (by kernel_rfl) (by kernel_rfl) (fun _ _ _ h => h) (Or.inl ⟨by kernel_rfl, y_len _ _ (.tmp 99) (by kernel_rfl) qs L FZ.out (by kernel_rfl)⟩) ?_
          refine wpAny_take (i := 33) (v := .int .i64 N) rfl (by kernel_rfl) (by kernel_rfl) (by kernel_rfl) (fun _ _ _ h => h) (Or.inl ⟨by kernel_rfl, y_sub _ _ (.tmp 100) (by kernel_rfl) L N FL1.out FLB.out (by kernel_rfl) (by kernel_rfl)⟩) ?_
          refine wpAny_take (i := 34) (v := .int .u8 34) rfl (by kernel_rfl) (by kernel_rfl) (by kernel_rfl) (fun _ _ _ h => h) (Or.inl ⟨by kernel_rfl, y_idx _ _ (.tmp 98) (.tmp 101) (by kernel_rfl) qs N FX1.out (by kernel_rfl) (by kernel_rfl)⟩) ?_
          refine wpAny_take (i := 35) (v := .bool true) rfl (by kernel_rfl) (by kernel_rfl) (by kernel_rfl) (fun _ _ _ h => h) (Or.inl ⟨by kernel_rfl, y_eql _ _ (.tmp 102) (by kernel_rfl) (by kernel_rfl) (by kernel_rfl)⟩) ?_
          refine wpAny_take (i := 36) (v := .bool true) rfl (by kernel_rfl) (by kernel_rfl) (by kernel_rfl) (fun _ _ _ h => h) (Or.inl ⟨by kernel_rfl, fun w => by go_simp⟩) ?_
          refine wpAny_take (i := 37) (v := .bool true) rfl (by kernel_rfl) (by kernel_rfl) (by kernel_rfl) (fun _ _ _ h => h) (Or.inl ⟨by kernel_rfl, fun w => by go_simp⟩) ?_
          refine wpAny_take (i := 38) (v := undef) rfl (by kernel_rfl) (by kernel_rfl) (by kernel_rfl) (fun _ _ _ h => h) (Or.inr ⟨by kernel_rfl, rfl⟩) ?_
          refine wpAny_take (i := 39) (v := undef) rfl (by kernel_rfl) (by kernel_rfl) (by kernel_rfl) (fun _ _ _ h => h) (Or.inr ⟨by kernel_rfl, rfl⟩) ?_
          refine wpAny_take (i := 40) (v := undef) rfl (by kernel_rfl) (by kernel_rfl) (by kernel_rfl) (fun _ _ _ h => h) (Or.inr ⟨by kernel_rfl, rfl⟩) ?_
          refine wpAny_take (i := 41) (v := undef) rfl (by kernel_rfl) (by kernel_rfl) (by kernel_rfl) (fun _ _ _ h => h) (Or.inr ⟨by kernel_rfl, rfl⟩) ?_
          refine wpAny_take (i := 42) (v := undef) rfl (by kernel_rfl) (by kernel_rfl) (by kernel_rfl) (fun _ _ _ h => h) (Or.inr ⟨by kernel_rfl, rfl⟩) ?_
          refine wpAny_take (i := 43) (v := undef) rfl (by kernel_rfl) (by kernel_rfl) (by kernel_rfl) (fun _ _ _ h => h) (Or.inr ⟨by kernel_rfl, rfl⟩) ?_
          refine wpAny_take (i := 44) (v := undef) rfl (by kernel_rfl) (by kernel_rfl) (by kernel_rfl) (fun _ _ _ h => h) (Or.inr ⟨by kernel_rfl, rfl⟩) ?_
          refine wpAny_take (i := 45) (v := undef) rfl (by kernel_rfl) (by kernel_rfl) (by kernel_rfl) (fun _ _ _ h => h) (Or.inr ⟨by kernel_rfl, rfl⟩) ?_
          refine wpAny_take (i := 46) (v := .bool true) rfl (by kernel_rfl) (by kernel_rfl) (by kernel_rfl) (fun _ _ _ h => h) (Or.inl ⟨by kernel_rfl, fun w => by go_simp⟩) ?_
          refine wpAny_take (i := 47) (v := .bool true) rfl (by kernel_rfl) (by kernel_rfl) (by kernel_rfl) (fun _ _ _ h => h) (Or.inl ⟨by kernel_rfl, fun w => by go_simp⟩) ?_
          refine wpAny_take (i := 48) (v := .bool true) rfl (by kernel_rfl) (by kernel_rfl) (by kernel_rfl) (fun _ _ _ h => h) (Or.inl ⟨by kernel_rfl, fun w => by go_simp⟩) ?_
          refine wpAny_done (by kernel_rfl) ?_ _
          go_wp2
          go_ret
          exact ⟨by kernel_rfl, b4w⟩
      · go_simp
        refine hK _ _ ?_
        clear hK K
        refine wpAny_ready (rs := [3]) (by kernel_rfl) (by simp) ?_
        refine AllReady.cons rfl (fun K hK => ?_) AllReady.nil
        go_simp
        refine hK _ _ ?_
        clear hK K
        refine wpAny_ready (rs := [4]) (by kernel_rfl) (by simp) ?_
        refine AllReady.cons rfl (fun K hK => ?_) AllReady.nil
        go_simp
        refine (C4.out _ (T.out.below b2w).utf).mono ?_
        rintro e3 w3 ⟨rfl, b3⟩
        have b13 := b12.trans (b3.mono b12.size)
        have b3w := HBS.out.trans (b13.mono HBS.out.size)
        have hd3 := HCS.out w3 b13
        refine hK _ _ ?_
        clear hK K b3
        refine wpAny_take (i := 7) (v := .bool true) rfl (by kernel_rfl) (by kernel_rfl) (by kernel_rfl) (fun _ _ _ h => h) (Or.inl ⟨by kernel_rfl, fun w => by go_simp⟩) ?_
        refine wpAny_take (i := 8) (v := .bool true) rfl (by kernel_rfl) (by kernel_rfl) (by kernel_rfl) (fun _ _ _ h => h) (Or.inl ⟨by kernel_rfl, fun w => by go_simp⟩) ?_
        refine wpAny_take (i := 9) (v := .bool true) rfl (by kernel_rfl) (by kernel_rfl) (by kernel_rfl) (fun _ _ _ h => h) (Or.inl ⟨by kernel_rfl, fun w => by go_simp⟩) ?_
        refine wpAny_take (i := 10) (v := .slice (some ⟨gs, 0, none⟩) l.length cs) rfl (by kernel_rfl) (by kernel_rfl) (by kernel_rfl) (fun _ _ _ h => h) (Or.inl ⟨by kernel_rfl, fun w => by go_simp⟩) ?_
        refine wpAny_ready (rs := [11]) (by kernel_rfl) (by simp) ?_
        refine AllReady.cons rfl (fun K hK => ?_) AllReady.nil
        go_simp
        refine hK _ _ ?_
        clear hK K
        refine wpAny_ready (rs := [12]) (by kernel_rfl) (by simp) ?_
        refine AllReady.cons rfl (fun K hK => ?_) AllReady.nil
        go_simp
        refine (CP.out _).mono ?_
        rintro e4 w4 ⟨rfl, b4⟩
        have b14 := b13.trans (b4.mono b13.size)
        have b4w := HBS.out.trans (b14.mono HBS.out.size)
        refine hK _ _ ?_
        clear hK K b4
        refine wpAny_take (i := 13) (v := .bool true) rfl (by kernel_rfl) (by kernel_rfl) (by kernel_rfl) (fun _ _ _ h => h) (Or.inl ⟨by kernel_rfl, fun w => by go_simp⟩) ?_
        refine wpAny_take (i := 14) (v := .bool true) rfl (by kernel_rfl) (by kernel_rfl) (by kernel_rfl) (fun _ _ _ h => h) (Or.inl ⟨by kernel_rfl, fun w => by go_simp⟩) ?_
        refine wpAny_take (i := 15) (v := .bool true) rfl (by kernel_rfl) (by kernel_rfl) (by kernel_rfl) (fun _ _ _ h => h) (Or.inl ⟨by kernel_rfl, fun w => by go_simp⟩) ?_
        refine wpAny_take (i := 16) (v := .bool true) rfl (by kernel_rfl) (by kernel_rfl) (by kernel_rfl) (fun _ _ _ h => h) (Or.inl ⟨by kernel_rfl, fun w => by go_simp⟩) ?_
        refine wpAny_take (i := 17) (v := .string qs) rfl (by kernel_rfl) (by kernel_rfl) (by kernel_rfl) (fun _ _ _ h => h) (Or.inl ⟨by kernel_rfl, fun w => by go_simp⟩) ?_
        refine wpAny_take (i := 18) (v := .int .i64 L) rfl (by kernel_rfl) (by kernel_rfl) (by kernel_rfl) (fun _ _ _ h => h) (Or.inl ⟨by kernel_rfl, y_len _ _ (.tmp 85) (by kernel_rfl) qs L FZ.out (by kernel_rfl)⟩) ?_
        refine wpAny_take (i := 19) (v := .slice (some ⟨gt, 0, none⟩) l.length ct) rfl (by kernel_rfl) (by kernel_rfl) (by kernel_rfl) (fun _ _ _ h => h) (Or.inl ⟨by kernel_rfl, fun w => by go_simp⟩) ?_
        refine wpAny_take (i := 20) (v := .int .i64 l.length) rfl (by kernel_rfl) (by kernel_rfl) (by kernel_rfl) (fun _ _ _ h => h) (Or.inl ⟨by kernel_rfl, y_lens _ _ (.tmp 87) (by kernel_rfl) (some ⟨gt, 0, none⟩) l.length ct (by kernel_rfl)⟩) ?_
        refine wpAny_take (i := 21) (v := .int .i64 ((l.length : Int) + 2)) rfl (by kernel_rfl) (by kernel_rfl) (by kernel_rfl) (fun _ _ _ h => h) (Or.inl ⟨by kernel_rfl, y_add _ _ (.tmp 88) (by kernel_rfl) l.length (by omega) (by kernel_rfl) (by kernel_rfl)⟩) ?_
        refine wpAny_take (i := 22) (v := .bool true) rfl (by kernel_rfl) (by kernel_rfl) (by kernel_rfl) (fun _ _ _ h => h) (Or.inl ⟨by kernel_rfl, y_geq _ _ (.tmp 86) (.tmp 89) (by kernel_rfl) L ((l.length : Int) + 2) FG.out (by kernel_rfl) (by kernel_rfl)⟩) ?_
        refine wpAny_take (i := 23) (v := .bool true) rfl (by kernel_rfl) (by kernel_rfl) (by kernel_rfl) (fun _ _ _ h => h) (Or.inl ⟨by kernel_rfl, fun w => by go_simp⟩) ?_
        refine wpAny_take (i := 24) (v := .bool true) rfl (by kernel_rfl) (by kernel_rfl) (by kernel_rfl) (fun _ _ _ h => h) (Or.inl ⟨by kernel_rfl, fun w => by go_simp⟩) ?_
        refine wpAny_take (i := 25) (v := .string qs) rfl (by kernel_rfl) (by kernel_rfl) (by kernel_rfl) (fun _ _ _ h => h) (Or.inl ⟨by kernel_rfl, fun w => by go_simp⟩) ?_
        refine wpAny_take (i := 26) (v := .int .u8 34) rfl (by kernel_rfl) (by kernel_rfl) (by kernel_rfl) (fun _ _ _ h => h) (Or.inl ⟨by kernel_rfl, y_idx _ _ (.tmp 93) (.const (.int .i64 0)) (by kernel_rfl) qs 0 FX0.out (by kernel_rfl) (by kernel_rfl)⟩) ?_
        refine wpAny_take (i := 27) (v := .bool true) rfl (by kernel_rfl) (by kernel_rfl) (by kernel_rfl) (fun _ _ _ h => h) (Or.inl ⟨by kernel_rfl, y_eql _ _ (.tmp 94) (by kernel_rfl) (by kernel_rfl) (by kernel_rfl)⟩) ?_
        refine wpAny_take (i := 28) (v := .bool true) rfl (by kernel_rfl) (by kernel_rfl) (by kernel_rfl) (fun _ _ _ h => h) (Or.inl ⟨by kernel_rfl, fun w => by go_simp⟩) ?_
        refine wpAny_take (i := 29) (v := .bool true) rfl (by kernel_rfl) (by kernel_rfl) (by kernel_rfl) (fun _ _ _ h => h) (Or.inl ⟨by kernel_rfl, fun w => by go_simp⟩) ?_
        refine wpAny_take (i := 30) (v := .string qs) rfl (by kernel_rfl) (by kernel_rfl) (by kernel_rfl) (fun _ _ _ h => h) (Or.inl ⟨by kernel_rfl, fun w => by go_simp⟩) ?_
        refine wpAny_take (i := 31) (v := .string qs) rfl (by kernel_rfl) (by kernel_rfl) (by kernel_rfl) (fun _ _ _ h => h) (Or.inl ⟨by kernel_rfl, fun w => by go_simp⟩) ?_
        refine wpAny_take (i := 32) (v := .int .i64 L) rfl (by kernel_rfl) (by kernel_rfl) (by kernel_rfl) (fun _ _ _ h => h) (Or.inl ⟨by kernel_rfl, y_len _ _ (.tmp 99) (by kernel_rfl) qs L FZ.out (by kernel_rfl)⟩) ?_
        refine wpAny_take (i := 33) (v := .int .i64 N) rfl (by kernel_rfl) (by kernel_rfl) (by kernel_rfl) (fun _ _ _ h => h) (Or.inl ⟨by kernel_rfl, y_sub _ _ (.tmp 100) (by kernel_rfl) L N FL1.out FLB.out (by kernel_rfl) (by kernel_rfl)⟩) ?_
        refine wpAny_take (i := 34) (v := .int .u8 34) rfl (by kernel_rfl) (by kernel_rfl) (by kernel_rfl) (fun _ _ _ h => h) (Or.inl ⟨by kernel_rfl, y_idx _ _ (.tmp 98) (.tmp 101) (by kernel_rfl) qs N FX1.out (by kernel_rfl) (by kernel_rfl)⟩) ?_
        refine wpAny_take (i := 35) (v := .bool true) rfl (by kernel_rfl) (by kernel_rfl) (by kernel_rfl) (fun _ _ _ h => h) (Or.inl ⟨by kernel_rfl, y_eql _ _ (.tmp 102) (by kernel_rfl) (by kernel_rfl) (by kernel_rfl)⟩) ?_
        refine wpAny_take (i := 36) (v := .bool true) rfl (by kernel_rfl) (by kernel_rfl) (by kernel_rfl) (fun _ _ _ h => h) (Or.inl ⟨by kernel_rfl, fun w => by go_simp⟩) ?_
        refine wpAny_take (i := 37) (v := .bool true) rfl (by kernel_rfl) (by kernel_rfl) (by kernel_rfl) (fun _ _ _ h => h) (Or.inl ⟨by kernel_rfl, fun w => by go_simp⟩) ?_
        refine wpAny_take (i := 38) (v := undef) rfl (by kernel_rfl) (by kernel_rfl) (by kernel_rfl) (fun _ _ _ h => h) (Or.inr ⟨by kernel_rfl, rfl⟩) ?_
        refine wpAny_take (i := 39) (v := undef) rfl (by kernel_rfl) (by kernel_rfl) (by kernel_rfl) (fun _ _ _ h => h) (Or.inr ⟨by kernel_rfl, rfl⟩) ?_
        refine wpAny_take (i := 40) (v := undef) rfl (by kernel_rfl) (by kernel_rfl) (by kernel_rfl) (fun _ _ _ h => h) (Or.inr ⟨by kernel_rfl, rfl⟩) ?_
        refine wpAny_take (i := 41) (v := undef) rfl (by kernel_rfl) (by kernel_rfl) (by kernel_rfl) (fun _ _ _ h => h) (Or.inr ⟨by kernel_rfl, rfl⟩) ?_
        refine wpAny_take (i := 42) (v := undef) rfl (by kernel_rfl) (by kernel_rfl) (by kernel_rfl) (fun _ _ _ h => h) (Or.inr ⟨by kernel_rfl, rfl⟩) ?_
        refine wpAny_take (i := 43) (v := undef) rfl (by kernel_rfl) (by kernel_rfl) (by kernel_rfl) (fun _ _ _ h => h) (Or.inr ⟨by kernel_rfl, rfl⟩) ?_
        refine wpAny_take (i := 44) (v := undef) rfl (by kernel_rfl) (by kernel_rfl) (by kernel_rfl) (fun _ _ _ h => h) (Or.inr ⟨by kernel_rfl, rfl⟩) ?_
        refine wpAny_take (i := 45) (v := undef) rfl (by kernel_rfl) (by kernel_rfl) (by kernel_rfl) (fun _ _ _ h => h) (Or.inr ⟨by kernel_rfl, rfl⟩) ?_
        refine wpAny_take (i := 46) (v := .bool true) rfl (by kernel_rfl) (by kernel_rfl) (by kernel_rfl) (fun _ _ _ h => h) (Or.inl ⟨by kernel_rfl, fun w => by go_simp⟩) ?_
        refine wpAny_take (i := 47) (v := .bool true) rfl (by kernel_rfl) (by kernel_rfl) (by kernel_rfl) (fun _ _ _ h => h) (Or.inl ⟨by kernel_rfl, fun w => by go_simp⟩) ?_
        refine wpAny_take (i := 48) (v := .bool true) rfl (by kernel_rfl) (by kernel_rfl) (by kernel_rfl) (fun _ _ _ h => h) (Or.inl ⟨by kernel_rfl, fun w => by go_simp⟩) ?_
        refine wpAny_done (by kernel_rfl) ?_ _
        go_wp2
        go_ret
        exact ⟨by kernel_rfl, b4w⟩
end Go.Proofs.YtefljlbkdjaloaaDoor.quotePlain
