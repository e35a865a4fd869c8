/-
  Layer 4: the reference's Fall, Rise; Spoil; joined.
-/
import Derived.Test.YtghncdoophoieaaTn
import Derived.Test.YtghncdoophoieaaKept
namespace Go.Proofs.Ytghncdoophoieaa
open Go.RowKit
set_option linter.unusedVariables false

set_option maxHeartbeats 8000000 in
theorem rFall_at (b : Nat) (v : Value) (r : Nat) (l : List UInt8) (hd : Nat) (fu : Int) (dn : Bool) (k : Int) (w : World) (h : Rat w b v r l hd fu dn) :
    Calls Try.prog 36 #[.pointer (some ⟨b, 0, none⟩), .int .i64 k] w fun e w' => e = .returned (.tuple #[]) ∧ ∃ v', Rat w' b v' r (l.take (fell l.length hd k)) (fell l.length hd k) fu true ∧ Fresh w v v' ∧ Chg (Mine b v) w w' := by
  obtain ⟨a, c, hv, hlc, hcm, hb, hno⟩ := h.row.shape
  have hrow : Row w (.slice a l.length c) l := hv ▸ h.row
  have hh := h.held
  have hL := h.len
  obtain ⟨q, hq⟩ : ∃ q, fell l.length hd k = q := ⟨_, rfl⟩
  have hq1 := (fell_le hh k).1; have hq2 := (fell_le hh k).2
  rw [hq] at hq1 hq2
  have hsl := fun u => slice_head a l.length c q q rfl (by omega) u
  have c0 := h.c0; have c1 := h.c1; have c4 := h.c4; have f0 := h.fz 0; have f1 := h.fz 1; have f4 := h.fz 4
  rw [hv] at c0
  have hcase : (k ≤ 0 ∧ q = hd) ∨ (0 < k ∧ k ≤ (l.length : Int) - hd ∧ (q : Int) = hd + k) ∨ ((l.length : Int) - hd < k ∧ hd < l.length ∧ q = l.length) ∨ ((l.length : Int) - hd < k ∧ hd = l.length ∧ q = hd) := by
    unfold fell at hq; omega
  have go : ∀ n, ∃ v', Rat ((((w.drewN n).setCell ⟨b, 0, none⟩ (.slice a q c)).setCell ⟨b, 1, none⟩ (.int .i64 q)).setCell ⟨b, 4, none⟩ (.bool true)) b v' r (l.take q) q fu true ∧ Fresh w v v' ∧ Chg (Mine b v) w ((((w.drewN n).setCell ⟨b, 0, none⟩ (.slice a q c)).setCell ⟨b, 1, none⟩ (.int .i64 q)).setCell ⟨b, 4, none⟩ (.bool true)) := by
    intro n
    have t1 := h.drewN n
    obtain ⟨r1, r2⟩ := (Row.chg hrow ((Chg.refl (fun _ => False) w).drewN n) (fun _ _ h => h)).cut q hq2
    have ha : foot (.slice a q c) ≠ some b := by rw [r2, ← hv]; exact h.apart
    have hlen : (l.take q).length = q := by rw [List.length_take]; omega
    exact ⟨_, (t1.set01 r1 ha (by omega) q (by omega)).set4 true, fun g hg => .inl (by rw [hv, ← r2]; exact hg), ((((Chg.refl _ w).drewN n).setCell _ (fun _ => .inl rfl) _).setCell _ (fun _ => .inl rfl) _).setCell _ (fun _ => .inl rfl) _⟩
  have G := Lib.hid go
  rw [hq]
  clear go h hb hno hq hrow hv
  rcases hcase with ⟨h1, h2⟩ | ⟨h1, h2, h3⟩ | ⟨h1, hx, h2⟩ | ⟨h1, hx, h2⟩
  · have H2 := Lib.hid h2
    have h0 : 0 ≤ (l.length : Int) - hd := by omega
    have hkk : k ≤ (l.length : Int) - hd := by omega
    subst h2
    go_enter Try.func36, Try.ntmps36
    go_wp2
    go_quiet (fail)
    go_wp2
    go_end0
    exact ⟨rfl, G.out nq⟩
  · have H3 := Lib.hid h3
    have h4 : 0 ≤ (hd : Int) + k := by omega
    have h5 : (hd : Int) + k ≤ 16777216 := by omega
    have h6 : (hd : Int) + k = q := by omega
    clear h3
    go_enter Try.func36, Try.ntmps36
    go_wp2
    go_quiet (fail)
    go_wp2
    go_end0
    exact ⟨rfl, G.out nq⟩
  · have H2 := Lib.hid h2
    have h0 : 0 < (l.length : Int) - hd := by omega
    have hkk : 0 ≤ k := by omega
    have h6 : (hd : Int) + ((l.length : Int) - hd) = q := by omega
    clear h2
    go_enter Try.func36, Try.ntmps36
    go_wp2
    go_quiet (fail)
    go_wp2
    go_end0
    exact ⟨rfl, G.out nq⟩
  · have h0 : (l.length : Int) - hd ≤ 0 := by omega
    have h3 : ¬ (0 < (l.length : Int) - hd) := by omega
    have hkk : 0 < k := by omega
    have hx2 : hd ≤ l.length := by omega
    clear hx
    subst h2
    go_enter Try.func36, Try.ntmps36
    go_wp2
    go_quiet (fail)
    go_wp2
    go_end0
    exact ⟨rfl, G.out nq⟩
set_option maxHeartbeats 1000000 in
theorem rRise_up (b : Nat) (w : World) (c : w.cell? ⟨b, 4, none⟩ = some (.bool false)) : Calls Try.prog 37 #[.pointer (some ⟨b, 0, none⟩)] w fun e w' => e = .returned (.tuple #[]) ∧ w = w' := by
  go_enter Try.func37, Try.ntmps37
  go_wp2
  first | go_end0 | (simp only [Exit.inBlock, Exit.then]; refine bodyPost_ret (results_none rfl _ _ _) rfl ?_) | refine bodyPost_ret (results_none rfl _ _ _) rfl ?_
  exact ⟨rfl, rfl⟩
set_option maxHeartbeats 4000000 in
theorem rRise_down (b : Nat) (v : Value) (r : Nat) (l : List UInt8) (hd : Nat) (fu : Int) (w : World) (h : Rat w b v r l hd fu true) :
    Calls Try.prog 37 #[.pointer (some ⟨b, 0, none⟩)] w fun e w' => e = .returned (.tuple #[]) ∧ ∃ v', Rat w' b v' r (l.take hd) hd fu false ∧ Fresh w v v' ∧ Chg (Mine b v) w w' := by
  obtain ⟨a, c, hv, hlc, hcm, hb, hno⟩ := h.row.shape
  subst hv
  have hh := h.held
  have hsl := fun u => slice_head a l.length c hd hd rfl (by omega) u
  obtain ⟨r1, r2⟩ := h.row.cut hd hh
  have c0 := h.c0; have c1 := h.c1; have c4 := h.c4; have f0 := h.fz 0; have f4 := h.fz 4
  have hb2 := h.lt
  have ha : foot (.slice a hd c) ≠ some b := by rw [r2]; exact h.apart
  have hlen : (l.take hd).length = hd := by rw [List.length_take]; omega
  have s2 := (h.set0 r1 ha (by have := h.len; omega) (by omega)).set4 false
  have hc : Chg (Mine b (.slice a l.length c)) w ((w.setCell ⟨b, 0, none⟩ (.slice a hd c)).setCell ⟨b, 4, none⟩ (.bool false)) := ((Chg.refl _ w).setCell _ (fun _ => .inl rfl) _).setCell _ (fun _ => .inl rfl) _
  have H := Lib.hid (And.intro s2 (And.intro hc r2))
  clear s2 hc r1 r2 ha hlen h hb hno
  go_enter Try.func37, Try.ntmps37
  go_wp2
  go_region
  go_wp2
  go_end0
  exact ⟨rfl, _, H.out.1.drew, fun g hg => .inl (by rw [← H.out.2.2]; exact hg), H.out.2.1.drew⟩
/-- A copy of Own's is a row. -/
theorem OwnAt.row {w : World} {g : Nat} {l : List UInt8} {f : Int} (h : OwnAt w g l f) : Row w (.slice (some ⟨g, 0, none⟩) l.length (l.length + 3)) l := by
  rcases h.2 with ⟨h', _⟩ | ⟨g', cap', cur, h', hb, hg, hnc, hcm, hcs, htake⟩
  · simp at h'
  · simp only [Value.slice.injEq, Option.some.injEq, Addr.mk.injEq, and_true, true_and] at h'
    obtain ⟨rfl, rfl⟩ := h'
    refine .inr ⟨g, l.length + 2, cur, rfl, hg, by omega, hcm, by omega, ?_⟩
    have e := congrArg (List.take l.length) htake
    rw [List.take_take, Nat.min_eq_left (by omega)] at e
    rw [e, List.take_left' (byteCells_len l)]
set_option maxHeartbeats 4000000 in
theorem Spoil_some (g n c : Nat) (w : World) (cur : Array Value) (hg : w.heap[g]? = some (.cells cur 5 (0, 0))) (hn : n ≤ 16777216) (hc : ∀ i, i < n → ∃ x : Int, cur[i]? = some (.int .u8 x)) :
    Calls Try.prog 16 #[.slice (some ⟨g, 0, none⟩) n c] w fun e w' => e = .returned (.tuple #[]) ∧ Chg (fun k => k = g) w w' := by
  have HG := Lib.hid hg; have HC := Lib.hid hc
  clear hg hc
  go_enter Try.func16, Try.ntmps16
  go_wp2_with fail
  go_loopw [2] (fun i wr => ∃ (k : Nat) (cur : Array Value), k ≤ n ∧ i = .int .i64 k ∧ wr.heap[g]? = some (.cells cur 5 (0, 0)) ∧ (∀ i, i < n → ∃ x : Int, cur[i]? = some (.int .u8 x)) ∧ Chg (fun k => k = g) w wr) (fun i _ => n - (intOf i).toNat)
  case atStart => exact ⟨0, cur, Nat.zero_le _, rfl, HG.out, HC.out, Chg.refl _ _⟩
  case round =>
    obtain ⟨k, cur, hk, rfl, hg, hc, hch⟩ := hrel
    by_cases hlt : k < n
    · obtain ⟨x, hx⟩ := hc k hlt
      have c1 : wr.cell? ⟨g, k, none⟩ = some (.int .u8 x) := (cell_of_row wr g k _ _ _ hg).trans hx
      have f1 : wr.frozen? ⟨g, k, none⟩ = false := by simp [World.frozen?, hg]
      have s1 := fun y => heap_set hg (k := k) y
      have hc2 : ∀ y : Int, ∀ i, i < n → ∃ x : Int, (cur.setIfInBounds k (.int .u8 y))[i]? = some (.int .u8 x) := fun y i hi => by
        rw [Array.getElem?_setIfInBounds]
        split
        · exact ⟨y, by rw [if_pos]; subst_vars; exact (Array.getElem?_eq_some_iff.1 hx).1⟩
        · exact hc i hi
      have HS := Lib.hid s1; have HC2 := Lib.hid hc2; have HCH := Lib.hid hch
      clear hg hc hch hx s1 hc2
      go_wp2
      go_roundw
      case rel => exact ⟨k + 1, _, by omega, by go_num, HS.out _, HC2.out _, HCH.out.setCell _ (fun _ => rfl) _⟩
      case measure => simp [intOf]; omega
    · obtain rfl : k = n := by omega
      have HCH := Lib.hid hch
      clear hg hc hch
      go_wp2
      first | go_end0 | (simp only [Exit.inBlock, Exit.then]; refine bodyPost_ret (results_none rfl _ _ _) rfl ?_) | refine bodyPost_ret (results_none rfl _ _ _) rfl ?_
      exact ⟨rfl, HCH.out⟩
set_option maxHeartbeats 1000000 in
theorem Spoil_none (a : Option Addr) (c : Nat) (w : World) :
    Calls Try.prog 16 #[.slice a 0 c] w fun e w' => e = .returned (.tuple #[]) ∧ w = w' := by
  go_enter Try.func16, Try.ntmps16
  go_wp2_with fail
  refine wp_loop_rounds 1 ?_
  rw [rounds_succ]
  go_wp2
  first | go_end0 | (simp only [Exit.inBlock, Exit.then]; refine bodyPost_ret (results_none rfl _ _ _) rfl ?_) | refine bodyPost_ret (results_none rfl _ _ _) rfl ?_
  exact ⟨rfl, rfl⟩
theorem Spoil_row (v : Value) (l : List UInt8) (w : World) (h : Row w v l) (hl : l.length ≤ 16777216) :
    Calls Try.prog 16 #[v] w fun e w' => e = .returned (.tuple #[]) ∧ Chg (fun k => foot v = some k) w w' := by
  rcases h with ⟨a, rfl, rfl⟩ | ⟨g, cap, cur, rfl, hg, h1, h2, h3, h4⟩
  · refine (Spoil_none a 0 w).mono ?_
    rintro e w' ⟨rfl, rfl⟩
    exact ⟨rfl, Chg.refl _ _⟩
  · refine (Spoil_some g l.length (cap + 1) w cur hg hl (fun i hi => ?_)).mono ?_
    · have e : (cur.toList.take l.length)[i]? = (Lib.byteCells l)[i]? := by rw [h4]
      rw [List.getElem?_take, if_pos hi, byteCells_at, List.getElem?_eq_getElem hi, Array.getElem?_toList] at e
      exact ⟨_, e⟩
    · rintro e w' ⟨rfl, h⟩
      exact ⟨rfl, h.weak fun i _ hi => by rw [foot_succ, hi]⟩
/-- Not too much for a law. -/
def okParts (ls : List (List UInt8)) : Prop := ls.length ≤ 8 ∧ ∀ i (h : i < ls.length), (ls[i]).length ≤ 200
theorem okParts_total {ls : List (List UInt8)} (h : okParts ls) : total ls ≤ 1600 := by
  obtain ⟨h1, h2⟩ := h
  have : ∀ k, k ≤ ls.length → total (ls.take k) ≤ 200 * k := fun k => by
    induction k with
    | zero => intro _; simp [total]
    | succ k ih => intro hk; rw [total_step ls k (by omega)]; have := ih (by omega); have := h2 k (by omega); omega
  have := this ls.length (Nat.le_refl _)
  rw [List.take_length] at this
  omega
set_option maxHeartbeats 8000000 in
theorem joined_any (D : Nat → Prop) (pa : Option Addr) (np pc : Nat) (ls : List (List UInt8)) (w : World) (hp : PartsIn D w pa ls) (hn : np = ls.length) (hm : np ≤ maxLen) :
    Calls Try.prog 30 #[.slice pa np pc] w fun e w' => Below w.heap.size w w' ∧
      ((okParts ls ∧ ∃ v', e = .returned (.tuple #[v', .bool true]) ∧ Row w' v' ls.flatten ∧ ∀ g, foot v' = some g → w.heap.size ≤ g) ∨ (¬ okParts ls ∧ e = .returned (.tuple #[.slice none 0 0, .bool false]))) := by
  unfold maxLen at hm
  have HP := Lib.hid hp; have HN := Lib.hid hn
  clear hp hn
  go_enter Try.func30, Try.ntmps30
  go_wp2_with fail
  go_loopw [4, 5] (fun v i wr => ∃ k : Nat, k ≤ np ∧ k ≤ 8 ∧ i = .int .i64 k ∧ (∀ j (h : j < ls.length), j < k → (ls[j]).length ≤ 200) ∧ Row wr v (ls.take k).flatten ∧ (∀ g, foot v = some g → w.heap.size ≤ g) ∧ Below w.heap.size w wr) (fun _ i _ => np - (intOf i).toNat)
  case atStart => exact ⟨0, Nat.zero_le _, by omega, rfl, fun j _ h => absurd h (Nat.not_lt_zero _), by simpa using Row.nil _ _, (fun g hg => by cases hg), Below.refl _ _⟩
  case round =>
    obtain ⟨k, hk, hk8, rfl, hall, hrow, hfo, hbr⟩ := hrel
    have HA := Lib.hid hall; have HR := Lib.hid hrow; have HF := Lib.hid hfo
    clear hall hrow hfo
    by_cases hlt : k < np
    · have hkl : k < ls.length := by rw [← HN.out]; exact hlt
      obtain ⟨pb, po, rfl, _, hpb, hcell⟩ := HP.out (by omega)
      obtain ⟨xa, xc, hx, hxb, hxn, hxm⟩ := hcell k hkl
      obtain ⟨m, hm2⟩ : ∃ m, (ls[k]).length = m := ⟨_, rfl⟩
      have HM := Lib.hid hm2
      rw [hm2] at hx hxm hxn
      unfold maxLen at hxm
      have hx2 : wr.cell? ⟨pb, po + k, none⟩ = some (.slice xa m xc) := (hbr.cell (p := ⟨pb, po + k, none⟩) hpb).trans hx
      have HXB := Lib.hid (hxb.bat.keep hbr); have HXN := Lib.hid hxn
      have HX := Lib.hid hx
      clear hcell hxb hxn hx hm2
      by_cases h8 : 8 ≤ k
      · have hd : decide ((8 : Int) ≤ (k : Int)) = true := decide_eq_true (by omega)
        have h8i : (8 : Int) ≤ k := by omega
        go_wp2
        go_ret2
        exact ⟨hbr, .inr ⟨fun h => by have := h.1; omega, rfl⟩⟩
      · have hd : decide ((8 : Int) ≤ (k : Int)) = false := decide_eq_false (by omega)
        have h8i : ¬ (8 : Int) ≤ k := by omega
        have h8j : (k : Int) < 8 := by omega
        by_cases h2 : 200 < m
        · have hd2 : decide ((200 : Int) < (m : Int)) = true := decide_eq_true (by omega)
          have h2i : (200 : Int) < m := by omega
          go_wp2
          go_ret2
          exact ⟨hbr, .inr ⟨fun h => by have := h.2 k hkl; rw [HM.out] at this; omega, rfl⟩⟩
        · have hd2 : decide ((200 : Int) < (m : Int)) = false := decide_eq_false (by omega)
          have h2i : ¬ (200 : Int) < m := by omega
          have h2j : (m : Int) ≤ 200 := by omega
          have hadd : ((ls.take k).flatten).length + (ls[k]).length ≤ 1099511627776 := by
            have : ∀ q, q ≤ k → total (ls.take q) ≤ 200 * q := fun q => by
              induction q with
              | zero => intro _; simp [total]
              | succ q ih => intro hq; rw [total_step ls q (by omega)]; have := ih (by omega); have := HA.out q (by omega) (by omega); omega
            have := this k (Nat.le_refl _)
            show total (ls.take k) + _ ≤ _
            have := HM.out
            omega
          have HADD := Lib.hid hadd
          have HM2 := Lib.hid HM.out.symm
          clear hadd
          go_wp2_with (first
            | (at_builtin; refine wpList_append_row rfl (.tmp 22) (.tmp 26) rfl u4 rfl (ls.take k).flatten (ls[k]) HR.out xa m xc rfl HXB.out HM2.out HXN.out HADD.out ?_)
            | fail)
          intro v' w2 hap
          obtain ⟨h1, h2, h3⟩ := hap
          have e : (ls.take k).flatten ++ ls[k] = (ls.take (k + 1)).flatten := by
            rw [List.take_succ_eq_append_getElem hkl, List.flatten_append]; simp
          rw [e] at h1
          have b2 : Below w.heap.size w w2 := hbr.grown h2 hbr.size (fun j hj => HF.out j hj)
          have f2 : ∀ g, foot v' = some g → w.heap.size ≤ g := fun g hg => by
            rcases h3 with h3 | h3 | h3
            · rw [h3] at hg; exact HF.out g hg
            · rw [h3] at hg; cases hg
            · rw [h3] at hg; cases hg; exact hbr.size
          have H1 := Lib.hid (And.intro h1 (And.intro f2 b2))
          have hall2 : ∀ j (h : j < ls.length), j < k + 1 → (ls[j]).length ≤ 200 := fun j hj hjk => by
            rcases Nat.lt_or_ge j k with h' | h'
            · exact HA.out j hj h'
            · obtain rfl : j = k := by omega
              rw [HM.out]; omega
          have HA2 := Lib.hid hall2
          clear h1 h2 h3 e b2 f2 hall2
          go_wp2
          go_roundw
          case rel => exact ⟨k + 1, by omega, by omega, by go_num, HA2.out, H1.out⟩
          case measure => simp [intOf]; omega
    · have hk2 : k = ls.length := by rw [← HN.out]; omega
      have HK := Lib.hid hk2
      clear hk2
      go_wp2
      go_ret2
      have e := HR.out
      rw [HK.out, List.take_length] at e
      refine ⟨hbr, .inl ⟨⟨by rw [← HK.out]; exact hk8, fun i hi => HA.out i hi (by rw [HK.out]; exact hi)⟩, _, rfl, e, HF.out⟩⟩
end Go.Proofs.Ytghncdoophoieaa
