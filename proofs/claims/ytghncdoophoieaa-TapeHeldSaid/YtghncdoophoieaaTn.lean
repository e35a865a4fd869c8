/-
  Layer 4: the reference's tape: Write, Hold, Cut, Swap, Fall, Rise.
-/
import Derived.Test.YtghncdoophoieaaTm
namespace Go.Proofs.Ytghncdoophoieaa
open Go.RowKit
set_option linter.unusedVariables false

theorem Row.block {w : World} {a : Option Addr} {n c : Nat} {l : List UInt8} (h : Row w (.slice a n c) l) (hp : 0 < l.length) (x : Addr) (hx : a = some x) : foot (.slice a n c) = some x.block := by
  rcases h with ⟨a', e, rfl⟩ | ⟨g, cap, cur, e, _⟩
  · exact absurd hp (Nat.lt_irrefl 0)
  · cases e; cases hx; rfl
section
variable (b : Nat) (v : Value) (r : Nat) (l : List UInt8) (hd : Nat) (fu : Int) (w : World) (h : Rat w b v r l hd fu false)
include h
set_option maxHeartbeats 4000000 in
theorem rHold_done : Calls Try.prog 20 #[.pointer (some ⟨b, 0, none⟩)] w fun e w' => e = .returned (.int .i64 (if burns fu then 16 else 0)) ∧
    ∃ v', Rat w' b v' r l (if burns fu then hd else l.length) (burnt fu) (burns fu) ∧ Fresh w v v' ∧ Chg (Mine b v) w w' := by
  obtain ⟨a, c, hv, _, _, hb, hno⟩ := h.row.shape
  have hD : 0 < l.length → ∀ x, a = some x → x.block ≠ b := fun hp x hx e => h.apart (by rw [hv, (hv ▸ h.row : Row w (.slice a l.length c) l).block hp x hx, e])
  have C := rbecome b v r l hd fu w h a l.length c l hb rfl hno h.len hD
  rw [ite_self] at C
  obtain ⟨bf, hbf⟩ : ∃ bf, burns fu = bf := ⟨_, rfl⟩
  rw [hbf] at C ⊢
  have HC := Lib.hid C
  clear hbf
  have c0 := h.c0; have c4 := h.c4
  rw [hv] at c0
  clear C hD hb hno hv h
  cases bf
  all_goals
    go_enter Try.func20, Try.ntmps20
    go_wp2_with fail
    refine HC.out.mono ?_
    rintro e w1 ⟨rfl, h1⟩
    have H1 := Lib.hid h1
    clear h1
    go_wp2
    go_ret
    exact ⟨rfl, H1.out⟩
set_option maxHeartbeats 4000000 in
theorem rCut_done (k : Int) (hk : 0 ≤ k ∧ k ≤ l.length) : Calls Try.prog 33 #[.pointer (some ⟨b, 0, none⟩), .int .i64 k] w fun e w' => e = .returned (.int .i64 (if burns fu then 16 else 0)) ∧
    ∃ v', Rat w' b v' r (if burns fu then l else l.take k.toNat) (if burns fu then hd else k.toNat) (burnt fu) (burns fu) ∧ Fresh w v v' ∧ Chg (Mine b v) w w' := by
  obtain ⟨a, c, hv, hlc, _, hb, hno⟩ := h.row.shape
  have hrow : Row w (.slice a l.length c) l := hv ▸ h.row
  have hlen : (l.take k.toNat).length = k.toNat := by rw [List.length_take]; omega
  obtain ⟨r1, r2⟩ := hrow.cut k.toNat (by omega)
  obtain ⟨a2, c2, e2, _, _, hb2, hno2⟩ := r1.shape
  rw [hlen] at e2
  cases e2
  have hD : 0 < (l.take k.toNat).length → ∀ x, a = some x → x.block ≠ b := fun hp x hx e => h.apart (by rw [hv, hrow.block (by rw [List.length_take] at hp; omega) x hx, e])
  have C := rbecome b v r l hd fu w h a k.toNat c (l.take k.toNat) hb2 hlen.symm (by rw [hlen] at hno2; exact hno2) (by have := h.len; omega) hD
  rw [hlen] at C
  obtain ⟨bf, hbf⟩ : ∃ bf, burns fu = bf := ⟨_, rfl⟩
  rw [hbf] at C ⊢
  have HC := Lib.hid C
  clear hbf
  have hsl := fun u => slice_head a l.length c k.toNat k (by omega) (by omega) u
  have c0 := h.c0; have c4 := h.c4
  have hL := h.len
  rw [hv] at c0
  obtain ⟨hk0, hk1⟩ := hk
  have hd0 : decide (k < 0) = false := decide_eq_false (by omega)
  have hd1 : decide ((l.length : Int) < k) = false := decide_eq_false (by omega)
  clear C hD hb hno hv h hb2 hno2 r1 r2 hrow hlen
  cases bf
  all_goals
    go_enter Try.func33, Try.ntmps33
    go_wp2_with fail
    refine HC.out.mono ?_
    rintro e w1 ⟨rfl, h1⟩
    have H1 := Lib.hid h1
    clear h1
    go_wp2
    go_ret
    exact ⟨rfl, H1.out⟩
set_option maxHeartbeats 4000000 in
theorem rCut_bad (k : Int) (hk : k < 0 ∨ (l.length : Int) < k) : Calls Try.prog 33 #[.pointer (some ⟨b, 0, none⟩), .int .i64 k] w fun e w' => e = .returned (.int .i64 1) ∧ w = w' := by
  obtain ⟨a, c, hv, hlc, _, hb, hno⟩ := h.row.shape
  have c0 := h.c0; have c4 := h.c4
  have hL := h.len
  rw [hv] at c0
  clear hb hno hv h
  by_cases h0 : k < 0
  · go_enter Try.func33, Try.ntmps33
    go_wp2
    go_ret
    exact ⟨rfl, rfl⟩
  · have h1 : (l.length : Int) < k := by omega
    have h2 : 0 ≤ k := by omega
    have hd0 : decide (k < 0) = false := decide_eq_false (by omega)
    clear hk
    go_enter Try.func33, Try.ntmps33
    go_wp2
    go_ret
    exact ⟨rfl, rfl⟩
set_option maxHeartbeats 4000000 in
theorem rSwap_done (pa : Option Addr) (np pc : Nat) (m : List UInt8) (hm : BAt w pa m) (hn : np = m.length) (hno : pa = none → np = 0 ∧ pc = 0) (hD : 0 < m.length → ∀ a, pa = some a → a.block ≠ b) (hr : m.length ≤ r) :
    Calls Try.prog 34 #[.pointer (some ⟨b, 0, none⟩), .slice pa np pc] w fun e w' => e = .returned (.int .i64 (if burns fu then 16 else 0)) ∧
      ∃ v', Rat w' b v' r (if burns fu then l else m) (if burns fu then hd else m.length) (burnt fu) (burns fu) ∧ Fresh w v v' ∧ Chg (Mine b v) w w' := by
  have hro := h.room
  have C := rbecome b v r l hd fu w h pa np pc m hm hn hno (by omega) hD
  obtain ⟨bf, hbf⟩ : ∃ bf, burns fu = bf := ⟨_, rfl⟩
  rw [hbf] at C ⊢
  have HC := Lib.hid C
  clear hbf
  have c2 := h.c2; have c4 := h.c4
  have h1 : (np : Int) ≤ r := by omega
  clear hm hno hD h hr hn C
  cases bf
  all_goals
    go_enter Try.func34, Try.ntmps34
    go_wp2_with fail
    refine HC.out.mono ?_
    rintro e w1 ⟨rfl, h1⟩
    have H1 := Lib.hid h1
    clear h1
    go_wp2
    go_ret
    exact ⟨rfl, H1.out⟩
set_option maxHeartbeats 4000000 in
theorem rSwap_full (pa : Option Addr) (np pc : Nat) (hnp : np ≤ maxLen) (hr : r < np) :
    Calls Try.prog 34 #[.pointer (some ⟨b, 0, none⟩), .slice pa np pc] w fun e w' => e = .returned (.int .i64 14) ∧ w = w' := by
  unfold maxLen at hnp
  have c2 := h.c2; have c4 := h.c4
  clear h
  go_enter Try.func34, Try.ntmps34
  go_wp2
  go_ret
  exact ⟨rfl, rfl⟩
set_option maxHeartbeats 4000000 in
theorem rWrite_full (pa : Option Addr) (np pc : Nat) (hnp : np ≤ maxLen) (hf : ¬ fits r l.length np) :
    Calls Try.prog 19 #[.pointer (some ⟨b, 0, none⟩), .slice pa np pc] w fun e w' => e = .returned (.int .i64 14) ∧ Below w.heap.size w w' := by
  unfold maxLen at hnp
  unfold fits at hf
  obtain ⟨a, c, hv, hlc, _, hb, hno⟩ := h.row.shape
  have c0 := h.c0; have c2 := h.c2; have c4 := h.c4
  have hL := h.len; have hR := h.room
  rw [hv] at c0
  have h1 : 0 < np := by omega
  have h2 : (r : Int) - l.length < np := by omega
  clear hb hno hv h hf
  go_enter Try.func19, Try.ntmps19
  go_wp2
  go_quiet (fail)
  go_wp2
  go_ret
  exact ⟨rfl, below_drewN (Below.refl _ w) _⟩
set_option maxHeartbeats 8000000 in
theorem rWrite_done (pa : Option Addr) (np pc : Nat) (m : List UInt8) (hm : BAt w pa m) (hn : np = m.length) (hno : pa = none → np = 0 ∧ pc = 0) (hf : fits r l.length m.length) :
    Calls Try.prog 19 #[.pointer (some ⟨b, 0, none⟩), .slice pa np pc] w fun e w' => e = .returned (.int .i64 (if burns fu then 16 else 0)) ∧
      ∃ v', Rat w' b v' r (l ++ m) hd (burnt fu) (burns fu) ∧ Fresh w v v' ∧ Chg (Mine b v) w w' := by
  subst hn
  unfold fits at hf
  obtain ⟨a, c, hv, hlc, _, hb, hna⟩ := h.row.shape
  have c0 := h.c0; have c2 := h.c2; have c4 := h.c4
  have hL := h.len; have hR := h.room
  rw [hv] at c0
  have H := Lib.hid h; have HM := Lib.hid hm; have HNO := Lib.hid hno; have HB := Lib.hid hb; have HNA := Lib.hid hna
  have hlt := h.lt
  obtain ⟨bf, hbf⟩ : ∃ bf, burns fu = bf := ⟨_, rfl⟩
  have HBF := Lib.hid hbf
  rw [hbf]
  have hlen : (l ++ m).length ≤ 16777216 := by rw [List.length_append]; omega
  have hhd := h.held
  clear hb hna hv h hbf hm hno
  have go : ∀ wz, Below w.heap.size w wz → Chg (Mine b v) w wz → Calls Try.prog 40 #[.slice a l.length c] wz fun e w' => ∃ v', e = .returned v' ∧ Row w' v' l ∧ (∀ g, foot v' = some g → wz.heap.size ≤ g) ∧ Below wz.heap.size wz w' := fun wz hz _ =>
    CopyBytes_any l wz a l.length c (HB.out.keep hz) rfl HNA.out (by omega)
  have G := Lib.hid go
  clear go
  have hcase : m.length = 0 ∨ (0 < m.length ∧ (m.length : Int) ≤ (r : Int) - l.length) := by omega
  obtain ⟨q, hq⟩ : ∃ q, m.length = q := ⟨_, rfl⟩
  have HQ := Lib.hid hq
  rw [hq] at hcase hf ⊢
  clear hq hf
  cases bf
  all_goals
    rcases hcase with hc0 | ⟨hc0, hc1⟩
    all_goals
      first
      | (subst hc0; skip)
      | skip
      go_enter Try.func19, Try.ntmps19
      go_wp2_with fail
      go_quiet (fail)
      go_wp2_with fail
      have bz : Below w.heap.size w (w.drewN nq) := below_drewN (Below.refl _ w) _
      have tz := H.out.drewN nq
      refine (G.out (w.drewN nq) bz ((Chg.refl _ w).drewN nq)).mono ?_
      rintro e w1 ⟨v1, rfl, r1, f1, b1⟩
      have b01 : Below w.heap.size w w1 := bz.trans b1
      have T1 := Lib.hid (tz.keep b1)
      have HM1 := Lib.hid (HM.out.keep b01)
      have hadd : l.length + m.length ≤ 1099511627776 := by rw [List.length_append] at hlen; omega
      have R1 := Lib.hid r1; have F1 := Lib.hid f1; have HADD := Lib.hid hadd
      clear r1 f1 hadd tz b1 bz
      have HQ2 := Lib.hid HQ.out.symm
      go_wp2_with (first
        | (at_builtin; refine wpList_append_row rfl (.tmp 32) (.tmp 33) rfl v1 rfl l m R1.out pa _ pc rfl HM1.out HQ2.out (fun e => ⟨by have h1 := (HNO.out e).1; have h2 := HQ.out; omega, (HNO.out e).2⟩) HADD.out ?_)
        | fail)
      intro v' w2 hap
      obtain ⟨h1, h2, h3⟩ := hap
      have b12 : Below w.heap.size w1 w2 := (Below.refl _ _).grown h2 b01.size (fun k hk => F1.out k hk)
      have ff : ∀ g, foot v' = some g → w.heap.size ≤ g := fun g hg => by
        rcases h3 with h3 | h3 | h3
        · rw [h3] at hg; exact F1.out g hg
        · rw [h3] at hg; cases hg
        · rw [h3] at hg; cases hg; exact b01.size
      have b02 : Below w.heap.size w w2 := b01.trans b12
      have t2 := H.out.keep b02
      obtain ⟨va, vc, hv', _, _, _, _⟩ := h1.shape
      obtain ⟨vn, hvn⟩ : ∃ vn, (l ++ m).length = vn := ⟨_, rfl⟩
      rw [hvn] at hv'
      subst hv'
      have ha : foot (.slice va vn vc) ≠ some b := fun e => by have := ff b e; omega
      have d0 := t2.c0; have e0 := t2.fz 0
      have t3 := t2.set0 h1 ha hlen (by rw [List.length_append]; omega)
      have k3 : Chg (Mine b v) w (w2.setCell ⟨b, 0, none⟩ (.slice va vn vc)) := (Chg.of_below b02).setCell _ (fun _ => .inl rfl) _
      have F3 := Lib.hid (show Fresh w v (.slice va vn vc) from fun g hg => .inr (ff g hg))
      have T3 := Lib.hid t3; have K3 := Lib.hid k3
      clear h1 h2 h3 t2 ha hvn t3 k3 ff
      go_wp2_with fail
      refine (rburn_any b _ r (l ++ m) hd fu _ T3.out).mono ?_
      rintro e w4 ⟨rfl, t4, k4⟩
      have T4 := Lib.hid t4
      have K4 := Lib.hid (K3.out.more k4 (fun i _ hi => .inl hi))
      rw [HBF.out]
      clear t4 k4
      go_wp2
      go_ret
      exact ⟨rfl, _, by have e := T4.out; rw [HBF.out] at e; exact e, F3.out, K4.out⟩
end
section
variable (b : Nat) (w : World) (c4 : w.cell? ⟨b, 4, none⟩ = some (.bool true))
include c4
set_option maxHeartbeats 1000000 in
theorem rWrite_down (x : Value) : Calls Try.prog 19 #[.pointer (some ⟨b, 0, none⟩), x] w fun e w' => e = .returned (.int .i64 16) ∧ w = w' := by
  go_enter Try.func19, Try.ntmps19
  go_wp2
  go_ret
  exact ⟨rfl, rfl⟩
set_option maxHeartbeats 1000000 in
theorem rHold_down : Calls Try.prog 20 #[.pointer (some ⟨b, 0, none⟩)] w fun e w' => e = .returned (.int .i64 16) ∧ w = w' := by
  go_enter Try.func20, Try.ntmps20
  go_wp2
  go_ret
  exact ⟨rfl, rfl⟩
set_option maxHeartbeats 1000000 in
theorem rCut_down (k : Int) : Calls Try.prog 33 #[.pointer (some ⟨b, 0, none⟩), .int .i64 k] w fun e w' => e = .returned (.int .i64 16) ∧ w = w' := by
  go_enter Try.func33, Try.ntmps33
  go_wp2
  go_ret
  exact ⟨rfl, rfl⟩
set_option maxHeartbeats 1000000 in
theorem rSwap_down (x : Value) : Calls Try.prog 34 #[.pointer (some ⟨b, 0, none⟩), x] w fun e w' => e = .returned (.int .i64 16) ∧ w = w' := by
  go_enter Try.func34, Try.ntmps34
  go_wp2
  go_ret
  exact ⟨rfl, rfl⟩
end
end Go.Proofs.Ytghncdoophoieaa
