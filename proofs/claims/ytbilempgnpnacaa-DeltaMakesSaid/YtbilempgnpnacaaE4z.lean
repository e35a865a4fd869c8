/-
  Layer 14, the document's Parse.
-/
import Derived.Test.YtbilempgnpnacaaE4t
import Derived.Test.YtbilempgnpnacaaCb
import Derived.Deep.RegionLaw
namespace Go.Proofs.Ytbilempgnpnacaa
set_option maxRecDepth 20000
open Go.RowKit
set_option linter.unusedVariables false
set_option linter.unusedSimpArgs false

theorem zThree : (Try.prog.info? 53).map (fun i => (i.zero, i.size)) = some (some (.agg #[.int .i64 0, .int .i64 0, .int .i64 0]), 3) := by kernel_rfl
theorem word64 {x2 x3 x4 x5 : Int} (h2 : 0 ≤ x2 ∧ x2 < 256) (h3 : 0 ≤ x3 ∧ x3 < 256) (h4 : 0 ≤ x4 ∧ x4 < 256) (h5 : 0 ≤ x5 ∧ x5 < 256) :
    bits .or .i64 (bits .or .i64 (bits .or .i64 (x2 * 16777216) (x3 * 65536)) (x4 * 256)) x5 = x2 * 16777216 + x3 * 65536 + x4 * 256 + x5 := word_or .i64 63 (by decide) (by decide) wraps_i64 _ _ _ _ h2 h3 h4 h5
/-- An edit whose bytes lie apart from the list. -/
structure EdJ (lo : Nat) (u : World) (own : Option Nat) (x : Edc) : Prop where
  ok : okDl x
  row : Row u x.v x.b
  apart : ∀ k, foot x.v = some k → lo ≤ k ∧ own ≠ some k
theorem EdJ.below {lo : Nat} {u u' : World} {own : Option Nat} {x : Edc} (h : EdJ lo u own x) (hb : Below u.heap.size u u') : EdJ lo u' own x := ⟨h.ok, h.row.keep fun k hk => hb.block k (h.row.lt k hk), h.apart⟩
/-- One edit, appended. -/
theorem ed_append {w u u2 : World} {v v' : Value} {l : List Edc} {x : Edc} (hown : OwnR rowDl w.heap.size v l u) (hrows : ∀ y ∈ l, EdJ w.heap.size u v.ownBlock y) (hx : EdJ w.heap.size u v.ownBlock x) (o : Obj) (hw : w.heap.size ≤ u.heap.size)
    (ho : OwnR rowDl w.heap.size v' (l ++ [x]) u2) (hg : (u.alloc o).grownBy u2 v.ownBlock) (hn : v'.ownBlock = v.ownBlock ∨ v'.ownBlock = some (u.alloc o).heap.size) :
    (∀ y ∈ l ++ [x], EdJ w.heap.size u2 v'.ownBlock y) ∧ Below w.heap.size u u2 ∧ ∀ k, k < u.heap.size → v.ownBlock ≠ some k → u2.heap[k]? = u.heap[k]? := by
  have b1 : Below u.heap.size u (u.alloc o) := (Below.refl _ u).alloc (Nat.le_refl _) o
  have hbl : ∀ k, k < u.heap.size → v.ownBlock ≠ some k → u2.heap[k]? = u.heap[k]? := fun k hk hne => (hg.block k (Nat.lt_of_lt_of_le hk b1.size) (fun e => hne e.symm)).trans (b1.block k hk)
  have qx : ∀ y, EdJ w.heap.size u v.ownBlock y → EdJ w.heap.size u2 v'.ownBlock y := fun y hy => ⟨hy.ok, hy.row.keep fun k hk => hbl k (hy.row.lt k hk) (hy.apart k hk).2, fun k hk => ⟨(hy.apart k hk).1, by
    rcases hn with e | e
    · rw [e]; exact (hy.apart k hk).2
    · rw [e]; intro e2; have := b1.size; have := hy.row.lt k hk; simp only [Option.some.injEq] at e2; omega⟩⟩
  refine ⟨fun y hy => ?_, ((Below.refl w.heap.size u).alloc hw o).grown hg (Nat.le_trans hw b1.size) (fun k hk => (ownR_lt hown k hk).1), hbl⟩
  rcases List.mem_append.1 hy with hy | hy
  · exact qx y (hrows y hy)
  · rw [List.mem_singleton.1 hy]; exact qx x hx
theorem step_append_edit {ops : Array Oper} {o : Oper} {a : Act} {w : World} {K : Act → World → Prop} {Q : Exit → Act → World → Prop} {E : Prop} (hgd : o.guard = none) (s y : Operand)
    (ho : o.op = .call { callee := .builtin .append, args := #[s, y], argTypes := #[23, 23] })
    (w0 : World) (v : Value) (l : List Edc) (x : Edc) (u : World) (C : Array Value) (hC : C = arrDl x.f x.t x.v) (hw : w = u.alloc (.cells C 34)) (hs : a.eval s = v) (hy : a.eval y = .slice (some ⟨u.heap.size, 0, none⟩) 1 1)
    (hown : OwnR rowDl w0.heap.size v l u) (hrows : ∀ y ∈ l, EdJ w0.heap.size u v.ownBlock y) (hx : EdJ w0.heap.size u v.ownBlock x) (hb : l.length ≤ 1000000) (hB : w0.heap.size ≤ u.heap.size)
    (h : ∀ v' w', OwnR rowDl w0.heap.size v' (l ++ [x]) w' → (∀ y ∈ l ++ [x], EdJ w0.heap.size w' v'.ownBlock y) → Below w0.heap.size u w' → (∀ k, k < u.heap.size → v.ownBlock ≠ some k → w'.heap[k]? = u.heap[k]?) → K (a.put o.dst v') w') : if Region.wanted o (yielded ops a.tmps) = true then Oper.wp Try.prog o a w K Q else E := by
  have hwn : Region.wanted o (yielded ops a.tmps) = true := by simp [Region.wanted, hgd]
  rw [if_pos hwn]
  subst hw
  have hb1 : Below u.heap.size u (u.alloc (.cells C 34)) := (Below.refl _ u).alloc (Nat.le_refl _) _
  have hrow : RowAt rowDl (u.alloc (.cells C 34)) (some ⟨u.heap.size, 0, none⟩) [x] := rowR_one (R := rowDl) (P := Try.prog) goodDl (t := 34) (fr := (0, 0)) (by rw [heap_alloc_new, hC]; rfl)
  refine wp_append_atR goodDl s y ho w0.heap.size v l [x] _ 1 1 hs hy rfl hrow (fun z hz => by rw [List.mem_singleton.1 hz]; exact hx.ok) (fun z hz => (hrows z hz).ok) (ownR_below hown hb1) (by simp; omega) (Nat.le_trans hB hb1.size) (fun v' w' ho' hg hn => ?_)
  obtain ⟨k1, k2, k3⟩ := ed_append hown hrows hx (.cells C 34) hB ho' hg hn
  exact h v' w' ho' k1 k2 k3
/-- Which number fails first. -/
theorem errQ_first (r : List UInt8) (k : Nat) (hk : k < 3) (h0 : 0 < k → numQ r = 0) (h1 : 1 < k → numQ (r.drop 4) = 0) (hf : numQ (r.drop (4 * k)) ≠ 0) : errQ r = numQ (r.drop (4 * k)) := by
  unfold errQ
  match k, hk with
  | 0, _ => exact if_pos hf
  | 1, _ =>
    rw [if_neg (fun h => h (h0 (by omega)))]
    exact if_pos hf
  | 2, _ =>
    rw [if_neg (fun h => h (h0 (by omega))), if_neg (fun h => h (h1 (by omega)))]
    exact if_pos hf
set_option maxHeartbeats 32000000 in
theorem rParse_is (a : Option Addr) (n c : Nat) (raw : List UInt8) (w : World) (h : Red w (.slice a n c) raw) (hm : n ≤ 1000000) :
    Calls Try.prog 13 #[.slice a n c] w fun e w' => ∃ (ao : Option Addr) (k cc : Nat) (l : List Edc), e = .returned (.tuple #[.slice ao k cc, .int .i64 ((parseQ raw).2 : Nat)]) ∧ k = l.length ∧ l.map Edc.x = outQ raw ∧ EdAt w' ao l ∧ Below w.heap.size w w' := by
  have hz3 := zero_arr zThree
  have HN := Lib.hid (redP h).1
  have H := Lib.hid h
  clear h
  go_enter Try.func13, Try.ntmps13
  go_wp2_with fail
  go_loopg [0, 4] n (fun gh vb v4 wr => ∃ (a : Option Addr) (m c : Nat) (r : List UInt8) (l : List Edc), vb = .slice a m c ∧ Red w (.slice a m c) r ∧ m ≤ gh ∧ l.length + m ≤ n ∧ OwnR rowDl w.heap.size v4 l wr ∧ (∀ y ∈ l, EdJ w.heap.size wr v4.ownBlock y) ∧ Below w.heap.size w wr ∧ parseQ raw = (l.map Edc.x ++ (parseQ r).1, (parseQ r).2))
  case atStart => exact ⟨a, n, c, raw, [], rfl, H.out, Nat.le_refl _, by simp, ownR_nil _ _, fun y hy => (by cases hy), Below.refl _ _, rfl⟩
  case round =>
    obtain ⟨a, m, c, r, l, rfl, hred, hgk, hlm, hown, hrows, hbr, hpq⟩ := hrel
    have HR := Lib.hid hred; have OW := Lib.hid hown; have RW := Lib.hid hrows; have HB := Lib.hid hbr; have PQ := Lib.hid hpq; have GK := Lib.hid hgk; have LM := Lib.hid hlm
    have HM := Lib.hid (redP hred).1
    clear hred hown hrows hbr hpq hgk hlm
    by_cases h0 : m = 0
    · subst h0
      have hr0 : r = [] := List.eq_nil_of_length_eq_zero HM.out.symm
      have PQ2 := Lib.hid (show parseQ raw = (l.map Edc.x, 0) by rw [PQ.out, hr0, parseQ_nil, List.append_nil])
      obtain ⟨ao, ac, hv, -, -, hrow, -, -⟩ := ownR_shape goodDl OW.out (fun x hx => (RW.out x hx).ok)
      obtain ⟨k, hk⟩ : ∃ k, l.length = k := ⟨_, rfl⟩
      rw [hk] at hv
      subst hv
      have ED := Lib.hid (show EdAt wr ao l from ⟨hrow, fun x hx => (RW.out x hx).row.red⟩)
      have OQ := Lib.hid (show l.map Edc.x = outQ raw by unfold outQ; rw [PQ2.out, if_pos rfl])
      have HK := Lib.hid hk
      clear hr0 hrow hk OW RW
      go_wp2
      go_ret2
      exact ⟨ao, k, ac, l, by rw [PQ2.out]; rfl, HK.out.symm, OQ.out, ED.out, HB.out⟩
    · have hne : r ≠ [] := fun e => h0 (by rw [HM.out, e]; rfl)
      have NE := Lib.hid hne
      have g0 : (0 : Int) < (m : Int) := by omega
      have g1 : decide (0 < m) = true := decide_eq_true (by omega)
      have m6 : m ≤ 1000000 := by have := LM.out; omega
      have q0 := heap_alloc_new wr (.cells #[.int .i64 0, .int .i64 0, .int .i64 0] 53)
      have Q0 := Lib.hid q0
      have B0 := Lib.hid ((Below.refl wr.heap.size wr).alloc (Nat.le_refl _) (.cells #[.int .i64 0, .int .i64 0, .int .i64 0] 53))
      clear hne h0 q0
      go_wp2_with fail
      go_loopw [0, 6] (fun vb i wt => ∃ (k : Nat) (a : Option Addr) (m2 c : Nat) (y0 y1 y2 : Int), k ≤ 3 ∧ i = .int .i64 k ∧ vb = .slice a m2 c ∧ Red w (.slice a m2 c) (r.drop (4 * k)) ∧ m2 + 4 * k = m ∧ wt.heap[wr.heap.size]? = some (.cells #[.int .i64 y0, .int .i64 y1, .int .i64 y2] 53 (0, 0)) ∧ Below wr.heap.size wr wt ∧
        (0 < k → y0 = (wordX r : Nat) ∧ numQ r = 0) ∧ (1 < k → y1 = (wordX (r.drop 4) : Nat) ∧ numQ (r.drop 4) = 0) ∧ (2 < k → y2 = (wordX (r.drop 8) : Nat) ∧ numQ (r.drop 8) = 0)) (fun _ i _ => 3 - (intOf i).toNat)
      case atStart => exact ⟨0, a, m, c, 0, 0, 0, by omega, rfl, rfl, by simpa using HR.out, by omega, Q0.out, B0.out, fun h => absurd h (by omega), fun h => absurd h (by omega), fun h => absurd h (by omega)⟩
      case round =>
        clear Q0 B0
        obtain ⟨k, a2, m2, c2, y0, y1, y2, hk, rfl, rfl, hred2, hmk, hq, hbt, f0, f1, f2⟩ := hrel
        rename World => wt
        have HR2 := Lib.hid hred2; have HQ := Lib.hid hq; have HBT := Lib.hid hbt; have F0 := Lib.hid f0; have F1 := Lib.hid f1; have F2 := Lib.hid f2
        have BT := Lib.hid (HB.out.trans (hbt.mono HB.out.size))
        have HM2 := Lib.hid (redP hred2).1
        clear hred2 hq hbt f0 f1 f2
        by_cases hk3 : k < 3
        · by_cases h4 : m2 < 4
          · have hq3 : numQ (r.drop (4 * k)) = 3 := by unfold numQ; rw [if_pos (by rw [← HM2.out]; exact h4)]
            have ER := Lib.hid (show (parseQ raw).2 = 3 by
              have e := errQ_first r k hk3 (fun h => (F0.out h).2) (fun h => (F1.out h).2) (by rw [hq3]; decide)
              rw [hq3] at e
              rw [PQ.out, parseQ_err NE.out (by rw [e]; decide), e])
            have OQ := Lib.hid (show ([] : List Edc).map Edc.x = outQ raw by unfold outQ; rw [ER.out, if_neg (by decide)]; rfl)
            clear hq3
            go_wp2
            go_ret2
            exact ⟨none, 0, 0, [], by rw [ER.out]; rfl, rfl, OQ.out, ⟨RowAt.nil _ _, fun x hx => (by cases hx)⟩, BT.out⟩
          · obtain ⟨b, o, x0, x1, x2, x3, rfl, hlt, z0, z1, z2, z3, r0, r1, r2, r3, hs⟩ := red_word HR2.out (by omega) BT.out
            have hw := word64 r0 r1 r2 r3
            rw [hs] at hw
            obtain ⟨V, hV⟩ : ∃ V, wordX (r.drop (4 * k)) = V := ⟨_, rfl⟩
            rw [hV] at hw
            obtain ⟨r00, r01⟩ := r0; obtain ⟨r10, r11⟩ := r1; obtain ⟨r20, r21⟩ := r2; obtain ⟨r30, r31⟩ := r3
            have hVb : V < 4294967296 := by omega
            have HV := Lib.hid hV
            have q0 := (cell_of_row wt wr.heap.size 0 _ _ _ HQ.out)
            have q1 := (cell_of_row wt wr.heap.size 1 _ _ _ HQ.out)
            have q2 := (cell_of_row wt wr.heap.size 2 _ _ _ HQ.out)
            have z4 := not_frozen HQ.out
            simp only [List.getElem?_toArray, List.getElem?_cons_zero, List.getElem?_cons_succ] at q0 q1 q2
            clear hs hlt hV
            have hk012 : k = 0 ∨ k = 1 ∨ k = 2 := by omega
            rcases hk012 with rfl | rfl | rfl
            · by_cases hbig : 2147483647 < V
              · have hbi : (2147483647 : Int) < (V : Int) := by omega
                have hq4 : numQ (r.drop (4 * 0)) = 4 := by unfold numQ; rw [if_neg (by rw [← HM2.out]; exact h4), HV.out, if_pos hbig]
                have ER := Lib.hid (show (parseQ raw).2 = 4 by
                  have e := errQ_first r 0 (by decide) (fun h => (F0.out h).2) (fun h => (F1.out h).2) (by rw [hq4]; decide)
                  rw [hq4] at e
                  rw [PQ.out, parseQ_err NE.out (by rw [e]; decide), e])
                have OQ := Lib.hid (show ([] : List Edc).map Edc.x = outQ raw by unfold outQ; rw [ER.out, if_neg (by decide)]; rfl)
                clear hq4
                go_wp2_with fail
                go_region
                have HP := Lib.hid (show (wt.setCell ⟨wr.heap.size, 0, none⟩ (.int .i64 (V : Int))).drew.heap[wr.heap.size]? = some (.cells #[.int .i64 (V : Int), .int .i64 y1, .int .i64 y2] 53 (0, 0)) by show (wt.setCell ⟨wr.heap.size, 0, none⟩ (.int .i64 (V : Int))).heap[wr.heap.size]? = _; rw [heap_put (w := wt) HQ.out]; rfl)
                have BP := Lib.hid ((BT.out.setCell (p := ⟨wr.heap.size, 0, none⟩) HB.out.size (.int .i64 (V : Int))).drew)
                generalize (wt.setCell ⟨wr.heap.size, 0, none⟩ (.int .i64 (V : Int))).drew = w5 at *
                have y5 : w5.cell? ⟨wr.heap.size, 0, none⟩ = some (.int .i64 (V : Int)) := (cell_of_row w5 wr.heap.size 0 _ _ _ HP.out).trans rfl
                clear q0 q1 q2 z4 z0 z1 z2 z3 hw
                go_wp2
                go_ret2
                exact ⟨none, 0, 0, [], by rw [ER.out]; rfl, rfl, OQ.out, ⟨RowAt.nil _ _, fun x hx => (by cases hx)⟩, BP.out⟩
              · have hbi : ¬ ((2147483647 : Int) < (V : Int)) := by omega
                have NQ := Lib.hid (show numQ (r.drop (4 * 0)) = 0 by unfold numQ; rw [if_neg (by rw [← HM2.out]; exact h4), HV.out, if_neg hbig])
                have s1 := fun u => slice_u8_l u (some ⟨b, o, none⟩) m2 c2 4 (by omega) 4 rfl
                have RR := Lib.hid (red_rest (k := 4) HR2.out (by omega))
                obtain ⟨A5, hA5⟩ : ∃ A, (if c2 = 4 then (some ⟨b, o, none⟩ : Option Addr) else (some ⟨b, o, none⟩ : Option Addr).map (·.add 4)) = A := ⟨_, rfl⟩
                rw [hA5] at s1 RR
                clear hA5
                go_wp2_with fail
                go_region
                have HP := Lib.hid (show (wt.setCell ⟨wr.heap.size, 0, none⟩ (.int .i64 (V : Int))).drew.heap[wr.heap.size]? = some (.cells #[.int .i64 (V : Int), .int .i64 y1, .int .i64 y2] 53 (0, 0)) by show (wt.setCell ⟨wr.heap.size, 0, none⟩ (.int .i64 (V : Int))).heap[wr.heap.size]? = _; rw [heap_put (w := wt) HQ.out]; rfl)
                have BP := Lib.hid ((HBT.out.setCell (p := ⟨wr.heap.size, 0, none⟩) (Nat.le_refl _) (.int .i64 (V : Int))).drew)
                generalize (wt.setCell ⟨wr.heap.size, 0, none⟩ (.int .i64 (V : Int))).drew = w5 at *
                have y5 : w5.cell? ⟨wr.heap.size, 0, none⟩ = some (.int .i64 (V : Int)) := (cell_of_row w5 wr.heap.size 0 _ _ _ HP.out).trans rfl
                clear q0 q1 q2 z4 z0 z1 z2 z3 hw
                go_wp2
                go_roundw
                case rel => exact ⟨0 + 1, A5, m2 - 4, c2 - 4, (V : Int), y1, y2, by decide, rfl, rfl, by have q := RR.out; rw [List.drop_drop] at q; exact q, by omega, HP.out, BP.out, fun _ => ⟨by rw [← HV.out]; rfl, NQ.out⟩, fun h => absurd h (by decide), fun h => absurd h (by decide)⟩
                case measure => simp [intOf]
            · by_cases hbig : 2147483647 < V
              · have hbi : (2147483647 : Int) < (V : Int) := by omega
                have hq4 : numQ (r.drop (4 * 1)) = 4 := by unfold numQ; rw [if_neg (by rw [← HM2.out]; exact h4), HV.out, if_pos hbig]
                have ER := Lib.hid (show (parseQ raw).2 = 4 by
                  have e := errQ_first r 1 (by decide) (fun h => (F0.out h).2) (fun h => (F1.out h).2) (by rw [hq4]; decide)
                  rw [hq4] at e
                  rw [PQ.out, parseQ_err NE.out (by rw [e]; decide), e])
                have OQ := Lib.hid (show ([] : List Edc).map Edc.x = outQ raw by unfold outQ; rw [ER.out, if_neg (by decide)]; rfl)
                clear hq4
                go_wp2_with fail
                go_region
                have HP := Lib.hid (show (wt.setCell ⟨wr.heap.size, 1, none⟩ (.int .i64 (V : Int))).drew.heap[wr.heap.size]? = some (.cells #[.int .i64 y0, .int .i64 (V : Int), .int .i64 y2] 53 (0, 0)) by show (wt.setCell ⟨wr.heap.size, 1, none⟩ (.int .i64 (V : Int))).heap[wr.heap.size]? = _; rw [heap_put (w := wt) HQ.out]; rfl)
                have BP := Lib.hid ((BT.out.setCell (p := ⟨wr.heap.size, 1, none⟩) HB.out.size (.int .i64 (V : Int))).drew)
                generalize (wt.setCell ⟨wr.heap.size, 1, none⟩ (.int .i64 (V : Int))).drew = w5 at *
                have y5 : w5.cell? ⟨wr.heap.size, 1, none⟩ = some (.int .i64 (V : Int)) := (cell_of_row w5 wr.heap.size 1 _ _ _ HP.out).trans rfl
                clear q0 q1 q2 z4 z0 z1 z2 z3 hw
                go_wp2
                go_ret2
                exact ⟨none, 0, 0, [], by rw [ER.out]; rfl, rfl, OQ.out, ⟨RowAt.nil _ _, fun x hx => (by cases hx)⟩, BP.out⟩
              · have hbi : ¬ ((2147483647 : Int) < (V : Int)) := by omega
                have NQ := Lib.hid (show numQ (r.drop (4 * 1)) = 0 by unfold numQ; rw [if_neg (by rw [← HM2.out]; exact h4), HV.out, if_neg hbig])
                have s1 := fun u => slice_u8_l u (some ⟨b, o, none⟩) m2 c2 4 (by omega) 4 rfl
                have RR := Lib.hid (red_rest (k := 4) HR2.out (by omega))
                obtain ⟨A5, hA5⟩ : ∃ A, (if c2 = 4 then (some ⟨b, o, none⟩ : Option Addr) else (some ⟨b, o, none⟩ : Option Addr).map (·.add 4)) = A := ⟨_, rfl⟩
                rw [hA5] at s1 RR
                clear hA5
                go_wp2_with fail
                go_region
                have HP := Lib.hid (show (wt.setCell ⟨wr.heap.size, 1, none⟩ (.int .i64 (V : Int))).drew.heap[wr.heap.size]? = some (.cells #[.int .i64 y0, .int .i64 (V : Int), .int .i64 y2] 53 (0, 0)) by show (wt.setCell ⟨wr.heap.size, 1, none⟩ (.int .i64 (V : Int))).heap[wr.heap.size]? = _; rw [heap_put (w := wt) HQ.out]; rfl)
                have BP := Lib.hid ((HBT.out.setCell (p := ⟨wr.heap.size, 1, none⟩) (Nat.le_refl _) (.int .i64 (V : Int))).drew)
                generalize (wt.setCell ⟨wr.heap.size, 1, none⟩ (.int .i64 (V : Int))).drew = w5 at *
                have y5 : w5.cell? ⟨wr.heap.size, 1, none⟩ = some (.int .i64 (V : Int)) := (cell_of_row w5 wr.heap.size 1 _ _ _ HP.out).trans rfl
                clear q0 q1 q2 z4 z0 z1 z2 z3 hw
                go_wp2
                go_roundw
                case rel => exact ⟨1 + 1, A5, m2 - 4, c2 - 4, y0, (V : Int), y2, by decide, rfl, rfl, by have q := RR.out; rw [List.drop_drop] at q; exact q, by omega, HP.out, BP.out, fun _ => F0.out (by decide), fun _ => ⟨by rw [← HV.out], NQ.out⟩, fun h => absurd h (by decide)⟩
                case measure => simp [intOf]
            · by_cases hbig : 2147483647 < V
              · have hbi : (2147483647 : Int) < (V : Int) := by omega
                have hq4 : numQ (r.drop (4 * 2)) = 4 := by unfold numQ; rw [if_neg (by rw [← HM2.out]; exact h4), HV.out, if_pos hbig]
                have ER := Lib.hid (show (parseQ raw).2 = 4 by
                  have e := errQ_first r 2 (by decide) (fun h => (F0.out h).2) (fun h => (F1.out h).2) (by rw [hq4]; decide)
                  rw [hq4] at e
                  rw [PQ.out, parseQ_err NE.out (by rw [e]; decide), e])
                have OQ := Lib.hid (show ([] : List Edc).map Edc.x = outQ raw by unfold outQ; rw [ER.out, if_neg (by decide)]; rfl)
                clear hq4
                go_wp2_with fail
                go_region
                have HP := Lib.hid (show (wt.setCell ⟨wr.heap.size, 2, none⟩ (.int .i64 (V : Int))).drew.heap[wr.heap.size]? = some (.cells #[.int .i64 y0, .int .i64 y1, .int .i64 (V : Int)] 53 (0, 0)) by show (wt.setCell ⟨wr.heap.size, 2, none⟩ (.int .i64 (V : Int))).heap[wr.heap.size]? = _; rw [heap_put (w := wt) HQ.out]; rfl)
                have BP := Lib.hid ((BT.out.setCell (p := ⟨wr.heap.size, 2, none⟩) HB.out.size (.int .i64 (V : Int))).drew)
                generalize (wt.setCell ⟨wr.heap.size, 2, none⟩ (.int .i64 (V : Int))).drew = w5 at *
                have y5 : w5.cell? ⟨wr.heap.size, 2, none⟩ = some (.int .i64 (V : Int)) := (cell_of_row w5 wr.heap.size 2 _ _ _ HP.out).trans rfl
                clear q0 q1 q2 z4 z0 z1 z2 z3 hw
                go_wp2
                go_ret2
                exact ⟨none, 0, 0, [], by rw [ER.out]; rfl, rfl, OQ.out, ⟨RowAt.nil _ _, fun x hx => (by cases hx)⟩, BP.out⟩
              · have hbi : ¬ ((2147483647 : Int) < (V : Int)) := by omega
                have NQ := Lib.hid (show numQ (r.drop (4 * 2)) = 0 by unfold numQ; rw [if_neg (by rw [← HM2.out]; exact h4), HV.out, if_neg hbig])
                have s1 := fun u => slice_u8_l u (some ⟨b, o, none⟩) m2 c2 4 (by omega) 4 rfl
                have RR := Lib.hid (red_rest (k := 4) HR2.out (by omega))
                obtain ⟨A5, hA5⟩ : ∃ A, (if c2 = 4 then (some ⟨b, o, none⟩ : Option Addr) else (some ⟨b, o, none⟩ : Option Addr).map (·.add 4)) = A := ⟨_, rfl⟩
                rw [hA5] at s1 RR
                clear hA5
                go_wp2_with fail
                go_region
                have HP := Lib.hid (show (wt.setCell ⟨wr.heap.size, 2, none⟩ (.int .i64 (V : Int))).drew.heap[wr.heap.size]? = some (.cells #[.int .i64 y0, .int .i64 y1, .int .i64 (V : Int)] 53 (0, 0)) by show (wt.setCell ⟨wr.heap.size, 2, none⟩ (.int .i64 (V : Int))).heap[wr.heap.size]? = _; rw [heap_put (w := wt) HQ.out]; rfl)
                have BP := Lib.hid ((HBT.out.setCell (p := ⟨wr.heap.size, 2, none⟩) (Nat.le_refl _) (.int .i64 (V : Int))).drew)
                generalize (wt.setCell ⟨wr.heap.size, 2, none⟩ (.int .i64 (V : Int))).drew = w5 at *
                have y5 : w5.cell? ⟨wr.heap.size, 2, none⟩ = some (.int .i64 (V : Int)) := (cell_of_row w5 wr.heap.size 2 _ _ _ HP.out).trans rfl
                clear q0 q1 q2 z4 z0 z1 z2 z3 hw
                go_wp2
                go_roundw
                case rel => exact ⟨2 + 1, A5, m2 - 4, c2 - 4, y0, y1, (V : Int), by decide, rfl, rfl, by have q := RR.out; rw [List.drop_drop] at q; exact q, by omega, HP.out, BP.out, fun _ => F0.out (by decide), fun _ => F1.out (by decide), fun _ => ⟨by rw [← HV.out], NQ.out⟩⟩
                case measure => simp [intOf]
        · obtain rfl : k = 3 := by omega
          obtain ⟨u0, n0⟩ := F0.out (by decide)
          obtain ⟨u1, n1⟩ := F1.out (by decide)
          obtain ⟨u2, n2⟩ := F2.out (by decide)
          obtain ⟨V, hV⟩ : ∃ V, wordX (r.drop 8) = V := ⟨_, rfl⟩
          rw [hV] at u2
          have EQ := Lib.hid (show errQ r = if m2 < V then 3 else 0 by
            unfold errQ
            rw [if_neg (fun h => h n0), if_neg (fun h => h n1), if_neg (fun h => h n2), hV]
            have q := HM2.out
            rw [q])
          have EDQ := Lib.hid (show editQ r = (y0, y1, (r.drop 12).take V) by unfold editQ; rw [hV, ← u0, ← u1])
          have SQ := Lib.hid (show sizeQ r = 12 + V by unfold sizeQ; rw [hV])
          have q0 := (cell_of_row wt wr.heap.size 0 _ _ _ HQ.out)
          have q1 := (cell_of_row wt wr.heap.size 1 _ _ _ HQ.out)
          have q2 := (cell_of_row wt wr.heap.size 2 _ _ _ HQ.out)
          simp only [List.getElem?_toArray, List.getElem?_cons_zero, List.getElem?_cons_succ] at q0 q1 q2
          rw [u2] at q2
          have HQ := Lib.hid (show wt.heap[wr.heap.size]? = some (.cells #[.int .i64 y0, .int .i64 y1, .int .i64 (V : Int)] 53 (0, 0)) by rw [HQ.out, u2])
          clear u0 u1 u2 n0 n1 n2 hV F0 F1 F2
          by_cases hs : m2 < V
          · have hsi : (m2 : Int) < (V : Int) := by omega
            have ER := Lib.hid (show (parseQ raw).2 = 3 by
              have e := EQ.out
              rw [if_pos hs] at e
              rw [PQ.out, parseQ_err NE.out (by rw [e]; decide), e])
            have OQ := Lib.hid (show ([] : List Edc).map Edc.x = outQ raw by unfold outQ; rw [ER.out, if_neg (by decide)]; rfl)
            go_wp2
            go_ret2
            exact ⟨none, 0, 0, [], by rw [ER.out]; rfl, rfl, OQ.out, ⟨RowAt.nil _ _, fun x hx => (by cases hx)⟩, BT.out⟩
          · have hsi : ¬ ((m2 : Int) < (V : Int)) := by omega
            have NX := Lib.hid (show parseQ raw = (l.map Edc.x ++ (y0, y1, (r.drop 12).take V) :: (parseQ (r.drop (12 + V))).1, (parseQ (r.drop (12 + V))).2) by
              have e := EQ.out
              rw [if_neg hs] at e
              rw [PQ.out, parseQ_next NE.out e, EDQ.out, SQ.out])
            have RF := Lib.hid (red_first (k := V) HR2.out (by omega))
            have RR := Lib.hid (red_rest (k := V) HR2.out (by omega))
            obtain ⟨A5, hA5⟩ : ∃ A, (if c2 = V then a2 else a2.map (·.add V)) = A := ⟨_, rfl⟩
            have s1 := fun u => slice_head a2 m2 c2 V V rfl (by have q := (redP HR2.out).2.2.2.1; have := HM2.out; omega) u
            have s2 := fun u => slice_u8_l u a2 m2 c2 V (by omega) V rfl
            rw [hA5] at s2 RR
            have RT := redP (RF.out.below BT.out.drew (Nat.le_refl _))
            obtain ⟨B, hB⟩ : ∃ B, (r.drop (4 * 3)).take V = B := ⟨_, rfl⟩
            rw [hB] at RT
            have CC := Lib.hid (CopyBytes_any B wt.drew a2 V c2 RT.2.1 RT.1 (fun h => by rw [RT.1]; exact RT.2.2.1 h) (by have := RT.1; omega))
            have HBB := Lib.hid hB; have BV := Lib.hid RT.1
            have L6 := Lib.hid (show l.length ≤ 1000000 by have := LM.out; omega)
            clear RT hA5 hB
            go_wp2_with fail
            go_region_law (first
              | (go_simp; go_at_call 26; refine CC.out.mono ?_; rintro e w' ⟨v6, rfl, hrow, hft, hbe⟩; obtain ⟨a6, c6, hv6, -⟩ := hrow.shape; rw [← BV.out] at hv6; subst hv6; have RO := Lib.hid hrow; have FT := Lib.hid hft; have BE := Lib.hid hbe; have HQ6 := Lib.hid ((hbe.block _ (lt_of_heap HQ.out)).trans HQ.out); have p0 := (cell_of_row w' wr.heap.size 0 _ _ _ HQ6.out); have p1 := (cell_of_row w' wr.heap.size 1 _ _ _ HQ6.out); have p2 := (cell_of_row w' wr.heap.size 2 _ _ _ HQ6.out); simp only [List.getElem?_toArray, List.getElem?_cons_zero, List.getElem?_cons_succ] at p0 p1 p2; have B6 := Lib.hid (HBT.out.drew.trans (hbe.mono HBT.out.size)); have OW6 := Lib.hid (ownR_below OW.out B6.out); have RW6 := Lib.hid (fun y hy => (RW.out y hy).below B6.out); have HX6 := Lib.hid (show EdJ w.heap.size w' u4.ownBlock ⟨y0, y1, .slice a6 V c6, B⟩ from ⟨⟨_, _, _, rfl⟩, hrow, fun k hk => ⟨Nat.le_trans BT.out.size (hft k hk), fun e => absurd (ownR_lt OW.out k e).2 (by have := hft k hk; have := HBT.out.size; have e3 : wt.drew.heap.size = wt.heap.size := rfl; omega)⟩⟩); have SB6 := Lib.hid (show w.heap.size ≤ w'.heap.size from Nat.le_trans HB.out.size B6.out.size); clear hrow hft hbe)
              | (refine step_append_edit (by rfl) (.tmp 52) (.tmp 63) (by rfl) w u4 l ⟨y0, y1, .slice a6 V c6, B⟩ w' #[.int .i64 y0, .int .i64 y1, .slice a6 V c6] rfl (by kernel_rfl) (by kernel_rfl) (by kernel_rfl) OW6.out RW6.out HX6.out L6.out SB6.out ?_; intro v7 w7 ho7 hr7 hb7 hk7))
            all_goals
              have OW7 := Lib.hid ho7; have RW7 := Lib.hid hr7; have B7 := Lib.hid ((HB.out.trans (B6.out.mono HB.out.size)).trans hb7)
              have HQ7 := (hk7 _ (lt_of_heap HQ6.out) (fun e => absurd (ownR_lt OW.out _ e).2 (Nat.lt_irrefl _))).trans HQ6.out
              have p7 : w7.cell? ⟨wr.heap.size, 2, none⟩ = some (.int .i64 (V : Int)) := (cell_of_row w7 wr.heap.size 2 _ _ _ HQ7).trans rfl
              clear HQ7 hk7 ho7 hr7 hb7 OW6 RW6 HX6 SB6 B6 BE HQ6 RO FT q0 q1 q2 p0 p1 p2
              go_wp2_with fail
              go_roundg (m2 - V)
              case measure => have := GK.out; omega
              case rel =>
                refine ⟨A5, m2 - V, c2 - V, r.drop (12 + V), l ++ [⟨y0, y1, .slice a6 V c6, B⟩], rfl, ?_, Nat.le_refl _, ?_, OW7.out, RW7.out, B7.out, ?_⟩
                · have q := RR.out
                  rw [List.drop_drop] at q
                  exact q
                · rw [List.length_append, List.length_singleton]
                  have := LM.out
                  omega
                · rw [NX.out, ← HBB.out, List.map_append, List.append_assoc]
                  rfl
end Go.Proofs.Ytbilempgnpnacaa
