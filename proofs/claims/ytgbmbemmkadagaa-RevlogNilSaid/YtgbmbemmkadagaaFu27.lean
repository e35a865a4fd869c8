/-
  Texts that belong together, one behind the other.
-/
import Derived.Test.YtgbmbemmkadagaaFu25
import Derived.Deep.RegionLaw
import Derived.Test.YtgbmbemmkadagaaFu26
import Derived.Test.YtgbmbemmkadagaaFu17
import Derived.Test.YtgbmbemmkadagaaFu21
import Derived.Test.YtgbmbemmkadagaaFu22
import Derived.Test.YtgbmbemmkadagaaFu23
/-
  Layer 14, the program: Apply.
-/
namespace Go.Proofs.Ytgbmbemmkadagaa
set_option maxRecDepth 20000
open Go.RowKit
set_option linter.unusedVariables false
set_option linter.unusedSimpArgs false

theorem rowPt_two {w : World} {q : Nat} {x y : Prt} {t : TypeId} {fr : Nat × Nat} (h : w.heap[q]? = some (.cells #[x.v, y.v] t fr)) : RowAt rowPt w (some ⟨q, 0, none⟩) [x, y] := fun _ =>
  ⟨q, 0, rfl, lt_of_heap h, fun k hk j v hv => by
    have hk2 : k < 2 := hk
    obtain ⟨hj, -⟩ := List.getElem?_eq_some_iff.1 hv
    have hj2 : j = 0 := by
      have : j < 1 := hj
      omega
    subst hj2
    rw [Lib.cell_of_heap h]
    match k, hk2 with
    | 0, _ => exact hv
    | 1, _ => exact hv⟩
theorem rowPt_one {w : World} {q : Nat} {x : Prt} {t : TypeId} {fr : Nat × Nat} (h : w.heap[q]? = some (.cells #[x.v] t fr)) : RowAt rowPt w (some ⟨q, 0, none⟩) [x] := fun _ =>
  ⟨q, 0, rfl, lt_of_heap h, fun k hk j v hv => by
    have hk2 : k < 1 := hk
    obtain ⟨hj, -⟩ := List.getElem?_eq_some_iff.1 hv
    have hj2 : j = 0 := by
      have : j < 1 := hj
      omega
    subst hj2
    rw [Lib.cell_of_heap h]
    match k, hk2 with
    | 0, _ => exact hv⟩
theorem ownPt_block {B : Nat} {v : Value} {P : List Prt} {w : World} (h : OwnR rowPt B v P w) (k : Nat) (hk : v.ownBlock = some k) : B ≤ k := (ownR_lt h k hk).1
/-- Two pieces, appended, in a region that draws its order. -/
theorem step_append_two {ops : Array Oper} {o : Oper} {a : Act} {w : World} {K : Act → World → Prop} {Q : Exit → Act → World → Prop} {E : Prop} (hgd : o.guard = none) (s y : Operand)
    (ho : o.op = .call { callee := .builtin .append, args := #[s, y], argTypes := #[56, 56] })
    (B : Nat) (v : Value) (P : List Prt) (x1 x2 : Prt) (u : World) (hw : w = u.alloc (.cells #[x1.v, x2.v] 32)) (hs : a.eval s = v) (hy : a.eval y = .slice (some ⟨u.heap.size, 0, none⟩) 2 2)
    (hok : ∀ x ∈ P, okPt x) (h1 : okPt x1) (h2 : okPt x2) (hown : OwnR rowPt B v P u) (hb : P.length ≤ 1000000) (hB : B ≤ u.heap.size)
    (h : ∀ v' w', OwnR rowPt B v' (P ++ [x1, x2]) w' → Below B u w' → (∀ k, k < u.heap.size → v.ownBlock ≠ some k → w'.heap[k]? = u.heap[k]?) → K (a.put o.dst v') w') : if Region.wanted o (yielded ops a.tmps) = true then Oper.wp Try.prog o a w K Q else E := by
  have hwn : Region.wanted o (yielded ops a.tmps) = true := by simp [Region.wanted, hgd]
  rw [if_pos hwn]
  subst hw
  have hb1 : Below u.heap.size u (u.alloc (.cells #[x1.v, x2.v] 32)) := (Below.refl _ u).alloc (Nat.le_refl _) _
  have hrow := rowPt_two (x := x1) (y := x2) (heap_alloc_new u (.cells #[x1.v, x2.v] 32))
  refine wp_append_atR goodPt s y ho B v P [x1, x2] _ 2 2 hs hy rfl hrow (fun x hx => ?_) hok (ownR_below hown hb1) (by simp; omega) (Nat.le_trans hB hb1.size) (fun v' w' ho' hg _ => h v' w' ho' ?_ ?_)
  · simp only [List.mem_cons, List.not_mem_nil, or_false] at hx
    rcases hx with rfl | rfl
    · exact h1
    · exact h2
  · exact ((Below.refl B u).alloc hB _).grown hg (Nat.le_trans hB hb1.size) (fun k hk => ownPt_block hown k hk)
  · intro k hk hne
    exact (hg.block k (Nat.lt_of_lt_of_le hk hb1.size) (fun e => hne e.symm)).trans (hb1.block k hk)
/-- One piece, appended. -/
theorem wpList_append_pt {ops : Array Oper} {rest : List Oper} {o : Oper} {a : Act} {w : World} {Q : Exit → Act → World → Prop} (hgd : o.guard = none) (s y : Operand)
    (ho : o.op = .call { callee := .builtin .append, args := #[s, y], argTypes := #[56, 56] })
    (B : Nat) (v : Value) (P : List Prt) (x1 : Prt) (u : World) (hw : w = u.alloc (.cells #[x1.v] 32)) (hs : a.eval s = v) (hy : a.eval y = .slice (some ⟨u.heap.size, 0, none⟩) 1 1)
    (hok : ∀ x ∈ P, okPt x) (h1 : okPt x1) (hown : OwnR rowPt B v P u) (hb : P.length ≤ 1000000) (hB : B ≤ u.heap.size)
    (h : ∀ v' w', OwnR rowPt B v' (P ++ [x1]) w' → Below B u w' → wpList Try.prog ops Q rest (a.put o.dst v') w') : wpList Try.prog ops Q (o :: rest) a w := by
  subst hw
  have hb1 : Below u.heap.size u (u.alloc (.cells #[x1.v] 32)) := (Below.refl _ u).alloc (Nat.le_refl _) _
  have hrow := rowPt_one (x := x1) (heap_alloc_new u (.cells #[x1.v] 32))
  refine wpList_append_atR goodPt hgd s y ho B v P [x1] _ 1 1 hs hy rfl hrow (fun x hx => ?_) hok (ownR_below hown hb1) (by simp; omega) (Nat.le_trans hB hb1.size) (fun v' w' ho' hg _ => h v' w' ho' ?_)
  · rw [List.mem_singleton.1 hx]; exact h1
  · exact ((Below.refl B u).alloc hB _).grown hg (Nat.le_trans hB hb1.size) (fun k hk => ownPt_block hown k hk)
set_option maxHeartbeats 4000000 in
theorem apply_bad (a1 : Option Addr) (n1 c1 : Nat) (l1 : List UInt8) (a2 : Option Addr) (n2 c2 : Nat) (l : List Edc) (w : World) (e1 : n1 = l1.length) (h2 : EdAt w a2 l) (e2 : n2 = l.length) (m2 : n2 ≤ 1000000)
    (hok : okE (l.map Edc.x) 0 l1.length = false) :
    Calls Try.prog 72 #[.slice a1 n1 c1, .slice a2 n2 c2] w fun e w' => e = .returned (.tuple #[.slice none 0 0, .int .i64 11]) ∧ Below w.heap.size w w' := by
  have C := valid_is a2 n2 c2 l (n1 : Int) w h2 e2 m2
  rw [e1] at C
  rw [hok, ← e1] at C
  have CV := Lib.hid C
  clear C h2 e1 e2 hok
  go_enter Try.func72, Try.ntmps72
  go_wp2_with fail
  refine CV.out.mono ?_
  rintro e w1 ⟨rfl, hb⟩
  go_wp2
  go_ret2
  exact ⟨rfl, hb⟩
theorem infoSl : (Try.prog.info? 32).map (fun i => (i.zero, i.size, i.bytes)) = some (some (.slice none 0 0), 1, 24) := by kernel_rfl
set_option maxHeartbeats 16000000 in
theorem apply_ok (a1 : Option Addr) (n1 c1 : Nat) (l1 : List UInt8) (a2 : Option Addr) (n2 c2 : Nat) (l : List Edc) (w : World) (h1 : BAt w a1 l1) (e1 : n1 = l1.length) (q1 : n1 ≤ c1) (qm : c1 ≤ maxLen) (hno : a1 = none → n1 = 0 ∧ c1 = 0) (m1 : n1 ≤ 1000000)
    (h2 : EdAt w a2 l) (e2 : n2 = l.length) (m2 : n2 ≤ 10000) (hok : okE (l.map Edc.x) 0 l1.length = true) (ht : (appE l1 (l.map Edc.x)).length ≤ 65536) :
    Calls Try.prog 72 #[.slice a1 n1 c1, .slice a2 n2 c2] w fun e w' => ∃ v, e = .returned (.tuple #[v, .int .i64 0]) ∧ FreshR w.heap.size w' v (appE l1 (l.map Edc.x)) ∧ Below w.heap.size w w' := by
  obtain ⟨z, hz, hzs, hzv, hzb, hz1⟩ := zEdit_any
  obtain ⟨iS, hi, hz0, hz1', hz2⟩ := info_parts infoSl
  have ZS := Lib.hid hzs
  have C := valid_is a2 n2 c2 l (n1 : Int) w h2 e2 (by omega)
  rw [e1] at C
  rw [hok, ← e1] at C
  have CV := Lib.hid C
  have H1 := Lib.hid h1; have H2 := Lib.hid h2; have E1 := Lib.hid e1; have E2 := Lib.hid e2; have HNO := Lib.hid hno; have QM := Lib.hid qm
  obtain ⟨L, hL⟩ : ∃ L, l.map Edc.x = L := ⟨_, rfl⟩
  have LL := Lib.hid (show L.length = l.length by rw [← hL, List.length_map])
  have HK := Lib.hid (show ∀ k (hk : k < l.length) (hk2 : k < L.length), L[k] = (l[k].f, l[k].t, l[k].b) from fun k hk hk2 => by simp only [← hL, List.getElem_map]; rfl)
  rw [hL] at hok ht ⊢
  have HOK := Lib.hid hok; have HT := Lib.hid ht
  clear C h1 h2 e1 e2 hno hz hzs hzb hz1 hL hok ht qm
  go_enter Try.func72, Try.ntmps72
  go_wp2_with fail
  refine CV.out.mono ?_
  rintro e w1 ⟨rfl, hb⟩
  have HB1 := Lib.hid hb
  clear hb CV
  go_wp2_with (at_make; refine wpList_make_own _ rfl _ _ 56 rfl w.heap.size 32 iS (.slice none 0 0) 1 Try.underlying56 hi hz0 hz1' _ _ _ (2 * n2 + 1) rfl rfl (by omega) ?b2 ?b3 HB1.out.size ?_)
  case b2 => rw [hz2]; omega
  case b3 => unfold maxLen; omega
  intro w2 hown2 hgrow2
  have OW := Lib.hid (show OwnR rowPt w.heap.size (.slice (some ⟨w1.heap.size, 0, none⟩) 0 (2 * n2 + 1)) [] w2 from hown2)
  have HB2 := Lib.hid (HB1.out.grown hgrow2 HB1.out.size (fun k h => by cases h))
  clear hown2 hgrow2 HB1
  go_wp2_with fail
  go_loopw [6, 7, 22] (fun v p i wr => ∃ (k : Nat) (P : List Prt), k ≤ n2 ∧ i = .int .i64 k ∧ p = .int .i64 (lastE (L.take k) 0) ∧ OwnR rowPt w.heap.size v P wr ∧ P.map (·.b) = preE l1 (L.take k) 0 ∧ (∀ x ∈ P, okPt x ∧ Red w x.v x.b) ∧ Below w.heap.size w wr) (fun _ _ i _ => n2 - (intOf i).toNat)
  case atStart => exact ⟨0, [], Nat.zero_le _, rfl, rfl, OW.out, rfl, fun x hx => (by cases hx), HB2.out⟩
  case round =>
    clear HB2 OW
    obtain ⟨k, P, hk, rfl, rfl, hown, hpm, hpr, hbr⟩ := hrel
    have OW := Lib.hid hown; have PM := Lib.hid hpm; have PR := Lib.hid hpr; have HBR := Lib.hid hbr
    have PL := Lib.hid (show P.length ≤ 20000 by
      have q := congrArg List.length hpm
      rw [List.length_map, preE_len, List.length_take] at q
      omega)
    clear hown hpm hpr hbr
    by_cases hlt : k < n2
    · have hkl : k < l.length := by rw [← E2.out]; exact hlt
      have hkL : k < L.length := by rw [LL.out]; exact hkl
      obtain ⟨b, o, rfl, -⟩ := H2.out.1.some (by omega)
      obtain ⟨av, cv, E, hv, hE, hrg, hred, e3, eo, ie, il⟩ := (H2.out.keep HBR.out).round k hkl
      obtain ⟨-, -, -, hred0⟩ := H2.out.cells k hkl
      rw [hv] at hred0
      have AT := okE_at HOK.out (by omega) k hkL
      have LX := lastE_next L k hkL 0
      have PX := preE_next l1 L k hkL 0
      rw [HK.out k hkl hkL] at AT LX PX
      obtain ⟨p, hp⟩ : ∃ p : Nat, lastE (L.take k) 0 = p := ⟨(lastE (L.take k) 0).toNat, by omega⟩
      obtain ⟨f, hf⟩ : ∃ f : Nat, l[k].f = f := ⟨l[k].f.toNat, by have := AT.1; have := AT.2.1; simp only at this; omega⟩
      obtain ⟨t, ht⟩ : ∃ t : Nat, l[k].t = t := ⟨l[k].t.toNat, by have := AT.1; have := AT.2.1; have := AT.2.2.1; simp only at *; omega⟩
      obtain ⟨B, hB⟩ : ∃ B, l[k].b = B := ⟨_, rfl⟩
      rw [hp, hf, ht, hB] at AT
      simp only at AT
      obtain ⟨-, AT1, AT2, AT3⟩ := AT
      have AT1 : p ≤ f := by omega
      have AT2 : f ≤ t := by omega
      have AT3 : t ≤ n1 := by have := E1.out; omega
      rw [hf, ht] at hE
      rw [hB] at hE hred0
      rw [ht] at LX
      rw [hp, hf, hB] at PX
      simp only [Int.toNat_natCast] at PX
      rw [hp]
      obtain ⟨m, hm⟩ : ∃ m, B.length = m := ⟨_, rfl⟩
      rw [hm] at hE
      have LX := Lib.hid LX; have PX := Lib.hid PX; have HE := Lib.hid hE; have RG := Lib.hid hrg; have E3 := Lib.hid e3; have EO := Lib.hid eo; have IE := Lib.hid ie; have IL := Lib.hid il; have R0 := Lib.hid hred0; have HM := Lib.hid hm
      have SZ := Lib.hid (show E.size = z.size by rw [E3.out, ZS.out])
      have N2 := Lib.hid (heap_alloc_new wr (.cells z 93))
      have s1 := fun u => slice_u8_lh u a1 n1 c1 p f AT1 (by omega) p f rfl rfl
      obtain ⟨A1, hA1⟩ : ∃ A, (if c1 = p then a1 else a1.map (·.add p)) = A := ⟨_, rfl⟩
      rw [hA1] at s1
      have HA1 := Lib.hid hA1
      clear hrg hred e3 eo ie il hE hv hp hf ht hB hred0 hm hA1
      go_wp2_with (first
        | (with_reducible refine wpList_load_mid rfl 93 (.tmp 24) rfl b (o + k * 3) rfl E.toList _ RG.out Try.underlying93 rfl IL.out ?_; rw [Array.toArray_toList])
        | (with_reducible refine wpList_store_all rfl 93 (.tmp 9) (.tmp 25) rfl wr.heap.size E rfl rfl 93 z N2.out IE.out SZ.out EO.out ?_; intro w4 hg4 ho4 hs4; obtain ⟨x0, x1, x2⟩ := edit_cells hg4 HE.out; clear hg4)
        | fail)
      have b4 := (HBR.out.alloc HBR.out.size (.cells z 93)).trans (ho4.below (B := w.heap.size) HBR.out.size (by simp; have := HBR.out.size; omega))
      have B4 := Lib.hid b4
      have OW4 := Lib.hid (show OwnR rowPt w.heap.size u6 P w4.drew from by
        have q := ownR_below OW.out ((Below.refl wr.heap.size wr).alloc (Nat.le_refl _) (.cells z 93) |>.trans (ho4.below (B := wr.heap.size) (Nat.le_refl _) (by simp)))
        exact q)
      clear b4 ho4 hs4
      go_region_law (refine step_append_two (by rfl) (.tmp 26) (.tmp 34) (by rfl) w.heap.size u6 P ⟨.slice A1 (f - p) (c1 - p), (l1.take f).drop p⟩ ⟨.slice av m cv, B⟩ w4.drew rfl rfl rfl (fun x hx => (PR.out x hx).1) ⟨_, _, _, rfl⟩ ⟨_, _, _, rfl⟩ OW4.out (Nat.le_trans PL.out (by decide)) B4.out.size ?_; intro v5 w5 ho5 hb5 hk5)
      all_goals
        have hne5 : u6.ownBlock ≠ some wr.heap.size := fun e => absurd (ownR_lt OW.out _ e).2 (Nat.lt_irrefl _)
        have y1 : w5.cell? ⟨wr.heap.size, 1, none⟩ = some (.int .i64 (t : Int)) := by
          have q := World.cell?_of_block (w := w4.drew) (a := ⟨wr.heap.size, 1, none⟩) (hk5 wr.heap.size (World.block_lt_of_cell? w4 _ x1) hne5)
          exact q.trans x1
        have B5 := Lib.hid (B4.out.drew.trans hb5)
        have OW5 := Lib.hid ho5
        clear ho5 hb5 hk5 x0 x1 x2 hne5
        go_wp2_with fail
        refine ⟨⟨k + 1, P ++ [⟨.slice A1 (f - p) (c1 - p), (l1.take f).drop p⟩, ⟨.slice av m cv, B⟩], by omega, by go_num, by rw [LX.out], OW5.out, ?_, ?_, B5.out⟩, by simp only [intOf]; omega⟩
        · rw [List.map_append, PM.out, PX.out]; rfl
        · intro x hx
          rcases List.mem_append.1 hx with hx | hx
          · exact PR.out x hx
          · simp only [List.mem_cons, List.not_mem_nil, or_false] at hx
            rcases hx with rfl | rfl
            · refine ⟨⟨_, _, _, rfl⟩, A1, c1 - p, ?_, ?_, fun e => ?_, ?_, ?_⟩
              · rw [List.length_drop, List.length_take, Nat.min_eq_left (by have := E1.out; omega)]
              · rw [← HA1.out]; exact bat_mid H1.out c1 p f AT1 (by have := E1.out; omega) (by have := E1.out; omega)
              · rw [List.length_drop, List.length_take, Nat.min_eq_left (by have := E1.out; omega)]
                exact no_mid HNO.out AT1 (by omega) (by rw [HA1.out]; exact e)
              · rw [List.length_drop, List.length_take, Nat.min_eq_left (by have := E1.out; omega)]; omega
              · have := QM.out; omega
            · refine ⟨⟨_, _, _, rfl⟩, ?_⟩
              have q := R0.out
              rw [HM.out] at q
              exact q
    · have hkn : k = n2 := by omega
      have hLk : L.take k = L := by rw [hkn, E2.out, ← LL.out, List.take_length]
      rw [hLk] at PM ⊢
      have LE := okE_last L 0 _ HOK.out (by omega)
      obtain ⟨p, hp⟩ : ∃ p : Nat, lastE L 0 = p := ⟨(lastE L 0).toNat, by omega⟩
      rw [hp] at LE ⊢
      have AT3 : p ≤ n1 := by have := E1.out; omega
      have s1 := fun u => slice_u8_l u a1 n1 c1 p AT3 p rfl
      obtain ⟨A1, hA1⟩ : ∃ A, (if c1 = p then a1 else a1.map (·.add p)) = A := ⟨_, rfl⟩
      rw [hA1] at s1
      have HA1 := Lib.hid hA1
      have AP := Lib.hid (show ((P ++ [(⟨.slice A1 (n1 - p) (c1 - p), l1.drop p⟩ : Prt)]).map (·.b)).flatten = appE l1 L by
        unfold appE
        rw [hp, List.map_append, PM.out, List.flatten_append]
        simp)
      have RP := Lib.hid (show Red w (.slice A1 (n1 - p) (c1 - p)) (l1.drop p) by
        refine ⟨A1, c1 - p, ?_, ?_, fun e => ?_, ?_, ?_⟩
        · rw [List.length_drop, E1.out]
        · rw [← HA1.out]; exact bat_drop H1.out c1 p (by have := E1.out; omega) (by have := E1.out; omega)
        · rw [List.length_drop, ← E1.out]
          exact no_mid (k := p) (m := n1) HNO.out (by omega) (Nat.le_refl _) (by rw [HA1.out]; exact e)
        · rw [List.length_drop, ← E1.out]; omega
        · have := QM.out; omega)
      subst hkn
      clear hLk hp hA1 LE
      go_wp2_with (first
        | (at_builtin; refine wpList_append_pt rfl (.tmp 39) (.tmp 43) rfl w.heap.size u6 P ⟨.slice A1 (n1 - p) (c1 - p), l1.drop p⟩ wr rfl rfl rfl (fun x hx => (PR.out x hx).1) ⟨_, _, _, rfl⟩ OW.out (Nat.le_trans PL.out (by decide)) HBR.out.size ?_; intro v5 w5 ho5 hb5)
        | fail)
      have B5 := Lib.hid (HBR.out.trans hb5)
      have hokP : ∀ x ∈ P ++ [(⟨.slice A1 (n1 - p) (c1 - p), l1.drop p⟩ : Prt)], okPt x ∧ Red w x.v x.b := fun x hx => by
        rcases List.mem_append.1 hx with hx | hx
        · exact PR.out x hx
        · rw [List.mem_singleton.1 hx]
          exact ⟨⟨_, _, _, rfl⟩, RP.out⟩
      obtain ⟨av, cv, hv, hcv, hcm, hrow, -, hblk⟩ := ownR_shape goodPt ho5 (fun x hx => (hokP x hx).1)
      obtain ⟨bb, oo, rfl, hbb⟩ := hrow.some (by simp)
      have CJ := join_is bb oo _ cv _ w5 ⟨hrow, fun x hx => (hokP x hx).2.below B5.out (Nat.le_refl _)⟩ hbb rfl hcv (by simp) (by simp; have := PL.out; omega) (by rw [AP.out]; exact HT.out)
      rw [AP.out] at CJ
      have CJ := Lib.hid CJ
      obtain ⟨N, hN⟩ : ∃ N, (P ++ [(⟨.slice A1 (n1 - p) (c1 - p), l1.drop p⟩ : Prt)]).length = N := ⟨_, rfl⟩
      rw [hN] at hv CJ
      subst hv
      clear hN hokP hrow hblk ho5 hb5 hbb hcv hcm
      go_wp2_with fail
      refine CJ.out.mono ?_
      rintro e w6 ⟨v6, rfl, hf, hb⟩
      have HF := Lib.hid hf
      obtain ⟨av, cv6, hv, -⟩ := HF.out.block
      obtain ⟨fl, hfl⟩ : ∃ fl, (appE l1 L).length = fl := ⟨_, rfl⟩
      rw [hfl] at hv
      clear hfl hf
      subst hv
      go_wp2
      go_ret2
      refine ⟨.slice av fl cv6, rfl, ?_, B5.out.trans (hb.mono B5.out.size)⟩
      rcases HF.out with h | h
      · obtain ⟨g, cap, zs, h1, h2, h3⟩ := h
        exact .inl ⟨g, cap, zs, h1, Nat.le_trans B5.out.size h2, h3⟩
      · exact .inr h
/-- Apply, whatever the edits: of so few bytes that they are no more than a text may have. -/
theorem Apply_is (a1 : Option Addr) (n1 c1 : Nat) (l1 : List UInt8) (a2 : Option Addr) (n2 c2 : Nat) (l : List Edc) (w : World) (h1 : BAt w a1 l1) (e1 : n1 = l1.length) (q1 : n1 ≤ c1) (qm : c1 ≤ maxLen) (hno : a1 = none → n1 = 0 ∧ c1 = 0)
    (h2 : EdAt w a2 l) (e2 : n2 = l.length) (m2 : n2 ≤ 10000) (ht : n1 + sumE (l.map Edc.x) ≤ 65536) :
    Calls Try.prog 72 #[.slice a1 n1 c1, .slice a2 n2 c2] w fun e w' => ∃ v, e = .returned (.tuple #[v, .int .i64 (if okE (l.map Edc.x) 0 l1.length = true then 0 else 11)]) ∧
      FreshR w.heap.size w' v (if okE (l.map Edc.x) 0 l1.length = true then appE l1 (l.map Edc.x) else []) ∧ Below w.heap.size w w' := by
  by_cases hok : okE (l.map Edc.x) 0 l1.length = true
  · rw [if_pos hok, if_pos hok]
    exact apply_ok a1 n1 c1 l1 a2 n2 c2 l w h1 e1 q1 qm hno (by omega) h2 e2 m2 hok (Nat.le_trans (app_sum _ _ hok) (by omega))
  · rw [if_neg hok, if_neg hok]
    refine (apply_bad a1 n1 c1 l1 a2 n2 c2 l w e1 h2 e2 (by omega) (by simpa using hok)).mono ?_
    rintro e w' ⟨rfl, hb⟩
    exact ⟨_, rfl, .inr ⟨rfl, rfl⟩, hb⟩
end Go.Proofs.Ytgbmbemmkadagaa

/-
  Layer 15, the program: what it keeps of a text; a log in its block.
-/
namespace Go.Proofs.Ytgbmbemmkadagaa
set_option maxRecDepth 20000
open Go.RowKit Go.Maps
set_option linter.unusedVariables false
set_option linter.unusedSimpArgs false

/-- Edits that are read alone, with their bytes, in blocks of S. -/
def EdS (S : Nat → Prop) (w : World) (v : Value) (l : List Edc) : Prop := RedR rowDl S w v l ∧ ∀ e ∈ l, RedS S w e.v e.b
theorem EdS.keep {S : Nat → Prop} {w u : World} {v : Value} {l : List Edc} (h : EdS S w v l) (hk : StayB S w u) : EdS S u v l := ⟨h.1.keep hk, fun e he => (h.2 e he).keep hk⟩
theorem EdS.mono {S S' : Nat → Prop} {w : World} {v : Value} {l : List Edc} (h : EdS S w v l) (hs : ∀ k, k < w.heap.size → S k → S' k) : EdS S' w v l := ⟨h.1.mono hs, fun e he => (h.2 e he).mono hs⟩
theorem EdS.at {S : Nat → Prop} {w : World} {v : Value} {l : List Edc} (h : EdS S w v l) : ∃ a c, v = .slice a l.length c ∧ EdAt w a l := by
  obtain ⟨⟨a, c, e, hr, -⟩, h2⟩ := h
  exact ⟨a, c, e, hr, fun e he => (h2 e he).red⟩
/-- A text as the program keeps it: complete, or as edits of another one. -/
inductive StoAt (S : Nat → Prop) (w : World) : Value → List UInt8 → Nat → Prop
  | whole {v : Value} {t : List UInt8} (h : RedS S w v t) (hl : t.length ≤ 30000) : StoAt S w (.iface 103 v) t 0
  | edited {u v : Value} {t : List UInt8} {c : Nat} {l : List Edc} (h : StoAt S w u t c) (he : EdS S w v l) (hok : okE (l.map Edc.x) 0 t.length = true) (hl : l.length ≤ 10000) (hb : t.length + sumE (l.map Edc.x) ≤ 65536) :
      StoAt S w (.iface 101 (.agg #[u, v])) (appE t (l.map Edc.x)) (c + 1)
theorem StoAt.keep {S : Nat → Prop} {w u : World} {v : Value} {t : List UInt8} {c : Nat} (h : StoAt S w v t c) (hk : StayB S w u) : StoAt S u v t c := by
  induction h with
  | whole h hl => exact .whole (h.keep hk) hl
  | edited h he hok hl hb ih => exact .edited ih (he.keep hk) hok hl hb
theorem StoAt.mono {S S' : Nat → Prop} {w : World} {v : Value} {t : List UInt8} {c : Nat} (h : StoAt S w v t c) (hs : ∀ k, k < w.heap.size → S k → S' k) : StoAt S' w v t c := by
  induction h with
  | whole h hl => exact .whole (h.mono hs) hl
  | edited h he hok hl hb ih => exact .edited ih (he.mono hs) hok hl hb
theorem StoAt.behind {S : Nat → Prop} {w u : World} {v : Value} {t : List UInt8} {c : Nat} (h : StoAt S w v t c) (hb : Below w.heap.size w u) : StoAt S u v t c := h.keep (StayB.of hb)
theorem StoAt.iface {S : Nat → Prop} {w : World} {v : Value} {t : List UInt8} {c : Nat} (h : StoAt S w v t c) : ∃ T x, v = .iface T x := by
  cases h
  · exact ⟨_, _, rfl⟩
  · exact ⟨_, _, rfl⟩
/-- An entry: a text of a log, and what is kept of it. -/
structure Enl where
  r : Rvl
  v : Value
def cellsL (e : Enl) : List Value := cellsD e.r.p ++ cellsD e.r.q ++ [e.v]
def arrL (e : Enl) : Array Value := (cellsL e).toArray
theorem arrL_size (e : Enl) (hp : e.r.p.length = 20) (hq : e.r.q.length = 20) : (arrL e).size = 41 := by
  unfold arrL cellsL
  rw [List.size_toArray, List.length_append, List.length_append, cellsD_len _ hp, cellsD_len _ hq]
  rfl
theorem arrL_one (e : Enl) (h : e.v.oneCell' = true) : (arrL e).all (·.oneCell') = true := by
  rw [Array.all_eq_true_iff_forall_mem]
  intro v hv
  have hv : v ∈ cellsL e := by simpa [arrL] using hv
  unfold cellsL at hv
  rcases List.mem_append.1 hv with hv | hv
  · rcases List.mem_append.1 hv with hv | hv
    · exact Array.all_eq_true_iff_forall_mem.1 (cellsD_one e.r.p) v (by simpa using hv)
    · exact Array.all_eq_true_iff_forall_mem.1 (cellsD_one e.r.q) v (by simpa using hv)
  · rw [List.mem_singleton.1 hv]; exact h
def zEnl : Enl := ⟨⟨[], idZ, idZ, [], 0⟩, .nilIface⟩
theorem zEnt_i : (Try.prog.info? 76).map (fun i => (i.zero, i.size)) = some (some (.agg (arrL zEnl)), 41) := by kernel_rfl
theorem zEnt (w : World) : (zeroValue 76).run Try.prog w = .ok (.agg (arrL zEnl)) w := zero_arr zEnt_i w
theorem infoEnt : (Try.prog.info? 76).map (·.size) = some 41 := by kernel_rfl
theorem infoEnt_arr (a : Array Value) (h : a.size = 41) : (Try.prog.info? 76).map (·.size) = some a.size := by rw [h]; exact infoEnt
theorem builtEnt0 : Try.prog.built 76 [] = some (arrL zEnl) := by kernel_rfl
/-- What the program's map holds. -/
def celL (E : List Enl) : List (Value × Value) := E.map (fun e => (.agg (arrD e.r.n), .agg (arrL e)))
theorem nodeV_len (t p q : List UInt8) : (nodeV t p q).length = 20 := by
  unfold nodeV sumL
  simp [digest_len]
theorem GoodV.nlen {L : LogV} (G : GoodV L) : ∀ r ∈ L, r.n.length = 20 := fun r hr => by rw [G.node r hr]; exact nodeV_len _ _ _
/-- A log of the program, in its block; its row and its map in blocks of S. -/
structure LogIn (S : Nat → Prop) (w : World) (g : Nat) (L : LogV) (E : List Enl) (v : Value) (mb : Option Nat) : Prop where
  good : GoodV L
  ens : E.map Enl.r = L
  blk : w.heap[g]? = some (.cells #[v, .map mb] 66 (0, 0))
  own : OwnR rowI 0 v (L.map Rvl.n) w
  ownS : ∀ b, v.ownBlock = some b → S b ∧ b ≠ g
  sto : ∀ e ∈ E, StoAt (fun k => S k ∧ k ≠ g ∧ v.ownBlock ≠ some k ∧ mb ≠ some k) w e.v e.r.t e.r.c
  none_ : mb = none → L = []
  map : ∀ b, mb = some b → S b ∧ b ≠ g ∧ v.ownBlock ≠ some b ∧ MapAt w b (celL E)
def LogP (S : Nat → Prop) (w : World) (g : Nat) (L : LogV) : Prop := S g ∧ ∃ E v mb, LogIn S w g L E v mb
theorem LogIn.keep {S : Nat → Prop} {w u : World} {g : Nat} {L : LogV} {E : List Enl} {v : Value} {mb : Option Nat} (h : LogIn S w g L E v mb) (hg : S g) (hk : StayB S w u) : LogIn S u g L E v mb where
  good := h.good
  ens := h.ens
  blk := (hk.2 g hg (lt_of_heap h.blk)).trans h.blk
  own := ownR_same h.own (fun b hb => hk.2 b (h.ownS b hb).1 (ownR_lt h.own b hb).2)
  ownS := h.ownS
  sto := fun e he => (h.sto e he).keep (hk.mono fun k h => h.1)
  none_ := h.none_
  map := fun b hb => by
    obtain ⟨k1, k2, k3, k4⟩ := h.map b hb
    exact ⟨k1, k2, k3, k4.keep (hk.2 b k1 k4.lt)⟩
theorem LogIn.mono {S S' : Nat → Prop} {w : World} {g : Nat} {L : LogV} {E : List Enl} {v : Value} {mb : Option Nat} (h : LogIn S w g L E v mb) (hs : ∀ k, k < w.heap.size → S k → S' k) : LogIn S' w g L E v mb where
  good := h.good
  ens := h.ens
  blk := h.blk
  own := h.own
  ownS := fun b hb => ⟨hs b (ownR_lt h.own b hb).2 (h.ownS b hb).1, (h.ownS b hb).2⟩
  sto := fun e he => (h.sto e he).mono (fun k hk h2 => ⟨hs k hk h2.1, h2.2⟩)
  none_ := h.none_
  map := fun b hb => by
    obtain ⟨k1, k2, k3, k4⟩ := h.map b hb
    exact ⟨hs b k4.lt k1, k2, k3, k4⟩
theorem LogP.keep {S : Nat → Prop} {w u : World} {g : Nat} {L : LogV} (h : LogP S w g L) (hk : StayB S w u) : LogP S u g L := by
  obtain ⟨hg, E, v, mb, h2⟩ := h
  exact ⟨hg, E, v, mb, h2.keep hg hk⟩
theorem LogP.mono {S S' : Nat → Prop} {w : World} {g : Nat} {L : LogV} (h : LogP S w g L) (hs : ∀ k, k < w.heap.size → S k → S' k) : LogP S' w g L := by
  obtain ⟨hg, E, v, mb, h2⟩ := h
  exact ⟨hs g (lt_of_heap h2.blk) hg, E, v, mb, h2.mono hs⟩
theorem LogP.below {S : Nat → Prop} {w u : World} {g : Nat} {L : LogV} (h : LogP S w g L) (hb : Below w.heap.size w u) : LogP S u g L := h.keep (StayB.of hb)
theorem LogP.lt {S : Nat → Prop} {w : World} {g : Nat} {L : LogV} (h : LogP S w g L) : g < w.heap.size := by
  obtain ⟨hg, E, v, mb, h2⟩ := h
  exact lt_of_heap h2.blk
theorem LogP.good {S : Nat → Prop} {w : World} {g : Nat} {L : LogV} (h : LogP S w g L) : GoodV L := by
  obtain ⟨hg, E, v, mb, h2⟩ := h
  exact h2.good
theorem LogIn.len {S : Nat → Prop} {w : World} {g : Nat} {L : LogV} {E : List Enl} {v : Value} {mb : Option Nat} (h : LogIn S w g L E v mb) : E.length = L.length := by rw [← h.ens, List.length_map]
theorem LogIn.at {S : Nat → Prop} {w : World} {g : Nat} {L : LogV} {E : List Enl} {v : Value} {mb : Option Nat} (h : LogIn S w g L E v mb) {k : Nat} (hk : k < E.length) (hl : k < L.length) : (E[k]).r = L[k] := by
  have : (E.map Enl.r)[k]'(by rw [List.length_map]; exact hk) = L[k] := by simp only [h.ens]
  rw [← this, List.getElem_map]
theorem LogIn.ids {S : Nat → Prop} {w : World} {g : Nat} {L : LogV} {E : List Enl} {v : Value} {mb : Option Nat} (h : LogIn S w g L E v mb) : ∀ e ∈ E, e.r.n.length = 20 ∧ e.r.p.length = 20 ∧ e.r.q.length = 20 := fun e he => by
  have hm : e.r ∈ L := by rw [← h.ens]; exact List.mem_map_of_mem he
  exact ⟨h.good.nlen _ hm, h.good.ids _ hm⟩
theorem celL_keys {S : Nat → Prop} {w : World} {g : Nat} {L : LogV} {E : List Enl} {v : Value} {mb : Option Nat} (h : LogIn S w g L E v mb) : ∀ m ∈ celL E, ∃ l, keyOf Try.prog 24 m.1 = some l := by
  intro m hm
  obtain ⟨e, he, rfl⟩ := List.mem_map.1 hm
  exact key_id _ (h.ids e he).1
theorem celL_len (E : List Enl) : (celL E).length = E.length := by simp [celL]
theorem celL_snoc (E : List Enl) (e : Enl) : celL (E ++ [e]) = celL E ++ [(.agg (arrD e.r.n), .agg (arrL e))] := by simp [celL]
/-- What is under a node. -/
def entE (L : LogV) (E : List Enl) (i : List UInt8) : Enl := match atLv L i with
  | some k => E.getD k zEnl
  | none => zEnl
theorem entE_none {L : LogV} {E : List Enl} {i : List UInt8} (h : atLv L i = none) : entE L E i = zEnl := by unfold entE; rw [h]
theorem LogIn.entE_some {S : Nat → Prop} {w : World} {g : Nat} {L : LogV} {E : List Enl} {v : Value} {mb : Option Nat} (h : LogIn S w g L E v mb) {i : List UInt8} {k : Nat} (hk : atLv L i = some k) : ∃ hl : k < L.length, entE L E i ∈ E ∧ (entE L E i).r = L[k] ∧ (L[k]).n = i := by
  obtain ⟨hl, hn⟩ := atLv_some hk
  have hE : k < E.length := by rw [h.len]; exact hl
  refine ⟨hl, ?_, ?_, hn⟩
  · unfold entE
    rw [hk]
    simp only
    rw [List.getD_eq_getElem?_getD, List.getElem?_eq_getElem hE]
    exact List.getElem_mem hE
  · unfold entE
    rw [hk]
    simp only
    rw [List.getD_eq_getElem?_getD, List.getElem?_eq_getElem hE]
    exact h.at hE hl
theorem entE_size {S : Nat → Prop} {w : World} {g : Nat} {L : LogV} {E : List Enl} {v : Value} {mb : Option Nat} (h : LogIn S w g L E v mb) (i : List UInt8) : (arrL (entE L E i)).size = 41 := by
  cases hk : atLv L i with
  | none => rw [entE_none hk]; rfl
  | some k =>
    obtain ⟨hl, hm, hr, hn⟩ := h.entE_some hk
    exact arrL_size _ (h.ids _ hm).2.1 (h.ids _ hm).2.2
theorem entE_one {S : Nat → Prop} {w : World} {g : Nat} {L : LogV} {E : List Enl} {v : Value} {mb : Option Nat} (h : LogIn S w g L E v mb) (i : List UInt8) : (arrL (entE L E i)).all (·.oneCell') = true := by
  refine arrL_one _ ?_
  cases hk : atLv L i with
  | none => rw [entE_none hk]; rfl
  | some k =>
    obtain ⟨hl, hm, hr, hn⟩ := h.entE_some hk
    obtain ⟨T, x, e⟩ := (h.sto _ hm).iface
    rw [e]
    rfl
/-- 'm[k]' of a map, where the key is there; and where it is not. -/
theorem MapAt.one_some {P : Program} {k e t : TypeId} {w : World} {b : Nat} {M : List (Value × Value)} (h : MapAt w b M) (K : Keyed P k) (ht : P.underlying t = some (.map k e)) (hk : ∀ m ∈ M, ∃ l, keyOf P k m.1 = some l) {key v : Value} (hm : (key, v) ∈ M) :
    (Instr.lookup t (.map (some b)) key false).run P w = .ok v w := by
  obtain ⟨es, clock, h1, h2, h3, h4⟩ := h
  obtain ⟨l, hl⟩ := hk _ hm
  have hks : ∀ x ∈ es.toList, ∃ l, keyOf P k x.key = some l := fun x hx => hk _ (MapAt.key_mem h4 hx)
  rw [← h4] at hm
  obtain ⟨x, hx, hxe⟩ := List.mem_map.1 hm
  obtain ⟨rfl, rfl⟩ := Prod.mk.inj hxe
  rcases K.find w hl es.toList hks with ⟨_, h6⟩ | ⟨j, e0, h5, h6, h7⟩
  · exact absurd rfl (h6 x hx)
  · have he : e0 = x := entry_eq_of_key ((Go.MapKept.stamped_iff es clock).1 h2).2.2 (List.mem_of_getElem? h6) hx h7
    subst he
    simp [Instr.lookup, run_underlying ht, MapKept.run_getObj_map h1, K.check w _ hl, h5, Result.andThen]
/-- What a log answers to9 a look at its map. -/
theorem LogIn.look {S : Nat → Prop} {w : World} {g : Nat} {L : LogV} {E : List Enl} {v : Value} {mb : Option Nat} (h : LogIn S w g L E v mb) {i : List UInt8} (hi : i.length = 20) :
    ∀ u, Below w.heap.size w u → u.cell? ⟨g, 1, none⟩ = some (.map mb) ∧ (Instr.lookup 64 (.map mb) (.agg (arrD i)) true).run Try.prog u = .ok (.tuple #[.agg (arrL (entE L E i)), .bool (atLv L i).isSome]) u := by
  intro u hu
  refine ⟨?_, ?_⟩
  · rw [Lib.cell_of_heap ((hu.block g (lt_of_heap h.blk)).trans h.blk)]
    rfl
  · obtain ⟨lt, hl⟩ := key_id i hi
    cases mb with
    | none =>
      rw [h.none_ rfl]
      exact look_nilMap idKeyed Try.underlying64 (zEnt u) hl
    | some b =>
      obtain ⟨_, _, _, hM⟩ := h.map b rfl
      have hM2 := hM.keep (hu.block b hM.lt)
      cases e : atLv L i with
      | none =>
        rw [entE_none e]
        refine hM2.look_none idKeyed Try.underlying64 (zEnt u) (celL_keys h) hl (fun m hm he => ?_)
        obtain ⟨x, hx, rfl⟩ := List.mem_map.1 hm
        have hm : x.r ∈ L := by rw [← h.ens]; exact List.mem_map_of_mem hx
        exact atLv_none.1 e x.r hm (arrD_inj (Value.agg.inj he))
      | some k =>
        obtain ⟨hl2, hm, hr, hn⟩ := h.entE_some e
        refine hM2.look_some idKeyed Try.underlying64 (celL_keys h) (List.mem_map.2 ⟨entE L E i, hm, ?_⟩)
        rw [hr, hn]
theorem LogIn.one {S : Nat → Prop} {w : World} {g : Nat} {L : LogV} {E : List Enl} {v : Value} {mb : Option Nat} (h : LogIn S w g L E v mb) {k : Nat} (hE : k < E.length) :
    ∀ u, Below w.heap.size w u → u.cell? ⟨g, 1, none⟩ = some (.map mb) ∧ (Instr.lookup 64 (.map mb) (.agg (arrD (E[k]).r.n)) false).run Try.prog u = .ok (.agg (arrL E[k])) u := by
  intro u hu
  refine ⟨?_, ?_⟩
  · rw [Lib.cell_of_heap ((hu.block g (lt_of_heap h.blk)).trans h.blk)]
    rfl
  · cases mb with
    | none =>
      have h1 := h.none_ rfl
      have h2 := h.len
      rw [h1] at h2
      simp only [List.length_nil] at h2
      omega
    | some b =>
      obtain ⟨_, _, _, hM⟩ := h.map b rfl
      exact (hM.keep (hu.block b hM.lt)).one_some idKeyed Try.underlying64 (celL_keys h) (List.mem_map.2 ⟨E[k], List.getElem_mem hE, rfl⟩)
end Go.Proofs.Ytgbmbemmkadagaa
