/-
  Layer 14: the walk of DeltaOrder.
-/
import Derived.Test.YtbilempgnpnacaaE4f
import Derived.Test.YtbilempgnpnacaaE4k
import Derived.Test.YtbilempgnpnacaaE5d
import Derived.Test.YtbilempgnpnacaaHelpB
namespace Go.Proofs.Ytbilempgnpnacaa.deltaOrder
set_option maxRecDepth 20000
open Go.RowKit
set_option linter.unusedVariables false
set_option linter.unusedSimpArgs false

theorem builtEdit2 (f t : Int) : Try.prog.built 34 [(0, .int .i64 f), (1, .int .i64 t)] = some (arrDl f t (.slice none 0 0)) := by kernel_rfl
theorem wpList_build_edit2 {ops : Array Oper} {rest : List Oper} {o : Oper} {act : Act} {w : World} {Q : Exit → Act → World → Prop} (hgd : o.guard = none) (x0 x1 : Operand) (ho : o.op = .build 34 #[(0, x0), (1, x1)])
    (f t : Int) (h0 : act.eval x0 = .int .i64 f) (h1 : act.eval x1 = .int .i64 t) (E : Array Value) (hE : arrDl f t (.slice none 0 0) = E)
    (h : wpList Try.prog ops Q rest (act.put o.dst (.agg E)) w) : wpList Try.prog ops Q (o :: rest) act w :=
  wpList_build_as hgd 34 #[(0, x0), (1, x1)] ho E (by simp only [List.map_toArray, List.map_cons, List.map_nil, h0, h1, builtEdit2, hE]) h
/-- What a number that came in is made into. -/
theorem uint_rem (x : Int) (m : Int) (hm : 0 < m) : ∃ r : Nat, (r : Int) < m ∧ (IntKind.u64.wrap x).tmod m = (r : Int) := by
  have h0 : 0 ≤ IntKind.u64.wrap x := by rw [IntKind.wrap_u64]; omega
  rw [Int.tmod_eq_emod_of_nonneg h0]
  have h1 := Int.emod_nonneg (IntKind.u64.wrap x) (show m ≠ 0 by omega)
  have h2 := Int.emod_lt_of_pos (IntKind.u64.wrap x) hm
  exact ⟨((IntKind.u64.wrap x) % m).toNat, by omega, by omega⟩
/-- An edit in a block of its own, a call's own. -/
theorem own_oneE {B : Nat} {w : World} {x : Edc} {A : Array Value} (hA : arrDl x.f x.t x.v = A) (hB : B ≤ w.heap.size) : OwnR rowDl B (.slice (some ⟨w.heap.size, 0, none⟩) 1 1) [x] (w.alloc (.cells A 34)) := by
  subst hA
  refine ⟨rfl, .inr ⟨w.heap.size, 1, _, rfl, hB, heap_alloc_new w _, Nat.le_refl _, by unfold maxLen; omega, rfl, ?_⟩⟩
  simp [arrDl, RowT.flat, rowDl, cellsDl]
theorem row_oneE {u : World} {x : Edc} {A : Array Value} (hA : arrDl x.f x.t x.v = A) : RowAt rowDl (u.alloc (.cells A 34)) (some ⟨u.heap.size, 0, none⟩) [x] :=
  rowR_one (R := rowDl) (P := Try.prog) goodDl (t := 34) (fr := (0, 0)) (by rw [heap_alloc_new, ← hA]; rfl)
theorem own_keepE {B : Nat} {w5 w6 : World} {v : Value} {l : List Edc} {X : Edc} {E F : Array Value} (hX : arrDl X.f X.t X.v = E) (hB : B ≤ w5.heap.size) (ho : OwnR rowDl B v l w5)
    (hg : ((w5.alloc (.cells E 34)).alloc (.cells F 34)).grownBy w6 v.ownBlock) : OwnR rowDl B (.slice (some ⟨w5.heap.size, 0, none⟩) 1 1) [X] w6 := by
  have AC := (Below.refl (w5.alloc (.cells E 34)).heap.size (w5.alloc (.cells E 34))).alloc (Nat.le_refl _) (.cells F 34)
  have q0 := ownR_below (own_oneE hX hB) AC
  refine ownR_same q0 (fun g h => hg.block g (ownR_lt q0 g h).2 (fun e => ?_))
  have q1 := (ownR_lt ho g e.symm).2
  have q2 : w5.heap.size = g := Option.some.inj h
  omega
theorem red_nil (w : World) : Red w (.slice none 0 0) [] := ⟨none, 0, rfl, fun h => absurd h (Nat.lt_irrefl 0), fun _ => ⟨rfl, rfl⟩, Nat.le_refl _, Nat.zero_le _⟩
/-- Edits out of order are refused. -/
theorem bad_is (a1 : Option Addr) (n1 c1 : Nat) (l1 : List UInt8) (B : Nat) (v : Value) (m : List Edc) (w0 w : World) (e1 : n1 = l1.length) (ho : OwnR rowDl B v m w) (hr : ∀ x ∈ m, okDl x ∧ Red w0 x.v x.b) (hb : Below w0.heap.size w0 w) (hm : m.length ≤ 1000000)
    (hok : okE (m.map Edc.x) 0 l1.length = false) :
    Calls Try.prog 10 #[.slice a1 n1 c1, v] w fun e w' => e = .returned (.tuple #[.slice none 0 0, .int .i64 11]) ∧ Below w.heap.size w w' := by
  obtain ⟨ao, ac, rfl, -, -, hrow, -, -⟩ := ownR_shape goodDl ho (fun x hx => (hr x hx).1)
  exact apply_bad a1 n1 c1 l1 ao m.length ac m w e1 ⟨hrow, fun x hx => (hr x hx).2.below hb (Nat.le_refl _)⟩ rfl hm hok
set_option maxHeartbeats 8000000 in
theorem walk_long (w : World) (a1 : Option Addr) (n1 c1 : Nat) (a2 : Option Addr) (n2 c2 : Nat) (x : Int) (m1 : n1 ≤ maxLen) (m2 : n2 ≤ maxLen) (h : n1 = 0 ∨ 500 < n1 ∨ 20 < n2) :
    Calls Try.prog 6 #[.slice a1 n1 c1, .slice a2 n2 c2, .int .i64 x] w fun e w' => e = .returned (.bool true) ∧ Below w.heap.size w w' := by
  unfold maxLen at m1 m2
  have AW := Lib.hid (awake14 w)
  by_cases h0 : n1 = 0
  · clear h
    subst h0
    go_enter Try.func6, Try.ntmps6
    go_wp2_with fail
    refine AW.out.mono ?_
    rintro e w1 ⟨rfl, hb⟩
    go_wp2
    go_ret
    exact ⟨rfl, hb⟩
  · by_cases h1 : 500 < n1
    · clear h
      go_enter Try.func6, Try.ntmps6
      go_wp2_with fail
      refine AW.out.mono ?_
      rintro e w1 ⟨rfl, hb⟩
      go_wp2
      go_ret
      exact ⟨rfl, hb⟩
    · have h2 : 20 < n2 := by omega
      clear h
      go_enter Try.func6, Try.ntmps6
      go_wp2_with fail
      refine AW.out.mono ?_
      rintro e w1 ⟨rfl, hb⟩
      go_wp2
      go_ret
      exact ⟨rfl, hb⟩
set_option maxHeartbeats 32000000 in
theorem walk_main (w : World) (a1 : Option Addr) (n1 c1 : Nat) (l1 : List UInt8) (e1 : n1 = l1.length) (h1 : BAt w a1 l1) (hno1 : a1 = none → n1 = 0 ∧ c1 = 0) (hc1 : n1 ≤ c1 ∧ c1 ≤ maxLen)
    (a2 : Option Addr) (n2 c2 : Nat) (nm : 0 < n2 → ∃ b o, a2 = some ⟨b, o, none⟩ ∧ b < w.heap.size ∧ ∀ i, i < n2 → ∃ x : Int, w.cell? ⟨b, o + i, none⟩ = some (.int .i64 x)) (y : Int)
    (m0 : 0 < n1) (m1 : n1 ≤ 500) (m2 : n2 ≤ 20) :
    Calls Try.prog 6 #[.slice a1 n1 c1, .slice a2 n2 c2, .int .i64 y] w fun e w' => e = .returned (.bool true) ∧ Below w.heap.size w w' := by
  have n0 : ((n1 : Int) == 0) = false := by rw [beq_eq_false_iff_ne]; omega
  have d1 : decide ((500 : Int) < n1) = false := decide_eq_false (by omega)
  have d2 : decide ((20 : Int) < n2) = false := decide_eq_false (by omega)
  have H1 := Lib.hid h1; have E1 := Lib.hid e1; have HN1 := Lib.hid hno1; have HC1 := Lib.hid hc1; have NM := Lib.hid nm
  clear h1 e1 hno1 hc1 nm
  go_enter Try.func6, Try.ntmps6
  go_wp2_with fail
  clear n0 d1 d2
  go_loopw [7, 8, 9] (fun v pv iv wr => ∃ (k p : Nat) (l : List Edc), k ≤ n2 ∧ iv = .int .i64 k ∧ pv = .int .i64 p ∧ l.length = k ∧ CutL l1 (l.map Edc.x) p ∧ OwnR rowDl w.heap.size v l wr ∧ (∀ x ∈ l, okDl x ∧ Red w x.v x.b) ∧ Below w.heap.size w wr) (fun _ _ i _ => n2 - (intOf i).toNat)
  case atStart => exact ⟨0, 0, [], Nat.zero_le _, rfl, rfl, rfl, CutL.nil _, ownR_nil _ _, fun x hx => (by cases hx), Below.refl _ _⟩
  case round =>
    obtain ⟨k, p, l, hk, rfl, rfl, hl, hcut, hown, hrd, hbr⟩ := hrel
    have OW := Lib.hid hown; have CU := Lib.hid hcut; have RD := Lib.hid hrd; have HBR := Lib.hid hbr; have HL := Lib.hid hl
    have hp1 : p ≤ n1 := by have := hcut.le; have := E1.out; omega
    clear hl hcut hown hrd hbr
    by_cases hlt : k < n2
    · obtain ⟨b, o, rfl, hb, hcell⟩ := NM.out (by omega)
      obtain ⟨x, hx⟩ := hcell k hlt
      have q : wr.cell? ⟨b, o + k, none⟩ = some (.int .i64 x) := (HBR.out.cell (p := ⟨b, o + k, none⟩) hb).trans hx
      clear hx hcell
      obtain ⟨r, hr, er⟩ := uint_rem x ((n1 : Int) - p + 1) (by omega)
      obtain ⟨f, hf⟩ : ∃ f : Nat, p + r = f := ⟨_, rfl⟩
      obtain ⟨r2, hr2, er2⟩ := uint_rem (wrap64 (x.tdiv 7)) ((n1 : Int) - f + 1) (by omega)
      obtain ⟨t, ht⟩ : ∃ t : Nat, f + r2 = t := ⟨_, rfl⟩
      have ef : (p : Int) + (r : Int) = (f : Int) := by omega
      have et : (f : Int) + (r2 : Int) = (t : Int) := by omega
      have hft : f ≤ t := by omega
      have hpf : p ≤ f := by omega
      have htn : t ≤ n1 := by omega
      have c2 : IntKind.u64.wrap ((n1 : Int) - p + 1) = (n1 : Int) - p + 1 := by rw [IntKind.wrap_u64]; omega
      have c4 : IntKind.i64.wrap (r : Int) = (r : Int) := IntWalk.i64_in _ (by omega)
      have c5 : IntKind.i64.wrap (r2 : Int) = (r2 : Int) := IntWalk.i64_in _ (by omega)
      have nz : ¬ ((n1 : Int) - p + 1) = 0 := by omega
      obtain ⟨v1, ev1⟩ : ∃ v, IntKind.u64.wrap x = v := ⟨_, rfl⟩
      obtain ⟨v2, ev2⟩ : ∃ v, IntKind.u64.wrap (wrap64 (x.tdiv 7)) = v := ⟨_, rfl⟩
      rw [ev1] at er
      rw [ev2] at er2
      have s1 := fun u => slice_u8_lh u a1 n1 c1 f t hft (by have := HC1.out.1; omega) f t rfl rfl
      obtain ⟨A1, hA1⟩ : ∃ A, (if c1 = f then a1 else a1.map (·.add f)) = A := ⟨_, rfl⟩
      rw [hA1] at s1
      have HA1 := Lib.hid hA1
      have RX := Lib.hid (show Red w (.slice A1 (t - f) (c1 - f)) ((l1.take t).drop f) by
        refine ⟨A1, c1 - f, ?_, ?_, fun e => ?_, ?_, ?_⟩
        · rw [List.length_drop, List.length_take, Nat.min_eq_left (by have := E1.out; omega)]
        · rw [← HA1.out]; exact bat_mid H1.out c1 f t hft (by have := E1.out; omega) (by have := E1.out; have := HC1.out.1; omega)
        · rw [List.length_drop, List.length_take, Nat.min_eq_left (by have := E1.out; omega)]
          exact no_mid HN1.out hft htn (by rw [HA1.out]; exact e)
        · rw [List.length_drop, List.length_take, Nat.min_eq_left (by have := E1.out; omega)]; have := HC1.out.1; omega
        · have := HC1.out.2; omega)
      obtain ⟨E, hE⟩ : ∃ E, arrDl (f : Int) (t : Int) (.slice A1 (t - f) (c1 - f)) = E := ⟨_, rfl⟩
      have E3 := Lib.hid (show E.size = 3 by rw [← hE]; rfl)
      have HE := Lib.hid hE
      have CN := Lib.hid (show CutL l1 ((l ++ [(⟨(f : Int), (t : Int), .slice A1 (t - f) (c1 - f), (l1.take t).drop f⟩ : Edc)]).map Edc.x) t by
        rw [List.map_append]
        exact CU.out.next hpf hft (by have := E1.out; omega))
      have LB := Lib.hid (show l.length + [(⟨(f : Int), (t : Int), .slice A1 (t - f) (c1 - f), (l1.take t).drop f⟩ : Edc)].length ≤ 1000000000 by have := HL.out; simp; omega)
      have b0 := (Below.refl wr.heap.size wr).alloc (Nat.le_refl _) (.cells E 34)
      have OW0 := Lib.hid (ownR_below OW.out b0)
      have B0 := Lib.hid (HBR.out.alloc HBR.out.size (.cells E 34))
      clear hA1 hf ht hE b0 hr hr2
      go_wp2_with (first
        | (with_reducible refine wpList_build_edit rfl (.tmp 69) (.tmp 70) (.tmp 74) rfl f t A1 (t - f) (c1 - f) rfl rfl rfl E HE.out ?_)
        | (with_reducible refine wpList_build_oneE rfl (.tmp 75) rfl E E3.out rfl ?_)
        | (at_builtin; refine wpList_append_edit rfl (.tmp 68) (.tmp 76) rfl w.heap.size u7 l [⟨(f : Int), (t : Int), .slice A1 (t - f) (c1 - f), (l1.take t).drop f⟩] (some ⟨wr.heap.size, 0, none⟩) 1 1 rfl rfl rfl (row_oneE HE.out) (fun y hy => by rw [List.mem_singleton.1 hy]; exact ⟨_, _, _, rfl⟩) (fun y hy => (RD.out y hy).1) OW0.out LB.out B0.out.size ?_; intro v5 w5 ho5 hg5 hn5)
        | fail)
      have B5 := Lib.hid (B0.out.grown hg5 B0.out.size (fun k hk => (ownR_lt OW.out k hk).1))
      refine ⟨⟨k + 1, t, l ++ [⟨(f : Int), (t : Int), .slice A1 (t - f) (c1 - f), (l1.take t).drop f⟩], by omega, by go_num, rfl, by rw [List.length_append, HL.out]; rfl, CN.out, ho5, ?_, B5.out⟩, by simp only [intOf]; omega⟩
      intro x hx
      rcases List.mem_append.1 hx with hx | hx
      · exact RD.out x hx
      · rw [List.mem_singleton.1 hx]
        exact ⟨⟨_, _, _, rfl⟩, RX.out⟩
    · have hkn : k = n2 := by omega
      subst hkn
      obtain ⟨ao, ac, hv, -, -, hrow, -, -⟩ := ownR_shape goodDl OW.out (fun x hx => (RD.out x hx).1)
      rw [HL.out] at hv
      have ROW := Lib.hid hrow
      have ED := Lib.hid (show EdAt wr ao l from ⟨hrow, fun x hx => (RD.out x hx).2.below HBR.out (Nat.le_refl _)⟩)
      have CA := Apply_is a1 n1 c1 l1 ao k ac l wr (H1.out.keep HBR.out) E1.out HC1.out.1 HC1.out.2 HN1.out ED.out HL.out.symm (by omega) (by have := CU.out.sum; omega)
      rw [if_pos CU.out.ok, if_pos CU.out.ok, CU.out.app] at CA
      have CA := Lib.hid CA
      subst hv
      clear hrow
      go_wp2_with fail
      refine CA.out.mono ?_
      rintro e w1 ⟨v1, rfl, hf1, hb1⟩
      have R1 := Lib.hid hf1.red
      obtain ⟨av, cv, hv, -⟩ := hf1.block
      rw [← E1.out] at hv
      subst hv
      have B1 := Lib.hid (HBR.out.trans (hb1.mono HBR.out.size))
      have G1 := Lib.hid hb1
      have AW := Lib.hid (awake14 w1)
      clear CA hf1 hb1
      go_wp2_with fail
      refine AW.out.mono ?_
      rintro e w2 ⟨rfl, hb2⟩
      have B2 := Lib.hid (B1.out.trans (hb2.mono B1.out.size))
      have G2 := Lib.hid (G1.out.trans (hb2.mono G1.out.size))
      have CB := Lib.hid (Bytes_same av a1 n1 n1 cv c1 l1 w2 ((redP R1.out).2.1.keep hb2) (H1.out.keep B2.out) E1.out E1.out)
      clear AW hb2 G1
      go_wp2_with fail
      refine CB.out.mono ?_
      rintro e w3 ⟨rfl, rfl⟩
      clear CB R1
      have ROW2 := Lib.hid (ROW.out.keep G2.out)
      obtain ⟨v, hv⟩ : ∃ v, IntKind.u64.wrap y = v := ⟨_, rfl⟩
      have hv0 : 0 ≤ v := by rw [← hv, IntKind.wrap_u64]; omega
      obtain ⟨r, hr⟩ : ∃ r : Nat, v.tmod 4 = (r : Int) := by
        rw [Int.tmod_eq_emod_of_nonneg hv0]
        exact ⟨(v % 4).toNat, by omega⟩
      have hr3 : r < 4 := by rw [Int.tmod_eq_emod_of_nonneg hv0] at hr; omega
      have hr4 : r = 0 ∨ r = 1 ∨ r = 2 ∨ r = 3 := by omega
      have LB := Lib.hid (show ([] : List Edc).length + l.length ≤ 1000000000 by have := HL.out; simp; omega)
      have LB1 := Lib.hid (show l.length + 1 ≤ 1000000000 by have := HL.out; omega)
      clear ROW G2 ED hr3 hv0 NM
      rcases hr4 with rfl | rfl | rfl | rfl
      · obtain ⟨X, hX⟩ : ∃ X : Edc, X = ⟨(n1 : Int), (n1 : Int) + 1, .slice none 0 0, []⟩ := ⟨_, rfl⟩
        obtain ⟨E, hE⟩ : ∃ E, arrDl (n1 : Int) ((n1 : Int) + 1) (.slice none 0 0) = E := ⟨_, rfl⟩
        have HE := Lib.hid hE
        have HX := Lib.hid (show arrDl X.f X.t X.v = E by rw [hX]; exact hE)
        have XO := Lib.hid (show okDl X ∧ Red w X.v X.b by rw [hX]; exact ⟨⟨_, _, _, rfl⟩, red_nil w⟩)
        have BAD := Lib.hid (show okE ((l ++ [X]).map Edc.x) 0 l1.length = false by rw [List.map_append, hX]; have q := bad0 (l.map Edc.x) l1.length []; rw [← E1.out] at q ⊢; exact q)
        have E3 := Lib.hid (show E.size = 3 by rw [← hE]; rfl)
        clear hE hX
        go_wp2_with (first
          | (at_builtin; refine wpList_append_edit rfl (.const (.slice none 0 0)) (.tmp 97) rfl w.heap.size (.slice none 0 0) [] l ao k ac rfl rfl HL.out.symm ROW2.out (fun y hy => (RD.out y hy).1) (fun y hy => by cases hy) (ownR_nil _ _) LB.out B2.out.size ?_; intro v5 w5 ho5 hg5 hn5; have O5 := Lib.hid (show OwnR rowDl w.heap.size v5 l w5 from ho5); have B5 := Lib.hid (B2.out.grown hg5 B2.out.size (fun k hk => by cases hk)); clear ho5 hg5 hn5)
          | (with_reducible refine wpList_build_edit2 rfl (.tmp 120) (.tmp 123) rfl n1 ((n1 : Int) + 1) rfl rfl E HE.out ?_)
          | (with_reducible refine wpList_build_oneE rfl (.tmp 124) rfl E E3.out rfl ?_)
          | (at_builtin; refine wpList_append_edit rfl (.tmp 118) (.tmp 125) rfl w.heap.size v5 l [X] (some ⟨w5.heap.size, 0, none⟩) 1 1 rfl rfl rfl (row_oneE HX.out) (fun y hy => by rw [List.mem_singleton.1 hy]; exact XO.out.1) (fun y hy => (RD.out y hy).1) (ownR_below O5.out ((Below.refl _ w5).alloc (Nat.le_refl _) _)) LB1.out (B5.out.alloc B5.out.size (.cells E 34)).size ?_; intro v6 w6 ho6 hg6 hn6; have B6 := Lib.hid ((B5.out.alloc B5.out.size (.cells E 34)).grown hg6 (B5.out.alloc B5.out.size (.cells E 34)).size (fun k hk => (ownR_lt O5.out k hk).1)); have CB := Lib.hid (bad_is a1 n1 c1 l1 w.heap.size v6 (l ++ [X]) w w6 E1.out ho6 (fun x hx => by rcases List.mem_append.1 hx with hx | hx; exact RD.out x hx; rw [List.mem_singleton.1 hx]; exact XO.out) B6.out (by rw [List.length_append, HL.out]; simp; omega) BAD.out); clear ho6 hg6 hn6)
          | fail)
        refine CB.out.mono ?_
        rintro e w7 ⟨rfl, hb7⟩
        go_wp2
        go_ret
        exact ⟨rfl, B6.out.trans (hb7.mono B6.out.size)⟩
      · obtain ⟨X, hX⟩ : ∃ X : Edc, X = ⟨-1, 0, .slice none 0 0, []⟩ := ⟨_, rfl⟩
        obtain ⟨E, hE⟩ : ∃ E, arrDl (-1) 0 (.slice none 0 0) = E := ⟨_, rfl⟩
        have HE := Lib.hid hE
        have HX := Lib.hid (show arrDl X.f X.t X.v = E by rw [hX]; exact hE)
        have XO := Lib.hid (show okDl X ∧ Red w X.v X.b by rw [hX]; exact ⟨⟨_, _, _, rfl⟩, red_nil w⟩)
        have BAD := Lib.hid (show okE (([X] ++ l).map Edc.x) 0 l1.length = false by rw [List.map_append, hX]; exact bad1 (l.map Edc.x) l1.length [])
        have E3 := Lib.hid (show E.size = 3 by rw [← hE]; rfl)
        have LB2 := Lib.hid (show [X].length + l.length ≤ 1000000000 by have := HL.out; simp; omega)
        clear hE hX
        go_wp2_with (first
          | (at_builtin; refine wpList_append_edit rfl (.const (.slice none 0 0)) (.tmp 97) rfl w.heap.size (.slice none 0 0) [] l ao k ac rfl rfl HL.out.symm ROW2.out (fun y hy => (RD.out y hy).1) (fun y hy => by cases hy) (ownR_nil _ _) LB.out B2.out.size ?_; intro v5 w5 ho5 hg5 hn5; have O5 := Lib.hid (show OwnR rowDl w.heap.size v5 l w5 from ho5); have B5 := Lib.hid (B2.out.grown hg5 B2.out.size (fun k hk => by cases hk)); clear ho5 hg5 hn5; obtain ⟨a5, c5, hv5, -, -, hrow5, -, -⟩ := ownR_shape goodDl O5.out (fun x hx => (RD.out x hx).1); rw [HL.out] at hv5; subst hv5; have ROW5 := Lib.hid hrow5; clear hrow5)
          | (with_reducible refine wpList_build_edit2 rfl (.const (.int .i64 (-1))) (.const (.int .i64 0)) rfl (-1) 0 rfl rfl E HE.out ?_)
          | (with_reducible refine wpList_build_oneE rfl (.tmp 129) rfl E E3.out rfl ?_)
          | (at_builtin; refine wpList_append_edit rfl (.tmp 130) (.tmp 131) rfl w.heap.size (.slice (some ⟨w5.heap.size, 0, none⟩) 1 1) [X] l a5 k c5 rfl rfl HL.out.symm (ROW5.out.keep ((Below.refl _ w5).alloc (Nat.le_refl _) _)) (fun y hy => (RD.out y hy).1) (fun y hy => by rw [List.mem_singleton.1 hy]; exact XO.out.1) (own_oneE HX.out B5.out.size) LB2.out (B5.out.alloc B5.out.size (.cells E 34)).size ?_; intro v6 w6 ho6 hg6 hn6; have B6 := Lib.hid ((B5.out.alloc B5.out.size (.cells E 34)).grown hg6 (B5.out.alloc B5.out.size (.cells E 34)).size (fun k hk => (ownR_lt (own_oneE HX.out B5.out.size) k hk).1)); have CB := Lib.hid (bad_is a1 n1 c1 l1 w.heap.size v6 ([X] ++ l) w w6 E1.out ho6 (fun x hx => by rcases List.mem_append.1 hx with hx | hx; rw [List.mem_singleton.1 hx]; exact XO.out; exact RD.out x hx) B6.out (by rw [List.length_append, HL.out]; simp; omega) BAD.out); clear ho6 hg6 hn6)
          | fail)
        refine CB.out.mono ?_
        rintro e w7 ⟨rfl, hb7⟩
        go_wp2
        go_ret
        exact ⟨rfl, B6.out.trans (hb7.mono B6.out.size)⟩
      · obtain ⟨X, hX⟩ : ∃ X : Edc, X = ⟨(n1 : Int), (n1 : Int) - 1, .slice none 0 0, []⟩ := ⟨_, rfl⟩
        obtain ⟨E, hE⟩ : ∃ E, arrDl (n1 : Int) ((n1 : Int) - 1) (.slice none 0 0) = E := ⟨_, rfl⟩
        have HE := Lib.hid hE
        have HX := Lib.hid (show arrDl X.f X.t X.v = E by rw [hX]; exact hE)
        have XO := Lib.hid (show okDl X ∧ Red w X.v X.b by rw [hX]; exact ⟨⟨_, _, _, rfl⟩, red_nil w⟩)
        have BAD := Lib.hid (show okE ((l ++ [X]).map Edc.x) 0 l1.length = false by rw [List.map_append, hX]; have q := bad2 (l.map Edc.x) l1.length []; rw [← E1.out] at q ⊢; exact q)
        have E3 := Lib.hid (show E.size = 3 by rw [← hE]; rfl)
        clear hE hX
        go_wp2_with (first
          | (at_builtin; refine wpList_append_edit rfl (.const (.slice none 0 0)) (.tmp 97) rfl w.heap.size (.slice none 0 0) [] l ao k ac rfl rfl HL.out.symm ROW2.out (fun y hy => (RD.out y hy).1) (fun y hy => by cases hy) (ownR_nil _ _) LB.out B2.out.size ?_; intro v5 w5 ho5 hg5 hn5; have O5 := Lib.hid (show OwnR rowDl w.heap.size v5 l w5 from ho5); have B5 := Lib.hid (B2.out.grown hg5 B2.out.size (fun k hk => by cases hk)); clear ho5 hg5 hn5)
          | (with_reducible refine wpList_build_edit2 rfl (.tmp 137) (.tmp 140) rfl n1 ((n1 : Int) - 1) rfl rfl E HE.out ?_)
          | (with_reducible refine wpList_build_oneE rfl (.tmp 141) rfl E E3.out rfl ?_)
          | (at_builtin; refine wpList_append_edit rfl (.tmp 135) (.tmp 142) rfl w.heap.size v5 l [X] (some ⟨w5.heap.size, 0, none⟩) 1 1 rfl rfl rfl (row_oneE HX.out) (fun y hy => by rw [List.mem_singleton.1 hy]; exact XO.out.1) (fun y hy => (RD.out y hy).1) (ownR_below O5.out ((Below.refl _ w5).alloc (Nat.le_refl _) _)) LB1.out (B5.out.alloc B5.out.size (.cells E 34)).size ?_; intro v6 w6 ho6 hg6 hn6; have B6 := Lib.hid ((B5.out.alloc B5.out.size (.cells E 34)).grown hg6 (B5.out.alloc B5.out.size (.cells E 34)).size (fun k hk => (ownR_lt O5.out k hk).1)); have CB := Lib.hid (bad_is a1 n1 c1 l1 w.heap.size v6 (l ++ [X]) w w6 E1.out ho6 (fun x hx => by rcases List.mem_append.1 hx with hx | hx; exact RD.out x hx; rw [List.mem_singleton.1 hx]; exact XO.out) B6.out (by rw [List.length_append, HL.out]; simp; omega) BAD.out); clear ho6 hg6 hn6)
          | fail)
        refine CB.out.mono ?_
        rintro e w7 ⟨rfl, hb7⟩
        go_wp2
        go_ret
        exact ⟨rfl, B6.out.trans (hb7.mono B6.out.size)⟩
      · obtain ⟨X, hX⟩ : ∃ X : Edc, X = ⟨0, (n1 : Int), .slice none 0 0, []⟩ := ⟨_, rfl⟩
        obtain ⟨Y, hY⟩ : ∃ Y : Edc, Y = ⟨(n1 : Int) - 1, (n1 : Int), .slice none 0 0, []⟩ := ⟨_, rfl⟩
        obtain ⟨E, hE⟩ : ∃ E, arrDl 0 (n1 : Int) (.slice none 0 0) = E := ⟨_, rfl⟩
        obtain ⟨F, hF⟩ : ∃ F, arrDl ((n1 : Int) - 1) (n1 : Int) (.slice none 0 0) = F := ⟨_, rfl⟩
        have HE := Lib.hid hE; have HF := Lib.hid hF
        have HX := Lib.hid (show arrDl X.f X.t X.v = E by rw [hX]; exact hE)
        have HY := Lib.hid (show arrDl Y.f Y.t Y.v = F by rw [hY]; exact hF)
        have XO := Lib.hid (show okDl X ∧ Red w X.v X.b by rw [hX]; exact ⟨⟨_, _, _, rfl⟩, red_nil w⟩)
        have YO := Lib.hid (show okDl Y ∧ Red w Y.v Y.b by rw [hY]; exact ⟨⟨_, _, _, rfl⟩, red_nil w⟩)
        have BAD := Lib.hid (show okE (([X] ++ (l ++ [Y])).map Edc.x) 0 l1.length = false by rw [List.map_append, List.map_append, hX, hY]; have q := bad3 (l.map Edc.x) l1.length [] []; rw [← E1.out] at q ⊢; exact q)
        have E3 := Lib.hid (show E.size = 3 by rw [← hE]; rfl)
        have F3 := Lib.hid (show F.size = 3 by rw [← hF]; rfl)
        have LB2 := Lib.hid (show [X].length + (l ++ [Y]).length ≤ 1000000000 by have := HL.out; simp; omega)
        have LYO := Lib.hid (show ∀ x ∈ l ++ [Y], okDl x ∧ Red w x.v x.b from fun x hx => by
          rcases List.mem_append.1 hx with hx | hx
          · exact RD.out x hx
          · rw [List.mem_singleton.1 hx]; exact YO.out)
        clear hE hF hX hY
        go_wp2_with (first
          | (at_builtin; refine wpList_append_edit rfl (.const (.slice none 0 0)) (.tmp 97) rfl w.heap.size (.slice none 0 0) [] l ao k ac rfl rfl HL.out.symm ROW2.out (fun y hy => (RD.out y hy).1) (fun y hy => by cases hy) (ownR_nil _ _) LB.out B2.out.size ?_; intro v5 w5 ho5 hg5 hn5; have O5 := Lib.hid (show OwnR rowDl w.heap.size v5 l w5 from ho5); have B5 := Lib.hid (B2.out.grown hg5 B2.out.size (fun k hk => by cases hk)); clear ho5 hg5 hn5; obtain ⟨a5, c5, hv5, -, -, hrow5, -, -⟩ := ownR_shape goodDl O5.out (fun x hx => (RD.out x hx).1); rw [HL.out] at hv5; subst hv5; have ROW5 := Lib.hid hrow5; clear hrow5)
          | (with_reducible refine wpList_build_edit2 rfl (.const (.int .i64 0)) (.tmp 103) rfl 0 n1 rfl rfl E HE.out ?_)
          | (with_reducible refine wpList_build_edit2 rfl (.tmp 109) (.tmp 111) rfl ((n1 : Int) - 1) n1 rfl rfl F HF.out ?_)
          | (with_reducible refine wpList_build_oneE rfl (.tmp 104) rfl E E3.out rfl ?_; have B5E := Lib.hid (B5.out.alloc B5.out.size (.cells E 34)))
          | (with_reducible refine wpList_build_oneE rfl (.tmp 112) rfl F F3.out rfl ?_; have B5F := Lib.hid (B5E.out.alloc B5E.out.size (.cells F 34)); have AB := Lib.hid ((Below.refl w5.heap.size w5).alloc (Nat.le_refl _) (.cells E 34)); have AC := Lib.hid ((Below.refl (w5.alloc (.cells E 34)).heap.size (w5.alloc (.cells E 34))).alloc (Nat.le_refl _) (.cells F 34)))
          | (at_builtin; refine wpList_append_edit rfl (.tmp 106) (.tmp 113) rfl w.heap.size (.slice a5 k c5) l [Y] (some ⟨(w5.alloc (.cells E 34)).heap.size, 0, none⟩) 1 1 rfl rfl rfl (row_oneE HY.out) (fun y hy => by rw [List.mem_singleton.1 hy]; exact YO.out.1) (fun y hy => (RD.out y hy).1) (ownR_below (ownR_below O5.out AB.out) AC.out) LB1.out B5F.out.size ?_; intro v6 w6 ho6 hg6 hn6; have B6 := Lib.hid (B5F.out.grown hg6 B5F.out.size (fun k hk => (ownR_lt O5.out k hk).1)); have OX6 := Lib.hid (own_keepE HX.out B5.out.size O5.out hg6); obtain ⟨a6, c6, hv6, -, -, hrow6, -, -⟩ := ownR_shape goodDl ho6 (fun x hx => (LYO.out x hx).1); have HL6 := Lib.hid (show (l ++ [Y]).length = k + 1 by rw [List.length_append, HL.out]; rfl); rw [HL6.out] at hv6; subst hv6; have ROW6 := Lib.hid hrow6; clear hrow6 ho6 hg6 hn6)
          | (at_builtin; refine wpList_append_edit rfl (.tmp 105) (.tmp 114) rfl w.heap.size (.slice (some ⟨w5.heap.size, 0, none⟩) 1 1) [X] (l ++ [Y]) a6 (k + 1) c6 rfl rfl HL6.out.symm ROW6.out (fun y hy => (LYO.out y hy).1) (fun y hy => by rw [List.mem_singleton.1 hy]; exact XO.out.1) OX6.out LB2.out B6.out.size ?_; intro v7 w7 ho7 hg7 hn7; have B7 := Lib.hid (B6.out.grown hg7 B6.out.size (fun k hk => (ownR_lt OX6.out k hk).1)); have CB := Lib.hid (bad_is a1 n1 c1 l1 w.heap.size v7 ([X] ++ (l ++ [Y])) w w7 E1.out ho7 (fun x hx => by rcases List.mem_append.1 hx with hx | hx; rw [List.mem_singleton.1 hx]; exact XO.out; exact LYO.out x hx) B7.out (by rw [List.length_append, HL6.out]; simp; omega) BAD.out); clear ho7 hg7 hn7)
          | fail)
        refine CB.out.mono ?_
        rintro e w8 ⟨rfl, hb8⟩
        go_wp2
        go_ret
        exact ⟨rfl, B7.out.trans (hb8.mono B7.out.size)⟩
theorem walk (w : World) (a1 : Option Addr) (n1 c1 : Nat) (l1 : List UInt8) (e1 : n1 = l1.length) (h1 : BAt w a1 l1) (hno1 : a1 = none → n1 = 0 ∧ c1 = 0) (hc1 : n1 ≤ c1 ∧ c1 ≤ maxLen)
    (a2 : Option Addr) (n2 c2 : Nat) (m2 : n2 ≤ maxLen) (nm : 0 < n2 → ∃ b o, a2 = some ⟨b, o, none⟩ ∧ b < w.heap.size ∧ ∀ i, i < n2 → ∃ x : Int, w.cell? ⟨b, o + i, none⟩ = some (.int .i64 x)) (y : Int) (lo : -9223372036854775808 ≤ y) (hi : y ≤ 9223372036854775807) :
    Calls Try.prog 6 #[.slice a1 n1 c1, .slice a2 n2 c2, .int .i64 y] w fun e w' => e = .returned (.bool true) ∧ Below w.heap.size w w' := by
  by_cases h : n1 = 0 ∨ 500 < n1 ∨ 20 < n2
  · exact walk_long w a1 n1 c1 a2 n2 c2 y (Nat.le_trans hc1.1 hc1.2) m2 h
  · exact walk_main w a1 n1 c1 l1 e1 h1 hno1 hc1 a2 n2 c2 nm y (by omega) (by omega) (by omega)
end Go.Proofs.Ytbilempgnpnacaa.deltaOrder
