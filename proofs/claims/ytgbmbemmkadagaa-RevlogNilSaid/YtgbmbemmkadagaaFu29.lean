/-
  Texts that belong together, one behind the other.
-/
import Derived.Test.YtgbmbemmkadagaaFu28
/-
  Layer 15, the program: the text that is kept (text, of either type).
-/
namespace Go.Proofs.Ytgbmbemmkadagaa
set_option maxRecDepth 20000
open Go.RowKit Go.Maps
set_option linter.unusedVariables false
set_option linter.unusedSimpArgs false

theorem m_whole (x : Value) (w : World) : (method 230 103 x "trestle/revlog.text").run Try.prog w = .ok (77, x) w := by kernel_rfl
theorem m_edit (x : Value) (w : World) : (method 230 101 x "trestle/revlog.text").run Try.prog w = .ok (71, x) w := by kernel_rfl
theorem wtext_is (a : Option Addr) (n c : Nat) (w : World) :
    Calls Try.prog 77 #[.slice a n c] w fun e w' => e = .returned (.slice a n c) ∧ w = w' := by
  go_enter Try.func77, Try.ntmps77
  go_wp2
  go_ret
  exact ⟨rfl, rfl⟩
/-- Who tells the text that is kept. -/
def TextF (w : World) (v : Value) (t : List UInt8) (T : TypeId) (x : Value) (f : FuncId) : Prop :=
  v = .iface T x ∧ (∀ u : World, (method 230 T x "trestle/revlog.text").run Try.prog u = .ok (f, x) u) ∧ (∀ u : World, (nilAhead 230 T x "trestle/revlog.text").run Try.prog u = .ok false u) ∧
    (∀ (args : Array Value) (u : World), (callFunc f args).run Try.prog u = .ok (.enter f args) u) ∧ ∀ u, Below w.heap.size w u → Calls Try.prog f #[x] u fun e u' => ∃ a c, e = .returned (.slice a t.length c) ∧ Red u' (.slice a t.length c) t ∧ Below u.heap.size u u'
theorem na_whole (x : Value) (w : World) : (nilAhead 230 103 x "trestle/revlog.text").run Try.prog w = .ok false w := by kernel_rfl
theorem na_edit (x : Value) (w : World) : (nilAhead 230 101 x "trestle/revlog.text").run Try.prog w = .ok false w := by kernel_rfl
set_option maxHeartbeats 4000000 in
theorem etext_is {w : World} {t : List UInt8} {T : TypeId} {x : Value} {f : FuncId} {l : List Edc} {a : Option Addr} {c : Nat} (h : TextF w (.iface T x) t T x f) (he : EdAt w a l) (hok : okE (l.map Edc.x) 0 t.length = true) (hl : l.length ≤ 10000) (hb : t.length + sumE (l.map Edc.x) ≤ 65536) :
    ∀ u, Below w.heap.size w u → Calls Try.prog 71 #[.agg #[.iface T x, .slice a l.length c]] u fun e u' => ∃ b d, e = .returned (.slice b (appE t (l.map Edc.x)).length d) ∧ Red u' (.slice b (appE t (l.map Edc.x)).length d) (appE t (l.map Edc.x)) ∧ Below u.heap.size u u' := by
  intro u hu
  obtain ⟨-, m, na, eg, C⟩ := h
  have b1 := (Below.refl u.heap.size u).alloc (Nat.le_refl _) (.cells #[.iface T x, .slice a l.length c] 101)
  have x1 := heap_alloc_new u (.cells #[.iface T x, .slice a l.length c] 101)
  obtain ⟨u1, hu1⟩ : ∃ u1, u.alloc (.cells #[.iface T x, .slice a l.length c] 101) = u1 := ⟨_, rfl⟩
  rw [hu1] at b1 x1
  have L0 := Lib.hid (fun y (hy : Below u1.heap.size u1 y) => (show y.cell? ⟨u.heap.size, 0, none⟩ = some (.iface T x) from (cell_of_row y u.heap.size 0 _ _ _ ((hy.block _ (lt_of_heap x1)).trans x1)).trans rfl))
  have L1 := Lib.hid (fun y (hy : Below u1.heap.size u1 y) => (show y.cell? ⟨u.heap.size, 1, none⟩ = some (.slice a l.length c) from (cell_of_row y u.heap.size 1 _ _ _ ((hy.block _ (lt_of_heap x1)).trans x1)).trans rfl))
  have HU := Lib.hid (hu.trans (b1.mono hu.size))
  have B1 := Lib.hid b1; have W1 := Lib.hid hu1
  have HE := Lib.hid he; have HOK := Lib.hid hok; have HL := Lib.hid hl; have HB := Lib.hid hb
  have CT := Lib.hid C
  obtain ⟨R, hR⟩ : ∃ R, appE t (l.map Edc.x) = R := ⟨_, rfl⟩
  have HR := Lib.hid hR
  rw [hR]
  obtain ⟨n, hn⟩ : ∃ n, l.length = n := ⟨_, rfl⟩
  have HN := Lib.hid hn
  rw [hn] at L1 ⊢ hu1
  clear hu b1 x1 he hok hl hb C hR hn
  have W1 := Lib.hid hu1
  go_enter Try.func71, Try.ntmps71
  go_wp2_with fail
  refine rgB _ (fun hHeld => ?_)
  refine tkW 0 rfl hHeld ?_
  refine tkV 1 rfl (.iface T x) (fun y hy => by have q := L0.out y hy; go_simp) hHeld ?_
  refine tkW 3 rfl hHeld ?_
  refine tkV 4 rfl (.slice a n c) (fun y hy => by have q := L1.out y hy; go_simp) hHeld ?_
  refine rdH 2 rfl (fun K hK => ?_)
  go_simp
  refine (CT.out _ (HU.out.trans (hHeld.mono HU.out.size))).mono ?_
  rintro e u2 ⟨b2, d2, rfl, hr2, hb2⟩
  have hH := hHeld.trans (hb2.mono hHeld.size)
  have RD := Lib.hid (redP hr2)
  clear hHeld hr2 hb2
  refine hK.out _ _ hH (fun hHeld => ?_)
  clear hK K
  try simp only [Act.put, List.setIfInBounds_toArray, List.set_cons_zero, List.set_cons_succ]
  refine rdH 5 rfl (fun K hK => ?_)
  go_simp
  have CA := Apply_is b2 t.length d2 t a n c l u2 RD.out.2.1 RD.out.1 RD.out.2.2.2.1 RD.out.2.2.2.2 RD.out.2.2.1 (HE.out.keep (HU.out.trans (hHeld.mono HU.out.size))) HN.out.symm (by rw [← HN.out]; exact HL.out) HB.out
  rw [if_pos HOK.out, if_pos HOK.out, HR.out] at CA
  refine CA.mono ?_
  rintro e u3 ⟨v3, rfl, hf3, hb3⟩
  have hH := hHeld.trans (hb3.mono hHeld.size)
  obtain ⟨b3, d3, hv3, -⟩ := hf3.block
  subst hv3
  have R3 := Lib.hid hf3.red
  clear hHeld hf3 hb3 CA
  refine hK.out _ _ hH (fun hHeld => ?_)
  clear hK K
  try simp only [Act.put, List.setIfInBounds_toArray, List.set_cons_zero, List.set_cons_succ]
  refine tkW 6 rfl hHeld ?_
  refine tkW 7 rfl hHeld ?_
  refine tkW 8 rfl hHeld ?_
  refine tkW 9 rfl hHeld ?_
  refine tkW 10 rfl hHeld ?_
  try simp only [Act.put, List.getElem_toArray, List.getElem_cons_succ, List.getElem_cons_zero, lsA, lsZ, lsS]
  refine wpAnyH_done (by kernel_rfl) ?_ _
  have HBB := Lib.hid (B1.out.trans (hHeld.mono B1.out.size))
  clear hHeld
  go_wp2
  go_ret
  exact ⟨_, _, rfl, R3.out, HBB.out⟩
/-- Who tells it, of each. -/
theorem StoAt.text {S : Nat → Prop} {w : World} {v : Value} {t : List UInt8} {c : Nat} (h : StoAt S w v t c) : ∃ T x f, TextF w v t T x f := by
  induction h with
  | @whole v t h hl =>
    obtain ⟨a, c, e, hb, hn, hc, hm, -⟩ := h
    refine ⟨_, _, 77, rfl, m_whole v, na_whole v, fun args u => rfl, fun u hu => ?_⟩
    rw [e]
    refine (wtext_is a _ c u).mono ?_
    rintro e u' ⟨rfl, rfl⟩
    exact ⟨a, c, rfl, ⟨a, c, rfl, hb.keep hu, hn, hc, hm⟩, Below.refl _ _⟩
  | @edited x v t c l h he hok hl hb ih =>
    obtain ⟨T, y, f, hT⟩ := ih
    obtain ⟨a, d, e2, hed⟩ := he.at
    have e1 := hT.1
    refine ⟨_, _, 71, rfl, m_edit _, na_edit _, fun args u => rfl, fun u hu => ?_⟩
    rw [e1, e2]
    exact etext_is (e1 ▸ hT) hed hok hl hb u hu
end Go.Proofs.Ytgbmbemmkadagaa

/-
  Layer 15, the program: how a text is kept (store).
-/
namespace Go.Proofs.Ytgbmbemmkadagaa
set_option maxRecDepth 20000
open Go.RowKit Go.Maps
set_option linter.unusedVariables false
set_option linter.unusedSimpArgs false

/-- A row of a call's own, read alone. -/
theorem row_redS {B : Nat} {w : World} {v : Value} {l : List UInt8} (h : Row w v l) (hf : ∀ k, foot v = some k → B ≤ k) : RedS (fun k => B ≤ k) w v l := by
  obtain ⟨a, c, e, h1, h2, h3, h4⟩ := h.shape
  refine ⟨a, c, e, h3, h4, h1, h2, fun ad hp ha => ?_⟩
  subst ha
  obtain ⟨m, rfl⟩ : ∃ m, c = m + 1 := ⟨c - 1, by omega⟩
  exact hf _ (by rw [e]; rfl)
/-- Make, with where its edits lie. -/
theorem Make_new (a1 a2 : Option Addr) (n1 n2 c1 c2 : Nat) (l1 l2 : List UInt8) (w : World) (h1 : BAt w a1 l1) (h2 : BAt w a2 l2) (e1 : n1 = l1.length) (e2 : n2 = l2.length) (m1 : n1 ≤ 1000000) (m2 : n2 ≤ 1000000)
    (q1 : n1 ≤ c1) (q2 : n2 ≤ c2) (hno2 : a2 = none → n2 = 0 ∧ c2 = 0) :
    Calls Try.prog 46 #[.slice a1 n1 c1, .slice a2 n2 c2] w fun e w' => ∃ ao k l, e = .returned (.slice ao k k) ∧ k = l.length ∧ l.map Edc.x = mkE l1 l2 ∧ EdAt w' ao l ∧ EdS (fun j => w.heap.size ≤ j) w' (.slice ao k k) l ∧ Below w.heap.size w w' := by
  by_cases h : l1 = l2
  · subst h
    refine (make_same a1 a2 n1 n2 c1 c2 l1 w h1 h2 e1 e2 m1).mono ?_
    rintro e w' ⟨rfl, hb⟩
    exact ⟨none, 0, [], rfl, rfl, by unfold mkE; rw [if_pos rfl]; rfl, ⟨RowAt.nil _ _, fun e he => (by cases he)⟩, ⟨RedR.nil _, fun e he => (by cases he)⟩, hb⟩
  · refine (make_other a1 a2 n1 n2 c1 c2 l1 l2 w h1 h2 e1 e2 m1 m2 q1 q2 hno2 h).mono ?_
    rintro e w' ⟨g, a, c, rfl, he, ⟨hg, hr, hf⟩, hb⟩
    have hm : madeL l1 l2 a c = [⟨fromL l1 l2, ((l1.length - tailL l1 l2 : Nat) : Int), .slice a (putL l1 l2).length c, putL l1 l2⟩] := by unfold madeL; rw [if_neg h]
    refine ⟨_, 1, madeL l1 l2 a c, rfl, by rw [hm]; rfl, made_mkE l1 l2 a c, he, ⟨⟨_, 1, by rw [hm]; rfl, he.1, fun h => (by cases h), by rw [hm]; exact Nat.le_refl _, by decide, fun ad _ ha => by cases ha; exact hg⟩, fun e hm2 => ?_⟩, hb⟩
    rw [hm] at hm2
    rw [List.mem_singleton.1 hm2]
    exact row_redS hr hf
theorem nil_neq (T : TypeId) (x : Value) (w : World) : (binOp .neq 74 (.iface T x) .nilIface).run Try.prog w = .ok (.bool true) w := by kernel_rfl
set_option maxHeartbeats 8000000 in
/-- The first text. -/
theorem store_nil (a : Option Addr) (n c : Nat) (t : List UInt8) (w : World) (hb : BAt w a t) (hn : n = t.length) (hno : a = none → n = 0 ∧ c = 0) (hl : t.length ≤ 30000) :
    Calls Try.prog 38 #[.slice a n c, .nilIface] w fun e w' => ∃ v, e = .returned v ∧ StoAt (fun k => w.heap.size ≤ k) w' v t 0 ∧ Below w.heap.size w w' := by
  have CC := Lib.hid (bClone_any t w a n c hb hn hno (Nat.le_trans hl (by omega)))
  have HL := Lib.hid hl
  clear hb hn hno hl
  go_enter Try.func38, Try.ntmps38
  go_wp2_with fail
  refine CC.out.mono ?_
  rintro e w1 ⟨v, rfl, hr, hf, hb⟩
  have ST := Lib.hid (StoAt.whole (row_redS hr hf) HL.out)
  clear hr hf
  go_wp2
  go_ret
  exact ⟨_, rfl, ST.out, hb⟩
set_option maxHeartbeats 16000000 in
/-- A text behind another one. -/
theorem store_some {S : Nat → Prop} {w : World} {v : Value} {t0 : List UInt8} {c0 : Nat} (h : StoAt S w v t0 c0) (h0 : t0.length ≤ 30000) (hc0 : c0 ≤ 1000) (a : Option Addr) (n c : Nat) (t : List UInt8) (hb : BAt w a t) (hn : n = t.length) (hno : a = none → n = 0 ∧ c = 0) (hcn : n ≤ c) (hl : t.length ≤ 30000) :
    Calls Try.prog 38 #[.slice a n c, v] w fun e w' => ∃ v', e = .returned v' ∧ StoAt (fun k => S k ∨ w.heap.size ≤ k) w' v' t (if c0 < 8 ∧ (dlB t0 t).length < t.length then c0 + 1 else 0) ∧ Below w.heap.size w w' := by
  obtain ⟨R, hR⟩ : ∃ R, (if c0 < 8 ∧ (dlB t0 t).length < t.length then c0 + 1 else 0) = R := ⟨_, rfl⟩
  rw [hR]
  have HR := Lib.hid hR
  clear hR
  have CH := Lib.hid (chain_is h hc0)
  have CCL := Lib.hid (fun u (hu : Below w.heap.size w u) => bClone_any t u a n c (hb.keep hu) hn hno (Nat.le_trans hl (by omega)))
  obtain ⟨T, x, f, rfl, m, na, eg, CT⟩ := h.text
  have CT := Lib.hid CT
  have ne := nil_neq T x
  have H := Lib.hid h; have H0 := Lib.hid h0; have HB := Lib.hid hb; have HN := Lib.hid hn; have HNO := Lib.hid hno; have HCN := Lib.hid hcn; have HL := Lib.hid hl
  have hc1 := hc0
  clear h h0 hb hn hno hcn hl hc0
  by_cases h8 : c0 < 8
  · have d8 : decide ((c0 : Int) < 8) = true := decide_eq_true (by omega)
    have H8 := Lib.hid h8
    clear h8
    go_enter Try.func38, Try.ntmps38
    go_wp2_with fail
    refine CH.out.mono ?_
    rintro e w1 ⟨rfl, hb1⟩
    have B1 := Lib.hid hb1
    clear hb1 CH
    go_wp2_with fail
    refine (CT.out _ B1.out).mono ?_
    rintro e w2 ⟨b2, d2, rfl, hr2, hb2⟩
    have B2 := Lib.hid (B1.out.trans (hb2.mono B1.out.size))
    have RD := Lib.hid (redP hr2)
    have CM := Lib.hid (Make_new b2 a t0.length n d2 c t0 t w2 RD.out.2.1 (HB.out.keep B2.out) RD.out.1 HN.out (by have := H0.out; omega) (by have := HL.out; have := HN.out; omega) RD.out.2.2.2.1 HCN.out HNO.out)
    clear hr2 hb2 CT
    go_wp2_with fail
    refine CM.out.mono ?_
    rintro e w3 ⟨ao, k, l, rfl, hk, hx, he, hs, hb3⟩
    have B3 := Lib.hid (B2.out.trans (hb3.mono B2.out.size))
    have S2 := Lib.hid (show w.heap.size ≤ w2.heap.size from B2.out.size)
    have ms := mkE_sum t0 t
    have ml := mkE_len t0 t
    have kl : k ≤ 1 := by rw [hk, ← List.length_map (f := Edc.x), hx]; exact ml
    have CP := Lib.hid (Print_is ao k k l w3 he hk (by rw [hx]; have := HL.out; omega))
    have HX := Lib.hid hx; have HS := Lib.hid hs; have HK := Lib.hid hk; have MS := Lib.hid ms; have ML := Lib.hid ml; have KL := Lib.hid kl
    clear hk hx he hs hb3 ms ml kl CM
    go_wp2_with fail
    refine CP.out.mono ?_
    rintro e w4 ⟨v4, rfl, hr4, hf4, hb4⟩
    have B4 := Lib.hid (B3.out.trans (hb4.mono B3.out.size))
    obtain ⟨a4, c4, rfl, -⟩ := hr4.shape
    obtain ⟨p, hp⟩ : ∃ p, (printE (l.map Edc.x)).length = p := ⟨_, rfl⟩
    have HP := Lib.hid (show (dlB t0 t).length = p by rw [← hp, HX.out]; rfl)
    rw [hp]
    have B34 := Lib.hid hb4
    clear hr4 hf4 hb4 hp CP
    by_cases hlt : p < n
    · have SE := Lib.hid (show StoAt (fun k => S k ∨ w.heap.size ≤ k) w4 (.iface 101 (.agg #[.iface T x, .slice ao k k])) t R by
        rw [← HR.out, if_pos ⟨H8.out, by rw [HP.out, ← HN.out]; exact hlt⟩]
        have q := StoAt.edited ((H.out.behind B4.out).mono (S' := fun k => S k ∨ w.heap.size ≤ k) (fun k _ hk => .inl hk)) ((HS.out.keep (StayB.of B34.out)).mono (S' := fun k => S k ∨ w.heap.size ≤ k) (fun k _ hk => .inr (Nat.le_trans S2.out hk))) (by rw [HX.out]; exact mkE_ok t0 t) (by rw [← HK.out]; have := KL.out; omega) (by rw [HX.out]; have := MS.out; have := H0.out; have := HL.out; omega)
        rw [HX.out, mkE_app] at q
        exact q)
      go_wp2
      go_ret
      exact ⟨_, rfl, SE.out, B4.out⟩
    · have CC := Lib.hid (CCL.out _ B4.out)
      go_wp2_with fail
      refine CC.out.mono ?_
      rintro e w5 ⟨v5, rfl, hr5, hf5, hb5⟩
      have B5 := Lib.hid (B4.out.trans (hb5.mono B4.out.size))
      have ST := Lib.hid (show StoAt (fun k => S k ∨ w.heap.size ≤ k) w5 (.iface 103 v5) t R by
        rw [← HR.out, if_neg (fun q => hlt (by rw [HN.out, ← HP.out]; exact q.2))]
        exact StoAt.whole ((row_redS hr5 hf5).mono (fun k _ hk => .inr (Nat.le_trans B4.out.size hk))) HL.out)
      clear hr5 hf5 hb5
      go_wp2
      go_ret
      exact ⟨_, rfl, ST.out, B5.out⟩
  · have d8 : decide ((c0 : Int) < 8) = false := decide_eq_false (by omega)
    have H8 := Lib.hid h8
    clear h8
    go_enter Try.func38, Try.ntmps38
    go_wp2_with fail
    refine CH.out.mono ?_
    rintro e w1 ⟨rfl, hb1⟩
    have B4 := Lib.hid hb1
    have CC := Lib.hid (CCL.out _ B4.out)
    clear hb1 CH
    go_wp2_with fail
    refine CC.out.mono ?_
    rintro e w5 ⟨v5, rfl, hr5, hf5, hb5⟩
    have B5 := Lib.hid (B4.out.trans (hb5.mono B4.out.size))
    have ST := Lib.hid (show StoAt (fun k => S k ∨ w.heap.size ≤ k) w5 (.iface 103 v5) t R by
      rw [← HR.out, if_neg (fun q => H8.out q.1)]
      exact StoAt.whole ((row_redS hr5 hf5).mono (fun k _ hk => .inr (Nat.le_trans B4.out.size hk))) HL.out)
    clear hr5 hf5 hb5
    go_wp2
    go_ret
    exact ⟨_, rfl, ST.out, B5.out⟩
end Go.Proofs.Ytgbmbemmkadagaa
