/-
  Texts that belong together, one behind the other.
-/
import Derived.Test.YtnohonjjfjppoaaGreatDoorFu16
import Derived.Test.YtnohonjjfjppoaaGreatDoorFu15
import Derived.Test.YtnohonjjfjppoaaGreatDoorFu22
import Derived.OrdersHeld
import Derived.Deep.RegionHeld
/-
  Layer 10, the program: Put, whatever keep does.
-/
namespace Go.Proofs.YtnohonjjfjppoaaGreatDoor
set_option maxRecDepth 20000
open Go.RowKit
set_option linter.unusedVariables false
set_option linter.unusedSimpArgs false
set_option maxHeartbeats 16000000 in
theorem PutP_bad {w : World} {g : Nat} (k : Int) (v : Value) (b : List UInt8) (hv : Red w v b) (tab : Tab w) (he : (printO k b).2 ≠ 0) :
    Calls Tryz.prog 24 #[.pointer (some ⟨g, 0, none⟩), .agg #[.int .i64 k, v]] w fun e w' => e = .returned (.tuple #[.agg (arrD idZ), .int .i64 (printO k b).2]) ∧ Below w.heap.size w w' := by
  obtain ⟨a, c, rfl, hb, hno, hc, hm⟩ := hv
  obtain ⟨n, hn⟩ : ∃ n, b.length = n := ⟨_, rfl⟩
  rw [hn] at hno hc ⊢
  obtain ⟨z, hz0, hzs, hzv, hzb, hz1⟩ := zId_any
  have b1 := (Below.refl w.heap.size w).alloc (Nat.le_refl _) (.cells #[.int .i64 k, .slice a n c] 52)
  have b2 := b1.alloc b1.size (.cells z 27)
  have hs1 : (w.alloc (.cells #[.int .i64 k, .slice a n c] 52)).heap.size = w.heap.size + 1 := by simp
  have h02 := heap_alloc_new (w.alloc (.cells #[.int .i64 k, .slice a n c] 52)) (.cells z 27)
  rw [hs1] at h02
  have H2 := Lib.hid h02; have B2 := Lib.hid b2
  have ZB := Lib.hid hzb; have Z1 := Lib.hid hz1; have Z0 := Lib.hid hz0; have ZS := Lib.hid hzs
  have IZ := Lib.hid (show (Tryz.prog.info? 27).map (·.size) = some z.size from by rw [hzs]; exact infoD_n)
  have CP := Lib.hid (fun u (hu : Below w.heap.size w u) => Print_any k a n c b u hn.symm (hb.keep hu) hno hc hm (tab.keep hu))
  obtain ⟨er, her⟩ : ∃ er, (printO k b).2 = er := ⟨_, rfl⟩
  rw [her] at CP he ⊢
  have hxb : (er != 0) = true := by simp [he]
  rw [← hz0]
  clear b1 b2 h02 hs1 hb hno hc hm hz0 hzs hzb hz1 her hn
  go_enter Tryz.func24, Tryz.ntmps24
  go_wp2_with fail
  refine (CP.out _ B2.out).mono ?_
  rintro e w3 ⟨v3, rfl, hr3, -, hb3⟩
  have H3 := Lib.hid ((hb3.block (w.heap.size + 1) (lt_of_heap H2.out)).trans H2.out)
  have HB3 := Lib.hid (B2.out.trans (hb3.mono B2.out.size))
  clear hb3 CP hr3
  go_wp2_with (first
    | (refine wpList_build_none rfl 27 rfl z ZB.out ?_)
    | (with_reducible refine wpList_store_all rfl 27 (.tmp 4) (.tmp 20) rfl (w.heap.size + 1) z rfl rfl 27 z H3.out IZ.out rfl Z1.out ?_)
    | fail)
  intro w5 r5 off5 sz5
  have HB5 := Lib.hid (HB3.out.trans (off5.below (Nat.le_succ _) HB3.out.size))
  go_wp2
  exact bodyPost_ret (results_id9 Tryz.results24 _ _ (w.heap.size + 1) z (0, 0) _ rfl rfl r5 ZS.out) rfl ⟨rfl, HB5.out⟩
set_option maxHeartbeats 16000000 in
theorem PutP_any {w : World} {g : Nat} (k : Int) (v : Value) (b : List UInt8) (hv : Red w v b) (tab : Tab w) (he : (printO k b).2 = 0) (S0 : Nat → Prop) (hS0 : ∀ j, S0 j → j < w.heap.size) (er : Int) (R : World → World → Prop)
    (hK : ∀ u, Below w.heap.size w u → Calls Tryz.prog 50 #[.pointer (some ⟨g, 0, none⟩), .agg (arrD (sumO k b)), .agg #[.int .i64 k, v]] u fun e u' => e = .returned (.int .i64 er) ∧ R u u' ∧ Chg S0 u u') :
    Calls Tryz.prog 24 #[.pointer (some ⟨g, 0, none⟩), .agg #[.int .i64 k, v]] w fun e w' => e = .returned (.tuple #[.agg (arrD (pickI (er == 0) (sumO k b))), .int .i64 er]) ∧
      ∃ u u', Below w.heap.size w u ∧ R u u' ∧ Chg S0 u u' ∧ Chg (fun j => w.heap.size ≤ j ∧ j < u.heap.size) u' w' := by
  obtain ⟨a, c, rfl, hb, hno, hc, hmx⟩ := hv
  obtain ⟨n, hn⟩ : ∃ n, b.length = n := ⟨_, rfl⟩
  rw [hn] at hno hc hK ⊢
  obtain ⟨z, hz0, hzs, hzv, hzb, hz1⟩ := zId_any
  have b1 := (Below.refl w.heap.size w).alloc (Nat.le_refl _) (.cells #[.int .i64 k, .slice a n c] 52)
  have b2 := b1.alloc b1.size (.cells z 27)
  have hs1 : (w.alloc (.cells #[.int .i64 k, .slice a n c] 52)).heap.size = w.heap.size + 1 := by simp
  have h02 := heap_alloc_new (w.alloc (.cells #[.int .i64 k, .slice a n c] 52)) (.cells z 27)
  have h01 := (((Below.refl (w.alloc (.cells #[.int .i64 k, .slice a n c] 52)).heap.size (w.alloc (.cells #[.int .i64 k, .slice a n c] 52))).alloc (Nat.le_refl _) (.cells z 27)).block w.heap.size (by simp)).trans (heap_alloc_new w (.cells #[.int .i64 k, .slice a n c] 52))
  rw [hs1] at h02
  have H1 := Lib.hid h01; have H2 := Lib.hid h02; have B2 := Lib.hid b2
  have ZB := Lib.hid hzb; have Z1 := Lib.hid hz1; have Z0 := Lib.hid hz0; have ZS := Lib.hid hzs
  have IZ := Lib.hid (show (Tryz.prog.info? 27).map (·.size) = some z.size from by rw [hzs]; exact infoD_n)
  have CP := Lib.hid (fun u (hu : Below w.heap.size w u) => Print_any k a n c b u hn.symm (hb.keep hu) hno hc hmx (tab.keep hu))
  have CI := Lib.hid (fun u (hu : Below w.heap.size w u) => Id_is k a n c b u hn.symm (hb.keep hu) hno hc hmx (tab.keep hu))
  have sl : (sumO k b).length = 20 := by
    unfold sumO
    rw [if_pos he]
    simp [sumL, digest_len]
  obtain ⟨I, hI⟩ : ∃ I, arrD (sumO k b) = I := ⟨_, rfl⟩
  have HI := Lib.hid hI
  have IS := Lib.hid (show I.size = 20 by rw [← hI]; exact arrD_size _ sl)
  have IO := Lib.hid (show I.all (·.oneCell') = true by rw [← hI]; exact arrD_one _)
  have II := Lib.hid (show (Tryz.prog.info? 27).map (·.size) = some I.size from by rw [IS.out]; exact infoD_n)
  rw [he] at CP
  rw [hI] at hK
  have ei : idv (sumO k b) = .agg I := by rw [idv_arrD, hI]
  rw [ei] at CI
  have HK := Lib.hid hK; have HS := Lib.hid hS0
  clear b1 b2 h01 h02 hs1 hb hno hc hmx hz0 hzs hzb hz1 hn hI ei sl hK hS0 tab
  go_enter Tryz.func24, Tryz.ntmps24
  go_wp2_with fail
  refine (CP.out _ B2.out).mono ?_
  rintro e w3 ⟨v3, rfl, hr3, -, hb3⟩
  have H31 := Lib.hid ((hb3.block w.heap.size (lt_of_heap H1.out)).trans H1.out)
  have H32 := Lib.hid ((hb3.block (w.heap.size + 1) (lt_of_heap H2.out)).trans H2.out)
  have HB3 := Lib.hid (B2.out.trans (hb3.mono B2.out.size))
  clear hb3 CP hr3
  obtain ⟨y0, y1⟩ := cells2 H31.out
  go_wp2_with fail
  refine (CI.out _ HB3.out).mono ?_
  rintro e w4 ⟨rfl, hb4⟩
  have H41 := Lib.hid ((hb4.block w.heap.size (lt_of_heap H31.out)).trans H31.out)
  have H42 := Lib.hid ((hb4.block (w.heap.size + 1) (lt_of_heap H32.out)).trans H32.out)
  have HB4 := Lib.hid (HB3.out.trans (hb4.mono HB3.out.size))
  clear hb4 CI y0 y1
  go_wp2_with (first
    | (with_reducible refine wpList_store_all rfl 27 (.tmp 8) (.tmp 23) rfl w4.heap.size I rfl rfl 27 z (heap_alloc_new w4 _) II.out (IS.out.trans ZS.out.symm) IO.out ?_)
    | fail)
  intro w5 r5 off5 sz5
  have b45 : Below w4.heap.size w4 w5 := ((Below.refl w4.heap.size w4).alloc (Nat.le_refl _) (.cells z 27)).trans (off5.below (Nat.le_refl _) (by simp))
  have H51 := Lib.hid ((b45.block w.heap.size (lt_of_heap H41.out)).trans H41.out)
  have H52 := Lib.hid ((b45.block (w.heap.size + 1) (lt_of_heap H42.out)).trans H42.out)
  have HB5 := Lib.hid (HB4.out.trans (b45.mono HB4.out.size))
  have R5 := Lib.hid r5
  have L4 := Lib.hid HB4.out.size
  clear b45 r5 off5 sz5
  obtain ⟨y0, y1⟩ := cells2 H51.out
  go_wp2_with (first
    | (with_reducible refine wpList_load_all 27 (.tmp 8) rfl (by kernel_rfl) w4.heap.size I 27 (0, 0) rfl R5.out _ Tryz.underlying27 rfl II.out ?_)
    | fail)
  refine (HK.out _ HB5.out).mono ?_
  rintro e w6 ⟨rfl, hR, hC⟩
  have H62 := Lib.hid ((hC.block (w.heap.size + 1) (lt_of_heap H52.out) (fun hs => by have := HS.out _ hs; omega)).trans H52.out)
  have R6 := Lib.hid ((hC.block w4.heap.size (lt_of_heap R5.out) (fun hs => by have h8 := HS.out _ hs; have h9 := L4.out; omega)).trans R5.out)
  have HR := Lib.hid (And.intro hR hC)
  have L5 := Lib.hid (lt_of_heap H52.out)
  clear hR hC y0 y1
  by_cases her : er = 0
  · subst her
    go_wp2_with (first
      | (with_reducible refine wpList_load_all 27 (.tmp 8) rfl (by kernel_rfl) w4.heap.size I 27 (0, 0) rfl R6.out _ Tryz.underlying27 rfl II.out ?_)
      | (with_reducible refine wpList_store_all rfl 27 (.tmp 4) (.tmp 32) rfl (w.heap.size + 1) I rfl rfl 27 z H62.out II.out (IS.out.trans ZS.out.symm) IO.out ?_)
      | fail)
    intro w8 r8 off8 sz8
    have C8 := Lib.hid (show Chg (fun j => w.heap.size ≤ j ∧ j < w5.heap.size) w6 w8 from ⟨off8.os, off8.tape, off8.output, off8.size, fun j hj hn => off8.block j hj (fun e => hn (by rw [e]; exact ⟨Nat.le_succ _, L5.out⟩))⟩)
    clear off8 sz8
    go_wp2
    exact bodyPost_ret (results_id9 Tryz.results24 _ _ (w.heap.size + 1) I (0, 0) _ rfl rfl r8 IS.out) rfl ⟨by rw [← HI.out]; rfl, w5, w6, HB5.out, HR.out.1, HR.out.2, C8.out⟩
  · have hxb : (er != 0) = true := by simp [her]
    have hz : (er == 0) = false := by simp [her]
    have HZ := Lib.hid hz
    clear her hz
    go_wp2_with (first
      | (refine wpList_build_none rfl 27 rfl z ZB.out ?_)
      | (with_reducible refine wpList_store_all rfl 27 (.tmp 4) (.tmp 30) rfl (w.heap.size + 1) z rfl rfl 27 z H62.out IZ.out rfl Z1.out ?_)
      | fail)
    intro w8 r8 off8 sz8
    have C8 := Lib.hid (show Chg (fun j => w.heap.size ≤ j ∧ j < w5.heap.size) w6 w8 from ⟨off8.os, off8.tape, off8.output, off8.size, fun j hj hn => off8.block j hj (fun e => hn (by rw [e]; exact ⟨Nat.le_succ _, L5.out⟩))⟩)
    clear off8 sz8
    go_wp2
    exact bodyPost_ret (results_id9 Tryz.results24 _ _ (w.heap.size + 1) z (0, 0) _ rfl rfl r8 ZS.out) rfl ⟨by rw [HZ.out, Z0.out]; rfl, w5, w6, HB5.out, HR.out.1, HR.out.2, C8.out⟩
end Go.Proofs.YtnohonjjfjppoaaGreatDoor

/-
  The walk of a region that draws its order, S not asked behind the operations X: those wait for every load that leans on S.
-/
namespace Go.Proofs.YtnohonjjfjppoaaGreatDoor
open Go
section
variable {P : Program} {ops : Array Oper} {Q : Exit → Act → World → Prop} {md : Region.Mode} {S : World → Prop} {X : Nat → Bool}
/-- Whatever order is picked from here on; behind every operation that is none of X, S holds. -/
def wpAnyX (P : Program) (md : Region.Mode) (ops : Array Oper) (Q : Exit → Act → World → Prop) (S : World → Prop) (X : Nat → Bool) : Nat → Array Bool → Act → World → Prop
  | 0, listed, a, w => Region.ready md ops listed = [] ∧ Q .normal a w
  | fuel + 1, listed, a, w =>
    (Region.ready md ops listed = [] → Q .normal a w) ∧
    ∀ i ∈ Region.ready md ops listed, wpOp P ops Q i (fun a' w' => (S w' ∨ X i = true) ∧ wpAnyX P md ops Q S X fuel (listed.setIfInBounds i true) a' w') a w
theorem wpAny_ofX : ∀ (fuel : Nat) (listed : Array Bool) (a : Act) (w : World), wpAnyX P md ops Q S X fuel listed a w → wpAny P md ops Q fuel listed a w
  | 0, _, _, _, h => h
  | fuel + 1, _, _, _, h => ⟨h.1, fun i hi => wpOp_mono (fun a' w' h' => wpAny_ofX fuel _ a' w' h'.2) (h.2 i hi)⟩
/-- An operation that leans on S may be taken first, if all of X wait for it. -/
theorem wpAnyX_first {i : Nat} {oi : Oper} {v : Value} (hi : ops[i]? = some oi) (hsel : ∀ (j : Nat) (o : Oper) cs b, ops[j]? = some o → o.op ≠ .select cs b)
    (hQ : ∀ c a w, Q (.panic c) (a.put oi.dst v) w → Q (.panic c) a w) (hX : ∀ j oj, ops[j]? = some oj → X j = true → ∃ e ∈ oj.after, Region.binds md e = true ∧ e.on = i) :
    ∀ (fuel : Nat) (listed : Array Bool) (a : Act) (w : World),
      (∀ j oj, ops[j]? = some oj → j ≠ i → listed.getD j true = false → (∀ e ∈ oj.after, Region.binds md e = true → e.on ≠ i) → oi.apart ops oj = true) →
      i ∈ Region.ready md ops listed → YieldsIf P ops S oi v a → S w →
      wpAnyX P md ops Q S X fuel (listed.setIfInBounds i true) (a.put oi.dst v) w → wpAnyX P md ops Q S X (fuel + 1) listed a w := by
  intro fuel
  induction fuel with
  | zero =>
    intro listed a w _ hr hy hS H
    refine ⟨fun h => (by rw [h] at hr; cases hr), fun j hj => ?_⟩
    by_cases hji : j = i
    · subst hji; exact hy.wpOp hi hS ⟨.inl hS, H⟩
    · have := ready_mono hj hji
      rw [H.1] at this
      cases this
  | succ fuel ih =>
    intro listed a w hfree hr hy hS H
    refine ⟨fun h => (by rw [h] at hr; cases hr), fun j hj => ?_⟩
    by_cases hji : j = i
    · subst hji; exact hy.wpOp hi hS ⟨.inl hS, H⟩
    · have h1 := H.2 j (ready_mono hj hji)
      obtain ⟨hjun, oj, hoj, hall⟩ := mem_ready.1 hj
      have hnot : ∀ e ∈ oj.after, Region.binds md e = true → e.on ≠ i := fun e he hb heq => by
        have h1 := hall e he hb
        have h0 := (mem_ready.1 hr).1
        rw [heq] at h1
        rcases Nat.lt_or_ge i listed.size with h' | h'
        · simp [h'] at h0 h1; rw [h0] at h1; cases h1
        · simp [Array.getElem?_eq_none h'] at h1
      have hXj : X j = true → False := fun hx => by
        obtain ⟨e, he, hb, ho⟩ := hX j oj hoj hx
        exact hnot e he hb ho
      have h2 := wpOp_putIf hoj (hfree j oj hoj hji hjun hnot) (fun cs b => hsel i oi cs b hi) (fun cs b => hsel j oj cs b hoj) hQ hy h1
      have hfree' : ∀ k ok, ops[k]? = some ok → k ≠ i → (listed.setIfInBounds j true).getD k true = false →
          (∀ e ∈ ok.after, Region.binds md e = true → e.on ≠ i) → oi.apart ops ok = true := fun k ok hk hki hun hno => by
        refine hfree k ok hk hki ?_ hno
        by_cases hjk : j = k
        · subst hjk; exact hjun
        · rw [getD_set_ne true hjk] at hun; exact hun
      refine wpOp_mono (fun a' w' h3 => ?_) h2
      have hS' : S w' := h3.2.1.resolve_right hXj
      refine ⟨.inl hS', ih (listed.setIfInBounds j true) a' w' hfree' (ready_mono hr (Ne.symm hji)) h3.1 hS' ?_⟩
      rw [Array.setIfInBounds_comm _ _ hji]
      exact h3.2.2
/-- One of X that yields its value in every world may be taken first. -/
theorem wpAnyX_firstP {i : Nat} {oi : Oper} {v : Value} (hi : ops[i]? = some oi) (hsel : ∀ (j : Nat) (o : Oper) cs b, ops[j]? = some o → o.op ≠ .select cs b)
    (hQ : ∀ c a w, Q (.panic c) (a.put oi.dst v) w → Q (.panic c) a w) (hXi : X i = true) :
    ∀ (fuel : Nat) (listed : Array Bool) (a : Act) (w : World),
      (∀ j oj, ops[j]? = some oj → j ≠ i → listed.getD j true = false → (∀ e ∈ oj.after, Region.binds md e = true → e.on ≠ i) → oi.apart ops oj = true) →
      i ∈ Region.ready md ops listed → YieldsIf P ops (fun _ => True) oi v a →
      wpAnyX P md ops Q S X fuel (listed.setIfInBounds i true) (a.put oi.dst v) w → wpAnyX P md ops Q S X (fuel + 1) listed a w := by
  intro fuel
  induction fuel with
  | zero =>
    intro listed a w _ hr hy H
    refine ⟨fun h => (by rw [h] at hr; cases hr), fun j hj => ?_⟩
    by_cases hji : j = i
    · subst hji; exact hy.wpOp hi trivial ⟨.inr hXi, H⟩
    · have := ready_mono hj hji
      rw [H.1] at this
      cases this
  | succ fuel ih =>
    intro listed a w hfree hr hy H
    refine ⟨fun h => (by rw [h] at hr; cases hr), fun j hj => ?_⟩
    by_cases hji : j = i
    · subst hji; exact hy.wpOp hi trivial ⟨.inr hXi, H⟩
    · have h1 := H.2 j (ready_mono hj hji)
      obtain ⟨hjun, oj, hoj, hall⟩ := mem_ready.1 hj
      have hnot : ∀ e ∈ oj.after, Region.binds md e = true → e.on ≠ i := fun e he hb heq => by
        have h1 := hall e he hb
        have h0 := (mem_ready.1 hr).1
        rw [heq] at h1
        rcases Nat.lt_or_ge i listed.size with h' | h'
        · simp [h'] at h0 h1; rw [h0] at h1; cases h1
        · simp [Array.getElem?_eq_none h'] at h1
      have h2 := wpOp_putIf hoj (hfree j oj hoj hji hjun hnot) (fun cs b => hsel i oi cs b hi) (fun cs b => hsel j oj cs b hoj) hQ hy h1
      have hfree' : ∀ k ok, ops[k]? = some ok → k ≠ i → (listed.setIfInBounds j true).getD k true = false →
          (∀ e ∈ ok.after, Region.binds md e = true → e.on ≠ i) → oi.apart ops ok = true := fun k ok hk hki hun hno => by
        refine hfree k ok hk hki ?_ hno
        by_cases hjk : j = k
        · subst hjk; exact hjun
        · rw [getD_set_ne true hjk] at hun; exact hun
      refine wpOp_mono (fun a' w' h3 => ?_) h2
      refine ⟨h3.2.1, ih (listed.setIfInBounds j true) a' w' hfree' (ready_mono hr (Ne.symm hji)) h3.1 ?_⟩
      rw [Array.setIfInBounds_comm _ _ hji]
      exact h3.2.2
/-- All of X wait for i, as a Bool. -/
def waitsX (md : Region.Mode) (ops : Array Oper) (X : Nat → Bool) (i : Nat) : Bool :=
  (List.range ops.size).all fun j => !X j || (match ops[j]? with | some oj => oj.after.any (fun e => Region.binds md e && e.on == i) | none => true)
theorem waitsX_spec {i : Nat} (h : waitsX md ops X i = true) : ∀ j oj, ops[j]? = some oj → X j = true → ∃ e ∈ oj.after, Region.binds md e = true ∧ e.on = i := by
  intro j oj hoj hx
  have hj : j < ops.size := (Array.getElem?_eq_some_iff.1 hoj).1
  have := List.all_eq_true.1 h j (List.mem_range.2 hj)
  rw [hx, hoj] at this
  simp only [Bool.not_true, Bool.false_or] at this
  obtain ⟨k, hk, hp⟩ := Array.any_eq_true.1 this
  simp only [Bool.and_eq_true, beq_iff_eq] at hp
  exact ⟨_, Array.getElem_mem hk, hp.1, hp.2⟩
theorem wpAnyX_take {i : Nat} {oi : Oper} {v : Value} {fuel : Nat} {listed : Array Bool} {a : Act} {w : World} (hi : ops[i]? = some oi)
    (hs : Region.noSelect ops = true) (hf : Region.free md ops listed i = true) (hr : (Region.ready md ops listed).contains i = true) (hx : waitsX md ops X i = true)
    (hQ : ∀ c a w, Q (.panic c) (a.put oi.dst v) w → Q (.panic c) a w) (hy : YieldsIf P ops S oi v a) (hS : S w)
    (h : wpAnyX P md ops Q S X fuel (listed.setIfInBounds i true) (a.put oi.dst v) w) : wpAnyX P md ops Q S X (fuel + 1) listed a w :=
  wpAnyX_first hi (Region.noSelect_spec hs) hQ (waitsX_spec hx) fuel listed a w (Region.free_spec hi hf) (by simpa using hr) hy hS h
theorem wpAnyX_takeP {i : Nat} {oi : Oper} {v : Value} {fuel : Nat} {listed : Array Bool} {a : Act} {w : World} (hi : ops[i]? = some oi)
    (hs : Region.noSelect ops = true) (hf : Region.free md ops listed i = true) (hr : (Region.ready md ops listed).contains i = true) (hx : X i = true)
    (hQ : ∀ c a w, Q (.panic c) (a.put oi.dst v) w → Q (.panic c) a w) (hy : YieldsIf P ops (fun _ => True) oi v a)
    (h : wpAnyX P md ops Q S X fuel (listed.setIfInBounds i true) (a.put oi.dst v) w) : wpAnyX P md ops Q S X (fuel + 1) listed a w :=
  wpAnyX_firstP hi (Region.noSelect_spec hs) hQ hx fuel listed a w (Region.free_spec hi hf) (by simpa using hr) hy h
/-- Each of the operations comes up next. -/
def AllReadyX (P : Program) (md : Region.Mode) (ops : Array Oper) (Q : Exit → Act → World → Prop) (S : World → Prop) (X : Nat → Bool) (fuel : Nat) (listed : Array Bool) (a : Act) (w : World) (rs : List Nat) : Prop :=
  ∀ i ∈ rs, wpOp P ops Q i (fun a' w' => (S w' ∨ X i = true) ∧ wpAnyX P md ops Q S X fuel (listed.setIfInBounds i true) a' w') a w
theorem AllReadyX.nil {fuel : Nat} {listed : Array Bool} {a : Act} {w : World} : AllReadyX P md ops Q S X fuel listed a w [] := fun _ h => by cases h
theorem AllReadyX.cons {fuel : Nat} {listed : Array Bool} {a : Act} {w : World} {i : Nat} {o : Oper} {rs : List Nat} (ho : ops[i]? = some o)
    (h : ∀ K' : Act → World → Prop, Shut (∀ a w, (S w ∨ X i = true) → ((S w ∨ X i = true) → wpAnyX P md ops Q S X fuel (listed.setIfInBounds i true) a w) → K' a w) → if Region.wanted o (yielded ops a.tmps) = true then Oper.wp P o a w K' Q else K' (a.put o.dst undef) w)
    (hs : AllReadyX P md ops Q S X fuel listed a w rs) : AllReadyX P md ops Q S X fuel listed a w (i :: rs) := fun j hj => by
  rcases List.mem_cons.1 hj with rfl | hj
  · exact wpOp_step ho (fun K' hK => h K' (fun a w hS hW => hK a w ⟨hS, hW hS⟩))
  · exact hs j hj
theorem wpAnyX_ready {rs : List Nat} {fuel : Nat} {listed : Array Bool} {a : Act} {w : World} (hr : Region.ready md ops listed = rs) (hne : rs ≠ [])
    (h : AllReadyX P md ops Q S X fuel listed a w rs) : wpAnyX P md ops Q S X (fuel + 1) listed a w := ⟨fun h0 => absurd (hr ▸ h0) hne, hr ▸ h⟩
theorem wpAnyX_done {listed : Array Bool} {a : Act} {w : World} (hr : Region.ready md ops listed = []) (h : Q .normal a w) : ∀ fuel, wpAnyX P md ops Q S X fuel listed a w
  | 0 => ⟨hr, h⟩
  | _ + 1 => ⟨fun _ => h, by rw [hr]; simp⟩
theorem wp_regionX {id : Nat} {a : Act} {w : World} (X : Nat → Bool) (hm : P.follows .mixedOrders = true) (hS : S w.drew)
    (h : S w.drew → wpAnyX P .any ops Q S X ops.size (Array.replicate ops.size false) a w.drew) : (Code.region id ops true).wp P Q a w :=
  wp_region_any hm (wpAny_ofX _ _ _ _ (h hS))
end
end Go.Proofs.YtnohonjjfjppoaaGreatDoor

/-
  Layer 10, the program: what is kept under an id (find).
-/
namespace Go.Proofs.YtnohonjjfjppoaaGreatDoor
set_option maxRecDepth 100000
open Go.RowKit Go.Maps
set_option linter.unusedVariables false
set_option linter.unusedSimpArgs false
theorem zThing (w : World) : (zeroValue 100).run Tryz.prog w = .ok .nilIface w := by kernel_rfl
/-- What is there, as a look-up tells it. -/
theorem StoreP.look_some {S : Nat → Prop} {w : World} {g : Nat} {M : List Cel} (h : StoreP S w g M) {i : List UInt8} {x : Cel} (hx : getM M i = some x) :
    ∃ mb v, (∀ u, Below w.heap.size w u → u.cell? ⟨g, 0, none⟩ = some (.map mb) ∧ (Instr.lookup 64 (.map mb) (.agg (arrD i)) true).run Tryz.prog u = .ok (.tuple #[thingP x.kind v, .bool true]) u) ∧
      RedS (fun k => S k ∧ k ≠ g ∧ mb ≠ some k) w v x.body ∧ kindO x.kind ∧ ∃ a n c, v = .slice a n c := by
  obtain ⟨hg, E, mb, hE, hblk, hent, hnone, hmap⟩ := h
  obtain ⟨hxM, rfl⟩ := getM_some hx
  rw [← hE] at hxM
  obtain ⟨e, he, rfl⟩ := List.mem_map.1 hxM
  cases mb with
  | none => rw [hnone rfl] at he; cases he
  | some b =>
    obtain ⟨hSb, hbg, hM⟩ := hmap b rfl
    refine ⟨some b, e.v, fun u hu => ⟨?_, ?_⟩, (hent e he).2.2, (hent e he).2.1, (hent e he).1.2⟩
    · rw [Lib.cell_of_heap ((hu.block g (lt_of_heap hblk)).trans hblk)]
      rfl
    · exact (hM.keep (hu.block b hM.lt)).look_some idKeyed Tryz.underlying64 (celP_keys (fun e he => (hent e he).1)) (List.mem_map.2 ⟨e, he, rfl⟩)
theorem StoreP.look_none {S : Nat → Prop} {w : World} {g : Nat} {M : List Cel} (h : StoreP S w g M) {i : List UInt8} (hi : i.length = 20) (hx : getM M i = none) :
    ∃ mb, ∀ u, Below w.heap.size w u → u.cell? ⟨g, 0, none⟩ = some (.map mb) ∧ (Instr.lookup 64 (.map mb) (.agg (arrD i)) true).run Tryz.prog u = .ok (.tuple #[.nilIface, .bool false]) u := by
  obtain ⟨hg, E, mb, hE, hblk, hent, hnone, hmap⟩ := h
  obtain ⟨l, hl⟩ := key_id i hi
  refine ⟨mb, fun u hu => ⟨?_, ?_⟩⟩
  · rw [Lib.cell_of_heap ((hu.block g (lt_of_heap hblk)).trans hblk)]
    rfl
  · cases mb with
    | none => exact look_nilMap idKeyed Tryz.underlying64 (zThing u) hl
    | some b =>
      obtain ⟨hSb, hbg, hM⟩ := hmap b rfl
      refine (hM.keep (hu.block b hM.lt)).look_none idKeyed Tryz.underlying64 (zThing u) (celP_keys (fun e he => (hent e he).1)) hl (fun m hm he => ?_)
      obtain ⟨e, hee, rfl⟩ := List.mem_map.1 hm
      exact getM_none hx e.c (by rw [← hE]; exact List.mem_map.2 ⟨e, hee, rfl⟩) (arrD_inj (Value.agg.inj he))
set_option maxHeartbeats 16000000 in
/-- A look-up's two parts, whatever they are. -/
theorem findP_any {w : World} {g : Nat} {mb : Option Nat} {r : Value} {b : Bool} (i : List UInt8) (hi : i.length = 20)
    (hl : ∀ u, Below w.heap.size w u → u.cell? ⟨g, 0, none⟩ = some (.map mb) ∧ (Instr.lookup 64 (.map mb) (.agg (arrD i)) true).run Tryz.prog u = .ok (.tuple #[r, .bool b]) u) :
    Calls Tryz.prog 65 #[.pointer (some ⟨g, 0, none⟩), .agg (arrD i)] w fun e w' => e = .returned (.tuple #[bif b then r else .nilIface, .int .i64 (bif b then 0 else 6)]) ∧ Below w.heap.size w w' := by
  obtain ⟨A1, hA1⟩ : ∃ A, arrD i = A := ⟨_, rfl⟩
  have sA : A1.size = 20 := by rw [← hA1]; exact arrD_size i hi
  have b1 : Below w.heap.size w (w.alloc (.cells A1 27)) := (Below.refl w.heap.size w).alloc (Nat.le_refl _) (.cells A1 27)
  have h0 := heap_alloc_new w (.cells A1 27)
  have B1 := Lib.hid b1
  obtain ⟨w1, hw1⟩ : ∃ w1, w.alloc (.cells A1 27) = w1 := ⟨_, rfl⟩
  rw [hw1] at B1 h0
  have HL := Lib.hid (fun u (hu : Below w1.heap.size w1 u) => hl u (B1.out.trans (hu.mono B1.out.size)))
  have RA := Lib.hid (fun u (hu : Below w1.heap.size w1 u) => (row_arrD ((hu.block w.heap.size (lt_of_heap h0)).trans h0)))
  have LA := Lib.hid (show (Tryz.prog.info? 27).map (·.size) = some A1.toList.length from by rw [Array.length_toList, sA]; exact infoD_n)
  clear hl b1 sA
  rw [hA1] at HL ⊢
  clear hA1
  go_enter Tryz.func65, Tryz.ntmps65
  go_wp2_with fail
  refine wp_region_held_drew (S := fun u => Below w1.heap.size w1 u) (by kernel_rfl) (Below.refl _ _).drew (fun hHeld => ?_)
  refine wpAnyH_take (i := 0) (v := ?pv0) rfl (by kernel_rfl) (by kernel_rfl) (by kernel_rfl) (fun _ _ _ h => h) (Or.inl ⟨by kernel_rfl, ?py0⟩) hHeld ?_
  case py0 => intro u hu; go_simp; try with_reducible rfl
  try simp only [Act.put, List.setIfInBounds_toArray, List.set_cons_zero, List.set_cons_succ]
  refine wpAnyH_take (i := 1) (v := ?pv1) rfl (by kernel_rfl) (by kernel_rfl) (by kernel_rfl) (fun _ _ _ h => h) (Or.inl ⟨by kernel_rfl, ?py1⟩) hHeld ?_
  case py1 => intro u hu; go_simp; try with_reducible rfl
  try simp only [Act.put, List.setIfInBounds_toArray, List.set_cons_zero, List.set_cons_succ]
  refine wpAnyH_take (i := 2) (v := ?pv2) rfl (by kernel_rfl) (by kernel_rfl) (by kernel_rfl) (fun _ _ _ h => h) (Or.inl ⟨by kernel_rfl, ?py2⟩) hHeld ?_
  case py2 => intro u hu; go_simp; try with_reducible rfl
  try simp only [Act.put, List.setIfInBounds_toArray, List.set_cons_zero, List.set_cons_succ]
  refine wpAnyH_take (i := 3) (v := .map mb) rfl (by kernel_rfl) (by kernel_rfl) (by kernel_rfl) (fun _ _ _ h => h) (Or.inl ⟨by kernel_rfl, ?py3x⟩) hHeld ?_
  case py3x => intro u hu; have q := (HL.out u hu).1; go_simp
  try simp only [Act.put, List.setIfInBounds_toArray, List.set_cons_zero, List.set_cons_succ]
  refine wpAnyH_take (i := 4) rfl (by kernel_rfl) (by kernel_rfl) (by kernel_rfl) (fun _ _ _ h => h) (yieldsIf_load_mid (by kernel_rfl) 27 (.tmp 3) (by kernel_rfl) w.heap.size 0 (by kernel_rfl) A1.toList _ (fun u hu => RA.out u hu) Tryz.underlying27 rfl LA.out) hHeld ?_
  try simp only [Act.put, List.setIfInBounds_toArray, List.set_cons_zero, List.set_cons_succ]
  refine wpAnyH_take (i := 5) (v := .tuple #[r, .bool b]) rfl (by kernel_rfl) (by kernel_rfl) (by kernel_rfl) (fun _ _ _ h => h) (Or.inl ⟨by kernel_rfl, ?py5x⟩) hHeld ?_
  case py5x => intro u hu; have q := (HL.out u hu).2; go_simp
  try simp only [Act.put, List.setIfInBounds_toArray, List.set_cons_zero, List.set_cons_succ]
  refine wpAnyH_take (i := 6) (v := ?pv6) rfl (by kernel_rfl) (by kernel_rfl) (by kernel_rfl) (fun _ _ _ h => h) (Or.inl ⟨by kernel_rfl, ?py6⟩) hHeld ?_
  case py6 => intro u hu; go_simp; try with_reducible rfl
  try simp only [Act.put, List.setIfInBounds_toArray, List.set_cons_zero, List.set_cons_succ]
  refine wpAnyH_take (i := 7) (v := ?pv7) rfl (by kernel_rfl) (by kernel_rfl) (by kernel_rfl) (fun _ _ _ h => h) (Or.inl ⟨by kernel_rfl, ?py7⟩) hHeld ?_
  case py7 => intro u hu; go_simp; try with_reducible rfl
  try simp only [Act.put, List.setIfInBounds_toArray, List.set_cons_zero, List.set_cons_succ]
  refine wpAnyH_take (i := 8) (v := ?pv8) rfl (by kernel_rfl) (by kernel_rfl) (by kernel_rfl) (fun _ _ _ h => h) (Or.inl ⟨by kernel_rfl, ?py8⟩) hHeld ?_
  case py8 => intro u hu; go_simp; try with_reducible rfl
  try simp only [Act.put, List.setIfInBounds_toArray, List.set_cons_zero, List.set_cons_succ]
  refine wpAnyH_take (i := 9) (v := ?pv9) rfl (by kernel_rfl) (by kernel_rfl) (by kernel_rfl) (fun _ _ _ h => h) (Or.inl ⟨by kernel_rfl, ?py9⟩) hHeld ?_
  case py9 => intro u hu; go_simp; try with_reducible rfl
  try simp only [Act.put, List.setIfInBounds_toArray, List.set_cons_zero, List.set_cons_succ]
  refine wpAnyH_take (i := 10) (v := ?pv10) rfl (by kernel_rfl) (by kernel_rfl) (by kernel_rfl) (fun _ _ _ h => h) (Or.inl ⟨by kernel_rfl, ?py10⟩) hHeld ?_
  case py10 => intro u hu; go_simp; try with_reducible rfl
  try simp only [Act.put, List.getElem_toArray, List.getElem_cons_succ, List.getElem_cons_zero, List.setIfInBounds_toArray, List.set_cons_zero, List.set_cons_succ]
  refine wpAnyH_done (by kernel_rfl) ?_ _
  have HB := Lib.hid (B1.out.trans (hHeld.mono B1.out.size))
  clear hHeld
  cases b with
  | true =>
    go_wp2
    go_ret2
    exact ⟨rfl, HB.out⟩
  | false =>
    go_wp2
    go_ret2
    exact ⟨rfl, HB.out⟩
end Go.Proofs.YtnohonjjfjppoaaGreatDoor

/-
  Layer 10, the program: whether a thing is an object (same).
-/
namespace Go.Proofs.YtnohonjjfjppoaaGreatDoor
set_option maxRecDepth 100000
open Go.RowKit
set_option linter.unusedVariables false
set_option linter.unusedSimpArgs false
set_option maxHeartbeats 16000000 in
theorem sameP_is (k1 k2 : Int) (hk : kindO k1) (v1 v2 : Value) (l1 l2 : List UInt8) (w : World) (h1 : Red w v1 l1) (h2 : Red w v2 l2) :
    Calls Tryz.prog 85 #[thingP k1 v1, .agg #[.int .i64 k2, v2]] w fun e w' => e = .returned (.bool (k1 == k2 && l1 == l2)) ∧ Below w.heap.size w w' := by
  obtain ⟨a1, c1, rfl, hb1, hn1, hc1, hm1⟩ := h1
  obtain ⟨a2, c2, rfl, hb2, hn2, hc2, hm2⟩ := h2
  obtain ⟨T, hT, hth⟩ := kind_ty hk
  have CK := Lib.hid (fun u => hth (.slice a1 l1.length c1) ▸ kind_is k1 hk a1 l1.length c1 u)
  have m := m_bytes T hT (.slice a1 l1.length c1)
  have CB := Lib.hid (fun u => obytes_is a1 l1.length c1 u)
  have b1 := (Below.refl w.heap.size w).alloc (Nat.le_refl _) (.cells #[.int .i64 k2, .slice a2 l2.length c2] 52)
  have h0 := heap_alloc_new w (.cells #[.int .i64 k2, .slice a2 l2.length c2] 52)
  have CE := Lib.hid (fun u (hu : Below w.heap.size w u) => bEqual_any a1 a2 _ _ c1 c2 l1 l2 u (hb1.keep hu) (hb2.keep hu) rfl rfl)
  have B1 := Lib.hid b1
  rw [hth]
  obtain ⟨n1, e1⟩ : ∃ n, l1.length = n := ⟨_, rfl⟩
  obtain ⟨n2, e2⟩ : ∃ n, l2.length = n := ⟨_, rfl⟩
  rw [e1] at CK CB m CE
  rw [e2] at h0 CE B1
  rw [e1, e2]
  clear b1 hb1 hb2 hn1 hn2 hc1 hc2 hm1 hm2 e1 e2 hk hT hth
  obtain ⟨w1, hw1⟩ : ∃ w1, w.alloc (.cells #[.int .i64 k2, .slice a2 n2 c2] 52) = w1 := ⟨_, rfl⟩
  rw [hw1] at B1 h0
  have P0 := Lib.hid (fun u (hu : Below w1.heap.size w1 u) => (by
    rw [Lib.cell_of_heap ((hu.block w.heap.size (lt_of_heap h0)).trans h0)]
    rfl : u.cell? ⟨w.heap.size, 0, none⟩ = some (.int .i64 k2)))
  have P1 := Lib.hid (fun u (hu : Below w1.heap.size w1 u) => (by
    rw [Lib.cell_of_heap ((hu.block w.heap.size (lt_of_heap h0)).trans h0)]
    rfl : u.cell? ⟨w.heap.size, 1, none⟩ = some (.slice a2 n2 c2)))
  clear h0
  by_cases hkk : k1 = k2
  · subst hkk
    have hr : (k1 == k1 && l1 == l2) = (l1 == l2) := by simp
    rw [hr]
    obtain ⟨r, hr2⟩ : ∃ r, (l1 == l2) = r := ⟨_, rfl⟩
    rw [hr2] at CE ⊢
    clear hr hr2
    go_enter Tryz.func85, Tryz.ntmps85
    go_wp2_with fail
    refine wp_region_held_drew (S := fun u => Below w1.heap.size w1 u) (by kernel_rfl) (Below.refl _ _).drew (fun hHeld => ?_)
    refine wpAnyH_take (i := 0) (v := ?pv0) rfl (by kernel_rfl) (by kernel_rfl) (by kernel_rfl) (fun _ _ _ h => h) (Or.inl ⟨by kernel_rfl, ?py0⟩) hHeld ?_
    case py0 => intro u hu; go_simp; try with_reducible rfl
    try simp only [Act.put, List.setIfInBounds_toArray, List.set_cons_zero, List.set_cons_succ]
    refine wpAnyH_take (i := 2) (v := ?pv2) rfl (by kernel_rfl) (by kernel_rfl) (by kernel_rfl) (fun _ _ _ h => h) (Or.inl ⟨by kernel_rfl, ?py2⟩) hHeld ?_
    case py2 => intro u hu; go_simp; try with_reducible rfl
    try simp only [Act.put, List.setIfInBounds_toArray, List.set_cons_zero, List.set_cons_succ]
    refine wpAnyH_take (i := 3) (v := .int .i64 k1) rfl (by kernel_rfl) (by kernel_rfl) (by kernel_rfl) (fun _ _ _ h => h) (Or.inl ⟨by kernel_rfl, ?py3x⟩) hHeld ?_
    case py3x => intro u hu; have q := P0.out u hu; go_simp
    try simp only [Act.put, List.setIfInBounds_toArray, List.set_cons_zero, List.set_cons_succ]
    refine wpAnyH_ready (rs := [1]) (by kernel_rfl) (by simp) ?_
    refine AllReadyH.cons rfl (fun K hK => ?_) AllReadyH.nil
    go_simp
    refine (CK.out _).mono ?_
    rintro e u1 ⟨rfl, hI⟩
    have hH := hHeld.trans (hI.mono hHeld.size)
    clear hHeld hI
    refine hK.out _ _ hH (fun hHeld => ?_)
    clear hK K
    try simp only [Act.put, List.setIfInBounds_toArray, List.set_cons_zero, List.set_cons_succ]
    refine wpAnyH_take (i := 4) (v := ?pv4) rfl (by kernel_rfl) (by kernel_rfl) (by kernel_rfl) (fun _ _ _ h => h) (Or.inl ⟨by kernel_rfl, ?py4⟩) hHeld ?_
    case py4 => intro u hu; go_simp; try with_reducible rfl
    try simp only [Act.put, List.setIfInBounds_toArray, List.set_cons_zero, List.set_cons_succ]
    refine wpAnyH_take (i := 5) (v := ?pv5) rfl (by kernel_rfl) (by kernel_rfl) (by kernel_rfl) (fun _ _ _ h => h) (Or.inl ⟨by kernel_rfl, ?py5⟩) hHeld ?_
    case py5 => intro u hu; go_simp; try with_reducible rfl
    try simp only [Act.put, List.setIfInBounds_toArray, List.set_cons_zero, List.set_cons_succ]
    refine wpAnyH_take (i := 6) (v := ?pv6) rfl (by kernel_rfl) (by kernel_rfl) (by kernel_rfl) (fun _ _ _ h => h) (Or.inl ⟨by kernel_rfl, ?py6⟩) hHeld ?_
    case py6 => intro u hu; go_simp; try with_reducible rfl
    try simp only [Act.put, List.setIfInBounds_toArray, List.set_cons_zero, List.set_cons_succ]
    refine wpAnyH_take (i := 8) (v := ?pv8) rfl (by kernel_rfl) (by kernel_rfl) (by kernel_rfl) (fun _ _ _ h => h) (Or.inl ⟨by kernel_rfl, ?py8⟩) hHeld ?_
    case py8 => intro u hu; go_simp; try with_reducible rfl
    try simp only [Act.put, List.setIfInBounds_toArray, List.set_cons_zero, List.set_cons_succ]
    refine wpAnyH_take (i := 9) (v := .slice a2 n2 c2) rfl (by kernel_rfl) (by kernel_rfl) (by kernel_rfl) (fun _ _ _ h => h) (Or.inl ⟨by kernel_rfl, ?py9x⟩) hHeld ?_
    case py9x => intro u hu; have q := P1.out u hu; go_simp
    try simp only [Act.put, List.setIfInBounds_toArray, List.set_cons_zero, List.set_cons_succ]
    refine wpAnyH_ready (rs := [7]) (by kernel_rfl) (by simp) ?_
    refine AllReadyH.cons rfl (fun K hK => ?_) AllReadyH.nil
    go_simp
    refine (CB.out _).mono ?_
    rintro e u1 ⟨rfl, rfl⟩
    have hH := hHeld
    clear hHeld
    refine hK.out _ _ hH (fun hHeld => ?_)
    clear hK K
    try simp only [Act.put, List.setIfInBounds_toArray, List.set_cons_zero, List.set_cons_succ]
    refine wpAnyH_ready (rs := [10]) (by kernel_rfl) (by simp) ?_
    refine AllReadyH.cons rfl (fun K hK => ?_) AllReadyH.nil
    go_simp
    refine (CE.out _ (B1.out.trans (hHeld.mono B1.out.size))).mono ?_
    rintro e u1 ⟨rfl, rfl⟩
    have hH := hHeld
    clear hHeld
    refine hK.out _ _ hH (fun hHeld => ?_)
    clear hK K
    try simp only [Act.put, List.setIfInBounds_toArray, List.set_cons_zero, List.set_cons_succ]
    refine wpAnyH_take (i := 11) (v := ?pv11) rfl (by kernel_rfl) (by kernel_rfl) (by kernel_rfl) (fun _ _ _ h => h) (Or.inl ⟨by kernel_rfl, ?py11⟩) hHeld ?_
    case py11 => intro u hu; go_simp; try with_reducible rfl
    try simp only [Act.put, List.setIfInBounds_toArray, List.set_cons_zero, List.set_cons_succ]
    refine wpAnyH_take (i := 12) (v := ?pv12) rfl (by kernel_rfl) (by kernel_rfl) (by kernel_rfl) (fun _ _ _ h => h) (Or.inl ⟨by kernel_rfl, ?py12⟩) hHeld ?_
    case py12 => intro u hu; go_simp; try with_reducible rfl
    try simp only [Act.put, List.getElem_toArray, List.getElem_cons_succ, List.getElem_cons_zero, List.setIfInBounds_toArray, List.set_cons_zero, List.set_cons_succ]
    refine wpAnyH_done (by kernel_rfl) ?_ _
    have HB := Lib.hid (B1.out.trans (hHeld.mono B1.out.size))
    clear hHeld
    go_wp2
    go_ret
    exact ⟨rfl, HB.out⟩
  · have hr : (k1 == k2 && l1 == l2) = false := by simp [hkk]
    have hf : (k1 == k2) = false := beq_false_of_ne hkk
    rw [hr]
    clear hr hkk CE CB m
    go_enter Tryz.func85, Tryz.ntmps85
    go_wp2_with fail
    refine wp_region_held_drew (S := fun u => Below w1.heap.size w1 u) (by kernel_rfl) (Below.refl _ _).drew (fun hHeld => ?_)
    refine wpAnyH_take (i := 0) (v := ?fv0) rfl (by kernel_rfl) (by kernel_rfl) (by kernel_rfl) (fun _ _ _ h => h) (Or.inl ⟨by kernel_rfl, ?fy0⟩) hHeld ?_
    case fy0 => intro u hu; go_simp; try with_reducible rfl
    try simp only [Act.put, List.setIfInBounds_toArray, List.set_cons_zero, List.set_cons_succ]
    refine wpAnyH_take (i := 2) (v := ?fv2) rfl (by kernel_rfl) (by kernel_rfl) (by kernel_rfl) (fun _ _ _ h => h) (Or.inl ⟨by kernel_rfl, ?fy2⟩) hHeld ?_
    case fy2 => intro u hu; go_simp; try with_reducible rfl
    try simp only [Act.put, List.setIfInBounds_toArray, List.set_cons_zero, List.set_cons_succ]
    refine wpAnyH_take (i := 3) (v := .int .i64 k2) rfl (by kernel_rfl) (by kernel_rfl) (by kernel_rfl) (fun _ _ _ h => h) (Or.inl ⟨by kernel_rfl, ?fy3x⟩) hHeld ?_
    case fy3x => intro u hu; have q := P0.out u hu; go_simp
    try simp only [Act.put, List.setIfInBounds_toArray, List.set_cons_zero, List.set_cons_succ]
    refine wpAnyH_ready (rs := [1]) (by kernel_rfl) (by simp) ?_
    refine AllReadyH.cons rfl (fun K hK => ?_) AllReadyH.nil
    go_simp
    refine (CK.out _).mono ?_
    rintro e u1 ⟨rfl, hI⟩
    have hH := hHeld.trans (hI.mono hHeld.size)
    clear hHeld hI
    refine hK.out _ _ hH (fun hHeld => ?_)
    clear hK K
    try simp only [Act.put, List.setIfInBounds_toArray, List.set_cons_zero, List.set_cons_succ]
    refine wpAnyH_take (i := 4) (v := ?fv4) rfl (by kernel_rfl) (by kernel_rfl) (by kernel_rfl) (fun _ _ _ h => h) (Or.inl ⟨by kernel_rfl, ?fy4⟩) hHeld ?_
    case fy4 => intro u hu; go_simp; try with_reducible rfl
    try simp only [Act.put, List.setIfInBounds_toArray, List.set_cons_zero, List.set_cons_succ]
    refine wpAnyH_take (i := 5) (v := ?fv5) rfl (by kernel_rfl) (by kernel_rfl) (by kernel_rfl) (fun _ _ _ h => h) (Or.inl ⟨by kernel_rfl, ?fy5⟩) hHeld ?_
    case fy5 => intro u hu; go_simp; try with_reducible rfl
    try simp only [Act.put, List.setIfInBounds_toArray, List.set_cons_zero, List.set_cons_succ]
    refine wpAnyH_take (i := 6) (v := undef) rfl (by kernel_rfl) (by kernel_rfl) (by kernel_rfl) (fun _ _ _ h => h) (Or.inr ⟨by kernel_rfl, rfl⟩) hHeld ?_
    try simp only [Act.put, List.setIfInBounds_toArray, List.set_cons_zero, List.set_cons_succ]
    refine wpAnyH_take (i := 7) (v := undef) rfl (by kernel_rfl) (by kernel_rfl) (by kernel_rfl) (fun _ _ _ h => h) (Or.inr ⟨by kernel_rfl, rfl⟩) hHeld ?_
    try simp only [Act.put, List.setIfInBounds_toArray, List.set_cons_zero, List.set_cons_succ]
    refine wpAnyH_take (i := 8) (v := undef) rfl (by kernel_rfl) (by kernel_rfl) (by kernel_rfl) (fun _ _ _ h => h) (Or.inr ⟨by kernel_rfl, rfl⟩) hHeld ?_
    try simp only [Act.put, List.setIfInBounds_toArray, List.set_cons_zero, List.set_cons_succ]
    refine wpAnyH_take (i := 9) (v := undef) rfl (by kernel_rfl) (by kernel_rfl) (by kernel_rfl) (fun _ _ _ h => h) (Or.inr ⟨by kernel_rfl, rfl⟩) hHeld ?_
    try simp only [Act.put, List.setIfInBounds_toArray, List.set_cons_zero, List.set_cons_succ]
    refine wpAnyH_take (i := 10) (v := undef) rfl (by kernel_rfl) (by kernel_rfl) (by kernel_rfl) (fun _ _ _ h => h) (Or.inr ⟨by kernel_rfl, rfl⟩) hHeld ?_
    try simp only [Act.put, List.setIfInBounds_toArray, List.set_cons_zero, List.set_cons_succ]
    refine wpAnyH_take (i := 11) (v := ?fv11) rfl (by kernel_rfl) (by kernel_rfl) (by kernel_rfl) (fun _ _ _ h => h) (Or.inl ⟨by kernel_rfl, ?fy11⟩) hHeld ?_
    case fy11 => intro u hu; go_simp; try with_reducible rfl
    try simp only [Act.put, List.setIfInBounds_toArray, List.set_cons_zero, List.set_cons_succ]
    refine wpAnyH_take (i := 12) (v := ?fv12) rfl (by kernel_rfl) (by kernel_rfl) (by kernel_rfl) (fun _ _ _ h => h) (Or.inl ⟨by kernel_rfl, ?fy12⟩) hHeld ?_
    case fy12 => intro u hu; go_simp; try with_reducible rfl
    try simp only [Act.put, List.getElem_toArray, List.getElem_cons_succ, List.getElem_cons_zero, List.setIfInBounds_toArray, List.set_cons_zero, List.set_cons_succ]
    refine wpAnyH_done (by kernel_rfl) ?_ _
    have HB := Lib.hid (B1.out.trans (hHeld.mono B1.out.size))
    clear hHeld
    go_wp2
    go_ret
    exact ⟨rfl, HB.out⟩
end Go.Proofs.YtnohonjjfjppoaaGreatDoor
