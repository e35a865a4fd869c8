/-
  Layer 12, the program: Heads, Comes.
-/
import Derived.Test.YtajmgjhknmkfpaaUo
namespace Go.Proofs.Ytajmgjhknmkfpaa
set_option maxRecDepth 20000
open Go.RowKit Go.Maps
set_option linter.unusedVariables false
set_option linter.unusedSimpArgs false

theorem heads_fn (u : World) (bx m n : Nat) (s : List Bool) (k : Nat) (hk : k < n) (hb : u.heap[bx]? = some (.cells #[.slice (some ⟨m, 0, none⟩) n n] 73 (0, 0))) (hm : MarksAt u m n s) :
    Calls Try.prog 41 #[.int .i64 (k : Int), .pointer (some ⟨bx, 0, none⟩)] u fun e w' => e = .returned (.bool (!onG s k)) ∧ Below u.heap.size u w' := by
  have c0 : u.cell? ⟨bx, 0, none⟩ = some (.slice (some ⟨m, 0, none⟩) n n) := by rw [Lib.cell_of_heap hb]; rfl
  have c1 := hm.cell hk
  have g1 : (k : Int) < (n : Int) := by omega
  obtain ⟨r, hr⟩ : ∃ r, onG s k = r := ⟨_, rfl⟩
  rw [hr] at c1 ⊢
  clear hb hm hr hk
  go_enter Try.func41, Try.ntmps41
  go_wp2
  go_ret
  exact ⟨rfl, Below.refl _ _⟩
/-- Which of the first nodes' parents are marked. -/
def parK (L : List Gn) (k : Nat) : List Bool := (L.take k).foldl (fun s n => markL s n.pl) (List.replicate L.length false)
theorem parK_all (L : List Gn) : parK L L.length = parentsG L := by unfold parK parentsG; rw [List.take_length]
theorem parK_step (L : List Gn) (k : Nat) (hk : k < L.length) : parK L (k + 1) = markL (parK L k) (plAt L k) := by
  unfold parK
  rw [List.take_add_one, List.getElem?_eq_getElem hk, List.foldl_append, plAt_lt hk]
  rfl
set_option maxRecDepth 100000 in
set_option maxHeartbeats 16000000 in
theorem headsP_any {w : World} {p : Option Addr} {a : Option Addr} {c : Nat} {L : List Gn} {E : List Enn} (H : GOps p L w) (hens : E.map Enn.n = L) (n : Nat) (hn : L.length = n) (hc : n ≤ c)
    (hall : Calls Try.prog 39 #[.pointer p] w fun e w' => e = .returned (.slice a n c) ∧ w' = w)
    (hrow : RowAt rowP w a E) (hred : ∀ e ∈ E, okN e ∧ RedR rowN (fun _ => True) w e.v e.n.pl) (hfew : ∀ k, (plAt L k).length ≤ 1000) :
    Calls Try.prog 20 #[.pointer p] w fun e w' => ∃ v, e = .returned v ∧ OwnD w.heap.size v (headsG L) w' ∧ Below w.heap.size w w' := by
  have hEn : E.length = n := by rw [← hn, ← hens, List.length_map]
  have hn6 : n ≤ 1000000 := by have := H.few; omega
  obtain ⟨ib, hib, hbz, hbs, hbb⟩ := infoB_all
  obtain ⟨z, hzs, hzv⟩ := zNode_any
  have CA := Lib.hid hall
  have hmf : ∀ (fn : Fn) (first cap : Array Value) (w : World), (Instr.makeFunc fn first cap).run Try.prog w = .ok (.func fn first cap) w := fun _ _ _ _ => rfl
  have ZS := Lib.hid hzs; have HROW := Lib.hid hrow; have HRED := Lib.hid hred; have HEN := Lib.hid hEn; have HN := Lib.hid hn; have HH := Lib.hid H; have HENS := Lib.hid hens; have HFEW := Lib.hid hfew
  clear hall hzs hrow hred hEn hn H hens hfew
  go_enter Try.func20, Try.ntmps20
  go_wp2_with fail
  refine CA.out.mono ?_
  rintro e w1 ⟨rfl, rfl⟩
  go_wp2_with (first
    | (at_make; refine wpList_make_full _ rfl _ _ 73 rfl 0 4 ib (.bool false) 1 Try.underlying73 hib hbz hbs _ _ _ _ n rfl rfl rfl rfl (by rw [hbb]; omega) (by unfold maxLen; omega) (Nat.zero_le _) ?_; intro w2 ho2 hg2; have M2 := Lib.hid (marks_new ho2); have B2 := Lib.hid ((Below.refl w1.heap.size w1).grown hg2 (Nat.le_refl _) (fun k h => by cases h)); have M3 := Lib.hid M2.out.lt; clear ho2 hg2; obtain ⟨m, hm⟩ : ∃ m, w1.heap.size = m := ⟨_, rfl⟩; have HM := Lib.hid hm; rw [hm] at M2 M3 ⊢; clear hm)
    | fail)
  have x3 := heap_alloc_new w2 (.cells #[.slice (some ⟨m, 0, none⟩) n n] 73)
  have b23 := (Below.refl w2.heap.size w2).alloc (Nat.le_refl _) (.cells #[.slice (some ⟨m, 0, none⟩) n n] 73)
  have M4 := Lib.hid (M2.out.below b23)
  have B4 := Lib.hid (B2.out.trans (b23.mono B2.out.size))
  obtain ⟨B6, hB6⟩ : ∃ B6, w2.heap.size = B6 := ⟨_, rfl⟩
  have hm6 : m < B6 := by rw [← hB6]; exact M3.out
  obtain ⟨w3, hw3⟩ : ∃ w3, w2.alloc (.cells #[.slice (some ⟨m, 0, none⟩) n n] 73) = w3 := ⟨_, rfl⟩
  rw [hw3] at x3 M4 B4 ⊢
  rw [hB6] at x3 ⊢
  have X3 := Lib.hid x3
  clear x3 b23 hw3 hB6 M2 M3 B2
  go_loopw [14] (fun i wr => ∃ k : Nat, k ≤ n ∧ i = .int .i64 k ∧ MarksAt wr m n (parK L k) ∧ wr.heap[B6]? = some (.cells #[.slice (some ⟨m, 0, none⟩) n n] 73 (0, 0)) ∧ Below w1.heap.size w1 wr) (fun i _ => n - (intOf i).toNat)
  case atStart => exact ⟨0, Nat.zero_le _, rfl, by rw [show parK L 0 = List.replicate n false by unfold parK; rw [HN.out]; rfl]; exact M4.out, X3.out, B4.out⟩
  case round =>
    clear M4 X3 B4
    obtain ⟨k, hk, rfl, hmk, hx, hbr⟩ := hrel
    have HMK := Lib.hid hmk; have HX := Lib.hid hx; have HBR := Lib.hid hbr
    clear hmk hx hbr
    by_cases hlt : k < n
    · have hkL : k < L.length := by rw [HN.out]; exact hlt
      have hkE : k < E.length := by rw [HEN.out]; exact hlt
      obtain ⟨b, o, rfl, hb⟩ := HROW.out.some (by omega)
      obtain ⟨hok, hred⟩ := HRED.out E[k] (List.getElem_mem hkE)
      have hpl : E[k].n.pl = plAt L k := by
        rw [plAt_lt hkL]
        simp only [← HENS.out, List.getElem_map]
      rw [hpl] at hred
      have r0 := HROW.out.elem k hkE
      have RW := Lib.hid (show wr.rangeAt b (o + k * 21) (cellsN E[k]) from fun j v hv => (HBR.out.cell (p := ⟨b, o + k * 21 + j, none⟩) hb).trans (r0 j v hv))
      obtain ⟨N, hN⟩ : ∃ N, (cellsN E[k]).toArray = N := ⟨_, rfl⟩
      have sN : N.size = 21 := by rw [← hN, List.size_toArray]; exact cellsN_len _ hok
      have IN := Lib.hid (show (Try.prog.info? 65).map (·.size) = some (cellsN E[k]).length by rw [cellsN_len _ hok]; kernel_rfl)
      have IN2 := Lib.hid (show (Try.prog.info? 65).map (·.size) = some N.size by rw [sN]; kernel_rfl)
      have SN := Lib.hid (sN.trans ZS.out.symm)
      have ON := Lib.hid (show N.all (·.oneCell') = true by rw [← hN, Array.all_eq_true_iff_forall_mem]; intro v hv; exact cellsN_one _ hok v (by simpa using hv))
      have VN := Lib.hid (show N[20]? = some E[k].v by
        rw [← hN]
        unfold cellsN
        rw [List.getElem?_toArray, List.getElem?_append_right (by rw [cellsD_len _ hok.1]; omega), cellsD_len _ hok.1]
        rfl)
      have STEP := Lib.hid (parK_step L k hkL)
      have RP := Lib.hid (fun (u : World) (hu : Below w1.heap.size w1 u) => (((hred.mono (S' := fun k => k < w1.heap.size) (fun k hk _ => hk)).keep ⟨hu.size, fun k hk _ => hu.block k hk⟩).mono (fun k _ hk => by have := HM.out; omega) : RedR rowN (fun k => k ≠ m) u E[k].v (plAt L k)))
      have PLB := Lib.hid (show ∀ p ∈ plAt L k, p < n from fun p hp => by have := low_lt HH.out.good p hp; have := HN.out; omega)
      have PLL := Lib.hid (Nat.le_trans (HFEW.out k) (by decide : 1000 ≤ 1000000))
      obtain ⟨-, a5, n5, c5, hv5⟩ := hok
      rw [hv5] at VN RP
      have HLT := Lib.hid hlt
      clear hred hpl r0 sN hkL hb hv5
      go_wp2_with (first
        | (with_reducible refine wpList_load_midD 65 (.tmp 16) rfl (by kernel_rfl) b (o + k * 21) rfl (cellsN E[k]) _ RW.out Try.underlying65 rfl IN.out ?_; rw [hN])
        | (with_reducible refine wpList_store_all rfl 65 (.tmp 6) (.tmp 17) rfl wr.heap.size N rfl rfl 65 z (heap_alloc_new wr _) IN2.out SN.out ON.out ?_)
        | fail)
      intro w4 r4 off4 sz4
      have b4 : Below wr.heap.size wr w4 := ((Below.refl wr.heap.size wr).alloc (Nat.le_refl _) (.cells z 65)).trans (off4.below (Nat.le_refl _) (by simp))
      have B4 := Lib.hid (HBR.out.trans (b4.mono HBR.out.size))
      have M4 := HMK.out.below b4
      have X4 := Lib.hid ((b4.block B6 (lt_of_heap HX.out)).trans HX.out)
      have CM := Lib.hid (markP_is M4 hn6 _ (plAt L k) (RP.out w4 B4.out) PLB.out PLL.out)
      have c6 : w4.cell? ⟨B6, 0, none⟩ = some (.slice (some ⟨m, 0, none⟩) n n) := by rw [Lib.cell_of_heap X4.out]; rfl
      have cx : w4.cell? ⟨wr.heap.size, 20, none⟩ = some (.slice a5 n5 c5) := by rw [Lib.cell_of_heap r4]; exact VN.out
      clear b4 M4 off4 sz4 r4
      go_wp2_with fail
      refine CM.out.mono ?_
      rintro e w5 ⟨rfl, hm5, hc5⟩
      have M5 := Lib.hid (show MarksAt w5 m n (parK L (k + 1)) by rw [STEP.out]; exact hm5)
      have X5 := Lib.hid ((hc5.block B6 (lt_of_heap X4.out) (by omega)).trans X4.out)
      have B5 := Lib.hid (B4.out.trans (hc5.below B4.out.size (fun i _ hi => by have := HM.out; omega)))
      clear hm5 hc5 c6 cx
      go_wp2
      go_roundw
      case rel => exact ⟨k + 1, HLT.out, by go_num, M5.out, X5.out, B5.out⟩
      case measure => have := HLT.out; simp [intOf]; omega
    · obtain rfl : k = n := by omega
      have MP := Lib.hid (show MarksAt wr m k (parentsG L) by rw [← parK_all, HN.out]; exact HMK.out)
      have CT := Lib.hid (HH.out.those wr HBR.out 41 #[.pointer (some ⟨B6, 0, none⟩)] (fun i => !onG (parentsG L) i) (fun args w => by kernel_rfl) (fun u' q hu hq => heads_fn u' B6 m k (parentsG L) q (by rw [← HN.out]; exact hq) ((hu.block _ (lt_of_heap HX.out)).trans HX.out) (MP.out.below hu)))
      go_wp2_with fail
      refine CT.out.mono ?_
      rintro e w4 ⟨v, rfl, hv, hb4⟩
      have F := Lib.hid (And.intro (ownR_mono (R := rowI) hv HBR.out.size) (HBR.out.trans (hb4.mono HBR.out.size)))
      clear hv hb4 CT
      go_wp2
      go_ret
      exact ⟨_, rfl, F.out.1, F.out.2⟩
theorem headsP_is {S : Nat → Prop} {w : World} {g : Nat} {L : List Gn} (h : GraphP S w g L) (hL : L.length ≤ 1000) (hfew : ∀ k, (plAt L k).length ≤ 1000) :
    Calls Try.prog 20 #[.pointer (some ⟨g, 0, none⟩)] w fun e w' => ∃ v, e = .returned v ∧ OwnD w.heap.size v (headsG L) w' ∧ Below w.heap.size w w' := by
  have H := GOps.of h hL hfew
  obtain ⟨hg, E, v, mb, hin⟩ := h
  obtain ⟨a, c, e, hle, hm, hr, hlE⟩ := hin.shape
  refine headsP_any H hin.ens L.length rfl hle ?_ hr (fun x hx => ⟨(hin.red x hx).1, (hin.red x hx).2.mono (fun _ _ _ => trivial)⟩) hfew
  have q := allP_is g v w (hin.cells rfl).1
  rw [e] at q
  exact q
theorem headsP_nil (w : World) : Calls Try.prog 20 #[.pointer none] w fun e w' => ∃ v, e = .returned v ∧ OwnD w.heap.size v [] w' ∧ Below w.heap.size w w' :=
  headsP_any (E := []) (a := none) (c := 0) (GOps.nil w) rfl 0 rfl (Nat.le_refl _) (allP_nil w) (RowAt.nil _ _) (fun x hx => by cases hx) (fun k => by simp [plAt])
end Go.Proofs.Ytajmgjhknmkfpaa
