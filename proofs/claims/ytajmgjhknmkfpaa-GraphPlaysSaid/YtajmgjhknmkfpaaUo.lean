/-
  Layer 12, the program: Closure.
-/
import Derived.Test.YtajmgjhknmkfpaaUn
namespace Go.Proofs.Ytajmgjhknmkfpaa
set_option maxRecDepth 20000
open Go.RowKit Go.Maps
set_option linter.unusedVariables false
set_option linter.unusedSimpArgs false

/-- What a graph answers to the calls that the others are made of, a nil one too. -/
structure GOps (p : Option Addr) (L : List Gn) (w : World) : Prop where
  good : GoodG L
  few : L.length ≤ 1000
  place : ∀ u, Below w.heap.size w u → ∀ i : List UInt8, i.length = 20 → Calls Try.prog 31 #[.pointer p, .agg (arrD i)] u fun e w' => e = .returned (placeV L i) ∧ Below u.heap.size u w'
  closed : ∀ u, Below w.heap.size w u → ∀ (pv : Value) (l : List Nat), RedR rowN (fun _ => True) u pv l → (∀ p ∈ l, p < L.length) → l.length ≤ 1000000 →
    Calls Try.prog 42 #[.pointer p, pv] u fun e w' => e = .returned (.slice (some ⟨u.heap.size, 0, none⟩) L.length L.length) ∧ MarksAt w' u.heap.size L.length (closedG L l) ∧ Below u.heap.size u w'
  those : ∀ u, Below w.heap.size w u → ∀ (f : FuncId) (lb : Array Value) (q : Nat → Bool), (∀ args w, (callFunc f args).run Try.prog w = .ok (.enter f args) w) →
    (∀ u' (k : Nat), Below u.heap.size u u' → k < L.length → Calls Try.prog f (#[.int .i64 (k : Int)] ++ lb) u' fun e u2 => e = .returned (.bool (q k)) ∧ Below u'.heap.size u' u2) →
    Calls Try.prog 37 #[.pointer p, .func (.func f) #[] lb] u fun e w' => ∃ v, e = .returned v ∧ OwnD u.heap.size v (thoseG L q) w' ∧ Below u.heap.size u w'
theorem GOps.below {p : Option Addr} {L : List Gn} {w u : World} (h : GOps p L w) (hb : Below w.heap.size w u) : GOps p L u where
  good := h.good
  few := h.few
  place := fun u' hu => h.place u' (hb.trans (hu.mono hb.size))
  closed := fun u' hu => h.closed u' (hb.trans (hu.mono hb.size))
  those := fun u' hu => h.those u' (hb.trans (hu.mono hb.size))
theorem GOps.of {S : Nat → Prop} {w : World} {g : Nat} {L : List Gn} (h : GraphP S w g L) (hL : L.length ≤ 1000) (hfew : ∀ k, (plAt L k).length ≤ 1000) : GOps (some ⟨g, 0, none⟩) L w where
  good := h.good
  few := hL
  place := fun u hu i hi => placeP_is (h.below hu) i hi
  closed := fun u hu pv l hpv hl hll => by
    obtain ⟨hg, E, v, mb, hin⟩ := h.below hu
    obtain ⟨a, c, e, hle, hm, hr, hlE⟩ := hin.shape
    refine closedP_any hin.good hin.ens L.length rfl (by omega) hle (fun u' hu' => ?_) hr (fun x hx => ⟨(hin.red x hx).1, (hin.red x hx).2.mono (fun _ _ _ => trivial)⟩) hfew pv l hpv hl hll
    have q := allP_is g v u' ((hin.keep hg (StayB.of hu')).cells rfl).1
    rw [e] at q
    exact q
  those := fun u hu f lb q eg hf => thoseP_is (h.below hu) (by omega) f lb q eg hf
theorem GOps.nil (w : World) : GOps none [] w where
  good := goodG_nil
  few := by simp
  place := fun u hu i hi => placeP_nil i u
  closed := fun u hu pv l hpv hl hll => by
    refine closedP_any (E := []) (a := none) (c := 0) goodG_nil rfl 0 rfl (by omega) (Nat.le_refl _) (fun u' hu' => allP_nil u') (RowAt.nil _ _) (fun x hx => by cases hx) (fun k => by simp [plAt]) pv l hpv hl hll
  those := fun u hu f lb q eg hf => by
    refine (thoseP_nil (.func (.func f) #[] lb) u).mono ?_
    rintro e w' ⟨rfl, hb⟩
    exact ⟨_, rfl, ownD_nil _ _, hb⟩
/-- The closure that tells of a place whether it is wanted. -/
theorem closure_fn (u : World) (bx m n : Nat) (s : List Bool) (k : Nat) (hk : k < n) (hb : u.heap[bx]? = some (.cells #[.slice (some ⟨m, 0, none⟩) n n] 73 (0, 0))) (hm : MarksAt u m n s) :
    Calls Try.prog 43 #[.int .i64 (k : Int), .pointer (some ⟨bx, 0, none⟩)] u fun e w' => e = .returned (.bool (onG s k)) ∧ Below u.heap.size u w' := by
  have c0 : u.cell? ⟨bx, 0, none⟩ = some (.slice (some ⟨m, 0, none⟩) n n) := by rw [Lib.cell_of_heap hb]; rfl
  have c1 := hm.cell hk
  have g1 : (k : Int) < (n : Int) := by omega
  obtain ⟨r, hr⟩ : ∃ r, onG s k = r := ⟨_, rfl⟩
  rw [hr] at c1 ⊢
  clear hb hm hr hk
  go_enter Try.func43, Try.ntmps43
  go_wp2
  go_ret
  exact ⟨rfl, Below.refl _ _⟩
theorem filterMap_take (f : List UInt8 → Option Nat) (l : List (List UInt8)) (k : Nat) (hk : k < l.length) : (l.take (k + 1)).filterMap f = (l.take k).filterMap f ++ (match f l[k] with | some q => [q] | none => []) := by
  rw [List.take_add_one, List.getElem?_eq_getElem hk, List.filterMap_append]
  congr 1
  simp only [Option.toList_some, List.filterMap_cons, List.filterMap_nil]
  cases f l[k] <;> rfl
set_option maxRecDepth 100000 in
set_option maxHeartbeats 16000000 in
theorem closureP_any {w : World} {p : Option Addr} {L : List Gn} (h : GOps p L w) (a : Option Addr) (n c : Nat) (ids : List (List UInt8)) (hr : RowAt rowI w a ids) (hn : n = ids.length) (hm : n ≤ 1000000) (hid : ∀ i ∈ ids, i.length = 20) :
    Calls Try.prog 22 #[.pointer p, .slice a n c] w fun e w' => ∃ v, e = .returned v ∧ OwnD w.heap.size v (cloG L ids) w' ∧ Below w.heap.size w w' := by
  have HR := Lib.hid hr; have HN := Lib.hid hn; have HG := Lib.hid h; have HID := Lib.hid hid
  obtain ⟨z, hz0, hzs, hzv, hzb, hz1⟩ := zId_any
  have ZS := Lib.hid hzs
  have hmf : ∀ (fn : Fn) (first cap : Array Value) (w : World), (Instr.makeFunc fn first cap).run Try.prog w = .ok (.func fn first cap) w := fun _ _ _ _ => rfl
  clear hr hn h hid hz0 hzs hzb hz1
  go_enter Try.func22, Try.ntmps22
  go_wp2_with fail
  go_loopw [5, 13] (fun v i wr => ∃ k : Nat, k ≤ n ∧ i = .int .i64 k ∧ OwnR rowN w.heap.size v ((ids.take k).filterMap (atG L)) wr ∧ Below w.heap.size w wr) (fun _ i _ => n - (intOf i).toNat)
  case atStart => exact ⟨0, Nat.zero_le _, rfl, ownR_nil _ _, Below.refl _ _⟩
  case round =>
    obtain ⟨k, hk, rfl, how, hbr⟩ := hrel
    have HO := Lib.hid how; have HBR := Lib.hid hbr
    clear how hbr
    by_cases hlt : k < n
    · have hkl : k < ids.length := by rw [← HN.out]; exact hlt
      obtain ⟨b, o, rfl, hb⟩ := HR.out.some (by omega)
      obtain ⟨i, hi⟩ : ∃ i, ids[k] = i := ⟨_, rfl⟩
      have hi20 : i.length = 20 := HID.out i (by rw [← hi]; exact List.getElem_mem _)
      have r0 : w.rangeAt b (o + k * 20) (cellsD i) := by
        have := HR.out.elem k hkl
        rw [hi] at this
        exact this
      have RI := Lib.hid (show wr.rangeAt b (o + k * 20) (cellsD i) from fun j v hv => (HBR.out.cell (p := ⟨b, o + k * 20 + j, none⟩) hb).trans (r0 j v hv))
      have LI := Lib.hid (show (Try.prog.info? 32).map (·.size) = some (cellsD i).length by rw [cellsD_len i hi20]; exact infoD_n)
      obtain ⟨A, hA⟩ : ∃ A, (cellsD i).toArray = A := ⟨_, rfl⟩
      have HA := Lib.hid (show arrD i = A from hA)
      have SA := Lib.hid (show A.size = 20 from by rw [← hA]; exact arrD_size i hi20)
      have OA := Lib.hid (show A.all (·.oneCell') = true from by rw [← hA]; exact arrD_one i)
      have IA := Lib.hid (infoD_arr A SA.out)
      have CP := Lib.hid (fun u (hu : Below w.heap.size w u) => HG.out.place u hu i hi20)
      have STEP := filterMap_take (atG L) ids k hkl
      rw [hi] at STEP
      have STEP := Lib.hid STEP
      have LN := Lib.hid (show ((ids.take k).filterMap (atG L)).length ≤ 1000000 by
        have h1 := List.length_filterMap_le (atG L) (ids.take k)
        rw [List.length_take] at h1
        omega)
      clear hi r0 hi20
      generalize cellsD i = ci at *
      go_wp2_with (first
        | (with_reducible refine wpList_load_midD 32 (.tmp 15) rfl (by kernel_rfl) b (o + k * 20) rfl ci _ RI.out Try.underlying32 rfl LI.out ?_; rw [hA])
        | (with_reducible refine wpList_store_all rfl 32 (.tmp 7) (.tmp 16) rfl wr.heap.size A rfl rfl 32 z (heap_alloc_new wr _) IA.out (SA.out.trans ZS.out.symm) OA.out ?_)
        | fail)
      intro w2 r2 off2 sz2
      have b2 : Below wr.heap.size wr w2 := ((Below.refl wr.heap.size wr).alloc (Nat.le_refl _) (.cells z 32)).trans (off2.below (Nat.le_refl _) (by simp))
      have B2 := Lib.hid (HBR.out.trans (b2.mono HBR.out.size))
      have R2 := Lib.hid r2
      have HO2 := Lib.hid (ownR_below HO.out b2)
      clear b2 off2 sz2 r2
      have C2 := Lib.hid (CP.out w2 B2.out)
      rw [HA.out] at C2
      generalize wr.heap.size = gb at R2 ⊢
      unfold placeV at C2
      cases hq : atG L i with
      | none =>
        rw [hq] at C2 STEP
        simp only [Option.getD_none, Option.isSome_none] at C2
        go_wp2_with (first
          | (with_reducible refine wpList_load_all 32 (.tmp 7) rfl (by kernel_rfl) gb A 32 (0, 0) rfl R2.out _ Try.underlying32 rfl IA.out ?_)
          | fail)
        refine C2.out.mono ?_
        rintro e w3 ⟨rfl, hb3⟩
        have B3 := Lib.hid (B2.out.trans (hb3.mono B2.out.size))
        have O3 := Lib.hid (ownR_below HO2.out hb3)
        clear hb3 hq
        go_wp2
        go_roundw
        case rel => exact ⟨k + 1, by omega, by go_num, by rw [STEP.out, List.append_nil]; exact O3.out, B3.out⟩
        case measure => simp [intOf]; omega
      | some q =>
        rw [hq] at C2 STEP
        simp only [Option.getD_some, Option.isSome_some] at C2
        go_wp2_with (first
          | (with_reducible refine wpList_load_all 32 (.tmp 7) rfl (by kernel_rfl) gb A 32 (0, 0) rfl R2.out _ Try.underlying32 rfl IA.out ?_)
          | fail)
        refine C2.out.mono ?_
        rintro e w3 ⟨rfl, hb3⟩
        have B3 := Lib.hid (B2.out.trans (hb3.mono B2.out.size))
        have b4 := (Below.refl w3.heap.size w3).alloc (Nat.le_refl _) (.cells #[.int .i64 (q : Int)] 3)
        have B4 := Lib.hid (B3.out.trans (b4.mono B3.out.size))
        have O4 := Lib.hid (ownR_below (ownR_below HO2.out hb3) b4)
        clear hb3 b4 hq
        go_wp2_with (first
          | (at_builtin; refine wpList_append_anyR goodN rfl _ _ rfl w.heap.size _ ((ids.take k).filterMap (atG L)) [q] (some ⟨w3.heap.size, 0, none⟩) 1 1 rfl rfl rfl (rowN_one w3 q) (fun _ _ => trivial) (fun _ _ => trivial) O4.out (Nat.le_trans (Nat.add_le_add_right LN.out 1) (by decide)) B4.out.size ?_)
          | fail)
        intro v5 w5 o5 g5
        have B5 := Lib.hid (B4.out.trans ((Below.refl w.heap.size _).grown g5 B4.out.size (fun j hj => (ownR_lt O4.out j hj).1)))
        have O5 := Lib.hid (show OwnR rowN w.heap.size v5 ((ids.take (k + 1)).filterMap (atG L)) w5 by rw [STEP.out]; exact o5)
        clear o5 g5
        go_wp2
        go_roundw
        case rel => exact ⟨k + 1, by omega, by go_num, O5.out, B5.out⟩
        case measure => simp [intOf]; omega
    · obtain rfl : k = n := by omega
      obtain ⟨l, hl⟩ : ∃ l, ids.filterMap (atG L) = l := ⟨_, rfl⟩
      have OL := HO.out
      rw [List.take_of_length_le (by rw [← HN.out]; exact Nat.le_refl _), hl] at OL
      have hlt2 : ∀ p ∈ l, p < L.length := fun p hp => by
        rw [← hl] at hp
        obtain ⟨i, _, hi⟩ := List.mem_filterMap.1 hp
        exact (atG_some hi).1
      have hll : l.length ≤ 1000000 := by
        rw [← hl]
        have h1 := List.length_filterMap_le (atG L) ids
        have := HN.out
        omega
      have CC := HG.out.closed wr HBR.out _ l ((ownR_red goodN OL (fun _ _ => trivial)).mono (fun _ _ _ => trivial)) hlt2 hll
      obtain ⟨av, cv, hv5, -⟩ := ownR_shape goodN OL (fun _ _ => trivial)
      subst hv5
      have CC := Lib.hid CC
      obtain ⟨ll, hll2⟩ : ∃ ll, l.length = ll := ⟨_, rfl⟩
      rw [hll2] at CC ⊢
      obtain ⟨N, hN⟩ : ∃ N, L.length = N := ⟨_, rfl⟩
      rw [hN] at CC
      have HNN := Lib.hid hN; have HLL := Lib.hid hl
      clear OL hlt2 hll hll2 hN hl
      go_wp2_with fail
      refine CC.out.mono ?_
      rintro e w2 ⟨rfl, hm2, hb2⟩
      have M2 := Lib.hid hm2
      have B2 := Lib.hid (HBR.out.trans (hb2.mono HBR.out.size))
      obtain ⟨m, hm⟩ : ∃ m, wr.heap.size = m := ⟨_, rfl⟩
      rw [hm] at M2 ⊢
      clear hm2 hb2 CC hm
      have b3 := (Below.refl w2.heap.size w2).alloc (Nat.le_refl _) (.cells #[.slice (some ⟨m, 0, none⟩) N N] 73)
      have x3 := heap_alloc_new w2 (.cells #[.slice (some ⟨m, 0, none⟩) N N] 73)
      have m3 := M2.out.below b3
      have B3 := Lib.hid (B2.out.trans (b3.mono B2.out.size))
      have CT := HG.out.those _ B3.out 43 #[.pointer (some ⟨w2.heap.size, 0, none⟩)] (onG (closedG L l)) (fun args w => by kernel_rfl) (fun u' q hu hq => closure_fn u' w2.heap.size m N (closedG L l) q (by rw [← HNN.out]; exact hq) ((hu.block _ (lt_of_heap x3)).trans x3) (m3.below hu))
      have CT := Lib.hid CT
      clear b3 x3 m3
      go_wp2_with fail
      refine CT.out.mono ?_
      rintro e w4 ⟨v, rfl, hv, hb4⟩
      have F := Lib.hid (And.intro (ownR_mono (R := rowI) hv B3.out.size) (B3.out.trans (hb4.mono B3.out.size)))
      clear hv hb4 CT
      go_wp2
      go_ret
      refine ⟨_, rfl, ?_, F.out.2⟩
      unfold cloG
      rw [HLL.out]
      exact F.out.1
end Go.Proofs.Ytajmgjhknmkfpaa
