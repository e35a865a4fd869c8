/-
  Texts that belong together, one behind the other.
-/
import Derived.Test.YtnohonjjfjppoaaGreatDoorFu32
import Derived.Test.YtnohonjjfjppoaaGreatDoorFu16
import Derived.Shelf.AbstractIn
import Derived.Test.YtnohonjjfjppoaaGreatDoorFu31
import Derived.Test.YtnohonjjfjppoaaGreatDoorFu14
import Derived.Test.YtnohonjjfjppoaaGreatDoorFu04
import Derived.Test.YtnohonjjfjppoaaGreatDoorFu05
import Derived.Deep.MidRow
import Derived.Deep.QuietTactic
import Derived.BigQuiet
/-
  slices.SortedFunc over ids; the program's Ids.
-/
namespace Go.Proofs.YtnohonjjfjppoaaGreatDoor
open Go.RowKit Go.Maps Go.Sort
attribute [local go_sem] Oper.semAt_some
set_option linter.unusedVariables false
set_option linter.unusedSimpArgs false
set_option maxRecDepth 100000 in
set_option maxHeartbeats 4000000 in
theorem sortedX_in (n : Nat) (hn : 4 ≤ n) (g : Nat) (lb : Array Value) (eg : ∀ args w, (callFunc g args).run Tryz.prog w = .ok (.enter g args) w) (T : List B20) (hT : T.Pairwise (fun a b => a.1 < b.1)) (hm : T.length ≤ 1000000)
    (Sp : List B20 → Prop) (w : World) (hseq : SeqStops Fence.wide (n - 1 - 1 - 1) Tryz.prog g lb encX (fun ss => ss.Perm T) Sp T.length w) :
    CallsIn Fence.wide n Tryz.prog 53 #[.func (.func g) #[] lb, .func (.func 55) #[] #[]] w fun e w' => ∃ v, e = .returned v ∧ OwnD w.heap.size v (T.map Subtype.val) w' ∧ Below w.heap.size w w' := by
  have h1 : 1 ≤ n := by omega
  have f8 : Fence.wide.fn 88 := trivial
  have f9 : Fence.wide.fn 89 := trivial
  have ec : ∀ args w, (callFunc 55 args).run Tryz.prog w = .ok (.enter 55 args) w := enters_of Tryz.func55 (by kernel_rfl) rfl
  have cC := collectX_in Fence.wide (n - 1) trivial trivial rfl (by omega) g lb trivial eg (fun ss => ss.Perm T) Sp T.length hm w hseq (fun l hl => Nat.le_of_eq hl.length_eq)
  refine callsIn_of_wp Tryz.func53 rfl trivial ?_ rfl
  simp only [Tryz.ntmps53, List.size_toArray, List.length_cons, List.length_nil, Nat.reduceAdd, Nat.reduceSub, Array.replicate_succ, Array.replicate_zero, List.push_toArray, List.append_toArray, List.nil_append, List.cons_append]
  gi_wp2_with (first | (gi_at_call 88; refine cC.mono ?_; rintro e W ⟨v, ss, rfl, hS, hrow, hnil, hb⟩) | fail)
  have hlen := hS.length_eq
  rcases hrow.2 with ⟨rfl, hz⟩ | ⟨gb, cap, cur, rfl, hbase, hgb, r1, r2, r3, r4⟩
  · have hss : ss = [] := List.eq_nil_of_length_eq_zero hz
    subst hss
    obtain rfl : T = [] := List.eq_nil_of_length_eq_zero (by simpa using hlen.symm)
    have cS : Calls Tryz.prog 89 _ _ _ := AnyF.slices_SortFunc_none Tryz.sortX none 0 (.func (.func 55) #[] #[]) W
    gi_wp2_with (first | (gi_at_call 89; refine (callsIn_wide.2 cS).mono ?_; rintro e w' ⟨rfl, rfl⟩) | fail)
    go_ret
    exact ⟨_, rfl, by simpa [OwnD, flatX] using hrow, hb⟩
  · have hH := holdsX (g := gb) ss hgb r4
    have hgl : gb < W.heap.size := (Array.getElem?_eq_some_iff.1 hgb).1
    have hsz : ss.toArray.size < 4611686018427387904 := by simp; omega
    have cS : Calls Tryz.prog 89 _ _ _ := AnyQ.slices_SortFunc_total Tryz.sortX 20 isAggX sizeX (fun x : B20 => cellsD x.1) (fun x => cellsD_len _ x.2) (fun x v hv => (Array.all_eq_true_iff_forall_mem.1 (cellsD_one x.1)) v (by simpa using hv)) cfX swoX 55 #[] gb 0 cap ss.toArray W ec (cmpLaysX gb 0 _ W) hH hgl hsz apartX
    have e1 : ss.toArray.size = ss.length := by simp
    rw [e1] at cS
    have cS := Lib.hid cS
    gi_wp2_with (first | (gi_at_call 89; refine (callsIn_wide.2 cS.out).mono ?_; rintro e w' ⟨rfl, nn, os, rfl⟩) | fail)
    go_ret
    have e2 : (ss.toArray.toList.mergeSort fun x y => !(ltOf cfX) y x) = T := sortX_is hS hT
    have hl2 : (flatX T).length = ss.length * 20 := by rw [flatX_len, hlen]
    refine ⟨_, rfl, ?_, hb.grown (row := some gb) ?_ hb.size (fun j hj => by cases hj; exact hbase)⟩
    · unfold sortWorldK putRowK
      rw [e2, flatK_is]
      refine ⟨by rw [List.flatMap_map, List.length_map]; exact flatX_len T, .inr ⟨gb, cap, _, by simp [hlen], hbase, heap_sortX _ hgb, by simpa [← hlen] using r1, r2, by simp [putCells, r3], ?_⟩⟩
      rw [List.flatMap_map, List.length_map, ← flatX_len T]
      exact take_putX cur (flatX T) (by rw [flatX_len, r3, ← hlen]; exact Nat.mul_le_mul_right 20 r1)
    · unfold sortWorldK putRowK
      exact grownBy_sortX _
theorem B20_of : ∀ L : List Cel, (∀ x ∈ L, x.id.length = 20) → ∃ T : List B20, T.map Subtype.val = L.map Cel.id
  | [], _ => ⟨[], rfl⟩
  | c :: L, h => by
    obtain ⟨T, hT⟩ := B20_of L (fun x hx => h x (by simp [hx]))
    exact ⟨⟨c.id, h c (by simp)⟩ :: T, by simp [hT]⟩
theorem ownD_base {B B' : Nat} {v : Value} {l : List (List UInt8)} {w : World} (h : OwnD B v l w) (hb : B' ≤ B) : OwnD B' v l w := by
  refine ⟨h.1, ?_⟩
  rcases h.2 with hn | ⟨g, cap, cur, hv, hbg, rest⟩
  · exact .inl hn
  · exact .inr ⟨g, cap, cur, hv, Nat.le_trans hb hbg, rest⟩
set_option maxRecDepth 100000 in
set_option maxHeartbeats 4000000 in
/-- The ids of all objects, in their order. -/
theorem Ids_is {S : Nat → Prop} {w : World} {g : Nat} {M L : List Cel} (h : StoreP S w g M) (hp : M.Perm L) (hs : SrtS L) (hm : L.length ≤ 1000000) :
    Calls Tryz.prog 26 #[.pointer (some ⟨g, 0, none⟩)] w fun e w' => ∃ v, e = .returned v ∧ OwnD w.heap.size v (L.map Cel.id) w' ∧ Below w.heap.size w w' := by
  refine (callsIn_wide (n := 6)).1 ?_
  have hids := h.ids
  obtain ⟨hg, E, mb, hE, hblk, hent, hnone, hmap⟩ := h
  have hL : ∀ x ∈ L, x.id.length = 20 := fun x hx => (hids x (hp.mem_iff.2 hx)).1
  obtain ⟨T, hT⟩ : ∃ T : List B20, T.map Subtype.val = L.map Cel.id := B20_of L hL
  have hTl : T.length = L.length := by
    have := congrArg List.length hT
    simpa using this
  have hTs : T.Pairwise (fun a b => a.1 < b.1) := by
    have h1 : (T.map Subtype.val).Pairwise (fun a b => a < b) := by
      rw [hT, List.pairwise_map]
      exact hs
    exact List.pairwise_map.1 h1
  have hgc : w.cell? ⟨g, 0, none⟩ = some (.map mb) := by rw [Lib.cell_of_heap hblk]; rfl
  have eK : ∀ args w, (callFunc 90 args).run Tryz.prog w = .ok (.enter 90 args) w := enters_of Tryz.func90 (by kernel_rfl) rfl
  have hseq : SeqStops Fence.wide 2 Tryz.prog 90 #[.pointer (some ⟨w.heap.size, 0, none⟩)] encX (fun ss => ss.Perm T) (fun _ => True) T.length (w.alloc (.cells #[.map mb] 64)) := by
    intro l J Jx W hW hJ hJx hY h0
    have hmc : W.cell? ⟨w.heap.size, 0, none⟩ = some (.map mb) := (hW.cell (p := ⟨w.heap.size, 0, none⟩) (by simp)).trans (by rw [Lib.cell_of_heap (heap_alloc_new w _)]; rfl)
    cases mb with
    | none =>
      have hE0 := hnone rfl
      subst hE0
      subst hE
      obtain rfl : L = [] := by simpa using hp.symm
      obtain rfl : T = [] := List.eq_nil_of_length_eq_zero hTl
      refine (keys1X_nil Fence.wide 2 trivial rfl l w.heap.size J W hJ hmc h0).mono ?_
      rintro e W' ⟨he, hj⟩
      exact ⟨he, .inl ⟨[], List.Perm.refl _, hj⟩⟩
    | some b =>
      obtain ⟨hSb, hbg, hM⟩ := hmap b rfl
      obtain ⟨D, hown, hsz, hD⟩ := hM.owns idKeyed (celP_keys (fun e he => (hent e he).1))
      have hbW : W.heap[b]? = w.heap[b]? := (hW.block b (by have := hM.lt; simp; omega)).trans (Below.heap_alloc w _ b hM.lt)
      have hownW : W.ownsMap Tryz.prog 27 anyElem b (celP E).length D := by
        obtain ⟨es, clock, h1, h2⟩ := hown
        exact ⟨es, clock, hbW.trans h1, h2⟩
      have hlen : Maps.size D = T.length := by
        rw [hsz, hTl, ← hp.length_eq, ← hE]
        simp [celP]
      have hTn : T.Nodup := hTs.imp (fun {a b} h e => by rw [e] at h; exact List.lt_irrefl _ h)
      have hDT : ∀ x, Maps.has D (codeX x) = true ↔ x ∈ T := by
        intro x
        rw [hD (encX x) (codeX x) (code_is x)]
        have e1 : x ∈ T ↔ x.1 ∈ T.map Subtype.val := ⟨fun hx => List.mem_map.2 ⟨x, hx, rfl⟩, fun hx => by obtain ⟨y, hy, e⟩ := List.mem_map.1 hx; rw [← Subtype.ext e]; exact hy⟩
        rw [e1, hT, ← (hp.map Cel.id).mem_iff, ← hE]
        constructor
        · rintro ⟨m, hm, he⟩
          obtain ⟨e, hee, rfl⟩ := List.mem_map.1 hm
          exact List.mem_map.2 ⟨e.c, List.mem_map.2 ⟨e, hee, rfl⟩, arrD_inj (Value.agg.inj he)⟩
        · intro hx
          obtain ⟨c, hc, he⟩ := List.mem_map.1 hx
          obtain ⟨e, hee, rfl⟩ := List.mem_map.1 hc
          exact ⟨_, List.mem_map.2 ⟨e, hee, rfl⟩, by rw [he]; rfl⟩
      exact keys1X_in Fence.wide 2 trivial rfl (by omega) l w.heap.size b _ D T hTn hDT J Jx (by rw [hlen]; exact hY) W hJ hmc hownW h0
  have cK := fun mb W => keysX_in Fence.wide 5 trivial rfl mb W
  have cS := sortedX_in 5 (by omega) _ _ eK T hTs (by omega) _ _ hseq
  rw [hT] at cS
  have hfK : Fence.wide.fn 54 := trivial
  have hfS : Fence.wide.fn 53 := trivial
  refine callsIn_of_wp Tryz.func26 rfl trivial ?_ rfl
  simp only [Tryz.ntmps26, List.size_toArray, List.length_cons, List.length_nil, Nat.reduceAdd, Nat.reduceSub, Array.replicate_succ, Array.replicate_zero, List.push_toArray, List.append_toArray, List.nil_append, List.cons_append]
  have cS := Lib.hid cS
  clear hids hL hp hs hnone hmap hent hE hblk
  gi_wp2_with (first
    | (gi_at_call 54; refine (cK _ _).mono ?_; rintro e w' ⟨rfl, rfl⟩)
    | (gi_at_call 53; refine cS.out.mono ?_; rintro e w' ⟨v, rfl, hv, hb⟩))
  go_ret
  have hb0 : Below w.heap.size w (w.alloc (.cells #[.map mb] 64)) := (Below.refl _ w).alloc (Nat.le_refl _) _
  exact ⟨v, rfl, ownD_base hv hb0.size, hb0.trans (hb.mono hb0.size)⟩
end Go.Proofs.YtnohonjjfjppoaaGreatDoor

/-
  Layer 13: what the laws share; what a program that does nothing does not answer.
-/
namespace Go.Proofs.YtnohonjjfjppoaaGreatDoor
set_option maxRecDepth 20000
open Go.RowKit
set_option linter.unusedVariables false
set_option linter.unusedSimpArgs false
theorem srt_of : ∀ M : List Cel, M.Pairwise (fun a b => a.id ≠ b.id) → ∃ L, M.Perm L ∧ SrtS L
  | [], _ => ⟨[], List.Perm.refl _, List.Pairwise.nil⟩
  | c :: M, h => by
    obtain ⟨h1, h2⟩ := List.pairwise_cons.1 h
    obtain ⟨L, hp, hs⟩ := srt_of M h2
    have hn : getS L c.id = none := by
      cases hg : getS L c.id with
      | none => rfl
      | some d => exact absurd (getS_id hg).1.symm (h1 d (hp.mem_iff.2 (getS_mem hg)))
    refine ⟨putAt L (atS L c.id) c, ?_, srt_put hs hn⟩
    refine (hp.cons c).trans ?_
    unfold putAt
    have := List.take_append_drop (atS L c.id) L
    refine List.Perm.trans ?_ List.perm_middle.symm
    rw [this]
theorem ids_few {S : Nat → Prop} {w : World} {g : Nat} {M : List Cel} (h : StoreP S w g M) (hm : M.length ≤ 1000000) :
    Calls Tryz.prog 26 #[.pointer (some ⟨g, 0, none⟩)] w fun e w' => ∃ a c, e = .returned (.slice a M.length c) ∧ Below w.heap.size w w' := by
  obtain ⟨L, hp, hs⟩ := srt_of M h.apart
  have hl := hp.length_eq
  refine (Ids_is h hp hs (by omega)).mono ?_
  rintro e w' ⟨v, rfl, ho, hb⟩
  obtain ⟨a, c, rfl, -⟩ := ownD_ids ho (fun i hi => by
    obtain ⟨x, hx, rfl⟩ := List.mem_map.1 hi
    exact (h.ids x (hp.mem_iff.2 hx)).1)
  exact ⟨a, c, by rw [List.length_map, hl], hb⟩
theorem write_one {w0 : World} (tab : T13 w0) {w : World} {g b : Nat} {f : Fil} (hb0 : Below w0.heap.size w0 w) (hg : w0.heap.size ≤ g) (hst : StoreP (fun j => j = g) w g []) (hat : FilesAt w (some ⟨b, 0, none⟩) [f]) (hbg : b ≠ g) (hid : f.id.length = 20) (hl : f.path.length ≤ 1000) :
    Calls Tryz.prog 12 #[.pointer (some ⟨g, 0, none⟩), .slice (some ⟨b, 0, none⟩) 1 1] w fun e w' => e = .returned (.tuple #[.agg (arrD (wrF putM [] [f]).2.1), .int .i64 (wrF putM [] [f]).2.2]) ∧
      StoreP (fun j => j = g ∨ (w.heap.size ≤ j ∧ j < w'.heap.size)) w' g (wrF putM [] [f]).1 ∧ Chg (fun j => j = g) w w' :=
  Write_is tab (l := [f]) (c := 1) hst (fun j _ q => q.2.1 q.1) hb0 (fun j q => by rw [q]; exact hg) hat (fun ad had => by cases had; exact ⟨hbg, hat.lt (by simp)⟩) (fun f' hf' => by rw [List.mem_singleton.1 hf']; exact ⟨hid, by omega⟩) (Nat.le_refl _) (by unfold maxLen; decide) (by simp) (fun _ => by
    have := sl_one f
    show 0 + slF [f] + 1 ≤ 5000
    omega)
/-- One file that is handed out. -/
theorem read_one {f : Fil} {v : Value} {w : World} (h : ReadR (some f) v w) (hid : f.id.length = 20) : ∃ b o c, v = .slice (some ⟨b, o, none⟩) 1 c ∧ 1 ≤ c ∧ c ≤ maxLen ∧ FilesAt w (some ⟨b, o, none⟩) [f] ∧ b < w.heap.size := by
  obtain ⟨B, ho⟩ := h
  obtain ⟨a, c, e, hc, hm, hr, -⟩ := ownR_shape goodF ho (fun x hx => by rw [List.mem_singleton.1 hx]; exact hid)
  obtain ⟨b, o, rfl, hb⟩ := hr.some (by simp)
  exact ⟨b, o, c, e, hc, hm, hr, hb⟩
theorem built_id1 (k : UInt8) : Tryz.prog.built 27 [(0, .int .u8 k.toNat)] = some (arrD (k :: List.replicate 19 0)) := by kernel_rfl
def filA : Fil := ⟨[100, 47, 97], 1, one1⟩
theorem awake_wr : wrF putM [] [filA] = (chC leafA idsA 2, dgA1, 0) := wr_chain goodA (n := 1) (by decide) (by decide +kernel) (by decide)
theorem awake_rd : Rd (chC leafA idsA 2) dgA1 [] (some filA) 0 := rd_chain goodA (n := 1) (by decide) 1 (Nat.le_refl _) [] (by decide +kernel) (by decide +kernel)
set_option maxHeartbeats 32000000 in
theorem awake13 (w : World) (tab : T13 w) : Calls Tryz.prog 9 #[] w fun e w' => e = .returned (.bool true) ∧ Below w.heap.size w w' := by
  obtain ⟨zd, hzd, hzds, hzdv, hzdb, hzd1⟩ := zId_any
  have CN := Lib.hid (new_is w)
  have b1 := (Below.refl w.heap.size w).alloc (Nat.le_refl _) (.cells #[.map none] 66)
  have s1 := StoreP.new (fun j => j = w.heap.size) w rfl
  obtain ⟨w1, hw1⟩ : ∃ w1, w.alloc (.cells #[.map none] 66) = w1 := ⟨_, rfl⟩
  have z1 : w1.heap.size = w.heap.size + 1 := by rw [← hw1]; simp
  rw [hw1] at b1 s1
  obtain ⟨A1, hA1⟩ : ∃ A, arrD one1 = A := ⟨_, rfl⟩
  have BI := Lib.hid (show Tryz.prog.built 27 [(0, .int .u8 1)] = some A1 by rw [← hA1]; exact built_id1 1)
  obtain ⟨sA, hsA⟩ : ∃ s : ByteArray, (⟨#[100, 47, 97]⟩ : ByteArray) = s := ⟨_, rfl⟩
  obtain ⟨AF, hAF⟩ : ∃ A, arrF filA = A := ⟨_, rfl⟩
  have BF := Lib.hid (show Tryz.prog.built 29 [(0, .string sA), (1, .int .i64 1), (2, .agg A1)] = some AF by rw [← hsA, ← hA1, ← hAF]; exact built_fil 1 ⟨#[100, 47, 97]⟩ one1 rfl)
  have SF := Lib.hid (show AF.size = rowF.size by rw [← hAF]; exact arrF_size filA rfl)
  have b2 := (Below.refl w1.heap.size w1).alloc (Nat.le_refl _) (.cells AF rowF.ty)
  have h2 := heap_alloc_new w1 (.cells AF rowF.ty)
  obtain ⟨w2, hw2⟩ : ∃ w2, w1.alloc (.cells AF rowF.ty) = w2 := ⟨_, rfl⟩
  rw [hw2] at b2 h2
  have hat2 : FilesAt w2 (some ⟨w1.heap.size, 0, none⟩) [filA] := rowR_one (x := filA) goodF (h2.trans (by rw [← hAF]; rfl))
  have CW := write_one tab (b1.trans (b2.mono b1.size)) (Nat.le_refl _) (s1.below b2) hat2 (by omega) rfl (by decide)
  rw [awake_wr] at CW
  simp only at CW
  obtain ⟨AD, hAD⟩ : ∃ A, arrD dgA1 = A := ⟨_, rfl⟩
  rw [hAD] at CW
  have SZ := Lib.hid (show AD.size = 20 by rw [← hAD]; exact arrD_size _ rfl)
  have OD := Lib.hid (show AD.all (·.oneCell') = true by rw [← hAD]; exact arrD_one _)
  have ID := Lib.hid (show (Tryz.prog.info? 27).map (·.size) = some AD.size by rw [SZ.out]; exact info29)
  have CW := Lib.hid CW; have B2 := Lib.hid (b1.trans (b2.mono b1.size)); have HZ := Lib.hid hzds; have TB := Lib.hid tab; have HAD := Lib.hid hAD; have HSA := Lib.hid hsA; have Z1 := Lib.hid z1
  clear hzd hzds hzdb hzd1 b1 s1 b2 h2 hat2 hA1 hAF hAD tab
  go_enter Tryz.func9, Tryz.ntmps9
  rw [hsA]
  clear hsA
  go_wp2_with fail
  refine CN.out.mono ?_
  rintro e9 w1' ⟨rfl, rfl⟩
  rw [hw1]
  clear hw1 CN z1
  go_wp2_with (first
    | (refine wpList_build_one rfl 27 0 _ rfl _ rfl A1 BI.out ?_)
    | (refine wpList_build_three rfl 29 0 1 2 _ _ _ rfl _ _ _ rfl rfl rfl AF BF.out ?_)
    | (with_reducible refine wpList_build_oneR goodF rfl (.tmp 10) rfl AF SF.out rfl ?_)
    | fail)
  refine CW.out.mono ?_
  rintro e9 w3 ⟨rfl, h3, c3⟩
  have B3 := Lib.hid (B2.out.trans (c3.below B2.out.size (fun j _ q => Nat.le_of_eq q.symm)))
  have H3 := Lib.hid h3
  clear h3 c3 CW
  go_wp2_with (first
    | (with_reducible refine wpList_store_all rfl 27 (.tmp 2) (.tmp 13) rfl w3.heap.size AD rfl rfl 27 zd (heap_alloc_new _ _) ID.out (SZ.out.trans HZ.out.symm) OD.out ?_)
    | fail)
  intro w4 r4 off4 sz4
  have b4 : Below w3.heap.size w3 w4 := ((Below.refl w3.heap.size w3).alloc (Nat.le_refl _) (.cells zd 27)).trans (off4.below (Nat.le_refl _) (by simp))
  have B4 := Lib.hid (B3.out.trans (b4.mono B3.out.size))
  have H4 := Lib.hid (H3.out.below b4)
  have CR := Read_is TB.out H4.out B4.out rfl (by decide +kernel) awake_rd
  rw [HAD.out] at CR
  have CR := Lib.hid CR
  have R4 := Lib.hid r4
  clear r4 off4 sz4 b4
  go_wp2_with (first
    | (with_reducible refine wpList_load_all 27 (.tmp 2) rfl (by kernel_rfl) w3.heap.size AD 27 (0, 0) rfl R4.out _ Tryz.underlying27 rfl ID.out ?_)
    | fail)
  refine CR.out.mono ?_
  rintro e9 w5 ⟨v, rfl, hr, b5⟩
  obtain ⟨bb, oo, cc, rfl, -, -, hat, hbb⟩ := read_one hr rfl
  have q1 : w5.cell? ⟨bb, oo, none⟩ = some (.string sA) := by
    have := hat.elem 0 (by simp) 0 _ rfl
    rw [show oo + 0 * rowF.size + 0 = oo by omega] at this
    rw [this, ← HSA.out]
    rfl
  have CI := ids_few (H4.out.below b5) (by decide)
  rw [show (chC leafA idsA 2).length = 2 from rfl] at CI
  have CI := Lib.hid CI
  have B5 := Lib.hid (B4.out.trans (b5.mono B4.out.size))
  clear hr b5 hat hbb CR
  go_wp2_with fail
  refine CI.out.mono ?_
  rintro e9 w6 ⟨a6, c6, rfl, b6⟩
  have B6 := Lib.hid (B5.out.trans (b6.mono B5.out.size))
  clear b6 CI
  go_wp2
  go_ret
  exact ⟨rfl, B6.out⟩
end Go.Proofs.YtnohonjjfjppoaaGreatDoor

/-
  Files held against each other. (Made by tools/genfil13.py.)
-/
namespace Go.Proofs.YtnohonjjfjppoaaGreatDoor
set_option maxRecDepth 20000
open Go.RowKit
set_option linter.unusedVariables false
set_option linter.unusedSimpArgs false
theorem file_part0 (xs : Array Value) (v : Value) (u : World) (h : xs[0]? = some v) : (part 9 xs 0).run Tryz.prog u = .ok v u := by
  simp [part, isAgg, run_underlying Tryz.underlying9, h]
theorem file_part1 (xs : Array Value) (v : Value) (u : World) (h : xs[1]? = some v) : (part 3 xs 1).run Tryz.prog u = .ok v u := by
  simp [part, isAgg, run_underlying Tryz.underlying3, h]
theorem file_part2 (i : Fil) (hid : i.id.length = 20) (u : World) : (part 27 (arrF i) 2).run Tryz.prog u = .ok (idv i.id) u := by
  have hs : (sizeOf 27).run Tryz.prog u = .ok 20 u := Tryz.sizeOf27 u
  have hl : (Lib.byteCells i.id).length = 20 := by simp [Lib.byteCells, hid]
  have e : ((arrF i).extract 2 (2 + 20)) = (Lib.byteCells i.id).toArray := by
    apply Array.ext'
    unfold arrF
    rw [Array.toList_extract]
    simp only [List.extract, cellsF]
    show ((Lib.byteCells i.id)).take 20 = _
    rw [List.take_of_length_le (by omega)]
  simp [part, isAgg, run_underlying Tryz.underlying27, hs, idv]
  simpa using e
theorem file_fields : ∃ f0 f1 f2 : Field, (Tryz.prog.fieldsOf 29).toList = [f0, f1, f2] ∧ (f0.type = 9 ∧ f0.offset = 0 ∧ (f0.name == "_") = false) ∧ (f1.type = 3 ∧ f1.offset = 1 ∧ (f1.name == "_") = false) ∧ (f2.type = 27 ∧ f2.offset = 2 ∧ (f2.name == "_") = false) := by
  have h : (Tryz.prog.fieldsOf 29).toList.map (fun f => (f.type, f.offset, f.name == "_")) = [(9, 0, false), (3, 1, false), (27, 2, false)] := by kernel_rfl
  generalize (Tryz.prog.fieldsOf 29).toList = fs at h ⊢
  rcases fs with _ | ⟨f0, _ | ⟨f1, _ | ⟨f2, _ | ⟨f3, fs⟩⟩⟩⟩
  · cases h
  · exact absurd (congrArg List.length h) (by simp)
  · exact absurd (congrArg List.length h) (by simp)
  · simp only [List.map_cons, List.map_nil, List.cons.injEq, Prod.mk.injEq, and_true] at h
    exact ⟨f0, f1, f2, rfl, h.1, h.2.1, h.2.2⟩
  · exact absurd (congrArg List.length h) (by simp)
/-- Two items alike. -/
def eqF (i j : Fil) : Bool := (i.path == j.path) && ((i.mode == j.mode) && (i.id == j.id))
theorem eqF_iff (i j : Fil) : eqF i j = true ↔ i = j := by
  cases i; cases j
  simp [eqF]
theorem eqF_same (i : Fil) : eqF i i = true := (eqF_iff i i).2 rfl
theorem file_under : Tryz.prog.underlying 29 = some (.struct (Tryz.prog.fieldsOf 29)) := by kernel_rfl
theorem equalIn_file (d : Nat) (i j : Fil) (hi : i.id.length = 20) (hj : j.id.length = 20) (w : World) : (Op.equalIn (d + 3) 29 (.agg (arrF i)) (.agg (arrF j))).run Tryz.prog w = .ok (eqF i j) w := by
  obtain ⟨f0, f1, f2, hf, ⟨a0, b0, c0⟩, ⟨a1, b1, c1⟩, ⟨a2, b2, c2⟩⟩ := file_fields
  have n0 : f0.name ≠ "_" := by intro e; rw [e] at c0; simp at c0
  have n1 : f1.name ≠ "_" := by intro e; rw [e] at c1; simp at c1
  have n2 : f2.name ≠ "_" := by intro e; rw [e] at c2; simp at c2
  have p0 := fun k u => file_part0 (arrF k) (.string ⟨k.path.toArray⟩) u rfl
  have p1 := fun k u => file_part1 (arrF k) (.int .i64 k.mode) u rfl
  have e0 := fun u => run_equalIn_string (P := Tryz.prog) u (d + 1) 9 ⟨i.path.toArray⟩ ⟨j.path.toArray⟩ Tryz.underlying9
  have e1 := fun u => run_equalIn_int (P := Tryz.prog) u (d + 1) 3 .i64 .i64 i.mode j.mode Tryz.underlying3
  have e2 : ∀ u, (Op.equalIn (d + 1 + 1) 27 (idv i.id) (idv j.id)).run Tryz.prog u = .ok (i.id == j.id) u := fun u => run_equalIn_bytes (P := Tryz.prog) u d 27 5 20 Tryz.underlying27 Tryz.underlying5 Tryz.sizeOf5 i.id j.id hi hj
  have p2 := fun u => file_part2 i hi u
  have p3 := fun u => file_part2 j hj u
  rw [run_equalIn_struct w (d + 2) 29 _ _ file_under (by kernel_rfl), hf]
  unfold eqF
  rw [toList_mk, toList_mk] at e0
  generalize (i.path == j.path) = x at e0 ⊢
  generalize (i.mode == j.mode) = y at e1 ⊢
  generalize (i.id == j.id) = z at e2 ⊢
  simp only [Op.eqFields, n0, n1, n2, ne_eq, not_false_eq_true, if_true, Sem.run_bind, a0, b0, a1, b1, a2, b2, p0, p1, p2, p3, Result.andThen_ok, e0, e1, e2]
  cases x <;> cases y <;> cases z <;> simp [e1, e2, p1, p2, p3]
theorem eql_file (i j : Fil) (hi : i.id.length = 20) (hj : j.id.length = 20) (w : World) : (binOp .eql 29 (.agg (arrF i)) (.agg (arrF j))).run Tryz.prog w = .ok (.bool (eqF i j)) w := by
  have h := equalIn_file 9997 i j hi hj w
  rw [run_eql_struct]
  rw [show Op.equalIn 10000 = Op.equalIn (9997 + 3) from rfl, h]
  rfl
theorem info_arrF (a : Array Value) (h : a.size = 22) : (Tryz.prog.info? 29).map (·.size) = some a.size := by rw [h]; exact infoFile
end Go.Proofs.YtnohonjjfjppoaaGreatDoor

/-
  The helpers Same, Plain, Kept of the statements over files. (Made by tools/genfil13.py.)
-/
namespace Go.Proofs.YtnohonjjfjppoaaGreatDoor
set_option maxRecDepth 20000
open Go.RowKit
set_option linter.unusedVariables false
set_option linter.unusedSimpArgs false
set_option maxHeartbeats 2000000 in
theorem eq_file (i j : Fil) (hi : i.id.length = 20) (hj : j.id.length = 20) (w : World) :
    Calls Tryz.prog 41 #[.agg (arrF i), .agg (arrF j)] w fun e w' => e = .returned (.bool (eqF i j)) ∧ Below w.heap.size w w' := by
  have E := fun u => eql_file i j hi hj u
  have HA := Lib.hid (arrF_size i hi); have HB := Lib.hid (arrF_size j hj)
  generalize arrF i = A at *
  generalize arrF j = B at *
  generalize eqF i j = r at *
  have b1 := (Below.refl w.heap.size w).alloc (Nat.le_refl _) (.cells A 29)
  have b2 := b1.alloc b1.size (.cells B 29)
  have e1 : (w.alloc (.cells A 29)).heap.size = w.heap.size + 1 := by simp
  have h1 := (((Below.refl (w.alloc (.cells A 29)).heap.size (w.alloc (.cells A 29))).alloc (Nat.le_refl _) (.cells B 29)).block w.heap.size (by simp)).trans (heap_alloc_new w _)
  have h2 := heap_alloc_new (w.alloc (.cells A 29)) (.cells B 29)
  rw [e1] at h2
  have H1 := Lib.hid h1; have H2 := Lib.hid h2; have B2 := Lib.hid b2
  clear b1 b2 h1 h2 hi hj e1
  go_enter Tryz.func41, Tryz.ntmps41
  go_wp2_with (first
    | (with_reducible refine wpList_load_row rfl 29 (.tmp 2) rfl w.heap.size rfl 29 A (0, 0) _ H1.out Tryz.underlying29 rfl (info_arrF A HA.out) ?_)
    | (with_reducible refine wpList_load_row rfl 29 (.tmp 3) rfl (w.heap.size + 1) rfl 29 B (0, 0) _ H2.out Tryz.underlying29 rfl (info_arrF B HB.out) ?_))
  go_ret
  exact ⟨rfl, B2.out⟩
set_option maxHeartbeats 8000000 in
theorem SameFil_some (b1 o1 b2 o2 c1 c2 n : Nat) (l : List Fil) (w : World) (hn : n = l.length) (hm : n ≤ 1000000) (h1 : b1 < w.heap.size) (h2 : b2 < w.heap.size)
    (hc1 : ∀ k (h : k < l.length) j v, (cellsF l[k])[j]? = some v → w.cell? ⟨b1, o1 + k * 22 + j, none⟩ = some v) (hc2 : ∀ k (h : k < l.length) j v, (cellsF l[k])[j]? = some v → w.cell? ⟨b2, o2 + k * 22 + j, none⟩ = some v) (hid : ∀ i ∈ l, i.id.length = 20) :
    Calls Tryz.prog 40 #[.slice (some ⟨b1, o1, none⟩) n c1, .slice (some ⟨b2, o2, none⟩) n c2, .func (.func 41) #[] #[]] w fun e w' => e = .returned (.bool true) ∧ Below w.heap.size w w' := by
  have HC1 := Lib.hid hc1; have HC2 := Lib.hid hc2; have HID := Lib.hid hid; have HN := Lib.hid hn
  clear hc1 hc2 hid hn
  go_enter Tryz.func40, Tryz.ntmps40
  go_wp2_with fail
  go_loopw [7] (fun i wr => ∃ k : Nat, k ≤ n ∧ i = .int .i64 k ∧ Below w.heap.size w wr) (fun i _ => n - (intOf i).toNat)
  case atStart => exact ⟨0, Nat.zero_le _, rfl, Below.refl _ _⟩
  case round =>
    obtain ⟨k, hk, rfl, hbr⟩ := hrel
    have HBR := Lib.hid hbr
    clear hbr
    by_cases hlt : k < n
    · have hkl : k < l.length := by rw [← HN.out]; exact hlt
      obtain ⟨x, hx2⟩ : ∃ x, l[k] = x := ⟨_, rfl⟩
      have hidx := HID.out x (by rw [← hx2]; exact List.getElem_mem _)
      have r1 : ∀ u, Below wr.heap.size wr u → u.rangeAt b1 (o1 + k * 22) (cellsF x) := fun u hu j v hv =>
        (hu.cell (p := ⟨b1, o1 + k * 22 + j, none⟩) (Nat.lt_of_lt_of_le h1 HBR.out.size)).trans ((HBR.out.cell (p := ⟨b1, o1 + k * 22 + j, none⟩) h1).trans (HC1.out k hkl j v (by rw [hx2]; exact hv)))
      have r2 : ∀ u, Below wr.heap.size wr u → u.rangeAt b2 (o2 + k * 22) (cellsF x) := fun u hu j v hv =>
        (hu.cell (p := ⟨b2, o2 + k * 22 + j, none⟩) (Nat.lt_of_lt_of_le h2 HBR.out.size)).trans ((HBR.out.cell (p := ⟨b2, o2 + k * 22 + j, none⟩) h2).trans (HC2.out k hkl j v (by rw [hx2]; exact hv)))
      have ce : ∀ u, Below wr.heap.size wr u → Calls Tryz.prog 41 #[.agg (cellsF x).toArray, .agg (cellsF x).toArray] u fun e u' => e = .returned (.bool true) ∧ Below wr.heap.size wr u' := fun u hu =>
        (eq_file x x hidx hidx u).mono fun e u' h => ⟨by rw [h.1, eqF_same], hu.trans (h.2.mono hu.size)⟩
      have ll : (Tryz.prog.info? 29).map (·.size) = some (cellsF x).length := by rw [cellsF_len x hidx]; exact infoFile
      have R1 := Lib.hid r1; have R2 := Lib.hid r2; have CE := Lib.hid ce; have LX := Lib.hid ll
      clear r1 r2 ce ll hx2 hidx
      generalize cellsF x = cx at *
      go_wp2_with fail
      refine wp_region_held_drew (S := fun u => Below wr.heap.size wr u) (by kernel_rfl) (Below.refl _ _).drew (fun hHeld => ?_)
      refine wpAnyH_take (i := 0) (v := ?hv0) rfl (by kernel_rfl) (by kernel_rfl) (by kernel_rfl) (fun _ _ _ h => h) (Or.inl ⟨by kernel_rfl, ?hy0⟩) hHeld ?_
      case hy0 => intro u hu; go_simp; try with_reducible rfl
      try simp only [Act.put, List.setIfInBounds_toArray, List.set_cons_zero, List.set_cons_succ]
      refine wpAnyH_take (i := 1) (v := ?hv1) rfl (by kernel_rfl) (by kernel_rfl) (by kernel_rfl) (fun _ _ _ h => h) (Or.inl ⟨by kernel_rfl, ?hy1⟩) hHeld ?_
      case hy1 => intro u hu; go_simp; try with_reducible rfl
      try simp only [Act.put, List.setIfInBounds_toArray, List.set_cons_zero, List.set_cons_succ]
      refine wpAnyH_take (i := 2) (v := ?hv2) rfl (by kernel_rfl) (by kernel_rfl) (by kernel_rfl) (fun _ _ _ h => h) (Or.inl ⟨by kernel_rfl, ?hy2⟩) hHeld ?_
      case hy2 => intro u hu; go_simp; try with_reducible rfl
      try simp only [Act.put, List.setIfInBounds_toArray, List.set_cons_zero, List.set_cons_succ]
      refine wpAnyH_take (i := 3) (v := ?hv3) rfl (by kernel_rfl) (by kernel_rfl) (by kernel_rfl) (fun _ _ _ h => h) (Or.inl ⟨by kernel_rfl, ?hy3⟩) hHeld ?_
      case hy3 => intro u hu; go_simp; try with_reducible rfl
      try simp only [Act.put, List.setIfInBounds_toArray, List.set_cons_zero, List.set_cons_succ]
      refine wpAnyH_take (i := 4) rfl (by kernel_rfl) (by kernel_rfl) (by kernel_rfl) (fun _ _ _ h => h) (yieldsIf_load_mid (by kernel_rfl) 29 (.tmp 22) (by kernel_rfl) b1 (o1 + k * 22) (by kernel_rfl) cx _ (fun u hu => R1.out u hu) Tryz.underlying29 rfl LX.out) hHeld ?_
      try simp only [Act.put, List.setIfInBounds_toArray, List.set_cons_zero, List.set_cons_succ]
      refine wpAnyH_take (i := 5) (v := ?hv5) rfl (by kernel_rfl) (by kernel_rfl) (by kernel_rfl) (fun _ _ _ h => h) (Or.inl ⟨by kernel_rfl, ?hy5⟩) hHeld ?_
      case hy5 => intro u hu; go_simp; try with_reducible rfl
      try simp only [Act.put, List.setIfInBounds_toArray, List.set_cons_zero, List.set_cons_succ]
      refine wpAnyH_take (i := 6) (v := ?hv6) rfl (by kernel_rfl) (by kernel_rfl) (by kernel_rfl) (fun _ _ _ h => h) (Or.inl ⟨by kernel_rfl, ?hy6⟩) hHeld ?_
      case hy6 => intro u hu; go_simp; try with_reducible rfl
      try simp only [Act.put, List.setIfInBounds_toArray, List.set_cons_zero, List.set_cons_succ]
      refine wpAnyH_take (i := 7) (v := ?hv7) rfl (by kernel_rfl) (by kernel_rfl) (by kernel_rfl) (fun _ _ _ h => h) (Or.inl ⟨by kernel_rfl, ?hy7⟩) hHeld ?_
      case hy7 => intro u hu; go_simp; try with_reducible rfl
      try simp only [Act.put, List.setIfInBounds_toArray, List.set_cons_zero, List.set_cons_succ]
      refine wpAnyH_take (i := 8) rfl (by kernel_rfl) (by kernel_rfl) (by kernel_rfl) (fun _ _ _ h => h) (yieldsIf_load_mid (by kernel_rfl) 29 (.tmp 26) (by kernel_rfl) b2 (o2 + k * 22) (by kernel_rfl) cx _ (fun u hu => R2.out u hu) Tryz.underlying29 rfl LX.out) hHeld ?_
      try simp only [Act.put, List.setIfInBounds_toArray, List.set_cons_zero, List.set_cons_succ]
      refine wpAnyH_ready (rs := [9]) (by kernel_rfl) (by simp) ?_
      refine AllReadyH.cons rfl (fun K hK => ?_) AllReadyH.nil
      go_simp
      refine (CE.out _ hHeld).mono ?_
      rintro e u1 ⟨rfl, hH⟩
      clear hHeld
      refine hK.out _ _ hH (fun hHeld => ?_)
      clear hK K
      try simp only [Act.put, List.setIfInBounds_toArray, List.set_cons_zero, List.set_cons_succ]
      refine wpAnyH_take (i := 10) (v := ?hv10) rfl (by kernel_rfl) (by kernel_rfl) (by kernel_rfl) (fun _ _ _ h => h) (Or.inl ⟨by kernel_rfl, ?hy10⟩) hHeld ?_
      case hy10 => intro u hu; go_simp; try with_reducible rfl
      try simp only [Act.put, List.getElem_toArray, List.getElem_cons_succ, List.getElem_cons_zero, List.setIfInBounds_toArray, List.set_cons_zero, List.set_cons_succ]
      refine wpAnyH_done (by kernel_rfl) ?_ _
      have HB2 := Lib.hid (HBR.out.trans (hHeld.mono HBR.out.size))
      clear hHeld
      go_wp2
      go_roundw
      case rel => exact ⟨k + 1, by omega, by go_num, HB2.out⟩
      case measure => simp [intOf]; omega
    · obtain rfl : k = n := by omega
      go_wp2
      go_ret
      exact ⟨rfl, HBR.out⟩
end Go.Proofs.YtnohonjjfjppoaaGreatDoor
