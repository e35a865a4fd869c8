/-
  Layer 5: read of the program.
-/
import Derived.Test.YtjlgihdlcfanbaaFk
import Derived.Test.YtjlgihdlcfanbaaFb
import Derived.Laws.ResultCell
import Derived.Deep.QuietTactic
import Derived.BigQuiet
namespace Go.Proofs.Ytjlgihdlcfanbaa
open Go.RowKit
set_option linter.unusedVariables false
set_option linter.unusedSimpArgs false

abbrev rec0 : Array Value := #[.int .i64 0, .slice none 0 0, .int .i64 0]
theorem infoRec : (Try.prog.info? 52).map (·.size) = some 3 := by kernel_rfl
theorem results_tmp4 {fn : Func} {t u v x : Tmp} (h : fn.results = #[.tmp t, .tmp u, .tmp v, .tmp x]) (tmps : Array Value) (P : Program) (w : World) :
    (results fn tmps).run P w = .ok (.tuple #[tmps.getD t undef, tmps.getD u undef, tmps.getD v undef, tmps.getD x undef]) w := by
  simp [results, h]
theorem infoRec0 : (Try.prog.info? 52).map (·.size) = some rec0.size := infoRec
theorem one_rec0 : rec0.all (·.oneCell') = true := by kernel_rfl
theorem results_rec {fn : Func} (h : fn.results = #[.cell 2 52, .tmp 3]) (tmps : Array Value) (w : World) (g : Nat) (cs : Array Value) (fr : Nat × Nat) (x : Value)
    (hp : tmps.getD 2 undef = .pointer (some ⟨g, 0, none⟩)) (hx : tmps.getD 3 undef = x) (hg : w.heap[g]? = some (.cells cs 52 fr)) (hn : cs.size = 3) :
    (results fn tmps).run Try.prog w = .ok (.tuple #[.agg cs, x]) w := by
  rw [results_cell_tmp h, hp, hx]
  have e : (asAddr (.pointer (some ⟨g, 0, none⟩))).run Try.prog w = .ok ⟨g, 0, none⟩ w := rfl
  rw [e]
  simp only [Result.andThen_ok]
  rw [run_loadVar_row w g 52 52 cs fr _ hg Try.underlying52 rfl (by rw [infoRec, hn])]
  rfl
set_option maxHeartbeats 4000000 in
theorem read_0 (a : Option Addr) (c : Nat) (w : World) :
    Calls Try.prog 24 #[.slice a 0 c] w fun e w' => e = .returned (.tuple #[.agg rec0, .int .i64 3]) ∧ Below w.heap.size w w' := by
  go_enter Try.func24, Try.ntmps24
  go_wp2_with fail
  refine bodyPost_ret (results_rec Try.results24 _ _ w.heap.size rec0 (0, 0) _ rfl rfl (heap_alloc_new w _) rfl) rfl ⟨rfl, (Below.refl _ w).alloc (Nat.le_refl _) _⟩
set_option maxHeartbeats 4000000 in
theorem read_mark (b o n c : Nat) (x : Int) (w : World) (h0 : 0 < n) (hm : n ≤ maxLen) (hb : b < w.heap.size) (hx : w.cell? ⟨b, o, none⟩ = some (.int .u8 x)) (hne : x ≠ 254) :
    Calls Try.prog 24 #[.slice (some ⟨b, o, none⟩) n c] w fun e w' => e = .returned (.tuple #[.agg rec0, .int .i64 4]) ∧ Below w.heap.size w w' := by
  unfold maxLen at hm
  have hx1 : (w.alloc (.cells rec0 52)).cell? ⟨b, o, none⟩ = some (.int .u8 x) := (World.cell?_alloc_lt w _ ⟨b, o, none⟩ hb).trans hx
  clear hx
  go_enter Try.func24, Try.ntmps24
  go_wp2_with fail
  refine bodyPost_ret (results_rec Try.results24 _ _ w.heap.size rec0 (0, 0) _ rfl rfl (heap_alloc_new w _) rfl) rfl ⟨rfl, (Below.refl _ w).alloc (Nat.le_refl _) _⟩
set_option maxHeartbeats 4000000 in
theorem read_short (b o n c : Nat) (w : World) (h0 : 0 < n) (h6 : n < 6) (hb : b < w.heap.size) (hx : w.cell? ⟨b, o, none⟩ = some (.int .u8 254)) :
    Calls Try.prog 24 #[.slice (some ⟨b, o, none⟩) n c] w fun e w' => e = .returned (.tuple #[.agg rec0, .int .i64 3]) ∧ Below w.heap.size w w' := by
  have hx1 : (w.alloc (.cells rec0 52)).cell? ⟨b, o, none⟩ = some (.int .u8 254) := (World.cell?_alloc_lt w _ ⟨b, o, none⟩ hb).trans hx
  clear hx
  go_enter Try.func24, Try.ntmps24
  go_wp2_with fail
  refine bodyPost_ret (results_rec Try.results24 _ _ w.heap.size rec0 (0, 0) _ rfl rfl (heap_alloc_new w _) rfl) rfl ⟨rfl, (Below.refl _ w).alloc (Nat.le_refl _) _⟩
/-- The head of a frame, in cells. -/
structure HeadAt (w : World) (b o : Nat) (x1 x2 x3 x4 x5 : Int) : Prop where
  lt : b < w.heap.size
  c0 : w.cell? ⟨b, o, none⟩ = some (.int .u8 254)
  c1 : w.cell? ⟨b, o + 1, none⟩ = some (.int .u8 x1)
  c2 : w.cell? ⟨b, o + 2, none⟩ = some (.int .u8 x2)
  c3 : w.cell? ⟨b, o + 3, none⟩ = some (.int .u8 x3)
  c4 : w.cell? ⟨b, o + 4, none⟩ = some (.int .u8 x4)
  c5 : w.cell? ⟨b, o + 5, none⟩ = some (.int .u8 x5)
  r1 : 0 ≤ x1 ∧ x1 < 256
  r2 : 0 ≤ x2 ∧ x2 < 256
  r3 : 0 ≤ x3 ∧ x3 < 256
  r4 : 0 ≤ x4 ∧ x4 < 256
  r5 : 0 ≤ x5 ∧ x5 < 256
theorem HeadAt.below {w w' : World} {b o : Nat} {x1 x2 x3 x4 x5 : Int} (h : HeadAt w b o x1 x2 x3 x4 x5) {B : Nat} (hb : Below B w w') (hB : b < B) : HeadAt w' b o x1 x2 x3 x4 x5 :=
  have e : ∀ i, w'.cell? ⟨b, i, none⟩ = w.cell? ⟨b, i, none⟩ := fun i => hb.cell (p := ⟨b, i, none⟩) hB
  ⟨Nat.lt_of_lt_of_le h.lt (by by_cases hh : w.heap.size ≤ w'.heap.size; exact hh; exact absurd hb.size (by have := h.lt; omega)), (e _).trans h.c0, (e _).trans h.c1, (e _).trans h.c2, (e _).trans h.c3, (e _).trans h.c4, (e _).trans h.c5, h.r1, h.r2, h.r3, h.r4, h.r5⟩
theorem word32 {x2 x3 x4 x5 : Int} (h2 : 0 ≤ x2 ∧ x2 < 256) (h3 : 0 ≤ x3 ∧ x3 < 256) (h4 : 0 ≤ x4 ∧ x4 < 256) (h5 : 0 ≤ x5 ∧ x5 < 256) :
    bits .or .u32 (bits .or .u32 (bits .or .u32 (x2 * 16777216) (x3 * 65536)) (x4 * 256)) x5 = x2 * 16777216 + x3 * 65536 + x4 * 256 + x5 := word_or .u32 32 (by decide) (by decide) wraps_u32 _ _ _ _ h2 h3 h4 h5
theorem set3 {w : World} {g : Nat} {p q r : Value} {t : TypeId} {fr : Nat × Nat} (hg : w.heap[g]? = some (.cells #[p, q, r] t fr)) (x y z : Value) :
    (((w.setCell ⟨g, 0, none⟩ x).setCell ⟨g, 1, none⟩ y).setCell ⟨g, 2, none⟩ z).heap[g]? = some (.cells #[x, y, z] t fr) :=
  heap_put (heap_put (heap_put hg x) y) z
theorem below_set3 {B : Nat} {a w : World} (h : Below B a w) {g : Nat} (hB : B ≤ g) (x y z : Value) : Below B a (((w.setCell ⟨g, 0, none⟩ x).setCell ⟨g, 1, none⟩ y).setCell ⟨g, 2, none⟩ z) :=
  ((h.setCell (p := ⟨g, 0, none⟩) hB x).setCell (p := ⟨g, 1, none⟩) hB y).setCell (p := ⟨g, 2, none⟩) hB z
theorem index_u8c (w : World) (b o n c k : Nat) (hk : k < n) (i : Int) (hi : i = (k : Int)) :
    (Instr.indexAt 22 (.slice (some ⟨b, o, none⟩) n c) (.int .i64 i)).run Try.prog w = .ok (.pointer (some ⟨b, o + k, none⟩)) w := by
  have ee : Try.prog.elem 22 = 5 := by kernel_rfl
  rw [run_indexAt_slice w 22 ⟨b, o, none⟩ n c .i64 i (by rw [ee]; exact Try.underlying22), if_pos (by omega), ee, size_u8]
  simp only [Result.andThen_ok, show i.toNat = k by omega, Nat.mul_one, addr_add]
/-- What read tells of six bytes and more behind the mark. -/
def bigE (n N : Nat) (ok : Bool) : Nat := if 131172 < N then 5 else if n < 14 + N then 3 else if ok = true then 0 else 15
def bigV (b o c n N : Nat) (x : Int) (ok : Bool) : Value := .agg (if bigE n N ok = 0 then #[.int .i64 x, .slice (some ⟨b, o + 6, none⟩) N (c - 6), .int .i64 ((14 + N : Nat) : Int)] else rec0)
def bigOk (l : List UInt8) (N : Nat) : Bool := (sumL (l.take (6 + N))).take 8 == (l.drop (6 + N)).take 8
theorem BAt.cut {w : World} {b o : Nat} {l : List UInt8} (h : BAt w (some ⟨b, o, none⟩) l) (i n : Nat) (hi : i + n ≤ l.length) : BAt w (some ⟨b, o + i, none⟩) ((l.drop i).take n) := fun hp => by
  have hl : ((l.drop i).take n).length = n := by rw [List.length_take, List.length_drop]; omega
  obtain ⟨b', o', e, hb, hc⟩ := h (by omega)
  cases e
  refine ⟨b, o + i, rfl, hb, fun j hj => ?_⟩
  rw [Nat.add_assoc, hc (i + j) (by omega)]
  simp
theorem BAt.first {w : World} {b o : Nat} {l : List UInt8} (h : BAt w (some ⟨b, o, none⟩) l) (n : Nat) (hn : n ≤ l.length) : BAt w (some ⟨b, o, none⟩) (l.take n) := by
  have := h.cut 0 n (by omega)
  rwa [List.drop_zero, Nat.add_zero] at this
set_option maxHeartbeats 16000000 in
theorem read_big (b o n c : Nat) (l : List UInt8) (N : Nat) (x1 x2 x3 x4 x5 : Int) (w : World) (h6 : 6 ≤ n) (hc : n ≤ c) (hm : c ≤ maxLen) (hn : n = l.length) (hbat : BAt w (some ⟨b, o, none⟩) l) (hh : HeadAt w b o x1 x2 x3 x4 x5)
    (hN : x2 * 16777216 + x3 * 65536 + x4 * 256 + x5 = (N : Int)) :
    Calls Try.prog 24 #[.slice (some ⟨b, o, none⟩) n c] w fun e w' => e = .returned (.tuple #[bigV b o c n N x1 (bigOk l N), .int .i64 (bigE n N (bigOk l N))]) ∧ Below w.heap.size w w' := by
  unfold maxLen at hm
  obtain ⟨z, hz, hze⟩ := z29
  have hzv := zero_arr hz
  have hzs : z.size = 20 := by rw [hze]; simp
  have HZS := Lib.hid hzs
  have hb1 := (Below.refl w.heap.size w).alloc (Nat.le_refl _) (.cells rec0 52)
  have h1 := hh.below hb1 hh.lt
  have HBA := Lib.hid hbat; have HLN := Lib.hid hn
  obtain ⟨_, c0, c1, c2, c3, c4, c5, r1, r2, r3, r4, r5⟩ := h1
  have hw := word32 r2 r3 r4 r5
  rw [hN] at hw
  obtain ⟨r10, r11⟩ := r1; obtain ⟨r20, r21⟩ := r2; obtain ⟨r30, r31⟩ := r3; obtain ⟨r40, r41⟩ := r4; obtain ⟨r50, r51⟩ := r5
  have HN := Lib.hid hN; have HH := Lib.hid hh; have HB1 := Lib.hid hb1
  clear hh hN hz hze hzs hbat hn hb1
  obtain ⟨ok, hok⟩ : ∃ ok, bigOk l N = ok := ⟨_, rfl⟩
  rw [hok]
  obtain ⟨V, hV⟩ : ∃ V, bigV b o c n N x1 ok = V := ⟨_, rfl⟩
  obtain ⟨E, hE⟩ : ∃ E : Int, ((bigE n N ok : Nat) : Int) = E := ⟨_, rfl⟩
  rw [hV, hE]
  have HOK := Lib.hid hok; have HV := Lib.hid hV; have HE := Lib.hid hE
  clear hok hV hE
  go_enter Try.func24, Try.ntmps24
  go_wp2_with fail
  go_quiet (fail)
  have hbq : Below w.heap.size w ((w.alloc (.cells rec0 52)).drewN nq) := below_drewN HB1.out _
  have hrq : ((w.alloc (.cells rec0 52)).drewN nq).heap[w.heap.size]? = some (.cells rec0 52 (0, 0)) := heap_alloc_new w _
  generalize hwq : (w.alloc (.cells rec0 52)).drewN nq = wq at hbq hrq
  have HRQ := Lib.hid hrq
  clear hwq c0 c1 c2 c3 c4 c5 hrq
  by_cases hl : 131172 < N
  · have he : bigE n N ok = 5 := by unfold bigE; rw [if_pos hl]
    have hv : V = .agg rec0 := by rw [← HV.out]; unfold bigV; rw [he, if_neg (by decide)]
    have he2 : E = 5 := by rw [← HE.out, he]; rfl
    subst hv
    subst he2
    have hl2 : (131172 : Int) < (N : Int) := by omega
    clear HE HV
    go_wp2_with (first
      | (with_reducible refine wpList_store_row rfl 52 _ _ rfl w.heap.size rec0 rfl rfl 52 rec0 HRQ.out infoRec0 rfl one_rec0 ?_)
      | fail)
    refine bodyPost_ret (results_rec Try.results24 _ _ w.heap.size rec0 (0, 0) _ rfl rfl (setRow_heap wq w.heap.size rec0 rec0 _ (0, 0) HRQ.out) rfl) rfl ⟨rfl, below_setRow hbq (Nat.le_refl _) _⟩
  · by_cases hs : n < 14 + N
    · have he : bigE n N ok = 3 := by unfold bigE; rw [if_neg hl, if_pos hs]
      have hv : V = .agg rec0 := by rw [← HV.out]; unfold bigV; rw [he, if_neg (by decide)]
      have he2 : E = 3 := by rw [← HE.out, he]; rfl
      subst hv
      subst he2
      have hl2 : ¬ ((131172 : Int) < (N : Int)) := by omega
      have hs2 : (n : Int) < 6 + (N : Int) + 8 := by omega
      clear HE HV
      go_wp2_with (first
        | (with_reducible refine wpList_store_row rfl 52 _ _ rfl w.heap.size rec0 rfl rfl 52 rec0 HRQ.out infoRec0 rfl one_rec0 ?_)
        | fail)
      refine bodyPost_ret (results_rec Try.results24 _ _ w.heap.size rec0 (0, 0) _ rfl rfl (setRow_heap wq w.heap.size rec0 rec0 _ (0, 0) HRQ.out) rfl) rfl ⟨rfl, below_setRow hbq (Nat.le_refl _) _⟩
    · have hl2 : ¬ ((131172 : Int) < (N : Int)) := by omega
      obtain ⟨M, hM⟩ : ∃ M : Nat, 6 + N = M := ⟨_, rfl⟩
      obtain ⟨Z, hZ⟩ : ∃ Z : Nat, M + 8 = Z := ⟨_, rfl⟩
      have hM2 : 6 + (N : Int) = (M : Int) := by omega
      have hZ2 : (M : Int) + 8 = (Z : Int) := by omega
      have hZn : Z ≤ n := by omega
      have HM := Lib.hid hM; have HZ := Lib.hid hZ
      have hslA := fun u => slice_head (some ⟨b, o, none⟩) n c M M rfl (by omega) u
      have hslB := fun u => slice_u8_lh u (some ⟨b, o, none⟩) n c M Z (by omega) (by omega) M Z rfl rfl
      have hslC := fun u => slice_u8_lh u (some ⟨b, o, none⟩) n c 6 M (by omega) (by omega) 6 M rfl rfl
      rw [if_neg (by omega), show Z - M = 8 by omega] at hslB
      rw [if_neg (by omega), show M - 6 = N by omega] at hslC
      simp only [Option.map_some, addr_add] at hslB hslC
      clear hM hZ hl hs
      have hdr : (l.drop M).take 8 = (l.drop (6 + N)).take 8 := by rw [HM.out]
      obtain ⟨arr, hia, haa⟩ := idv_cells (sumL (l.take M))
      have htl : (l.take M).length = M := by rw [List.length_take, ← HLN.out]; omega
      have hbw : BAt wq (some ⟨b, o, none⟩) l := HBA.out.below hbq (Nat.le_refl _)
      have hpa : PartAt wq (.slice (some ⟨b, o, none⟩) M c) (l.take M) := ⟨_, c, by rw [htl], hbw.first M (by rw [← HLN.out]; omega), (fun h => by cases h), by rw [htl]; omega, by rw [htl]; unfold maxLen; omega⟩
      have hfl : [l.take M].flatten = l.take M := by simp
      have C1 := Sum_parts _ (some ⟨wq.heap.size, 0, none⟩) 1 1 [l.take M] rfl (by omega) (by rw [hfl, htl]; omega) (parts1 22 hpa)
      rw [hfl, hia] at C1
      have hasz : arr.size = 20 := by rw [haa]; simp [bc_len, sumL, digest_len]
      have hall : arr.all (·.oneCell') = true := by rw [haa]; exact bc_all _
      have CS := Lib.hid C1; have HASZ := Lib.hid hasz; have HALL := Lib.hid hall; have HAA := Lib.hid haa; have HBW := Lib.hid hbw; have HTL := Lib.hid htl
      clear hia haa hasz hall C1 hpa hfl hbw htl
      go_wp2_with fail
      refine CS.out.mono ?_
      rintro e w1 ⟨rfl, hb1⟩
      have hbq1 : Below wq.heap.size wq w1 := ((Below.refl _ wq).alloc (Nat.le_refl _) _).trans (hb1.mono (by simp))
      have HR1 := Lib.hid ((hbq1.block _ (lt_of_heap HRQ.out)).trans HRQ.out)
      have HBW1 := Lib.hid (HBW.out.keep hbq1)
      have HB01 := Lib.hid (hbq.trans (hbq1.mono hbq.size))
      have hslD := fun u => slice20_h u w1.heap.size 8 (by omega) 8 rfl
      clear CS hb1 hbq1
      go_wp2_with (first
        | (with_reducible refine wpList_store_row rfl 47 (.tmp 7) (.tmp 60) rfl w1.heap.size arr rfl rfl 47 z (heap_alloc_new w1 _) (by rw [info29, HASZ.out]) (by rw [HZS.out, HASZ.out]) HALL.out ?_)
        | fail)
      have h2 : ((w1.alloc (.cells z 47)).setRow w1.heap.size arr).heap[w1.heap.size]? = some (.cells arr 47 (0, 0)) := setRow_heap _ _ z arr _ _ (heap_alloc_new w1 _)
      have hb12 : Below w1.heap.size w1 ((w1.alloc (.cells z 47)).setRow w1.heap.size arr) := below_setRow ((Below.refl _ w1).alloc (Nat.le_refl _) _) (Nat.le_refl _) arr
      generalize (w1.alloc (.cells z 47)).setRow w1.heap.size arr = w2 at h2 hb12 ⊢
      have hl8 : ((sumL (l.take M)).take 8).length = 8 := by rw [List.length_take, sumL_len]; rfl
      have hm8 : ((l.drop M).take 8).length = 8 := by rw [List.length_take, List.length_drop, ← HLN.out]; have := HZ.out; omega
      have hokv : ((sumL (l.take M)).take 8 == (l.drop M).take 8) = ok := by rw [← HOK.out, ← HM.out]; rfl
      have CE : ∀ q, Calls Try.prog 36 #[.slice (some ⟨w1.heap.size, 0, none⟩) 8 20, .slice (some ⟨b, o + M, none⟩) 8 (c - M)] (w2.drewN q) fun e w' => e = .returned (.bool ok) ∧ w' = w2.drewN q := fun q => by
        have hI : BAt (w2.drewN q) (some ⟨w1.heap.size, 0, none⟩) ((sumL (l.take M)).take 8) := id_bat (w := w2.drewN q) h2 HAA.out 8
        have hJ : BAt (w2.drewN q) (some ⟨b, o + M, none⟩) ((l.drop M).take 8) := (HBW1.out.keep (below_drewN hb12 q)).cut M 8 (by rw [← HLN.out]; have := HZ.out; omega)
        refine (bEqual_any _ _ 8 8 20 (c - M) _ _ _ hI hJ hl8.symm hm8.symm).mono ?_
        rintro e w' ⟨rfl, rfl⟩
        exact ⟨by rw [hokv], rfl⟩
      have HCE := Lib.hid CE
      have HR2 := Lib.hid ((hb12.block _ (lt_of_heap HR1.out)).trans HR1.out)
      have HB02 := Lib.hid (HB01.out.trans (hb12.mono HB01.out.size))
      have hq1 : w2.cell? ⟨b, o + 1, none⟩ = some (.int .u8 x1) := (HB02.out.cell (p := ⟨b, o + 1, none⟩) HH.out.lt).trans HH.out.c1
      clear h2 hb12 hl8 hm8 hokv CE HBW1 HR1
      go_quiet ((go_at_call 36; exact Calls.quiet_of_same (HCE.out _)))
      have hb3 : Below w.heap.size w (w2.drewN nq) := below_drewN HB02.out _
      have hq3 : (w2.drewN nq).cell? ⟨b, o + 1, none⟩ = some (.int .u8 x1) := hq1
      have HR3 := Lib.hid (show (w2.drewN nq).heap[w.heap.size]? = some (.cells rec0 52 (0, 0)) from HR2.out)
      generalize w2.drewN nq = w3 at hb3 hq3 HR3 ⊢
      clear hq1 HR2 HB02 HCE
      have hE0 : ¬ 131172 < N := by omega
      have hE1 : ¬ n < 14 + N := by have := HM.out; have := HZ.out; omega
      cases ok with
      | false =>
        have he : bigE n N false = 15 := by unfold bigE; rw [if_neg hE0, if_neg hE1, if_neg (by decide)]
        have hv : V = .agg rec0 := by rw [← HV.out]; unfold bigV; rw [he, if_neg (by decide)]
        have he2 : E = 15 := by rw [← HE.out, he]; rfl
        subst hv
        subst he2
        clear HE HV
        go_wp2_with (first
          | (with_reducible refine wpList_store_row rfl 52 _ _ rfl w.heap.size rec0 rfl rfl 52 rec0 HR3.out infoRec0 rfl one_rec0 ?_)
          | fail)
        refine bodyPost_ret (results_rec Try.results24 _ _ w.heap.size rec0 (0, 0) _ rfl rfl (setRow_heap w3 w.heap.size rec0 rec0 _ (0, 0) HR3.out) rfl) rfl ⟨rfl, below_setRow hb3 (Nat.le_refl _) _⟩
      | true =>
        have he : bigE n N true = 0 := by unfold bigE; rw [if_neg hE0, if_neg hE1, if_pos rfl]
        obtain ⟨R, hR⟩ : ∃ R : Array Value, R = #[.int .i64 x1, .slice (some ⟨b, o + 6, none⟩) N (c - 6), .int .i64 (Z : Int)] := ⟨_, rfl⟩
        have hv : V = .agg R := by
          rw [← HV.out, hR]; unfold bigV; rw [he, if_pos rfl]
          have : 14 + N = Z := by have := HM.out; have := HZ.out; omega
          rw [this]
        have he2 : E = 0 := by rw [← HE.out, he]; rfl
        have hR3 : R.size = 3 := by rw [hR]; rfl
        have hR1 : R.all (·.oneCell') = true := by rw [hR]; simp [Value.oneCell']
        subst hv
        subst he2
        clear HE HV
        have hq4 : (World.drew w3).cell? ⟨b, o + 1, none⟩ = some (.int .u8 x1) := hq3
        have hwx : IntKind.i64.wrap x1 = x1 := wraps_i64 x1 (by omega) (by omega)
        have hix := fun u => index_u8c u b o n c 1 (by omega) 1 rfl
        go_wp2_with fail
        go_still_tail 9, (by kernel_rfl)
        change wpList _ _ _ _ _ w3.drew
        have hr4 : (World.drew w3).heap[w.heap.size]? = some (.cells rec0 52 (0, 0)) := HR3.out
        have hb4 : Below w.heap.size w (World.drew w3) := hb3.drew
        generalize World.drew w3 = w4 at hr4 hb4 ⊢
        subst hR
        have HR4 := Lib.hid hr4
        refine wpList_store_row rfl 52 (.tmp 2) (.tmp 77) rfl w.heap.size _ rfl rfl 52 rec0 hr4 infoRec rfl hR1 ?_
        clear hr4 hR1 hq3 hq4 hR3
        go_wp2_with fail
        refine bodyPost_ret (results_rec Try.results24 _ _ w.heap.size _ (0, 0) _ rfl rfl (setRow_heap w4 w.heap.size rec0 _ _ (0, 0) HR4.out) rfl) rfl ⟨rfl, below_setRow hb4 (Nat.le_refl _) _⟩
end Go.Proofs.Ytjlgihdlcfanbaa
