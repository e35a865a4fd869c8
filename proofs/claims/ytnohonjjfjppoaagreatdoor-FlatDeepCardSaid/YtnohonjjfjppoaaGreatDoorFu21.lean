/-
  Texts that belong together, one behind the other.
-/
import Derived.Test.YtnohonjjfjppoaaGreatDoorFu20
import Derived.Test.YtnohonjjfjppoaaGreatDoorFu15
import Derived.Lib.AppendZeros
/-
  Layer 2: Sum of the program, of parts of which some may be nil.
-/
namespace Go.Proofs.YtnohonjjfjppoaaGreatDoor
set_option maxRecDepth 20000
open Go.RowKit
set_option linter.unusedVariables false
set_option linter.unusedSimpArgs false
set_option maxHeartbeats 4000000 in
theorem add_zero (w : World) (g : Nat) (T : Nat → UInt8) (p n : Nat) (A : Option Addr) (c : Nat) (hst : StT w g T p n) (hns : n ≤ 1099511627776) :
    Calls Tryz.prog 110 #[.pointer (some ⟨g, 0, none⟩), .slice A 0 c] w fun e w' => e = .returned (.tuple #[]) ∧ w.grownBy w' (some g) ∧ StT w' g T (p + 0) (n + 0) := by
  obtain ⟨cs, hg, hc⟩ := hst
  have q70 : w.cell? ⟨g, 70, none⟩ = some (.int .u64 n) := (cell_of_row w g 70 cs _ _ hg).trans hc.len
  have z70 := not_frozen hg 70
  have hgl := lt_of_heap hg
  have HG := Lib.hid hg; clear hg
  have HS := Lib.hid hc; clear hc
  go_enter Tryz.func110, Tryz.ntmps110
  go_wp2_with fail
  refine wp_loop_rounds 1 ?_
  rw [rounds_succ]
  go_wp2_with fail
  first | go_end0 | (simp only [Exit.inBlock, Exit.then]; refine bodyPost_ret (results_none rfl _ _ _) rfl ?_) | refine bodyPost_ret (results_none rfl _ _ _) rfl ?_
  refine ⟨rfl, grown_set w g 70 _, ?_⟩
  have e : ∀ i, i ≠ 70 → (cs.setIfInBounds 70 (.int .u64 (n : Int)))[i]? = cs[i]? := fun i hi => by rw [set_get _ _ _ _ (by rw [HS.out.words.size]; omega), if_neg hi]
  refine ⟨_, heap_set HG.out 70 _, ⟨⟨by simp [HS.out.words.size], fun i hi => by rw [e i (by omega)]; exact HS.out.words.word i hi⟩, fun i hi => by rw [e _ (by omega)]; exact HS.out.bytes i hi, by rw [e 69 (by omega)]; exact HS.out.fill, ?_⟩⟩
  rw [set_get _ _ _ _ (by rw [HS.out.words.size]; omega), if_pos rfl]; rfl
theorem add_part (w : World) (g : Nat) (T : Nat → UInt8) (p n : Nat) (A : Option Addr) (N c : Nat) (hst : StT w g T p n) (hNs : n + N ≤ 1099511627776)
    (hp : 0 < N → ∃ b o, A = some ⟨b, o, none⟩ ∧ b ≠ g ∧ b < w.heap.size ∧ N ≤ c ∧ ∀ i, i < N → w.cell? ⟨b, o + i, none⟩ = some (.int .u8 (T (p + i)).toNat)) :
    Calls Tryz.prog 110 #[.pointer (some ⟨g, 0, none⟩), .slice A N c] w fun e w' => e = .returned (.tuple #[]) ∧ w.grownBy w' (some g) ∧ StT w' g T (p + N) (n + N) := by
  by_cases h : 0 < N
  · obtain ⟨b, o, rfl, h1, h2, h3, h4⟩ := hp h
    exact add_some w g T p n b o N c hst h1 h2 h3 hNs h4
  · obtain rfl : N = 0 := by omega
    exact add_zero w g T p n A c hst (by omega)
/-- The parts, one behind the other, are a text; one of no byte may be nil. -/
structure PartsO (w : World) (A : Option Addr) (n : Nat) (l : List UInt8) where
  b : Nat
  o : Nat
  addr : 0 < n → A = some ⟨b, o, none⟩ ∧ b < w.heap.size
  pa : Nat → Option Addr
  pn : Nat → Nat
  pc : Nat → Nat
  ofs : Nat → Nat
  row : ∀ i, i < n → w.cell? ⟨b, o + i, none⟩ = some (.slice (pa i) (pn i) (pc i))
  old : ∀ i, i < n → 0 < pn i → ∃ pb po, pa i = some ⟨pb, po, none⟩ ∧ pb < w.heap.size ∧ pn i ≤ pc i ∧ ∀ k, k < pn i → w.cell? ⟨pb, po + k, none⟩ = some (.int .u8 (l.getD (ofs i + k) 0).toNat)
  zero : ofs 0 = 0
  next : ∀ i, i < n → ofs (i + 1) = ofs i + pn i
  full : ofs n = l.length
theorem PartsO.mono {w : World} {A : Option Addr} {n : Nat} {l : List UInt8} (p : PartsO w A n l) (i : Nat) (hi : i ≤ n) : p.ofs i ≤ l.length := by
  rw [← p.full]
  have : ∀ d, i + d ≤ n → p.ofs i ≤ p.ofs (i + d) := by
    intro d
    induction d with
    | zero => intro _; exact Nat.le_refl _
    | succ d ih => intro h; rw [← Nat.add_assoc, p.next (i + d) (by omega)]; have := ih (by omega); omega
  have h := this (n - i) (by omega)
  rwa [show i + (n - i) = n by omega] at h
set_option maxHeartbeats 4000000 in
theorem SumO_any (w : World) (A : Option Addr) (n c : Nat) (l : List UInt8) (hl : l.length ≤ 1000000) (hn : n ≤ 1000000) (ps : PartsO w A n l) :
    Calls Tryz.prog 79 #[.slice A n c] w fun e w' => e = .returned (idv (sumL l)) ∧ Below w.heap.size w w' := by
  obtain ⟨z, hz, hze⟩ := z29
  have hzv := zero_arr hz
  have hzs : z.size = 20 := by rw [hze]; simp
  have hz4 := zero_arr (n := 71) z40
  have hb40 := built40
  obtain ⟨s0, hs0⟩ : ∃ s0, s0 = st0 := ⟨_, rfl⟩
  obtain ⟨zz, hzz⟩ : ∃ zz, zz = zer40 := ⟨_, rfl⟩
  rw [← hs0] at hb40
  rw [← hzz] at hz4
  have HB40 := Lib.hid hb40; have HS0 := Lib.hid hs0; have HZZ := Lib.hid hzz; have HZS := Lib.hid hzs
  clear hz hze hb40 hs0 hzz hzs
  go_enter Tryz.func79, Tryz.ntmps79
  go_wp2_with (first
    | (with_reducible refine wpList_build_as rfl 173 _ rfl w5 ?w5 ?_)
    | (with_reducible refine wpList_build_as rfl 177 _ rfl s0 ?b40 ?_)
    | (with_reducible refine wpList_store_row rfl 177 (.tmp 3) (.tmp 7) rfl (w.heap.size + 1) s0 rfl rfl 177 zz ?sg ?si ?so ?s1 ?_))
  case w5 => kernel_rfl
  case b40 => exact HB40.out
  case sg => rw [show w.heap.size + 1 = (w.alloc (.cells z 27)).heap.size by simp]; exact heap_alloc_new _ _
  case si => rw [HS0.out, info40, st0_size]
  case so => rw [HS0.out, HZZ.out, st0_size, zer40_size]
  case s1 => rw [HS0.out]; exact st0_all
  generalize hwS : (((w.alloc (.cells z 27)).alloc (.cells zz 177)).setRow (w.heap.size + 1) s0) = w0
  have hnew : ((w.alloc (.cells z 27)).alloc (.cells zz 177)).heap[w.heap.size + 1]? = some (.cells zz 177 (0, 0)) := by
    rw [show w.heap.size + 1 = (w.alloc (.cells z 27)).heap.size by simp]; exact heap_alloc_new _ _
  have hst0 : StT w0 (w.heap.size + 1) (padF l) 0 0 := by
    subst hwS
    exact ⟨s0, setRow_heap _ _ zz s0 _ _ hnew, by rw [HS0.out]; exact st0_StC _⟩
  have hb0 : Below w.heap.size w w0 := by
    subst hwS
    exact below_setRow (((Below.refl _ w).alloc (Nat.le_refl _) _).alloc (by simp) _) (by omega) s0
  have hr0 : w0.heap[w.heap.size]? = some (.cells z 27 (0, 0)) := by
    subst hwS
    rw [setRow_other _ _ _ _ (by omega)]; exact two_new w _ _
  clear hwS hnew
  have hmo := ps.mono
  obtain ⟨b, o, addr, pa, pn, pc, ofs, row, old, zero, next, full⟩ := ps
  simp only at hmo
  have MO := Lib.hid hmo; have AD := Lib.hid addr; have RO := Lib.hid row; have OL := Lib.hid old; have ZE := Lib.hid zero; have NE := Lib.hid next; have FU := Lib.hid full
  clear hmo addr row old zero next full
  go_loopw [10] (fun v wr => ∃ k : Nat, k ≤ n ∧ v = .int .i64 k ∧ StT wr (w.heap.size + 1) (padF l) (ofs k) (ofs k) ∧ wr.heap[w.heap.size]? = some (.cells z 27 (0, 0)) ∧ Below w.heap.size w wr) (fun v _ => n - (intOf v).toNat)
  case atStart => exact ⟨0, Nat.zero_le _, rfl, by rw [ZE.out]; exact hst0, hr0, hb0⟩
  case round =>
    clear hst0 hb0 hr0
    obtain ⟨k, hk, rfl, hst, hr, hb⟩ := hrel
    have HR := Lib.hid hr; clear hr
    have HST := Lib.hid hst; clear hst
    by_cases hlt : k < n
    · obtain ⟨hA, hbl⟩ := AD.out (by omega)
      subst hA
      have q : wr.cell? ⟨b, o + k, none⟩ = some (.slice (pa k) (pn k) (pc k)) := (hb.cell (p := ⟨b, o + k, none⟩) hbl).trans (RO.out k hlt)
      have h1 := NE.out k hlt
      have h2 := MO.out (k + 1) (by omega)
      have C := Lib.hid (add_part wr (w.heap.size + 1) (padF l) (ofs k) (ofs k) (pa k) (pn k) (pc k) HST.out (by omega) (fun hp => by
        obtain ⟨xb, xo, o1, o2, o3, o4⟩ := OL.out k hlt hp
        exact ⟨xb, xo, o1, by omega, by have := hb.size; omega, o3, fun i hi => by rw [hb.cell (p := ⟨xb, xo + i, none⟩) o2, o4 i hi, padF_in _ _ (by omega)]⟩))
      have H1 := Lib.hid h1
      clear h1 h2 hbl
      generalize pa k = pak at q C
      generalize hpn : pn k = pnk at q C H1
      generalize pc k = pck at q C
      clear hpn
      go_wp2_with fail
      refine C.out.mono ?_
      rintro e w4 ⟨rfl, hg4, hs4⟩
      have hb4 : Below w.heap.size w w4 := hb.grown hg4 hb.size (fun j hj => by cases hj; omega)
      have hr4 : w4.heap[w.heap.size]? = some (.cells z 27 (0, 0)) := (hg4.block _ (lt_of_heap HR.out) (by simp)).trans HR.out
      rw [← H1.out] at hs4
      clear C hg4
      go_wp2
      go_roundw
      case rel => exact ⟨k + 1, by omega, by go_num, hs4, hr4, hb4⟩
      case measure => simp [intOf]; omega
    · obtain rfl : k = n := by omega
      have hs := HST.out
      rw [FU.out] at hs
      have C := Lib.hid (end_any wr (w.heap.size + 1) l hl hs)
      clear hs
      go_wp2_with fail
      refine C.out.mono ?_
      rintro e w4 ⟨rfl, hg4, cs4, hh4, hs4⟩
      have hb4 : Below w.heap.size w w4 := hb.grown hg4 hb.size (fun j hj => by cases hj; omega)
      have hr4 : w4.heap[w.heap.size]? = some (.cells z 27 (0, 0)) := (hg4.block _ (lt_of_heap HR.out) (by simp)).trans HR.out
      clear C hg4
      have C := Lib.hid (id_any w4 (w.heap.size + 1) cs4 _ hh4 hs4.words)
      have e1 : (digest (hs (padF l) (padLen l.length / 64))) = sumL l := rfl
      rw [e1] at C
      clear e1 hs4
      have hsl : (sumL l).length = 20 := digest_len _
      unfold idv at C
      have hall := bc_all (sumL l)
      obtain ⟨arr, harr⟩ : ∃ arr, arr = (Lib.byteCells (sumL l)).toArray := ⟨_, rfl⟩
      rw [← harr] at C hall
      have hasz : arr.size = 20 := by rw [harr]; simp [bc_len, hsl]
      have HARR := Lib.hid harr; have HALL := Lib.hid hall; have HASZ := Lib.hid hasz
      clear harr hall hasz hsl
      go_wp2_with fail
      refine C.out.mono ?_
      rintro e w5' ⟨rfl, hb5⟩
      have hb6 : Below w.heap.size w w5' := hb4.trans (hb5.mono hb4.size)
      have hr5 : w5'.heap[w.heap.size]? = some (.cells z 27 (0, 0)) := (hb5.block _ (lt_of_heap hr4)).trans hr4
      have HR5 := Lib.hid hr5; clear hr5 hr4 hb5 hb4 C hh4
      go_wp2_with (with_reducible refine wpList_store_row rfl 27 (.tmp 2) (.tmp 18) rfl w.heap.size arr rfl rfl 27 z ?tg ?ti ?to9 ?t1 ?_)
      case tg => exact HR5.out
      case ti => rw [info29, HASZ.out]
      case to9 => rw [HZS.out, HASZ.out]
      case t1 => exact HALL.out
      refine bodyPost_ret (results_cell_row Tryz.results79 _ _ w.heap.size 27 arr (0, 0) _ rfl (setRow_heap w5' w.heap.size z arr _ (0, 0) HR5.out) Tryz.underlying27 rfl (by rw [info29, HASZ.out])) rfl ⟨by rw [HARR.out]; rfl, below_setRow hb6 (Nat.le_refl _) arr⟩
end Go.Proofs.YtnohonjjfjppoaaGreatDoor

/-
  Parts: a slice of slices of bytes.
-/
namespace Go.Proofs.YtnohonjjfjppoaaGreatDoor
open Go.RowKit
set_option linter.unusedVariables false
/-- Bytes that lie in a block of which D holds. -/
def BIn (D : Nat → Prop) (w : World) (a : Option Addr) (l : List UInt8) : Prop :=
  0 < l.length → ∃ b o, a = some ⟨b, o, none⟩ ∧ D b ∧ b < w.heap.size ∧ ∀ i (h : i < l.length), w.cell? ⟨b, o + i, none⟩ = some (.int .u8 (l[i]).toNat)
theorem BIn.bat {D : Nat → Prop} {w : World} {a : Option Addr} {l : List UInt8} (h : BIn D w a l) : BAt w a l := fun hp => by
  obtain ⟨b, o, h1, _, h2, h3⟩ := h hp
  exact ⟨b, o, h1, h2, h3⟩
theorem BIn.chg {D S : Nat → Prop} {w w' : World} {a : Option Addr} {l : List UInt8} (h : BIn D w a l) (hc : Chg S w w') (hd : ∀ k, D k → ¬ S k) : BIn D w' a l := fun hp => by
  obtain ⟨b, o, h1, h2, h3, h4⟩ := h hp
  exact ⟨b, o, h1, h2, Nat.lt_of_lt_of_le h3 hc.size, fun i hi => (World.cell?_of_block (a := ⟨b, o + i, none⟩) (hc.block b h3 (hd b h2))).trans (h4 i hi)⟩
/-- Parts: a slice of slices of bytes. -/
def PartsIn (D : Nat → Prop) (w : World) (pa : Option Addr) (ls : List (List UInt8)) : Prop :=
  0 < ls.length → ∃ b o, pa = some ⟨b, o, none⟩ ∧ D b ∧ b < w.heap.size ∧ ∀ i (h : i < ls.length), ∃ a c, w.cell? ⟨b, o + i, none⟩ = some (.slice a (ls[i]).length c) ∧ BIn D w a ls[i] ∧ (a = none → (ls[i]).length = 0 ∧ c = 0) ∧ (ls[i]).length ≤ maxLen
theorem PartsIn.chg {D S : Nat → Prop} {w w' : World} {pa : Option Addr} {ls : List (List UInt8)} (h : PartsIn D w pa ls) (hc : Chg S w w') (hd : ∀ k, D k → ¬ S k) : PartsIn D w' pa ls := fun hp => by
  obtain ⟨b, o, h1, h2, h3, h4⟩ := h hp
  refine ⟨b, o, h1, h2, Nat.lt_of_lt_of_le h3 hc.size, fun i hi => ?_⟩
  obtain ⟨a, c, g1, g2, g3, g4⟩ := h4 i hi
  exact ⟨a, c, (World.cell?_of_block (a := ⟨b, o + i, none⟩) (hc.block b h3 (hd b h2))).trans g1, g2.chg hc hd, g3, g4⟩
theorem BIn.keep {D : Nat → Prop} {w w' : World} {a : Option Addr} {l : List UInt8} (h : BIn D w a l) (hb : Below w.heap.size w w') : BIn D w' a l :=
  h.chg (S := fun _ => False) (Chg.of_below hb) fun _ _ h => h
theorem PartsIn.keep {D : Nat → Prop} {w w' : World} {pa : Option Addr} {ls : List (List UInt8)} (h : PartsIn D w pa ls) (hb : Below w.heap.size w w') : PartsIn D w' pa ls :=
  h.chg (S := fun _ => False) (Chg.of_below hb) fun _ _ h => h
/-- How many bytes some parts have. -/
def total (ls : List (List UInt8)) : Nat := ls.flatten.length
theorem total_step (ls : List (List UInt8)) (k : Nat) (h : k < ls.length) : total (ls.take (k + 1)) = total (ls.take k) + (ls[k]).length := by
  unfold total; rw [List.take_succ_eq_append_getElem h, List.flatten_append, List.length_append]; simp only [List.flatten_cons, List.flatten_nil, List.append_nil]
theorem total_le (ls : List (List UInt8)) (k : Nat) : total (ls.take k) ≤ total ls := by
  unfold total
  have e : ls.flatten = (ls.take k).flatten ++ (ls.drop k).flatten := by rw [← List.flatten_append, List.take_append_drop]
  rw [e, List.length_append]; omega
end Go.Proofs.YtnohonjjfjppoaaGreatDoor

/-
  slices.Grow of nil, slices.Concat.
-/
namespace Go.Proofs.YtnohonjjfjppoaaGreatDoor
set_option maxRecDepth 20000
open Go.RowKit
set_option linter.unusedVariables false
set_option maxHeartbeats 4000000 in
theorem Grow_any (n : Nat) (h0 : 0 < n) (hn : n ≤ 16777216) (w : World) :
    Calls Tryz.prog 119 #[.slice none 0 0, .int .i64 n] w fun e w' => ∃ v', e = .returned v' ∧ Row w' v' [] ∧ (∀ g, foot v' = some g → w.heap.size ≤ g) ∧ Below w.heap.size w w' := by
  obtain ⟨i0, hi, hz0, hz1, hz2⟩ := info_parts info5
  have happ := Lib.run_append_nil_zeros (P := Tryz.prog) w 50 3 50 5 i0 (.int .u8 0) .i64 .i64 Tryz.underlying50 Tryz.underlying3 hi hz0 n h0 (by omega) (by omega) (by rw [hz2]; omega)
  have hge := grownCap_ge w n 0 5
  have hcm : grownCap w n 0 5 ≤ maxLen := grownCap_le_maxLen w n 0 5 (by unfold maxLen; omega)
  obtain ⟨cap, hcap⟩ : ∃ cap, grownCap w n 0 5 = cap + 1 := ⟨grownCap w n 0 5 - 1, by omega⟩
  rw [hcap] at happ hge hcm
  obtain ⟨cs, hcs⟩ : ∃ cs, cs = Builtin.zeroCells (Value.int .u8 0).cells n ++ Builtin.zeroCells (Value.int .u8 0).cells (cap + 1 - n) := ⟨_, rfl⟩
  rw [← hcs] at happ
  have hsz : cs.size = cap + 1 := by rw [hcs]; simp [size_zeroCells, Value.cells]; omega
  have HA := Lib.hid happ
  have hrow : Row (w.drew.alloc (.cells cs 5)) (.slice (some ⟨w.heap.size, 0, none⟩) 0 (cap + 1)) [] :=
    .inr ⟨w.heap.size, cap, cs, rfl, heap_alloc_new w.drew _, Nat.zero_le _, hcm, hsz, rfl⟩
  have hbel : Below w.heap.size w (w.drew.alloc (.cells cs 5)) := ((Below.refl _ w).drew).alloc (Nat.le_refl _) _
  have hsl := fun u => slice_head (some ⟨w.heap.size, 0, none⟩) n (cap + 1) 0 0 rfl (Nat.zero_le _) u
  have HR := Lib.hid hrow; have HB := Lib.hid hbel
  clear happ hcs hsz hrow hbel hge hcm hcap
  go_enter Tryz.func119, Tryz.ntmps119
  go_wp2_with (at_builtin; refine Lib.wpList_append_run _ rfl _ _ _ _ rfl _ _ rfl rfl _ _ HA.out ?_)
  go_ret
  exact ⟨_, rfl, HR.out, (fun g hg => by cases hg; exact Nat.le_refl _), HB.out⟩
theorem Appended.new {w w' : World} {v v' : Value} {l : List UInt8} (h : Appended w v l v' w') {B : Nat} (hf : ∀ g, foot v = some g → B ≤ g) (hB : B ≤ w.heap.size) : ∀ g, foot v' = some g → B ≤ g := fun g hg => by
  rcases h.2.2 with h3 | h3 | h3
  · rw [h3] at hg; exact hf g hg
  · rw [h3] at hg; cases hg
  · rw [h3] at hg; cases hg; exact hB
theorem Appended.below {w w' w0 : World} {v v' : Value} {l : List UInt8} (h : Appended w v l v' w') {B : Nat} (hb : Below B w0 w) (hf : ∀ g, foot v = some g → B ≤ g) (hB : B ≤ w.heap.size) : Below B w0 w' :=
  hb.grown h.2.1 hB hf
set_option maxHeartbeats 8000000 in
theorem Concat_any (D : Nat → Prop) (pa : Option Addr) (np pc : Nat) (ls : List (List UInt8)) (w : World) (hp : PartsIn D w pa ls) (hn : np = ls.length) (hm : np ≤ 1000) (h0 : 0 < total ls) (ht : total ls ≤ 16777216) :
    Calls Tryz.prog 84 #[.slice pa np pc] w fun e w' => ∃ v', e = .returned v' ∧ Row w' v' ls.flatten ∧ (∀ g, foot v' = some g → w.heap.size ≤ g) ∧ Below w.heap.size w w' := by
  have HP := Lib.hid hp; have HN := Lib.hid hn
  obtain ⟨t, ht2⟩ : ∃ t, total ls = t := ⟨_, rfl⟩
  rw [ht2] at h0 ht
  have HT := Lib.hid ht2
  clear hp hn ht2
  go_enter Tryz.func84, Tryz.ntmps84
  go_wp2_with fail
  go_loop [3, 11] (fun sv i => ∃ k s : Nat, k ≤ np ∧ i = .int .i64 k ∧ sv = .int .i64 s ∧ s = total (ls.take k)) (fun _ i => np - (intOf i).toNat)
  case atStart => exact ⟨0, 0, Nat.zero_le _, rfl, rfl, by simp [total]⟩
  case round =>
    obtain ⟨k, s, hk, rfl, rfl, hs⟩ := hrel
    have HS := Lib.hid hs
    clear hs
    by_cases hlt : k < np
    · have hkl : k < ls.length := by rw [← HN.out]; exact hlt
      obtain ⟨pb, po, rfl, _, hpb, hcell⟩ := HP.out (by omega)
      obtain ⟨xa, xc, hx, _, _, hxm⟩ := hcell k hkl
      have hts := total_step ls k hkl
      have htl := total_le ls (k + 1)
      rw [HT.out] at htl
      obtain ⟨m, hm2⟩ : ∃ m, (ls[k]).length = m := ⟨_, rfl⟩
      rw [hm2] at hx hxm hts
      rw [← HS.out] at hts
      have h1 : s + m ≤ 16777216 := by omega
      have HTS := Lib.hid hts
      clear hts htl hcell hm2
      go_wp2
      go_round
      case rel => exact ⟨k + 1, s + m, by omega, by go_num, by go_num, HTS.out.symm⟩
      case measure => simp [intOf]; omega
    · have hk2 : k = ls.length := by rw [← HN.out]; omega
      have hst : s = t := by rw [HS.out, hk2, List.take_length, HT.out]
      have hkn : k = np := by omega
      subst hst
      subst hkn
      clear hk2
      have G := Lib.hid (Grow_any s h0 ht w)
      go_wp2_with fail
      refine G.out.mono ?_
      rintro e w1 ⟨v1, rfl, hr1, hf1, hb1⟩
      have HR1 := Lib.hid hr1; have HF1 := Lib.hid hf1
      clear hr1 hf1 G
      go_wp2_with fail
      go_loopw [6, 27] (fun v i wr => ∃ j : Nat, j ≤ k ∧ i = .int .i64 j ∧ Row wr v (ls.take j).flatten ∧ (∀ g, foot v = some g → w.heap.size ≤ g) ∧ Below w.heap.size w wr) (fun _ i _ => k - (intOf i).toNat)
      case atStart => exact ⟨0, Nat.zero_le _, rfl, by simpa using HR1.out, HF1.out, hb1⟩
      case round =>
        clear hb1
        obtain ⟨j, hj, rfl, hrow, hfo, hbr⟩ := hrel
        have HR := Lib.hid hrow; have HF := Lib.hid hfo
        clear hrow hfo
        by_cases hlt2 : j < k
        · have hjl : j < ls.length := by rw [← HN.out]; exact hlt2
          obtain ⟨pb, po, rfl, _, hpb, hcell⟩ := HP.out (by omega)
          obtain ⟨xa, xc, hx, hbin, hxno, hxm⟩ := hcell j hjl
          have hts := total_step ls j hjl
          have htl := total_le ls (j + 1)
          rw [HT.out] at htl
          have hbat : BAt wr xa ls[j] := (hbin.bat.below hbr (Nat.le_refl _))
          have q : wr.cell? ⟨pb, po + j, none⟩ = some (.slice xa (ls[j]).length xc) := (hbr.cell (p := ⟨pb, po + j, none⟩) hpb).trans hx
          obtain ⟨m, hm2⟩ : ∃ m, ls[j] = m := ⟨_, rfl⟩
          have hfl : (ls.take (j + 1)).flatten = (ls.take j).flatten ++ m := by rw [List.take_succ_eq_append_getElem hjl, List.flatten_append, hm2]; simp
          rw [hm2] at hxno hxm hts hbat q
          have hlen : (ls.take j).flatten.length + m.length ≤ 1099511627776 := by unfold total at hts htl; omega
          obtain ⟨q1, hq1⟩ : ∃ q1, m.length = q1 := ⟨_, rfl⟩
          have HBA := Lib.hid hbat; have HXN := Lib.hid hxno; have HFL := Lib.hid hfl; have HLE := Lib.hid hlen; have HQ1 := Lib.hid hq1
          rw [hq1] at q
          obtain ⟨a1, c1, hv1, _, _, _, _⟩ := HR.out.shape
          clear hts htl hcell hx hbin hm2 hbat hxno hfl hlen hxm hq1
          go_wp2_with (first
            | (at_builtin; refine wpList_append_row rfl (.tmp 31) (.tmp 32) rfl u6 rfl _ m HR.out xa q1 xc rfl HBA.out HQ1.out.symm (fun h => by rw [← HQ1.out]; exact HXN.out h) HLE.out ?_; intro v' w' hap)
            | fail)
          exact ⟨⟨j + 1, by omega, congrArg (Value.int .i64) (by omega), by rw [HFL.out]; exact hap.1, hap.new HF.out hbr.size, hap.below hbr HF.out hbr.size⟩, by simp only [intOf]; omega⟩
        · obtain rfl : j = k := by omega
          have hend : (ls.take j).flatten = ls.flatten := by rw [show j = ls.length from HN.out, List.take_length]
          rw [hend] at HR
          clear hend
          go_wp2
          go_ret
          exact ⟨_, rfl, HR.out, HF.out, hbr⟩
end Go.Proofs.YtnohonjjfjppoaaGreatDoor

/-
  Parts with room for what they hold: what Sum and Concat take.
-/
namespace Go.Proofs.YtnohonjjfjppoaaGreatDoor
set_option maxRecDepth 20000
open Go.RowKit
set_option linter.unusedVariables false
/-- One part in a cell. -/
def PartAt (w : World) (v : Value) (l : List UInt8) : Prop := ∃ a c, v = .slice a l.length c ∧ BAt w a l ∧ (a = none → l.length = 0 ∧ c = 0) ∧ l.length ≤ c ∧ l.length ≤ maxLen
def PartsC (w : World) (pa : Option Addr) (ls : List (List UInt8)) : Prop :=
  0 < ls.length → ∃ b o, pa = some ⟨b, o, none⟩ ∧ b < w.heap.size ∧ ∀ i (h : i < ls.length), ∃ v, w.cell? ⟨b, o + i, none⟩ = some v ∧ PartAt w v ls[i]
theorem PartAt.below {w w' : World} {v : Value} {l : List UInt8} (h : PartAt w v l) {B : Nat} (hb : Below B w w') (hB : w.heap.size ≤ B) : PartAt w' v l := by
  obtain ⟨a, c, h1, h2, h3⟩ := h
  exact ⟨a, c, h1, h2.below hb hB, h3⟩
theorem PartsC.pin {w : World} {pa : Option Addr} {ls : List (List UInt8)} (h : PartsC w pa ls) : PartsIn (fun _ => True) w pa ls := fun hp => by
  obtain ⟨b, o, h1, h2, h3⟩ := h hp
  refine ⟨b, o, h1, trivial, h2, fun i hi => ?_⟩
  obtain ⟨v, g1, a, c, rfl, g2, g3, g4, g5⟩ := h3 i hi
  exact ⟨a, c, g1, (fun hp => by obtain ⟨x, y, k1, k2, k3⟩ := g2 hp; exact ⟨x, y, k1, trivial, k2, k3⟩), g3, g5⟩
theorem flatten_at (ls : List (List UInt8)) (i : Nat) (hi : i < ls.length) (k : Nat) (hk : k < (ls[i]).length) : ls.flatten.getD (total (ls.take i) + k) 0 = (ls[i]).getD k 0 := by
  have e : ls.flatten = (ls.take i).flatten ++ (ls[i] ++ (ls.drop (i + 1)).flatten) := by
    conv => lhs; rw [← List.take_append_drop i ls, List.drop_eq_getElem_cons hi]
    rw [List.flatten_append, List.flatten_cons]
  rw [e, List.getD_eq_getElem?_getD, List.getD_eq_getElem?_getD]
  unfold total
  rw [List.getElem?_append_right (by omega), Nat.add_sub_cancel_left, List.getElem?_append_left hk]
theorem PartsC.po {w : World} {pa : Option Addr} {ls : List (List UInt8)} (h : PartsC w pa ls) : Nonempty (PartsO w pa ls.length ls.flatten) := by
  by_cases hp : 0 < ls.length
  · obtain ⟨b, o, h1, h2, h3⟩ := h hp
    have each : ∀ i, ∃ y : Option Addr × Nat, ∀ (hi : i < ls.length), w.cell? ⟨b, o + i, none⟩ = some (.slice y.1 (ls[i]).length y.2) ∧ BAt w y.1 ls[i] ∧ (ls[i]).length ≤ y.2 := fun i => by
      by_cases hi : i < ls.length
      · obtain ⟨v, g1, a, c, rfl, g2, _, g4, _⟩ := h3 i hi
        exact ⟨(a, c), fun _ => ⟨g1, g2, g4⟩⟩
      · exact ⟨(none, 0), fun h => absurd h hi⟩
    obtain ⟨y, hy⟩ := Classical.axiomOfChoice each
    refine ⟨{ b := b, o := o, addr := fun _ => ⟨h1, h2⟩, pa := fun i => (y i).1, pn := fun i => (ls.getD i []).length, pc := fun i => (y i).2, ofs := fun i => total (ls.take i), row := fun i hi => ?_, old := fun i hi hpos => ?_, zero := by simp [total], next := fun i hi => ?_, full := by rw [List.take_length]; rfl }⟩
    · rw [List.getD_eq_getElem?_getD, List.getElem?_eq_getElem hi]; exact (hy i hi).1
    · have e : ls.getD i [] = ls[i] := by rw [List.getD_eq_getElem?_getD, List.getElem?_eq_getElem hi]; rfl
      rw [e] at hpos ⊢
      obtain ⟨xb, xo, k1, k2, k3⟩ := (hy i hi).2.1 hpos
      refine ⟨xb, xo, k1, k2, (hy i hi).2.2, fun k hk => ?_⟩
      rw [k3 k hk, flatten_at ls i hi k hk]
      simp [hk]
    · have e : ls.getD i [] = ls[i] := by rw [List.getD_eq_getElem?_getD, List.getElem?_eq_getElem hi]; rfl
      rw [e]; exact total_step ls i hi
  · obtain rfl : ls = [] := List.eq_nil_of_length_eq_zero (by omega)
    exact ⟨{ b := 0, o := 0, addr := fun h => absurd h (Nat.lt_irrefl 0), pa := fun _ => none, pn := fun _ => 0, pc := fun _ => 0, ofs := fun _ => 0, row := fun i h => absurd h (Nat.not_lt_zero _), old := fun i h => absurd h (Nat.not_lt_zero _), zero := rfl, next := fun i h => absurd h (Nat.not_lt_zero _), full := rfl }⟩
/-- Sum of some parts. -/
theorem Sum_parts (w : World) (A : Option Addr) (n c : Nat) (ls : List (List UInt8)) (hn : n = ls.length) (h1 : n ≤ 1000) (hl : ls.flatten.length ≤ 1000000) (hp : PartsC w A ls) :
    Calls Tryz.prog 79 #[.slice A n c] w fun e w' => e = .returned (idv (sumL ls.flatten)) ∧ Below w.heap.size w w' := by
  subst hn
  obtain ⟨po⟩ := hp.po
  exact SumO_any w A ls.length c ls.flatten hl (by omega) po
theorem Concat_parts (w : World) (A : Option Addr) (n c : Nat) (ls : List (List UInt8)) (hn : n = ls.length) (h1 : n ≤ 1000) (h0 : 0 < ls.flatten.length) (hl : ls.flatten.length ≤ 16777216) (hp : PartsC w A ls) :
    Calls Tryz.prog 84 #[.slice A n c] w fun e w' => ∃ v', e = .returned v' ∧ Row w' v' ls.flatten ∧ (∀ g, foot v' = some g → w.heap.size ≤ g) ∧ Below w.heap.size w w' :=
  Concat_any _ A n c ls w hp.pin hn h1 h0 hl
theorem parts2 {w : World} {x y : Value} {l m : List UInt8} (t : TypeId) (hx : PartAt w x l) (hy : PartAt w y m) : PartsC (w.alloc (.cells #[x, y] t)) (some ⟨w.heap.size, 0, none⟩) [l, m] := fun _ =>
  ⟨_, _, rfl, by simp, fun i hi => by
    have hi2 : i < 2 := hi
    match i, hi2 with
    | 0, _ => exact ⟨x, (cell_of_row _ _ 0 _ _ _ (heap_alloc_new w _)).trans rfl, hx.below ((Below.refl w.heap.size w).alloc (Nat.le_refl _) _) (Nat.le_refl _)⟩
    | 1, _ => exact ⟨y, (cell_of_row _ _ 1 _ _ _ (heap_alloc_new w _)).trans rfl, hy.below ((Below.refl w.heap.size w).alloc (Nat.le_refl _) _) (Nat.le_refl _)⟩⟩
end Go.Proofs.YtnohonjjfjppoaaGreatDoor
