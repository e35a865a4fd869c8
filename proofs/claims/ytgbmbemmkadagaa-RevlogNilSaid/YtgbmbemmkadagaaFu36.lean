/-
  Texts that belong together, one behind the other.
-/
import Derived.Test.YtgbmbemmkadagaaFu35
import Derived.Test.YtgbmbemmkadagaaFu09
/-
  Layer 2: Sum of the program.
-/
namespace Go.Proofs.Ytgbmbemmkadagaa
set_option maxRecDepth 20000
open Go.RowKit
set_option linter.unusedVariables false
set_option linter.unusedSimpArgs false

def w5 : Array Value := #[.int .u32 1732584193, .int .u32 4023233417, .int .u32 2562383102, .int .u32 271733878, .int .u32 3285377520]
def st0 : Array Value := (w5.toList ++ (List.replicate 64 (Value.int .u8 0) ++ [Value.int .i64 0, Value.int .u64 0])).toArray
theorem built40 : Try.prog.built 98 [(0, .agg w5)] = some st0 := by kernel_rfl
theorem st0_size : st0.size = 71 := by kernel_rfl
theorem zer40_size : zer40.size = 71 := by kernel_rfl
theorem st0_all : st0.all (·.oneCell') = true := by kernel_rfl
theorem st0_StC (T : Nat → UInt8) : StC st0 T 0 0 where
  words := ⟨st0_size, fun i hi => by
    match i, hi with
    | 0, _ => rfl
    | 1, _ => rfl
    | 2, _ => rfl
    | 3, _ => rfl
    | 4, _ => rfl⟩
  bytes := fun i hi => absurd hi (Nat.not_lt_zero _)
  fill := by kernel_rfl
  len := by kernel_rfl
/-- The parts, one behind the other, are a text. -/
structure Parts (w : World) (A : Option Addr) (n : Nat) (l : List UInt8) where
  b : Nat
  o : Nat
  addr : 0 < n → A = some ⟨b, o, none⟩ ∧ b < w.heap.size
  pb : Nat → Nat
  po : Nat → Nat
  pn : Nat → Nat
  pc : Nat → Nat
  ofs : Nat → Nat
  row : ∀ i, i < n → w.cell? ⟨b, o + i, none⟩ = some (.slice (some ⟨pb i, po i, none⟩) (pn i) (pc i))
  old : ∀ i, i < n → pb i < w.heap.size ∧ pn i ≤ pc i
  zero : ofs 0 = 0
  next : ∀ i, i < n → ofs (i + 1) = ofs i + pn i
  full : ofs n = l.length
  bytes : ∀ i, i < n → ∀ k, k < pn i → w.cell? ⟨pb i, po i + k, none⟩ = some (.int .u8 (l.getD (ofs i + k) 0).toNat)
theorem Parts.mono {w : World} {A : Option Addr} {n : Nat} {l : List UInt8} (p : Parts w A n l) (i : Nat) (hi : i ≤ n) : p.ofs i ≤ l.length := by
  rw [← p.full]
  have : ∀ d, i + d ≤ n → p.ofs i ≤ p.ofs (i + d) := by
    intro d
    induction d with
    | zero => intro _; exact Nat.le_refl _
    | succ d ih => intro h; rw [← Nat.add_assoc, p.next (i + d) (by omega)]; have := ih (by omega); omega
  have h := this (n - i) (by omega)
  rwa [show i + (n - i) = n by omega] at h
set_option maxHeartbeats 4000000 in
theorem Sum_any (w : World) (A : Option Addr) (n c : Nat) (l : List UInt8) (hl : l.length ≤ 1000000) (hn : n ≤ 1000000) (ps : Parts w A n l) :
    Calls Try.prog 31 #[.slice A n c] w fun e w' => e = .returned (idv (sumL l)) ∧ Below w.heap.size w w' := by
  obtain ⟨z, hz, hze⟩ := z29
  have hzv := zero_arr hz
  have hzs : z.size = 20 := by rw [hze]; simp
  have hz4 := zero_arr (n := 71) z40
  have hb40 := built40
  obtain ⟨s0, hs0⟩ : ∃ s0, s0 = st0 := ⟨_, rfl⟩
  obtain ⟨zz, hzz⟩ : ∃ zz, zz = zer40 := ⟨_, rfl⟩
  rw [← hs0] at hb40
  rw [← hzz] at hz4
  have HB40 := Lib.hid hb40; have HS0 := Lib.hid hs0; have HZZ := Lib.hid hzz; have HZS := Lib.hid hzs
  clear hz hze hb40 hs0 hzz hzs
  go_enter Try.func31, Try.ntmps31
  go_wp2_with (first
    | (with_reducible refine wpList_build_as rfl 82 _ rfl w5 ?w5 ?_)
    | (with_reducible refine wpList_build_as rfl 98 _ rfl s0 ?b40 ?_)
    | (with_reducible refine wpList_store_row rfl 98 (.tmp 3) (.tmp 7) rfl (w.heap.size + 1) s0 rfl rfl 98 zz ?sg ?si ?so ?s1 ?_))
  case w5 => kernel_rfl
  case b40 => exact HB40.out
  case sg => rw [show w.heap.size + 1 = (w.alloc (.cells z 24)).heap.size by simp]; exact heap_alloc_new _ _
  case si => rw [HS0.out, info40, st0_size]
  case so => rw [HS0.out, HZZ.out, st0_size, zer40_size]
  case s1 => rw [HS0.out]; exact st0_all
  generalize hwS : (((w.alloc (.cells z 24)).alloc (.cells zz 98)).setRow (w.heap.size + 1) s0) = w0
  have hnew : ((w.alloc (.cells z 24)).alloc (.cells zz 98)).heap[w.heap.size + 1]? = some (.cells zz 98 (0, 0)) := by
    rw [show w.heap.size + 1 = (w.alloc (.cells z 24)).heap.size by simp]; exact heap_alloc_new _ _
  have hst0 : StT w0 (w.heap.size + 1) (padF l) 0 0 := by
    subst hwS
    exact ⟨s0, setRow_heap _ _ zz s0 _ _ hnew, by rw [HS0.out]; exact st0_StC _⟩
  have hb0 : Below w.heap.size w w0 := by
    subst hwS
    exact below_setRow (((Below.refl _ w).alloc (Nat.le_refl _) _).alloc (by simp) _) (by omega) s0
  have hr0 : w0.heap[w.heap.size]? = some (.cells z 24 (0, 0)) := by
    subst hwS
    rw [setRow_other _ _ _ _ (by omega)]; exact two_new w _ _
  clear hwS hnew
  have hmo := ps.mono
  obtain ⟨b, o, addr, pb, po, pn, pc, ofs, row, old, zero, next, full, bytes⟩ := ps
  simp only at hmo
  have MO := Lib.hid hmo; have AD := Lib.hid addr; have RO := Lib.hid row; have OL := Lib.hid old; have ZE := Lib.hid zero; have NE := Lib.hid next; have FU := Lib.hid full; have BY := Lib.hid bytes
  clear hmo addr row old zero next full bytes
  go_loopw [10] (fun v wr => ∃ k : Nat, k ≤ n ∧ v = .int .i64 k ∧ StT wr (w.heap.size + 1) (padF l) (ofs k) (ofs k) ∧ wr.heap[w.heap.size]? = some (.cells z 24 (0, 0)) ∧ Below w.heap.size w wr) (fun v _ => n - (intOf v).toNat)
  case atStart => exact ⟨0, Nat.zero_le _, rfl, by rw [ZE.out]; exact hst0, hr0, hb0⟩
  case round =>
    clear hst0 hb0 hr0
    obtain ⟨k, hk, rfl, hst, hr, hb⟩ := hrel
    have HR := Lib.hid hr; clear hr
    have HST := Lib.hid hst; clear hst
    by_cases hlt : k < n
    · obtain ⟨hA, hbl⟩ := AD.out (by omega)
      subst hA
      have q : wr.cell? ⟨b, o + k, none⟩ = some (.slice (some ⟨pb k, po k, none⟩) (pn k) (pc k)) := (hb.cell (p := ⟨b, o + k, none⟩) hbl).trans (RO.out k hlt)
      obtain ⟨o1, o2⟩ := OL.out k hlt
      have h1 := NE.out k hlt
      have h2 := MO.out (k + 1) (by omega)
      have C := Lib.hid (add_some wr (w.heap.size + 1) (padF l) (ofs k) (ofs k) (pb k) (po k) (pn k) (pc k) HST.out (by omega) (by have := hb.size; omega) o2 (by omega) (fun i hi => by
        rw [hb.cell (p := ⟨pb k, po k + i, none⟩) o1, BY.out k hlt i hi, padF_in _ _ (by omega)]))
      have H1 := Lib.hid h1
      clear h1 h2 o1 o2 hbl
      generalize pb k = pbk at q C
      generalize po k = pok at q C
      generalize hpn : pn k = pnk at q C H1
      generalize pc k = pck at q C
      clear hpn
      go_wp2_with fail
      refine C.out.mono ?_
      rintro e w4 ⟨rfl, hg4, hs4⟩
      have hb4 : Below w.heap.size w w4 := hb.grown hg4 hb.size (fun j hj => by cases hj; omega)
      have hr4 : w4.heap[w.heap.size]? = some (.cells z 24 (0, 0)) := (hg4.block _ (lt_of_heap HR.out) (by simp)).trans HR.out
      rw [← H1.out] at hs4
      clear C hg4
      go_wp2
      go_roundw
      case rel => exact ⟨k + 1, by omega, by go_num, hs4, hr4, hb4⟩
      case measure => simp [intOf]; omega
    · obtain rfl : k = n := by omega
      have hs := HST.out
      rw [FU.out] at hs
      have C := Lib.hid (end_any wr (w.heap.size + 1) l hl hs)
      clear hs
      go_wp2_with fail
      refine C.out.mono ?_
      rintro e w4 ⟨rfl, hg4, cs4, hh4, hs4⟩
      have hb4 : Below w.heap.size w w4 := hb.grown hg4 hb.size (fun j hj => by cases hj; omega)
      have hr4 : w4.heap[w.heap.size]? = some (.cells z 24 (0, 0)) := (hg4.block _ (lt_of_heap HR.out) (by simp)).trans HR.out
      clear C hg4
      have C := Lib.hid (id_any w4 (w.heap.size + 1) cs4 _ hh4 hs4.words)
      have e1 : (digest (hs (padF l) (padLen l.length / 64))) = sumL l := rfl
      rw [e1] at C
      clear e1 hs4
      have hsl : (sumL l).length = 20 := digest_len _
      unfold idv at C
      have hall := bc_all (sumL l)
      obtain ⟨arr, harr⟩ : ∃ arr, arr = (Lib.byteCells (sumL l)).toArray := ⟨_, rfl⟩
      rw [← harr] at C hall
      have hasz : arr.size = 20 := by rw [harr]; simp [bc_len, hsl]
      have HARR := Lib.hid harr; have HALL := Lib.hid hall; have HASZ := Lib.hid hasz
      clear harr hall hasz hsl
      go_wp2_with fail
      refine C.out.mono ?_
      rintro e w5' ⟨rfl, hb5⟩
      have hb6 : Below w.heap.size w w5' := hb4.trans (hb5.mono hb4.size)
      have hr5 : w5'.heap[w.heap.size]? = some (.cells z 24 (0, 0)) := (hb5.block _ (lt_of_heap hr4)).trans hr4
      have HR5 := Lib.hid hr5; clear hr5 hr4 hb5 hb4 C hh4
      go_wp2_with (with_reducible refine wpList_store_row rfl 24 (.tmp 2) (.tmp 18) rfl w.heap.size arr rfl rfl 24 z ?tg ?ti ?to9 ?t1 ?_)
      case tg => exact HR5.out
      case ti => rw [info29, HASZ.out]
      case to9 => rw [HZS.out, HASZ.out]
      case t1 => exact HALL.out
      refine bodyPost_ret (results_cell_row Try.results31 _ _ w.heap.size 24 arr (0, 0) _ rfl (setRow_heap w5' w.heap.size z arr _ (0, 0) HR5.out) Try.underlying24 rfl (by rw [info29, HASZ.out])) rfl ⟨by rw [HARR.out]; rfl, below_setRow hb6 (Nat.le_refl _) arr⟩
end Go.Proofs.Ytgbmbemmkadagaa

/-
  Layer 2: Sum of the program, of parts of which some may be nil.
-/
namespace Go.Proofs.Ytgbmbemmkadagaa
set_option maxRecDepth 20000
open Go.RowKit
set_option linter.unusedVariables false
set_option linter.unusedSimpArgs false

set_option maxHeartbeats 4000000 in
theorem add_zero (w : World) (g : Nat) (T : Nat → UInt8) (p n : Nat) (A : Option Addr) (c : Nat) (hst : StT w g T p n) (hns : n ≤ 1099511627776) :
    Calls Try.prog 43 #[.pointer (some ⟨g, 0, none⟩), .slice A 0 c] w fun e w' => e = .returned (.tuple #[]) ∧ w.grownBy w' (some g) ∧ StT w' g T (p + 0) (n + 0) := by
  obtain ⟨cs, hg, hc⟩ := hst
  have q70 : w.cell? ⟨g, 70, none⟩ = some (.int .u64 n) := (cell_of_row w g 70 cs _ _ hg).trans hc.len
  have z70 := not_frozen hg 70
  have hgl := lt_of_heap hg
  have HG := Lib.hid hg; clear hg
  have HS := Lib.hid hc; clear hc
  go_enter Try.func43, Try.ntmps43
  go_wp2_with fail
  refine wp_loop_rounds 1 ?_
  rw [rounds_succ]
  go_wp2_with fail
  first | go_end0 | (simp only [Exit.inBlock, Exit.then]; refine bodyPost_ret (results_none rfl _ _ _) rfl ?_) | refine bodyPost_ret (results_none rfl _ _ _) rfl ?_
  refine ⟨rfl, grown_set w g 70 _, ?_⟩
  have e : ∀ i, i ≠ 70 → (cs.setIfInBounds 70 (.int .u64 (n : Int)))[i]? = cs[i]? := fun i hi => by rw [set_get _ _ _ _ (by rw [HS.out.words.size]; omega), if_neg hi]
  refine ⟨_, heap_set HG.out 70 _, ⟨⟨by simp [HS.out.words.size], fun i hi => by rw [e i (by omega)]; exact HS.out.words.word i hi⟩, fun i hi => by rw [e _ (by omega)]; exact HS.out.bytes i hi, by rw [e 69 (by omega)]; exact HS.out.fill, ?_⟩⟩
  rw [set_get _ _ _ _ (by rw [HS.out.words.size]; omega), if_pos rfl]; rfl
theorem add_part (w : World) (g : Nat) (T : Nat → UInt8) (p n : Nat) (A : Option Addr) (N c : Nat) (hst : StT w g T p n) (hNs : n + N ≤ 1099511627776)
    (hp : 0 < N → ∃ b o, A = some ⟨b, o, none⟩ ∧ b ≠ g ∧ b < w.heap.size ∧ N ≤ c ∧ ∀ i, i < N → w.cell? ⟨b, o + i, none⟩ = some (.int .u8 (T (p + i)).toNat)) :
    Calls Try.prog 43 #[.pointer (some ⟨g, 0, none⟩), .slice A N c] w fun e w' => e = .returned (.tuple #[]) ∧ w.grownBy w' (some g) ∧ StT w' g T (p + N) (n + N) := by
  by_cases h : 0 < N
  · obtain ⟨b, o, rfl, h1, h2, h3, h4⟩ := hp h
    exact add_some w g T p n b o N c hst h1 h2 h3 hNs h4
  · obtain rfl : N = 0 := by omega
    exact add_zero w g T p n A c hst (by omega)
/-- The parts, one behind the other, are a text; one of no byte may be nil. -/
structure PartsO (w : World) (A : Option Addr) (n : Nat) (l : List UInt8) where
  b : Nat
  o : Nat
  addr : 0 < n → A = some ⟨b, o, none⟩ ∧ b < w.heap.size
  pa : Nat → Option Addr
  pn : Nat → Nat
  pc : Nat → Nat
  ofs : Nat → Nat
  row : ∀ i, i < n → w.cell? ⟨b, o + i, none⟩ = some (.slice (pa i) (pn i) (pc i))
  old : ∀ i, i < n → 0 < pn i → ∃ pb po, pa i = some ⟨pb, po, none⟩ ∧ pb < w.heap.size ∧ pn i ≤ pc i ∧ ∀ k, k < pn i → w.cell? ⟨pb, po + k, none⟩ = some (.int .u8 (l.getD (ofs i + k) 0).toNat)
  zero : ofs 0 = 0
  next : ∀ i, i < n → ofs (i + 1) = ofs i + pn i
  full : ofs n = l.length
theorem PartsO.mono {w : World} {A : Option Addr} {n : Nat} {l : List UInt8} (p : PartsO w A n l) (i : Nat) (hi : i ≤ n) : p.ofs i ≤ l.length := by
  rw [← p.full]
  have : ∀ d, i + d ≤ n → p.ofs i ≤ p.ofs (i + d) := by
    intro d
    induction d with
    | zero => intro _; exact Nat.le_refl _
    | succ d ih => intro h; rw [← Nat.add_assoc, p.next (i + d) (by omega)]; have := ih (by omega); omega
  have h := this (n - i) (by omega)
  rwa [show i + (n - i) = n by omega] at h
set_option maxHeartbeats 4000000 in
theorem SumO_any (w : World) (A : Option Addr) (n c : Nat) (l : List UInt8) (hl : l.length ≤ 1000000) (hn : n ≤ 1000000) (ps : PartsO w A n l) :
    Calls Try.prog 31 #[.slice A n c] w fun e w' => e = .returned (idv (sumL l)) ∧ Below w.heap.size w w' := by
  obtain ⟨z, hz, hze⟩ := z29
  have hzv := zero_arr hz
  have hzs : z.size = 20 := by rw [hze]; simp
  have hz4 := zero_arr (n := 71) z40
  have hb40 := built40
  obtain ⟨s0, hs0⟩ : ∃ s0, s0 = st0 := ⟨_, rfl⟩
  obtain ⟨zz, hzz⟩ : ∃ zz, zz = zer40 := ⟨_, rfl⟩
  rw [← hs0] at hb40
  rw [← hzz] at hz4
  have HB40 := Lib.hid hb40; have HS0 := Lib.hid hs0; have HZZ := Lib.hid hzz; have HZS := Lib.hid hzs
  clear hz hze hb40 hs0 hzz hzs
  go_enter Try.func31, Try.ntmps31
  go_wp2_with (first
    | (with_reducible refine wpList_build_as rfl 82 _ rfl w5 ?w5 ?_)
    | (with_reducible refine wpList_build_as rfl 98 _ rfl s0 ?b40 ?_)
    | (with_reducible refine wpList_store_row rfl 98 (.tmp 3) (.tmp 7) rfl (w.heap.size + 1) s0 rfl rfl 98 zz ?sg ?si ?so ?s1 ?_))
  case w5 => kernel_rfl
  case b40 => exact HB40.out
  case sg => rw [show w.heap.size + 1 = (w.alloc (.cells z 24)).heap.size by simp]; exact heap_alloc_new _ _
  case si => rw [HS0.out, info40, st0_size]
  case so => rw [HS0.out, HZZ.out, st0_size, zer40_size]
  case s1 => rw [HS0.out]; exact st0_all
  generalize hwS : (((w.alloc (.cells z 24)).alloc (.cells zz 98)).setRow (w.heap.size + 1) s0) = w0
  have hnew : ((w.alloc (.cells z 24)).alloc (.cells zz 98)).heap[w.heap.size + 1]? = some (.cells zz 98 (0, 0)) := by
    rw [show w.heap.size + 1 = (w.alloc (.cells z 24)).heap.size by simp]; exact heap_alloc_new _ _
  have hst0 : StT w0 (w.heap.size + 1) (padF l) 0 0 := by
    subst hwS
    exact ⟨s0, setRow_heap _ _ zz s0 _ _ hnew, by rw [HS0.out]; exact st0_StC _⟩
  have hb0 : Below w.heap.size w w0 := by
    subst hwS
    exact below_setRow (((Below.refl _ w).alloc (Nat.le_refl _) _).alloc (by simp) _) (by omega) s0
  have hr0 : w0.heap[w.heap.size]? = some (.cells z 24 (0, 0)) := by
    subst hwS
    rw [setRow_other _ _ _ _ (by omega)]; exact two_new w _ _
  clear hwS hnew
  have hmo := ps.mono
  obtain ⟨b, o, addr, pa, pn, pc, ofs, row, old, zero, next, full⟩ := ps
  simp only at hmo
  have MO := Lib.hid hmo; have AD := Lib.hid addr; have RO := Lib.hid row; have OL := Lib.hid old; have ZE := Lib.hid zero; have NE := Lib.hid next; have FU := Lib.hid full
  clear hmo addr row old zero next full
  go_loopw [10] (fun v wr => ∃ k : Nat, k ≤ n ∧ v = .int .i64 k ∧ StT wr (w.heap.size + 1) (padF l) (ofs k) (ofs k) ∧ wr.heap[w.heap.size]? = some (.cells z 24 (0, 0)) ∧ Below w.heap.size w wr) (fun v _ => n - (intOf v).toNat)
  case atStart => exact ⟨0, Nat.zero_le _, rfl, by rw [ZE.out]; exact hst0, hr0, hb0⟩
  case round =>
    clear hst0 hb0 hr0
    obtain ⟨k, hk, rfl, hst, hr, hb⟩ := hrel
    have HR := Lib.hid hr; clear hr
    have HST := Lib.hid hst; clear hst
    by_cases hlt : k < n
    · obtain ⟨hA, hbl⟩ := AD.out (by omega)
      subst hA
      have q : wr.cell? ⟨b, o + k, none⟩ = some (.slice (pa k) (pn k) (pc k)) := (hb.cell (p := ⟨b, o + k, none⟩) hbl).trans (RO.out k hlt)
      have h1 := NE.out k hlt
      have h2 := MO.out (k + 1) (by omega)
      have C := Lib.hid (add_part wr (w.heap.size + 1) (padF l) (ofs k) (ofs k) (pa k) (pn k) (pc k) HST.out (by omega) (fun hp => by
        obtain ⟨xb, xo, o1, o2, o3, o4⟩ := OL.out k hlt hp
        exact ⟨xb, xo, o1, by omega, by have := hb.size; omega, o3, fun i hi => by rw [hb.cell (p := ⟨xb, xo + i, none⟩) o2, o4 i hi, padF_in _ _ (by omega)]⟩))
      have H1 := Lib.hid h1
      clear h1 h2 hbl
      generalize pa k = pak at q C
      generalize hpn : pn k = pnk at q C H1
      generalize pc k = pck at q C
      clear hpn
      go_wp2_with fail
      refine C.out.mono ?_
      rintro e w4 ⟨rfl, hg4, hs4⟩
      have hb4 : Below w.heap.size w w4 := hb.grown hg4 hb.size (fun j hj => by cases hj; omega)
      have hr4 : w4.heap[w.heap.size]? = some (.cells z 24 (0, 0)) := (hg4.block _ (lt_of_heap HR.out) (by simp)).trans HR.out
      rw [← H1.out] at hs4
      clear C hg4
      go_wp2
      go_roundw
      case rel => exact ⟨k + 1, by omega, by go_num, hs4, hr4, hb4⟩
      case measure => simp [intOf]; omega
    · obtain rfl : k = n := by omega
      have hs := HST.out
      rw [FU.out] at hs
      have C := Lib.hid (end_any wr (w.heap.size + 1) l hl hs)
      clear hs
      go_wp2_with fail
      refine C.out.mono ?_
      rintro e w4 ⟨rfl, hg4, cs4, hh4, hs4⟩
      have hb4 : Below w.heap.size w w4 := hb.grown hg4 hb.size (fun j hj => by cases hj; omega)
      have hr4 : w4.heap[w.heap.size]? = some (.cells z 24 (0, 0)) := (hg4.block _ (lt_of_heap HR.out) (by simp)).trans HR.out
      clear C hg4
      have C := Lib.hid (id_any w4 (w.heap.size + 1) cs4 _ hh4 hs4.words)
      have e1 : (digest (hs (padF l) (padLen l.length / 64))) = sumL l := rfl
      rw [e1] at C
      clear e1 hs4
      have hsl : (sumL l).length = 20 := digest_len _
      unfold idv at C
      have hall := bc_all (sumL l)
      obtain ⟨arr, harr⟩ : ∃ arr, arr = (Lib.byteCells (sumL l)).toArray := ⟨_, rfl⟩
      rw [← harr] at C hall
      have hasz : arr.size = 20 := by rw [harr]; simp [bc_len, hsl]
      have HARR := Lib.hid harr; have HALL := Lib.hid hall; have HASZ := Lib.hid hasz
      clear harr hall hasz hsl
      go_wp2_with fail
      refine C.out.mono ?_
      rintro e w5' ⟨rfl, hb5⟩
      have hb6 : Below w.heap.size w w5' := hb4.trans (hb5.mono hb4.size)
      have hr5 : w5'.heap[w.heap.size]? = some (.cells z 24 (0, 0)) := (hb5.block _ (lt_of_heap hr4)).trans hr4
      have HR5 := Lib.hid hr5; clear hr5 hr4 hb5 hb4 C hh4
      go_wp2_with (with_reducible refine wpList_store_row rfl 24 (.tmp 2) (.tmp 18) rfl w.heap.size arr rfl rfl 24 z ?tg ?ti ?to9 ?t1 ?_)
      case tg => exact HR5.out
      case ti => rw [info29, HASZ.out]
      case to9 => rw [HZS.out, HASZ.out]
      case t1 => exact HALL.out
      refine bodyPost_ret (results_cell_row Try.results31 _ _ w.heap.size 24 arr (0, 0) _ rfl (setRow_heap w5' w.heap.size z arr _ (0, 0) HR5.out) Try.underlying24 rfl (by rw [info29, HASZ.out])) rfl ⟨by rw [HARR.out]; rfl, below_setRow hb6 (Nat.le_refl _) arr⟩
end Go.Proofs.Ytgbmbemmkadagaa
