/-
  The law ManifestLines: its walk.
-/
import Derived.Test.YtdgcjjledbnofaaDoorFu26
import Derived.Test.YtdgcjjledbnofaaDoorFu29
import Derived.Test.YtdgcjjledbnofaaDoorFu30
import Derived.Test.YtdgcjjledbnofaaDoorFu22
import Derived.Test.YtdgcjjledbnofaaDoorFu24
namespace Go.Proofs.YtdgcjjledbnofaaDoor.manifestLines
set_option maxRecDepth 20000
open Go.RowKit
set_option linter.unusedVariables false
set_option linter.unusedSimpArgs false

/-- What a number that came in is made into. -/
theorem uint_rem (x : Int) (m : Nat) (hm : 0 < m) (hm2 : m ≤ 1000) : ∃ r : Nat, r < m ∧ (IntKind.u64.wrap x).tmod (m : Int) = (r : Int) := by
  have h0 : 0 ≤ IntKind.u64.wrap x := by rw [IntKind.wrap_u64]; omega
  rw [Int.tmod_eq_emod_of_nonneg h0]
  have h1 := Int.emod_nonneg (IntKind.u64.wrap x) (show (m : Int) ≠ 0 by omega)
  have h2 := Int.emod_lt_of_pos (IntKind.u64.wrap x) (show (0 : Int) < m by omega)
  exact ⟨((IntKind.u64.wrap x) % (m : Int)).toNat, by omega, by omega⟩
theorem u8_cast (k : Nat) (h : k < 256) : ((UInt8.ofNat k).toNat : Int) = (k : Int) := by
  have : (UInt8.ofNat k).toNat = k := by rw [UInt8.toNat_ofNat']; exact Nat.mod_eq_of_lt (by omega)
  rw [this]
theorem num_u1 (i : Nat) (h : i < 7) : IntKind.u8.wrap (97 + (i : Int)) = ((97 + i : Nat) : Int) := by rw [IntKind.wrap_u8]; omega
theorem num_u2 (i : Nat) (h : i < 7) : IntKind.u8.wrap ((i : Int) + 1) = ((i + 1 : Nat) : Int) := by rw [IntKind.wrap_u8]; omega
theorem num_w1 (i : Nat) (h : i < 7) : wrap64 (97 + (i : Int)) = 97 + (i : Int) := by exact IntWalk.wrap64_in _ (by omega)
theorem num_w2 (i : Nat) (h : i < 7) : wrap64 ((i : Int) + 1) = (i : Int) + 1 := by exact IntWalk.wrap64_in _ (by omega)
theorem num_t1 (i : Nat) (h : i < 7) : (i : Int).tmod 3 = ((i % 3 : Nat) : Int) := by rw [Int.tmod_eq_emod_of_nonneg (by omega)]; omega
theorem num_w3 (i : Nat) (h : i < 7) : wrap64 ((i % 3 : Nat) : Int) = ((i % 3 : Nat) : Int) := by exact IntWalk.wrap64_in _ (by omega)
theorem num_w4 (i : Nat) (h : i < 7) : wrap64 (1 + ((i % 3 : Nat) : Int)) = ((1 + i % 3 : Nat) : Int) := by rw [IntWalk.wrap64_in _ (by omega)]; omega
theorem make20 (w : World) : ∃ u, (Instr.makeSlice 23 (.int .i64 20) (.int .i64 20)).run Tryd.prog w = .ok (.slice (some ⟨w.heap.size, 0, none⟩) 20 20) u ∧ Below w.heap.size w u ∧ BAt u (some ⟨w.heap.size, 0, none⟩) (List.replicate 20 0) := by
  obtain ⟨i, hi, hz, hs, hby⟩ := info_parts info_byte
  have h := run_makeSlice (P := Tryd.prog) w 23 5 i (.int .u8 0) Tryd.underlying23 hi hz .i64 .i64 20 20 (by decide) (by decide) (by rw [hs]; decide) (by rw [hby]; decide) (by decide)
  rw [hs] at h
  refine ⟨_, h, (Below.refl _ w).alloc (Nat.le_refl _) _, fun _ => ⟨_, _, rfl, by simp, fun k hk => ?_⟩⟩
  rw [Lib.cell_of_heap (heap_alloc_new w _)]
  have hk2 : k < 20 := by simpa using hk
  have e : (madeCells (Value.cells (.int .u8 0)) (Int.toNat 20 * 1))[0 + k]? = some (.int .u8 0) := by
    rw [show Value.cells (.int .u8 0) = #[.int .u8 0] from rfl, show Int.toNat 20 * 1 = 20 from rfl]
    simp [madeCells, hk2, Nat.mod_one]
  rw [e, List.getElem_replicate]
  rfl
set_option maxRecDepth 100000 in
set_option maxHeartbeats 64000000 in
theorem walk (w : World) (x0 : Int) (lo0 : -9223372036854775808 ≤ x0) (hi0 : x0 ≤ 9223372036854775807) (x1 : Int) (lo1 : -9223372036854775808 ≤ x1) (hi1 : x1 ≤ 9223372036854775807) (x2 : Int) (lo2 : -9223372036854775808 ≤ x2) (hi2 : x2 ≤ 9223372036854775807) (tab : QTab w) :
    Calls Tryd.prog 5 #[.int .i64 x0, .int .i64 x1, .int .i64 x2] w fun e w' => e = .returned (.bool true) ∧ Below w.heap.size w w' := by
  obtain ⟨n0, hn0, en0⟩ := uint_rem x0 6 (by decide) (by decide)
  obtain ⟨n, hn, hn2, hn7⟩ : ∃ n : Nat, n0 + 2 = n ∧ 2 ≤ n ∧ n ≤ 7 := ⟨_, rfl, by omega, by omega⟩
  have E0 : wrap64 (2 + wrap64 ((IntKind.u64.wrap x0).tmod 6)) = (n : Int) := by
    rw [show ((IntKind.u64.wrap x0).tmod 6) = (n0 : Int) from en0, IntWalk.wrap64_in (n0 : Int) (by omega)]
    rw [IntWalk.wrap64_in (2 + (n0 : Int)) (by omega)]
    omega
  obtain ⟨nm, hnm⟩ : ∃ nm : Nat, n - 1 = nm := ⟨_, rfl⟩
  have s1 : wrap64 ((n : Int) - 1) = (nm : Int) := by clear E0 en0 hn0 hn lo0 hi0 lo1 hi1 lo2 hi2; rw [IntWalk.wrap64_in _ (by omega)]; omega
  have c2 : IntKind.u64.wrap (nm : Int) = (nm : Int) := by clear E0 en0 s1 hn0 hn lo0 hi0 lo1 hi1 lo2 hi2; rw [IntKind.wrap_u64]; omega
  have nz : ¬ (nm : Int) = 0 := by clear E0 en0 s1 c2; omega
  have hnm1 : 0 < nm ∧ nm ≤ 1000 ∧ nm < n := by clear E0 en0 s1 c2; omega
  obtain ⟨k, hk, ek⟩ := uint_rem x1 nm hnm1.1 hnm1.2.1
  obtain ⟨q, hq, eq⟩ := uint_rem x2 4 (by decide) (by decide)
  have c3 : wrap64 (k : Int) = (k : Int) := by clear E0 en0 s1 c2 ek eq; exact IntWalk.wrap64_in _ (by omega)
  have GOOD := Lib.hid (good_G n hn2 hn7)
  have BAD := Lib.hid (bad_G n k q hn2 hn7 (by rw [hnm]; exact hk) hq)
  have TB := Lib.hid tab
  obtain ⟨z, hz, hzs, hzv, hzb, hz1⟩ := zFile_any
  have HZS := Lib.hid hzs
  go_enter Tryd.func5, Tryd.ntmps5
  obtain ⟨v0, ev0⟩ : ∃ v, IntKind.u64.wrap x0 = v := ⟨_, rfl⟩
  obtain ⟨v1, ev1⟩ : ∃ v, IntKind.u64.wrap x1 = v := ⟨_, rfl⟩
  obtain ⟨v2, ev2⟩ : ∃ v, IntKind.u64.wrap x2 = v := ⟨_, rfl⟩
  rw [ev0] at E0
  rw [ev1] at ek
  rw [ev2] at eq
  have EQ : v2.tmod 4 = (q : Int) := eq
  have EK : v1.tmod ((n : Int) - 1) = (k : Int) := by rw [show (n : Int) - 1 = (nm : Int) by clear E0 ek eq EQ ev0 ev1 ev2 s1 c2 c3; omega]; exact ek
  clear en0 eq ek hn0 hn lo0 hi0 lo1 hi1 lo2 hi2 tab hz hzs hzb hz1
  have EQH := Lib.hid EQ
  go_wp2_with fail
  simp only [E0, EK, c3]
  clear E0 EK EQ s1 c2 c3 nz ev0 ev1
  have EV2 := Lib.hid ev2; have HNM := Lib.hid hnm; have HNM1 := Lib.hid hnm1
  clear ev2 hnm hnm1
  go_loopw [7, 8, 9] (fun v7 v8 v9 wr => ∃ i : Nat, i ≤ n ∧ v9 = .int .i64 i ∧ OwnR rowF w.heap.size v7 (filsG i) wr ∧ OwnR rowS w.heap.size v8 (linsG i) wr ∧ Below w.heap.size w wr) (fun _ _ v9 _ => n - (intOf v9).toNat)
  case atStart => exact ⟨0, Nat.zero_le _, rfl, ownR_nil _ _, ownR_nil _ _, Below.refl _ _⟩
  case round =>
    obtain ⟨i, hi, rfl, hf, hs, hbr⟩ := hrel
    have HF := Lib.hid hf; have HS := Lib.hid hs; have HBR := Lib.hid hbr
    clear hf hs hbr
    by_cases hlt : i < n
    · skip
      --CUT
      have h7 : i < 7 := Nat.lt_of_lt_of_le hlt hn7
      have t0 := num_t1 i h7
      obtain ⟨r, hr⟩ : ∃ r, i % 3 = r := ⟨_, rfl⟩
      have hr3 : r < 3 := by rw [← hr]; exact Nat.mod_lt _ (by decide)
      rw [hr] at t0
      have HR := Lib.hid hr
      clear hr
      have hb1 : BAt (wr.alloc (.cells #[.int .u8 (97 + (i : Int))] 5)) (some ⟨wr.heap.size, 0, none⟩) [UInt8.ofNat (97 + i)] := fun _ => ⟨_, _, rfl, by simp, fun j hj => by
        obtain rfl : j = 0 := by simpa using hj
        rw [Lib.cell_of_heap (heap_alloc_new wr _)]
        show some (Value.int .u8 (97 + (i : Int))) = some (.int .u8 ((UInt8.ofNat (97 + i)).toNat : Int))
        rw [u8_cast _ (by omega)]
        rfl⟩
      have cv1 := hb1.conv (P := Tryd.prog) 1 23 5 Tryd.underlying23 Tryd.underlying5 9 Tryd.underlying9
      rw [show [UInt8.ofNat (97 + i)].length = 1 from rfl] at cv1
      have hx1 : filG i = ⟨[UInt8.ofNat (97 + i)], 1 + (r : Int), UInt8.ofNat (i + 1) :: List.replicate 19 0⟩ := by unfold filG; rw [HR.out]; rfl
      have hfx := arrF_size (filG i) rfl
      have hox := arrF_one (filG i)
      have HRW := Lib.hid (fun (u : World) (q : Nat) (h : u.heap[q]? = some (.cells (arrF (filG i)) rowF.ty (0, 0))) => rowR_one (x := filG i) goodF h)
      have HCH := Lib.hid (fun (u : World) (g : Nat) (h : u.heap[g]? = some (.cells (arrF (filG i)) 28 (0, 0))) => rHex_any (some ⟨g, 2, none⟩) 20 20 (filG i).id u (bat_of_range (lt_of_heap h) (fun j v hv => by
          have := rowF_cells h (j + 2) v hv
          rwa [show 0 + (j + 2) = 2 + j by omega] at this)) rfl (by show (20 : Nat) ≤ _; decide))
      have HQP := Lib.hid (fun (u : World) (g : Nat) (h : u.heap[g]? = some (.cells (arrF (filG i)) 28 (0, 0))) => (rowF_cells h 0 _ rfl : u.cell? ⟨g, 0 + 0, none⟩ = some (.string ⟨[UInt8.ofNat (97 + i)].toArray⟩)))
      have hbi := built_id1 (UInt8.ofNat (i + 1))
      rw [u8_cast (i + 1) (by omega)] at hbi
      have hbf := built_fil (1 + (r : Int)) ⟨[UInt8.ofNat (97 + i)].toArray⟩ (UInt8.ofNat (i + 1) :: List.replicate 19 0) rfl
      rw [show (.string ⟨[UInt8.ofNat (97 + i)].toArray⟩ :: .int .i64 (1 + (r : Int)) :: cellsD (UInt8.ofNat (i + 1) :: List.replicate 19 0) : List Value).toArray = arrF (filG i) by rw [hx1]; rfl] at hbf
      have FN := Lib.hid (filsG_next i); have LN := Lib.hid (linsG_next i)
      have hln : lineM (filG i) = [UInt8.ofNat (97 + i)] ++ [0] ++ hexL (filG i).id ++ flagM (1 + (r : Int)) ++ [10] := by rw [hx1]; rfl
      have hx20 : (filG i).id.length = 20 := rfl
      have hxl : (hexL (filG i).id).length = 40 := by rw [hexL_length, hx20]
      have hfl := flagM_len (1 + (r : Int))
      have a1 := fun u => add_lists (P := Tryd.prog) u [UInt8.ofNat (97 + i)] [0] (by simp)
      have a2 := fun u => add_lists (P := Tryd.prog) u ([UInt8.ofNat (97 + i)] ++ [0]) (hexL (filG i).id) (by simp; omega)
      have a3 := fun u => add_lists (P := Tryd.prog) u ([UInt8.ofNat (97 + i)] ++ [0] ++ hexL (filG i).id) (flagM (1 + (r : Int))) (by simp; omega)
      have a4 := fun u => add_lists (P := Tryd.prog) u ([UInt8.ofNat (97 + i)] ++ [0] ++ hexL (filG i).id ++ flagM (1 + (r : Int))) [10] (by simp; omega)
      rw [← hln] at a4
      obtain ⟨AF, hAF⟩ : ∃ A, arrF (filG i) = A := ⟨_, rfl⟩
      obtain ⟨A1, hA1⟩ : ∃ A, arrD (UInt8.ofNat (i + 1) :: List.replicate 19 0) = A := ⟨_, rfl⟩
      rw [hA1] at hbi hbf
      rw [hAF] at hbf hfx hox HRW HCH HQP
      obtain ⟨x, hx⟩ : ∃ x, filG i = x := ⟨_, rfl⟩
      obtain ⟨ln, hln2⟩ : ∃ ln, lineM (filG i) = ln := ⟨_, rfl⟩
      rw [hln2] at a4 LN
      obtain ⟨s4, hs4⟩ : ∃ s : ByteArray, ⟨ln.toArray⟩ = s := ⟨_, rfl⟩
      rw [hs4] at a4
      have HS4 := Lib.hid hs4
      generalize (⟨([UInt8.ofNat (97 + i)] ++ [0] ++ hexL (filG i).id ++ flagM (1 + (r : Int))).toArray⟩ : ByteArray) = s3 at a3 a4
      generalize (⟨([UInt8.ofNat (97 + i)] ++ [0] ++ hexL (filG i).id).toArray⟩ : ByteArray) = s2 at a2 a3
      generalize (⟨([UInt8.ofNat (97 + i)] ++ [0]).toArray⟩ : ByteArray) = s1 at a1 a2
      generalize (⟨(hexL (filG i).id).toArray⟩ : ByteArray) = sh at a2 HCH
      obtain ⟨sf, hsf⟩ : ∃ s : ByteArray, ⟨(flagM (1 + (r : Int))).toArray⟩ = s := ⟨_, rfl⟩
      rw [hsf] at a3
      have HSF := Lib.hid hsf
      generalize (⟨[UInt8.ofNat (97 + i)].toArray⟩ : ByteArray) = sp at a1 cv1 hbf HQP
      rw [show (((i + 1 : Nat) : Int)) = (i : Int) + 1 from rfl] at hbi
      have BI := Lib.hid hbi; have BF := Lib.hid hbf; have SF := Lib.hid (show AF.size = rowF.size from hfx); have OF := Lib.hid hox
      have IF := Lib.hid (show (Tryd.prog.info? 28).map (·.size) = some AF.size by rw [hfx]; exact infoFile)
      have EF := Lib.hid (hfx.trans HZS.out.symm)
      have OKF := Lib.hid (show ∀ y ∈ [filG i], rowF.ok y from fun y hy => by rw [List.mem_singleton.1 hy]; exact hx20)
      have OKL := Lib.hid (show ∀ y ∈ filsG i, rowF.ok y from fun y hy => (filsG_mem hy).1)
      have LE1 := Lib.hid (show (filsG i).length + [filG i].length ≤ 1000000000 by rw [filsG_len]; simp; omega)
      have LE2 := Lib.hid (show (linsG i).length + [ln].length ≤ 1000000000 by rw [linsG_len]; simp; omega)
      rw [hx] at HRW FN OKF LE1
      have b1 := (Below.refl wr.heap.size wr).alloc (Nat.le_refl _) (.cells #[.int .u8 (97 + (i : Int))] 5)
      obtain ⟨W1, hW1⟩ : ∃ W1, wr.alloc (.cells #[.int .u8 (97 + (i : Int))] 5) = W1 := ⟨_, rfl⟩
      rw [hW1] at cv1 b1
      have BW1 := Lib.hid b1
      clear b1 hb1 hx1 hfx hox hbi hbf hln hx20 hxl hfl hAF hA1 hx hln2 hs4 hsf
      repeat (first
      | (refine wpList_build_one rfl 26 0 _ rfl _ rfl A1 BI.out ?_)
      | (refine wpList_build_three rfl 28 0 1 2 _ _ _ rfl _ _ _ rfl rfl rfl AF BF.out ?_)
      | (with_reducible refine wpList_store_all rfl 28 (.tmp 10) (.tmp 48) rfl W1.heap.size AF rfl rfl 28 z (heap_alloc_new _ _) IF.out EF.out OF.out ?_)
      | go_values | go_skip | go_guarded | go_step | go_upon | (simp only []; go_at_K))
      intro w4 r4 off4 sz4
      have b4 : Below W1.heap.size W1 w4 := ((Below.refl W1.heap.size W1).alloc (Nat.le_refl _) (.cells z 28)).trans (off4.below (Nat.le_refl _) (by simp))
      have b04 := BW1.out.trans (b4.mono BW1.out.size)
      have B4 := Lib.hid (HBR.out.trans (b04.mono HBR.out.size))
      have F4 := Lib.hid (ownR_below HF.out b04)
      have S4 := Lib.hid (ownR_below HS.out b04)
      have R4 := Lib.hid r4
      have NE4 := Lib.hid (show u7.ownBlock ≠ some W1.heap.size ∧ u8.ownBlock ≠ some W1.heap.size from ⟨fun e => by have := (ownR_lt HF.out _ e).2; have := BW1.out.size; omega, fun e => by have := (ownR_lt HS.out _ e).2; have := BW1.out.size; omega⟩)
      obtain ⟨g, hg⟩ : ∃ g, W1.heap.size = g := ⟨_, rfl⟩
      have HGG := Lib.hid hg
      rw [hg] at R4 NE4
      have b5 := (Below.refl w4.heap.size w4).alloc (Nat.le_refl _) (.cells AF rowF.ty)
      have B5 := Lib.hid (B4.out.trans (b5.mono B4.out.size))
      have F5 := Lib.hid (ownR_below F4.out b5)
      have S5 := Lib.hid (ownR_below S4.out b5)
      have R5 := Lib.hid ((b5.block g (lt_of_heap R4.out)).trans R4.out)
      have W5 := Lib.hid (HRW.out _ _ (heap_alloc_new w4 (.cells AF rowF.ty)))
      obtain ⟨w5, hw5⟩ : ∃ w5, w4.alloc (.cells AF rowF.ty) = w5 := ⟨_, rfl⟩
      rw [hw5] at B5 F5 S5 W5 R5
      have HW5 := Lib.hid hw5
      clear r4 off4 sz4 b4 b04 hg b5 hw5 hW1 cv1
      rw [HGG.out]
      repeat (first
      | (with_reducible refine wpList_load_all 28 (.tmp 10) rfl (by kernel_rfl) g AF 28 (0, 0) rfl R4.out _ Tryd.underlying28 rfl IF.out ?_)
      | (with_reducible refine wpList_build_oneR goodF rfl (.tmp 50) rfl AF SF.out rfl ?_; rw [HW5.out])
      | (at_builtin; refine wpList_append_anyR goodF rfl (.tmp 49) (.tmp 51) rfl w.heap.size _ (filsG i) [x] (some ⟨w4.heap.size, 0, none⟩) 1 1 rfl rfl rfl W5.out OKF.out OKL.out F5.out LE1.out B5.out.size ?_)
      | go_values | go_skip | go_guarded | go_step | go_upon | (simp only []; go_at_K))
      intro v6 w6 ow6 gw6
      rw [← FN.out] at ow6
      have B6 := Lib.hid (B5.out.grown gw6 B5.out.size (fun j hj => (ownR_lt F5.out j hj).1))
      have S6 := Lib.hid (ownR_same S5.out (fun k hk => gw6.block k (ownR_lt S5.out k hk).2 (fun e => ownR_apart F5.out S5.out (by decide) k hk e.symm)))
      have R6 := Lib.hid ((gw6.block g (lt_of_heap R5.out) (fun e => NE4.out.1 e.symm)).trans R5.out)
      have F6 := Lib.hid ow6
      clear ow6 gw6
      repeat (first
      | go_values | go_skip | go_guarded | go_step | go_upon | (simp only []; go_at_K))
      obtain ⟨wd, hwd⟩ : ∃ wd, w6.drew = wd := ⟨_, rfl⟩
      have hS0 : wd.heap[g]? = some (.cells AF 28 (0, 0)) ∧ Below w.heap.size w wd := by rw [← hwd]; exact ⟨R6.out, B6.out.drew⟩
      have F6 := Lib.hid (show OwnR rowF w.heap.size v6 (filsG (i + 1)) wd by rw [← hwd]; exact ownR_below F6.out (Below.refl _ _).drew)
      have S6 := Lib.hid (show OwnR rowS w.heap.size u8 (linsG i) wd by rw [← hwd]; exact ownR_below S6.out (Below.refl _ _).drew)
      have KEEP := Lib.hid (fun (u u' : World) (h : u.heap[g]? = some (.cells AF 28 (0, 0)) ∧ Below w.heap.size w u) (b : Below u.heap.size u u') => (⟨(b.block g (lt_of_heap h.1)).trans h.1, h.2.trans (b.mono h.2.size)⟩ : u'.heap[g]? = some (.cells AF 28 (0, 0)) ∧ Below w.heap.size w u'))
      have H0 := Lib.hid hS0
      have FLA := Lib.hid (fun (u : World) (h : Nat) (hc : u.heap[h]? = some (.cells #[.string ⟨#[]⟩, .string ⟨#[120]⟩, .string ⟨#[108]⟩] 9 (0, 0))) => (by
        rw [Lib.cell_of_heap hc, ← HSF.out]
        rcases (show r = 0 ∨ r = 1 ∨ r = 2 by clear t0; omega) with rfl | rfl | rfl <;> rfl : u.cell? ⟨h, r, none⟩ = some (.string sf)))
      clear hS0 R6 B6
      refine wp_region_held_drew (S := fun u => u.heap[g]? = some (.cells AF 28 (0, 0)) ∧ Below w.heap.size w u) (by kernel_rfl) (by rw [hwd]; exact H0.out) (fun hHeld => ?_)
      rw [hwd] at hHeld ⊢
      clear hwd
      refine tkW 0 rfl hHeld ?_
      refine tkW 1 rfl hHeld ?_
      refine tkV 2 rfl (.string sp) (fun u hu => by have q := HQP.out u g hu.1; go_simp) hHeld ?_
      refine tkW 3 rfl hHeld ?_
      refine tkW 4 rfl hHeld ?_
      refine tkV 5 rfl (.slice (some ⟨g, 2, none⟩) 20 20) (fun u hu => by have q := slice20_all u g 2; go_simp) hHeld ?_
      refine tkW 9 rfl hHeld ?_
      refine tkV 10 rfl (.int .i64 r) (fun u hu => by go_simp) hHeld ?_
      refine wpAnyH_ready (rs := [6, 8]) (by kernel_rfl) (by simp) ?_
      refine (AllReadyH.cons rfl (fun K hK => ?_) (AllReadyH.cons rfl (fun K hK => ?_) AllReadyH.nil))
      · go_simp
        refine (HCH.out _ g hHeld.1).mono ?_
        rintro e u6 ⟨rfl, bh⟩
        have hH := KEEP.out _ _ hHeld bh
        have F6 := Lib.hid (ownR_below F6.out bh)
        have S6 := Lib.hid (ownR_below S6.out bh)
        clear hHeld bh
        refine hK.out _ _ hH (fun hHeld => ?_)
        clear hK K
        try simp only [Act.put, List.getElem_toArray, List.getElem_cons_succ, List.getElem_cons_zero, lsA, lsZ, lsS]
        refine tkW 7 rfl hHeld ?_
        refine rdH 8 rfl (fun K hK => ?_)
        go_simp
        have bh := (Below.refl u6.heap.size u6).alloc (Nat.le_refl _) (.cells #[.string ⟨#[]⟩, .string ⟨#[120]⟩, .string ⟨#[108]⟩] 9)
        have c3 := heap_alloc_new u6 (.cells #[.string ⟨#[]⟩, .string ⟨#[120]⟩, .string ⟨#[108]⟩] 9)
        obtain ⟨v8, hv8⟩ : ∃ v8, u6.alloc (.cells #[.string ⟨#[]⟩, .string ⟨#[120]⟩, .string ⟨#[108]⟩] 9) = v8 := ⟨_, rfl⟩
        rw [hv8] at bh c3 ⊢
        obtain ⟨h3, hh3⟩ : ∃ h3, u6.heap.size = h3 := ⟨_, rfl⟩
        rw [hh3] at c3 ⊢
        have hH := KEEP.out _ _ hHeld bh
        have F6 := Lib.hid (ownR_below F6.out bh)
        have S6 := Lib.hid (ownR_below S6.out bh)
        have C3 := Lib.hid c3
        clear hHeld bh c3 hv8 hh3
        refine hK.out _ _ hH (fun hHeld => ?_)
        clear hK K
        try simp only [Act.put, List.getElem_toArray, List.getElem_cons_succ, List.getElem_cons_zero, lsA, lsZ, lsS]
        refine tkV 11 rfl (.pointer (some ⟨h3, r, none⟩)) (fun u hu => by go_simp; intro q3; clear t0; omega) hHeld ?_
        refine rdH 12 rfl (fun K hK => ?_)
        have q3 := FLA.out v8 h3 C3.out
        go_simp
        clear q3
        refine hK.out _ _ hHeld (fun hHeld => ?_)
        clear hK K
        try simp only [Act.put, List.getElem_toArray, List.getElem_cons_succ, List.getElem_cons_zero, lsA, lsZ, lsS]
        refine tkW 13 rfl hHeld ?_
        refine tkW 14 rfl hHeld ?_
        refine rdH 15 rfl (fun K hK => ?_)
        go_simp
        have bh := (Below.refl v8.heap.size v8).alloc (Nat.le_refl _) (.cells #[.string s4] 9)
        have c4 := heap_alloc_new v8 (.cells #[.string s4] 9)
        obtain ⟨v15, hv15⟩ : ∃ v15, v8.alloc (.cells #[.string s4] 9) = v15 := ⟨_, rfl⟩
        rw [hv15] at bh c4 ⊢
        obtain ⟨h4, hh4⟩ : ∃ h4, v8.heap.size = h4 := ⟨_, rfl⟩
        rw [hh4] at c4 ⊢
        have hH := KEEP.out _ _ hHeld bh
        have F6 := Lib.hid (ownR_below F6.out bh)
        have S6 := Lib.hid (ownR_below S6.out bh)
        have W15 := Lib.hid (rowR_one (x := ln) goodS (show v15.heap[h4]? = some (.cells (rowS.cl ln).toArray 9 (0, 0)) by rw [c4, ← HS4.out]; rfl))
        clear hHeld bh c4 hv15 hh4
        refine hK.out _ _ hH (fun hHeld => ?_)
        clear hK K
        try simp only [Act.put, List.getElem_toArray, List.getElem_cons_succ, List.getElem_cons_zero, lsA, lsZ, lsS]
        refine rdH 16 rfl (fun K hK => ?_)
        refine stepW rfl (wp_append_anyR goodS (.tmp 53) (.tmp 68) rfl w.heap.size u8 (linsG i) [ln] (some ⟨h4, 0, none⟩) 1 1 (by kernel_rfl) (by kernel_rfl) rfl W15.out (fun _ _ => trivial) (fun _ _ => trivial) S6.out LE2.out hHeld.2.size (fun v7 w7 ow7 gw7 => ?_))
        rw [← LN.out] at ow7
        have hH : w7.heap[g]? = some (.cells AF 28 (0, 0)) ∧ Below w.heap.size w w7 := ⟨(gw7.block g (lt_of_heap hHeld.1) (fun e => NE4.out.2 e.symm)).trans hHeld.1, hHeld.2.grown gw7 hHeld.2.size (fun j hj => (ownR_lt S6.out j hj).1)⟩
        have F7 := Lib.hid (ownR_same F6.out (fun k hk => gw7.block k (ownR_lt F6.out k hk).2 (fun e => ownR_apart S6.out F6.out (by decide) k hk e.symm)))
        have S7 := Lib.hid ow7
        clear hHeld ow7 gw7
        refine hK.out _ _ hH (fun hHeld => ?_)
        clear hK K
        try simp only [Act.put, List.getElem_toArray, List.getElem_cons_succ, List.getElem_cons_zero, lsA, lsZ, lsS]
        refine tkW 17 rfl hHeld ?_
        refine wpAnyH_done (by kernel_rfl) ?_ _
        have B7 := Lib.hid hHeld.2
        clear hHeld
        repeat (first | go_values | go_skip | go_guarded | go_step | go_upon)
        go_roundw
        case rel => exact ⟨i + 1, by omega, by go_num, F7.out, S7.out, B7.out⟩
        case measure => show n - ((i : Int) + 1).toNat < n - (i : Int).toNat; clear t0; omega
      · go_simp
        have bh := (Below.refl wd.heap.size wd).alloc (Nat.le_refl _) (.cells #[.string ⟨#[]⟩, .string ⟨#[120]⟩, .string ⟨#[108]⟩] 9)
        have c3 := heap_alloc_new wd (.cells #[.string ⟨#[]⟩, .string ⟨#[120]⟩, .string ⟨#[108]⟩] 9)
        obtain ⟨v8, hv8⟩ : ∃ v8, wd.alloc (.cells #[.string ⟨#[]⟩, .string ⟨#[120]⟩, .string ⟨#[108]⟩] 9) = v8 := ⟨_, rfl⟩
        rw [hv8] at bh c3 ⊢
        obtain ⟨h3, hh3⟩ : ∃ h3, wd.heap.size = h3 := ⟨_, rfl⟩
        rw [hh3] at c3 ⊢
        have hH := KEEP.out _ _ hHeld bh
        have F6 := Lib.hid (ownR_below F6.out bh)
        have S6 := Lib.hid (ownR_below S6.out bh)
        have C3 := Lib.hid c3
        clear hHeld bh c3 hv8 hh3
        refine hK.out _ _ hH (fun hHeld => ?_)
        clear hK K
        try simp only [Act.put, List.getElem_toArray, List.getElem_cons_succ, List.getElem_cons_zero, lsA, lsZ, lsS]
        refine tkV 11 rfl (.pointer (some ⟨h3, r, none⟩)) (fun u hu => by go_simp; intro q3; clear t0; omega) hHeld ?_
        refine wpAnyH_ready (rs := [6, 12]) (by kernel_rfl) (by simp) ?_
        refine (AllReadyH.cons rfl (fun K hK => ?_) (AllReadyH.cons rfl (fun K hK => ?_) AllReadyH.nil))
        · go_simp
          refine (HCH.out _ g hHeld.1).mono ?_
          rintro e u6 ⟨rfl, bh⟩
          have hH := KEEP.out _ _ hHeld bh
          have F6 := Lib.hid (ownR_below F6.out bh)
          have S6 := Lib.hid (ownR_below S6.out bh)
          have C3 := Lib.hid ((bh.block h3 (lt_of_heap C3.out)).trans C3.out)
          clear hHeld bh
          refine hK.out _ _ hH (fun hHeld => ?_)
          clear hK K
          try simp only [Act.put, List.getElem_toArray, List.getElem_cons_succ, List.getElem_cons_zero, lsA, lsZ, lsS]
          refine tkW 7 rfl hHeld ?_
          refine rdH 12 rfl (fun K hK => ?_)
          have q3 := FLA.out u6 h3 C3.out
          go_simp
          clear q3
          refine hK.out _ _ hHeld (fun hHeld => ?_)
          clear hK K
          try simp only [Act.put, List.getElem_toArray, List.getElem_cons_succ, List.getElem_cons_zero, lsA, lsZ, lsS]
          refine tkW 13 rfl hHeld ?_
          refine tkW 14 rfl hHeld ?_
          refine rdH 15 rfl (fun K hK => ?_)
          go_simp
          have bh := (Below.refl u6.heap.size u6).alloc (Nat.le_refl _) (.cells #[.string s4] 9)
          have c4 := heap_alloc_new u6 (.cells #[.string s4] 9)
          obtain ⟨v15, hv15⟩ : ∃ v15, u6.alloc (.cells #[.string s4] 9) = v15 := ⟨_, rfl⟩
          rw [hv15] at bh c4 ⊢
          obtain ⟨h4, hh4⟩ : ∃ h4, u6.heap.size = h4 := ⟨_, rfl⟩
          rw [hh4] at c4 ⊢
          have hH := KEEP.out _ _ hHeld bh
          have F6 := Lib.hid (ownR_below F6.out bh)
          have S6 := Lib.hid (ownR_below S6.out bh)
          have W15 := Lib.hid (rowR_one (x := ln) goodS (show v15.heap[h4]? = some (.cells (rowS.cl ln).toArray 9 (0, 0)) by rw [c4, ← HS4.out]; rfl))
          clear hHeld bh c4 hv15 hh4
          refine hK.out _ _ hH (fun hHeld => ?_)
          clear hK K
          try simp only [Act.put, List.getElem_toArray, List.getElem_cons_succ, List.getElem_cons_zero, lsA, lsZ, lsS]
          refine rdH 16 rfl (fun K hK => ?_)
          refine stepW rfl (wp_append_anyR goodS (.tmp 53) (.tmp 68) rfl w.heap.size u8 (linsG i) [ln] (some ⟨h4, 0, none⟩) 1 1 (by kernel_rfl) (by kernel_rfl) rfl W15.out (fun _ _ => trivial) (fun _ _ => trivial) S6.out LE2.out hHeld.2.size (fun v7 w7 ow7 gw7 => ?_))
          rw [← LN.out] at ow7
          have hH : w7.heap[g]? = some (.cells AF 28 (0, 0)) ∧ Below w.heap.size w w7 := ⟨(gw7.block g (lt_of_heap hHeld.1) (fun e => NE4.out.2 e.symm)).trans hHeld.1, hHeld.2.grown gw7 hHeld.2.size (fun j hj => (ownR_lt S6.out j hj).1)⟩
          have F7 := Lib.hid (ownR_same F6.out (fun k hk => gw7.block k (ownR_lt F6.out k hk).2 (fun e => ownR_apart S6.out F6.out (by decide) k hk e.symm)))
          have S7 := Lib.hid ow7
          clear hHeld ow7 gw7
          refine hK.out _ _ hH (fun hHeld => ?_)
          clear hK K
          try simp only [Act.put, List.getElem_toArray, List.getElem_cons_succ, List.getElem_cons_zero, lsA, lsZ, lsS]
          refine tkW 17 rfl hHeld ?_
          refine wpAnyH_done (by kernel_rfl) ?_ _
          have B7 := Lib.hid hHeld.2
          clear hHeld
          repeat (first | go_values | go_skip | go_guarded | go_step | go_upon)
          go_roundw
          case rel => exact ⟨i + 1, by omega, by go_num, F7.out, S7.out, B7.out⟩
          case measure => show n - ((i : Int) + 1).toNat < n - (i : Int).toNat; clear t0; omega
        · have q3 := FLA.out v8 h3 C3.out
          go_simp
          clear q3
          refine hK.out _ _ hHeld (fun hHeld => ?_)
          clear hK K
          try simp only [Act.put, List.getElem_toArray, List.getElem_cons_succ, List.getElem_cons_zero, lsA, lsZ, lsS]
          refine rdH 6 rfl (fun K hK => ?_)
          go_simp
          refine (HCH.out _ g hHeld.1).mono ?_
          rintro e u6 ⟨rfl, bh⟩
          have hH := KEEP.out _ _ hHeld bh
          have F6 := Lib.hid (ownR_below F6.out bh)
          have S6 := Lib.hid (ownR_below S6.out bh)
          have C3 := Lib.hid ((bh.block h3 (lt_of_heap C3.out)).trans C3.out)
          clear hHeld bh
          refine hK.out _ _ hH (fun hHeld => ?_)
          clear hK K
          try simp only [Act.put, List.getElem_toArray, List.getElem_cons_succ, List.getElem_cons_zero, lsA, lsZ, lsS]
          refine tkW 7 rfl hHeld ?_
          refine tkW 13 rfl hHeld ?_
          refine tkW 14 rfl hHeld ?_
          refine rdH 15 rfl (fun K hK => ?_)
          go_simp
          have bh := (Below.refl u6.heap.size u6).alloc (Nat.le_refl _) (.cells #[.string s4] 9)
          have c4 := heap_alloc_new u6 (.cells #[.string s4] 9)
          obtain ⟨v15, hv15⟩ : ∃ v15, u6.alloc (.cells #[.string s4] 9) = v15 := ⟨_, rfl⟩
          rw [hv15] at bh c4 ⊢
          obtain ⟨h4, hh4⟩ : ∃ h4, u6.heap.size = h4 := ⟨_, rfl⟩
          rw [hh4] at c4 ⊢
          have hH := KEEP.out _ _ hHeld bh
          have F6 := Lib.hid (ownR_below F6.out bh)
          have S6 := Lib.hid (ownR_below S6.out bh)
          have W15 := Lib.hid (rowR_one (x := ln) goodS (show v15.heap[h4]? = some (.cells (rowS.cl ln).toArray 9 (0, 0)) by rw [c4, ← HS4.out]; rfl))
          clear hHeld bh c4 hv15 hh4
          refine hK.out _ _ hH (fun hHeld => ?_)
          clear hK K
          try simp only [Act.put, List.getElem_toArray, List.getElem_cons_succ, List.getElem_cons_zero, lsA, lsZ, lsS]
          refine rdH 16 rfl (fun K hK => ?_)
          refine stepW rfl (wp_append_anyR goodS (.tmp 53) (.tmp 68) rfl w.heap.size u8 (linsG i) [ln] (some ⟨h4, 0, none⟩) 1 1 (by kernel_rfl) (by kernel_rfl) rfl W15.out (fun _ _ => trivial) (fun _ _ => trivial) S6.out LE2.out hHeld.2.size (fun v7 w7 ow7 gw7 => ?_))
          rw [← LN.out] at ow7
          have hH : w7.heap[g]? = some (.cells AF 28 (0, 0)) ∧ Below w.heap.size w w7 := ⟨(gw7.block g (lt_of_heap hHeld.1) (fun e => NE4.out.2 e.symm)).trans hHeld.1, hHeld.2.grown gw7 hHeld.2.size (fun j hj => (ownR_lt S6.out j hj).1)⟩
          have F7 := Lib.hid (ownR_same F6.out (fun k hk => gw7.block k (ownR_lt F6.out k hk).2 (fun e => ownR_apart S6.out F6.out (by decide) k hk e.symm)))
          have S7 := Lib.hid ow7
          clear hHeld ow7 gw7
          refine hK.out _ _ hH (fun hHeld => ?_)
          clear hK K
          try simp only [Act.put, List.getElem_toArray, List.getElem_cons_succ, List.getElem_cons_zero, lsA, lsZ, lsS]
          refine tkW 17 rfl hHeld ?_
          refine wpAnyH_done (by kernel_rfl) ?_ _
          have B7 := Lib.hid hHeld.2
          clear hHeld
          repeat (first | go_values | go_skip | go_guarded | go_step | go_upon)
          go_roundw
          case rel => exact ⟨i + 1, by omega, by go_num, F7.out, S7.out, B7.out⟩
          case measure => show n - ((i : Int) + 1).toNat < n - (i : Int).toNat; clear t0; omega
      --TUC
    · obtain rfl : i = n := by omega
      clear hlt hi
      have hids : ∀ f ∈ filsG i, f.id.length = 20 := fun f hf => (filsG_mem hf).1
      obtain ⟨a7, c7, hv7, hl7, hm7, hr7, -, -⟩ := ownR_shape goodF HF.out hids
      obtain ⟨a8, c8, hv8, hl8, hm8, hr8, hn8, hb8⟩ := ownR_shape goodS HS.out (fun _ _ => trivial)
      rw [linsG_len] at hv8 hn8 hl8
      rw [filsG_len] at hv7 hl7
      obtain ⟨ad, rfl⟩ : ∃ ad, a8 = some ad := by
        cases a8 with
        | none => exact absurd (hn8 rfl).1 (by omega)
        | some ad => exact ⟨ad, rfl⟩
      obtain ⟨b8, b8o, b8l⟩ := hb8 ad rfl
      obtain ⟨g8, o8, r8⟩ := ad
      simp only at b8 b8o b8l
      subst b8o
      obtain rfl : r8 = none := by
        obtain ⟨bb, oo, e, -⟩ := hr8.some (by rw [linsG_len]; omega)
        cases e; rfl
      subst hv7; subst hv8
      have CP := Lib.hid (fun u (h : Below wr.heap.size wr u) => mPrint_is a7 i c7 (filsG i) u (filsG_len i).symm (by unfold maxLen; omega) (hr7.keep h) hids (fun f hf => Nat.le_trans (filsG_mem hf).2 (by decide)) (TB.out.below (HBR.out.trans (h.mono HBR.out.size))))
      rw [GOOD.out] at CP
      have HS2 := Lib.hid (show OwnR rowS w.heap.size (.slice (some ⟨g8, 0, none⟩) (linsG i).length c8) (linsG i) wr by have h := HS.out; rw [linsG_len]; exact h)
      have LC := Lib.hid (fun u (h : Below wr.heap.size wr u) j (hj : j < (linsG i).length) => (h.cell (p := ⟨g8, j, none⟩) b8l).trans (ownS_cell HS2.out hj).1)
      have LB := Lib.hid (show ∀ s ∈ linsG i, s.length ≤ 60 from fun s hs => by
        unfold linsG at hs
        obtain ⟨j, -, rfl⟩ := List.mem_map.1 hs
        have := (linG_len j).1; omega)
      have CA := Lib.hid (fun u (h : Below w.heap.size w u) => awake16 u (TB.out.below h))
      have B8 := Lib.hid (And.intro b8 b8l)
      clear hids hl7 hm7 hr7 hl8 hm8 hr8 hn8 hb8 b8 b8l HF HS
      rename World => wo
      repeat (first
      | go_values | go_skip | go_guarded | go_step | go_upon | (simp only []; go_at_K))
      go_loopw [11, 12] (fun v11 v12 wr => ∃ j : Nat, j ≤ i ∧ v12 = .int .i64 j ∧ v11 = .string ⟨(((linsG i).take j).flatten).toArray⟩ ∧ Below wo.heap.size wo wr) (fun _ v12 _ => i - (intOf v12).toNat)
      case atStart => exact ⟨0, Nat.zero_le _, rfl, rfl, Below.refl _ _⟩
      case round =>
        obtain ⟨j, hj, rfl, rfl, hbj⟩ := hrel
        have HBJ := Lib.hid hbj
        clear hbj
        by_cases hlt : j < i
        · have hjl : j < (linsG i).length := by rw [linsG_len]; exact hlt
          have q0 := LC.out wr HBJ.out j hjl
          have NX := Lib.hid (flat_take (linsG i) j hjl)
          have fb := Nat.le_trans (flat_len 60 (linsG i) j LB.out) (Nat.mul_le_mul_left 60 (show j ≤ 7 by omega))
          have lb := LB.out _ (List.getElem_mem hjl)
          have a1 := fun u => add_lists (P := Tryd.prog) u ((linsG i).take j).flatten (linsG i)[j] (by omega)
          rw [← NX.out] at a1
          obtain ⟨sn, hsn⟩ : ∃ sn : ByteArray, ⟨(((linsG i).take (j + 1)).flatten).toArray⟩ = sn := ⟨_, rfl⟩
          rw [hsn] at a1
          have HSN := Lib.hid hsn
          generalize (⟨(((linsG i).take j).flatten).toArray⟩ : ByteArray) = so at a1 ⊢
          generalize (⟨((linsG i)[j]).toArray⟩ : ByteArray) = sl at a1 q0
          clear hjl fb lb NX hsn
          repeat (first
          | go_values | go_skip | go_guarded | go_step | go_upon | (simp only []; go_at_K))
          exact ⟨⟨j + 1, by omega, rfl, by rw [HSN.out], HBJ.out⟩, by show i - ((j : Int) + 1).toNat < i - (j : Int).toNat; omega⟩
        · obtain rfl : j = i := by omega
          clear hlt hj
          rw [List.take_of_length_le (by rw [linsG_len]; exact Nat.le_refl _)]
          have BJ := Lib.hid (HBR.out.trans (HBJ.out.mono HBR.out.size))
          have CP2 := Lib.hid (CP.out wr HBJ.out)
          obtain ⟨sg, hsg⟩ : ∃ sg, (linsG j).flatten = sg := ⟨_, rfl⟩
          rw [hsg] at CP2 ⊢
          have BAD2 := BAD
          have O2 := Lib.hid (ownR_below HS2.out HBJ.out)
          clear hsg CP LC
          repeat (first
          | go_values | go_skip | go_guarded | go_step | go_upon | (simp only []; go_at_K))
          refine CP2.out.mono ?_
          rintro e u1 ⟨v, rfl, ⟨va, vc, rfl, hbv, -, -, -⟩, b1⟩
          have B1 := Lib.hid (BJ.out.trans (b1.mono BJ.out.size))
          have O3 := Lib.hid (ownR_below O2.out b1)
          have HBV := Lib.hid hbv
          clear hbv b1 CP2
          repeat (first
          | go_values | go_skip | go_guarded | go_step | go_upon | (simp only []; go_at_K))
          refine (CA.out _ B1.out).mono ?_
          rintro e u2 ⟨rfl, b2⟩
          have B2 := Lib.hid (B1.out.trans (b2.mono B1.out.size))
          have O4 := Lib.hid (ownR_below O3.out b2)
          have cv2 := (HBV.out.keep b2).conv (P := Tryd.prog) vc 23 5 Tryd.underlying23 Tryd.underlying5 9 Tryd.underlying9
          obtain ⟨ssg, hssg⟩ : ∃ s : ByteArray, ⟨sg.toArray⟩ = s := ⟨_, rfl⟩
          rw [hssg] at cv2 ⊢
          have eq2 := EQH.out
          have ev3 := EV2.out
          have hkj : k + 1 < j := by
            have h1 := HNM.out; have h2 := HNM1.out
            clear eq2 ev3
            omega
          have hk1 : k + 1 < (linsG j).length := by rw [linsG_len]; exact hkj
          have hk0 : k < (linsG j).length := by rw [linsG_len]; omega
          have BMH := Lib.hid (modG_short (L := linsG j) (fun s hs => by
            unfold linsG at hs
            obtain ⟨j, -, rfl⟩ := List.mem_map.1 hs
            exact (linG_len j).1) k q)
          have G0 := Lib.hid (getDS_at hk0); have G1 := Lib.hid (getDS_at hk1)
          have KJ := Lib.hid hkj
          have kw : IntKind.i64.wrap ((k : Int) + 1) = (k : Int) + 1 := by clear eq2 ev3; exact IntWalk.i64_in _ (by omega)
          have KI := Lib.hid (show (k : Int) + 1 < (j : Int) by omega)
          have KW := Lib.hid kw
          clear b2 CA hssg HNM HNM1 kw
          rcases (show q = 0 ∨ q = 1 ∨ q = 2 ∨ q = 3 by clear eq2 ev3; omega) with rfl | rfl | rfl | rfl
          · skip
            repeat (first
            | go_values | go_skip | go_guarded | go_step | go_upon | (simp only []; go_at_K))
            obtain ⟨wd, hwd⟩ : ∃ wd, u2.drew = wd := ⟨_, rfl⟩
            have O5 := Lib.hid (show OwnR rowS w.heap.size (.slice (some ⟨g8, 0, none⟩) (linsG j).length c8) (linsG j) wd by rw [← hwd]; exact ownR_below O4.out (Below.refl _ _).drew)
            have H0 := Lib.hid (show Below w.heap.size w wd by rw [← hwd]; exact B2.out.drew)
            refine wp_region_held_drew (S := fun u => Below w.heap.size w u) (by kernel_rfl) (by rw [hwd]; exact H0.out) (fun hHeld => ?_)
            rw [hwd] at hHeld ⊢
            clear hwd
            refine tkW 0 rfl hHeld ?_
            refine tkW 1 rfl hHeld ?_
            refine tkW 2 rfl hHeld ?_
            refine tkW 3 rfl hHeld ?_
            refine tkV 4 rfl (.int .i64 ((k : Int) + 1)) (fun u hu => by have q9 := KW.out; go_simp) hHeld ?_
            refine tkW 5 rfl hHeld ?_
            refine tkW 6 rfl hHeld ?_
            refine tkV 7 rfl (.int .i64 ((k : Int) + 1)) (fun u hu => by have q9 := KW.out; go_simp) hHeld ?_
            refine tkV 8 rfl (.pointer (some ⟨g8, k + 1, none⟩)) (fun u hu => by have q9 := KI.out; go_simp; try (intro q9; omega)) hHeld ?_
            refine tkW 10 rfl hHeld ?_
            refine tkW 11 rfl hHeld ?_
            refine tkV 12 rfl (.pointer (some ⟨g8, k, none⟩)) (fun u hu => by go_simp; try (intro q9; omega)) hHeld ?_
            refine wpAnyH_ready (rs := [9, 13]) (by kernel_rfl) (by simp) ?_
            refine (AllReadyH.cons rfl (fun K hK => ?_) (AllReadyH.cons rfl (fun K hK => ?_) AllReadyH.nil))
            · have q3 := (ownS_cell O5.out hk1).1
              go_simp
              clear q3
              refine hK.out _ _ hHeld (fun hHeld => ?_)
              clear hK K
              try simp only [Act.put, List.getElem_toArray, List.getElem_cons_succ, List.getElem_cons_zero, lsA, lsZ, lsS]
              refine rdH 13 rfl (fun K hK => ?_)
              have q3 := (ownS_cell O5.out hk0).1
              go_simp
              clear q3
              refine hK.out _ _ hHeld (fun hHeld => ?_)
              clear hK K
              try simp only [Act.put, List.getElem_toArray, List.getElem_cons_succ, List.getElem_cons_zero, lsA, lsZ, lsS]
              refine tkV 14 rfl (.pointer (some ⟨g8, k, none⟩)) (fun u hu => by go_simp; try (intro q9; omega)) hHeld ?_
              refine rdH 15 rfl (fun K hK => ?_)
              have q3 := (ownS_cell O5.out hk0).1
              have q4 := (ownS_cell O5.out hk0).2.1
              go_simp
              have O6 := Lib.hid (ownS_set (s := (linsG j)[k + 1]) O5.out hk0)
              have hH := hHeld.setCell (p := ⟨g8, k, none⟩) B8.out.1 (.string ⟨((linsG j)[k + 1]).toArray⟩)
              obtain ⟨we, hwe⟩ : ∃ we, wd.setCell ⟨g8, k, none⟩ (.string ⟨((linsG j)[k + 1]).toArray⟩) = we := ⟨_, rfl⟩
              rw [hwe] at O6 hH ⊢
              clear hHeld q3 q4 hwe
              refine hK.out _ _ hH (fun hHeld => ?_)
              clear hK K
              try simp only [Act.put, List.getElem_toArray, List.getElem_cons_succ, List.getElem_cons_zero, lsA, lsZ, lsS]
              refine tkV 16 rfl (.pointer (some ⟨g8, k + 1, none⟩)) (fun u hu => by have q9 := KI.out; go_simp; try (intro q9; omega)) hHeld ?_
              refine rdH 17 rfl (fun K hK => ?_)
              have hk2 : k + 1 < ((linsG j).set k (linsG j)[k + 1]).length := by rw [List.length_set]; exact hk1
              have q3 := (ownS_cell O6.out hk2).1
              have q4 := (ownS_cell O6.out hk2).2.1
              go_simp
              have O7 := Lib.hid (ownS_set (s := (linsG j)[k]) O6.out hk2)
              have hH := hHeld.setCell (p := ⟨g8, k + 1, none⟩) B8.out.1 (.string ⟨((linsG j)[k]).toArray⟩)
              clear hHeld q3 q4
              refine hK.out _ _ hH (fun hHeld => ?_)
              clear hK K
              try simp only [Act.put, List.getElem_toArray, List.getElem_cons_succ, List.getElem_cons_zero, lsA, lsZ, lsS]
              refine wpAnyH_done (by kernel_rfl) ?_ _
              have OM := Lib.hid (show OwnR rowS w.heap.size (.slice (some ⟨g8, 0, none⟩) (modG (linsG j) k 0).length c8) (modG (linsG j) k 0) (we.setCell ⟨g8, k + 1, none⟩ (.string ⟨((linsG j)[k]).toArray⟩)) by rw [show modG (linsG j) k 0 = (((linsG j).set k (linsG j)[k + 1]).set (k + 1) (linsG j)[k]) by unfold modG; rw [if_pos rfl, G0.out, G1.out]]; exact O7.out)
              have BM := Lib.hid hHeld
              clear hHeld
              repeat (first
              | go_values | go_skip | go_guarded | go_step | go_upon | (simp only []; go_at_K))
              have MBH := Lib.hid BMH.out
              have ML := Lib.hid (show (modG (linsG j) k 0).length = j by rw [modG_len, linsG_len])
              obtain ⟨M, hM⟩ : ∃ M, modG (linsG j) k 0 = M := ⟨_, rfl⟩
              rw [hM] at OM MBH ML
              have BD := Lib.hid BAD.out
              rw [hM] at BD
              obtain ⟨uu, huu⟩ : ∃ uu, (we.setCell ⟨g8, k + 1, none⟩ (.string ⟨((linsG j)[k]).toArray⟩)) = uu := ⟨_, rfl⟩
              rw [huu] at OM BM ⊢
              have LM := Lib.hid (fun u (h : Below uu.heap.size uu u) l (hl : l < M.length) => (h.cell (p := ⟨g8, l, none⟩) (ownS_cell OM.out hl).2.2.1).trans (ownS_cell OM.out hl).1)
              clear hM huu
              go_loopw [15, 16] (fun v15 v16 wr => ∃ l : Nat, l ≤ j ∧ v16 = .int .i64 l ∧ v15 = .string ⟨((M.take l).flatten).toArray⟩ ∧ Below uu.heap.size uu wr) (fun _ v16 _ => j - (intOf v16).toNat)
              case atStart => exact ⟨0, Nat.zero_le _, rfl, rfl, Below.refl _ _⟩
              case round =>
                obtain ⟨l, hl, rfl, rfl, hbl⟩ := hrel
                have HBL := Lib.hid hbl
                clear hbl
                by_cases hlt : l < j
                · have hll : l < M.length := by rw [ML.out]; exact hlt
                  have q0 := LM.out wr HBL.out l hll
                  have NX := Lib.hid (flat_take M l hll)
                  have fb := Nat.le_trans (flat_len 60 M l MBH.out) (Nat.mul_le_mul_left 60 (show l ≤ 7 by omega))
                  have lb := MBH.out _ (List.getElem_mem hll)
                  have a1 := fun u => add_lists (P := Tryd.prog) u (M.take l).flatten M[l] (by omega)
                  rw [← NX.out] at a1
                  obtain ⟨sn, hsn⟩ : ∃ sn : ByteArray, ⟨((M.take (l + 1)).flatten).toArray⟩ = sn := ⟨_, rfl⟩
                  rw [hsn] at a1
                  have HSN := Lib.hid hsn
                  generalize (⟨((M.take l).flatten).toArray⟩ : ByteArray) = so at a1 ⊢
                  generalize (⟨(M[l]).toArray⟩ : ByteArray) = sl at a1 q0
                  clear hll fb lb NX hsn
                  repeat (first
                  | go_values | go_skip | go_guarded | go_step | go_upon | (simp only []; go_at_K))
                  exact ⟨⟨l + 1, by omega, rfl, by rw [HSN.out], HBL.out⟩, by show j - ((l : Int) + 1).toNat < j - (l : Int).toNat; omega⟩
                · obtain rfl : l = j := by omega
                  rw [List.take_of_length_le (by rw [ML.out]; exact Nat.le_refl _)]
                  have fb := flat_len 60 M l MBH.out
                  rw [List.take_of_length_le (by rw [ML.out]; exact Nat.le_refl _)] at fb
                  obtain ⟨FT, hFT⟩ : ∃ FT, M.flatten = FT := ⟨_, rfl⟩
                  rw [hFT] at BD fb ⊢
                  obtain ⟨vb, ub, cvb, rvb, bvb⟩ := bytes_red wr FT (by omega)
                  obtain ⟨ab, cb, rfl, hbb, -⟩ := rvb
                  have BB := Lib.hid ((BM.out.trans (HBL.out.mono BM.out.size)).trans (bvb.mono (BM.out.trans (HBL.out.mono BM.out.size)).size))
                  have CQ := Lib.hid (mParse_is ab FT.length cb FT ub rfl hbb (TB.out.below BB.out))
                  rw [BD.out] at CQ
                  obtain ⟨sFT, hsFT⟩ : ∃ s : ByteArray, ⟨FT.toArray⟩ = s := ⟨_, rfl⟩
                  rw [hsFT] at cvb ⊢
                  clear hlt hl hFT fb hbb bvb hsFT LM MBH
                  repeat (first
                  | go_values | go_skip | go_guarded | go_step | go_upon | (simp only []; go_at_K))
                  refine CQ.out.mono ?_
                  rintro e ue ⟨v, rfl, ⟨ae, ce, hv, -⟩, be⟩
                  have BE := Lib.hid (BB.out.trans (be.mono BB.out.size))
                  simp only [List.length_nil] at hv
                  subst hv
                  clear be CQ
                  repeat (first
                  | go_values | go_skip | go_guarded | go_step | go_upon | (simp only []; go_at_K))
                  go_ret
                  exact ⟨rfl, BE.out⟩
            · have q3 := (ownS_cell O5.out hk0).1
              go_simp
              clear q3
              refine hK.out _ _ hHeld (fun hHeld => ?_)
              clear hK K
              try simp only [Act.put, List.getElem_toArray, List.getElem_cons_succ, List.getElem_cons_zero, lsA, lsZ, lsS]
              refine rdH 9 rfl (fun K hK => ?_)
              have q3 := (ownS_cell O5.out hk1).1
              go_simp
              clear q3
              refine hK.out _ _ hHeld (fun hHeld => ?_)
              clear hK K
              try simp only [Act.put, List.getElem_toArray, List.getElem_cons_succ, List.getElem_cons_zero, lsA, lsZ, lsS]
              refine tkV 14 rfl (.pointer (some ⟨g8, k, none⟩)) (fun u hu => by go_simp; try (intro q9; omega)) hHeld ?_
              refine rdH 15 rfl (fun K hK => ?_)
              have q3 := (ownS_cell O5.out hk0).1
              have q4 := (ownS_cell O5.out hk0).2.1
              go_simp
              have O6 := Lib.hid (ownS_set (s := (linsG j)[k + 1]) O5.out hk0)
              have hH := hHeld.setCell (p := ⟨g8, k, none⟩) B8.out.1 (.string ⟨((linsG j)[k + 1]).toArray⟩)
              obtain ⟨we, hwe⟩ : ∃ we, wd.setCell ⟨g8, k, none⟩ (.string ⟨((linsG j)[k + 1]).toArray⟩) = we := ⟨_, rfl⟩
              rw [hwe] at O6 hH ⊢
              clear hHeld q3 q4 hwe
              refine hK.out _ _ hH (fun hHeld => ?_)
              clear hK K
              try simp only [Act.put, List.getElem_toArray, List.getElem_cons_succ, List.getElem_cons_zero, lsA, lsZ, lsS]
              refine tkV 16 rfl (.pointer (some ⟨g8, k + 1, none⟩)) (fun u hu => by have q9 := KI.out; go_simp; try (intro q9; omega)) hHeld ?_
              refine rdH 17 rfl (fun K hK => ?_)
              have hk2 : k + 1 < ((linsG j).set k (linsG j)[k + 1]).length := by rw [List.length_set]; exact hk1
              have q3 := (ownS_cell O6.out hk2).1
              have q4 := (ownS_cell O6.out hk2).2.1
              go_simp
              have O7 := Lib.hid (ownS_set (s := (linsG j)[k]) O6.out hk2)
              have hH := hHeld.setCell (p := ⟨g8, k + 1, none⟩) B8.out.1 (.string ⟨((linsG j)[k]).toArray⟩)
              clear hHeld q3 q4
              refine hK.out _ _ hH (fun hHeld => ?_)
              clear hK K
              try simp only [Act.put, List.getElem_toArray, List.getElem_cons_succ, List.getElem_cons_zero, lsA, lsZ, lsS]
              refine wpAnyH_done (by kernel_rfl) ?_ _
              have OM := Lib.hid (show OwnR rowS w.heap.size (.slice (some ⟨g8, 0, none⟩) (modG (linsG j) k 0).length c8) (modG (linsG j) k 0) (we.setCell ⟨g8, k + 1, none⟩ (.string ⟨((linsG j)[k]).toArray⟩)) by rw [show modG (linsG j) k 0 = (((linsG j).set k (linsG j)[k + 1]).set (k + 1) (linsG j)[k]) by unfold modG; rw [if_pos rfl, G0.out, G1.out]]; exact O7.out)
              have BM := Lib.hid hHeld
              clear hHeld
              repeat (first
              | go_values | go_skip | go_guarded | go_step | go_upon | (simp only []; go_at_K))
              have MBH := Lib.hid BMH.out
              have ML := Lib.hid (show (modG (linsG j) k 0).length = j by rw [modG_len, linsG_len])
              obtain ⟨M, hM⟩ : ∃ M, modG (linsG j) k 0 = M := ⟨_, rfl⟩
              rw [hM] at OM MBH ML
              have BD := Lib.hid BAD.out
              rw [hM] at BD
              obtain ⟨uu, huu⟩ : ∃ uu, (we.setCell ⟨g8, k + 1, none⟩ (.string ⟨((linsG j)[k]).toArray⟩)) = uu := ⟨_, rfl⟩
              rw [huu] at OM BM ⊢
              have LM := Lib.hid (fun u (h : Below uu.heap.size uu u) l (hl : l < M.length) => (h.cell (p := ⟨g8, l, none⟩) (ownS_cell OM.out hl).2.2.1).trans (ownS_cell OM.out hl).1)
              clear hM huu
              go_loopw [15, 16] (fun v15 v16 wr => ∃ l : Nat, l ≤ j ∧ v16 = .int .i64 l ∧ v15 = .string ⟨((M.take l).flatten).toArray⟩ ∧ Below uu.heap.size uu wr) (fun _ v16 _ => j - (intOf v16).toNat)
              case atStart => exact ⟨0, Nat.zero_le _, rfl, rfl, Below.refl _ _⟩
              case round =>
                obtain ⟨l, hl, rfl, rfl, hbl⟩ := hrel
                have HBL := Lib.hid hbl
                clear hbl
                by_cases hlt : l < j
                · have hll : l < M.length := by rw [ML.out]; exact hlt
                  have q0 := LM.out wr HBL.out l hll
                  have NX := Lib.hid (flat_take M l hll)
                  have fb := Nat.le_trans (flat_len 60 M l MBH.out) (Nat.mul_le_mul_left 60 (show l ≤ 7 by omega))
                  have lb := MBH.out _ (List.getElem_mem hll)
                  have a1 := fun u => add_lists (P := Tryd.prog) u (M.take l).flatten M[l] (by omega)
                  rw [← NX.out] at a1
                  obtain ⟨sn, hsn⟩ : ∃ sn : ByteArray, ⟨((M.take (l + 1)).flatten).toArray⟩ = sn := ⟨_, rfl⟩
                  rw [hsn] at a1
                  have HSN := Lib.hid hsn
                  generalize (⟨((M.take l).flatten).toArray⟩ : ByteArray) = so at a1 ⊢
                  generalize (⟨(M[l]).toArray⟩ : ByteArray) = sl at a1 q0
                  clear hll fb lb NX hsn
                  repeat (first
                  | go_values | go_skip | go_guarded | go_step | go_upon | (simp only []; go_at_K))
                  exact ⟨⟨l + 1, by omega, rfl, by rw [HSN.out], HBL.out⟩, by show j - ((l : Int) + 1).toNat < j - (l : Int).toNat; omega⟩
                · obtain rfl : l = j := by omega
                  rw [List.take_of_length_le (by rw [ML.out]; exact Nat.le_refl _)]
                  have fb := flat_len 60 M l MBH.out
                  rw [List.take_of_length_le (by rw [ML.out]; exact Nat.le_refl _)] at fb
                  obtain ⟨FT, hFT⟩ : ∃ FT, M.flatten = FT := ⟨_, rfl⟩
                  rw [hFT] at BD fb ⊢
                  obtain ⟨vb, ub, cvb, rvb, bvb⟩ := bytes_red wr FT (by omega)
                  obtain ⟨ab, cb, rfl, hbb, -⟩ := rvb
                  have BB := Lib.hid ((BM.out.trans (HBL.out.mono BM.out.size)).trans (bvb.mono (BM.out.trans (HBL.out.mono BM.out.size)).size))
                  have CQ := Lib.hid (mParse_is ab FT.length cb FT ub rfl hbb (TB.out.below BB.out))
                  rw [BD.out] at CQ
                  obtain ⟨sFT, hsFT⟩ : ∃ s : ByteArray, ⟨FT.toArray⟩ = s := ⟨_, rfl⟩
                  rw [hsFT] at cvb ⊢
                  clear hlt hl hFT fb hbb bvb hsFT LM MBH
                  repeat (first
                  | go_values | go_skip | go_guarded | go_step | go_upon | (simp only []; go_at_K))
                  refine CQ.out.mono ?_
                  rintro e ue ⟨v, rfl, ⟨ae, ce, hv, -⟩, be⟩
                  have BE := Lib.hid (BB.out.trans (be.mono BB.out.size))
                  simp only [List.length_nil] at hv
                  subst hv
                  clear be CQ
                  repeat (first
                  | go_values | go_skip | go_guarded | go_step | go_upon | (simp only []; go_at_K))
                  go_ret
                  exact ⟨rfl, BE.out⟩
          · have q3 := (ownS_cell O4.out hk0).1
            have q5 := (ownS_cell O4.out hk1).1
            have q6 := (ownS_cell O4.out hk1).2.1
            have kw2 := KW.out
            have ki2 := KI.out
            repeat (first
            | go_values | go_skip | go_guarded | go_step | go_upon | (simp only []; go_at_K))
            have OM := Lib.hid (show OwnR rowS w.heap.size (.slice (some ⟨g8, 0, none⟩) (modG (linsG j) k 1).length c8) (modG (linsG j) k 1) (u2.setCell ⟨g8, k + 1, none⟩ (.string ⟨((linsG j)[k]).toArray⟩)) by rw [show modG (linsG j) k 1 = (linsG j).set (k + 1) (linsG j)[k] by unfold modG; rw [if_neg (by decide), if_pos rfl, G0.out]]; exact ownS_set O4.out hk1)
            have BM := Lib.hid (B2.out.setCell (p := ⟨g8, k + 1, none⟩) B8.out.1 (.string ⟨((linsG j)[k]).toArray⟩))
            clear q3 q5 q6
            have MBH := Lib.hid BMH.out
            have ML := Lib.hid (show (modG (linsG j) k 1).length = j by rw [modG_len, linsG_len])
            obtain ⟨M, hM⟩ : ∃ M, modG (linsG j) k 1 = M := ⟨_, rfl⟩
            rw [hM] at OM MBH ML
            have BD := Lib.hid BAD.out
            rw [hM] at BD
            obtain ⟨uu, huu⟩ : ∃ uu, (u2.setCell ⟨g8, k + 1, none⟩ (.string ⟨((linsG j)[k]).toArray⟩)) = uu := ⟨_, rfl⟩
            rw [huu] at OM BM ⊢
            have LM := Lib.hid (fun u (h : Below uu.heap.size uu u) l (hl : l < M.length) => (h.cell (p := ⟨g8, l, none⟩) (ownS_cell OM.out hl).2.2.1).trans (ownS_cell OM.out hl).1)
            clear hM huu
            go_loopw [15, 16] (fun v15 v16 wr => ∃ l : Nat, l ≤ j ∧ v16 = .int .i64 l ∧ v15 = .string ⟨((M.take l).flatten).toArray⟩ ∧ Below uu.heap.size uu wr) (fun _ v16 _ => j - (intOf v16).toNat)
            case atStart => exact ⟨0, Nat.zero_le _, rfl, rfl, Below.refl _ _⟩
            case round =>
              obtain ⟨l, hl, rfl, rfl, hbl⟩ := hrel
              have HBL := Lib.hid hbl
              clear hbl
              by_cases hlt : l < j
              · have hll : l < M.length := by rw [ML.out]; exact hlt
                have q0 := LM.out wr HBL.out l hll
                have NX := Lib.hid (flat_take M l hll)
                have fb := Nat.le_trans (flat_len 60 M l MBH.out) (Nat.mul_le_mul_left 60 (show l ≤ 7 by omega))
                have lb := MBH.out _ (List.getElem_mem hll)
                have a1 := fun u => add_lists (P := Tryd.prog) u (M.take l).flatten M[l] (by omega)
                rw [← NX.out] at a1
                obtain ⟨sn, hsn⟩ : ∃ sn : ByteArray, ⟨((M.take (l + 1)).flatten).toArray⟩ = sn := ⟨_, rfl⟩
                rw [hsn] at a1
                have HSN := Lib.hid hsn
                generalize (⟨((M.take l).flatten).toArray⟩ : ByteArray) = so at a1 ⊢
                generalize (⟨(M[l]).toArray⟩ : ByteArray) = sl at a1 q0
                clear hll fb lb NX hsn
                repeat (first
                | go_values | go_skip | go_guarded | go_step | go_upon | (simp only []; go_at_K))
                exact ⟨⟨l + 1, by omega, rfl, by rw [HSN.out], HBL.out⟩, by show j - ((l : Int) + 1).toNat < j - (l : Int).toNat; omega⟩
              · obtain rfl : l = j := by omega
                rw [List.take_of_length_le (by rw [ML.out]; exact Nat.le_refl _)]
                have fb := flat_len 60 M l MBH.out
                rw [List.take_of_length_le (by rw [ML.out]; exact Nat.le_refl _)] at fb
                obtain ⟨FT, hFT⟩ : ∃ FT, M.flatten = FT := ⟨_, rfl⟩
                rw [hFT] at BD fb ⊢
                obtain ⟨vb, ub, cvb, rvb, bvb⟩ := bytes_red wr FT (by omega)
                obtain ⟨ab, cb, rfl, hbb, -⟩ := rvb
                have BB := Lib.hid ((BM.out.trans (HBL.out.mono BM.out.size)).trans (bvb.mono (BM.out.trans (HBL.out.mono BM.out.size)).size))
                have CQ := Lib.hid (mParse_is ab FT.length cb FT ub rfl hbb (TB.out.below BB.out))
                rw [BD.out] at CQ
                obtain ⟨sFT, hsFT⟩ : ∃ s : ByteArray, ⟨FT.toArray⟩ = s := ⟨_, rfl⟩
                rw [hsFT] at cvb ⊢
                clear hlt hl hFT fb hbb bvb hsFT LM MBH
                repeat (first
                | go_values | go_skip | go_guarded | go_step | go_upon | (simp only []; go_at_K))
                refine CQ.out.mono ?_
                rintro e ue ⟨v, rfl, ⟨ae, ce, hv, -⟩, be⟩
                have BE := Lib.hid (BB.out.trans (be.mono BB.out.size))
                simp only [List.length_nil] at hv
                subst hv
                clear be CQ
                repeat (first
                | go_values | go_skip | go_guarded | go_step | go_upon | (simp only []; go_at_K))
                go_ret
                exact ⟨rfl, BE.out⟩
          · obtain ⟨u3, mk, bm, hbz⟩ := make20 u2
            have CX := Lib.hid (rHex_any (some ⟨u2.heap.size, 0, none⟩) 20 20 (List.replicate 20 0) u3 hbz rfl (by decide))
            have a1 := fun u => add_lists (P := Tryd.prog) u [97, 0] (hexL (List.replicate 20 0)) (by rw [hexL_length]; simp)
            have a2 := fun u => add_lists (P := Tryd.prog) u ([97, 0] ++ hexL (List.replicate 20 0)) [10] (by rw [List.length_append, hexL_length]; simp)
            rw [show [97, 0] ++ hexL (List.replicate 20 0) ++ [10] = badL from rfl] at a2
            obtain ⟨sb, hsb⟩ : ∃ s : ByteArray, ⟨badL.toArray⟩ = s := ⟨_, rfl⟩
            rw [hsb] at a2
            have HSB := Lib.hid hsb
            generalize (⟨([97, 0] ++ hexL (List.replicate 20 0)).toArray⟩ : ByteArray) = sc at a1 a2
            generalize (⟨(hexL (List.replicate 20 0)).toArray⟩ : ByteArray) = sd at a1 CX
            have B3 := Lib.hid (B2.out.trans (bm.mono B2.out.size))
            have O5 := Lib.hid (ownR_below O4.out bm)
            clear hsb bm hbz
            repeat (first
            | go_values | go_skip | go_guarded | go_step | go_upon | (simp only []; go_at_K))
            refine CX.out.mono ?_
            rintro e u4 ⟨rfl, b4⟩
            have B4 := Lib.hid (B3.out.trans (b4.mono B3.out.size))
            have O6 := Lib.hid (ownR_below O5.out b4)
            clear b4 CX mk
            have q5 := (ownS_cell O6.out hk0).1
            have q6 := (ownS_cell O6.out hk0).2.1
            repeat (first
            | go_values | go_skip | go_guarded | go_step | go_upon | (simp only []; go_at_K))
            have OM := Lib.hid (show OwnR rowS w.heap.size (.slice (some ⟨g8, 0, none⟩) (modG (linsG j) k 2).length c8) (modG (linsG j) k 2) (u4.setCell ⟨g8, k, none⟩ (.string sb)) by
              rw [show modG (linsG j) k 2 = (linsG j).set k badL by unfold modG; rw [if_neg (by decide), if_neg (by decide), if_pos rfl], ← HSB.out]
              exact ownS_set O6.out hk0)
            have BM := Lib.hid (B4.out.setCell (p := ⟨g8, k, none⟩) B8.out.1 (.string sb))
            clear q5 q6
            have MBH := Lib.hid BMH.out
            have ML := Lib.hid (show (modG (linsG j) k 2).length = j by rw [modG_len, linsG_len])
            obtain ⟨M, hM⟩ : ∃ M, modG (linsG j) k 2 = M := ⟨_, rfl⟩
            rw [hM] at OM MBH ML
            have BD := Lib.hid BAD.out
            rw [hM] at BD
            obtain ⟨uu, huu⟩ : ∃ uu, (u4.setCell ⟨g8, k, none⟩ (.string sb)) = uu := ⟨_, rfl⟩
            rw [huu] at OM BM ⊢
            have LM := Lib.hid (fun u (h : Below uu.heap.size uu u) l (hl : l < M.length) => (h.cell (p := ⟨g8, l, none⟩) (ownS_cell OM.out hl).2.2.1).trans (ownS_cell OM.out hl).1)
            clear hM huu
            go_loopw [15, 16] (fun v15 v16 wr => ∃ l : Nat, l ≤ j ∧ v16 = .int .i64 l ∧ v15 = .string ⟨((M.take l).flatten).toArray⟩ ∧ Below uu.heap.size uu wr) (fun _ v16 _ => j - (intOf v16).toNat)
            case atStart => exact ⟨0, Nat.zero_le _, rfl, rfl, Below.refl _ _⟩
            case round =>
              obtain ⟨l, hl, rfl, rfl, hbl⟩ := hrel
              have HBL := Lib.hid hbl
              clear hbl
              by_cases hlt : l < j
              · have hll : l < M.length := by rw [ML.out]; exact hlt
                have q0 := LM.out wr HBL.out l hll
                have NX := Lib.hid (flat_take M l hll)
                have fb := Nat.le_trans (flat_len 60 M l MBH.out) (Nat.mul_le_mul_left 60 (show l ≤ 7 by omega))
                have lb := MBH.out _ (List.getElem_mem hll)
                have a1 := fun u => add_lists (P := Tryd.prog) u (M.take l).flatten M[l] (by omega)
                rw [← NX.out] at a1
                obtain ⟨sn, hsn⟩ : ∃ sn : ByteArray, ⟨((M.take (l + 1)).flatten).toArray⟩ = sn := ⟨_, rfl⟩
                rw [hsn] at a1
                have HSN := Lib.hid hsn
                generalize (⟨((M.take l).flatten).toArray⟩ : ByteArray) = so at a1 ⊢
                generalize (⟨(M[l]).toArray⟩ : ByteArray) = sl at a1 q0
                clear hll fb lb NX hsn
                repeat (first
                | go_values | go_skip | go_guarded | go_step | go_upon | (simp only []; go_at_K))
                exact ⟨⟨l + 1, by omega, rfl, by rw [HSN.out], HBL.out⟩, by show j - ((l : Int) + 1).toNat < j - (l : Int).toNat; omega⟩
              · obtain rfl : l = j := by omega
                rw [List.take_of_length_le (by rw [ML.out]; exact Nat.le_refl _)]
                have fb := flat_len 60 M l MBH.out
                rw [List.take_of_length_le (by rw [ML.out]; exact Nat.le_refl _)] at fb
                obtain ⟨FT, hFT⟩ : ∃ FT, M.flatten = FT := ⟨_, rfl⟩
                rw [hFT] at BD fb ⊢
                obtain ⟨vb, ub, cvb, rvb, bvb⟩ := bytes_red wr FT (by omega)
                obtain ⟨ab, cb, rfl, hbb, -⟩ := rvb
                have BB := Lib.hid ((BM.out.trans (HBL.out.mono BM.out.size)).trans (bvb.mono (BM.out.trans (HBL.out.mono BM.out.size)).size))
                have CQ := Lib.hid (mParse_is ab FT.length cb FT ub rfl hbb (TB.out.below BB.out))
                rw [BD.out] at CQ
                obtain ⟨sFT, hsFT⟩ : ∃ s : ByteArray, ⟨FT.toArray⟩ = s := ⟨_, rfl⟩
                rw [hsFT] at cvb ⊢
                clear hlt hl hFT fb hbb bvb hsFT LM MBH
                repeat (first
                | go_values | go_skip | go_guarded | go_step | go_upon | (simp only []; go_at_K))
                refine CQ.out.mono ?_
                rintro e ue ⟨v, rfl, ⟨ae, ce, hv, -⟩, be⟩
                have BE := Lib.hid (BB.out.trans (be.mono BB.out.size))
                simp only [List.length_nil] at hv
                subst hv
                clear be CQ
                repeat (first
                | go_values | go_skip | go_guarded | go_step | go_upon | (simp only []; go_at_K))
                go_ret
                exact ⟨rfl, BE.out⟩
          · skip
            repeat (first
            | go_values | go_skip | go_guarded | go_step | go_upon | (simp only []; go_at_K))
            obtain ⟨wd, hwd⟩ : ∃ wd, u2.drew = wd := ⟨_, rfl⟩
            have O5 := Lib.hid (show OwnR rowS w.heap.size (.slice (some ⟨g8, 0, none⟩) (linsG j).length c8) (linsG j) wd by rw [← hwd]; exact ownR_below O4.out (Below.refl _ _).drew)
            have H0 := Lib.hid (show Below w.heap.size w wd by rw [← hwd]; exact B2.out.drew)
            obtain ⟨lk, hlk⟩ : ∃ lk, ((linsG j)[k]).length = lk := ⟨_, rfl⟩
            have hlk2 : 43 ≤ lk ∧ lk ≤ 45 := by
              rw [← hlk, linsG_at j k hk0]
              exact ⟨(linG_len k).2, (linG_len k).1⟩
            obtain ⟨lm, hlm⟩ : ∃ lm : Nat, lk - 1 = lm := ⟨_, rfl⟩
            have KL := Lib.hid (show IntKind.i64.wrap ((lk : Int) - 1) = (lm : Int) by clear eq2 ev3; rw [IntWalk.i64_in _ (by omega)]; omega)
            have LML := Lib.hid (show (lm : Int) ≤ (lk : Int) by omega)
            obtain ⟨X, hX⟩ : ∃ X, ((linsG j)[k]).take (((linsG j)[k]).length - 1) ++ [121, 10] = X := ⟨_, rfl⟩
            have HX := Lib.hid (show ((linsG j).set k (((linsG j)[k]).take (((linsG j)[k]).length - 1) ++ [121, 10])) = (linsG j).set k X by rw [hX])
            have ad := fun u => add_lists (P := Tryd.prog) u (((linsG j)[k]).take lm) [121, 10] (by rw [List.length_take]; simp; omega)
            rw [hlk, hlm] at hX
            rw [hX] at ad
            have ex := ext_take ((linsG j)[k]) lm
            have szk := size_toArray ((linsG j)[k])
            rw [hlk] at szk
            have c3 := (ownS_cell O5.out hk0).1
            have Z3 := Lib.hid (ownS_cell O5.out hk0).2.1
            obtain ⟨s10, hs10⟩ : ∃ s : ByteArray, ⟨X.toArray⟩ = s := ⟨_, rfl⟩
            rw [hs10] at ad
            generalize (⟨(((linsG j)[k]).take lm).toArray⟩ : ByteArray) = s9 at ad ex
            generalize (⟨((linsG j)[k]).toArray⟩ : ByteArray) = sK at ex szk c3
            have AD9 := Lib.hid ad; have EX9 := Lib.hid ex; have SZK := Lib.hid szk; have C3 := Lib.hid c3; have HS10 := Lib.hid hs10
            clear ad ex szk c3 hX hlk2 hlm hs10
            clear hlk
            refine wp_region_held_drew (S := fun u => Below w.heap.size w u) (by kernel_rfl) (by rw [hwd]; exact H0.out) (fun hHeld => ?_)
            rw [hwd] at hHeld ⊢
            clear hwd
            refine tkW 0 rfl hHeld ?_
            refine tkW 1 rfl hHeld ?_
            refine tkW 2 rfl hHeld ?_
            refine tkW 3 rfl hHeld ?_
            refine tkV 4 rfl (.pointer (some ⟨g8, k, none⟩)) (fun u hu => by go_simp; try (intro q9; omega)) hHeld ?_
            refine tkW 6 rfl hHeld ?_
            refine tkW 7 rfl hHeld ?_
            refine tkV 8 rfl (.pointer (some ⟨g8, k, none⟩)) (fun u hu => by go_simp; try (intro q9; omega)) hHeld ?_
            refine wpAnyH_ready (rs := [5, 9]) (by kernel_rfl) (by simp) ?_
            refine (AllReadyH.cons rfl (fun K hK => ?_) (AllReadyH.cons rfl (fun K hK => ?_) AllReadyH.nil))
            · have q3 := C3.out
              go_simp
              clear q3
              refine hK.out _ _ hHeld (fun hHeld => ?_)
              clear hK K
              try simp only [Act.put, List.getElem_toArray, List.getElem_cons_succ, List.getElem_cons_zero, lsA, lsZ, lsS]
              refine rdH 9 rfl (fun K hK => ?_)
              have q3 := C3.out
              go_simp
              clear q3
              refine hK.out _ _ hHeld (fun hHeld => ?_)
              clear hK K
              try simp only [Act.put, List.getElem_toArray, List.getElem_cons_succ, List.getElem_cons_zero, lsA, lsZ, lsS]
              refine tkV 10 rfl (.int .i64 lk) (fun u hu => by have q9 := SZK.out; go_simp) hHeld ?_
              refine tkV 11 rfl (.int .i64 lm) (fun u hu => by have q9 := KL.out; go_simp) hHeld ?_
              refine tkV 12 rfl (.string s9) (fun u hu => by have q9 := SZK.out; have q8 := EX9.out; have q7 := LML.out; go_simp; try (intro q6; omega)) hHeld ?_
              refine tkV 13 rfl (.string s10) (fun u hu => by have q9 := AD9.out u; go_simp) hHeld ?_
              refine tkV 14 rfl (.pointer (some ⟨g8, k, none⟩)) (fun u hu => by go_simp; try (intro q9; omega)) hHeld ?_
              refine rdH 15 rfl (fun K hK => ?_)
              have q3 := C3.out
              have q4 := Z3.out
              go_simp
              have O6 := Lib.hid (ownS_set (s := X) O5.out hk0)
              rw [HS10.out] at O6
              have hH := hHeld.setCell (p := ⟨g8, k, none⟩) B8.out.1 (.string s10)
              clear hHeld q3 q4
              refine hK.out _ _ hH (fun hHeld => ?_)
              clear hK K
              try simp only [Act.put, List.getElem_toArray, List.getElem_cons_succ, List.getElem_cons_zero, lsA, lsZ, lsS]
              refine wpAnyH_done (by kernel_rfl) ?_ _
              have OM := Lib.hid (show OwnR rowS w.heap.size (.slice (some ⟨g8, 0, none⟩) (modG (linsG j) k 3).length c8) (modG (linsG j) k 3) (wd.setCell ⟨g8, k, none⟩ (.string s10)) by rw [show modG (linsG j) k 3 = (linsG j).set k X by unfold modG; rw [if_neg (by decide), if_neg (by decide), if_neg (by decide), G0.out]; exact HX.out]; exact O6.out)
              have BM := Lib.hid hHeld
              clear hHeld
              repeat (first
              | go_values | go_skip | go_guarded | go_step | go_upon | (simp only []; go_at_K))
              have MBH := Lib.hid BMH.out
              have ML := Lib.hid (show (modG (linsG j) k 3).length = j by rw [modG_len, linsG_len])
              obtain ⟨M, hM⟩ : ∃ M, modG (linsG j) k 3 = M := ⟨_, rfl⟩
              rw [hM] at OM MBH ML
              have BD := Lib.hid BAD.out
              rw [hM] at BD
              obtain ⟨uu, huu⟩ : ∃ uu, (wd.setCell ⟨g8, k, none⟩ (.string s10)) = uu := ⟨_, rfl⟩
              rw [huu] at OM BM ⊢
              have LM := Lib.hid (fun u (h : Below uu.heap.size uu u) l (hl : l < M.length) => (h.cell (p := ⟨g8, l, none⟩) (ownS_cell OM.out hl).2.2.1).trans (ownS_cell OM.out hl).1)
              clear hM huu
              go_loopw [15, 16] (fun v15 v16 wr => ∃ l : Nat, l ≤ j ∧ v16 = .int .i64 l ∧ v15 = .string ⟨((M.take l).flatten).toArray⟩ ∧ Below uu.heap.size uu wr) (fun _ v16 _ => j - (intOf v16).toNat)
              case atStart => exact ⟨0, Nat.zero_le _, rfl, rfl, Below.refl _ _⟩
              case round =>
                obtain ⟨l, hl, rfl, rfl, hbl⟩ := hrel
                have HBL := Lib.hid hbl
                clear hbl
                by_cases hlt : l < j
                · have hll : l < M.length := by rw [ML.out]; exact hlt
                  have q0 := LM.out wr HBL.out l hll
                  have NX := Lib.hid (flat_take M l hll)
                  have fb := Nat.le_trans (flat_len 60 M l MBH.out) (Nat.mul_le_mul_left 60 (show l ≤ 7 by omega))
                  have lb := MBH.out _ (List.getElem_mem hll)
                  have a1 := fun u => add_lists (P := Tryd.prog) u (M.take l).flatten M[l] (by omega)
                  rw [← NX.out] at a1
                  obtain ⟨sn, hsn⟩ : ∃ sn : ByteArray, ⟨((M.take (l + 1)).flatten).toArray⟩ = sn := ⟨_, rfl⟩
                  rw [hsn] at a1
                  have HSN := Lib.hid hsn
                  generalize (⟨((M.take l).flatten).toArray⟩ : ByteArray) = so at a1 ⊢
                  generalize (⟨(M[l]).toArray⟩ : ByteArray) = sl at a1 q0
                  clear hll fb lb NX hsn
                  repeat (first
                  | go_values | go_skip | go_guarded | go_step | go_upon | (simp only []; go_at_K))
                  exact ⟨⟨l + 1, by omega, rfl, by rw [HSN.out], HBL.out⟩, by show j - ((l : Int) + 1).toNat < j - (l : Int).toNat; omega⟩
                · obtain rfl : l = j := by omega
                  rw [List.take_of_length_le (by rw [ML.out]; exact Nat.le_refl _)]
                  have fb := flat_len 60 M l MBH.out
                  rw [List.take_of_length_le (by rw [ML.out]; exact Nat.le_refl _)] at fb
                  obtain ⟨FT, hFT⟩ : ∃ FT, M.flatten = FT := ⟨_, rfl⟩
                  rw [hFT] at BD fb ⊢
                  obtain ⟨vb, ub, cvb, rvb, bvb⟩ := bytes_red wr FT (by omega)
                  obtain ⟨ab, cb, rfl, hbb, -⟩ := rvb
                  have BB := Lib.hid ((BM.out.trans (HBL.out.mono BM.out.size)).trans (bvb.mono (BM.out.trans (HBL.out.mono BM.out.size)).size))
                  have CQ := Lib.hid (mParse_is ab FT.length cb FT ub rfl hbb (TB.out.below BB.out))
                  rw [BD.out] at CQ
                  obtain ⟨sFT, hsFT⟩ : ∃ s : ByteArray, ⟨FT.toArray⟩ = s := ⟨_, rfl⟩
                  rw [hsFT] at cvb ⊢
                  clear hlt hl hFT fb hbb bvb hsFT LM MBH
                  repeat (first
                  | go_values | go_skip | go_guarded | go_step | go_upon | (simp only []; go_at_K))
                  refine CQ.out.mono ?_
                  rintro e ue ⟨v, rfl, ⟨ae, ce, hv, -⟩, be⟩
                  have BE := Lib.hid (BB.out.trans (be.mono BB.out.size))
                  simp only [List.length_nil] at hv
                  subst hv
                  clear be CQ
                  repeat (first
                  | go_values | go_skip | go_guarded | go_step | go_upon | (simp only []; go_at_K))
                  go_ret
                  exact ⟨rfl, BE.out⟩
            · have q3 := C3.out
              go_simp
              clear q3
              refine hK.out _ _ hHeld (fun hHeld => ?_)
              clear hK K
              try simp only [Act.put, List.getElem_toArray, List.getElem_cons_succ, List.getElem_cons_zero, lsA, lsZ, lsS]
              refine tkV 10 rfl (.int .i64 lk) (fun u hu => by have q9 := SZK.out; go_simp) hHeld ?_
              refine tkV 11 rfl (.int .i64 lm) (fun u hu => by have q9 := KL.out; go_simp) hHeld ?_
              refine rdH 5 rfl (fun K hK => ?_)
              have q3 := C3.out
              go_simp
              clear q3
              refine hK.out _ _ hHeld (fun hHeld => ?_)
              clear hK K
              try simp only [Act.put, List.getElem_toArray, List.getElem_cons_succ, List.getElem_cons_zero, lsA, lsZ, lsS]
              refine tkV 12 rfl (.string s9) (fun u hu => by have q9 := SZK.out; have q8 := EX9.out; have q7 := LML.out; go_simp; try (intro q6; omega)) hHeld ?_
              refine tkV 13 rfl (.string s10) (fun u hu => by have q9 := AD9.out u; go_simp) hHeld ?_
              refine tkV 14 rfl (.pointer (some ⟨g8, k, none⟩)) (fun u hu => by go_simp; try (intro q9; omega)) hHeld ?_
              refine rdH 15 rfl (fun K hK => ?_)
              have q3 := C3.out
              have q4 := Z3.out
              go_simp
              have O6 := Lib.hid (ownS_set (s := X) O5.out hk0)
              rw [HS10.out] at O6
              have hH := hHeld.setCell (p := ⟨g8, k, none⟩) B8.out.1 (.string s10)
              clear hHeld q3 q4
              refine hK.out _ _ hH (fun hHeld => ?_)
              clear hK K
              try simp only [Act.put, List.getElem_toArray, List.getElem_cons_succ, List.getElem_cons_zero, lsA, lsZ, lsS]
              refine wpAnyH_done (by kernel_rfl) ?_ _
              have OM := Lib.hid (show OwnR rowS w.heap.size (.slice (some ⟨g8, 0, none⟩) (modG (linsG j) k 3).length c8) (modG (linsG j) k 3) (wd.setCell ⟨g8, k, none⟩ (.string s10)) by rw [show modG (linsG j) k 3 = (linsG j).set k X by unfold modG; rw [if_neg (by decide), if_neg (by decide), if_neg (by decide), G0.out]; exact HX.out]; exact O6.out)
              have BM := Lib.hid hHeld
              clear hHeld
              repeat (first
              | go_values | go_skip | go_guarded | go_step | go_upon | (simp only []; go_at_K))
              have MBH := Lib.hid BMH.out
              have ML := Lib.hid (show (modG (linsG j) k 3).length = j by rw [modG_len, linsG_len])
              obtain ⟨M, hM⟩ : ∃ M, modG (linsG j) k 3 = M := ⟨_, rfl⟩
              rw [hM] at OM MBH ML
              have BD := Lib.hid BAD.out
              rw [hM] at BD
              obtain ⟨uu, huu⟩ : ∃ uu, (wd.setCell ⟨g8, k, none⟩ (.string s10)) = uu := ⟨_, rfl⟩
              rw [huu] at OM BM ⊢
              have LM := Lib.hid (fun u (h : Below uu.heap.size uu u) l (hl : l < M.length) => (h.cell (p := ⟨g8, l, none⟩) (ownS_cell OM.out hl).2.2.1).trans (ownS_cell OM.out hl).1)
              clear hM huu
              go_loopw [15, 16] (fun v15 v16 wr => ∃ l : Nat, l ≤ j ∧ v16 = .int .i64 l ∧ v15 = .string ⟨((M.take l).flatten).toArray⟩ ∧ Below uu.heap.size uu wr) (fun _ v16 _ => j - (intOf v16).toNat)
              case atStart => exact ⟨0, Nat.zero_le _, rfl, rfl, Below.refl _ _⟩
              case round =>
                obtain ⟨l, hl, rfl, rfl, hbl⟩ := hrel
                have HBL := Lib.hid hbl
                clear hbl
                by_cases hlt : l < j
                · have hll : l < M.length := by rw [ML.out]; exact hlt
                  have q0 := LM.out wr HBL.out l hll
                  have NX := Lib.hid (flat_take M l hll)
                  have fb := Nat.le_trans (flat_len 60 M l MBH.out) (Nat.mul_le_mul_left 60 (show l ≤ 7 by omega))
                  have lb := MBH.out _ (List.getElem_mem hll)
                  have a1 := fun u => add_lists (P := Tryd.prog) u (M.take l).flatten M[l] (by omega)
                  rw [← NX.out] at a1
                  obtain ⟨sn, hsn⟩ : ∃ sn : ByteArray, ⟨((M.take (l + 1)).flatten).toArray⟩ = sn := ⟨_, rfl⟩
                  rw [hsn] at a1
                  have HSN := Lib.hid hsn
                  generalize (⟨((M.take l).flatten).toArray⟩ : ByteArray) = so at a1 ⊢
                  generalize (⟨(M[l]).toArray⟩ : ByteArray) = sl at a1 q0
                  clear hll fb lb NX hsn
                  repeat (first
                  | go_values | go_skip | go_guarded | go_step | go_upon | (simp only []; go_at_K))
                  exact ⟨⟨l + 1, by omega, rfl, by rw [HSN.out], HBL.out⟩, by show j - ((l : Int) + 1).toNat < j - (l : Int).toNat; omega⟩
                · obtain rfl : l = j := by omega
                  rw [List.take_of_length_le (by rw [ML.out]; exact Nat.le_refl _)]
                  have fb := flat_len 60 M l MBH.out
                  rw [List.take_of_length_le (by rw [ML.out]; exact Nat.le_refl _)] at fb
                  obtain ⟨FT, hFT⟩ : ∃ FT, M.flatten = FT := ⟨_, rfl⟩
                  rw [hFT] at BD fb ⊢
                  obtain ⟨vb, ub, cvb, rvb, bvb⟩ := bytes_red wr FT (by omega)
                  obtain ⟨ab, cb, rfl, hbb, -⟩ := rvb
                  have BB := Lib.hid ((BM.out.trans (HBL.out.mono BM.out.size)).trans (bvb.mono (BM.out.trans (HBL.out.mono BM.out.size)).size))
                  have CQ := Lib.hid (mParse_is ab FT.length cb FT ub rfl hbb (TB.out.below BB.out))
                  rw [BD.out] at CQ
                  obtain ⟨sFT, hsFT⟩ : ∃ s : ByteArray, ⟨FT.toArray⟩ = s := ⟨_, rfl⟩
                  rw [hsFT] at cvb ⊢
                  clear hlt hl hFT fb hbb bvb hsFT LM MBH
                  repeat (first
                  | go_values | go_skip | go_guarded | go_step | go_upon | (simp only []; go_at_K))
                  refine CQ.out.mono ?_
                  rintro e ue ⟨v, rfl, ⟨ae, ce, hv, -⟩, be⟩
                  have BE := Lib.hid (BB.out.trans (be.mono BB.out.size))
                  simp only [List.length_nil] at hv
                  subst hv
                  clear be CQ
                  repeat (first
                  | go_values | go_skip | go_guarded | go_step | go_upon | (simp only []; go_at_K))
                  go_ret
                  exact ⟨rfl, BE.out⟩
        
end Go.Proofs.YtdgcjjledbnofaaDoor.manifestLines
