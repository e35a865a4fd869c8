/-
  The walk of FrameAll, over the contracts.
-/
import Derived.Test.YtjlgihdlcfanbaaFsa
import Derived.Test.YtjlgihdlcfanbaaOp
namespace Go.Proofs.Ytjlgihdlcfanbaa.frameAll
open Go.RowKit
set_option linter.unusedVariables false
set_option linter.unusedSimpArgs false

set_option maxHeartbeats 8000000 in
theorem rPack_free (k : Nat) (a : Option Addr) (n c : Nat) (l : List UInt8) (w : World) (hk : k ≤ 255) (hn : n = l.length) (hb : BAt w a l) (hno : a = none → n = 0 ∧ c = 0) (hl : n ≤ 131172) :
    Calls Try.prog 11 #[.int .i64 k, .slice a n c] w fun e w' => ∃ v, e = .returned (.tuple #[v, .int .i64 0]) ∧ Row w' v (packL k l) ∧ (∀ g, foot v = some g → w.heap.size ≤ g) ∧ Below w.heap.size w w' := by
  obtain ⟨z, hz, hze⟩ := z29
  have hzv := zero_arr hz
  have hzs : z.size = 20 := by rw [hze]; simp
  have HN := Lib.hid hn; have HZS := Lib.hid hzs; have HB := Lib.hid hb; have HNO := Lib.hid hno
  have hk2 : ¬ ((k : Int) < 0) := by omega
  have hk3 : ¬ (255 < (k : Int)) := by omega
  have hkw : (k : Int) % 256 = k := by omega
  have hH := head_row w k n hk hl
  unfold headV at hH
  have hb0 : Below w.heap.size w (w.alloc (.cells (headV k n) 5)) := (Below.refl _ w).alloc (Nat.le_refl _) _
  unfold headV at hb0
  have HH := Lib.hid hH; have HB0 := Lib.hid hb0
  have hds : decide ((131172 : Int) < (n : Int)) = false := decide_eq_false (by omega)
  clear hb hno hn hze hz hzs hH hb0
  go_enter Try.func11, Try.ntmps11
  go_wp2_with (first
    | (at_builtin; refine wpList_append_row rfl (.tmp 34) (.tmp 35) rfl _ rfl _ l HH.out a n c rfl (HB.out.below HB0.out (Nat.le_refl _)) HN.out HNO.out ?len ?_)
    | fail)
  case len => rw [headL_len]; have := HN.out; omega
  intro v1 w1 hap
  have hf0 : ∀ g, foot (.slice (some ⟨w.heap.size, 0, none⟩) 6 6) = some g → w.heap.size ≤ g := fun g hg => by cases hg; exact Nat.le_refl _
  have hb1 := hap.below HB0.out hf0 HB0.out.size
  have hf1 := hap.new hf0 HB0.out.size
  have hr1 := hap.1
  have hbe : headL k n ++ l = bodyL k l := by rw [bodyL, HN.out]
  rw [hbe] at hr1
  clear hap hf0 hbe HH HB0
  obtain ⟨a1, c1, hv1, hlc1, hcm1, hbat1, hno1⟩ := hr1.shape
  have hbl : (bodyL k l).length = n + 6 := by rw [bodyL_len, ← HN.out]; omega
  have HR1 := Lib.hid hr1; have HF1 := Lib.hid hf1
  subst hv1
  rw [hbl] at HR1 HF1 hno1
  rw [hbl]
  obtain ⟨arr, hia, haa⟩ := idv_cells (sumL (bodyL k l))
  have C1 := rSum_of w1 a1 (n + 6) c1 (bodyL k l) hbl.symm (by rw [hbl]; omega) hbat1 (fun h => by rw [hbl]; exact hno1 h)
  rw [hia] at C1
  have hasz : arr.size = 20 := by rw [haa]; simp [bc_len, sumL, digest_len]
  have hall : arr.all (·.oneCell') = true := by rw [haa]; exact bc_all _
  have HASZ := Lib.hid hasz; have HALL := Lib.hid hall; have HAA := Lib.hid haa; have HB1 := Lib.hid hb1
  have CS := Lib.hid C1
  clear hia haa hasz hall C1 hbat1 hno1 hr1 hf1 hb1 hlc1 hcm1
  go_wp2_with fail
  refine CS.out.mono ?_
  rintro e w2 ⟨rfl, hb2⟩
  have HR2 := Lib.hid (HR1.out.chg (Chg.of_below (S := fun _ => False) hb2) (fun _ _ h => h))
  have HB2 := Lib.hid (HB1.out.trans (hb2.mono HB1.out.size))
  have hsl := fun u => slice20_h u w2.heap.size 8 (by omega) 8 rfl
  clear CS hb2 HR1
  have h3 : ((w2.alloc (.cells z 47)).setRow w2.heap.size arr).heap[w2.heap.size]? = some (.cells arr 47 (0, 0)) := setRow_heap _ _ z arr _ _ (heap_alloc_new w2 _)
  have hb23 : Below w2.heap.size w2 ((w2.alloc (.cells z 47)).setRow w2.heap.size arr) := below_setRow ((Below.refl _ w2).alloc (Nat.le_refl _) _) (Nat.le_refl _) arr
  have HR3 := Lib.hid (HR2.out.chg (Chg.of_below (S := fun _ => False) hb23) (fun _ _ h => h))
  have HI3 := Lib.hid (id_bat h3 HAA.out 8)
  have HB3 := Lib.hid (HB2.out.trans (hb23.mono HB2.out.size))
  have hl8 : ((sumL (bodyL k l)).take 8).length = 8 := by rw [List.length_take, sumL_len]; rfl
  have HL8 := Lib.hid hl8
  clear h3 hb23 hl8 HR2
  go_wp2_with (first
    | (with_reducible refine wpList_store_row rfl 47 (.tmp 8) (.tmp 38) rfl w2.heap.size arr rfl rfl 47 z ?sg ?si ?so ?s1 ?_)
    | (at_builtin; refine wpList_append_row rfl (.tmp 39) (.tmp 40) rfl _ rfl _ ((sumL (bodyL k l)).take 8) HR3.out (some ⟨w2.heap.size, 0, none⟩) 8 20 rfl HI3.out HL8.out.symm (fun h => by cases h) ?len2 ?_)
    | fail)
  case sg => exact heap_alloc_new w2 _
  case si => rw [info29, HASZ.out]
  case so => rw [HZS.out, HASZ.out]
  case s1 => exact HALL.out
  case len2 => rw [HL8.out, hbl]; omega
  intro v4 w4 hap
  have hb4 := hap.below HB3.out HF1.out HB3.out.size
  have hf4 := hap.new HF1.out HB3.out.size
  have hr4 := hap.1
  rw [show bodyL k l ++ (sumL (bodyL k l)).take 8 = packL k l from rfl] at hr4
  have HR4 := Lib.hid hr4; have HF4 := Lib.hid hf4
  clear hap hr4 hf4 HR3 HI3 HB3 HF1
  go_wp2
  go_ret2
  exact ⟨_, rfl, HR4.out, HF4.out, hb4⟩
theorem allL_len (xs : List (Nat × List UInt8)) (h : ∀ x ∈ xs, x.1 < 256 ∧ x.2.length ≤ 300) : (allL xs).length ≤ 314 * xs.length := by
  induction xs with
  | nil => simp [allL]
  | cons x r ih =>
    have e : allL (x :: r) = packL x.1 x.2 ++ allL r := rfl
    have := ih (fun y hy => h y (by simp [hy]))
    have := (h x (by simp)).2
    rw [e, List.length_append, packL_len, List.length_cons]
    omega
set_option maxHeartbeats 16000000 in
theorem walk (w : World) (a0 : Option Addr) (n0 c0 : Nat) (ls : List (List UInt8)) (hl0 : n0 = ls.length) (hm0 : n0 ≤ maxLen) (hp0 : PartsIn (fun k => k < w.heap.size) w a0 ls) (a1 : Option Addr) (n1 c1 : Nat) (hm1 : n1 ≤ maxLen)
    (hnn : 0 < n1 → ∃ b o, a1 = some ⟨b, o, none⟩ ∧ b < w.heap.size ∧ ∀ i, i < n1 → ∃ x : Int, w.cell? ⟨b, o + i, none⟩ = some (.int .i64 x)) (a2 : Option Addr) (n2 c2 : Nat) (m : List UInt8) (hl2 : n2 = m.length) (hb2 : BAt w a2 m) (hno2 : a2 = none → n2 = 0 ∧ c2 = 0) (hc2 : n2 ≤ c2 ∧ c2 ≤ maxLen) :
    Calls Try.prog 4 #[.slice a0 n0 c0, .slice a1 n1 c1, .slice a2 n2 c2] w fun e w' => e = .returned (.bool true) ∧ Below w.heap.size w w' := by
  obtain ⟨hd1, hd2⟩ := hc2
  have hm2 : n2 ≤ 9223372036854775807 := by unfold maxLen at hd2; omega
  unfold maxLen at hm0 hm1
  by_cases hs : 12 < n0 ∨ 100 < n2
  · clear hl0 hp0 hnn hl2 hb2 hno2 hd1 hd2
    by_cases hs1 : 12 < n0
    · have hs2 : (12 : Int) < (n0 : Int) := by omega
      clear hs
      go_enter Try.func4, Try.ntmps4
      go_wp2_with fail
      refine (awake5 _).mono ?_
      rintro e w1 ⟨rfl, hb1⟩
      go_wp2
      go_ret
      exact ⟨rfl, hb1⟩
    · have hs2 : ¬ ((12 : Int) < (n0 : Int)) := by omega
      have hs3 : (100 : Int) < (n2 : Int) := by omega
      clear hs
      go_enter Try.func4, Try.ntmps4
      go_wp2_with fail
      refine (awake5 _).mono ?_
      rintro e w1 ⟨rfl, hb1⟩
      go_wp2
      go_ret
      exact ⟨rfl, hb1⟩
  · have hs2 : n0 ≤ 12 := by omega
    have hs3 : n2 ≤ 100 := by omega
    have ht1 : ¬ ((12 : Int) < (n0 : Int)) := by omega
    have ht2 : ¬ ((100 : Int) < (n2 : Int)) := by omega
    have HL := Lib.hid hl0; have HP := Lib.hid hp0; have HNN := Lib.hid hnn; have HL2 := Lib.hid hl2; have HB2 := Lib.hid hb2; have HNO2 := Lib.hid hno2; have HD := Lib.hid (And.intro hd1 hd2)
    clear hl0 hp0 hnn hl2 hb2 hno2 hd1 hd2 hs hm0 hm2
    go_enter Try.func4, Try.ntmps4
    go_wp2_with fail
    go_loopw [7, 8, 9] (fun v7 v8 iv wr => ∃ (k : Nat) (xs : List (Nat × List UInt8)), k ≤ n0 ∧ iv = .int .i64 k ∧ xs.length = k ∧ xs.map (·.2) = ls.take k ∧ (∀ x ∈ xs, x.1 < 256 ∧ x.2.length ≤ 300) ∧ Row wr v7 (allL xs) ∧ (∀ g, foot v7 = some g → w.heap.size ≤ g) ∧
      Kinds wr w.heap.size v8 (xs.map (·.1)) ∧ Below w.heap.size w wr) (fun _ _ i _ => n0 - (intOf i).toNat)
    case atStart => exact ⟨0, [], Nat.zero_le _, rfl, rfl, rfl, (fun x hx => by cases hx), Row.nil _ _, (fun g hg => by cases hg), Kinds.nil _ _, Below.refl _ _⟩
    case round =>
      obtain ⟨k, xs, hk, rfl, hxl, hxs, hxk, hrow, hfo, hks, hbr⟩ := hrel
      have HXL := Lib.hid hxl; have HXS := Lib.hid hxs; have HXK := Lib.hid hxk; have HROW := Lib.hid hrow; have HF7 := Lib.hid hfo; have HKS := Lib.hid hks
      have HLN := Lib.hid (show (allL xs).length ≤ 3768 by have := allL_len xs hxk; omega)
      clear hxl hxs hxk hrow hfo hks
      by_cases hlt : k < n0
      · have hkl : k < ls.length := by rw [← HL.out]; exact hlt
        obtain ⟨pb, po, rfl, _, hpb, hcell⟩ := HP.out (by omega)
        obtain ⟨xa, xc, hx, hbin, hxno, hxm⟩ := hcell k hkl
        obtain ⟨p, hpe⟩ : ∃ p, ls[k] = p := ⟨_, rfl⟩
        rw [hpe] at hx hbin hxno hxm
        have hbat : BAt wr xa p := hbin.bat.below hbr (Nat.le_refl _)
        have q : wr.cell? ⟨pb, po + k, none⟩ = some (.slice xa p.length xc) := (hbr.cell (p := ⟨pb, po + k, none⟩) hpb).trans hx
        clear hcell hx hbin
        by_cases hp300 : 300 < p.length
        · have h3 : (300 : Int) < (p.length : Int) := by omega
          unfold maxLen at hxm
          go_wp2_with fail
          refine (awake5 _).mono ?_
          rintro e w1 ⟨rfl, hb1⟩
          have hb01 := hbr.trans (hb1.mono hbr.size)
          go_wp2
          go_ret
          exact ⟨rfl, hb01⟩
        · clear hxm
          by_cases hk1 : k < n1
          · obtain ⟨kb, ko, rfl, hkb, hkc⟩ := HNN.out (by omega)
            obtain ⟨x, hxc⟩ := hkc k hk1
            have qk : wr.cell? ⟨kb, ko + k, none⟩ = some (.int .i64 x) := (hbr.cell (p := ⟨kb, ko + k, none⟩) hkb).trans hxc
            obtain ⟨kk, hkk0⟩ : ∃ kk : Nat, x % 256 = (kk : Int) := Int.eq_ofNat_of_zero_le (by omega)
            have hand : bits BinOp.and IntKind.i64 x 255 = (kk : Int) := by rw [i64_and255, hkk0]
            have hkk : kk ≤ 255 := by omega
            clear hkc hxc hkk0
            have CP := Lib.hid (rPack_free kk xa p.length xc p wr hkk rfl hbat hxno (by omega))
            have HBATp := Lib.hid hbat
            obtain ⟨pl, hpl⟩ : ∃ pl, p.length = pl := ⟨_, rfl⟩
            have HPL := Lib.hid hpl
            rw [hpl] at CP q hp300
            clear hpl hbat hxno
            go_wp2_with fail
            refine CP.out.mono ?_
            rintro e w1 ⟨v1, rfl, hr1, hf1, hb1⟩
            obtain ⟨y1, d1, hv1, _, _, hbat1, hno1⟩ := hr1.shape
            subst hv1
            have hP : (packL kk p).length = pl + 14 := by rw [packL_len, HPL.out]
            have HPK := Lib.hid hP
            rw [hP] at hno1
            rw [hP]
            have HR7 := Lib.hid (HROW.out.below hb1)
            have HK1 := Lib.hid (HKS.out.keep hb1)
            have HB1 := Lib.hid (hbr.trans (hb1.mono hbr.size))
            have hlen7 : (allL xs).length + (packL kk p).length ≤ 1099511627776 := by rw [hP]; have := HLN.out; omega
            have HL7 := Lib.hid hlen7; have HBT := Lib.hid hbat1; have HN1 := Lib.hid hno1
            have HFO := Lib.hid (fun g (hg : foot u7 = some g) => HF7.out g hg)
            clear CP hr1 hf1 hb1 hbat1 hno1 hlen7 hP HROW HKS
            go_wp2_with (first
              | (at_builtin; refine wpList_append_row rfl (.tmp 63) (.tmp 64) rfl u7 rfl _ _ HR7.out y1 (pl + 14) d1 rfl HBT.out HPK.out.symm HN1.out HL7.out ?_)
              | fail)
            intro v7 w2 hap
            have hb2 := hap.below HB1.out HFO.out HB1.out.size
            have hf2 := hap.new HFO.out HB1.out.size
            have hr2 := hap.1
            have hk2 := HK1.out.same (w' := w2) fun i cur hc => block_grown hap.2.1 (e := 5) (fun i hi => by obtain ⟨cur, hc⟩ := foot_type HR7.out i hi; exact ⟨cur, _, hc⟩) hc (by decide)
            have hal : Below w2.heap.size w2 (w2.alloc (.cells #[.int .i64 ((kk : Nat) : Int)] 3)) := (Below.refl _ w2).alloc (Nat.le_refl _) _
            have HK3 := Lib.hid (hk2.keep hal)
            have HR3 := Lib.hid (hr2.below hal)
            have HF3 := Lib.hid hf2
            have HC3 := Lib.hid (show (w2.alloc (.cells #[.int .i64 ((kk : Nat) : Int)] 3)).cell? ⟨w2.heap.size, 0, none⟩ = some (.int .i64 ((kk : Nat) : Int)) from (cell_of_row _ _ 0 _ _ _ (heap_alloc_new w2 _)).trans rfl)
            have HB3 := Lib.hid (hb2.trans (hal.mono hb2.size))
            have hxl : (xs.map (·.1)).length ≤ 1000000 := by rw [List.length_map, HXL.out]; omega
            have HXLL := Lib.hid hxl
            obtain ⟨z7, e7, hz7, _, _, _, _⟩ := hr2.shape
            have HZ7 := Lib.hid hz7
            clear hap hb2 hf2 hr2 hk2 hal hxl hz7 HB1 HR7 HK1 HBT HN1 HL7 HFO
            go_wp2_with (first
              | (at_builtin; refine wpList_append_kind rfl (.tmp 66) (.tmp 68) rfl w.heap.size u8 _ rfl HK3.out w2.heap.size 1 rfl kk HC3.out HXLL.out HB3.out.size ?_)
              | fail)
            intro v8 w4 hk4 hg4
            have hty := fun i hi => own_type HK3.out i hi
            have hb4 : Below w.heap.size w w4 := HB3.out.grown hg4 HB3.out.size (fun i hi => own_block HK3.out i hi)
            have hr4 : Row w4 v7 (allL xs ++ packL kk p) := HR3.out.keep fun i hi => by
              obtain ⟨cur, hc⟩ := foot_type HR3.out i hi
              exact block_grown hg4 (e := 3) (fun i hi => by obtain ⟨cur, hc⟩ := hty i hi; exact ⟨cur, _, hc⟩) hc (by decide)
            have HK4 := Lib.hid hk4; have HR4 := Lib.hid hr4; have HB4 := Lib.hid hb4
            clear HK3 HR3 HC3 HB3 HXLL hk4 hg4 hty hb4 hr4
            go_wp2_with fail
            refine ⟨⟨k + 1, xs ++ [(kk, p)], by omega, congrArg (Value.int .i64) (by omega), by rw [List.length_append, HXL.out]; rfl, ?_, ?_, ?_, HF3.out, ?_, HB4.out⟩, by simp [intOf]; omega⟩
            · rw [List.map_append, HXS.out, List.take_succ_eq_append_getElem hkl, hpe]; rfl
            · intro x hx
              rcases List.mem_append.1 hx with hx | hx
              · exact HXK.out x hx
              · rw [List.mem_singleton.1 hx]; exact ⟨by omega, by show p.length ≤ 300; rw [HPL.out]; omega⟩
            · rw [allL_snoc]; exact HR4.out
            · rw [List.map_append]; exact HK4.out
          · have hk2 : ¬ ((k : Int) < (n1 : Int)) := by omega
            have CP := Lib.hid (rPack_free 0 xa p.length xc p wr (by decide) rfl hbat hxno (by omega))
            have HBATp := Lib.hid hbat
            obtain ⟨pl, hpl⟩ : ∃ pl, p.length = pl := ⟨_, rfl⟩
            have HPL := Lib.hid hpl
            rw [hpl] at CP q hp300
            clear hpl hbat hxno
            go_wp2_with fail
            refine CP.out.mono ?_
            rintro e w1 ⟨v1, rfl, hr1, hf1, hb1⟩
            obtain ⟨y1, d1, hv1, _, _, hbat1, hno1⟩ := hr1.shape
            subst hv1
            have hP : (packL 0 p).length = pl + 14 := by rw [packL_len, HPL.out]
            have HPK := Lib.hid hP
            rw [hP] at hno1
            rw [hP]
            have HR7 := Lib.hid (HROW.out.below hb1)
            have HK1 := Lib.hid (HKS.out.keep hb1)
            have HB1 := Lib.hid (hbr.trans (hb1.mono hbr.size))
            have hlen7 : (allL xs).length + (packL 0 p).length ≤ 1099511627776 := by rw [hP]; have := HLN.out; omega
            have HL7 := Lib.hid hlen7; have HBT := Lib.hid hbat1; have HN1 := Lib.hid hno1
            have HFO := Lib.hid (fun g (hg : foot u7 = some g) => HF7.out g hg)
            clear CP hr1 hf1 hb1 hbat1 hno1 hlen7 hP HROW HKS
            go_wp2_with (first
              | (at_builtin; refine wpList_append_row rfl (.tmp 63) (.tmp 64) rfl u7 rfl _ _ HR7.out y1 (pl + 14) d1 rfl HBT.out HPK.out.symm HN1.out HL7.out ?_)
              | fail)
            intro v7 w2 hap
            have hb2 := hap.below HB1.out HFO.out HB1.out.size
            have hf2 := hap.new HFO.out HB1.out.size
            have hr2 := hap.1
            have hk2 := HK1.out.same (w' := w2) fun i cur hc => block_grown hap.2.1 (e := 5) (fun i hi => by obtain ⟨cur, hc⟩ := foot_type HR7.out i hi; exact ⟨cur, _, hc⟩) hc (by decide)
            have hal : Below w2.heap.size w2 (w2.alloc (.cells #[.int .i64 (0 : Int)] 3)) := (Below.refl _ w2).alloc (Nat.le_refl _) _
            have HK3 := Lib.hid (hk2.keep hal)
            have HR3 := Lib.hid (hr2.below hal)
            have HF3 := Lib.hid hf2
            have HC3 := Lib.hid (show (w2.alloc (.cells #[.int .i64 (0 : Int)] 3)).cell? ⟨w2.heap.size, 0, none⟩ = some (.int .i64 (0 : Int)) from (cell_of_row _ _ 0 _ _ _ (heap_alloc_new w2 _)).trans rfl)
            have HB3 := Lib.hid (hb2.trans (hal.mono hb2.size))
            have hxl : (xs.map (·.1)).length ≤ 1000000 := by rw [List.length_map, HXL.out]; omega
            have HXLL := Lib.hid hxl
            obtain ⟨z7, e7, hz7, _, _, _, _⟩ := hr2.shape
            have HZ7 := Lib.hid hz7
            clear hap hb2 hf2 hr2 hk2 hal hxl hz7 HB1 HR7 HK1 HBT HN1 HL7 HFO
            go_wp2_with (first
              | (at_builtin; refine wpList_append_kind rfl (.tmp 66) (.tmp 68) rfl w.heap.size u8 _ rfl HK3.out w2.heap.size 1 rfl 0 HC3.out HXLL.out HB3.out.size ?_)
              | fail)
            intro v8 w4 hk4 hg4
            have hty := fun i hi => own_type HK3.out i hi
            have hb4 : Below w.heap.size w w4 := HB3.out.grown hg4 HB3.out.size (fun i hi => own_block HK3.out i hi)
            have hr4 : Row w4 v7 (allL xs ++ packL 0 p) := HR3.out.keep fun i hi => by
              obtain ⟨cur, hc⟩ := foot_type HR3.out i hi
              exact block_grown hg4 (e := 3) (fun i hi => by obtain ⟨cur, hc⟩ := hty i hi; exact ⟨cur, _, hc⟩) hc (by decide)
            have HK4 := Lib.hid hk4; have HR4 := Lib.hid hr4; have HB4 := Lib.hid hb4
            clear HK3 HR3 HC3 HB3 HXLL hk4 hg4 hty hb4 hr4
            go_wp2_with fail
            refine ⟨⟨k + 1, xs ++ [(0, p)], by omega, congrArg (Value.int .i64) (by omega), by rw [List.length_append, HXL.out]; rfl, ?_, ?_, ?_, HF3.out, ?_, HB4.out⟩, by simp [intOf]; omega⟩
            · rw [List.map_append, HXS.out, List.take_succ_eq_append_getElem hkl, hpe]; rfl
            · intro x hx
              rcases List.mem_append.1 hx with hx | hx
              · exact HXK.out x hx
              · rw [List.mem_singleton.1 hx]; exact ⟨by omega, by show p.length ≤ 300; rw [HPL.out]; omega⟩
            · rw [allL_snoc]; exact HR4.out
            · rw [List.map_append]; exact HK4.out
      · have hkn : k = n0 := by omega
        have CT := Lib.hid (rTake_any a2 n2 c2 m wr HL2.out (HB2.out.below hbr (Nat.le_refl _)) HD.out.1 HD.out.2)
        obtain ⟨TK, hTK⟩ : ∃ x : Int, ((takeK m : Nat) : Int) = x := ⟨_, rfl⟩
        obtain ⟨TN, hTN⟩ : ∃ x : Int, ((takeN m : Nat) : Int) = x := ⟨_, rfl⟩
        obtain ⟨TE, hTE⟩ : ∃ x : Int, ((takeE m : Nat) : Int) = x := ⟨_, rfl⟩
        rw [hTK, hTN, hTE] at CT
        have HTE := Lib.hid hTE
        have HKN := Lib.hid hkn
        clear hTK hTN hTE hkn
        go_wp2_with fail
        refine CT.out.mono ?_
        rintro e w1 ⟨v1, rfl, hr1, _, hb1⟩
        obtain ⟨y1, d1, hv1, _, _, _, _⟩ := hr1.shape
        subst hv1
        have hb01 := hbr.trans (hb1.mono hbr.size)
        have HROW1 := Lib.hid (HROW.out.below hb1)
        have HKS1 := Lib.hid (HKS.out.keep hb1)
        clear CT hr1 hb1 HROW HKS
        by_cases hz : TE = 0
        · subst hz
          go_wp2_with fail
          refine (awake5 _).mono ?_
          rintro e w2 ⟨rfl, hb2⟩
          have hb02 := hb01.trans (hb2.mono hb01.size)
          go_wp2
          go_ret
          exact ⟨rfl, hb02⟩
        · have hz2 : (TE == 0) = false := by rw [beq_eq_false_iff_ne]; exact hz
          have HZ := Lib.hid (show takeE m ≠ 0 by have := HTE.out; omega)
          clear hz
          obtain ⟨x7, d7, hv7, hlc7, hcm7, hbat7, hno7⟩ := HROW1.out.shape
          subst hv7
          obtain ⟨L, hL⟩ : ∃ L, (allL xs).length = L := ⟨_, rfl⟩
          have HLL := Lib.hid hL
          rw [hL] at hno7
          rw [hL]
          have CC := Lib.hid (CopyBytes_any (allL xs) w1 x7 L d7 hbat7 hL.symm hno7 (by have := HLN.out; omega))
          have HX7 := Lib.hid hbat7
          clear hL hlc7 hcm7 hbat7 hno7
          go_wp2_with fail
          refine CC.out.mono ?_
          rintro e w2 ⟨v2, rfl, hr2, hf2, hb2⟩
          have hb02 := hb01.trans (hb2.mono hb01.size)
          have HR2 := Lib.hid hr2; have HF2 := Lib.hid hf2; have HB12 := Lib.hid hb2
          have HM2 := Lib.hid (HB2.out.below hb02 (Nat.le_refl _))
          have HLEN := Lib.hid (show (allL xs).length + m.length ≤ 1099511627776 by rw [← HL2.out]; have := HLN.out; omega)
          clear CC hr2 hf2 hb2
          go_wp2_with (first
            | (at_builtin; refine wpList_append_row rfl (.tmp 82) (.tmp 83) rfl v2 rfl _ m HR2.out a2 n2 c2 rfl HM2.out HL2.out HNO2.out HLEN.out ?_)
            | fail)
          intro v3 w3 hap
          have hb13 := hap.below HB12.out HF2.out HB12.out.size
          have hb03 := hb01.trans (hb13.mono hb01.size)
          have hr3 := hap.1
          have HKS3 := Lib.hid (HKS1.out.keep hb13)
          obtain ⟨x3, d3, hv3, hlc3, hcm3, hbat3, hno3⟩ := hr3.shape
          subst hv3
          have CA := Lib.hid (All_any x3 (allL xs ++ m).length d3 xs m w3 rfl hbat3 hlc3 hcm3 (fun i hi => by have := HXK.out xs[i] (List.getElem_mem hi); omega) HZ.out (by rw [List.length_append, ← HL2.out]; have := HLN.out; omega))
          obtain ⟨Q, hQ⟩ : ∃ Q, (allL xs ++ m).length = Q := ⟨_, rfl⟩
          rw [hQ] at CA ⊢
          have hpl : posL xs xs.length = L := by unfold posL; rw [List.take_length]; exact HLL.out
          rw [hpl] at CA
          clear hap hb13 hr3 hlc3 hcm3 hbat3 hno3 hQ hpl HR2 HF2 HM2 HLEN HB12 hb02
          go_wp2_with fail
          refine CA.out.mono ?_
          rintro e w4 ⟨u1, u2, rfl, hk4, hp4, hb4⟩
          have hb04 := hb03.trans (hb4.mono hb03.size)
          obtain ⟨k1, kc1, hu1, hia1⟩ := hk4.form
          obtain ⟨p1, pc1, hu2, hsa1⟩ := hp4.form
          subst hu1
          subst hu2
          have HKS4 := Lib.hid (HKS3.out.keep hb4)
          obtain ⟨k8, kc8, hu8, hia8⟩ := HKS4.out.form
          subst hu8
          have hnx : (xs.map (·.1)).length = n0 := by rw [List.length_map, HXL.out, HKN.out]
          have hnp : (xs.map (·.2)).length = n0 := by rw [List.length_map, HXL.out, HKN.out]
          have hls : xs.map (·.2) = ls := by rw [HXS.out, HKN.out, HL.out, List.take_length]
          have HIA1 := Lib.hid hia1; have HSA1 := Lib.hid hsa1; have HIA8 := Lib.hid hia8; have HNX := Lib.hid hnx; have HNP := Lib.hid hnp
          rw [hnx, hnp]
          clear CA hk4 hp4 hb4 hb03 hia1 hsa1 hia8 hnx hnp HKS3 HKS4
          go_wp2_with fail
          refine (awake5 _).mono ?_
          rintro e w5 ⟨rfl, hb5⟩
          have hb05 := hb04.trans (hb5.mono hb04.size)
          have P1 := Lib.hid (PlainI_any k1 k8 n0 n0 kc1 kc8 (xs.map (·.1)) w5 (HIA1.out.below hb5) (HIA8.out.below hb5) HNX.out.symm HNX.out.symm (by rw [HNX.out]; omega))
          have HSA5 := Lib.hid (HSA1.out.below hb5)
          clear hb5 hb04
          go_wp2_with fail
          refine P1.out.mono ?_
          rintro e w6 ⟨rfl, hb6⟩
          have hb06 := hb05.trans (hb6.mono hb05.size)
          have hsat : SAt w6 a0 (xs.map (·.2)) := by
            rw [hls]
            intro hp
            obtain ⟨b, o, h1, _, h2, h3⟩ := HP.out hp
            refine ⟨b, o, h1, Nat.lt_of_lt_of_le h2 hb06.size, fun i hi => ?_⟩
            obtain ⟨x, c, g1, g2, _, _⟩ := h3 i hi
            exact ⟨x, c, (hb06.cell (p := ⟨b, o + i, none⟩) h2).trans g1, g2.bat.below hb06 (Nat.le_refl _)⟩
          have P2 := Lib.hid (SameB_any p1 a0 n0 n0 pc1 c0 (xs.map (·.2)) w6 (HSA5.out.below hb6) hsat HNP.out.symm HNP.out.symm (by rw [HNP.out]; omega))
          clear P1 hb6 hb05 hsat hls HSA5 HIA1 HIA8 HSA1
          go_wp2_with fail
          refine P2.out.mono ?_
          rintro e w7 ⟨rfl, hb7⟩
          have hb07 := hb06.trans (hb7.mono hb06.size)
          clear P2 hb7 hb06
          go_wp2
          go_ret
          exact ⟨by simp, hb07⟩
end Go.Proofs.Ytjlgihdlcfanbaa.frameAll
