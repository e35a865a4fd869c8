/-
  Texts that belong together, one behind the other.
-/
import Derived.Test.YtdgcjjledbnofaaDoorFu25
import Derived.Test.YtdgcjjledbnofaaDoorFu14
/-
  Layer 16, the program: Parse.
-/
namespace Go.Proofs.YtdgcjjledbnofaaDoor
set_option maxRecDepth 20000
open Go.RowKit
set_option linter.unusedVariables false
set_option linter.unusedSimpArgs false

def strSz : Value → Nat
  | .string s => s.size
  | _ => 0
theorem strSz_mk (l : List UInt8) : strSz (.string ⟨l.toArray⟩) = l.length := size_toArray l
theorem emptyB (s : List UInt8) (h : s ≠ []) : (⟨s.toArray⟩ : ByteArray).toList.isEmpty = false := by
  rw [toList_mk]; cases s with | nil => exact absurd rfl h | cons _ _ => rfl
set_option maxHeartbeats 16000000 in
theorem mParse_is (a : Option Addr) (n c : Nat) (bs : List UInt8) (w : World) (hn : n = bs.length) (hb : BAt w a bs) (tab : QTab w) :
    Calls Tryd.prog 11 #[.slice a n c] w fun e w' => ∃ v, e = .returned (.tuple #[v, .int .i64 (parseM bs).2]) ∧ RedM w' v (parseM bs).1 ∧ Below w.heap.size w w' := by
  by_cases h6 : 65536 < n
  · have g6 : (n : Int) > 65536 := by omega
    rw [parseM_long (by omega)]
    clear hn hb tab h6
    go_enter Tryd.func11, Tryd.ntmps11
    go_wp2
    go_ret2
    exact ⟨_, rfl, RedM.none _, Below.refl _ _⟩
  · have g6 : ¬ (n : Int) > 65536 := by omega
    have cv := hb.conv (P := Tryd.prog) c 23 5 Tryd.underlying23 Tryd.underlying5 9 Tryd.underlying9
    rw [← hn] at cv
    obtain ⟨z, hz, hzs, hzv, hzb, hz1⟩ := zFile_any
    have HZS := Lib.hid hzs; have HZ := Lib.hid hz
    have hl6 : bs.length ≤ 65536 := by omega
    have HL6 := Lib.hid hl6; have TB := Lib.hid tab
    have NONE := Lib.hid (fun h => @parseM_none bs h)
    have SOME := Lib.hid (fun p h => @parseM_some bs p hl6 h)
    obtain ⟨R, hR⟩ : ∃ R, parseM bs = R := ⟨_, rfl⟩
    rw [hR] at NONE SOME ⊢
    have ST := Lib.hid (AtM.start bs)
    clear hn hb tab hz hzs hzb hz1 hR h6 hl6
    go_enter Tryd.func11, Tryd.ntmps11
    go_wp2_with fail
    go_loopw [4, 5] (fun v4 v5 wr => ∃ (x : List UInt8) (p : List Fil), v5 = .string ⟨x.toArray⟩ ∧ AtM bs x p ∧ OwnR rowF w.heap.size v4 p wr ∧ Below w.heap.size w wr) (fun _ v5 _ => strSz v5)
    case atStart => exact ⟨bs, [], rfl, ST.out, ownR_nil _ _, Below.refl _ _⟩
    case round =>
      clear ST
      obtain ⟨x, p, rfl, hat, hown, hbr⟩ := hrel
      have HAT := Lib.hid hat; have HOWN := Lib.hid hown; have HBR := Lib.hid hbr
      have hxl := hat.ne
      have HXL := Lib.hid (show x.length ≤ 65536 by have := HL6.out; omega)
      clear hat hown hbr hxl
      by_cases hx : x = []
      · subst hx
        have hids : ∀ f ∈ p, f.id.length = 20 := fun f hf => (HAT.out.2.2 f hf).1
        obtain ⟨a4, c4, hv, hl4, hm4, hr4, -, -⟩ := ownR_shape goodF HOWN.out hids
        have CR := Lib.hid (mright_is a4 p.length c4 p wr rfl (Nat.le_trans hl4 hm4) hr4 hids (fun f hf => by have := (HAT.out.2.2 f hf).2; have := HL6.out; omega) (TB.out.below HBR.out))
        have HRM := Lib.hid (redM_of HOWN.out hids)
        have SO := Lib.hid (SOME.out p HAT.out.fin)
        subst hv
        obtain ⟨rr, hrr⟩ : ∃ rr, rightM p = rr := ⟨_, rfl⟩
        rw [hrr] at CR SO
        clear hids hl4 hm4 hr4 hrr
        cases rr with
        | false =>
          have e := SO.out
          rw [if_neg (by decide)] at e
          subst e
          clear SO SOME NONE
          go_wp2_with fail
          refine CR.out.mono ?_
          rintro e u ⟨rfl, b1⟩
          have B1 := Lib.hid (HBR.out.trans (b1.mono HBR.out.size))
          clear b1 CR
          go_wp2
          go_ret2
          exact ⟨_, rfl, RedM.none _, B1.out⟩
        | true =>
          have e := SO.out
          rw [if_pos rfl] at e
          subst e
          clear SO SOME NONE
          go_wp2_with fail
          refine CR.out.mono ?_
          rintro e u ⟨rfl, b1⟩
          have B1 := Lib.hid (HBR.out.trans (b1.mono HBR.out.size))
          have R1 := Lib.hid (HRM.out.keep b1)
          clear b1 CR
          go_wp2
          go_ret2
          exact ⟨_, rfl, R1.out, B1.out⟩
      · have q0 := emptyB x hx
        have CL := firstLine_is x (by have := HXL.out; omega) wr (TB.out.below HBR.out)
        unfold lineV at CL
        by_cases hl : idxB 10 x < x.length
        · rw [if_pos hl] at CL
          obtain ⟨ln, hln⟩ : ∃ ln, x.take (idxB 10 x) = ln := ⟨_, rfl⟩
          rw [hln] at CL
          have hll : ln.length = idxB 10 x := by rw [← hln, List.length_take]; omega
          have CF := Lib.hid (fun u (hu : Below w.heap.size w u) => file_is ln (by have := HXL.out; omega) u (TB.out.below hu))
          have ed := ext_drop x (ln.length + 1)
          have sz1 := size_toArray x
          have szl := size_toArray ln
          have HDL := Lib.hid (show (x.drop (ln.length + 1)).length < x.length by rw [List.length_drop]; omega)
          have j1 : (ln.length : Int) + 1 ≤ (x.length : Int) := by omega
          have j2 : ln.length ≤ 65536 := by have := HXL.out; omega
          have NF := Lib.hid (fun (h : fileM ln = none) => NONE.out (HAT.out.noFile hx hl (by rw [hln]; exact h)))
          have YF := Lib.hid (fun f (h : fileM ln = some f) => (show AtM bs (x.drop (ln.length + 1)) (p ++ [f]) by
            have q := HAT.out.next hx hl (by rw [hln]; exact h)
            rw [hll]; exact q))
          have IDF := Lib.hid (fun f (h : fileM ln = some f) => (fileM_some h).2.1)
          have CL := Lib.hid CL
          clear hx hl hll hln
          obtain ⟨m, hm⟩ : ∃ m, ln.length = m := ⟨_, rfl⟩
          rw [hm] at ed szl HDL j1 j2 YF
          simp only at CL
          obtain ⟨y, hy⟩ : ∃ y, x.drop (m + 1) = y := ⟨_, rfl⟩
          rw [hy] at ed HDL YF
          obtain ⟨sl, hsl⟩ : ∃ sl : ByteArray, ⟨ln.toArray⟩ = sl := ⟨_, rfl⟩
          rw [hsl] at CL CF szl
          obtain ⟨xl, hxl⟩ : ∃ xl, x.length = xl := ⟨_, rfl⟩
          have HXE := Lib.hid hxl
          rw [hxl] at ed sz1 j1 HDL
          obtain ⟨sx, hsx⟩ : ∃ sx : ByteArray, ⟨x.toArray⟩ = sx := ⟨_, rfl⟩
          rw [hsx] at CL ed sz1 q0 ⊢
          have HSX := Lib.hid (show strSz (.string sx) = xl by rw [← hsx, strSz_mk, hxl])
          clear hm hy hsl hxl hsx
          cases hf : fileM ln with
          | none =>
            have e := NF.out hf
            subst e
            rw [hf] at CF
            rw [show fileV none = .tuple #[.agg (arrF zFil), .bool false] from rfl, ← HZ.out] at CF
            have IZ := Lib.hid (show (Tryd.prog.info? 28).map (·.size) = some z.size by rw [HZS.out]; exact infoFile)
            have OZ := Lib.hid (show z.all (·.oneCell') = true by rw [HZ.out]; exact arrF_one _)
            clear hf NF YF IDF NONE SOME
            go_wp2_with fail
            refine CL.out.mono ?_
            rintro e u ⟨rfl, b1⟩
            have B1 := Lib.hid (HBR.out.trans (b1.mono HBR.out.size))
            clear b1 CL
            go_wp2_with fail
            refine (CF.out _ B1.out).mono ?_
            rintro e u2 ⟨rfl, b2⟩
            have B2 := Lib.hid (B1.out.trans (b2.mono B1.out.size))
            clear b2 CF
            go_wp2_with (first
              | (with_reducible refine wpList_store_all rfl 28 (.tmp 8) (.tmp 26) rfl u2.heap.size z rfl rfl 28 z (heap_alloc_new _ _) IZ.out rfl OZ.out ?_)
              | fail)
            intro w4 r4 off4 sz4
            have B4 := Lib.hid ((B2.out.trans (((Below.refl u2.heap.size u2).alloc (Nat.le_refl _) (.cells z 28)).mono B2.out.size)).trans (off4.below (B := w.heap.size) B2.out.size (by simp; have := B2.out.size; omega)))
            clear r4 off4 sz4
            go_wp2
            go_ret2
            exact ⟨_, rfl, RedM.none _, B4.out⟩
          | some f =>
            have hidf := IDF.out f hf
            have YF1 := Lib.hid (YF.out f hf)
            rw [hf] at CF
            rw [show fileV (some f) = .tuple #[.agg (arrF f), .bool true] from rfl] at CF
            have hsF := arrF_size f hidf
            have HRW := Lib.hid (fun (u : World) (q : Nat) (h : u.heap[q]? = some (.cells (arrF f) rowF.ty (0, 0))) => rowR_one (x := f) goodF h)
            have OKF := Lib.hid (show ∀ y ∈ [f], rowF.ok y from fun y hy => by rw [List.mem_singleton.1 hy]; exact hidf)
            have OKP := Lib.hid (show ∀ y ∈ p, rowF.ok y from fun y hy => (HAT.out.2.2 y hy).1)
            have PLE := Lib.hid (show p.length + [f].length ≤ 1000000000 by have := HAT.out.2.1; have := HL6.out; simp; omega)
            obtain ⟨F, hF⟩ : ∃ F, arrF f = F := ⟨_, rfl⟩
            have OF := Lib.hid (show F.all (·.oneCell') = true by rw [← hF]; exact arrF_one f)
            rw [hF] at CF hsF HRW
            have IF := Lib.hid (show (Tryd.prog.info? 28).map (·.size) = some F.size by rw [hsF]; exact infoFile)
            have EF := Lib.hid (hsF.trans HZS.out.symm); have SF := Lib.hid (show F.size = rowF.size from hsF)
            have hw1 : IntKind.i64.wrap ((m : Int) + 1) = (m : Int) + 1 := IntWalk.i64_in _ (by omega)
            clear hf NF YF IDF NONE SOME hidf hF hsF
            go_wp2_with fail
            refine CL.out.mono ?_
            rintro e u ⟨rfl, b1⟩
            have B1 := Lib.hid (HBR.out.trans (b1.mono HBR.out.size))
            have O1 := Lib.hid (ownR_below HOWN.out b1)
            clear b1 CL
            go_wp2_with fail
            refine (CF.out _ B1.out).mono ?_
            rintro e u2 ⟨rfl, b2⟩
            have B2 := Lib.hid (B1.out.trans (b2.mono B1.out.size))
            have O2 := Lib.hid (ownR_below O1.out b2)
            clear b2 CF
            go_wp2_with (first
              | (with_reducible refine wpList_store_all rfl 28 (.tmp 8) (.tmp 26) rfl u2.heap.size F rfl rfl 28 z (heap_alloc_new _ _) IF.out EF.out OF.out ?_)
              | fail)
            intro w4 r4 off4 sz4
            have b4 : Below u2.heap.size u2 w4 := ((Below.refl u2.heap.size u2).alloc (Nat.le_refl _) (.cells z 28)).trans (off4.below (Nat.le_refl _) (by simp))
            have B4 := Lib.hid (B2.out.trans (b4.mono B2.out.size))
            have O4 := Lib.hid (ownR_below O2.out b4)
            have R4 := Lib.hid r4
            clear r4 off4 sz4 b4
            have b5 := (Below.refl w4.heap.size w4).alloc (Nat.le_refl _) (.cells F rowF.ty)
            have B5 := Lib.hid (B4.out.trans (b5.mono B4.out.size))
            have O5 := Lib.hid (ownR_below O4.out b5)
            have W5 := Lib.hid (HRW.out _ _ (heap_alloc_new w4 (.cells F rowF.ty)))
            clear b5
            obtain ⟨w5, hw5⟩ : ∃ w5, w4.alloc (.cells F rowF.ty) = w5 := ⟨_, rfl⟩
            rw [hw5] at B5 O5 W5
            have HW5 := Lib.hid hw5
            clear hw5
            go_wp2_with (first
              | (with_reducible refine wpList_load_all 28 (.tmp 8) rfl (by kernel_rfl) u2.heap.size F 28 (0, 0) rfl R4.out _ Tryd.underlying28 rfl IF.out ?_)
              | (with_reducible refine wpList_build_oneR goodF rfl (.tmp 31) rfl F SF.out rfl ?_; rw [HW5.out])
              | (at_builtin; refine wpList_append_anyR goodF rfl (.tmp 30) (.tmp 32) rfl w.heap.size _ p [f] (some ⟨w4.heap.size, 0, none⟩) 1 1 rfl rfl rfl W5.out OKF.out OKP.out O5.out PLE.out B5.out.size ?_)
              | fail)
            intro v6 w6 ow6 gw6
            have B6 := Lib.hid (B5.out.grown gw6 B5.out.size (fun j hj => (ownR_lt O5.out j hj).1))
            have O6 := Lib.hid ow6
            clear ow6 gw6
            go_wp2
            go_roundw
            case rel => exact ⟨y, p ++ [f], by go_num, YF1.out, O6.out, B6.out⟩
            case measure => rw [HSX.out, strSz_mk]; exact HDL.out
        · have e := NONE.out (HAT.out.noLine hx hl)
          subst e
          rw [if_neg hl] at CL
          have CL := Lib.hid CL
          clear hx hl SOME NONE
          obtain ⟨sx, hsx⟩ : ∃ sx : ByteArray, ⟨x.toArray⟩ = sx := ⟨_, rfl⟩
          rw [hsx] at CL q0 ⊢
          clear hsx
          go_wp2_with fail
          refine CL.out.mono ?_
          rintro e u ⟨rfl, b1⟩
          have B1 := Lib.hid (HBR.out.trans (b1.mono HBR.out.size))
          clear b1 CL
          go_wp2
          go_ret2
          exact ⟨_, rfl, RedM.none _, B1.out⟩
end Go.Proofs.YtdgcjjledbnofaaDoor

/-
  Layer 16, plain: the document's way to read a line.
-/
namespace Go.Proofs.YtdgcjjledbnofaaDoor
set_option linter.unusedVariables false
set_option linter.unusedSimpArgs false

theorem idxB_take (c : UInt8) (s : List UInt8) (k : Nat) (hk : k ≤ s.length) : idxB c (s.take k) = min k (idxB c s) := by
  unfold idxB
  rw [List.findIdx_take]
theorem line_noz {x : List UInt8} (hE : idxB 10 x < x.length) (hZ : idxB 10 x ≤ idxB 0 x) : fileM (x.take (idxB 10 x)) = none := by
  unfold fileM
  rw [idxB_take 0 x _ (by omega), if_neg (by rw [List.length_take]; omega)]
theorem line_parts {x : List UInt8} (hE : idxB 10 x < x.length) (hZ : idxB 0 x < idxB 10 x) : fileM (x.take (idxB 10 x)) = restM (x.take (idxB 0 x)) ((x.drop (idxB 0 x + 1)).take (idxB 10 x - idxB 0 x - 1)) := by
  unfold fileM
  rw [idxB_take 0 x _ (by omega), Nat.min_eq_right (by omega), if_pos (by rw [List.length_take]; omega), List.take_take, Nat.min_eq_left (by omega), List.drop_take]
  congr 2
theorem line_short {x : List UInt8} (hE : idxB 10 x < x.length) (hZ : idxB 0 x < idxB 10 x) (h : idxB 10 x - idxB 0 x < 41) : fileM (x.take (idxB 10 x)) = none := by
  rw [line_parts hE hZ]
  unfold restM
  rw [if_pos (by rw [List.length_take, List.length_drop]; omega)]
theorem line_long {x : List UInt8} (hE : idxB 10 x < x.length) (hZ : idxB 0 x < idxB 10 x) (h : 42 < idxB 10 x - idxB 0 x) : fileM (x.take (idxB 10 x)) = none := by
  rw [line_parts hE hZ]
  unfold restM
  rw [if_neg (by rw [List.length_take, List.length_drop]; omega)]
  split
  · rfl
  · rw [modeM_len (by rw [List.length_drop, List.length_take, List.length_drop]; omega)]
theorem line_good {x : List UInt8} (hE : idxB 10 x < x.length) (hZ : idxB 0 x < idxB 10 x) (h1 : ¬ idxB 10 x - idxB 0 x < 41) : fileM (x.take (idxB 10 x)) = match unhexL ((x.drop (idxB 0 x + 1)).take 40) with
    | none => none
    | some d => match modeM ((x.drop (idxB 0 x + 41)).take (idxB 10 x - (idxB 0 x + 41))) with
      | none => none
      | some m => some ⟨x.take (idxB 0 x), m, d⟩ := by
  rw [line_parts hE hZ]
  unfold restM
  rw [if_neg (by rw [List.length_take, List.length_drop]; omega), List.take_take, Nat.min_eq_left (by omega), List.drop_take, List.drop_drop]
  rw [show idxB 0 x + 1 + 40 = idxB 0 x + 41 by omega, show idxB 10 x - idxB 0 x - 1 - 40 = idxB 10 x - (idxB 0 x + 41) by omega]
  cases unhexL ((x.drop (idxB 0 x + 1)).take 40) with
  | none => rfl
  | some d =>
    simp only
    cases modeM ((x.drop (idxB 0 x + 41)).take (idxB 10 x - (idxB 0 x + 41))) <;> rfl
theorem idx_ne (x : List UInt8) (h : idxB 10 x < x.length) : idxB 0 x ≠ idxB 10 x := by
  intro e
  have h1 := idxB_here h
  have h2 := idxB_here (c := 0) (s := x) (by omega)
  have h3 : x[idxB 0 x]'(by omega) = x[idxB 10 x] := by congr 1
  rw [h1, h2] at h3
  exact absurd h3 (by decide)
theorem unhex_40 {r d : List UInt8} (hl : r.length = 40) (h : unhexL r = some d) : d.length = 20 := by
  have := (unhex_spec _ _ _ (Nat.le_refl _) h).1
  omega
theorem arrF_mode (p d : List UInt8) (m k : Int) : (arrF ⟨p, m, d⟩).setIfInBounds 1 (.int .i64 k) = arrF ⟨p, k, d⟩ := by
  unfold arrF cellsF
  simp
theorem built_file20b (m : Int) (s : ByteArray) (b0 b1 b2 b3 b4 b5 b6 b7 b8 b9 b10 b11 b12 b13 b14 b15 b16 b17 b18 b19 : UInt8) :
    Tryd.prog.built 28 [(0, .string s), (2, .agg (arrD [b0, b1, b2, b3, b4, b5, b6, b7, b8, b9, b10, b11, b12, b13, b14, b15, b16, b17, b18, b19])), (1, .int .i64 m)] = some (.string s :: .int .i64 m :: cellsD [b0, b1, b2, b3, b4, b5, b6, b7, b8, b9, b10, b11, b12, b13, b14, b15, b16, b17, b18, b19]).toArray := by kernel_rfl
theorem built_fil2 (m : Int) (s : ByteArray) : ∀ (i : List UInt8), i.length = 20 → Tryd.prog.built 28 [(0, .string s), (2, .agg (arrD i)), (1, .int .i64 m)] = some (.string s :: .int .i64 m :: cellsD i).toArray
  | [b0, b1, b2, b3, b4, b5, b6, b7, b8, b9, b10, b11, b12, b13, b14, b15, b16, b17, b18, b19], _ => built_file20b m s b0 b1 b2 b3 b4 b5 b6 b7 b8 b9 b10 b11 b12 b13 b14 b15 b16 b17 b18 b19
end Go.Proofs.YtdgcjjledbnofaaDoor

/-
  Layer 1: Id of the reference.
-/
namespace Go.Proofs.YtdgcjjledbnofaaDoor
set_option maxRecDepth 20000
open Go.RowKit
set_option linter.unusedVariables false

set_option maxHeartbeats 400000 in
theorem rId_none (s : ByteArray) (w : World) (hs : s.size ≤ 1099511627776) (hu : unhexL s.data.toList = none) :
    Calls Tryd.prog 26 #[.string s] w fun e w' => e = .returned (.tuple #[idv (List.replicate 20 0), .int .i64 4]) ∧ Below w.heap.size w w' := by
  have C := Lib.hid (fun w => rUnhex_none s w hs hu)
  clear hu
  rw [zero20_idv]
  go_enter Tryd.func26, Tryd.ntmps26
  go_wp2_with fail
  refine (C.out _).mono ?_
  rintro e w1 ⟨rfl, hb⟩
  have hg1 : w1.heap[w.heap.size]? = some (.cells zero20 26 (0, 0)) := (hb.block _ (by simp)).trans (heap_alloc_new w _)
  have hbw : Below w.heap.size w w1 := ((Below.refl _ w).alloc (Nat.le_refl _) _).trans (hb.mono (by simp))
  clear hb C
  have HG := Lib.hid hg1; clear hg1
  go_wp2_with (with_reducible refine wpList_store_row rfl 26 _ _ rfl w.heap.size zero20 rfl rfl 26 zero20 ?hg ?hi ?ho ?h1 ?_)
  case hg => exact HG.out
  case hi => exact info29
  case ho => rfl
  case h1 => kernel_rfl
  rw [setRow_self _ w.heap.size zero20 26 (0, 0) HG.out]
  go_wp2_with fail
  exact bodyPost_ret (results_id Tryd.results26 _ _ w.heap.size zero20 (0, 0) (.int .i64 4) rfl rfl HG.out rfl) rfl ⟨rfl, hbw⟩
set_option maxHeartbeats 400000 in
theorem rId_len (s : ByteArray) (t : List UInt8) (w : World) (hs : s.size ≤ 1099511627776) (hu : unhexL s.data.toList = some t) (hne : t.length ≠ 20) :
    Calls Tryd.prog 26 #[.string s] w fun e w' => e = .returned (.tuple #[idv (List.replicate 20 0), .int .i64 4]) ∧ Below w.heap.size w w' := by
  have ht : t.length ≤ 1099511627776 := by have := (unhex_spec _ _ _ (Nat.le_refl _) hu).1; rw [size_list] at this; omega
  have hne2 : ((t.length : Int) != 20) = true := by simp; omega
  have C := Lib.hid (fun w => rUnhex_some s t w hs hu)
  clear hu hne
  rw [zero20_idv]
  go_enter Tryd.func26, Tryd.ntmps26
  go_wp2_with fail
  refine (C.out _).mono ?_
  rintro e w1 ⟨g, c, rfl, _, _, _, hb⟩
  have hg1 : w1.heap[w.heap.size]? = some (.cells zero20 26 (0, 0)) := (hb.block _ (by simp)).trans (heap_alloc_new w _)
  have hbw : Below w.heap.size w w1 := ((Below.refl _ w).alloc (Nat.le_refl _) _).trans (hb.mono (by simp))
  clear hb C
  have HG := Lib.hid hg1; clear hg1
  go_wp2_with (with_reducible refine wpList_store_row rfl 26 _ _ rfl w.heap.size zero20 rfl rfl 26 zero20 ?hg ?hi ?ho ?h1 ?_)
  case hg => exact HG.out
  case hi => exact info29
  case ho => rfl
  case h1 => kernel_rfl
  rw [setRow_self _ w.heap.size zero20 26 (0, 0) HG.out]
  go_wp2_with fail
  exact bodyPost_ret (results_id Tryd.results26 _ _ w.heap.size zero20 (0, 0) (.int .i64 4) rfl rfl HG.out rfl) rfl ⟨rfl, hbw⟩

set_option maxHeartbeats 400000 in
theorem rId_good (s : ByteArray) (t : List UInt8) (w : World) (hs : s.size ≤ 1099511627776) (hu : unhexL s.data.toList = some t) (ht : t.length = 20) :
    Calls Tryd.prog 26 #[.string s] w fun e w' => e = .returned (.tuple #[idv t, .int .i64 0]) ∧ Below w.heap.size w w' := by
  have C := Lib.hid (fun w => rUnhex_some s t w hs hu)
  clear hu
  have HT := Lib.hid ht; clear ht
  go_enter Tryd.func26, Tryd.ntmps26
  go_wp2_with fail
  refine (C.out _).mono ?_
  rintro e w1 ⟨g, c, rfl, hbat, hlc, _, hb⟩
  obtain ⟨b, o, rfl, hbl, hcl⟩ := hbat (by rw [HT.out]; omega)
  have hg0 : w1.heap[w.heap.size]? = some (.cells zero20 26 (0, 0)) := (hb.block _ (by simp)).trans (heap_alloc_new w _)
  have hbw : Below w.heap.size w w1 := ((Below.refl _ w).alloc (Nat.le_refl _) _).trans (hb.mono (by simp))
  have hsz : w.heap.size < w1.heap.size := by have := hb.size; simp at this; omega
  clear hb C hbat
  have HG0 := Lib.hid hg0; clear hg0
  have HCL := Lib.hid hcl; clear hcl
  rw [HT.out]
  go_wp2_with fail
  go_loopw [7] (fun i wr => ∃ (k : Nat) (cur : Array Value), k ≤ 20 ∧ i = .int .i64 k ∧ wr.heap[w1.heap.size]? = some (.cells cur 26 (0, 0)) ∧ cur.size = 20 ∧ cur.toList.take k = Lib.byteCells (t.take k) ∧ Below w1.heap.size w1 wr) (fun i _ => 20 - (intOf i).toNat)
  case atStart => exact ⟨0, zero20, by omega, rfl, heap_alloc_new w1 _, rfl, by simp [Lib.byteCells], (Below.refl _ w1).alloc (Nat.le_refl _) _⟩
  case round =>
    obtain ⟨k, cur, hk, rfl, hh, hcs, hcur, hbr⟩ := hrel
    have HCS := Lib.hid hcs; clear hcs
    have HCUR := Lib.hid hcur; clear hcur
    by_cases hlt : k < 20
    · have hkt : k < t.length := by rw [HT.out]; exact hlt
      have hcell : wr.cell? ⟨b, o + k, none⟩ = some (.int .u8 (t[k]).toNat) := (hbr.cell (p := ⟨b, o + k, none⟩) hbl).trans (HCL.out k hkt)
      obtain ⟨y, hy⟩ : ∃ y, wr.cell? ⟨w1.heap.size, k, none⟩ = some y := ⟨cur[k]'(by rw [HCS.out]; exact hlt), by rw [Lib.cell_of_heap hh, Array.getElem?_eq_getElem]⟩
      have hfz : wr.frozen? ⟨w1.heap.size, k, none⟩ = false := Lib.frozen_of_heap hh k
      have hst := heap_setCell_same wr w1.heap.size k cur 26 (.int .u8 (t[k]).toNat) hh
      have hbr2 := hbr.setCell (p := ⟨w1.heap.size, k, none⟩) (Nat.le_refl _) (.int .u8 (t[k]).toNat)
      have HS := Lib.hid hst; clear hst
      have HB := Lib.hid hbr2; clear hbr2
      clear hh
      go_wp2
      go_roundw
      case rel =>
        refine ⟨k + 1, _, by omega, by go_num, HS.out, by rw [Array.size_setIfInBounds]; exact HCS.out, ?_, HB.out⟩
        have hl : cur.toList.length = 20 := by rw [Array.length_toList]; exact HCS.out
        rw [Array.toList_setIfInBounds, List.take_succ_eq_append_getElem (by rw [List.length_set, hl]; omega), List.take_set_of_le (Nat.le_refl _), HCUR.out, List.take_succ_eq_append_getElem hkt, Lib.byteCells_append]
        simp [Lib.byteCells]
      case measure => simp [intOf]; omega
    · obtain rfl : k = 20 := by omega
      have e : cur = (Lib.byteCells t).toArray := by
        have h := HCUR.out
        rw [List.take_of_length_le (by rw [Array.length_toList, HCS.out]; exact Nat.le_refl _), List.take_of_length_le (by rw [HT.out]; exact Nat.le_refl _)] at h
        rw [← h]
      subst e
      have hb0 : wr.heap[w.heap.size]? = some (.cells zero20 26 (0, 0)) := (hbr.block _ hsz).trans HG0.out
      have hst : (storeCells ⟨w.heap.size, 0, none⟩ (Lib.byteCells t)).run Tryd.prog wr = .ok () (wr.setRow w.heap.size (Lib.byteCells t).toArray) := by
        have h := run_storeCells_from (P := Tryd.prog) w.heap.size 26 (Lib.byteCells t) 0 zero20 wr hb0 (by simp [Lib.byteCells, HT.out]) (oneCell_bytes t)
        simpa using h
      have hbl : (Lib.byteCells t).length = 20 := by simp [Lib.byteCells, HT.out]
      have HH := Lib.hid hh; clear hh
      have HB0 := Lib.hid hb0; clear hb0
      go_wp2_with (with_reducible refine wpList_load_row rfl 26 _ rfl w1.heap.size rfl 26 (Lib.byteCells t).toArray (0, 0) _ ?hg Tryd.underlying26 rfl ?hi ?_)
      case hg => exact HH.out
      case hi => first | rw [info29, size_bytes, HT.out] | simpa using info29
      exact bodyPost_ret (results_id Tryd.results26 _ _ w.heap.size (Lib.byteCells t).toArray (0, 0) (.int .i64 0) rfl rfl (setRow_heap _ _ _ _ _ _ HB0.out) (by rw [size_bytes, HT.out])) rfl ⟨rfl, below_setRow (hbw.trans (hbr.mono (by omega))) (Nat.le_refl _) _⟩
end Go.Proofs.YtdgcjjledbnofaaDoor
