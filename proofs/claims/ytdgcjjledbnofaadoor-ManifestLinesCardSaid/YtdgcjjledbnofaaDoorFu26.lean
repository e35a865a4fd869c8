/-
  Texts that belong together, one behind the other.
-/
import Derived.Test.YtdgcjjledbnofaaDoorFu25
import Derived.Test.YtdgcjjledbnofaaDoorFu09
import Derived.Test.YtdgcjjledbnofaaDoorFu01
import Derived.OwnWalk
import Derived.WalkSmall
import Derived.IntWalk
/-
  Layer 16, the program: Parse.
-/
namespace Go.Proofs.YtdgcjjledbnofaaDoor
set_option maxRecDepth 20000
open Go.RowKit
set_option linter.unusedVariables false
set_option linter.unusedSimpArgs false

def strSz : Value → Nat
  | .string s => s.size
  | _ => 0
theorem strSz_mk (l : List UInt8) : strSz (.string ⟨l.toArray⟩) = l.length := size_toArray l
theorem emptyB (s : List UInt8) (h : s ≠ []) : (⟨s.toArray⟩ : ByteArray).toList.isEmpty = false := by
  rw [toList_mk]; cases s with | nil => exact absurd rfl h | cons _ _ => rfl
set_option maxHeartbeats 16000000 in
theorem mParse_is (a : Option Addr) (n c : Nat) (bs : List UInt8) (w : World) (hn : n = bs.length) (hb : BAt w a bs) (tab : QTab w) :
    Calls Tryd.prog 11 #[.slice a n c] w fun e w' => ∃ v, e = .returned (.tuple #[v, .int .i64 (parseM bs).2]) ∧ RedM w' v (parseM bs).1 ∧ Below w.heap.size w w' := by
  by_cases h6 : 65536 < n
  · have g6 : (n : Int) > 65536 := by omega
    rw [parseM_long (by omega)]
    clear hn hb tab h6
    go_enter Tryd.func11, Tryd.ntmps11
    go_wp2
    go_ret2
    exact ⟨_, rfl, RedM.none _, Below.refl _ _⟩
  · have g6 : ¬ (n : Int) > 65536 := by omega
    have cv := hb.conv (P := Tryd.prog) c 23 5 Tryd.underlying23 Tryd.underlying5 9 Tryd.underlying9
    rw [← hn] at cv
    obtain ⟨z, hz, hzs, hzv, hzb, hz1⟩ := zFile_any
    have HZS := Lib.hid hzs; have HZ := Lib.hid hz
    have hl6 : bs.length ≤ 65536 := by omega
    have HL6 := Lib.hid hl6; have TB := Lib.hid tab
    have NONE := Lib.hid (fun h => @parseM_none bs h)
    have SOME := Lib.hid (fun p h => @parseM_some bs p hl6 h)
    obtain ⟨R, hR⟩ : ∃ R, parseM bs = R := ⟨_, rfl⟩
    rw [hR] at NONE SOME ⊢
    have ST := Lib.hid (AtM.start bs)
    clear hn hb tab hz hzs hzb hz1 hR h6 hl6
    go_enter Tryd.func11, Tryd.ntmps11
    go_wp2_with fail
    go_loopw [4, 5] (fun v4 v5 wr => ∃ (x : List UInt8) (p : List Fil), v5 = .string ⟨x.toArray⟩ ∧ AtM bs x p ∧ OwnR rowF w.heap.size v4 p wr ∧ Below w.heap.size w wr) (fun _ v5 _ => strSz v5)
    case atStart => exact ⟨bs, [], rfl, ST.out, ownR_nil _ _, Below.refl _ _⟩
    case round =>
      clear ST
      obtain ⟨x, p, rfl, hat, hown, hbr⟩ := hrel
      have HAT := Lib.hid hat; have HOWN := Lib.hid hown; have HBR := Lib.hid hbr
      have hxl := hat.ne
      have HXL := Lib.hid (show x.length ≤ 65536 by have := HL6.out; omega)
      clear hat hown hbr hxl
      by_cases hx : x = []
      · subst hx
        have hids : ∀ f ∈ p, f.id.length = 20 := fun f hf => (HAT.out.2.2 f hf).1
        obtain ⟨a4, c4, hv, hl4, hm4, hr4, -, -⟩ := ownR_shape goodF HOWN.out hids
        have CR := Lib.hid (mright_is a4 p.length c4 p wr rfl (Nat.le_trans hl4 hm4) hr4 hids (fun f hf => by have := (HAT.out.2.2 f hf).2; have := HL6.out; omega) (TB.out.below HBR.out))
        have HRM := Lib.hid (redM_of HOWN.out hids)
        have SO := Lib.hid (SOME.out p HAT.out.fin)
        subst hv
        obtain ⟨rr, hrr⟩ : ∃ rr, rightM p = rr := ⟨_, rfl⟩
        rw [hrr] at CR SO
        clear hids hl4 hm4 hr4 hrr
        cases rr with
        | false =>
          have e := SO.out
          rw [if_neg (by decide)] at e
          subst e
          clear SO SOME NONE
          go_wp2_with fail
          refine CR.out.mono ?_
          rintro e u ⟨rfl, b1⟩
          have B1 := Lib.hid (HBR.out.trans (b1.mono HBR.out.size))
          clear b1 CR
          go_wp2
          go_ret2
          exact ⟨_, rfl, RedM.none _, B1.out⟩
        | true =>
          have e := SO.out
          rw [if_pos rfl] at e
          subst e
          clear SO SOME NONE
          go_wp2_with fail
          refine CR.out.mono ?_
          rintro e u ⟨rfl, b1⟩
          have B1 := Lib.hid (HBR.out.trans (b1.mono HBR.out.size))
          have R1 := Lib.hid (HRM.out.keep b1)
          clear b1 CR
          go_wp2
          go_ret2
          exact ⟨_, rfl, R1.out, B1.out⟩
      · have q0 := emptyB x hx
        have CL := firstLine_is x (by have := HXL.out; omega) wr (TB.out.below HBR.out)
        unfold lineV at CL
        by_cases hl : idxB 10 x < x.length
        · rw [if_pos hl] at CL
          obtain ⟨ln, hln⟩ : ∃ ln, x.take (idxB 10 x) = ln := ⟨_, rfl⟩
          rw [hln] at CL
          have hll : ln.length = idxB 10 x := by rw [← hln, List.length_take]; omega
          have CF := Lib.hid (fun u (hu : Below w.heap.size w u) => file_is ln (by have := HXL.out; omega) u (TB.out.below hu))
          have ed := ext_drop x (ln.length + 1)
          have sz1 := size_toArray x
          have szl := size_toArray ln
          have HDL := Lib.hid (show (x.drop (ln.length + 1)).length < x.length by rw [List.length_drop]; omega)
          have j1 : (ln.length : Int) + 1 ≤ (x.length : Int) := by omega
          have j2 : ln.length ≤ 65536 := by have := HXL.out; omega
          have NF := Lib.hid (fun (h : fileM ln = none) => NONE.out (HAT.out.noFile hx hl (by rw [hln]; exact h)))
          have YF := Lib.hid (fun f (h : fileM ln = some f) => (show AtM bs (x.drop (ln.length + 1)) (p ++ [f]) by
            have q := HAT.out.next hx hl (by rw [hln]; exact h)
            rw [hll]; exact q))
          have IDF := Lib.hid (fun f (h : fileM ln = some f) => (fileM_some h).2.1)
          have CL := Lib.hid CL
          clear hx hl hll hln
          obtain ⟨m, hm⟩ : ∃ m, ln.length = m := ⟨_, rfl⟩
          rw [hm] at ed szl HDL j1 j2 YF
          simp only at CL
          obtain ⟨y, hy⟩ : ∃ y, x.drop (m + 1) = y := ⟨_, rfl⟩
          rw [hy] at ed HDL YF
          obtain ⟨sl, hsl⟩ : ∃ sl : ByteArray, ⟨ln.toArray⟩ = sl := ⟨_, rfl⟩
          rw [hsl] at CL CF szl
          obtain ⟨xl, hxl⟩ : ∃ xl, x.length = xl := ⟨_, rfl⟩
          have HXE := Lib.hid hxl
          rw [hxl] at ed sz1 j1 HDL
          obtain ⟨sx, hsx⟩ : ∃ sx : ByteArray, ⟨x.toArray⟩ = sx := ⟨_, rfl⟩
          rw [hsx] at CL ed sz1 q0 ⊢
          have HSX := Lib.hid (show strSz (.string sx) = xl by rw [← hsx, strSz_mk, hxl])
          clear hm hy hsl hxl hsx
          cases hf : fileM ln with
          | none =>
            have e := NF.out hf
            subst e
            rw [hf] at CF
            rw [show fileV none = .tuple #[.agg (arrF zFil), .bool false] from rfl, ← HZ.out] at CF
            have IZ := Lib.hid (show (Tryd.prog.info? 28).map (·.size) = some z.size by rw [HZS.out]; exact infoFile)
            have OZ := Lib.hid (show z.all (·.oneCell') = true by rw [HZ.out]; exact arrF_one _)
            clear hf NF YF IDF NONE SOME
            go_wp2_with fail
            refine CL.out.mono ?_
            rintro e u ⟨rfl, b1⟩
            have B1 := Lib.hid (HBR.out.trans (b1.mono HBR.out.size))
            clear b1 CL
            go_wp2_with fail
            refine (CF.out _ B1.out).mono ?_
            rintro e u2 ⟨rfl, b2⟩
            have B2 := Lib.hid (B1.out.trans (b2.mono B1.out.size))
            clear b2 CF
            go_wp2_with (first
              | (with_reducible refine wpList_store_all rfl 28 (.tmp 8) (.tmp 26) rfl u2.heap.size z rfl rfl 28 z (heap_alloc_new _ _) IZ.out rfl OZ.out ?_)
              | fail)
            intro w4 r4 off4 sz4
            have B4 := Lib.hid ((B2.out.trans (((Below.refl u2.heap.size u2).alloc (Nat.le_refl _) (.cells z 28)).mono B2.out.size)).trans (off4.below (B := w.heap.size) B2.out.size (by simp; have := B2.out.size; omega)))
            clear r4 off4 sz4
            go_wp2
            go_ret2
            exact ⟨_, rfl, RedM.none _, B4.out⟩
          | some f =>
            have hidf := IDF.out f hf
            have YF1 := Lib.hid (YF.out f hf)
            rw [hf] at CF
            rw [show fileV (some f) = .tuple #[.agg (arrF f), .bool true] from rfl] at CF
            have hsF := arrF_size f hidf
            have HRW := Lib.hid (fun (u : World) (q : Nat) (h : u.heap[q]? = some (.cells (arrF f) rowF.ty (0, 0))) => rowR_one (x := f) goodF h)
            have OKF := Lib.hid (show ∀ y ∈ [f], rowF.ok y from fun y hy => by rw [List.mem_singleton.1 hy]; exact hidf)
            have OKP := Lib.hid (show ∀ y ∈ p, rowF.ok y from fun y hy => (HAT.out.2.2 y hy).1)
            have PLE := Lib.hid (show p.length + [f].length ≤ 1000000000 by have := HAT.out.2.1; have := HL6.out; simp; omega)
            obtain ⟨F, hF⟩ : ∃ F, arrF f = F := ⟨_, rfl⟩
            have OF := Lib.hid (show F.all (·.oneCell') = true by rw [← hF]; exact arrF_one f)
            rw [hF] at CF hsF HRW
            have IF := Lib.hid (show (Tryd.prog.info? 28).map (·.size) = some F.size by rw [hsF]; exact infoFile)
            have EF := Lib.hid (hsF.trans HZS.out.symm); have SF := Lib.hid (show F.size = rowF.size from hsF)
            have hw1 : IntKind.i64.wrap ((m : Int) + 1) = (m : Int) + 1 := IntWalk.i64_in _ (by omega)
            clear hf NF YF IDF NONE SOME hidf hF hsF
            go_wp2_with fail
            refine CL.out.mono ?_
            rintro e u ⟨rfl, b1⟩
            have B1 := Lib.hid (HBR.out.trans (b1.mono HBR.out.size))
            have O1 := Lib.hid (ownR_below HOWN.out b1)
            clear b1 CL
            go_wp2_with fail
            refine (CF.out _ B1.out).mono ?_
            rintro e u2 ⟨rfl, b2⟩
            have B2 := Lib.hid (B1.out.trans (b2.mono B1.out.size))
            have O2 := Lib.hid (ownR_below O1.out b2)
            clear b2 CF
            go_wp2_with (first
              | (with_reducible refine wpList_store_all rfl 28 (.tmp 8) (.tmp 26) rfl u2.heap.size F rfl rfl 28 z (heap_alloc_new _ _) IF.out EF.out OF.out ?_)
              | fail)
            intro w4 r4 off4 sz4
            have b4 : Below u2.heap.size u2 w4 := ((Below.refl u2.heap.size u2).alloc (Nat.le_refl _) (.cells z 28)).trans (off4.below (Nat.le_refl _) (by simp))
            have B4 := Lib.hid (B2.out.trans (b4.mono B2.out.size))
            have O4 := Lib.hid (ownR_below O2.out b4)
            have R4 := Lib.hid r4
            clear r4 off4 sz4 b4
            have b5 := (Below.refl w4.heap.size w4).alloc (Nat.le_refl _) (.cells F rowF.ty)
            have B5 := Lib.hid (B4.out.trans (b5.mono B4.out.size))
            have O5 := Lib.hid (ownR_below O4.out b5)
            have W5 := Lib.hid (HRW.out _ _ (heap_alloc_new w4 (.cells F rowF.ty)))
            clear b5
            obtain ⟨w5, hw5⟩ : ∃ w5, w4.alloc (.cells F rowF.ty) = w5 := ⟨_, rfl⟩
            rw [hw5] at B5 O5 W5
            have HW5 := Lib.hid hw5
            clear hw5
            go_wp2_with (first
              | (with_reducible refine wpList_load_all 28 (.tmp 8) rfl (by kernel_rfl) u2.heap.size F 28 (0, 0) rfl R4.out _ Tryd.underlying28 rfl IF.out ?_)
              | (with_reducible refine wpList_build_oneR goodF rfl (.tmp 31) rfl F SF.out rfl ?_; rw [HW5.out])
              | (at_builtin; refine wpList_append_anyR goodF rfl (.tmp 30) (.tmp 32) rfl w.heap.size _ p [f] (some ⟨w4.heap.size, 0, none⟩) 1 1 rfl rfl rfl W5.out OKF.out OKP.out O5.out PLE.out B5.out.size ?_)
              | fail)
            intro v6 w6 ow6 gw6
            have B6 := Lib.hid (B5.out.grown gw6 B5.out.size (fun j hj => (ownR_lt O5.out j hj).1))
            have O6 := Lib.hid ow6
            clear ow6 gw6
            go_wp2
            go_roundw
            case rel => exact ⟨y, p ++ [f], by go_num, YF1.out, O6.out, B6.out⟩
            case measure => rw [HSX.out, strSz_mk]; exact HDL.out
        · have e := NONE.out (HAT.out.noLine hx hl)
          subst e
          rw [if_neg hl] at CL
          have CL := Lib.hid CL
          clear hx hl SOME NONE
          obtain ⟨sx, hsx⟩ : ∃ sx : ByteArray, ⟨x.toArray⟩ = sx := ⟨_, rfl⟩
          rw [hsx] at CL q0 ⊢
          clear hsx
          go_wp2_with fail
          refine CL.out.mono ?_
          rintro e u ⟨rfl, b1⟩
          have B1 := Lib.hid (HBR.out.trans (b1.mono HBR.out.size))
          clear b1 CL
          go_wp2
          go_ret2
          exact ⟨_, rfl, RedM.none _, B1.out⟩
end Go.Proofs.YtdgcjjledbnofaaDoor

/-
  Layer 3: paths of the reference.
-/
namespace Go.Proofs.YtdgcjjledbnofaaDoor
open Go.RowKit
set_option linter.unusedVariables false
set_option linter.unusedSimpArgs false

theorem path_short (l : List UInt8) (h : l.length < 1 ∨ 400 < l.length ∨ Lib.validD l = false) : pathL l = false := by
  unfold pathL
  rcases h with h | h | h
  · simp [show ¬ 1 ≤ l.length by omega]
  · simp [show ¬ l.length ≤ 400 by omega]
  · simp [h]

/-- How far the names are told. -/
def Told (l : List UInt8) (i a n : Nat) : Prop :=
  (i ≤ l.length ∧ a ≤ i ∧ n ≤ i + 1 ∧ PathAt l a n ∧ (∀ j, a ≤ j → j < i → (l.getD j 0).toNat ≠ 47) ∧ ∀ j, j < i → (l.getD j 0).toNat ≠ 0) ∨ (i = l.length + 1 ∧ n ≤ l.length + 1 ∧ pathL l = decide (n ≤ 16))

set_option maxHeartbeats 8000000 in
set_option maxRecDepth 100000 in
theorem rPath_is (l : List UInt8) (w : World) (hn : l.length ≤ 1000000) (hV : ∀ w', Below w.heap.size w w' → Calls Tryd.prog 48 #[.string ⟨l.toArray⟩] w' fun e w'' => e = .returned (.bool (Lib.validD l)) ∧ Below w'.heap.size w' w'') :
    Calls Tryd.prog 35 #[.string ⟨l.toArray⟩] w fun e w' => e = .returned (.bool (pathL l)) ∧ Below w.heap.size w w' := by
  have hsz := size_toArray l
  have hget : ∀ i, i < l.length → ∀ h2 : i < (⟨l.toArray⟩ : ByteArray).size, (⟨l.toArray⟩ : ByteArray)[i]'h2 = l.getD i 0 := fun i h h2 => getD_str l i h h2
  have hcut : ∀ a i, (⟨l.toArray⟩ : ByteArray).extract a i = ⟨(cutL l a i).toArray⟩ := fun a i => ext_list l a i
  obtain ⟨s, hs⟩ : ∃ s : ByteArray, s = ⟨l.toArray⟩ := ⟨_, rfl⟩
  rw [← hs] at hsz hget hV hcut ⊢
  have HGET := Lib.hid hget
  have HCUT := Lib.hid hcut
  have cV := hV w (Below.refl _ _)
  clear hs hget hV hcut
  by_cases h1 : l.length < 1
  · have R := Lib.hid (path_short l (.inl h1))
    clear cV
    go_enter Tryd.func35, Tryd.ntmps35
    go_wp2
    go_ret
    exact ⟨ret_bool R.out.symm, Below.refl _ _⟩
  by_cases h2 : 400 < l.length
  · have R := Lib.hid (path_short l (.inr (.inl h2)))
    clear cV
    go_enter Tryd.func35, Tryd.ntmps35
    go_wp2
    go_ret
    exact ⟨ret_bool R.out.symm, Below.refl _ _⟩
  cases hv : Lib.validD l with
  | false =>
    have R := Lib.hid (path_short l (.inr (.inr hv)))
    rw [hv] at cV
    clear hv
    go_enter Tryd.func35, Tryd.ntmps35
    go_wp2_with fail
    refine cV.mono ?_
    rintro e w1 ⟨rfl, b1⟩
    go_wp2
    go_ret
    exact ⟨ret_bool R.out.symm, b1⟩
  | true =>
    rw [hv] at cV
    have HV := Lib.hid hv
    clear hv
    go_enter Tryd.func35, Tryd.ntmps35
    go_wp2_with fail
    refine cV.mono ?_
    rintro e w1 ⟨rfl, b1⟩
    clear cV
    go_wp2_with fail
    go_loopw [3, 4, 5] (fun vn va vi wr => ∃ (i a n : Nat), vn = .int .i64 n ∧ va = .int .i64 a ∧ vi = .int .i64 i ∧ Below w.heap.size w wr ∧ i ≤ l.length + 1 ∧ n ≤ l.length + 1 ∧ Hid (Told l i a n)) (fun _ _ vi _ => l.length + 2 - (intOf vi).toNat)
    case atStart => exact ⟨0, 0, 1, rfl, rfl, rfl, b1, by omega, by omega, Lib.hid (.inl ⟨Nat.zero_le _, Nat.le_refl _, by omega, PathAt.start l, fun j _ h => absurd h (Nat.not_lt_zero _), fun j h => absurd h (Nat.not_lt_zero _)⟩)⟩
    case round =>
      obtain ⟨i, a, n, rfl, rfl, rfl, hbr, hi, hnn, TO⟩ := hrel
      by_cases hend : i = l.length + 1
      · have R : Hid (pathL l = decide (n ≤ 16)) := Lib.hid (by
          rcases TO.out with ⟨h, _⟩ | ⟨_, _, h⟩
          · omega
          · exact h)
        have hle : ¬ (i : Int) ≤ (l.length : Int) := by omega
        clear hend
        go_wp2
        go_ret
        refine ⟨ret_bool ?_, hbr⟩
        rw [R.out, decide_eq_decide]
        omega
      · obtain ⟨hil, hai, hni, hpa, hno, hz⟩ : i ≤ l.length ∧ a ≤ i ∧ n ≤ i + 1 ∧ PathAt l a n ∧ (∀ j, a ≤ j → j < i → (l.getD j 0).toNat ≠ 47) ∧ ∀ j, j < i → (l.getD j 0).toNat ≠ 0 := by
          rcases TO.out with h | ⟨h, _⟩
          · exact h
          · exact absurd h hend
        have cN := fun w => rname_is (cutL l a i) w (by unfold cutL; simp; omega)
        have hx := HCUT.out a i
        have hle : (i : Int) ≤ (l.length : Int) := by omega
        have haz : (a : Int) ≤ (i : Int) := by omega
        obtain ⟨t, ht⟩ : ∃ t : ByteArray, t = ⟨(cutL l a i).toArray⟩ := ⟨_, rfl⟩
        rw [← ht] at cN hx
        have PA := Lib.hid hpa
        have NO := Lib.hid hno
        have HZ := Lib.hid hz
        clear ht hend TO hpa hno hz
        by_cases hlt : i < l.length
        · have hc := HGET.out i hlt (by omega)
          obtain ⟨x, hxe⟩ : ∃ x : UInt8, x = l.getD i 0 := ⟨_, rfl⟩
          rw [← hxe] at hc
          have XE := Lib.hid hxe
          clear hxe
          by_cases x0 : x.toNat = 0
          · have f0 : ((x.toNat : Int) == 0) = true := by simp [x0]
            have R := Lib.hid (zero_bad l i hlt (by rw [← XE.out]; exact x0))
            clear x0 cN
            go_wp2
            go_ret
            exact ⟨ret_bool R.out.symm, hbr⟩
          · have f0 : ((x.toNat : Int) == 0) = false := by simp; omega
            have fe : ((i : Int) == (l.length : Int)) = false := by simp; omega
            have NZ : Hid (∀ j, j < i + 1 → (l.getD j 0).toNat ≠ 0) := Lib.hid fun j hj => by
              by_cases h : j < i
              · exact HZ.out j h
              · obtain rfl : j = i := by omega
                rw [← XE.out]; exact x0
            by_cases x47 : x.toNat = 47
            · have f1 : ((x.toNat : Int) == 47) = true := by simp [x47]
              have S := Lib.hid (show (l.getD i 0).toNat = 47 by rw [← XE.out]; exact x47)
              cases hN : nameL (cutL l a i) with
              | false =>
                rw [hN] at cN
                have R := Lib.hid (PA.out.bad hai hil NO.out (fun _ => S.out) hN)
                clear x0 x47 hN
                go_wp2_with fail
                refine (cN _).mono ?_
                rintro e w2 ⟨rfl, b2⟩
                go_wp2
                go_ret
                exact ⟨ret_bool R.out.symm, hbr.trans (b2.mono hbr.size)⟩
              | true =>
                rw [hN] at cN
                have R := Lib.hid (PA.out.next hai hlt NO.out S.out hN)
                clear x0 x47 hN
                go_wp2_with fail
                refine (cN _).mono ?_
                rintro e w2 ⟨rfl, b2⟩
                go_wp2
                go_roundw
                case rel => exact ⟨i + 1, i + 1, n + 1, by go_num, by go_num, by go_num, hbr.trans (b2.mono hbr.size), by omega, by omega, Lib.hid (.inl ⟨by omega, by omega, by omega, R.out, fun j h1 h2 => by omega, NZ.out⟩)⟩
                case measure => simp [intOf]; omega
            · have f1 : ((x.toNat : Int) == 47) = false := by simp; omega
              have NS : Hid (∀ j, a ≤ j → j < i + 1 → (l.getD j 0).toNat ≠ 47) := Lib.hid fun j h1 hj => by
                by_cases h : j < i
                · exact NO.out j h1 h
                · obtain rfl : j = i := by omega
                  rw [← XE.out]; exact x47
              clear x0 x47 cN
              go_wp2
              go_roundw
              case rel => exact ⟨i + 1, a, n, rfl, rfl, by go_num, hbr, by omega, by omega, Lib.hid (.inl ⟨by omega, by omega, by omega, PA.out, NS.out, NZ.out⟩)⟩
              case measure => simp [intOf]; omega
        · obtain rfl : i = l.length := by omega
          have fe : ((l.length : Int) == (l.length : Int)) = true := by simp
          cases hN : nameL (cutL l a l.length) with
          | false =>
            rw [hN] at cN
            have R := Lib.hid (PA.out.bad hai hil NO.out (fun h => absurd h (by omega)) hN)
            clear hN
            go_wp2_with fail
            refine (cN _).mono ?_
            rintro e w2 ⟨rfl, b2⟩
            go_wp2
            go_ret
            exact ⟨ret_bool R.out.symm, hbr.trans (b2.mono hbr.size)⟩
          | true =>
            rw [hN] at cN
            have R := Lib.hid (PA.out.fin NO.out hN (by omega) (by omega) HV.out HZ.out)
            clear hN
            go_wp2_with fail
            refine (cN _).mono ?_
            rintro e w2 ⟨rfl, b2⟩
            go_wp2
            go_roundw
            case rel => exact ⟨l.length + 1, l.length + 1, n, rfl, by go_num, by go_num, hbr.trans (b2.mono hbr.size), by omega, by omega, Lib.hid (.inr ⟨rfl, by omega, R.out⟩)⟩
            case measure => simp [intOf]
end Go.Proofs.YtdgcjjledbnofaaDoor

/-
  Helpers of the statements: Begins; Find of a byte 0.
-/
namespace Go.Proofs.YtdgcjjledbnofaaDoor
open Go.RowKit
set_option linter.unusedVariables false
set_option linter.unusedSimpArgs false

theorem cutt_list (l : List UInt8) (a b : Nat) : (⟨l.toArray⟩ : ByteArray).extract a b = ⟨((l.drop a).take (b - a)).toArray⟩ := by
  apply ByteArray.ext
  simp [List.drop_take]
set_option maxHeartbeats 1000000 in
theorem Begins_is (s t : List UInt8) (hs : s.length ≤ 1000000) (ht : t.length ≤ 1000000) (w : World) :
    Calls Tryd.prog 36 #[.string ⟨s.toArray⟩, .string ⟨t.toArray⟩] w fun e w' => e = .returned (.bool (s.take t.length == t)) ∧ w = w' := by
  have ex := cutt_list s 0 t.length
  rw [List.drop_zero, Nat.sub_zero] at ex
  have z1 := size_toArray s
  have z2 := size_toArray t
  by_cases h : t.length ≤ s.length
  · obtain ⟨r, hr⟩ : ∃ r, (s.take t.length == t) = r := ⟨_, rfl⟩
    rw [hr]
    generalize (⟨s.toArray⟩ : ByteArray) = S at *
    obtain ⟨x, hx⟩ : ∃ x, s.take t.length = x := ⟨_, rfl⟩
    rw [hx] at ex hr
    clear hx
    go_enter Tryd.func36, Tryd.ntmps36
    go_wp2
    go_ret
    exact ⟨rfl, rfl⟩
  · have hr : (s.take t.length == t) = false := by
      rw [beq_eq_false_iff_ne]
      intro e
      have := congrArg List.length e
      rw [List.length_take] at this
      omega
    rw [hr]
    clear hr ex
    generalize (⟨s.toArray⟩ : ByteArray) = S at *
    generalize (⟨t.toArray⟩ : ByteArray) = T at *
    go_enter Tryd.func36, Tryd.ntmps36
    go_wp2
    go_ret
    exact ⟨rfl, rfl⟩

/-- Where the first zero stands; -1. -/
def zeroAt (s : List UInt8) : Int := if s.findIdx (· == 0) < s.length then s.findIdx (· == 0) else -1
theorem zero_at (s : List UInt8) (i : Nat) (hi : i < s.length) (h : s.getD i 1 = 0) (hn : ∀ j, j < i → s.getD j 1 ≠ 0) : s.findIdx (· == 0) = i := by
  rw [List.getD_eq_getElem?_getD, List.getElem?_eq_getElem hi] at h
  simp only [Option.getD_some] at h
  rw [List.findIdx_eq hi]
  refine ⟨by rw [h]; rfl, fun j hj => ?_⟩
  have := hn j hj
  rw [List.getD_eq_getElem?_getD, List.getElem?_eq_getElem (by omega)] at this
  simp only [Option.getD_some] at this
  exact beq_false_of_ne this
theorem zero_no (s : List UInt8) (hn : ∀ j, j < s.length → s.getD j 1 ≠ 0) : ∀ c ∈ s, c ≠ 0 := by
  intro c hc
  obtain ⟨i, hi, rfl⟩ := List.mem_iff_getElem.1 hc
  have := hn i hi
  rw [List.getD_eq_getElem?_getD, List.getElem?_eq_getElem hi] at this
  exact this
theorem zeroAt_here (s : List UInt8) (i : Nat) (hi : i < s.length) (h : s.getD i 1 = 0) (hn : ∀ j, j < i → s.getD j 1 ≠ 0) : zeroAt s = i := by
  unfold zeroAt; rw [zero_at s i hi h hn, if_pos hi]
theorem zeroAt_none (s : List UInt8) (hn : ∀ j, j < s.length → s.getD j 1 ≠ 0) : zeroAt s = -1 := by
  unfold zeroAt
  rw [if_neg]
  have h := zero_no s hn
  have : s.findIdx (· == 0) = s.length := List.findIdx_eq_length.2 (fun c hc => beq_false_of_ne (h c hc))
  omega
theorem cut_one0 (s : List UInt8) (i : Nat) (hi : i < s.length) : (⟨s.toArray⟩ : ByteArray).extract i (i + 1) = ⟨[s.getD i 1].toArray⟩ := by
  rw [cutt_list, Nat.add_sub_cancel_left, List.getD_eq_getElem?_getD, List.getElem?_eq_getElem hi]
  rw [List.drop_eq_getElem_cons hi]
  rfl

set_option maxHeartbeats 4000000 in
theorem Find_zero (s : List UInt8) (hs : s.length ≤ 1000000) (w : World) :
    Calls Tryd.prog 22 #[.string ⟨s.toArray⟩, .string ⟨#[0]⟩, .int .i64 0] w fun e w' => e = .returned (.int .i64 (zeroAt s)) ∧ w = w' := by
  have z1 := size_toArray s
  have CO := Lib.hid (fun i hi => cut_one0 s i hi)
  obtain ⟨R, hR⟩ : ∃ R, zeroAt s = R := ⟨_, rfl⟩
  rw [hR]
  have HR := Lib.hid hR
  clear hR
  generalize (⟨s.toArray⟩ : ByteArray) = S at *
  go_enter Tryd.func22, Tryd.ntmps22
  go_wp2_with fail
  go_loop [7] (fun v => ∃ i : Nat, i ≤ s.length ∧ v = .int .i64 i ∧ ∀ j, j < i → s.getD j 1 ≠ 0) (fun v => s.length - (intOf v).toNat)
  case atStart => exact ⟨0, Nat.zero_le _, rfl, fun j hj => absurd hj (Nat.not_lt_zero j)⟩
  case round =>
    obtain ⟨i, hi, rfl, hno⟩ := hrel
    have HNO := Lib.hid hno
    clear hno
    by_cases hlt : i < s.length
    · have ex := CO.out i hlt
      by_cases h0 : s.getD i 1 = 0
      · rw [h0] at ex
        have hz := zeroAt_here s i hlt h0 HNO.out
        rw [HR.out] at hz
        subst hz
        clear h0
        go_wp2
        go_ret
        exact ⟨rfl, rfl⟩
      · have hb2 : (s.getD i 1 == (0 : UInt8)) = false := beq_false_of_ne h0
        have H0 := Lib.hid h0
        clear h0
        generalize hg : s.getD i 1 = c at ex hb2
        have HG := Lib.hid hg
        clear hg
        go_wp2
        go_round
        case rel =>
          refine ⟨i + 1, by omega, by go_num, fun j hj => ?_⟩
          by_cases h : j < i
          · exact HNO.out j h
          · obtain rfl : j = i := by omega
            exact H0.out
        case measure => simp [intOf]; omega
    · have hi2 : i = s.length := by omega
      have hz := zeroAt_none s (fun j hj => HNO.out j (by omega))
      rw [HR.out] at hz
      subst hz
      go_wp2
      go_ret
      exact ⟨rfl, rfl⟩
end Go.Proofs.YtdgcjjledbnofaaDoor
