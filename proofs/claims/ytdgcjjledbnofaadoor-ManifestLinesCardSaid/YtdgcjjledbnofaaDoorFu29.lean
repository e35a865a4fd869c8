/-
  Texts that belong together, one behind the other.
-/
import Derived.Test.YtdgcjjledbnofaaDoorFu25
import Derived.Test.YtdgcjjledbnofaaDoorFu27
import Derived.Test.YtdgcjjledbnofaaDoorFu28
import Derived.Test.YtdgcjjledbnofaaDoorFu17
/-
  Layer 16, the document: Print.
-/
namespace Go.Proofs.YtdgcjjledbnofaaDoor
set_option maxRecDepth 20000
open Go.RowKit
set_option linter.unusedVariables false
set_option linter.unusedSimpArgs false

theorem findB_zero (c : UInt8) (s : List UInt8) : findB s c 0 = if idxB c s < s.length then (idxB c s : Int) else -1 := by
  unfold findB idxB
  rw [List.drop_zero]
  split
  · simp
  · rfl
theorem bytes_red (w : World) (l : List UInt8) (hl : l.length ≤ 1099511627776) : ∃ v u, (convert 9 23 (.string ⟨l.toArray⟩)).run Tryd.prog w = .ok v u ∧ Red u v l ∧ Below w.heap.size w u := by
  obtain ⟨cap, u, h, b, r⟩ := str_row w l hl
  have hb := r.bat
  obtain ⟨cur, fz, hg, h1, h2, -⟩ := r
  exact ⟨_, u, h, ⟨_, cap, rfl, hb, (fun e => by cases e), h1, h2⟩, b⟩
set_option maxHeartbeats 16000000 in
theorem rmPrint_some (b o n c : Nat) (l : List Fil) (w : World) (hn : n = l.length) (h1 : 1 ≤ n) (hm : n ≤ 1000000) (hat : FilesAt w (some ⟨b, o, none⟩) l) (hid : ∀ i ∈ l, i.id.length = 20) (hnm : ∀ i ∈ l, i.path.length ≤ 100000) (tab : QTab w) :
    Calls Tryd.prog 10 #[.slice (some ⟨b, o, none⟩) n c] w fun e w' => ∃ v, e = .returned (.tuple #[v, .int .i64 (printM l).2]) ∧ Red w' v (printM l).1 ∧ Below w.heap.size w w' := by
  have cR := rfRight_is (some ⟨b, o, none⟩) n c l w hn hm hat hid hnm tab
  have HN := Lib.hid hn; have HAT := Lib.hid hat; have HID := Lib.hid hid; have HBL := Lib.hid (hat.lt (by omega))
  have NOF := Lib.hid (fun (h : rightF l = false) => printM_no (by unfold rightM; rw [h]; rfl : rightM l = false))
  have NO := Lib.hid (fun k hk h => printM_no (@rightM_no l k hk h))
  have YES := Lib.hid (fun h1 h2 => printM_yes (@rightM_yes l h1 h2))
  have FPL := Lib.hid (fun (h : rightF l = true) => (fun f hf => path_len0 (sound_parts (by
    obtain ⟨k, hk, rfl⟩ := List.mem_iff_getElem.1 hf
    have hs := ((rightF_iff l).1 h).2 k hk
    unfold stepF at hs
    simp only [Bool.and_eq_true] at hs
    have := hs.1.1
    rwa [List.getD_eq_getElem?_getD, List.getElem?_eq_getElem hk] at this : soundF f = true)).2.2 : ∀ f ∈ l, f.path.length ≤ 400))
  have RLE := Lib.hid (fun (h : rightF l = true) => ((rightF_iff l).1 h).1)
  obtain ⟨P, hP⟩ : ∃ P, printM l = P := ⟨_, rfl⟩
  rw [hP] at NOF NO YES ⊢
  cases hr : rightF l with
  | false =>
    rw [hr] at cR
    have hp := NOF.out hr
    subst hp
    clear hn hat hid hnm tab hP hr HN HAT HID HBL NOF NO YES FPL RLE
    go_enter Tryd.func10, Tryd.ntmps10
    go_wp2_with fail
    refine cR.mono ?_
    rintro e w1 ⟨rfl, b1⟩
    have B1 := Lib.hid b1
    clear b1
    go_wp2
    go_ret2
    exact ⟨_, rfl, Red.none _, B1.out⟩
  | true =>
    rw [hr] at cR
    have hn5 : n ≤ 500 := by rw [hn]; exact RLE.out hr
    have HONE := Lib.hid (FPL.out hr); have YES2 := Lib.hid (fun h => YES.out hr h); have CR := Lib.hid cR
    clear hn hm hat hid hnm tab hP hr cR YES FPL RLE NOF
    go_enter Tryd.func10, Tryd.ntmps10
    go_wp2_with fail
    refine CR.out.mono ?_
    rintro e w1 ⟨rfl, b1⟩
    have B1 := Lib.hid b1
    clear b1 CR
    go_wp2_with fail
    go_loopw [4, 5] (fun v4 v5 wr => ∃ i : Nat, i ≤ n ∧ v5 = .int .i64 i ∧ v4 = .string ⟨(textM (l.take i)).toArray⟩ ∧ AllM l i ∧ Below w.heap.size w wr) (fun _ v5 _ => n - (intOf v5).toNat)
    case atStart => exact ⟨0, Nat.zero_le _, rfl, rfl, fun j _ h => absurd h (Nat.not_lt_zero _), B1.out⟩
    case round =>
      obtain ⟨i, hi, rfl, rfl, hall, hbr⟩ := hrel
      have HALL := Lib.hid hall
      have HBR := Lib.hid hbr
      clear hall hbr
      by_cases hlt : i < n
      · have hil : i < l.length := by rw [← HN.out]; exact hlt
        obtain ⟨x, hx⟩ : ∃ x, l[i] = x := ⟨_, rfl⟩
        have hxm : x ∈ l := by rw [← hx]; exact List.getElem_mem _
        have hidx := HID.out x hxm
        have hpx := HONE.out x hxm
        have rx : ∀ u, Below w.heap.size w u → u.rangeAt b (o + i * 22) (cellsF x) := fun u hu j v hv => (hu.cell (p := ⟨b, o + i * 22 + j, none⟩) HBL.out).trans (HAT.out.elem i hil j v (by rw [hx]; exact hv))
        have QP := Lib.hid (fun u hu => (rx u hu 0 _ rfl : u.cell? ⟨b, o + i * 22, none⟩ = some (.string ⟨x.path.toArray⟩)))
        have QM := Lib.hid (fun u hu => (rx u hu 1 _ rfl : u.cell? ⟨b, o + i * 22 + 1, none⟩ = some (.int .i64 x.mode)))
        have HFN := Lib.hid (show textM (l.take (i + 1)) = textM (l.take i) ++ x.path ++ [0] ++ hexL x.id ++ flagM x.mode ++ [10] by rw [textM_next l i hil, hx]; unfold lineM; simp only [List.append_assoc])
        have fle : (textM (l.take i)).length ≤ 443 * 500 := by
          have := textM_len 400 (l.take i) (fun j hj => HID.out j (List.mem_of_mem_take hj)) (fun j hj => HONE.out j (List.mem_of_mem_take hj))
          rw [List.length_take] at this
          omega
        have hxl : (hexL x.id).length = 40 := by rw [hexL_length, hidx]
        have hfl := flagM_len x.mode
        obtain ⟨out, hout⟩ : ∃ out, textM (l.take i) = out := ⟨_, rfl⟩
        rw [hout] at HFN fle ⊢
        have a1 := fun u => add_lists (P := Tryd.prog) u out x.path (by omega)
        have a2 := fun u => add_lists (P := Tryd.prog) u (out ++ x.path) [0] (by simp; omega)
        have a3 := fun u => add_lists (P := Tryd.prog) u (out ++ x.path ++ [0]) (hexL x.id) (by simp; omega)
        have a4 := fun u => add_lists (P := Tryd.prog) u (out ++ x.path ++ [0] ++ hexL x.id) (flagM x.mode) (by simp; omega)
        have a5 := fun u => add_lists (P := Tryd.prog) u (out ++ x.path ++ [0] ++ hexL x.id ++ flagM x.mode) [10] (by simp; omega)
        have CH := Lib.hid (fun (u : World) (hu : Below w.heap.size w u) => rHex_any (some ⟨b, o + i * 22 + 2, none⟩) 20 20 x.id u (bat_of_range (Nat.lt_of_lt_of_le HBL.out hu.size) (fun j v hv => by
          have := rx u hu (j + 2) v hv
          rwa [show o + i * 22 + (j + 2) = o + i * 22 + 2 + j by omega] at this)) hidx.symm (by omega))
        have CF := Lib.hid (fun u => rflag_is x.mode u)
        have CN := Lib.hid (fun u => Find_byte 10 x.path 0 (by omega) (Nat.zero_le _) u)
        rw [findB_zero] at CN
        have HNX := Lib.hid (show noEndM l[i] = decide (¬ idxB 10 x.path < x.path.length) by rw [hx]; rfl)
        obtain ⟨m, hm⟩ : ∃ m, x.mode = m := ⟨_, rfl⟩
        rw [hm] at a4 a5 CF QM HFN
        generalize (⟨(out ++ x.path ++ [0] ++ hexL x.id ++ flagM m).toArray⟩ : ByteArray) = s4 at a4 a5
        generalize (⟨(out ++ x.path ++ [0] ++ hexL x.id).toArray⟩ : ByteArray) = s3 at a3 a4
        generalize (⟨(out ++ x.path ++ [0]).toArray⟩ : ByteArray) = s2 at a2 a3
        generalize (⟨(out ++ x.path).toArray⟩ : ByteArray) = s1 at a1 a2
        generalize (⟨(hexL x.id).toArray⟩ : ByteArray) = sh at a3 CH
        generalize (⟨(flagM m).toArray⟩ : ByteArray) = sf at a4 CF
        generalize (⟨x.path.toArray⟩ : ByteArray) = sp at a1 QP CN
        generalize (⟨out.toArray⟩ : ByteArray) = so at a1 ⊢
        rw [← HFN.out] at a5
        have q0 := QP.out wr HBR.out
        clear rx hidx hx hxm hpx fle hxl hfl hm hout
        by_cases hlb : idxB 10 x.path < x.path.length
        · have hp := NO.out i hil (by rw [HNX.out]; exact decide_eq_false (fun h => h hlb))
          subst hp
          rw [if_pos hlb] at CN
          clear hlb NO YES2 a1 a2 a3 a4 a5 CH CF
          go_wp2_with fail
          refine (CN.out _).mono ?_
          rintro e u ⟨rfl, rfl⟩
          have g1 : ((idxB 10 x.path : Nat) : Int) ≥ 0 := by omega
          go_wp2
          go_ret2
          exact ⟨_, rfl, Red.none _, HBR.out⟩
        · have HNE := Lib.hid (show AllM l (i + 1) from fun j hj h2 => by
            by_cases e : j < i
            · exact HALL.out j hj e
            · obtain rfl : j = i := by omega
              rw [HNX.out]; exact decide_eq_true hlb)
          rw [if_neg hlb] at CN
          clear hlb NO HNX
          go_wp2_with fail
          refine (CN.out _).mono ?_
          rintro e u ⟨rfl, rfl⟩
          clear CN
          go_wp2_with fail
          have HD := Lib.hid HBR.out.drew
          refine wp_region_held_drew (S := fun u => Below w.heap.size w u) (by kernel_rfl) HD.out (fun hHeld => ?_)
          refine tkW 0 rfl hHeld ?_
          refine tkW 1 rfl hHeld ?_
          refine tkW 2 rfl hHeld ?_
          refine tkV 3 rfl (.pointer (some ⟨b, o + i * 22, none⟩)) (fun u hu => by go_simp) hHeld ?_
          refine tkW 4 rfl hHeld ?_
          refine tkV 5 rfl (.string sp) (fun u hu => by have q := QP.out u hu; go_simp) hHeld ?_
          refine tkW 6 rfl hHeld ?_
          refine tkW 7 rfl hHeld ?_
          refine tkW 8 rfl hHeld ?_
          refine tkW 9 rfl hHeld ?_
          refine tkV 10 rfl (.pointer (some ⟨b, o + i * 22, none⟩)) (fun u hu => by go_simp) hHeld ?_
          refine tkW 11 rfl hHeld ?_
          refine tkV 12 rfl (.slice (some ⟨b, o + i * 22 + 2, none⟩) 20 20) (fun u hu => by have q := slice20_all u b (o + i * 22 + 2); go_simp) hHeld ?_
          refine tkW 15 rfl hHeld ?_
          refine tkW 16 rfl hHeld ?_
          refine tkV 17 rfl (.pointer (some ⟨b, o + i * 22, none⟩)) (fun u hu => by go_simp) hHeld ?_
          refine tkW 18 rfl hHeld ?_
          refine tkV 19 rfl (.int .i64 m) (fun u hu => by have q := QM.out u hu; go_simp) hHeld ?_
          refine rdH 13 rfl (fun K hK => ?_)
          go_simp
          refine (CH.out _ hHeld).mono ?_
          rintro e u5 ⟨rfl, bh⟩
          have hH := hHeld.trans (bh.mono hHeld.size)
          clear hHeld bh
          refine hK.out _ _ hH (fun hHeld => ?_)
          clear hK K
          try simp only [Act.put, List.getElem_toArray, List.getElem_cons_succ, List.getElem_cons_zero, lsA, lsZ, lsS]
          refine tkW 14 rfl hHeld ?_
          refine rdH 20 rfl (fun K hK => ?_)
          go_simp
          refine (CF.out _).mono ?_
          rintro e u6 ⟨rfl, rfl⟩
          refine hK.out _ _ hHeld (fun hHeld => ?_)
          clear hK K
          try simp only [Act.put, List.getElem_toArray, List.getElem_cons_succ, List.getElem_cons_zero, lsA, lsZ, lsS]
          refine tkW 21 rfl hHeld ?_
          refine tkW 22 rfl hHeld ?_
          refine tkW 23 rfl hHeld ?_
          try simp only [Act.put, List.getElem_toArray, List.getElem_cons_succ, List.getElem_cons_zero, lsA, lsZ, lsS]
          refine wpAnyH_done (by kernel_rfl) ?_ _
          have HB6 := Lib.hid hHeld
          clear hHeld hH
          go_wp2
          go_roundw
          case rel => exact ⟨i + 1, by omega, by go_num, rfl, HNE.out, HB6.out⟩
          case measure => simp [intOf]; omega
      · have hin : i = l.length := by rw [← HN.out]; omega
        have hfl : l.take i = l := by rw [hin, List.take_length]
        rw [hfl]
        have hp := YES2.out (fun j hj h2 => HALL.out j hj (by omega))
        have HFL := Lib.hid (show (textM l).length ≤ 443 * 500 by
          have := textM_len 400 l HID.out HONE.out
          have := HN.out
          omega)
        obtain ⟨fl, hfl3⟩ : ∃ fl, textM l = fl := ⟨_, rfl⟩
        rw [hfl3] at hp HFL ⊢
        obtain ⟨v, uz, cv, rv, bz⟩ := bytes_red wr fl (by have := HFL.out; omega)
        have RV := Lib.hid rv; have BZ := Lib.hid (HBR.out.trans (bz.mono HBR.out.size))
        have szf := size_toArray fl
        generalize (⟨fl.toArray⟩ : ByteArray) = sfl at cv szf ⊢
        clear hin hfl hfl3 rv bz NO YES2
        by_cases h64 : 65536 < fl.length
        · rw [if_pos h64] at hp
          subst hp
          have g6 : (fl.length : Int) > 65536 := by omega
          clear h64
          go_wp2
          go_ret2
          exact ⟨_, rfl, Red.none _, HBR.out⟩
        · rw [if_neg h64] at hp
          subst hp
          have g6 : ¬ (fl.length : Int) > 65536 := by omega
          clear h64
          go_wp2
          go_ret2
          exact ⟨_, rfl, RV.out, BZ.out⟩
theorem rmPrint_is (a : Option Addr) (n c : Nat) (l : List Fil) (w : World) (hn : n = l.length) (hm : n ≤ 1000000) (hat : FilesAt w a l) (hid : ∀ i ∈ l, i.id.length = 20) (hnm : ∀ i ∈ l, i.path.length ≤ 100000) (tab : QTab w) :
    Calls Tryd.prog 10 #[.slice a n c] w fun e w' => ∃ v, e = .returned (.tuple #[v, .int .i64 (printM l).2]) ∧ Red w' v (printM l).1 ∧ Below w.heap.size w w' := by
  by_cases h1 : n = 0
  · have cR := rfRight_is a n c l w hn hm hat hid hnm tab
    obtain rfl : l = [] := List.eq_nil_of_length_eq_zero (by omega)
    rw [show printM [] = ([], 0) from rfl]
    rw [show rightF [] = true from rfl] at cR
    subst h1
    clear hn hm hat hid hnm tab
    go_enter Tryd.func10, Tryd.ntmps10
    go_wp2_with fail
    refine cR.mono ?_
    rintro e u ⟨rfl, b1⟩
    obtain ⟨v, uz, cv, rv, bz⟩ := bytes_red u [] (by decide)
    have RV := Lib.hid rv; have BZ := Lib.hid (b1.trans (bz.mono b1.size))
    clear b1 cR rv bz
    go_wp2_with fail
    refine wp_loop_rounds 1 ?_
    rw [rounds_succ]
    go_wp2
    go_ret2
    exact ⟨_, rfl, RV.out, BZ.out⟩
  · obtain ⟨b, o, rfl, -⟩ := hat.some (by omega)
    exact rmPrint_some b o n c l w hn (by omega) hm hat hid hnm tab
end Go.Proofs.YtdgcjjledbnofaaDoor

/-
  Cut of Dx: an id of one byte.
-/
namespace Go.Proofs.YtdgcjjledbnofaaDoor
set_option maxRecDepth 20000
open Go.RowKit
set_option linter.unusedVariables false
set_option linter.unusedSimpArgs false

theorem built_id1 (k : UInt8) : Tryd.prog.built 26 [(0, .int .u8 k.toNat)] = some (arrD (k :: List.replicate 19 0)) := by kernel_rfl
end Go.Proofs.YtdgcjjledbnofaaDoor

/-
  Layer 16: the program does what a program that does nothing does not.
-/
namespace Go.Proofs.YtdgcjjledbnofaaDoor
set_option maxRecDepth 20000
open Go.RowKit
set_option linter.unusedVariables false
set_option linter.unusedSimpArgs false

def filW : Fil := ⟨[97], 2, 1 :: List.replicate 19 0⟩
def texW : List UInt8 := [97, 0, 48, 49, 48, 48, 48, 48, 48, 48, 48, 48, 48, 48, 48, 48, 48, 48, 48, 48, 48, 48, 48, 48, 48, 48, 48, 48, 48, 48, 48, 48, 48, 48, 48, 48, 48, 48, 48, 48, 48, 48, 120, 10]
theorem print_filW : printM [filW] = (texW, 0) := by decide +kernel
set_option maxHeartbeats 8000000 in
theorem awake16 (w : World) (tab : QTab w) : Calls Tryd.prog 6 #[] w fun e w' => e = .returned (.bool true) ∧ Below w.heap.size w w' := by
  obtain ⟨A1, hA1⟩ : ∃ A, arrD (1 :: List.replicate 19 0) = A := ⟨_, rfl⟩
  have BI := Lib.hid (show Tryd.prog.built 26 [(0, .int .u8 1)] = some A1 by rw [← hA1]; exact built_id1 1)
  obtain ⟨sA, hsA⟩ : ∃ s : ByteArray, (⟨#[97]⟩ : ByteArray) = s := ⟨_, rfl⟩
  obtain ⟨AF, hAF⟩ : ∃ A, arrF filW = A := ⟨_, rfl⟩
  have BF := Lib.hid (show Tryd.prog.built 28 [(0, .string sA), (1, .int .i64 2), (2, .agg A1)] = some AF by rw [← hsA, ← hA1, ← hAF]; exact built_fil 2 ⟨#[97]⟩ (1 :: List.replicate 19 0) rfl)
  have SF := Lib.hid (show AF.size = rowF.size by rw [← hAF]; exact arrF_size filW rfl)
  have b2 := (Below.refl w.heap.size w).alloc (Nat.le_refl _) (.cells AF rowF.ty)
  have h2 := heap_alloc_new w (.cells AF rowF.ty)
  obtain ⟨w2, hw2⟩ : ∃ w2, w.alloc (.cells AF rowF.ty) = w2 := ⟨_, rfl⟩
  rw [hw2] at b2 h2
  have hat2 : FilesAt w2 (some ⟨w.heap.size, 0, none⟩) [filW] := rowR_one (x := filW) goodF (h2.trans (by rw [← hAF]; rfl))
  have CP := mPrint_is (some ⟨w.heap.size, 0, none⟩) 1 1 [filW] w2 rfl (by unfold maxLen; decide) hat2 (fun f hf => by rw [List.mem_singleton.1 hf]; rfl) (fun f hf => by rw [List.mem_singleton.1 hf]; decide) (tab.below b2)
  rw [print_filW] at CP
  have CP := Lib.hid CP; have B2 := Lib.hid b2; have HSA := Lib.hid hsA; have HW2 := Lib.hid hw2
  clear tab b2 h2 hat2 hA1 hAF hw2
  go_enter Tryd.func6, Tryd.ntmps6
  rw [hsA]
  clear hsA
  go_wp2_with (first
    | (refine wpList_build_one rfl 26 0 _ rfl _ rfl A1 BI.out ?_)
    | (refine wpList_build_three rfl 28 0 1 2 _ _ _ rfl _ _ _ rfl rfl rfl AF BF.out ?_)
    | (with_reducible refine wpList_build_oneR goodF rfl (.tmp 5) rfl AF SF.out rfl ?_; rw [HW2.out])
    | fail)
  refine CP.out.mono ?_
  rintro e w3 ⟨v, rfl, ⟨a, c, rfl, hb, -, -, -⟩, b3⟩
  obtain ⟨bb, oo, rfl, -, hc⟩ := hb (by decide)
  have q0 := hc 0 (by decide)
  have q1 := hc 42 (by decide)
  rw [Nat.add_zero] at q0
  rw [show (texW[0]'(by decide)).toNat = 97 from rfl] at q0
  rw [show (texW[42]'(by decide)).toNat = 120 from rfl] at q1
  have B3 := Lib.hid (B2.out.trans (b3.mono B2.out.size))
  simp only [show texW.length = 44 from rfl]
  clear hc hb b3 CP
  go_wp2
  go_ret
  exact ⟨rfl, B3.out⟩
end Go.Proofs.YtdgcjjledbnofaaDoor
