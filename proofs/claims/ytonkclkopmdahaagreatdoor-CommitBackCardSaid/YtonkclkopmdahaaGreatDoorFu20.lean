/-
  Texts that belong together, one behind the other.
-/
import Derived.Test.YtonkclkopmdahaaGreatDoorFu11
import Derived.Test.YtonkclkopmdahaaGreatDoorFu19
import Derived.Test.YtonkclkopmdahaaGreatDoorFu13
import Derived.Test.YtonkclkopmdahaaGreatDoorFu17
import Derived.Test.YtonkclkopmdahaaGreatDoorFu16
import Derived.Test.YtonkclkopmdahaaGreatDoorFu04
/-
  Layer 9, the document's answers: Print.
-/
namespace Go.Proofs.YtonkclkopmdahaaGreatDoor
set_option maxRecDepth 20000
open Go.RowKit
set_option linter.unusedVariables false
set_option linter.unusedSimpArgs false

theorem head_zero (t : List UInt8) (l : List (List UInt8)) : headB t (l.take 0) = treeW ++ hexL t ++ [10] := by
  unfold headB lineB treeV treeW
  rw [List.take_zero, List.flatMap_nil]
  simp
theorem head_more (t : List UInt8) (l : List (List UInt8)) (k : Nat) (hk : k < l.length) : headB t (l.take (k + 1)) = headB t (l.take k) ++ parentW ++ hexL l[k] ++ [10] := by
  rw [head_snoc t l k hk]
  unfold lineB parentV parentW
  simp
theorem print_ref (t : List UInt8) (l : List (List UInt8)) (a c : Idt) (x : List UInt8) :
    printC hexL (printI Lib.itoa) ⟨t, l, a, c, x⟩ = headB t l ++ authorW ++ printI Lib.itoa a ++ (10 :: committerW) ++ printI Lib.itoa c ++ [10, 10] ++ x := by
  rw [print_way]
  unfold lineB authorV authorW committerV committerW
  simp
set_option maxHeartbeats 16000000 in
theorem rPrint9_is (t : List UInt8) (a1 : Option Addr) (n c1 : Nat) (l : List (List UInt8)) (a c : Idt) (x : List UInt8) (w : World) (tab : T6 w) (ht : t.length = 20) (hit : IdsAt w a1 l) (hn : n = l.length) (hm : n ≤ 1000000) (hnc : n ≤ c1) (sx : x.length ≤ 1000000) (hid : ∀ i ∈ l, i.length = 20)
    (s1 : a.name.length ≤ 1000000) (s2 : a.email.length ≤ 1000000) (s3 : c.name.length ≤ 1000000) (s4 : c.email.length ≤ 1000000) :
    Calls Tryz.prog 11 #[.agg (arrC t (.slice a1 n c1) a c x)] w fun e w' => ∃ v, e = .returned (.tuple #[v, .int .i64 (printR ⟨t, l, a, c, x⟩).2]) ∧ Red w' v (printR ⟨t, l, a, c, x⟩).1 ∧ Below w.heap.size w w' := by
  obtain ⟨A1, hA1⟩ : ∃ A, arrC t (.slice a1 n c1) a c x = A := ⟨_, rfl⟩
  have HA1 := Lib.hid hA1
  have b1 : Below w.heap.size w (w.alloc (.cells A1 28)) := (Below.refl w.heap.size w).alloc (Nat.le_refl _) (.cells A1 28)
  have HX := Lib.hid (heap_alloc_new w (.cells A1 28))
  have r1 : RecAt (w.alloc (.cells A1 28)) w.heap.size t (.slice a1 n c1) a c x := recAt_of (ty := 28) (fr := (0, 0)) ht (by rw [hA1]; exact HX.out)
  have cR := rRight9 t a1 n c1 l a c x _ (tab.keep b1) ht (hit.keep b1) hn hm hnc hid s1 s2 s3 s4 sx
  rw [hA1] at cR
  have I30 := Lib.hid (show (Tryz.prog.info? 28).map (·.size) = some A1.size from infoC_arr A1 (by rw [← hA1]; exact arrC_size _ _ _ _ _ ht))
  have B1 := Lib.hid b1
  cases hr : rightR ⟨t, l, a, c, x⟩ with
  | false =>
    have e0 : printR ⟨t, l, a, c, x⟩ = ([], 4) := by unfold printR; rw [hr]; rfl
    rw [e0]
    rw [hr] at cR
    rw [hA1]
    clear e0 hr r1 b1 hit hn hm hnc hid hA1 tab HA1
    go_enter Tryz.func11, Tryz.ntmps11
    go_wp2_with (first
      | (with_reducible refine wpList_load_all 28 (.tmp 1) rfl (by kernel_rfl) w.heap.size A1 28 (0, 0) rfl HX.out _ Tryz.underlying28 rfl I30.out ?_)
      | fail)
    refine cR.mono ?_
    rintro e w2 ⟨rfl, hb2⟩
    have HB2 := Lib.hid (B1.out.trans (hb2.mono B1.out.size))
    clear hb2
    go_wp2
    go_ret2
    exact ⟨_, rfl, Red.none _, HB2.out⟩
  | true =>
    obtain ⟨-, h16, -, -, -, h32, -⟩ := (rightR_iff _).1 hr
    simp only at h16 h32
    have e0 : printR ⟨t, l, a, c, x⟩ = (headB t l ++ authorW ++ printI Lib.itoa a ++ (10 :: committerW) ++ printI Lib.itoa c ++ [10, 10] ++ x, 0) := by unfold printR; rw [hr, if_pos rfl, print_ref]
    obtain ⟨F, hF⟩ : ∃ F, headB t l ++ authorW ++ printI Lib.itoa a ++ (10 :: committerW) ++ printI Lib.itoa c ++ [10, 10] ++ x = F := ⟨_, rfl⟩
    have HF := Lib.hid hF
    rw [e0, hF]
    rw [hr] at cR
    rw [hA1]
    have hm16 : n ≤ 16 := by omega
    have K := Lib.hid (fun u (hb : Below (w.alloc (.cells A1 28)).heap.size (w.alloc (.cells A1 28)) u) => r1.keep hb)
    have TB := Lib.hid (fun u (hb : Below w.heap.size w u) => tab.keep hb)
    have H16 := Lib.hid (show n ≤ 16 by omega)
    have HIT := Lib.hid hit; have HN := Lib.hid hn; have HID := Lib.hid hid; have HT := Lib.hid ht
    have HL := Lib.hid (fun k (hk : k ≤ 16) => head_len t ht l hid k hk)
    have HS := Lib.hid (fun k hk => head_more t l k hk)
    have HZ := Lib.hid (head_zero t l)
    have LA := Lib.hid (print_len a); have LC := Lib.hid (print_len c)
    have H32 := Lib.hid h32
    have CHX := Lib.hid (fun (i : List UInt8) (hi : i.length = 20) u b o (hb : BAt u (some ⟨b, o, none⟩) i) => rHex_any (some ⟨b, o, none⟩) 20 20 i u hb hi.symm (by omega))
    have CPA := Lib.hid (fun u (hb : Below w.heap.size w u) => rPrint_is a s1 s2 u (tab.keep hb))
    have CPC := Lib.hid (fun u (hb : Below w.heap.size w u) => rPrint_is c s3 s4 u (tab.keep hb))
    have ea : idtV a = .agg (cellsT a).toArray := rfl
    have ec : idtV c = .agg (cellsT c).toArray := rfl
    rw [ea] at CPA
    rw [ec] at CPC
    have LA4 := Lib.hid (show (Tryz.prog.info? 26).map (·.size) = some (cellsT a).length from infoT)
    have LC4 := Lib.hid (show (Tryz.prog.info? 26).map (·.size) = some (cellsT c).length from infoT)
    obtain ⟨z, hz0, hzs, hzv, hzb, hz1⟩ := zId_any
    have HZS := Lib.hid hzs
    clear e0 hF hr r1 b1 hit hn hnc hid hA1 tab HA1 h16 h32 ea ec s1 s2 s3 s4 ht hm hz0 hzs hzb hz1
    go_enter Tryz.func11, Tryz.ntmps11
    go_wp2_with (first
      | (with_reducible refine wpList_load_all 28 (.tmp 1) rfl (by kernel_rfl) w.heap.size A1 28 (0, 0) rfl HX.out _ Tryz.underlying28 rfl I30.out ?_)
      | fail)
    refine cR.mono ?_
    rintro e w2 ⟨rfl, hb2⟩
    have HB2 := Lib.hid hb2
    have R2 := Lib.hid (K.out _ hb2)
    have sl := fun u => slice20_D u w.heap.size 0
    have hlt := hexL_length t
    rw [HT.out] at hlt
    have ad0 := fun u => add_lists (P := Tryz.prog) u treeW (hexL t) (by rw [hlt]; decide)
    have ad1 := fun u => add_lists (P := Tryz.prog) u (treeW ++ hexL t) [10] (by rw [List.length_append, hlt]; decide)
    rw [← HZ.out] at ad1
    rw [show treeW = [116, 114, 101, 101, 32] from rfl] at ad0 ad1
    clear hlt
    have CHT := Lib.hid (CHX.out t HT.out)
    generalize (⟨(hexL t).toArray⟩ : ByteArray) = shx at *
    generalize (⟨([116, 114, 101, 101, 32] ++ hexL t).toArray⟩ : ByteArray) = s1 at *
    clear hb2 cR
    go_wp2_with fail
    refine (CHT.out _ w.heap.size 0 (bat_of_range R2.out.lt R2.out.tree)).mono ?_
    rintro e w3 ⟨rfl, hb3⟩
    have HB3 := Lib.hid (HB2.out.trans (hb3.mono HB2.out.size))
    clear hb3
    go_wp2_with fail
    clear sl ad0 ad1
    go_loopw [4, 5] (fun v4 v5 wr => ∃ k : Nat, k ≤ n ∧ v5 = .int .i64 k ∧ v4 = .string ⟨(headB t (l.take k)).toArray⟩ ∧ Below (w.alloc (.cells A1 28)).heap.size (w.alloc (.cells A1 28)) wr) (fun _ v5 _ => n - (intOf v5).toNat)
    case atStart => exact ⟨0, Nat.zero_le _, rfl, rfl, HB3.out⟩
    case round =>
      obtain ⟨k, hk, rfl, rfl, hbr⟩ := hrel
      have HBR := Lib.hid hbr
      have HBW := Lib.hid (B1.out.trans (hbr.mono B1.out.size))
      have R8 := Lib.hid (K.out _ hbr)
      have p8 := R8.out.parents
      clear hbr
      by_cases hlt : k < n
      · have hkl : k < l.length := by rw [← HN.out]; exact hlt
        obtain ⟨b, o, rfl, hbl, hc⟩ := HIT.out (by omega)
        obtain ⟨y, hy⟩ : ∃ y, l[k] = y := ⟨_, rfl⟩
        have hidy := HID.out y (by rw [← hy]; exact List.getElem_mem _)
        have BY := Lib.hid (bat_of_range (i := y) (w := wr) (b := b) (o := o + k * 20) (Nat.lt_of_lt_of_le hbl HBW.out.size) (fun j v hv => (HBW.out.cell (p := ⟨b, o + k * 20 + j, none⟩) hbl).trans (hc k hkl j v (by rw [hy]; exact hv))))
        have HSY := Lib.hid (show headB t (l.take (k + 1)) = headB t (l.take k) ++ parentW ++ hexL y ++ [10] by rw [HS.out k hkl, hy])
        have CHY := Lib.hid (CHX.out y hidy)
        have h1 := HL.out k (by have := H16.out; omega)
        have h2 := hexL_length y
        rw [hidy] at h2
        rw [show parentW = [112, 97, 114, 101, 110, 116, 32] from rfl] at HSY
        have ad1 := fun u => add_lists (P := Tryz.prog) u (headB t (l.take k)) [112, 97, 114, 101, 110, 116, 32] (by simp only [List.length_append, List.length_cons, List.length_nil]; omega)
        have ad2 := fun u => add_lists (P := Tryz.prog) u (headB t (l.take k) ++ [112, 97, 114, 101, 110, 116, 32]) (hexL y) (by simp only [List.length_append, List.length_cons, List.length_nil]; omega)
        have ad3 := fun u => add_lists (P := Tryz.prog) u (headB t (l.take k) ++ [112, 97, 114, 101, 110, 116, 32] ++ hexL y) [10] (by simp only [List.length_append, List.length_cons, List.length_nil]; omega)
        rw [← HSY.out] at ad3
        have sl := fun u => slice20_D u b (o + k * 20)
        clear hbl hc hy hidy HSY h1 h2
        obtain ⟨sk1, hsk1⟩ : ∃ sk1 : ByteArray, ⟨(headB t (l.take (k + 1))).toArray⟩ = sk1 := ⟨_, rfl⟩
        have HSK1 := Lib.hid hsk1
        rw [hsk1] at ad3
        clear hsk1
        generalize (⟨(headB t (l.take k) ++ [112, 97, 114, 101, 110, 116, 32] ++ hexL y).toArray⟩ : ByteArray) = s2 at *
        generalize (⟨(headB t (l.take k) ++ [112, 97, 114, 101, 110, 116, 32]).toArray⟩ : ByteArray) = s1 at *
        generalize (⟨(headB t (l.take k)).toArray⟩ : ByteArray) = sk at *
        generalize (⟨(hexL y).toArray⟩ : ByteArray) = shy at *
        go_wp2_with fail
        refine (CHY.out _ _ _ BY.out).mono ?_
        rintro e w6 ⟨rfl, hb6⟩
        have HB6 := Lib.hid (HBR.out.trans (hb6.mono HBR.out.size))
        clear hb6
        go_wp2
        go_roundw
        case rel => exact ⟨k + 1, by omega, by go_num, by rw [HSK1.out], HB6.out⟩
        case measure => simp [intOf]; omega
      · obtain rfl : k = n := by omega
        have ht2 : l.take k = l := by rw [HN.out, List.take_length]
        have hl1 := HL.out k H16.out
        rw [ht2] at hl1
        rw [ht2]
        have RA := Lib.hid (fun u (hu : Below wr.heap.size wr u) => (R8.out.keep hu).author)
        have RC := Lib.hid (fun u (hu : Below wr.heap.size wr u) => (R8.out.keep hu).committer)
        have RX := Lib.hid (fun u (hu : Below wr.heap.size wr u) => (R8.out.keep hu).text)
        have CA8 := Lib.hid (fun u (hu : Below wr.heap.size wr u) => CPA.out u (HBW.out.trans (hu.mono HBW.out.size)))
        have CC8 := Lib.hid (fun u (hu : Below wr.heap.size wr u) => CPC.out u (HBW.out.trans (hu.mono HBW.out.size)))
        have la1 := LA.out
        have lc1 := LC.out
        have hF := HF.out
        rw [show authorW = [97, 117, 116, 104, 111, 114, 32] from rfl, show (10 : UInt8) :: committerW = [10, 99, 111, 109, 109, 105, 116, 116, 101, 114, 32] from rfl] at hF
        clear HF
        have hx32 := H32.out
        generalize headB t l = bh at *
        generalize hpa : printI Lib.itoa a = pa at *
        generalize hpc : printI Lib.itoa c = pc at *
        clear hpa hpc
        have ad1 := fun u => add_lists (P := Tryz.prog) u bh [97, 117, 116, 104, 111, 114, 32] (by simp only [List.length_append, List.length_cons, List.length_nil]; omega)
        have ad2 := fun u => add_lists (P := Tryz.prog) u (bh ++ [97, 117, 116, 104, 111, 114, 32]) pa (by simp only [List.length_append, List.length_cons, List.length_nil]; omega)
        have ad3 := fun u => add_lists (P := Tryz.prog) u (bh ++ [97, 117, 116, 104, 111, 114, 32] ++ pa) [10, 99, 111, 109, 109, 105, 116, 116, 101, 114, 32] (by simp only [List.length_append, List.length_cons, List.length_nil]; omega)
        have ad4 := fun u => add_lists (P := Tryz.prog) u (bh ++ [97, 117, 116, 104, 111, 114, 32] ++ pa ++ [10, 99, 111, 109, 109, 105, 116, 116, 101, 114, 32]) pc (by simp only [List.length_append, List.length_cons, List.length_nil]; omega)
        have ad5 := fun u => add_lists (P := Tryz.prog) u (bh ++ [97, 117, 116, 104, 111, 114, 32] ++ pa ++ [10, 99, 111, 109, 109, 105, 116, 116, 101, 114, 32] ++ pc) [10, 10] (by simp only [List.length_append, List.length_cons, List.length_nil]; omega)
        have ad6 := fun u => add_lists (P := Tryz.prog) u (bh ++ [97, 117, 116, 104, 111, 114, 32] ++ pa ++ [10, 99, 111, 109, 109, 105, 116, 116, 101, 114, 32] ++ pc ++ [10, 10]) x (by simp only [List.length_append, List.length_cons, List.length_nil]; omega)
        have hlF : (bh ++ [97, 117, 116, 104, 111, 114, 32] ++ pa ++ [10, 99, 111, 109, 109, 105, 116, 116, 101, 114, 32] ++ pc ++ [10, 10] ++ x).length ≤ 1099511627776 := by simp only [List.length_append, List.length_cons, List.length_nil]; omega
        rw [hF] at ad6 hlF
        have SR := Lib.hid (fun u => str_row u F hlF)
        obtain ⟨lF, hlF2⟩ : ∃ lF, F.length = lF := ⟨_, rfl⟩
        have HLF := Lib.hid hlF2
        rw [hlF2] at SR
        clear hl1 la1 lc1 hx32 hF hlF ht2 hlF2
        generalize (⟨F.toArray⟩ : ByteArray) = sF at *
        generalize (⟨(bh ++ [97, 117, 116, 104, 111, 114, 32] ++ pa ++ [10, 99, 111, 109, 109, 105, 116, 116, 101, 114, 32] ++ pc ++ [10, 10]).toArray⟩ : ByteArray) = s5 at *
        generalize (⟨(bh ++ [97, 117, 116, 104, 111, 114, 32] ++ pa ++ [10, 99, 111, 109, 109, 105, 116, 116, 101, 114, 32] ++ pc).toArray⟩ : ByteArray) = s4 at *
        generalize (⟨(bh ++ [97, 117, 116, 104, 111, 114, 32] ++ pa ++ [10, 99, 111, 109, 109, 105, 116, 116, 101, 114, 32]).toArray⟩ : ByteArray) = s3 at *
        generalize (⟨(bh ++ [97, 117, 116, 104, 111, 114, 32] ++ pa).toArray⟩ : ByteArray) = s2 at *
        generalize (⟨(bh ++ [97, 117, 116, 104, 111, 114, 32]).toArray⟩ : ByteArray) = s1 at *
        generalize (⟨bh.toArray⟩ : ByteArray) = sh at *
        generalize (⟨x.toArray⟩ : ByteArray) = sxx at *
        generalize (⟨pa.toArray⟩ : ByteArray) = spa at *
        generalize (⟨pc.toArray⟩ : ByteArray) = spc at *
        generalize cellsT a = ca at *
        generalize cellsT c = cc at *
        go_wp2_with fail
        refine wp_region_held_drew (S := fun u => Below wr.heap.size wr u) (by kernel_rfl) (Below.refl _ _).drew (fun hHeld => ?_)
        refine wpAnyH_take (i := 0) (v := ?hv0) rfl (by kernel_rfl) (by kernel_rfl) (by kernel_rfl) (fun _ _ _ h => h) (Or.inl ⟨by kernel_rfl, ?hy0⟩) hHeld ?_
        case hy0 => intro u hu; go_simp; try with_reducible rfl
        try simp only [Act.put, List.setIfInBounds_toArray, List.set_cons_zero, List.set_cons_succ]
        refine wpAnyH_take (i := 1) (v := ?hv1) rfl (by kernel_rfl) (by kernel_rfl) (by kernel_rfl) (fun _ _ _ h => h) (Or.inl ⟨by kernel_rfl, ?hy1⟩) hHeld ?_
        case hy1 => intro u hu; go_simp; try with_reducible rfl
        try simp only [Act.put, List.setIfInBounds_toArray, List.set_cons_zero, List.set_cons_succ]
        refine wpAnyH_take (i := 2) (v := ?hv2) rfl (by kernel_rfl) (by kernel_rfl) (by kernel_rfl) (fun _ _ _ h => h) (Or.inl ⟨by kernel_rfl, ?hy2⟩) hHeld ?_
        case hy2 => intro u hu; go_simp; try with_reducible rfl
        try simp only [Act.put, List.setIfInBounds_toArray, List.set_cons_zero, List.set_cons_succ]
        refine wpAnyH_take (i := 3) rfl (by kernel_rfl) (by kernel_rfl) (by kernel_rfl) (fun _ _ _ h => h) (yieldsIf_load_mid (by kernel_rfl) 26 (.tmp 33) (by kernel_rfl) w.heap.size 21 (by kernel_rfl) ca _ (fun u hu => RA.out u hu) Tryz.underlying26 rfl LA4.out) hHeld ?_
        try simp only [Act.put, List.setIfInBounds_toArray, List.set_cons_zero, List.set_cons_succ]
        refine wpAnyH_take (i := 7) (v := ?hv7) rfl (by kernel_rfl) (by kernel_rfl) (by kernel_rfl) (fun _ _ _ h => h) (Or.inl ⟨by kernel_rfl, ?hy7⟩) hHeld ?_
        case hy7 => intro u hu; go_simp; try with_reducible rfl
        try simp only [Act.put, List.setIfInBounds_toArray, List.set_cons_zero, List.set_cons_succ]
        refine wpAnyH_take (i := 8) rfl (by kernel_rfl) (by kernel_rfl) (by kernel_rfl) (fun _ _ _ h => h) (yieldsIf_load_mid (by kernel_rfl) 26 (.tmp 38) (by kernel_rfl) w.heap.size 25 (by kernel_rfl) cc _ (fun u hu => RC.out u hu) Tryz.underlying26 rfl LC4.out) hHeld ?_
        try simp only [Act.put, List.setIfInBounds_toArray, List.set_cons_zero, List.set_cons_succ]
        refine wpAnyH_take (i := 12) (v := ?hv12) rfl (by kernel_rfl) (by kernel_rfl) (by kernel_rfl) (fun _ _ _ h => h) (Or.inl ⟨by kernel_rfl, ?hy12⟩) hHeld ?_
        case hy12 => intro u hu; go_simp; try with_reducible rfl
        try simp only [Act.put, List.setIfInBounds_toArray, List.set_cons_zero, List.set_cons_succ]
        have RXS := fun u (hu : Below wr.heap.size wr u) => RX.out u hu
        refine wpAnyH_take (i := 13) (v := .string sxx) rfl (by kernel_rfl) (by kernel_rfl) (by kernel_rfl) (fun _ _ _ h => h) (Or.inl ⟨by kernel_rfl, ?hy13x⟩) hHeld ?_
        case hy13x => intro u hu; have q := RXS u hu; go_simp
        clear RXS
        try simp only [Act.put, List.setIfInBounds_toArray, List.set_cons_zero, List.set_cons_succ]
        refine wpAnyH_ready (rs := [4]) (by kernel_rfl) (by simp) ?_
        refine AllReadyH.cons rfl (fun K hK => ?_) AllReadyH.nil
        go_simp
        refine (CA8.out _ hHeld).mono ?_
        rintro e u1 ⟨rfl, hI⟩
        have hH := hHeld.trans (hI.mono hHeld.size)
        clear hHeld hI
        refine hK.out _ _ hH (fun hHeld => ?_)
        clear hK K
        try simp only [Act.put, List.setIfInBounds_toArray, List.set_cons_zero, List.set_cons_succ]
        refine wpAnyH_take (i := 5) (v := ?hv5) rfl (by kernel_rfl) (by kernel_rfl) (by kernel_rfl) (fun _ _ _ h => h) (Or.inl ⟨by kernel_rfl, ?hy5⟩) hHeld ?_
        case hy5 => intro u hu; go_simp; try with_reducible rfl
        try simp only [Act.put, List.setIfInBounds_toArray, List.set_cons_zero, List.set_cons_succ]
        refine wpAnyH_take (i := 6) (v := ?hv6) rfl (by kernel_rfl) (by kernel_rfl) (by kernel_rfl) (fun _ _ _ h => h) (Or.inl ⟨by kernel_rfl, ?hy6⟩) hHeld ?_
        case hy6 => intro u hu; go_simp; try with_reducible rfl
        try simp only [Act.put, List.setIfInBounds_toArray, List.set_cons_zero, List.set_cons_succ]
        refine wpAnyH_ready (rs := [9]) (by kernel_rfl) (by simp) ?_
        refine AllReadyH.cons rfl (fun K hK => ?_) AllReadyH.nil
        go_simp
        refine (CC8.out _ hHeld).mono ?_
        rintro e u1 ⟨rfl, hI⟩
        have hH := hHeld.trans (hI.mono hHeld.size)
        clear hHeld hI
        refine hK.out _ _ hH (fun hHeld => ?_)
        clear hK K
        try simp only [Act.put, List.setIfInBounds_toArray, List.set_cons_zero, List.set_cons_succ]
        refine wpAnyH_take (i := 10) (v := ?hv10) rfl (by kernel_rfl) (by kernel_rfl) (by kernel_rfl) (fun _ _ _ h => h) (Or.inl ⟨by kernel_rfl, ?hy10⟩) hHeld ?_
        case hy10 => intro u hu; go_simp; try with_reducible rfl
        try simp only [Act.put, List.setIfInBounds_toArray, List.set_cons_zero, List.set_cons_succ]
        refine wpAnyH_take (i := 11) (v := ?hv11) rfl (by kernel_rfl) (by kernel_rfl) (by kernel_rfl) (fun _ _ _ h => h) (Or.inl ⟨by kernel_rfl, ?hy11⟩) hHeld ?_
        case hy11 => intro u hu; go_simp; try with_reducible rfl
        try simp only [Act.put, List.setIfInBounds_toArray, List.set_cons_zero, List.set_cons_succ]
        refine wpAnyH_take (i := 14) (v := ?hv14) rfl (by kernel_rfl) (by kernel_rfl) (by kernel_rfl) (fun _ _ _ h => h) (Or.inl ⟨by kernel_rfl, ?hy14⟩) hHeld ?_
        case hy14 => intro u hu; go_simp; try with_reducible rfl
        try simp only [Act.put, List.setIfInBounds_toArray, List.set_cons_zero, List.set_cons_succ]
        refine wpAnyH_ready (rs := [15]) (by kernel_rfl) (by simp) ?_
        refine AllReadyH.cons rfl (fun K hK => ?_) AllReadyH.nil
        go_simp
        obtain ⟨cap, w9, hcv, hb9, hr9⟩ := SR.out u1
        rw [hcv]
        simp only [Result.andThen_ok]
        have HR9 := Lib.hid hr9
        have hH := hHeld.trans (hb9.mono hHeld.size)
        clear hHeld hb9 hr9 hcv
        simp only [Oper.upon]
        refine hK.out _ _ hH (fun hHeld => ?_)
        clear hK K
        try simp only [Act.put, List.setIfInBounds_toArray, List.set_cons_zero, List.set_cons_succ]
        refine wpAnyH_take (i := 16) (v := ?hv16) rfl (by kernel_rfl) (by kernel_rfl) (by kernel_rfl) (fun _ _ _ h => h) (Or.inl ⟨by kernel_rfl, ?hy16⟩) hHeld ?_
        case hy16 => intro u hu; go_simp; try with_reducible rfl
        try simp only [Act.put, List.setIfInBounds_toArray, List.set_cons_zero, List.set_cons_succ]
        refine wpAnyH_take (i := 17) (v := ?hv17) rfl (by kernel_rfl) (by kernel_rfl) (by kernel_rfl) (fun _ _ _ h => h) (Or.inl ⟨by kernel_rfl, ?hy17⟩) hHeld ?_
        case hy17 => intro u hu; go_simp; try with_reducible rfl
        try simp only [Act.put, List.getElem_toArray, List.getElem_cons_succ, List.getElem_cons_zero, List.setIfInBounds_toArray, List.set_cons_zero, List.set_cons_succ]
        refine wpAnyH_done (by kernel_rfl) ?_ _
        have HB9 := Lib.hid (HBW.out.trans (hHeld.mono HBW.out.size))
        clear hHeld
        go_wp2
        go_ret2
        exact ⟨_, rfl, red9 HR9.out _ HLF.out.symm, HB9.out⟩
end Go.Proofs.YtonkclkopmdahaaGreatDoor

/-
  Layer 9, the document's answers: Parse.
-/
namespace Go.Proofs.YtonkclkopmdahaaGreatDoor
set_option maxRecDepth 20000
open Go.RowKit
set_option linter.unusedVariables false
set_option linter.unusedSimpArgs false

def strLen9 : Value → Nat
  | .string s => s.size
  | _ => 0
theorem strLen9_string (s : ByteArray) : strLen9 (.string s) = s.size := rfl
theorem lineR_none {s w : List UInt8} (h : lineL s w = none) : lineR s w = ([], s, false) := by unfold lineR; rw [h]
theorem lineR_some {s w x r : List UInt8} (h : lineL s w = some (x, r)) : lineR s w = (x, r, true) := by unfold lineR; rw [h]
/-- A record in a block of its own, all of it. -/
abbrev RcAt (w : World) (g : Nat) (t : List UInt8) (v : Value) (a c : Idt) (x : List UInt8) : Prop := w.heap[g]? = some (.cells (arrC t v a c x) 28 (0, 0))
theorem rc_parents {w : World} {g : Nat} {t : List UInt8} {v v' : Value} {a c : Idt} {x : List UInt8} (h : RcAt w g t v a c x) (ht : t.length = 20) : RcAt (w.setCell ⟨g, 20, none⟩ v') g t v' a c x := by
  have := heap_set h 20 v'
  rwa [put_parents t v v' a c x ht] at this
theorem rc_text {w : World} {g : Nat} {t : List UInt8} {v : Value} {a c : Idt} {x : List UInt8} (h : RcAt w g t v a c x) (ht : t.length = 20) (y : List UInt8) : RcAt (w.setCell ⟨g, 29, none⟩ (.string ⟨y.toArray⟩)) g t v a c y := by
  have := heap_set h 29 (.string ⟨y.toArray⟩)
  rwa [put_text t v a c x y ht] at this
theorem Off.far {g k : Nat} {w w' : World} (h : Off g w w') (hn : g ≠ k) {o : Obj} (ho : w.heap[k]? = some o) : w'.heap[k]? = some o := (h.block k (lt_of_heap ho) (fun e => hn e.symm)).trans ho
theorem ownD_mono2 {B g : Nat} {v : Value} {l : List (List UInt8)} {w w' : World} (h : OwnD B v l w) (ho : Off g w w') (hg : v.ownBlock ≠ some g) : OwnD B v l w' :=
  World.ownsRow.kept (row := some g) h ⟨ho.os, ho.tape, ho.output, ho.size, fun k hk hn => ho.block k hk (fun e => hn (by rw [e]))⟩ (.inr hg)
theorem off_setRow (w : World) (g : Nat) (cs : Array Value) : Off g w (w.setRow g cs) := by
  have b := below_setRow (B := g) (Below.refl g w) (Nat.le_refl _) cs
  refine ⟨b.os, b.tape, b.output, b.size, fun k _ hk => ?_⟩
  have hkg : ¬ g = k := fun e => hk e.symm
  simp [World.setRow, Array.getElem?_modify, hkg]
theorem unD_nil : unD [] = none := by decide
theorem parseR_nil : parseR Lib.itoa takeN [] = none := by rw [← parse_alike]; exact parse_nil
set_option maxHeartbeats 32000000 in
theorem rParse9_is (a : Option Addr) (n cp : Nat) (bs : List UInt8) (w : World) (tab : T6 w) (hn : n = bs.length) (hb : BAt w a bs) (hs : n ≤ 1000000) :
    Calls Tryz.prog 13 #[.slice a n cp] w fun e w' => ∃ A, e = .returned (.tuple #[.agg A, .int .i64 (parsedR bs).2]) ∧ RecRed w' A (parsedR bs).1 ∧ Below w.heap.size w w' := by
  subst hn
  obtain ⟨z, hz0, hzs, hzv, hzb, hz1⟩ := zRec_any
  obtain ⟨y, hy0, hys, hyv, hyb, hy1⟩ := zId_any
  obtain ⟨x4, hx0, hxs, hxv, hxb, hx1⟩ := zIdt_any
  have ZS := Lib.hid hzs; have ZB := Lib.hid hzb; have Z1 := Lib.hid hz1; have Z0 := Lib.hid hz0; have YS := Lib.hid hys; have XS := Lib.hid hxs
  have IZ := Lib.hid (infoC_arr z hzs)
  have hb1 := ((Below.refl w.heap.size w).alloc (Nat.le_refl _) (.cells z 28)).alloc (by simp) (.cells z 28)
  have hg1 := (Below.heap_alloc (w.alloc (.cells z 28)) (.cells z 28) w.heap.size (by simp)).trans (heap_alloc_new w (.cells z 28))
  have hc1 := heap_alloc_new (w.alloc (.cells z 28)) (.cells z 28)
  rw [show (w.alloc (.cells z 28)).heap.size = w.heap.size + 1 by simp] at hc1
  have cv := (hb.keep hb1).conv (P := Tryz.prog) cp 29 5 Tryz.underlying29 Tryz.underlying5 9 Tryz.underlying9
  have TB := Lib.hid (fun (u : World) (hu : Below w.heap.size w u) => tab.keep hu)
  have HS := Lib.hid hs
  obtain ⟨PR, hPR⟩ : ∃ PR, parsedR bs = PR := ⟨_, rfl⟩
  have HQ := Lib.hid (show PR = match parseC unD (parseR Lib.itoa takeN) bs with | none => (rcdZ, 4) | some c => (c, 0) from hPR.symm)
  unfold parseC at HQ
  rw [hPR]
  have c1 := fun u => rline_is bs treeW hs (by decide) u
  clear hz0 hzs hzb hz1 hb1 hb tab hPR hs hy0 hys hyb hy1 hx0 hxs hxb hx1 hg1 hc1
  obtain ⟨SB, hSB⟩ : ∃ SB : ByteArray, ⟨bs.toArray⟩ = SB := ⟨_, rfl⟩
  rw [hSB] at cv c1
  clear hSB
  cases hl1 : lineL bs treeW with
  | none =>
    rw [lineR_none hl1, show treeW = [116, 114, 101, 101, 32] from rfl] at c1
    rw [hl1] at HQ
    simp only at c1
    have NONE := Lib.hid (show PR = (rcdZ, 4) from HQ.out)
    have C2 := Lib.hid (fun u => (show Calls Tryz.prog 28 #[.string ⟨([] : List UInt8).toArray⟩] u fun e u' => e = .returned (.tuple #[.agg (arrD idZ), .int .i64 4]) ∧ Below u.heap.size u u' from (rId_all [] (by decide) u).mono (fun e u' h => ⟨h.1.trans (by rw [idR_none unD_nil]; rfl), h.2⟩)))
    obtain ⟨Y, hY⟩ : ∃ Y, arrD idZ = Y := ⟨_, rfl⟩
    have HYS := Lib.hid (show Y.size = 20 by rw [← hY]; exact arrD_size _ rfl)
    have HY1 := Lib.hid (show Y.all (·.oneCell') = true by rw [← hY]; exact arrD_one _)
    have IY := Lib.hid (show (Tryz.prog.info? 23).map (·.size) = some Y.size by rw [HYS.out]; exact infoD_n)
    have HY := Lib.hid hY
    rw [hY] at C2
    clear hY
    clear hl1
    go_enter Tryz.func13, Tryz.ntmps13
    go_wp2_with fail
    have hb1 := ((Below.refl w.heap.size w).alloc (Nat.le_refl _) (.cells z 28)).alloc (by simp) (.cells z 28)
    have hg1 := (Below.heap_alloc (w.alloc (.cells z 28)) (.cells z 28) w.heap.size (by simp)).trans (heap_alloc_new w (.cells z 28))
    have hc1 := heap_alloc_new (w.alloc (.cells z 28)) (.cells z 28)
    rw [show (w.alloc (.cells z 28)).heap.size = w.heap.size + 1 by simp] at hc1
    generalize hwa : (w.alloc (.cells z 28)).alloc (.cells z 28) = wa at *
    have BA := Lib.hid hb1
    have GA := Lib.hid hg1
    have CA := Lib.hid (show RcAt wa (w.heap.size + 1) idZ (.slice none 0 0) zT zT [] from by unfold RcAt; rw [show arrC idZ (.slice none 0 0) zT zT [] = z from Z0.out.symm]; exact hc1)
    clear hb1 hg1 hc1 hwa cv
    refine (c1 _).mono ?_
    rintro e wb ⟨rfl, hbb⟩
    have BB := Lib.hid (BA.out.trans (hbb.mono BA.out.size))
    have GB := Lib.hid (heap_keep GA.out hbb)
    have CB := Lib.hid (heap_keep CA.out hbb)
    clear hbb
    go_wp2_with fail
    refine (C2.out _).mono ?_
    rintro e wc ⟨rfl, hbc⟩
    have BC := Lib.hid (BB.out.trans (hbc.mono BB.out.size))
    have GC := Lib.hid (heap_keep GB.out hbc)
    have CC := Lib.hid (heap_keep CB.out hbc)
    clear hbc
    have LT8 := Lib.hid (show w.heap.size + 1 < wc.heap.size from lt_of_heap CC.out)
    go_wp2_with (first
      | (with_reducible refine wpList_store_all rfl 23 (.tmp 8) (.tmp 21) rfl wc.heap.size Y rfl rfl 23 y (heap_alloc_new wc _) IY.out (HYS.out.trans YS.out.symm) HY1.out ?_)
      | fail)
    intro wc2 hn hon hsn
    have hbn := ((Below.refl wc.heap.size wc).alloc (Nat.le_refl _) (.cells y 23)).trans (hon.below (Nat.le_refl _) (by simp))
    have KD := Lib.hid hn
    have BD := Lib.hid (BC.out.trans (hbn.mono BC.out.size))
    have GD := Lib.hid (heap_keep GC.out hbn)
    have CD := Lib.hid (heap_keep CC.out hbn)
    clear hbn
    clear hn hon hsn
    go_wp2_with (first
      | (refine wpList_build_none rfl 28 rfl _ ZB.out ?_)
      | (with_reducible refine wpList_store_all rfl 28 (.tmp 2) (.tmp 29) rfl w.heap.size z rfl rfl 28 z GD.out IZ.out rfl Z1.out ?_)
      | fail)
    intro wz hgz hoz hsz
    have BZ := Lib.hid (BD.out.trans (hoz.below (B := w.heap.size) (Nat.le_refl _) BD.out.size))
    have GZ := Lib.hid hgz
    clear hgz hoz hsz
    obtain rfl := NONE.out
    go_wp2
    exact bodyPost_ret (results_rec Tryz.results13 _ _ w.heap.size z (0, 0) _ rfl rfl GZ.out ZS.out) rfl ⟨_, rfl, by rw [Z0.out]; exact recRed_zero _, BZ.out⟩
  | some y1 =>
    obtain ⟨x1, r1⟩ := y1
    have hll := line_len hl1
    rw [lineR_some hl1, show treeW = [116, 114, 101, 101, 32] from rfl] at c1
    rw [hl1] at HQ
    dsimp only at HQ
    simp only at c1
    have HR1 := Lib.hid (show r1.length ≤ bs.length by omega)
    have hx1 : x1.length ≤ 1000000 := by have := HS.out; omega
    cases hu1 : unD x1 with
    | none =>
      rw [hu1] at HQ
      have NONE := Lib.hid (show PR = (rcdZ, 4) from HQ.out)
      have C2 := Lib.hid (fun u => (show Calls Tryz.prog 28 #[.string ⟨(x1 : List UInt8).toArray⟩] u fun e u' => e = .returned (.tuple #[.agg (arrD idZ), .int .i64 4]) ∧ Below u.heap.size u u' from (rId_all x1 (hx1) u).mono (fun e u' h => ⟨h.1.trans (by rw [idR_none hu1]; rfl), h.2⟩)))
      obtain ⟨Y, hY⟩ : ∃ Y, arrD idZ = Y := ⟨_, rfl⟩
      have HYS := Lib.hid (show Y.size = 20 by rw [← hY]; exact arrD_size _ rfl)
      have HY1 := Lib.hid (show Y.all (·.oneCell') = true by rw [← hY]; exact arrD_one _)
      have IY := Lib.hid (show (Tryz.prog.info? 23).map (·.size) = some Y.size by rw [HYS.out]; exact infoD_n)
      have HY := Lib.hid hY
      rw [hY] at C2
      clear hY
      clear hl1 hll hx1 hu1
      generalize (⟨x1.toArray⟩ : ByteArray) = sx1 at *
      generalize (⟨r1.toArray⟩ : ByteArray) = sr1 at *
      go_enter Tryz.func13, Tryz.ntmps13
      go_wp2_with fail
      have hb1 := ((Below.refl w.heap.size w).alloc (Nat.le_refl _) (.cells z 28)).alloc (by simp) (.cells z 28)
      have hg1 := (Below.heap_alloc (w.alloc (.cells z 28)) (.cells z 28) w.heap.size (by simp)).trans (heap_alloc_new w (.cells z 28))
      have hc1 := heap_alloc_new (w.alloc (.cells z 28)) (.cells z 28)
      rw [show (w.alloc (.cells z 28)).heap.size = w.heap.size + 1 by simp] at hc1
      generalize hwa : (w.alloc (.cells z 28)).alloc (.cells z 28) = wa at *
      have BA := Lib.hid hb1
      have GA := Lib.hid hg1
      have CA := Lib.hid (show RcAt wa (w.heap.size + 1) idZ (.slice none 0 0) zT zT [] from by unfold RcAt; rw [show arrC idZ (.slice none 0 0) zT zT [] = z from Z0.out.symm]; exact hc1)
      clear hb1 hg1 hc1 hwa cv
      refine (c1 _).mono ?_
      rintro e wb ⟨rfl, hbb⟩
      have BB := Lib.hid (BA.out.trans (hbb.mono BA.out.size))
      have GB := Lib.hid (heap_keep GA.out hbb)
      have CB := Lib.hid (heap_keep CA.out hbb)
      clear hbb
      go_wp2_with fail
      refine (C2.out _).mono ?_
      rintro e wc ⟨rfl, hbc⟩
      have BC := Lib.hid (BB.out.trans (hbc.mono BB.out.size))
      have GC := Lib.hid (heap_keep GB.out hbc)
      have CC := Lib.hid (heap_keep CB.out hbc)
      clear hbc
      have LT8 := Lib.hid (show w.heap.size + 1 < wc.heap.size from lt_of_heap CC.out)
      go_wp2_with (first
        | (with_reducible refine wpList_store_all rfl 23 (.tmp 8) (.tmp 21) rfl wc.heap.size Y rfl rfl 23 y (heap_alloc_new wc _) IY.out (HYS.out.trans YS.out.symm) HY1.out ?_)
        | fail)
      intro wc2 hn hon hsn
      have hbn := ((Below.refl wc.heap.size wc).alloc (Nat.le_refl _) (.cells y 23)).trans (hon.below (Nat.le_refl _) (by simp))
      have KD := Lib.hid hn
      have BD := Lib.hid (BC.out.trans (hbn.mono BC.out.size))
      have GD := Lib.hid (heap_keep GC.out hbn)
      have CD := Lib.hid (heap_keep CC.out hbn)
      clear hbn
      clear hn hon hsn
      go_wp2_with (first
        | (refine wpList_build_none rfl 28 rfl _ ZB.out ?_)
        | (with_reducible refine wpList_store_all rfl 28 (.tmp 2) (.tmp 29) rfl w.heap.size z rfl rfl 28 z GD.out IZ.out rfl Z1.out ?_)
        | fail)
      intro wz hgz hoz hsz
      have BZ := Lib.hid (BD.out.trans (hoz.below (B := w.heap.size) (Nat.le_refl _) BD.out.size))
      have GZ := Lib.hid hgz
      clear hgz hoz hsz
      obtain rfl := NONE.out
      go_wp2
      exact bodyPost_ret (results_rec Tryz.results13 _ _ w.heap.size z (0, 0) _ rfl rfl GZ.out ZS.out) rfl ⟨_, rfl, by rw [Z0.out]; exact recRed_zero _, BZ.out⟩
    | some t =>
      rw [hu1] at HQ
      have HT := Lib.hid (un_len hu1)
      have HQ2 := Lib.hid (show PR = match (match parsL unD 16 r1 with | none => none | some (ps, q) => match whoL (parseR Lib.itoa takeN) q with | none => none | some (a, c, tx) => if rightR ⟨t, ps, a, c, tx⟩ = true then some ⟨t, ps, a, c, tx⟩ else none : Option Rcd) with | none => (rcdZ, 4) | some c => (c, 0) from HQ.out)
      clear HQ
      obtain ⟨PL, hPL⟩ : ∃ PL, parsL unD 16 r1 = PL := ⟨_, rfl⟩
      rw [hPL] at HQ2
      have HP0 := Lib.hid (show parsK unD [] 16 r1 = PL by rw [parsK_nil, hPL])
      clear hPL
      have C2 := Lib.hid (fun u => (show Calls Tryz.prog 28 #[.string ⟨(x1 : List UInt8).toArray⟩] u fun e u' => e = .returned (.tuple #[.agg (arrD t), .int .i64 0]) ∧ Below u.heap.size u u' from (rId_all x1 (hx1) u).mono (fun e u' h => ⟨h.1.trans (by rw [idR_some hu1]; rfl), h.2⟩)))
      obtain ⟨Y, hY⟩ : ∃ Y, arrD t = Y := ⟨_, rfl⟩
      have HYS := Lib.hid (show Y.size = 20 by rw [← hY]; exact arrD_size _ HT.out)
      have HY1 := Lib.hid (show Y.all (·.oneCell') = true by rw [← hY]; exact arrD_one _)
      have IY := Lib.hid (show (Tryz.prog.info? 23).map (·.size) = some Y.size by rw [HYS.out]; exact infoD_n)
      have HY := Lib.hid hY
      rw [hY] at C2
      clear hY
      clear hl1 hll hx1 hu1
      generalize (⟨x1.toArray⟩ : ByteArray) = sx1 at *
      go_enter Tryz.func13, Tryz.ntmps13
      go_wp2_with fail
      have hb1 := ((Below.refl w.heap.size w).alloc (Nat.le_refl _) (.cells z 28)).alloc (by simp) (.cells z 28)
      have hg1 := (Below.heap_alloc (w.alloc (.cells z 28)) (.cells z 28) w.heap.size (by simp)).trans (heap_alloc_new w (.cells z 28))
      have hc1 := heap_alloc_new (w.alloc (.cells z 28)) (.cells z 28)
      rw [show (w.alloc (.cells z 28)).heap.size = w.heap.size + 1 by simp] at hc1
      generalize hwa : (w.alloc (.cells z 28)).alloc (.cells z 28) = wa at *
      have BA := Lib.hid hb1
      have GA := Lib.hid hg1
      have CA := Lib.hid (show RcAt wa (w.heap.size + 1) idZ (.slice none 0 0) zT zT [] from by unfold RcAt; rw [show arrC idZ (.slice none 0 0) zT zT [] = z from Z0.out.symm]; exact hc1)
      clear hb1 hg1 hc1 hwa cv
      refine (c1 _).mono ?_
      rintro e wb ⟨rfl, hbb⟩
      have BB := Lib.hid (BA.out.trans (hbb.mono BA.out.size))
      have GB := Lib.hid (heap_keep GA.out hbb)
      have CB := Lib.hid (heap_keep CA.out hbb)
      clear hbb
      go_wp2_with fail
      refine (C2.out _).mono ?_
      rintro e wc ⟨rfl, hbc⟩
      have BC := Lib.hid (BB.out.trans (hbc.mono BB.out.size))
      have GC := Lib.hid (heap_keep GB.out hbc)
      have CC := Lib.hid (heap_keep CB.out hbc)
      clear hbc
      have LT8 := Lib.hid (show w.heap.size + 1 < wc.heap.size from lt_of_heap CC.out)
      go_wp2_with (first
        | (with_reducible refine wpList_store_all rfl 23 (.tmp 8) (.tmp 21) rfl wc.heap.size Y rfl rfl 23 y (heap_alloc_new wc _) IY.out (HYS.out.trans YS.out.symm) HY1.out ?_)
        | fail)
      intro wc2 hn hon hsn
      have hbn := ((Below.refl wc.heap.size wc).alloc (Nat.le_refl _) (.cells y 23)).trans (hon.below (Nat.le_refl _) (by simp))
      have KD := Lib.hid hn
      have BD := Lib.hid (BC.out.trans (hbn.mono BC.out.size))
      have GD := Lib.hid (heap_keep GC.out hbn)
      have CD := Lib.hid (heap_keep CC.out hbn)
      clear hbn
      clear hn hon hsn
      go_wp2_with (first
        | (with_reducible refine wpList_load_all 23 (.tmp 8) rfl (by kernel_rfl) wc.heap.size Y 23 (0, 0) rfl KD.out _ Tryz.underlying23 rfl IY.out ?_)
        | (with_reducible refine wpList_store_any rfl 23 (.tmp 31) (.tmp 30) rfl (w.heap.size + 1) 0 Y rfl rfl 28 (arrC idZ (.slice none 0 0) zT zT []) CD.out IY.out (by rw [HYS.out, arrC_size _ _ _ _ _ rfl]; decide) HY1.out ?_)
        | fail)
      intro we hge hoe hse
      have BE := Lib.hid (BD.out.trans (hoe.below (B := w.heap.size) (Nat.le_succ _) BD.out.size))
      have GE := Lib.hid (hoe.far (Nat.ne_of_gt (Nat.lt_succ_self _)) GD.out)
      have KE := Lib.hid (hoe.far (Nat.ne_of_lt LT8.out) KD.out)
      have CE := Lib.hid (show RcAt we (w.heap.size + 1) t (.slice none 0 0) zT zT [] from by
        have e := put_tree idZ t (.slice none 0 0) zT zT [] rfl HT.out
        rw [HY.out, List.take_zero, List.nil_append, Nat.zero_add] at e
        unfold RcAt; rw [← e]; exact hge)
      have LTE := Lib.hid (show wc.heap.size < we.heap.size from lt_of_heap KE.out)
      clear hge hoe hse C2
      go_wp2_with fail
      go_loopw [6] (fun v6 wr => ∃ (ps : List (List UInt8)) (r : List UInt8) (pv : Value) (Y8 : Array Value), v6 = .string ⟨r.toArray⟩ ∧ RcAt wr (w.heap.size + 1) t pv zT zT [] ∧ OwnD we.heap.size pv ps wr ∧ ps.length ≤ 16 ∧ (∀ p ∈ ps, p.length = 20) ∧ r.length ≤ bs.length ∧ parsK unD ps (16 - ps.length) r = PL ∧ wr.heap[wc.heap.size]? = some (.cells Y8 23 (0, 0)) ∧ Y8.size = 20 ∧ wr.heap[w.heap.size]? = some (.cells z 28 (0, 0)) ∧ Below w.heap.size w wr ∧ we.heap.size ≤ wr.heap.size) (fun v6 _ => strLen9 v6)
      case atStart => exact ⟨[], r1, _, Y, rfl, CE.out, ownD_nil _ _, by decide, (fun p hp => by cases hp), HR1.out, HP0.out, KE.out, HYS.out, GE.out, BE.out, Nat.le_refl _⟩
      case round =>
        obtain ⟨ps, r, pv, Y8, rfl, hc, hown, h16, hpi, hrl, hpk, hk8, hy8, hg, hbr, hse⟩ := hrel
        have CR := Lib.hid hc; have OWR := Lib.hid hown; have H16 := Lib.hid h16; have HPI := Lib.hid hpi; have HRL := Lib.hid hrl; have HPK := Lib.hid hpk; have KR := Lib.hid hk8; have HY8 := Lib.hid hy8; have GR := Lib.hid hg; have BR := Lib.hid hbr; have SR := Lib.hid hse
        clear hc hown h16 hpi hrl hpk hk8 hy8 hg hbr hse
        have MS := Lib.hid (show strLen9 (.string ⟨r.toArray⟩) = r.length by rw [strLen9_string, size_toArray])
        have hr6 : r.length ≤ 1000000 := by have := HRL.out; have := HS.out; omega
        have c3 := rline_is r parentW hr6 (by decide) wr
        cases hl : lineL r parentW with
        | some y3 =>
          obtain ⟨x3, r3⟩ := y3
          have hll := line_len hl
          rw [lineR_some hl, show parentW = [112, 97, 114, 101, 110, 116, 32] from rfl] at c3
          simp only at c3
          have hx3 : x3.length ≤ 1000000 := by omega
          have MS3 := Lib.hid (show r3.length < r.length by omega)
          have HR3 := Lib.hid (show r3.length ≤ bs.length by have := HRL.out; omega)
          obtain ⟨pa, pcap, hpv, hcap, hcm, hids, hnil⟩ := ownD_ids OWR.out HPI.out
          have HPV := Lib.hid hpv
          clear hcap hcm hids hnil
          obtain ⟨pn, hpn⟩ : ∃ pn, ps.length = pn := ⟨_, rfl⟩
          have HPN := Lib.hid hpn
          rw [hpn] at hpv
          have H16n : pn ≤ 16 := by rw [← hpn]; exact H16.out
          subst hpv
          clear hpn
          cases hu3 : unD x3 with
          | none =>
            have NONE := Lib.hid (show PR = (rcdZ, 4) by rw [HQ2.out, ← HPK.out, parsK_bad hl hu3])
            have C2 := Lib.hid (fun u => (show Calls Tryz.prog 28 #[.string ⟨(x3 : List UInt8).toArray⟩] u fun e u' => e = .returned (.tuple #[.agg (arrD idZ), .int .i64 4]) ∧ Below u.heap.size u u' from (rId_all x3 (hx3) u).mono (fun e u' h => ⟨h.1.trans (by rw [idR_none hu3]; rfl), h.2⟩)))
            obtain ⟨Y, hY⟩ : ∃ Y, arrD idZ = Y := ⟨_, rfl⟩
            have HYS := Lib.hid (show Y.size = 20 by rw [← hY]; exact arrD_size _ rfl)
            have HY1 := Lib.hid (show Y.all (·.oneCell') = true by rw [← hY]; exact arrD_one _)
            have IY := Lib.hid (show (Tryz.prog.info? 23).map (·.size) = some Y.size by rw [HYS.out]; exact infoD_n)
            have HY := Lib.hid hY
            rw [hY] at C2
            clear hY
            clear hu3 hx3 hll
            clear hl hr6
            generalize (⟨x3.toArray⟩ : ByteArray) = sx3 at *
            generalize (⟨r.toArray⟩ : ByteArray) = sr at *
            go_wp2_with fail
            refine c3.mono ?_
            rintro e wg ⟨rfl, hbg⟩
            have BG := Lib.hid (BR.out.trans (hbg.mono BR.out.size))
            have GG := Lib.hid (heap_keep GR.out hbg)
            have CG := Lib.hid (heap_keep CR.out hbg)
            have KG := Lib.hid (heap_keep KR.out hbg)
            have OWG := Lib.hid (ownD_below OWR.out hbg)
            have SG := Lib.hid (Nat.le_trans SR.out hbg.size)
            clear hbg
            go_wp2_with fail
            refine (C2.out _).mono ?_
            rintro e wh ⟨rfl, hbh⟩
            have BH := Lib.hid (BG.out.trans (hbh.mono BG.out.size))
            have GH := Lib.hid (heap_keep GG.out hbh)
            have CH := Lib.hid (heap_keep CG.out hbh)
            have KH := Lib.hid (heap_keep KG.out hbh)
            have OWH := Lib.hid (ownD_below OWG.out hbh)
            have SH := Lib.hid (Nat.le_trans SG.out hbh.size)
            clear hbh
            go_wp2_with (first
              | (with_reducible refine wpList_store_all rfl 23 (.tmp 8) (.tmp 43) rfl wc.heap.size Y rfl rfl 23 Y8 KH.out IY.out (HYS.out.trans HY8.out.symm) HY1.out ?_)
              | fail)
            intro wi hgi hoi hsi
            have BI := Lib.hid (BH.out.trans (hoi.below (B := w.heap.size) (Nat.le_of_lt (Nat.lt_trans (Nat.lt_succ_self _) LT8.out)) BH.out.size))
            have GI := Lib.hid (hoi.far (Nat.ne_of_gt (Nat.lt_trans (Nat.lt_succ_self _) LT8.out)) GH.out)
            have CI := Lib.hid (hoi.far (Nat.ne_of_gt LT8.out) CH.out)
            have OWI := Lib.hid (ownD_off OWH.out hoi LTE.out)
            have SI := Lib.hid (Nat.le_trans SH.out hoi.size)
            have KI := Lib.hid hgi
            clear hgi hoi hsi C2
            have p20 : wi.cell? ⟨w.heap.size + 1, 20, none⟩ = some (.slice pa pn pcap) := (recAt_of HT.out (show RcAt wi (w.heap.size + 1) t (.slice pa pn pcap) zT zT [] from CI.out)).parents
            go_wp2_with (first
              | (refine wpList_build_none rfl 28 rfl _ ZB.out ?_)
              | (with_reducible refine wpList_store_all rfl 28 (.tmp 2) (.tmp 53) rfl w.heap.size z rfl rfl 28 z GI.out IZ.out rfl Z1.out ?_)
              | fail)
            intro wz hgz hoz hsz
            have BZ := Lib.hid (BI.out.trans (hoz.below (B := w.heap.size) (Nat.le_refl _) BI.out.size))
            have GZ := Lib.hid hgz
            clear hgz hoz hsz
            obtain rfl := NONE.out
            go_wp2
            exact bodyPost_ret (results_rec Tryz.results13 _ _ w.heap.size z (0, 0) _ rfl rfl GZ.out ZS.out) rfl ⟨_, rfl, by rw [Z0.out]; exact recRed_zero _, BZ.out⟩
          | some p =>
            have HP20 := Lib.hid (un_len hu3)
            have C2 := Lib.hid (fun u => (show Calls Tryz.prog 28 #[.string ⟨(x3 : List UInt8).toArray⟩] u fun e u' => e = .returned (.tuple #[.agg (arrD p), .int .i64 0]) ∧ Below u.heap.size u u' from (rId_all x3 (hx3) u).mono (fun e u' h => ⟨h.1.trans (by rw [idR_some hu3]; rfl), h.2⟩)))
            obtain ⟨Y, hY⟩ : ∃ Y, arrD p = Y := ⟨_, rfl⟩
            have HYS := Lib.hid (show Y.size = 20 by rw [← hY]; exact arrD_size _ HP20.out)
            have HY1 := Lib.hid (show Y.all (·.oneCell') = true by rw [← hY]; exact arrD_one _)
            have IY := Lib.hid (show (Tryz.prog.info? 23).map (·.size) = some Y.size by rw [HYS.out]; exact infoD_n)
            have HY := Lib.hid hY
            rw [hY] at C2
            clear hY
            by_cases hfull : pn = 16
            · have NONE := Lib.hid (show PR = (rcdZ, 4) by rw [HQ2.out, ← HPK.out, HPN.out, hfull, parsK_full hl])
              have g16 : decide ((pn : Int) ≥ 16) = true := decide_eq_true (by omega)
              have g16b : (16 : Int) ≤ (pn : Int) := by omega
              clear hu3 hx3 hll hfull H16n
              clear hl hr6
              generalize (⟨x3.toArray⟩ : ByteArray) = sx3 at *
              generalize (⟨r.toArray⟩ : ByteArray) = sr at *
              go_wp2_with fail
              refine c3.mono ?_
              rintro e wg ⟨rfl, hbg⟩
              have BG := Lib.hid (BR.out.trans (hbg.mono BR.out.size))
              have GG := Lib.hid (heap_keep GR.out hbg)
              have CG := Lib.hid (heap_keep CR.out hbg)
              have KG := Lib.hid (heap_keep KR.out hbg)
              have OWG := Lib.hid (ownD_below OWR.out hbg)
              have SG := Lib.hid (Nat.le_trans SR.out hbg.size)
              clear hbg
              go_wp2_with fail
              refine (C2.out _).mono ?_
              rintro e wh ⟨rfl, hbh⟩
              have BH := Lib.hid (BG.out.trans (hbh.mono BG.out.size))
              have GH := Lib.hid (heap_keep GG.out hbh)
              have CH := Lib.hid (heap_keep CG.out hbh)
              have KH := Lib.hid (heap_keep KG.out hbh)
              have OWH := Lib.hid (ownD_below OWG.out hbh)
              have SH := Lib.hid (Nat.le_trans SG.out hbh.size)
              clear hbh
              go_wp2_with (first
                | (with_reducible refine wpList_store_all rfl 23 (.tmp 8) (.tmp 43) rfl wc.heap.size Y rfl rfl 23 Y8 KH.out IY.out (HYS.out.trans HY8.out.symm) HY1.out ?_)
                | fail)
              intro wi hgi hoi hsi
              have BI := Lib.hid (BH.out.trans (hoi.below (B := w.heap.size) (Nat.le_of_lt (Nat.lt_trans (Nat.lt_succ_self _) LT8.out)) BH.out.size))
              have GI := Lib.hid (hoi.far (Nat.ne_of_gt (Nat.lt_trans (Nat.lt_succ_self _) LT8.out)) GH.out)
              have CI := Lib.hid (hoi.far (Nat.ne_of_gt LT8.out) CH.out)
              have OWI := Lib.hid (ownD_off OWH.out hoi LTE.out)
              have SI := Lib.hid (Nat.le_trans SH.out hoi.size)
              have KI := Lib.hid hgi
              clear hgi hoi hsi C2
              have p20 : wi.cell? ⟨w.heap.size + 1, 20, none⟩ = some (.slice pa pn pcap) := (recAt_of HT.out (show RcAt wi (w.heap.size + 1) t (.slice pa pn pcap) zT zT [] from CI.out)).parents
              go_wp2_with (first
                | (refine wpList_build_none rfl 28 rfl _ ZB.out ?_)
                | (with_reducible refine wpList_store_all rfl 28 (.tmp 2) (.tmp 53) rfl w.heap.size z rfl rfl 28 z GI.out IZ.out rfl Z1.out ?_)
                | fail)
              intro wz hgz hoz hsz
              have BZ := Lib.hid (BI.out.trans (hoz.below (B := w.heap.size) (Nat.le_refl _) BI.out.size))
              have GZ := Lib.hid hgz
              clear hgz hoz hsz
              obtain rfl := NONE.out
              go_wp2
              exact bodyPost_ret (results_rec Tryz.results13 _ _ w.heap.size z (0, 0) _ rfl rfl GZ.out ZS.out) rfl ⟨_, rfl, by rw [Z0.out]; exact recRed_zero _, BZ.out⟩
            · have g16 : decide ((pn : Int) ≥ 16) = false := decide_eq_false (by omega)
              have g16b : decide ((16 : Int) ≤ (pn : Int)) = false := decide_eq_false (by omega)
              have g16c : ¬ (pn : Int) ≥ 16 := by omega
              have HNX := Lib.hid (show parsK unD (ps ++ [p]) (16 - (ps ++ [p]).length) r3 = PL by rw [← HPK.out, show 16 - ps.length = (16 - (ps ++ [p]).length) + 1 by (rw [List.length_append, HPN.out]; simp only [List.length_cons, List.length_nil]; omega)]; exact (parsK_next hl hu3 ps _).symm)
              have HL2 := Lib.hid (show (ps ++ [p]).length ≤ 16 by rw [List.length_append, HPN.out]; simp only [List.length_cons, List.length_nil]; omega)
              have HPI2 := Lib.hid (show ∀ q ∈ ps ++ [p], q.length = 20 from fun q hq => by
                rcases List.mem_append.1 hq with hq | hq
                · exact HPI.out q hq
                · rw [List.mem_singleton.1 hq]; exact HP20.out)
              clear hu3 hx3 hll hfull
              clear hl hr6
              generalize (⟨x3.toArray⟩ : ByteArray) = sx3 at *
              generalize (⟨r.toArray⟩ : ByteArray) = sr at *
              go_wp2_with fail
              refine c3.mono ?_
              rintro e wg ⟨rfl, hbg⟩
              have BG := Lib.hid (BR.out.trans (hbg.mono BR.out.size))
              have GG := Lib.hid (heap_keep GR.out hbg)
              have CG := Lib.hid (heap_keep CR.out hbg)
              have KG := Lib.hid (heap_keep KR.out hbg)
              have OWG := Lib.hid (ownD_below OWR.out hbg)
              have SG := Lib.hid (Nat.le_trans SR.out hbg.size)
              clear hbg
              go_wp2_with fail
              refine (C2.out _).mono ?_
              rintro e wh ⟨rfl, hbh⟩
              have BH := Lib.hid (BG.out.trans (hbh.mono BG.out.size))
              have GH := Lib.hid (heap_keep GG.out hbh)
              have CH := Lib.hid (heap_keep CG.out hbh)
              have KH := Lib.hid (heap_keep KG.out hbh)
              have OWH := Lib.hid (ownD_below OWG.out hbh)
              have SH := Lib.hid (Nat.le_trans SG.out hbh.size)
              clear hbh
              go_wp2_with (first
                | (with_reducible refine wpList_store_all rfl 23 (.tmp 8) (.tmp 43) rfl wc.heap.size Y rfl rfl 23 Y8 KH.out IY.out (HYS.out.trans HY8.out.symm) HY1.out ?_)
                | fail)
              intro wi hgi hoi hsi
              have BI := Lib.hid (BH.out.trans (hoi.below (B := w.heap.size) (Nat.le_of_lt (Nat.lt_trans (Nat.lt_succ_self _) LT8.out)) BH.out.size))
              have GI := Lib.hid (hoi.far (Nat.ne_of_gt (Nat.lt_trans (Nat.lt_succ_self _) LT8.out)) GH.out)
              have CI := Lib.hid (hoi.far (Nat.ne_of_gt LT8.out) CH.out)
              have OWI := Lib.hid (ownD_off OWH.out hoi LTE.out)
              have SI := Lib.hid (Nat.le_trans SH.out hoi.size)
              have KI := Lib.hid hgi
              clear hgi hoi hsi C2
              have p20 : wi.cell? ⟨w.heap.size + 1, 20, none⟩ = some (.slice pa pn pcap) := (recAt_of HT.out (show RcAt wi (w.heap.size + 1) t (.slice pa pn pcap) zT zT [] from CI.out)).parents
              have hb5 := (Below.refl wi.heap.size wi).alloc (Nat.le_refl _) (.cells Y 23)
              have BJ := Lib.hid (BI.out.trans (hb5.mono BI.out.size))
              have GJ := Lib.hid (heap_keep GI.out hb5)
              have CJ := Lib.hid (heap_keep CI.out hb5)
              have KJ := Lib.hid (heap_keep KI.out hb5)
              have OWJ := Lib.hid (ownD_below OWI.out hb5)
              have SJ := Lib.hid (Nat.le_trans SI.out hb5.size)
              clear hb5
              go_wp2_with (first
                | (with_reducible refine wpList_load_all 23 (.tmp 8) rfl (by kernel_rfl) wc.heap.size Y 23 (0, 0) rfl KI.out _ Tryz.underlying23 rfl IY.out ?_)
                | (with_reducible refine wpList_build_idD rfl (.tmp 56) rfl Y HYS.out rfl ?_)
                | (at_builtin; refine wpList_append_idD rfl _ _ rfl we.heap.size _ ps p wi.heap.size Y HY.out.symm rfl rfl (heap_alloc_new wi _) HP20.out OWJ.out (by rw [HPN.out]; omega) SJ.out ?_)
                | fail)
              intro v6 w6 o6 g6
              obtain ⟨pa6, pcap6, hv6, _, _, _, _⟩ := ownD_ids o6 HPI2.out
              obtain ⟨pn6, hpn6⟩ : ∃ pn6, (ps ++ [p]).length = pn6 := ⟨_, rfl⟩
              rw [hpn6] at hv6
              subst hv6
              clear hpn6
              have hb6 := (Below.refl we.heap.size (wi.alloc (.cells Y 23))).grown g6 SJ.out (fun j hj => (OWJ.out.lt j hj).1)
              have G6 := Lib.hid ((hb6.block w.heap.size (by have := LT8.out; have := LTE.out; omega)).trans GJ.out)
              have C6 := Lib.hid ((hb6.block (w.heap.size + 1) (by have := LT8.out; have := LTE.out; omega)).trans CJ.out)
              have K6 := Lib.hid ((hb6.block wc.heap.size LTE.out).trans KJ.out)
              have B6 := Lib.hid (BJ.out.trans (hb6.mono (by have := LT8.out; have := LTE.out; omega)))
              have S6 := Lib.hid (Nat.le_trans SJ.out hb6.size)
              have O6 := Lib.hid o6
              have q20 : w6.cell? ⟨w.heap.size + 1, 20, none⟩ = some (.slice pa pn pcap) := (recAt_of HT.out (show RcAt w6 (w.heap.size + 1) t (.slice pa pn pcap) zT zT [] from C6.out)).parents
              have z20 := not_frozen (show w6.heap[w.heap.size + 1]? = _ from C6.out) 20
              clear hb6 o6 g6 p20
              have F6 := Lib.hid (off_set w6 (w.heap.size + 1) 20 (.slice pa6 pn6 pcap6))
              have C7 := Lib.hid (rc_parents (v' := .slice pa6 pn6 pcap6) (show RcAt w6 (w.heap.size + 1) t (.slice pa pn pcap) zT zT [] from C6.out) HT.out)
              have G7 := Lib.hid (F6.out.far (Nat.ne_of_gt (Nat.lt_succ_self _)) G6.out)
              have K7 := Lib.hid (F6.out.far (Nat.ne_of_lt LT8.out) K6.out)
              have B7 := Lib.hid (B6.out.trans (F6.out.below (B := w.heap.size) (Nat.le_succ _) B6.out.size))
              have O7 := Lib.hid (ownD_off O6.out F6.out (by have := LT8.out; have := LTE.out; omega))
              have S7 := Lib.hid (Nat.le_trans S6.out F6.out.size)
              go_wp2
              go_roundw
              case rel => exact ⟨ps ++ [p], r3, .slice pa6 pn6 pcap6, Y, rfl, C7.out, O7.out, HL2.out, HPI2.out, HR3.out, HNX.out, K7.out, HYS.out, G7.out, B7.out, S7.out⟩
              case measure => rw [MS.out, strLen9_string, size_toArray]; exact MS3.out
        | none =>
          rw [lineR_none hl, show parentW = [112, 97, 114, 101, 110, 116, 32] from rfl] at c3
          simp only at c3
          clear MS
          have HQ3 := Lib.hid (show PR = match (match whoL (parseR Lib.itoa takeN) r with | none => none | some (a, c, tx) => if rightR ⟨t, ps, a, c, tx⟩ = true then some ⟨t, ps, a, c, tx⟩ else none : Option Rcd) with | none => (rcdZ, 4) | some c => (c, 0) by rw [HQ2.out, ← HPK.out, parsK_stop hl])
          clear HQ2
          unfold whoL at HQ3
          clear hl HPK HP0
          have c4 := fun u => rline_is r authorW hr6 (by decide) u
          cases hl4 : lineL r authorW with
          | none =>
            rw [lineR_none hl4, show authorW = [97, 117, 116, 104, 111, 114, 32] from rfl] at c4
            rw [hl4] at HQ3
            simp only at c4
            have NONE := Lib.hid (show PR = (rcdZ, 4) from HQ3.out)
            have C2 := Lib.hid (fun u (hu : Below w.heap.size w u) => (show Calls Tryz.prog 29 #[.string ⟨([] : List UInt8).toArray⟩] u fun e u' => e = .returned (.tuple #[.agg (arrI9 zT), .int .i64 4]) ∧ Below u.heap.size u u' from (rParse_is [] (by decide) u (TB.out u hu)).mono (fun e u' h => ⟨h.1.trans (by rw [parseR_nil]; rfl), h.2⟩)))
            obtain ⟨Y, hY⟩ : ∃ Y, arrI9 zT = Y := ⟨_, rfl⟩
            have HYS := Lib.hid (show Y.size = 4 by rw [← hY]; exact arrI9_size _)
            have HY1 := Lib.hid (show Y.all (·.oneCell') = true by rw [← hY]; exact arrI9_one _)
            have IY := Lib.hid (show (Tryz.prog.info? 26).map (·.size) = some Y.size by rw [HYS.out]; exact infoT)
            have HY := Lib.hid hY
            rw [hY] at C2
            clear hY
            clear hl4 hr6
            generalize (⟨r.toArray⟩ : ByteArray) = sr at *
            go_wp2_with fail
            refine c3.mono ?_
            rintro e wg ⟨rfl, hbg⟩
            have BG := Lib.hid (BR.out.trans (hbg.mono BR.out.size))
            have GG := Lib.hid (heap_keep GR.out hbg)
            have CG := Lib.hid (heap_keep CR.out hbg)
            have OWG := Lib.hid (ownD_below OWR.out hbg)
            clear hbg
            go_wp2_with fail
            refine (c4 _).mono ?_
            rintro e wh ⟨rfl, hbh⟩
            have BH := Lib.hid (BG.out.trans (hbh.mono BG.out.size))
            have GH := Lib.hid (heap_keep GG.out hbh)
            have CH := Lib.hid (heap_keep CG.out hbh)
            have OWH := Lib.hid (ownD_below OWG.out hbh)
            clear hbh
            go_wp2_with fail
            refine (C2.out _ BH.out).mono ?_
            rintro e wk ⟨rfl, hbk⟩
            have BK := Lib.hid (BH.out.trans (hbk.mono BH.out.size))
            have GK := Lib.hid (heap_keep GH.out hbk)
            have CK := Lib.hid (heap_keep CH.out hbk)
            have OWK := Lib.hid (ownD_below OWH.out hbk)
            clear hbk
            have LTK := Lib.hid (show w.heap.size + 1 < wk.heap.size from lt_of_heap CK.out)
            have NOW := Lib.hid (show pv.ownBlock ≠ some wk.heap.size from fun e => absurd (OWK.out.lt _ e).2 (Nat.lt_irrefl _))
            go_wp2_with (first
              | (with_reducible refine wpList_store_all rfl 26 (.tmp 10) (.tmp 69) rfl wk.heap.size Y rfl rfl 26 x4 (heap_alloc_new wk _) IY.out (HYS.out.trans XS.out.symm) HY1.out ?_)
              | fail)
            intro wk2 hn hon hsn
            have hbn := ((Below.refl wk.heap.size wk).alloc (Nat.le_refl _) (.cells x4 26)).trans (hon.below (Nat.le_refl _) (by simp))
            have WL := Lib.hid hn
            have BL := Lib.hid (BK.out.trans (hbn.mono BK.out.size))
            have GL := Lib.hid (heap_keep GK.out hbn)
            have CL := Lib.hid (heap_keep CK.out hbn)
            have OWL := Lib.hid (ownD_below OWK.out hbn)
            clear hbn
            clear hn hon hsn
            go_wp2_with (first
              | (refine wpList_build_none rfl 28 rfl _ ZB.out ?_)
              | (with_reducible refine wpList_store_all rfl 28 (.tmp 2) (.tmp 77) rfl w.heap.size z rfl rfl 28 z GL.out IZ.out rfl Z1.out ?_)
              | fail)
            intro wz hgz hoz hsz
            have BZ := Lib.hid (BL.out.trans (hoz.below (B := w.heap.size) (Nat.le_refl _) BL.out.size))
            have GZ := Lib.hid hgz
            clear hgz hoz hsz
            obtain rfl := NONE.out
            go_wp2
            exact bodyPost_ret (results_rec Tryz.results13 _ _ w.heap.size z (0, 0) _ rfl rfl GZ.out ZS.out) rfl ⟨_, rfl, by rw [Z0.out]; exact recRed_zero _, BZ.out⟩
          | some y4 =>
            obtain ⟨x5, r4⟩ := y4
            have hll := line_len hl4
            rw [lineR_some hl4, show authorW = [97, 117, 116, 104, 111, 114, 32] from rfl] at c4
            rw [hl4] at HQ3
            dsimp only at HQ3
            simp only at c4
            have hx5 : x5.length ≤ 1000000 := by omega
            have hr4 : r4.length ≤ 1000000 := by omega
            cases hp5 : parseR Lib.itoa takeN x5 with
            | none =>
              rw [hp5] at HQ3
              have NONE := Lib.hid (show PR = (rcdZ, 4) from HQ3.out)
              have C2 := Lib.hid (fun u (hu : Below w.heap.size w u) => (show Calls Tryz.prog 29 #[.string ⟨(x5 : List UInt8).toArray⟩] u fun e u' => e = .returned (.tuple #[.agg (arrI9 zT), .int .i64 4]) ∧ Below u.heap.size u u' from (rParse_is x5 (hx5) u (TB.out u hu)).mono (fun e u' h => ⟨h.1.trans (by rw [hp5]; rfl), h.2⟩)))
              obtain ⟨Y, hY⟩ : ∃ Y, arrI9 zT = Y := ⟨_, rfl⟩
              have HYS := Lib.hid (show Y.size = 4 by rw [← hY]; exact arrI9_size _)
              have HY1 := Lib.hid (show Y.all (·.oneCell') = true by rw [← hY]; exact arrI9_one _)
              have IY := Lib.hid (show (Tryz.prog.info? 26).map (·.size) = some Y.size by rw [HYS.out]; exact infoT)
              have HY := Lib.hid hY
              rw [hY] at C2
              clear hY
              clear hl4 hr6 hll hx5 hp5 hr4
              generalize (⟨r.toArray⟩ : ByteArray) = sr at *
              generalize (⟨x5.toArray⟩ : ByteArray) = sx5 at *
              go_wp2_with fail
              refine c3.mono ?_
              rintro e wg ⟨rfl, hbg⟩
              have BG := Lib.hid (BR.out.trans (hbg.mono BR.out.size))
              have GG := Lib.hid (heap_keep GR.out hbg)
              have CG := Lib.hid (heap_keep CR.out hbg)
              have OWG := Lib.hid (ownD_below OWR.out hbg)
              clear hbg
              go_wp2_with fail
              refine (c4 _).mono ?_
              rintro e wh ⟨rfl, hbh⟩
              have BH := Lib.hid (BG.out.trans (hbh.mono BG.out.size))
              have GH := Lib.hid (heap_keep GG.out hbh)
              have CH := Lib.hid (heap_keep CG.out hbh)
              have OWH := Lib.hid (ownD_below OWG.out hbh)
              clear hbh
              go_wp2_with fail
              refine (C2.out _ BH.out).mono ?_
              rintro e wk ⟨rfl, hbk⟩
              have BK := Lib.hid (BH.out.trans (hbk.mono BH.out.size))
              have GK := Lib.hid (heap_keep GH.out hbk)
              have CK := Lib.hid (heap_keep CH.out hbk)
              have OWK := Lib.hid (ownD_below OWH.out hbk)
              clear hbk
              have LTK := Lib.hid (show w.heap.size + 1 < wk.heap.size from lt_of_heap CK.out)
              have NOW := Lib.hid (show pv.ownBlock ≠ some wk.heap.size from fun e => absurd (OWK.out.lt _ e).2 (Nat.lt_irrefl _))
              go_wp2_with (first
                | (with_reducible refine wpList_store_all rfl 26 (.tmp 10) (.tmp 69) rfl wk.heap.size Y rfl rfl 26 x4 (heap_alloc_new wk _) IY.out (HYS.out.trans XS.out.symm) HY1.out ?_)
                | fail)
              intro wk2 hn hon hsn
              have hbn := ((Below.refl wk.heap.size wk).alloc (Nat.le_refl _) (.cells x4 26)).trans (hon.below (Nat.le_refl _) (by simp))
              have WL := Lib.hid hn
              have BL := Lib.hid (BK.out.trans (hbn.mono BK.out.size))
              have GL := Lib.hid (heap_keep GK.out hbn)
              have CL := Lib.hid (heap_keep CK.out hbn)
              have OWL := Lib.hid (ownD_below OWK.out hbn)
              clear hbn
              clear hn hon hsn
              go_wp2_with (first
                | (refine wpList_build_none rfl 28 rfl _ ZB.out ?_)
                | (with_reducible refine wpList_store_all rfl 28 (.tmp 2) (.tmp 77) rfl w.heap.size z rfl rfl 28 z GL.out IZ.out rfl Z1.out ?_)
                | fail)
              intro wz hgz hoz hsz
              have BZ := Lib.hid (BL.out.trans (hoz.below (B := w.heap.size) (Nat.le_refl _) BL.out.size))
              have GZ := Lib.hid hgz
              clear hgz hoz hsz
              obtain rfl := NONE.out
              go_wp2
              exact bodyPost_ret (results_rec Tryz.results13 _ _ w.heap.size z (0, 0) _ rfl rfl GZ.out ZS.out) rfl ⟨_, rfl, by rw [Z0.out]; exact recRed_zero _, BZ.out⟩
            | some au =>
              rw [hp5] at HQ3
              dsimp only at HQ3
              have C2 := Lib.hid (fun u (hu : Below w.heap.size w u) => (show Calls Tryz.prog 29 #[.string ⟨(x5 : List UInt8).toArray⟩] u fun e u' => e = .returned (.tuple #[.agg (arrI9 au), .int .i64 0]) ∧ Below u.heap.size u u' from (rParse_is x5 (hx5) u (TB.out u hu)).mono (fun e u' h => ⟨h.1.trans (by rw [hp5]; rfl), h.2⟩)))
              obtain ⟨Y, hY⟩ : ∃ Y, arrI9 au = Y := ⟨_, rfl⟩
              have HYS := Lib.hid (show Y.size = 4 by rw [← hY]; exact arrI9_size _)
              have HY1 := Lib.hid (show Y.all (·.oneCell') = true by rw [← hY]; exact arrI9_one _)
              have IY := Lib.hid (show (Tryz.prog.info? 26).map (·.size) = some Y.size by rw [HYS.out]; exact infoT)
              have HY := Lib.hid hY
              rw [hY] at C2
              clear hY
              have HAU := Lib.hid (right_len au (parse_only hp5).1)
              have c6 := fun u => rline_is r4 committerW hr4 (by decide) u
              clear hl4 hr6 hll hx5 hp5
              generalize (⟨r.toArray⟩ : ByteArray) = sr at *
              generalize (⟨x5.toArray⟩ : ByteArray) = sx5 at *
              go_wp2_with fail
              refine c3.mono ?_
              rintro e wg ⟨rfl, hbg⟩
              have BG := Lib.hid (BR.out.trans (hbg.mono BR.out.size))
              have GG := Lib.hid (heap_keep GR.out hbg)
              have CG := Lib.hid (heap_keep CR.out hbg)
              have OWG := Lib.hid (ownD_below OWR.out hbg)
              clear hbg
              go_wp2_with fail
              refine (c4 _).mono ?_
              rintro e wh ⟨rfl, hbh⟩
              have BH := Lib.hid (BG.out.trans (hbh.mono BG.out.size))
              have GH := Lib.hid (heap_keep GG.out hbh)
              have CH := Lib.hid (heap_keep CG.out hbh)
              have OWH := Lib.hid (ownD_below OWG.out hbh)
              clear hbh
              go_wp2_with fail
              refine (C2.out _ BH.out).mono ?_
              rintro e wk ⟨rfl, hbk⟩
              have BK := Lib.hid (BH.out.trans (hbk.mono BH.out.size))
              have GK := Lib.hid (heap_keep GH.out hbk)
              have CK := Lib.hid (heap_keep CH.out hbk)
              have OWK := Lib.hid (ownD_below OWH.out hbk)
              clear hbk
              have LTK := Lib.hid (show w.heap.size + 1 < wk.heap.size from lt_of_heap CK.out)
              have NOW := Lib.hid (show pv.ownBlock ≠ some wk.heap.size from fun e => absurd (OWK.out.lt _ e).2 (Nat.lt_irrefl _))
              go_wp2_with (first
                | (with_reducible refine wpList_store_all rfl 26 (.tmp 10) (.tmp 69) rfl wk.heap.size Y rfl rfl 26 x4 (heap_alloc_new wk _) IY.out (HYS.out.trans XS.out.symm) HY1.out ?_)
                | fail)
              intro wk2 hn hon hsn
              have hbn := ((Below.refl wk.heap.size wk).alloc (Nat.le_refl _) (.cells x4 26)).trans (hon.below (Nat.le_refl _) (by simp))
              have WL := Lib.hid hn
              have BL := Lib.hid (BK.out.trans (hbn.mono BK.out.size))
              have GL := Lib.hid (heap_keep GK.out hbn)
              have CL := Lib.hid (heap_keep CK.out hbn)
              have OWL := Lib.hid (ownD_below OWK.out hbn)
              clear hbn
              clear hn hon hsn
              cases hl6 : lineL r4 committerW with
              | none =>
                rw [lineR_none hl6, show committerW = [99, 111, 109, 109, 105, 116, 116, 101, 114, 32] from rfl] at c6
                rw [hl6] at HQ3
                simp only at c6
                have NONE := Lib.hid (show PR = (rcdZ, 4) from HQ3.out)
                have C3 := Lib.hid (fun u (hu : Below w.heap.size w u) => (show Calls Tryz.prog 29 #[.string ⟨([] : List UInt8).toArray⟩] u fun e u' => e = .returned (.tuple #[.agg (arrI9 zT), .int .i64 4]) ∧ Below u.heap.size u u' from (rParse_is [] (by decide) u (TB.out u hu)).mono (fun e u' h => ⟨h.1.trans (by rw [parseR_nil]; rfl), h.2⟩)))
                obtain ⟨Y6, hY6⟩ : ∃ Y6, arrI9 zT = Y6 := ⟨_, rfl⟩
                have HYS6 := Lib.hid (show Y6.size = 4 by rw [← hY6]; exact arrI9_size _)
                have HY16 := Lib.hid (show Y6.all (·.oneCell') = true by rw [← hY6]; exact arrI9_one _)
                have IY6 := Lib.hid (show (Tryz.prog.info? 26).map (·.size) = some Y6.size by rw [HYS6.out]; exact infoT)
                have HY6 := Lib.hid hY6
                rw [hY6] at C3
                clear hY6
                clear hl6 hr4
                generalize (⟨r4.toArray⟩ : ByteArray) = sr4 at *
                go_wp2_with (first
                  | (with_reducible refine wpList_load_all 26 (.tmp 10) rfl (by kernel_rfl) wk.heap.size Y 26 (0, 0) rfl WL.out _ Tryz.underlying26 rfl IY.out ?_)
                  | (with_reducible refine wpList_store_any rfl 26 (.tmp 79) (.tmp 78) rfl (w.heap.size + 1) 21 Y rfl rfl 28 (arrC t pv zT zT []) CL.out IY.out (by rw [HYS.out, arrC_size _ _ _ _ _ HT.out]; decide) HY1.out ?_)
                  | fail)
                intro wm hgm hom hsm
                have BM := Lib.hid (BL.out.trans (hom.below (B := w.heap.size) (Nat.le_succ _) BL.out.size))
                have GM := Lib.hid (hom.far (Nat.ne_of_gt (Nat.lt_succ_self _)) GL.out)
                have WM := Lib.hid (hom.far (Nat.ne_of_lt LTK.out) WL.out)
                have OWM := Lib.hid (ownD_off OWL.out hom (by have := LT8.out; have := LTE.out; omega))
                have CM := Lib.hid (show RcAt wm (w.heap.size + 1) t pv au zT [] from by
                  have e := put_author t pv zT au zT [] HT.out
                  rw [show (cellsT au).toArray = Y from HY.out, List.append_assoc] at e
                  unfold RcAt; rw [← e]; exact hgm)
                clear hgm hom hsm
                go_wp2_with fail
                refine (c6 _).mono ?_
                rintro e wn ⟨rfl, hbn⟩
                have BN := Lib.hid (BM.out.trans (hbn.mono BM.out.size))
                have GN := Lib.hid (heap_keep GM.out hbn)
                have CN := Lib.hid (heap_keep CM.out hbn)
                have WN := Lib.hid (heap_keep WM.out hbn)
                have OWN := Lib.hid (ownD_below OWM.out hbn)
                clear hbn
                go_wp2_with fail
                refine (C3.out _ BN.out).mono ?_
                rintro e wo ⟨rfl, hbo⟩
                have BO := Lib.hid (BN.out.trans (hbo.mono BN.out.size))
                have GO := Lib.hid (heap_keep GN.out hbo)
                have CO := Lib.hid (heap_keep CN.out hbo)
                have WO := Lib.hid (heap_keep WN.out hbo)
                have OWO := Lib.hid (ownD_below OWN.out hbo)
                clear hbo
                go_wp2_with (first
                  | (with_reducible refine wpList_store_all rfl 26 (.tmp 10) (.tmp 89) rfl wk.heap.size Y6 rfl rfl 26 Y WO.out IY6.out (HYS6.out.trans HYS.out.symm) HY16.out ?_)
                  | fail)
                intro wp hgp hop hsp
                have BP := Lib.hid (BO.out.trans (hop.below (B := w.heap.size) (Nat.le_of_lt (Nat.lt_trans (Nat.lt_succ_self _) LTK.out)) BO.out.size))
                have GP := Lib.hid (hop.far (Nat.ne_of_gt (Nat.lt_trans (Nat.lt_succ_self _) LTK.out)) GO.out)
                have CP := Lib.hid (hop.far (Nat.ne_of_gt LTK.out) CO.out)
                have WP := Lib.hid hgp
                have OWP := Lib.hid (ownD_mono2 OWO.out hop NOW.out)
                clear hgp hop hsp
                go_wp2_with (first
                  | (refine wpList_build_none rfl 28 rfl _ ZB.out ?_)
                  | (with_reducible refine wpList_store_all rfl 28 (.tmp 2) (.tmp 102) rfl w.heap.size z rfl rfl 28 z GP.out IZ.out rfl Z1.out ?_)
                  | fail)
                intro wz hgz hoz hsz
                have BZ := Lib.hid (BP.out.trans (hoz.below (B := w.heap.size) (Nat.le_refl _) BP.out.size))
                have GZ := Lib.hid hgz
                clear hgz hoz hsz
                obtain rfl := NONE.out
                go_wp2
                exact bodyPost_ret (results_rec Tryz.results13 _ _ w.heap.size z (0, 0) _ rfl rfl GZ.out ZS.out) rfl ⟨_, rfl, by rw [Z0.out]; exact recRed_zero _, BZ.out⟩
              | some y6 =>
                obtain ⟨x7, r5⟩ := y6
                have hll := line_len hl6
                rw [lineR_some hl6, show committerW = [99, 111, 109, 109, 105, 116, 116, 101, 114, 32] from rfl] at c6
                rw [hl6] at HQ3
                dsimp only at HQ3
                simp only at c6
                have hx7 : x7.length ≤ 1000000 := by omega
                have hr5 : r5.length ≤ 1000000 := by omega
                cases hp7 : parseR Lib.itoa takeN x7 with
                | none =>
                  rw [hp7] at HQ3
                  have NONE := Lib.hid (show PR = (rcdZ, 4) from HQ3.out)
                  have C3 := Lib.hid (fun u (hu : Below w.heap.size w u) => (show Calls Tryz.prog 29 #[.string ⟨(x7 : List UInt8).toArray⟩] u fun e u' => e = .returned (.tuple #[.agg (arrI9 zT), .int .i64 4]) ∧ Below u.heap.size u u' from (rParse_is x7 (hx7) u (TB.out u hu)).mono (fun e u' h => ⟨h.1.trans (by rw [hp7]; rfl), h.2⟩)))
                  obtain ⟨Y6, hY6⟩ : ∃ Y6, arrI9 zT = Y6 := ⟨_, rfl⟩
                  have HYS6 := Lib.hid (show Y6.size = 4 by rw [← hY6]; exact arrI9_size _)
                  have HY16 := Lib.hid (show Y6.all (·.oneCell') = true by rw [← hY6]; exact arrI9_one _)
                  have IY6 := Lib.hid (show (Tryz.prog.info? 26).map (·.size) = some Y6.size by rw [HYS6.out]; exact infoT)
                  have HY6 := Lib.hid hY6
                  rw [hY6] at C3
                  clear hY6
                  clear hl6 hr4 hll hx7 hp7 hr5
                  generalize (⟨r4.toArray⟩ : ByteArray) = sr4 at *
                  generalize (⟨x7.toArray⟩ : ByteArray) = sx7 at *
                  generalize (⟨r5.toArray⟩ : ByteArray) = sr5 at *
                  go_wp2_with (first
                    | (with_reducible refine wpList_load_all 26 (.tmp 10) rfl (by kernel_rfl) wk.heap.size Y 26 (0, 0) rfl WL.out _ Tryz.underlying26 rfl IY.out ?_)
                    | (with_reducible refine wpList_store_any rfl 26 (.tmp 79) (.tmp 78) rfl (w.heap.size + 1) 21 Y rfl rfl 28 (arrC t pv zT zT []) CL.out IY.out (by rw [HYS.out, arrC_size _ _ _ _ _ HT.out]; decide) HY1.out ?_)
                    | fail)
                  intro wm hgm hom hsm
                  have BM := Lib.hid (BL.out.trans (hom.below (B := w.heap.size) (Nat.le_succ _) BL.out.size))
                  have GM := Lib.hid (hom.far (Nat.ne_of_gt (Nat.lt_succ_self _)) GL.out)
                  have WM := Lib.hid (hom.far (Nat.ne_of_lt LTK.out) WL.out)
                  have OWM := Lib.hid (ownD_off OWL.out hom (by have := LT8.out; have := LTE.out; omega))
                  have CM := Lib.hid (show RcAt wm (w.heap.size + 1) t pv au zT [] from by
                    have e := put_author t pv zT au zT [] HT.out
                    rw [show (cellsT au).toArray = Y from HY.out, List.append_assoc] at e
                    unfold RcAt; rw [← e]; exact hgm)
                  clear hgm hom hsm
                  go_wp2_with fail
                  refine (c6 _).mono ?_
                  rintro e wn ⟨rfl, hbn⟩
                  have BN := Lib.hid (BM.out.trans (hbn.mono BM.out.size))
                  have GN := Lib.hid (heap_keep GM.out hbn)
                  have CN := Lib.hid (heap_keep CM.out hbn)
                  have WN := Lib.hid (heap_keep WM.out hbn)
                  have OWN := Lib.hid (ownD_below OWM.out hbn)
                  clear hbn
                  go_wp2_with fail
                  refine (C3.out _ BN.out).mono ?_
                  rintro e wo ⟨rfl, hbo⟩
                  have BO := Lib.hid (BN.out.trans (hbo.mono BN.out.size))
                  have GO := Lib.hid (heap_keep GN.out hbo)
                  have CO := Lib.hid (heap_keep CN.out hbo)
                  have WO := Lib.hid (heap_keep WN.out hbo)
                  have OWO := Lib.hid (ownD_below OWN.out hbo)
                  clear hbo
                  go_wp2_with (first
                    | (with_reducible refine wpList_store_all rfl 26 (.tmp 10) (.tmp 89) rfl wk.heap.size Y6 rfl rfl 26 Y WO.out IY6.out (HYS6.out.trans HYS.out.symm) HY16.out ?_)
                    | fail)
                  intro wp hgp hop hsp
                  have BP := Lib.hid (BO.out.trans (hop.below (B := w.heap.size) (Nat.le_of_lt (Nat.lt_trans (Nat.lt_succ_self _) LTK.out)) BO.out.size))
                  have GP := Lib.hid (hop.far (Nat.ne_of_gt (Nat.lt_trans (Nat.lt_succ_self _) LTK.out)) GO.out)
                  have CP := Lib.hid (hop.far (Nat.ne_of_gt LTK.out) CO.out)
                  have WP := Lib.hid hgp
                  have OWP := Lib.hid (ownD_mono2 OWO.out hop NOW.out)
                  clear hgp hop hsp
                  go_wp2_with (first
                    | (refine wpList_build_none rfl 28 rfl _ ZB.out ?_)
                    | (with_reducible refine wpList_store_all rfl 28 (.tmp 2) (.tmp 102) rfl w.heap.size z rfl rfl 28 z GP.out IZ.out rfl Z1.out ?_)
                    | fail)
                  intro wz hgz hoz hsz
                  have BZ := Lib.hid (BP.out.trans (hoz.below (B := w.heap.size) (Nat.le_refl _) BP.out.size))
                  have GZ := Lib.hid hgz
                  clear hgz hoz hsz
                  obtain rfl := NONE.out
                  go_wp2
                  exact bodyPost_ret (results_rec Tryz.results13 _ _ w.heap.size z (0, 0) _ rfl rfl GZ.out ZS.out) rfl ⟨_, rfl, by rw [Z0.out]; exact recRed_zero _, BZ.out⟩
                | some co =>
                  rw [hp7] at HQ3
                  dsimp only at HQ3
                  have C3 := Lib.hid (fun u (hu : Below w.heap.size w u) => (show Calls Tryz.prog 29 #[.string ⟨(x7 : List UInt8).toArray⟩] u fun e u' => e = .returned (.tuple #[.agg (arrI9 co), .int .i64 0]) ∧ Below u.heap.size u u' from (rParse_is x7 (hx7) u (TB.out u hu)).mono (fun e u' h => ⟨h.1.trans (by rw [hp7]; rfl), h.2⟩)))
                  obtain ⟨Y6, hY6⟩ : ∃ Y6, arrI9 co = Y6 := ⟨_, rfl⟩
                  have HYS6 := Lib.hid (show Y6.size = 4 by rw [← hY6]; exact arrI9_size _)
                  have HY16 := Lib.hid (show Y6.all (·.oneCell') = true by rw [← hY6]; exact arrI9_one _)
                  have IY6 := Lib.hid (show (Tryz.prog.info? 26).map (·.size) = some Y6.size by rw [HYS6.out]; exact infoT)
                  have HY6 := Lib.hid hY6
                  rw [hY6] at C3
                  clear hY6
                  have HCO := Lib.hid (right_len co (parse_only hp7).1)
                  have HR5 := Lib.hid hr5
                  have cb := fun u => Begins_is r5 [10] hr5 (by decide) u
                  clear hl6 hr4 hll hx7 hp7 hr5
                  generalize (⟨r4.toArray⟩ : ByteArray) = sr4 at *
                  generalize (⟨x7.toArray⟩ : ByteArray) = sx7 at *
                  rcases (show (∃ tx, r5 = 10 :: tx) ∨ ((r5.take ([10] : List UInt8).length == [10]) = false ∧ PR = (rcdZ, 4)) from by
                    rw [HQ3.out]
                    cases r5 with
                    | nil => exact .inr ⟨rfl, rfl⟩
                    | cons d tx =>
                      by_cases hd : d = 10
                      · exact .inl ⟨tx, by rw [hd]⟩
                      · refine .inr ⟨by simp [hd], ?_⟩
                        simp only [if_neg hd]) with ⟨tx, htx⟩ | ⟨hbeg, hnone⟩
                  case inr =>
                    have NONE := Lib.hid hnone
                    rw [hbeg] at cb
                    clear hbeg hnone
                    generalize (⟨r5.toArray⟩ : ByteArray) = sr5 at *
                    go_wp2_with (first
                      | (with_reducible refine wpList_load_all 26 (.tmp 10) rfl (by kernel_rfl) wk.heap.size Y 26 (0, 0) rfl WL.out _ Tryz.underlying26 rfl IY.out ?_)
                      | (with_reducible refine wpList_store_any rfl 26 (.tmp 79) (.tmp 78) rfl (w.heap.size + 1) 21 Y rfl rfl 28 (arrC t pv zT zT []) CL.out IY.out (by rw [HYS.out, arrC_size _ _ _ _ _ HT.out]; decide) HY1.out ?_)
                      | fail)
                    intro wm hgm hom hsm
                    have BM := Lib.hid (BL.out.trans (hom.below (B := w.heap.size) (Nat.le_succ _) BL.out.size))
                    have GM := Lib.hid (hom.far (Nat.ne_of_gt (Nat.lt_succ_self _)) GL.out)
                    have WM := Lib.hid (hom.far (Nat.ne_of_lt LTK.out) WL.out)
                    have OWM := Lib.hid (ownD_off OWL.out hom (by have := LT8.out; have := LTE.out; omega))
                    have CM := Lib.hid (show RcAt wm (w.heap.size + 1) t pv au zT [] from by
                      have e := put_author t pv zT au zT [] HT.out
                      rw [show (cellsT au).toArray = Y from HY.out, List.append_assoc] at e
                      unfold RcAt; rw [← e]; exact hgm)
                    clear hgm hom hsm
                    go_wp2_with fail
                    refine (c6 _).mono ?_
                    rintro e wn ⟨rfl, hbn⟩
                    have BN := Lib.hid (BM.out.trans (hbn.mono BM.out.size))
                    have GN := Lib.hid (heap_keep GM.out hbn)
                    have CN := Lib.hid (heap_keep CM.out hbn)
                    have WN := Lib.hid (heap_keep WM.out hbn)
                    have OWN := Lib.hid (ownD_below OWM.out hbn)
                    clear hbn
                    go_wp2_with fail
                    refine (C3.out _ BN.out).mono ?_
                    rintro e wo ⟨rfl, hbo⟩
                    have BO := Lib.hid (BN.out.trans (hbo.mono BN.out.size))
                    have GO := Lib.hid (heap_keep GN.out hbo)
                    have CO := Lib.hid (heap_keep CN.out hbo)
                    have WO := Lib.hid (heap_keep WN.out hbo)
                    have OWO := Lib.hid (ownD_below OWN.out hbo)
                    clear hbo
                    go_wp2_with (first
                      | (with_reducible refine wpList_store_all rfl 26 (.tmp 10) (.tmp 89) rfl wk.heap.size Y6 rfl rfl 26 Y WO.out IY6.out (HYS6.out.trans HYS.out.symm) HY16.out ?_)
                      | fail)
                    intro wp hgp hop hsp
                    have BP := Lib.hid (BO.out.trans (hop.below (B := w.heap.size) (Nat.le_of_lt (Nat.lt_trans (Nat.lt_succ_self _) LTK.out)) BO.out.size))
                    have GP := Lib.hid (hop.far (Nat.ne_of_gt (Nat.lt_trans (Nat.lt_succ_self _) LTK.out)) GO.out)
                    have CP := Lib.hid (hop.far (Nat.ne_of_gt LTK.out) CO.out)
                    have WP := Lib.hid hgp
                    have OWP := Lib.hid (ownD_mono2 OWO.out hop NOW.out)
                    clear hgp hop hsp
                    go_wp2_with fail
                    refine (cb _).mono ?_
                    rintro e wq ⟨rfl, hE⟩
                    subst hE
                    go_wp2_with (first
                      | (refine wpList_build_none rfl 28 rfl _ ZB.out ?_)
                      | (with_reducible refine wpList_store_all rfl 28 (.tmp 2) (.tmp 102) rfl w.heap.size z rfl rfl 28 z GP.out IZ.out rfl Z1.out ?_)
                      | fail)
                    intro wz hgz hoz hsz
                    have BZ := Lib.hid (BP.out.trans (hoz.below (B := w.heap.size) (Nat.le_refl _) BP.out.size))
                    have GZ := Lib.hid hgz
                    clear hgz hoz hsz
                    obtain rfl := NONE.out
                    go_wp2
                    exact bodyPost_ret (results_rec Tryz.results13 _ _ w.heap.size z (0, 0) _ rfl rfl GZ.out ZS.out) rfl ⟨_, rfl, by rw [Z0.out]; exact recRed_zero _, BZ.out⟩
                  subst htx
                  rw [show ((10 :: tx).take ([10] : List UInt8).length == [10]) = true from rfl] at cb
                  dsimp only at HQ3
                  rw [if_pos rfl] at HQ3
                  dsimp only at HQ3
                  go_wp2_with (first
                    | (with_reducible refine wpList_load_all 26 (.tmp 10) rfl (by kernel_rfl) wk.heap.size Y 26 (0, 0) rfl WL.out _ Tryz.underlying26 rfl IY.out ?_)
                    | (with_reducible refine wpList_store_any rfl 26 (.tmp 79) (.tmp 78) rfl (w.heap.size + 1) 21 Y rfl rfl 28 (arrC t pv zT zT []) CL.out IY.out (by rw [HYS.out, arrC_size _ _ _ _ _ HT.out]; decide) HY1.out ?_)
                    | fail)
                  intro wm hgm hom hsm
                  have BM := Lib.hid (BL.out.trans (hom.below (B := w.heap.size) (Nat.le_succ _) BL.out.size))
                  have GM := Lib.hid (hom.far (Nat.ne_of_gt (Nat.lt_succ_self _)) GL.out)
                  have WM := Lib.hid (hom.far (Nat.ne_of_lt LTK.out) WL.out)
                  have OWM := Lib.hid (ownD_off OWL.out hom (by have := LT8.out; have := LTE.out; omega))
                  have CM := Lib.hid (show RcAt wm (w.heap.size + 1) t pv au zT [] from by
                    have e := put_author t pv zT au zT [] HT.out
                    rw [show (cellsT au).toArray = Y from HY.out, List.append_assoc] at e
                    unfold RcAt; rw [← e]; exact hgm)
                  clear hgm hom hsm
                  go_wp2_with fail
                  refine (c6 _).mono ?_
                  rintro e wn ⟨rfl, hbn⟩
                  have BN := Lib.hid (BM.out.trans (hbn.mono BM.out.size))
                  have GN := Lib.hid (heap_keep GM.out hbn)
                  have CN := Lib.hid (heap_keep CM.out hbn)
                  have WN := Lib.hid (heap_keep WM.out hbn)
                  have OWN := Lib.hid (ownD_below OWM.out hbn)
                  clear hbn
                  go_wp2_with fail
                  refine (C3.out _ BN.out).mono ?_
                  rintro e wo ⟨rfl, hbo⟩
                  have BO := Lib.hid (BN.out.trans (hbo.mono BN.out.size))
                  have GO := Lib.hid (heap_keep GN.out hbo)
                  have CO := Lib.hid (heap_keep CN.out hbo)
                  have WO := Lib.hid (heap_keep WN.out hbo)
                  have OWO := Lib.hid (ownD_below OWN.out hbo)
                  clear hbo
                  go_wp2_with (first
                    | (with_reducible refine wpList_store_all rfl 26 (.tmp 10) (.tmp 89) rfl wk.heap.size Y6 rfl rfl 26 Y WO.out IY6.out (HYS6.out.trans HYS.out.symm) HY16.out ?_)
                    | fail)
                  intro wp hgp hop hsp
                  have BP := Lib.hid (BO.out.trans (hop.below (B := w.heap.size) (Nat.le_of_lt (Nat.lt_trans (Nat.lt_succ_self _) LTK.out)) BO.out.size))
                  have GP := Lib.hid (hop.far (Nat.ne_of_gt (Nat.lt_trans (Nat.lt_succ_self _) LTK.out)) GO.out)
                  have CP := Lib.hid (hop.far (Nat.ne_of_gt LTK.out) CO.out)
                  have WP := Lib.hid hgp
                  have OWP := Lib.hid (ownD_mono2 OWO.out hop NOW.out)
                  clear hgp hop hsp
                  go_wp2_with fail
                  refine (cb _).mono ?_
                  rintro e wq ⟨rfl, hE⟩
                  subst hE
                  have LY6 := Lib.hid (show (Tryz.prog.info? 26).map (·.size) = some Y6.toList.length by rw [Array.length_toList]; exact IY6.out)
                  have EX := Lib.hid (show (⟨(10 :: tx).toArray⟩ : ByteArray).extract 1 (tx.length + 1) = ⟨tx.toArray⟩ from ext_from (10 :: tx) 1 (tx.length + 1) rfl)
                  have HCP := Lib.hid (show RcAt wp (w.heap.size + 1) t pv au zT [] from CP.out)
                  go_wp2_with fail
                  refine wp_region_held_drew (S := fun u => u.heap[wk.heap.size]? = some (.cells Y6 26 (0, 0))) (by kernel_rfl) (show wp.drew.heap[wk.heap.size]? = _ from WP.out) (fun hHeld => ?_)
                  refine wpAnyH_take (i := 0) rfl (by kernel_rfl) (by kernel_rfl) (by kernel_rfl) (fun _ _ _ h => h) (yieldsIf_load_mid (by kernel_rfl) 26 (.tmp 10) (by kernel_rfl) wk.heap.size 0 (by kernel_rfl) Y6.toList _ (fun u hu => row_arrD hu) Tryz.underlying26 rfl LY6.out) hHeld ?_
                  try simp only [Act.put, List.setIfInBounds_toArray, List.set_cons_zero, List.set_cons_succ]
                  refine wpAnyH_take (i := 1) (v := ?hv1) rfl (by kernel_rfl) (by kernel_rfl) (by kernel_rfl) (fun _ _ _ h => h) (Or.inl ⟨by kernel_rfl, ?hy1⟩) hHeld ?_
                  case hy1 => intro u hu; go_simp; try with_reducible rfl
                  try simp only [Act.put, List.setIfInBounds_toArray, List.set_cons_zero, List.set_cons_succ]
                  refine wpAnyH_take (i := 2) (v := .string ⟨tx.toArray⟩) rfl (by kernel_rfl) (by kernel_rfl) (by kernel_rfl) (fun _ _ _ h => h) (Or.inl ⟨by kernel_rfl, ?hy2x⟩) hHeld ?_
                  case hy2x => intro u hu; go_simp; rw [if_pos (by omega), EX.out]
                  try simp only [Act.put, List.setIfInBounds_toArray, List.set_cons_zero, List.set_cons_succ]
                  refine wpAnyH_take (i := 3) (v := ?hv3) rfl (by kernel_rfl) (by kernel_rfl) (by kernel_rfl) (fun _ _ _ h => h) (Or.inl ⟨by kernel_rfl, ?hy3⟩) hHeld ?_
                  case hy3 => intro u hu; go_simp; try with_reducible rfl
                  try simp only [Act.put, List.setIfInBounds_toArray, List.set_cons_zero, List.set_cons_succ]
                  refine wpAnyH_ready (rs := [4]) (by kernel_rfl) (by simp) ?_
                  refine AllReadyH.cons rfl (fun K hK => ?_) AllReadyH.nil
                  go_simp
                  rw [if_pos HYS6.out]
                  have hst := run_storeCells_at Tryz.prog (w.heap.size + 1) 25 28 Y6.toList 0 (arrC t pv au zT []) wp.drew HCP.out (by rw [Array.length_toList, HYS6.out, arrC_size _ _ _ _ _ HT.out]; decide) (fun v hv => (Array.all_eq_true_iff_forall_mem.1 HY16.out) v (by simpa using hv))
                  have hE := put_committer t pv au zT co [] HT.out
                  rw [show (cellsT co).toArray = Y6 from HY6.out] at hE
                  simp only [Nat.add_zero, Array.length_toList] at hst
                  rw [hE] at hst
                  rw [hst]
                  simp only [Result.andThen_ok, Oper.upon]
                  obtain ⟨wr1, hwr1⟩ : ∃ wr1, wp.drew.setRow (w.heap.size + 1) (arrC t pv au co []) = wr1 := ⟨_, rfl⟩
                  rw [hwr1]
                  have hcr : RcAt wr1 (w.heap.size + 1) t pv au co [] := by rw [← hwr1]; exact setRow_heap wp.drew (w.heap.size + 1) _ _ _ (0, 0) HCP.out
                  have hor : Off (w.heap.size + 1) wp wr1 := by rw [← hwr1]; exact (off_of (Below.refl wp.heap.size wp).drew).trans (off_setRow _ _ _)
                  have hH : wr1.heap[wk.heap.size]? = some (.cells Y6 26 (0, 0)) := hor.far (Nat.ne_of_lt LTK.out) WP.out
                  have HCR := Lib.hid hcr
                  have HOR := Lib.hid hor
                  have q29 : wr1.cell? ⟨w.heap.size + 1, 29, none⟩ = some (.string ⟨[].toArray⟩) := (recAt_of HT.out hcr).text
                  have z29 := not_frozen hcr 29
                  clear hst hE hwr1 hcr hor hHeld
                  refine hK.out _ _ hH (fun hHeld => ?_)
                  clear hK K
                  try simp only [Act.put, List.setIfInBounds_toArray, List.set_cons_zero, List.set_cons_succ]
                  refine wpAnyH_take (i := 5) (v := ?hv5) rfl (by kernel_rfl) (by kernel_rfl) (by kernel_rfl) (fun _ _ _ h => h) (Or.inl ⟨by kernel_rfl, ?hy5⟩) hHeld ?_
                  case hy5 => intro u hu; go_simp; try with_reducible rfl
                  try simp only [Act.put, List.setIfInBounds_toArray, List.set_cons_zero, List.set_cons_succ]
                  refine wpAnyH_ready (rs := [6]) (by kernel_rfl) (by simp) ?_
                  refine AllReadyH.cons rfl (fun K hK => ?_) AllReadyH.nil
                  go_simp
                  obtain ⟨wr2, hwr2⟩ : ∃ wr2, wr1.setCell ⟨w.heap.size + 1, 29, none⟩ (.string ⟨tx.toArray⟩) = wr2 := ⟨_, rfl⟩
                  rw [hwr2]
                  have hcr2 : RcAt wr2 (w.heap.size + 1) t pv au co tx := by rw [← hwr2]; exact rc_text HCR.out HT.out tx
                  have hor2 : Off (w.heap.size + 1) wp wr2 := by rw [← hwr2]; exact HOR.out.trans (off_set _ _ _ _)
                  have hH : wr2.heap[wk.heap.size]? = some (.cells Y6 26 (0, 0)) := hor2.far (Nat.ne_of_lt LTK.out) WP.out
                  have CQ := Lib.hid hcr2
                  have HOQ := Lib.hid hor2
                  clear hwr2 hcr2 hor2 hHeld q29 z29
                  refine hK.out _ _ hH (fun hHeld => ?_)
                  clear hK K
                  try simp only [Act.put, List.getElem_toArray, List.getElem_cons_succ, List.getElem_cons_zero, List.setIfInBounds_toArray, List.set_cons_zero, List.set_cons_succ]
                  refine wpAnyH_done (by kernel_rfl) ?_ _
                  clear hHeld
                  have BQ := Lib.hid (BP.out.trans (HOQ.out.below (B := w.heap.size) (Nat.le_succ _) BP.out.size))
                  have GQ := Lib.hid (HOQ.out.far (Nat.ne_of_gt (Nat.lt_succ_self _)) GP.out)
                  have OWQ := Lib.hid (ownD_off OWP.out HOQ.out (by have := LT8.out; have := LTE.out; omega))
                  obtain ⟨pa, pcap, hpv, hcap, hcm, hids, hnil⟩ := ownD_ids OWQ.out HPI.out
                  subst hpv
                  have CRR := Lib.hid (rRight9 t pa ps.length pcap ps au co tx wr2 (TB.out _ BQ.out) HT.out hids rfl (by have := H16.out; omega) hcap HPI.out (by have := HAU.out; omega) (by have := HAU.out; omega) (by have := HCO.out; omega) (by have := HCO.out; omega) (by have := HR5.out; simp only [List.length_cons] at this; omega))
                  have HFIT := Lib.hid (show Rcd.Fit ⟨t, ps, au, co, tx⟩ from ⟨HT.out, HPI.out⟩)
                  have HAS := Lib.hid (arrC_size t (.slice pa ps.length pcap) au co tx HT.out)
                  have HA1 := Lib.hid (arrC_one t pa ps.length pcap au co tx)
                  have HRED := Lib.hid (fun (u : World) (hu : OwnD we.heap.size (.slice pa ps.length pcap) ps u) => (ownD_red (c := ⟨t, ps, au, co, tx⟩) hu HFIT.out))
                  clear hcap hcm hids hnil
                  obtain ⟨pn, hpn⟩ : ∃ pn, ps.length = pn := ⟨_, rfl⟩
                  have HPN := Lib.hid hpn
                  have HRED2 := Lib.hid (fun (u : World) (hu : OwnD we.heap.size (.slice pa pn pcap) ps u) => (show RecRed u (arrC t (.slice pa pn pcap) au co tx) ⟨t, ps, au, co, tx⟩ from by have h := HRED.out u (by rw [← HPN.out] at hu; exact hu); rw [HPN.out] at h; exact h))
                  have OWQ := Lib.hid (show OwnD we.heap.size (.slice pa pn pcap) ps wr2 from by rw [← hpn]; exact OWQ.out)
                  clear HRED
                  rw [hpn] at CRR HAS HA1 CQ
                  clear hpn
                  obtain ⟨A, hA⟩ : ∃ A, arrC t (.slice pa pn pcap) au co tx = A := ⟨_, rfl⟩
                  have CQ2 := Lib.hid (show wr2.heap[w.heap.size + 1]? = some (.cells A 28 (0, 0)) from by rw [← hA]; exact CQ.out)
                  rw [hA] at CRR HAS HA1 HRED2
                  have IAA := Lib.hid (infoC_arr A HAS.out)
                  clear hA CQ
                  cases hr : rightR ⟨t, ps, au, co, tx⟩ with
                  | false =>
                    have NONE := Lib.hid (show PR = (rcdZ, 4) by rw [HQ3.out, hr]; rfl)
                    rw [hr] at CRR
                    clear hr
                    go_wp2_with (first
                      | (with_reducible refine wpList_load_all 28 (.tmp 4) rfl (by kernel_rfl) (w.heap.size + 1) A 28 (0, 0) rfl CQ2.out _ Tryz.underlying28 rfl IAA.out ?_)
                      | fail)
                    refine CRR.out.mono ?_
                    rintro e ws ⟨rfl, hbs⟩
                    have BS := Lib.hid (BQ.out.trans (hbs.mono BQ.out.size))
                    have GS := Lib.hid (heap_keep GQ.out hbs)
                    clear hbs
                    go_wp2_with (first
                      | (refine wpList_build_none rfl 28 rfl _ ZB.out ?_)
                      | (with_reducible refine wpList_store_all rfl 28 (.tmp 2) (.tmp 111) rfl w.heap.size z rfl rfl 28 z GS.out IZ.out rfl Z1.out ?_)
                      | fail)
                    intro wz hgz hoz hsz
                    have BZ := Lib.hid (BS.out.trans (hoz.below (B := w.heap.size) (Nat.le_refl _) BS.out.size))
                    have GZ := Lib.hid hgz
                    clear hgz hoz hsz
                    obtain rfl := NONE.out
                    go_wp2
                    exact bodyPost_ret (results_rec Tryz.results13 _ _ w.heap.size z (0, 0) _ rfl rfl GZ.out ZS.out) rfl ⟨_, rfl, by rw [Z0.out]; exact recRed_zero _, BZ.out⟩
                  | true =>
                    have HE := Lib.hid (show PR = (⟨t, ps, au, co, tx⟩, 0) by rw [HQ3.out, hr]; rfl)
                    rw [hr] at CRR
                    clear hr
                    go_wp2_with (first
                      | (with_reducible refine wpList_load_all 28 (.tmp 4) rfl (by kernel_rfl) (w.heap.size + 1) A 28 (0, 0) rfl CQ2.out _ Tryz.underlying28 rfl IAA.out ?_)
                      | fail)
                    refine CRR.out.mono ?_
                    rintro e ws ⟨rfl, hbs⟩
                    have CS := Lib.hid (heap_keep CQ2.out hbs)
                    have BS := Lib.hid (BQ.out.trans (hbs.mono BQ.out.size))
                    have GS := Lib.hid (heap_keep GQ.out hbs)
                    have OWS := Lib.hid (ownD_below OWQ.out hbs)
                    clear hbs
                    go_wp2_with (first
                      | (with_reducible refine wpList_load_all 28 (.tmp 4) rfl (by kernel_rfl) (w.heap.size + 1) A 28 (0, 0) rfl CS.out _ Tryz.underlying28 rfl IAA.out ?_)
                      | (with_reducible refine wpList_store_all rfl 28 (.tmp 2) (.tmp 112) rfl w.heap.size A rfl rfl 28 z GS.out IAA.out (HAS.out.trans ZS.out.symm) HA1.out ?_)
                      | fail)
                    intro wz hgz hoz hsz
                    have BZ := Lib.hid (BS.out.trans (hoz.below (B := w.heap.size) (Nat.le_refl _) BS.out.size))
                    have GZ := Lib.hid hgz
                    have OWZ := Lib.hid (ownD_off OWS.out hoz (by have := LT8.out; have := LTE.out; omega))
                    clear hgz hoz hsz
                    obtain rfl := HE.out
                    go_wp2
                    exact bodyPost_ret (results_rec Tryz.results13 _ _ w.heap.size A (0, 0) _ rfl rfl GZ.out HAS.out) rfl ⟨_, rfl, HRED2.out _ OWZ.out, BZ.out⟩
end Go.Proofs.YtonkclkopmdahaaGreatDoor

/-
  Layer 9: what a program that does nothing does not answer.
-/
namespace Go.Proofs.YtonkclkopmdahaaGreatDoor
set_option maxRecDepth 20000
open Go.RowKit
set_option linter.unusedVariables false
set_option linter.unusedSimpArgs false

theorem wpList_build_two {P : Program} {ops : Array Oper} {rest : List Oper} {o : Oper} {a : Act} {w : World} {Q : Exit → Act → World → Prop} (hgd : o.guard = none) (t : TypeId) (k0 k1 : Nat) (x0 x1 : Operand) (ho : o.op = .build t #[(k0, x0), (k1, x1)])
    (v0 v1 : Value) (h0 : a.eval x0 = v0) (h1 : a.eval x1 = v1) (cells : Array Value) (hb : P.built t [(k0, v0), (k1, v1)] = some cells)
    (h : wpList P ops Q rest (a.put o.dst (.agg cells)) w) : wpList P ops Q (o :: rest) a w :=
  wpList_build_as hgd t #[(k0, x0), (k1, x1)] ho cells (by simp [h0, h1, hb]) h
theorem wpList_build_four {P : Program} {ops : Array Oper} {rest : List Oper} {o : Oper} {a : Act} {w : World} {Q : Exit → Act → World → Prop} (hgd : o.guard = none) (t : TypeId) (k0 k1 k2 k3 : Nat) (x0 x1 x2 x3 : Operand) (ho : o.op = .build t #[(k0, x0), (k1, x1), (k2, x2), (k3, x3)])
    (v0 v1 v2 v3 : Value) (h0 : a.eval x0 = v0) (h1 : a.eval x1 = v1) (h2 : a.eval x2 = v2) (h3 : a.eval x3 = v3) (cells : Array Value) (hb : P.built t [(k0, v0), (k1, v1), (k2, v2), (k3, v3)] = some cells)
    (h : wpList P ops Q rest (a.put o.dst (.agg cells)) w) : wpList P ops Q (o :: rest) a w :=
  wpList_build_as hgd t #[(k0, x0), (k1, x1), (k2, x2), (k3, x3)] ho cells (by simp [h0, h1, h2, h3, hb]) h
def oneD : List UInt8 := 1 :: List.replicate 19 0
def whoA : Idt := ⟨[65], [97], 0, 0⟩
theorem built_who : Tryz.prog.built 26 [(0, .string ⟨#[65]⟩), (1, .string ⟨#[97]⟩)] = some (cellsT whoA).toArray := by kernel_rfl
theorem built_oneD : Tryz.prog.built 23 [(0, .int .u8 1)] = some (arrD oneD) := by kernel_rfl
theorem built_rec4 : Tryz.prog.built 28 [(0, .agg (arrD oneD)), (2, .agg (cellsT whoA).toArray), (3, .agg (cellsT whoA).toArray), (4, .string ⟨#[120]⟩)] = some (arrC oneD (.slice none 0 0) whoA whoA [120]) := by kernel_rfl
theorem right_awake : rightR ⟨oneD, [], whoA, whoA, [120]⟩ = true := by decide +kernel
theorem print_awake : 60 < (printC hexL (printI Lib.itoa) ⟨oneD, [], whoA, whoA, [120]⟩).length ∧ (printC hexL (printI Lib.itoa) ⟨oneD, [], whoA, whoA, [120]⟩).head? = some 116 := by decide +kernel
set_option maxHeartbeats 8000000 in
theorem awake9 (w : World) (tab : T6 w) : Calls Tryz.prog 7 #[] w fun e w' => e = .returned (.bool true) ∧ Below w.heap.size w w' := by
  have hpr : printR ⟨oneD, [], whoA, whoA, [120]⟩ = (printC hexL (printI Lib.itoa) ⟨oneD, [], whoA, whoA, [120]⟩, 0) := by unfold printR; rw [right_awake, if_pos rfl]
  have C := Lib.hid (fun u (hu : Below w.heap.size w u) => Print9_is oneD none 0 0 [] whoA whoA [120] u (tab.keep hu) rfl (IdsAt.nil _ _) rfl (by decide) (Nat.le_refl _) (fun i hi => by cases hi) (by decide) (by decide) (by decide) (by decide))
  rw [hpr] at C
  obtain ⟨p1, p2⟩ := print_awake
  have b26 := built_who; have b23 := built_oneD; have b28 := built_rec4
  obtain ⟨L, hL⟩ : ∃ L, printC hexL (printI Lib.itoa) ⟨oneD, [], whoA, whoA, [120]⟩ = L := ⟨_, rfl⟩
  rw [hL] at C p1 p2
  obtain ⟨z, hz0, hzs, hzv, hzb, hz1⟩ := zIdt_any
  have HZS := Lib.hid hzs
  have S26 := Lib.hid (show (cellsT whoA).toArray.size = 4 from rfl)
  have O26 := Lib.hid (cellsT_one whoA)
  obtain ⟨A28, h28⟩ : ∃ A, arrC oneD (.slice none 0 0) whoA whoA [120] = A := ⟨_, rfl⟩
  obtain ⟨A26, h26⟩ : ∃ A, (cellsT whoA).toArray = A := ⟨_, rfl⟩
  obtain ⟨A23, h23⟩ : ∃ A, arrD oneD = A := ⟨_, rfl⟩
  rw [h28] at b28 C
  rw [h26] at b26 b28 S26 O26
  rw [h23] at b23 b28
  have B26 := Lib.hid b26; have B23 := Lib.hid b23; have B28 := Lib.hid b28
  have I26 := Lib.hid (show (Tryz.prog.info? 26).map (·.size) = some A26.size by rw [S26.out]; exact infoT)
  have P1 := Lib.hid p1; have P2 := Lib.hid p2
  clear hpr p1 p2 b26 b23 b28 hL h28 h26 h23 hz0 hzs hzb hz1 tab
  go_enter Tryz.func7, Tryz.ntmps7
  go_wp2_with (first
    | (refine wpList_build_two rfl 26 0 1 _ _ rfl (.string ⟨#[65]⟩) (.string ⟨#[97]⟩) rfl rfl _ B26.out ?_)
    | (with_reducible refine wpList_store_all rfl 26 (.tmp 1) (.tmp 4) rfl w.heap.size A26 rfl rfl 26 z (heap_alloc_new w _) I26.out (S26.out.trans HZS.out.symm) O26.out ?_)
    | fail)
  intro w2 hg2 ho2 hs2
  have HB2 := Lib.hid (((Below.refl w.heap.size w).alloc (Nat.le_refl _) (.cells z 26)).trans (ho2.below (Nat.le_refl _) (by simp)))
  have HG2 := Lib.hid hg2
  clear hg2 ho2 hs2
  go_wp2_with (first
    | (refine wpList_build_one rfl 23 0 _ rfl (.int .u8 1) rfl _ B23.out ?_)
    | (with_reducible refine wpList_load_all 26 (.tmp 1) rfl (by kernel_rfl) w.heap.size A26 26 (0, 0) rfl HG2.out _ Tryz.underlying26 rfl I26.out ?_)
    | (refine wpList_build_four rfl 28 0 2 3 4 _ _ _ _ rfl (.agg A23) (.agg A26) (.agg A26) (.string ⟨#[120]⟩) rfl rfl rfl rfl _ B28.out ?_)
    | fail)
  refine (C.out _ HB2.out).mono ?_
  rintro e w3 ⟨v, rfl, hred, hb3⟩
  have HB3 := Lib.hid (HB2.out.trans (hb3.mono HB2.out.size))
  obtain ⟨a, c, rfl, hba, hno, hlc, hcm⟩ := hred
  have hp1 := P1.out
  obtain ⟨b, o, rfl, hbl, hcell⟩ := hba (by omega)
  have q0 : w3.cell? ⟨b, o, none⟩ = some (.int .u8 116) := by
    have h := hcell 0 (by omega)
    rw [Nat.add_zero] at h
    rw [h]
    have h2 := P2.out
    cases L with
    | nil => cases h2
    | cons d r => simp only [List.head?_cons, Option.some.injEq] at h2; subst h2; rfl
  obtain ⟨n, hn⟩ : ∃ n, L.length = n := ⟨_, rfl⟩
  rw [hn] at hp1 hlc ⊢
  have g1 : (n : Int) > 60 := by omega
  clear hb3 hba hno hcm hcell hn hbl C
  go_wp2
  go_ret
  exact ⟨rfl, HB3.out⟩
end Go.Proofs.YtonkclkopmdahaaGreatDoor

/-
  The helper Record of the statements, over records that tell the same.
-/
namespace Go.Proofs.YtonkclkopmdahaaGreatDoor
set_option maxRecDepth 20000
open Go.RowKit
set_option linter.unusedVariables false
set_option linter.unusedSimpArgs false

set_option maxHeartbeats 4000000 in
theorem Record_same (t : List UInt8) (a1 a2 : Option Addr) (n c1 c2 : Nat) (l : List (List UInt8)) (a c : Idt) (x : List UInt8) (w : World) (ht : t.length = 20) (h1 : IdsAt w a1 l) (h2 : IdsAt w a2 l) (hn : n = l.length) (hm : n ≤ 1000000) (hid : ∀ i ∈ l, i.length = 20) :
    Calls Tryz.prog 17 #[.agg (arrC t (.slice a1 n c1) a c x), .agg (arrC t (.slice a2 n c2) a c x)] w fun e w' => e = .returned (.bool true) ∧ Below w.heap.size w w' := by
  obtain ⟨A1, hA1⟩ : ∃ A, arrC t (.slice a1 n c1) a c x = A := ⟨_, rfl⟩
  obtain ⟨A2, hA2⟩ : ∃ A, arrC t (.slice a2 n c2) a c x = A := ⟨_, rfl⟩
  have b1 := (Below.refl w.heap.size w).alloc (Nat.le_refl _) (.cells A1 28)
  have b2 := b1.alloc b1.size (.cells A2 28)
  have e1 : (w.alloc (.cells A1 28)).heap.size = w.heap.size + 1 := by simp
  have g1 := (((Below.refl (w.alloc (.cells A1 28)).heap.size (w.alloc (.cells A1 28))).alloc (Nat.le_refl _) (.cells A2 28)).block w.heap.size (by simp)).trans (heap_alloc_new w _)
  have g2 := heap_alloc_new (w.alloc (.cells A1 28)) (.cells A2 28)
  rw [e1] at g2
  have r1 := recAt_of (ty := 28) (fr := (0, 0)) (v := .slice a1 n c1) (a := a) (c := c) (x := x) ht (by rw [hA1]; exact g1)
  have r2 := recAt_of (ty := 28) (fr := (0, 0)) (v := .slice a2 n c2) (a := a) (c := c) (x := x) ht (by rw [hA2]; exact g2)
  have P := Lib.hid (fun u (hb : Below w.heap.size w u) => PlainIds_any a1 a2 n c1 c2 l u (h1.keep hb) (h2.keep hb) hn hm hid)
  have ED := fun u => eql_arrD t t ht ht u
  rw [eqD_same] at ED
  have EA := fun u => eql_idt_same a u
  have EC := fun u => eql_idt_same c u
  have LD := Lib.hid (show (Tryz.prog.info? 23).map (·.size) = some (cellsD t).length by rw [cellsD_len t ht]; exact infoD_n)
  have LA := Lib.hid (show (Tryz.prog.info? 26).map (·.size) = some (cellsT a).length from infoT)
  have LC := Lib.hid (show (Tryz.prog.info? 26).map (·.size) = some (cellsT c).length from infoT)
  unfold arrD at ED
  rw [hA1, hA2]
  have R1 := Lib.hid r1; have R2 := Lib.hid r2; have B2 := Lib.hid b2
  have p1 := r1.parents
  have p2 := r2.parents
  clear hA1 hA2 b1 b2 e1 g1 g2 r1 r2 h1 h2 hn hid ht
  have K := Lib.hid (fun u (hb : Below ((w.alloc (.cells A1 28)).alloc (.cells A2 28)).heap.size ((w.alloc (.cells A1 28)).alloc (.cells A2 28)) u) => And.intro (R1.out.keep hb) (R2.out.keep hb))
  have R1' := Lib.hid (And.intro R1.out.tree R1.out.text); have R2' := Lib.hid (And.intro R2.out.tree R2.out.text)
  generalize cellsD t = cd at *
  go_enter Tryz.func17, Tryz.ntmps17
  go_wp2_with (first
    | (with_reducible refine wpList_load_mid rfl 23 (.tmp 5) rfl w.heap.size 0 rfl cd _ R1'.out.1 Tryz.underlying23 rfl LD.out ?_)
    | (with_reducible refine wpList_load_mid rfl 23 (.tmp 7) rfl (w.heap.size + 1) 0 rfl cd _ R2'.out.1 Tryz.underlying23 rfl LD.out ?_))
  refine (P.out _ B2.out).mono ?_
  rintro e w3 ⟨rfl, hb3⟩
  obtain ⟨k1, k2⟩ := K.out _ hb3
  have HB3 := Lib.hid (B2.out.trans (hb3.mono B2.out.size))
  have ha1 := Lib.hid k1.author; have ha2 := Lib.hid k2.author; have hc1 := Lib.hid k1.committer; have hc2 := Lib.hid k2.committer
  have x1 := k1.text
  have x2 := k2.text
  clear k1 k2 hb3 p1 p2 K
  generalize cellsT a = ca at *
  generalize cellsT c = cc at *
  go_wp2_with (first
    | (with_reducible refine wpList_load_midD 26 (.tmp 18) rfl (by kernel_rfl) w.heap.size 21 rfl ca _ ha1.out Tryz.underlying26 rfl LA.out ?_)
    | (with_reducible refine wpList_load_midD 26 (.tmp 20) rfl (by kernel_rfl) (w.heap.size + 1) 21 rfl ca _ ha2.out Tryz.underlying26 rfl LA.out ?_)
    | (with_reducible refine wpList_load_midD 26 (.tmp 25) rfl (by kernel_rfl) w.heap.size 25 rfl cc _ hc1.out Tryz.underlying26 rfl LC.out ?_)
    | (with_reducible refine wpList_load_midD 26 (.tmp 27) rfl (by kernel_rfl) (w.heap.size + 1) 25 rfl cc _ hc2.out Tryz.underlying26 rfl LC.out ?_))
  go_ret
  exact ⟨rfl, HB3.out⟩
end Go.Proofs.YtonkclkopmdahaaGreatDoor

/-
  The law's own helper few over records: not too many parents, nor too long texts.
-/
namespace Go.Proofs.YtonkclkopmdahaaGreatDoor
set_option maxRecDepth 20000
open Go.RowKit
set_option linter.unusedVariables false
set_option linter.unusedSimpArgs false

def fewC (n : Nat) (a c : Idt) (x : List UInt8) : Bool := decide (n ≤ 40) && (decide (x.length ≤ 2000) && decide (a.name.length + a.email.length + c.name.length + c.email.length ≤ 1500))
theorem fewC_yes {n : Nat} {a c : Idt} {x : List UInt8} (h : fewC n a c x = true) : n ≤ 40 ∧ x.length ≤ 2000 ∧ a.name.length + a.email.length + c.name.length + c.email.length ≤ 1500 := by
  unfold fewC at h
  simpa only [Bool.and_eq_true, decide_eq_true_eq] using h
theorem wrap_inD (x : Int) (h0 : 0 ≤ x) (h1 : x ≤ 9223372036854775807) : wrap64 x = x := by unfold wrap64; omega
/-- What the form asks of each text that comes in. -/
def reachN : Nat := 140737488351232
theorem sums_in (p q r s : Nat) (h1 : p ≤ reachN) (h2 : q ≤ reachN) (h3 : r ≤ reachN) (h4 : s ≤ reachN) :
    wrap64 ((p : Int) + (q : Int)) = ((p + q : Nat) : Int) ∧ wrap64 (((p + q : Nat) : Int) + (r : Int)) = ((p + q + r : Nat) : Int) ∧ wrap64 (((p + q + r : Nat) : Int) + (s : Int)) = ((p + q + r + s : Nat) : Int) := by
  unfold reachN at h1 h2 h3 h4
  refine ⟨?_, ?_, ?_⟩
  · rw [wrap_inD _ (by omega) (by omega)]; omega
  · rw [wrap_inD _ (by omega) (by omega)]; omega
  · rw [wrap_inD _ (by omega) (by omega)]; omega
set_option maxHeartbeats 4000000 in
theorem fewC_is (t : List UInt8) (a1 : Option Addr) (n c1 : Nat) (a c : Idt) (x : List UInt8) (w : World) (ht : t.length = 20) (h1 : a.name.length ≤ reachN) (h2 : a.email.length ≤ reachN) (h3 : c.name.length ≤ reachN) (h4 : c.email.length ≤ reachN) :
    Calls Tryz.prog 6 #[.agg (arrC t (.slice a1 n c1) a c x)] w fun e w' => e = .returned (.bool (fewC n a c x)) ∧ Below w.heap.size w w' := by
  obtain ⟨A1, hA1⟩ : ∃ A, arrC t (.slice a1 n c1) a c x = A := ⟨_, rfl⟩
  have b1 := (Below.refl w.heap.size w).alloc (Nat.le_refl _) (.cells A1 28)
  have r1 := recAt_of (ty := 28) (fr := (0, 0)) (v := .slice a1 n c1) (a := a) (c := c) (x := x) ht (by rw [hA1]; exact heap_alloc_new w _)
  have p1 := r1.parents
  have p2 := r1.text
  have p3 := r1.author 0 _ rfl
  have p4 := r1.author 1 _ rfl
  have p5 := r1.committer 0 _ rfl
  have p6 := r1.committer 1 _ rfl
  rw [hA1]
  have B1 := Lib.hid b1
  have z2 := size_toArray x
  have z3 := size_toArray a.name
  have z4 := size_toArray a.email
  have z5 := size_toArray c.name
  have z6 := size_toArray c.email
  obtain ⟨s1, s2, s3⟩ := sums_in _ _ _ _ h1 h2 h3 h4
  unfold fewC
  clear hA1 b1 r1 h1 h2 h3 h4
  generalize (⟨x.toArray⟩ : ByteArray) = y at *
  generalize (⟨a.name.toArray⟩ : ByteArray) = y3 at *
  generalize (⟨a.email.toArray⟩ : ByteArray) = y4 at *
  generalize (⟨c.name.toArray⟩ : ByteArray) = y5 at *
  generalize (⟨c.email.toArray⟩ : ByteArray) = y6 at *
  generalize x.length = m at *
  generalize a.name.length + a.email.length + c.name.length + c.email.length = s at *
  generalize a.name.length + a.email.length + c.name.length = q3 at *
  generalize a.name.length + a.email.length = q2 at *
  generalize a.name.length = q1 at *
  generalize a.email.length = e1 at *
  generalize c.name.length = e2 at *
  generalize c.email.length = e3 at *
  by_cases k1 : n ≤ 40
  · by_cases k2 : m ≤ 2000
    · have g1 : (n : Int) ≤ 40 := by omega
      have g2 : (m : Int) ≤ 2000 := by omega
      rw [decide_eq_true k1, decide_eq_true k2, Bool.true_and, Bool.true_and]
      have g3 : decide ((s : Int) ≤ 1500) = decide (s ≤ 1500) := by rw [decide_eq_decide]; omega
      clear k1 k2
      go_enter Tryz.func6, Tryz.ntmps6
      go_wp2_with fail
      go_ret
      exact ⟨rfl, B1.out⟩
    · have g1 : (n : Int) ≤ 40 := by omega
      have g2 : ¬ (m : Int) ≤ 2000 := by omega
      rw [decide_eq_true k1, decide_eq_false k2, Bool.true_and, Bool.false_and]
      clear k1 k2
      go_enter Tryz.func6, Tryz.ntmps6
      go_wp2_with fail
      go_ret
      exact ⟨rfl, B1.out⟩
  · have g1 : ¬ (n : Int) ≤ 40 := by omega
    rw [decide_eq_false k1, Bool.false_and]
    clear k1
    go_enter Tryz.func6, Tryz.ntmps6
    go_wp2_with fail
    go_ret
    exact ⟨rfl, B1.out⟩
end Go.Proofs.YtonkclkopmdahaaGreatDoor
