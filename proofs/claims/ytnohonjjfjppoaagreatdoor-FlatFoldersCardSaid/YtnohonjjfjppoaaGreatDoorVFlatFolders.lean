/-
  The law FlatFolders: its walk.
-/
import Derived.Test.YtnohonjjfjppoaaGreatDoorFu35
import Derived.Test.YtnohonjjfjppoaaGreatDoorFu37
import Derived.Lib.SlBytesConst
namespace Go.Proofs.YtnohonjjfjppoaaGreatDoor.flatFolders
set_option maxRecDepth 20000
open Go.RowKit
set_option linter.unusedVariables false
set_option linter.unusedSimpArgs false
theorem rem_of (n : Int) (m : Nat) (hm : 0 < m) (hm2 : m < 100) : ∃ v r, IntKind.u64.wrap n = v ∧ v.tmod m = ((r : Nat) : Int) ∧ r < m ∧ IntKind.i64.wrap (r : Int) = (r : Int) ∧ IntKind.u64.wrap (r : Int) = (r : Int) := by
  obtain ⟨v, hv⟩ : ∃ v, IntKind.u64.wrap n = v := ⟨_, rfl⟩
  have hv0 : 0 ≤ v := by rw [← hv, IntKind.wrap_u64]; omega
  have h1 : v.tmod m = v % m := Int.tmod_eq_emod_of_nonneg hv0
  have h2 : 0 ≤ v % (m : Int) := Int.emod_nonneg _ (by omega)
  have h3 : v % (m : Int) < m := Int.emod_lt_of_pos _ (by omega)
  refine ⟨v, (v % m).toNat, hv, by rw [h1]; omega, by omega, IntWalk.i64_in _ (by omega), by rw [IntKind.wrap_u64]; omega⟩
theorem wpList_store_res {ops : Array Oper} {rest : List Oper} {o : Oper} {a : Act} {w : World} {Q : Exit → Act → World → Prop} (hgd : o.guard = none) (ty : TypeId) (x y : Operand) (ho : o.op = .store ty x y) (g off : Nat) (cells : Array Value)
    (hx : a.eval x = .pointer (some ⟨g, off, none⟩)) (hy : a.eval y = .agg cells) (T : TypeId) (cur : Array Value) (hg : w.heap[g]? = some (.cells cur T (0, 0))) (hi : (Tryz.prog.info? ty).map (·.size) = some cells.size) (hfit : off + cells.size ≤ cur.size)
    (h1 : cells.all (·.oneCell') = true) (R : Array Value) (hR : (cur.toList.take off ++ cells.toList ++ cur.toList.drop (off + cells.size)).toArray = R)
    (h : ∀ w', w'.heap[g]? = some (.cells R T (0, 0)) → Off g w w' → w'.heap.size = w.heap.size → wpList Tryz.prog ops Q rest (a.put o.dst undef) w') :
    wpList Tryz.prog ops Q (o :: rest) a w :=
  wpList_store_any hgd ty x y ho g off cells hx hy T cur hg hi hfit h1 (fun w' r o s => h w' (by rw [← hR]; exact r) o s)
theorem bat_one (w : World) (x : UInt8) (fr : Nat × Nat) : BAt (w.alloc (.cells #[.int .u8 x.toNat] 5 fr)) (some ⟨w.heap.size, 0, none⟩) [x] := fun _ =>
  ⟨w.heap.size, 0, rfl, by simp, fun i hi => by
    rw [Lib.cell_of_heap (heap_alloc_new w _)]
    match i, hi with
    | 0, _ => rfl⟩
theorem red_nil (w : World) : Red w (.slice none 0 0) [] := ⟨none, 0, rfl, BAt.nil w _, fun _ => ⟨rfl, rfl⟩, Nat.le_refl _, Nat.zero_le _⟩
theorem arr_set (m : Int) (s i i' : List UInt8) (h : i.length = 20) (h' : i'.length = 20) : ((arrI ⟨m, s, i⟩).toList.take 2 ++ (arrD i').toList ++ (arrI ⟨m, s, i⟩).toList.drop (2 + (arrD i').size)).toArray = arrI ⟨m, s, i'⟩ := by
  have e : (arrI ⟨m, s, i⟩).toList.drop (2 + (arrD i').size) = [] := List.drop_eq_nil_of_le (by rw [Array.length_toList, arrI_size _ h, arrD_size _ h']; exact Nat.le_refl _)
  rw [e, List.append_nil]
  rfl
set_option maxHeartbeats 64000000 in
theorem walk (w : World) (n : Int) (hn0 : -9223372036854775808 ≤ n) (hn1 : n ≤ 9223372036854775807) (t : Int) (ht0 : -9223372036854775808 ≤ t) (ht1 : t ≤ 9223372036854775807) (tab : T13 w) :
    Calls Tryz.prog 5 #[.int .i64 n, .int .i64 t] w fun e w' => e = .returned (.bool true) ∧ Below w.heap.size w w' := by
  clear hn0 hn1 ht0 ht1
  obtain ⟨v, a, hv, hr, ha3, ka, ka2⟩ := rem_of n 3 (by decide) (by decide)
  obtain ⟨u, b, hu, hs, hb4, kb, kb2⟩ := rem_of t 4 (by decide) (by decide)
  have hr : v.tmod 3 = (a : Int) := hr
  have hs : u.tmod 4 = (b : Int) := hs
  obtain ⟨sn, hsn⟩ : ∃ s : ByteArray, ⟨(nmF a).toArray⟩ = s := ⟨_, rfl⟩
  obtain ⟨zd, hzd, hzds, hzdv, hzdb, hzd1⟩ := zId_any
  obtain ⟨zi, hzi, hzis, hziv, hzib, hzi1⟩ := zItem_any
  have fa := ids_F a ha3 b hb4
  have fp := printT_single fa.2.2.2.2.2.1 fa.2.2.2.2.2.2.1
  have f3 := put3_F a b ha3 hb4
  have fr := rd_F a b ha3 hb4
  have fn : (xF a b).name.length ≤ 1000000 := by
    have h1 : (nmF a).length = 1 := by
      match a with
      | 0 => rfl
      | 1 => rfl
      | _ + 2 => rfl
    have h2 : (xF a b).name = nmF a := by
      match b with
      | 0 => rfl
      | 1 => rfl
      | 2 => rfl
      | _ + 3 => rfl
    rw [h2, h1]
    decide
  obtain ⟨X, hX⟩ : ∃ X, xF a b = X := ⟨_, rfl⟩
  obtain ⟨I2, hI2⟩ : ∃ I, idF a b = I := ⟨_, rfl⟩
  obtain ⟨M2, hM2⟩ : ∃ M, M2F a b = M := ⟨_, rfl⟩
  obtain ⟨r, hrr⟩ : ∃ r, rF a b = r := ⟨_, rfl⟩
  obtain ⟨e, hee⟩ : ∃ e, eF b = e := ⟨_, rfl⟩
  rw [hX, hI2] at fa
  rw [hX] at fp fn
  rw [hX, hI2, hM2] at f3
  rw [hM2, hI2, hrr, hee] at fr
  obtain ⟨AI, hAI⟩ : ∃ A, arrI X = A := ⟨_, rfl⟩
  obtain ⟨AD, hAD⟩ : ∃ A, arrD I2 = A := ⟨_, rfl⟩
  have SI := Lib.hid (show AI.size = 22 by rw [← hAI]; exact arrI_size X fa.2.2.2.2.2.2.1)
  have OI := Lib.hid (show AI.all (·.oneCell') = true by rw [← hAI]; exact arrI_one X)
  have II := Lib.hid (info_arr _ SI.out)
  have SD := Lib.hid (show AD.size = 20 by rw [← hAD]; exact arrD_size _ fa.1)
  have OD := Lib.hid (show AD.all (·.oneCell') = true by rw [← hAD]; exact arrD_one _)
  have ID := Lib.hid (show (Tryz.prog.info? 27).map (·.size) = some AD.size by rw [SD.out]; exact info29)
  have FIN := Lib.hid fr.fin
  have FA := Lib.hid fa; have FP := Lib.hid fp; have F3 := Lib.hid f3; have FR := Lib.hid fr; have FN := Lib.hid fn
  have HX := Lib.hid hX; have HRR := Lib.hid hrr; have HEE := Lib.hid hee; have HAI := Lib.hid hAI; have HAD := Lib.hid hAD
  obtain ⟨A9, hA9⟩ : ∃ A, arrD one9 = A := ⟨_, rfl⟩
  have B9I := Lib.hid (show Tryz.prog.built 27 [(0, .int .u8 9)] = some A9 by rw [← hA9]; exact built_id1 9)
  have S9 := Lib.hid (show A9.size = 20 by rw [← hA9]; exact arrD_size _ rfl)
  have O9 := Lib.hid (show A9.all (·.oneCell') = true by rw [← hA9]; exact arrD_one _)
  have I9 := Lib.hid (show (Tryz.prog.info? 27).map (·.size) = some A9.size by rw [S9.out]; exact info29)
  have HA9 := Lib.hid hA9
  obtain ⟨nm, hnm⟩ : ∃ nm, nmF a = nm := ⟨_, rfl⟩
  rw [hnm] at hsn
  have HNM := Lib.hid hnm
  obtain ⟨AT, hAT⟩ : ∃ A, arrI ⟨4, nm, dgE⟩ = A := ⟨_, rfl⟩
  have BT := Lib.hid (show Tryz.prog.built 54 [(0, .int .i64 4), (1, .string sn), (2, .agg (arrD dgE))] = some AT by
    have h := built_itm 4 sn dgE rfl
    rw [← hsn, ← arrI_is, hsn, hAT] at h
    exact h)
  have HAT := Lib.hid hAT
  have ST := Lib.hid (show AT.size = 22 by rw [← hAT]; exact arrI_size _ rfl)
  have OT := Lib.hid (show AT.all (·.oneCell') = true by rw [← hAT]; exact arrI_one _)
  have IT := Lib.hid (info_arr _ ST.out)
  clear fa fp f3 fr fn hX hI2 hM2 hrr hee hAI hAD hA9 hnm hAT
  have b1 := (Below.refl w.heap.size w).alloc (Nat.le_refl _) (.cells #[.map none] 66)
  have s1 := StoreP.new (fun j => j = w.heap.size) w rfl
  have CN := Lib.hid (new_is w)
  obtain ⟨w1, hw1⟩ : ∃ w1, w.alloc (.cells #[.map none] 66) = w1 := ⟨_, rfl⟩
  have z1 : w1.heap.size = w.heap.size + 1 := by rw [← hw1]; simp
  rw [hw1] at b1 s1
  have CA := Lib.hid (awake13 w1 (tab.keep b1))
  have B1 := Lib.hid b1; have S1 := Lib.hid s1; have TB := Lib.hid tab; have HA := Lib.hid ha3; have HB := Lib.hid hb4; have Z1 := Lib.hid z1; have HZ := Lib.hid hzds; have HZI := Lib.hid hzis; have HSN := Lib.hid hsn
  clear b1 s1 tab ha3 hb4 hzd hzds hzd1 hzi hzis hzi1 z1 hsn
  go_enter Tryz.func5, Tryz.ntmps5
  go_wp2_with fail
  refine CN.out.mono ?_
  rintro e9 w1' ⟨rfl, rfl⟩
  rw [hw1]
  clear hw1 CN
  go_wp2_with fail
  refine CA.out.mono ?_
  rintro e9 w2 ⟨rfl, b2⟩
  have B2 := Lib.hid (B1.out.trans (b2.mono B1.out.size)); have S2 := Lib.hid (S1.out.below b2)
  have L2 := Lib.hid (show w.heap.size < w2.heap.size by have := b2.size; have := Z1.out; omega)
  clear b2 CA S1
  have q0 : (w2.alloc (.cells #[.string ⟨#[97]⟩, .string ⟨#[98]⟩, .string ⟨#[122]⟩] 9)).cell? ⟨w2.heap.size, a, none⟩ = some (.string sn) := by
    rw [Lib.cell_of_heap (heap_alloc_new w2 _), ← HSN.out, ← HNM.out]
    have h := HA.out
    match a, h with
    | 0, _ => rfl
    | 1, _ => rfl
    | 2, _ => rfl
  have gA : a < 3 := HA.out
  go_wp2_with fail
  obtain ⟨w3, hw3⟩ : ∃ w3, w2.alloc (.cells #[.string ⟨#[97]⟩, .string ⟨#[98]⟩, .string ⟨#[122]⟩] 9) = w3 := ⟨_, rfl⟩
  have b3 : Below w2.heap.size w2 w3 := by rw [← hw3]; exact (Below.refl _ _).alloc (Nat.le_refl _) _
  have B3 := Lib.hid (B2.out.trans (b3.mono B2.out.size)); have S3 := Lib.hid (S2.out.below b3)
  have L3 := Lib.hid (Nat.lt_of_lt_of_le L2.out b3.size)
  rw [hw3]
  have cp := PutP_is S3.out 2 (.slice none 0 0) [] (red_nil w3) (TB.out.keep B3.out).pow (by decide)
  rw [put1_F] at cp
  simp only at cp
  obtain ⟨AE, hAE⟩ : ∃ A, arrD dgE = A := ⟨_, rfl⟩
  rw [hAE] at cp
  have CP := Lib.hid cp; have HAE := Lib.hid hAE
  have SE := Lib.hid (show AE.size = 20 by rw [← hAE]; exact arrD_size _ rfl)
  have OE := Lib.hid (show AE.all (·.oneCell') = true by rw [← hAE]; exact arrD_one _)
  have IE := Lib.hid (show (Tryz.prog.info? 27).map (·.size) = some AE.size by rw [SE.out]; exact info29)
  clear cp hAE q0 b3 hw3 S2
  refine CP.out.mono ?_
  rintro e9 w4 ⟨rfl, h4, c4⟩
  have B4 := Lib.hid (B3.out.trans (c4.below B3.out.size (fun j _ q => Nat.le_of_eq q.symm)))
  have H4 := Lib.hid h4; have L4 := Lib.hid (Nat.lt_of_lt_of_le L3.out c4.size)
  clear h4 c4 CP
  go_wp2_with (first
    | (with_reducible refine wpList_store_all rfl 27 (.tmp 7) (.tmp 37) rfl w4.heap.size AE rfl rfl 27 zd (heap_alloc_new _ _) IE.out (SE.out.trans HZ.out.symm) OE.out ?_)
    | fail)
  intro w5 r5 off5 sz5
  have b5 : Below w4.heap.size w4 w5 := ((Below.refl w4.heap.size w4).alloc (Nat.le_refl _) (.cells zd 27)).trans (off5.below (Nat.le_refl _) (by simp))
  have B5 := Lib.hid (B4.out.trans (b5.mono B4.out.size)); have R5 := Lib.hid r5
  have b6 := (Below.refl w5.heap.size w5).alloc (Nat.le_refl _) (.cells #[.int .u8 120] 5 (1, 2))
  have ba := bat_one w5 120 (1, 2)
  have kc := Lib.run_convert_bytes_const (P := Tryz.prog) w5 50 5 #[Value.int .u8 120] 1 1 Tryz.underlying50 Tryz.underlying5
  rw [show (#[Value.int .u8 120] : Array Value).size = 1 from rfl] at kc
  obtain ⟨w6, hw6⟩ : ∃ w6, w5.alloc (.cells #[.int .u8 120] 5 (1, 2)) = w6 := ⟨_, rfl⟩
  rw [show (Value.int .u8 ((120 : UInt8).toNat : Int)) = Value.int .u8 120 from rfl] at ba
  rw [hw6] at b6 ba
  have B6 := Lib.hid (B5.out.trans (b6.mono B5.out.size))
  have rd : Red w6 (.slice (some ⟨w5.heap.size, 0, none⟩) 1 1) [120] := by
    refine ⟨some ⟨w5.heap.size, 0, none⟩, 1, rfl, ba, ?_, ?_, ?_⟩
    · intro h
      cases h
    · exact Nat.le_refl 1
    · simp [maxLen]
  have cp := PutP_is ((H4.out.below b5).below b6) 1 (.slice (some ⟨w5.heap.size, 0, none⟩) 1 1) [120] rd (TB.out.keep B6.out).pow (by decide)
  rw [put2_F] at cp
  simp only at cp
  obtain ⟨AX, hAX⟩ : ∃ A, arrD dgX = A := ⟨_, rfl⟩
  rw [hAX] at cp
  have CP := Lib.hid cp; have HAX := Lib.hid hAX
  have SX := Lib.hid (show AX.size = 20 by rw [← hAX]; exact arrD_size _ rfl)
  have OX := Lib.hid (show AX.all (·.oneCell') = true by rw [← hAX]; exact arrD_one _)
  have IX := Lib.hid (show (Tryz.prog.info? 27).map (·.size) = some AX.size by rw [SX.out]; exact info29)
  have R6 := Lib.hid (heap_keep r5 b6)
  have L6 := Lib.hid (show w4.heap.size < w6.heap.size from lt_of_heap R6.out)
  clear cp hAX r5 off5 sz5 b5 b6 ba rd R5
  go_wp2_with fail
  refine CP.out.mono ?_
  rintro e9 w7 ⟨rfl, h7, c7⟩
  have R7 := Lib.hid ((c7.block w4.heap.size L6.out (fun q => by have := L4.out; omega)).trans R6.out)
  have B7 := Lib.hid (B6.out.trans (c7.below B6.out.size (fun j _ q => by have := L3.out; omega)))
  have H7 := Lib.hid h7; have L7 := Lib.hid (Nat.lt_of_lt_of_le L6.out c7.size); have L67 := Lib.hid c7.size
  clear h7 c7 CP
  go_wp2_with (first
    | (with_reducible refine wpList_store_all rfl 27 (.tmp 9) (.tmp 45) rfl w7.heap.size AX rfl rfl 27 zd (heap_alloc_new _ _) IX.out (SX.out.trans HZ.out.symm) OX.out ?_)
    | fail)
  intro w8 r8 off8 sz8
  have b8 : Below w7.heap.size w7 w8 := ((Below.refl w7.heap.size w7).alloc (Nat.le_refl _) (.cells zd 27)).trans (off8.below (Nat.le_refl _) (by simp))
  have B8 := Lib.hid (B7.out.trans (b8.mono B7.out.size)); have R8 := Lib.hid ((b8.block w4.heap.size L7.out).trans R7.out); have X8 := Lib.hid r8
  have H8 := Lib.hid (H7.out.below b8); have L8 := Lib.hid (lt_of_heap r8)
  have bt := BT.out
  rw [HAE.out] at bt
  have BTE := Lib.hid bt
  clear r8 off8 sz8 b8 R7 H7 bt
  go_wp2_with (first
    | (with_reducible refine wpList_load_all 27 (.tmp 7) rfl (by kernel_rfl) w4.heap.size AE 27 (0, 0) rfl R8.out _ Tryz.underlying27 rfl IE.out ?_)
    | (refine wpList_build_three rfl 54 0 1 2 _ _ _ rfl _ _ _ rfl rfl rfl AT BTE.out ?_)
    | (with_reducible refine wpList_store_all rfl 54 (.tmp 11) (.tmp 49) rfl w8.heap.size AT rfl rfl 54 zi (heap_alloc_new _ _) IT.out (ST.out.trans HZI.out.symm) OT.out ?_)
    | fail)
  intro w9 r9 off9 sz9
  have b9 : Below w8.heap.size w8 w9 := ((Below.refl w8.heap.size w8).alloc (Nat.le_refl _) (.cells zi 54)).trans (off9.below (Nat.le_refl _) (by simp))
  have B9 := Lib.hid (B8.out.trans (b9.mono B8.out.size)); have X9 := Lib.hid ((b9.block w7.heap.size L8.out).trans X8.out); have R9 := Lib.hid r9
  have H9 := Lib.hid (H8.out.below b9); have L9 := Lib.hid (lt_of_heap r9)
  clear r9 off9 sz9 b9 H8
  have hb : b = 0 ∨ b = 1 ∨ b = 2 ∨ b = 3 := by have := HB.out; omega
  rcases hb with rfl | rfl | rfl | rfl
  case' inl =>
    obtain rfl : (4 : Int) = e := HEE.out
    obtain rfl : none = r := HRR.out
    obtain rfl : AI = AT := by rw [← HAI.out, ← HAT.out, ← HX.out, ← HNM.out]; rfl
    obtain ⟨w10, h10⟩ : ∃ w10, w9 = w10 := ⟨_, rfl⟩
    rw [h10] at R9 B9 H9 ⊢
    have R10 := R9; have B10 := B9; have H10 := H9
    clear h10
  case' inr.inl =>
    obtain rfl : (6 : Int) = e := HEE.out
    obtain rfl : none = r := HRR.out
    have es : (AT.toList.take 2 ++ A9.toList ++ AT.toList.drop (2 + A9.size)).toArray = AI := by
      rw [← HAI.out, ← HAT.out, ← HX.out, ← HNM.out, ← HA9.out]
      exact arr_set 4 _ dgE one9 rfl rfl
    have FIT : 2 + A9.size ≤ AT.size := by rw [S9.out, ST.out]; exact Nat.le_refl _
    have ES := Lib.hid es; have FIT := Lib.hid FIT
    clear es
    go_wp2_with (first
      | (refine wpList_build_one rfl 27 0 _ rfl _ rfl A9 B9I.out ?_)
      | (with_reducible refine wpList_store_res rfl 27 (.tmp 56) (.tmp 55) rfl w8.heap.size 2 A9 rfl rfl 54 AT R9.out I9.out FIT.out O9.out AI ES.out ?_)
      | fail)
    intro w10 r10 off10 sz10
    have b10 : Below w8.heap.size w9 w10 := off10.below (Nat.le_refl _) (Nat.le_of_lt L9.out)
    have B10 := Lib.hid (B9.out.trans (off10.below (by have := L8.out; have := L7.out; have := L4.out; omega) B9.out.size))
    have H10 := Lib.hid (H9.out.keep ⟨off10.size, fun j hj hl => off10.block j hl (fun q => by have := L8.out; have := L67.out; have := L6.out; have := L4.out; omega)⟩)
    have R10 := Lib.hid r10
    clear r10 off10 sz10 b10
  case' inr.inr.inl =>
    obtain rfl : (10 : Int) = e := HEE.out
    obtain rfl : none = r := HRR.out
    have es : (AT.toList.take 2 ++ AX.toList ++ AT.toList.drop (2 + AX.size)).toArray = AI := by
      rw [← HAI.out, ← HAT.out, ← HX.out, ← HNM.out, ← HAX.out]
      exact arr_set 4 _ dgE dgX rfl rfl
    have FIT : 2 + AX.size ≤ AT.size := by rw [SX.out, ST.out]; exact Nat.le_refl _
    have ES := Lib.hid es; have FIT := Lib.hid FIT
    clear es
    go_wp2_with (first
      | (with_reducible refine wpList_load_all 27 (.tmp 9) rfl (by kernel_rfl) w7.heap.size AX 27 (0, 0) rfl X9.out _ Tryz.underlying27 rfl IX.out ?_)
      | (with_reducible refine wpList_store_res rfl 27 (.tmp 60) (.tmp 59) rfl w8.heap.size 2 AX rfl rfl 54 AT R9.out IX.out FIT.out OX.out AI ES.out ?_)
      | fail)
    intro w10 r10 off10 sz10
    have b10 : Below w8.heap.size w9 w10 := off10.below (Nat.le_refl _) (Nat.le_of_lt L9.out)
    have B10 := Lib.hid (B9.out.trans (off10.below (by have := L8.out; have := L7.out; have := L4.out; omega) B9.out.size))
    have H10 := Lib.hid (H9.out.keep ⟨off10.size, fun j hj hl => off10.block j hl (fun q => by have := L8.out; have := L67.out; have := L6.out; have := L4.out; omega)⟩)
    have R10 := Lib.hid r10
    clear r10 off10 sz10 b10
  case' inr.inr.inr =>
    obtain rfl : (0 : Int) = e := HEE.out
    obtain rfl : some ⟨nmF a, 1, one9⟩ = r := HRR.out
    have q4 : w9.cell? ⟨w8.heap.size, 0, none⟩ = some (.int .i64 4) := by rw [Lib.cell_of_heap R9.out, ← HAT.out]; rfl
    have f4 := not_frozen R9.out 0
    have hset : (w9.setCell ⟨w8.heap.size, 0, none⟩ (.int .i64 1)).heap[w8.heap.size]? = some (.cells (AT.setIfInBounds 0 (.int .i64 1)) 54 (0, 0)) := heap_setCell_same w9 w8.heap.size 0 _ _ _ R9.out
    have hoth : ∀ j, j ≠ w8.heap.size → (w9.setCell ⟨w8.heap.size, 0, none⟩ (.int .i64 1)).heap[j]? = w9.heap[j]? := fun j hj => heap_setCell_other w9 ⟨w8.heap.size, 0, none⟩ j _ hj
    have hsz : (w9.setCell ⟨w8.heap.size, 0, none⟩ (.int .i64 1)).heap.size = w9.heap.size := by simp
    have es : ((AT.setIfInBounds 0 (.int .i64 1)).toList.take 2 ++ A9.toList ++ (AT.setIfInBounds 0 (.int .i64 1)).toList.drop (2 + A9.size)).toArray = AI := by
      rw [← HAI.out, ← HAT.out, ← HX.out, ← HNM.out, ← HA9.out]
      exact arr_set 1 _ dgE one9 rfl rfl
    have FIT : 2 + A9.size ≤ (AT.setIfInBounds 0 (.int .i64 1)).size := by rw [S9.out, Array.size_setIfInBounds, ST.out]; exact Nat.le_refl _
    have ES := Lib.hid es; have FIT := Lib.hid FIT; have HSET := Lib.hid hset; have HOTH := Lib.hid hoth; have HSZ := Lib.hid hsz
    clear es hset hoth hsz
    go_wp2_with (first
      | (refine wpList_build_one rfl 27 0 _ rfl _ rfl A9 B9I.out ?_)
      | (with_reducible refine wpList_store_res rfl 27 (.tmp 65) (.tmp 63) rfl w8.heap.size 2 A9 rfl rfl 54 _ HSET.out I9.out FIT.out O9.out AI ES.out ?_)
      | fail)
    intro w10 r10 off11 sz10
    have off10 : Off w8.heap.size w9 w10 := ⟨off11.os, off11.tape, off11.output, by rw [← HSZ.out]; exact off11.size, fun k hk hn => (off11.block k (by rw [HSZ.out]; exact hk) hn).trans (HOTH.out k hn)⟩
    clear off11 q4 f4
    have b10 : Below w8.heap.size w9 w10 := off10.below (Nat.le_refl _) (Nat.le_of_lt L9.out)
    have B10 := Lib.hid (B9.out.trans (off10.below (by have := L8.out; have := L7.out; have := L4.out; omega) B9.out.size))
    have H10 := Lib.hid (H9.out.keep ⟨off10.size, fun j hj hl => off10.block j hl (fun q => by have := L8.out; have := L67.out; have := L6.out; have := L4.out; omega)⟩)
    have R10 := Lib.hid r10
    clear r10 off10 sz10 b10
  all_goals
    have b11 := (Below.refl w10.heap.size w10).alloc (Nat.le_refl _) (.cells AI 54)
    have h11 := heap_alloc_new w10 (.cells AI 54)
    have B11 := Lib.hid (B10.out.trans (b11.mono B10.out.size))
    have hit : ItemsAt (w10.alloc (.cells AI 54)) (some ⟨w10.heap.size, 0, none⟩) [X] := fun _ => ⟨w10.heap.size, 0, rfl, lt_of_heap h11, fun q hq j v hv => by
      match q, hq with
      | 0, _ =>
        rw [show 0 + 0 * 22 + j = j by omega, Lib.cell_of_heap h11, ← HAI.out]
        have h : (cellsI X)[j]? = some v := hv
        simpa [arrI] using h⟩
    have cp := rtPrint_is (some ⟨w10.heap.size, 0, none⟩) 1 1 [X] _ rfl (by unfold maxLen; decide) hit (fun i hi => by rw [List.mem_singleton.1 hi]; exact FA.out.2.2.2.2.2.2.1) (fun i hi => by rw [List.mem_singleton.1 hi]; exact FN.out) (TB.out.keep B11.out).q
    rw [FP.out.1] at cp
    have CP := Lib.hid cp; have H11 := Lib.hid (H10.out.below b11)
    clear b11 h11 hit cp
    go_wp2_with (first
      | (with_reducible refine wpList_load_all 54 (.tmp 11) rfl (by kernel_rfl) w8.heap.size _ 54 (0, 0) rfl R10.out _ Tryz.underlying54 rfl II.out ?_)
      | (with_reducible refine wpList_build_item rfl (.tmp 67) rfl _ SI.out rfl ?_)
      | fail)
    refine CP.out.mono ?_
    rintro e9 w12 ⟨v9, rfl, hrd, b12⟩
    have B12 := Lib.hid (B11.out.trans (b12.mono B11.out.size))
    have cp := PutP_is (H11.out.below b12) 2 v9 (flatI [X]) hrd (TB.out.keep B12.out).pow (by decide)
    rw [F3.out] at cp
    simp only [HAD.out] at cp
    obtain ⟨va, vc, rfl, -⟩ := hrd
    obtain ⟨nv, hnv⟩ : ∃ nv, (flatI [X]).length = nv := ⟨_, rfl⟩
    rw [hnv] at cp
    rw [hnv]
    have CQ := Lib.hid cp
    clear cp hnv b12 CP H11
    go_wp2_with fail
    refine CQ.out.mono ?_
    rintro e9 w13 ⟨rfl, h13, c13⟩
    have B13 := Lib.hid (B12.out.trans (c13.below B12.out.size (fun j _ q => by have := L3.out; have := L6.out; have := L4.out; omega)))
    have H13 := Lib.hid h13
    clear h13 c13 CQ
    go_wp2_with (first
      | (with_reducible refine wpList_store_all rfl 27 (.tmp 15) (.tmp 77) rfl w13.heap.size AD rfl rfl 27 zd (heap_alloc_new _ _) ID.out (SD.out.trans HZ.out.symm) OD.out ?_)
      | fail)
    intro w14 r14 off14 sz14
    have b14 : Below w13.heap.size w13 w14 := ((Below.refl w13.heap.size w13).alloc (Nat.le_refl _) (.cells zd 27)).trans (off14.below (Nat.le_refl _) (by simp))
    have B14 := Lib.hid (B13.out.trans (b14.mono B13.out.size))
    have cr := Read_is TB.out (H13.out.below b14) B14.out FA.out.1 FA.out.2.1 FR.out
    rw [HAD.out] at cr
    have CR := Lib.hid cr; have R14 := Lib.hid r14
    clear r14 off14 sz14 b14 cr
    go_wp2_with (first
      | (with_reducible refine wpList_load_all 27 (.tmp 15) rfl (by kernel_rfl) w13.heap.size AD 27 (0, 0) rfl R14.out _ Tryz.underlying27 rfl ID.out ?_)
      | fail)
    refine CR.out.mono ?_
    rintro e9 w15 ⟨v15, rfl, hr15, b15⟩
    have B15 := Lib.hid (B14.out.trans (b15.mono B14.out.size))
    clear b15 CR
    first
      | (obtain ⟨bb, oo, cc, rfl, -, -, -, -⟩ := read_one hr15 rfl
         clear hr15
         go_wp2
         go_ret
         exact ⟨rfl, B15.out⟩)
      | (obtain rfl : v15 = .slice none 0 0 := hr15
         go_wp2
         go_ret
         exact ⟨rfl, B15.out⟩)
end Go.Proofs.YtnohonjjfjppoaaGreatDoor.flatFolders
