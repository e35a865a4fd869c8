/-
  Texts that belong together, one behind the other.
-/
import Derived.Test.YtnohonjjfjppoaaGreatDoorFu12
import Derived.Test.YtnohonjjfjppoaaGreatDoorFu25
import Derived.Test.YtnohonjjfjppoaaGreatDoorFu06
import Derived.Test.YtnohonjjfjppoaaGreatDoorFu07
import Derived.Great.BuildSlice
import Derived.Great.FillDense
import Derived.Laws.AppendOwn
import Derived.OwnWalk
/-
  Layer 13, the program: the item that the first of the files stands in; its tree is put where it is one.
-/
namespace Go.Proofs.YtnohonjjfjppoaaGreatDoor
set_option maxRecDepth 20000
open Go.RowKit
set_option linter.unusedVariables false
set_option linter.unusedSimpArgs false
/-- The tables that the calls of this layer read. -/
structure T13 (w : World) : Prop where
  q : QTab w
  pow : Tab w
theorem T13.keep {w w' : World} (h : T13 w) (hb : Below w.heap.size w w') : T13 w' := ⟨h.q.below hb, h.pow.keep hb⟩
theorem built_item20 (m : Int) (s : ByteArray) (b0 b1 b2 b3 b4 b5 b6 b7 b8 b9 b10 b11 b12 b13 b14 b15 b16 b17 b18 b19 : UInt8) :
    Tryz.prog.built 54 [(0, .int .i64 m), (1, .string s), (2, .agg (arrD [b0, b1, b2, b3, b4, b5, b6, b7, b8, b9, b10, b11, b12, b13, b14, b15, b16, b17, b18, b19]))] = some (.int .i64 m :: .string s :: cellsD [b0, b1, b2, b3, b4, b5, b6, b7, b8, b9, b10, b11, b12, b13, b14, b15, b16, b17, b18, b19]).toArray := by kernel_rfl
theorem built_itm (m : Int) (s : ByteArray) : ∀ (i : List UInt8), i.length = 20 → Tryz.prog.built 54 [(0, .int .i64 m), (1, .string s), (2, .agg (arrD i))] = some (.int .i64 m :: .string s :: cellsD i).toArray
  | [b0, b1, b2, b3, b4, b5, b6, b7, b8, b9, b10, b11, b12, b13, b14, b15, b16, b17, b18, b19], _ => built_item20 m s b0 b1 b2 b3 b4 b5 b6 b7 b8 b9 b10 b11 b12 b13 b14 b15 b16 b17 b18 b19
theorem arrI_is (m : Int) (s i : List UInt8) : arrI ⟨m, s, i⟩ = (.int .i64 m :: .string ⟨s.toArray⟩ :: cellsD i).toArray := rfl
theorem results_pf {fn : Func} (h : fn.results = #[.cell 6 54, .tmp 7, .tmp 8]) (tmps : Array Value) (w : World) (g : Nat) (cs : Array Value) (fr : Nat × Nat) (x y : Value)
    (hp : tmps.getD 6 undef = .pointer (some ⟨g, 0, none⟩)) (hx : tmps.getD 7 undef = x) (hy : tmps.getD 8 undef = y) (hg : w.heap[g]? = some (.cells cs 54 fr)) (hn : cs.size = 22) :
    (results fn tmps).run Tryz.prog w = .ok (.tuple #[.agg cs, x, y]) w := by
  have hl := run_loadVar_row w g 54 54 cs fr _ hg Tryz.underlying54 rfl (info_arr cs hn)
  have hp' : tmps[6]?.getD undef = .pointer (some ⟨g, 0, none⟩) := by simpa using hp
  have hx' : tmps[7]?.getD undef = x := by simpa using hx
  have hy' : tmps[8]?.getD undef = y := by simpa using hy
  simp [results, h, hp', hx', hy', asAddr, hl, Result.andThen]
theorem putM_len (M : List Cel) (k : Int) (b : List UInt8) : (putM M k b).1.length ≤ M.length + 1 := by
  unfold putM
  split
  · split
    · exact Nat.le_succ _
    · simp
  · exact Nat.le_succ _
theorem putM_id (M : List Cel) (k : Int) (b : List UInt8) : (putM M k b).2.1.length = 20 := by
  unfold putM
  split
  · next he =>
    have sl := sumO_len he
    split
    · unfold pickI
      split <;> first | exact sl | simp [idZ] | rfl
    · exact sl
  · simp [idZ]
theorem wl_id : ∀ n M l acc, (wl putM n M l acc).2.1.length = 20
  | 0, M, l, acc => by simp [wl, zeroId]
  | n + 1, M, [], acc => by
    unfold wl
    split
    · exact putM_id _ _ _
    · simp [zeroId]
  | n + 1, M, f :: r, acc => by
    rw [wl]
    by_cases h : slashF f.path < f.path.length
    · rw [if_pos h]
      simp only
      split
      · exact wl_id n _ _ _
      · simp [zeroId]
    · rw [if_neg h]
      exact wl_id n _ _ _
/-- A literal of three parts. -/
theorem wpList_build_three {P : Program} {ops : Array Oper} {rest : List Oper} {o : Oper} {a : Act} {w : World} {Q : Exit → Act → World → Prop} (hgd : o.guard = none) (t : TypeId) (k0 k1 k2 : Nat) (x0 x1 x2 : Operand) (ho : o.op = .build t #[(k0, x0), (k1, x1), (k2, x2)])
    (v0 v1 v2 : Value) (h0 : a.eval x0 = v0) (h1 : a.eval x1 = v1) (h2 : a.eval x2 = v2) (cells : Array Value) (hb : P.built t [(k0, v0), (k1, v1), (k2, v2)] = some cells)
    (h : wpList P ops Q rest (a.put o.dst (.agg cells)) w) : wpList P ops Q (o :: rest) a w :=
  wpList_build_as hgd t #[(k0, x0), (k1, x1), (k2, x2)] ho cells (by simp [h0, h1, h2, hb]) h
/-- What a put of a directory's files does. -/
def PutsOK (w0 : World) (fu : Nat) : Prop := ∀ (S : Nat → Prop) (w : World) (g : Nat) (M : List Cel) (a : Option Addr) (c k : Nat) (l : List Fil) (D : List UInt8),
  StoreP S w g M → Below w0.heap.size w0 w → (∀ j, S j → w0.heap.size ≤ j) → FilesAt w a l → (∀ ad, a = some ad → ¬ S ad.block) → InDir k D l → l.length ≤ c → c ≤ maxLen → k ≤ 1000000 →
  costF (l.map (cutF k)) ≤ fu → M.length + slF (l.map (cutF k)) + 1 ≤ 5000 →
  Calls Tryz.prog 27 #[.pointer (some ⟨g, 0, none⟩), .slice a l.length c, .int .i64 k] w fun e w' =>
    e = .returned (.tuple #[.agg (arrD (wl putM fu M (l.map (cutF k)) []).2.1), .int .i64 (wl putM fu M (l.map (cutF k)) []).2.2]) ∧
    StoreP (fun j => S j ∨ (w.heap.size ≤ j ∧ j < w'.heap.size)) w' g (wl putM fu M (l.map (cutF k)) []).1 ∧ Chg S w w'
set_option maxHeartbeats 16000000 in
/-- The first file stands in the directory itself. -/
theorem putFirst_file {w : World} {g : Nat} {b o : Nat} {c k n : Nat} {f : Fil} {r : List Fil} {D : List UInt8} (hn : n = r.length + 1) (hat : FilesAt w (some ⟨b, o, none⟩) (f :: r)) (hd : InDir k D (f :: r)) (hs : ¬ slashF (f.path.drop k) < (f.path.drop k).length) :
    Calls Tryz.prog 57 #[.pointer (some ⟨g, 0, none⟩), .slice (some ⟨b, o, none⟩) n c, .int .i64 k] w fun e w' => e = .returned (.tuple #[.agg (arrI ⟨f.mode, f.path.drop k, f.id⟩), .int .i64 1, .int .i64 0]) ∧ Below w.heap.size w w' := by
  have hf := hd.each f (by simp)
  have rx : w.rangeAt b o (cellsF f) := by
    have := hat.elem 0 (by simp)
    rwa [show o + 0 * rowF.size = o by omega] at this
  have lx : (Tryz.prog.info? 29).map (·.size) = some (cellsF f).length := by rw [cellsF_len f hf.1]; exact infoFile
  obtain ⟨z, hz, hzs, hzv, hzb, hz1⟩ := zFile_any
  obtain ⟨zi, hzi, hzis, hziv, hzib, hzi1⟩ := zItem_any
  have hcs : (arrF f).size = 22 := arrF_size f hf.1
  have LI := Lib.hid (show (Tryz.prog.info? 27).map (·.size) = some (cellsD f.id).length by rw [cellsD_len _ hf.1]; exact info29)
  have BI := Lib.hid (built_itm f.mode ⟨(f.path.drop k).toArray⟩ f.id hf.1)
  have RI := Lib.hid (arrI_is f.mode (f.path.drop k) f.id)
  have SZI := Lib.hid (arrI_size ⟨f.mode, f.path.drop k, f.id⟩ hf.1)
  have OI := Lib.hid (arrI_one ⟨f.mode, f.path.drop k, f.id⟩)
  have II := Lib.hid (info_arr _ SZI.out)
  have CF := Lib.hid (fun u => firstName_is (f.path.drop k) u (by rw [List.length_drop]; omega))
  have HF := Lib.hid (show fstF (f.path.drop k) = (f.path.drop k, false) by unfold fstF; rw [if_neg hs])
  have EX := Lib.hid (ext_drop f.path k)
  have SZ := Lib.hid (size_toArray f.path)
  have RX := Lib.hid rx; have LX := Lib.hid lx; have HCS := Lib.hid hcs; have HC1 := Lib.hid (arrF_one f)
  have IF := Lib.hid (show (Tryz.prog.info? 29).map (·.size) = some (arrF f).size by rw [hcs]; exact infoFile)
  have HB := Lib.hid (hat.lt (by simp))
  have B1 := Lib.hid ((Below.refl w.heap.size w).alloc (Nat.le_refl _) (.cells zi 54))
  have HZS := Lib.hid hzs; have HZIS := Lib.hid hzis
  have hk := hf.2.2.1; have hp6 := hf.2.1; have hn0 : 0 < n := by omega
  obtain ⟨p, hp⟩ : ∃ p, f.path.drop k = p := ⟨_, rfl⟩
  rw [hp] at BI RI SZI OI II CF HF EX ⊢
  obtain ⟨sf, hsf⟩ : ∃ sf : ByteArray, ⟨f.path.toArray⟩ = sf := ⟨_, rfl⟩
  obtain ⟨sp, hsp⟩ : ∃ sp : ByteArray, ⟨p.toArray⟩ = sp := ⟨_, rfl⟩
  rw [hsf] at SZ EX
  rw [hsp] at EX BI RI
  have cf := CF.out
  rw [HF.out] at cf
  simp only [hsp] at cf
  obtain ⟨np, hnp⟩ : ∃ np, f.path.length = np := ⟨_, rfl⟩
  rw [hnp] at SZ EX hk hp6
  have hsz := SZ.out
  have x0 := EX.out
  have CF := Lib.hid cf
  obtain ⟨AF, hAF⟩ : ∃ A, arrF f = A := ⟨_, rfl⟩
  have Q0 := Lib.hid (show AF[0]? = some (.string sf) by rw [← hAF, ← hsf]; rfl)
  have Q1 := Lib.hid (show AF[1]? = some (.int .i64 f.mode) by rw [← hAF]; rfl)
  have Q2 := Lib.hid (show ∀ j v, (cellsD f.id)[j]? = some v → AF[2 + j]? = some v from fun j v hv => by
    rw [← hAF, Nat.add_comm]
    simpa [arrF, cellsF] using hv)
  rw [show cellsF f = AF.toList by rw [← hAF]; rfl] at RX LX
  rw [hAF] at IF HCS HC1
  obtain ⟨AI, hAI⟩ : ∃ A, arrI ⟨f.mode, p, f.id⟩ = A := ⟨_, rfl⟩
  rw [hAI] at SZI OI II RI ⊢
  rw [← RI.out] at BI
  obtain ⟨CI, hCI⟩ : ∃ A, cellsD f.id = A := ⟨_, rfl⟩
  have EI := Lib.hid (show arrD f.id = CI.toArray by rw [← hCI]; rfl)
  rw [hCI] at LI Q2
  rw [EI.out] at BI
  have h01 := heap_alloc_new w (.cells zi 54)
  obtain ⟨w1, hw1⟩ : ∃ w1, w.alloc (.cells zi 54) = w1 := ⟨_, rfl⟩
  have hs1 : w1.heap.size = w.heap.size + 1 := by rw [← hw1]; simp
  rw [hw1] at B1 h01
  have HNEW := Lib.hid (show (w1.alloc (.cells z 29)).heap[w.heap.size + 1]? = some (.cells z 29 (0, 0)) by rw [← hs1]; exact heap_alloc_new _ _)
  have RX1 := Lib.hid (show w1.rangeAt b o AF.toList from fun j v hv => (B1.out.cell (p := ⟨b, o + j, none⟩) HB.out).trans (RX.out j v hv))
  have H01 := Lib.hid h01
  obtain ⟨m, hm⟩ : ∃ m, f.mode = m := ⟨_, rfl⟩
  rw [hm] at Q1 BI
  clear hd hat hf rx lx hz hzs hzb hz1 hzi hzis hzib hzi1 hcs cf hs hp hsf hsp hnp hAF hAI hCI h01 hn hm RI
  go_enter Tryz.func57, Tryz.ntmps57
  go_wp2_with (first
    | (with_reducible refine wpList_load_mid rfl 29 (.tmp 17) rfl b o rfl AF.toList _ RX1.out Tryz.underlying29 rfl LX.out ?_)
    | (with_reducible refine wpList_store_all rfl 29 (.tmp 9) (.tmp 18) rfl (w.heap.size + 1) AF rfl rfl 29 z HNEW.out IF.out (HCS.out.trans HZS.out.symm) HC1.out ?_)
    | fail)
  intro w2 r2 off2 sz2
  clear hw1 HNEW
  have hs2 : w2.heap.size = w.heap.size + 2 := by rw [sz2]
  have b12 : Below w1.heap.size w1 w2 := ((Below.refl w1.heap.size w1).alloc (Nat.le_refl _) (.cells z 29)).trans (off2.below (by omega) (by simp))
  have hi2 := (b12.block w.heap.size (by omega)).trans H01.out
  have B2 := Lib.hid (B1.out.trans (b12.mono B1.out.size))
  have q0 : w2.cell? ⟨w.heap.size + 1, 0, none⟩ = some (.string sf) := by rw [Lib.cell_of_heap r2]; exact Q0.out
  have R2 := Lib.hid r2; have HI2 := Lib.hid hi2; have HS2 := Lib.hid hs2
  clear r2 off2 sz2 hs2 b12 hi2 hs1
  go_wp2_with fail
  refine (CF.out _).mono ?_
  rintro e w3 ⟨rfl, b3⟩
  have hs2 := HS2.out
  have r3 := (b3.block (w.heap.size + 1) (by omega)).trans R2.out
  have hi3 := (b3.block w.heap.size (by omega)).trans HI2.out
  have B3 := Lib.hid (B2.out.trans (b3.mono B2.out.size))
  have q1 : w3.cell? ⟨w.heap.size + 1, 1, none⟩ = some (.int .i64 m) := by rw [Lib.cell_of_heap r3]; exact Q1.out
  have R3 := Lib.hid (show w3.rangeAt (w.heap.size + 1) 2 CI from fun j v hv => by rw [Lib.cell_of_heap r3]; exact Q2.out j v hv)
  have HI3 := Lib.hid hi3
  clear r3 hi3 b3 q0 hs2 R2 HI2
  go_wp2_with (first
    | (with_reducible refine wpList_load_mid rfl 27 (.tmp 32) rfl (w.heap.size + 1) 2 rfl CI _ R3.out Tryz.underlying27 rfl LI.out ?_)
    | (refine wpList_build_three rfl 54 0 1 2 _ _ _ rfl _ _ _ rfl rfl rfl AI BI.out ?_)
    | (with_reducible refine wpList_store_all rfl 54 (.tmp 6) (.tmp 34) rfl w.heap.size AI rfl rfl 54 zi HI3.out II.out (SZI.out.trans HZIS.out.symm) OI.out ?_)
    | fail)
  intro w4 r4 off4 sz4
  have B4 := Lib.hid (B3.out.trans (off4.below (Nat.le_refl _) B3.out.size))
  have R4 := Lib.hid r4
  clear r4 off4 sz4
  go_wp2
  exact bodyPost_ret (results_pf Tryz.results57 _ _ w.heap.size AI (0, 0) _ _ rfl rfl rfl R4.out SZI.out) rfl ⟨rfl, B4.out⟩
end Go.Proofs.YtnohonjjfjppoaaGreatDoor

/-
  Layer 13, the program: the first of the files stands in a directory within: its tree is put.
-/
namespace Go.Proofs.YtnohonjjfjppoaaGreatDoor
set_option maxRecDepth 20000
open Go.RowKit
set_option linter.unusedVariables false
set_option linter.unusedSimpArgs false
theorem chg_below {B : Nat} {w w' : World} (h : Below B w w') : Chg (fun j => B ≤ j) w w' := ⟨h.os, h.tape, h.output, h.size, fun k _ hs => h.block k (Nat.lt_of_not_le hs)⟩
set_option maxHeartbeats 32000000 in
theorem putFirst_dir {w0 : World} {fu : Nat} (H : PutsOK w0 fu) {S : Nat → Prop} {w : World} {g : Nat} {M : List Cel} {b o : Nat} {c k n cn e : Nat} {f : Fil} {r : List Fil} {D nm : List UInt8} (h : StoreP S w g M) (hb0 : Below w0.heap.size w0 w) (hS0 : ∀ j, S j → w0.heap.size ≤ j)
    (hn : n = r.length + 1) (hat : FilesAt w (some ⟨b, o, none⟩) (f :: r)) (hSb : ¬ S b) (hd : InDir k D (f :: r)) (hc : n ≤ c) (hcm : c ≤ maxLen) (hs : slashF (f.path.drop k) < (f.path.drop k).length)
    (hnm : nm = headF (f.path.drop k)) (he : e = k + slashF (f.path.drop k) + 1) (hcn : cn = cntF (nm ++ [47]) ((f :: r).map (cutF k)))
    (hcost : costF (((f :: r).take cn).map (cutF e)) ≤ fu) (hlen : M.length + slF (((f :: r).take cn).map (cutF e)) + 1 ≤ 5000) :
    Calls Tryz.prog 57 #[.pointer (some ⟨g, 0, none⟩), .slice (some ⟨b, o, none⟩) n c, .int .i64 k] w fun e' w' =>
      e' = .returned (.tuple #[.agg (arrI ⟨4, nm, (wl putM fu M (((f :: r).take cn).map (cutF e)) []).2.1⟩), .int .i64 cn, .int .i64 (wl putM fu M (((f :: r).take cn).map (cutF e)) []).2.2]) ∧
      StoreP (fun j => S j ∨ (w.heap.size ≤ j ∧ j < w'.heap.size)) w' g (wl putM fu M (((f :: r).take cn).map (cutF e)) []).1 ∧ Chg S w w' := by
  have hf := hd.each f (by simp)
  have hdf := dir_first hd hs
  rw [← hnm, ← he] at hdf
  have hln : nm.length = slashF (f.path.drop k) := by rw [hnm]; exact head_len hs
  have hcl : cn ≤ n := by rw [hcn, hn]; have := cnt_le (nm ++ [47]) ((f :: r).map (cutF k)); simpa using this
  have hcu : cntF (f.path.take e) (f :: r) = cn := by rw [hdf.1, hcn]; exact cnt_rel (fun x hx => (hd.each x hx).2.2.2)
  have hsub : InDir e (D ++ (nm ++ [47])) ((f :: r).take cn) := by
    have q := hcu
    rw [hdf.1] at q
    have := dir_sub (x := nm ++ [47]) hd e (by rw [he]; simp [hln]; omega)
    rwa [q] at this
  have hkk : k ≤ 1000000 := by have := hf.2.1; have := hf.2.2.1; omega
  have he6 : e ≤ 1000000 := by have := hf.2.1; have := hdf.2; omega
  have hsl : ((f :: r).take cn).length = cn := by rw [List.length_take]; simp; omega
  have hn6 : n ≤ 1000000 := by rw [hn]; exact hd.few
  have CU := Lib.hid (fun u (hu : Below w.heap.size w u) => countUnder_is (some ⟨b, o, none⟩) n c (f :: r) (f.path.take e) u (by simp [hn]) hn6 (hat.keep hu) (fun x hx => (hd.each x hx).1))
  rw [hcu] at CU
  have CP := Lib.hid (fun u (hu : Below w.heap.size w u) => H (fun j => S j ∧ j < w.heap.size) u g M (some ⟨b, o, none⟩) c e ((f :: r).take cn) (D ++ (nm ++ [47])) ((h.mono (fun j hj hs => ⟨hs, hj⟩)).below hu) (hb0.trans (hu.mono hb0.size)) (fun j hj => hS0 j hj.1) ((hat.take cn).keep hu) (fun ad had => by cases had; exact fun q => hSb q.1) hsub (by rw [hsl]; omega) hcm he6 hcost hlen)
  rw [hsl] at CP
  have rid := wl_id fu M (((f :: r).take cn).map (cutF e)) []
  obtain ⟨R, hR⟩ : ∃ R, wl putM fu M (((f :: r).take cn).map (cutF e)) [] = R := ⟨_, rfl⟩
  rw [hR] at CP rid ⊢
  obtain ⟨RM, RI, RE⟩ := R
  simp only at CP rid ⊢
  have rx : w.rangeAt b o (cellsF f) := by
    have := hat.elem 0 (by simp)
    rwa [show o + 0 * rowF.size = o by omega] at this
  have lx : (Tryz.prog.info? 29).map (·.size) = some (cellsF f).length := by rw [cellsF_len f hf.1]; exact infoFile
  obtain ⟨z, hz, hzs, hzv, hzb, hz1⟩ := zFile_any
  obtain ⟨zi, hzi, hzis, hziv, hzib, hzi1⟩ := zItem_any
  obtain ⟨zd, hzd, hzds, hzdv, hzdb, hzd1⟩ := zId_any
  have hcs : (arrF f).size = 22 := arrF_size f hf.1
  have BI := Lib.hid (built_itm 4 ⟨nm.toArray⟩ RI rid)
  have RIA := Lib.hid (arrI_is 4 nm RI)
  have SZI := Lib.hid (arrI_size ⟨4, nm, RI⟩ rid)
  have OI := Lib.hid (arrI_one ⟨4, nm, RI⟩)
  have II := Lib.hid (info_arr _ SZI.out)
  have SZD := Lib.hid (arrD_size RI rid)
  have OD := Lib.hid (arrD_one RI)
  have ID := Lib.hid (show (Tryz.prog.info? 27).map (·.size) = some (arrD RI).size by rw [SZD.out]; exact info29)
  have CF := Lib.hid (fun u => firstName_is (f.path.drop k) u (by rw [List.length_drop]; omega))
  have HF := Lib.hid (show fstF (f.path.drop k) = (nm, true) by unfold fstF; rw [if_pos hs, hnm])
  have EX := Lib.hid (ext_drop f.path k)
  have ET := Lib.hid (ext_take f.path e)
  have SZ := Lib.hid (size_toArray f.path)
  have SN := Lib.hid (show (⟨nm.toArray⟩ : ByteArray).size = slashF (f.path.drop k) by rw [size_toArray, hln])
  have RX := Lib.hid rx; have LX := Lib.hid lx; have HCS := Lib.hid hcs; have HC1 := Lib.hid (arrF_one f)
  have IF := Lib.hid (show (Tryz.prog.info? 29).map (·.size) = some (arrF f).size by rw [hcs]; exact infoFile)
  have HB := Lib.hid (hat.lt (by simp))
  have B1 := Lib.hid ((Below.refl w.heap.size w).alloc (Nat.le_refl _) (.cells zi 54))
  have HZS := Lib.hid hzs; have HZIS := Lib.hid hzis; have HZDS := Lib.hid hzds
  have hk := hf.2.2.1; have hp6 := hf.2.1; have hn0 : 0 < n := by omega
  have hep := hdf.2
  have HH := Lib.hid h
  obtain ⟨p, hp⟩ : ∃ p, f.path.drop k = p := ⟨_, rfl⟩
  rw [hp] at CF HF EX he SN
  obtain ⟨dd, hdd⟩ : ∃ dd, f.path.take e = dd := ⟨_, rfl⟩
  rw [hdd] at CU ET
  obtain ⟨ln, hl2⟩ : ∃ ln, slashF p = ln := ⟨_, rfl⟩
  rw [hl2] at he SN
  rw [he] at ET hep
  have hei : ((e : Nat) : Int) = (k : Int) + ln + 1 := by omega
  rw [hei] at CP
  obtain ⟨sf, hsf⟩ : ∃ sf : ByteArray, ⟨f.path.toArray⟩ = sf := ⟨_, rfl⟩
  obtain ⟨sp, hsp⟩ : ∃ sp : ByteArray, ⟨p.toArray⟩ = sp := ⟨_, rfl⟩
  obtain ⟨sn, hsn⟩ : ∃ sn : ByteArray, ⟨nm.toArray⟩ = sn := ⟨_, rfl⟩
  obtain ⟨sd, hsd⟩ : ∃ sd : ByteArray, ⟨dd.toArray⟩ = sd := ⟨_, rfl⟩
  rw [hsf] at SZ EX ET
  rw [hsp] at EX
  rw [hsd] at CU ET
  rw [hsn] at BI RIA SN
  have cf := CF.out
  rw [HF.out] at cf
  simp only [hsp, hsn] at cf
  obtain ⟨np, hnp⟩ : ∃ np, f.path.length = np := ⟨_, rfl⟩
  rw [hnp] at SZ EX hk hp6 hep
  have hsz := SZ.out
  have hszn := SN.out
  have x0 := EX.out
  have x1 := ET.out
  have CF := Lib.hid cf
  obtain ⟨AF, hAF⟩ : ∃ A, arrF f = A := ⟨_, rfl⟩
  have Q0 := Lib.hid (show AF[0]? = some (.string sf) by rw [← hAF, ← hsf]; rfl)
  rw [show cellsF f = AF.toList by rw [← hAF]; rfl] at RX LX
  rw [hAF] at IF HCS HC1
  obtain ⟨AI, hAI⟩ : ∃ A, arrI ⟨4, nm, RI⟩ = A := ⟨_, rfl⟩
  rw [hAI] at SZI OI II RIA ⊢
  rw [← RIA.out] at BI
  obtain ⟨AD, hAD⟩ : ∃ A, arrD RI = A := ⟨_, rfl⟩
  rw [hAD] at BI SZD OD ID CP
  have h01 := heap_alloc_new w (.cells zi 54)
  obtain ⟨w1, hw1⟩ : ∃ w1, w.alloc (.cells zi 54) = w1 := ⟨_, rfl⟩
  have hs1 : w1.heap.size = w.heap.size + 1 := by rw [← hw1]; simp
  rw [hw1] at B1 h01
  have HNEW := Lib.hid (show (w1.alloc (.cells z 29)).heap[w.heap.size + 1]? = some (.cells z 29 (0, 0)) by rw [← hs1]; exact heap_alloc_new _ _)
  have RX1 := Lib.hid (show w1.rangeAt b o AF.toList from fun j v hv => (B1.out.cell (p := ⟨b, o + j, none⟩) HB.out).trans (RX.out j v hv))
  have H01 := Lib.hid h01
  have hcl2 := hcl; have hc2 : n ≤ c := hc
  clear H h hb0 hS0 hd hat hf hdf hln hcu hsub hsl hcost hlen rid rx lx hz hzs hzb hz1 hzi hzis hzib hzi1 hzd hzds hzdb hzd1 hcs cf hs hp hsf hsp hsn hsd hnp hAF hAI hAD h01 hn hR RIA hnm hdd hl2 hcn hcm hSb hcl hkk he hei he6
  go_enter Tryz.func57, Tryz.ntmps57
  go_wp2_with (first
    | (with_reducible refine wpList_load_mid rfl 29 (.tmp 17) rfl b o rfl AF.toList _ RX1.out Tryz.underlying29 rfl LX.out ?_)
    | (with_reducible refine wpList_store_all rfl 29 (.tmp 9) (.tmp 18) rfl (w.heap.size + 1) AF rfl rfl 29 z HNEW.out IF.out (HCS.out.trans HZS.out.symm) HC1.out ?_)
    | fail)
  intro w2 r2 off2 sz2
  clear hw1 HNEW
  have hs2 : w2.heap.size = w.heap.size + 2 := by rw [sz2]
  have b12 : Below w1.heap.size w1 w2 := ((Below.refl w1.heap.size w1).alloc (Nat.le_refl _) (.cells z 29)).trans (off2.below (by omega) (by simp))
  have hi2 := (b12.block w.heap.size (by omega)).trans H01.out
  have B2 := Lib.hid (B1.out.trans (b12.mono B1.out.size))
  have q0 : w2.cell? ⟨w.heap.size + 1, 0, none⟩ = some (.string sf) := by rw [Lib.cell_of_heap r2]; exact Q0.out
  have R2 := Lib.hid r2; have HI2 := Lib.hid hi2; have HS2 := Lib.hid hs2
  clear r2 off2 sz2 hs2 b12 hi2 hs1
  go_wp2_with fail
  refine (CF.out _).mono ?_
  rintro e9 w3 ⟨rfl, b3⟩
  have hs2 := HS2.out
  have r3 := (b3.block (w.heap.size + 1) (by omega)).trans R2.out
  have hi3 := (b3.block w.heap.size (by omega)).trans HI2.out
  have B3 := Lib.hid (B2.out.trans (b3.mono B2.out.size))
  have q1 : w3.cell? ⟨w.heap.size + 1, 0, none⟩ = some (.string sf) := by rw [Lib.cell_of_heap r3]; exact Q0.out
  have hs3 : w.heap.size + 2 ≤ w3.heap.size := by have := b3.size; omega
  have HI3 := Lib.hid hi3; have HS3 := Lib.hid hs3
  clear r3 hi3 b3 q0 hs2 hs3 R2 HI2
  go_wp2_with fail
  rw [x1]
  refine (CU.out _ B3.out).mono ?_
  rintro e9 w4 ⟨rfl, b4⟩
  have B4 := Lib.hid (B3.out.trans (b4.mono B3.out.size))
  have HI4 := Lib.hid ((b4.block w.heap.size (by have := HS3.out; omega)).trans HI3.out)
  have HS4 := Lib.hid (Nat.le_trans HS3.out b4.size)
  clear b4 q1 HI3
  go_wp2_with fail
  refine (CP.out _ B4.out).mono ?_
  rintro e9 w5 ⟨rfl, h5, c5⟩
  have HI5 := Lib.hid ((c5.block w.heap.size (by have := HS4.out; omega) (fun q => Nat.lt_irrefl _ q.2)).trans HI4.out)
  have H5 := Lib.hid h5; have C5 := Lib.hid c5; have HS5 := Lib.hid (Nat.le_trans HS4.out c5.size)
  clear h5 c5 HI4
  go_wp2_with (first
    | (with_reducible refine wpList_store_all rfl 27 (.tmp 14) (.tmp 53) rfl w5.heap.size AD rfl rfl 27 zd (heap_alloc_new _ _) ID.out (SZD.out.trans HZDS.out.symm) OD.out ?_)
    | fail)
  intro w6 r6 off6 sz6
  have b56 : Below w5.heap.size w5 w6 := ((Below.refl w5.heap.size w5).alloc (Nat.le_refl _) (.cells zd 27)).trans (off6.below (Nat.le_refl _) (by simp))
  have HI6 := Lib.hid ((b56.block w.heap.size (by have := HS5.out; omega)).trans HI5.out)
  have R6 := Lib.hid r6; have B56 := Lib.hid b56
  clear r6 off6 sz6 b56
  go_wp2_with (first
    | (with_reducible refine wpList_load_all 27 (.tmp 14) rfl (by kernel_rfl) w5.heap.size AD 27 (0, 0) rfl R6.out _ Tryz.underlying27 rfl ID.out ?_)
    | (refine wpList_build_three rfl 54 0 1 2 _ _ _ rfl _ _ _ rfl rfl rfl AI BI.out ?_)
    | (with_reducible refine wpList_store_all rfl 54 (.tmp 6) (.tmp 57) rfl w.heap.size AI rfl rfl 54 zi HI6.out II.out (SZI.out.trans HZIS.out.symm) OI.out ?_)
    | fail)
  intro w7 r7 off7 sz7
  have b57 : Below w.heap.size w5 w7 := (B56.out.mono (by have := HS5.out; omega)).trans (off7.below (Nat.le_refl _) (by have := B56.out.size; have := HS5.out; omega))
  have k57 : Stays (fun j => (S j ∧ j < w.heap.size) ∨ (w4.heap.size ≤ j ∧ j < w5.heap.size)) w5 w7 := ⟨b57.size, fun j hj hl => by
    have e1 := off7.block j (by have := B56.out.size; omega) (fun q => by rcases hj with hj | hj <;> have := HS4.out <;> omega)
    exact e1.trans (B56.out.block j hl)⟩
  have st7 := (H5.out.keep k57).mono (S' := fun j => S j ∨ (w.heap.size ≤ j ∧ j < w7.heap.size)) (fun j hj hs => by
    rcases hs with hs | hs
    · exact .inl hs.1
    · exact .inr ⟨by have := HS4.out; omega, hj⟩)
  have ch7 : Chg S w w7 := (((Chg.of_below (S := S) B4.out).more C5.out (fun j _ q => q.1)).more (chg_below b57) (fun j hj q => by omega))
  have R7 := Lib.hid r7; have ST7 := Lib.hid st7; have CH7 := Lib.hid ch7
  clear r7 off7 sz7 b57 k57 st7 ch7
  go_wp2
  exact bodyPost_ret (results_pf Tryz.results57 _ _ w.heap.size AI (0, 0) _ _ rfl rfl rfl R7.out SZI.out) rfl ⟨rfl, ST7.out, CH7.out⟩
end Go.Proofs.YtnohonjjfjppoaaGreatDoor

/-
  Layer 13, the program: a directory's files put.
-/
namespace Go.Proofs.YtnohonjjfjppoaaGreatDoor
set_option maxRecDepth 20000
open Go.RowKit
set_option linter.unusedVariables false
set_option linter.unusedSimpArgs false
theorem putFirst_is {w0 : World} {fu : Nat} (H : PutsOK w0 fu) {S : Nat → Prop} {w : World} {g : Nat} {M : List Cel} {b o : Nat} {c k n : Nat} {f : Fil} {r : List Fil} {D : List UInt8} (h : StoreP S w g M) (hb0 : Below w0.heap.size w0 w) (hS0 : ∀ j, S j → w0.heap.size ≤ j)
    (hn : n = r.length + 1) (hat : FilesAt w (some ⟨b, o, none⟩) (f :: r)) (hSb : ¬ S b) (hd : InDir k D (f :: r)) (hc : n ≤ c) (hcm : c ≤ maxLen) (hcost : costF ((f :: r).map (cutF k)) ≤ fu + 1) (hlen : M.length + slF ((f :: r).map (cutF k)) ≤ 5000) :
    Calls Tryz.prog 57 #[.pointer (some ⟨g, 0, none⟩), .slice (some ⟨b, o, none⟩) n c, .int .i64 k] w fun e' w' =>
      e' = .returned (.tuple #[.agg (arrI (pfF putM fu M ((f :: r).map (cutF k))).1), .int .i64 (pfF putM fu M ((f :: r).map (cutF k))).2.1, .int .i64 (pfF putM fu M ((f :: r).map (cutF k))).2.2.1]) ∧
      StoreP (fun j => S j ∨ (w.heap.size ≤ j ∧ j < w'.heap.size)) w' g (pfF putM fu M ((f :: r).map (cutF k))).2.2.2 ∧ Chg S w w' := by
  have e0 : (cutF k f).path = f.path.drop k := rfl
  by_cases hs : slashF (f.path.drop k) < (f.path.drop k).length
  · have hp : pfF putM fu M ((f :: r).map (cutF k)) =
        (⟨4, headF (f.path.drop k), (wl putM fu M (((f :: r).take (cntF (headF (f.path.drop k) ++ [47]) ((f :: r).map (cutF k)))).map (cutF (k + slashF (f.path.drop k) + 1))) []).2.1⟩, cntF (headF (f.path.drop k) ++ [47]) ((f :: r).map (cutF k)),
          (wl putM fu M (((f :: r).take (cntF (headF (f.path.drop k) ++ [47]) ((f :: r).map (cutF k)))).map (cutF (k + slashF (f.path.drop k) + 1))) []).2.2, (wl putM fu M (((f :: r).take (cntF (headF (f.path.drop k) ++ [47]) ((f :: r).map (cutF k)))).map (cutF (k + slashF (f.path.drop k) + 1))) []).1) := by
      rw [List.map_cons, pfF, e0, if_pos hs, ← List.map_cons, ← List.map_take, cut_cut, Nat.add_assoc]
    have hg := group_cost (f := cutF k f) (r := r.map (cutF k)) hs
    rw [e0, ← List.map_cons, ← List.map_take, cut_cut, ← Nat.add_assoc] at hg
    rw [hp]
    exact putFirst_dir H h hb0 hS0 hn hat hSb hd hc hcm hs rfl rfl rfl (by omega) (by omega)
  · have hp : pfF putM fu M ((f :: r).map (cutF k)) = (⟨f.mode, f.path.drop k, f.id⟩, 1, 0, M) := by
      rw [List.map_cons, pfF, e0, if_neg hs]
      rfl
    rw [hp]
    refine (putFirst_file (g := g) (c := c) hn hat hd hs).mono ?_
    rintro e' w' ⟨rfl, hb⟩
    exact ⟨rfl, (h.below hb).mono (fun j _ q => .inl q), Chg.of_below hb⟩
theorem pf_item (fu : Nat) (M : List Cel) (k : Nat) (f : Fil) (r : List Fil) (hf : f.id.length = 20 ∧ f.path.length ≤ 1000000) : (pfF putM fu M ((f :: r).map (cutF k))).1.id.length = 20 ∧ (pfF putM fu M ((f :: r).map (cutF k))).1.name.length ≤ 1000000 := by
  have e0 : (cutF k f).path = f.path.drop k := rfl
  rw [List.map_cons, pfF, e0]
  by_cases hs : slashF (f.path.drop k) < (f.path.drop k).length
  · rw [if_pos hs]
    refine ⟨wl_id _ _ _ _, ?_⟩
    show (headF (f.path.drop k)).length ≤ _
    rw [head_len hs]
    rw [List.length_drop] at hs
    omega
  · rw [if_neg hs]
    refine ⟨hf.1, ?_⟩
    show (f.path.drop k).length ≤ _
    rw [List.length_drop]
    omega
def slLen : Value → Nat
  | .slice _ n _ => n
  | _ => 0
end Go.Proofs.YtnohonjjfjppoaaGreatDoor

/-
  Layer 8: rows of items that a call owns.
-/
namespace Go.Proofs.YtnohonjjfjppoaaGreatDoor
set_option maxRecDepth 20000
open Go.RowKit
set_option linter.unusedVariables false
set_option linter.unusedSimpArgs false
/-- A row of items that a call owns. -/
abbrev OwnI (B : Nat) (v : Value) (l : List Itm) (w : World) : Prop := w.ownsRow B 54 22 v l.length (l.flatMap cellsI)
theorem ownI_nil (w : World) (B : Nat) : OwnI B (.slice none 0 0) [] w := World.ownsRow_nil w B _ _
theorem ownI_below {B : Nat} {v : Value} {l : List Itm} {w w' : World} (h : OwnI B v l w) (hb : Below w.heap.size w w') : OwnI B v l w' :=
  World.ownsRow.kept (row := none) h ⟨hb.os, hb.tape, hb.output, hb.size, fun k hk _ => hb.block k hk⟩ (by cases v.ownBlock <;> simp)
theorem flat_at : ∀ (l : List Itm) (hid : ∀ i ∈ l, i.id.length = 20) (k : Nat) (h : k < l.length) (j : Nat) (v : Value), (cellsI l[k])[j]? = some v → (l.flatMap cellsI)[k * 22 + j]? = some v
  | [], _, k, h, _, _, _ => absurd h (Nat.not_lt_zero _)
  | i :: l, hid, 0, h, j, v, hv => by
    have hj : j < (cellsI i).length := (List.getElem?_eq_some_iff.1 hv).1
    rw [List.flatMap_cons, Nat.zero_mul, Nat.zero_add, List.getElem?_append_left hj]
    exact hv
  | i :: l, hid, k + 1, h, j, v, hv => by
    have hl := cellsI_len i (hid i (by simp))
    rw [List.flatMap_cons, List.getElem?_append_right (by omega), hl, show (k + 1) * 22 + j - 22 = k * 22 + j by omega]
    exact flat_at l (fun x hx => hid x (by simp [hx])) k (by simpa using h) j v hv
theorem ownI_items {B : Nat} {v : Value} {l : List Itm} {w : World} (h : OwnI B v l w) (hid : ∀ i ∈ l, i.id.length = 20) : ∃ a c, v = .slice a l.length c ∧ l.length ≤ c ∧ c ≤ maxLen ∧ ItemsAt w a l ∧ (a = none → l.length = 0 ∧ c = 0) := by
  rcases h.2 with ⟨hv, h0⟩ | ⟨g, cap, cur, hv, hB, hg, hc, hm, _, _⟩
  · obtain rfl : l = [] := List.eq_nil_of_length_eq_zero h0
    exact ⟨none, 0, hv, Nat.le_refl _, Nat.zero_le _, ItemsAt.nil w _, fun _ => ⟨rfl, rfl⟩⟩
  · have hcs := World.ownsRow.cells h (g := g) (by rw [hv]; rfl)
    refine ⟨_, cap, hv, hc, hm, fun _ => ⟨g, 0, rfl, (Array.getElem?_eq_some_iff.1 hg).1, fun k hk j u hu => ?_⟩, fun e => by cases e⟩
    have := hcs (k * 22 + j) u (flat_at l hid k hk j u hu)
    rw [show (⟨g, 0, none⟩ : Addr).add (k * 22 + j) = ⟨g, 0 + k * 22 + j, none⟩ by unfold Addr.add; split <;> simp_all] at this
    exact this
theorem info_item : (Tryz.prog.info? 54).map (fun i => (i.zero, i.size)) = some (some (.agg (arrI zItm)), 22) := zItem
theorem info_item_b : (Tryz.prog.info? 54).map (fun i => i.bytes) = some 48 := by kernel_rfl
theorem info_all : ∃ ie, Tryz.prog.info? 54 = some ie ∧ ie.zero = some (.agg (arrI zItm)) ∧ ie.size = 22 ∧ ie.bytes = 48 := by
  have h1 := info_item
  have h2 := info_item_b
  cases hq : Tryz.prog.info? 54 with
  | none => rw [hq] at h1; cases h1
  | some ie =>
    rw [hq] at h1 h2
    simp only [Option.map_some, Option.some.injEq, Prod.mk.injEq] at h1 h2
    exact ⟨ie, rfl, h1.1, h1.2, h2⟩
theorem fill_one (A z : Array Value) (hA : A.size = 22) (hz : z.size = 22) : Instr.fill (fun i => some (i * 22, 22)) z [(0, .agg A)] = some A := by
  have h := Great.fill_whole (s := 22) (by decide) [.agg A] z (fun v hv => by simp at hv; subst hv; exact hA) (by simp [hz])
  simpa [Value.cells] using h
/-- A literal of one item: a block of its own. -/
theorem wpList_build_item {ops : Array Oper} {rest : List Oper} {o : Oper} {a : Act} {w : World} {Q : Exit → Act → World → Prop} (hgd : o.guard = none) (x : Operand) (ho : o.op = .buildSlice 57 1 #[(0, x)])
    (A : Array Value) (hA : A.size = 22) (hx : a.eval x = .agg A)
    (h : wpList Tryz.prog ops Q rest (a.put o.dst (.slice (some ⟨w.heap.size, 0, none⟩) 1 1)) (w.alloc (.cells A 54))) : wpList Tryz.prog ops Q (o :: rest) a w := by
  obtain ⟨ie, hie, hz, hs, _⟩ := info_all
  have hzs : (arrI zItm).size = 22 := arrI_size _ (by simp [zItm, zeroId])
  refine wpList_buildSlice hgd 57 54 1 _ ho A ie (.agg (arrI zItm)) Tryz.underlying57 hie hz (by rw [hs]; decide) (by rw [hs]; decide) ?_ h
  rw [hs]
  have e : (Array.map (fun (p : Nat × Operand) => (p.1, a.eval p.2)) #[(0, x)]).toList = [(0, .agg A)] := by simp [hx]
  rw [show (fun (p : Nat × Operand) => match p with | (i, x) => (i, a.eval x)) = (fun (p : Nat × Operand) => (p.1, a.eval p.2)) from rfl, e]
  exact fill_one A _ hA (by simp)
/-- 'append(l, x)'. -/
theorem wpList_append_item {ops : Array Oper} {rest : List Oper} {o : Oper} {a : Act} {w : World} {Q : Exit → Act → World → Prop} (hgd : o.guard = none) (sl x : Operand)
    (ho : o.op = .call { callee := .builtin .append, args := #[sl, x], argTypes := #[57, 57] }) (B : Nat) (v : Value) (l : List Itm) (i : Itm) (g : Nat) (A : Array Value) (hA : A = arrI i) (hs : a.eval sl = v) (hx : a.eval x = .slice (some ⟨g, 0, none⟩) 1 1)
    (hg : w.heap[g]? = some (.cells A 54 (0, 0))) (hid : i.id.length = 20) (hown : OwnI B v l w) (hb : l.length ≤ 1000000000) (hB : B ≤ w.heap.size)
    (h : ∀ v' w', OwnI B v' (l ++ [i]) w' → w.grownBy w' v.ownBlock → wpList Tryz.prog ops Q rest (a.put o.dst v') w') : wpList Tryz.prog ops Q (o :: rest) a w := by
  obtain ⟨ie, hie, hz, hsz, hby⟩ := info_all
  refine wpList_append_own w hgd sl x 57 ho B 54 ie (.agg (arrI zItm)) 22 48 Tryz.underlying57 hie hz hsz hby (arrI_size _ (by simp [zItm, zeroId])) (by decide) v l.length (l.flatMap cellsI) hs hown ⟨g, 0, none⟩ 1 1 (cellsI i) hx (by rw [cellsI_len i hid]) (fun j u hu => ?_) (fun u hu => (Array.all_eq_true_iff_forall_mem.1 (cellsI_one i)) u (by simpa using hu)) (by unfold maxLen; omega) (by omega) hB ?_
  · have := row_cells (i := i) (by rw [hA] at hg; exact hg) j u hu
    rw [show (⟨g, 0, none⟩ : Addr).add j = ⟨g, 0 + j, none⟩ by unfold Addr.add; split <;> simp_all]
    exact this
  · intro v' w' ho hgr _
    refine h v' w' ?_ hgr
    unfold OwnI
    rw [List.length_append, List.flatMap_append]
    simpa using ho
end Go.Proofs.YtnohonjjfjppoaaGreatDoor
