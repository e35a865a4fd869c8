/-
  Texts that belong together, one behind the other.
-/
import Derived.Test.YtnohonjjfjppoaaGreatDoorFu11
import Derived.Test.YtnohonjjfjppoaaGreatDoorFu06
import Derived.Test.YtnohonjjfjppoaaGreatDoorFu04
import Derived.Test.YtnohonjjfjppoaaGreatDoorFu08
import Derived.Test.YtnohonjjfjppoaaGreatDoorFu02
/-
  Layer 13, the program: Right of any list.
-/
namespace Go.Proofs.YtnohonjjfjppoaaGreatDoor
set_option maxRecDepth 20000
open Go.RowKit Go.Maps
set_option linter.unusedVariables false
set_option linter.unusedSimpArgs false
set_option maxHeartbeats 2000000 in
theorem fRight_is (a : Option Addr) (n c : Nat) (l : List Fil) (w : World) (hn : n = l.length) (hm : n ≤ maxLen) (hat : FilesAt w a l) (hid : ∀ i ∈ l, i.id.length = 20) (hnm : ∀ i ∈ l, i.path.length ≤ 1000000) (tab : QTab w) :
    Calls Tryz.prog 15 #[.slice a n c] w fun e w' => e = .returned (.bool (rightF l)) ∧ Below w.heap.size w w' := by
  by_cases h1 : n = 0
  · have hR : rightF l = true := by
      have : l = [] := List.eq_nil_of_length_eq_zero (by omega)
      subst this
      rfl
    rw [hR]
    subst h1
    clear hn hm hat hid hnm tab hR
    have hmm := run_makeMap_hint (0 : Int)
    go_enter Tryz.func15, Tryz.ntmps15
    go_wp2_with fail
    refine wp_loop_rounds 1 ?_
    rw [rounds_succ]
    go_wp2
    go_ret
    exact ⟨rfl, (Below.refl _ _).alloc (Nat.le_refl _) _⟩
  · by_cases h5 : 500 < n
    · have hR := rightF_len l (by omega)
      have g2 : (n : Int) > 500 := by omega
      rw [hR]
      clear hn hm hat hid hnm tab hR h1 h5
      go_enter Tryz.func15, Tryz.ntmps15
      go_wp2
      go_ret
      exact ⟨rfl, Below.refl _ _⟩
    · obtain ⟨b, o, rfl, -⟩ := hat.some (by omega)
      exact fRight_some b o n c l w hn (by omega) (by omega) hat hid hnm tab
end Go.Proofs.YtnohonjjfjppoaaGreatDoor

/-
  Layer 8, the program: takeMode.
-/
namespace Go.Proofs.YtnohonjjfjppoaaGreatDoor
set_option maxRecDepth 20000
open Go.RowKit
set_option linter.unusedVariables false
set_option linter.unusedSimpArgs false
/-- The mode whose digits, and a blank, begin bytes. -/
def modeAt (b : List UInt8) : Option Int := ([1, 2, 3, 4] : List Int).find? (fun m => (modeL m ++ [32]).isPrefixOf b)
theorem modeAt_first {b : List UInt8} {k : Int} (h1 : 1 ≤ k) (h4 : k ≤ 4) (hn : ∀ m : Int, 1 ≤ m → m < k → (modeL m ++ [32]).isPrefixOf b = false) (h : (modeL k ++ [32]).isPrefixOf b = true) : modeAt b = some k := by
  have h0 : k = 1 ∨ k = 2 ∨ k = 3 ∨ k = 4 := by omega
  unfold modeAt
  rcases h0 with rfl | rfl | rfl | rfl
  · simp only [List.find?_cons, h]
  · have a := hn 1 (by omega) (by omega)
    simp only [List.find?_cons, h, a]
  · have a := hn 1 (by omega) (by omega)
    have b := hn 2 (by omega) (by omega)
    simp only [List.find?_cons, h, a, b]
  · have a := hn 1 (by omega) (by omega)
    have b := hn 2 (by omega) (by omega)
    have c := hn 3 (by omega) (by omega)
    simp only [List.find?_cons, h, a, b, c]
/-- What takeMode answers. -/
def modeR (b : List UInt8) : Int × Int := match modeAt b with
  | none => (0, 0)
  | some m => (m, (((modeL m).length + 1 : Nat) : Int))
theorem modeR_first {b : List UInt8} {k : Int} (h1 : 1 ≤ k) (h4 : k ≤ 4) (hn : ∀ m : Int, 1 ≤ m → m < k → (modeL m ++ [32]).isPrefixOf b = false) (h : (modeL k ++ [32]).isPrefixOf b = true) : modeR b = (k, (((wordI k ++ [32]).length : Nat) : Int)) := by
  unfold modeR
  rw [modeAt_first h1 h4 hn h, word_yes k ⟨h1, h4⟩]
  simp
theorem modeR_none {b : List UInt8} (hn : ∀ m : Int, 1 ≤ m → m < 5 → (modeL m ++ [32]).isPrefixOf b = false) : modeR b = (0, 0) := by
  unfold modeR modeAt
  rw [find_none (fun m h1 h4 => hn m h1 (by omega))]
set_option maxHeartbeats 4000000 in
theorem takeMode_is (l : List UInt8) (w : World) (hn : l.length ≤ 1000000) :
    Calls Tryz.prog 159 #[.string ⟨l.toArray⟩] w fun e w' => e = .returned (.tuple #[.int .i64 (modeR l).1, .int .i64 (modeR l).2]) ∧ w = w' := by
  have cp0 : ∀ (p : List UInt8) (w : World), Calls Tryz.prog 124 #[.string ⟨l.toArray⟩, .string ⟨p.toArray⟩] w fun e w' => e = .returned (.bool (p.isPrefixOf l)) ∧ w' = w := fun p w => Tryz.strings_HasPrefix ⟨l.toArray⟩ ⟨p.toArray⟩ w
  have CP := Lib.hid cp0
  clear cp0
  have FI := Lib.hid (fun k h1 h4 hn h => @modeR_first l k h1 h4 hn h)
  have NO := Lib.hid (fun hn => @modeR_none l hn)
  obtain ⟨R, hR⟩ : ∃ R, modeR l = R := ⟨_, rfl⟩
  rw [hR] at FI NO ⊢
  clear hR
  obtain ⟨s, hs⟩ : ∃ s : ByteArray, ⟨l.toArray⟩ = s := ⟨_, rfl⟩
  rw [hs] at CP ⊢
  clear hs
  go_enter Tryz.func159, Tryz.ntmps159
  go_wp2_with fail
  go_loopw [4] (fun v4 wr => ∃ k : Nat, 1 ≤ k ∧ k ≤ 5 ∧ v4 = .int .i64 k ∧ (∀ m : Int, 1 ≤ m → m < k → (modeL m ++ [32]).isPrefixOf l = false) ∧ wr = w) (fun v4 _ => 5 - (intOf v4).toNat)
  case atStart => exact ⟨1, Nat.le_refl _, by omega, rfl, fun m h1 h2 => absurd h2 (by omega), rfl⟩
  case round =>
    obtain ⟨k, hk1, hk5, rfl, hno, rfl⟩ := hrel
    have HNO := Lib.hid hno
    clear hno
    by_cases hlt : k ≤ 4
    · have cW := fun w => tword_is (k : Int) w
      have hw := word_yes (k : Int) ⟨by omega, by omega⟩
      have cp := fun w => CP.out (wordI (k : Int) ++ [32]) w
      have fi := FI.out (k : Int) (by omega) (by omega) HNO.out
      have ad := fun w => add_lists (P := Tryz.prog) w (wordI (k : Int)) [32] (by
        have := modeL_len (k : Int)
        rw [hw]; simp; omega)
      have sz := size_toArray (wordI (k : Int) ++ [32])
      rw [← hw] at fi
      obtain ⟨r, hr⟩ : ∃ r, (wordI (k : Int) ++ [32]).isPrefixOf l = r := ⟨_, rfl⟩
      rw [hr] at cp fi
      have HRR := Lib.hid (show (modeL (k : Int) ++ [32]).isPrefixOf l = r by rw [← hw]; exact hr)
      obtain ⟨n, hn2⟩ : ∃ n, (wordI (k : Int) ++ [32]).length = n := ⟨_, rfl⟩
      rw [hn2] at sz fi
      generalize (⟨(wordI (k : Int) ++ [32]).toArray⟩ : ByteArray) = s2 at ad cp sz
      generalize (⟨(wordI (k : Int)).toArray⟩ : ByteArray) = s1 at ad cW
      clear hw hr hn2
      cases r with
      | false =>
        clear fi
        go_wp2_with fail
        refine (cW _).mono ?_
        rintro e w1 ⟨rfl, rfl⟩
        go_wp2_with fail
        refine (cp _).mono ?_
        rintro e w1 ⟨rfl, rfl⟩
        go_wp2
        go_roundw
        case rel =>
          refine ⟨k + 1, by omega, by omega, by go_num, fun m h1 h2 => ?_, by trivial⟩
          by_cases h : m < (k : Int)
          · exact HNO.out m h1 h
          · obtain rfl : m = (k : Int) := by omega
            exact HRR.out
        case measure => simp [intOf]; omega
      | true =>
        have fi2 := fi rfl
        subst fi2
        clear fi
        go_wp2_with fail
        refine (cW _).mono ?_
        rintro e w1 ⟨rfl, rfl⟩
        go_wp2_with fail
        refine (cp _).mono ?_
        rintro e w1 ⟨rfl, rfl⟩
        go_wp2
        go_ret2
        exact ⟨rfl, rfl⟩
    · have hk : k = 5 := by omega
      subst hk
      have no := NO.out HNO.out
      subst no
      go_wp2
      go_ret2
      exact ⟨rfl, rfl⟩
end Go.Proofs.YtnohonjjfjppoaaGreatDoor

/-
  Layer 13, the program: how many files stand in a directory.
-/
namespace Go.Proofs.YtnohonjjfjppoaaGreatDoor
set_option maxRecDepth 20000
open Go.RowKit
set_option linter.unusedVariables false
set_option linter.unusedSimpArgs false
set_option maxHeartbeats 8000000 in
theorem countUnder_is (a : Option Addr) (n c : Nat) (l : List Fil) (d : List UInt8) (w : World) (hn : n = l.length) (hm : n ≤ 1000000) (hat : FilesAt w a l) (hid : ∀ i ∈ l, i.id.length = 20) :
    Calls Tryz.prog 93 #[.slice a n c, .string ⟨d.toArray⟩] w fun e w' => e = .returned (.int .i64 (cntF d l)) ∧ Below w.heap.size w w' := by
  have cH : ∀ (p : List UInt8) (w : World), Calls Tryz.prog 124 #[.string ⟨p.toArray⟩, .string ⟨d.toArray⟩] w fun e w' => e = .returned (.bool (d.isPrefixOf p)) ∧ w' = w := fun p w => Tryz.strings_HasPrefix ⟨p.toArray⟩ ⟨d.toArray⟩ w
  have HN := Lib.hid hn; have HM := Lib.hid hm; have HAT := Lib.hid hat; have HID := Lib.hid hid; have CH := Lib.hid cH
  obtain ⟨R, hR⟩ : ∃ R, cntF d l = R := ⟨_, rfl⟩
  have STOP := Lib.hid (fun k hk h hs => hR.symm.trans (@cnt_is d l k hk h hs))
  rw [hR]
  obtain ⟨z, hz, hzs, hzv, hzb, hz1⟩ := zFile_any
  have HZS := Lib.hid hzs
  obtain ⟨sd, hsd⟩ : ∃ sd : ByteArray, ⟨d.toArray⟩ = sd := ⟨_, rfl⟩
  rw [hsd] at CH ⊢
  clear hn hm hat hid hR hz hzs hzb hz1 cH hsd
  go_enter Tryz.func93, Tryz.ntmps93
  go_wp2_with fail
  go_loopw [9] (fun v9 wr => ∃ i : Nat, i ≤ n ∧ v9 = .int .i64 i ∧ (∀ j (hj : j < l.length), j < i → d.isPrefixOf l[j].path = true) ∧ Below w.heap.size w wr) (fun v9 _ => n - (intOf v9).toNat)
  case atStart => exact ⟨0, Nat.zero_le _, rfl, fun j _ hj => absurd hj (Nat.not_lt_zero _), Below.refl _ _⟩
  case round =>
    obtain ⟨i, hi, rfl, hst, hbr⟩ := hrel
    have HST := Lib.hid hst
    have HBR := Lib.hid hbr
    clear hst hbr
    by_cases hlt : i < n
    · have hil : i < l.length := by rw [← HN.out]; exact hlt
      have HLT := Lib.hid hlt
      have hm3 := HM.out
      obtain ⟨b, o, rfl, hbl⟩ := HAT.out.some (by omega)
      obtain ⟨x, hx2⟩ : ∃ x, l[i] = x := ⟨_, rfl⟩
      have hxm : x ∈ l := by rw [← hx2]; exact List.getElem_mem _
      have hidx := HID.out x hxm
      have rx : wr.rangeAt b (o + i * 22) (cellsF x) := fun j v hv => (HBR.out.cell (p := ⟨b, o + i * 22 + j, none⟩) hbl).trans (HAT.out.elem i hil j v (by rw [hx2]; exact hv))
      have lx : (Tryz.prog.info? 29).map (·.size) = some (cellsF x).length := by rw [cellsF_len x hidx]; exact infoFile
      have hcs : (arrF x).size = 22 := arrF_size x hidx
      have hc1 : (arrF x).all (·.oneCell') = true := arrF_one x
      have b1 := below_setRow (B := wr.heap.size) (g := wr.heap.size) ((Below.refl wr.heap.size wr).alloc (Nat.le_refl _) (.cells z 29)) (Nat.le_refl _) (arrF x)
      have h1g := setRow_heap (wr.alloc (.cells z 29)) wr.heap.size z (arrF x) 29 (0, 0) (heap_alloc_new wr _)
      have hax : arrF x = (cellsF x).toArray := rfl
      have cp := fun w => CH.out x.path w
      obtain ⟨sx, hsx⟩ : ∃ sx : ByteArray, ⟨x.path.toArray⟩ = sx := ⟨_, rfl⟩
      obtain ⟨cx, hcx⟩ : ∃ cx, cellsF x = cx := ⟨_, rfl⟩
      have icx : cx[0]? = some (.string sx) := by rw [← hcx, ← hsx]; rfl
      rw [hsx] at cp
      rw [hcx] at rx lx hax
      rw [hax] at hcs hc1 b1 h1g
      have RX := Lib.hid rx; have LX := Lib.hid lx; have HCS := Lib.hid hcs; have HC1 := Lib.hid hc1; have II := Lib.hid (show (Tryz.prog.info? 29).map (·.size) = some cx.toArray.size by rw [hcs]; exact infoFile)
      have HB1 := Lib.hid (HBR.out.trans (b1.mono HBR.out.size)); have H1G := Lib.hid h1g; have CP := Lib.hid cp; have ICX := Lib.hid icx
      have PRE := Lib.hid (show d.isPrefixOf l[i].path = d.isPrefixOf x.path by rw [hx2])
      obtain ⟨r, hr⟩ : ∃ r, d.isPrefixOf x.path = r := ⟨_, rfl⟩
      have pre := PRE.out
      rw [hr] at pre
      clear PRE CP
      simp only [hr] at cp
      have CP := Lib.hid cp; have PRE := Lib.hid pre
      have q0 : ((wr.alloc (.cells z 29)).setRow wr.heap.size cx.toArray).cell? ⟨wr.heap.size, 0, none⟩ = some (.string sx) := by
        rw [Lib.cell_of_heap h1g]
        simpa using icx
      clear rx lx hcs hc1 b1 h1g hxm hax hcx hx2 cp icx hsx hr pre
      go_wp2_with (first
        | (with_reducible refine wpList_load_mid rfl 29 (.tmp 12) rfl b (o + i * 22) rfl cx _ RX.out Tryz.underlying29 rfl LX.out ?_)
        | (with_reducible refine wpList_store_row rfl 29 (.tmp 6) (.tmp 13) rfl wr.heap.size cx.toArray rfl rfl 29 z (heap_alloc_new wr _) II.out (HZS.out.trans HCS.out.symm) HC1.out ?_)
        | fail)
      refine (CP.out _).mono ?_
      rintro e w1 ⟨rfl, rfl⟩
      cases r with
      | false =>
        have hR := STOP.out i (Nat.le_of_lt hil) HST.out (fun h => PRE.out)
        subst hR
        go_wp2
        go_ret
        exact ⟨rfl, HB1.out⟩
      | true =>
        go_wp2
        go_roundw
        case rel =>
          have hlt2 := HLT.out
          have hm2 := HM.out
          refine ⟨i + 1, by omega, by go_num, fun j hj hji => ?_, HB1.out⟩
          by_cases h2 : j < i
          · exact HST.out j hj h2
          · obtain rfl : j = i := by omega
            exact PRE.out
        case measure =>
          have hlt2 := HLT.out
          have hm2 := HM.out
          simp [intOf]
          omega
    · obtain rfl : i = n := by omega
      have hR := STOP.out i (by rw [← HN.out]; exact Nat.le_refl _) HST.out (fun h => absurd h (by rw [← HN.out]; exact Nat.lt_irrefl _))
      subst hR
      go_wp2
      go_ret
      exact ⟨rfl, HBR.out⟩
end Go.Proofs.YtnohonjjfjppoaaGreatDoor

/-
  Layer 13, plain: the files of a directory by their whole paths, and by what is left of them.
-/
namespace Go.Proofs.YtnohonjjfjppoaaGreatDoor
set_option linter.unusedVariables false
set_option linter.unusedSimpArgs false
/-- Files that stand in one directory: the first k bytes of their paths are D. -/
structure InDir (k : Nat) (D : List UInt8) (l : List Fil) : Prop where
  each : ∀ f ∈ l, f.id.length = 20 ∧ f.path.length ≤ 1000000 ∧ k ≤ f.path.length ∧ f.path.take k = D
  few : l.length ≤ 1000000
theorem InDir.sub {k : Nat} {D : List UInt8} {l m : List Fil} (h : InDir k D l) (hm : ∀ f ∈ m, f ∈ l) (hl : m.length ≤ l.length) : InDir k D m := ⟨fun f hf => h.each f (hm f hf), Nat.le_trans hl h.few⟩
theorem InDir.take {k : Nat} {D : List UInt8} {l : List Fil} (h : InDir k D l) (n : Nat) : InDir k D (l.take n) := h.sub (fun f hf => List.mem_of_mem_take hf) (by rw [List.length_take]; omega)
theorem InDir.drop {k : Nat} {D : List UInt8} {l : List Fil} (h : InDir k D l) (n : Nat) : InDir k D (l.drop n) := h.sub (fun f hf => List.mem_of_mem_drop hf) (by rw [List.length_drop]; omega)
theorem prefix_split {p x : List UInt8} (k : Nat) : (p.take k ++ x).isPrefixOf p = x.isPrefixOf (p.drop k) := by
  rw [Bool.eq_iff_iff, List.isPrefixOf_iff_prefix, List.isPrefixOf_iff_prefix]
  constructor
  · rintro ⟨t, h⟩
    refine ⟨t, ?_⟩
    have h2 := List.take_append_drop k p
    rw [List.append_assoc] at h
    exact List.append_cancel_left (h.trans h2.symm)
  · rintro ⟨t, h⟩
    refine ⟨t, ?_⟩
    rw [List.append_assoc, h, List.take_append_drop]
theorem cnt_rel {k : Nat} {D x : List UInt8} : ∀ {l : List Fil}, (∀ f ∈ l, f.path.take k = D) → cntF (D ++ x) l = cntF x (l.map (cutF k))
  | [], _ => rfl
  | f :: r, h => by
    have ih := cnt_rel (x := x) (l := r) (fun g hg => h g (by simp [hg]))
    have e : (D ++ x).isPrefixOf f.path = x.isPrefixOf (cutF k f).path := by rw [← h f (by simp)]; exact prefix_split k
    rw [List.map_cons, cntF, cntF, e, ih]
theorem cut_cut (a k : Nat) (l : List Fil) : (l.map (cutF k)).map (cutF a) = l.map (cutF (k + a)) := by
  rw [List.map_map]
  refine List.map_congr_left (fun f _ => ?_)
  simp [cutF, List.drop_drop]
theorem cut_zero (l : List Fil) : l.map (cutF 0) = l := by
  have : (cutF 0) = id := by funext f; simp [cutF]
  rw [this, List.map_id]
/-- The first of the files stands in a directory within: what is left of it and of those beside it. -/
theorem dir_first {k : Nat} {D : List UInt8} {f : Fil} {r : List Fil} (h : InDir k D (f :: r)) (hs : slashF (f.path.drop k) < (f.path.drop k).length) :
    f.path.take (k + slashF (f.path.drop k) + 1) = D ++ (headF (f.path.drop k) ++ [47]) ∧ k + slashF (f.path.drop k) + 1 ≤ f.path.length := by
  have h1 := (h.each f (by simp)).2.2
  have h2 := slash_split hs
  have h3 := head_len hs
  have e : f.path = D ++ (headF (f.path.drop k) ++ 47 :: (f.path.drop k).drop (slashF (f.path.drop k) + 1)) := by
    rw [← h2, ← h1.2, List.take_append_drop]
  have hD : D.length = k := by rw [← h1.2, List.length_take]; omega
  generalize (f.path.drop k).drop (slashF (f.path.drop k) + 1) = t at e
  rw [List.length_drop] at hs
  refine ⟨?_, by omega⟩
  generalize headF (f.path.drop k) = nm at h3 e ⊢
  generalize slashF (f.path.drop k) = j at h3 hs ⊢
  have e2 : f.path = (D ++ (nm ++ [47])) ++ t := by rw [e]; simp
  have e3 : k + j + 1 = (D ++ (nm ++ [47])).length := by simp [hD, h3]; omega
  rw [e2, e3, List.take_left]
theorem dir_sub {k : Nat} {D x : List UInt8} {l : List Fil} (h : InDir k D l) (m : Nat) (hm : m = k + x.length) : InDir m (D ++ x) (l.take (cntF (D ++ x) l)) := by
  have h1 := h.take (cntF (D ++ x) l)
  refine ⟨fun f hf => ?_, h1.few⟩
  have h2 := h1.each f hf
  have h3 := cnt_all (D ++ x) l f hf
  rw [List.isPrefixOf_iff_prefix] at h3
  obtain ⟨t, ht⟩ := h3
  have hD : D.length = k := by rw [← h2.2.2.2, List.length_take]; omega
  refine ⟨h2.1, h2.2.1, ?_, ?_⟩
  · rw [← ht]; simp; omega
  · rw [← ht, hm, show k + x.length = (D ++ x).length by simp [hD], List.take_left]
/-- What the first of the files is in, of how many, and what is put. -/
def pfF (pt : PutT) (n : Nat) (M : List Cel) (l : List Fil) : Itm × Nat × Int × List Cel :=
  match l with
  | [] => (⟨0, [], zeroId⟩, 0, 0, M)
  | f :: r =>
    if slashF f.path < f.path.length then
      (⟨4, headF f.path, (wl pt n M (((f :: r).take (cntF (headF f.path ++ [47]) (f :: r))).map (cutF (slashF f.path + 1))) []).2.1⟩, cntF (headF f.path ++ [47]) (f :: r),
        (wl pt n M (((f :: r).take (cntF (headF f.path ++ [47]) (f :: r))).map (cutF (slashF f.path + 1))) []).2.2, (wl pt n M (((f :: r).take (cntF (headF f.path ++ [47]) (f :: r))).map (cutF (slashF f.path + 1))) []).1)
    else (⟨f.mode, f.path, f.id⟩, 1, 0, M)
theorem pf_wl (pt : PutT) (n : Nat) (M : List Cel) (f : Fil) (r : List Fil) (acc : List Itm) : wl pt (n + 1) M (f :: r) acc =
    if (pfF pt n M (f :: r)).2.2.1 = 0 then wl pt n (pfF pt n M (f :: r)).2.2.2 ((f :: r).drop (pfF pt n M (f :: r)).2.1) (acc ++ [(pfF pt n M (f :: r)).1]) else ((pfF pt n M (f :: r)).2.2.2, zeroId, (pfF pt n M (f :: r)).2.2.1) := by
  unfold pfF
  rw [wl]
  by_cases h : slashF f.path < f.path.length
  · rw [if_pos h]
    simp only [if_pos h]
  · rw [if_neg h]
    simp only [if_neg h]
    simp
theorem pf_cnt (pt : PutT) (n : Nat) (M : List Cel) (f : Fil) (r : List Fil) : 1 ≤ (pfF pt n M (f :: r)).2.1 ∧ (pfF pt n M (f :: r)).2.1 ≤ r.length + 1 := by
  unfold pfF
  by_cases h : slashF f.path < f.path.length
  · simp only [if_pos h]
    exact ⟨cnt_pos h, cnt_le _ (f :: r)⟩
  · simp only [if_neg h]
    omega
theorem pf_cost (pt : PutT) (n : Nat) (M : List Cel) (f : Fil) (r : List Fil) : costF ((f :: r).drop (pfF pt n M (f :: r)).2.1) < costF (f :: r) := by
  unfold pfF
  by_cases h : slashF f.path < f.path.length
  · simp only [if_pos h]
    exact (group_cost h).2.1
  · simp only [if_neg h]
    have := (cost_cons f r).1
    rw [List.drop_one, List.tail_cons]
    omega
theorem pf_len {pt : PutT} (hlen : ∀ L k b, (pt L k b).1.length ≤ L.length + 1) (n : Nat) (M : List Cel) (f : Fil) (r : List Fil) : (pfF pt n M (f :: r)).2.2.2.length + slF ((f :: r).drop (pfF pt n M (f :: r)).2.1) ≤ M.length + slF (f :: r) := by
  unfold pfF
  by_cases h : slashF f.path < f.path.length
  · simp only [if_pos h]
    have h1 := (group_cost (r := r) h).2.2
    have h2 := wl_len hlen n M (((f :: r).take (cntF (headF f.path ++ [47]) (f :: r))).map (cutF (slashF f.path + 1))) []
    omega
  · simp only [if_neg h]
    have := (cost_cons f r).2
    rw [List.drop_one, List.tail_cons]
    omega
end Go.Proofs.YtnohonjjfjppoaaGreatDoor
