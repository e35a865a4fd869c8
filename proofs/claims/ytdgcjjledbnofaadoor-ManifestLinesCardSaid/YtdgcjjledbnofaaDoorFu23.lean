/-
  Texts that belong together, one behind the other.
-/
import Derived.Test.YtdgcjjledbnofaaDoorFu22
import Derived.Test.YtdgcjjledbnofaaDoorFu20
import Derived.Test.YtdgcjjledbnofaaDoorShelf
import Derived.Test.YtdgcjjledbnofaaDoorFu01
/-
  Layer 13, the program: Right of any list.
-/
namespace Go.Proofs.YtdgcjjledbnofaaDoor
set_option maxRecDepth 20000
open Go.RowKit Go.Maps
set_option linter.unusedVariables false
set_option linter.unusedSimpArgs false

set_option maxHeartbeats 2000000 in
theorem fRight_is (a : Option Addr) (n c : Nat) (l : List Fil) (w : World) (hn : n = l.length) (hm : n ≤ maxLen) (hat : FilesAt w a l) (hid : ∀ i ∈ l, i.id.length = 20) (hnm : ∀ i ∈ l, i.path.length ≤ 1000000) (tab : QTab w) :
    Calls Tryd.prog 30 #[.slice a n c] w fun e w' => e = .returned (.bool (rightF l)) ∧ Below w.heap.size w w' := by
  by_cases h1 : n = 0
  · have hR : rightF l = true := by
      have : l = [] := List.eq_nil_of_length_eq_zero (by omega)
      subst this
      rfl
    rw [hR]
    subst h1
    clear hn hm hat hid hnm tab hR
    have hmm := run_makeMap_hint (0 : Int)
    go_enter Tryd.func30, Tryd.ntmps30
    go_wp2_with fail
    refine wp_loop_rounds 1 ?_
    rw [rounds_succ]
    go_wp2
    go_ret
    exact ⟨rfl, (Below.refl _ _).alloc (Nat.le_refl _) _⟩
  · by_cases h5 : 500 < n
    · have hR := rightF_len l (by omega)
      have g2 : (n : Int) > 500 := by omega
      rw [hR]
      clear hn hm hat hid hnm tab hR h1 h5
      go_enter Tryd.func30, Tryd.ntmps30
      go_wp2
      go_ret
      exact ⟨rfl, Below.refl _ _⟩
    · obtain ⟨b, o, rfl, -⟩ := hat.some (by omega)
      exact fRight_some b o n c l w hn (by omega) (by omega) hat hid hnm tab
end Go.Proofs.YtdgcjjledbnofaaDoor

/-
  Layer 16, the program: which lists have a text.
-/
namespace Go.Proofs.YtdgcjjledbnofaaDoor
set_option maxRecDepth 20000
open Go.RowKit
set_option linter.unusedVariables false
set_option linter.unusedSimpArgs false

theorem has_byte (c : UInt8) (s : List UInt8) : decide (0 ≤ Lib.indexByte s c) = decide (idxB c s < s.length) := by
  rw [decide_eq_decide]
  by_cases h : Lib.indexByte s c = -1
  · rw [h]
    refine ⟨fun q => absurd q (by decide), fun q => ?_⟩
    obtain ⟨j, hj, e⟩ := List.mem_iff_getElem.1 (idxB_lt.1 q)
    exact absurd (by rw [List.getElem?_eq_getElem hj, e]) (Lib.indexByte_none h j)
  · obtain ⟨i, hi⟩ : ∃ i : Nat, Lib.indexByte s c = i := ⟨(Lib.indexByte s c).toNat, by have := Lib.indexByte_ge s c; omega⟩
    refine ⟨fun _ => ?_, fun _ => by omega⟩
    obtain ⟨h1, -⟩ := Lib.indexByte_some hi
    exact idxB_lt.2 (List.mem_of_getElem? h1)
theorem Contains_byte (c : UInt8) (s : List UInt8) (w : World) :
    Calls Tryd.prog 31 #[.string ⟨s.toArray⟩, .string ⟨#[c]⟩] w fun e w' => e = .returned (.bool (decide (idxB c s < s.length))) ∧ w = w' := by
  refine (Tryd.strings_Contains_one ⟨s.toArray⟩ c w).mono ?_
  rintro e w' ⟨rfl, rfl⟩
  exact ⟨by rw [← has_byte], rfl⟩
def AllM (l : List Fil) (k : Nat) : Prop := ∀ j (hj : j < l.length), j < k → noEndM l[j] = true
theorem rightM_yes {l : List Fil} (h : rightF l = true) (hn : AllM l l.length) : rightM l = true := by
  unfold rightM
  rw [h, Bool.true_and, List.all_eq_true]
  intro f hf
  obtain ⟨k, hk, rfl⟩ := List.mem_iff_getElem.1 hf
  exact hn k hk hk
theorem rightM_no {l : List Fil} (k : Nat) (hk : k < l.length) (h : noEndM l[k] = false) : rightM l = false := by
  unfold rightM
  rw [Bool.and_eq_false_iff]
  right
  rw [List.all_eq_false]
  exact ⟨l[k], List.getElem_mem _, by rw [h]; decide⟩
set_option maxHeartbeats 8000000 in
theorem mright_some (b o n c : Nat) (l : List Fil) (w : World) (hn : n = l.length) (h1 : 1 ≤ n) (hm : n ≤ maxLen) (hat : FilesAt w (some ⟨b, o, none⟩) l) (hid : ∀ i ∈ l, i.id.length = 20) (hnm : ∀ i ∈ l, i.path.length ≤ 1000000) (tab : QTab w) :
    Calls Tryd.prog 18 #[.slice (some ⟨b, o, none⟩) n c] w fun e w' => e = .returned (.bool (rightM l)) ∧ Below w.heap.size w w' := by
  have cR := fRight_is (some ⟨b, o, none⟩) n c l w hn hm hat hid hnm tab
  have YES := Lib.hid (fun h1 h2 => @rightM_yes l h1 h2)
  have NO := Lib.hid (fun k h1 h2 => @rightM_no l k h1 h2)
  have NOF := Lib.hid (fun (h : rightF l = false) => (by unfold rightM; rw [h]; rfl : rightM l = false))
  have RLE := Lib.hid (fun (h : rightF l = true) => ((rightF_iff l).1 h).1)
  obtain ⟨R, hR⟩ : ∃ R, rightM l = R := ⟨_, rfl⟩
  rw [hR] at YES NO NOF ⊢
  obtain ⟨R0, hR0⟩ : ∃ R, rightF l = R := ⟨_, rfl⟩
  rw [hR0] at YES cR NOF RLE
  have HBL := Lib.hid (hat.lt (by omega))
  have HAT := Lib.hid hat; have HN := Lib.hid hn; have HID := Lib.hid hid; have CR := Lib.hid cR
  clear hn hat hid hnm tab hR hR0 cR
  cases R0 with
  | false =>
    have e := NOF.out rfl
    subst e
    clear HBL HAT HID HN YES NO RLE NOF
    go_enter Tryd.func18, Tryd.ntmps18
    go_wp2_with fail
    refine CR.out.mono ?_
    rintro e u ⟨rfl, b⟩
    have B := Lib.hid b
    clear b
    go_wp2
    go_ret
    exact ⟨rfl, B.out⟩
  | true =>
    have h5 : n ≤ 500 := by rw [HN.out]; exact RLE.out rfl
    obtain ⟨z, hz, hzs, hzv, hzb, hz1⟩ := zFile_any
    have HZS := Lib.hid hzs
    have YES2 := Lib.hid (YES.out rfl)
    clear hm hz hzs hzb hz1 RLE NOF YES
    go_enter Tryd.func18, Tryd.ntmps18
    go_wp2_with fail
    refine CR.out.mono ?_
    rintro e u ⟨rfl, b1⟩
    have B1 := Lib.hid b1
    clear b1 CR
    go_wp2_with fail
    go_loopw [10] (fun v wr => ∃ k : Nat, k ≤ n ∧ v = .int .i64 k ∧ AllM l k ∧ Below w.heap.size w wr) (fun v _ => n - (intOf v).toNat)
    case atStart => exact ⟨0, Nat.zero_le _, rfl, (fun j _ h => absurd h (Nat.not_lt_zero _)), B1.out⟩
    case round =>
      obtain ⟨k, hk, rfl, hso, hbr⟩ := hrel
      have HSO := Lib.hid hso; have HBR := Lib.hid hbr
      clear hso hbr
      by_cases hlt : k < n
      · have hkl : k < l.length := by rw [← HN.out]; exact hlt
        obtain ⟨x, hx⟩ : ∃ x, l[k] = x := ⟨_, rfl⟩
        have hidx := HID.out x (by rw [← hx]; exact List.getElem_mem _)
        have rx : wr.rangeAt b (o + k * 22) (cellsF x) := fun j v hv => (HBR.out.cell (p := ⟨b, o + k * 22 + j, none⟩) HBL.out).trans (HAT.out.elem k hkl j v (by rw [hx]; exact hv))
        have RX := Lib.hid rx
        have LX := Lib.hid (show (Tryd.prog.info? 28).map (·.size) = some (cellsF x).length by rw [cellsF_len x hidx]; exact infoFile)
        have SX := Lib.hid (arrF_size x hidx); have OX := Lib.hid (arrF_one x)
        have IX := Lib.hid (show (Tryd.prog.info? 28).map (·.size) = some (arrF x).size by rw [SX.out]; exact infoFile)
        have EX := Lib.hid (SX.out.trans HZS.out.symm)
        have CT := Lib.hid (fun u => Contains_byte 10 x.path u)
        have HNX := Lib.hid (show noEndM l[k] = !decide (idxB 10 x.path < x.path.length) by rw [hx]; unfold noEndM; exact decide_not)
        have QX := Lib.hid (fun (u : World) (h : u.heap[wr.heap.size]? = some (.cells (arrF x) 28 (0, 0))) => (rowF_cells h 0 _ rfl : u.cell? ⟨wr.heap.size, 0 + 0, none⟩ = some (.string ⟨x.path.toArray⟩)))
        have hcx : (cellsF x).toArray = arrF x := rfl
        have HCX := Lib.hid hcx
        obtain ⟨hb, hhb⟩ : ∃ hb, decide (idxB 10 x.path < x.path.length) = hb := ⟨_, rfl⟩
        rw [hhb] at CT HNX
        generalize (⟨x.path.toArray⟩ : ByteArray) = sp at CT QX
        clear rx hidx hx hhb hcx
        generalize arrF x = ax at SX OX IX EX QX HCX
        generalize cellsF x = cx at RX LX HCX
        go_wp2_with (first
          | (with_reducible refine wpList_load_mid rfl 28 (.tmp 12) rfl b (o + k * 22) rfl cx _ RX.out Tryd.underlying28 rfl LX.out ?_; rw [HCX.out])
          | (with_reducible refine wpList_store_all rfl 28 (.tmp 4) (.tmp 13) rfl wr.heap.size ax rfl rfl 28 z (heap_alloc_new _ _) IX.out EX.out OX.out ?_)
          | fail)
        intro w4 r4 off4 sz4
        have B4 := Lib.hid ((HBR.out.trans (((Below.refl wr.heap.size wr).alloc (Nat.le_refl _) (.cells z 28)).mono HBR.out.size)).trans (off4.below (B := w.heap.size) HBR.out.size (by simp; have := HBR.out.size; omega)))
        have q0 := QX.out w4 r4
        clear r4 off4 sz4
        go_wp2_with fail
        refine (CT.out _).mono ?_
        rintro e u5 ⟨rfl, rfl⟩
        cases hb with
        | true =>
          have e := NO.out k hkl (by rw [HNX.out]; rfl)
          subst e
          go_wp2
          go_ret
          exact ⟨rfl, B4.out⟩
        | false =>
          go_wp2
          go_roundw
          case rel =>
            refine ⟨k + 1, by omega, by go_num, fun j hj hj2 => ?_, B4.out⟩
            by_cases e : j < k
            · exact HSO.out j hj e
            · obtain rfl : j = k := by omega
              rw [HNX.out]; rfl
          case measure => simp [intOf]; omega
      · have e := YES2.out (fun j hj h2 => HSO.out j hj (by have := HN.out; omega))
        subst e
        go_wp2
        go_ret
        exact ⟨rfl, HBR.out⟩
theorem mright_is (a : Option Addr) (n c : Nat) (l : List Fil) (w : World) (hn : n = l.length) (hm : n ≤ maxLen) (hat : FilesAt w a l) (hid : ∀ i ∈ l, i.id.length = 20) (hnm : ∀ i ∈ l, i.path.length ≤ 1000000) (tab : QTab w) :
    Calls Tryd.prog 18 #[.slice a n c] w fun e w' => e = .returned (.bool (rightM l)) ∧ Below w.heap.size w w' := by
  by_cases h1 : n = 0
  · have cR := fRight_is a n c l w hn hm hat hid hnm tab
    obtain rfl : l = [] := List.eq_nil_of_length_eq_zero (by omega)
    rw [show rightM [] = true from rfl]
    rw [show rightF [] = true from rfl] at cR
    subst h1
    clear hn hm hat hid hnm tab
    go_enter Tryd.func18, Tryd.ntmps18
    go_wp2_with fail
    refine cR.mono ?_
    rintro e u ⟨rfl, b1⟩
    have B1 := Lib.hid b1
    clear b1 cR
    go_wp2_with fail
    refine wp_loop_rounds 1 ?_
    rw [rounds_succ]
    go_wp2
    go_ret
    exact ⟨rfl, B1.out⟩
  · obtain ⟨b, o, rfl, -⟩ := hat.some (by omega)
    exact mright_some b o n c l w hn (by omega) hm hat hid hnm tab
end Go.Proofs.YtdgcjjledbnofaaDoor

/-
  Bytes that are read alone.
-/
namespace Go.Proofs.YtdgcjjledbnofaaDoor
open Go.RowKit
set_option linter.unusedVariables false

/-- Bytes that are read alone. -/
def Red (w : World) (v : Value) (l : List UInt8) : Prop := ∃ a c, v = .slice a l.length c ∧ BAt w a l ∧ (a = none → l.length = 0 ∧ c = 0) ∧ l.length ≤ c ∧ c ≤ maxLen
theorem Red.below {w w' : World} {v : Value} {l : List UInt8} (h : Red w v l) {B : Nat} (hb : Below B w w') (hB : w.heap.size ≤ B) : Red w' v l := by
  obtain ⟨a, c, e, hba, r⟩ := h
  exact ⟨a, c, e, hba.below hb hB, r⟩
theorem Red.none (w : World) : Red w (.slice none 0 0) [] := ⟨.none, 0, rfl, BAt.nil w _, fun _ => ⟨rfl, rfl⟩, Nat.le_refl _, Nat.zero_le _⟩
end Go.Proofs.YtdgcjjledbnofaaDoor
