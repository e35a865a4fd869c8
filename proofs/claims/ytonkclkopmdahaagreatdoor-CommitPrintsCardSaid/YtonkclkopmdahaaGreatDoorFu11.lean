/-
  Texts that belong together, one behind the other.
-/
import Derived.Test.YtonkclkopmdahaaGreatDoorFu09
import Derived.Test.YtonkclkopmdahaaGreatDoorFu10
import Derived.Test.YtonkclkopmdahaaGreatDoorFu02
import Derived.Lib.OthersKept
import Derived.WalkSmall
import Derived.IntWalk
import Derived.Test.YtonkclkopmdahaaGreatDoorShelf
/-
  Layer 9, the program: a line of a header, and Print.
-/
namespace Go.Proofs.YtonkclkopmdahaaGreatDoor
set_option maxRecDepth 20000
open Go.RowKit
set_option linter.unusedVariables false
set_option linter.unusedSimpArgs false

theorem red9 {w : World} {g cap : Nat} {l : List UInt8} (h : RowX w g cap l) (n : Nat) (hn : n = l.length) : Red w (.slice (some ⟨g, 0, .none⟩) n cap) l := by
  subst hn
  have hb := h.bat
  obtain ⟨cur, fz, hg, h1, h2, _⟩ := h
  exact ⟨_, cap, rfl, hb, (fun e => nomatch e), h1, h2⟩
/-- A line's bytes. -/
def lineB (v x : List UInt8) : List UInt8 := v ++ [32] ++ x ++ [10]
set_option maxHeartbeats 2000000 in
theorem line9_is (v x : List UInt8) (hv : v.length ≤ 100) (hx : x.length ≤ 1000000) (w : World) :
    Calls Tryz.prog 21 #[.string ⟨v.toArray⟩, .string ⟨x.toArray⟩] w fun e w' => e = .returned (.string ⟨(lineB v x).toArray⟩) ∧ w' = w := by
  have ad0 := fun w => add_lists (P := Tryz.prog) w v [32] (by simp; omega)
  have ad1 := fun w => add_lists (P := Tryz.prog) w (v ++ [32]) x (by simp; omega)
  have ad2 := fun w => add_lists (P := Tryz.prog) w (v ++ [32] ++ x) [10] (by simp; omega)
  unfold lineB
  generalize (⟨(v ++ [32] ++ x ++ [10]).toArray⟩ : ByteArray) = s3 at ad2 ⊢
  generalize (⟨(v ++ [32] ++ x).toArray⟩ : ByteArray) = s2 at ad1 ad2
  generalize (⟨(v ++ [32]).toArray⟩ : ByteArray) = s1 at ad0 ad1
  generalize (⟨v.toArray⟩ : ByteArray) = s0 at *
  generalize (⟨x.toArray⟩ : ByteArray) = sx at *
  clear hv hx
  go_enter Tryz.func21, Tryz.ntmps21
  go_wp2
  go_ret
  exact ⟨rfl, rfl⟩
def treeV : List UInt8 := [116, 114, 101, 101]
def parentV : List UInt8 := [112, 97, 114, 101, 110, 116]
def authorV : List UInt8 := [97, 117, 116, 104, 111, 114]
def committerV : List UInt8 := [99, 111, 109, 109, 105, 116, 116, 101, 114]
/-- What stands ahead of the idents. -/
def headB (t : List UInt8) (ps : List (List UInt8)) : List UInt8 := lineB treeV (hexL t) ++ ps.flatMap fun p => lineB parentV (hexL p)
theorem head_snoc (t : List UInt8) (l : List (List UInt8)) (k : Nat) (hk : k < l.length) : headB t (l.take (k + 1)) = headB t (l.take k) ++ lineB parentV (hexL l[k]) := by
  unfold headB
  rw [List.take_succ_eq_append_getElem hk, List.flatMap_append, List.flatMap_cons, List.flatMap_nil, List.append_nil, List.append_assoc]
theorem parsT_flat : ∀ (ps : List (List UInt8)) (r : List UInt8), parsT hexL ps r = (ps.flatMap fun p => lineB parentV (hexL p)) ++ r
  | [], r => rfl
  | p :: ps, r => by
    unfold parsT
    rw [parsT_flat ps r, List.flatMap_cons]
    unfold lineT lineB parentW parentV
    simp
theorem head_len (t : List UInt8) (ht : t.length = 20) (l : List (List UInt8)) (hid : ∀ i ∈ l, i.length = 20) (k : Nat) (hk : k ≤ 16) : (headB t (l.take k)).length ≤ 46 + 48 * 16 := by
  have h1 := hexL_length t
  have h2 : ∀ ps : List (List UInt8), (∀ i ∈ ps, i.length = 20) → (ps.flatMap fun p => lineB parentV (hexL p)).length = 48 * ps.length := by
    intro ps
    induction ps with
    | nil => intro _; rfl
    | cons p ps ih =>
      intro h
      have h3 := hexL_length p
      rw [h p (by simp)] at h3
      rw [List.flatMap_cons, List.length_append, ih (fun i hi => h i (by simp [hi]))]
      unfold lineB parentV
      simp only [List.length_append, List.length_cons, List.length_nil, h3]
      omega
  have h4 := h2 (l.take k) (fun i hi => hid i (List.mem_of_mem_take hi))
  have h5 : (l.take k).length ≤ k := by rw [List.length_take]; omega
  unfold headB
  rw [List.length_append, h4]
  unfold lineB treeV
  simp only [List.length_append, List.length_cons, List.length_nil, h1, ht]
  omega
/-- A record's bytes, as the program puts them together. -/
theorem print_way (t : List UInt8) (l : List (List UInt8)) (a c : Idt) (x : List UInt8) :
    printC hexL (printI Lib.itoa) ⟨t, l, a, c, x⟩ = headB t l ++ (lineB authorV (printI Lib.itoa a) ++ lineB committerV (printI Lib.itoa c)) ++ [10] ++ x := by
  unfold printC headB
  simp only
  unfold lineT
  rw [parsT_flat]
  unfold lineB treeV treeW authorV authorW committerV committerW
  simp
/-- What Print answers. -/
def printR (c : Rcd) : List UInt8 × Int := if rightR c = true then (printC hexL (printI Lib.itoa) c, 0) else ([], 4)
set_option maxHeartbeats 16000000 in
theorem Print9_is (t : List UInt8) (a1 : Option Addr) (n c1 : Nat) (l : List (List UInt8)) (a c : Idt) (x : List UInt8) (w : World) (tab : T6 w) (ht : t.length = 20) (hit : IdsAt w a1 l) (hn : n = l.length) (hm : n ≤ 1000000) (hnc : n ≤ c1) (hid : ∀ i ∈ l, i.length = 20)
    (s1 : a.name.length ≤ 1000000) (s2 : a.email.length ≤ 1000000) (s3 : c.name.length ≤ 1000000) (s4 : c.email.length ≤ 1000000) :
    Calls Tryz.prog 10 #[.agg (arrC t (.slice a1 n c1) a c x)] w fun e w' => ∃ v, e = .returned (.tuple #[v, .int .i64 (printR ⟨t, l, a, c, x⟩).2]) ∧ Red w' v (printR ⟨t, l, a, c, x⟩).1 ∧ Below w.heap.size w w' := by
  obtain ⟨A1, hA1⟩ : ∃ A, arrC t (.slice a1 n c1) a c x = A := ⟨_, rfl⟩
  have HA1 := Lib.hid hA1
  have b1 : Below w.heap.size w (w.alloc (.cells A1 28)) := (Below.refl w.heap.size w).alloc (Nat.le_refl _) (.cells A1 28)
  have HX := Lib.hid (heap_alloc_new w (.cells A1 28))
  have r1 : RecAt (w.alloc (.cells A1 28)) w.heap.size t (.slice a1 n c1) a c x := recAt_of (ty := 28) (fr := (0, 0)) ht (by rw [hA1]; exact HX.out)
  have cR := Right9_is t a1 n c1 l a c x _ (tab.keep b1) ht (hit.keep b1) hn hm hnc hid s1 s2 s3 s4
  rw [hA1] at cR
  have I30 := Lib.hid (show (Tryz.prog.info? 28).map (·.size) = some A1.size from infoC_arr A1 (by rw [← hA1]; exact arrC_size _ _ _ _ _ ht))
  have B1 := Lib.hid b1
  cases hr : rightR ⟨t, l, a, c, x⟩ with
  | false =>
    have e0 : printR ⟨t, l, a, c, x⟩ = ([], 4) := by unfold printR; rw [hr]; rfl
    rw [e0]
    rw [hr] at cR
    rw [hA1]
    clear e0 hr r1 b1 hit hn hm hnc hid hA1 tab HA1
    go_enter Tryz.func10, Tryz.ntmps10
    go_wp2_with (first
      | (with_reducible refine wpList_load_all 28 (.tmp 1) rfl (by kernel_rfl) w.heap.size A1 28 (0, 0) rfl HX.out _ Tryz.underlying28 rfl I30.out ?_)
      | fail)
    refine cR.mono ?_
    rintro e w2 ⟨rfl, hb2⟩
    have HB2 := Lib.hid (B1.out.trans (hb2.mono B1.out.size))
    clear hb2
    go_wp2
    go_ret2
    exact ⟨_, rfl, Red.none _, HB2.out⟩
  | true =>
    obtain ⟨-, h16, -, -, -, h32, -⟩ := (rightR_iff _).1 hr
    simp only at h16 h32
    have e0 : printR ⟨t, l, a, c, x⟩ = (headB t l ++ (lineB authorV (printI Lib.itoa a) ++ lineB committerV (printI Lib.itoa c)) ++ [10] ++ x, 0) := by unfold printR; rw [hr, if_pos rfl, print_way]
    obtain ⟨F, hF⟩ : ∃ F, headB t l ++ (lineB authorV (printI Lib.itoa a) ++ lineB committerV (printI Lib.itoa c)) ++ [10] ++ x = F := ⟨_, rfl⟩
    have HF := Lib.hid hF
    rw [e0, hF]
    rw [hr] at cR
    rw [hA1]
    have hm16 : n ≤ 16 := by omega
    have K := Lib.hid (fun u (hb : Below (w.alloc (.cells A1 28)).heap.size (w.alloc (.cells A1 28)) u) => r1.keep hb)
    have TB := Lib.hid (fun u (hb : Below w.heap.size w u) => tab.keep hb)
    have H16 := Lib.hid (show n ≤ 16 by omega)
    have HIT := Lib.hid hit; have HN := Lib.hid hn; have HID := Lib.hid hid; have HT := Lib.hid ht
    have HL := Lib.hid (fun k (hk : k ≤ 16) => head_len t ht l hid k hk)
    have HS := Lib.hid (fun k hk => head_snoc t l k hk)
    have LA := Lib.hid (print_len a); have LC := Lib.hid (print_len c)
    have H32 := Lib.hid h32
    have CHX := Lib.hid (fun (i : List UInt8) (hi : i.length = 20) u b o (hb : BAt u (some ⟨b, o, none⟩) i) => Hex_any (some ⟨b, o, none⟩) 20 20 i u hb hi.symm (by omega))
    have CL := Lib.hid (fun v y hv hy u => line9_is v y hv hy u)
    have CPA := Lib.hid (fun u (hb : Below w.heap.size w u) => Print_is a s1 s2 u (tab.keep hb))
    have CPC := Lib.hid (fun u (hb : Below w.heap.size w u) => Print_is c s3 s4 u (tab.keep hb))
    have ea : idtV a = .agg (cellsT a).toArray := rfl
    have ec : idtV c = .agg (cellsT c).toArray := rfl
    rw [ea] at CPA
    rw [ec] at CPC
    have LA4 := Lib.hid (show (Tryz.prog.info? 26).map (·.size) = some (cellsT a).length from infoT)
    have LC4 := Lib.hid (show (Tryz.prog.info? 26).map (·.size) = some (cellsT c).length from infoT)
    obtain ⟨z, hz0, hzs, hzv, hzb, hz1⟩ := zId_any
    have HZS := Lib.hid hzs
    clear e0 hF hr r1 b1 hit hn hnc hid hA1 tab HA1 h16 h32 ea ec s1 s2 s3 s4 ht hm hz0 hzs hzb hz1
    go_enter Tryz.func10, Tryz.ntmps10
    go_wp2_with (first
      | (with_reducible refine wpList_load_all 28 (.tmp 1) rfl (by kernel_rfl) w.heap.size A1 28 (0, 0) rfl HX.out _ Tryz.underlying28 rfl I30.out ?_)
      | fail)
    refine cR.mono ?_
    rintro e w2 ⟨rfl, hb2⟩
    have HB2 := Lib.hid hb2
    have R2 := Lib.hid (K.out _ hb2)
    have sl := fun u => slice20_D u w.heap.size 0
    clear hb2 cR
    go_wp2_with fail
    refine (CHX.out t HT.out _ w.heap.size 0 (bat_of_range R2.out.lt R2.out.tree)).mono ?_
    rintro e w3 ⟨rfl, hb3⟩
    have HB3 := Lib.hid (HB2.out.trans (hb3.mono HB2.out.size))
    clear hb3
    have cl0 := CL.out treeV (hexL t) (by decide) (by rw [hexL_length, HT.out]; decide)
    rw [show treeV = [116, 114, 101, 101] from rfl] at cl0
    go_wp2_with fail
    refine (cl0 _).mono ?_
    rintro e w4 ⟨rfl, rfl⟩
    have R3 := Lib.hid (K.out _ HB3.out)
    have p3 := R3.out.parents
    have HS0 := Lib.hid (show lineB [116, 114, 101, 101] (hexL t) = headB t (l.take 0) by unfold headB; rw [List.take_zero, List.flatMap_nil, List.append_nil]; rfl)
    rw [HS0.out]
    clear cl0 sl
    go_wp2_with fail
    go_loopw [4, 17] (fun v4 v17 wr => ∃ k : Nat, k ≤ n ∧ v17 = .int .i64 k ∧ v4 = .string ⟨(headB t (l.take k)).toArray⟩ ∧ Below (w.alloc (.cells A1 28)).heap.size (w.alloc (.cells A1 28)) wr) (fun _ v17 _ => n - (intOf v17).toNat)
    case atStart => exact ⟨0, Nat.zero_le _, rfl, rfl, HB3.out⟩
    case round =>
      obtain ⟨k, hk, rfl, rfl, hbr⟩ := hrel
      have HBR := Lib.hid hbr
      have HBW := Lib.hid (B1.out.trans (hbr.mono B1.out.size))
      clear hbr
      by_cases hlt : k < n
      · have hkl : k < l.length := by rw [← HN.out]; exact hlt
        obtain ⟨b, o, rfl, hbl, hc⟩ := HIT.out (by omega)
        obtain ⟨y, hy⟩ : ∃ y, l[k] = y := ⟨_, rfl⟩
        have hidy := HID.out y (by rw [← hy]; exact List.getElem_mem _)
        have HIDY := Lib.hid hidy
        have RY := Lib.hid (show wr.rangeAt b (o + k * 20) (cellsD y) from fun j v hv => (HBW.out.cell (p := ⟨b, o + k * 20 + j, none⟩) hbl).trans (hc k hkl j v (by rw [hy]; exact hv)))
        have LX := Lib.hid (show (Tryz.prog.info? 23).map (·.size) = some (cellsD y).length by rw [cellsD_len y hidy]; exact infoD_n)
        have LXA := Lib.hid (show (Tryz.prog.info? 23).map (·.size) = some (cellsD y).toArray.size by rw [List.size_toArray, cellsD_len y hidy]; exact infoD_n)
        have SXA := Lib.hid (show (cellsD y).toArray.size = z.size by rw [List.size_toArray, cellsD_len y hidy, HZS.out])
        have OXA := Lib.hid (cellsD_one y)
        have HSY := Lib.hid (show headB t (l.take (k + 1)) = headB t (l.take k) ++ lineB parentV (hexL y) by rw [HS.out k hkl, hy])
        have CHY := Lib.hid (CHX.out y hidy)
        have cl1 := CL.out parentV (hexL y) (by decide) (by rw [hexL_length, hidy]; decide)
        rw [show parentV = [112, 97, 114, 101, 110, 116] from rfl] at cl1 HSY
        have had := fun u => add_lists (P := Tryz.prog) u (headB t (l.take k)) (lineB [112, 97, 114, 101, 110, 116] (hexL y)) (by have h1 := HL.out k (by have := H16.out; omega); have h2 := hexL_length y; rw [hidy] at h2; unfold lineB; simp only [List.length_append, List.length_cons, List.length_nil, h2]; omega)
        rw [← HSY.out] at had
        have sl := fun u => slice20_D u wr.heap.size 0
        have BATY := Lib.hid (fun (u : World) (hg : u.heap[wr.heap.size]? = some (.cells (cellsD y).toArray 23 (0, 0))) => bat_of_range (i := y) (lt_of_heap hg) (row_arrD hg))
        clear hbl hc hy hidy HSY
        generalize (⟨(headB t (l.take k)).toArray⟩ : ByteArray) = sk at *
        obtain ⟨sk1, hsk1⟩ : ∃ sk1 : ByteArray, ⟨(headB t (l.take (k + 1))).toArray⟩ = sk1 := ⟨_, rfl⟩
        have HSK1 := Lib.hid hsk1
        rw [hsk1] at had
        clear hsk1
        generalize (⟨(lineB [112, 97, 114, 101, 110, 116] (hexL y)).toArray⟩ : ByteArray) = sln at *
        generalize (⟨(hexL y).toArray⟩ : ByteArray) = shx at *
        generalize cellsD y = cy at *
        go_wp2_with (first
          | (with_reducible refine wpList_load_mid rfl 23 (.tmp 19) rfl b (o + k * 20) rfl cy _ RY.out Tryz.underlying23 rfl LX.out ?_)
          | (with_reducible refine wpList_store_all rfl 23 (.tmp 6) (.tmp 20) rfl wr.heap.size cy.toArray rfl rfl 23 z (heap_alloc_new wr _) LXA.out SXA.out OXA.out ?_)
          | fail)
        intro w2 hg2 ho2 hs2
        have HB5 := Lib.hid (((Below.refl wr.heap.size wr).alloc (Nat.le_refl _) (.cells z 23)).trans (ho2.below (Nat.le_refl _) (by simp)))
        have BY := Lib.hid (BATY.out _ hg2)
        clear ho2 hs2 hg2 BATY
        go_wp2_with fail
        refine (CHY.out _ _ 0 BY.out).mono ?_
        rintro e w6 ⟨rfl, hb6⟩
        have HB6 := Lib.hid (HBR.out.trans ((HB5.out.trans (hb6.mono HB5.out.size)).mono HBR.out.size))
        clear hb6
        go_wp2_with fail
        refine (cl1 _).mono ?_
        rintro e w7 ⟨rfl, rfl⟩
        go_wp2
        go_roundw
        case rel => exact ⟨k + 1, by omega, by go_num, by rw [HSK1.out], HB6.out⟩
        case measure => simp [intOf]; omega
      · obtain rfl : k = n := by omega
        have ht2 : l.take k = l := by rw [HN.out, List.take_length]
        have hl1 := HL.out k H16.out
        rw [ht2] at hl1
        rw [ht2]
        have R8 := Lib.hid (K.out _ HBR.out)
        have RA := Lib.hid (fun u (hu : Below wr.heap.size wr u) => (R8.out.keep hu).author)
        have RC := Lib.hid (fun u (hu : Below wr.heap.size wr u) => (R8.out.keep hu).committer)
        have RX := Lib.hid (fun u (hu : Below wr.heap.size wr u) => (R8.out.keep hu).text)
        have CA8 := Lib.hid (fun u (hu : Below wr.heap.size wr u) => CPA.out u (HBW.out.trans (hu.mono HBW.out.size)))
        have CC8 := Lib.hid (fun u (hu : Below wr.heap.size wr u) => CPC.out u (HBW.out.trans (hu.mono HBW.out.size)))
        have la1 := LA.out
        have lc1 := LC.out
        have CLA := Lib.hid (CL.out authorV (printI Lib.itoa a) (by decide) (by omega))
        have CLC := Lib.hid (CL.out committerV (printI Lib.itoa c) (by decide) (by omega))
        have hF := HF.out
        rw [show authorV = [97, 117, 116, 104, 111, 114] from rfl] at CLA hF
        rw [show committerV = [99, 111, 109, 109, 105, 116, 116, 101, 114] from rfl] at CLC hF
        clear HF
        have lla : (lineB [97, 117, 116, 104, 111, 114] (printI Lib.itoa a)).length ≤ 1100 := by unfold lineB; simp only [List.length_append, List.length_cons, List.length_nil]; omega
        have llc : (lineB [99, 111, 109, 109, 105, 116, 116, 101, 114] (printI Lib.itoa c)).length ≤ 1100 := by unfold lineB; simp only [List.length_append, List.length_cons, List.length_nil]; omega
        have hx32 := H32.out
        generalize lineB [97, 117, 116, 104, 111, 114] (printI Lib.itoa a) = ba at *
        generalize lineB [99, 111, 109, 109, 105, 116, 116, 101, 114] (printI Lib.itoa c) = bc at *
        generalize headB t l = bh at *
        have ad1 := fun u => add_lists (P := Tryz.prog) u ba bc (by omega)
        have ad2 := fun u => add_lists (P := Tryz.prog) u bh (ba ++ bc) (by simp only [List.length_append]; omega)
        have ad3 := fun u => add_lists (P := Tryz.prog) u (bh ++ (ba ++ bc)) [10] (by simp only [List.length_append, List.length_cons, List.length_nil]; omega)
        have ad4 := fun u => add_lists (P := Tryz.prog) u (bh ++ (ba ++ bc) ++ [10]) x (by simp only [List.length_append, List.length_cons, List.length_nil]; omega)
        have hlF : (bh ++ (ba ++ bc) ++ [10] ++ x).length ≤ 1099511627776 := by simp only [List.length_append, List.length_cons, List.length_nil]; omega
        rw [hF] at ad4 hlF
        have SR := Lib.hid (fun u => str_row u F hlF)
        clear hl1 la1 lc1 lla llc hx32 hF hlF ht2
        generalize (⟨F.toArray⟩ : ByteArray) = sF at *
        generalize (⟨(bh ++ (ba ++ bc) ++ [10]).toArray⟩ : ByteArray) = s3 at *
        generalize (⟨(bh ++ (ba ++ bc)).toArray⟩ : ByteArray) = s2 at *
        generalize (⟨(ba ++ bc).toArray⟩ : ByteArray) = s1 at *
        generalize (⟨bh.toArray⟩ : ByteArray) = sh at *
        generalize (⟨ba.toArray⟩ : ByteArray) = sba at *
        generalize (⟨bc.toArray⟩ : ByteArray) = sbc at *
        generalize (⟨x.toArray⟩ : ByteArray) = sx at *
        generalize (⟨(printI Lib.itoa a).toArray⟩ : ByteArray) = spa at *
        generalize (⟨(printI Lib.itoa c).toArray⟩ : ByteArray) = spc at *
        generalize cellsT a = ca at *
        generalize cellsT c = cc at *
        go_wp2_with fail
        refine wp_region_held_drew (S := fun u => Below wr.heap.size wr u) (by kernel_rfl) (Below.refl _ _).drew (fun hHeld => ?_)
        refine wpAnyH_take (i := 0) (v := ?hv0) rfl (by kernel_rfl) (by kernel_rfl) (by kernel_rfl) (fun _ _ _ h => h) (Or.inl ⟨by kernel_rfl, ?hy0⟩) hHeld ?_
        case hy0 => intro u hu; go_simp; try with_reducible rfl
        try simp only [Act.put, List.setIfInBounds_toArray, List.set_cons_zero, List.set_cons_succ]
        refine wpAnyH_take (i := 1) (v := ?hv1) rfl (by kernel_rfl) (by kernel_rfl) (by kernel_rfl) (fun _ _ _ h => h) (Or.inl ⟨by kernel_rfl, ?hy1⟩) hHeld ?_
        case hy1 => intro u hu; go_simp; try with_reducible rfl
        try simp only [Act.put, List.setIfInBounds_toArray, List.set_cons_zero, List.set_cons_succ]
        refine wpAnyH_take (i := 2) rfl (by kernel_rfl) (by kernel_rfl) (by kernel_rfl) (fun _ _ _ h => h) (yieldsIf_load_mid (by kernel_rfl) 26 (.tmp 28) (by kernel_rfl) w.heap.size 21 (by kernel_rfl) ca _ (fun u hu => RA.out u hu) Tryz.underlying26 rfl LA4.out) hHeld ?_
        try simp only [Act.put, List.setIfInBounds_toArray, List.set_cons_zero, List.set_cons_succ]
        refine wpAnyH_take (i := 5) (v := ?hv5) rfl (by kernel_rfl) (by kernel_rfl) (by kernel_rfl) (fun _ _ _ h => h) (Or.inl ⟨by kernel_rfl, ?hy5⟩) hHeld ?_
        case hy5 => intro u hu; go_simp; try with_reducible rfl
        try simp only [Act.put, List.setIfInBounds_toArray, List.set_cons_zero, List.set_cons_succ]
        refine wpAnyH_take (i := 6) rfl (by kernel_rfl) (by kernel_rfl) (by kernel_rfl) (fun _ _ _ h => h) (yieldsIf_load_mid (by kernel_rfl) 26 (.tmp 32) (by kernel_rfl) w.heap.size 25 (by kernel_rfl) cc _ (fun u hu => RC.out u hu) Tryz.underlying26 rfl LC4.out) hHeld ?_
        try simp only [Act.put, List.setIfInBounds_toArray, List.set_cons_zero, List.set_cons_succ]
        refine wpAnyH_ready (rs := [3]) (by kernel_rfl) (by simp) ?_
        refine AllReadyH.cons rfl (fun K hK => ?_) AllReadyH.nil
        go_simp
        refine (CA8.out _ hHeld).mono ?_
        rintro e u1 ⟨rfl, hI⟩
        have hH := hHeld.trans (hI.mono hHeld.size)
        clear hHeld hI
        refine hK.out _ _ hH (fun hHeld => ?_)
        clear hK K
        try simp only [Act.put, List.setIfInBounds_toArray, List.set_cons_zero, List.set_cons_succ]
        refine wpAnyH_ready (rs := [4]) (by kernel_rfl) (by simp) ?_
        refine AllReadyH.cons rfl (fun K hK => ?_) AllReadyH.nil
        go_simp
        refine (CLA.out _).mono ?_
        rintro e u2 ⟨rfl, hE⟩
        subst hE
        have hH := hHeld
        clear hHeld
        refine hK.out _ _ hH (fun hHeld => ?_)
        clear hK K
        try simp only [Act.put, List.setIfInBounds_toArray, List.set_cons_zero, List.set_cons_succ]
        refine wpAnyH_ready (rs := [7]) (by kernel_rfl) (by simp) ?_
        refine AllReadyH.cons rfl (fun K hK => ?_) AllReadyH.nil
        go_simp
        refine (CC8.out _ hHeld).mono ?_
        rintro e u1 ⟨rfl, hI⟩
        have hH := hHeld.trans (hI.mono hHeld.size)
        clear hHeld hI
        refine hK.out _ _ hH (fun hHeld => ?_)
        clear hK K
        try simp only [Act.put, List.setIfInBounds_toArray, List.set_cons_zero, List.set_cons_succ]
        refine wpAnyH_ready (rs := [8]) (by kernel_rfl) (by simp) ?_
        refine AllReadyH.cons rfl (fun K hK => ?_) AllReadyH.nil
        go_simp
        refine (CLC.out _).mono ?_
        rintro e u2 ⟨rfl, hE⟩
        subst hE
        have hH := hHeld
        clear hHeld
        refine hK.out _ _ hH (fun hHeld => ?_)
        clear hK K
        try simp only [Act.put, List.setIfInBounds_toArray, List.set_cons_zero, List.set_cons_succ]
        refine wpAnyH_take (i := 9) (v := ?hv9) rfl (by kernel_rfl) (by kernel_rfl) (by kernel_rfl) (fun _ _ _ h => h) (Or.inl ⟨by kernel_rfl, ?hy9⟩) hHeld ?_
        case hy9 => intro u hu; go_simp; try with_reducible rfl
        try simp only [Act.put, List.setIfInBounds_toArray, List.set_cons_zero, List.set_cons_succ]
        refine wpAnyH_take (i := 10) (v := ?hv10) rfl (by kernel_rfl) (by kernel_rfl) (by kernel_rfl) (fun _ _ _ h => h) (Or.inl ⟨by kernel_rfl, ?hy10⟩) hHeld ?_
        case hy10 => intro u hu; go_simp; try with_reducible rfl
        try simp only [Act.put, List.setIfInBounds_toArray, List.set_cons_zero, List.set_cons_succ]
        refine wpAnyH_take (i := 11) (v := ?hv11) rfl (by kernel_rfl) (by kernel_rfl) (by kernel_rfl) (fun _ _ _ h => h) (Or.inl ⟨by kernel_rfl, ?hy11⟩) hHeld ?_
        case hy11 => intro u hu; go_simp; try with_reducible rfl
        try simp only [Act.put, List.getElem_toArray, List.getElem_cons_succ, List.getElem_cons_zero, List.setIfInBounds_toArray, List.set_cons_zero, List.set_cons_succ]
        refine wpAnyH_done (by kernel_rfl) ?_ _
        rename World => u9
        obtain ⟨cap, w9, hcv, hb9, hr9⟩ := SR.out u9
        have p9 := RX.out u9 hHeld
        have HR9 := Lib.hid hr9
        have HB9 := Lib.hid (HBW.out.trans (((hHeld.trans (hb9.mono hHeld.size)) : Below wr.heap.size wr w9).mono HBW.out.size))
        obtain ⟨lF, hlF⟩ : ∃ lF, F.length = lF := ⟨_, rfl⟩
        have HLF := Lib.hid hlF
        rw [hlF] at hcv
        clear hHeld hb9 hr9 hlF
        go_wp2
        go_ret2
        exact ⟨_, rfl, red9 HR9.out _ HLF.out.symm, HB9.out⟩
end Go.Proofs.YtonkclkopmdahaaGreatDoor

/-
  Layer 1: what the digit functions of hexa and of its reference return, case by case.
-/
namespace Go.Proofs.YtonkclkopmdahaaGreatDoor
set_option maxRecDepth 20000
open Go.RowKit
set_option linter.unusedVariables false

set_option maxHeartbeats 400000 in
theorem digit_dec (r base : Int) (h0 : 48 ≤ r) (h1 : r ≤ 57) (hb : 10 ≤ base) (hb2 : base ≤ 16) (w : World) :
    Calls Tryz.prog 94 #[.int .i32 r, .int .i64 base] w fun e w' => e = .returned (.tuple #[.int .i64 (r - 48), .bool true]) ∧ w = w' := by
  go_enter Tryz.func94, Tryz.ntmps94
  go_wp2
  go_ret2
  exact ⟨rfl, rfl⟩
set_option maxHeartbeats 400000 in
theorem digit_hex (r : Int) (h0 : 97 ≤ r) (h1 : r ≤ 102) (w : World) :
    Calls Tryz.prog 94 #[.int .i32 r, .int .i64 16] w fun e w' => e = .returned (.tuple #[.int .i64 (r - 87), .bool true]) ∧ w = w' := by
  go_enter Tryz.func94, Tryz.ntmps94
  go_wp2
  go_ret2
  exact ⟨tup_int (by omega), rfl⟩
set_option maxHeartbeats 400000 in
theorem digit_low (r base : Int) (h1 : r < 48) (hb : 10 ≤ base) (hb2 : base ≤ 16) (w : World) :
    Calls Tryz.prog 94 #[.int .i32 r, .int .i64 base] w fun e w' => e = .returned (.tuple #[.int .i64 0, .bool false]) ∧ w = w' := by
  go_enter Tryz.func94, Tryz.ntmps94
  go_wp2
  go_ret2
  exact ⟨rfl, rfl⟩
set_option maxHeartbeats 400000 in
theorem digit_mid (r base : Int) (h0 : 57 < r) (h1 : r < 97) (hb : 10 ≤ base) (hb2 : base ≤ 16) (w : World) :
    Calls Tryz.prog 94 #[.int .i32 r, .int .i64 base] w fun e w' => e = .returned (.tuple #[.int .i64 0, .bool false]) ∧ w = w' := by
  go_enter Tryz.func94, Tryz.ntmps94
  go_wp2
  go_ret2
  exact ⟨rfl, rfl⟩
set_option maxHeartbeats 400000 in
theorem digit_high (r base : Int) (h0 : 102 < r) (hb : 10 ≤ base) (hb2 : base ≤ 16) (w : World) :
    Calls Tryz.prog 94 #[.int .i32 r, .int .i64 base] w fun e w' => e = .returned (.tuple #[.int .i64 0, .bool false]) ∧ w = w' := by
  go_enter Tryz.func94, Tryz.ntmps94
  go_wp2
  go_ret2
  exact ⟨rfl, rfl⟩
set_option maxHeartbeats 400000 in
theorem digit_af10 (r : Int) (h0 : 97 ≤ r) (h1 : r ≤ 102) (w : World) :
    Calls Tryz.prog 94 #[.int .i32 r, .int .i64 10] w fun e w' => e = .returned (.tuple #[.int .i64 0, .bool false]) ∧ w = w' := by
  go_enter Tryz.func94, Tryz.ntmps94
  go_wp2
  go_ret2
  exact ⟨rfl, rfl⟩
/-- What a rune stands for in base 16: below zero where it is no digit. -/
def dig16 (r : Int) : Int := if 48 ≤ r ∧ r ≤ 57 then r - 48 else if 97 ≤ r ∧ r ≤ 102 then r - 87 else -1
theorem dig16_yes {r : Int} (h : 0 ≤ dig16 r) : (48 ≤ r ∧ r ≤ 57) ∧ dig16 r = r - 48 ∨ (97 ≤ r ∧ r ≤ 102) ∧ dig16 r = r - 87 := by
  unfold dig16 at *; split at h
  · simp_all
  · split at h
    · simp_all
    · omega
theorem dig16_lt (r : Int) : dig16 r < 16 := by unfold dig16; split <;> (try split) <;> omega
theorem dig16_ge (r : Int) : -1 ≤ dig16 r := by unfold dig16; split <;> (try split) <;> omega
theorem digit16_yes (r : Int) (h : 0 ≤ dig16 r) (w : World) :
    Calls Tryz.prog 94 #[.int .i32 r, .int .i64 16] w fun e w' => e = .returned (.tuple #[.int .i64 (dig16 r), .bool true]) ∧ w = w' := by
  rcases dig16_yes h with ⟨⟨a, b⟩, e⟩ | ⟨⟨a, b⟩, e⟩ <;> rw [e]
  · exact digit_dec r 16 a b (by omega) (by omega) w
  · exact digit_hex r a b w
theorem digit16_no (r : Int) (h : dig16 r < 0) (w : World) :
    Calls Tryz.prog 94 #[.int .i32 r, .int .i64 16] w fun e w' => e = .returned (.tuple #[.int .i64 0, .bool false]) ∧ w = w' := by
  unfold dig16 at h
  split at h
  · omega
  · split at h
    · omega
    · by_cases h1 : r < 48
      · exact digit_low r 16 h1 (by omega) (by omega) w
      · by_cases h2 : 102 < r
        · exact digit_high r 16 h2 (by omega) (by omega) w
        · exact digit_mid r 16 (by omega) (by omega) (by omega) (by omega) w
theorem digit10_no (r : Int) (h : ¬ (48 ≤ r ∧ r ≤ 57)) (w : World) :
    Calls Tryz.prog 94 #[.int .i32 r, .int .i64 10] w fun e w' => e = .returned (.tuple #[.int .i64 0, .bool false]) ∧ w = w' := by
  by_cases h1 : r < 48
  · exact digit_low r 10 h1 (by omega) (by omega) w
  · by_cases h2 : 102 < r
    · exact digit_high r 10 h2 (by omega) (by omega) w
    · by_cases h3 : 97 ≤ r
      · exact digit_af10 r h3 (by omega) w
      · exact digit_mid r 10 (by omega) (by omega) (by omega) (by omega) w

end Go.Proofs.YtonkclkopmdahaaGreatDoor

/-
  Layer 1: the decimal reader of the program (below zero).
-/
namespace Go.Proofs.YtonkclkopmdahaaGreatDoor
open Go.RowKit
set_option linter.unusedVariables false

def isD (c : UInt8) : Prop := 48 ≤ c.toNat ∧ c.toNat ≤ 57
instance (c : UInt8) : Decidable (isD c) := by unfold isD; infer_instance
/-- The number that some digits are. -/
def decL (l : List UInt8) : Nat := l.foldl (fun a c => 10 * a + (c.toNat - 48)) 0
theorem decL_snoc (l : List UInt8) (c : UInt8) : decL (l ++ [c]) = 10 * decL l + (c.toNat - 48) := by simp [decL]
theorem decL_take (l : List UInt8) (k : Nat) (h : k < l.length) : decL (l.take (k + 1)) = 10 * decL (l.take k) + ((l.getD k 0).toNat - 48) := by
  rw [List.take_succ_eq_append_getElem h, decL_snoc, List.getD_eq_getElem?_getD, List.getElem?_eq_getElem h]; rfl
theorem decL_mono (l : List UInt8) (k : Nat) : decL (l.take k) ≤ decL l := by
  have key : ∀ (l : List UInt8) (a : Nat), a ≤ l.foldl (fun a c => 10 * a + (c.toNat - 48)) a := by
    intro l
    induction l with
    | nil => intro a; exact Nat.le_refl _
    | cons c r ih => intro a; have := ih (10 * a + (c.toNat - 48)); simp only [List.foldl_cons]; omega
  conv => rhs; rw [← List.take_append_drop k l]
  unfold decL
  rw [List.foldl_append]
  exact key _ _

def NPost (s : ByteArray) (least : Int) (w : World) (e : Ending) (w' : World) : Prop :=
  Below w.heap.size w w' ∧ ((e = .returned (.tuple #[.int .i64 0, .bool false]) ∧ ((∃ i, i < s.size ∧ ¬ isD (s.data.toList.getD i 0)) ∨ (decL s.data.toList : Int) > -least)) ∨
    (e = .returned (.tuple #[.int .i64 (-(decL s.data.toList : Int)), .bool true]) ∧ (∀ i, i < s.size → isD (s.data.toList.getD i 0)) ∧ (decL s.data.toList : Int) ≤ -least))

theorem getD_at (s : ByteArray) (k : Nat) (h : k < s.size) : s.data.toList.getD k 0 = s[k]'h := by
  have : k < s.data.toList.length := by simpa using h
  rw [List.getD_eq_getElem?_getD, List.getElem?_eq_getElem this]; rfl
theorem size_list (s : ByteArray) : s.data.toList.length = s.size := by simp

theorem tdiv10 (a : Int) (h : a ≤ 0) : a ≤ 10 * a.tdiv 10 ∧ 10 * a.tdiv 10 < a + 10 := by
  have e : a.tdiv 10 = -((-a) / 10) := by
    have h1 : ((-a).tdiv 10) = (-a) / 10 := Int.tdiv_eq_ediv_of_nonneg (by omega)
    rw [← h1, Int.neg_tdiv, Int.neg_neg]
  rw [e]; omega

set_option maxHeartbeats 1000000 in
theorem negated_core (s : ByteArray) (least : Int) (w : World) (hs : s.size ≤ 1099511627776) (hl0 : -9223372036854775808 ≤ least) (hl1 : least ≤ -1000) :
    Calls Tryz.prog 114 #[.string s, .int .i64 least] w fun e w' => NPost s least w e w' := by
  go_enter Tryz.func114, Tryz.ntmps114
  go_wp2_with fail
  go_loopw [6] (fun v wr => ∃ (pos : Nat) (x : Int), pos ≤ s.size ∧ v = .int .i64 x ∧ x = -(decL (s.data.toList.take pos) : Int) ∧ least ≤ x ∧ x ≤ 0 ∧ (∀ i, i < pos → isD (s.data.toList.getD i 0)) ∧ wr.heap[w.heap.size]? = some (.stringIter s pos) ∧ Below w.heap.size w wr) (fun _ wr => s.size - wr.iterPos w.heap.size)
  case atStart => exact ⟨0, 0, Nat.zero_le _, rfl, by simp [decL], by omega, by omega, fun i hi => absurd hi (Nat.not_lt_zero _), World.iter_heap w s 0, (Below.refl _ w).alloc (Nat.le_refl _) _⟩
  case round =>
    obtain ⟨pos, x, hpos, rfl, hx, hx0, hx1, hdig, hit, hbr⟩ := hrel
    have HX := Lib.hid hx; clear hx
    have HDIG := Lib.hid hdig; clear hdig
    by_cases hp : pos < s.size
    · have HGD := Lib.hid (getD_at s pos hp)
      by_cases ha : (s[pos]).toNat < 128
      · have hnx : ∀ ty, (Instr.next (.pointer (some ⟨w.heap.size, 0, none⟩)) true ty).run Tryz.prog wr = _ := fun ty => Lib.run_next_ascii_at wr w.heap.size s pos ty hit hp ha
        obtain ⟨r, hr⟩ : ∃ r : Int, r = ((s[pos]).toNat : Int) := ⟨_, rfl⟩
        rw [← hr] at hnx
        have HR := Lib.hid hr; clear hr
        have hit2 := Lib.iterAt_heap wr w.heap.size s pos (pos + 1) hit
        have hbr2 := Lib.below_iterAt hbr (k := w.heap.size) (Nat.le_refl _) s (pos + 1)
        generalize wr.iterAt w.heap.size s (pos + 1) = w2 at hnx hit2 hbr2
        by_cases hd : 48 ≤ r ∧ r ≤ 57
        · obtain ⟨hd0, hd1⟩ := hd
          obtain ⟨d, hde⟩ : ∃ d : Int, d = r - 48 := ⟨_, rfl⟩
          obtain ⟨q, hq⟩ : ∃ q : Int, q = (least + d).tdiv 10 := ⟨_, rfl⟩
          have hd2 : 0 ≤ d := by omega
          have hd3 : d ≤ 9 := by omega
          have hq1 : least + d ≤ 10 * q := by rw [hq]; exact (tdiv10 _ (by omega)).1
          have hq2 : 10 * q < least + d + 10 := by rw [hq]; exact (tdiv10 _ (by omega)).2
          go_wp2_with fail
          refine (digit_dec r 10 hd0 hd1 (by omega) (by omega) _).mono ?_
          rintro e w3 ⟨rfl, rfl⟩
          rw [← hde]
          clear hnx
          have HDE := Lib.hid hde; clear hde
          have hq3 : IntKind.i64.wrap ((least + d).tdiv 10) = q := by rw [IntWalk.i64_quo' _ _ (by omega), hq]
          have HQ := Lib.hid hq; clear hq
          have hnext : (decL (s.data.toList.take (pos + 1)) : Int) = -(10 * x - d) := by
            rw [decL_take _ _ (by rw [size_list]; exact hp), HGD.out]
            have e1 := HX.out; have e2 := HR.out; have e3 := HDE.out
            omega
          have HN := Lib.hid hnext; clear hnext
          by_cases hlt : x < q
          · go_wp2
            go_ret2
            refine ⟨hbr2, .inl ⟨rfl, .inr ?_⟩⟩
            have := decL_mono s.data.toList (pos + 1)
            have := HN.out
            omega
          · go_wp2
            go_roundw
            case rel =>
              refine ⟨pos + 1, x * 10 - d, by omega, rfl, by have := HN.out; omega, by omega, by omega, ?_, hit2, hbr2⟩
              intro i hi
              by_cases h : i < pos
              · exact HDIG.out i h
              · obtain rfl : i = pos := by omega
                rw [HGD.out]; unfold isD; have := HR.out; omega
            case measure =>
              rw [iterPos_of hit2, iterPos_of hit]; omega
        · go_wp2_with fail
          refine (digit10_no r hd _).mono ?_
          rintro e w3 ⟨rfl, rfl⟩
          go_wp2
          go_ret2
          refine ⟨hbr2, .inl ⟨rfl, .inl ⟨pos, hp, ?_⟩⟩⟩
          rw [HGD.out]; unfold isD; have := HR.out; omega
      · have hnx : ∀ ty, (Instr.next (.pointer (some ⟨w.heap.size, 0, none⟩)) true ty).run Tryz.prog wr = _ := fun ty => Lib.run_next_any_at wr w.heap.size s pos ty hit hp
        have hh := (decode_high s pos hp (by omega)).1
        have hbr2 := Lib.below_iterAt hbr (k := w.heap.size) (Nat.le_refl _) s (pos + (Utf8.decode s pos).2)
        generalize (Utf8.decode s pos).1 = r at hnx hh
        generalize wr.iterAt w.heap.size s (pos + (Utf8.decode s pos).2) = w2 at hnx hbr2
        go_wp2_with fail
        refine (digit_high r 10 (by omega) (by omega) (by omega) _).mono ?_
        rintro e w3 ⟨rfl, rfl⟩
        go_wp2
        go_ret2
        refine ⟨hbr2, .inl ⟨rfl, .inl ⟨pos, hp, ?_⟩⟩⟩
        rw [HGD.out]; unfold isD; omega
    · have hnx : ∀ ty, (Instr.next (.pointer (some ⟨w.heap.size, 0, none⟩)) true ty).run Tryz.prog wr = _ := fun ty => Lib.run_next_end_at wr w.heap.size s pos ty hit hp
      obtain rfl : pos = s.size := by omega
      go_wp2
      go_ret2
      have e : x = -(decL s.data.toList : Int) := by have := HX.out; rwa [List.take_of_length_le (by rw [size_list]; exact Nat.le_refl _)] at this
      exact ⟨hbr, .inr ⟨tup_int e, HDIG.out, by omega⟩⟩
end Go.Proofs.YtonkclkopmdahaaGreatDoor

/-
  Layer 1: TakeNumber of the program.
-/
namespace Go.Proofs.YtonkclkopmdahaaGreatDoor
open Go.RowKit
set_option linter.unusedVariables false

theorem Cut_minus (r : List UInt8) (w : World) :
    Calls Tryz.prog 48 #[.string ⟨(45 :: r).toArray⟩, .string ⟨#[45]⟩] w fun e w' => e = .returned (.tuple #[.string ⟨r.toArray⟩, .bool true]) ∧ w = w' := by
  refine (Tryz.strings_CutPrefix _ _ _).mono ?_
  rintro e w' ⟨rfl, rfl⟩
  refine ⟨?_, rfl⟩
  simp [Lib.trimPrefix, Lib.hasPrefix, List.isPrefixOf]
theorem Cut_other (c : UInt8) (r : List UInt8) (h : c ≠ 45) (w : World) :
    Calls Tryz.prog 48 #[.string ⟨(c :: r).toArray⟩, .string ⟨#[45]⟩] w fun e w' => e = .returned (.tuple #[.string ⟨(c :: r).toArray⟩, .bool false]) ∧ w = w' := by
  refine (Tryz.strings_CutPrefix _ _ _).mono ?_
  rintro e w' ⟨rfl, rfl⟩
  refine ⟨?_, rfl⟩
  simp [Lib.trimPrefix, Lib.hasPrefix, List.isPrefixOf, Ne.symm h]

set_option maxHeartbeats 400000 in
theorem Take_empty (w : World) :
    Calls Tryz.prog 95 #[.string ⟨#[]⟩] w fun e w' => e = .returned (.tuple #[.int .i64 0, .int .i64 3]) ∧ w = w' := by
  go_enter Tryz.func95, Tryz.ntmps95
  go_wp2
  go_ret2
  exact ⟨rfl, rfl⟩
set_option maxHeartbeats 400000 in
theorem Take_dash (w : World) :
    Calls Tryz.prog 95 #[.string ⟨#[45]⟩] w fun e w' => e = .returned (.tuple #[.int .i64 0, .int .i64 4]) ∧ w = w' := by
  go_enter Tryz.func95, Tryz.ntmps95
  go_wp2_with fail
  refine (Cut_minus [] _).mono ?_
  rintro e w' ⟨rfl, rfl⟩
  go_wp2
  go_ret2
  exact ⟨rfl, rfl⟩
theorem head0 (c : UInt8) (r : List UInt8) : ((⟨(c :: r).toArray⟩ : ByteArray)[0]'(by simp [ByteArray.size])) = c := rfl
set_option maxHeartbeats 400000 in
theorem Take_minus0 (r : List UInt8) (w : World) :
    Calls Tryz.prog 95 #[.string ⟨(45 :: 48 :: r).toArray⟩] w fun e w' => e = .returned (.tuple #[.int .i64 0, .int .i64 4]) ∧ w = w' := by
  have hi : ((⟨(48 :: r).toArray⟩ : ByteArray)[0]'(by simp [ByteArray.size])).toNat = 48 := rfl
  go_enter Tryz.func95, Tryz.ntmps95
  go_wp2_with fail
  refine (Cut_minus (48 :: r) _).mono ?_
  rintro e w' ⟨rfl, rfl⟩
  go_wp2
  go_ret2
  exact ⟨rfl, rfl⟩
set_option maxHeartbeats 400000 in
theorem Take_plus0 (c : UInt8) (r : List UInt8) (w : World) :
    Calls Tryz.prog 95 #[.string ⟨(48 :: c :: r).toArray⟩] w fun e w' => e = .returned (.tuple #[.int .i64 0, .int .i64 4]) ∧ w = w' := by
  have hi : ((⟨(48 :: c :: r).toArray⟩ : ByteArray)[0]'(by simp [ByteArray.size])).toNat = 48 := rfl
  go_enter Tryz.func95, Tryz.ntmps95
  go_wp2_with fail
  refine (Cut_other 48 (c :: r) (by decide) _).mono ?_
  rintro e w' ⟨rfl, rfl⟩
  go_wp2
  go_ret2
  exact ⟨rfl, rfl⟩

/-- What a text of at least one byte, behind its sign, comes to. -/
def TPost (d : List UInt8) (m : Bool) (w : World) (e : Ending) (w' : World) : Prop :=
  Below w.heap.size w w' ∧ ((e = .returned (.tuple #[.int .i64 0, .int .i64 4]) ∧ ((∃ i, i < d.length ∧ ¬ isD (d.getD i 0)) ∨ (decL d : Int) > (if m then 9223372036854775808 else 9223372036854775807))) ∨
    (e = .returned (.tuple #[.int .i64 (if m then -(decL d : Int) else decL d), .int .i64 0]) ∧ (∀ i, i < d.length → isD (d.getD i 0)) ∧ (decL d : Int) ≤ (if m then 9223372036854775808 else 9223372036854775807)))

set_option maxHeartbeats 400000 in
theorem Take_minus (c : UInt8) (r : List UInt8) (hr : r.length ≤ 1000000) (w : World) (h48 : c ≠ 48) :
    Calls Tryz.prog 95 #[.string ⟨(45 :: c :: r).toArray⟩] w fun e w' => TPost (c :: r) true w e w' := by
  have hne : ¬ c.toNat = 48 := fun h => h48 (UInt8.toNat.inj h)
  have hi : ((⟨(c :: r).toArray⟩ : ByteArray)[0]'(by simp [ByteArray.size])).toNat = c.toNat := rfl
  have hb : ((c.toNat : Int) == 48) = false := by simp; omega
  clear h48 hne
  go_enter Tryz.func95, Tryz.ntmps95
  go_wp2_with fail
  refine (Cut_minus (c :: r) _).mono ?_
  rintro e w' ⟨rfl, rfl⟩
  go_wp2_with fail
  refine (negated_core _ _ _ ?_ (by omega) (by omega)).mono ?_
  · simp [ByteArray.size]; omega
  rintro e w1 ⟨hbw, ⟨rfl, h⟩ | ⟨rfl, h, h2⟩⟩
  · have H := Lib.hid h; clear h
    go_wp2
    go_ret2
    refine ⟨hbw, .inl ⟨rfl, ?_⟩⟩
    rcases H.out with ⟨i, hi, h⟩ | h
    · exact .inl ⟨i, by simpa [ByteArray.size] using hi, h⟩
    · exact .inr (by simpa using h)
  · have H := Lib.hid h; clear h
    have H2 := Lib.hid h2; clear h2
    go_wp2
    go_ret2
    refine ⟨hbw, .inr ⟨rfl, fun i hi => H.out i (by simpa [ByteArray.size] using hi), by simpa using H2.out⟩⟩
set_option maxHeartbeats 400000 in
theorem Take_plus (c : UInt8) (r : List UInt8) (hr : r.length ≤ 1000000) (w : World) (h48 : c ≠ 48) (h45 : c ≠ 45) :
    Calls Tryz.prog 95 #[.string ⟨(c :: r).toArray⟩] w fun e w' => TPost (c :: r) false w e w' := by
  have hne : ¬ c.toNat = 48 := fun h => h48 (UInt8.toNat.inj h)
  have hi : ((⟨(c :: r).toArray⟩ : ByteArray)[0]'(by simp [ByteArray.size])).toNat = c.toNat := rfl
  have hb : ((c.toNat : Int) == 48) = false := by simp; omega
  have HC := Lib.hid (fun w => Cut_other c r h45 w)
  clear h48 hne h45
  go_enter Tryz.func95, Tryz.ntmps95
  go_wp2_with fail
  refine (HC.out _).mono ?_
  rintro e w' ⟨rfl, rfl⟩
  go_wp2_with fail
  refine (negated_core _ _ _ ?_ (by omega) (by omega)).mono ?_
  · simp [ByteArray.size]; omega
  rintro e w1 ⟨hbw, ⟨rfl, h⟩ | ⟨rfl, h, h2⟩⟩
  · have H := Lib.hid h; clear h
    go_wp2
    go_ret2
    refine ⟨hbw, .inl ⟨rfl, ?_⟩⟩
    rcases H.out with ⟨i, hi, h⟩ | h
    · exact .inl ⟨i, by simpa [ByteArray.size] using hi, h⟩
    · exact .inr (by simpa using h)
  · have H := Lib.hid h; clear h
    obtain ⟨x, hx⟩ : ∃ x : Int, x = -(decL (⟨(c :: r).toArray⟩ : ByteArray).data.toList : Int) := ⟨_, rfl⟩
    rw [← hx]
    have hx0 : x ≤ 0 := by omega
    have hx1 : -9223372036854775807 ≤ x := by omega
    have HX := Lib.hid hx
    have H2 := Lib.hid h2
    clear hx h2
    go_wp2
    go_ret2
    refine ⟨hbw, .inr ⟨tup_int ?_, fun i hi => H.out i (by simpa [ByteArray.size] using hi), by simpa using H2.out⟩⟩
    have := HX.out
    simp at this ⊢
    omega
set_option maxHeartbeats 400000 in
theorem Take_zero (w : World) :
    Calls Tryz.prog 95 #[.string ⟨[48].toArray⟩] w fun e w' => e = .returned (.tuple #[.int .i64 0, .int .i64 0]) ∧ Below w.heap.size w w' := by
  have hi : ((⟨[48].toArray⟩ : ByteArray)[0]'(by simp [ByteArray.size])).toNat = 48 := rfl
  have hdec : (-(decL (⟨[48].toArray⟩ : ByteArray).data.toList : Int)) = 0 := by decide
  go_enter Tryz.func95, Tryz.ntmps95
  go_wp2_with fail
  refine (Cut_other 48 [] (by decide) _).mono ?_
  rintro e w' ⟨rfl, rfl⟩
  go_wp2_with fail
  refine (negated_core _ _ _ (by decide) (by omega) (by omega)).mono ?_
  rintro e w1 ⟨hbw, ⟨rfl, h⟩ | ⟨rfl, h, h2⟩⟩
  · exfalso
    rcases h with ⟨i, hi, h⟩ | h
    · have hi0 : i = 0 := by have : (⟨[48].toArray⟩ : ByteArray).size = 1 := rfl; omega
      subst hi0
      exact h (by decide)
    · exact absurd h (by decide)
  · rw [hdec]
    clear h h2 hdec
    go_wp2
    go_ret2
    exact ⟨rfl, hbw⟩

/-- The number of a text, or none. -/
def takeD (m : Bool) (d : List UInt8) : Option Int :=
  if d = [] ∨ (d.getD 0 0 = 48 ∧ (1 < d.length ∨ m = true)) ∨ ¬ (∀ i, i < d.length → isD (d.getD i 0)) ∨ (decL d : Int) > (if m then 9223372036854775808 else 9223372036854775807) then none
  else some (if m then -(decL d : Int) else decL d)
def takeN : List UInt8 → Option Int
  | [] => none
  | c :: r => if c = 45 then takeD true r else takeD false (c :: r)
/-- What TakeNumber answers to a text that is not empty. -/
def takeV (l : List UInt8) : Value := match takeN l with
  | none => .tuple #[.int .i64 0, .int .i64 4]
  | some v => .tuple #[.int .i64 v, .int .i64 0]
theorem TPost.takeD {d : List UInt8} {m : Bool} {w w' : World} {e : Ending} (h : TPost d m w e w') (h1 : d ≠ []) (h2 : ¬ (d.getD 0 0 = 48 ∧ (1 < d.length ∨ m = true))) :
    Below w.heap.size w w' ∧ e = .returned (match takeD m d with
      | none => .tuple #[.int .i64 0, .int .i64 4]
      | some v => .tuple #[.int .i64 v, .int .i64 0]) := by
  obtain ⟨hb, ⟨he, h3⟩ | ⟨he, h3, h4⟩⟩ := h
  · refine ⟨hb, ?_⟩
    rw [he]
    have : _root_.Go.Proofs.YtonkclkopmdahaaGreatDoor.takeD m d = none := by
      unfold _root_.Go.Proofs.YtonkclkopmdahaaGreatDoor.takeD
      rw [if_pos]
      rcases h3 with ⟨i, hi, h3⟩ | h3
      · exact .inr (.inr (.inl fun h => h3 (h i hi)))
      · exact .inr (.inr (.inr h3))
    rw [this]
  · refine ⟨hb, ?_⟩
    rw [he]
    have : _root_.Go.Proofs.YtonkclkopmdahaaGreatDoor.takeD m d = some (if m then -(decL d : Int) else decL d) := by
      unfold _root_.Go.Proofs.YtonkclkopmdahaaGreatDoor.takeD
      rw [if_neg]
      rintro (h | h | h | h)
      · exact h1 h
      · exact h2 h
      · exact h h3
      · omega
    rw [this]
theorem Take_any (l : List UInt8) (hl : l.length ≤ 1000000) (h : l ≠ []) (w : World) :
    Calls Tryz.prog 95 #[.string ⟨l.toArray⟩] w fun e w' => e = .returned (takeV l) ∧ Below w.heap.size w w' := by
  match l, h, hl with
  | c :: r, _, hl =>
    by_cases h45 : c = 45
    · subst h45
      unfold takeV
      rw [show takeN (45 :: r) = takeD true r by simp [takeN]]
      match r, hl with
      | [], _ =>
        refine (Take_dash w).mono ?_
        rintro e w' ⟨rfl, rfl⟩
        exact ⟨rfl, Below.refl _ _⟩
      | c :: r, hl =>
        by_cases h48 : c = 48
        · subst h48
          refine (Take_minus0 r w).mono ?_
          rintro e w' ⟨rfl, rfl⟩
          have : takeD true (48 :: r) = none := by unfold takeD; rw [if_pos]; exact .inr (.inl ⟨rfl, .inr rfl⟩)
          rw [this]
          exact ⟨rfl, Below.refl _ _⟩
        · refine (Take_minus c r (by simp at hl; omega) w h48).mono ?_
          intro e w' hp
          obtain ⟨a, b⟩ := hp.takeD (by simp) (fun h => h48 h.1)
          exact ⟨b, a⟩
    · unfold takeV
      rw [show takeN (c :: r) = takeD false (c :: r) by simp [takeN, h45]]
      by_cases h48 : c = 48
      · subst h48
        match r, hl with
        | [], _ =>
          refine (Take_zero w).mono ?_
          rintro e w' ⟨rfl, hb⟩
          have : takeD false [48] = some 0 := by decide
          rw [this]
          exact ⟨rfl, hb⟩
        | c :: r, hl =>
          refine (Take_plus0 c r w).mono ?_
          rintro e w' ⟨rfl, rfl⟩
          have : takeD false (48 :: c :: r) = none := by unfold takeD; rw [if_pos]; exact .inr (.inl ⟨rfl, .inl (by simp)⟩)
          rw [this]
          exact ⟨rfl, Below.refl _ _⟩
      · refine (Take_plus c r (by simp at hl; omega) w h48 h45).mono ?_
        intro e w' hp
        obtain ⟨a, b⟩ := hp.takeD (by simp) (fun h => h48 h.1)
        exact ⟨b, a⟩
end Go.Proofs.YtonkclkopmdahaaGreatDoor

/-
  Layer 1: TakeNumber of the reference.
-/
namespace Go.Proofs.YtonkclkopmdahaaGreatDoor
open Go.RowKit
set_option linter.unusedVariables false

theorem decL_lt (l : List UInt8) (h : ∀ i, i < l.length → isD (l.getD i 0)) : ∀ k, k ≤ l.length → decL (l.take k) < 10 ^ k := by
  intro k
  induction k with
  | zero => intro _; simp [decL]
  | succ k ih =>
    intro hk
    have a := ih (by omega)
    have b := h k (by omega)
    unfold isD at b
    rw [decL_take l k (by omega), Nat.pow_succ]
    omega
theorem decL_ge (l : List UInt8) (a : Nat) : a * 10 ^ l.length ≤ l.foldl (fun a c => 10 * a + (c.toNat - 48)) a := by
  induction l generalizing a with
  | nil => simp
  | cons c r ih =>
    have h := ih (10 * a + (c.toNat - 48))
    simp only [List.foldl_cons, List.length_cons]
    have e : a * 10 ^ (r.length + 1) = (10 * a) * 10 ^ r.length := by rw [Nat.pow_succ, Nat.mul_comm 10 a, Nat.mul_assoc, Nat.mul_comm (10 ^ r.length) 10]
    rw [e]
    exact Nat.le_trans (Nat.mul_le_mul_right _ (by omega)) h
theorem decL_big (e : UInt8) (t : List UInt8) (he : isD e) (h48 : e ≠ 48) (hl : 19 ≤ t.length) : 10000000000000000000 ≤ decL (e :: t) := by
  have h := decL_ge t (e.toNat - 48)
  have h1 : 1 ≤ e.toNat - 48 := by
    unfold isD at he
    have : e.toNat ≠ 48 := fun h => h48 (UInt8.toNat.inj h)
    omega
  have h2 : 10 ^ 19 ≤ 10 ^ t.length := Nat.pow_le_pow_right (by omega) hl
  have h3 : 1 * 10 ^ t.length ≤ (e.toNat - 48) * 10 ^ t.length := Nat.mul_le_mul_right _ h1
  have e2 : decL (e :: t) = t.foldl (fun a c => 10 * a + (c.toNat - 48)) (e.toNat - 48) := by simp [decL]
  rw [e2]
  have e3 : (10 : Nat) ^ 19 = 10000000000000000000 := by decide
  omega

theorem cut_one (r : List UInt8) : (⟨(45 :: r).toArray⟩ : ByteArray).extract 1 (r.length + 1) = ⟨r.toArray⟩ := by
  apply ByteArray.ext
  simp

set_option maxHeartbeats 400000 in
theorem rTake_empty (w : World) :
    Calls Tryz.prog 50 #[.string ⟨#[]⟩] w fun e w' => e = .returned (.tuple #[.int .i64 0, .int .i64 3]) ∧ w = w' := by
  go_enter Tryz.func50, Tryz.ntmps50
  go_wp2
  go_ret2
  exact ⟨rfl, rfl⟩
set_option maxHeartbeats 400000 in
theorem rTake_dash (w : World) :
    Calls Tryz.prog 50 #[.string ⟨#[45]⟩] w fun e w' => e = .returned (.tuple #[.int .i64 0, .int .i64 4]) ∧ w = w' := by
  have hi : ((⟨#[45]⟩ : ByteArray)[0]'(by decide)).toNat = 45 := rfl
  have hc : (⟨#[45]⟩ : ByteArray).extract 1 1 = ⟨#[]⟩ := by decide
  go_enter Tryz.func50, Tryz.ntmps50
  go_wp2
  go_ret2
  exact ⟨rfl, rfl⟩
set_option maxHeartbeats 1000000 in
theorem rTake_minus (e : UInt8) (t : List UInt8) (hl : t.length + 1 ≤ 19) (h48 : e ≠ 48) (w : World) :
    Calls Tryz.prog 50 #[.string ⟨(45 :: e :: t).toArray⟩] w fun x w' => TPost (e :: t) true w x w' := by
  have hi : ((⟨(45 :: e :: t).toArray⟩ : ByteArray)[0]'(by simp [ByteArray.size])).toNat = 45 := rfl
  have hc := cut_one (e :: t)
  rw [List.length_cons] at hc
  have hi2 : ((⟨(e :: t).toArray⟩ : ByteArray)[0]'(by simp [ByteArray.size])).toNat = e.toNat := rfl
  have hne : ¬ e.toNat = 48 := fun h => h48 (UInt8.toNat.inj h)
  have hb : ((e.toNat : Int) == 48) = false := by simp; omega
  have hdl : decide ((19 : Int) < (t.length : Int) + 1) = false := by simp; omega
  have HNE := Lib.hid hne
  clear h48 hne
  go_enter Tryz.func50, Tryz.ntmps50
  go_wp2_with fail
  go_loop [6, 7] (fun a i => ∃ (k : Nat) (v : Int), k ≤ t.length + 1 ∧ i = .int .i64 k ∧ a = .int .u64 v ∧ v = decL ((e :: t).take k) ∧ ∀ j, j < k → isD ((e :: t).getD j 0)) (fun _ i => t.length + 1 - (intOf i).toNat)
  case atStart => exact ⟨0, 0, Nat.zero_le _, rfl, rfl, by simp [decL], fun j hj => absurd hj (Nat.not_lt_zero _)⟩
  case round =>
    obtain ⟨k, v, hk, rfl, rfl, hv, hdig⟩ := hrel
    have HV := Lib.hid hv; clear hv
    have HDIG := Lib.hid hdig; clear hdig
    have hv0 : 0 ≤ v := by rw [HV.out]; omega
    by_cases hlt : k < t.length + 1
    · have hvb : v ≤ 999999999999999999 := by
        have h := decL_lt ((e :: t).take k) (fun j hj => by
          rw [List.length_take] at hj
          have h := HDIG.out j (by omega)
          rwa [List.getD_eq_getElem?_getD, List.getElem?_take, if_pos (by omega), ← List.getD_eq_getElem?_getD]) k (by simp; omega)
        rw [List.take_take, Nat.min_self] at h
        have h2 : 10 ^ k ≤ 10 ^ 18 := Nat.pow_le_pow_right (by omega) (by omega)
        have h3 : (10 : Nat) ^ 18 = 1000000000000000000 := by decide
        have h4 := HV.out
        omega
      have hx : ((⟨(e :: t).toArray⟩ : ByteArray)[k]'(by simp [ByteArray.size]; omega)) = (e :: t).getD k 0 := by
        rw [List.getD_eq_getElem?_getD, List.getElem?_eq_getElem (by simp; omega)]; rfl
      obtain ⟨c, hce⟩ : ∃ c : Nat, c = ((⟨(e :: t).toArray⟩ : ByteArray)[k]'(by simp [ByteArray.size]; omega)).toNat := ⟨_, rfl⟩
      have hcd : c = ((e :: t).getD k 0).toNat := by rw [hce, hx]
      have HCD := Lib.hid hcd; clear hcd hx
      have hce2 := hce.symm
      clear hce
      have hc256 : c < 256 := by rw [HCD.out]; exact ((e :: t).getD k 0).toNat_lt
      by_cases hd : 48 ≤ c ∧ c ≤ 57
      · obtain ⟨hd0, hd1⟩ := hd
        go_wp2
        go_round
        case rel =>
          refine ⟨k + 1, _, by omega, by go_num, rfl, ?_, ?_⟩
          · rw [decL_take _ _ (by simp; omega), ← HCD.out]
            have := HV.out
            omega
          · intro j hj
            by_cases h : j < k
            · exact HDIG.out j h
            · obtain rfl : j = k := by omega
              unfold isD; rw [← HCD.out]; omega
        case measure => simp [intOf]; omega
      · have hbad : ¬ isD ((e :: t).getD k 0) := by unfold isD; rw [← HCD.out]; exact hd
        have HBAD := Lib.hid hbad; clear hbad
        by_cases h1 : c < 48
        · go_wp2
          go_ret2
          exact ⟨Below.refl _ _, .inl ⟨rfl, .inl ⟨k, by simp; omega, HBAD.out⟩⟩⟩
        · have h2 : 57 < c := by omega
          go_wp2
          go_ret2
          exact ⟨Below.refl _ _, .inl ⟨rfl, .inl ⟨k, by simp; omega, HBAD.out⟩⟩⟩
    · obtain rfl : k = t.length + 1 := by omega
      have hvd : v = decL (e :: t) := by have h := HV.out; rwa [List.take_of_length_le (by simp)] at h
      have HVD := Lib.hid hvd; clear hvd
      have hv1 : 1 ≤ v := by
        have h := decL_ge t (e.toNat - 48)
        have e2 : decL (e :: t) = t.foldl (fun a c => 10 * a + (c.toNat - 48)) (e.toNat - 48) := by simp [decL]
        have h0 := HDIG.out 0 (by omega)
        unfold isD at h0
        have h0' : (([e] ++ t : List UInt8).getD 0 0) = e := rfl
        have h0'' : 48 ≤ e.toNat := h0.1
        have h4 : e.toNat ≠ 48 := HNE.out
        have h5 : 1 * 10 ^ t.length ≤ (e.toNat - 48) * 10 ^ t.length := Nat.mul_le_mul_right _ (by omega)
        have h6 : 1 ≤ 10 ^ t.length := Nat.one_le_pow _ _ (by omega)
        have h7 := HV.out
        rw [List.take_of_length_le (by simp)] at h7
        omega
      have hvb : v ≤ 9999999999999999999 := by
        have h := decL_lt (e :: t) (fun j hj => HDIG.out j (by simpa using hj)) (t.length + 1) (by simp)
        rw [List.take_of_length_le (by simp)] at h
        have h2 : 10 ^ (t.length + 1) ≤ 10 ^ 19 := Nat.pow_le_pow_right (by omega) (by omega)
        have h3 : (10 : Nat) ^ 19 = 10000000000000000000 := by decide
        have h4 := HVD.out
        omega
      by_cases hbig : v ≤ 9223372036854775808
      · skip
        go_wp2
        go_ret2
        exact ⟨Below.refl _ _, .inr ⟨tup_int (by have := HVD.out; rw [if_pos rfl]; omega), fun i hi => HDIG.out i (by simpa using hi), by have := HVD.out; rw [if_pos rfl]; omega⟩⟩
      · have hfin : (decL (e :: t) : Int) > (if true = true then 9223372036854775808 else 9223372036854775807) := by have := HVD.out; rw [if_pos rfl]; omega
        have HF := Lib.hid hfin; clear hfin
        go_wp2
        go_ret2
        exact ⟨Below.refl _ _, .inl ⟨rfl, .inr HF.out⟩⟩
set_option maxHeartbeats 1000000 in
theorem rTake_plus (e : UInt8) (t : List UInt8) (hl : t.length + 1 ≤ 19) (h48 : e ≠ 48) (h45 : e ≠ 45) (w : World) :
    Calls Tryz.prog 50 #[.string ⟨(e :: t).toArray⟩] w fun x w' => TPost (e :: t) false w x w' := by
  have h45b : ((e.toNat : Int) == 45) = false := by
    have : ¬ e.toNat = 45 := fun h => h45 (UInt8.toNat.inj h)
    simp; omega
  clear h45
  have hi2 : ((⟨(e :: t).toArray⟩ : ByteArray)[0]'(by simp [ByteArray.size])).toNat = e.toNat := rfl
  have hne : ¬ e.toNat = 48 := fun h => h48 (UInt8.toNat.inj h)
  have hb : ((e.toNat : Int) == 48) = false := by simp; omega
  have hdl : decide ((19 : Int) < (t.length : Int) + 1) = false := by simp; omega
  have HNE := Lib.hid hne
  clear h48 hne
  go_enter Tryz.func50, Tryz.ntmps50
  go_wp2_with fail
  go_loop [6, 7] (fun a i => ∃ (k : Nat) (v : Int), k ≤ t.length + 1 ∧ i = .int .i64 k ∧ a = .int .u64 v ∧ v = decL ((e :: t).take k) ∧ ∀ j, j < k → isD ((e :: t).getD j 0)) (fun _ i => t.length + 1 - (intOf i).toNat)
  case atStart => exact ⟨0, 0, Nat.zero_le _, rfl, rfl, by simp [decL], fun j hj => absurd hj (Nat.not_lt_zero _)⟩
  case round =>
    obtain ⟨k, v, hk, rfl, rfl, hv, hdig⟩ := hrel
    have HV := Lib.hid hv; clear hv
    have HDIG := Lib.hid hdig; clear hdig
    have hv0 : 0 ≤ v := by rw [HV.out]; omega
    by_cases hlt : k < t.length + 1
    · have hvb : v ≤ 999999999999999999 := by
        have h := decL_lt ((e :: t).take k) (fun j hj => by
          rw [List.length_take] at hj
          have h := HDIG.out j (by omega)
          rwa [List.getD_eq_getElem?_getD, List.getElem?_take, if_pos (by omega), ← List.getD_eq_getElem?_getD]) k (by simp; omega)
        rw [List.take_take, Nat.min_self] at h
        have h2 : 10 ^ k ≤ 10 ^ 18 := Nat.pow_le_pow_right (by omega) (by omega)
        have h3 : (10 : Nat) ^ 18 = 1000000000000000000 := by decide
        have h4 := HV.out
        omega
      have hx : ((⟨(e :: t).toArray⟩ : ByteArray)[k]'(by simp [ByteArray.size]; omega)) = (e :: t).getD k 0 := by
        rw [List.getD_eq_getElem?_getD, List.getElem?_eq_getElem (by simp; omega)]; rfl
      obtain ⟨c, hce⟩ : ∃ c : Nat, c = ((⟨(e :: t).toArray⟩ : ByteArray)[k]'(by simp [ByteArray.size]; omega)).toNat := ⟨_, rfl⟩
      have hcd : c = ((e :: t).getD k 0).toNat := by rw [hce, hx]
      have HCD := Lib.hid hcd; clear hcd hx
      have hce2 := hce.symm
      clear hce
      have hc256 : c < 256 := by rw [HCD.out]; exact ((e :: t).getD k 0).toNat_lt
      by_cases hd : 48 ≤ c ∧ c ≤ 57
      · obtain ⟨hd0, hd1⟩ := hd
        go_wp2
        go_round
        case rel =>
          refine ⟨k + 1, _, by omega, by go_num, rfl, ?_, ?_⟩
          · rw [decL_take _ _ (by simp; omega), ← HCD.out]
            have := HV.out
            omega
          · intro j hj
            by_cases h : j < k
            · exact HDIG.out j h
            · obtain rfl : j = k := by omega
              unfold isD; rw [← HCD.out]; omega
        case measure => simp [intOf]; omega
      · have hbad : ¬ isD ((e :: t).getD k 0) := by unfold isD; rw [← HCD.out]; exact hd
        have HBAD := Lib.hid hbad; clear hbad
        by_cases h1 : c < 48
        · go_wp2
          go_ret2
          exact ⟨Below.refl _ _, .inl ⟨rfl, .inl ⟨k, by simp; omega, HBAD.out⟩⟩⟩
        · have h2 : 57 < c := by omega
          go_wp2
          go_ret2
          exact ⟨Below.refl _ _, .inl ⟨rfl, .inl ⟨k, by simp; omega, HBAD.out⟩⟩⟩
    · obtain rfl : k = t.length + 1 := by omega
      have hvd : v = decL (e :: t) := by have h := HV.out; rwa [List.take_of_length_le (by simp)] at h
      have HVD := Lib.hid hvd; clear hvd
      have hvb : v ≤ 9999999999999999999 := by
        have h := decL_lt (e :: t) (fun j hj => HDIG.out j (by simpa using hj)) (t.length + 1) (by simp)
        rw [List.take_of_length_le (by simp)] at h
        have h2 : 10 ^ (t.length + 1) ≤ 10 ^ 19 := Nat.pow_le_pow_right (by omega) (by omega)
        have h3 : (10 : Nat) ^ 19 = 10000000000000000000 := by decide
        have h4 := HVD.out
        omega
      by_cases hbig : v ≤ 9223372036854775807
      · have hq : (v == 9223372036854775808) = false := by simp; omega
        go_wp2
        go_ret2
        exact ⟨Below.refl _ _, .inr ⟨tup_int (by have := HVD.out; rw [if_neg (by decide)]; omega), fun i hi => HDIG.out i (by simpa using hi), by have := HVD.out; rw [if_neg (by decide)]; omega⟩⟩
      · have hfin : (decL (e :: t) : Int) > (if false = true then 9223372036854775808 else 9223372036854775807) := by have := HVD.out; rw [if_neg (by decide)]; omega
        have HF := Lib.hid hfin; clear hfin
        by_cases hb3 : 9223372036854775808 < v
        · go_wp2
          go_ret2
          exact ⟨Below.refl _ _, .inl ⟨rfl, .inr HF.out⟩⟩
        · have hq : (v == 9223372036854775808) = true := by simp; omega
          go_wp2
          go_ret2
          exact ⟨Below.refl _ _, .inl ⟨rfl, .inr HF.out⟩⟩
end Go.Proofs.YtonkclkopmdahaaGreatDoor
