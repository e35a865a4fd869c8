/-
  Texts that belong together, one behind the other.
-/
import Derived.Test.YtonkclkopmdahaaDoorFu09
import Derived.Test.YtonkclkopmdahaaDoorFu10
import Derived.Test.YtonkclkopmdahaaDoorFu02
import Derived.Great.BuildSlice
import Derived.OrdersHeld
import Derived.Laws.Tables
import Derived.Laws.StructEq
import Derived.Lib.LaidU8T
import Derived.PinnedBridge
/-
  Layer 9, the program: a line of a header, and Print.
-/
namespace Go.Proofs.YtonkclkopmdahaaDoor
set_option maxRecDepth 20000
open Go.RowKit
set_option linter.unusedVariables false
set_option linter.unusedSimpArgs false

theorem red9 {w : World} {g cap : Nat} {l : List UInt8} (h : RowX w g cap l) (n : Nat) (hn : n = l.length) : Red w (.slice (some ⟨g, 0, .none⟩) n cap) l := by
  subst hn
  have hb := h.bat
  obtain ⟨cur, fz, hg, h1, h2, _⟩ := h
  exact ⟨_, cap, rfl, hb, (fun e => nomatch e), h1, h2⟩
/-- A line's bytes. -/
def lineB (v x : List UInt8) : List UInt8 := v ++ [32] ++ x ++ [10]
set_option maxHeartbeats 2000000 in
theorem line9_is (v x : List UInt8) (hv : v.length ≤ 100) (hx : x.length ≤ 1000000) (w : World) :
    Calls Tryd.prog 7 #[.string ⟨v.toArray⟩, .string ⟨x.toArray⟩] w fun e w' => e = .returned (.string ⟨(lineB v x).toArray⟩) ∧ w' = w := by
  have ad0 := fun w => add_lists (P := Tryd.prog) w v [32] (by simp; omega)
  have ad1 := fun w => add_lists (P := Tryd.prog) w (v ++ [32]) x (by simp; omega)
  have ad2 := fun w => add_lists (P := Tryd.prog) w (v ++ [32] ++ x) [10] (by simp; omega)
  unfold lineB
  generalize (⟨(v ++ [32] ++ x ++ [10]).toArray⟩ : ByteArray) = s3 at ad2 ⊢
  generalize (⟨(v ++ [32] ++ x).toArray⟩ : ByteArray) = s2 at ad1 ad2
  generalize (⟨(v ++ [32]).toArray⟩ : ByteArray) = s1 at ad0 ad1
  generalize (⟨v.toArray⟩ : ByteArray) = s0 at *
  generalize (⟨x.toArray⟩ : ByteArray) = sx at *
  clear hv hx
  go_enter Tryd.func7, Tryd.ntmps7
  go_wp2
  go_ret
  exact ⟨rfl, rfl⟩
def treeV : List UInt8 := [116, 114, 101, 101]
def parentV : List UInt8 := [112, 97, 114, 101, 110, 116]
def authorV : List UInt8 := [97, 117, 116, 104, 111, 114]
def committerV : List UInt8 := [99, 111, 109, 109, 105, 116, 116, 101, 114]
/-- What stands ahead of the idents. -/
def headB (t : List UInt8) (ps : List (List UInt8)) : List UInt8 := lineB treeV (hexL t) ++ ps.flatMap fun p => lineB parentV (hexL p)
theorem head_snoc (t : List UInt8) (l : List (List UInt8)) (k : Nat) (hk : k < l.length) : headB t (l.take (k + 1)) = headB t (l.take k) ++ lineB parentV (hexL l[k]) := by
  unfold headB
  rw [List.take_succ_eq_append_getElem hk, List.flatMap_append, List.flatMap_cons, List.flatMap_nil, List.append_nil, List.append_assoc]
theorem parsT_flat : ∀ (ps : List (List UInt8)) (r : List UInt8), parsT hexL ps r = (ps.flatMap fun p => lineB parentV (hexL p)) ++ r
  | [], r => rfl
  | p :: ps, r => by
    unfold parsT
    rw [parsT_flat ps r, List.flatMap_cons]
    unfold lineT lineB parentW parentV
    simp
theorem head_len (t : List UInt8) (ht : t.length = 20) (l : List (List UInt8)) (hid : ∀ i ∈ l, i.length = 20) (k : Nat) (hk : k ≤ 16) : (headB t (l.take k)).length ≤ 46 + 48 * 16 := by
  have h1 := hexL_length t
  have h2 : ∀ ps : List (List UInt8), (∀ i ∈ ps, i.length = 20) → (ps.flatMap fun p => lineB parentV (hexL p)).length = 48 * ps.length := by
    intro ps
    induction ps with
    | nil => intro _; rfl
    | cons p ps ih =>
      intro h
      have h3 := hexL_length p
      rw [h p (by simp)] at h3
      rw [List.flatMap_cons, List.length_append, ih (fun i hi => h i (by simp [hi]))]
      unfold lineB parentV
      simp only [List.length_append, List.length_cons, List.length_nil, h3]
      omega
  have h4 := h2 (l.take k) (fun i hi => hid i (List.mem_of_mem_take hi))
  have h5 : (l.take k).length ≤ k := by rw [List.length_take]; omega
  unfold headB
  rw [List.length_append, h4]
  unfold lineB treeV
  simp only [List.length_append, List.length_cons, List.length_nil, h1, ht]
  omega
/-- A record's bytes, as the program puts them together. -/
theorem print_way (t : List UInt8) (l : List (List UInt8)) (a c : Idt) (x : List UInt8) :
    printC hexL (printI Lib.itoa) ⟨t, l, a, c, x⟩ = headB t l ++ (lineB authorV (printI Lib.itoa a) ++ lineB committerV (printI Lib.itoa c)) ++ [10] ++ x := by
  unfold printC headB
  simp only
  unfold lineT
  rw [parsT_flat]
  unfold lineB treeV treeW authorV authorW committerV committerW
  simp
/-- What Print answers. -/
def printR (c : Rcd) : List UInt8 × Int := if rightR c = true then (printC hexL (printI Lib.itoa) c, 0) else ([], 4)
set_option maxHeartbeats 16000000 in
theorem Print9_is (t : List UInt8) (a1 : Option Addr) (n c1 : Nat) (l : List (List UInt8)) (a c : Idt) (x : List UInt8) (w : World) (tab : T6 w) (ht : t.length = 20) (hit : IdsAt w a1 l) (hn : n = l.length) (hm : n ≤ 1000000) (hnc : n ≤ c1) (hid : ∀ i ∈ l, i.length = 20)
    (s1 : a.name.length ≤ 1000000) (s2 : a.email.length ≤ 1000000) (s3 : c.name.length ≤ 1000000) (s4 : c.email.length ≤ 1000000) :
    Calls Tryd.prog 4 #[.agg (arrC t (.slice a1 n c1) a c x)] w fun e w' => ∃ v, e = .returned (.tuple #[v, .int .i64 (printR ⟨t, l, a, c, x⟩).2]) ∧ Red w' v (printR ⟨t, l, a, c, x⟩).1 ∧ Below w.heap.size w w' := by
  obtain ⟨A1, hA1⟩ : ∃ A, arrC t (.slice a1 n c1) a c x = A := ⟨_, rfl⟩
  have HA1 := Lib.hid hA1
  have b1 : Below w.heap.size w (w.alloc (.cells A1 29)) := (Below.refl w.heap.size w).alloc (Nat.le_refl _) (.cells A1 29)
  have HX := Lib.hid (heap_alloc_new w (.cells A1 29))
  have r1 : RecAt (w.alloc (.cells A1 29)) w.heap.size t (.slice a1 n c1) a c x := recAt_of (ty := 29) (fr := (0, 0)) ht (by rw [hA1]; exact HX.out)
  have cR := Right9_is t a1 n c1 l a c x _ (tab.keep b1) ht (hit.keep b1) hn hm hnc hid s1 s2 s3 s4
  rw [hA1] at cR
  have I30 := Lib.hid (show (Tryd.prog.info? 29).map (·.size) = some A1.size from infoC_arr A1 (by rw [← hA1]; exact arrC_size _ _ _ _ _ ht))
  have B1 := Lib.hid b1
  cases hr : rightR ⟨t, l, a, c, x⟩ with
  | false =>
    have e0 : printR ⟨t, l, a, c, x⟩ = ([], 4) := by unfold printR; rw [hr]; rfl
    rw [e0]
    rw [hr] at cR
    rw [hA1]
    clear e0 hr r1 b1 hit hn hm hnc hid hA1 tab HA1
    go_enter Tryd.func4, Tryd.ntmps4
    go_wp2_with (first
      | (with_reducible refine wpList_load_all 29 (.tmp 1) rfl (by kernel_rfl) w.heap.size A1 29 (0, 0) rfl HX.out _ Tryd.underlying29 rfl I30.out ?_)
      | fail)
    refine cR.mono ?_
    rintro e w2 ⟨rfl, hb2⟩
    have HB2 := Lib.hid (B1.out.trans (hb2.mono B1.out.size))
    clear hb2
    go_wp2
    go_ret2
    exact ⟨_, rfl, Red.none _, HB2.out⟩
  | true =>
    obtain ⟨-, h16, -, -, -, h32, -⟩ := (rightR_iff _).1 hr
    simp only at h16 h32
    have e0 : printR ⟨t, l, a, c, x⟩ = (headB t l ++ (lineB authorV (printI Lib.itoa a) ++ lineB committerV (printI Lib.itoa c)) ++ [10] ++ x, 0) := by unfold printR; rw [hr, if_pos rfl, print_way]
    obtain ⟨F, hF⟩ : ∃ F, headB t l ++ (lineB authorV (printI Lib.itoa a) ++ lineB committerV (printI Lib.itoa c)) ++ [10] ++ x = F := ⟨_, rfl⟩
    have HF := Lib.hid hF
    rw [e0, hF]
    rw [hr] at cR
    rw [hA1]
    have hm16 : n ≤ 16 := by omega
    have K := Lib.hid (fun u (hb : Below (w.alloc (.cells A1 29)).heap.size (w.alloc (.cells A1 29)) u) => r1.keep hb)
    have TB := Lib.hid (fun u (hb : Below w.heap.size w u) => tab.keep hb)
    have H16 := Lib.hid (show n ≤ 16 by omega)
    have HIT := Lib.hid hit; have HN := Lib.hid hn; have HID := Lib.hid hid; have HT := Lib.hid ht
    have HL := Lib.hid (fun k (hk : k ≤ 16) => head_len t ht l hid k hk)
    have HS := Lib.hid (fun k hk => head_snoc t l k hk)
    have LA := Lib.hid (print_len a); have LC := Lib.hid (print_len c)
    have H32 := Lib.hid h32
    have CHX := Lib.hid (fun (i : List UInt8) (hi : i.length = 20) u b o (hb : BAt u (some ⟨b, o, none⟩) i) => Hex_any (some ⟨b, o, none⟩) 20 20 i u hb hi.symm (by omega))
    have CL := Lib.hid (fun v y hv hy u => line9_is v y hv hy u)
    have CPA := Lib.hid (fun u (hb : Below w.heap.size w u) => Print_is a s1 s2 u (tab.keep hb))
    have CPC := Lib.hid (fun u (hb : Below w.heap.size w u) => Print_is c s3 s4 u (tab.keep hb))
    have ea : idtV a = .agg (cellsT a).toArray := rfl
    have ec : idtV c = .agg (cellsT c).toArray := rfl
    rw [ea] at CPA
    rw [ec] at CPC
    have LA4 := Lib.hid (show (Tryd.prog.info? 24).map (·.size) = some (cellsT a).length from infoT)
    have LC4 := Lib.hid (show (Tryd.prog.info? 24).map (·.size) = some (cellsT c).length from infoT)
    obtain ⟨z, hz0, hzs, hzv, hzb, hz1⟩ := zId_any
    have HZS := Lib.hid hzs
    clear e0 hF hr r1 b1 hit hn hnc hid hA1 tab HA1 h16 h32 ea ec s1 s2 s3 s4 ht hm hz0 hzs hzb hz1
    go_enter Tryd.func4, Tryd.ntmps4
    go_wp2_with (first
      | (with_reducible refine wpList_load_all 29 (.tmp 1) rfl (by kernel_rfl) w.heap.size A1 29 (0, 0) rfl HX.out _ Tryd.underlying29 rfl I30.out ?_)
      | fail)
    refine cR.mono ?_
    rintro e w2 ⟨rfl, hb2⟩
    have HB2 := Lib.hid hb2
    have R2 := Lib.hid (K.out _ hb2)
    have sl := fun u => slice20_D u w.heap.size 0
    clear hb2 cR
    go_wp2_with fail
    refine (CHX.out t HT.out _ w.heap.size 0 (bat_of_range R2.out.lt R2.out.tree)).mono ?_
    rintro e w3 ⟨rfl, hb3⟩
    have HB3 := Lib.hid (HB2.out.trans (hb3.mono HB2.out.size))
    clear hb3
    have cl0 := CL.out treeV (hexL t) (by decide) (by rw [hexL_length, HT.out]; decide)
    rw [show treeV = [116, 114, 101, 101] from rfl] at cl0
    go_wp2_with fail
    refine (cl0 _).mono ?_
    rintro e w4 ⟨rfl, rfl⟩
    have R3 := Lib.hid (K.out _ HB3.out)
    have p3 := R3.out.parents
    have HS0 := Lib.hid (show lineB [116, 114, 101, 101] (hexL t) = headB t (l.take 0) by unfold headB; rw [List.take_zero, List.flatMap_nil, List.append_nil]; rfl)
    rw [HS0.out]
    clear cl0 sl
    go_wp2_with fail
    go_loopw [4, 17] (fun v4 v17 wr => ∃ k : Nat, k ≤ n ∧ v17 = .int .i64 k ∧ v4 = .string ⟨(headB t (l.take k)).toArray⟩ ∧ Below (w.alloc (.cells A1 29)).heap.size (w.alloc (.cells A1 29)) wr) (fun _ v17 _ => n - (intOf v17).toNat)
    case atStart => exact ⟨0, Nat.zero_le _, rfl, rfl, HB3.out⟩
    case round =>
      obtain ⟨k, hk, rfl, rfl, hbr⟩ := hrel
      have HBR := Lib.hid hbr
      have HBW := Lib.hid (B1.out.trans (hbr.mono B1.out.size))
      clear hbr
      by_cases hlt : k < n
      · have hkl : k < l.length := by rw [← HN.out]; exact hlt
        obtain ⟨b, o, rfl, hbl, hc⟩ := HIT.out (by omega)
        obtain ⟨y, hy⟩ : ∃ y, l[k] = y := ⟨_, rfl⟩
        have hidy := HID.out y (by rw [← hy]; exact List.getElem_mem _)
        have HIDY := Lib.hid hidy
        have RY := Lib.hid (show wr.rangeAt b (o + k * 20) (cellsD y) from fun j v hv => (HBW.out.cell (p := ⟨b, o + k * 20 + j, none⟩) hbl).trans (hc k hkl j v (by rw [hy]; exact hv)))
        have LX := Lib.hid (show (Tryd.prog.info? 26).map (·.size) = some (cellsD y).length by rw [cellsD_len y hidy]; exact infoD_n)
        have LXA := Lib.hid (show (Tryd.prog.info? 26).map (·.size) = some (cellsD y).toArray.size by rw [List.size_toArray, cellsD_len y hidy]; exact infoD_n)
        have SXA := Lib.hid (show (cellsD y).toArray.size = z.size by rw [List.size_toArray, cellsD_len y hidy, HZS.out])
        have OXA := Lib.hid (cellsD_one y)
        have HSY := Lib.hid (show headB t (l.take (k + 1)) = headB t (l.take k) ++ lineB parentV (hexL y) by rw [HS.out k hkl, hy])
        have CHY := Lib.hid (CHX.out y hidy)
        have cl1 := CL.out parentV (hexL y) (by decide) (by rw [hexL_length, hidy]; decide)
        rw [show parentV = [112, 97, 114, 101, 110, 116] from rfl] at cl1 HSY
        have had := fun u => add_lists (P := Tryd.prog) u (headB t (l.take k)) (lineB [112, 97, 114, 101, 110, 116] (hexL y)) (by have h1 := HL.out k (by have := H16.out; omega); have h2 := hexL_length y; rw [hidy] at h2; unfold lineB; simp only [List.length_append, List.length_cons, List.length_nil, h2]; omega)
        rw [← HSY.out] at had
        have sl := fun u => slice20_D u wr.heap.size 0
        have BATY := Lib.hid (fun (u : World) (hg : u.heap[wr.heap.size]? = some (.cells (cellsD y).toArray 26 (0, 0))) => bat_of_range (i := y) (lt_of_heap hg) (row_arrD hg))
        clear hbl hc hy hidy HSY
        generalize (⟨(headB t (l.take k)).toArray⟩ : ByteArray) = sk at *
        obtain ⟨sk1, hsk1⟩ : ∃ sk1 : ByteArray, ⟨(headB t (l.take (k + 1))).toArray⟩ = sk1 := ⟨_, rfl⟩
        have HSK1 := Lib.hid hsk1
        rw [hsk1] at had
        clear hsk1
        generalize (⟨(lineB [112, 97, 114, 101, 110, 116] (hexL y)).toArray⟩ : ByteArray) = sln at *
        generalize (⟨(hexL y).toArray⟩ : ByteArray) = shx at *
        generalize cellsD y = cy at *
        go_wp2_with (first
          | (with_reducible refine wpList_load_mid rfl 26 (.tmp 19) rfl b (o + k * 20) rfl cy _ RY.out Tryd.underlying26 rfl LX.out ?_)
          | (with_reducible refine wpList_store_all rfl 26 (.tmp 6) (.tmp 20) rfl wr.heap.size cy.toArray rfl rfl 26 z (heap_alloc_new wr _) LXA.out SXA.out OXA.out ?_)
          | fail)
        intro w2 hg2 ho2 hs2
        have HB5 := Lib.hid (((Below.refl wr.heap.size wr).alloc (Nat.le_refl _) (.cells z 26)).trans (ho2.below (Nat.le_refl _) (by simp)))
        have BY := Lib.hid (BATY.out _ hg2)
        clear ho2 hs2 hg2 BATY
        go_wp2_with fail
        refine (CHY.out _ _ 0 BY.out).mono ?_
        rintro e w6 ⟨rfl, hb6⟩
        have HB6 := Lib.hid (HBR.out.trans ((HB5.out.trans (hb6.mono HB5.out.size)).mono HBR.out.size))
        clear hb6
        go_wp2_with fail
        refine (cl1 _).mono ?_
        rintro e w7 ⟨rfl, rfl⟩
        go_wp2
        go_roundw
        case rel => exact ⟨k + 1, by omega, by go_num, by rw [HSK1.out], HB6.out⟩
        case measure => simp [intOf]; omega
      · obtain rfl : k = n := by omega
        have ht2 : l.take k = l := by rw [HN.out, List.take_length]
        have hl1 := HL.out k H16.out
        rw [ht2] at hl1
        rw [ht2]
        have R8 := Lib.hid (K.out _ HBR.out)
        have RA := Lib.hid (fun u (hu : Below wr.heap.size wr u) => (R8.out.keep hu).author)
        have RC := Lib.hid (fun u (hu : Below wr.heap.size wr u) => (R8.out.keep hu).committer)
        have RX := Lib.hid (fun u (hu : Below wr.heap.size wr u) => (R8.out.keep hu).text)
        have CA8 := Lib.hid (fun u (hu : Below wr.heap.size wr u) => CPA.out u (HBW.out.trans (hu.mono HBW.out.size)))
        have CC8 := Lib.hid (fun u (hu : Below wr.heap.size wr u) => CPC.out u (HBW.out.trans (hu.mono HBW.out.size)))
        have la1 := LA.out
        have lc1 := LC.out
        have CLA := Lib.hid (CL.out authorV (printI Lib.itoa a) (by decide) (by omega))
        have CLC := Lib.hid (CL.out committerV (printI Lib.itoa c) (by decide) (by omega))
        have hF := HF.out
        rw [show authorV = [97, 117, 116, 104, 111, 114] from rfl] at CLA hF
        rw [show committerV = [99, 111, 109, 109, 105, 116, 116, 101, 114] from rfl] at CLC hF
        clear HF
        have lla : (lineB [97, 117, 116, 104, 111, 114] (printI Lib.itoa a)).length ≤ 1100 := by unfold lineB; simp only [List.length_append, List.length_cons, List.length_nil]; omega
        have llc : (lineB [99, 111, 109, 109, 105, 116, 116, 101, 114] (printI Lib.itoa c)).length ≤ 1100 := by unfold lineB; simp only [List.length_append, List.length_cons, List.length_nil]; omega
        have hx32 := H32.out
        generalize lineB [97, 117, 116, 104, 111, 114] (printI Lib.itoa a) = ba at *
        generalize lineB [99, 111, 109, 109, 105, 116, 116, 101, 114] (printI Lib.itoa c) = bc at *
        generalize headB t l = bh at *
        have ad1 := fun u => add_lists (P := Tryd.prog) u ba bc (by omega)
        have ad2 := fun u => add_lists (P := Tryd.prog) u bh (ba ++ bc) (by simp only [List.length_append]; omega)
        have ad3 := fun u => add_lists (P := Tryd.prog) u (bh ++ (ba ++ bc)) [10] (by simp only [List.length_append, List.length_cons, List.length_nil]; omega)
        have ad4 := fun u => add_lists (P := Tryd.prog) u (bh ++ (ba ++ bc) ++ [10]) x (by simp only [List.length_append, List.length_cons, List.length_nil]; omega)
        have hlF : (bh ++ (ba ++ bc) ++ [10] ++ x).length ≤ 1099511627776 := by simp only [List.length_append, List.length_cons, List.length_nil]; omega
        rw [hF] at ad4 hlF
        have SR := Lib.hid (fun u => str_row u F hlF)
        clear hl1 la1 lc1 lla llc hx32 hF hlF ht2
        generalize (⟨F.toArray⟩ : ByteArray) = sF at *
        generalize (⟨(bh ++ (ba ++ bc) ++ [10]).toArray⟩ : ByteArray) = s3 at *
        generalize (⟨(bh ++ (ba ++ bc)).toArray⟩ : ByteArray) = s2 at *
        generalize (⟨(ba ++ bc).toArray⟩ : ByteArray) = s1 at *
        generalize (⟨bh.toArray⟩ : ByteArray) = sh at *
        generalize (⟨ba.toArray⟩ : ByteArray) = sba at *
        generalize (⟨bc.toArray⟩ : ByteArray) = sbc at *
        generalize (⟨x.toArray⟩ : ByteArray) = sx at *
        generalize (⟨(printI Lib.itoa a).toArray⟩ : ByteArray) = spa at *
        generalize (⟨(printI Lib.itoa c).toArray⟩ : ByteArray) = spc at *
        generalize cellsT a = ca at *
        generalize cellsT c = cc at *
        go_wp2_with fail
        refine wp_region_held_drew (S := fun u => Below wr.heap.size wr u) (by kernel_rfl) (Below.refl _ _).drew (fun hHeld => ?_)
        refine wpAnyH_take (i := 0) (v := ?hv0) rfl (by kernel_rfl) (by kernel_rfl) (by kernel_rfl) (fun _ _ _ h => h) (Or.inl ⟨by kernel_rfl, ?hy0⟩) hHeld ?_
        case hy0 => intro u hu; go_simp; try with_reducible rfl
        try simp only [Act.put, List.setIfInBounds_toArray, List.set_cons_zero, List.set_cons_succ]
        refine wpAnyH_take (i := 1) (v := ?hv1) rfl (by kernel_rfl) (by kernel_rfl) (by kernel_rfl) (fun _ _ _ h => h) (Or.inl ⟨by kernel_rfl, ?hy1⟩) hHeld ?_
        case hy1 => intro u hu; go_simp; try with_reducible rfl
        try simp only [Act.put, List.setIfInBounds_toArray, List.set_cons_zero, List.set_cons_succ]
        refine wpAnyH_take (i := 2) rfl (by kernel_rfl) (by kernel_rfl) (by kernel_rfl) (fun _ _ _ h => h) (yieldsIf_load_mid (by kernel_rfl) 24 (.tmp 28) (by kernel_rfl) w.heap.size 21 (by kernel_rfl) ca _ (fun u hu => RA.out u hu) Tryd.underlying24 rfl LA4.out) hHeld ?_
        try simp only [Act.put, List.setIfInBounds_toArray, List.set_cons_zero, List.set_cons_succ]
        refine wpAnyH_take (i := 5) (v := ?hv5) rfl (by kernel_rfl) (by kernel_rfl) (by kernel_rfl) (fun _ _ _ h => h) (Or.inl ⟨by kernel_rfl, ?hy5⟩) hHeld ?_
        case hy5 => intro u hu; go_simp; try with_reducible rfl
        try simp only [Act.put, List.setIfInBounds_toArray, List.set_cons_zero, List.set_cons_succ]
        refine wpAnyH_take (i := 6) rfl (by kernel_rfl) (by kernel_rfl) (by kernel_rfl) (fun _ _ _ h => h) (yieldsIf_load_mid (by kernel_rfl) 24 (.tmp 32) (by kernel_rfl) w.heap.size 25 (by kernel_rfl) cc _ (fun u hu => RC.out u hu) Tryd.underlying24 rfl LC4.out) hHeld ?_
        try simp only [Act.put, List.setIfInBounds_toArray, List.set_cons_zero, List.set_cons_succ]
        refine wpAnyH_ready (rs := [3]) (by kernel_rfl) (by simp) ?_
        refine AllReadyH.cons rfl (fun K hK => ?_) AllReadyH.nil
        go_simp
        refine (CA8.out _ hHeld).mono ?_
        rintro e u1 ⟨rfl, hI⟩
        have hH := hHeld.trans (hI.mono hHeld.size)
        clear hHeld hI
        refine hK.out _ _ hH (fun hHeld => ?_)
        clear hK K
        try simp only [Act.put, List.setIfInBounds_toArray, List.set_cons_zero, List.set_cons_succ]
        refine wpAnyH_ready (rs := [4]) (by kernel_rfl) (by simp) ?_
        refine AllReadyH.cons rfl (fun K hK => ?_) AllReadyH.nil
        go_simp
        refine (CLA.out _).mono ?_
        rintro e u2 ⟨rfl, hE⟩
        subst hE
        have hH := hHeld
        clear hHeld
        refine hK.out _ _ hH (fun hHeld => ?_)
        clear hK K
        try simp only [Act.put, List.setIfInBounds_toArray, List.set_cons_zero, List.set_cons_succ]
        refine wpAnyH_ready (rs := [7]) (by kernel_rfl) (by simp) ?_
        refine AllReadyH.cons rfl (fun K hK => ?_) AllReadyH.nil
        go_simp
        refine (CC8.out _ hHeld).mono ?_
        rintro e u1 ⟨rfl, hI⟩
        have hH := hHeld.trans (hI.mono hHeld.size)
        clear hHeld hI
        refine hK.out _ _ hH (fun hHeld => ?_)
        clear hK K
        try simp only [Act.put, List.setIfInBounds_toArray, List.set_cons_zero, List.set_cons_succ]
        refine wpAnyH_ready (rs := [8]) (by kernel_rfl) (by simp) ?_
        refine AllReadyH.cons rfl (fun K hK => ?_) AllReadyH.nil
        go_simp
        refine (CLC.out _).mono ?_
        rintro e u2 ⟨rfl, hE⟩
        subst hE
        have hH := hHeld
        clear hHeld
        refine hK.out _ _ hH (fun hHeld => ?_)
        clear hK K
        try simp only [Act.put, List.setIfInBounds_toArray, List.set_cons_zero, List.set_cons_succ]
        refine wpAnyH_take (i := 9) (v := ?hv9) rfl (by kernel_rfl) (by kernel_rfl) (by kernel_rfl) (fun _ _ _ h => h) (Or.inl ⟨by kernel_rfl, ?hy9⟩) hHeld ?_
        case hy9 => intro u hu; go_simp; try with_reducible rfl
        try simp only [Act.put, List.setIfInBounds_toArray, List.set_cons_zero, List.set_cons_succ]
        refine wpAnyH_take (i := 10) (v := ?hv10) rfl (by kernel_rfl) (by kernel_rfl) (by kernel_rfl) (fun _ _ _ h => h) (Or.inl ⟨by kernel_rfl, ?hy10⟩) hHeld ?_
        case hy10 => intro u hu; go_simp; try with_reducible rfl
        try simp only [Act.put, List.setIfInBounds_toArray, List.set_cons_zero, List.set_cons_succ]
        refine wpAnyH_take (i := 11) (v := ?hv11) rfl (by kernel_rfl) (by kernel_rfl) (by kernel_rfl) (fun _ _ _ h => h) (Or.inl ⟨by kernel_rfl, ?hy11⟩) hHeld ?_
        case hy11 => intro u hu; go_simp; try with_reducible rfl
        try simp only [Act.put, List.getElem_toArray, List.getElem_cons_succ, List.getElem_cons_zero, List.setIfInBounds_toArray, List.set_cons_zero, List.set_cons_succ]
        refine wpAnyH_done (by kernel_rfl) ?_ _
        rename World => u9
        obtain ⟨cap, w9, hcv, hb9, hr9⟩ := SR.out u9
        have p9 := RX.out u9 hHeld
        have HR9 := Lib.hid hr9
        have HB9 := Lib.hid (HBW.out.trans (((hHeld.trans (hb9.mono hHeld.size)) : Below wr.heap.size wr w9).mono HBW.out.size))
        obtain ⟨lF, hlF⟩ : ∃ lF, F.length = lF := ⟨_, rfl⟩
        have HLF := Lib.hid hlF
        rw [hlF] at hcv
        clear hHeld hb9 hr9 hlF
        go_wp2
        go_ret2
        exact ⟨_, rfl, red9 HR9.out _ HLF.out.symm, HB9.out⟩
end Go.Proofs.YtonkclkopmdahaaDoor

/-
  A literal of a struct or an array.
-/
namespace Go.Proofs.YtonkclkopmdahaaDoor
open Go.RowKit
set_option linter.unusedVariables false

/-- A literal of a struct or an array, its cells carried by a name. -/
theorem wpList_build_as {P : Program} {ops : Array Oper} {rest : List Oper} {o : Oper} {a : Act} {w : World} {Q : Exit → Act → World → Prop} (hgd : o.guard = none) (t : TypeId) (parts : Array (Nat × Operand)) (ho : o.op = .build t parts)
    (cells : Array Value) (hb : P.built t (parts.map fun (i, x) => (i, a.eval x)).toList = some cells)
    (h : wpList P ops Q rest (a.put o.dst (.agg cells)) w) : wpList P ops Q (o :: rest) a w :=
  wpList_plain hgd fun K hK => wp_build t parts ho (by rw [hb]; rfl) (by rw [hb]; exact hK _ _ h)
/-- The same, with one part. -/
theorem wpList_build_one {P : Program} {ops : Array Oper} {rest : List Oper} {o : Oper} {a : Act} {w : World} {Q : Exit → Act → World → Prop} (hgd : o.guard = none) (t : TypeId) (k : Nat) (x : Operand) (ho : o.op = .build t #[(k, x)])
    (v : Value) (hx : a.eval x = v) (cells : Array Value) (hb : P.built t [(k, v)] = some cells)
    (h : wpList P ops Q rest (a.put o.dst (.agg cells)) w) : wpList P ops Q (o :: rest) a w :=
  wpList_build_as hgd t #[(k, x)] ho cells (by simp [hx, hb]) h
/-- A literal of three parts, in a region that draws its order. -/
theorem yields_build3 {P : Program} {ops : Array Oper} {S : World → Prop} {o : Oper} {a : Act} (hw : Region.wanted o (yielded ops a.tmps) = true) (t : TypeId) (k0 k1 k2 : Nat) (x0 x1 x2 : Operand) (ho : o.op = .build t #[(k0, x0), (k1, x1), (k2, x2)])
    (v0 v1 v2 : Value) (h0 : a.eval x0 = v0) (h1 : a.eval x1 = v1) (h2 : a.eval x2 = v2) (cells : Array Value) (hb : P.built t [(k0, v0), (k1, v1), (k2, v2)] = some cells) : YieldsIf P ops S o (.agg cells) a :=
  .inl ⟨hw, fun u _ => by
    have hp : P.built t (#[(k0, x0), (k1, x1), (k2, x2)].map fun (i, x) => (i, a.eval x)).toList = some cells := by simp [h0, h1, h2, hb]
    unfold execOp
    simp only [ho, Sem.run_bind, run_build u t _ cells hp, Result.andThen_ok, Sem.run_pure]⟩
/-- Two structs held against each other, in a region that draws its order. -/
theorem yields_eql {P : Program} {ops : Array Oper} {S : World → Prop} {o : Oper} {a : Act} (hw : Region.wanted o (yielded ops a.tmps) = true) (t r : TypeId) (x y : Operand) (ho : o.op = .binOp .eql t x y r) (xs ys : Array Value) (hx : a.eval x = .agg xs) (hy : a.eval y = .agg ys)
    (hm : P.eqGuardType P.depth t = false) (b : Bool) (h : ∀ u, (binOp .eql t (.agg xs) (.agg ys)).run P u = .ok (.bool b) u) : YieldsIf P ops S o (.bool b) a :=
  .inl ⟨hw, fun u _ => by
    unfold execOp
    simp only [ho, hx, hy, Sem.run_bind, run_eqGuard_agg u .eql t x y xs ys hm, Result.andThen_ok, h, Sem.run_pure]⟩
end Go.Proofs.YtonkclkopmdahaaDoor

/-
  Layer 9: what a program that does nothing does not answer.
-/
namespace Go.Proofs.YtonkclkopmdahaaDoor
set_option maxRecDepth 20000
open Go.RowKit
set_option linter.unusedVariables false
set_option linter.unusedSimpArgs false

theorem wpList_build_two {P : Program} {ops : Array Oper} {rest : List Oper} {o : Oper} {a : Act} {w : World} {Q : Exit → Act → World → Prop} (hgd : o.guard = none) (t : TypeId) (k0 k1 : Nat) (x0 x1 : Operand) (ho : o.op = .build t #[(k0, x0), (k1, x1)])
    (v0 v1 : Value) (h0 : a.eval x0 = v0) (h1 : a.eval x1 = v1) (cells : Array Value) (hb : P.built t [(k0, v0), (k1, v1)] = some cells)
    (h : wpList P ops Q rest (a.put o.dst (.agg cells)) w) : wpList P ops Q (o :: rest) a w :=
  wpList_build_as hgd t #[(k0, x0), (k1, x1)] ho cells (by simp [h0, h1, hb]) h
theorem wpList_build_four {P : Program} {ops : Array Oper} {rest : List Oper} {o : Oper} {a : Act} {w : World} {Q : Exit → Act → World → Prop} (hgd : o.guard = none) (t : TypeId) (k0 k1 k2 k3 : Nat) (x0 x1 x2 x3 : Operand) (ho : o.op = .build t #[(k0, x0), (k1, x1), (k2, x2), (k3, x3)])
    (v0 v1 v2 v3 : Value) (h0 : a.eval x0 = v0) (h1 : a.eval x1 = v1) (h2 : a.eval x2 = v2) (h3 : a.eval x3 = v3) (cells : Array Value) (hb : P.built t [(k0, v0), (k1, v1), (k2, v2), (k3, v3)] = some cells)
    (h : wpList P ops Q rest (a.put o.dst (.agg cells)) w) : wpList P ops Q (o :: rest) a w :=
  wpList_build_as hgd t #[(k0, x0), (k1, x1), (k2, x2), (k3, x3)] ho cells (by simp [h0, h1, h2, h3, hb]) h
def oneD : List UInt8 := 1 :: List.replicate 19 0
def whoA : Idt := ⟨[65], [97], 0, 0⟩
theorem built_who : Tryd.prog.built 24 [(0, .string ⟨#[65]⟩), (1, .string ⟨#[97]⟩)] = some (cellsT whoA).toArray := by kernel_rfl
theorem built_oneD : Tryd.prog.built 26 [(0, .int .u8 1)] = some (arrD oneD) := by kernel_rfl
theorem built_rec4 : Tryd.prog.built 29 [(0, .agg (arrD oneD)), (2, .agg (cellsT whoA).toArray), (3, .agg (cellsT whoA).toArray), (4, .string ⟨#[120]⟩)] = some (arrC oneD (.slice none 0 0) whoA whoA [120]) := by kernel_rfl
theorem right_awake : rightR ⟨oneD, [], whoA, whoA, [120]⟩ = true := by decide +kernel
theorem print_awake : 60 < (printC hexL (printI Lib.itoa) ⟨oneD, [], whoA, whoA, [120]⟩).length ∧ (printC hexL (printI Lib.itoa) ⟨oneD, [], whoA, whoA, [120]⟩).head? = some 116 := by decide +kernel
set_option maxHeartbeats 8000000 in
theorem awake9 (w : World) (tab : T6 w) : Calls Tryd.prog 5 #[] w fun e w' => e = .returned (.bool true) ∧ Below w.heap.size w w' := by
  have hpr : printR ⟨oneD, [], whoA, whoA, [120]⟩ = (printC hexL (printI Lib.itoa) ⟨oneD, [], whoA, whoA, [120]⟩, 0) := by unfold printR; rw [right_awake, if_pos rfl]
  have C := Lib.hid (fun u (hu : Below w.heap.size w u) => Print9_is oneD none 0 0 [] whoA whoA [120] u (tab.keep hu) rfl (IdsAt.nil _ _) rfl (by decide) (Nat.le_refl _) (fun i hi => by cases hi) (by decide) (by decide) (by decide) (by decide))
  rw [hpr] at C
  obtain ⟨p1, p2⟩ := print_awake
  have b26 := built_who; have b23 := built_oneD; have b28 := built_rec4
  obtain ⟨L, hL⟩ : ∃ L, printC hexL (printI Lib.itoa) ⟨oneD, [], whoA, whoA, [120]⟩ = L := ⟨_, rfl⟩
  rw [hL] at C p1 p2
  obtain ⟨z, hz0, hzs, hzv, hzb, hz1⟩ := zIdt_any
  have HZS := Lib.hid hzs
  have S26 := Lib.hid (show (cellsT whoA).toArray.size = 4 from rfl)
  have O26 := Lib.hid (cellsT_one whoA)
  obtain ⟨A28, h28⟩ : ∃ A, arrC oneD (.slice none 0 0) whoA whoA [120] = A := ⟨_, rfl⟩
  obtain ⟨A26, h26⟩ : ∃ A, (cellsT whoA).toArray = A := ⟨_, rfl⟩
  obtain ⟨A23, h23⟩ : ∃ A, arrD oneD = A := ⟨_, rfl⟩
  rw [h28] at b28 C
  rw [h26] at b26 b28 S26 O26
  rw [h23] at b23 b28
  have B26 := Lib.hid b26; have B23 := Lib.hid b23; have B28 := Lib.hid b28
  have I26 := Lib.hid (show (Tryd.prog.info? 24).map (·.size) = some A26.size by rw [S26.out]; exact infoT)
  have P1 := Lib.hid p1; have P2 := Lib.hid p2
  clear hpr p1 p2 b26 b23 b28 hL h28 h26 h23 hz0 hzs hzb hz1 tab
  go_enter Tryd.func5, Tryd.ntmps5
  go_wp2_with (first
    | (refine wpList_build_two rfl 24 0 1 _ _ rfl (.string ⟨#[65]⟩) (.string ⟨#[97]⟩) rfl rfl _ B26.out ?_)
    | (with_reducible refine wpList_store_all rfl 24 (.tmp 1) (.tmp 4) rfl w.heap.size A26 rfl rfl 24 z (heap_alloc_new w _) I26.out (S26.out.trans HZS.out.symm) O26.out ?_)
    | fail)
  intro w2 hg2 ho2 hs2
  have HB2 := Lib.hid (((Below.refl w.heap.size w).alloc (Nat.le_refl _) (.cells z 24)).trans (ho2.below (Nat.le_refl _) (by simp)))
  have HG2 := Lib.hid hg2
  clear hg2 ho2 hs2
  go_wp2_with (first
    | (refine wpList_build_one rfl 26 0 _ rfl (.int .u8 1) rfl _ B23.out ?_)
    | (with_reducible refine wpList_load_all 24 (.tmp 1) rfl (by kernel_rfl) w.heap.size A26 24 (0, 0) rfl HG2.out _ Tryd.underlying24 rfl I26.out ?_)
    | (refine wpList_build_four rfl 29 0 2 3 4 _ _ _ _ rfl (.agg A23) (.agg A26) (.agg A26) (.string ⟨#[120]⟩) rfl rfl rfl rfl _ B28.out ?_)
    | fail)
  refine (C.out _ HB2.out).mono ?_
  rintro e w3 ⟨v, rfl, hred, hb3⟩
  have HB3 := Lib.hid (HB2.out.trans (hb3.mono HB2.out.size))
  obtain ⟨a, c, rfl, hba, hno, hlc, hcm⟩ := hred
  have hp1 := P1.out
  obtain ⟨b, o, rfl, hbl, hcell⟩ := hba (by omega)
  have q0 : w3.cell? ⟨b, o, none⟩ = some (.int .u8 116) := by
    have h := hcell 0 (by omega)
    rw [Nat.add_zero] at h
    rw [h]
    have h2 := P2.out
    cases L with
    | nil => cases h2
    | cons d r => simp only [List.head?_cons, Option.some.injEq] at h2; subst h2; rfl
  obtain ⟨n, hn⟩ : ∃ n, L.length = n := ⟨_, rfl⟩
  rw [hn] at hp1 hlc ⊢
  have g1 : (n : Int) > 60 := by omega
  clear hb3 hba hno hcm hcell hn hbl C
  go_wp2
  go_ret
  exact ⟨rfl, HB3.out⟩
end Go.Proofs.YtonkclkopmdahaaDoor

/-
  Layer 9: so many parents, made one by one; a store into a row of ids, in a region that draws its order.
-/
namespace Go.Proofs.YtonkclkopmdahaaDoor
set_option maxRecDepth 20000
open Go.RowKit
set_option linter.unusedVariables false
set_option linter.unusedSimpArgs false

def idN (j : Nat) : List UInt8 := UInt8.ofNat j :: List.replicate 19 0
def idsN (n : Nat) : List (List UInt8) := (List.range n).map (fun j => idN (j + 1))
theorem idN_len (j : Nat) : (idN j).length = 20 := rfl
theorem idsN_len (n : Nat) : (idsN n).length = n := by simp [idsN]
theorem idsN_each (n : Nat) : ∀ i ∈ idsN n, i.length = 20 := by
  intro i hi
  obtain ⟨j, _, rfl⟩ := List.mem_map.1 hi
  rfl
theorem idsN_succ (n : Nat) : idsN (n + 1) = idsN n ++ [idN (n + 1)] := by simp [idsN, List.range_succ]
theorem parents_few : ∀ n : Fin 19, parentsR (idsN n.1) = true := by decide +kernel
theorem parents_zero {l : List (List UInt8)} (k : Nat) (hk : k < l.length) : parentsR (l.set k idZ) = false :=
  parents_bad k (by rw [List.length_set]; exact hk) (.inl (List.getElem_set_self _))
theorem parents_twice {l : List (List UInt8)} (h : 1 < l.length) : parentsR (l.set 0 (l[1]'h)) = false := by
  refine parents_bad 1 (by rw [List.length_set]; exact h) (.inr ?_)
  rw [List.getElem_set_ne (by decide)]
  match l, h with
  | a :: b :: r, _ => simp
theorem right_par (ps : List (List UInt8)) : rightR ⟨oneD, ps, whoA, whoA, []⟩ = (decide (ps.length ≤ 16) && parentsR ps) := by
  rw [rightR_way]
  have e1 : eqD oneD idZ = false := by decide
  have e2 : rightI whoA = true := by decide +kernel
  have e3 : textR [] = true := by decide
  rw [e1, e2, e3]
  simp
theorem built_byte (b : UInt8) : Tryd.prog.built 26 [(0, .int .u8 b.toNat)] = some (arrD (b :: List.replicate 19 0)) := by kernel_rfl
theorem built_idN (j : Nat) (hj : j < 256) : Tryd.prog.built 26 [(0, .int .u8 ((j : Nat) : Int))] = some (arrD (idN j)) := by
  have h := built_byte (UInt8.ofNat j)
  have e : (UInt8.ofNat j).toNat = j := by rw [UInt8.toNat_ofNat']; exact Nat.mod_eq_of_lt hj
  rw [e] at h
  exact h
theorem built_rec3 : Tryd.prog.built 29 [(0, .agg (arrD oneD)), (2, .agg (cellsT whoA).toArray), (3, .agg (cellsT whoA).toArray)] = some (arrC oneD (.slice none 0 0) whoA whoA []) := by kernel_rfl
theorem wpList_build_three {P : Program} {ops : Array Oper} {rest : List Oper} {o : Oper} {a : Act} {w : World} {Q : Exit → Act → World → Prop} (hgd : o.guard = none) (t : TypeId) (k0 k1 k2 : Nat) (x0 x1 x2 : Operand) (ho : o.op = .build t #[(k0, x0), (k1, x1), (k2, x2)])
    (v0 v1 v2 : Value) (h0 : a.eval x0 = v0) (h1 : a.eval x1 = v1) (h2 : a.eval x2 = v2) (cells : Array Value) (hb : P.built t [(k0, v0), (k1, v1), (k2, v2)] = some cells)
    (h : wpList P ops Q rest (a.put o.dst (.agg cells)) w) : wpList P ops Q (o :: rest) a w :=
  wpList_build_as hgd t #[(k0, x0), (k1, x1), (k2, x2)] ho cells (by simp [h0, h1, h2, hb]) h
/-- A record in a block of its own, all of it. -/
abbrev RcBlk (w : World) (g : Nat) (t : List UInt8) (v : Value) (a c : Idt) (x : List UInt8) : Prop := w.heap[g]? = some (.cells (arrC t v a c x) 29 (0, 0))
theorem rcb_parents {w : World} {g : Nat} {t : List UInt8} {v v' : Value} {a c : Idt} {x : List UInt8} (h : RcBlk w g t v a c x) (ht : t.length = 20) : RcBlk (w.setCell ⟨g, 20, none⟩ v') g t v' a c x := by
  have := heap_set h 20 v'
  rwa [put_parents t v v' a c x ht] at this
theorem offb_set (w : World) (g k : Nat) (v : Value) : Off g w (w.setCell ⟨g, k, none⟩ v) :=
  ⟨rfl, rfl, rfl, by simp [World.setCell], fun i _ hn => Below.heap_setCell _ _ _ _ hn⟩
theorem Off.farb {g k : Nat} {w w' : World} (h : Off g w w') (hn : g ≠ k) {o : Obj} (ho : w.heap[k]? = some o) : w'.heap[k]? = some o := (h.block k (lt_of_heap ho) (fun e => hn e.symm)).trans ho
theorem ownDb_off {B g : Nat} {v : Value} {l : List (List UInt8)} {w w' : World} (h : OwnD B v l w) (ho : Off g w w') (hg : g < B) : OwnD B v l w' :=
  ⟨h.1, h.2.imp id (fun ⟨g', cap', cur, h', hb', hh, r⟩ => ⟨g', cap', cur, h', hb', (ho.block g' (lt_of_heap hh) (by omega)).trans hh, r⟩)⟩
theorem ownD_some {B : Nat} {v : Value} {l : List (List UInt8)} {w : World} (h : OwnD B v l w) (h0 : 0 < l.length) : ∃ g c, v = .slice (some ⟨g, 0, none⟩) l.length c ∧ B ≤ g ∧ l.length ≤ c := by
  rcases h.2 with ⟨hv, h1⟩ | ⟨g, cap, cur, hv, hB, hg, hc, hm, _, _⟩
  · omega
  · exact ⟨g, cap, hv, hB, hc⟩
theorem run_store_idD {w : World} (B g c k : Nat) (l : List (List UInt8)) (hid : ∀ i ∈ l, i.length = 20) (i : List UInt8) (hk : k < l.length) (hi : i.length = 20) (hown : OwnD B (.slice (some ⟨g, 0, none⟩) l.length c) l w) :
    ∃ w', (storeCells ⟨g, k * 20, none⟩ (cellsD i)).run Tryd.prog w = .ok () w' ∧ OwnD B (.slice (some ⟨g, 0, none⟩) l.length c) (l.set k i) w' ∧ w.grownBy w' (some g) := by
  have hcl := cellsD_len i hi
  have hmul : k * 20 + 20 ≤ l.length * 20 := by omega
  rcases hown.2 with ⟨h', _⟩ | ⟨g', cap', cur, h', hb', hg, hnc, hcm, hcs, htake⟩
  · simp at h'
  · simp only [Value.slice.injEq, Option.some.injEq, Addr.mk.injEq, and_true, true_and] at h'
    obtain ⟨rfl, rfl⟩ := h'
    have hc22 : l.length * 20 ≤ c * 20 := Nat.mul_le_mul_right 20 hnc
    have hst := run_storeCells_at Tryd.prog g (k * 20) 26 (cellsD i) 0 cur w hg (by rw [hcl, hcs]; omega) (fun v hv => (Array.all_eq_true_iff_forall_mem.1 (cellsD_one i)) v (by simpa using hv))
    simp only [Nat.add_zero] at hst
    rw [hcl] at hst
    refine ⟨_, hst, ?_, grown_setRowD w g _⟩
    unfold OwnD
    rw [List.length_set, ← putD_flat l hid k hk i]
    refine ⟨?_, .inr ⟨g, c, _, rfl, hb', setRow_heap w g cur _ 26 (0, 0) hg, hnc, hcm, ?_, ?_⟩⟩
    · unfold putD
      have := hown.1
      simp only [List.length_append, List.length_take, List.length_drop, hcl]
      omega
    · simp only [List.size_toArray, List.length_append, List.length_take, List.length_drop, hcl, Array.length_toList, hcs]
      omega
    · unfold putD
      rw [← htake]
      exact take_putD cur.toList (cellsD i) (k * 20) (k * 20 + 20) (l.length * 20) (by rw [hcl]) hmul (by have h1 : cur.toList.length = cur.size := Array.length_toList; rw [h1, hcs]; exact hc22)
theorem own_one {w : World} {B gr n c : Nat} {l : List (List UInt8)} (h : OwnD B (.slice (some ⟨gr, 0, none⟩) n c) l w) (hid : ∀ i ∈ l, i.length = 20) (h1 : 1 < l.length) (y : List UInt8) (hy : l[1] = y) : w.rangeAt gr 20 (cellsD y) := by
  obtain ⟨a9, c9, hv9, _, _, hids9, _⟩ := ownD_ids h hid
  simp only [Value.slice.injEq] at hv9
  obtain ⟨rfl, _, _⟩ := hv9
  obtain ⟨b9, o9, he9, hlt9, hc9⟩ := hids9 (by omega)
  cases he9
  intro j v hv
  have h := hc9 1 h1 j v (by rw [hy]; exact hv)
  simpa using h
end Go.Proofs.YtonkclkopmdahaaDoor

/-
  unicode/utf8's tables, as the row lists them.
-/
namespace Go.Proofs
open Go.Shelf Go.RowKit Go.Lib
def Tryd.utRen : Go.Shelf.Ren := ⟨fun n => n, fun | 5 => 5 | 119 => 97 | 138 => 99 | 139 => 100 | n => n, fun | 3 => 4 | 4 => 5 | n => n⟩
theorem Tryd.utTypes : U8Types Tryd.prog Tryd.utRen := {
  t5 := by kernel_rfl
  t119 := by kernel_rfl
  t138 := by kernel_rfl
  t139 := by kernel_rfl }
theorem Tryd.utExtra : U8Extra Tryd.prog Tryd.utRen := {
  n3 := by kernel_rfl
  n4 := by kernel_rfl
  y3 := by kernel_rfl
  y4 := by kernel_rfl
  c5 := by kernel_rfl
  c119 := by kernel_rfl
  c138 := by kernel_rfl }
namespace YtonkclkopmdahaaDoor
theorem tabs_of (w : World) (h3 : VarReads Tryd.prog w "unicode/utf8.first" firstData) (h4 : VarReads Tryd.prog w "unicode/utf8.acceptRanges" acceptData) : Lib.Utf8Tabs 4 5 w :=
  utf8Tabs_of_readsT Tryd.utTypes Tryd.utExtra h3 h4
end YtonkclkopmdahaaDoor
end Go.Proofs
