/-
  Texts that belong together, one behind the other.
-/
import Derived.Test.YtnohonjjfjppoaaGreatDoorFu26
import Derived.Shelf.SlSortCmp.WholeK
import Derived.Shelf.SlMaps.Clone
import Derived.Shelf.SlGeneric
import Derived.Ground.SlsfProg
import Derived.Ground.SlmcProg
import Derived.Test.YtnohonjjfjppoaaGreatDoorProg
import Derived.Test.YtnohonjjfjppoaaGreatDoorFu25
/-
  Layer 13, the program: put.
-/
namespace Go.Proofs.YtnohonjjfjppoaaGreatDoor
set_option maxRecDepth 20000
open Go.RowKit
set_option linter.unusedVariables false
set_option linter.unusedSimpArgs false
/-- Between two of the items of a directory. -/
structure PutAt (S : Nat → Prop) (w : World) (g k : Nat) (D : List UInt8) (fu : Nat) (R : List Cel × List UInt8 × Int) (v1 v8 : Value) (wr : World) (l : List Fil) (acc : List Itm) (M : List Cel) (fu' : Nat) (Su : Nat → Prop) (a : Option Addr) (c : Nat) (zd : Array Value) : Prop where
  v1 : v1 = .slice a l.length c
  at_ : FilesAt wr a l
  far : ∀ b o, a = some ⟨b, o, none⟩ → l ≠ [] → ¬ S b ∧ b < w.heap.size
  dir : InDir k D l
  cap : l.length ≤ c ∧ c ≤ maxLen
  own : OwnI w.heap.size v8 acc wr
  good : ∀ i ∈ acc, i.id.length = 20 ∧ i.name.length ≤ 1000000
  few : acc.length + l.length ≤ 1000000
  st : StoreP Su wr g M
  sub : ∀ j, Su j → (S j ∧ j < w.heap.size) ∨ w.heap.size < j
  lim : ∀ j, Su j → j < wr.heap.size
  off : ∀ q, v8.ownBlock = some q → ¬ Su q
  oth : ∀ q, v8.ownBlock = some q → w.heap.size < q
  chg : Chg S w wr
  cell : wr.heap[w.heap.size]? = some (.cells zd 27 (0, 0))
  res : wl putM fu' M (l.map (cutF k)) acc = R
  cost : costF (l.map (cutF k)) ≤ fu' ∧ fu' ≤ fu
  room : M.length + slF (l.map (cutF k)) + 1 ≤ 5000
theorem PutAt.start {S : Nat → Prop} {w : World} {g k : Nat} {D : List UInt8} {fu : Nat} {R : List Cel × List UInt8 × Int} {l : List Fil} {M : List Cel} {a : Option Addr} {c : Nat} {zd : Array Value}
    (h : StoreP S w g M) (hat : FilesAt w a l) (hS : ∀ ad, a = some ad → ¬ S ad.block) (hd : InDir k D l) (hc : l.length ≤ c) (hcm : c ≤ maxLen) (hcost : costF (l.map (cutF k)) ≤ fu) (hlen : M.length + slF (l.map (cutF k)) + 1 ≤ 5000)
    (hR : wl putM fu M (l.map (cutF k)) [] = R) : PutAt S w g k D fu R (.slice a l.length c) (.slice none 0 0) (w.alloc (.cells zd 27)) l [] M fu (fun j => S j ∧ j < w.heap.size) a c zd where
  v1 := rfl
  at_ := hat.keep ((Below.refl _ _).alloc (Nat.le_refl _) _)
  far := fun b o ha hne => ⟨hS _ ha, by
    obtain ⟨b', o', h1, h2, _⟩ := hat (List.length_pos_iff.2 hne)
    rw [ha] at h1
    cases h1
    exact h2⟩
  dir := hd
  cap := ⟨hc, hcm⟩
  own := ownI_nil _ _
  good := fun i hi => by cases hi
  few := by have := hd.few; simpa using this
  st := (h.mono (fun j hj hs => ⟨hs, hj⟩)).below ((Below.refl _ _).alloc (Nat.le_refl _) _)
  sub := fun j hj => .inl hj
  lim := fun j hj => by simp; omega
  off := fun q hq => by cases hq
  oth := fun q hq => by cases hq
  chg := (Chg.refl S w).alloc _
  cell := heap_alloc_new _ _
  res := hR
  cost := ⟨hcost, Nat.le_refl _⟩
  room := hlen
/-- The answer's block is written last. -/
theorem put_fin {S Sv : Nat → Prop} {w w3 w4 : World} {g : Nat} {M : List Cel} (h : StoreP Sv w3 g M) (hs : ∀ j, Sv j → (S j ∧ j < w.heap.size) ∨ w.heap.size < j) (hc : Chg S w w3) (off : Off w.heap.size w3 w4) :
    StoreP (fun j => S j ∨ (w.heap.size ≤ j ∧ j < w4.heap.size)) w4 g M ∧ Chg S w w4 := by
  refine ⟨(h.keep ⟨off.size, fun j hj hl => off.block j hl (fun q => ?_)⟩).mono (fun j hj q => ?_), (hc.more (T := fun j => j = w.heap.size) ⟨off.os, off.tape, off.output, off.size, fun j hj hn => off.block j hj hn⟩ (fun j hj q => by omega))⟩
  · rcases hs j hj with h1 | h1 <;> omega
  · rcases hs j q with h1 | h1
    · exact .inl h1.1
    · exact .inr ⟨by omega, hj⟩
def rowItm : RowT Itm := ⟨cellsI, 22, 48, 54, 57, fun i => i.id.length = 20⟩
theorem goodItm : RowT.Good rowItm Tryz.prog := rgood_of (by decide) (fun x h => cellsI_len x h) (fun x _ v hv => Array.all_eq_true_iff_forall_mem.1 (cellsI_one x) v (by have h : v ∈ cellsI x := hv; simpa using h)) Tryz.underlying57 (by kernel_rfl) (by decide)
theorem ownI_same {B : Nat} {v : Value} {l : List Itm} {w u : World} (h : OwnI B v l w) (hb : ∀ g, v.ownBlock = some g → u.heap[g]? = w.heap[g]?) : OwnI B v l u := ownR_same (R := rowItm) h hb
set_option maxHeartbeats 64000000 in
theorem put_step {w0 : World} (tab : T13 w0) {fu : Nat} (H : ∀ m, m < fu → PutsOK w0 m) : PutsOK w0 fu := by
  intro S w g M a c k l D h hb0 hS0 hat hS hd hc hcm hk hcost hlen
  obtain ⟨R, hR⟩ : ∃ R, wl putM fu M (l.map (cutF k)) [] = R := ⟨_, rfl⟩
  have rid := wl_id fu M (l.map (cutF k)) []
  rw [hR] at rid ⊢
  obtain ⟨RM, RI, RE⟩ := R
  simp only at rid ⊢
  obtain ⟨zd, hzd, hzds, hzdv, hzdb, hzd1⟩ := zId_any
  have START := Lib.hid (PutAt.start (zd := zd) h hat hS hd hc hcm hcost hlen hR)
  have HB0 := Lib.hid hb0; have HS0 := Lib.hid hS0; have TB := Lib.hid tab; have HH := Lib.hid H; have HZDS := Lib.hid hzds; have HZD := Lib.hid hzd; have OZD := Lib.hid hzd1
  have SZ := Lib.hid (arrD_size RI rid); have OD := Lib.hid (arrD_one RI)
  obtain ⟨AD, hAD⟩ : ∃ A, arrD RI = A := ⟨_, rfl⟩
  rw [hAD] at SZ OD ⊢
  have ID := Lib.hid (show (Tryz.prog.info? 27).map (·.size) = some AD.size by rw [SZ.out]; exact info29)
  have HAD := Lib.hid hAD
  obtain ⟨zi, hzi, hzis, hziv, hzib, hzi1⟩ := zItem_any
  have HZIS := Lib.hid hzis
  obtain ⟨n, hn⟩ : ∃ n, l.length = n := ⟨_, rfl⟩
  have gk : (k : Int) ≤ 1000000 := by omega
  have HN := Lib.hid hn
  rw [hn]
  clear h hb0 hS0 hat hS hd hc hcm hk hcost hlen hR rid hAD hzds hzd hzd1 hzi hzis hzib hzi1 tab H hn
  go_enter Tryz.func27, Tryz.ntmps27
  go_wp2_with fail
  go_loopw [1, 8] (fun v1 v8 wr => ∃ l acc M fu' Su a c, PutAt S w g k D fu (RM, RI, RE) v1 v8 wr l acc M fu' Su a c zd) (fun v1 _ _ => slLen v1)
  case atStart => exact ⟨l, [], M, fu, _, a, c, by rw [← HN.out]; exact START.out⟩
  case round =>
    obtain ⟨l', acc, M', fu', Su, a', c', hp⟩ := hrel
    have hv1 := hp.v1
    subst hv1
    have HP := Lib.hid hp
    clear hp START
    cases l' with
    | nil =>
      have hI := ownI_items HP.out.own (fun i hi => (HP.out.good i hi).1)
      obtain ⟨ai, ci, hv8, hci, hcim, hit, hno⟩ := hI
      subst hv8
      have TW := TB.out.keep (HB0.out.trans (HP.out.chg.below HB0.out.size (fun j _ q => HS0.out j q)))
      have CP := Lib.hid (pPrint_is ai acc.length ci acc wr rfl (Nat.le_trans hci hcim) hit (fun i hi => (HP.out.good i hi).1) (fun i hi => (HP.out.good i hi).2) TW.q)
      clear hit hno hci hcim TW
      obtain ⟨na, hna⟩ : ∃ na, acc.length = na := ⟨_, rfl⟩
      rw [hna] at CP
      rw [hna]
      go_wp2_with fail
      refine CP.out.mono ?_
      rintro e9 w2 ⟨v, rfl, hrd, hb2⟩
      obtain ⟨m, hm⟩ : ∃ m, fu' = m + 1 := ⟨fu' - 1, by have := HP.out.cost.1; have := cost_pos (List.map (cutF k) []); omega⟩
      have hres := HP.out.res
      rw [hm, List.map_nil, wl] at hres
      have HI2 := Lib.hid ((hb2.block w.heap.size (lt_of_heap HP.out.cell)).trans HP.out.cell)
      have HB2 := Lib.hid hb2
      have C2 := Lib.hid (HP.out.chg.trans (Chg.of_below (S := S) hb2))
      clear CP hna
      by_cases he : (printT acc).2 = 0
      · rw [if_pos he] at hres
        have CQ := Lib.hid (PutP_is (HP.out.st.below hb2) 2 v (printT acc).1 hrd (TB.out.keep (HB0.out.trans (C2.out.below HB0.out.size (fun j _ q => HS0.out j q)))).pow (by have := HP.out.room; omega))
        rw [hres] at CQ
        rw [he]
        simp only at CQ
        rw [HAD.out] at CQ
        obtain ⟨va, vc, rfl, -⟩ := hrd
        obtain ⟨nv, hnv⟩ : ∃ nv, (printT acc).1.length = nv := ⟨_, rfl⟩
        rw [hnv] at CQ
        rw [hnv]
        clear hres hnv he hm hb2
        go_wp2_with fail
        refine CQ.out.mono ?_
        rintro e9 w3 ⟨rfl, h3, c3⟩
        have HI3 := Lib.hid ((c3.block w.heap.size (lt_of_heap HI2.out) (fun q => by rcases HP.out.sub _ q with h1 | h1 <;> omega)).trans HI2.out)
        have C3 := Lib.hid (C2.out.more c3 (fun j hj q => by
          rcases HP.out.sub _ q with h1 | h1
          · exact h1.1
          · omega))
        have L2 := Lib.hid (lt_of_heap HI2.out)
        have H3 := Lib.hid h3
        clear h3 c3 CQ
        go_wp2_with (first
          | (with_reducible refine wpList_store_all rfl 27 (.tmp 6) (.tmp 49) rfl w.heap.size AD rfl rfl 27 zd HI3.out ID.out (SZ.out.trans HZDS.out.symm) OD.out ?_)
          | fail)
        intro w4 r4 off4 sz4
        have fin := put_fin (S := S) H3.out (fun j q => by
          rcases q with q | q
          · exact HP.out.sub j q
          · exact .inr (Nat.lt_of_lt_of_le L2.out q.1)) C3.out off4
        have R4 := Lib.hid r4; have FIN := Lib.hid fin
        clear r4 off4 sz4 fin
        go_wp2
        exact bodyPost_ret (results_id9 Tryz.results27 _ _ w.heap.size AD (0, 0) _ rfl rfl R4.out SZ.out) rfl ⟨rfl, FIN.out⟩
      · rw [if_neg he] at hres
        obtain ⟨rfl, rfl, hq⟩ : M' = RM ∧ zeroId = RI ∧ (printT acc).2 = RE := by
          have e1 := Prod.mk.inj hres
          have e2 := Prod.mk.inj e1.2
          exact ⟨e1.1, e2.1, e2.2⟩
        obtain rfl : AD = zd := by rw [← HAD.out, HZD.out]; rfl
        rw [hq] at he
        rw [hq]
        have hqb : (RE != 0) = true := by simpa using he
        obtain ⟨va, vc, rfl, -⟩ := hrd
        obtain ⟨nv, hnv⟩ : ∃ nv, (printT acc).1.length = nv := ⟨_, rfl⟩
        rw [hnv]
        clear hq hm hnv he hb2 hres
        go_wp2_with (first
          | (with_reducible refine wpList_store_all rfl 27 (.tmp 6) (.tmp 43) rfl w.heap.size AD rfl rfl 27 AD HI2.out ID.out rfl OD.out ?_)
          | fail)
        intro w4 r4 off4 sz4
        have fin := put_fin (S := S) (HP.out.st.below HB2.out) HP.out.sub C2.out off4
        have R4 := Lib.hid r4; have FIN := Lib.hid fin
        clear r4 off4 sz4 fin
        go_wp2
        exact bodyPost_ret (results_id9 Tryz.results27 _ _ w.heap.size AD (0, 0) _ rfl rfl R4.out SZ.out) rfl ⟨rfl, FIN.out⟩
    | cons f r =>
      obtain ⟨b, o, rfl, hbl⟩ := HP.out.at_.some (by simp)
      have hfar := HP.out.far b o rfl (by simp)
      obtain ⟨m, hm⟩ : ∃ m, fu' = m + 1 := ⟨fu' - 1, by have := HP.out.cost.1; have := cost_pos (List.map (cutF k) (f :: r)); omega⟩
      have hmf : m < fu := by have := HP.out.cost.2; omega
      have hres := HP.out.res
      rw [hm, List.map_cons, pf_wl, ← List.map_cons] at hres
      have hcnt := pf_cnt putM m M' (cutF k f) (r.map (cutF k))
      have hcost := pf_cost putM m M' (cutF k f) (r.map (cutF k))
      have hlen := pf_len (pt := putM) putM_len m M' (cutF k f) (r.map (cutF k))
      have hitm := pf_item m M' k f r ⟨(HP.out.dir.each f (by simp)).1, (HP.out.dir.each f (by simp)).2.1⟩
      rw [← List.map_cons] at hcnt hcost hlen
      have CALL := Lib.hid (putFirst_is (HH.out m hmf) HP.out.st (HB0.out.trans (HP.out.chg.below HB0.out.size (fun j _ q => HS0.out j q))) (fun j q => by
        rcases HP.out.sub j q with h1 | h1
        · exact HS0.out j h1.1
        · have := HB0.out.size; omega) rfl HP.out.at_ (fun q => by
        rcases HP.out.sub b q with h1 | h1
        · exact hfar.1 h1.1
        · omega) HP.out.dir HP.out.cap.1 HP.out.cap.2 (by have := HP.out.cost.1; omega) (by have := HP.out.room; omega))
      have hcf : costF (List.map (cutF k) (f :: r)) ≤ m + 1 := by rw [← hm]; exact HP.out.cost.1
      have hro := HP.out.room
      obtain ⟨P, hP⟩ : ∃ P, pfF putM m M' (List.map (cutF k) (f :: r)) = P := ⟨_, rfl⟩
      rw [hP] at hres hcnt hcost hlen hitm CALL
      obtain ⟨PI, PN, PE, PM⟩ := P
      simp only [List.length_map] at hres hcnt hcost hlen hitm CALL
      obtain ⟨AI, hAI⟩ : ∃ A, arrI PI = A := ⟨_, rfl⟩
      have SZI := Lib.hid (show AI.size = 22 by rw [← hAI]; exact arrI_size PI hitm.1)
      have OI := Lib.hid (show AI.all (·.oneCell') = true by rw [← hAI]; exact arrI_one PI)
      have II := Lib.hid (info_arr _ SZI.out)
      rw [hAI] at CALL
      have HAI := Lib.hid hAI
      obtain ⟨n1, hn1⟩ : ∃ n1, r.length + 1 = n1 := ⟨_, rfl⟩
      have hl1 : (f :: r).length = n1 := hn1
      rw [hn1] at hcnt CALL
      rw [hl1]
      have hn1p : 0 < n1 := by omega
      have hn16 : n1 ≤ 1000000 := by have := HP.out.dir.few; omega
      have hcap : n1 ≤ c' := by have := HP.out.cap.1; omega
      have HCNT := Lib.hid hcnt; have HCOST := Lib.hid hcost; have HLEN := Lib.hid hlen; have HITM := Lib.hid hitm; have HRES := Lib.hid hres; have HL1 := Lib.hid hl1; have HCF := Lib.hid hcf; have HRO := Lib.hid hro; have HFAR := Lib.hid hfar; have HM := Lib.hid hm
      have hpn : PN ≤ n1 := hcnt.2
      clear hres hcnt hcost hlen hitm hAI hP hn1 hl1 hcf hro hfar hbl hm hmf
      go_wp2_with fail
      refine CALL.out.mono ?_
      rintro e9 u ⟨rfl, h2, c2⟩
      have HI2 := Lib.hid ((c2.block w.heap.size (lt_of_heap HP.out.cell) (fun q => by rcases HP.out.sub _ q with h1 | h1 <;> omega)).trans HP.out.cell)
      have C2 := Lib.hid (HP.out.chg.more c2 (fun j hj q => by
        rcases HP.out.sub _ q with h1 | h1
        · exact h1.1
        · omega))
      have OWN2 := Lib.hid (ownI_same HP.out.own (fun q hq => c2.block q (World.ownsRow.lt HP.out.own q hq).2 (HP.out.off q hq)))
      have H2 := Lib.hid h2; have S2 := Lib.hid c2.size
      clear h2 c2 CALL
      by_cases hpe : PE = 0
      · subst hpe
        have hres := HRES.out
        rw [if_pos rfl] at hres
        have HRES2 := Lib.hid hres
        clear hres HRES
        go_wp2_with (first
          | (with_reducible refine wpList_store_all rfl 54 (.tmp 9) (.tmp 22) rfl u.heap.size AI rfl rfl 54 zi (heap_alloc_new _ _) II.out (SZI.out.trans HZIS.out.symm) OI.out ?_)
          | fail)
        intro u2 r2 off2 sz2
        have b2 : Below u.heap.size u u2 := ((Below.refl u.heap.size u).alloc (Nat.le_refl _) (.cells zi 54)).trans (off2.below (Nat.le_refl _) (by simp))
        have R2 := Lib.hid r2; have B2 := Lib.hid b2
        clear r2 off2 sz2 b2
        have b3 := (Below.refl u2.heap.size u2).alloc (Nat.le_refl _) (.cells AI 54)
        have hb3 := heap_alloc_new u2 (.cells AI 54)
        have B3 := Lib.hid (B2.out.trans (b3.mono B2.out.size))
        have ROW3 := Lib.hid (show RowAt rowItm (u2.alloc (.cells AI 54)) (some ⟨u2.heap.size, 0, none⟩) [PI] from fun _ => ⟨u2.heap.size, 0, rfl, lt_of_heap hb3, fun q hq j v hv => by
          match q, hq with
          | 0, _ =>
            rw [show 0 + 0 * rowItm.size + j = j by omega, Lib.cell_of_heap hb3, ← HAI.out]
            have h : (cellsI PI)[j]? = some v := hv
            simpa [arrI] using h⟩)
        have OWN3 := Lib.hid (show OwnR rowItm w.heap.size u8 acc (u2.alloc (.cells AI 54)) from ownI_same OWN2.out (fun q hq => B3.out.block q (World.ownsRow.lt OWN2.out q hq).2))
        have OKP := Lib.hid (show ∀ x ∈ [PI], rowItm.ok x from fun x hx => by rw [List.mem_singleton.1 hx]; exact HITM.out.1)
        have OKL := Lib.hid (show ∀ x ∈ acc, rowItm.ok x from fun x hx => (HP.out.good x hx).1)
        have LEN := Lib.hid (show acc.length + [PI].length ≤ 1000000000 by have := HP.out.few; simp only [List.length_cons, List.length_nil] at this ⊢; omega)
        have LB := Lib.hid (show w.heap.size ≤ (u2.alloc (.cells AI 54)).heap.size by have := lt_of_heap HI2.out; have := B3.out.size; omega)
        clear b3 hb3
        go_wp2_with (first
          | (with_reducible refine wpList_load_all 54 (.tmp 9) rfl (by kernel_rfl) u.heap.size AI 54 (0, 0) rfl R2.out _ Tryz.underlying54 rfl II.out ?_)
          | (with_reducible refine wpList_build_item rfl (.tmp 30) rfl AI SZI.out rfl ?_)
          | (with_reducible refine wpList_append_atR goodItm rfl (.tmp 29) (.tmp 31) rfl w.heap.size u8 acc [PI] (some ⟨u2.heap.size, 0, none⟩) 1 1 rfl rfl rfl ROW3.out OKP.out OKL.out OWN3.out LEN.out LB.out ?_)
          | fail)
        intro v9 u4 o4 g4 hv4
        have G4 := Lib.hid g4; have O4 := Lib.hid o4; have HV4 := Lib.hid hv4
        clear g4 o4 hv4
        go_wp2
        go_roundw
        case rel =>
          have c4 : Chg S w u4 := (C2.out.trans (Chg.of_below (S := S) B3.out)).grown G4.out (fun q hq hl => by have := HP.out.oth q hq; omega)
          have own_lt := fun q hq => (World.ownsRow.lt HP.out.own q hq).2
          have s4 : u.heap.size ≤ u4.heap.size := Nat.le_trans B3.out.size G4.out.size
          have lw := lt_of_heap HP.out.cell
          have s2 := S2.out
          have stay : ∀ j, j < u.heap.size → u8.ownBlock ≠ some j → u4.heap[j]? = u.heap[j]? := fun j hj hn => (G4.out.block j (Nat.lt_of_lt_of_le hj B3.out.size) (fun e => hn e.symm)).trans (B3.out.block j hj)
          refine ⟨(f :: r).drop PN, acc ++ [PI], PM, m, fun j => Su j ∨ (wr.heap.size ≤ j ∧ j < u.heap.size), (if c' = PN then some ⟨b, o, none⟩ else some ⟨b, o + PN * 22, none⟩), c' - PN, ?_⟩
          have hl1 := HL1.out
          have hcnt := HCNT.out
          have hfewr := HP.out.few
          exact {
            v1 := by rw [List.length_drop, hl1]
            at_ := by
              by_cases hcp : c' = PN
              · rw [if_pos hcp, List.drop_eq_nil_of_le (by omega)]
                exact RowAt.nil _ _
              · rw [if_neg hcp]
                refine (HP.out.at_.same (Nat.le_trans s2 s4) (fun ad had => ?_)).drop PN
                cases had
                exact (c4.block b HFAR.out.2 HFAR.out.1).trans (HP.out.chg.block b HFAR.out.2 HFAR.out.1).symm
            far := fun b' o' ha hne => by
              have hb' : b' = b := by
                by_cases hcp : c' = PN
                · rw [if_pos hcp] at ha; cases ha; rfl
                · rw [if_neg hcp] at ha; cases ha; rfl
              rw [hb']
              exact HFAR.out
            dir := HP.out.dir.drop PN
            cap := by
              have h1 := HP.out.cap.2
              rw [List.length_drop, hl1]
              omega
            own := O4.out
            good := fun i hi => by
              rcases List.mem_append.1 hi with h1 | h1
              · exact HP.out.good i h1
              · rw [List.mem_singleton.1 h1]; exact HITM.out
            few := by
              rw [List.length_append, List.length_drop, hl1]
              rw [hl1] at hfewr
              simp only [List.length_cons, List.length_nil]
              omega
            st := H2.out.keep ⟨s4, fun j hj hl => stay j hl (fun e => by
              rcases hj with hj | hj
              · exact HP.out.off j e hj
              · have := own_lt j e; omega)⟩
            sub := fun j hj => by
              rcases hj with hj | hj
              · exact HP.out.sub j hj
              · exact .inr (by omega)
            lim := fun j hj => by
              rcases hj with hj | hj
              · have := HP.out.lim j hj; omega
              · omega
            off := fun q hq hs => by
              rcases HV4.out with h1 | h1
              · rw [h1] at hq
                rcases hs with hs | hs
                · exact HP.out.off q hq hs
                · have := own_lt q hq; omega
              · rw [h1] at hq
                have h3 : u.heap.size ≤ q := by
                  have e := Option.some.inj hq
                  have h4 := B2.out.size
                  omega
                rcases hs with hs | hs
                · have := HP.out.lim _ hs; omega
                · omega
            oth := fun q hq => by
              rcases HV4.out with h1 | h1
              · rw [h1] at hq
                exact HP.out.oth q hq
              · rw [h1] at hq
                have h3 : u.heap.size ≤ q := by
                  have e := Option.some.inj hq
                  have h4 := B2.out.size
                  omega
                omega
            chg := c4
            cell := (stay w.heap.size (by omega) (fun e => by have := HP.out.oth _ e; omega)).trans HI2.out
            res := by rw [List.map_drop]; exact HRES2.out
            cost := by
              have h1 := HCOST.out; have h2 := HCF.out; have h3 := HP.out.cost.2; have h4 := HM.out
              rw [List.map_drop]
              omega
            room := by
              have h1 := HLEN.out; have h2 := HRO.out
              rw [List.map_drop]
              omega }
        case measure =>
          have hcnt := HCNT.out
          show n1 - PN < n1
          omega
      · have hres := HRES.out
        rw [if_neg hpe] at hres
        have e1 := Prod.mk.inj hres
        have e2 := Prod.mk.inj e1.2
        obtain rfl : AD = zd := by rw [← HAD.out, HZD.out, ← e2.1]; rfl
        obtain rfl : PM = RM := e1.1
        obtain rfl : PE = RE := e2.2
        have hqb : (PE != 0) = true := by simpa using hpe
        clear hres hpe e1 e2 HRES
        go_wp2_with (first
          | (with_reducible refine wpList_store_all rfl 54 (.tmp 9) (.tmp 22) rfl u.heap.size AI rfl rfl 54 zi (heap_alloc_new _ _) II.out (SZI.out.trans HZIS.out.symm) OI.out ?_)
          | fail)
        intro u2 r2 off2 sz2
        have b2 : Below u.heap.size u u2 := ((Below.refl u.heap.size u).alloc (Nat.le_refl _) (.cells zi 54)).trans (off2.below (Nat.le_refl _) (by simp))
        have HI3 := Lib.hid ((b2.block w.heap.size (lt_of_heap HI2.out)).trans HI2.out)
        have C3 := Lib.hid (C2.out.trans (Chg.of_below (S := S) b2)); have H3 := Lib.hid (H2.out.below b2)
        have L2 := Lib.hid (lt_of_heap HP.out.cell)
        clear r2 off2 sz2 b2
        go_wp2_with (first
          | (with_reducible refine wpList_store_all rfl 27 (.tmp 6) (.tmp 27) rfl w.heap.size AD rfl rfl 27 AD HI3.out ID.out rfl OD.out ?_)
          | fail)
        intro w4 r4 off4 sz4
        have fin := put_fin (S := S) H3.out (fun j q => by
          rcases q with q | q
          · exact HP.out.sub j q
          · exact .inr (Nat.lt_of_lt_of_le L2.out q.1)) C3.out off4
        have R4 := Lib.hid r4; have FIN := Lib.hid fin
        clear r4 off4 sz4 fin
        go_wp2
        exact bodyPost_ret (results_id9 Tryz.results27 _ _ w.heap.size AD (0, 0) _ rfl rfl R4.out SZ.out) rfl ⟨rfl, FIN.out⟩
theorem put_is {w0 : World} (tab : T13 w0) : ∀ fu, PutsOK w0 fu := fun fu => Nat.strongRecOn fu (fun m ih => put_step tab ih)
end Go.Proofs.YtnohonjjfjppoaaGreatDoor

/-
  The library's contracts of generic functions laid at this program: a table of numbers and one application each.
-/
namespace Go.Proofs
open Go.Shelf
def Tryz.sortX_ren : Go.Shelf.Ren := ⟨fun | 6 => 89 | 15 => 123 | 14 => 122 | 28 => 144 | 29 => 145 | 20 => 136 | 21 => 137 | 22 => 138 | 23 => 139 | 24 => 140 | 25 => 141 | 26 => 142 | 27 => 143 | 46 => 161 | 47 => 162 | 48 => 163 | 49 => 164 | 50 => 165 | 57 => 180 | n => n, fun | 22 => 61 | 24 => 27 | 25 => 102 | 3 => 3 | 39 => 48 | 0 => 0 | 53 => 172 | 55 => 175 | 4 => 4 | 46 => 203 | 45 => 202 | 50 => 117 | 5 => 5 | 9 => 9 | 66 => 219 | 70 => 223 | 76 => 240 | 77 => 216 | n => n, fun | n => n⟩
theorem Tryz.sortX : Go.Proofs.SlLaysF0.n6 Tryz.prog Tryz.sortX_ren := {
  mixed := by kernel_rfl
  f6 := ⟨Tryz.f89.name, by decide, Tryz.func89.trans (congrArg some (by kernel_rfl))⟩
  f14 := ⟨Tryz.f122.name, by decide, Tryz.func122.trans (congrArg some (by kernel_rfl))⟩
  f15 := Tryz.func123.trans (congrArg some (by kernel_rfl))
  f20 := ⟨Tryz.f136.name, by decide, Tryz.func136.trans (congrArg some (by kernel_rfl))⟩
  f21 := ⟨Tryz.f137.name, by decide, Tryz.func137.trans (congrArg some (by kernel_rfl))⟩
  f22 := ⟨Tryz.f138.name, by decide, Tryz.func138.trans (congrArg some (by kernel_rfl))⟩
  f23 := ⟨Tryz.f139.name, by decide, Tryz.func139.trans (congrArg some (by kernel_rfl))⟩
  f24 := ⟨Tryz.f140.name, by decide, Tryz.func140.trans (congrArg some (by kernel_rfl))⟩
  f25 := ⟨Tryz.f141.name, by decide, Tryz.func141.trans (congrArg some (by kernel_rfl))⟩
  f26 := ⟨Tryz.f142.name, by decide, Tryz.func142.trans (congrArg some (by kernel_rfl))⟩
  f27 := ⟨Tryz.f143.name, by decide, Tryz.func143.trans (congrArg some (by kernel_rfl))⟩
  f28 := Tryz.func144.trans (congrArg some (by kernel_rfl))
  f29 := Tryz.func145.trans (congrArg some (by kernel_rfl))
  f46 := ⟨Tryz.f161.name, by decide, Tryz.func161.trans (congrArg some (by kernel_rfl))⟩
  f47 := Tryz.func162.trans (congrArg some (by kernel_rfl))
  f48 := Tryz.func163.trans (congrArg some (by kernel_rfl))
  f49 := ⟨Tryz.f164.name, by decide, Tryz.func164.trans (congrArg some (by kernel_rfl))⟩
  f50 := ⟨Tryz.f165.name, by decide, Tryz.func165.trans (congrArg some (by kernel_rfl))⟩
  f57 := ⟨Tryz.f180.name, by decide, Tryz.func180.trans (congrArg some (by kernel_rfl))⟩
  t0 := Tryz.underlying0
  a0 := Tryz.isAgg0
  z0 := Tryz.sizeOf0
  v0 := Tryz.zeroValue0
  t3 := Tryz.underlying3
  a3 := Tryz.isAgg3
  z3 := Tryz.sizeOf3
  v3 := Tryz.zeroValue3
  t4 := Tryz.underlying4
  a4 := Tryz.isAgg4
  z4 := Tryz.sizeOf4
  v4 := Tryz.zeroValue4
  t5 := Tryz.underlying5
  a5 := Tryz.isAgg5
  z5 := Tryz.sizeOf5
  v5 := Tryz.zeroValue5
  t9 := Tryz.underlying9
  a9 := Tryz.isAgg9
  z9 := Tryz.sizeOf9
  v9 := Tryz.zeroValue9
  t22 := Tryz.underlying61
  a22 := Tryz.isAgg61
  z22 := Tryz.sizeOf61
  v22 := Tryz.zeroValue61
  t25 := Tryz.underlying102
  a25 := Tryz.isAgg102
  z25 := Tryz.sizeOf102
  v25 := Tryz.zeroValue102
  t39 := Tryz.underlying48
  a39 := Tryz.isAgg48
  z39 := Tryz.sizeOf48
  v39 := Tryz.zeroValue48
  t45 := Tryz.underlying202
  a45 := Tryz.isAgg202
  z45 := Tryz.sizeOf202
  v45 := Tryz.zeroValue202
  t46 := Tryz.underlying203
  a46 := Tryz.isAgg203
  z46 := Tryz.sizeOf203
  v46 := Tryz.zeroValue203
  t50 := Tryz.underlying117
  a50 := Tryz.isAgg117
  z50 := Tryz.sizeOf117
  v50 := Tryz.zeroValue117
  t53 := Tryz.underlying172
  a53 := Tryz.isAgg172
  z53 := Tryz.sizeOf172
  v53 := Tryz.zeroValue172
  t55 := Tryz.underlying175
  a55 := Tryz.isAgg175
  z55 := Tryz.sizeOf175
  v55 := Tryz.zeroValue175
  t66 := Tryz.underlying219
  a66 := Tryz.isAgg219
  z66 := Tryz.sizeOf219
  v66 := Tryz.zeroValue219
  t70 := Tryz.underlying223
  a70 := Tryz.isAgg223
  z70 := Tryz.sizeOf223
  v70 := Tryz.zeroValue223
  t76 := Tryz.underlying240
  a76 := Tryz.isAgg240
  z76 := Tryz.sizeOf240
  v76 := Tryz.zeroValue240
  t77 := Tryz.underlying216
  a77 := Tryz.isAgg216
  z77 := Tryz.sizeOf216
  v77 := Tryz.zeroValue216 }
def Tryz.cloneX_ren : Go.Shelf.Ren := ⟨fun | 5 => 59 | 7 => 96 | n => n, fun | 23 => 64 | 25 => 27 | 3 => 100 | 4 => 4 | 20 => 20 | n => n, fun | n => n⟩
theorem Tryz.cloneX : Go.Proofs.SlLaysW.n5 Tryz.prog Tryz.cloneX_ren := {
  mixed := by kernel_rfl
  f5 := ⟨Tryz.f59.name, by decide, Tryz.func59.trans (congrArg some (by kernel_rfl))⟩
  f7 := Tryz.func96.trans (congrArg some (by kernel_rfl))
  t4 := Tryz.underlying4
  a4 := Tryz.isAgg4
  z4 := Tryz.sizeOf4
  v4 := Tryz.zeroValue4
  t20 := Tryz.underlying20
  a20 := Tryz.isAgg20
  z20 := Tryz.sizeOf20
  v20 := Tryz.zeroValue20
  t23 := Tryz.underlying64
  a23 := Tryz.isAgg64
  z23 := Tryz.sizeOf64
  v23 := Tryz.zeroValue64 }
end Go.Proofs

/-
  Layer 10, the program: Fork.
-/
namespace Go.Proofs.YtnohonjjfjppoaaGreatDoor
set_option maxRecDepth 20000
open Go.RowKit
set_option linter.unusedVariables false
set_option linter.unusedSimpArgs false
/-- The blocks of a store that its fork has, too: all but its own and its map's. -/
def ForkS (S : Nat → Prop) (w : World) (g : Nat) (j : Nat) : Prop := S j ∧ j ≠ g ∧ ∀ c, w.heap[g]? = some (.cells #[.map (some c)] 66 (0, 0)) → j ≠ c
set_option maxHeartbeats 4000000 in
theorem ForkP_is {S : Nat → Prop} {w : World} {g : Nat} {M : List Cel} (h : StoreP S w g M) :
    Calls Tryz.prog 28 #[.pointer (some ⟨g, 0, none⟩)] w fun e w' => ∃ g', e = .returned (.pointer (some ⟨g', 0, none⟩)) ∧ w.heap.size ≤ g' ∧ Below w.heap.size w w' ∧
      StoreP (fun j => ForkS S w g j ∨ (w.heap.size ≤ j ∧ j < w'.heap.size)) w' g' M := by
  obtain ⟨hg, E, mb, hE, hblk, hent, hnone, hmap⟩ := h
  have pg : w.cell? ⟨g, 0, none⟩ = some (.map mb) := by rw [Lib.cell_of_heap hblk]; rfl
  have HB := Lib.hid hblk
  clear hblk
  cases mb with
  | none =>
    have hE0 := hnone rfl
    subst hE0
    subst hE
    go_enter Tryz.func28, Tryz.ntmps28
    go_wp2_with fail
    have cS : Calls Tryz.prog 59 _ _ _ := AnyW.maps_Clone_nil Tryz.cloneX w
    refine cS.mono ?_
    rintro e w1 ⟨rfl, rfl⟩
    go_wp2
    go_ret
    refine ⟨w1.heap.size, rfl, Nat.le_refl _, (Below.refl w1.heap.size w1).alloc (Nat.le_refl _) _, ?_⟩
    exact StoreP.new _ w1 (.inr ⟨Nat.le_refl _, by simp⟩)
  | some b =>
    obtain ⟨hSb, hbg, hMap⟩ := hmap b rfl
    obtain ⟨es, clock, hb, hst, hmx, hcel⟩ := hMap
    go_enter Tryz.func28, Tryz.ntmps28
    go_wp2_with fail
    have cS : Calls Tryz.prog 59 _ _ _ := AnyW.maps_Clone Tryz.cloneX b es clock w hb
    refine cS.mono ?_
    rintro e w1 ⟨rfl, rfl⟩
    go_wp2
    go_ret
    have b1 : Below w.heap.size w (w.alloc (.map es clock)) := (Below.refl w.heap.size w).alloc (Nat.le_refl _) _
    have b2 := b1.alloc b1.size (.cells #[.map (some w.heap.size)] 66)
    have hs1 : (w.alloc (.map es clock)).heap.size = w.heap.size + 1 := by simp
    have hm1 : ((w.alloc (.map es clock)).alloc (.cells #[.map (some w.heap.size)] 66)).heap[w.heap.size]? = some (.map es clock) := (Below.heap_alloc _ _ _ (by simp)).trans (MapKept.heap_alloc w _).1
    have hg1 := heap_alloc_new (w.alloc (.map es clock)) (.cells #[.map (some w.heap.size)] 66)
    have hs2 : ((w.alloc (.map es clock)).alloc (.cells #[.map (some w.heap.size)] 66)).heap.size = w.heap.size + 2 := by simp
    rw [hs1] at hg1
    refine ⟨w.heap.size + 1, rfl, by omega, b2, .inr ⟨by omega, by omega⟩, E, some w.heap.size, hE, hg1, fun e he => ?_, fun e => (by cases e), fun c hc => ?_⟩
    · obtain ⟨h1, h2, h3⟩ := hent e he
      refine ⟨h1, h2, ((h3.mono (S' := fun k => (S k ∧ k ≠ g ∧ some b ≠ some k) ∧ k < w.heap.size) (fun k hk hs => ⟨hs, hk⟩)).keep (Stays.of b2)).mono (fun k _ hk => ⟨.inl ⟨hk.1.1, hk.1.2.1, fun c hc e => ?_⟩, by omega, fun e => by have := Option.some.inj e; omega⟩)⟩
      rw [HB.out] at hc
      have hc2 := Option.some.inj hc
      simp only [Obj.cells.injEq, and_true] at hc2
      have hc3 : b = c := by simpa using hc2
      exact hk.1.2.2 (by rw [hc3, e])
    · cases hc
      exact ⟨.inr ⟨Nat.le_refl _, by omega⟩, by omega, es, clock, hm1, hst, hmx, hcel⟩
end Go.Proofs.YtnohonjjfjppoaaGreatDoor

/-
  Layer 13, the program: Write, into a store that shares no bytes with its fork.
-/
namespace Go.Proofs.YtnohonjjfjppoaaGreatDoor
set_option maxRecDepth 20000
open Go.RowKit
set_option linter.unusedVariables false
set_option linter.unusedSimpArgs false
/-- What a write of files leaves, answers, says. -/
def wrF (pt : PutT) (M : List Cel) (l : List Fil) : List Cel × List UInt8 × Int :=
  if rightF l = true then if (wl pt (costF l) M l []).2.2 = 0 then wl pt (costF l) M l [] else (M, zeroId, (wl pt (costF l) M l []).2.2) else (M, zeroId, 11)
theorem wrF_id (M : List Cel) (l : List Fil) : (wrF putM M l).2.1.length = 20 := by
  unfold wrF
  split
  · split
    · exact wl_id _ _ _ _
    · simp [zeroId]
  · simp [zeroId]
set_option maxHeartbeats 64000000 in
theorem Write_is {w0 : World} (tab : T13 w0) {S : Nat → Prop} {w : World} {g : Nat} {M : List Cel} {a : Option Addr} {c : Nat} {l : List Fil} (h : StoreP S w g M) (hf : ∀ j, j < w.heap.size → ¬ ForkS S w g j) (hb0 : Below w0.heap.size w0 w) (hS0 : ∀ j, S j → w0.heap.size ≤ j)
    (hat : FilesAt w a l) (hSa : ∀ ad, a = some ad → ¬ S ad.block ∧ ad.block < w.heap.size) (hid : ∀ f ∈ l, f.id.length = 20 ∧ f.path.length ≤ 1000000) (hc : l.length ≤ c) (hcm : c ≤ maxLen) (hfew : l.length ≤ 1000000) (hroom : rightF l = true → M.length + slF l + 1 ≤ 5000) :
    Calls Tryz.prog 12 #[.pointer (some ⟨g, 0, none⟩), .slice a l.length c] w fun e w' => e = .returned (.tuple #[.agg (arrD (wrF putM M l).2.1), .int .i64 (wrF putM M l).2.2]) ∧
      StoreP (fun j => S j ∨ (w.heap.size ≤ j ∧ j < w'.heap.size)) w' g (wrF putM M l).1 ∧ Chg S w w' := by
  have rid := wrF_id M l
  have zid := wl_id (costF l) M l []
  obtain ⟨R, hR⟩ : ∃ R, wrF putM M l = R := ⟨_, rfl⟩
  rw [hR] at rid ⊢
  obtain ⟨RM, RI, RE⟩ := R
  obtain ⟨Z, hZ⟩ : ∃ Z, wl putM (costF l) M l [] = Z := ⟨_, rfl⟩
  have HR := Lib.hid hR
  have hR2 := hR
  unfold wrF at hR2
  rw [hZ] at hR2 zid
  obtain ⟨ZM, ZI, ZE⟩ := Z
  simp only at rid zid hR2 ⊢
  obtain ⟨zd, hzd, hzds, hzdv, hzdb, hzd1⟩ := zId_any
  have SZ := Lib.hid (arrD_size RI rid); have OD := Lib.hid (arrD_one RI)
  have SY := Lib.hid (arrD_size ZI zid); have OY := Lib.hid (arrD_one ZI)
  obtain ⟨AD, hAD⟩ : ∃ A, arrD RI = A := ⟨_, rfl⟩
  obtain ⟨AY, hAY⟩ : ∃ A, arrD ZI = A := ⟨_, rfl⟩
  rw [hAD] at SZ OD ⊢
  rw [hAY] at SY OY
  have ID := Lib.hid (show (Tryz.prog.info? 27).map (·.size) = some AD.size by rw [SZ.out]; exact info29)
  have IY := Lib.hid (show (Tryz.prog.info? 27).map (·.size) = some AY.size by rw [SY.out]; exact info29)
  have HAD := Lib.hid hAD; have HAY := Lib.hid hAY; have HZDS := Lib.hid hzds; have HZD := Lib.hid hzd
  have b1 := (Below.refl w.heap.size w).alloc (Nat.le_refl _) (.cells zd 27)
  have h1c := heap_alloc_new w (.cells zd 27)
  obtain ⟨w1, hw1⟩ : ∃ w1, w.alloc (.cells zd 27) = w1 := ⟨_, rfl⟩
  rw [hw1] at b1 h1c
  have CR := Lib.hid (fRight_is a l.length c l w1 rfl (by omega) (hat.keep b1) (fun f hf => (hid f hf).1) (fun f hf => (hid f hf).2) (tab.keep (hb0.trans (b1.mono hb0.size))).q)
  have h1 : StoreP (fun j => S j ∧ j < w.heap.size) w g M := h.mono (fun j hj hs => ⟨hs, hj⟩)
  have nof : ∀ u, Below w.heap.size w u → ∀ j, ¬ ForkS (fun j => S j ∧ j < w.heap.size) u g j := fun u hu j q => hf j q.1.2 ⟨q.1.1, q.2.1, fun d hd => q.2.2 d ((hu.block g h.lt).trans hd)⟩
  have CF := Lib.hid (fun u (hu : Below w.heap.size w u) => (ForkP_is (h1.below hu)).mono (fun e u' q => show ∃ g', e = .returned (.pointer (some ⟨g', 0, none⟩)) ∧ Below u.heap.size u u' ∧ StoreP (fun j => u.heap.size ≤ j ∧ j < u'.heap.size) u' g' M by
    obtain ⟨g', he, hg, hb, hs⟩ := q
    exact ⟨g', he, hb, hs.mono (fun j _ k => k.resolve_left (nof u hu j))⟩))
  have dir : InDir 0 [] l := ⟨fun f hf => ⟨(hid f hf).1, (hid f hf).2, Nat.zero_le _, by simp⟩, hfew⟩
  have PUT := put_is tab (costF l)
  have CP1 := Lib.hid (fun u u' g' (hu : Below w.heap.size w u) (hu' : Below u.heap.size u u') (hs : StoreP (fun j => u.heap.size ≤ j ∧ j < u'.heap.size) u' g' M) (hr : M.length + slF l + 1 ≤ 5000) =>
    PUT _ u' g' M a c 0 l [] hs (hb0.trans ((hu.trans (hu'.mono hu.size)).mono hb0.size)) (fun j hj => Nat.le_trans hb0.size (Nat.le_trans hu.size hj.1)) (hat.keep (hu.trans (hu'.mono hu.size))) (fun ad had q => by have := (hSa ad had).2; have := hu.size; omega) dir hc hcm (Nat.zero_le _) (by rw [cut_zero]; exact Nat.le_refl _) (by rw [cut_zero]; exact hr))
  have CP2 := Lib.hid (fun u (hu : Below w.heap.size w u) (hr : M.length + slF l + 1 ≤ 5000) =>
    PUT _ u g M a c 0 l [] (h1.below hu) (hb0.trans (hu.mono hb0.size)) (fun j hj => hS0 j hj.1) (hat.keep hu) (fun ad had q => (hSa ad had).1 q.1) dir hc hcm (Nat.zero_le _) (by rw [cut_zero]; exact Nat.le_refl _) (by rw [cut_zero]; exact hr))
  rw [cut_zero, hZ] at CP1 CP2
  simp only [hAY] at CP1 CP2
  have HROOM := Lib.hid hroom
  have H1 := Lib.hid h1; have B1 := Lib.hid b1; have H1C := Lib.hid h1c; have HR2 := Lib.hid hR2
  obtain ⟨n, hn⟩ : ∃ n, l.length = n := ⟨_, rfl⟩
  rw [hn] at CP1 CP2 CR ⊢
  obtain ⟨rt, hrt⟩ : ∃ rt, rightF l = rt := ⟨_, rfl⟩
  rw [hrt] at CR
  have HRT := Lib.hid hrt
  clear h hf hb0 hS0 hat hSa hid hc hcm hfew hroom hR hR2 hZ rid zid hzds hzd hAD hAY b1 h1c h1 nof dir PUT tab hn hrt
  go_enter Tryz.func12, Tryz.ntmps12
  go_wp2_with fail
  refine CR.out.mono ?_
  rintro e9 w2 ⟨rfl, b2⟩
  have B2 := Lib.hid (B1.out.trans (b2.mono B1.out.size))
  have HI2 := Lib.hid ((b2.block w.heap.size (lt_of_heap H1C.out)).trans H1C.out)
  clear b2 CR hw1
  cases rt with
  | false =>
    have hr := HR2.out
    rw [if_neg (by rw [HRT.out]; decide)] at hr
    have e1 := Prod.mk.inj hr
    have e2 := Prod.mk.inj e1.2
    obtain rfl : AD = zd := by rw [← HAD.out, HZD.out, ← e2.1]; rfl
    obtain rfl : M = RM := e1.1
    obtain rfl : 11 = RE := e2.2
    clear hr e1 e2
    go_wp2_with (first
      | (with_reducible refine wpList_store_all rfl 27 (.tmp 4) (.tmp 14) rfl w.heap.size AD rfl rfl 27 AD HI2.out ID.out rfl OD.out ?_)
      | fail)
    intro w4 r4 off4 sz4
    have fin := put_fin (S := S) (H1.out.below B2.out) (fun j q => .inl q) (Chg.of_below (S := S) B2.out) off4
    have R4 := Lib.hid r4; have FIN := Lib.hid fin
    clear r4 off4 sz4 fin
    go_wp2
    exact bodyPost_ret (results_id9 Tryz.results12 _ _ w.heap.size AD (0, 0) _ rfl rfl R4.out SZ.out) rfl ⟨rfl, FIN.out⟩
  | true =>
    have hr := HR2.out
    rw [if_pos HRT.out] at hr
    have ROOM := Lib.hid (HROOM.out HRT.out)
    have HR3 := Lib.hid hr
    have CF2 := Lib.hid (CF.out w2 B2.out)
    clear hr HR2 HROOM
    go_wp2_with fail
    refine CF2.out.mono ?_
    rintro e9 w3 ⟨g', rfl, b3, h3⟩
    have CP := Lib.hid (CP1.out w2 w3 g' B2.out b3 h3 ROOM.out)
    have B3 := Lib.hid (B2.out.trans (b3.mono B2.out.size)); have S23 := Lib.hid b3.size
    have HI3 := Lib.hid ((b3.block w.heap.size (lt_of_heap HI2.out)).trans HI2.out)
    have L2 := Lib.hid (lt_of_heap HI2.out)
    clear b3 h3 CF2 CP1 HI2
    go_wp2_with fail
    refine CP.out.mono ?_
    rintro e9 w4 ⟨rfl, -, c4⟩
    have B4 := Lib.hid (B3.out.trans (c4.below B3.out.size (fun j _ q => by have := q.1; have := L2.out; omega)))
    have HI4 := Lib.hid ((c4.block w.heap.size (lt_of_heap HI3.out) (fun q => by have := L2.out; omega)).trans HI3.out)
    clear c4 CP HI3
    by_cases hze : ZE = 0
    · have hr := HR3.out
      rw [if_pos hze] at hr
      have e1 := Prod.mk.inj hr
      have e2 := Prod.mk.inj e1.2
      obtain rfl : ZM = RM := e1.1
      obtain rfl : ZI = RI := e2.1
      obtain rfl : ZE = RE := e2.2
      obtain rfl : AY = AD := HAY.out.symm.trans HAD.out
      subst hze
      clear hr e1 e2 HR3
      go_wp2_with (first
        | (with_reducible refine wpList_store_all rfl 27 (.tmp 6) (.tmp 20) rfl w4.heap.size AY rfl rfl 27 zd (heap_alloc_new _ _) IY.out (SY.out.trans HZDS.out.symm) OY.out ?_)
        | fail)
      intro w5 r5 off5 sz5
      have b5 : Below w4.heap.size w4 w5 := ((Below.refl w4.heap.size w4).alloc (Nat.le_refl _) (.cells zd 27)).trans (off5.below (Nat.le_refl _) (by simp))
      have B5 := Lib.hid (B4.out.trans (b5.mono B4.out.size))
      have HI5 := Lib.hid ((b5.block w.heap.size (lt_of_heap HI4.out)).trans HI4.out)
      have CQ := Lib.hid (CP2.out w5 B5.out ROOM.out)
      clear r5 off5 sz5 b5 HI4 CP2
      go_wp2_with fail
      refine CQ.out.mono ?_
      rintro e9 w6 ⟨rfl, h6, c6⟩
      have HI6 := Lib.hid ((c6.block w.heap.size (lt_of_heap HI5.out) (fun q => Nat.lt_irrefl _ q.2)).trans HI5.out)
      have C6 := Lib.hid ((Chg.of_below (S := S) B5.out).more c6 (fun j _ q => q.1))
      have L5 := Lib.hid (lt_of_heap HI5.out)
      have H6 := Lib.hid h6
      clear h6 c6 CQ HI5
      go_wp2_with (first
        | (with_reducible refine wpList_store_all rfl 27 (.tmp 4) (.tmp 29) rfl w.heap.size AY rfl rfl 27 zd HI6.out IY.out (SY.out.trans HZDS.out.symm) OY.out ?_)
        | fail)
      intro w7 r4 off4 sz4
      have fin := put_fin (S := S) H6.out (fun j q => by
        rcases q with q | q
        · exact .inl q
        · exact .inr (Nat.lt_of_lt_of_le L5.out q.1)) C6.out off4
      have R4 := Lib.hid r4; have FIN := Lib.hid fin
      clear r4 off4 sz4 fin
      go_wp2
      exact bodyPost_ret (results_id9 Tryz.results12 _ _ w.heap.size AY (0, 0) _ rfl rfl R4.out SY.out) rfl ⟨rfl, FIN.out⟩
    · have hr := HR3.out
      rw [if_neg hze] at hr
      have e1 := Prod.mk.inj hr
      have e2 := Prod.mk.inj e1.2
      obtain rfl : AD = zd := by rw [← HAD.out, HZD.out, ← e2.1]; rfl
      obtain rfl : M = RM := e1.1
      obtain rfl : ZE = RE := e2.2
      have hqb : (ZE != 0) = true := by simpa using hze
      clear hr e1 e2 HR3 hze
      go_wp2_with (first
        | (with_reducible refine wpList_store_all rfl 27 (.tmp 6) (.tmp 20) rfl w4.heap.size AY rfl rfl 27 AD (heap_alloc_new _ _) IY.out (SY.out.trans HZDS.out.symm) OY.out ?_)
        | fail)
      intro w5 r5 off5 sz5
      have b5 : Below w4.heap.size w4 w5 := ((Below.refl w4.heap.size w4).alloc (Nat.le_refl _) (.cells AD 27)).trans (off5.below (Nat.le_refl _) (by simp))
      have B5 := Lib.hid (B4.out.trans (b5.mono B4.out.size))
      have HI5 := Lib.hid ((b5.block w.heap.size (lt_of_heap HI4.out)).trans HI4.out)
      clear r5 off5 sz5 b5 HI4 CP2
      go_wp2_with (first
        | (with_reducible refine wpList_store_all rfl 27 (.tmp 4) (.tmp 24) rfl w.heap.size AD rfl rfl 27 AD HI5.out ID.out rfl OD.out ?_)
        | fail)
      intro w7 r4 off4 sz4
      have fin := put_fin (S := S) (H1.out.below B5.out) (fun j q => .inl q) (Chg.of_below (S := S) B5.out) off4
      have R4 := Lib.hid r4; have FIN := Lib.hid fin
      clear r4 off4 sz4 fin
      go_wp2
      exact bodyPost_ret (results_id9 Tryz.results12 _ _ w.heap.size AD (0, 0) _ rfl rfl R4.out SZ.out) rfl ⟨rfl, FIN.out⟩
end Go.Proofs.YtnohonjjfjppoaaGreatDoor
