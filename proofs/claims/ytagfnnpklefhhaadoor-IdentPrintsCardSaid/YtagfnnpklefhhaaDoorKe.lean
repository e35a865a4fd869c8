/-
  Layer 6: Parse of the reference. (Made by tools/genke.py.)
-/
import Derived.Test.YtagfnnpklefhhaaDoorJi
import Derived.Test.YtagfnnpklefhhaaDoorKb
import Derived.Test.YtagfnnpklefhhaaDoorKc
namespace Go.Proofs.YtagfnnpklefhhaaDoor
open Go.RowKit
set_option linter.unusedVariables false
set_option linter.unusedSimpArgs false

theorem find_here (c : UInt8) (s : List UInt8) (i : Nat) (hi : i < s.length) (h : s.getD i 0 = c) (hn : ¬ s.findIdx (· == c) < i) : s.findIdx (· == c) = i := by
  rw [List.getD_eq_getElem?_getD, List.getElem?_eq_getElem hi] at h
  simp only [Option.getD_some] at h
  by_cases hgt : i < s.findIdx (· == c)
  · have := List.not_of_lt_findIdx hgt
    rw [h] at this
    simp at this
  · omega
theorem find_not (c : UInt8) (s : List UInt8) (i : Nat) (hi : i < s.length) (h : s.getD i 0 ≠ c) : s.findIdx (· == c) ≠ i := by
  intro e
  rw [List.getD_eq_getElem?_getD, List.getElem?_eq_getElem hi] at h
  simp only [Option.getD_some] at h
  have h2 := List.findIdx_getElem (xs := s) (p := (· == c)) (w := by rw [e]; exact hi)
  have h3 : s[s.findIdx (· == c)]'(by rw [e]; exact hi) = c := by simpa using h2
  simp only [e] at h3
  exact h h3
/-- What the search tells so far. -/
def seen (f i : Nat) : Int := if f < i then f else -1
theorem seen_zero (f : Nat) : seen f 0 = -1 := by unfold seen; rw [if_neg (Nat.not_lt_zero _)]
theorem seen_here (c : UInt8) (s : List UInt8) (i : Nat) (hi : i < s.length) (h : s.getD i 0 = c) : seen (s.findIdx (· == c)) (i + 1) = if seen (s.findIdx (· == c)) i < 0 then (i : Int) else seen (s.findIdx (· == c)) i := by
  unfold seen
  by_cases hn : s.findIdx (· == c) < i
  · rw [if_pos hn, if_pos (by omega), if_neg (by omega)]
  · have e := find_here c s i hi h hn
    rw [if_neg hn, if_pos (by omega), e, if_pos (by omega)]
theorem seen_not (c : UInt8) (s : List UInt8) (i : Nat) (hi : i < s.length) (h : s.getD i 0 ≠ c) : seen (s.findIdx (· == c)) (i + 1) = seen (s.findIdx (· == c)) i := by
  have e := find_not c s i hi h
  unfold seen
  by_cases hn : s.findIdx (· == c) < i
  · rw [if_pos hn, if_pos (by omega)]
  · rw [if_neg hn, if_neg (by omega)]
theorem setCell4_0 {w : World} {b : Nat} {t : TypeId} {x0 x1 x2 x3 v : Value} (h : w.heap[b]? = some (.cells #[x0, x1, x2, x3] t (0, 0))) : (w.setCell ⟨b, 0, none⟩ v).heap[b]? = some (.cells #[v, x1, x2, x3] t (0, 0)) := by
  simp [World.setCell, Array.getElem?_modify, h]
theorem setCell4_2 {w : World} {b : Nat} {t : TypeId} {x0 x1 x2 x3 v : Value} (h : w.heap[b]? = some (.cells #[x0, x1, x2, x3] t (0, 0))) : (w.setCell ⟨b, 2, none⟩ v).heap[b]? = some (.cells #[x0, x1, v, x3] t (0, 0)) := by
  simp [World.setCell, Array.getElem?_modify, h]
theorem setCell4_3 {w : World} {b : Nat} {t : TypeId} {x0 x1 x2 x3 v : Value} (h : w.heap[b]? = some (.cells #[x0, x1, x2, x3] t (0, 0))) : (w.setCell ⟨b, 3, none⟩ v).heap[b]? = some (.cells #[x0, x1, x2, v] t (0, 0)) := by
  simp [World.setCell, Array.getElem?_modify, h]
theorem parseR_badA {wr : Int → List UInt8} {rd : List UInt8 → Option Int} {s : List UInt8} (h : badA s) : parseR wr rd s = none := by unfold parseR; rw [if_pos h]
theorem parseR_badB {wr : Int → List UInt8} {rd : List UInt8 → Option Int} {s : List UInt8} (h : badB (restI s)) : parseR wr rd s = none := by
  unfold parseR
  by_cases h0 : badA s
  · rw [if_pos h0]
  · rw [if_neg h0, if_pos h]
theorem parseR_good {wr : Int → List UInt8} {rd : List UInt8 → Option Int} {s : List UInt8} (h : ¬ badA s) (h2 : ¬ badB (restI s)) :
    parseR wr rd s = match rd (((restI s).take ((restI s).length - 6)).drop 1) with
    | none => none
    | some v => match zoneR ((restI s).drop ((restI s).length - 5)) with
      | none => none
      | some z => if rightI (candI s v z) = true ∧ printI wr (candI s v z) = s then some (candI s v z) else none := by
  unfold parseR
  rw [if_neg h, if_neg h2]
  rfl
theorem seen_two (f i : Nat) : seen f i = -1 ∧ i ≤ f ∨ seen f i = (f : Int) ∧ f < i := by
  unfold seen
  by_cases h : f < i
  · rw [if_pos h]; exact .inr ⟨rfl, h⟩
  · rw [if_neg h]; exact .inl ⟨rfl, by omega⟩
/-- A struct of four cells stored where one lies: the world behind it, by what is told of it. -/
theorem wpList_store_idt {ops : Array Oper} {rest : List Oper} {o : Oper} {a : Act} {w : World} {Q : Exit → Act → World → Prop} (hgd : o.guard = none) (x y : Operand) (ho : o.op = .store 23 x y)
    (g : Nat) (a0 a1 a2 a3 b0 b1 b2 b3 : Value) (hx : a.eval x = .pointer (some ⟨g, 0, none⟩)) (hy : a.eval y = .agg #[a0, a1, a2, a3]) (hg : w.heap[g]? = some (.cells #[b0, b1, b2, b3] 23 (0, 0)))
    (one : (#[a0, a1, a2, a3] : Array Value).all (·.oneCell') = true)
    (h : ∀ w', w'.heap[g]? = some (.cells #[a0, a1, a2, a3] 23 (0, 0)) → (∀ B w0, B ≤ g → Below B w0 w → Below B w0 w') → (∀ k, k ≠ g → w'.heap[k]? = w.heap[k]?) → w'.heap.size = w.heap.size → wpList Tryd.prog ops Q rest (a.put o.dst undef) w') :
    wpList Tryd.prog ops Q (o :: rest) a w := by
  refine wpList_store_row hgd 23 x y ho g #[a0, a1, a2, a3] hx hy 23 #[b0, b1, b2, b3] hg (infoId4 _ _ _ _) (sizeId4 _ _ _ _ _ _ _ _) one ?_
  refine h _ (setRow_heap w g _ _ _ (0, 0) hg) (fun B w0 hB hb => below_setRow hb hB _) (fun k hk => ?_) ?_
  · simp [World.setRow, Array.getElem?_modify]
    intro e; exact absurd e.symm hk
  · simp [World.setRow]
theorem find_val (c : UInt8) (l : List UInt8) (h : l.findIdx (· == c) < l.length) : l.getD (l.findIdx (· == c)) 0 = c := by
  have a := List.findIdx_getElem (xs := l) (p := (· == c)) (w := h)
  rw [List.getD_eq_getElem?_getD, List.getElem?_eq_getElem h]
  simpa using a
theorem find_ne (l : List UInt8) (h : openI l < l.length) : openI l ≠ endI l := by
  intro e
  have h2 : endI l < l.length := by rw [← e]; exact h
  have a : l.getD (openI l) 0 = 60 := find_val 60 l h
  have b : l.getD (endI l) 0 = 62 := find_val 62 l h2
  rw [e, b] at a
  exact absurd a (by decide)
theorem setCell_far {w : World} {p : Addr} {k : Nat} (v : Value) (h : k ≠ p.block) : (w.setCell p v).heap[k]? = w.heap[k]? := by
  simp [World.setCell, Array.getElem?_modify]
  intro e; exact absurd e.symm h
theorem zoneA_shape (s : List UInt8) : ∃ za zf : Int, zoneA s = .tuple #[.int .i64 za, .int .i64 zf] := by
  unfold zoneA
  split
  · exact ⟨_, _, rfl⟩
  · exact ⟨_, _, rfl⟩

set_option maxHeartbeats 32000000 in
set_option maxRecDepth 100000 in
theorem rParse_is (l : List UInt8) (hn : l.length ≤ 1000000) (w : World) (tab : T6 w) :
    Calls Tryd.prog 10 #[.string ⟨l.toArray⟩] w fun e w' => e = .returned (idtA (parseR Lib.itoa takeN l)) ∧ Below w.heap.size w w' := by
  have D0 := Lib.hid ((Below.refl w.heap.size w).alloc (Nat.le_refl _) (.cells id0 23))
  have T0 := Lib.hid (tab.keep D0.out)
  have N0 := Lib.hid (heap_alloc_new w (.cells id0 23))
  have S0 := Lib.hid (show (w.alloc (.cells id0 23)).heap.size = w.heap.size + 1 by simp)
  obtain ⟨R, hR⟩ : ∃ R, R = idtA (parseR Lib.itoa takeN l) := ⟨_, rfl⟩
  rw [← hR]
  have BA := Lib.hid (fun h => hR.trans (congrArg idtA (parseR_badA (s := l) h)))
  have BB := Lib.hid (fun h => hR.trans (congrArg idtA (parseR_badB (s := l) h)))
  have GD := Lib.hid (fun h h2 => hR.trans (congrArg idtA (parseR_good (s := l) h h2)))
  have hsz := size_toArray l
  have hget0 : ∀ j, j < l.length → ∀ h2 : j < (⟨l.toArray⟩ : ByteArray).size, (⟨l.toArray⟩ : ByteArray)[j]'h2 = l.getD j 0 := fun j h h2 => getD_mk l j h h2
  have XM := Lib.hid (fun a b => Lib.extract_mk l a b)
  have XU := Lib.hid (ext_upto l)
  have XF := Lib.hid (fun k => ext_from l k l.length rfl)
  have LS := Lib.hid (fun m => (Iff.rfl : (printI Lib.itoa m = l) ↔ (printI Lib.itoa m = l)))
  obtain ⟨s, hs⟩ : ∃ s : ByteArray, s = ⟨l.toArray⟩ := ⟨_, rfl⟩
  have hget : ∀ j, j < l.length → ∀ h2 : j < s.size, s[j]'h2 = l.getD j 0 := by subst hs; exact hget0
  rw [← hs] at hsz XM XU XF ⊢
  have HS := Lib.hid hs
  have GET := Lib.hid hget
  have badAiff := Lib.hid (show badA l ↔ (l.length ≤ openI l ∨ l.length ≤ endI l ∨ endI l < openI l ∨ (0 < openI l ∧ l.getD (openI l - 1) 0 ≠ 32) ∨ openI l = 1) from Iff.rfl)
  have TAB := Lib.hid tab
  have NE := Lib.hid (find_ne l)
  clear hR hget hget0 hs tab
  have SO := Lib.hid (show ∀ i, i < l.length → l.getD i 0 = 60 → seen (openI l) (i + 1) = if seen (openI l) i < 0 then (i : Int) else seen (openI l) i from fun i hi h => seen_here 60 l i hi h)
  have SN := Lib.hid (show ∀ i, i < l.length → l.getD i 0 ≠ 60 → seen (openI l) (i + 1) = seen (openI l) i from fun i hi h => seen_not 60 l i hi h)
  have EO := Lib.hid (show ∀ i, i < l.length → l.getD i 0 = 62 → seen (endI l) (i + 1) = if seen (endI l) i < 0 then (i : Int) else seen (endI l) i from fun i hi h => seen_here 62 l i hi h)
  have EN := Lib.hid (show ∀ i, i < l.length → l.getD i 0 ≠ 62 → seen (endI l) (i + 1) = seen (endI l) i from fun i hi h => seen_not 62 l i hi h)
  have Z1 := Lib.hid (seen_zero (openI l))
  have Z2 := Lib.hid (seen_zero (endI l))
  have SD := Lib.hid seen_two
  go_enter Tryd.func10, Tryd.ntmps10
  go_wp2_with fail
  go_loopw [4, 5, 6] (fun v4 v5 v6 wr => ∃ i : Nat, i ≤ l.length ∧ v6 = .int .i64 i ∧ v4 = .int .i64 (seen (openI l) i) ∧ v5 = .int .i64 (seen (endI l) i) ∧ wr = w.alloc (.cells id0 23)) (fun _ _ v6 _ => l.length - (intOf v6).toNat)
  case atStart => exact ⟨0, Nat.zero_le _, rfl, by rw [Z1.out], by rw [Z2.out], rfl⟩
  case round =>
    clear Z1 Z2
    obtain ⟨i, hi, rfl, rfl, rfl, hwr⟩ := hrel
    have HWR := Lib.hid hwr
    clear hwr
    by_cases hlt : i < l.length
    · have hx := GET.out i hlt (by omega)
      have j1 : (i : Int) < (s.size : Int) := by omega
      have j2 : (i : Int) < (l.length : Int) := by omega
      have so := SO.out i hlt
      have sn := SN.out i hlt
      have eo := EO.out i hlt
      have en := EN.out i hlt
      obtain ⟨x, hxe⟩ : ∃ x : UInt8, x = l.getD i 0 := ⟨_, rfl⟩
      rw [← hxe] at hx so sn eo en
      obtain ⟨p, hp⟩ : ∃ p, p = seen (openI l) i := ⟨_, rfl⟩
      obtain ⟨q, hq⟩ : ∃ q, q = seen (endI l) i := ⟨_, rfl⟩
      rw [← hp] at so sn ⊢
      rw [← hq] at eo en ⊢
      have SO2 := Lib.hid so; have SN2 := Lib.hid sn; have EO2 := Lib.hid eo; have EN2 := Lib.hid en
      clear hxe hp hq so sn eo en
      by_cases x60 : x.toNat = 60
      · have e60 : x = 60 := UInt8.toNat_inj.1 (by simpa using x60)
        have SV := Lib.hid (SO2.out e60)
        have EV := Lib.hid (EN2.out (by rw [e60]; decide))
        have f1 : (((x.toNat : Nat) : Int) == 60) = true := by rw [x60]; rfl
        have f2 : (((x.toNat : Nat) : Int) == 62) = false := by rw [x60]; rfl
        clear x60 e60
        by_cases p0 : p < 0
        · have SV2 := Lib.hid (show seen (openI l) (i + 1) = (i : Int) by rw [SV.out, if_pos p0])
          go_wp2
          go_roundw
          case rel => exact ⟨i + 1, by omega, by go_num, by rw [SV2.out], by rw [EV.out], HWR.out⟩
          case measure => simp [intOf]; omega
        · have SV2 := Lib.hid (show seen (openI l) (i + 1) = p by rw [SV.out, if_neg p0])
          go_wp2
          go_roundw
          case rel => exact ⟨i + 1, by omega, by go_num, by rw [SV2.out], by rw [EV.out], HWR.out⟩
          case measure => simp [intOf]; omega
      · have f1 : (((x.toNat : Nat) : Int) == 60) = false := by rw [beq_eq_false_iff_ne]; omega
        have SV := Lib.hid (SN2.out (fun e => x60 (by rw [e]; rfl)))
        clear x60
        by_cases x62 : x.toNat = 62
        · have e62 : x = 62 := UInt8.toNat_inj.1 (by simpa using x62)
          have EV := Lib.hid (EO2.out e62)
          have f2 : (((x.toNat : Nat) : Int) == 62) = true := by rw [x62]; rfl
          clear x62 e62
          by_cases q0 : q < 0
          · have EV2 := Lib.hid (show seen (endI l) (i + 1) = (i : Int) by rw [EV.out, if_pos q0])
            go_wp2
            go_roundw
            case rel => exact ⟨i + 1, by omega, by go_num, by rw [SV.out], by rw [EV2.out], HWR.out⟩
            case measure => simp [intOf]; omega
          · have EV2 := Lib.hid (show seen (endI l) (i + 1) = q by rw [EV.out, if_neg q0])
            go_wp2
            go_roundw
            case rel => exact ⟨i + 1, by omega, by go_num, by rw [SV.out], by rw [EV2.out], HWR.out⟩
            case measure => simp [intOf]; omega
        · have f2 : (((x.toNat : Nat) : Int) == 62) = false := by rw [beq_eq_false_iff_ne]; omega
          have EV := Lib.hid (EN2.out (fun e => x62 (by rw [e]; rfl)))
          clear x62
          go_wp2
          go_roundw
          case rel => exact ⟨i + 1, by omega, by go_num, by rw [SV.out], by rw [EV.out], HWR.out⟩
          case measure => simp [intOf]; omega
    · obtain rfl : i = l.length := by omega
      have C1 := SD.out (openI l) l.length
      have C2 := SD.out (endI l) l.length
      have hO : openI l = l.findIdx (· == 60) := rfl
      have REST := Lib.hid (show restI l = l.drop (endI l + 1) from rfl)
      have CAND := Lib.hid (show ∀ v z, candI l v z = ⟨if 1 < openI l then l.take (openI l - 1) else [], (l.take (endI l)).drop (openI l + 1), v, z⟩ from fun _ _ => rfl)
      clear SO SN EO EN SD hlt hO
      generalize seen (openI l) l.length = p at C1 ⊢
      generalize seen (endI l) l.length = q at C2 ⊢
      generalize openI l = o at *
      generalize endI l = n at *
      have hwr := HWR.out
      clear HWR
      subst hwr
      rcases C1 with ⟨rfl, c1⟩ | ⟨rfl, c1⟩
      · have HV := Lib.hid (show R = .tuple #[.agg id0, .int .i64 4] from BA.out (badAiff.out.2 (.inl c1)))
        clear C2
        go_wp2_with (first
          | (with_reducible refine wpList_store_row rfl 23 (.tmp 2) (.tmp 59) rfl w.heap.size id0 rfl rfl 23 id0 N0.out (infoId4 _ _ _ _) (sizeId4 _ _ _ _ _ _ _ _) one_id0 ?_)
          | fail)
        refine bodyPost_ret (results_idt Tryd.results10 _ _ w.heap.size _ (0, 0) _ rfl rfl (setRow_heap _ w.heap.size id0 _ _ (0, 0) N0.out) rfl) rfl ⟨by rw [HV.out]; rfl, below_setRow D0.out (Nat.le_refl _) _⟩
      rcases C2 with ⟨rfl, c2⟩ | ⟨rfl, c2⟩
      · have HV := Lib.hid (show R = .tuple #[.agg id0, .int .i64 4] from BA.out (badAiff.out.2 (.inr (.inl c2))))
        have g1 : (-1 : Int) < (o : Int) := by omega
        go_wp2_with (first
          | (with_reducible refine wpList_store_row rfl 23 (.tmp 2) (.tmp 59) rfl w.heap.size id0 rfl rfl 23 id0 N0.out (infoId4 _ _ _ _) (sizeId4 _ _ _ _ _ _ _ _) one_id0 ?_)
          | fail)
        refine bodyPost_ret (results_idt Tryd.results10 _ _ w.heap.size _ (0, 0) _ rfl rfl (setRow_heap _ w.heap.size id0 _ _ (0, 0) N0.out) rfl) rfl ⟨by rw [HV.out]; rfl, below_setRow D0.out (Nat.le_refl _) _⟩
      by_cases c3 : n < o
      · have HV := Lib.hid (show R = .tuple #[.agg id0, .int .i64 4] from BA.out (badAiff.out.2 (.inr (.inr (.inl c3)))))
        have g1 : (n : Int) < (o : Int) := by omega
        go_wp2_with (first
          | (with_reducible refine wpList_store_row rfl 23 (.tmp 2) (.tmp 59) rfl w.heap.size id0 rfl rfl 23 id0 N0.out (infoId4 _ _ _ _) (sizeId4 _ _ _ _ _ _ _ _) one_id0 ?_)
          | fail)
        refine bodyPost_ret (results_idt Tryd.results10 _ _ w.heap.size _ (0, 0) _ rfl rfl (setRow_heap _ w.heap.size id0 _ _ (0, 0) N0.out) rfl) rfl ⟨by rw [HV.out]; rfl, below_setRow D0.out (Nat.le_refl _) _⟩
      have g1 : ¬ ((n : Int) < (o : Int)) := by omega
      obtain rfl | ⟨j, rfl⟩ := (show o = 0 ∨ ∃ j, o = j + 1 from by cases o with | zero => exact .inl rfl | succ j => exact .inr ⟨j, rfl⟩)
      · have NA := Lib.hid (show ¬ badA l by rw [badAiff.out]; rintro (h | h | h | h | h) <;> omega)
        have NEQ := NE.out (by omega)
        have HA := Lib.hid (heap_alloc2_new w (.cells id0 23) (.cells id0 23))
        have HN := Lib.hid (heap_alloc2_old w (.cells id0 23) (.cells id0 23))
        have HD := Lib.hid ((D0.out).alloc D0.out.size (.cells id0 23))
        have e1 : s.extract 1 n = ⟨((l.take n).drop 1).toArray⟩ := by rw [XM.out, List.drop_take]
        have hRl : (l.drop (n + 1)).length = l.length - (n + 1) := List.length_drop
        have hRs : s.extract (n + 1) l.length = ⟨(l.drop (n + 1)).toArray⟩ := XF.out (n + 1)
        have eml : ((l.take n).drop 1).length ≤ 1000000 := by rw [List.length_drop, List.length_take]; omega
        have E1 := Lib.hid e1
        have CA := Lib.hid (show ∀ v z, candI l v z = ⟨[], (l.take n).drop 1, v, z⟩ from fun v z => by rw [CAND.out]; rfl)
        have RL := Lib.hid (show restI l = l.drop (n + 1) from REST.out)
        clear e1 BA CAND REST badAiff GET
        generalize (l.take n).drop 1 = em at E1 CA eml
        generalize l.drop (n + 1) = RS at hRl hRs RL
        have hrz : (⟨RS.toArray⟩ : ByteArray).size = RS.length := size_toArray RS
        have hrget0 : ∀ j, j < RS.length → ∀ h2 : j < (⟨RS.toArray⟩ : ByteArray).size, (⟨RS.toArray⟩ : ByteArray)[j]'h2 = RS.getD j 0 := fun j h h2 => getD_mk RS j h h2
        have RXM := Lib.hid (fun a b => Lib.extract_mk RS a b)
        obtain ⟨rs, hrs⟩ : ∃ rs : ByteArray, rs = ⟨RS.toArray⟩ := ⟨_, rfl⟩
        have hrget : ∀ j, j < RS.length → ∀ h2 : j < rs.size, rs[j]'h2 = RS.getD j 0 := by subst hrs; exact hrget0
        rw [← hrs] at hRs hrz RXM
        have RGET := Lib.hid hrget
        clear hrget hrget0 hrs
        have n1 : (n : Int) + 1 ≤ (s.size : Int) := by omega
        have n2 : (n : Int) + 1 ≤ (l.length : Int) := by omega
        have o1 : (0 : Int) + 1 ≤ (n : Int) := by omega
        go_wp2_with (first
          | (with_reducible refine wpList_store_idt rfl (.tmp 7) (.tmp 65) rfl (w.heap.size + 1) _ _ _ _ _ _ _ _ rfl rfl HA.out (by simp [Value.oneCell']) ?_)
          | fail)
        intro w2 h2 d2 k2 z2
        rw [E1.out] at h2
        have hd2 := d2 w.heap.size w (by omega) HD.out
        have hn2 := (k2 w.heap.size (by omega)).trans HN.out
        clear d2 k2 z2 HA HN HD
        have H3 := Lib.hid h2
        have N3 := Lib.hid hn2
        have D3 := Lib.hid hd2
        have T3 := Lib.hid (TAB.out.keep D3.out)
        clear h2 hn2 hd2
        by_cases r8 : RS.length < 8
        · have HV := Lib.hid (show R = .tuple #[.agg id0, .int .i64 4] from BB.out (by rw [RL.out]; exact .inl r8))
          have g8 : ((RS.length : Nat) : Int) < 8 := by omega
          go_wp2_with (first
            | (with_reducible refine wpList_store_row rfl 23 (.tmp 2) (.tmp 93) rfl w.heap.size id0 rfl rfl 23 id0 N3.out (infoId4 _ _ _ _) (sizeId4 _ _ _ _ _ _ _ _) one_id0 ?_)
            | fail)
          refine bodyPost_ret (results_idt Tryd.results10 _ _ w.heap.size _ (0, 0) _ rfl rfl (setRow_heap _ w.heap.size id0 _ _ (0, 0) N3.out) rfl) rfl ⟨by rw [HV.out]; rfl, below_setRow D3.out (Nat.le_refl _) _⟩
        obtain ⟨q, hq⟩ : ∃ q, RS.length = q + 6 := ⟨RS.length - 6, by omega⟩
        have q2 : 2 ≤ q := by omega
        have qb : q ≤ 1000000 := by omega
        have g8 : ¬ (((RS.length : Nat) : Int) < 8) := by omega
        have BB0 := Lib.hid (fun h : RS.getD 0 0 ≠ 32 => (BB.out (by rw [RL.out]; exact .inr (.inl h)) : R = .tuple #[.agg id0, .int .i64 4]))
        have BBq := Lib.hid (fun h : RS.getD q 0 ≠ 32 => (BB.out (by rw [RL.out]; refine .inr (.inr ?_); rw [show RS.length - 6 = q by omega]; exact h) : R = .tuple #[.agg id0, .int .i64 4]))
        have GDB := Lib.hid (fun h0 : RS.getD 0 0 = 32 => fun hq' : RS.getD q 0 = 32 => (by rw [RL.out]; rintro (h | h | h); exact r8 h; exact h h0; exact h (by rw [show RS.length - 6 = q by omega]; exact hq') : ¬ badB (restI l)))
        have TA := Lib.hid (show ((restI l).take ((restI l).length - 6)).drop 1 = (RS.take q).drop 1 by rw [RL.out, show RS.length - 6 = q by omega])
        have ZB := Lib.hid (show (restI l).drop ((restI l).length - 5) = RS.drop (q + 1) by rw [RL.out, show RS.length - 5 = q + 1 by omega])
        rw [hq] at hrz g8
        have y0 := RGET.out 0 (by omega) (by rw [hrz]; exact Nat.succ_pos _)
        have yq := RGET.out q (by omega) (by rw [hrz]; exact Nat.lt_add_of_pos_right (by decide))
        have et : rs.extract 1 q = ⟨((RS.take q).drop 1).toArray⟩ := by rw [RXM.out, List.drop_take]
        have ez : rs.extract (q + 1) (q + 6) = ⟨(RS.drop (q + 1)).toArray⟩ := by rw [RXM.out, show q + 6 - (q + 1) = 5 by omega, List.take_of_length_le (by rw [List.length_drop, hq]; omega)]
        have tl : ((RS.take q).drop 1).length ≤ 1000000 := by rw [List.length_drop, List.length_take]; omega
        have zl : (RS.drop (q + 1)).length ≤ 1000000 := by rw [List.length_drop]; omega
        have rsq : (q : Int) < (rs.size : Int) := by omega
        have rs0 : (0 : Int) < (rs.size : Int) := by omega
        clear BB RXM RGET
        generalize ha0 : RS.getD 0 0 = A0 at y0 BB0 GDB
        generalize haq : RS.getD q 0 = AQ at yq BBq GDB
        generalize (RS.take q).drop 1 = ta at TA et tl
        generalize RS.drop (q + 1) = zb at ZB ez zl
        clear ha0 haq hq RL
        by_cases a32 : A0 = 32
        case neg =>
          have HV := Lib.hid (BB0.out a32)
          have f0 : (((A0.toNat : Nat) : Int) != 32) = true := by
            rw [bne_iff_ne]
            intro e
            exact a32 (UInt8.toNat_inj.1 (by show A0.toNat = 32; omega))
          clear a32
          go_wp2_with (first
            | (with_reducible refine wpList_store_row rfl 23 (.tmp 2) (.tmp 93) rfl w.heap.size id0 rfl rfl 23 id0 N3.out (infoId4 _ _ _ _) (sizeId4 _ _ _ _ _ _ _ _) one_id0 ?_)
            | fail)
          refine bodyPost_ret (results_idt Tryd.results10 _ _ w.heap.size _ (0, 0) _ rfl rfl (setRow_heap _ w.heap.size id0 _ _ (0, 0) N3.out) rfl) rfl ⟨by rw [HV.out]; rfl, below_setRow D3.out (Nat.le_refl _) _⟩
        have f0 : (((A0.toNat : Nat) : Int) != 32) = false := by rw [a32]; rfl
        by_cases q32 : AQ = 32
        case neg =>
          have HV := Lib.hid (BBq.out q32)
          have fq : (((AQ.toNat : Nat) : Int) != 32) = true := by
            rw [bne_iff_ne]
            intro e
            exact q32 (UInt8.toNat_inj.1 (by show AQ.toNat = 32; omega))
          clear a32 q32
          go_wp2_with (first
            | (with_reducible refine wpList_store_row rfl 23 (.tmp 2) (.tmp 93) rfl w.heap.size id0 rfl rfl 23 id0 N3.out (infoId4 _ _ _ _) (sizeId4 _ _ _ _ _ _ _ _) one_id0 ?_)
            | fail)
          refine bodyPost_ret (results_idt Tryd.results10 _ _ w.heap.size _ (0, 0) _ rfl rfl (setRow_heap _ w.heap.size id0 _ _ (0, 0) N3.out) rfl) rfl ⟨by rw [HV.out]; rfl, below_setRow D3.out (Nat.le_refl _) _⟩
        have fq : (((AQ.toNat : Nat) : Int) != 32) = false := by rw [q32]; rfl
        have GG := Lib.hid (GD.out NA (GDB.out a32 q32))
        have cT := fun w => rTake_all ta tl w
        have cZ := fun w => rZone_is zb zl w
        clear a32 q32 GDB BB0 BBq GD NA
        go_wp2_with fail
        refine (cT _).mono ?_
        rintro e w4 ⟨rfl, b4⟩
        have H4 := Lib.hid ((b4.block _ (lt_heap H3.out)).trans H3.out)
        have N4 := Lib.hid ((b4.block _ (lt_heap N3.out)).trans N3.out)
        have D4 := Lib.hid (D3.out.trans (b4.mono D3.out.size))
        have T4 := Lib.hid (T3.out.keep b4)
        clear b4 H3 N3 D3 T3 cT
        obtain ⟨za, zf, hzA⟩ := zoneA_shape zb
        rw [hzA] at cZ
        go_wp2_with fail
        refine (cZ _).mono ?_
        rintro e w5 ⟨rfl, b5⟩
        have hh5 := (b5.block _ (lt_heap H4.out)).trans H4.out
        have N5 := Lib.hid ((b5.block _ (lt_heap N4.out)).trans N4.out)
        have D5 := Lib.hid (D4.out.trans (b5.mono D4.out.size))
        have T5 := Lib.hid (T4.out.keep b5)
        clear b5 H4 N4 D4 T4 cZ 
        have c52 := (cells4 hh5).2.2.1
        have f52 : w5.frozen? ⟨w.heap.size + 1, 2, none⟩ = false := Lib.frozen_of_heap hh5 2
        have c63 := fun v : Int => (cells4 (setCell4_2 (v := .int .i64 v) hh5)).2.2.2
        have f63 := fun v : Int => Lib.frozen_of_heap (setCell4_2 (v := .int .i64 v) hh5) 3
        have H7 := Lib.hid (fun v z : Int => setCell4_3 (v := .int .i64 z) (setCell4_2 (v := .int .i64 v) hh5))
        have D7 := Lib.hid (fun v z : Int => (D5.out.setCell (p := ⟨w.heap.size + 1, 2, none⟩) (show w.heap.size ≤ w.heap.size + 1 by omega) (.int .i64 v)).setCell (p := ⟨w.heap.size + 1, 3, none⟩) (show w.heap.size ≤ w.heap.size + 1 by omega) (.int .i64 z))
        have N7 := Lib.hid (fun v z : Int => ((setCell_far (w := w5.setCell ⟨w.heap.size + 1, 2, none⟩ (.int .i64 v)) (p := ⟨w.heap.size + 1, 3, none⟩) (.int .i64 z) (show w.heap.size ≠ w.heap.size + 1 by omega)).trans (setCell_far (p := ⟨w.heap.size + 1, 2, none⟩) (.int .i64 v) (show w.heap.size ≠ w.heap.size + 1 by omega))).trans N5.out)
        have T7 := Lib.hid (fun v z : Int => TAB.out.keep (D7.out v z))
        have C7 := Lib.hid (fun v z : Int => cells4 (H7.out v z))
        clear N5 D5 T5 hh5 TAB
        cases ht : takeN ta with
        | none =>
          obtain ⟨u1, u2⟩ := tv_none ht
          have HV := Lib.hid (show R = .tuple #[.agg id0, .int .i64 4] by rw [GG.out, TA.out, ht]; rfl)
          generalize (tv ta).2 = p2 at u1 u2 ⊢
          generalize (tv ta).1 = p1
          have c63 := c63 p1
          have f63 := f63 p1
          have N8 := Lib.hid (N7.out p1 za)
          have D8 := Lib.hid (D7.out p1 za)
          clear ht H7 N7 D7 T7 C7
          go_wp2_with (first
            | (with_reducible refine wpList_store_row rfl 23 (.tmp 2) (.tmp 133) rfl w.heap.size id0 rfl rfl 23 id0 N8.out (infoId4 _ _ _ _) (sizeId4 _ _ _ _ _ _ _ _) one_id0 ?_)
            | fail)
          refine bodyPost_ret (results_idt Tryd.results10 _ _ w.heap.size _ (0, 0) _ rfl rfl (setRow_heap _ w.heap.size id0 _ _ (0, 0) N8.out) rfl) rfl ⟨by rw [HV.out]; rfl, below_setRow D8.out (Nat.le_refl _) _⟩
        | some v =>
          rw [tv_some ht]
          have c63 := c63 v
          have f63 := f63 v
          cases hz : zoneR zb with
          | none =>
            have HV := Lib.hid (show R = .tuple #[.agg id0, .int .i64 4] by rw [GG.out, TA.out, ht, ZB.out]; simp only [hz]; rfl)
            unfold zoneA at hzA
            rw [hz] at hzA
            simp at hzA
            obtain ⟨rfl, rfl⟩ := hzA
            have N8 := Lib.hid (N7.out v 0)
            have D8 := Lib.hid (D7.out v 0)
            clear ht hz H7 N7 D7 T7 C7
            go_wp2_with (first
              | (with_reducible refine wpList_store_row rfl 23 (.tmp 2) (.tmp 133) rfl w.heap.size id0 rfl rfl 23 id0 N8.out (infoId4 _ _ _ _) (sizeId4 _ _ _ _ _ _ _ _) one_id0 ?_)
              | fail)
            refine bodyPost_ret (results_idt Tryd.results10 _ _ w.heap.size _ (0, 0) _ rfl rfl (setRow_heap _ w.heap.size id0 _ _ (0, 0) N8.out) rfl) rfl ⟨by rw [HV.out]; rfl, below_setRow D8.out (Nat.le_refl _) _⟩
          | some z =>
            unfold zoneA at hzA
            rw [hz] at hzA
            simp at hzA
            obtain ⟨rfl, rfl⟩ := hzA
            have RG := Lib.hid (show R = idtA (if rightI ⟨[], em, v, z⟩ = true ∧ printI Lib.itoa ⟨[], em, v, z⟩ = l then some ⟨[], em, v, z⟩ else none) by rw [GG.out, TA.out, ht, ZB.out]; simp only [hz, CA.out])
            have cR := fun w t => rRight_is ⟨[], em, v, z⟩ (by simp) eml w t
            have cQ := fun w t => rPrint_is ⟨[], em, v, z⟩ (by simp) eml w t
            unfold idtV at cR cQ
            simp only at cR cQ
            have N8 := Lib.hid (N7.out v z)
            have D8 := Lib.hid (D7.out v z)
            have T8 := Lib.hid (T7.out v z)
            have H8 := Lib.hid (H7.out v z)
            obtain ⟨c80, c81, c82, c83⟩ := C7.out v z
            have IV := Lib.hid (show idtV ⟨[], em, v, z⟩ = .agg #[.string ⟨#[]⟩, .string ⟨em.toArray⟩, .int .i64 v, .int .i64 z] by unfold idtV; simp only)
            clear ht hz H7 N7 D7 T7 C7 GG TA ZB
            go_wp2_with fail
            refine (cR _ T8.out).mono ?_
            rintro e w9 ⟨rfl, b9⟩
            have N9 := Lib.hid ((b9.block _ (lt_heap N8.out)).trans N8.out)
            have hh9 := (b9.block _ (lt_heap H8.out)).trans H8.out
            have D9 := Lib.hid (D8.out.trans (b9.mono D8.out.size))
            have T9 := Lib.hid (T8.out.keep b9)
            obtain ⟨c90, c91, c92, c93⟩ := cells4 hh9
            have H9 := Lib.hid hh9
            clear b9 hh9 N8 D8 T8 H8 c80 c81 c82 c83 cR c52 f52 c63 f63
            cases hr : rightI ⟨[], em, v, z⟩ with
            | false =>
              have HV := Lib.hid (show R = .tuple #[.agg id0, .int .i64 4] by rw [RG.out, if_neg (fun h => by rw [hr] at h; exact absurd h.1 (by decide))]; rfl)
              clear hr
              go_wp2_with (first
                | (with_reducible refine wpList_store_row rfl 23 (.tmp 2) (.tmp 133) rfl w.heap.size id0 rfl rfl 23 id0 N9.out (infoId4 _ _ _ _) (sizeId4 _ _ _ _ _ _ _ _) one_id0 ?_)
                | fail)
              refine bodyPost_ret (results_idt Tryd.results10 _ _ w.heap.size _ (0, 0) _ rfl rfl (setRow_heap _ w.heap.size id0 _ _ (0, 0) N9.out) rfl) rfl ⟨by rw [HV.out]; rfl, below_setRow D9.out (Nat.le_refl _) _⟩
            | true =>
              go_wp2_with fail
              refine (cQ _ T9.out).mono ?_
              rintro e w10 ⟨rfl, b10⟩
              have N10 := Lib.hid ((b10.block _ (lt_heap N9.out)).trans N9.out)
              have hh10 := (b10.block _ (lt_heap H9.out)).trans H9.out
              have D10 := Lib.hid (D9.out.trans (b10.mono D9.out.size))
              obtain ⟨c100, c101, c102, c103⟩ := cells4 hh10
              have one : (#[Value.string ⟨#[]⟩, .string ⟨em.toArray⟩, .int .i64 v, .int .i64 z] : Array Value).all (·.oneCell') = true := by simp [Value.oneCell']
              clear b10 hh10 N9 D9 T9 H9 c90 c91 c92 c93 cQ
              by_cases he : printI Lib.itoa ⟨[], em, v, z⟩ = l
              · have HV := Lib.hid (show R = .tuple #[.agg #[.string ⟨#[]⟩, .string ⟨em.toArray⟩, .int .i64 v, .int .i64 z], .int .i64 0] by rw [RG.out, if_pos ⟨hr, he⟩]; unfold idtA; simp only; rw [IV.out])
                have feq : (⟨(printI Lib.itoa ⟨[], em, v, z⟩).toArray⟩ : ByteArray) = s := by rw [he]; exact HS.out.symm
                rw [feq]
                clear hr he RG feq
                go_wp2_with (first
                  | (with_reducible refine wpList_store_row rfl 23 (.tmp 2) (.tmp 134) rfl w.heap.size #[.string ⟨#[]⟩, .string ⟨em.toArray⟩, .int .i64 v, .int .i64 z] rfl rfl 23 id0 N10.out (infoId4 _ _ _ _) (sizeId4 _ _ _ _ _ _ _ _) one ?_)
                  | fail)
                refine bodyPost_ret (results_idt Tryd.results10 _ _ w.heap.size _ (0, 0) _ rfl rfl (setRow_heap _ w.heap.size id0 _ _ (0, 0) N10.out) rfl) rfl ⟨by rw [HV.out]; rfl, below_setRow D10.out (Nat.le_refl _) _⟩
              · have HV := Lib.hid (show R = .tuple #[.agg id0, .int .i64 4] by rw [RG.out, if_neg (fun h => he h.2)]; rfl)
                have feq : (printI Lib.itoa ⟨[], em, v, z⟩ == l) = false := by rw [beq_eq_false_iff_ne]; exact he
                have hs := HS.out
                clear hr he RG
                generalize printI Lib.itoa ⟨[], em, v, z⟩ = pt at feq
                rw [hs]
                go_wp2_with (first
                  | (with_reducible refine wpList_store_row rfl 23 (.tmp 2) (.tmp 133) rfl w.heap.size id0 rfl rfl 23 id0 N10.out (infoId4 _ _ _ _) (sizeId4 _ _ _ _ _ _ _ _) one_id0 ?_)
                  | fail)
                refine bodyPost_ret (results_idt Tryd.results10 _ _ w.heap.size _ (0, 0) _ rfl rfl (setRow_heap _ w.heap.size id0 _ _ (0, 0) N10.out) rfl) rfl ⟨by rw [HV.out]; rfl, below_setRow D10.out (Nat.le_refl _) _⟩
      · have hx := GET.out j (by omega) (by omega)
        have j1 : (j : Int) < (s.size : Int) := by omega
        have j2 : (j : Int) < (l.length : Int) := by omega
        by_cases c4 : l.getD j 0 = 32
        · by_cases c5 : j = 0
          · subst c5
            have HV := Lib.hid (show R = .tuple #[.agg id0, .int .i64 4] from BA.out (badAiff.out.2 (.inr (.inr (.inr (.inr rfl))))))
            have hx2 : (l.getD 0 0).toNat = 32 := by rw [c4]; rfl
            generalize l.getD 0 0 = y at hx hx2 c4
            have fy : (((y.toNat : Nat) : Int) != 32) = false := by rw [hx2]; rfl
            clear c4 hx2
            go_wp2_with (first
              | (with_reducible refine wpList_store_row rfl 23 (.tmp 2) (.tmp 59) rfl w.heap.size id0 rfl rfl 23 id0 N0.out (infoId4 _ _ _ _) (sizeId4 _ _ _ _ _ _ _ _) one_id0 ?_)
              | fail)
            refine bodyPost_ret (results_idt Tryd.results10 _ _ w.heap.size _ (0, 0) _ rfl rfl (setRow_heap _ w.heap.size id0 _ _ (0, 0) N0.out) rfl) rfl ⟨by rw [HV.out]; rfl, below_setRow D0.out (Nat.le_refl _) _⟩
          · have NA := Lib.hid (show ¬ badA l by
              rw [badAiff.out]
              rintro (h | h | h | h | h)
              · omega
              · omega
              · omega
              · exact h.2 c4
              · omega)
            have hx2 : (l.getD j 0).toNat = 32 := by rw [c4]; rfl
            generalize l.getD j 0 = y at hx hx2 c4
            have fy : (((y.toNat : Nat) : Int) != 32) = false := by rw [hx2]; rfl
            have fj : (((j : Nat) : Int) + 1 == 1) = false := by rw [beq_eq_false_iff_ne]; omega
            clear c4 hx2
            have NEQ := NE.out (by omega)
            have fj2 : (((j : Nat) : Int) + 1 > 1) = True := by simp; omega
            have oj0 : ¬ (((j : Nat) : Int) + 1 < 0) := by omega
            have HA := Lib.hid (heap_alloc2_new w (.cells id0 23) (.cells id0 23))
            have HN := Lib.hid (heap_alloc2_old w (.cells id0 23) (.cells id0 23))
            have HD := Lib.hid ((D0.out).alloc D0.out.size (.cells id0 23))
            have e1 : s.extract (j + 1 + 1) n = ⟨((l.take n).drop (j + 1 + 1)).toArray⟩ := by rw [XM.out, List.drop_take]
            have hRl : (l.drop (n + 1)).length = l.length - (n + 1) := List.length_drop
            have hRs : s.extract (n + 1) l.length = ⟨(l.drop (n + 1)).toArray⟩ := XF.out (n + 1)
            have eml : ((l.take n).drop (j + 1 + 1)).length ≤ 1000000 := by rw [List.length_drop, List.length_take]; omega
            have E1 := Lib.hid e1
            have CA := Lib.hid (show ∀ v z, candI l v z = ⟨(l.take j), (l.take n).drop (j + 1 + 1), v, z⟩ from fun v z => by rw [CAND.out]; rw [if_pos (by omega)]; rfl)
            have RL := Lib.hid (show restI l = l.drop (n + 1) from REST.out)
            clear e1 BA CAND REST badAiff GET
            generalize (l.take n).drop (j + 1 + 1) = em at E1 CA eml
            generalize l.drop (n + 1) = RS at hRl hRs RL
            have hrz : (⟨RS.toArray⟩ : ByteArray).size = RS.length := size_toArray RS
            have hrget0 : ∀ j, j < RS.length → ∀ h2 : j < (⟨RS.toArray⟩ : ByteArray).size, (⟨RS.toArray⟩ : ByteArray)[j]'h2 = RS.getD j 0 := fun j h h2 => getD_mk RS j h h2
            have RXM := Lib.hid (fun a b => Lib.extract_mk RS a b)
            obtain ⟨rs, hrs⟩ : ∃ rs : ByteArray, rs = ⟨RS.toArray⟩ := ⟨_, rfl⟩
            have hrget : ∀ j, j < RS.length → ∀ h2 : j < rs.size, rs[j]'h2 = RS.getD j 0 := by subst hrs; exact hrget0
            rw [← hrs] at hRs hrz RXM
            have RGET := Lib.hid hrget
            clear hrget hrget0 hrs
            have n1 : (n : Int) + 1 ≤ (s.size : Int) := by omega
            have n2 : (n : Int) + 1 ≤ (l.length : Int) := by omega
            have o1 : ((j : Int) + 1 : Int) + 1 ≤ (n : Int) := by omega
            go_wp2_with (first
              | (with_reducible refine wpList_store_idt rfl (.tmp 7) (.tmp 65) rfl (w.heap.size + 1) _ _ _ _ _ _ _ _ rfl rfl HA.out (by simp [Value.oneCell']) ?_)
              | fail)
            intro w2 h2 d2 k2 z2
            rw [E1.out] at h2
            have hd2 := d2 w.heap.size w (by omega) HD.out
            have hn2 := (k2 w.heap.size (by omega)).trans HN.out
            clear d2 k2 z2 HA HN HD
            have c20 : w2.cell? ⟨w.heap.size + 1, 0, none⟩ = some (.string ⟨#[]⟩) := (cells4 h2).1
            have f20 : w2.frozen? ⟨w.heap.size + 1, 0, none⟩ = false := Lib.frozen_of_heap h2 0
            have H3 := Lib.hid (setCell4_0 (v := .string (s.extract 0 j)) h2)
            have N3 := Lib.hid ((setCell_far (p := ⟨w.heap.size + 1, 0, none⟩) (.string (s.extract 0 j)) (show w.heap.size ≠ w.heap.size + 1 by omega)).trans hn2)
            have D3 := Lib.hid (hd2.setCell (p := ⟨w.heap.size + 1, 0, none⟩) (show w.heap.size ≤ w.heap.size + 1 by omega) (.string (s.extract 0 j)))
            have T3 := Lib.hid (TAB.out.keep D3.out)
            clear h2 hn2 hd2
            by_cases r8 : RS.length < 8
            · have HV := Lib.hid (show R = .tuple #[.agg id0, .int .i64 4] from BB.out (by rw [RL.out]; exact .inl r8))
              have g8 : ((RS.length : Nat) : Int) < 8 := by omega
              go_wp2_with (first
                | (with_reducible refine wpList_store_row rfl 23 (.tmp 2) (.tmp 93) rfl w.heap.size id0 rfl rfl 23 id0 N3.out (infoId4 _ _ _ _) (sizeId4 _ _ _ _ _ _ _ _) one_id0 ?_)
                | fail)
              refine bodyPost_ret (results_idt Tryd.results10 _ _ w.heap.size _ (0, 0) _ rfl rfl (setRow_heap _ w.heap.size id0 _ _ (0, 0) N3.out) rfl) rfl ⟨by rw [HV.out]; rfl, below_setRow D3.out (Nat.le_refl _) _⟩
            obtain ⟨q, hq⟩ : ∃ q, RS.length = q + 6 := ⟨RS.length - 6, by omega⟩
            have q2 : 2 ≤ q := by omega
            have qb : q ≤ 1000000 := by omega
            have g8 : ¬ (((RS.length : Nat) : Int) < 8) := by omega
            have BB0 := Lib.hid (fun h : RS.getD 0 0 ≠ 32 => (BB.out (by rw [RL.out]; exact .inr (.inl h)) : R = .tuple #[.agg id0, .int .i64 4]))
            have BBq := Lib.hid (fun h : RS.getD q 0 ≠ 32 => (BB.out (by rw [RL.out]; refine .inr (.inr ?_); rw [show RS.length - 6 = q by omega]; exact h) : R = .tuple #[.agg id0, .int .i64 4]))
            have GDB := Lib.hid (fun h0 : RS.getD 0 0 = 32 => fun hq' : RS.getD q 0 = 32 => (by rw [RL.out]; rintro (h | h | h); exact r8 h; exact h h0; exact h (by rw [show RS.length - 6 = q by omega]; exact hq') : ¬ badB (restI l)))
            have TA := Lib.hid (show ((restI l).take ((restI l).length - 6)).drop 1 = (RS.take q).drop 1 by rw [RL.out, show RS.length - 6 = q by omega])
            have ZB := Lib.hid (show (restI l).drop ((restI l).length - 5) = RS.drop (q + 1) by rw [RL.out, show RS.length - 5 = q + 1 by omega])
            rw [hq] at hrz g8
            have y0 := RGET.out 0 (by omega) (by rw [hrz]; exact Nat.succ_pos _)
            have yq := RGET.out q (by omega) (by rw [hrz]; exact Nat.lt_add_of_pos_right (by decide))
            have et : rs.extract 1 q = ⟨((RS.take q).drop 1).toArray⟩ := by rw [RXM.out, List.drop_take]
            have ez : rs.extract (q + 1) (q + 6) = ⟨(RS.drop (q + 1)).toArray⟩ := by rw [RXM.out, show q + 6 - (q + 1) = 5 by omega, List.take_of_length_le (by rw [List.length_drop, hq]; omega)]
            have tl : ((RS.take q).drop 1).length ≤ 1000000 := by rw [List.length_drop, List.length_take]; omega
            have zl : (RS.drop (q + 1)).length ≤ 1000000 := by rw [List.length_drop]; omega
            have rsq : (q : Int) < (rs.size : Int) := by omega
            have rs0 : (0 : Int) < (rs.size : Int) := by omega
            clear BB RXM RGET
            generalize ha0 : RS.getD 0 0 = A0 at y0 BB0 GDB
            generalize haq : RS.getD q 0 = AQ at yq BBq GDB
            generalize (RS.take q).drop 1 = ta at TA et tl
            generalize RS.drop (q + 1) = zb at ZB ez zl
            clear ha0 haq hq RL
            by_cases a32 : A0 = 32
            case neg =>
              have HV := Lib.hid (BB0.out a32)
              have f0 : (((A0.toNat : Nat) : Int) != 32) = true := by
                rw [bne_iff_ne]
                intro e
                exact a32 (UInt8.toNat_inj.1 (by show A0.toNat = 32; omega))
              clear a32
              go_wp2_with (first
                | (with_reducible refine wpList_store_row rfl 23 (.tmp 2) (.tmp 93) rfl w.heap.size id0 rfl rfl 23 id0 N3.out (infoId4 _ _ _ _) (sizeId4 _ _ _ _ _ _ _ _) one_id0 ?_)
                | fail)
              refine bodyPost_ret (results_idt Tryd.results10 _ _ w.heap.size _ (0, 0) _ rfl rfl (setRow_heap _ w.heap.size id0 _ _ (0, 0) N3.out) rfl) rfl ⟨by rw [HV.out]; rfl, below_setRow D3.out (Nat.le_refl _) _⟩
            have f0 : (((A0.toNat : Nat) : Int) != 32) = false := by rw [a32]; rfl
            by_cases q32 : AQ = 32
            case neg =>
              have HV := Lib.hid (BBq.out q32)
              have fq : (((AQ.toNat : Nat) : Int) != 32) = true := by
                rw [bne_iff_ne]
                intro e
                exact q32 (UInt8.toNat_inj.1 (by show AQ.toNat = 32; omega))
              clear a32 q32
              go_wp2_with (first
                | (with_reducible refine wpList_store_row rfl 23 (.tmp 2) (.tmp 93) rfl w.heap.size id0 rfl rfl 23 id0 N3.out (infoId4 _ _ _ _) (sizeId4 _ _ _ _ _ _ _ _) one_id0 ?_)
                | fail)
              refine bodyPost_ret (results_idt Tryd.results10 _ _ w.heap.size _ (0, 0) _ rfl rfl (setRow_heap _ w.heap.size id0 _ _ (0, 0) N3.out) rfl) rfl ⟨by rw [HV.out]; rfl, below_setRow D3.out (Nat.le_refl _) _⟩
            have fq : (((AQ.toNat : Nat) : Int) != 32) = false := by rw [q32]; rfl
            have GG := Lib.hid (GD.out NA (GDB.out a32 q32))
            have cT := fun w => rTake_all ta tl w
            have cZ := fun w => rZone_is zb zl w
            clear a32 q32 GDB BB0 BBq GD NA
            go_wp2_with fail
            refine (cT _).mono ?_
            rintro e w4 ⟨rfl, b4⟩
            have H4 := Lib.hid ((b4.block _ (lt_heap H3.out)).trans H3.out)
            have N4 := Lib.hid ((b4.block _ (lt_heap N3.out)).trans N3.out)
            have D4 := Lib.hid (D3.out.trans (b4.mono D3.out.size))
            have T4 := Lib.hid (T3.out.keep b4)
            clear b4 H3 N3 D3 T3 cT
            obtain ⟨za, zf, hzA⟩ := zoneA_shape zb
            rw [hzA] at cZ
            go_wp2_with fail
            refine (cZ _).mono ?_
            rintro e w5 ⟨rfl, b5⟩
            have hh5 := (b5.block _ (lt_heap H4.out)).trans H4.out
            have N5 := Lib.hid ((b5.block _ (lt_heap N4.out)).trans N4.out)
            have D5 := Lib.hid (D4.out.trans (b5.mono D4.out.size))
            have T5 := Lib.hid (T4.out.keep b5)
            clear b5 H4 N4 D4 T4 cZ c20 f20
            have c52 := (cells4 hh5).2.2.1
            have f52 : w5.frozen? ⟨w.heap.size + 1, 2, none⟩ = false := Lib.frozen_of_heap hh5 2
            have c63 := fun v : Int => (cells4 (setCell4_2 (v := .int .i64 v) hh5)).2.2.2
            have f63 := fun v : Int => Lib.frozen_of_heap (setCell4_2 (v := .int .i64 v) hh5) 3
            have H7 := Lib.hid (fun v z : Int => setCell4_3 (v := .int .i64 z) (setCell4_2 (v := .int .i64 v) hh5))
            have D7 := Lib.hid (fun v z : Int => (D5.out.setCell (p := ⟨w.heap.size + 1, 2, none⟩) (show w.heap.size ≤ w.heap.size + 1 by omega) (.int .i64 v)).setCell (p := ⟨w.heap.size + 1, 3, none⟩) (show w.heap.size ≤ w.heap.size + 1 by omega) (.int .i64 z))
            have N7 := Lib.hid (fun v z : Int => ((setCell_far (w := w5.setCell ⟨w.heap.size + 1, 2, none⟩ (.int .i64 v)) (p := ⟨w.heap.size + 1, 3, none⟩) (.int .i64 z) (show w.heap.size ≠ w.heap.size + 1 by omega)).trans (setCell_far (p := ⟨w.heap.size + 1, 2, none⟩) (.int .i64 v) (show w.heap.size ≠ w.heap.size + 1 by omega))).trans N5.out)
            have T7 := Lib.hid (fun v z : Int => TAB.out.keep (D7.out v z))
            have C7 := Lib.hid (fun v z : Int => cells4 (H7.out v z))
            clear N5 D5 T5 hh5 TAB
            cases ht : takeN ta with
            | none =>
              obtain ⟨u1, u2⟩ := tv_none ht
              have HV := Lib.hid (show R = .tuple #[.agg id0, .int .i64 4] by rw [GG.out, TA.out, ht]; rfl)
              generalize (tv ta).2 = p2 at u1 u2 ⊢
              generalize (tv ta).1 = p1
              have c63 := c63 p1
              have f63 := f63 p1
              have N8 := Lib.hid (N7.out p1 za)
              have D8 := Lib.hid (D7.out p1 za)
              clear ht H7 N7 D7 T7 C7
              go_wp2_with (first
                | (with_reducible refine wpList_store_row rfl 23 (.tmp 2) (.tmp 133) rfl w.heap.size id0 rfl rfl 23 id0 N8.out (infoId4 _ _ _ _) (sizeId4 _ _ _ _ _ _ _ _) one_id0 ?_)
                | fail)
              refine bodyPost_ret (results_idt Tryd.results10 _ _ w.heap.size _ (0, 0) _ rfl rfl (setRow_heap _ w.heap.size id0 _ _ (0, 0) N8.out) rfl) rfl ⟨by rw [HV.out]; rfl, below_setRow D8.out (Nat.le_refl _) _⟩
            | some v =>
              rw [tv_some ht]
              have c63 := c63 v
              have f63 := f63 v
              cases hz : zoneR zb with
              | none =>
                have HV := Lib.hid (show R = .tuple #[.agg id0, .int .i64 4] by rw [GG.out, TA.out, ht, ZB.out]; simp only [hz]; rfl)
                unfold zoneA at hzA
                rw [hz] at hzA
                simp at hzA
                obtain ⟨rfl, rfl⟩ := hzA
                have N8 := Lib.hid (N7.out v 0)
                have D8 := Lib.hid (D7.out v 0)
                clear ht hz H7 N7 D7 T7 C7
                go_wp2_with (first
                  | (with_reducible refine wpList_store_row rfl 23 (.tmp 2) (.tmp 133) rfl w.heap.size id0 rfl rfl 23 id0 N8.out (infoId4 _ _ _ _) (sizeId4 _ _ _ _ _ _ _ _) one_id0 ?_)
                  | fail)
                refine bodyPost_ret (results_idt Tryd.results10 _ _ w.heap.size _ (0, 0) _ rfl rfl (setRow_heap _ w.heap.size id0 _ _ (0, 0) N8.out) rfl) rfl ⟨by rw [HV.out]; rfl, below_setRow D8.out (Nat.le_refl _) _⟩
              | some z =>
                unfold zoneA at hzA
                rw [hz] at hzA
                simp at hzA
                obtain ⟨rfl, rfl⟩ := hzA
                have RG := Lib.hid (show R = idtA (if rightI ⟨(l.take j), em, v, z⟩ = true ∧ printI Lib.itoa ⟨(l.take j), em, v, z⟩ = l then some ⟨(l.take j), em, v, z⟩ else none) by rw [GG.out, TA.out, ht, ZB.out]; simp only [hz, CA.out])
                have cR := fun w t => rRight_is ⟨(l.take j), em, v, z⟩ (by simp only [List.length_take]; omega) eml w t
                have cQ := fun w t => rPrint_is ⟨(l.take j), em, v, z⟩ (by simp only [List.length_take]; omega) eml w t
                unfold idtV at cR cQ
                simp only at cR cQ
                rw [← XU.out j] at cR cQ
                have N8 := Lib.hid (N7.out v z)
                have D8 := Lib.hid (D7.out v z)
                have T8 := Lib.hid (T7.out v z)
                have H8 := Lib.hid (H7.out v z)
                obtain ⟨c80, c81, c82, c83⟩ := C7.out v z
                have IV := Lib.hid (show idtV ⟨(l.take j), em, v, z⟩ = .agg #[.string (s.extract 0 j), .string ⟨em.toArray⟩, .int .i64 v, .int .i64 z] by unfold idtV; simp only; rw [XU.out j])
                clear ht hz H7 N7 D7 T7 C7 GG TA ZB
                go_wp2_with fail
                refine (cR _ T8.out).mono ?_
                rintro e w9 ⟨rfl, b9⟩
                have N9 := Lib.hid ((b9.block _ (lt_heap N8.out)).trans N8.out)
                have hh9 := (b9.block _ (lt_heap H8.out)).trans H8.out
                have D9 := Lib.hid (D8.out.trans (b9.mono D8.out.size))
                have T9 := Lib.hid (T8.out.keep b9)
                obtain ⟨c90, c91, c92, c93⟩ := cells4 hh9
                have H9 := Lib.hid hh9
                clear b9 hh9 N8 D8 T8 H8 c80 c81 c82 c83 cR c52 f52 c63 f63
                cases hr : rightI ⟨(l.take j), em, v, z⟩ with
                | false =>
                  have HV := Lib.hid (show R = .tuple #[.agg id0, .int .i64 4] by rw [RG.out, if_neg (fun h => by rw [hr] at h; exact absurd h.1 (by decide))]; rfl)
                  clear hr
                  go_wp2_with (first
                    | (with_reducible refine wpList_store_row rfl 23 (.tmp 2) (.tmp 133) rfl w.heap.size id0 rfl rfl 23 id0 N9.out (infoId4 _ _ _ _) (sizeId4 _ _ _ _ _ _ _ _) one_id0 ?_)
                    | fail)
                  refine bodyPost_ret (results_idt Tryd.results10 _ _ w.heap.size _ (0, 0) _ rfl rfl (setRow_heap _ w.heap.size id0 _ _ (0, 0) N9.out) rfl) rfl ⟨by rw [HV.out]; rfl, below_setRow D9.out (Nat.le_refl _) _⟩
                | true =>
                  go_wp2_with fail
                  refine (cQ _ T9.out).mono ?_
                  rintro e w10 ⟨rfl, b10⟩
                  have N10 := Lib.hid ((b10.block _ (lt_heap N9.out)).trans N9.out)
                  have hh10 := (b10.block _ (lt_heap H9.out)).trans H9.out
                  have D10 := Lib.hid (D9.out.trans (b10.mono D9.out.size))
                  obtain ⟨c100, c101, c102, c103⟩ := cells4 hh10
                  have one : (#[Value.string (s.extract 0 j), .string ⟨em.toArray⟩, .int .i64 v, .int .i64 z] : Array Value).all (·.oneCell') = true := by simp [Value.oneCell']
                  clear b10 hh10 N9 D9 T9 H9 c90 c91 c92 c93 cQ
                  by_cases he : printI Lib.itoa ⟨(l.take j), em, v, z⟩ = l
                  · have HV := Lib.hid (show R = .tuple #[.agg #[.string (s.extract 0 j), .string ⟨em.toArray⟩, .int .i64 v, .int .i64 z], .int .i64 0] by rw [RG.out, if_pos ⟨hr, he⟩]; unfold idtA; simp only; rw [IV.out])
                    have feq : (⟨(printI Lib.itoa ⟨(l.take j), em, v, z⟩).toArray⟩ : ByteArray) = s := by rw [he]; exact HS.out.symm
                    rw [feq]
                    clear hr he RG feq
                    go_wp2_with (first
                      | (with_reducible refine wpList_store_row rfl 23 (.tmp 2) (.tmp 134) rfl w.heap.size #[.string (s.extract 0 j), .string ⟨em.toArray⟩, .int .i64 v, .int .i64 z] rfl rfl 23 id0 N10.out (infoId4 _ _ _ _) (sizeId4 _ _ _ _ _ _ _ _) one ?_)
                      | fail)
                    refine bodyPost_ret (results_idt Tryd.results10 _ _ w.heap.size _ (0, 0) _ rfl rfl (setRow_heap _ w.heap.size id0 _ _ (0, 0) N10.out) rfl) rfl ⟨by rw [HV.out]; rfl, below_setRow D10.out (Nat.le_refl _) _⟩
                  · have HV := Lib.hid (show R = .tuple #[.agg id0, .int .i64 4] by rw [RG.out, if_neg (fun h => he h.2)]; rfl)
                    have feq : (printI Lib.itoa ⟨(l.take j), em, v, z⟩ == l) = false := by rw [beq_eq_false_iff_ne]; exact he
                    have hs := HS.out
                    clear hr he RG
                    generalize printI Lib.itoa ⟨(l.take j), em, v, z⟩ = pt at feq
                    rw [hs]
                    go_wp2_with (first
                      | (with_reducible refine wpList_store_row rfl 23 (.tmp 2) (.tmp 133) rfl w.heap.size id0 rfl rfl 23 id0 N10.out (infoId4 _ _ _ _) (sizeId4 _ _ _ _ _ _ _ _) one_id0 ?_)
                      | fail)
                    refine bodyPost_ret (results_idt Tryd.results10 _ _ w.heap.size _ (0, 0) _ rfl rfl (setRow_heap _ w.heap.size id0 _ _ (0, 0) N10.out) rfl) rfl ⟨by rw [HV.out]; rfl, below_setRow D10.out (Nat.le_refl _) _⟩
        · have HV := Lib.hid (show R = .tuple #[.agg id0, .int .i64 4] from BA.out (badAiff.out.2 (.inr (.inr (.inr (.inl ⟨by omega, c4⟩))))))
          generalize l.getD j 0 = y at hx c4
          have fy : (((y.toNat : Nat) : Int) != 32) = true := by
            rw [bne_iff_ne]
            intro e
            exact c4 (UInt8.toNat_inj.1 (by show y.toNat = 32; omega))
          clear c4
          go_wp2_with (first
            | (with_reducible refine wpList_store_row rfl 23 (.tmp 2) (.tmp 59) rfl w.heap.size id0 rfl rfl 23 id0 N0.out (infoId4 _ _ _ _) (sizeId4 _ _ _ _ _ _ _ _) one_id0 ?_)
            | fail)
          refine bodyPost_ret (results_idt Tryd.results10 _ _ w.heap.size _ (0, 0) _ rfl rfl (setRow_heap _ w.heap.size id0 _ _ (0, 0) N0.out) rfl) rfl ⟨by rw [HV.out]; rfl, below_setRow D0.out (Nat.le_refl _) _⟩
end Go.Proofs.YtagfnnpklefhhaaDoor
