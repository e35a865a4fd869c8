/-
  Layer 5: All of the program.
-/
import Derived.Test.YtjlgihdlcfanbaaFy
namespace Go.Proofs.Ytjlgihdlcfanbaa
open Go.RowKit
set_option linter.unusedVariables false
set_option linter.unusedSimpArgs false

theorem allL_app (a b : List (Nat × List UInt8)) : allL (a ++ b) = allL a ++ allL b := by unfold allL; rw [List.map_append, List.flatten_append]
def posL (xs : List (Nat × List UInt8)) (j : Nat) : Nat := (allL (xs.take j)).length
def restL (xs : List (Nat × List UInt8)) (m : List UInt8) (j : Nat) : List UInt8 := allL (xs.drop j) ++ m
theorem rest_drop (xs : List (Nat × List UInt8)) (m : List UInt8) (j : Nat) : (allL xs ++ m).drop (posL xs j) = restL xs m j := by
  unfold posL restL
  conv => lhs; rw [← List.take_append_drop j xs, allL_app]
  simp
theorem rest_next (xs : List (Nat × List UInt8)) (m : List UInt8) (j : Nat) (h : j < xs.length) : restL xs m j = packL xs[j].1 xs[j].2 ++ restL xs m (j + 1) := by
  unfold restL
  rw [List.drop_eq_getElem_cons h, show xs[j] :: xs.drop (j + 1) = [xs[j]] ++ xs.drop (j + 1) from rfl, allL_app, List.append_assoc]
  simp [allL]
theorem rest_end (xs : List (Nat × List UInt8)) (m : List UInt8) : restL xs m xs.length = m := by unfold restL; simp [allL]
theorem rest_zero (xs : List (Nat × List UInt8)) (m : List UInt8) : restL xs m 0 = allL xs ++ m := rfl
theorem pos_next (xs : List (Nat × List UInt8)) (j : Nat) (h : j < xs.length) : posL xs (j + 1) = posL xs j + (xs[j].2.length + 14) := by
  unfold posL
  rw [List.take_succ_eq_append_getElem h, allL_app, List.length_append]
  congr 1
  have : allL [xs[j]] = packL xs[j].1 xs[j].2 := by simp [allL]
  rw [this, packL_len]
theorem pos_le (xs : List (Nat × List UInt8)) (m : List UInt8) (j : Nat) : posL xs j ≤ (allL xs ++ m).length := by
  unfold posL
  conv => rhs; rw [← List.take_append_drop j xs, allL_app]
  simp
theorem pos_ge (xs : List (Nat × List UInt8)) : ∀ j, j ≤ xs.length → j ≤ posL xs j
  | 0, _ => Nat.zero_le _
  | j + 1, h => by rw [pos_next xs j (by omega)]; have := pos_ge xs j (by omega); omega
theorem bat_drop {w : World} {a : Option Addr} {l : List UInt8} (h : BAt w a l) (c k : Nat) (hk : k ≤ l.length) (hc : l.length ≤ c) : BAt w (if c = k then a else a.map (·.add k)) (l.drop k) := by
  by_cases hp : 0 < (l.drop k).length
  · have hl : k < l.length := by rw [List.length_drop] at hp; omega
    rw [if_neg (by omega)]
    obtain ⟨b, o, rfl, hb, hcell⟩ := h (by omega)
    simp only [Option.map_some, addr_add]
    have := (show BAt w (some ⟨b, o, none⟩) l from fun _ => ⟨b, o, rfl, hb, hcell⟩).cut k (l.length - k) (by omega)
    rwa [List.take_of_length_le (by rw [List.length_drop]; exact Nat.le_refl _)] at this
  · have e : l.drop k = [] := List.eq_nil_of_length_eq_zero (by omega)
    rw [e]; exact BAt.nil _ _
/-- What next has told of what is left. -/
structure AllR (r : List UInt8) (a : Option Addr) (c : Nat) (pa : Option Addr) (pl pc : Nat) (K N : Int) (ok : Bool) : Prop where
  ok : decide (takeE r = 0) = ok
  k : ((takeK r : Nat) : Int) = K
  n : ((takeN r : Nat) : Int) = N
  pv : payV a c r = .slice pa pl pc
theorem AllR.make (r : List UInt8) (a : Option Addr) (c : Nat) : ∃ pa pl pc K N ok, AllR r a c pa pl pc K N ok := by
  obtain ⟨pa, pl, pc, hpv⟩ : ∃ pa pl pc, payV a c r = .slice pa pl pc := by unfold payV; split <;> exact ⟨_, _, _, rfl⟩
  exact ⟨pa, pl, pc, _, _, _, rfl, rfl, rfl, hpv⟩
theorem Pays.base {w : World} {B : Nat} {v : Value} {bs : List (List UInt8)} (h : Pays w B v bs) (k : Nat) (hk : v.ownBlock = some k) : B ≤ k := by
  obtain ⟨ps, h1, _⟩ := h
  exact own_block h1 k hk
set_option maxHeartbeats 16000000 in
theorem All_any (a : Option Addr) (n c : Nat) (xs : List (Nat × List UInt8)) (m : List UInt8) (w : World) (hn : n = (allL xs ++ m).length) (hb : BAt w a (allL xs ++ m)) (hc : n ≤ c) (hm : c ≤ maxLen)
    (hx : ∀ i (h : i < xs.length), xs[i].1 < 256 ∧ xs[i].2.length ≤ 131172) (he : takeE m ≠ 0) (hL : n ≤ 1000000) :
    Calls Try.prog 17 #[.slice a n c] w fun e w' => ∃ v1 v2, e = .returned (.tuple #[v1, v2, .int .i64 ((posL xs xs.length : Nat) : Int)]) ∧ Kinds w' w.heap.size v1 (xs.map (·.1)) ∧ Pays w' w.heap.size v2 (xs.map (·.2)) ∧ Below w.heap.size w w' := by
  have hbd : ∀ j u, Below w.heap.size w u → BAt u (if c = posL xs j then a else a.map (·.add (posL xs j))) (restL xs m j) ∧ (restL xs m j).length = n - posL xs j := fun j u hu => by
    have hp := pos_le xs m j
    have hd := bat_drop (hb.below hu (Nat.le_refl _)) c (posL xs j) hp (by omega)
    rw [rest_drop] at hd
    exact ⟨hd, by rw [← rest_drop, List.length_drop, ← hn]⟩
  have hnext : ∀ j u, Below w.heap.size w u → Calls Try.prog 27 #[.slice (if c = posL xs j then a else a.map (·.add (posL xs j))) (n - posL xs j) (c - posL xs j)] u fun e w' => e = .returned (.tuple #[recL (restL xs m j) (payV (if c = posL xs j then a else a.map (·.add (posL xs j))) (c - posL xs j) (restL xs m j)), .bool (decide (takeE (restL xs m j) = 0))]) ∧ Below u.heap.size u w' := fun j u hu =>
    next_any _ _ _ _ u (hbd j u hu).2.symm (hbd j u hu).1 (by omega) (by omega)
  have hpay : ∀ j u, Below w.heap.size w u → PayAt u (payV (if c = posL xs j then a else a.map (·.add (posL xs j))) (c - posL xs j) (restL xs m j)) (takeP (restL xs m j)) := fun j u hu =>
    pay_at (hbd j u hu).1 (by rw [(hbd j u hu).2]; omega)
  have h0 : Calls Try.prog 27 #[.slice a n c] w fun e w' => e = .returned (.tuple #[recL (restL xs m 0) (payV a c (restL xs m 0)), .bool (decide (takeE (restL xs m 0) = 0))]) ∧ Below w.heap.size w w' := by
    rw [rest_zero]; exact next_any a n c _ w hn hb hc hm
  have hp0 : posL xs 0 = 0 := by simp [posL, allL]
  have hpv0 : payV (if c = posL xs 0 then a else a.map (·.add (posL xs 0))) (c - posL xs 0) (restL xs m 0) = payV a c (restL xs m 0) := by
    rw [hp0, Nat.sub_zero]
    congr 1
    split
    · rfl
    · cases a <;> simp [Addr.add]
  obtain ⟨pa, pl0, pc, K0, N0, ok0, hR0⟩ := AllR.make (restL xs m 0) (if c = posL xs 0 then a else a.map (·.add (posL xs 0))) (c - posL xs 0)
  have HR := Lib.hid hR0
  unfold recL at h0 hnext
  rw [← hpv0, hR0.ok, hR0.k, hR0.n, hR0.pv] at h0
  have HNX := Lib.hid hnext; have HN0 := Lib.hid h0; have HX := Lib.hid hx; have HE := Lib.hid he; have HN := Lib.hid hn; have HPAY := Lib.hid hpay
  have HPL := Lib.hid (fun j => pos_le xs m j)
  have HM := Lib.hid hm; have HP0 := Lib.hid hp0
  clear hnext h0 hx he hb hm hn hbd hpay hp0 hpv0 hR0
  go_enter Try.func17, Try.ntmps17
  go_wp2_with fail
  refine HN0.out.mono ?_
  rintro e w1 ⟨rfl, hb1⟩
  clear HN0
  go_wp2_with fail
  have hg0 : (w1.alloc (.cells #[.int .i64 K0, .slice pa pl0 pc, .int .i64 N0] 52)).heap[w1.heap.size]? = some (.cells #[.int .i64 K0, .slice pa pl0 pc, .int .i64 N0] 52 (0, 0)) := heap_alloc_new w1 _
  have hb12 : Below w1.heap.size w1 (w1.alloc (.cells #[.int .i64 K0, .slice pa pl0 pc, .int .i64 N0] 52)) := (Below.refl _ w1).alloc (Nat.le_refl _) _
  generalize w1.alloc (.cells #[.int .i64 K0, .slice pa pl0 pc, .int .i64 N0] 52) = w2 at hg0 hb12 ⊢
  have hb02 := hb1.trans (hb12.mono hb1.size)
  have HGG := Lib.hid hg0
  clear hb1 hb12 hg0
  go_loopw [5, 6, 7, 8, 9] (fun v1 v2 sz rp okv wr => ∃ (j g : Nat) (pa : Option Addr) (pl pc : Nat) (K N : Int) (ok : Bool), j ≤ xs.length ∧ sz = .int .i64 ((posL xs j : Nat) : Int) ∧ rp = .pointer (some ⟨g, 0, none⟩) ∧ okv = .bool ok ∧
      wr.heap[g]? = some (.cells #[.int .i64 K, .slice pa pl pc, .int .i64 N] 52 (0, 0)) ∧ AllR (restL xs m j) (if c = posL xs j then a else a.map (·.add (posL xs j))) (c - posL xs j) pa pl pc K N ok ∧ Kinds wr w.heap.size v1 ((xs.take j).map (·.1)) ∧ Pays wr w.heap.size v2 ((xs.take j).map (·.2)) ∧ Below w.heap.size w wr) (fun _ _ sz _ _ _ => n - (intOf sz).toNat)
  case atStart => exact ⟨0, _, pa, pl0, pc, K0, N0, ok0, Nat.zero_le _, by rw [HP0.out]; rfl, rfl, rfl, HGG.out, HR.out, Kinds.nil _ _, Pays.nil _ _, hb02⟩
  case round =>
    clear HGG HR hb02
    obtain ⟨j, g, pa, pl, pc, K, N, ok, hj, rfl, rfl, rfl, hg, hR, hks, hps, hbr⟩ := hrel
    have HG := Lib.hid hg; have HR := Lib.hid hR; have HKS := Lib.hid hks; have HPS := Lib.hid hps
    clear hg hR hks hps
    have htk : ∀ h : j < xs.length, takeE (restL xs m j) = 0 ∧ takeK (restL xs m j) = xs[j].1 ∧ takeP (restL xs m j) = xs[j].2 ∧ takeN (restL xs m j) = xs[j].2.length + 14 := fun h => by
      rw [rest_next xs m j h]
      exact take_pack _ _ _ (HX.out j h).1 (HX.out j h).2
    cases ok with
    | false =>
      have hjx : j = xs.length := by
        rcases Nat.lt_or_ge j xs.length with h | h
        · exact absurd (htk h).1 (of_decide_eq_false HR.out.ok)
        · omega
      subst hjx
      rw [List.take_length] at HKS HPS
      clear htk
      go_wp2_with fail
      go_ret3
      exact ⟨_, _, rfl, HKS.out, HPS.out, hbr⟩
    | true =>
      have hjx : j < xs.length := by
        rcases Nat.lt_or_ge j xs.length with h | h
        · exact h
        · exfalso
          have e : j = xs.length := by omega
          have := of_decide_eq_true HR.out.ok
          rw [e, rest_end] at this
          exact HE.out this
      obtain ⟨t1, t2, t3, t4⟩ := htk hjx
      obtain ⟨k, hk⟩ : ∃ k, xs[j].1 = k := ⟨_, rfl⟩
      obtain ⟨p, hp⟩ : ∃ p, xs[j].2 = p := ⟨_, rfl⟩
      have hpos := pos_next xs j hjx
      have hpl1 := HPL.out (j + 1)
      rw [← HN.out] at hpl1
      rw [hp] at hpos
      have hKk : K = ((k : Nat) : Int) := by rw [← HR.out.k, t2, hk]
      have hpa : ∀ u, Below w.heap.size w u → PayAt u (.slice pa pl pc) p := fun u hu => by
        have := HPAY.out j u hu
        rwa [HR.out.pv, t3, hp] at this
      have hlen : p.length = pl := by
        obtain ⟨x, y, e, _⟩ := hpa wr hbr
        simp only [Value.slice.injEq] at e
        exact e.2.1.symm
      have hNN : N = ((pl + 14 : Nat) : Int) := by rw [← HR.out.n, t4, hp, hlen]
      subst hKk
      rw [hlen] at hpos
      have HPA := Lib.hid hpa; have HLEN := Lib.hid hlen
      have htake1 : (xs.take (j + 1)).map (·.1) = (xs.take j).map (·.1) ++ [k] := by rw [List.take_succ_eq_append_getElem hjx, List.map_append, ← hk]; rfl
      have htake2 : (xs.take (j + 1)).map (·.2) = (xs.take j).map (·.2) ++ [p] := by rw [List.take_succ_eq_append_getElem hjx, List.map_append, ← hp]; rfl
      have HT1 := Lib.hid htake1; have HT2 := Lib.hid htake2
      obtain ⟨s0, hs0⟩ : ∃ s0, posL xs j = s0 := ⟨_, rfl⟩
      obtain ⟨s1, hs1⟩ : ∃ s1, posL xs (j + 1) = s1 := ⟨_, rfl⟩
      have NX := Lib.hid (HNX.out (j + 1))
      have NXr := Lib.hid hs1
      rw [hs1] at NX hpos hpl1
      rw [hs0] at hpos ⊢
      have hsum : (s0 : Int) + N = (s1 : Int) := by rw [hNN]; omega
      have HS0 := Lib.hid hs0; have HPOS := Lib.hid hpos
      clear hpos htk t1 t2 t3 t4 hk hp hpa hlen htake1 htake2 hs0 hs1 hNN
      have q0 : wr.cell? ⟨g, 0, none⟩ = some (.int .i64 ((k : Nat) : Int)) := (cell_of_row wr g 0 _ _ _ HG.out).trans rfl
      have hgl := lt_of_heap HG.out
      have HKA := Lib.hid (HKS.out.keep ((Below.refl wr.heap.size wr).alloc (Nat.le_refl _) (.cells #[.int .i64 ((k : Nat) : Int)] 3)))
      have hca : (wr.alloc (.cells #[.int .i64 ((k : Nat) : Int)] 3)).cell? ⟨wr.heap.size, 0, none⟩ = some (.int .i64 ((k : Nat) : Int)) := (cell_of_row _ _ 0 _ _ _ (heap_alloc_new wr _)).trans rfl
      have HCA := Lib.hid hca
      have hkl : ((xs.take j).map (·.1)).length ≤ 1000000 := by rw [List.length_map, List.length_take]; have := HN.out; have := pos_ge xs xs.length (Nat.le_refl _); have := HPL.out xs.length; omega
      have HKL := Lib.hid hkl
      have HBA := Lib.hid (show w.heap.size ≤ (wr.alloc (.cells #[.int .i64 ((k : Nat) : Int)] 3)).heap.size by have := hbr.size; simp; omega)
      clear hca hkl
      go_wp2_with (first
        | (at_builtin; refine wpList_append_kind rfl (.tmp 23) (.tmp 26) rfl w.heap.size u5 _ rfl HKA.out wr.heap.size 1 rfl k HCA.out HKL.out HBA.out ?_)
        | fail)
      intro v1 wa hka hga
      have hb1 : Below w.heap.size w (wr.alloc (.cells #[.int .i64 ((k : Nat) : Int)] 3)) := hbr.alloc hbr.size _
      have hba : Below w.heap.size w wa := hb1.grown hga HBA.out (fun i hi => own_block HKA.out i hi)
      have htyk : ∀ i, u5.ownBlock = some i → ∃ (cur : Array Value) (fr : Nat × Nat), (wr.alloc (.cells #[.int .i64 ((k : Nat) : Int)] 3)).heap[i]? = some (Obj.cells cur 3 fr) := fun i hi => by
        obtain ⟨cur, hc⟩ := own_type HKA.out i hi; exact ⟨cur, _, hc⟩
      have hga1 := block_grown hga htyk ((Below.heap_alloc wr _ g hgl).trans HG.out) (t := 52) (by decide)
      have HGa := Lib.hid (hga1.trans ((Below.heap_alloc wr _ g hgl).trans HG.out))
      have HPSa := Lib.hid ((HPS.out.keep ((Below.refl wr.heap.size wr).alloc (Nat.le_refl _) (.cells #[.int .i64 ((k : Nat) : Int)] 3))).same (w' := wa) fun i cur t hc ht => block_grown hga htyk hc (by rcases ht with rfl | rfl <;> decide))
      have HKa := Lib.hid hka
      obtain ⟨xa, ya, ea, hbata, hnoa⟩ := HPA.out wa hba
      simp only [Value.slice.injEq] at ea
      obtain ⟨rfl, hjunk, rfl⟩ := ea
      clear hjunk
      rw [HLEN.out] at hnoa
      have C3 := Lib.hid (bClone_any p wa pa pl pc hbata HLEN.out.symm hnoa (by rw [HLEN.out]; have := HPOS.out; omega))
      have q1 : wa.cell? ⟨g, 1, none⟩ = some (.slice pa pl pc) := (cell_of_row wa g 1 _ _ _ HGa.out).trans rfl
      clear HG HKS HPS HKA HCA HKL HBA hb1 htyk hga1 hga hka q0 hbata hnoa hgl
      go_wp2_with fail
      refine C3.out.mono ?_
      rintro e w3 ⟨v3, rfl, hr3, hf3, hb3⟩
      have hb03 := hba.trans (hb3.mono hba.size)
      obtain ⟨a3, c3, hv3, _, _, _, _⟩ := hr3.shape
      subst hv3
      rw [HLEN.out] at hr3 hf3 ⊢
      have HKb := Lib.hid (HKa.out.keep hb3)
      have HGb := Lib.hid ((hb3.block _ (lt_of_heap HGa.out)).trans HGa.out)
      have hal : Below w3.heap.size w3 (w3.alloc (.cells #[.slice a3 pl c3] 22)) := (Below.refl _ w3).alloc (Nat.le_refl _) _
      have HPc := Lib.hid ((HPSa.out.keep hb3).keep hal)
      have HKc := Lib.hid (HKb.out.keep hal)
      have HGc := Lib.hid ((hal.block _ (lt_of_heap HGb.out)).trans HGb.out)
      have hr4 := hr3.below hal
      have hf4 : ∀ g, foot (.slice a3 pl c3) = some g → w.heap.size ≤ g := fun g hg => Nat.le_trans hba.size (hf3 g hg)
      have hcb : (w3.alloc (.cells #[.slice a3 pl c3] 22)).cell? ⟨w3.heap.size, 0, none⟩ = some (.slice a3 pl c3) := (cell_of_row _ _ 0 _ _ _ (heap_alloc_new w3 _)).trans rfl
      have hb4 : Below w.heap.size w (w3.alloc (.cells #[.slice a3 pl c3] 22)) := hb03.alloc hb03.size _
      have hjl : ((xs.take j).map (·.2)).length ≤ 1000000 := by rw [List.length_map, List.length_take]; have := HN.out; have := pos_ge xs xs.length (Nat.le_refl _); have := HPL.out xs.length; omega
      have HR4 := Lib.hid hr4; have HF4 := Lib.hid hf4; have HCB := Lib.hid hcb; have HB4 := Lib.hid hb4; have HJL := Lib.hid hjl
      clear C3 HKa HGa HPSa HKb HGb hal hr3 hf3 hb3 hr4 hf4 hcb hb4 hjl q1 hb03 hba
      go_wp2_with (first
        | (at_builtin; refine wpList_append_pay rfl (.tmp 28) (.tmp 32) rfl w.heap.size u6 _ rfl HPc.out w3.heap.size 1 rfl _ p HCB.out HR4.out HF4.out HJL.out HB4.out.size ?_)
        | fail)
      intro v2 wd hpd hgd htyd
      have hbd : Below w.heap.size w wd := HB4.out.grown hgd HB4.out.size (fun i hi => HPc.out.base i hi)
      have hgdb := block_grown hgd (e := 22) (fun i hi => by obtain ⟨cur, hc⟩ := htyd i hi; exact ⟨cur, _, hc⟩) HGc.out (by decide)
      have hgd2 := hgdb.trans HGc.out
      have hkd := HKc.out.same (w' := wd) fun i cur hc => block_grown hgd (e := 22) (fun i hi => by obtain ⟨cur, hc⟩ := htyd i hi; exact ⟨cur, _, hc⟩) hc (by decide)
      have q0 : wd.cell? ⟨g, 0, none⟩ = some (.int .i64 ((k : Nat) : Int)) := (cell_of_row wd g 0 _ _ _ hgd2).trans rfl
      have q1 : wd.cell? ⟨g, 1, none⟩ = some (.slice pa pl pc) := (cell_of_row wd g 1 _ _ _ hgd2).trans rfl
      have q2 : wd.cell? ⟨g, 2, none⟩ = some (.int .i64 N) := (cell_of_row wd g 2 _ _ _ hgd2).trans rfl
      have hal : Below wd.heap.size wd (wd.alloc (.cells #[.int .i64 ((k : Nat) : Int), .slice pa pl pc, .int .i64 N] 52)) := (Below.refl _ wd).alloc (Nat.le_refl _) _
      have hg2 : (wd.alloc (.cells #[.int .i64 ((k : Nat) : Int), .slice pa pl pc, .int .i64 N] 52)).heap[wd.heap.size]? = some (.cells #[.int .i64 ((k : Nat) : Int), .slice pa pl pc, .int .i64 N] 52 (0, 0)) := heap_alloc_new wd _
      have HK5 := Lib.hid (hkd.keep hal); have HP5 := Lib.hid (hpd.keep hal); have HG5 := Lib.hid hg2; have HB5 := Lib.hid (hbd.trans (hal.mono hbd.size))
      have hsl := fun u => slice_u8_l u a n c s1 (by omega) s1 rfl
      obtain ⟨a', ha'⟩ : ∃ a', (if c = s1 then a else a.map (·.add s1)) = a' := ⟨_, rfl⟩
      have HA := Lib.hid ha'
      rw [ha'] at hsl NX
      obtain ⟨pa2, pl2, pc2, K2, N2, ok2, hR2⟩ := AllR.make (restL xs m (j + 1)) a' (c - s1)
      have C6 := NX.out _ HB5.out
      rw [hR2.ok, hR2.k, hR2.n, hR2.pv] at C6
      have HC6 := Lib.hid C6; have HR2 := Lib.hid hR2
      clear NX HKc HPc HGc HB4 HCB HR4 HF4 HJL hpd hgd htyd hgdb hgd2 hkd hal hg2 ha' C6 hR2
      go_wp2_with fail
      refine HC6.out.mono ?_
      rintro e w6 ⟨rfl, hb6⟩
      have HG6 := Lib.hid ((hb6.block _ (lt_of_heap HG5.out)).trans HG5.out)
      have HK6 := Lib.hid (HK5.out.keep hb6)
      have HP6 := Lib.hid (HP5.out.keep hb6)
      have HB6 := Lib.hid (HB5.out.trans (hb6.mono HB5.out.size))
      have hgB : w.heap.size ≤ wd.heap.size := hbd.size
      have one : (#[Value.int .i64 K2, .slice pa2 pl2 pc2, .int .i64 N2] : Array Value).all (·.oneCell') = true := by simp [Value.oneCell']
      clear HC6 hb6 HK5 HP5 HG5 HB5 q0 q1 q2 hsl
      go_wp2_with (first
        | (with_reducible refine wpList_store_row rfl 52 (.tmp 8) (.tmp 21) rfl wd.heap.size _ rfl rfl 52 _ HG6.out (infoRec3 _ _ _) (size3 _ _ _ _ _ _) one ?_)
        | fail)
      have hne : ∀ (i : Nat) (cur : Array Value) (ty : TypeId), w6.heap[i]? = some (Obj.cells cur ty (0, 0)) → ty ≠ 52 → i ≠ wd.heap.size := fun i cur ty hc hty e => by
        subst e
        rw [HG6.out] at hc
        cases hc
        exact hty rfl
      refine ⟨⟨j + 1, wd.heap.size, pa2, pl2, pc2, K2, N2, ok2, hjx, by rw [NXr.out], rfl, rfl, setRow_heap _ _ _ _ _ (0, 0) HG6.out, ?_, ?_, ?_, below_setRow HB6.out hgB _⟩, ?_⟩
      · rw [NXr.out, HA.out]; exact HR2.out
      · rw [HT1.out, List.map_take]
        exact HK6.out.same fun i cur hc => setRow_other _ _ _ _ (hne i cur _ hc (by decide))
      · rw [HT2.out, List.map_take]
        exact HP6.out.same fun i cur ty hc ht => setRow_other _ _ _ _ (hne i cur _ hc (by rcases ht with rfl | rfl <;> decide))
      · have := HPOS.out
        simp only [intOf]
        omega
end Go.Proofs.Ytjlgihdlcfanbaa
