/-
  Layer 12, the program: Missing.
-/
import Derived.Test.YtajmgjhknmkfpaaUw
namespace Go.Proofs.Ytajmgjhknmkfpaa
set_option maxRecDepth 20000
open Go.RowKit Go.Maps
set_option linter.unusedVariables false
set_option linter.unusedSimpArgs false

theorem eql_fnNil (w : World) : (binOp .eql 40 .nilFunc .nilFunc).run Try.prog w = .ok (.bool true) w := by kernel_rfl
theorem eql_fnSome (f : FuncId) (lb : Array Value) (w : World) : (binOp .eql 40 (.func (.func f) #[] lb) .nilFunc).run Try.prog w = .ok (.bool false) w := by kernel_rfl
set_option maxHeartbeats 4000000 in
theorem missingP_all {w : World} {p : Option Addr} {L : List Gn} (h : GOps p L w) (a : Option Addr) (n c : Nat) (ids : List (List UInt8)) (hr : RowAt rowI w a ids) (hn : n = ids.length) (hm : n ≤ 1000000) (hid : ∀ i ∈ ids, i.length = 20) :
    Calls Try.prog 24 #[.pointer p, .nilFunc, .slice a n c] w fun e w' => ∃ v, e = .returned v ∧ OwnD w.heap.size v (cloG L ids) w' ∧ Below w.heap.size w w' := by
  have b1 := (Below.refl w.heap.size w).alloc (Nat.le_refl _) (.cells #[.nilFunc] 40)
  have x1 := heap_alloc_new w (.cells #[.nilFunc] 40)
  have CC := Lib.hid (closureP_any (h.below b1) a n c ids (hr.keep b1) hn hm hid)
  have B1 := Lib.hid b1; have X1 := Lib.hid x1
  have q1 := eql_fnNil
  clear h hr hn hm hid b1 x1
  go_enter Try.func24, Try.ntmps24
  go_wp2_with fail
  refine CC.out.mono ?_
  rintro e w2 ⟨v, rfl, hv, hb⟩
  have c2 : w2.cell? ⟨w.heap.size, 0, none⟩ = some .nilFunc := by rw [Lib.cell_of_heap ((hb.block _ (lt_of_heap X1.out)).trans X1.out)]; rfl
  have F := Lib.hid (And.intro (ownR_mono (R := rowI) hv B1.out.size) (B1.out.trans (hb.mono B1.out.size)))
  clear hv hb CC
  go_wp2
  go_ret
  exact ⟨_, rfl, F.out.1, F.out.2⟩
theorem thoseG_ids {L : List Gn} (G : GoodG L) (f : Nat → Bool) : ∀ i ∈ thoseG L f, i.length = 20 := fun i hi => by
  obtain ⟨k, hk, _⟩ := (thoseG_mem G).1 hi
  obtain ⟨h1, h2⟩ := atG_some hk
  rw [← h2]
  exact G.len _ (List.getElem_mem h1)
set_option maxHeartbeats 4000000 in
theorem missingP_some {w : World} {p : Option Addr} {L : List Gn} (h : GOps p L w) (a : Option Addr) (n c : Nat) (ids : List (List UInt8)) (hr : RowAt rowI w a ids) (hn : n = ids.length) (hm : n ≤ 1000000) (hid : ∀ i ∈ ids, i.length = 20)
    (f : FuncId) (lb : Array Value) (q : List UInt8 → Bool) (eg : ∀ args w, (callFunc f args).run Try.prog w = .ok (.enter f args) w) (hf : ∀ u (i : List UInt8), i.length = 20 → Calls Try.prog f (#[.agg (arrD i)] ++ lb) u fun e u' => e = .returned (.bool (q i)) ∧ Below u.heap.size u u') :
    Calls Try.prog 24 #[.pointer p, .func (.func f) #[] lb, .slice a n c] w fun e w' => ∃ v, e = .returned v ∧ OwnD w.heap.size v (missG L q ids) w' ∧ Below w.heap.size w w' := by
  have b1 := (Below.refl w.heap.size w).alloc (Nat.le_refl _) (.cells #[.func (.func f) #[] lb] 40)
  have x1 := heap_alloc_new w (.cells #[.func (.func f) #[] lb] 40)
  have CC := Lib.hid (closureP_any (h.below b1) a n c ids (hr.keep b1) hn hm hid)
  have B1 := Lib.hid b1; have X1 := Lib.hid x1
  have q1 := eql_fnSome f lb
  have hmf : ∀ (fn : Fn) (first cap : Array Value) (w : World), (Instr.makeFunc fn first cap).run Try.prog w = .ok (.func fn first cap) w := fun _ _ _ _ => rfl
  have IDS := Lib.hid (thoseG_ids h.good (onG (closedG L (ids.filterMap (atG L)))))
  have LEN := Lib.hid (show (cloG L ids).length ≤ 1000000 from Nat.le_trans (thoseG_len L _) (Nat.le_trans h.few (by decide)))
  have HF := Lib.hid hf; have EG := Lib.hid eg
  clear h hr hn hm hid b1 x1 hf eg
  go_enter Try.func24, Try.ntmps24
  go_wp2_with fail
  refine CC.out.mono ?_
  rintro e w2 ⟨v, rfl, hv, hb⟩
  have hx2 := (hb.block _ (lt_of_heap X1.out)).trans X1.out
  have c2 : w2.cell? ⟨w.heap.size, 0, none⟩ = some (.func (.func f) #[] lb) := by rw [Lib.cell_of_heap hx2]; rfl
  have CD := Lib.hid (deleteG_is hv IDS.out LEN.out 45 #[.pointer (some ⟨w.heap.size, 0, none⟩)] q (fun args w => by kernel_rfl) (fun u hu i hi => missing_fn i (IDS.out i hi) f lb (q i) u w.heap.size ((hu.block _ (lt_of_heap hx2) (fun e => by
    have h1 := (ownR_lt (R := rowI) hv _ e).1
    have h2 := lt_of_heap X1.out
    omega)).trans hx2) EG.out (fun u' _ => HF.out u' i (IDS.out i hi))))
  have B2 := Lib.hid (B1.out.trans (hb.mono B1.out.size))
  have OB := Lib.hid (fun k (hk : v.ownBlock = some k) => Nat.le_trans B1.out.size (ownR_lt (R := rowI) hv k hk).1)
  obtain ⟨av, cv, hvv, -⟩ := ownD_ids hv IDS.out
  clear hv hb CC hx2
  subst hvv
  generalize (thoseG L (onG (closedG L (ids.filterMap (atG L))))).length = ln at *
  go_wp2_with fail
  refine CD.out.mono ?_
  rintro e w3 ⟨v3, rfl, hv3, hc3⟩
  have F := Lib.hid (And.intro (ownR_mono (R := rowI) hv3 B1.out.size) (B2.out.trans (hc3.below B2.out.size (fun i _ hi => OB.out i hi))))
  clear hv3 hc3 CD c2
  go_wp2
  go_ret
  exact ⟨_, rfl, F.out.1, F.out.2⟩
end Go.Proofs.Ytajmgjhknmkfpaa
