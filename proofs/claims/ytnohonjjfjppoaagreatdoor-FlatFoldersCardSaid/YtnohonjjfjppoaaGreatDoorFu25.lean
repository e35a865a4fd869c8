/-
  Texts that belong together, one behind the other.
-/
import Derived.Test.YtnohonjjfjppoaaGreatDoorFu23
import Derived.Test.YtnohonjjfjppoaaGreatDoorFu24
import Derived.Test.YtnohonjjfjppoaaGreatDoorFu22
import Derived.Test.YtnohonjjfjppoaaGreatDoorFu13
import Derived.Lib.FrozenHead2
import Derived.OwnWalk
import Derived.Test.YtnohonjjfjppoaaGreatDoorFu10
import Derived.StillTailTactics
/-
  Layer 10, the program: Put, as the objects under their ids tell it.
-/
namespace Go.Proofs.YtnohonjjfjppoaaGreatDoor
set_option maxRecDepth 20000
open Go.RowKit
set_option linter.unusedVariables false
set_option linter.unusedSimpArgs false
/-- What a put leaves, answers, says, where the store is not full. -/
def putM (M : List Cel) (k : Int) (b : List UInt8) : List Cel × List UInt8 × Int :=
  if (printO k b).2 = 0 then
    match getM M (sumO k b) with
    | some c => (M, pickI (c.kind == k && c.body == b) (sumO k b), pickE (c.kind == k && c.body == b))
    | none => (M ++ [⟨sumO k b, k, b⟩], sumO k b, 0)
  else (M, idZ, (printO k b).2)
theorem sumO_len {k : Int} {b : List UInt8} (he : (printO k b).2 = 0) : (sumO k b).length = 20 := by
  unfold sumO
  rw [if_pos he]
  simp [sumL, digest_len]
theorem keep_new {S C : Nat → Prop} {w : World} {g : Nat} {M : List Cel} (h : StoreP S w g M) (hCg : C g) (hCb : ∀ b, w.heap[g]? = some (.cells #[.map (some b)] 66 (0, 0)) → C b) (i : List UInt8) (hi : i.length = 20) (k : Int) (hk : kindO k) (v : Value) (l : List UInt8) (hv : Red w v l) (hl65 : l.length ≤ 65536) (hx : getM M i = none) (hM : M.length < 5000) :
    Calls Tryz.prog 50 #[.pointer (some ⟨g, 0, none⟩), .agg (arrD i), .agg #[.int .i64 k, v]] w fun e w' => e = .returned (.int .i64 0) ∧ StoreP (fun j => S j ∨ w.heap.size ≤ j) w' g (M ++ [⟨i, k, l⟩]) ∧ Chg C w w' := by
  have h2 := h
  obtain ⟨hg, E, mb, hE, hblk, _⟩ := h2
  have hc : w.cell? ⟨g, 0, none⟩ = some (.map mb) := by rw [Lib.cell_of_heap hblk]; rfl
  cases mb with
  | none => exact keep_nil h hCg hc i hi k hk v l hv hl65 hx
  | some b => exact keep_some h (hCb b hblk) hc i hi k hk v l hv hl65 hx hM
theorem StoreP.map_of {S : Nat → Prop} {w : World} {g c : Nat} {M : List Cel} (h : StoreP S w g M) (hc : w.heap[g]? = some (.cells #[.map (some c)] 66 (0, 0))) : S c ∧ c ≠ g ∧ c < w.heap.size := by
  obtain ⟨hg, E, mb, h1, h2, h3, h4, h5⟩ := h
  rw [h2] at hc
  have e : mb = some c := by
    have := Option.some.inj hc
    simpa using this
  obtain ⟨k1, k2, k3⟩ := h5 c e
  exact ⟨k1, k2, k3.lt⟩
theorem StoreP.map_lt {S : Nat → Prop} {w : World} {g c : Nat} {M : List Cel} (h : StoreP S w g M) (hc : w.heap[g]? = some (.cells #[.map (some c)] 66 (0, 0))) : c < w.heap.size := (h.map_of hc).2.2
theorem StoreP.map_in {S : Nat → Prop} {w : World} {g c : Nat} {M : List Cel} (h : StoreP S w g M) (hc : w.heap[g]? = some (.cells #[.map (some c)] 66 (0, 0))) : S c := (h.map_of hc).1
theorem StoreP.behind {S0 : Nat → Prop} {w u u' w' : World} {g : Nat} {M : List Cel} (hS0 : ∀ j, S0 j → j < w.heap.size) (h : StoreP (fun j => S0 j ∨ u.heap.size ≤ j) u' g M) (hc : Chg (fun j => w.heap.size ≤ j ∧ j < u.heap.size) u' w') :
    StoreP (fun j => S0 j ∨ u.heap.size ≤ j) w' g M :=
  h.keep ⟨hc.size, fun j hj hl => hc.block j hl (fun hn => by
    rcases hj with hj | hj
    · have := hS0 j hj; omega
    · omega)⟩
/-- A put changes the store's own block and its map alone. -/
theorem PutP_isC {S C : Nat → Prop} {w : World} {g : Nat} {M : List Cel} (h : StoreP S w g M) (hCg : C g) (hCb : ∀ b, w.heap[g]? = some (.cells #[.map (some b)] 66 (0, 0)) → C b) (k : Int) (v : Value) (b : List UInt8) (hv : Red w v b) (tab : Tab w) (hM : M.length < 5000) :
    Calls Tryz.prog 24 #[.pointer (some ⟨g, 0, none⟩), .agg #[.int .i64 k, v]] w fun e w' => e = .returned (.tuple #[.agg (arrD (putM M k b).2.1), .int .i64 (putM M k b).2.2]) ∧
      StoreP (fun j => S j ∨ (w.heap.size ≤ j ∧ j < w'.heap.size)) w' g (putM M k b).1 ∧ Chg C w w' := by
  have hCc : ∀ c, w.heap[g]? = some (.cells #[.map (some c)] 66 (0, 0)) → C c ∧ c < w.heap.size := fun c hc => ⟨hCb c hc, h.map_lt hc⟩
  have h0 : StoreP (fun j => S j ∧ j < w.heap.size) w g M := h.mono (fun j hj hs => ⟨hs, hj⟩)
  have hS0 : ∀ j, (S j ∧ j < w.heap.size) → j < w.heap.size := fun j h => h.2
  by_cases he : (printO k b).2 = 0
  · have sl := sumO_len he
    obtain ⟨hk, hl65⟩ := printO_zero he
    cases hx : getM M (sumO k b) with
    | some x =>
      have e1 : putM M k b = (M, pickI (x.kind == k && x.body == b) (sumO k b), pickE (x.kind == k && x.body == b)) := by
        unfold putM
        rw [if_pos he, hx]
      rw [e1]
      obtain ⟨r, hr⟩ : ∃ r, (x.kind == k && x.body == b) = r := ⟨_, rfl⟩
      refine (PutP_any (g := g) k v b hv tab he (fun _ => False) (fun j h => h.elim) (pickE r) (fun u u' => Below u.heap.size u u') (fun u hu => (keep_there (h.below hu) (sumO k b) sl k v b (hv.below hu (Nat.le_refl _)) x hx).mono ?_)).mono ?_
      · rintro e u' ⟨rfl, hb⟩
        exact ⟨by rw [hr], hb, Chg.of_below hb⟩
      · rintro e w' ⟨rfl, u, u', hu, hR, hC, hC2⟩
        have hb : Below w.heap.size w w' := (hu.trans (hR.mono hu.size)).trans (hC2.below (Nat.le_trans hu.size hR.size) (fun j _ h => h.1))
        refine ⟨?_, (h.below hb).mono (fun j _ hj => .inl hj), Chg.of_below hb⟩
        rw [hr]
        cases r <;> rfl
    | none =>
      have e1 : putM M k b = (M ++ [⟨sumO k b, k, b⟩], sumO k b, 0) := by
        unfold putM
        rw [if_pos he, hx]
      rw [e1]
      refine (PutP_any (g := g) k v b hv tab he (fun j => C j ∧ j < w.heap.size) (fun j h => h.2) 0 (fun u u' => StoreP (fun j => (S j ∧ j < w.heap.size) ∨ u.heap.size ≤ j) u' g (M ++ [⟨sumO k b, k, b⟩])) (fun u hu => keep_new (C := fun j => C j ∧ j < w.heap.size) (h0.below hu) ⟨hCg, h.lt⟩ (fun c hc => hCc c ((hu.block g h.lt).symm.trans hc)) (sumO k b) sl k hk v b (hv.below hu (Nat.le_refl _)) hl65 hx hM)).mono ?_
      rintro e w' ⟨rfl, u, u', hu, hR, hC, hC2⟩
      have hsu := hu.size
      refine ⟨rfl, (hR.behind hS0 hC2).mono (fun j hj hs => ?_), ?_⟩
      · rcases hs with hs | hs
        · exact .inl hs.1
        · exact .inr ⟨Nat.le_trans hsu hs, hj⟩
      · exact (((Chg.of_below (S := fun j => C j ∧ j < w.heap.size) hu).more hC (fun j _ h => h)).more hC2 (fun j hj h => by omega)).weak (fun j _ h => h.1)
  · have e1 : putM M k b = (M, idZ, (printO k b).2) := by
      unfold putM
      rw [if_neg he]
    rw [e1]
    refine (PutP_bad (g := g) k v b hv tab he).mono ?_
    rintro e w' ⟨rfl, hb⟩
    exact ⟨rfl, (h.below hb).mono (fun j _ hj => .inl hj), Chg.of_below hb⟩
theorem PutP_is {S : Nat → Prop} {w : World} {g : Nat} {M : List Cel} (h : StoreP S w g M) (k : Int) (v : Value) (b : List UInt8) (hv : Red w v b) (tab : Tab w) (hM : M.length < 5000) :
    Calls Tryz.prog 24 #[.pointer (some ⟨g, 0, none⟩), .agg #[.int .i64 k, v]] w fun e w' => e = .returned (.tuple #[.agg (arrD (putM M k b).2.1), .int .i64 (putM M k b).2.2]) ∧
      StoreP (fun j => S j ∨ (w.heap.size ≤ j ∧ j < w'.heap.size)) w' g (putM M k b).1 ∧ Chg S w w' := PutP_isC h h.1 (fun c hc => h.map_in hc) k v b hv tab hM
end Go.Proofs.YtnohonjjfjppoaaGreatDoor

/-
  Rows of bytes that a call owns, appended to: texts, cells; cut in two.
-/
namespace Go.Proofs.YtnohonjjfjppoaaGreatDoor
open Go.RowKit
set_option linter.unusedVariables false
set_option linter.unusedSimpArgs false
/-- A row of bytes that a call owns. -/
abbrev OwnF (B : Nat) (v : Value) (l : List UInt8) (w : World) : Prop := w.ownsRowF B 5 1 v l.length (Lib.byteCells l)
theorem ownF_below {B : Nat} {v : Value} {l : List UInt8} {w w' : World} (h : OwnF B v l w) (hb : Below w.heap.size w w') : OwnF B v l w' :=
  World.ownsRowF.kept (row := none) h ⟨hb.os, hb.tape, hb.output, hb.size, fun k hk _ => hb.block k hk⟩ (Classical.em _)
theorem ownF_shape {B : Nat} {v : Value} {l : List UInt8} {w : World} (h : OwnF B v l w) : ∃ a c, v = .slice a l.length c ∧ l.length ≤ c ∧ c ≤ maxLen ∧ BAt w a l := by
  rcases h.2 with ⟨hv, h0⟩ | ⟨g, cap, cur, fz, hv, hB, hg, _, hc, hm, _, _⟩
  · obtain rfl : l = [] := List.eq_nil_of_length_eq_zero h0
    exact ⟨none, 0, hv, Nat.le_refl _, Nat.zero_le _, BAt.nil w _⟩
  · have hcs := World.ownsRowF.cells h (g := g) (by rw [hv]; rfl)
    refine ⟨_, cap, hv, hc, hm, fun _ => ⟨g, 0, rfl, (Array.getElem?_eq_some_iff.1 hg).1, fun i hi => ?_⟩⟩
    have := hcs i (.int .u8 (l[i]).toNat) (by simp [Lib.byteCells, List.getElem?_map, hi])
    cases i with
    | zero => simpa [Addr.add] using this
    | succ k => simpa [Addr.add] using this
theorem info_byte : (Tryz.prog.info? 5).map (fun i => (i.zero, i.size, i.bytes)) = some (some (.int .u8 0), 1, 1) := by kernel_rfl
/-- 'append(b, s...)' onto a row that the call owns, s a text. -/
theorem wpList_append_str {ops : Array Oper} {rest : List Oper} {o : Oper} {a : Act} {w : World} {Q : Exit → Act → World → Prop} (hgd : o.guard = none) (sl x : Operand)
    (ho : o.op = .call { callee := .builtin .append, args := #[sl, x], argTypes := #[50, 9] }) (B : Nat) (v : Value) (out m : List UInt8) (s : ByteArray) (hs : a.eval sl = v) (hx : a.eval x = .string s)
    (hS : s = ⟨m.toArray⟩) (hown : OwnF B v out w) (hb : out.length + m.length ≤ 1099511627776) (hB : B ≤ w.heap.size)
    (h : ∀ v' w', OwnF B v' (out ++ m) w' → w.grownBy w' v.ownBlock → wpList Tryz.prog ops Q rest (a.put o.dst v') w') : wpList Tryz.prog ops Q (o :: rest) a w := by
  subst hS
  obtain ⟨i, hi, hz, hz1, hz2⟩ := info_parts info_byte
  refine Lib.wpList_append_own_stringF w hgd sl x 50 9 ho B 5 i Tryz.underlying50 Tryz.underlying9 hi hz hz1 hz2 v out.length (Lib.byteCells out) hs hown ⟨m.toArray⟩ hx (by rw [size_toArray]; unfold maxLen; omega) (by rw [size_toArray]; omega) hB ?_
  intro v' w' ho hg _
  refine h v' w' ?_ hg
  rw [size_toArray, Lib.strCells_eq] at ho
  unfold OwnF
  rw [List.length_append, Lib.byteCells_append]
  exact ho
theorem ownF_red {B : Nat} {v : Value} {l : List UInt8} {w : World} (h : OwnF B v l w) : Red w v l := by
  obtain ⟨a, c, hv, hl, hm, hb⟩ := ownF_shape h
  refine ⟨a, c, hv, hb, fun hn => ?_, hl, hm⟩
  rcases h.2 with ⟨hv2, h0⟩ | ⟨g, cap, cur, fz, hv2, _⟩
  · rw [hv] at hv2
    simp only [Value.slice.injEq] at hv2
    exact ⟨hv2.2.1, hv2.2.2⟩
  · rw [hv] at hv2
    simp only [Value.slice.injEq] at hv2
    rw [hn] at hv2
    exact absurd hv2.1 (by simp)
/-- 'append(b, c...)' onto a row that the call owns, c bytes that lie anywhere. -/
theorem wpList_append_cells {ops : Array Oper} {rest : List Oper} {o : Oper} {a : Act} {w : World} {Q : Exit → Act → World → Prop} (hgd : o.guard = none) (sl x : Operand)
    (ho : o.op = .call { callee := .builtin .append, args := #[sl, x], argTypes := #[50, 50] }) (B : Nat) (v : Value) (out m : List UInt8) (ad : Addr) (n c : Nat) (hs : a.eval sl = v) (hx : a.eval x = .slice (some ad) n c)
    (hn : n = m.length) (hc : ∀ j u, (Lib.byteCells m)[j]? = some u → w.cell? (ad.add j) = some u) (hown : OwnF B v out w) (hb : out.length + m.length ≤ 1099511627776) (hB : B ≤ w.heap.size)
    (h : ∀ v' w', OwnF B v' (out ++ m) w' → w.grownBy w' v.ownBlock → wpList Tryz.prog ops Q rest (a.put o.dst v') w') : wpList Tryz.prog ops Q (o :: rest) a w := by
  subst hn
  obtain ⟨i, hi, hz, hz1, hz2⟩ := info_parts info_byte
  have hbl : (Lib.byteCells m).length = m.length := by simp [Lib.byteCells]
  refine wpList_append_ownF w hgd sl x 50 ho B 5 i (.int .u8 0) 1 1 Tryz.underlying50 hi hz hz1 hz2 rfl (by decide) v out.length (Lib.byteCells out) hs hown ad m.length c (Lib.byteCells m) hx (by rw [hbl]; omega) hc (fun u hu => by simp [Lib.byteCells] at hu; obtain ⟨x, _, rfl⟩ := hu; rfl) (by unfold maxLen; omega) (by omega) hB ?_
  intro v' w' ho hg _
  refine h v' w' ?_ hg
  unfold OwnF
  rw [List.length_append, Lib.byteCells_append]
  exact ho
end Go.Proofs.YtnohonjjfjppoaaGreatDoor

/-
  Layer 8, the program: Right whatever comes; Print.
-/
namespace Go.Proofs.YtnohonjjfjppoaaGreatDoor
set_option maxRecDepth 20000
open Go.RowKit
set_option linter.unusedVariables false
set_option linter.unusedSimpArgs false
set_option maxHeartbeats 2000000 in
theorem pRight_is (a : Option Addr) (n c : Nat) (l : List Itm) (w : World) (hn : n = l.length) (hm : n ≤ maxLen) (hit : ItemsAt w a l) (hid : ∀ i ∈ l, i.id.length = 20) (hnm : ∀ i ∈ l, i.name.length ≤ 1000000) (tab : QTab w) :
    Calls Tryz.prog 94 #[.slice a n c] w fun e w' => e = .returned (.bool (rightIt l)) ∧ Below w.heap.size w w' := by
  unfold maxLen at hm
  by_cases h1 : n = 0
  · have hR := right_no_len l (.inl (by omega))
    rw [hR]
    subst h1
    clear hn hm hit hid hnm tab hR
    go_enter Tryz.func94, Tryz.ntmps94
    go_wp2
    go_ret
    exact ⟨rfl, Below.refl _ _⟩
  · by_cases h5 : 500 < n
    · have hR := right_no_len l (.inr (by omega))
      rw [hR]
      have g1 : ((n : Int) == 0) = false := beq_false_of_ne (by omega)
      have g2 : (n : Int) > 500 := by omega
      clear hn hit hid hnm tab hR h1 h5
      go_enter Tryz.func94, Tryz.ntmps94
      go_wp2
      go_ret
      exact ⟨rfl, Below.refl _ _⟩
    · obtain ⟨b, o, rfl, hb, hc⟩ := hit (by omega)
      exact pRight_some b o n c l w hn (by omega) (by omega) hb hc hid hnm tab
theorem path_len {s : List UInt8} (h : pathL s = true) : s.length ≤ 400 := by
  rw [path_form] at h
  simp only [Bool.and_eq_true, decide_eq_true_eq] at h
  exact h.1.1.1.1
theorem right_one {l : List Itm} (h : rightIt l = true) : ∀ i ∈ l, oneI i = true := by
  intro i hi
  obtain ⟨k, hk, rfl⟩ := List.mem_iff_getElem.1 hi
  have hs := ((rightIt_iff l).1 h).2.2 k hk
  unfold stepI aheadI at hs
  have hg : l.getD k noI = l[k] := by rw [List.getD_eq_getElem?_getD, List.getElem?_eq_getElem hk]; rfl
  rw [hg] at hs
  simp only [Bool.and_eq_true] at hs
  exact hs.1.1
theorem one_parts {i : Itm} (h : oneI i = true) : i.name.length ≤ 400 ∧ 1 ≤ i.mode ∧ i.mode ≤ 4 := by
  unfold oneI nameI at h
  simp only [Bool.and_eq_true, decide_eq_true_eq] at h
  exact ⟨path_len h.1.1.1.1, h.1.2, h.2⟩
theorem flat_le {l : List Itm} (h : ∀ i ∈ l, oneI i = true) (hid : ∀ i ∈ l, i.id.length = 20) : (flatI l).length ≤ 430 * l.length := by
  induction l with
  | nil => simp [flat_nil]
  | cons i l ih =>
    have h1 := (one_parts (h i (by simp))).1
    have h2 := hid i (by simp)
    have h3 := modeL_len i.mode
    have h4 := ih (fun j hj => h j (by simp [hj])) (fun j hj => hid j (by simp [hj]))
    rw [flat_cons, List.length_append, print_length, List.length_cons]
    omega
theorem flat_next (l : List Itm) (i : Nat) (h : i < l.length) : flatI (l.take (i + 1)) = flatI (l.take i) ++ printIt l[i] := by
  rw [List.take_add_one, List.getElem?_eq_getElem h, flat_append]
  simp [flatI]
theorem print_cut (i : Itm) (hm : 1 ≤ i.mode ∧ i.mode ≤ 4) : printIt i = (wordI i.mode ++ [32] ++ i.name ++ [0]) ++ i.id := by
  rw [word_yes _ hm]; unfold printIt; simp
theorem printT_bad {l : List Itm} (h : 0 < l.length) (hr : rightIt l = false) : printT l = ([], 11) := by
  unfold printT
  rw [if_pos ⟨by rintro rfl; simp at h, hr⟩]
theorem printT_good {l : List Itm} (h : l.length = 0 ∨ rightIt l = true) : printT l = if 65536 < (flatI l).length then ([], 5) else (flatI l, 0) := by
  unfold printT
  rw [if_neg]
  rintro ⟨h1, h2⟩
  rcases h with h | h
  · exact h1 (List.eq_nil_of_length_eq_zero h)
  · rw [h] at h2; cases h2
end Go.Proofs.YtnohonjjfjppoaaGreatDoor

/-
  Cut of Yp: pPrint_some, pPrint_is.
-/
namespace Go.Proofs.YtnohonjjfjppoaaGreatDoor
set_option maxRecDepth 20000
open Go.RowKit
set_option linter.unusedVariables false
set_option linter.unusedSimpArgs false
set_option maxHeartbeats 16000000 in
theorem pPrint_some (b o n c : Nat) (l : List Itm) (w : World) (hn : n = l.length) (h1 : 1 ≤ n) (hm : n ≤ maxLen) (hbl : b < w.heap.size)
    (hc : ∀ k (h : k < l.length) j v, (cellsI l[k])[j]? = some v → w.cell? ⟨b, o + k * 22 + j, none⟩ = some v) (hid : ∀ i ∈ l, i.id.length = 20) (hnm : ∀ i ∈ l, i.name.length ≤ 1000000) (tab : QTab w) :
    Calls Tryz.prog 58 #[.slice (some ⟨b, o, none⟩) n c] w fun e w' => ∃ v, e = .returned (.tuple #[v, .int .i64 (printT l).2]) ∧ Red w' v (printT l).1 ∧ Below w.heap.size w w' := by
  have cR := pRight_is (some ⟨b, o, none⟩) n c l w hn hm (fun _ => ⟨b, o, rfl, hbl, hc⟩) hid hnm tab
  have g1 : (n : Int) > 0 := by omega
  have HN := Lib.hid hn; have HC := Lib.hid hc; have HID := Lib.hid hid
  obtain ⟨P, hP⟩ : ∃ P, printT l = P := ⟨_, rfl⟩
  have HP := Lib.hid hP
  rw [hP]
  cases hr : rightIt l with
  | false =>
    rw [hr] at cR
    have hp := (HP.out.symm.trans (printT_bad (by omega) hr))
    subst hp
    clear hn hc hid hnm tab hP hr
    go_enter Tryz.func58, Tryz.ntmps58
    go_wp2_with fail
    refine cR.mono ?_
    rintro e w1 ⟨rfl, b1⟩
    have B1 := Lib.hid b1
    clear b1
    go_wp2
    go_ret2
    exact ⟨_, rfl, Red.none _, B1.out⟩
  | true =>
    rw [hr] at cR
    have h5 := ((rightIt_iff l).1 hr).2.1
    have HP2 := Lib.hid (HP.out.symm.trans (printT_good (.inr hr)))
    have HONE := Lib.hid (right_one hr)
    obtain ⟨z, hz, hzs, hzv, hzb, hz1⟩ := zItem_any
    have HZS := Lib.hid hzs
    have hn5 : n ≤ 500 := by omega
    clear hn hc hid hnm tab hP hr hz hzs hzb hz1 h5
    go_enter Tryz.func58, Tryz.ntmps58
    go_wp2_with fail
    refine cR.mono ?_
    rintro e w1 ⟨rfl, b1⟩
    have B1 := Lib.hid b1
    clear b1 cR
    go_wp2_with fail
    go_loopw [4, 17] (fun v4 v17 wr => ∃ i : Nat, i ≤ n ∧ v17 = .int .i64 i ∧ OwnF w.heap.size v4 (flatI (l.take i)) wr ∧ Below w.heap.size w wr) (fun _ v17 _ => n - (intOf v17).toNat)
    case atStart => exact ⟨0, Nat.zero_le _, rfl, World.ownsRowF_nil w1 _ _ _, B1.out⟩
    case round =>
      obtain ⟨i, hi, rfl, hown, hbr⟩ := hrel
      have HOWN := Lib.hid hown
      have HBR := Lib.hid hbr
      clear hown hbr
      by_cases hlt : i < n
      · have hil : i < l.length := by rw [← HN.out]; exact hlt
        obtain ⟨x, hx2⟩ : ∃ x, l[i] = x := ⟨_, rfl⟩
        have hxm : x ∈ l := by rw [← hx2]; exact List.getElem_mem _
        have hidx := HID.out x hxm
        obtain ⟨o1, o2, o3⟩ := one_parts (HONE.out x hxm)
        have rx : wr.rangeAt b (o + i * 22) (cellsI x) := fun j v hv => (HBR.out.cell (p := ⟨b, o + i * 22 + j, none⟩) hbl).trans (HC.out i hil j v (by rw [hx2]; exact hv))
        have lx : (Tryz.prog.info? 54).map (·.size) = some (cellsI x).length := by rw [cellsI_len x hidx]; exact infoItem
        have HFN := Lib.hid (show flatI (l.take (i + 1)) = flatI (l.take i) ++ (wordI x.mode ++ [32] ++ x.name ++ [0]) ++ x.id by rw [flat_next l i hil, hx2, print_cut x ⟨o2, o3⟩]; simp only [List.append_assoc])
        have fle : (flatI (l.take i)).length ≤ 430 * 500 := by
          have := flat_le (l := l.take i) (fun j hj => HONE.out j (List.mem_of_mem_take hj)) (fun j hj => HID.out j (List.mem_of_mem_take hj))
          rw [List.length_take] at this; omega
        have hcs : (arrI x).size = 22 := arrI_size x hidx
        have hc1 : (arrI x).all (·.oneCell') = true := arrI_one x
        have b1 := below_setRow (B := wr.heap.size) (g := wr.heap.size) ((Below.refl wr.heap.size wr).alloc (Nat.le_refl _) (.cells z 54)) (Nat.le_refl _) (arrI x)
        have h1g := setRow_heap (wr.alloc (.cells z 54)) wr.heap.size z (arrI x) 54 (0, 0) (heap_alloc_new wr _)
        obtain ⟨W1, hW1⟩ : ∃ W1, (wr.alloc (.cells z 54)).setRow wr.heap.size (arrI x) = W1 := ⟨_, rfl⟩
        rw [hW1] at b1 h1g
        have HOW := Lib.hid (ownF_below HOWN.out b1)
        have HBW := Lib.hid (HBR.out.trans (b1.mono HBR.out.size))
        have q0 : W1.cell? ⟨wr.heap.size, 0, none⟩ = some (.int .i64 x.mode) := row_cells h1g 0 _ rfl
        have q1 : W1.cell? ⟨wr.heap.size, 1, none⟩ = some (.string ⟨x.name.toArray⟩) := row_cells h1g 1 _ rfl
        have RX := Lib.hid rx; have LX := Lib.hid lx; have HCS := Lib.hid hcs; have HC1 := Lib.hid hc1; have H1G := Lib.hid h1g
        have hcx : (cellsI x).toArray = arrI x := rfl
        have cW : ∀ u, Calls Tryz.prog 95 #[.int .i64 x.mode] u fun e u' => e = .returned (.string ⟨(wordI x.mode).toArray⟩) ∧ u' = u := fun u => (tword_is x.mode u).mono fun e u' h => ⟨h.1, h.2.symm⟩
        have hwl : (wordI x.mode).length ≤ 6 := by rw [word_yes _ ⟨o2, o3⟩]; exact (modeL_len _).2
        have a1 := fun u => add_lists (P := Tryz.prog) u (wordI x.mode) [32] (by simp; omega)
        have a2 := fun u => add_lists (P := Tryz.prog) u (wordI x.mode ++ [32]) x.name (by simp; omega)
        have a3 := fun u => add_lists (P := Tryz.prog) u (wordI x.mode ++ [32] ++ x.name) [0] (by simp; omega)
        obtain ⟨pre, hpre⟩ : ∃ pre, wordI x.mode ++ [32] ++ x.name ++ [0] = pre := ⟨_, rfl⟩
        have hpl : pre.length ≤ 410 := by rw [← hpre]; simp; omega
        rw [hpre] at a3 HFN
        have HPL := Lib.hid hpl
        have FLE := Lib.hid fle
        have HIDX := Lib.hid hidx
        have HPRE := Lib.hid hpre
        generalize (⟨(wordI x.mode ++ [32] ++ x.name).toArray⟩ : ByteArray) = s3 at a2 a3
        generalize (⟨(wordI x.mode ++ [32]).toArray⟩ : ByteArray) = s2 at a1 a2
        generalize (⟨(wordI x.mode).toArray⟩ : ByteArray) = s1 at a1 cW
        generalize (⟨x.name.toArray⟩ : ByteArray) = sn at q1 a2
        obtain ⟨sp, hsp⟩ : ∃ sp : ByteArray, ⟨pre.toArray⟩ = sp := ⟨_, rfl⟩
        rw [hsp] at a3
        have HSP := Lib.hid hsp
        clear rx lx hcs hc1 b1 h1g hxm hx2 hil fle hidx hpre hpl hsp hwl
        go_wp2_with (first
          | (with_reducible refine wpList_load_mid rfl 54 (.tmp 19) rfl b (o + i * 22) rfl (cellsI x) _ RX.out Tryz.underlying54 rfl LX.out ?_; rw [hcx])
          | (with_reducible refine wpList_store_row rfl 54 (.tmp 6) (.tmp 20) rfl wr.heap.size (arrI x) rfl rfl 54 z (heap_alloc_new wr _) (info_arr _ HCS.out) (HZS.out.trans HCS.out.symm) HC1.out ?_)
          | fail)
        rw [hW1]
        clear hW1
        have HOD := Lib.hid (ownF_below HOW.out (Below.refl _ _).drew)
        go_frame
        go_still_tail 9, (by kernel_rfl)
        still_call (cW _)
        repeat still_step
        refine wpStill_nil ?_
        change wpList _ _ _ _ _ W1.drew
        go_wp2_with (first
          | (at_builtin; refine wpList_append_str rfl _ _ rfl w.heap.size _ (flatI (l.take i)) pre _ rfl rfl HSP.out.symm HOD.out (by have := FLE.out; have := HPL.out; omega) HBW.out.size ?_)
          | fail)
        intro v2 w2 ow2 gw2
        have hb2 := HBW.out.drew.grown gw2 HBW.out.size (fun j hj => (HOD.out.lt j hj).1)
        have hne : u4.ownBlock ≠ some wr.heap.size := fun e => Nat.lt_irrefl _ (HOWN.out.lt _ e).2
        have hx2 : w2.heap[wr.heap.size]? = some (.cells (arrI x) 54 (0, 0)) := (gw2.block _ (lt_of_heap H1G.out) (fun e => hne e.symm)).trans H1G.out
        have hci : ∀ j u, (Lib.byteCells x.id)[j]? = some u → w2.cell? ((⟨wr.heap.size, 2, none⟩ : Addr).add j) = some u := fun j u hu => by
          have := row_cells (i := x) hx2 (j + 2) u hu
          rw [show (⟨wr.heap.size, 2, none⟩ : Addr).add j = ⟨wr.heap.size, 2 + j, none⟩ by unfold Addr.add; split <;> simp_all]
          rwa [show 0 + (j + 2) = 2 + j by omega] at this
        have HCI := Lib.hid hci
        have HO2 := Lib.hid ow2
        have HB2 := Lib.hid hb2
        have sl := fun u => slice20_all u wr.heap.size 2
        clear hb2 hne hx2 hci ow2 gw2
        go_wp2_with (first
          | (at_builtin; refine wpList_append_cells rfl _ _ rfl w.heap.size _ (flatI (l.take i) ++ pre) x.id _ 20 20 rfl rfl HIDX.out.symm HCI.out HO2.out (by have := FLE.out; have := HPL.out; have := HIDX.out; rw [List.length_append]; omega) HB2.out.size ?_)
          | fail)
        intro v3 w3 ow3 gw3
        have HB3 := Lib.hid (HB2.out.grown gw3 HB2.out.size (fun j hj => (HO2.out.lt j hj).1))
        have HO3 := Lib.hid ow3
        clear ow3 gw3
        go_wp2
        go_roundw
        case rel => exact ⟨i + 1, by omega, by go_num, by rw [HFN.out, List.append_assoc]; exact HO3.out, HB3.out⟩
        case measure => simp [intOf]; omega
      · have hin : i = l.length := by rw [← HN.out]; omega
        have hfl : l.take i = l := by rw [hin, List.take_length]
        have hown := HOWN.out
        rw [hfl] at hown
        obtain ⟨a', c', hv, hl', hm', hb'⟩ := ownF_shape hown
        have HRD := Lib.hid (ownF_red hown)
        subst hv
        have HFL := Lib.hid (show (flatI l).length ≤ 430 * 500 by
          have := flat_le HONE.out HID.out
          have := HN.out
          omega)
        have hfl2 := HFL.out
        have hp := HP2.out
        obtain ⟨fl, hfl3⟩ : ∃ fl, flatI l = fl := ⟨_, rfl⟩
        rw [hfl3] at hp hfl2 ⊢
        have hrd := HRD.out
        rw [hfl3] at hrd
        have HRE := Lib.hid hrd
        clear hin hfl hown hl' hm' hb' HOWN HRD HFL hrd
        by_cases h64 : 65536 < fl.length
        · rw [if_pos h64] at hp
          subst hp
          have g6 : (fl.length : Int) > 65536 := by omega
          clear h64 hfl3
          go_wp2
          go_ret2
          exact ⟨_, rfl, Red.none _, HBR.out⟩
        · rw [if_neg h64] at hp
          subst hp
          have g6 : ¬ (fl.length : Int) > 65536 := by omega
          clear h64 hfl3
          go_wp2
          go_ret2
          exact ⟨_, rfl, HRE.out, HBR.out⟩
set_option maxHeartbeats 4000000 in
theorem pPrint_is (a : Option Addr) (n c : Nat) (l : List Itm) (w : World) (hn : n = l.length) (hm : n ≤ maxLen) (hit : ItemsAt w a l) (hid : ∀ i ∈ l, i.id.length = 20) (hnm : ∀ i ∈ l, i.name.length ≤ 1000000) (tab : QTab w) :
    Calls Tryz.prog 58 #[.slice a n c] w fun e w' => ∃ v, e = .returned (.tuple #[v, .int .i64 (printT l).2]) ∧ Red w' v (printT l).1 ∧ Below w.heap.size w w' := by
  by_cases h1 : n = 0
  · obtain rfl : l = [] := List.eq_nil_of_length_eq_zero (by omega)
    have hp : printT [] = ([], 0) := by rw [printT_good (.inl rfl)]; rfl
    rw [hp]
    subst h1
    clear hn hm hit hid hnm tab hp
    go_enter Tryz.func58, Tryz.ntmps58
    go_wp2_with fail
    refine wp_loop_rounds 1 ?_
    rw [rounds_succ]
    go_wp2
    go_ret2
    exact ⟨_, rfl, Red.none _, Below.refl _ _⟩
  · obtain ⟨b, o, rfl, hb, hc⟩ := hit (by omega)
    exact pPrint_some b o n c l w hn (by omega) hm hb hc hid hnm tab
end Go.Proofs.YtnohonjjfjppoaaGreatDoor
