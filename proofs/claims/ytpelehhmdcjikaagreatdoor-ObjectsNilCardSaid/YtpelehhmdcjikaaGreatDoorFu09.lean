/-
  Texts that belong together, one behind the other.
-/
import Derived.Test.YtpelehhmdcjikaaGreatDoorFu07
import Derived.Test.YtpelehhmdcjikaaGreatDoorFu08
import Derived.Test.YtpelehhmdcjikaaGreatDoorFu03
import Derived.Laws.Entries
import Derived.Laws.BitsAllLaws
/-
  Layer 10, the document's answers: an object told by its id.
-/
namespace Go.Proofs.YtpelehhmdcjikaaGreatDoor
set_option maxRecDepth 20000
open Go.RowKit
set_option linter.unusedVariables false
set_option linter.unusedSimpArgs false
theorem results_ob10 {fn : Func} {p u : Tmp} (h : fn.results = #[.cell p 34, .tmp u]) (tmps : Array Value) (w : World) (g : Nat) (cs : Array Value) (fr : Nat × Nat) (x : Value)
    (hp : tmps.getD p undef = .pointer (some ⟨g, 0, none⟩)) (hx : tmps.getD u undef = x) (hg : w.heap[g]? = some (.cells cs 34 fr)) (hn : cs.size = 2) :
    (results fn tmps).run Tryz.prog w = .ok (.tuple #[.agg cs, x]) w := by
  rw [results_cell_tmp h, hp, hx]
  have e : (asAddr (.pointer (some ⟨g, 0, none⟩))).run Tryz.prog w = .ok ⟨g, 0, none⟩ w := rfl
  rw [e]
  simp only [Result.andThen_ok]
  rw [run_loadVar_row w g 34 34 cs fr _ hg Tryz.underlying34 rfl (by rw [infoOb, hn])]
  rfl
theorem built_ob0 : Tryz.prog.built 34 [] = some #[.int .i64 0, .slice none 0 0] := by kernel_rfl
theorem redS_nil (S : Nat → Prop) (w : World) : RedS S w (.slice none 0 0) [] := ⟨none, 0, rfl, BAt.nil w _, fun _ => ⟨rfl, rfl⟩, Nat.le_refl _, Nat.zero_le _, fun ad h => absurd h (Nat.lt_irrefl 0)⟩
end Go.Proofs.YtpelehhmdcjikaaGreatDoor

/-
  Layer 10, the document's answers: an object of a kind, its bytes.
-/
namespace Go.Proofs.YtpelehhmdcjikaaGreatDoor
set_option maxRecDepth 20000
open Go.RowKit
set_option linter.unusedVariables false
set_option linter.unusedSimpArgs false
/-- The bytes of an object of a kind, and what is answered. -/
def ofS (o : Option Cel) (k : Int) : List UInt8 × Int :=
  match o with
  | some c => if c.kind = k then (c.body, 0) else ([], 10)
  | none => ([], 6)
theorem ofS_some {c : Cel} {k : Int} (h : c.kind = k) : ofS (some c) k = (c.body, 0) := if_pos h
theorem ofS_other {c : Cel} {k : Int} (h : c.kind ≠ k) : ofS (some c) k = ([], 10) := if_neg h
end Go.Proofs.YtpelehhmdcjikaaGreatDoor

/-
  Layer 10, the program: the bytes of an object of a kind (body).
-/
namespace Go.Proofs.YtpelehhmdcjikaaGreatDoor
set_option maxRecDepth 20000
open Go.RowKit Go.Maps
set_option linter.unusedVariables false
set_option linter.unusedSimpArgs false
theorem findP_some {S : Nat → Prop} {w : World} {g : Nat} {M : List Cel} (h : StoreP S w g M) (i : List UInt8) (hi : i.length = 20) {x : Cel} (hx : getM M i = some x) :
    ∃ T v, (T = 119 ∨ T = 121 ∨ T = 123) ∧ (∃ a n c, v = .slice a n c) ∧ thingP x.kind v = .iface T (.agg #[v]) ∧ kindO x.kind ∧ RedS S w v x.body ∧
    ∀ u, Below w.heap.size w u → Calls Tryz.prog 45 #[.pointer (some ⟨g, 0, none⟩), .agg (arrD i)] u fun e w' => e = .returned (.tuple #[.iface T (.agg #[v]), .int .i64 0]) ∧ Below u.heap.size u w' := by
  obtain ⟨mb, v, hl, hr, hk, hv⟩ := h.look_some hx
  obtain ⟨T, hT, hth⟩ := kind_ty hk
  refine ⟨T, v, hT, hv, hth v, hk, hr.mono (fun k _ h => h.1), fun u hu => ?_⟩
  have := findP_any (w := u) (g := g) i hi (fun u2 hu2 => hl u2 (hu.trans (hu2.mono hu.size)))
  rw [hth v] at this
  exact this
theorem findP_gone {S : Nat → Prop} {w : World} {g : Nat} {M : List Cel} (h : StoreP S w g M) (i : List UInt8) (hi : i.length = 20) (hx : getM M i = none) :
    ∀ u, Below w.heap.size w u → Calls Tryz.prog 45 #[.pointer (some ⟨g, 0, none⟩), .agg (arrD i)] u fun e w' => e = .returned (.tuple #[.nilIface, .int .i64 6]) ∧ Below u.heap.size u w' := by
  obtain ⟨mb, hl⟩ := h.look_none hi hx
  exact fun u hu => findP_any (w := u) (g := g) i hi (fun u2 hu2 => hl u2 (hu.trans (hu2.mono hu.size)))
set_option maxHeartbeats 16000000 in
theorem bodyP_nil (i : List UInt8) (hi : i.length = 20) (k : Int) (w : World) :
    Calls Tryz.prog 48 #[.pointer none, .agg (arrD i), .int .i64 k] w fun e w' => e = .returned (.tuple #[.slice none 0 0, .int .i64 2]) ∧ Below w.heap.size w w' := by
  obtain ⟨A1, hA1⟩ : ∃ A, arrD i = A := ⟨_, rfl⟩
  have sA : A1.size = 20 := by rw [← hA1]; exact arrD_size i hi
  have H1 := Lib.hid (heap_alloc_new w (.cells A1 24)); have B1 := Lib.hid ((Below.refl w.heap.size w).alloc (Nat.le_refl _) (.cells A1 24))
  have IA := Lib.hid (show (Tryz.prog.info? 24).map (·.size) = some A1.size from by rw [sA]; exact infoD_n)
  have CF := Lib.hid (fun u => findP_nil i u)
  rw [hA1] at CF ⊢
  clear sA
  go_enter Tryz.func48, Tryz.ntmps48
  go_wp2_with (first
    | (with_reducible refine wpList_load_all 24 (.tmp 4) rfl (by kernel_rfl) w.heap.size A1 24 (0, 0) rfl H1.out _ Tryz.underlying24 rfl IA.out ?_)
    | fail)
  refine (CF.out _).mono ?_
  rintro e w3 ⟨rfl, hb3⟩
  have HB3 := Lib.hid (B1.out.trans (hb3.mono B1.out.size))
  clear hb3
  go_wp2
  go_ret2
  exact ⟨rfl, HB3.out⟩
set_option maxHeartbeats 16000000 in
theorem bodyP_is {S : Nat → Prop} {w : World} {g : Nat} {M : List Cel} (h : StoreP S w g M) (i : List UInt8) (hi : i.length = 20) (k : Int) :
    Calls Tryz.prog 48 #[.pointer (some ⟨g, 0, none⟩), .agg (arrD i), .int .i64 k] w fun e w' => ∃ v, e = .returned (.tuple #[v, .int .i64 (ofS (getM M i) k).2]) ∧ RedS S w' v (ofS (getM M i) k).1 ∧ Below w.heap.size w w' := by
  obtain ⟨A1, hA1⟩ : ∃ A, arrD i = A := ⟨_, rfl⟩
  have sA : A1.size = 20 := by rw [← hA1]; exact arrD_size i hi
  have H1 := Lib.hid (heap_alloc_new w (.cells A1 24)); have B1 := Lib.hid ((Below.refl w.heap.size w).alloc (Nat.le_refl _) (.cells A1 24))
  have IA := Lib.hid (show (Tryz.prog.info? 24).map (·.size) = some A1.size from by rw [sA]; exact infoD_n)
  cases hx : getM M i with
  | none =>
    have CF := Lib.hid (findP_gone h i hi hx)
    rw [hA1] at CF ⊢
    clear sA h
    go_enter Tryz.func48, Tryz.ntmps48
    go_wp2_with (first
      | (with_reducible refine wpList_load_all 24 (.tmp 4) rfl (by kernel_rfl) w.heap.size A1 24 (0, 0) rfl H1.out _ Tryz.underlying24 rfl IA.out ?_)
      | fail)
    refine (CF.out _ B1.out).mono ?_
    rintro e w3 ⟨rfl, hb3⟩
    have HB3 := Lib.hid (B1.out.trans (hb3.mono B1.out.size))
    clear hb3
    go_wp2
    go_ret2
    exact ⟨_, rfl, redS_nil _ _, HB3.out⟩
  | some x =>
    obtain ⟨T, v, hT, ⟨a, n, c, rfl⟩, hth, hk, hr, hf⟩ := findP_some h i hi hx
    have CF := Lib.hid hf
    have CK := Lib.hid (fun u => hth ▸ kind_is x.kind hk a n c u)
    have HR := Lib.hid hr
    have m := m_bytes T hT (.slice a n c)
    have cb := fun w => obytes_is a n c w
    obtain ⟨kd, hkd⟩ : ∃ kd, x.kind = kd := ⟨_, rfl⟩
    rw [hA1] at CF ⊢
    rw [hkd] at CK
    by_cases hkk : kd = k
    · have HO := Lib.hid (show ofS (some x) k = (x.body, 0) from ofS_some (hkd.trans hkk))
      clear sA h hT hf hr hk hth hkd
      subst hkk
      go_enter Tryz.func48, Tryz.ntmps48
      go_wp2_with (first
        | (with_reducible refine wpList_load_all 24 (.tmp 4) rfl (by kernel_rfl) w.heap.size A1 24 (0, 0) rfl H1.out _ Tryz.underlying24 rfl IA.out ?_)
        | fail)
      refine (CF.out _ B1.out).mono ?_
      rintro e w3 ⟨rfl, hb3⟩
      have HB3 := Lib.hid (B1.out.trans (hb3.mono B1.out.size))
      clear hb3
      go_wp2_with fail
      refine (CK.out _).mono ?_
      rintro e w4 ⟨rfl, hb4⟩
      have HB4 := Lib.hid (HB3.out.trans (hb4.mono HB3.out.size))
      clear hb4
      go_wp2_with fail
      refine (cb _).mono ?_
      rintro e w5 ⟨rfl, rfl⟩
      go_wp2
      go_ret2
      exact ⟨_, by rw [HO.out]; rfl, by rw [HO.out]; exact HR.out.keep (Stays.of HB4.out), HB4.out⟩
    · have HO := Lib.hid (show ofS (some x) k = ([], 10) from ofS_other (fun e => hkk (hkd.symm.trans e)))
      have hne : (kd != k) = true := bne_iff_ne.2 hkk
      clear sA h hT hf hr hk hth hkd hkk
      go_enter Tryz.func48, Tryz.ntmps48
      go_wp2_with (first
        | (with_reducible refine wpList_load_all 24 (.tmp 4) rfl (by kernel_rfl) w.heap.size A1 24 (0, 0) rfl H1.out _ Tryz.underlying24 rfl IA.out ?_)
        | fail)
      refine (CF.out _ B1.out).mono ?_
      rintro e w3 ⟨rfl, hb3⟩
      have HB3 := Lib.hid (B1.out.trans (hb3.mono B1.out.size))
      clear hb3
      go_wp2_with fail
      refine (CK.out _).mono ?_
      rintro e w4 ⟨rfl, hb4⟩
      have HB4 := Lib.hid (HB3.out.trans (hb4.mono HB3.out.size))
      clear hb4
      go_wp2
      go_ret2
      exact ⟨_, by rw [HO.out]; rfl, by rw [HO.out]; exact redS_nil _ _, HB4.out⟩
end Go.Proofs.YtpelehhmdcjikaaGreatDoor

/-
  Layer 7: an object as a value of its kind's type, and its word.
-/
namespace Go.Proofs.YtpelehhmdcjikaaGreatDoor
set_option maxRecDepth 20000
open Go.RowKit
set_option linter.unusedVariables false
set_option linter.unusedSimpArgs false
/-- An object as a value of its kind's type. -/
def thingV (k : Int) (v : Value) : Value := if k = 1 then .iface 135 (.agg #[v]) else if k = 2 then .iface 136 (.agg #[v]) else if k = 3 then .iface 137 (.agg #[v]) else .nilIface
theorem thing1 (v : Value) : thingV 1 v = .iface 135 (.agg #[v]) := rfl
theorem thing2 (v : Value) : thingV 2 v = .iface 136 (.agg #[v]) := rfl
theorem thing3 (v : Value) : thingV 3 v = .iface 137 (.agg #[v]) := rfl
theorem thing_none (k : Int) (v : Value) (h : ¬ kindO k) : thingV k v = .nilIface := by
  unfold kindO at h; unfold thingV
  rw [if_neg (fun e => h (.inl e)), if_neg (fun e => h (.inr (.inl e))), if_neg (fun e => h (.inr (.inr e)))]
theorem wordO_not (k : Int) (h : ¬ kindO k) : wordO k = [] := (wordO_nil k).2 h
set_option maxHeartbeats 2000000 in
theorem typed_is (k : Int) (a : Option Addr) (n c : Nat) (w : World) :
    Calls Tryz.prog 52 #[.agg #[.int .i64 k, .slice a n c]] w fun e w' => e = .returned (thingV k (.slice a n c)) ∧ Below w.heap.size w w' := by
  by_cases h1 : k = 1
  · subst h1
    rw [thing1]
    have B0 := Lib.hid ((Below.refl w.heap.size w).alloc (Nat.le_refl _) (.cells #[.int .i64 1, .slice a n c] 34))
    go_enter Tryz.func52, Tryz.ntmps52
    go_wp2
    go_ret
    exact ⟨rfl, B0.out⟩
  · by_cases h2 : k = 2
    · subst h2
      rw [thing2]
      have B0 := Lib.hid ((Below.refl w.heap.size w).alloc (Nat.le_refl _) (.cells #[.int .i64 2, .slice a n c] 34))
      go_enter Tryz.func52, Tryz.ntmps52
      go_wp2
      go_ret
      exact ⟨rfl, B0.out⟩
    · by_cases h3 : k = 3
      · subst h3
        rw [thing3]
        have B0 := Lib.hid ((Below.refl w.heap.size w).alloc (Nat.le_refl _) (.cells #[.int .i64 3, .slice a n c] 34))
        go_enter Tryz.func52, Tryz.ntmps52
        go_wp2
        go_ret
        exact ⟨rfl, B0.out⟩
      · rw [thing_none k _ (by unfold kindO; omega)]
        have B0 := Lib.hid ((Below.refl w.heap.size w).alloc (Nat.le_refl _) (.cells #[.int .i64 k, .slice a n c] 34))
        go_enter Tryz.func52, Tryz.ntmps52
        go_wp2
        go_ret
        exact ⟨rfl, B0.out⟩
theorem ta_same (T : TypeId) (hT : T = 135 ∨ T = 136 ∨ T = 137) (x : Value) (w : World) : (Instr.typeAssert (.iface T x) 99 T true).run Tryz.prog w = .ok (.tuple #[x, .bool true]) w := by
  rcases hT with rfl | rfl | rfl <;> kernel_rfl
theorem ta_21 (x : Value) (w : World) : (Instr.typeAssert (.iface 136 x) 99 135 true).run Tryz.prog w = .ok (.tuple #[.agg #[.slice none 0 0], .bool false]) w := by kernel_rfl
theorem ta_31 (x : Value) (w : World) : (Instr.typeAssert (.iface 137 x) 99 135 true).run Tryz.prog w = .ok (.tuple #[.agg #[.slice none 0 0], .bool false]) w := by kernel_rfl
theorem ta_32 (x : Value) (w : World) : (Instr.typeAssert (.iface 137 x) 99 136 true).run Tryz.prog w = .ok (.tuple #[.agg #[.slice none 0 0], .bool false]) w := by kernel_rfl
theorem ta_n1 (w : World) : (Instr.typeAssert .nilIface 99 135 true).run Tryz.prog w = .ok (.tuple #[.agg #[.slice none 0 0], .bool false]) w := by kernel_rfl
theorem ta_n2 (w : World) : (Instr.typeAssert .nilIface 99 136 true).run Tryz.prog w = .ok (.tuple #[.agg #[.slice none 0 0], .bool false]) w := by kernel_rfl
theorem ta_n3 (w : World) : (Instr.typeAssert .nilIface 99 137 true).run Tryz.prog w = .ok (.tuple #[.agg #[.slice none 0 0], .bool false]) w := by kernel_rfl
set_option maxHeartbeats 4000000 in
theorem word_blob (a : Option Addr) (n c : Nat) (w : World) :
    Calls Tryz.prog 76 #[.iface 135 (.agg #[.slice a n c])] w fun e w' => e = .returned (.string ⟨#[98, 108, 111, 98]⟩) ∧ Below w.heap.size w w' := by
  have t1 := ta_same 135 (by simp) (.agg #[.slice a n c])
  have B0 := (Below.refl w.heap.size w).alloc (Nat.le_refl _) (.cells #[.slice a n c] 135)
  have B := Lib.hid B0
  clear B0
  go_enter Tryz.func76, Tryz.ntmps76
  go_wp2
  go_ret
  exact ⟨rfl, B.out⟩
set_option maxHeartbeats 4000000 in
theorem word_tree (a : Option Addr) (n c : Nat) (w : World) :
    Calls Tryz.prog 76 #[.iface 136 (.agg #[.slice a n c])] w fun e w' => e = .returned (.string ⟨#[116, 114, 101, 101]⟩) ∧ Below w.heap.size w w' := by
  have t1 := ta_21 (.agg #[.slice a n c])
  have t2 := ta_same 136 (by simp) (.agg #[.slice a n c])
  have B0 := (Below.refl w.heap.size w).alloc (Nat.le_refl _) (.cells #[.slice none 0 0] 135)
  have B1 := B0.alloc B0.size (.cells #[.slice a n c] 136)
  have B := Lib.hid B1
  clear B0 B1
  go_enter Tryz.func76, Tryz.ntmps76
  go_wp2
  go_ret
  exact ⟨rfl, B.out⟩
set_option maxHeartbeats 4000000 in
theorem word_commit (a : Option Addr) (n c : Nat) (w : World) :
    Calls Tryz.prog 76 #[.iface 137 (.agg #[.slice a n c])] w fun e w' => e = .returned (.string ⟨#[99, 111, 109, 109, 105, 116]⟩) ∧ Below w.heap.size w w' := by
  have t1 := ta_31 (.agg #[.slice a n c])
  have t2 := ta_32 (.agg #[.slice a n c])
  have t3 := ta_same 137 (by simp) (.agg #[.slice a n c])
  have B0 := (Below.refl w.heap.size w).alloc (Nat.le_refl _) (.cells #[.slice none 0 0] 135)
  have B1 := B0.alloc B0.size (.cells #[.slice none 0 0] 136)
  have B2 := B1.alloc B1.size (.cells #[.slice a n c] 137)
  have B := Lib.hid B2
  clear B0 B1 B2
  go_enter Tryz.func76, Tryz.ntmps76
  go_wp2
  go_ret
  exact ⟨rfl, B.out⟩
set_option maxHeartbeats 4000000 in
theorem word_nil (w : World) :
    Calls Tryz.prog 76 #[.nilIface] w fun e w' => e = .returned (.string ⟨#[]⟩) ∧ Below w.heap.size w w' := by
  have t1 := ta_n1
  have t2 := ta_n2
  have t3 := ta_n3
  have B0 := (Below.refl w.heap.size w).alloc (Nat.le_refl _) (.cells #[.slice none 0 0] 135)
  have B1 := B0.alloc B0.size (.cells #[.slice none 0 0] 136)
  have B2 := B1.alloc B1.size (.cells #[.slice none 0 0] 137)
  have B := Lib.hid B2
  clear B0 B1 B2
  go_enter Tryz.func76, Tryz.ntmps76
  go_wp2
  go_ret
  exact ⟨rfl, B.out⟩
theorem kindO_dec (k : Int) : kindO k ∨ ¬ kindO k := Classical.em _
theorem oword_is (k : Int) (a : Option Addr) (n c : Nat) (w : World) :
    Calls Tryz.prog 76 #[thingV k (.slice a n c)] w fun e w' => e = .returned (.string ⟨(wordO k).toArray⟩) ∧ Below w.heap.size w w' := by
  rcases kindO_dec k with h | h
  · rcases h with rfl | rfl | rfl
    · exact word_blob a n c w
    · exact word_tree a n c w
    · exact word_commit a n c w
  · rw [thing_none k _ h, wordO_not k h]
    exact word_nil w
/-- How many bytes a thing has. -/
theorem m_size (T : TypeId) (hT : T = 135 ∨ T = 136 ∨ T = 137) (x : Value) (w : World) : (method 406 T (.agg #[x]) "trestle/object.size").run Tryz.prog w = .ok (259, x) w := by
  rcases hT with rfl | rfl | rfl <;> kernel_rfl
set_option maxHeartbeats 1000000 in
theorem size_is (a : Option Addr) (n c : Nat) (w : World) :
    Calls Tryz.prog 259 #[.slice a n c] w fun e w' => e = .returned (.int .i64 n) ∧ w = w' := by
  go_enter Tryz.func259, Tryz.ntmps259
  go_wp2
  go_ret
  exact ⟨rfl, rfl⟩
end Go.Proofs.YtpelehhmdcjikaaGreatDoor

/-
  Layer 7: the head of an object.
-/
namespace Go.Proofs.YtpelehhmdcjikaaGreatDoor
set_option maxRecDepth 20000
open Go.RowKit
set_option linter.unusedVariables false
set_option linter.unusedSimpArgs false
set_option maxHeartbeats 4000000 in
theorem head_none (w : World) : Calls Tryz.prog 51 #[.nilIface] w fun e w' => e = .returned (.tuple #[.slice none 0 0, .int .i64 10]) ∧ Below w.heap.size w w' := by
  have cW := fun w => word_nil w
  go_enter Tryz.func51, Tryz.ntmps51
  go_wp2_with fail
  refine (cW _).mono ?_
  rintro e w1 ⟨rfl, b1⟩
  have B1 := Lib.hid b1
  clear b1
  go_wp2
  go_ret2
  exact ⟨rfl, B1.out⟩
set_option maxHeartbeats 4000000 in
theorem head_limit (T : TypeId) (hT : T = 135 ∨ T = 136 ∨ T = 137) (a : Option Addr) (n c : Nat) (wd : List UInt8) (hwd : wd ≠ [])
    (hw : ∀ w, Calls Tryz.prog 76 #[.iface T (.agg #[.slice a n c])] w fun e w' => e = .returned (.string ⟨wd.toArray⟩) ∧ Below w.heap.size w w') (hn : 65536 < n) (hm : n ≤ maxLen) (w : World) :
    Calls Tryz.prog 51 #[.iface T (.agg #[.slice a n c])] w fun e w' => e = .returned (.tuple #[.slice none 0 0, .int .i64 5]) ∧ Below w.heap.size w w' := by
  unfold maxLen at hm
  have fe : (wd == ([] : List UInt8)) = false := by rw [beq_eq_false_iff_ne]; exact hwd
  have fi : wd.isEmpty = false := by cases wd with | nil => exact absurd rfl hwd | cons _ _ => rfl
  have m := m_size T hT (.slice a n c)
  have cs := fun w => size_is a n c w
  clear hT hwd
  go_enter Tryz.func51, Tryz.ntmps51
  go_wp2_with fail
  refine (hw _).mono ?_
  rintro e w1 ⟨rfl, b1⟩
  have B1 := Lib.hid b1
  clear b1
  go_wp2_with fail
  refine (cs _).mono ?_
  rintro e w2 ⟨rfl, rfl⟩
  go_wp2
  go_ret2
  exact ⟨rfl, B1.out⟩
set_option maxHeartbeats 8000000 in
theorem head_ok (T : TypeId) (hT : T = 135 ∨ T = 136 ∨ T = 137) (a : Option Addr) (n c : Nat) (wd : List UInt8) (hwd : wd ≠ []) (wl : wd.length ≤ 6)
    (hw : ∀ w, Calls Tryz.prog 76 #[.iface T (.agg #[.slice a n c])] w fun e w' => e = .returned (.string ⟨wd.toArray⟩) ∧ Below w.heap.size w w') (hn : n ≤ 65536) (w : World) (tab : Tab w) :
    Calls Tryz.prog 51 #[.iface T (.agg #[.slice a n c])] w fun e w' => ∃ g cap, e = .returned (.tuple #[.slice (some ⟨g, 0, none⟩) (wd ++ 32 :: numO n ++ [0]).length cap, .int .i64 0]) ∧ RowX w' g cap (wd ++ 32 :: numO n ++ [0]) ∧ w.heap.size ≤ g ∧ Below w.heap.size w w' := by
  have fe : (wd == ([] : List UInt8)) = false := by rw [beq_eq_false_iff_ne]; exact hwd
  have fi : wd.isEmpty = false := by cases wd with | nil => exact absurd rfl hwd | cons _ _ => rfl
  have m := m_size T hT (.slice a n c)
  have cs := fun w => size_is a n c w
  have hO : wd ++ 32 :: numO n ++ [0] = wd ++ [32] ++ numO n ++ [0] := by simp
  rw [hO]
  have nl : (numO n).length ≤ 5 := numO_le n 4 (by omega)
  have cN := fun w t => Number_any (n : Int) (by omega) (by omega) w t
  rw [show Lib.itoa (n : Int) = numO n from rfl] at cN
  generalize numO n = nm at cN nl ⊢
  have ad0 := fun w => add_lists (P := Tryz.prog) w wd [32] (by simp; omega)
  have ad1 := fun w => add_lists (P := Tryz.prog) w (wd ++ [32]) nm (by simp; omega)
  have ad2 := fun w => add_lists (P := Tryz.prog) w (wd ++ [32] ++ nm) [0] (by simp; omega)
  obtain ⟨hd, hhd⟩ : ∃ hd, wd ++ [32] ++ nm ++ [0] = hd := ⟨_, rfl⟩
  have hdl : hd.length ≤ 13 := by rw [← hhd]; simp; omega
  rw [hhd] at ad2 ⊢
  have SR := Lib.hid (fun w => str_row w hd (by omega))
  generalize (⟨hd.toArray⟩ : ByteArray) = s3 at ad2 SR
  generalize (⟨(wd ++ [32] ++ nm).toArray⟩ : ByteArray) = s2 at ad1 ad2
  generalize (⟨(wd ++ [32]).toArray⟩ : ByteArray) = s1 at ad0 ad1
  generalize (⟨nm.toArray⟩ : ByteArray) = sn at ad1 cN
  have TB := Lib.hid tab
  have hn2 : n ≤ 1000000 := by omega
  obtain ⟨hl, hhl⟩ : ∃ hl, hd.length = hl := ⟨_, rfl⟩
  have HHL := Lib.hid hhl
  rw [hhl] at SR hdl ⊢
  clear hT hwd tab hO hhd nl hhl
  go_enter Tryz.func51, Tryz.ntmps51
  go_wp2_with fail
  refine (hw _).mono ?_
  rintro e w1 ⟨rfl, b1⟩
  have B1 := Lib.hid b1
  clear b1
  go_wp2_with fail
  refine (cs _).mono ?_
  rintro e w2 ⟨rfl, rfl⟩
  go_wp2_with fail
  refine (cN _ (TB.out.keep B1.out)).mono ?_
  rintro e w3 ⟨rfl, b3⟩
  obtain ⟨cap, w4, cv, b4, r4⟩ := SR.out w3
  have B4 := Lib.hid ((B1.out.trans (b3.mono B1.out.size)).trans (b4.mono (Nat.le_trans B1.out.size b3.size)))
  have HS := Lib.hid (Nat.le_trans B1.out.size b3.size)
  have R4 := Lib.hid r4
  clear b3 b4 r4
  go_wp2
  go_ret2
  exact ⟨_, _, rfl, R4.out, HS.out, B4.out⟩
end Go.Proofs.YtpelehhmdcjikaaGreatDoor

/-
  Layer 2, plain: SHA-1 over words of 32 bits, as lists and functions; nothing of the program.
-/
namespace Go.Proofs.YtpelehhmdcjikaaGreatDoor
open Go
set_option linter.unusedVariables false
structure H5 where
  a : BitVec 32
  b : BitVec 32
  c : BitVec 32
  d : BitVec 32
  e : BitVec 32
def H5.get (h : H5) : Nat → BitVec 32
  | 0 => h.a
  | 1 => h.b
  | 2 => h.c
  | 3 => h.d
  | _ => h.e
def h0 : H5 := ⟨0x67452301#32, 0xefcdab89#32, 0x98badcfe#32, 0x10325476#32, 0xc3d2e1f0#32⟩
/-- Turned to9 the left. -/
def rl (x : BitVec 32) (n : Nat) : BitVec 32 := (x <<< n) ||| (x >>> (32 - n))
/-- What a step makes of three words. -/
def fF (t : Nat) (b c d : BitVec 32) : BitVec 32 :=
  if t < 20 then (b &&& c) ||| (~~~b &&& d)
  else if t < 40 then b ^^^ c ^^^ d
  else if t < 60 then (b &&& c) ||| (b &&& d) ||| (c &&& d)
  else b ^^^ c ^^^ d
/-- The constant of a step. -/
def kF (t : Nat) : BitVec 32 :=
  if t < 20 then 0x5a827999#32
  else if t < 40 then 0x6ed9eba1#32
  else if t < 60 then 0x8f1bbcdc#32
  else 0xca62c1d6#32
def fk (t : Nat) (b c d : BitVec 32) : BitVec 32 := fF t b c d + kF t
def stepH (t : Nat) (w : BitVec 32) (s : H5) : H5 := ⟨rl s.a 5 + fk t s.b s.c s.d + s.e + w, s.a, rl s.b 30, s.c, s.d⟩
/-- Four bytes, the first one the greatest. -/
def word (p q r s : UInt8) : BitVec 32 := (p.toBitVec.setWidth 32 <<< 24) ||| (q.toBitVec.setWidth 32 <<< 16) ||| (r.toBitVec.setWidth 32 <<< 8) ||| s.toBitVec.setWidth 32
def nextW (m : Nat → UInt8) (l : List (BitVec 32)) (k : Nat) : BitVec 32 :=
  if k < 16 then word (m (4 * k)) (m (4 * k + 1)) (m (4 * k + 2)) (m (4 * k + 3))
  else rl (l.getD (k - 3) 0 ^^^ l.getD (k - 8) 0 ^^^ l.getD (k - 14) 0 ^^^ l.getD (k - 16) 0) 1
def sched (m : Nat → UInt8) : Nat → List (BitVec 32)
  | 0 => []
  | k + 1 => sched m k ++ [nextW m (sched m k) k]
theorem sched_len (m : Nat → UInt8) : ∀ k, (sched m k).length = k
  | 0 => rfl
  | k + 1 => by simp [sched, sched_len m k]
theorem sched_getD (m : Nat → UInt8) (i : Nat) : ∀ k, i < k → (sched m k).getD i 0 = nextW m (sched m i) i
  | 0, h => absurd h (Nat.not_lt_zero _)
  | k + 1, h => by
    rw [sched, List.getD_eq_getElem?_getD]
    by_cases hi : i < k
    · rw [List.getElem?_append_left (by rw [sched_len]; exact hi), ← List.getD_eq_getElem?_getD]
      exact sched_getD m i k hi
    · obtain rfl : i = k := by omega
      rw [List.getElem?_append_right (by rw [sched_len]; exact Nat.le_refl _), sched_len]
      simp
def W80 (m : Nat → UInt8) (j : Nat) : BitVec 32 := (sched m 80).getD j 0
theorem W80_lo (m : Nat → UInt8) (j : Nat) (h : j < 16) : W80 m j = word (m (4 * j)) (m (4 * j + 1)) (m (4 * j + 2)) (m (4 * j + 3)) := by
  unfold W80; rw [sched_getD m j 80 (by omega)]; unfold nextW; rw [if_pos h]
theorem W80_hi (m : Nat → UInt8) (j : Nat) (h : 16 ≤ j) (h2 : j < 80) : W80 m j = rl (W80 m (j - 3) ^^^ W80 m (j - 8) ^^^ W80 m (j - 14) ^^^ W80 m (j - 16)) 1 := by
  unfold W80
  rw [sched_getD m j 80 h2]; unfold nextW; rw [if_neg (by omega)]
  have e : ∀ i, i < j → (sched m j).getD i 0 = (sched m 80).getD i 0 := fun i hi => by rw [sched_getD m i 80 (by omega), sched_getD m i j hi]
  rw [e _ (by omega), e _ (by omega), e _ (by omega), e _ (by omega)]
def rounds (l : List (BitVec 32)) (s : H5) : Nat → H5
  | 0 => s
  | t + 1 => stepH t (l.getD t 0) (rounds l s t)
theorem rounds80 (m : Nat → UInt8) (h : H5) (k : Nat) : stepH k (W80 m k) (rounds (sched m 80) h k) = rounds (sched m 80) h (k + 1) := by
  rw [W80, rounds]
theorem step_b (t : Nat) (w : BitVec 32) (s : H5) : (stepH t w s).b = s.a := rfl
theorem step_c (t : Nat) (w : BitVec 32) (s : H5) : (stepH t w s).c = rl s.b 30 := rfl
theorem step_d (t : Nat) (w : BitVec 32) (s : H5) : (stepH t w s).d = s.c := rfl
theorem step_e (t : Nat) (w : BitVec 32) (s : H5) : (stepH t w s).e = s.d := rfl
def addH (h s : H5) : H5 := ⟨h.a + s.a, h.b + s.b, h.c + s.c, h.d + s.d, h.e + s.e⟩
def comp (m : Nat → UInt8) (h : H5) : H5 := addH h (rounds (sched m 80) h 80)
/-- The words behind k blocks of a text. -/
def hs (T : Nat → UInt8) : Nat → H5
  | 0 => h0
  | k + 1 => comp (fun i => T (64 * k + i)) (hs T k)
/-- How many bytes a text of n bytes has when it is closed. -/
def padLen (n : Nat) : Nat := 64 * ((n + 8) / 64 + 1)
/-- The bytes of a text that is closed. -/
def padF (l : List UInt8) (i : Nat) : UInt8 :=
  if i < l.length then l.getD i 0
  else if i = l.length then 0x80
  else if i < padLen l.length - 8 then 0
  else UInt8.ofNat (8 * l.length / 2 ^ (8 * (padLen l.length - 1 - i)))
theorem padF_in (l : List UInt8) (i : Nat) (h : i < l.length) : padF l i = l.getD i 0 := by unfold padF; rw [if_pos h]
theorem padF_0 (l : List UInt8) : padF l l.length = 0x80 := by unfold padF; rw [if_neg (by omega), if_pos rfl]
theorem padF_z (l : List UInt8) (i : Nat) (h : l.length < i) (h2 : i < padLen l.length - 8) : padF l i = 0 := by unfold padF; rw [if_neg (by omega), if_neg (by omega), if_pos h2]
theorem padF_t (l : List UInt8) (i k : Nat) (h : l.length < i) (hk : k < 8) (h2 : i + 8 = padLen l.length + k) : padF l i = UInt8.ofNat (8 * l.length / 2 ^ (8 * (7 - k))) := by
  unfold padF; rw [if_neg (by omega), if_neg (by omega), if_neg (by omega), show padLen l.length - 1 - i = 7 - k by omega]
theorem pad_z (n : Nat) : n + (1 + (119 - n % 64) % 64 + 8) = padLen n := by unfold padLen; omega
theorem pad_val (l : List UInt8) (i k : Nat) (h : l.length < i) (hk : k < 8) (h2 : i + 8 = padLen l.length + k) : (((l.length : Nat) : Int) * 8 / 2 ^ (8 * (7 - k)) % 256) = ((padF l i).toNat : Int) := by
  rw [padF_t l i k h hk h2, UInt8.toNat_ofNat', Int.natCast_emod, Int.natCast_ediv, Int.natCast_mul, Int.natCast_pow, Int.mul_comm]
  rfl
def outB (h : H5) (i : Nat) : UInt8 := UInt8.ofNat ((h.get (i / 4)).toNat / 2 ^ (8 * (3 - i % 4)))
def digest (h : H5) : List UInt8 := (List.range 20).map (outB h)
theorem digest_len (h : H5) : (digest h).length = 20 := by simp [digest]
def sumL (l : List UInt8) : List UInt8 := digest (hs (padF l) (padLen l.length / 64))
theorem ofInt32 (a : BitVec 32) : BitVec.ofInt 32 (a.toNat : Int) = a := by
  rw [BitVec.ofInt_natCast, BitVec.ofNat_toNat, BitVec.setWidth_eq]
theorem wrap32 (a : BitVec 32) : IntKind.u32.wrap (a.toNat : Int) = a.toNat := by
  rw [IntKind.wrap_u32']; have := a.isLt; omega
theorem b_and (a b : BitVec 32) : bits BinOp.and .u32 a.toNat b.toNat = (a &&& b).toNat := by
  show IntKind.u32.wrap (BitVec.toNat (BitVec.ofInt 32 _ &&& BitVec.ofInt 32 _) : Int) = _
  rw [ofInt32, ofInt32, wrap32]
theorem b_or (a b : BitVec 32) : bits BinOp.or .u32 a.toNat b.toNat = (a ||| b).toNat := by
  show IntKind.u32.wrap (BitVec.toNat (BitVec.ofInt 32 _ ||| BitVec.ofInt 32 _) : Int) = _
  rw [ofInt32, ofInt32, wrap32]
theorem b_xor (a b : BitVec 32) : bits BinOp.xor .u32 a.toNat b.toNat = (a ^^^ b).toNat := by
  show IntKind.u32.wrap (BitVec.toNat (BitVec.ofInt 32 _ ^^^ BitVec.ofInt 32 _) : Int) = _
  rw [ofInt32, ofInt32, wrap32]
theorem b_not (a : BitVec 32) : bits BinOp.xor .u32 IntKind.u32.max a.toNat = (~~~a).toNat := by
  show IntKind.u32.wrap (BitVec.toNat (BitVec.ofInt 32 IntKind.u32.max ^^^ BitVec.ofInt 32 _) : Int) = _
  rw [ofInt32, show BitVec.ofInt 32 IntKind.u32.max = BitVec.allOnes 32 by decide, BitVec.allOnes_xor, wrap32]
theorem b_add (a b : BitVec 32) : ((a.toNat : Int) + b.toNat) % 4294967296 = (a + b).toNat := by
  rw [BitVec.toNat_add]; omega
theorem step_a (t : Nat) (w : BitVec 32) (s : H5) : ((((((rl s.a 5).toNat : Int) + (fk t s.b s.c s.d).toNat) % 4294967296 + s.e.toNat) % 4294967296 + w.toNat) % 4294967296 : Int) = ((stepH t w s).a.toNat : Int) := by
  rw [b_add, b_add, b_add]
  rfl
theorem step_a2 (t : Nat) (w : BitVec 32) (s : H5) : ((((rl s.a 5).toNat : Int) + (fk t s.b s.c s.d).toNat + s.e.toNat + w.toNat) % 4294967296 : Int) = ((stepH t w s).a.toNat : Int) := by
  rw [← step_a]
  omega
theorem b_shl (a : BitVec 32) (n : Nat) : ((a.toNat : Int) * 2 ^ n) % 4294967296 = (a <<< n).toNat := by
  rw [BitVec.toNat_shiftLeft, Nat.shiftLeft_eq, show (2 : Nat) ^ 32 = 4294967296 from rfl, Int.natCast_emod, Int.natCast_mul, Int.natCast_pow]
  rfl
theorem b_shr (a : BitVec 32) (n : Nat) : (a.toNat : Int) / 2 ^ n = (a >>> n).toNat := by
  rw [BitVec.toNat_ushiftRight, Nat.shiftRight_eq_div_pow, Int.natCast_ediv, Int.natCast_pow]
  rfl
theorem byte_shl (p : UInt8) (n : Nat) (h : n ≤ 24) : ((p.toBitVec.setWidth 32 <<< n).toNat : Int) = (p.toNat : Int) * 2 ^ n := by
  have h1 := p.toNat_lt
  have h2 : 2 ^ n ≤ 2 ^ 24 := Nat.pow_le_pow_right (by decide) h
  rw [BitVec.toNat_shiftLeft, BitVec.toNat_setWidth, Nat.shiftLeft_eq]
  have e : p.toBitVec.toNat = p.toNat := rfl
  rw [e, Nat.mod_eq_of_lt (a := p.toNat) (by omega), Nat.mod_eq_of_lt]
  · push_cast; rfl
  · exact Nat.lt_of_le_of_lt (Nat.mul_le_mul (show p.toNat ≤ 255 by omega) h2) (by decide)
theorem word_int (p q r s : UInt8) : bits BinOp.or .u32 (bits BinOp.or .u32 (bits BinOp.or .u32 ((p.toNat : Int) * 16777216) ((q.toNat : Int) * 65536)) ((r.toNat : Int) * 256)) (s.toNat : Int) = (word p q r s).toNat := by
  have e1 := byte_shl p 24 (by decide)
  have e2 := byte_shl q 16 (by decide)
  have e3 := byte_shl r 8 (by decide)
  have e4 := byte_shl s 0 (by decide)
  rw [BitVec.shiftLeft_zero] at e4
  rw [show (2 : Int) ^ 24 = 16777216 by decide] at e1
  rw [show (2 : Int) ^ 16 = 65536 by decide] at e2
  rw [show (2 : Int) ^ 8 = 256 by decide] at e3
  rw [show (2 : Int) ^ 0 = 1 by decide, Int.mul_one] at e4
  rw [← e1, ← e2, ← e3, ← e4, b_or, b_or, b_or]
  rfl
theorem ch_xor (b c d : BitVec 32) : (b &&& c) ^^^ (~~~b &&& d) = (b &&& c) ||| (~~~b &&& d) := by
  apply BitVec.eq_of_getElem_eq
  intro i hi
  simp only [BitVec.getElem_xor, BitVec.getElem_or, BitVec.getElem_and, BitVec.getElem_not]
  cases b[i] <;> cases c[i] <;> cases d[i] <;> rfl
theorem maj_xor (b c d : BitVec 32) : (b &&& c) ^^^ (b &&& d) ^^^ (c &&& d) = (b &&& c) ||| (b &&& d) ||| (c &&& d) := by
  apply BitVec.eq_of_getElem_eq
  intro i hi
  simp only [BitVec.getElem_xor, BitVec.getElem_or, BitVec.getElem_and]
  cases b[i] <;> cases c[i] <;> cases d[i] <;> rfl
end Go.Proofs.YtpelehhmdcjikaaGreatDoor
