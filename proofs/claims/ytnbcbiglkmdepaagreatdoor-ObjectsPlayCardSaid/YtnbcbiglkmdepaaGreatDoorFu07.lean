/-
  Texts that belong together, one behind the other.
-/
import Derived.Test.YtnbcbiglkmdepaaGreatDoorFu05
import Derived.Test.YtnbcbiglkmdepaaGreatDoorFu06
import Derived.Deep.MidRow
import Derived.Test.YtnbcbiglkmdepaaGreatDoorFu02
import Derived.Test.YtnbcbiglkmdepaaGreatDoorFu01
import Derived.Great.BuildSlice
import Derived.OrdersHeld
import Derived.Laws.Tables
import Derived.Laws.StructEq
import Derived.Laws.CopyRow
import Derived.Laws.ResultCell
import Derived.BigFrame
import Derived.Deep.RegionLaw
set_option maxHeartbeats 64000000
set_option linter.unusedVariables false
set_option linter.unusedSimpArgs false
open Go.Lib renaming hid → hyd
namespace Go.Proofs.YtnbcbiglkmdepaaGreatDoor
set_option maxRecDepth 20000
open Go.RowKit
def gotK : Option Cel → Int
 | some c => c.kind
 | none => 0
def gotB : Option Cel → List UInt8
 | some c => c.body
 | none => []
theorem results_ob10 {fn : Func} {p u : Tmp} (h : fn.results = #[.cell p 34, .tmp u]) (tmps : Array Value) (w : World) (g : Nat) (cs : Array Value) (fr : Nat × Nat) (x : Value)
  (hp : tmps.getD p undef = .pointer (some ⟨g, 0, none⟩)) (hx : tmps.getD u undef = x) (hg : w.heap[g]? = some (.cells cs 34 fr)) (hn : cs.size = 2) :
  (results fn tmps).run Tryz.prog w = .ok (.tuple #[.agg cs, x]) w := by
 rw [results_cell_tmp h, hp, hx]; have e : (asAddr (.pointer (some ⟨g, 0, none⟩))).run Tryz.prog w = .ok ⟨g, 0, none⟩ w := rfl; rw [e]; simp only [Result.andThen_ok]; rw [run_loadVar_row w g 34 34 cs fr _ hg Tryz.underlying34 rfl (by rw [infoOb, hn])]
 rfl
theorem built_ob0 : Tryz.prog.built 34 [] = some #[.int .i64 0, .slice none 0 0] := by kernel_rfl
theorem redS_nil (S : Nat → Prop) (w : World) : RedS S w (.slice none 0 0) [] := ⟨none, 0, rfl, BAt.nil w _, fun _ => ⟨rfl, rfl⟩, Nat.le_refl _, Nat.zero_le _, fun ad h => absurd h (Nat.lt_irrefl 0)⟩
theorem StoreAt.there {S : Nat → Prop} {w : World} {g : Nat} {L : List Cel} (h : StoreAt S w g L) {i : List UInt8} {x : Cel} (hx : getS L i = some x) :
  ∃ b o n c v, w.heap[g]? = some (.cells #[.slice (some ⟨b, o, none⟩) n c] 30 (0, 0)) ∧ atS L i < n ∧ n ≤ c ∧ w.rangeAt b (o + atS L i * 22 + 20) [.int .i64 x.kind, v] ∧ RedS (fun k => S k ∧ k ≠ g) w v x.body ∧ ∃ a' n' c', v = .slice a' n' c' := by
 obtain ⟨hg, E, a, c, hE, hblk, hcels, hnone, hle, hmax⟩ := h; obtain ⟨hid, hlt, hxe⟩ := getS_id hx
 have hEn : E.length = L.length := by rw [← hE, List.length_map]
 have hqE : atS L i < E.length := by rw [hEn]; exact hlt
 have hxE : E[atS L i].c = x := by rw [← hxe]; simp only [← hE, List.getElem_map]
 obtain ⟨b, o, rfl, hbl⟩ := hcels.row.some (by omega); have ho := hcels.obj (atS L i) hqE; have hb := hcels.body _ (List.getElem_mem hqE); rw [hxE] at ho hb; exact ⟨b, o, L.length, c, _, hblk, hlt, hle, ho, hb, (hcels.ok _ (List.getElem_mem hqE)).2⟩
theorem rGet_is {S : Nat → Prop} {w : World} {g : Nat} {L : List Cel} (h : StoreAt S w g L) (i : List UInt8) (hi : i.length = 20) (hm : L.length ≤ 1000000) :
  Calls Tryz.prog 28 #[.pointer (some ⟨g, 0, none⟩), .agg (arrD i)] w fun e w' => ∃ v, e = .returned (.tuple #[.agg #[.int .i64 (gotK (getS L i)), v], .bool (getS L i).isSome]) ∧ RedS (fun k => S k ∧ k ≠ g) w' v (gotB (getS L i)) ∧ Below w.heap.size w w' := by
 obtain ⟨A1, hA1⟩ : ∃ A, arrD i = A := ⟨_, rfl⟩
 have sA : A1.size = 20 := by rw [← hA1]; exact arrD_size i hi
 have b1 : Below w.heap.size w (w.alloc (.cells A1 24)) := (Below.refl w.heap.size w).alloc (Nat.le_refl _) (.cells A1 24); have b2 := b1.alloc b1.size (.cells #[.int .i64 0, .slice none 0 0] 34); have h0 := heap_alloc_new w (.cells A1 24)
 have hs1 : (w.alloc (.cells A1 24)).heap.size = w.heap.size + 1 := by simp
 have h02 := heap_alloc_new (w.alloc (.cells A1 24)) (.cells #[.int .i64 0, .slice none 0 0] 34); have h01 := (((Below.refl (w.alloc (.cells A1 24)).heap.size (w.alloc (.cells A1 24))).alloc (Nat.le_refl _) (.cells #[.int .i64 0, .slice none 0 0] 34)).block w.heap.size (by simp)).trans h0; rw [hs1] at h02; have H1 := hyd h01; have H2 := hyd h02; have B2 := hyd b2; have KS := hyd (fun u (hu : Below w.heap.size w u) => h.below hu); have IA := hyd (show (Tryz.prog.info? 24).map (·.size) = some A1.size from by rw [sA]; exact infoD_n); have CAt := hyd (fun u (hu : Below w.heap.size w u) => rAt_is (h.below hu) i hi hm); rw [hA1] at CAt ⊢
 have TH := fun x (hx : getS L i = some x) => h.there hx
 clear h b1 b2 h0 h01 h02 hs1 sA
 go_enter Tryz.func28, Tryz.ntmps28
 go_wp2_with (first
  | (with_reducible refine wpList_load_all 24 (.tmp 3) rfl (by kernel_rfl) w.heap.size A1 24 (0, 0) rfl H1.out _ Tryz.underlying24 rfl IA.out ?_)
  | fail)
 refine (CAt.out _ B2.out).mono ?_; rintro e w3 ⟨rfl, hb3⟩; have H3 := hyd ((hb3.block (w.heap.size + 1) (lt_of_heap H2.out)).trans H2.out); have HB3 := hyd (B2.out.trans (hb3.mono B2.out.size)); clear hb3 CAt
 cases hg : getS L i with
 | none =>
  have HG := hyd hg; clear TH hg; obtain ⟨q, hq⟩ : ∃ q, atS L i = q := ⟨_, rfl⟩; rw [hq]
  go_wp2_with (first
   | (refine wpList_build_none rfl 34 rfl _ built_ob0 ?_)
   | (with_reducible refine wpList_store_obj rfl (.tmp 4) (.tmp 16) rfl (w.heap.size + 1) (.int .i64 0) (.slice none 0 0) (.int .i64 0) (.slice none 0 0) rfl rfl H3.out (one_obj 0 none 0 0) ?_)
   | fail)
  intro w4 r4 bl4 off4 sz4; have HB4 := hyd (bl4 _ _ (Nat.le_succ _) HB3.out); go_wp2; exact bodyPost_ret (results_ob10 Tryz.results28 _ _ (w.heap.size + 1) _ (0, 0) _ rfl rfl r4 rfl) rfl ⟨_, by rw [HG.out]; rfl, by rw [HG.out]; exact redS_nil _ _, HB4.out⟩
 | some x =>
  obtain ⟨b, o, n, c, v, hblk, hlt, hle, hob, hbody, a', n', c', rfl⟩ := TH x hg; have HG := hyd hg; clear TH hg
  have hc0 : w3.cell? ⟨g, 0, none⟩ = some (.slice (some ⟨b, o, none⟩) n c) := by rw [Lib.cell_of_heap ((HB3.out.block g (lt_of_heap hblk)).trans hblk)]; rfl
  have HOB := hyd (show w3.rangeAt b (o + atS L i * 22 + 20) [.int .i64 x.kind, .slice a' n' c'] from fun j v hv => (HB3.out.cell (World.block_lt_of_cell? w _ (hob j v hv))).trans (hob j v hv)); have HBO := hyd hbody; have LO := hyd (show (Tryz.prog.info? 34).map (·.size) = some ([Value.int .i64 x.kind, .slice a' n' c'] : List Value).length from infoOb); obtain ⟨q, hq⟩ : ∃ q, atS L i = q := ⟨_, rfl⟩; rw [hq] at hlt HOB; rw [hq]; obtain ⟨kd, hkd⟩ : ∃ kd, x.kind = kd := ⟨_, rfl⟩; rw [hkd] at HOB LO; have GK := hyd (show gotK (some x) = kd from hkd); clear hblk hob hbody hq hkd
  have g1 : (q : Int) < (n : Int) := by omega
  go_wp2_with (first
   | (with_reducible refine wpList_load_midD 34 (.tmp 23) rfl (by kernel_rfl) b (o + q * 22 + 20) rfl [.int .i64 kd, .slice a' n' c'] _ HOB.out Tryz.underlying34 rfl LO.out ?_)
   | (with_reducible refine wpList_store_obj rfl (.tmp 4) (.tmp 24) rfl (w.heap.size + 1) (.int .i64 kd) (.slice a' n' c') (.int .i64 0) (.slice none 0 0) rfl rfl H3.out (one_obj kd a' n' c') ?_)
   | fail)
  intro w4 r4 bl4 off4 sz4; have HB4 := hyd (bl4 _ _ (Nat.le_succ _) HB3.out); have KP := hyd (HBO.out.keep (Stays.of HB4.out)); go_wp2; exact bodyPost_ret (results_ob10 Tryz.results28 _ _ (w.heap.size + 1) _ (0, 0) _ rfl rfl r4 rfl) rfl ⟨_, by rw [HG.out, GK.out]; rfl, by rw [HG.out]; exact KP.out, HB4.out⟩
def ofS (o : Option Cel) (k : Int) : List UInt8 × Int :=
 match o with
 | some c => if c.kind = k then (c.body, 0) else ([], 10)
 | none => ([], 6)
theorem ofS_some {c : Cel} {k : Int} (h : c.kind = k) : ofS (some c) k = (c.body, 0) := if_pos h
theorem ofS_other {c : Cel} {k : Int} (h : c.kind ≠ k) : ofS (some c) k = ([], 10) := if_neg h
theorem rOf_is {S : Nat → Prop} {w : World} {g : Nat} {L : List Cel} (h : StoreAt S w g L) (i : List UInt8) (hi : i.length = 20) (k : Int) (hm : L.length ≤ 1000000) :
  Calls Tryz.prog 60 #[.pointer (some ⟨g, 0, none⟩), .agg (arrD i), .int .i64 k] w fun e w' => ∃ v, e = .returned (.tuple #[v, .int .i64 (ofS (getS L i) k).2]) ∧ RedS S w' v (ofS (getS L i) k).1 ∧ Below w.heap.size w w' := by
 obtain ⟨A1, hA1⟩ : ∃ A, arrD i = A := ⟨_, rfl⟩
 have sA : A1.size = 20 := by rw [← hA1]; exact arrD_size i hi
 have b1 : Below w.heap.size w (w.alloc (.cells A1 24)) := (Below.refl w.heap.size w).alloc (Nat.le_refl _) (.cells A1 24); have h0 := heap_alloc_new w (.cells A1 24); have H1 := hyd h0; have B1 := hyd b1; have IA := hyd (show (Tryz.prog.info? 24).map (·.size) = some A1.size from by rw [sA]; exact infoD_n); have CG := hyd (fun u (hu : Below w.heap.size w u) => rGet_is (h.below hu) i hi hm); rw [hA1] at CG ⊢; clear h b1 h0 sA
 go_enter Tryz.func60, Tryz.ntmps60
 go_wp2_with (first
  | (with_reducible refine wpList_load_all 24 (.tmp 4) rfl (by kernel_rfl) w.heap.size A1 24 (0, 0) rfl H1.out _ Tryz.underlying24 rfl IA.out ?_)
  | fail)
 refine (CG.out _ B1.out).mono ?_; rintro e w3 ⟨v, rfl, hr, hb3⟩; have HB3 := hyd (B1.out.trans (hb3.mono B1.out.size)); have HR := hyd hr; obtain ⟨va, vc, rfl, -⟩ := hr; clear hb3 CG; obtain ⟨vn, hvn⟩ : ∃ n, (gotB (getS L i)).length = n := ⟨_, rfl⟩; rw [hvn] at HR; rw [hvn]; clear hvn
 cases hg : getS L i with
 | none =>
  have HG := hyd hg; have gk : gotK none = 0 := rfl; rw [gk]; clear hg gk
  go_wp2_with (first
   | (with_reducible refine wpList_store_obj rfl (.tmp 8) (.tmp 14) rfl w3.heap.size (.int .i64 0) (.slice va vn vc) (.int .i64 0) (.slice none 0 0) rfl rfl (heap_alloc_new _ _) (one_obj 0 va vn vc) ?_)
   | fail)
  intro w4 r4 bl4 off4 sz4; have HB4 := hyd (bl4 _ _ HB3.out.size (HB3.out.alloc HB3.out.size _)); go_wp2
  go_ret2
  exact ⟨_, by rw [HG.out]; rfl, by rw [HG.out]; exact redS_nil _ _, HB4.out⟩
 | some x =>
  have HG := hyd hg; rw [hg] at HR; obtain ⟨kd, hkd⟩ : ∃ kd, gotK (some x) = kd := ⟨_, rfl⟩; have HK := hyd (show x.kind = kd from hkd); rw [hkd]; clear hg hkd
  by_cases hk : kd = k
  ·subst hk
   have HO := hyd (show ofS (getS L i) kd = (x.body, 0) by rw [HG.out]; exact ofS_some HK.out)
   go_wp2_with (first
    | (with_reducible refine wpList_store_obj rfl (.tmp 8) (.tmp 14) rfl w3.heap.size (.int .i64 kd) (.slice va vn vc) (.int .i64 0) (.slice none 0 0) rfl rfl (heap_alloc_new _ _) (one_obj kd va vn vc) ?_)
    | fail)
   intro w4 r4 bl4 off4 sz4; have HB4 := hyd (bl4 _ _ HB3.out.size (HB3.out.alloc HB3.out.size _)); have HR4 := hyd ((HR.out.keep (u := w4) ⟨by rw [sz4]; exact Nat.le_succ _, fun k hk hl => (off4 k (Nat.ne_of_lt hl)).trans (((Below.refl w3.heap.size w3).alloc (Nat.le_refl _) _).block k hl)⟩).mono (S' := S) (fun k _ h => h.1)); have c0 := (cells2 r4).1; have c1 := (cells2 r4).2; go_wp2
   go_ret2
   exact ⟨_, by rw [HO.out]; rfl, by rw [HO.out]; exact HR4.out, HB4.out⟩
  ·have HO := hyd (show ofS (getS L i) k = ([], 10) by rw [HG.out]; exact ofS_other (by rw [HK.out]; exact hk))
   go_wp2_with (first
    | (with_reducible refine wpList_store_obj rfl (.tmp 8) (.tmp 14) rfl w3.heap.size (.int .i64 kd) (.slice va vn vc) (.int .i64 0) (.slice none 0 0) rfl rfl (heap_alloc_new _ _) (one_obj kd va vn vc) ?_)
    | fail)
   intro w4 r4 bl4 off4 sz4; have HB4 := hyd (bl4 _ _ HB3.out.size (HB3.out.alloc HB3.out.size _)); have c0 := (cells2 r4).1; go_wp2
   go_ret2
   exact ⟨_, by rw [HO.out]; rfl, by rw [HO.out]; exact redS_nil _ _, HB4.out⟩
end Go.Proofs.YtnbcbiglkmdepaaGreatDoor
namespace Go.Proofs.YtnbcbiglkmdepaaGreatDoor
set_option maxRecDepth 20000
open Go.RowKit Go.Maps
theorem findP_some {S : Nat → Prop} {w : World} {g : Nat} {M : List Cel} (h : StoreP S w g M) (i : List UInt8) (hi : i.length = 20) {x : Cel} (hx : getM M i = some x) :
  ∃ T v, (T = 132 ∨ T = 133 ∨ T = 134) ∧ (∃ a n c, v = .slice a n c) ∧ thingP x.kind v = .iface T (.agg #[v]) ∧ kindO x.kind ∧ RedS S w v x.body ∧
  ∀ u, Below w.heap.size w u → Calls Tryz.prog 57 #[.pointer (some ⟨g, 0, none⟩), .agg (arrD i)] u fun e w' => e = .returned (.tuple #[.iface T (.agg #[v]), .int .i64 0]) ∧ Below u.heap.size u w' := by
 obtain ⟨mb, v, hl, hr, hk, hv⟩ := h.look_some hx; obtain ⟨T, hT, hth⟩ := kind_ty hk; refine ⟨T, v, hT, hv, hth v, hk, hr.mono (fun k _ h => h.1), fun u hu => ?_⟩; have := findP_any (w := u) (g := g) i hi (fun u2 hu2 => hl u2 (hu.trans (hu2.mono hu.size))); rw [hth v] at this; exact this
theorem findP_gone {S : Nat → Prop} {w : World} {g : Nat} {M : List Cel} (h : StoreP S w g M) (i : List UInt8) (hi : i.length = 20) (hx : getM M i = none) :
  ∀ u, Below w.heap.size w u → Calls Tryz.prog 57 #[.pointer (some ⟨g, 0, none⟩), .agg (arrD i)] u fun e w' => e = .returned (.tuple #[.nilIface, .int .i64 6]) ∧ Below u.heap.size u w' := by
 obtain ⟨mb, hl⟩ := h.look_none hi hx
 exact fun u hu => findP_any (w := u) (g := g) i hi (fun u2 hu2 => hl u2 (hu.trans (hu2.mono hu.size)))
theorem bodyP_is {S : Nat → Prop} {w : World} {g : Nat} {M : List Cel} (h : StoreP S w g M) (i : List UInt8) (hi : i.length = 20) (k : Int) :
  Calls Tryz.prog 43 #[.pointer (some ⟨g, 0, none⟩), .agg (arrD i), .int .i64 k] w fun e w' => ∃ v, e = .returned (.tuple #[v, .int .i64 (ofS (getM M i) k).2]) ∧ RedS S w' v (ofS (getM M i) k).1 ∧ Below w.heap.size w w' := by
 obtain ⟨A1, hA1⟩ : ∃ A, arrD i = A := ⟨_, rfl⟩
 have sA : A1.size = 20 := by rw [← hA1]; exact arrD_size i hi
 have H1 := hyd (heap_alloc_new w (.cells A1 24)); have B1 := hyd ((Below.refl w.heap.size w).alloc (Nat.le_refl _) (.cells A1 24)); have IA := hyd (show (Tryz.prog.info? 24).map (·.size) = some A1.size from by rw [sA]; exact infoD_n)
 cases hx : getM M i with
 | none =>
  have CF := hyd (findP_gone h i hi hx); rw [hA1] at CF ⊢; clear sA h
  go_enter Tryz.func43, Tryz.ntmps43
  go_wp2_with (first
   | (with_reducible refine wpList_load_all 24 (.tmp 4) rfl (by kernel_rfl) w.heap.size A1 24 (0, 0) rfl H1.out _ Tryz.underlying24 rfl IA.out ?_)
   | fail)
  refine (CF.out _ B1.out).mono ?_; rintro e w3 ⟨rfl, hb3⟩; have HB3 := hyd (B1.out.trans (hb3.mono B1.out.size)); clear hb3; go_wp2
  go_ret2
  exact ⟨_, rfl, redS_nil _ _, HB3.out⟩
 | some x =>
  obtain ⟨T, v, hT, ⟨a, n, c, rfl⟩, hth, hk, hr, hf⟩ := findP_some h i hi hx; have CF := hyd hf; have CK := hyd (fun u => hth ▸ kind_is x.kind hk a n c u); have HR := hyd hr; have m := m_bytes T hT (.slice a n c)
  have cb := fun w => obytes_is a n c w
  obtain ⟨kd, hkd⟩ : ∃ kd, x.kind = kd := ⟨_, rfl⟩; rw [hA1] at CF ⊢; rw [hkd] at CK
  by_cases hkk : kd = k
  ·have HO := hyd (show ofS (some x) k = (x.body, 0) from ofS_some (hkd.trans hkk))
   clear sA h hT hf hr hk hth hkd; subst hkk
   go_enter Tryz.func43, Tryz.ntmps43
   go_wp2_with (first
    | (with_reducible refine wpList_load_all 24 (.tmp 4) rfl (by kernel_rfl) w.heap.size A1 24 (0, 0) rfl H1.out _ Tryz.underlying24 rfl IA.out ?_)
    | fail)
   refine (CF.out _ B1.out).mono ?_; rintro e w3 ⟨rfl, hb3⟩; have HB3 := hyd (B1.out.trans (hb3.mono B1.out.size)); clear hb3
   go_wp2_with fail
   refine (CK.out _).mono ?_; rintro e w4 ⟨rfl, hb4⟩; have HB4 := hyd (HB3.out.trans (hb4.mono HB3.out.size)); clear hb4
   go_wp2_with fail
   refine (cb _).mono ?_; rintro e w5 ⟨rfl, rfl⟩; go_wp2
   go_ret2
   exact ⟨_, by rw [HO.out]; rfl, by rw [HO.out]; exact HR.out.keep (Stays.of HB4.out), HB4.out⟩
  ·have HO := hyd (show ofS (some x) k = ([], 10) from ofS_other (fun e => hkk (hkd.symm.trans e)))
   have hne : (kd != k) = true := bne_iff_ne.2 hkk; clear sA h hT hf hr hk hth hkd hkk
   go_enter Tryz.func43, Tryz.ntmps43
   go_wp2_with (first
    | (with_reducible refine wpList_load_all 24 (.tmp 4) rfl (by kernel_rfl) w.heap.size A1 24 (0, 0) rfl H1.out _ Tryz.underlying24 rfl IA.out ?_)
    | fail)
   refine (CF.out _ B1.out).mono ?_; rintro e w3 ⟨rfl, hb3⟩; have HB3 := hyd (B1.out.trans (hb3.mono B1.out.size)); clear hb3
   go_wp2_with fail
   refine (CK.out _).mono ?_; rintro e w4 ⟨rfl, hb4⟩; have HB4 := hyd (HB3.out.trans (hb4.mono HB3.out.size)); clear hb4; go_wp2
   go_ret2
   exact ⟨_, by rw [HO.out]; rfl, by rw [HO.out]; exact redS_nil _ _, HB4.out⟩
end Go.Proofs.YtnbcbiglkmdepaaGreatDoor
namespace Go.Proofs.YtnbcbiglkmdepaaGreatDoor
set_option maxRecDepth 20000
open Go.RowKit
theorem mode_is (m : Int) (w : World) : Calls Tryz.prog 83 #[.int .i64 m] w fun e w' => e = .returned (.string ⟨(modeL m).toArray⟩) ∧ w = w' := by
 unfold modeL
 by_cases h1 : m = 1
 ·rw [if_pos h1]; subst h1
  go_enter Tryz.func83, Tryz.ntmps83
  go_wp2; go_ret; exact ⟨rfl, rfl⟩
 ·rw [if_neg h1]
  by_cases h2 : m = 2
  ·rw [if_pos h2]; subst h2
   go_enter Tryz.func83, Tryz.ntmps83
   go_wp2; go_ret; exact ⟨rfl, rfl⟩
  ·rw [if_neg h2]
   by_cases h3 : m = 3
   ·rw [if_pos h3]; subst h3
    go_enter Tryz.func83, Tryz.ntmps83
    go_wp2; go_ret; exact ⟨rfl, rfl⟩
   ·rw [if_neg h3]
    go_enter Tryz.func83, Tryz.ntmps83
    go_wp2; go_ret; exact ⟨rfl, rfl⟩
theorem infoItem : (Tryz.prog.info? 77).map (·.size) = some 22 := by kernel_rfl
def RestB (w : World) (i j : Itm) (u : World) : Prop :=
 u.heap[w.heap.size]? = some (.cells (cellsI i).toArray 77 (0, 0)) ∧ u.heap[w.heap.size + 1]? = some (.cells (cellsI j).toArray 77 (0, 0)) ∧ Below w.heap.size w u
theorem restB_keep {w u u' : World} {i j : Itm} (h : RestB w i j u) (b : Below u.heap.size u u') : RestB w i j u' :=
 ⟨(b.block _ (Array.getElem?_eq_some_iff.1 h.1).1).trans h.1, (b.block _ (Array.getElem?_eq_some_iff.1 h.2.1).1).trans h.2.1, h.2.2.trans (b.mono h.2.2.size)⟩
theorem row_range {w : World} {g : Nat} {i : Itm} {t : TypeId} {fr : Nat × Nat} (h : w.heap[g]? = some (.cells (cellsI i).toArray t fr)) : w.rangeAt g 0 (cellsI i) := row_cells h
theorem Before_is (i j : Itm) (hi : i.id.length = 20) (hj : j.id.length = 20) (ni : i.name.length ≤ 1000000) (nj : j.name.length ≤ 1000000) (w : World) :
  Calls Tryz.prog 102 #[.agg (cellsI i).toArray, .agg (cellsI j).toArray] w fun e w' => e = .returned (.bool (befI i j)) ∧ Below w.heap.size w w' := by
 have c1 := fun w => full_is i ni w
 have c2 := fun w => full_is j nj w
 have hr := less_mk (fullI i) (fullI j); rw [show befI i j = decide (fullI i < fullI j) from rfl]; generalize decide (fullI i < fullI j) = r at hr ⊢; generalize (⟨(fullI i).toArray⟩ : ByteArray) = s1 at c1 hr; generalize (⟨(fullI j).toArray⟩ : ByteArray) = s2 at c2 hr; have b1 := (Below.refl w.heap.size w).alloc (Nat.le_refl _) (.cells (cellsI i).toArray 77); have b2 := b1.alloc b1.size (.cells (cellsI j).toArray 77)
 have e1 : (w.alloc (.cells (cellsI i).toArray 77)).heap.size = w.heap.size + 1 := by simp
 have h1 := (((Below.refl (w.alloc (.cells (cellsI i).toArray 77)).heap.size (w.alloc (.cells (cellsI i).toArray 77))).alloc (Nat.le_refl _) (.cells (cellsI j).toArray 77)).block w.heap.size (by simp)).trans (heap_alloc_new w _); have h2 := heap_alloc_new (w.alloc (.cells (cellsI i).toArray 77)) (.cells (cellsI j).toArray 77); rw [e1] at h2; have K0 := restB_keep (show RestB w i j ((w.alloc (.cells (cellsI i).toArray 77)).alloc (.cells (cellsI j).toArray 77)) from ⟨h1, h2, b2⟩) ((Below.refl _ _).drew); have D1 := hyd (fun u (h : RestB w i j u) => ((c1 u).mono (fun e u' ⟨he, hb⟩ => ⟨he, restB_keep h hb⟩) : Calls Tryz.prog 135 #[.agg (cellsI i).toArray] u fun e u' => e = .returned (.string s1) ∧ RestB w i j u')); have D2 := hyd (fun u (h : RestB w i j u) => ((c2 u).mono (fun e u' ⟨he, hb⟩ => ⟨he, restB_keep h hb⟩) : Calls Tryz.prog 135 #[.agg (cellsI j).toArray] u fun e u' => e = .returned (.string s2) ∧ RestB w i j u'))
 have li : (Tryz.prog.info? 77).map (·.size) = some (cellsI i).length := by rw [cellsI_len i hi]; exact infoItem
 have lj : (Tryz.prog.info? 77).map (·.size) = some (cellsI j).length := by rw [cellsI_len j hj]; exact infoItem
 have KK := hyd K0; have LI := hyd li; have LJ := hyd lj; clear c1 c2 b1 b2 e1 h1 h2 hi hj ni nj K0 li lj
 go_enter Tryz.func102, Tryz.ntmps102
 go_wp2_with fail
 refine wp_region_held_drew (S := RestB w i j) (by kernel_rfl) KK.out (fun hHeld => ?_); refine wpAnyH_take (i := 0) (v := .agg (cellsI i).toArray) rfl (by kernel_rfl) (by kernel_rfl) (by kernel_rfl) (fun _ _ _ h => h) (yieldsIf_load_mid (by rfl) 77 (.tmp 2) rfl w.heap.size 0 rfl (cellsI i) _ (fun u h => row_range h.1) Tryz.underlying77 rfl LI.out) hHeld ?_; refine wpAnyH_take (i := 2) (v := .agg (cellsI j).toArray) rfl (by kernel_rfl) (by kernel_rfl) (by kernel_rfl) (fun _ _ _ h => h) (yieldsIf_load_mid (by rfl) 77 (.tmp 3) rfl (w.heap.size + 1) 0 rfl (cellsI j) _ (fun u h => row_range h.2.1) Tryz.underlying77 rfl LJ.out) hHeld ?_; refine wpAnyH_ready (rs := [1]) (by kernel_rfl) (by simp) ?_; refine AllReadyH.cons rfl (fun K hK => ?_) AllReadyH.nil
 go_simp
 refine (D1.out _ hHeld).mono ?_; rintro e u1 ⟨rfl, hH1⟩; refine hK.out _ _ hH1 (fun _ => ?_); clear hK K hHeld; refine wpAnyH_ready (rs := [3]) (by kernel_rfl) (by simp) ?_; refine AllReadyH.cons rfl (fun K hK => ?_) AllReadyH.nil
 go_simp
 refine (D2.out _ hH1).mono ?_; rintro e u2 ⟨rfl, hH2⟩; refine hK.out _ _ hH2 (fun _ => ?_); clear hK K; refine wpAnyH_take (i := 4) (v := .bool r) rfl (by kernel_rfl) (by kernel_rfl) (by kernel_rfl) (fun _ _ _ h => h) (Or.inl ⟨by rfl, fun w _ => by go_simp⟩) hH2 ?_; refine wpAnyH_take (i := 5) (v := .bool r) rfl (by kernel_rfl) (by kernel_rfl) (by kernel_rfl) (fun _ _ _ h => h) (Or.inl ⟨by rfl, fun w _ => by go_simp⟩) hH2 ?_; refine wpAnyH_done (by kernel_rfl) ?_ _; have H2 := hyd hH2; clear hH1 hH2; go_wp2; go_ret; exact ⟨rfl, H2.out.2.2⟩
theorem rune_int (l : List UInt8) (i : Nat) (hi : i < l.length) : ∃ (r : Int) (k : Nat), r = ((Utf8.decode ⟨l.toArray⟩ i).1 : Int) ∧ k = (Utf8.decode ⟨l.toArray⟩ i).2 ∧ 0 ≤ r ∧ r ≤ 2147483647 ∧ 1 ≤ k ∧ i + k ≤ l.length ∧
  ((r < 128 ∧ r = ((l.getD i 0).toNat : Int) ∧ k = 1) ∨ (128 ≤ r ∧ k ≤ 4 ∧ ∀ j, i ≤ j → j < i + k → 128 ≤ (l.getD j 0).toNat)) := by
 refine ⟨_, _, rfl, rfl, ?_⟩
 rcases rune_at l i hi with ⟨h1, h2⟩ | ⟨h1, h2, h3, h4, h5, h6, h7⟩
 ·rw [h2]
  exact ⟨by omega, by simp only; omega, Nat.le_refl _, by simp only; omega, .inl ⟨by simp only; omega, rfl, rfl⟩⟩
 ·exact ⟨by omega, by omega, h4, h6, .inr ⟨by omega, h5, h7⟩⟩
def seekI (s : List UInt8) (c : UInt8) : Nat × Bool := if s.findIdx (· == c) < s.length then (s.findIdx (· == c), true) else (0, false)
theorem seek_here (s : List UInt8) (c : UInt8) (i : Nat) (hi : i < s.length) (h : s.getD i 0 = c) (hn : ∀ j, j < i → s.getD j 0 ≠ c) : seekI s c = (i, true) := by
 have e : s.findIdx (· == c) = i := by
  rw [List.findIdx_eq hi]; refine ⟨?_, fun j hj => ?_⟩
  ·rw [List.getD_eq_getElem?_getD, List.getElem?_eq_getElem hi] at h
   simp only [Option.getD_some] at h; rw [h]; simp
  ·have := hn j hj
   rw [List.getD_eq_getElem?_getD, List.getElem?_eq_getElem (by omega)] at this; simp only [Option.getD_some] at this; exact beq_false_of_ne this
 unfold seekI; rw [e, if_pos hi]
theorem seek_none (s : List UInt8) (c : UInt8) (hn : ∀ j, j < s.length → s.getD j 0 ≠ c) : seekI s c = (0, false) := by
 unfold seekI; rw [if_neg]; intro h; have h2 := List.findIdx_getElem (p := (· == c)) (w := h); have := hn (s.findIdx (· == c)) h; rw [List.getD_eq_getElem?_getD, List.getElem?_eq_getElem h] at this; simp only [Option.getD_some] at this; exact this (eq_of_beq h2)
theorem seek_any (s : List UInt8) (c : UInt8) : (seekI s c).2 = s.any (fun x => x == c) := by
 unfold seekI
 by_cases h : s.findIdx (· == c) < s.length
 ·rw [if_pos h]
  have h2 : s.any (fun x => x == c) = true := by
   rw [List.any_eq_true]; exact ⟨s[s.findIdx (· == c)], List.getElem_mem h, List.findIdx_getElem (p := (· == c)) (w := h)⟩
  rw [h2]
 ·rw [if_neg h]
  have h2 : s.any (fun x => x == c) = false := by
   rw [List.any_eq_false]; intro x hx hc; exact h (List.findIdx_lt_length.2 ⟨x, hx, hc⟩)
  rw [h2]
theorem seek_go {l : List UInt8} {c : UInt8} (h7 : c.toNat < 128) {i k : Nat} {r : Int} (h : (r < 128 ∧ r = ((l.getD i 0).toNat : Int) ∧ k = 1) ∨ (128 ≤ r ∧ k ≤ 4 ∧ ∀ j, i ≤ j → j < i + k → 128 ≤ (l.getD j 0).toNat)) (hr : r ≠ (c.toNat : Int))
  (hall : ∀ j, j < i → l.getD j 0 ≠ c) : ∀ j, j < i + k → l.getD j 0 ≠ c := by
 intro j hj e
 by_cases hji : j < i
 ·exact hall j hji e
 ·rcases h with ⟨_, h, hk⟩ | ⟨_, _, h⟩
  ·obtain rfl : j = i := by omega
   rw [e] at h; exact hr h
  ·have := h j (by omega) hj
   rw [e] at this
   omega
theorem seek_stop {l : List UInt8} {c : UInt8} (h7 : c.toNat < 128) {i k : Nat} {r : Int} (h : (r < 128 ∧ r = ((l.getD i 0).toNat : Int) ∧ k = 1) ∨ (128 ≤ r ∧ k ≤ 4 ∧ ∀ j, i ≤ j → j < i + k → 128 ≤ (l.getD j 0).toNat)) (hr : r = (c.toNat : Int)) : l.getD i 0 = c := by
 rcases h with ⟨_, h, _⟩ | ⟨h, _, _⟩
 ·exact UInt8.toNat_inj.1 (by omega)
 ·omega
theorem indexOf_is (c : UInt8) (h7 : c.toNat < 128) (l : List UInt8) (cc : Int) (hcc : cc = c.toNat) (w : World) (hn : l.length ≤ 1000000) :
  Calls Tryz.prog 98 #[.string ⟨l.toArray⟩, .int .i32 cc] w fun e w' => e = .returned (.tuple #[.int .i64 (seekI l c).1, .bool (seekI l c).2]) ∧ Below w.heap.size w w' := by
 have SH := hyd (seek_here l c); have SN := hyd (seek_none l c); have GO := hyd (fun i k r h hr ha => @seek_go l c h7 i k r h hr ha); have ST := hyd (fun i k r h hr => @seek_stop l c h7 i k r h hr); have HC := hyd hcc; clear h7 hcc; obtain ⟨R, hR⟩ : ∃ R, seekI l c = R := ⟨_, rfl⟩; rw [hR] at SH SN ⊢; clear hR
 go_enter Tryz.func98, Tryz.ntmps98
 go_wp2_with fail
 go_loopw [6, 7] (fun _ _ wr => ∃ i : Nat, i ≤ l.length ∧ wr = w.iter ⟨l.toArray⟩ i ∧ (∀ j, j < i → l.getD j 0 ≠ c)) (fun _ _ wr => l.length - wr.iterPos w.heap.size)
 case atStart => exact ⟨0, Nat.zero_le _, rfl, fun j h => absurd h (Nat.not_lt_zero _)⟩
 case round =>
  obtain ⟨i, hi, rfl, hall⟩ := hrel; have HALL := hyd hall; clear hall
  by_cases hlt : i < l.length
  ·have hnx := fun ty => run_next_any (P := Tryz.prog) w ⟨l.toArray⟩ i ty (by rw [size_toArray]; exact hlt)
   obtain ⟨r, k, hr, hk, hr0, hr1, hk1, hkl, hw⟩ := rune_int l i hlt; rw [← hr, ← hk] at hnx; have HW := hyd hw; clear hr hk hw
   by_cases c1 : r = cc
   ·have f1 : (r == cc) = true := by simp [c1]
    have hs := SH.out i hlt (ST.out i k r HW.out (by rw [c1, HC.out])) HALL.out; subst hs; clear c1; go_wp2
    go_ret2
    exact ⟨rfl, (Below.refl _ _).alloc (Nat.le_refl _) _⟩
   ·have f1 : (r == cc) = false := by simp [c1]
    have nx := GO.out i k r HW.out (by rw [← HC.out]; exact c1) HALL.out; have NX := hyd nx; clear c1 nx; go_wp2
    go_roundw
    case rel => exact ⟨i + k, hkl, rfl, NX.out⟩
    case measure => simp; omega
  ·obtain rfl : i = l.length := by omega
   have hnx := fun ty => run_next_end (P := Tryz.prog) w ⟨l.toArray⟩ l.length ty (by rw [size_toArray]; omega)
   have hs := SN.out HALL.out; subst hs; go_wp2
   go_ret2
   exact ⟨rfl, (Below.refl _ _).alloc (Nat.le_refl _) _⟩
def wordI (m : Int) : List UInt8 := if 1 ≤ m ∧ m ≤ 4 then modeL m else []
theorem word_yes (m : Int) (h : 1 ≤ m ∧ m ≤ 4) : wordI m = modeL m := if_pos h
theorem tword_is (m : Int) (w : World) : Calls Tryz.prog 130 #[.int .i64 m] w fun e w' => e = .returned (.string ⟨(wordI m).toArray⟩) ∧ w = w' := by
 unfold wordI modeL
 by_cases h1 : m = 1
 ·subst h1
  go_enter Tryz.func130, Tryz.ntmps130
  go_wp2; go_ret; exact ⟨rfl, rfl⟩
 ·by_cases h2 : m = 2
  ·subst h2
   go_enter Tryz.func130, Tryz.ntmps130
   go_wp2; go_ret; exact ⟨rfl, rfl⟩
  ·by_cases h3 : m = 3
   ·subst h3
    go_enter Tryz.func130, Tryz.ntmps130
    go_wp2; go_ret; exact ⟨rfl, rfl⟩
   ·by_cases h4 : m = 4
    ·subst h4
     go_enter Tryz.func130, Tryz.ntmps130
     go_wp2; go_ret; exact ⟨rfl, rfl⟩
    ·have e : ¬ (1 ≤ m ∧ m ≤ 4) := by omega
     rw [if_neg e]; have f1 : (m == 1) = false := beq_false_of_ne h1; have f2 : (m == 2) = false := beq_false_of_ne h2; have f3 : (m == 3) = false := beq_false_of_ne h3; have f4 : (m == 4) = false := beq_false_of_ne h4; clear h1 h2 h3 h4 e
     go_enter Tryz.func130, Tryz.ntmps130
     go_wp2; go_ret; exact ⟨rfl, rfl⟩
theorem place_is (i : Itm) (hn : i.name.length ≤ 1000000) (w : World) :
  Calls Tryz.prog 133 #[.agg (cellsI i).toArray] w fun e w' => e = .returned (.string ⟨(fullI i).toArray⟩) ∧ Below w.heap.size w w' := by
 have h0 := heap_alloc_new w (.cells (cellsI i).toArray 77); have q0 : (w.alloc (.cells (cellsI i).toArray 77)).cell? ⟨w.heap.size, 0, none⟩ = some (.int .i64 i.mode) := (Lib.cell_of_heap h0 0).trans rfl; have q1 : (w.alloc (.cells (cellsI i).toArray 77)).cell? ⟨w.heap.size, 1, none⟩ = some (.string ⟨i.name.toArray⟩) := (Lib.cell_of_heap h0 1).trans rfl; have B0 := hyd ((Below.refl w.heap.size w).alloc (Nat.le_refl _) (.cells (cellsI i).toArray 77))
 have ad := fun w => add_lists (P := Tryz.prog) w i.name [47] (by simp; omega)
 unfold fullI; clear h0; obtain ⟨m, hm⟩ : ∃ m, i.mode = m := ⟨_, rfl⟩; rw [hm] at q0 ⊢
 by_cases h4 : m = 4
 ·rw [if_pos h4]
  subst h4; clear hm; generalize (⟨(i.name ++ [47]).toArray⟩ : ByteArray) = s1 at ad ⊢; generalize (⟨i.name.toArray⟩ : ByteArray) = s0 at ad q1
  generalize (cellsI i).toArray = arr at *
  go_enter Tryz.func133, Tryz.ntmps133
  go_wp2; go_ret; exact ⟨rfl, B0.out⟩
 ·rw [if_neg h4]
  have hf : (m == 4) = false := beq_false_of_ne h4; clear hm ad h4
  generalize (⟨i.name.toArray⟩ : ByteArray) = s0 at *
  generalize (cellsI i).toArray = arr at *
  go_enter Tryz.func133, Tryz.ntmps133
  go_wp2; go_ret; exact ⟨rfl, B0.out⟩
theorem pBefore_is (i j : Itm) (hi : i.id.length = 20) (hj : j.id.length = 20) (ni : i.name.length ≤ 1000000) (nj : j.name.length ≤ 1000000) (w : World) :
  Calls Tryz.prog 100 #[.agg (cellsI i).toArray, .agg (cellsI j).toArray] w fun e w' => e = .returned (.bool (befI i j)) ∧ Below w.heap.size w w' := by
 have c1 := fun w => place_is i ni w
 have c2 := fun w => place_is j nj w
 have hr := less_mk (fullI i) (fullI j); rw [show befI i j = decide (fullI i < fullI j) from rfl]; generalize decide (fullI i < fullI j) = r at hr ⊢; generalize (⟨(fullI i).toArray⟩ : ByteArray) = s1 at c1 hr; generalize (⟨(fullI j).toArray⟩ : ByteArray) = s2 at c2 hr; have b1 := (Below.refl w.heap.size w).alloc (Nat.le_refl _) (.cells (cellsI i).toArray 77); have b2 := b1.alloc b1.size (.cells (cellsI j).toArray 77)
 have e1 : (w.alloc (.cells (cellsI i).toArray 77)).heap.size = w.heap.size + 1 := by simp
 have h1 := (((Below.refl (w.alloc (.cells (cellsI i).toArray 77)).heap.size (w.alloc (.cells (cellsI i).toArray 77))).alloc (Nat.le_refl _) (.cells (cellsI j).toArray 77)).block w.heap.size (by simp)).trans (heap_alloc_new w _); have h2 := heap_alloc_new (w.alloc (.cells (cellsI i).toArray 77)) (.cells (cellsI j).toArray 77); rw [e1] at h2; have K0 := restB_keep (show RestB w i j ((w.alloc (.cells (cellsI i).toArray 77)).alloc (.cells (cellsI j).toArray 77)) from ⟨h1, h2, b2⟩) ((Below.refl _ _).drew); have D1 := hyd (fun u (h : RestB w i j u) => ((c1 u).mono (fun e u' ⟨he, hb⟩ => ⟨he, restB_keep h hb⟩) : Calls Tryz.prog 133 #[.agg (cellsI i).toArray] u fun e u' => e = .returned (.string s1) ∧ RestB w i j u')); have D2 := hyd (fun u (h : RestB w i j u) => ((c2 u).mono (fun e u' ⟨he, hb⟩ => ⟨he, restB_keep h hb⟩) : Calls Tryz.prog 133 #[.agg (cellsI j).toArray] u fun e u' => e = .returned (.string s2) ∧ RestB w i j u'))
 have li : (Tryz.prog.info? 77).map (·.size) = some (cellsI i).length := by rw [cellsI_len i hi]; exact infoItem
 have lj : (Tryz.prog.info? 77).map (·.size) = some (cellsI j).length := by rw [cellsI_len j hj]; exact infoItem
 have KK := hyd K0; have LI := hyd li; have LJ := hyd lj; clear c1 c2 b1 b2 e1 h1 h2 hi hj ni nj K0 li lj
 go_enter Tryz.func100, Tryz.ntmps100
 go_wp2_with fail
 refine wp_region_held_drew (S := RestB w i j) (by kernel_rfl) KK.out (fun hHeld => ?_); refine wpAnyH_take (i := 0) (v := .agg (cellsI i).toArray) rfl (by kernel_rfl) (by kernel_rfl) (by kernel_rfl) (fun _ _ _ h => h) (yieldsIf_load_mid (by rfl) 77 (.tmp 2) rfl w.heap.size 0 rfl (cellsI i) _ (fun u h => row_range h.1) Tryz.underlying77 rfl LI.out) hHeld ?_; refine wpAnyH_take (i := 2) (v := .agg (cellsI j).toArray) rfl (by kernel_rfl) (by kernel_rfl) (by kernel_rfl) (fun _ _ _ h => h) (yieldsIf_load_mid (by rfl) 77 (.tmp 3) rfl (w.heap.size + 1) 0 rfl (cellsI j) _ (fun u h => row_range h.2.1) Tryz.underlying77 rfl LJ.out) hHeld ?_; refine wpAnyH_ready (rs := [1]) (by kernel_rfl) (by simp) ?_; refine AllReadyH.cons rfl (fun K hK => ?_) AllReadyH.nil
 go_simp
 refine (D1.out _ hHeld).mono ?_; rintro e u1 ⟨rfl, hH1⟩; refine hK.out _ _ hH1 (fun _ => ?_); clear hK K hHeld; refine wpAnyH_ready (rs := [3]) (by kernel_rfl) (by simp) ?_; refine AllReadyH.cons rfl (fun K hK => ?_) AllReadyH.nil
 go_simp
 refine (D2.out _ hH1).mono ?_; rintro e u2 ⟨rfl, hH2⟩; refine hK.out _ _ hH2 (fun _ => ?_); clear hK K; refine wpAnyH_take (i := 4) (v := .bool r) rfl (by kernel_rfl) (by kernel_rfl) (by kernel_rfl) (fun _ _ _ h => h) (Or.inl ⟨by rfl, fun w _ => by go_simp⟩) hH2 ?_; refine wpAnyH_take (i := 5) (v := .bool r) rfl (by kernel_rfl) (by kernel_rfl) (by kernel_rfl) (fun _ _ _ h => h) (Or.inl ⟨by rfl, fun w _ => by go_simp⟩) hH2 ?_; refine wpAnyH_done (by kernel_rfl) ?_ _; have H2 := hyd hH2; clear hH1 hH2; go_wp2; go_ret; exact ⟨rfl, H2.out.2.2⟩
theorem wpList_build_as {P : Program} {ops : Array Oper} {rest : List Oper} {o : Oper} {a : Act} {w : World} {Q : Exit → Act → World → Prop} (hgd : o.guard = none) (t : TypeId) (parts : Array (Nat × Operand)) (ho : o.op = .build t parts)
  (cells : Array Value) (hb : P.built t (parts.map fun (i, x) => (i, a.eval x)).toList = some cells)
  (h : wpList P ops Q rest (a.put o.dst (.agg cells)) w) : wpList P ops Q (o :: rest) a w :=
 wpList_plain hgd fun K hK => wp_build t parts ho (by rw [hb]; rfl) (by rw [hb]; exact hK _ _ h)
theorem wpList_build_one {P : Program} {ops : Array Oper} {rest : List Oper} {o : Oper} {a : Act} {w : World} {Q : Exit → Act → World → Prop} (hgd : o.guard = none) (t : TypeId) (k : Nat) (x : Operand) (ho : o.op = .build t #[(k, x)])
  (v : Value) (hx : a.eval x = v) (cells : Array Value) (hb : P.built t [(k, v)] = some cells)
  (h : wpList P ops Q rest (a.put o.dst (.agg cells)) w) : wpList P ops Q (o :: rest) a w :=
 wpList_build_as hgd t #[(k, x)] ho cells (by simp [hx, hb]) h
def modeAt (b : List UInt8) : Option Int := ([1, 2, 3, 4] : List Int).find? (fun m => (modeL m ++ [32]).isPrefixOf b)
theorem modeAt_first {b : List UInt8} {k : Int} (h1 : 1 ≤ k) (h4 : k ≤ 4) (hn : ∀ m : Int, 1 ≤ m → m < k → (modeL m ++ [32]).isPrefixOf b = false) (h : (modeL k ++ [32]).isPrefixOf b = true) : modeAt b = some k := by
 have h0 : k = 1 ∨ k = 2 ∨ k = 3 ∨ k = 4 := by omega
 unfold modeAt
 rcases h0 with rfl | rfl | rfl | rfl
 ·simp only [List.find?_cons, h]
 ·have a := hn 1 (by omega) (by omega)
  simp only [List.find?_cons, h, a]
 ·have a := hn 1 (by omega) (by omega)
  have b := hn 2 (by omega) (by omega); simp only [List.find?_cons, h, a, b]
 ·have a := hn 1 (by omega) (by omega)
  have b := hn 2 (by omega) (by omega); have c := hn 3 (by omega) (by omega); simp only [List.find?_cons, h, a, b, c]
def modeR (b : List UInt8) : Int × Int := match modeAt b with
 | none => (0, 0)
 | some m => (m, (((modeL m).length + 1 : Nat) : Int))
theorem modeR_first {b : List UInt8} {k : Int} (h1 : 1 ≤ k) (h4 : k ≤ 4) (hn : ∀ m : Int, 1 ≤ m → m < k → (modeL m ++ [32]).isPrefixOf b = false) (h : (modeL k ++ [32]).isPrefixOf b = true) : modeR b = (k, (((wordI k ++ [32]).length : Nat) : Int)) := by
 unfold modeR; rw [modeAt_first h1 h4 hn h, word_yes k ⟨h1, h4⟩]
 simp
theorem modeR_none {b : List UInt8} (hn : ∀ m : Int, 1 ≤ m → m < 5 → (modeL m ++ [32]).isPrefixOf b = false) : modeR b = (0, 0) := by
 unfold modeR modeAt; rw [find_none (fun m h1 h4 => hn m h1 (by omega))]
theorem takeMode_is (l : List UInt8) (w : World) (hn : l.length ≤ 1000000) :
  Calls Tryz.prog 97 #[.string ⟨l.toArray⟩] w fun e w' => e = .returned (.tuple #[.int .i64 (modeR l).1, .int .i64 (modeR l).2]) ∧ w = w' := by
 have cp0 : ∀ (p : List UInt8) (w : World), Calls Tryz.prog 131 #[.string ⟨l.toArray⟩, .string ⟨p.toArray⟩] w fun e w' => e = .returned (.bool (p.isPrefixOf l)) ∧ w' = w := fun p w => Tryz.strings_HasPrefix ⟨l.toArray⟩ ⟨p.toArray⟩ w
 have CP := hyd cp0; clear cp0; have FI := hyd (fun k h1 h4 hn h => @modeR_first l k h1 h4 hn h); have NO := hyd (fun hn => @modeR_none l hn); obtain ⟨R, hR⟩ : ∃ R, modeR l = R := ⟨_, rfl⟩; rw [hR] at FI NO ⊢; clear hR; obtain ⟨s, hs⟩ : ∃ s : ByteArray, ⟨l.toArray⟩ = s := ⟨_, rfl⟩; rw [hs] at CP ⊢; clear hs
 go_enter Tryz.func97, Tryz.ntmps97
 go_wp2_with fail
 go_loopw [4] (fun v4 wr => ∃ k : Nat, 1 ≤ k ∧ k ≤ 5 ∧ v4 = .int .i64 k ∧ (∀ m : Int, 1 ≤ m → m < k → (modeL m ++ [32]).isPrefixOf l = false) ∧ wr = w) (fun v4 _ => 5 - (intOf v4).toNat)
 case atStart => exact ⟨1, Nat.le_refl _, by omega, rfl, fun m h1 h2 => absurd h2 (by omega), rfl⟩
 case round =>
  obtain ⟨k, hk1, hk5, rfl, hno, rfl⟩ := hrel; have HNO := hyd hno; clear hno
  by_cases hlt : k ≤ 4
  ·have cW := fun w => tword_is (k : Int) w
   have hw := word_yes (k : Int) ⟨by omega, by omega⟩
   have cp := fun w => CP.out (wordI (k : Int) ++ [32]) w
   have fi := FI.out (k : Int) (by omega) (by omega) HNO.out
   have ad := fun w => add_lists (P := Tryz.prog) w (wordI (k : Int)) [32] (by
    have := modeL_len (k : Int)
    rw [hw]; simp; omega)
   have sz := size_toArray (wordI (k : Int) ++ [32]); rw [← hw] at fi; obtain ⟨r, hr⟩ : ∃ r, (wordI (k : Int) ++ [32]).isPrefixOf l = r := ⟨_, rfl⟩; rw [hr] at cp fi; have HRR := hyd (show (modeL (k : Int) ++ [32]).isPrefixOf l = r by rw [← hw]; exact hr); obtain ⟨n, hn2⟩ : ∃ n, (wordI (k : Int) ++ [32]).length = n := ⟨_, rfl⟩; rw [hn2] at sz fi; generalize (⟨(wordI (k : Int) ++ [32]).toArray⟩ : ByteArray) = s2 at ad cp sz; generalize (⟨(wordI (k : Int)).toArray⟩ : ByteArray) = s1 at ad cW; clear hw hr hn2
   cases r with
   | false =>
    clear fi
    go_wp2_with fail
    refine (cW _).mono ?_; rintro e w1 ⟨rfl, rfl⟩
    go_wp2_with fail
    refine (cp _).mono ?_; rintro e w1 ⟨rfl, rfl⟩; go_wp2
    go_roundw
    case rel =>
     refine ⟨k + 1, by omega, by omega, by go_num, fun m h1 h2 => ?_, by trivial⟩
     by_cases h : m < (k : Int)
     ·exact HNO.out m h1 h
     ·obtain rfl : m = (k : Int) := by omega
      exact HRR.out
    case measure => simp [intOf]; omega
   | true =>
    have fi2 := fi rfl; subst fi2; clear fi
    go_wp2_with fail
    refine (cW _).mono ?_; rintro e w1 ⟨rfl, rfl⟩
    go_wp2_with fail
    refine (cp _).mono ?_; rintro e w1 ⟨rfl, rfl⟩; go_wp2
    go_ret2
    exact ⟨rfl, rfl⟩
  ·have hk : k = 5 := by omega
   subst hk; have no := NO.out HNO.out; subst no; go_wp2
   go_ret2
   exact ⟨rfl, rfl⟩
def zItm : Itm := ⟨0, [], zeroId⟩
def arrI (i : Itm) : Array Value := (cellsI i).toArray
theorem arrI_size (i : Itm) (h : i.id.length = 20) : (arrI i).size = 22 := by unfold arrI; rw [List.size_toArray, cellsI_len i h]
theorem arrI_one (i : Itm) : (arrI i).all (·.oneCell') = true := cellsI_one i
theorem zItem : (Tryz.prog.info? 77).map (fun i => (i.zero, i.size)) = some (some (.agg (arrI zItm)), 22) := by kernel_rfl
theorem zItem_any : ∃ z : Array Value, z = arrI zItm ∧ z.size = 22 ∧ (∀ w, (zeroValue 77).run Tryz.prog w = .ok (.agg z) w) ∧ Tryz.prog.built 77 [] = some z ∧ z.all (·.oneCell') = true :=
 ⟨arrI zItm, rfl, by kernel_rfl, zero_arr zItem, by kernel_rfl, arrI_one _⟩
theorem built_item (m : Int) (s : List UInt8) : Tryz.prog.built 77 [(0, .int .i64 m), (1, .string ⟨s.toArray⟩)] = some (arrI ⟨m, s, zeroId⟩) := by kernel_rfl
theorem info_arr (a : Array Value) (h : a.size = 22) : (Tryz.prog.info? 77).map (·.size) = some a.size := by rw [h]; exact infoItem
theorem slice20_all (u : World) (g k : Nat) : (Instr.sliceAt 24 (.pointer (some ⟨g, k, none⟩)) none none none).run Tryz.prog u = .ok (.slice (some ⟨g, k, none⟩) 20 20) u := by
 have ea : Tryz.prog.arrayLen 24 = 20 := by kernel_rfl
 have ee : Tryz.prog.elem 24 = 5 := by kernel_rfl
 rw [run_sliceAt_array_all u 24 ⟨g, k, none⟩ (by rw [ea, ee]; exact Tryz.underlying24), ea, ee, Tryz.sizeOf5]
 simp [Result.andThen, slicedAt, Addr.add]
theorem bc_one (l : List UInt8) : ∀ v ∈ Lib.byteCells l, v.oneCell' = true := by
 intro v hv; simp only [Lib.byteCells, List.mem_map] at hv; obtain ⟨b, _, rfl⟩ := hv
 rfl
theorem copy_item (w : World) (g : Nat) (m : Int) (nm y : List UInt8) (cs : Array Value) (hcs : cs = arrI ⟨m, nm, zeroId⟩) (hg : w.heap[g]? = some (.cells cs 77 (0, 0))) (hy : 20 ≤ y.length) :
  (Builtin.copy_ #[32, 9] 3 #[.slice (some ⟨g, 2, none⟩) 20 20, .string ⟨y.toArray⟩]).run Tryz.prog w = .ok (.int .i64 20) (w.setRow g (arrI ⟨m, nm, y.take 20⟩)) := by
 have hl : (Lib.byteCells (y.take 20)).length = 20 := by simp [Lib.byteCells]; omega
 have hcz : cs.size = 22 := by rw [hcs]; exact arrI_size _ (by simp [zeroId])
 have hst := run_storeCells_at Tryz.prog g 2 77 (Lib.byteCells (y.take 20)) 0 cs w hg (by rw [hl, hcz]; omega) (bc_one _); have hmin : Nat.min y.length 20 = 20 := Nat.min_eq_right hy; have hu : Tryz.prog.underlying 32 = some (.slice 5) := Tryz.underlying32
 have e1 : (List.take 20 (List.map (fun b : UInt8 => Value.int IntKind.u8 (b.toNat : Int)) y)) = Lib.byteCells (y.take 20) := by simp [Lib.byteCells]
 have e2 : (cs.toList.take 2 ++ Lib.byteCells (y.take 20) ++ cs.toList.drop 22).toArray = arrI ⟨m, nm, y.take 20⟩ := by
  rw [List.drop_eq_nil_of_le (by rw [Array.length_toList, hcz]; omega), List.append_nil, hcs]
  rfl
 rw [hl] at hst; simp only [Nat.add_zero] at hst; rw [show 2 + 20 = 22 from rfl, e2] at hst
 simp [Builtin.copy_, run_underlying hu, Builtin.lenOf, Builtin.firstCells, Tryz.sizeOf5, Result.andThen, size_toArray, hmin]
 rw [e1, hst]
 rfl
theorem results_item3 {fn : Func} (h : fn.results = #[.cell 2 77, .tmp 3, .tmp 4]) (tmps : Array Value) (w : World) (g : Nat) (cs : Array Value) (fr : Nat × Nat) (x y : Value)
  (hp : tmps.getD 2 undef = .pointer (some ⟨g, 0, none⟩)) (hx : tmps.getD 3 undef = x) (hy : tmps.getD 4 undef = y) (hg : w.heap[g]? = some (.cells cs 77 fr)) (hn : cs.size = 22) :
  (results fn tmps).run Tryz.prog w = .ok (.tuple #[.agg cs, x, y]) w := by
 have hl := run_loadVar_row w g 77 77 cs fr _ hg Tryz.underlying77 rfl (info_arr cs hn)
 have hp' : tmps[2]?.getD undef = .pointer (some ⟨g, 0, none⟩) := by simpa using hp
 have hx' : tmps[3]?.getD undef = x := by simpa using hx
 have hy' : tmps[4]?.getD undef = y := by simpa using hy
 simp [results, h, hp', hx', hy', asAddr, hl, Result.andThen]
theorem wpList_load_midW {ops : Array Oper} {rest : List Oper} {op : Oper} {a : Act} {w : World} {Q : Exit → Act → World → Prop} (ty : TypeId) (x : Operand) (ho : op.op = .load ty x) (hw : Region.wanted op (yielded ops a.tmps) = true)
  (b o : Nat) (hx : a.eval x = .pointer (some ⟨b, o, none⟩)) (cs : List Value) (d : TypeDesc) (hc : w.rangeAt b o cs)
  (hu : Tryz.prog.underlying ty = some d) (hd : d.isRow = true) (hi : (Tryz.prog.info? ty).map (·.size) = some cs.length)
  (h : wpList Tryz.prog ops Q rest (a.put op.dst (.agg cs.toArray)) w) : wpList Tryz.prog ops Q (op :: rest) a w :=
 Go.BigFrame.wpList_want hw fun _ hK => wp_load_mid ty x ho b o hx cs d hc hu hd hi (hK _ _ h)
def OnlyNormal (R : Act → World → Prop) : Exit → Act → World → Prop
 | .normal, a, w => R a w
 | _, _, _ => False
theorem region_cut {P : Program} {id : Nat} {ops : Array Oper} {b : Bool} {Q : Exit → Act → World → Prop} {a : Act} {w : World} (R : Act → Act → World → Prop)
  (h : (Code.region id ops b).wp P (OnlyNormal (R a)) a w) (h2 : ∀ a' u, R a a' u → Q .normal a' u) : (Code.region id ops b).wp P Q a w :=
 Code.wp_mono (fun e a' u hr => by cases e <;> first | exact h2 _ _ hr | exact (hr : False).elim) h
end Go.Proofs.YtnbcbiglkmdepaaGreatDoor
