/- gen -/
import Derived.Test.YtnbcbiglkmdepaaGreatDoorFu23
set_option maxHeartbeats 64000000
set_option linter.unusedVariables false
set_option linter.unusedSimpArgs false
open Go.Lib renaming hid → hyd
open List renaming getElem_toArray → lgA, getElem_cons_succ → lgS, getElem_cons_zero → lgZ
namespace Go.Proofs.YtnbcbiglkmdepaaGreatDoor.objectsPlay
set_option maxRecDepth 20000
open Go.RowKit
theorem storeAt_new (S : Nat → Prop) (w : World) (hS : S w.heap.size) : StoreAt S (w.alloc (.cells #[.slice none 0 0] 30)) w.heap.size [] :=
 ⟨hS, [], none, 0, rfl, heap_alloc_new w _, ⟨RowAt.nil _ _, (fun _ h => by cases h), fun ad h _ => absurd h (Nat.lt_irrefl 0), (fun _ h => by cases h)⟩, fun _ => ⟨rfl, rfl⟩, Nat.le_refl _, Nat.zero_le _⟩
theorem bat4 (w : World) (fr : Nat × Nat) : BAt (w.alloc (.cells #[.int .u8 103, .int .u8 111, .int .u8 110, .int .u8 101] 5 fr)) (some ⟨w.heap.size, 0, none⟩) [103, 111, 110, 101] := fun _ =>
 ⟨w.heap.size, 0, rfl, by simp, fun i hi => by
  rw [Lib.cell_of_heap (heap_alloc_new w _)]
  match i, hi with
  | 0, _ => rfl
  | 1, _ => rfl
  | 2, _ => rfl
  | 3, _ => rfl⟩
theorem own_same10 {w w' : World} {g : Nat} {l : List UInt8} {f : Int} (h : OwnAt w g l f) (hk : w'.heap[g]? = w.heap[g]?) : OwnAt w' g l f := by
 refine ⟨h.1, ?_⟩
 rcases h.2 with ⟨h', _⟩ | ⟨g', cap', cur, h', hb', hg, r⟩
 ·simp at h'
 ·refine .inr ⟨g', cap', cur, h', hb', ?_, r⟩
  simp only [Value.slice.injEq, Option.some.injEq, Addr.mk.injEq, and_true, true_and] at h'; obtain ⟨rfl, rfl⟩ := h'; exact hk.trans hg
abbrev N0 (wo : World) (b p : Nat) (kk : Int) (vv : Value) (u : World) : Prop :=
 u.cell? ⟨b, p, none⟩ = some (.int .i64 kk) ∧ u.cell? ⟨b, p + 1, none⟩ = some vv ∧ Below wo.heap.size wo u ∧ b < wo.heap.size
theorem n0_keep {wo u u' : World} {b p : Nat} {kk : Int} {vv : Value} (h : N0 wo b p kk vv u) (k : Below u.heap.size u u') : N0 wo b p kk vv u' :=
 ⟨(k.cell (p := ⟨b, p, none⟩) (Nat.lt_of_lt_of_le h.2.2.2 h.2.2.1.size)).trans h.1, (k.cell (p := ⟨b, p + 1, none⟩) (Nat.lt_of_lt_of_le h.2.2.2 h.2.2.1.size)).trans h.2.1, h.2.2.1.trans (k.mono h.2.2.1.size), h.2.2.2⟩
abbrev R1 (wo : World) (b p : Nat) (kk : Int) (vv : Value) (nb : Nat) (body : List UInt8) (g5 go : Nat) (u : World) : Prop :=
 OwnAt u go body 71 ∧ N0 wo b p kk vv u ∧ wo.heap.size ≤ go ∧ wo.heap.size ≤ g5 ∧ go ≠ g5 ∧ u.heap[g5]? = some (.cells #[.int .i64 kk, .slice (some ⟨go, 0, none⟩) nb (nb + 3)] 34 (0, 0))
theorem leafA {wo u : World} {b p : Nat} {kk : Int} {vv : Value} {nb : Nat} {body : List UInt8} {go : Nat} (ho : OwnAt u go body 71) (hp : N0 wo b p kk vv u) (hg : wo.heap.size ≤ go) :
  R1 wo b p kk vv nb body u.heap.size go (u.alloc (.cells #[.int .i64 kk, .slice (some ⟨go, 0, none⟩) nb (nb + 3)] 34)) :=
 ⟨ho.keep ((Below.refl _ u).alloc (Nat.le_refl _) _), n0_keep hp ((Below.refl _ u).alloc (Nat.le_refl _) _), hg, hp.2.2.1.size, Nat.ne_of_lt ho.lt, heap_alloc_new u _⟩
theorem leafB {wo u : World} {b p : Nat} {kk : Int} {vv : Value} {nb : Nat} {body : List UInt8} {g5 go : Nat} (ho : OwnAt u go body 71) (hp : N0 wo b p kk vv u) (hg : wo.heap.size ≤ go) (h5 : wo.heap.size ≤ g5) (hne : go ≠ g5)
  (hz : u.heap[g5]? = some (.cells #[.int .i64 0, .slice none 0 0] 34 (0, 0))) :
  R1 wo b p kk vv nb body g5 go ((u.setCell ⟨g5, 0, none⟩ (.int .i64 kk)).setCell ⟨g5, 1, none⟩ (.slice (some ⟨go, 0, none⟩) nb (nb + 3))) := by
 have e : ∀ j, j ≠ g5 → ((u.setCell ⟨g5, 0, none⟩ (.int .i64 kk)).setCell ⟨g5, 1, none⟩ (.slice (some ⟨go, 0, none⟩) nb (nb + 3))).heap[j]? = u.heap[j]? := fun j hj => by
  rw [heap_setCell_other _ _ _ _ hj, heap_setCell_other _ _ _ _ hj]
 have hbb := hp.2.2.2
 have c1 : ∀ i v, u.cell? ⟨b, i, none⟩ = some v → ((u.setCell ⟨g5, 0, none⟩ (.int .i64 kk)).setCell ⟨g5, 1, none⟩ (.slice (some ⟨go, 0, none⟩) nb (nb + 3))).cell? ⟨b, i, none⟩ = some v := fun i v h =>
  (World.cell?_of_block (e b (by omega))).trans h
 exact ⟨own_same10 ho (e go hne), ⟨c1 _ _ hp.1, c1 _ _ hp.2.1, (hp.2.2.1.setCell (by show wo.heap.size ≤ g5; omega) _).setCell (by show wo.heap.size ≤ g5; omega) _, hp.2.2.2⟩, hg, h5, hne, (heap_set (heap_set hz 0 _) 1 _).trans rfl⟩
theorem walk (w : World) (a : Option Addr) (n c : Nat) (l : List Obs) (hl : n = l.length) (hb : RowAt rowO w a l) (hno : a = none → n = 0 ∧ c = 0) (hc : n ≤ c ∧ c ≤ maxLen)
  (he : ∀ e ∈ l, okO e ∧ Red w e.v e.body ∧ (-9223372036854775808 ≤ e.kind ∧ e.kind ≤ 9223372036854775807)) (o : List UInt8) (ho : o.length = 20) (x : Int) (hx0 : -9223372036854775808 ≤ x) (hx1 : x ≤ 9223372036854775807) (tab : T10 w) :
  Calls Tryz.prog 3 #[.slice a n c, .agg (arrD o), .int .i64 x] w fun e w' => e = .returned (.bool true) ∧ Below w.heap.size w w' := by
 obtain ⟨A1, hA1⟩ : ∃ A, arrD o = A := ⟨_, rfl⟩
 have sA : A1.size = 20 := by rw [← hA1]; exact arrD_size o ho
 have IA := hyd (show (Tryz.prog.info? 24).map (·.size) = some A1.size from by rw [sA]; exact infoD_n); have bx := (Below.refl w.heap.size w).alloc (Nat.le_refl _) (.cells A1 24); have h01 := heap_alloc_new w (.cells A1 24); obtain ⟨w0, hw0⟩ : ∃ w0, w.alloc (.cells A1 24) = w0 := ⟨_, rfl⟩; rw [hw0] at bx h01; have s0 : w.heap.size < w0.heap.size := lt_of_heap h01; have CN := hyd (new_is w0); have by1 := bx.alloc bx.size (.cells #[.map none] 48); have b01 := (Below.refl w0.heap.size w0).alloc (Nat.le_refl _) (.cells #[.map none] 48); have s1 := StoreP.new (fun j => j = w0.heap.size) w0 rfl; obtain ⟨w1, hw1⟩ : ∃ w1, w0.alloc (.cells #[.map none] 48) = w1 := ⟨_, rfl⟩; rw [hw1] at by1 s1 b01; have z1 : w0.heap.size < w1.heap.size := s1.lt; have by2 := by1.alloc by1.size (.cells #[.slice none 0 0] 30); have b12 := (Below.refl w1.heap.size w1).alloc (Nat.le_refl _) (.cells #[.slice none 0 0] 30); have s2 := storeAt_new (fun j => j = w1.heap.size) w1 rfl; obtain ⟨w2, hw2⟩ : ∃ w2, w1.alloc (.cells #[.slice none 0 0] 30) = w2 := ⟨_, rfl⟩; rw [hw2] at by2 b12 s2; have z2 : w1.heap.size < w2.heap.size := s2.lt; have P2 : Both w A1 w0.heap.size w1.heap.size (fun j => j = w0.heap.size) (fun j => j = w1.heap.size) [] [] w2 := ⟨by2, (b12.block _ (by omega)).trans ((b01.block _ s0).trans h01), s1.below b12, s2, (fun j hj => by subst hj; omega), (fun j hj => by subst hj; omega), (fun j hj hr => by omega)⟩
 have CA := hyd (awake10 w2 (tab.keep by2).pow); have TB := hyd tab; have BX := hyd by2; have HP2 := hyd P2; have HE := hyd he; have HB := hyd hb; have HO := hyd ho; have HA := hyd hA1; have CU := hyd hc; have HL := hyd hl; rw [hA1]; clear hl bx h01 by1 b01 s1 by2 b12 s2 P2 tab he hb ho hA1 sA hno hc
 go_enter Tryz.func3, Tryz.ntmps3
 go_wp2_with fail
 refine CN.out.mono ?_; rintro e w1' ⟨rfl, rfl⟩
 go_wp2_with fail
 refine CA.out.mono ?_; rintro e w3 ⟨rfl, hb23⟩; have P3 := hyd (show PlayI w A1 w1.heap.size 0 w0.heap.size w3 from ⟨_, _, [], [], HP2.out.keep hb23, List.Perm.refl _, goodS_nil _, Nat.le_refl _⟩)
 generalize w1.heap.size = q at *
 generalize w0.heap.size = g0 at *
 clear hb23 CA CN BX HP2
 go_wp2_with fail
 go_loopw [7, 9] (fun sv iv wr => ∃ i g : Nat, i ≤ n ∧ i ≤ 40 ∧ sv = .pointer (some ⟨g, 0, none⟩) ∧ iv = .int .i64 i ∧ PlayI w A1 q i g wr) (fun _ i _ => n - (intOf i).toNat)
 case atStart => exact ⟨0, g0, Nat.zero_le _, Nat.zero_le _, rfl, rfl, P3.out⟩
 case round =>
  clear P3; obtain ⟨i, g, hi, hi40, rfl, rfl, hpi⟩ := hrel; have HPI := hyd hpi; clear hpi
  rename World => wo
  by_cases hn : i < n
  ·by_cases h40 : i < 40
   ·obtain ⟨Sp, Sr, M, L, hps, hML, hG, hLi⟩ := HPI.out
    have hl := HL.out; obtain ⟨b, ob, rfl, hbl, hrow⟩ := HB.out (by omega); obtain ⟨e, hee⟩ : ∃ e, e = l[i]'(by omega) := ⟨_, rfl⟩; obtain ⟨-, red, hk0, hk1⟩ := HE.out e (by rw [hee]; exact List.getElem_mem _); obtain ⟨kk, vv, body⟩ := e; have c0 : w.cell? ⟨b, ob + i * 2, none⟩ = some (.int .i64 kk) := hrow i (by omega) 0 _ (by rw [← hee]; rfl); have c1 : w.cell? ⟨b, ob + i * 2 + 1, none⟩ = some vv := hrow i (by omega) 1 _ (by rw [← hee]; rfl); obtain ⟨va, vc, hvv, hbat, hvno, hvc0, hvc1⟩ := red; obtain ⟨nb, hnb⟩ : ∃ nb, body.length = nb := ⟨_, rfl⟩; simp only at hvv hbat hvno hvc0 hvc1; rw [hnb] at hvv hvno hvc0; subst hvv; have hbo : b < wo.heap.size := Nat.lt_of_lt_of_le hbl hps.bel.size; have d0 : wo.cell? ⟨b, ob + i * 2, none⟩ = some (.int .i64 kk) := (hps.bel.cell (p := ⟨b, ob + i * 2, none⟩) hbl).trans c0; have d1 : wo.cell? ⟨b, ob + i * 2 + 1, none⟩ = some (.slice va nb vc) := (hps.bel.cell (p := ⟨b, ob + i * 2 + 1, none⟩) hbl).trans c1; have HPS := hyd hps; have HML := hyd hML; have HG := hyd hG; have HLi := hyd hLi; have RED := hyd (show Red wo (.slice va nb vc) body from ⟨va, vc, by rw [hnb], hbat.below hps.bel (Nat.le_refl _), by rw [hnb]; exact hvno, by rw [hnb]; exact hvc0, hvc1⟩); have HNB := hyd hnb; have KC := hyd (fun u' (hu : Below w.heap.size w u') => (And.intro ((hu.cell (p := ⟨b, ob + i * 2, none⟩) hbl).trans c0) ((hu.cell (p := ⟨b, ob + i * 2 + 1, none⟩) hbl).trans c1) : u'.cell? ⟨b, ob + i * 2, none⟩ = some (.int .i64 kk) ∧ u'.cell? ⟨b, ob + i * 2 + 1, none⟩ = some (.slice va nb vc)))
    have KR := hyd (fun u' (hu : Below w.heap.size w u') => (⟨va, vc, by rw [hnb], hbat.below hu (Nat.le_refl _), by rw [hnb]; exact hvno, by rw [hnb]; exact hvc0, hvc1⟩ : Red u' (.slice va nb vc) body)); clear hl hps hML hG hLi hrow hee c0 c1 hbat hvno hvc0 hvc1 hnb hbl
    by_cases hbig : 1000 < nb
    ·have g1 : (nb : Int) > 1000 := by omega
     go_wp2
     go_roundw
     case rel => exact ⟨i + 1, g, by omega, by omega, rfl, by go_num, Sp, Sr, M, L, HPS.out, HML.out, HG.out, Nat.le_succ_of_le HLi.out⟩
     case measure => simp [intOf]; omega
    have g1 : ¬ (nb : Int) > 1000 := by omega
    go_wp2_with fail
    have CO := hyd (fun u h => Own_any va nb vc body 71 u h (by have h2 := RED.out; obtain ⟨_, _, e2, _, h3, _⟩ := h2; cases e2; rw [← HNB.out]; exact h3) HNB.out.symm (by have := HNB.out; omega)); have K0 : N0 wo b (ob + i * 2) kk (.slice va nb vc) wo.drew := ⟨d0, d1, (Below.refl _ wo).drew, hbo⟩; have K1 : N0 wo b (ob + i * 2) kk (.slice va nb vc) (wo.drew.alloc (.cells #[.int .i64 0, .slice none 0 0] 34)) := n0_keep K0 ((Below.refl _ _).alloc (Nat.le_refl _) _)
    have S1 := hyd (show wo.heap.size < (wo.drew.alloc (.cells #[.int .i64 0, .slice none 0 0] 34)).heap.size by
     show _ < (wo.heap.push _).size
     rw [Array.size_push]; omega)
    have H1 := hyd (show (wo.drew.alloc (.cells #[.int .i64 0, .slice none 0 0] 34)).heap[wo.heap.size]? = some (.cells #[.int .i64 0, .slice none 0 0] 34 (0, 0)) from heap_alloc_new wo.drew (.cells #[.int .i64 0, .slice none 0 0] 34))
    have DO := hyd (fun u (h : N0 wo b (ob + i * 2) kk (.slice va nb vc) u) =>
     ((CO.out u (by obtain ⟨_, _, e2, h3, _⟩ := RED.out; cases e2; exact h3.keep h.2.2.1)).mono (fun e u' he => ⟨by rw [← HNB.out]; exact he.1, he.2.1, n0_keep h he.2.2, he.2.2⟩) :
      Calls Tryz.prog 6 #[.slice va nb vc, .int .u8 71] u fun e u' => e = .returned (.slice (some ⟨u.heap.size, 0, none⟩) nb (nb + 3)) ∧ OwnAt u' u.heap.size body 71 ∧ N0 wo b (ob + i * 2) kk (.slice va nb vc) u' ∧ Below u.heap.size u u'))
    have E2 : (wo.alloc (.cells #[.int .i64 0, .slice none 0 0] 34)).drew.heap.size = wo.heap.size + 1 := by
     show (wo.heap.push _).size = _
     rw [Array.size_push]
    have E1 : wo.drew.heap.size = wo.heap.size := rfl
    refine region_cut (fun a0 a' u => ∃ g5 go, a' = (((((((((((((a0.put (some 42) (.slice (some ⟨b, ob, none⟩) n c)).put (some 43) (.int .i64 i)).put (some 44) (.pointer (some ⟨b, ob + i * 2, none⟩))).put (some 45) (.pointer (some ⟨b, ob + i * 2, none⟩))).put (some 46) (.int .i64 kk)).put (some 47) (.slice (some ⟨b, ob, none⟩) n c)).put (some 48) (.int .i64 i)).put (some 49) (.pointer (some ⟨b, ob + i * 2, none⟩))).put (some 50) (.pointer (some ⟨b, ob + i * 2 + 1, none⟩))).put (some 51) (.slice va nb vc)).put (some 52) (.slice (some ⟨go, 0, none⟩) nb (nb + 3))).put (some 53) (.agg #[.int .i64 kk, .slice (some ⟨go, 0, none⟩) nb (nb + 3)])).put (some 10) (.pointer (some ⟨g5, 0, none⟩)))
     ∧ R1 wo b (ob + i * 2) kk (.slice va nb vc) nb body g5 go u) ?_ ?_
    ·go_region_law (first
      | (go_simp; go_at_call 6; refine (DO.out _ (by assumption)).mono ?_; rintro e u ⟨rfl, ho, hp, hb⟩; (first | rw [E2] at ho | rw [E1] at ho); have HOB := hyd (And.intro ho (And.intro hp hb)); have p0 := hp.1; have p1 := hp.2.1; have p2 := Nat.lt_of_lt_of_le hp.2.2.2 hp.2.2.1.size; first | (have hz := (hb.block wo.heap.size S1.out).trans H1.out; obtain ⟨y0, y1⟩ := cells2 hz; have z0 := not_frozen hz 0; have z1 := not_frozen hz 1; have HZ := hyd hz; clear ho hp hb hz) | (clear ho hp hb)))
     all_goals first
      | (have hz := HZ.out; refine ⟨wo.heap.size, wo.heap.size + 1, ?_, ?_⟩; go_simp; exact leafB HOB.out.1 HOB.out.2.1 (by omega) (by omega) (by omega) hz)
      | (refine ⟨u.heap.size, wo.heap.size, ?_, ?_⟩; go_simp; exact leafA HOB.out.1 HOB.out.2.1 (by omega))
    ·rintro a' u ⟨g5, go, rfl, hp1⟩
     have b1 := hp1.2.1.2.2.1; have B1 := hyd (HPS.out.keep b1); have OW1 := hyd hp1.1; have FO1 := hyd (HPS.out.free (v := u) (j := go) hp1.2.2.1 hp1.1.lt); have G51 := hyd hp1.2.2.2.2.2; have F51 := hyd (HPS.out.free (v := u) (j := g5) hp1.2.2.2.1 (lt_of_heap hp1.2.2.2.2.2)); have NE5 := hyd hp1.2.2.2.2.1; obtain ⟨y0, y1⟩ := cells2 hp1.2.2.2.2.2; have RGO := hyd (fun u' (h : OwnAt u' go body 71) => (⟨some ⟨go, 0, none⟩, nb + 3, by rw [HNB.out], h.bat, (fun h => by cases h), by rw [HNB.out]; omega, by unfold maxLen; omega⟩ : Red u' (.slice (some ⟨go, 0, none⟩) nb (nb + 3)) body))
     have hL40 : L.length < 5000 := by have := HLi.out; omega
     have hM40 : M.length < 5000 := by rw [HML.out.length_eq]; exact hL40
     have CP := PutP_is B1.out.sp kk (.slice (some ⟨go, 0, none⟩) nb (nb + 3)) body (RGO.out u hp1.1) (TB.out.keep B1.out.bel).pow hM40; obtain ⟨pm1, pm2⟩ := putM_putS HML.out HG.out hL40 kk body; have ln := putM_len M kk body; have gd := goodS_put (most := 5000) HG.out kk body; have ll := (putS_len (sum := sumO) (most := 5000) (l := L) kk body).2
     have CR := fun u' (s : StoreAt Sr u' q L) (r : Red u' (.slice va nb vc) body) => rPut_is s kk (.slice va nb vc) body r (by omega)
     rw [← pm2] at CR; generalize putM M kk body = pm at CP CR pm1 pm2 ln; generalize putS sumO 5000 L kk body = ps at CR pm1 pm2 gd ll; obtain ⟨M2, idv, er⟩ := pm; obtain ⟨L2, idw, er2⟩ := ps; simp only at CP CR pm1 pm2 ln gd ll; clear pm2; obtain ⟨I, hI⟩ : ∃ I, arrD idv = I := ⟨_, rfl⟩; rw [hI] at CP CR; have IS := hyd (show I.size = 20 by rw [← hI]; exact arrD_size _ ln); have IO := hyd (show I.all (·.oneCell') = true by rw [← hI]; exact arrD_one _); have II := hyd (show (Tryz.prog.info? 24).map (·.size) = some I.size from by rw [IS.out]; exact infoD_n); have CP := hyd CP; have CR := hyd CR; have PM := hyd pm1; have LN := hyd ln; have GD := hyd gd; have LL := hyd (Nat.le_trans ll (Nat.succ_le_succ HLi.out)); have HI := hyd hI; obtain ⟨z, hz0, hzs, hzv, hzb, hz1⟩ := zId_any; have ZS := hyd hzs; clear b1 hp1 hM40 hL40 pm1 ln gd ll hI hz0 hzs hzb hz1 d0 d1 K0 K1 S1 H1 DO E2 E1 CO; simp only [Act.put, lsA, lsZ, lsS]
     go_wp2_with fail
     refine CP.out.mono ?_; rintro e u1 ⟨rfl, hs1, hc1⟩; have B2 := hyd (B1.out.put hs1 hc1); have OW2 := hyd (own_same10 OW1.out (hc1.block go OW1.out.lt FO1.out.2.2.1)); have G52 := hyd (F51.out.chg hc1 G51.out); have FO2 := hyd (FO1.out.put hc1.size); have F52 := hyd (F51.out.put hc1.size); generalize (fun j => Sp j ∨ (u.heap.size ≤ j ∧ j < u1.heap.size)) = Sp2 at B2 FO2 F52; clear hs1 hc1 y0 y1 B1 OW1 FO1 G51 F51 CP
     go_wp2_with (first
      | (with_reducible refine wpList_store_all rfl 24 (.tmp 11) (.tmp 58) rfl u1.heap.size I rfl rfl 24 z (heap_alloc_new u1 _) II.out (IS.out.trans ZS.out.symm) IO.out ?_)
      | fail)
     intro u2 r2 off2 sz2; have b2 : Below u1.heap.size u1 u2 := ((Below.refl u1.heap.size u1).alloc (Nat.le_refl _) (.cells z 24)).trans (off2.below (Nat.le_refl _) (by simp)); have B3 := hyd (B2.out.keep b2); have OW3 := hyd (OW2.out.keep b2); have G53 := hyd ((b2.block _ (lt_of_heap G52.out)).trans G52.out); have FO3 := hyd (FO2.out.keep b2.size); have F53 := hyd (F52.out.keep b2.size); have GA3 := hyd r2; have FA3 := hyd (B2.out.free (v := u2) (Nat.le_refl _) (lt_of_heap r2)); generalize u1.heap.size = ga at GA3 FA3 ⊢; clear b2 r2 off2 sz2 B2 OW2 G52 FO2 F52; obtain ⟨d0, d1⟩ := KC.out u2 B3.out.bel
     go_wp2_with fail
     refine (CR.out u2 B3.out.sr (KR.out u2 B3.out.bel)).mono ?_; rintro e u3 ⟨rfl, hs3, hc3⟩; have B4 := hyd (B3.out.rput hs3 hc3); have OW4 := hyd (own_same10 OW3.out (hc3.block go OW3.out.lt (fun e => FO3.out.2.2.2 (e ▸ B3.out.sr.1)))); have G54 := hyd (F53.out.off B3.out.sr.1 hc3 G53.out); have GA4 := hyd (FA3.out.off B3.out.sr.1 hc3 GA3.out); have FO4 := hyd (FO3.out.rput hc3.size); have F54 := hyd (F53.out.rput hc3.size); have FA4 := hyd (FA3.out.rput hc3.size); generalize (fun j => Sr j ∨ (u2.heap.size ≤ j ∧ j < u3.heap.size)) = Sr2 at B4 FO4 F54 FA4; clear hs3 hc3 d0 d1 B3 OW3 G53 GA3 FO3 F53 FA3 CR
     go_wp2_with (first
      | (with_reducible refine wpList_store_all rfl 24 (.tmp 13) (.tmp 67) rfl u3.heap.size I rfl rfl 24 z (heap_alloc_new u3 _) II.out (IS.out.trans ZS.out.symm) IO.out ?_)
      | fail)
     intro u4 r4 off4 sz4; have b4 : Below u3.heap.size u3 u4 := ((Below.refl u3.heap.size u3).alloc (Nat.le_refl _) (.cells z 24)).trans (off4.below (Nat.le_refl _) (by simp)); have B5 := hyd (B4.out.keep b4); have OW5 := hyd (OW4.out.keep b4); have G55 := hyd ((b4.block _ (lt_of_heap G54.out)).trans G54.out); have GA5 := hyd ((b4.block _ (lt_of_heap GA4.out)).trans GA4.out); have FO5 := hyd (FO4.out.keep b4.size); have F55 := hyd (F54.out.keep b4.size); have FA5 := hyd (FA4.out.keep b4.size); have GB5 := hyd r4; have FB5 := hyd (B4.out.free (v := u4) (Nat.le_refl _) (lt_of_heap r4)); have NEB := hyd (Nat.ne_of_lt OW4.out.lt); generalize u3.heap.size = gb at GB5 FB5 NEB ⊢; clear b4 r4 off4 sz4 B4 OW4 G54 GA4 FO4 F54 FA4; have CK := hyd (fun u' (hu : Below u4.heap.size u4 u') => Kept_any go nb nb (nb + 3) vc va body 71 u' (OW5.out.keep hu) (by obtain ⟨_, _, e2, h3, _⟩ := KR.out u' (B5.out.keep hu).bel; cases e2; exact h3) HNB.out.symm (by rw [HNB.out]) HNB.out.symm (by have := HNB.out; omega)); have LA := hyd (fun u' (hu : Below u4.heap.size u4 u') => row_arrD ((hu.block _ (lt_of_heap GA5.out)).trans GA5.out)); have LB := hyd (fun u' (hu : Below u4.heap.size u4 u') => row_arrD ((hu.block _ (lt_of_heap GB5.out)).trans GB5.out)); have LG := hyd (fun u' (hu : Below u4.heap.size u4 u') => (cells2 ((hu.block _ (lt_of_heap G55.out)).trans G55.out)).2); have LI := hyd (fun u' (hu : Below u4.heap.size u4 u') => (KC.out u' (B5.out.keep hu).bel).2)
     have hne := fun u' => neq_arrD idv idv LN.out LN.out u'
     rw [HI.out, show (!eqD idv idv) = false by simp [eqD]] at hne
     have her : (er != er) = false := by simp
     have LX := hyd (show (Tryz.prog.info? 24).map (·.size) = some I.toList.length from by rw [Array.length_toList]; exact II.out)
     go_wp2_with fail
     refine rgB u4 (fun hd => ?_); refine tkH 0 rfl (yieldsIf_load_mid (by kernel_rfl) 24 (.tmp 11) (by kernel_rfl) ga 0 (by kernel_rfl) I.toList _ (fun u hu => LA.out u hu) Tryz.underlying24 rfl LX.out) hd ?_; refine tkH 1 rfl (yieldsIf_load_mid (by kernel_rfl) 24 (.tmp 13) (by kernel_rfl) gb 0 (by kernel_rfl) I.toList _ (fun u hu => LB.out u hu) Tryz.underlying24 rfl LX.out) hd ?_; refine tkW 2 rfl hd ?_; refine tkW 3 rfl hd ?_; refine tkW 4 rfl hd ?_; refine tkW 5 rfl hd ?_; refine tkW 6 rfl hd ?_; refine tkW 7 rfl hd ?_; refine tkW 8 rfl hd ?_; refine tkW 9 rfl hd ?_; refine tkV 10 rfl (.slice (some ⟨go, 0, none⟩) nb (nb + 3)) ?ky10x hd ?_
     case ky10x => intro u hu; have q := LG.out u hu; go_simp
     refine tkW 11 rfl hd ?_; refine tkW 12 rfl hd ?_; refine tkW 13 rfl hd ?_; refine tkW 14 rfl hd ?_; refine tkV 15 rfl (.slice va nb vc) ?ky15x hd ?_
     case ky15x => intro u hu; have q := LI.out u hu; go_simp
     refine rdH 16 rfl (fun K hK => ?_)
     go_simp
     refine (CK.out _ hd).mono ?_; rintro e u5 ⟨rfl, hI5⟩; have hH := hd.trans (hI5.mono hd.size); clear hd hI5; refine hK.out _ _ hH (fun hd => ?_); clear hK K
     try simp only [Act.put, lsA, lsZ, lsS]
     refine tkW 17 rfl hd ?_; refine tkW 18 rfl hd ?_
     try simp only [Act.put, lgA, lgS, lgZ, lsA, lsZ, lsS]
     refine wpAnyH_done (by kernel_rfl) ?_ _; have B6 := hyd (B5.out.keep hd); have OW6 := hyd (OW5.out.keep hd); have FO6 := hyd (FO5.out.keep hd.size); have FB6 := hyd (FB5.out.keep hd.size); have GB6 := hyd ((hd.block _ (lt_of_heap GB5.out)).trans GB5.out); obtain ⟨y0, y1⟩ := cells2 ((hd.block _ (lt_of_heap G55.out)).trans G55.out); have CS := hyd (Spoil_row (.slice (some ⟨go, 0, none⟩) nb (nb + 3)) body u5 (by have := OW6.out.row; rw [HNB.out] at this; exact this) (by have := HNB.out; omega)); clear hd LA LB LG LI hne her LX CK B5 OW5 G55 GA5 FO5 F55 FA5 GB5 FB5
     go_wp2_with fail
     refine CS.out.mono ?_; rintro e u7 ⟨rfl, hc7⟩; have hc7 : Chg (fun k => k = go) u5 u7 := hc7.weak (fun k _ hk => (Option.some.inj hk).symm); have B7 := hyd (B6.out.other FO6.out hc7); have FB7 := hyd (FB6.out.keep hc7.size); have GB7 := hyd ((hc7.block _ (lt_of_heap GB6.out) (fun e => NEB.out e.symm)).trans GB6.out); clear hc7 y0 y1 CS B6 OW6 FO6 FB6 GB6
     by_cases hfk : (i : Int) = x
     ·subst hfk
      have CF := hyd (ForkP_is B7.out.sp)
      go_wp2_with fail
      refine CF.out.mono ?_; rintro e u8 ⟨g', rfl, hg', hb8, hs8⟩; have kc := Lib.run_convert_bytes_const (P := Tryz.prog) u8 32 5 #[Value.int .u8 103, Value.int .u8 111, Value.int .u8 110, Value.int .u8 101] 4 4 Tryz.underlying32 Tryz.underlying5; rw [show (#[Value.int .u8 103, Value.int .u8 111, Value.int .u8 110, Value.int .u8 101] : Array Value).size = 4 from rfl] at kc; obtain ⟨u9, hu9⟩ : ∃ u9, u8.alloc (.cells #[.int .u8 103, .int .u8 111, .int .u8 110, .int .u8 101] 5 (4, 5)) = u9 := ⟨_, rfl⟩
      have b9 : Below u8.heap.size u8 u9 := by rw [← hu9]; exact (Below.refl _ _).alloc (Nat.le_refl _) _
      have rd : Red u9 (.slice (some ⟨u8.heap.size, 0, none⟩) 4 4) [103, 111, 110, 101] := by
       refine ⟨some ⟨u8.heap.size, 0, none⟩, 4, rfl, ?_, (fun h => by cases h), Nat.le_refl _, by unfold maxLen; omega⟩; rw [← hu9]; exact bat4 u8 (4, 5)
      have h79 := hb8.trans (b9.mono hb8.size)
      have hcb : ∀ b, u9.heap[g]? = some (.cells #[.map (some b)] 48 (0, 0)) → u7.heap[g]? = some (.cells #[.map (some b)] 48 (0, 0)) := fun b hb => (h79.block g B7.out.sp.lt).symm.trans hb
      have CP9 := hyd (PutP_isC (C := fun j => j = g ∨ u7.heap[g]? = some (.cells #[.map (some j)] 48 (0, 0))) (B7.out.keep h79).sp (.inl rfl) (fun b hb => .inr (hcb b hb)) 1 (.slice (some ⟨u8.heap.size, 0, none⟩) 4 4) [103, 111, 110, 101] rd (TB.out.keep (B7.out.keep h79).bel).pow (by rw [PM.out.length_eq]; have := LL.out; omega)); have NG := hyd hg'; have HB8 := hyd hb8; have HS8 := hyd hs8; have HB9 := hyd b9; clear hg' hb8 hs8 b9 rd hcb h79 CF
      go_wp2_with fail
      refine CP9.out.mono ?_; rintro e u10 ⟨rfl, -, hc10⟩; have B10 := hyd (B7.out.fork HB8.out HS8.out HB9.out hc10); have GB10 := hyd ((hc10.block gb (Nat.lt_of_lt_of_le FB7.out.2.1 (Nat.le_trans HB8.out.size HB9.out.size)) (fun e => FB7.out.2.2.1 (e.elim (fun e => e ▸ B7.out.sp.1) (fun e => B7.out.sp.map_in e)))).trans (((HB8.out.trans (HB9.out.mono HB8.out.size)).block gb FB7.out.2.1).trans GB7.out)); generalize (fun j => ForkS Sp2 u7 g j ∨ (u7.heap.size ≤ j ∧ j < u8.heap.size)) = Sp3 at B10; clear hc10 CP9 kc hu9; have GS := GD.out
      have lz : L2.length ≤ 1000000 := by have := LL.out; omega
      have hbl : ∀ c ∈ L2, c.body.length ≤ 65536 := fun c hc => (GS.one c hc).2.2
      have hid2 : ∀ j ∈ L2.map Cel.id, j.length = 20 := fun j hj => by
       obtain ⟨c, hc, rfl⟩ := List.mem_map.1 hj; exact B10.out.sr.ids c hc
      have C1 := hyd (alike_is B10.out.sp B10.out.sr PM.out GS.srt lz hbl idv LN.out (TB.out.keep B10.out.bel)); rw [HI.out] at C1; have C2 := hyd (fun u' (hu : Below u10.heap.size u10 u') => alike_is (B10.out.keep hu).sp (B10.out.keep hu).sr PM.out GS.srt lz hbl o HO.out (TB.out.keep (B10.out.keep hu).bel)); rw [HA.out] at C2; have C3 := hyd (fun u' (hu : Below u10.heap.size u10 u') => Ids_is (B10.out.keep hu).sp PM.out GS.srt lz); have C4 := hyd (fun u' (hu : Below u10.heap.size u10 u') => rIds_is (B10.out.keep hu).sr lz); have BXK := hyd (fun u' (hu : Below u10.heap.size u10 u') => (B10.out.keep hu).box); have ID2 := hyd hid2; have LZ := hyd (show (L2.map Cel.id).length ≤ 1000000 by rw [List.length_map]; exact lz); clear GS lz hbl hid2; generalize L2.map Cel.id = idl at C3 C4 ID2 LZ
      go_wp2_with (first
       | (with_reducible refine wpList_load_all 24 (.tmp 13) rfl (by kernel_rfl) gb I 24 (0, 0) rfl GB10.out _ Tryz.underlying24 rfl II.out ?_)
       | fail)
      refine C1.out.mono ?_; rintro e v1 ⟨rfl, hb1⟩; have H1 := hyd hb1; clear hb1
      go_wp2_with (first
       | (with_reducible refine wpList_load_all 24 (.tmp 4) rfl (by kernel_rfl) w.heap.size A1 24 (0, 0) rfl (BXK.out _ H1.out) _ Tryz.underlying24 rfl IA.out ?_)
       | fail)
      refine (C2.out _ H1.out).mono ?_; rintro e v2 ⟨rfl, hb2⟩; have H2 := hyd (H1.out.trans (hb2.mono H1.out.size)); clear hb2
      go_wp2_with fail
      refine (C3.out _ H2.out).mono ?_; rintro e v3 ⟨x3, rfl, ow3, hb3⟩; obtain ⟨a3, c3, rfl, _, _, ids3, _⟩ := ownD_ids ow3 ID2.out; have H3 := hyd (H2.out.trans (hb3.mono H2.out.size)); have I3 := hyd (fun u' (hu : Below v3.heap.size v3 u') => (ownD_ids (ownD_below ow3 hu) ID2.out)); obtain ⟨n3, hn3⟩ : ∃ n3, idl.length = n3 := ⟨_, rfl⟩; have N3 := hyd hn3; rw [hn3]; rw [hn3] at I3; clear hb3 ow3 ids3 hn3
      go_wp2_with fail
      refine (C4.out _ H3.out).mono ?_; rintro e v4 ⟨x4, rfl, ow4, hb4⟩; obtain ⟨a4, c4, hx4, _, _, ids4, _⟩ := ownD_ids ow4 ID2.out; rw [N3.out] at hx4; subst hx4; have H4 := hyd (H3.out.trans (hb4.mono H3.out.size))
      have ids3 : IdsAt v4 a3 idl := by
       obtain ⟨a5, c5, e5, _, _, i5, _⟩ := I3.out v4 hb4
       cases e5
       exact i5
      have CPL := hyd (PlainIds_any a3 a4 n3 c3 c4 idl v4 ids3 ids4 N3.out.symm (by rw [← N3.out]; exact LZ.out) ID2.out); clear hb4 ow4 ids3 ids4
      go_wp2_with fail
      refine CPL.out.mono ?_; rintro e v5 ⟨rfl, hb5⟩; have H5 := hyd (H4.out.trans (hb5.mono H4.out.size)); have NXT := hyd (show PlayI w A1 q (i + 1) g' v5 from ⟨_, _, M2, L2, B10.out.keep H5.out, PM.out, GD.out, LL.out⟩); clear hb5; go_wp2
      go_roundw
      case rel => exact ⟨i + 1, g', by omega, by omega, rfl, by go_num, NXT.out⟩
      case measure => simp [intOf]; omega
     ·have hfz : ((i : Int) == x) = false := by simp [hfk]
      have GS := GD.out
      have lz : L2.length ≤ 1000000 := by have := LL.out; omega
      have hbl : ∀ c ∈ L2, c.body.length ≤ 65536 := fun c hc => (GS.one c hc).2.2
      have hid2 : ∀ j ∈ L2.map Cel.id, j.length = 20 := fun j hj => by
       obtain ⟨c, hc, rfl⟩ := List.mem_map.1 hj; exact B7.out.sr.ids c hc
      have C1 := hyd (alike_is B7.out.sp B7.out.sr PM.out GS.srt lz hbl idv LN.out (TB.out.keep B7.out.bel)); rw [HI.out] at C1; have C2 := hyd (fun u' (hu : Below u7.heap.size u7 u') => alike_is (B7.out.keep hu).sp (B7.out.keep hu).sr PM.out GS.srt lz hbl o HO.out (TB.out.keep (B7.out.keep hu).bel)); rw [HA.out] at C2; have C3 := hyd (fun u' (hu : Below u7.heap.size u7 u') => Ids_is (B7.out.keep hu).sp PM.out GS.srt lz); have C4 := hyd (fun u' (hu : Below u7.heap.size u7 u') => rIds_is (B7.out.keep hu).sr lz); have BXK := hyd (fun u' (hu : Below u7.heap.size u7 u') => (B7.out.keep hu).box); have ID2 := hyd hid2; have LZ := hyd (show (L2.map Cel.id).length ≤ 1000000 by rw [List.length_map]; exact lz); clear GS lz hbl hid2; generalize L2.map Cel.id = idl at C3 C4 ID2 LZ
      go_wp2_with (first
       | (with_reducible refine wpList_load_all 24 (.tmp 13) rfl (by kernel_rfl) gb I 24 (0, 0) rfl GB7.out _ Tryz.underlying24 rfl II.out ?_)
       | fail)
      refine C1.out.mono ?_; rintro e v1 ⟨rfl, hb1⟩; have H1 := hyd hb1; clear hb1
      go_wp2_with (first
       | (with_reducible refine wpList_load_all 24 (.tmp 4) rfl (by kernel_rfl) w.heap.size A1 24 (0, 0) rfl (BXK.out _ H1.out) _ Tryz.underlying24 rfl IA.out ?_)
       | fail)
      refine (C2.out _ H1.out).mono ?_; rintro e v2 ⟨rfl, hb2⟩; have H2 := hyd (H1.out.trans (hb2.mono H1.out.size)); clear hb2
      go_wp2_with fail
      refine (C3.out _ H2.out).mono ?_; rintro e v3 ⟨x3, rfl, ow3, hb3⟩; obtain ⟨a3, c3, rfl, _, _, ids3, _⟩ := ownD_ids ow3 ID2.out; have H3 := hyd (H2.out.trans (hb3.mono H2.out.size)); have I3 := hyd (fun u' (hu : Below v3.heap.size v3 u') => (ownD_ids (ownD_below ow3 hu) ID2.out)); obtain ⟨n3, hn3⟩ : ∃ n3, idl.length = n3 := ⟨_, rfl⟩; have N3 := hyd hn3; rw [hn3]; rw [hn3] at I3; clear hb3 ow3 ids3 hn3
      go_wp2_with fail
      refine (C4.out _ H3.out).mono ?_; rintro e v4 ⟨x4, rfl, ow4, hb4⟩; obtain ⟨a4, c4, hx4, _, _, ids4, _⟩ := ownD_ids ow4 ID2.out; rw [N3.out] at hx4; subst hx4; have H4 := hyd (H3.out.trans (hb4.mono H3.out.size))
      have ids3 : IdsAt v4 a3 idl := by
       obtain ⟨a5, c5, e5, _, _, i5, _⟩ := I3.out v4 hb4
       cases e5
       exact i5
      have CPL := hyd (PlainIds_any a3 a4 n3 c3 c4 idl v4 ids3 ids4 N3.out.symm (by rw [← N3.out]; exact LZ.out) ID2.out); clear hb4 ow4 ids3 ids4
      go_wp2_with fail
      refine CPL.out.mono ?_; rintro e v5 ⟨rfl, hb5⟩; have H5 := hyd (H4.out.trans (hb5.mono H4.out.size)); have NXT := hyd (show PlayI w A1 q (i + 1) g v5 from ⟨_, _, M2, L2, B7.out.keep H5.out, PM.out, GD.out, LL.out⟩); clear hb5; go_wp2
      go_roundw
      case rel => exact ⟨i + 1, g, by omega, by omega, rfl, by go_num, NXT.out⟩
      case measure => simp [intOf]; omega
   ·obtain rfl : i = 40 := by omega
    go_wp2; go_ret; exact ⟨rfl, HPI.out.choose_spec.choose_spec.choose_spec.choose_spec.1.bel⟩
  ·obtain rfl : i = n := by omega
   go_wp2; go_ret; exact ⟨rfl, HPI.out.choose_spec.choose_spec.choose_spec.choose_spec.1.bel⟩
end Go.Proofs.YtnbcbiglkmdepaaGreatDoor.objectsPlay
