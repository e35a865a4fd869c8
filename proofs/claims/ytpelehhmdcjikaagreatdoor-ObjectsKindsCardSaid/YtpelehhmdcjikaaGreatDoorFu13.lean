/-
  Texts that belong together, one behind the other.
-/
import Derived.Test.YtpelehhmdcjikaaGreatDoorFu09
import Derived.Test.YtpelehhmdcjikaaGreatDoorFu11
import Derived.Test.YtpelehhmdcjikaaGreatDoorFu12
import Derived.Test.YtpelehhmdcjikaaGreatDoorFu06
import Derived.Test.YtpelehhmdcjikaaGreatDoorFu05
import Derived.Test.YtpelehhmdcjikaaGreatDoorFu02
import Derived.Lib.TrimByte
import Derived.Lib.IndexMore
import Derived.Lib.Bytealg
import Derived.Test.YtpelehhmdcjikaaGreatDoorFu08
import Derived.OwnWalk
import Derived.Deep.RegionHeld3
/-
  Layer 10, the document's answers: a put of what has an id that is there.
-/
namespace Go.Proofs.YtpelehhmdcjikaaGreatDoor
set_option maxRecDepth 20000
open Go.RowKit
set_option linter.unusedVariables false
set_option linter.unusedSimpArgs false
/-- What a put of an object answers whose id is there: the same object, or another one. -/
def pickI : Bool → List UInt8 → List UInt8
  | true, i => i
  | false, _ => idZ
def pickE : Bool → Int
  | true => 0
  | false => 7
end Go.Proofs.YtpelehhmdcjikaaGreatDoor

/-
  Layer 10, the program: Put, whatever keep does.
-/
namespace Go.Proofs.YtpelehhmdcjikaaGreatDoor
set_option maxRecDepth 20000
open Go.RowKit
set_option linter.unusedVariables false
set_option linter.unusedSimpArgs false
set_option maxHeartbeats 16000000 in
theorem PutP_bad {w : World} {g : Nat} (k : Int) (v : Value) (b : List UInt8) (hv : Red w v b) (tab : Tab w) (he : (printO k b).2 ≠ 0) :
    Calls Tryz.prog 9 #[.pointer (some ⟨g, 0, none⟩), .agg #[.int .i64 k, v]] w fun e w' => e = .returned (.tuple #[.agg (arrD idZ), .int .i64 (printO k b).2]) ∧ Below w.heap.size w w' := by
  obtain ⟨a, c, rfl, hb, hno, hc, hm⟩ := hv
  obtain ⟨n, hn⟩ : ∃ n, b.length = n := ⟨_, rfl⟩
  rw [hn] at hno hc ⊢
  obtain ⟨z, hz0, hzs, hzv, hzb, hz1⟩ := zId_any
  have b1 := (Below.refl w.heap.size w).alloc (Nat.le_refl _) (.cells #[.int .i64 k, .slice a n c] 34)
  have b2 := b1.alloc b1.size (.cells z 24)
  have hs1 : (w.alloc (.cells #[.int .i64 k, .slice a n c] 34)).heap.size = w.heap.size + 1 := by simp
  have h02 := heap_alloc_new (w.alloc (.cells #[.int .i64 k, .slice a n c] 34)) (.cells z 24)
  rw [hs1] at h02
  have H2 := Lib.hid h02; have B2 := Lib.hid b2
  have ZB := Lib.hid hzb; have Z1 := Lib.hid hz1; have Z0 := Lib.hid hz0; have ZS := Lib.hid hzs
  have IZ := Lib.hid (show (Tryz.prog.info? 24).map (·.size) = some z.size from by rw [hzs]; exact infoD_n)
  have CP := Lib.hid (fun u (hu : Below w.heap.size w u) => Print_any k a n c b u hn.symm (hb.keep hu) hno hc hm (tab.keep hu))
  obtain ⟨er, her⟩ : ∃ er, (printO k b).2 = er := ⟨_, rfl⟩
  rw [her] at CP he ⊢
  have hxb : (er != 0) = true := by simp [he]
  rw [← hz0]
  clear b1 b2 h02 hs1 hb hno hc hm hz0 hzs hzb hz1 her hn
  go_enter Tryz.func9, Tryz.ntmps9
  go_wp2_with fail
  refine (CP.out _ B2.out).mono ?_
  rintro e w3 ⟨v3, rfl, hr3, -, hb3⟩
  have H3 := Lib.hid ((hb3.block (w.heap.size + 1) (lt_of_heap H2.out)).trans H2.out)
  have HB3 := Lib.hid (B2.out.trans (hb3.mono B2.out.size))
  clear hb3 CP hr3
  go_wp2_with (first
    | (refine wpList_build_none rfl 24 rfl z ZB.out ?_)
    | (with_reducible refine wpList_store_all rfl 24 (.tmp 4) (.tmp 20) rfl (w.heap.size + 1) z rfl rfl 24 z H3.out IZ.out rfl Z1.out ?_)
    | fail)
  intro w5 r5 off5 sz5
  have HB5 := Lib.hid (HB3.out.trans (off5.below (Nat.le_succ _) HB3.out.size))
  go_wp2
  exact bodyPost_ret (results_id9 Tryz.results9 _ _ (w.heap.size + 1) z (0, 0) _ rfl rfl r5 ZS.out) rfl ⟨rfl, HB5.out⟩
set_option maxHeartbeats 16000000 in
theorem PutP_nil (k : Int) (v : Value) (w : World) :
    Calls Tryz.prog 9 #[.pointer none, .agg #[.int .i64 k, v]] w fun e w' => e = .returned (.tuple #[.agg (arrD idZ), .int .i64 2]) ∧ Below w.heap.size w w' := by
  obtain ⟨z, hz0, hzs, hzv, hzb, hz1⟩ := zId_any
  have b1 := (Below.refl w.heap.size w).alloc (Nat.le_refl _) (.cells #[.int .i64 k, v] 34)
  have b2 := b1.alloc b1.size (.cells z 24)
  have hs1 : (w.alloc (.cells #[.int .i64 k, v] 34)).heap.size = w.heap.size + 1 := by simp
  have h02 := heap_alloc_new (w.alloc (.cells #[.int .i64 k, v] 34)) (.cells z 24)
  rw [hs1] at h02
  have H2 := Lib.hid h02; have B2 := Lib.hid b2
  have ZB := Lib.hid hzb; have Z1 := Lib.hid hz1; have Z0 := Lib.hid hz0; have ZS := Lib.hid hzs
  have IZ := Lib.hid (show (Tryz.prog.info? 24).map (·.size) = some z.size from by rw [hzs]; exact infoD_n)
  rw [← hz0]
  clear b1 b2 h02 hs1 hz0 hzs hzb hz1
  go_enter Tryz.func9, Tryz.ntmps9
  go_wp2_with (first
    | (refine wpList_build_none rfl 24 rfl z ZB.out ?_)
    | (with_reducible refine wpList_store_all rfl 24 (.tmp 4) (.tmp 12) rfl (w.heap.size + 1) z rfl rfl 24 z H2.out IZ.out rfl Z1.out ?_)
    | fail)
  intro w5 r5 off5 sz5
  have HB5 := Lib.hid (B2.out.trans (off5.below (Nat.le_succ _) B2.out.size))
  go_wp2
  exact bodyPost_ret (results_id9 Tryz.results9 _ _ (w.heap.size + 1) z (0, 0) _ rfl rfl r5 ZS.out) rfl ⟨rfl, HB5.out⟩
set_option maxHeartbeats 16000000 in
theorem PutP_any {w : World} {g : Nat} (k : Int) (v : Value) (b : List UInt8) (hv : Red w v b) (tab : Tab w) (he : (printO k b).2 = 0) (S0 : Nat → Prop) (hS0 : ∀ j, S0 j → j < w.heap.size) (er : Int) (R : World → World → Prop)
    (hK : ∀ u, Below w.heap.size w u → Calls Tryz.prog 26 #[.pointer (some ⟨g, 0, none⟩), .agg (arrD (sumO k b)), .agg #[.int .i64 k, v]] u fun e u' => e = .returned (.int .i64 er) ∧ R u u' ∧ Chg S0 u u') :
    Calls Tryz.prog 9 #[.pointer (some ⟨g, 0, none⟩), .agg #[.int .i64 k, v]] w fun e w' => e = .returned (.tuple #[.agg (arrD (pickI (er == 0) (sumO k b))), .int .i64 er]) ∧
      ∃ u u', Below w.heap.size w u ∧ R u u' ∧ Chg S0 u u' ∧ Chg (fun j => w.heap.size ≤ j ∧ j < u.heap.size) u' w' := by
  obtain ⟨a, c, rfl, hb, hno, hc, hmx⟩ := hv
  obtain ⟨n, hn⟩ : ∃ n, b.length = n := ⟨_, rfl⟩
  rw [hn] at hno hc hK ⊢
  obtain ⟨z, hz0, hzs, hzv, hzb, hz1⟩ := zId_any
  have b1 := (Below.refl w.heap.size w).alloc (Nat.le_refl _) (.cells #[.int .i64 k, .slice a n c] 34)
  have b2 := b1.alloc b1.size (.cells z 24)
  have hs1 : (w.alloc (.cells #[.int .i64 k, .slice a n c] 34)).heap.size = w.heap.size + 1 := by simp
  have h02 := heap_alloc_new (w.alloc (.cells #[.int .i64 k, .slice a n c] 34)) (.cells z 24)
  have h01 := (((Below.refl (w.alloc (.cells #[.int .i64 k, .slice a n c] 34)).heap.size (w.alloc (.cells #[.int .i64 k, .slice a n c] 34))).alloc (Nat.le_refl _) (.cells z 24)).block w.heap.size (by simp)).trans (heap_alloc_new w (.cells #[.int .i64 k, .slice a n c] 34))
  rw [hs1] at h02
  have H1 := Lib.hid h01; have H2 := Lib.hid h02; have B2 := Lib.hid b2
  have ZB := Lib.hid hzb; have Z1 := Lib.hid hz1; have Z0 := Lib.hid hz0; have ZS := Lib.hid hzs
  have IZ := Lib.hid (show (Tryz.prog.info? 24).map (·.size) = some z.size from by rw [hzs]; exact infoD_n)
  have CP := Lib.hid (fun u (hu : Below w.heap.size w u) => Print_any k a n c b u hn.symm (hb.keep hu) hno hc hmx (tab.keep hu))
  have CI := Lib.hid (fun u (hu : Below w.heap.size w u) => Id_is k a n c b u hn.symm (hb.keep hu) hno hc hmx (tab.keep hu))
  have sl : (sumO k b).length = 20 := by
    unfold sumO
    rw [if_pos he]
    simp [sumL, digest_len]
  obtain ⟨I, hI⟩ : ∃ I, arrD (sumO k b) = I := ⟨_, rfl⟩
  have HI := Lib.hid hI
  have IS := Lib.hid (show I.size = 20 by rw [← hI]; exact arrD_size _ sl)
  have IO := Lib.hid (show I.all (·.oneCell') = true by rw [← hI]; exact arrD_one _)
  have II := Lib.hid (show (Tryz.prog.info? 24).map (·.size) = some I.size from by rw [IS.out]; exact infoD_n)
  rw [he] at CP
  rw [hI] at hK
  have ei : idv (sumO k b) = .agg I := by rw [idv_arrD, hI]
  rw [ei] at CI
  have HK := Lib.hid hK; have HS := Lib.hid hS0
  clear b1 b2 h01 h02 hs1 hb hno hc hmx hz0 hzs hzb hz1 hn hI ei sl hK hS0 tab
  go_enter Tryz.func9, Tryz.ntmps9
  go_wp2_with fail
  refine (CP.out _ B2.out).mono ?_
  rintro e w3 ⟨v3, rfl, hr3, -, hb3⟩
  have H31 := Lib.hid ((hb3.block w.heap.size (lt_of_heap H1.out)).trans H1.out)
  have H32 := Lib.hid ((hb3.block (w.heap.size + 1) (lt_of_heap H2.out)).trans H2.out)
  have HB3 := Lib.hid (B2.out.trans (hb3.mono B2.out.size))
  clear hb3 CP hr3
  obtain ⟨y0, y1⟩ := cells2 H31.out
  go_wp2_with fail
  refine (CI.out _ HB3.out).mono ?_
  rintro e w4 ⟨rfl, hb4⟩
  have H41 := Lib.hid ((hb4.block w.heap.size (lt_of_heap H31.out)).trans H31.out)
  have H42 := Lib.hid ((hb4.block (w.heap.size + 1) (lt_of_heap H32.out)).trans H32.out)
  have HB4 := Lib.hid (HB3.out.trans (hb4.mono HB3.out.size))
  clear hb4 CI y0 y1
  go_wp2_with (first
    | (with_reducible refine wpList_store_all rfl 24 (.tmp 8) (.tmp 23) rfl w4.heap.size I rfl rfl 24 z (heap_alloc_new w4 _) II.out (IS.out.trans ZS.out.symm) IO.out ?_)
    | fail)
  intro w5 r5 off5 sz5
  have b45 : Below w4.heap.size w4 w5 := ((Below.refl w4.heap.size w4).alloc (Nat.le_refl _) (.cells z 24)).trans (off5.below (Nat.le_refl _) (by simp))
  have H51 := Lib.hid ((b45.block w.heap.size (lt_of_heap H41.out)).trans H41.out)
  have H52 := Lib.hid ((b45.block (w.heap.size + 1) (lt_of_heap H42.out)).trans H42.out)
  have HB5 := Lib.hid (HB4.out.trans (b45.mono HB4.out.size))
  have R5 := Lib.hid r5
  have L4 := Lib.hid HB4.out.size
  clear b45 r5 off5 sz5
  obtain ⟨y0, y1⟩ := cells2 H51.out
  go_wp2_with (first
    | (with_reducible refine wpList_load_all 24 (.tmp 8) rfl (by kernel_rfl) w4.heap.size I 24 (0, 0) rfl R5.out _ Tryz.underlying24 rfl II.out ?_)
    | fail)
  refine (HK.out _ HB5.out).mono ?_
  rintro e w6 ⟨rfl, hR, hC⟩
  have H62 := Lib.hid ((hC.block (w.heap.size + 1) (lt_of_heap H52.out) (fun hs => by have := HS.out _ hs; omega)).trans H52.out)
  have R6 := Lib.hid ((hC.block w4.heap.size (lt_of_heap R5.out) (fun hs => by have h8 := HS.out _ hs; have h9 := L4.out; omega)).trans R5.out)
  have HR := Lib.hid (And.intro hR hC)
  have L5 := Lib.hid (lt_of_heap H52.out)
  clear hR hC y0 y1
  by_cases her : er = 0
  · subst her
    go_wp2_with (first
      | (with_reducible refine wpList_load_all 24 (.tmp 8) rfl (by kernel_rfl) w4.heap.size I 24 (0, 0) rfl R6.out _ Tryz.underlying24 rfl II.out ?_)
      | (with_reducible refine wpList_store_all rfl 24 (.tmp 4) (.tmp 32) rfl (w.heap.size + 1) I rfl rfl 24 z H62.out II.out (IS.out.trans ZS.out.symm) IO.out ?_)
      | fail)
    intro w8 r8 off8 sz8
    have C8 := Lib.hid (show Chg (fun j => w.heap.size ≤ j ∧ j < w5.heap.size) w6 w8 from ⟨off8.os, off8.tape, off8.output, off8.size, fun j hj hn => off8.block j hj (fun e => hn (by rw [e]; exact ⟨Nat.le_succ _, L5.out⟩))⟩)
    clear off8 sz8
    go_wp2
    exact bodyPost_ret (results_id9 Tryz.results9 _ _ (w.heap.size + 1) I (0, 0) _ rfl rfl r8 IS.out) rfl ⟨by rw [← HI.out]; rfl, w5, w6, HB5.out, HR.out.1, HR.out.2, C8.out⟩
  · have hxb : (er != 0) = true := by simp [her]
    have hz : (er == 0) = false := by simp [her]
    have HZ := Lib.hid hz
    clear her hz
    go_wp2_with (first
      | (refine wpList_build_none rfl 24 rfl z ZB.out ?_)
      | (with_reducible refine wpList_store_all rfl 24 (.tmp 4) (.tmp 30) rfl (w.heap.size + 1) z rfl rfl 24 z H62.out IZ.out rfl Z1.out ?_)
      | fail)
    intro w8 r8 off8 sz8
    have C8 := Lib.hid (show Chg (fun j => w.heap.size ≤ j ∧ j < w5.heap.size) w6 w8 from ⟨off8.os, off8.tape, off8.output, off8.size, fun j hj hn => off8.block j hj (fun e => hn (by rw [e]; exact ⟨Nat.le_succ _, L5.out⟩))⟩)
    clear off8 sz8
    go_wp2
    exact bodyPost_ret (results_id9 Tryz.results9 _ _ (w.heap.size + 1) z (0, 0) _ rfl rfl r8 ZS.out) rfl ⟨by rw [HZ.out, Z0.out]; rfl, w5, w6, HB5.out, HR.out.1, HR.out.2, C8.out⟩
end Go.Proofs.YtpelehhmdcjikaaGreatDoor

/-
  Layer 6, plain: a text without its broken bytes, blanks off its ends, what fits; nothing of the program.
-/
namespace Go.Proofs.YtpelehhmdcjikaaGreatDoor
set_option linter.unusedVariables false
set_option linter.unusedSimpArgs false
/-- A text without its broken bytes. -/
def valN : Nat → List UInt8 → List UInt8
  | 0, _ => []
  | n + 1, l => if l = [] then [] else if goodL l then l.take (widL l) ++ valN n (l.drop (widL l)) else valN n (l.drop (widL l))
def valT (l : List UInt8) : List UInt8 := valN l.length l
theorem valN_fuel : ∀ (n m : Nat) (l : List UInt8), l.length ≤ n → l.length ≤ m → valN n l = valN m l
  | 0, 0, _, _, _ => rfl
  | 0, m + 1, l, h, _ => by
    have e : l = [] := List.eq_nil_of_length_eq_zero (by omega)
    simp [valN, e]
  | n + 1, 0, l, _, h => by
    have e : l = [] := List.eq_nil_of_length_eq_zero (by omega)
    simp [valN, e]
  | n + 1, m + 1, l, h1, h2 => by
    by_cases e : l = []
    · simp [valN, e]
    · have hp := wid_pos l
      have ih := valN_fuel n m (l.drop (widL l)) (by rw [List.length_drop]; omega) (by rw [List.length_drop]; omega)
      unfold valN
      rw [if_neg e, if_neg e, ih]
theorem valT_nil : valT [] = [] := rfl
theorem valT_step (l : List UInt8) (h : l ≠ []) : valT l = if goodL l then l.take (widL l) ++ valT (l.drop (widL l)) else valT (l.drop (widL l)) := by
  have hp := wid_pos l
  have hl : 1 ≤ l.length := by cases l with | nil => exact absurd rfl h | cons _ _ => simp
  obtain ⟨n, hn⟩ : ∃ n, l.length = n + 1 := ⟨l.length - 1, by omega⟩
  have e : valN n (l.drop (widL l)) = valT (l.drop (widL l)) := valN_fuel _ _ _ (by rw [List.length_drop]; omega) (Nat.le_refl _)
  rw [← e]
  unfold valT
  rw [hn]
  conv => lhs; unfold valN
  rw [if_neg h]
theorem bad_wid (l : List UInt8) (h : ¬ goodL l) : widL l = 1 := (Decidable.not_not.1 h).2
theorem val_ind {M : List UInt8 → Prop} (h0 : M []) (h1 : ∀ l, l ≠ [] → M (l.drop (widL l)) → M l) (l : List UInt8) : M l := by
  have key : ∀ (n : Nat) (l : List UInt8), l.length ≤ n → M l := by
    intro n
    induction n with
    | zero => intro l hl; rw [List.eq_nil_of_length_eq_zero (show l.length = 0 by omega)]; exact h0
    | succ n ih =>
      intro l hl
      by_cases e : l = []
      · rw [e]; exact h0
      · have hp := wid_pos l
        exact h1 l e (ih _ (by rw [List.length_drop]; omega))
  exact key l.length l (Nat.le_refl _)
theorem valT_len (l : List UInt8) : (valT l).length ≤ l.length := by
  refine val_ind (M := fun l => (valT l).length ≤ l.length) (by simp [valT_nil]) (fun l h ih => ?_) l
  rw [List.length_drop] at ih
  have hp := wid_pos l
  rw [valT_step l h]
  split
  · rw [List.length_append, List.length_take]; omega
  · omega
/-- At a right rune: what follows is put behind it. -/
theorem good_put (l t : List UInt8) (h : l ≠ []) (hg : goodL l) : l.take (widL l) ++ t ≠ [] ∧ goodL (l.take (widL l) ++ t) ∧ widL (l.take (widL l) ++ t) = widL l ∧ (l.take (widL l) ++ t).take (widL l) = l.take (widL l) ∧ (l.take (widL l) ++ t).drop (widL l) = t ∧ (l.take (widL l) ++ t).getD 0 0 = l.getD 0 0 := by
  have hd := good_take l t h hg
  have hp := wid_pos l
  have hle := wid_le l h
  have hlen : (l.take (widL l)).length = widL l := by rw [List.length_take]; omega
  refine ⟨fun e => ?_, ?_, ?_, List.take_left' hlen, List.drop_left' hlen, ?_⟩
  · have := congrArg List.length e; rw [List.length_append, hlen] at this; simp at this; omega
  · unfold goodL; rw [hd]; exact hg
  · show (Lib.decodeL _).2 = _; rw [hd]; rfl
  · rw [List.getD_eq_getElem?_getD, List.getD_eq_getElem?_getD, List.getElem?_append_left (by omega), List.getElem?_take, if_pos (by omega)]
theorem valT_valid (l : List UInt8) : Lib.validD (valT l) = true := by
  refine val_ind (M := fun l => Lib.validD (valT l) = true) rfl (fun l h ih => ?_) l
  rw [valT_step l h]
  split
  · rename_i hg
    obtain ⟨h1, h2, h3, _, h5, _⟩ := good_put l (valT (l.drop (widL l))) h hg
    rw [Lib.validD_step _ h1, if_neg h2]
    show Lib.validD (List.drop (widL (l.take (widL l) ++ valT (l.drop (widL l)))) _) = true
    rw [h3, h5]
    exact ih
  · exact ih
theorem valT_pieces (l : List UInt8) : pieces (valT l) = pieces l := by
  refine val_ind (M := fun l => pieces (valT l) = pieces l) rfl (fun l h ih => ?_) l
  rw [pieces_step l h, valT_step l h]
  by_cases hg : goodL l
  · rw [if_pos hg]
    obtain ⟨h1, h2, h3, h4, h5, h6⟩ := good_put l (valT (l.drop (widL l))) h hg
    rw [pieces_step _ h1, h3, h4, h5, ih]
    have hk : keepL (l.take (widL l) ++ valT (l.drop (widL l))) ↔ keepL l := by
      unfold keepL
      rw [h3, h6]
      exact ⟨fun q => ⟨hg, q.2⟩, fun q => ⟨h2, q.2⟩⟩
    by_cases k : keepL l
    · rw [if_pos (hk.2 k), if_pos k]
    · rw [if_neg (fun q => k (hk.1 q)), if_neg k]
  · rw [if_neg hg, if_neg (fun q => hg q.1)]
    exact ih
theorem good_of_valid (l : List UInt8) (h : l ≠ []) (hv : Lib.validD l = true) : goodL l ∧ Lib.validD (l.drop (widL l)) = true := by
  rw [Lib.validD_step l h] at hv
  split at hv
  · cases hv
  · rename_i hg; exact ⟨hg, hv⟩
theorem dec_drop (l : List UInt8) (i : Nat) : Utf8.decode ⟨l.toArray⟩ i = Lib.decodeL (l.drop i) := by
  rw [decodeL_N, Lib.decode_N ⟨l.toArray⟩ i]
  simp [List.getD_eq_getElem?_getD, List.getElem?_drop, ByteArray.size]
theorem drop_ne (l : List UInt8) (i : Nat) (h : i < l.length) : l.drop i ≠ [] := fun e => by
  have := congrArg List.length e; rw [List.length_drop] at this; simp at this; omega
/-- What a rune is that stands at the head of a right text. -/
theorem rune_val (l : List UInt8) (h : l ≠ []) (hg : goodL l) : ((Lib.decodeL l).1 = (l.getD 0 0).toNat ∧ (l.getD 0 0).toNat < 128 ∧ widL l = 1) ∨ (128 ≤ (Lib.decodeL l).1 ∧ 128 ≤ (l.getD 0 0).toNat ∧ 1 < widL l) := by
  have hr := rune_at l 0 (by cases l with | nil => exact absurd rfl h | cons _ _ => simp)
  rw [dec_drop, List.drop_zero] at hr
  rcases hr with ⟨h1, h2⟩ | ⟨h1, h2, _⟩
  · left
    exact ⟨by rw [h2], h1, by show (Lib.decodeL l).2 = 1; rw [h2]⟩
  · right
    exact ⟨h2, h1, good_high l h h1 hg⟩
def barR (r : Nat) : Bool := r == 0 || r == 10 || r == 60 || r == 62
/-- A right rune is kept if it is not barred. -/
theorem keep_iff (l : List UInt8) (h : l ≠ []) (hg : goodL l) : keepL l ↔ barR (Lib.decodeL l).1 = false := by
  unfold keepL
  rcases rune_val l h hg with ⟨h1, h2, h3⟩ | ⟨h1, h2, h3⟩
  · rw [h1, h3]
    unfold barR barB
    constructor
    · rintro ⟨_, q⟩
      cases hb : ((l.getD 0 0).toNat == 0 || (l.getD 0 0).toNat == 10 || (l.getD 0 0).toNat == 60 || (l.getD 0 0).toNat == 62) with
      | false => rfl
      | true => exact absurd ⟨rfl, hb⟩ q
    · intro q
      exact ⟨hg, fun p => by rw [q] at p; exact absurd p.2 (by decide)⟩
  · constructor
    · intro _
      unfold barR
      simp
      omega
    · intro _
      exact ⟨hg, fun p => by omega⟩
theorem trimLeft_flat : ∀ gs : List (List UInt8), (∀ g ∈ gs, Rune g) → Lib.trimLeftB gs.flatten 32 = (lstrip gs).flatten
  | [], _ => rfl
  | g :: r, h => by
    have hg := h g (by simp)
    cases hb : blank g with
    | true =>
      have e : g = [32] := of_decide_eq_true hb
      subst e
      have ih := trimLeft_flat r (fun x hx => h x (by simp [hx]))
      unfold lstrip at ih ⊢
      rw [List.dropWhile_cons_of_pos hb, ← ih]
      unfold Lib.trimLeftB
      rw [List.flatten_cons, List.singleton_append, List.dropWhile_cons_of_pos (by decide)]
    | false =>
      rw [lstrip_none g r hb]
      have hf := hg.first hb
      cases g with
      | nil => exact absurd rfl hg.ne
      | cons c t =>
        unfold Lib.trimLeftB
        rw [List.flatten_cons, List.cons_append, List.dropWhile_cons_of_neg]
        simp
        intro e
        apply hf
        rw [e]; rfl
theorem rstrip_blank : ∀ r : List (List UInt8), rstrip (r ++ [[32]]) = rstrip r
  | [] => rfl
  | g :: r => by
    rw [List.cons_append]
    unfold rstrip
    rw [rstrip_blank r]
theorem trimRight_flat (gs : List (List UInt8)) (h : ∀ g ∈ gs, Rune g) : Lib.trimRightB gs.flatten 32 = (rstrip gs).flatten := by
  have key : ∀ (n : Nat) (gs : List (List UInt8)), gs.length = n → (∀ g ∈ gs, Rune g) → Lib.trimRightB gs.flatten 32 = (rstrip gs).flatten := by
    intro n
    induction n with
    | zero =>
      intro gs hn _
      rw [List.eq_nil_of_length_eq_zero hn]; rfl
    | succ n ih =>
      intro gs hn h
      have hne : gs ≠ [] := fun e => by rw [e] at hn; simp at hn
      obtain ⟨r, g, rfl⟩ : ∃ r g, gs = r ++ [g] := ⟨gs.dropLast, gs.getLast hne, (List.dropLast_concat_getLast hne).symm⟩
      have hg := h g (by simp)
      cases hb : blank g with
      | true =>
        have e : g = [32] := of_decide_eq_true hb
        subst e
        rw [rstrip_blank, ← ih r (by simpa using hn) (fun x hx => h x (by simp [hx]))]
        unfold Lib.trimRightB
        rw [List.flatten_append, List.flatten_singleton, List.reverse_append, List.reverse_singleton, List.singleton_append, List.dropWhile_cons_of_pos (by decide)]
      | false =>
        rw [rstrip_none r g hb]
        have hf := hg.final hb
        obtain ⟨t, c, rfl⟩ : ∃ t c, g = t ++ [c] := ⟨g.dropLast, g.getLast hg.ne, (List.dropLast_concat_getLast hg.ne).symm⟩
        unfold Lib.trimRightB
        have e1 : (r ++ [t ++ [c]]).flatten.reverse = c :: (r.flatten ++ t).reverse := by
          rw [List.flatten_append, List.flatten_singleton, ← List.append_assoc, List.reverse_append, List.reverse_singleton, List.singleton_append]
        have e2 : List.reverse (c :: (r.flatten ++ t).reverse) = (r ++ [t ++ [c]]).flatten := by rw [← e1, List.reverse_reverse]
        rw [e1, List.dropWhile_cons_of_neg, e2]
        simp
        intro e
        apply hf
        rw [e]; simp
  exact key gs.length gs rfl h
theorem fit_at : ∀ (az : List (List UInt8)) (g : List UInt8) (bs : List (List UInt8)) (n : Nat), az.flatten.length ≤ n → n < az.flatten.length + g.length → fitL n (az ++ g :: bs) = az
  | [], g, bs, n, h1, h2 => by
    simp at h2
    rw [List.nil_append]; unfold fitL; rw [if_neg (by omega)]
  | a :: r, g, bs, n, h1, h2 => by
    rw [List.flatten_cons, List.length_append] at h1 h2
    rw [List.cons_append]
    unfold fitL
    rw [if_pos (by omega), fit_at r g bs _ (by omega) (by omega)]
/-- Where a place between pieces is, with the piece ahead of it. -/
def Edge (gs : List (List UInt8)) (i e : Nat) : Prop :=
  ∃ az bs, gs = az ++ bs ∧ i = az.flatten.length ∧ (az = [] ∧ e = 0 ∨ ∃ a g, az = a ++ [g] ∧ e = a.flatten.length)
theorem Edge.start (gs : List (List UInt8)) : Edge gs 0 0 := ⟨[], gs, rfl, rfl, .inl ⟨rfl, rfl⟩⟩
theorem Edge.next {gs : List (List UInt8)} (hr : ∀ g ∈ gs, Rune g) {i e : Nat} (h : Edge gs i e) (hi : i < gs.flatten.length) : Edge gs (i + widL (gs.flatten.drop i)) i := by
  obtain ⟨az, bs, rfl, rfl, _⟩ := h
  cases bs with
  | nil => simp at hi
  | cons g bs =>
    have hg := hr g (by simp)
    have e1 : (az ++ g :: bs).flatten.drop az.flatten.length = g ++ bs.flatten := by
      rw [List.flatten_append, List.drop_left, List.flatten_cons]
    rw [e1, hg.wid]
    exact ⟨az ++ [g], bs, by simp, by simp, .inr ⟨az, g, rfl, rfl⟩⟩
theorem Edge.fit {gs : List (List UInt8)} {i e n : Nat} (h : Edge gs i e) (he : e ≤ n) (hi : n < i) : (fitL n gs).flatten = gs.flatten.take e := by
  obtain ⟨az, bs, rfl, rfl, ⟨rfl, rfl⟩ | ⟨a, g, rfl, rfl⟩⟩ := h
  · simp at hi
  · have e1 : (a ++ [g] ++ bs) = a ++ g :: bs := by simp
    rw [List.flatten_append, List.flatten_singleton, List.length_append] at hi
    rw [e1, fit_at a g bs n he hi, List.flatten_append, List.take_left]
theorem Edge.le {gs : List (List UInt8)} {i e : Nat} (h : Edge gs i e) : i ≤ gs.flatten.length ∧ e ≤ i := by
  obtain ⟨az, bs, rfl, rfl, ⟨rfl, rfl⟩ | ⟨a, g, rfl, rfl⟩⟩ := h
  · simp
  · simp
def freeT (l : List UInt8) : List UInt8 := (pieces l).flatten
def cutT (l : List UInt8) : List UInt8 := (fitL 200 (lstrip (pieces l))).flatten
theorem clean_left (l : List UInt8) : Lib.trimLeftB (freeT l) 32 = (lstrip (pieces l)).flatten := trimLeft_flat _ (pieces_rune l.length l (Nat.le_refl _))
theorem clean_right (l : List UInt8) : Lib.trimRightB (cutT l) 32 = cleanT l :=
  trimRight_flat _ (fun g hg => pieces_rune l.length l (Nat.le_refl _) g (lstrip_sub _ g (fit_sub _ _ g hg)))
theorem lstrip_rune (l : List UInt8) : ∀ g ∈ lstrip (pieces l), Rune g := fun g hg => pieces_rune l.length l (Nat.le_refl _) g (lstrip_sub _ g hg)
theorem pieces_len (l : List UInt8) : (pieces l).flatten.length ≤ l.length := by
  refine val_ind (M := fun l => (pieces l).flatten.length ≤ l.length) (by simp [pieces_nil]) (fun l h ih => ?_) l
  rw [List.length_drop] at ih
  have hp := wid_pos l
  have hle := wid_le l h
  rw [pieces_step l h]
  split
  · rw [List.flatten_cons, List.length_append, List.length_take]; omega
  · omega
theorem lstrip_len : ∀ gs : List (List UInt8), (lstrip gs).flatten.length ≤ gs.flatten.length
  | [] => by simp [lstrip]
  | g :: r => by
    have ih := lstrip_len r
    unfold lstrip at ih ⊢
    rw [List.dropWhile_cons]
    split
    · rw [List.flatten_cons, List.length_append]; omega
    · exact Nat.le_refl _
/-- A text is clean if it may be a name, and if it may be a name it is clean. -/
theorem clean_iff (l : List UInt8) : cleanT l = l ↔ wordL l = true := ⟨fun h => by rw [← h]; exact clean_isword l, word_stays l⟩
end Go.Proofs.YtpelehhmdcjikaaGreatDoor

/-
  Layer 6, plain: the program's way to read an ident's text, held against the document's; nothing of the program's code.
-/
namespace Go.Proofs.YtpelehhmdcjikaaGreatDoor
set_option linter.unusedVariables false
set_option linter.unusedSimpArgs false
/-- A text is cut where the separator stands, if its first byte is not ahead of it. -/
theorem cut_at (c : UInt8) (sep a b : List UInt8) (h : ∀ d ∈ a, d ≠ c) : Lib.cut (a ++ c :: (sep ++ b)) (c :: sep) = (a, b, true) := by
  have hi : Lib.index (a ++ c :: (sep ++ b)) (c :: sep) = a.length := by
    refine Lib.index_first (by simp) ?_ (fun j hj => ?_)
    · unfold Lib.occAt
      rw [List.drop_left, List.isPrefixOf_iff_prefix]
      exact ⟨b, rfl⟩
    · cases ho : Lib.occAt (a ++ c :: (sep ++ b)) (c :: sep) j with
      | false => rfl
      | true =>
        have := Lib.occAt_head rfl ho
        rw [List.getElem?_append_left hj, List.getElem?_eq_getElem hj] at this
        exact absurd (Option.some.inj this) (h _ (List.getElem_mem hj))
  unfold Lib.cut
  rw [hi, if_pos (by omega), Int.toNat_natCast, List.take_left]
  have e : a ++ c :: (sep ++ b) = (a ++ (c :: sep)) ++ b := by simp
  rw [e]
  congr 1
  rw [List.drop_left' (by simp)]
/-- What the program reads, part by part. -/
def partsL (rd : List UInt8 → Option Int) (s : List UInt8) : Option Idt :=
  if (Lib.cut s [60]).2.2 = true ∧ (Lib.cut (Lib.cut s [60]).2.1 [62, 32]).2.2 = true ∧ (Lib.cut (Lib.cut (Lib.cut s [60]).2.1 [62, 32]).2.1 [32]).2.2 = true then
    match rd (Lib.cut (Lib.cut (Lib.cut s [60]).2.1 [62, 32]).2.1 [32]).1 with
    | none => none
    | some v => match zoneR (Lib.cut (Lib.cut (Lib.cut s [60]).2.1 [62, 32]).2.1 [32]).2.1 with
      | none => none
      | some z => some ⟨Lib.trimSuffix (Lib.cut s [60]).1 [32], (Lib.cut (Lib.cut s [60]).2.1 [62, 32]).1, v, z⟩
  else none
theorem suffix_ahead (name : List UInt8) (h : wordL name = true) : Lib.trimSuffix (aheadT name) [32] = name := by
  unfold aheadT
  split
  · rename_i e; rw [e]; rfl
  · unfold Lib.trimSuffix Lib.hasSuffix
    rw [if_pos (by rw [List.isSuffixOf_iff_suffix]; exact ⟨name, rfl⟩)]
    simp
theorem parts_print {wr : Int → List UInt8} {rd : List UInt8 → Option Int} (hn : Num wr rd) (hd : ∀ v, 0 ≤ v → v ≤ 1099511627775 → ∀ c ∈ wr v, c ≠ 32) {i : Idt} (h : rightI i = true) : partsL rd (printI wr i) = some i := by
  obtain ⟨h1, h2, h3, h4, h5, h6⟩ := (right_iff i).1 h
  have hp : printI wr i = textT i.name i.email (wr i.whn) (zoneT i.zone) := by unfold printI; rw [if_pos h]
  obtain ⟨name, email, v, z⟩ := i
  simp only at h1 h2 h3 h4 h5 h6 hp
  have hrd := hn.back v h3 h4
  have hbl := hd v h3 h4
  have hz := zone_read z h5 h6
  rw [hp]
  generalize wr v = num at hrd hbl
  generalize zoneT z = zt at hz
  have c1 : Lib.cut (textT name email num zt) [60] = (aheadT name, email ++ 62 :: 32 :: (num ++ 32 :: zt), true) := by
    have := cut_at 60 [] (aheadT name) (email ++ 62 :: 32 :: (num ++ 32 :: zt)) (ahead_no 60 (by decide) name (word_no h1).1)
    unfold textT
    simpa using this
  have c2 : Lib.cut (email ++ 62 :: 32 :: (num ++ 32 :: zt)) [62, 32] = (email, num ++ 32 :: zt, true) := by
    have := cut_at 62 [32] email (num ++ 32 :: zt) (word_no h2).2
    simpa using this
  have c3 : Lib.cut (num ++ 32 :: zt) [32] = (num, zt, true) := by
    have := cut_at 32 [] num zt hbl
    simpa using this
  unfold partsL
  rw [c1]
  simp only [c2, c3, hrd, hz, suffix_ahead name h1]
  simp
/-- The program's way to9 parse. -/
def parseP (wr : Int → List UInt8) (rd : List UInt8 → Option Int) (s : List UInt8) : Option Idt :=
  match partsL rd s with
  | none => none
  | some i => if rightI i = true ∧ printI wr i = s then some i else none
theorem parse_same {wr : Int → List UInt8} {rd : List UInt8 → Option Int} (hn : Num wr rd) (hd : ∀ v, 0 ≤ v → v ≤ 1099511627775 → ∀ c ∈ wr v, c ≠ 32) (s : List UInt8) : parseP wr rd s = parseR wr rd s := by
  cases e : parseP wr rd s with
  | some i =>
    unfold parseP at e
    cases e2 : partsL rd s with
    | none => rw [e2] at e; cases e
    | some j =>
      rw [e2] at e
      simp only at e
      by_cases hc : rightI j = true ∧ printI wr j = s
      · rw [if_pos hc] at e
        obtain rfl := Option.some.inj e
        exact (parse_one hn s j hc.1 hc.2).symm
      · rw [if_neg hc] at e; cases e
  | none =>
    refine (parse_none s (fun i hi hs => ?_)).symm
    have hq := parts_print hn hd hi
    rw [hs] at hq
    unfold parseP at e
    rw [hq] at e
    simp only at e
    rw [if_pos ⟨hi, hs⟩] at e
    cases e
end Go.Proofs.YtpelehhmdcjikaaGreatDoor

/-
  Layer 9, plain: the program's way to read a line and the parents is the document's.
-/
namespace Go.Proofs.YtpelehhmdcjikaaGreatDoor
set_option linter.unusedVariables false
set_option linter.unusedSimpArgs false
/-- Parents, so many at the most; what stands behind them stays. -/
def parsQ (un : List UInt8 → Option (List UInt8)) : Nat → List UInt8 → Option (List (List UInt8) × List UInt8)
  | 0, s => some ([], s)
  | n + 1, s => match lineL s parentW with
    | none => some ([], s)
    | some (x, r) => match un x with
      | none => none
      | some p => (parsQ un n r).map fun q => (p :: q.1, q.2)
/-- What a reader of parents hands on. -/
def thenC {α : Type} (F : List (List UInt8) → List UInt8 → Option α) : Option (List (List UInt8) × List UInt8) → Option α
  | none => none
  | some q => F q.1 q.2
theorem pars_way {α : Type} (un : List UInt8 → Option (List UInt8)) : ∀ (n : Nat) (s : List UInt8) (F : List (List UInt8) → List UInt8 → Option α) (hF : ∀ ps q y, lineL q parentW = some y → F ps q = none),
    thenC F (parsL un n s) = thenC F (parsQ un n s)
  | 0, s, F, hF => by
    unfold parsL parsQ
    cases e : lineL s parentW with
    | none => rfl
    | some y => exact (hF [] s y e).symm
  | n + 1, s, F, hF => by
    unfold parsL parsQ
    cases e : lineL s parentW with
    | none => rfl
    | some y =>
      obtain ⟨x, r⟩ := y
      simp only
      cases e2 : un x with
      | none => rfl
      | some p =>
        simp only
        have ih := pars_way un n r (fun ps q => F (p :: ps) q) (fun ps q y h => hF (p :: ps) q y h)
        cases e3 : parsL un n r with
        | none =>
          rw [e3] at ih
          cases e4 : parsQ un n r with
          | none => rfl
          | some z => rw [e4] at ih; exact ih
        | some z =>
          rw [e3] at ih
          cases e4 : parsQ un n r with
          | none => rw [e4] at ih; exact ih
          | some z' => rw [e4] at ih; exact ih
theorem parent_no_author {q : List UInt8} {y : List UInt8 × List UInt8} (h : lineL q parentW = some y) : lineL q authorW = none := by
  obtain ⟨x, r⟩ := y
  rw [(line_only h).1]
  exact line_first 112 97 (by decide) _
theorem parent_no_who {pa : List UInt8 → Option Idt} {q : List UInt8} {y : List UInt8 × List UInt8} (h : lineL q parentW = some y) : whoL pa q = none := by
  unfold whoL; rw [parent_no_author h]
/-- The program's way to9 parse. -/
def endC (t : List UInt8) (pa : List UInt8 → Option Idt) (ps : List (List UInt8)) (q : List UInt8) : Option Rcd :=
  match whoL pa q with
  | none => none
  | some (a, c, tx) => if rightR ⟨t, ps, a, c, tx⟩ = true then some ⟨t, ps, a, c, tx⟩ else none
theorem parseC_way (un : List UInt8 → Option (List UInt8)) (pa : List UInt8 → Option Idt) (s : List UInt8) :
    parseC un pa s = match lineL s treeW with
      | none => none
      | some (x, r) => match un x with
        | none => none
        | some t => thenC (endC t pa) (parsQ un 16 r) := by
  unfold parseC
  cases e1 : lineL s treeW with
  | none => rfl
  | some y =>
    obtain ⟨x, r⟩ := y
    simp only
    cases e2 : un x with
    | none => rfl
    | some t =>
      simp only
      rw [← pars_way un 16 r (endC t pa) (fun ps q y h => by unfold endC; rw [parent_no_who h])]
      cases e3 : parsL un 16 r with
      | none => rfl
      | some z =>
        obtain ⟨ps, q⟩ := z
        rfl
/-- A loop over the parents: those that stand already, and what is left. -/
def parsP (un : List UInt8 → Option (List UInt8)) (ps : List (List UInt8)) (n : Nat) (s : List UInt8) : Option (List (List UInt8) × List UInt8) := (parsQ un n s).map fun q => (ps ++ q.1, q.2)
section
variable {un : List UInt8 → Option (List UInt8)}
theorem parsP_nil (n : Nat) (s : List UInt8) : parsP un [] n s = parsQ un n s := by
  unfold parsP
  cases parsQ un n s with
  | none => rfl
  | some q => rfl
theorem parsP_zero (ps : List (List UInt8)) (s : List UInt8) : parsP un ps 0 s = some (ps, s) := by unfold parsP parsQ; simp
theorem parsP_stop {s : List UInt8} (h : lineL s parentW = none) (ps : List (List UInt8)) : ∀ n, parsP un ps n s = some (ps, s)
  | 0 => parsP_zero ps s
  | n + 1 => by unfold parsP parsQ; rw [h]; simp
theorem parsP_bad {s x r : List UInt8} (h : lineL s parentW = some (x, r)) (hu : un x = none) (ps : List (List UInt8)) (n : Nat) : parsP un ps (n + 1) s = none := by unfold parsP parsQ; rw [h]; simp only [hu]; rfl
theorem parsP_next {s x r p : List UInt8} (h : lineL s parentW = some (x, r)) (hu : un x = some p) (ps : List (List UInt8)) (n : Nat) : parsP un ps (n + 1) s = parsP un (ps ++ [p]) n r := by
  unfold parsP
  rw [show parsQ un (n + 1) s = (parsQ un n r).map fun q => (p :: q.1, q.2) by rw [parsQ, h]; simp only [hu]]
  cases parsQ un n r with
  | none => rfl
  | some q => simp
end
/-- A line, cut as the program cuts it: first the word off, then at the line's end. -/
theorem line_cut (s w : List UInt8) (hw : noEol w) : lineL s w = if w <+: s then (if eolL (s.drop w.length) < (s.drop w.length).length then some ((s.drop w.length).take (eolL (s.drop w.length)), (s.drop w.length).drop (eolL (s.drop w.length) + 1)) else none) else none := by
  by_cases h : w <+: s
  · rw [if_pos h]
    obtain ⟨t, rfl⟩ := h
    rw [List.drop_left]
    by_cases h2 : eolL t < t.length
    · rw [if_pos h2]
      have h10 : t[eolL t]'h2 = 10 := beq_iff_eq.1 (List.findIdx_getElem (p := fun c : UInt8 => c == 10) (w := h2))
      have hno : noEol (t.take (eolL t)) := by
        intro d hd e
        obtain ⟨i, hi, q⟩ := List.mem_iff_getElem.1 hd
        rw [List.getElem_take] at q
        rw [List.length_take] at hi
        have := List.not_of_lt_findIdx (p := fun c : UInt8 => c == 10) (xs := t) (i := i) (by unfold eolL at hi; omega)
        simp only [beq_eq_false_iff_ne, ne_eq, Bool.not_eq_true] at this
        exact this (q.trans e)
      have e : w ++ t = lineT w (t.take (eolL t)) (t.drop (eolL t + 1)) := by
        unfold lineT
        congr 1
        conv => lhs; rw [← List.take_append_drop (eolL t) t, List.drop_eq_getElem_cons h2, h10]
      rw [e]
      exact line_print hw hno _
    · rw [if_neg h2]
      refine line_lone (fun d hd e => ?_) w
      rcases List.mem_append.1 hd with hd | hd
      · exact hw d hd e
      · refine h2 ?_
        unfold eolL
        exact List.findIdx_lt_length.2 ⟨d, hd, by simp [e]⟩
  · rw [if_neg h]
    cases e : lineL s w with
    | none => rfl
    | some y =>
      obtain ⟨x, r⟩ := y
      exact absurd ⟨x ++ 10 :: r, by rw [(line_only e).1]; rfl⟩ h
theorem cut_eol (s : List UInt8) : Lib.cut s [10] = if eolL s < s.length then (s.take (eolL s), s.drop (eolL s + 1), true) else (s, [], false) := by
  by_cases h2 : eolL s < s.length
  · rw [if_pos h2]
    have h10 : s[eolL s]'h2 = 10 := beq_iff_eq.1 (List.findIdx_getElem (p := fun c : UInt8 => c == 10) (w := h2))
    have hno : noEol (s.take (eolL s)) := by
      intro d hd e
      obtain ⟨i, hi, q⟩ := List.mem_iff_getElem.1 hd
      rw [List.getElem_take] at q
      rw [List.length_take] at hi
      have := List.not_of_lt_findIdx (p := fun c : UInt8 => c == 10) (xs := s) (i := i) (by unfold eolL at hi; omega)
      simp only [beq_eq_false_iff_ne, ne_eq, Bool.not_eq_true] at this
      exact this (q.trans e)
    have e : s = s.take (eolL s) ++ 10 :: ([] ++ s.drop (eolL s + 1)) := by
      conv => lhs; rw [← List.take_append_drop (eolL s) s, List.drop_eq_getElem_cons h2, h10]
      rfl
    conv => lhs; rw [e]
    exact cut_at 10 [] _ _ hno
  · rw [if_neg h2]
    unfold Lib.cut
    have hi : Lib.index s [10] = -1 := Lib.index_none (fun j hj => by
      cases ho : Lib.occAt s [10] j with
      | false => rfl
      | true =>
        have := Lib.occAt_head rfl ho
        exact absurd (List.findIdx_lt_length.2 ⟨10, List.mem_of_getElem? this, by simp⟩) h2)
    rw [hi, if_neg (by decide)]
theorem byte_zero (l : List UInt8) : (Lib.indexByte l 0 < 0 ∧ ∀ d ∈ l, d ≠ 0) ∨ (0 ≤ Lib.indexByte l 0 ∧ ∃ d ∈ l, d = 0) := by
  induction l with
  | nil => exact .inl ⟨by decide, fun d hd => by cases hd⟩
  | cons b l ih =>
    unfold Lib.indexByte
    by_cases hb : b = 0
    · subst hb; exact .inr ⟨by simp, 0, by simp, rfl⟩
    · rw [beq_false_of_ne hb, if_neg (by decide)]
      have hge := Lib.indexByte_ge l 0
      rcases ih with ⟨h1, h2⟩ | ⟨h1, d, hd, e⟩
      · rw [if_pos (by rw [beq_iff_eq]; omega)]
        refine .inl ⟨by decide, fun d hd => ?_⟩
        rcases List.mem_cons.1 hd with rfl | hd
        · exact hb
        · exact h2 d hd
      · rw [if_neg (by rw [beq_iff_eq]; omega)]
        exact .inr ⟨by omega, d, by simp [hd], e⟩
end Go.Proofs.YtpelehhmdcjikaaGreatDoor

/-
  Layer 9, the program: an id looked for among some; which texts a record may have.
-/
namespace Go.Proofs.YtpelehhmdcjikaaGreatDoor
set_option maxRecDepth 20000
open Go.RowKit
set_option linter.unusedVariables false
set_option linter.unusedSimpArgs false
theorem eqD_comm (x y : List UInt8) : eqD x y = eqD y x := by unfold eqD; exact Bool.beq_comm
set_option maxHeartbeats 8000000 in
theorem Index_some (b1 o1 c1 n : Nat) (l : List (List UInt8)) (x : List UInt8) (w : World) (hn : n = l.length) (hm : n ≤ 1000000) (h1 : b1 < w.heap.size)
    (hc1 : ∀ k (h : k < l.length) j v, (cellsD l[k])[j]? = some v → w.cell? ⟨b1, o1 + k * 20 + j, none⟩ = some v) (hid : ∀ i ∈ l, i.length = 20) (hx : x.length = 20) :
    Calls Tryz.prog 160 #[.slice (some ⟨b1, o1, none⟩) n c1, .agg (arrD x)] w fun e w' => ∃ r : Int, e = .returned (.int .i64 r) ∧ ((amongD l x = true ∧ 0 ≤ r) ∨ (amongD l x = false ∧ r = -1)) ∧ Below w.heap.size w w' := by
  obtain ⟨A, hA⟩ : ∃ A, arrD x = A := ⟨_, rfl⟩
  have HAS := Lib.hid (show A.size = 20 by rw [← hA]; exact arrD_size x hx)
  have E := fun (y : List UInt8) (hy : y.length = 20) u => (show (binOp .eql 24 (.agg (arrD x)) (.agg (arrD y))).run Tryz.prog u = .ok (.bool (eqD y x)) u by rw [eql_arrD x y hx hy u, eqD_comm])
  have HERE := Lib.hid (fun (k : Nat) (hk : k < l.length) h => among_here (x := x) hk h)
  have NONE := Lib.hid (fun h => among_none (l := l) (x := x) h)
  obtain ⟨R, hR⟩ : ∃ R, amongD l x = R := ⟨_, rfl⟩
  rw [hR] at HERE NONE ⊢
  rw [hA] at E ⊢
  obtain ⟨q, hq⟩ : ∃ q : List UInt8 → Bool, ∀ y, eqD y x = q y := ⟨_, fun _ => rfl⟩
  simp only [hq] at E HERE NONE
  have HE := Lib.hid E
  have b1 := (Below.refl w.heap.size w).alloc (Nat.le_refl _) (.cells A 24)
  have HX := Lib.hid (heap_alloc_new w (.cells A 24))
  have B1 := Lib.hid b1
  have HC1 := Lib.hid hc1; have HID := Lib.hid hid; have HN := Lib.hid hn
  have LA := Lib.hid (show (Tryz.prog.info? 24).map (·.size) = some A.toList.length by rw [Array.length_toList]; exact infoD_arr A HAS.out)
  clear hc1 hid hn b1 hR hA hx hq E
  go_enter Tryz.func160, Tryz.ntmps160
  go_wp2_with fail
  go_loopw [8] (fun i wr => ∃ k : Nat, k ≤ n ∧ i = .int .i64 k ∧ (∀ j (hj : j < l.length), j < k → q l[j] = false) ∧ wr.heap[w.heap.size]? = some (.cells A 24 (0, 0)) ∧ Below w.heap.size w wr) (fun i _ => n - (intOf i).toNat)
  case atStart => exact ⟨0, Nat.zero_le _, rfl, fun j _ h => absurd h (Nat.not_lt_zero _), HX.out, B1.out⟩
  case round =>
    obtain ⟨k, hk, rfl, hno, hx, hbr⟩ := hrel
    have HBR := Lib.hid hbr; have HNO := Lib.hid hno; have HXR := Lib.hid hx
    clear hbr hno hx
    by_cases hlt : k < n
    · have hkl : k < l.length := by rw [← HN.out]; exact hlt
      obtain ⟨y, hy⟩ : ∃ y, l[k] = y := ⟨_, rfl⟩
      have hidy := HID.out y (by rw [← hy]; exact List.getElem_mem _)
      have r1 : ∀ u, Below wr.heap.size wr u → u.rangeAt b1 (o1 + k * 20) (cellsD y) := fun u hu j v hv =>
        (hu.cell (p := ⟨b1, o1 + k * 20 + j, none⟩) (Nat.lt_of_lt_of_le h1 HBR.out.size)).trans ((HBR.out.cell (p := ⟨b1, o1 + k * 20 + j, none⟩) h1).trans (HC1.out k hkl j v (by rw [hy]; exact hv)))
      have R1 := Lib.hid r1
      have LX := Lib.hid (show (Tryz.prog.info? 24).map (·.size) = some (cellsD y).length by rw [cellsD_len y hidy]; exact infoD_n)
      have E1 := HE.out y hidy
      unfold arrD at E1
      have HERE1 := Lib.hid (HERE.out k hkl)
      have HNO1 := Lib.hid (fun (e : q y = false) (j : Nat) (hj : j < l.length) (hjk : j < k + 1) => (show q l[j] = false from if h : j < k then HNO.out j hj h else by
        obtain rfl : j = k := by omega
        rw [hy]; exact e))
      rw [hy] at HERE1
      have HRW := Lib.hid (row_arrD (w := wr) (A := A) HXR.out)
      clear r1 hidy hy
      generalize cellsD y = cy at *
      go_wp2_with fail
      refine wp_region_held_drew (S := fun u => Below wr.heap.size wr u) (by kernel_rfl) (Below.refl _ _).drew (fun hHeld => ?_)
      refine wpAnyH_take (i := 0) rfl (by kernel_rfl) (by kernel_rfl) (by kernel_rfl) (fun _ _ _ h => h) (yieldsIf_load_mid (by kernel_rfl) 24 (.tmp 3) (by kernel_rfl) w.heap.size 0 (by kernel_rfl) A.toList _ (fun u hu => row_keepD HRW.out (lt_of_heap HXR.out) hu) Tryz.underlying24 rfl LA.out) hHeld ?_
      try simp only [Act.put, List.setIfInBounds_toArray, List.set_cons_zero, List.set_cons_succ]
      refine wpAnyH_take (i := 1) (v := ?hv1) rfl (by kernel_rfl) (by kernel_rfl) (by kernel_rfl) (fun _ _ _ h => h) (Or.inl ⟨by kernel_rfl, ?hy1⟩) hHeld ?_
      case hy1 => intro u hu; go_simp; try with_reducible rfl
      try simp only [Act.put, List.setIfInBounds_toArray, List.set_cons_zero, List.set_cons_succ]
      refine wpAnyH_take (i := 2) (v := ?hv2) rfl (by kernel_rfl) (by kernel_rfl) (by kernel_rfl) (fun _ _ _ h => h) (Or.inl ⟨by kernel_rfl, ?hy2⟩) hHeld ?_
      case hy2 => intro u hu; go_simp; try with_reducible rfl
      try simp only [Act.put, List.setIfInBounds_toArray, List.set_cons_zero, List.set_cons_succ]
      refine wpAnyH_take (i := 3) (v := ?hv3) rfl (by kernel_rfl) (by kernel_rfl) (by kernel_rfl) (fun _ _ _ h => h) (Or.inl ⟨by kernel_rfl, ?hy3⟩) hHeld ?_
      case hy3 => intro u hu; go_simp; try with_reducible rfl
      try simp only [Act.put, List.setIfInBounds_toArray, List.set_cons_zero, List.set_cons_succ]
      refine wpAnyH_take (i := 4) rfl (by kernel_rfl) (by kernel_rfl) (by kernel_rfl) (fun _ _ _ h => h) (yieldsIf_load_mid (by kernel_rfl) 24 (.tmp 14) (by kernel_rfl) b1 (o1 + k * 20) (by kernel_rfl) cy _ (fun u hu => R1.out u hu) Tryz.underlying24 rfl LX.out) hHeld ?_
      try simp only [Act.put, List.setIfInBounds_toArray, List.set_cons_zero, List.set_cons_succ]
      refine wpAnyH_take (i := 5) (v := ?hv5) rfl (by kernel_rfl) (by kernel_rfl) (by kernel_rfl) (fun _ _ _ h => h) (Or.inl ⟨by kernel_rfl, ?hy5⟩) hHeld ?_
      case hy5 => intro u hu; go_simp; try with_reducible rfl
      try simp only [Act.put, List.getElem_toArray, List.getElem_cons_succ, List.getElem_cons_zero, List.setIfInBounds_toArray, List.set_cons_zero, List.set_cons_succ]
      refine wpAnyH_done (by kernel_rfl) ?_ _
      have HB2 := Lib.hid (HBR.out.trans (hHeld.mono HBR.out.size))
      have HX2 := Lib.hid (heap_keep HXR.out hHeld)
      clear hHeld
      cases hqy : q y with
      | true =>
        go_wp2
        go_ret
        exact ⟨_, rfl, .inl ⟨HERE1.out hqy, Int.natCast_nonneg _⟩, HB2.out⟩
      | false =>
        go_wp2
        go_roundw
        case rel => exact ⟨k + 1, by omega, by go_num, HNO1.out hqy, HX2.out, HB2.out⟩
        case measure => simp [intOf]; omega
    · obtain rfl : k = n := by omega
      go_wp2
      go_ret
      exact ⟨_, rfl, .inr ⟨NONE.out (fun j hj => HNO.out j hj (by rw [HN.out]; exact hj)), rfl⟩, HBR.out⟩
set_option maxHeartbeats 4000000 in
theorem Contains_some (b1 o1 c1 n : Nat) (l : List (List UInt8)) (x : List UInt8) (w : World) (hn : n = l.length) (hm : n ≤ 1000000) (h1 : b1 < w.heap.size)
    (hc1 : ∀ k (h : k < l.length) j v, (cellsD l[k])[j]? = some v → w.cell? ⟨b1, o1 + k * 20 + j, none⟩ = some v) (hid : ∀ i ∈ l, i.length = 20) (hx : x.length = 20) :
    Calls Tryz.prog 136 #[.slice (some ⟨b1, o1, none⟩) n c1, .agg (arrD x)] w fun e w' => e = .returned (.bool (amongD l x)) ∧ Below w.heap.size w w' := by
  obtain ⟨A, hA⟩ : ∃ A, arrD x = A := ⟨_, rfl⟩
  have HAS := Lib.hid (show A.size = 20 by rw [← hA]; exact arrD_size x hx)
  have hbx := (Below.refl w.heap.size w).alloc (Nat.le_refl _) (.cells A 24)
  have HX := Lib.hid (heap_alloc_new w (.cells A 24))
  have C := Lib.hid (fun u (hu : Below w.heap.size w u) => Index_some b1 o1 c1 n l x u hn hm (Nat.lt_of_lt_of_le h1 hu.size) (fun k h j v hv => (hu.cell (p := ⟨b1, o1 + k * 20 + j, none⟩) h1).trans (hc1 k h j v hv)) hid hx)
  rw [hA] at C ⊢
  have B1 := Lib.hid hbx
  obtain ⟨R, hR⟩ : ∃ R, amongD l x = R := ⟨_, rfl⟩
  rw [hR] at C ⊢
  clear hn hc1 hid hbx hA hx hR
  go_enter Tryz.func136, Tryz.ntmps136
  go_wp2_with (first
    | (with_reducible refine wpList_load_all 24 (.tmp 3) rfl (by kernel_rfl) w.heap.size A 24 (0, 0) rfl HX.out _ Tryz.underlying24 rfl (infoD_arr A HAS.out) ?_)
    | fail)
  refine (C.out _ B1.out).mono ?_
  rintro e w2 ⟨r, rfl, hr, hb2⟩
  have HB2 := Lib.hid (B1.out.trans (hb2.mono B1.out.size))
  clear hb2 C
  rcases hr with ⟨rfl, hr⟩ | ⟨rfl, rfl⟩
  · have g1 : r ≥ 0 := hr
    clear hr
    go_wp2
    go_ret
    exact ⟨rfl, HB2.out⟩
  · go_wp2
    go_ret
    exact ⟨rfl, HB2.out⟩
def textR (x : List UInt8) : Bool := decide (x.length ≤ 32768) && decide (∀ d ∈ x, d ≠ 0)
set_option maxHeartbeats 4000000 in
theorem rightText9_is (x : List UInt8) (w : World) :
    Calls Tryz.prog 107 #[.string ⟨x.toArray⟩] w fun e w' => e = .returned (.bool (textR x)) ∧ Below w.heap.size w w' := by
  have C := fun u => Tryz.strings_IndexByte ⟨x.toArray⟩ 0 u
  have e0 : Lib.indexByte (⟨x.toArray⟩ : ByteArray).data.toList (0 : Int).toNat.toUInt8 = Lib.indexByte x 0 := rfl
  rw [e0] at C
  have HZ := Lib.hid (byte_zero x)
  have zx := size_toArray x
  obtain ⟨r, hr⟩ : ∃ r, Lib.indexByte x 0 = r := ⟨_, rfl⟩
  rw [hr] at C HZ
  unfold textR
  clear e0 hr
  obtain ⟨p, hp⟩ : ∃ p, decide (∀ d ∈ x, d ≠ 0) = p := ⟨_, rfl⟩
  have HP := Lib.hid hp
  rw [hp]
  clear hp
  by_cases k1 : x.length ≤ 32768
  · have g1 : (x.length : Int) ≤ 32768 := by omega
    rw [decide_eq_true k1, Bool.true_and]
    rcases HZ.out with ⟨hz, hno⟩ | ⟨hz, d, hd, hd0⟩
    · have q : p = true := by rw [← HP.out]; exact decide_eq_true hno
      subst q
      clear hno k1
      generalize (⟨x.toArray⟩ : ByteArray) = X at *
      go_enter Tryz.func107, Tryz.ntmps107
      go_wp2_with fail
      refine (C _).mono ?_
      rintro e w2 ⟨rfl, rfl⟩
      go_wp2
      go_ret
      exact ⟨rfl, Below.refl _ _⟩
    · have q : p = false := by rw [← HP.out]; exact decide_eq_false (fun h => h d hd hd0)
      subst q
      have g2 : decide (r < 0) = false := decide_eq_false (by omega)
      clear hz hd hd0 k1
      generalize (⟨x.toArray⟩ : ByteArray) = X at *
      go_enter Tryz.func107, Tryz.ntmps107
      go_wp2_with fail
      refine (C _).mono ?_
      rintro e w2 ⟨rfl, rfl⟩
      go_wp2
      go_ret
      exact ⟨rfl, Below.refl _ _⟩
  · have g1 : ¬ (x.length : Int) ≤ 32768 := by omega
    rw [decide_eq_false k1, Bool.false_and]
    clear k1
    generalize (⟨x.toArray⟩ : ByteArray) = X at *
    go_enter Tryz.func107, Tryz.ntmps107
    go_wp2_with fail
    go_ret
    exact ⟨rfl, Below.refl _ _⟩
end Go.Proofs.YtpelehhmdcjikaaGreatDoor
