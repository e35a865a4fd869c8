/-
  Texts that belong together, one behind the other.
-/
import Derived.Test.YtnbcbiglkmdepaaGreatDoorFu07
import Derived.Test.YtnbcbiglkmdepaaGreatDoorFu11
import Derived.Test.YtnbcbiglkmdepaaGreatDoorFu02
import Derived.Lib.TrimByte
import Derived.Lib.IndexMore
import Derived.Lib.Bytealg
import Derived.Test.YtnbcbiglkmdepaaGreatDoorFu01
import Derived.Test.YtnbcbiglkmdepaaGreatDoorFu05
import Derived.Test.YtnbcbiglkmdepaaGreatDoorFu06
import Derived.OwnWalk
import Derived.Deep.RegionHeld3
import Derived.IntWalk
import Derived.WalkSmall
import Derived.Shelf.Strings.Builder1
import Derived.Shelf.Strings.BuilderF
import Derived.Shelf.Strings.BuilderK
import Derived.Test.YtnbcbiglkmdepaaGreatDoorProg
import Derived.Shelf.Strings.BuilderRune
import Derived.Shelf.Strings.BuilderCap
set_option maxHeartbeats 64000000
set_option linter.unusedVariables false
set_option linter.unusedSimpArgs false
open Go.Lib renaming hid → hyd
open List renaming getElem_toArray → lgA, getElem_cons_succ → lgS, getElem_cons_zero → lgZ
namespace Go.Proofs.YtnbcbiglkmdepaaGreatDoor
set_option maxRecDepth 20000
open Go.RowKit
theorem rBlob_is {S : Nat → Prop} {w : World} {g : Nat} {L : List Cel} (h : StoreAt S w g L) (i : List UInt8) (hi : i.length = 20) (hm : L.length ≤ 1000000) :
  Calls Tryz.prog 33 #[.pointer (some ⟨g, 0, none⟩), .agg (arrD i)] w fun e w' => ∃ v, e = .returned (.tuple #[v, .int .i64 (ofS (getS L i) 1).2]) ∧ RedS S w' v (ofS (getS L i) 1).1 ∧ Below w.heap.size w w' := by
 obtain ⟨A1, hA1⟩ : ∃ A, arrD i = A := ⟨_, rfl⟩
 have sA : A1.size = 20 := by rw [← hA1]; exact arrD_size i hi
 have b1 : Below w.heap.size w (w.alloc (.cells A1 24)) := (Below.refl w.heap.size w).alloc (Nat.le_refl _) (.cells A1 24); have H1 := hyd (heap_alloc_new w (.cells A1 24)); have B1 := hyd b1; have IA := hyd (show (Tryz.prog.info? 24).map (·.size) = some A1.size from by rw [sA]; exact infoD_n); have CO := hyd (fun u (hu : Below w.heap.size w u) => rOf_is (h.below hu) i hi 1 hm); rw [hA1] at CO ⊢; obtain ⟨r, hr⟩ : ∃ r, ofS (getS L i) 1 = r := ⟨_, rfl⟩; rw [hr] at CO ⊢; clear h b1 sA hr
 go_enter Tryz.func33, Tryz.ntmps33
 go_wp2_with (first
  | (with_reducible refine wpList_load_all 24 (.tmp 3) rfl (by kernel_rfl) w.heap.size A1 24 (0, 0) rfl H1.out _ Tryz.underlying24 rfl IA.out ?_)
  | fail)
 refine (CO.out _ B1.out).mono ?_; rintro e w3 ⟨v, rfl, hr, hb3⟩; have HB3 := hyd (B1.out.trans (hb3.mono B1.out.size)); have HR := hyd hr; clear hb3 CO hr; go_wp2
 go_ret2
 exact ⟨_, rfl, HR.out, HB3.out⟩
def TreeS (o : Option Cel) (p : List Itm) (err : Int) : Prop := if (ofS o 2).2 = 0 then ParsedT (ofS o 2).1 p err else p = [] ∧ err = (ofS o 2).2
theorem rTree_is {S : Nat → Prop} {w : World} {g : Nat} {L : List Cel} (h : StoreAt S w g L) (i : List UInt8) (hi : i.length = 20) (hm : L.length ≤ 1000000) (tab : QTab w) :
  Calls Tryz.prog 30 #[.pointer (some ⟨g, 0, none⟩), .agg (arrD i)] w fun e w' => ∃ v p err, e = .returned (.tuple #[v, .int .i64 err]) ∧ RedI w' v p ∧ TreeS (getS L i) p err ∧ Below w.heap.size w w' := by
 obtain ⟨A1, hA1⟩ : ∃ A, arrD i = A := ⟨_, rfl⟩
 have sA : A1.size = 20 := by rw [← hA1]; exact arrD_size i hi
 have b1 : Below w.heap.size w (w.alloc (.cells A1 24)) := (Below.refl w.heap.size w).alloc (Nat.le_refl _) (.cells A1 24); have H1 := hyd (heap_alloc_new w (.cells A1 24)); have B1 := hyd b1; have IA := hyd (show (Tryz.prog.info? 24).map (·.size) = some A1.size from by rw [sA]; exact infoD_n); have CO := hyd (fun u (hu : Below w.heap.size w u) => rOf_is (h.below hu) i hi 2 hm); have TB := hyd tab; unfold TreeS; rw [hA1] at CO ⊢; obtain ⟨r, hr⟩ : ∃ r, ofS (getS L i) 2 = r := ⟨_, rfl⟩; rw [hr] at CO ⊢; obtain ⟨bs, er⟩ := r; simp only at CO ⊢; clear h b1 sA hr tab
 by_cases he : er = 0
 ·subst he
  go_enter Tryz.func30, Tryz.ntmps30
  go_wp2_with (first
   | (with_reducible refine wpList_load_all 24 (.tmp 3) rfl (by kernel_rfl) w.heap.size A1 24 (0, 0) rfl H1.out _ Tryz.underlying24 rfl IA.out ?_)
   | fail)
  refine (CO.out _ B1.out).mono ?_; rintro e w3 ⟨v, rfl, ⟨va, vc, rfl, hba, -, hvc, -, -⟩, hb3⟩; have HB3 := hyd (B1.out.trans (hb3.mono B1.out.size)); have CP := hyd (rtParse_is va bs.length vc bs w3 rfl hba hvc (TB.out.below HB3.out)); clear hb3 CO hba hvc; obtain ⟨n, hn⟩ : ∃ n, bs.length = n := ⟨_, rfl⟩; rw [hn] at CP; rw [hn]
  go_wp2_with fail
  refine CP.out.mono ?_; rintro e w4 ⟨v, p, err, rfl, hp, hpt, hb4⟩; have HB4 := hyd (HB3.out.trans (hb4.mono HB3.out.size)); have HP := hyd hp; have HPT := hyd hpt; clear hb4 CP hp hpt; go_wp2
  go_ret2
  exact ⟨_, p, err, rfl, HP.out, HPT.out, HB4.out⟩
 ·go_enter Tryz.func30, Tryz.ntmps30
  go_wp2_with (first
   | (with_reducible refine wpList_load_all 24 (.tmp 3) rfl (by kernel_rfl) w.heap.size A1 24 (0, 0) rfl H1.out _ Tryz.underlying24 rfl IA.out ?_)
   | fail)
  refine (CO.out _ B1.out).mono ?_; rintro e w3 ⟨v, rfl, hr, hb3⟩; have HB3 := hyd (B1.out.trans (hb3.mono B1.out.size)); clear hb3 CO hr; go_wp2
  go_ret2
  exact ⟨_, [], er, rfl, RedI.none _, ⟨rfl, rfl⟩, HB3.out⟩
def valN : Nat → List UInt8 → List UInt8
 | 0, _ => []
 | n + 1, l => if l = [] then [] else if goodL l then l.take (widL l) ++ valN n (l.drop (widL l)) else valN n (l.drop (widL l))
def valT (l : List UInt8) : List UInt8 := valN l.length l
theorem valN_fuel : ∀ (n m : Nat) (l : List UInt8), l.length ≤ n → l.length ≤ m → valN n l = valN m l
 | 0, 0, _, _, _ => rfl
 | 0, m + 1, l, h, _ => by
  have e : l = [] := List.eq_nil_of_length_eq_zero (by omega)
  simp [valN, e]
 | n + 1, 0, l, _, h => by
  have e : l = [] := List.eq_nil_of_length_eq_zero (by omega)
  simp [valN, e]
 | n + 1, m + 1, l, h1, h2 => by
  by_cases e : l = []
  ·simp [valN, e]
  ·have hp := wid_pos l
   have ih := valN_fuel n m (l.drop (widL l)) (by rw [List.length_drop]; omega) (by rw [List.length_drop]; omega); unfold valN; rw [if_neg e, if_neg e, ih]
theorem valT_nil : valT [] = [] := rfl
theorem valT_step (l : List UInt8) (h : l ≠ []) : valT l = if goodL l then l.take (widL l) ++ valT (l.drop (widL l)) else valT (l.drop (widL l)) := by
 have hp := wid_pos l
 have hl : 1 ≤ l.length := by cases l with | nil => exact absurd rfl h | cons _ _ => simp
 obtain ⟨n, hn⟩ : ∃ n, l.length = n + 1 := ⟨l.length - 1, by omega⟩; have e : valN n (l.drop (widL l)) = valT (l.drop (widL l)) := valN_fuel _ _ _ (by rw [List.length_drop]; omega) (Nat.le_refl _); rw [← e]; unfold valT; rw [hn]
 conv => lhs; unfold valN
 rw [if_neg h]
theorem bad_wid (l : List UInt8) (h : ¬ goodL l) : widL l = 1 := (Decidable.not_not.1 h).2
theorem val_ind {M : List UInt8 → Prop} (h0 : M []) (h1 : ∀ l, l ≠ [] → M (l.drop (widL l)) → M l) (l : List UInt8) : M l := by
 have key : ∀ (n : Nat) (l : List UInt8), l.length ≤ n → M l := by
  intro n
  induction n with
  | zero => intro l hl; rw [List.eq_nil_of_length_eq_zero (show l.length = 0 by omega)]; exact h0
  | succ n ih =>
   intro l hl
   by_cases e : l = []
   ·rw [e]; exact h0
   ·have hp := wid_pos l
    exact h1 l e (ih _ (by rw [List.length_drop]; omega))
 exact key l.length l (Nat.le_refl _)
theorem valT_len (l : List UInt8) : (valT l).length ≤ l.length := by
 refine val_ind (M := fun l => (valT l).length ≤ l.length) (by simp [valT_nil]) (fun l h ih => ?_) l; rw [List.length_drop] at ih; have hp := wid_pos l; rw [valT_step l h]
 split
 ·rw [List.length_append, List.length_take]; omega
 ·omega
theorem good_put (l t : List UInt8) (h : l ≠ []) (hg : goodL l) : l.take (widL l) ++ t ≠ [] ∧ goodL (l.take (widL l) ++ t) ∧ widL (l.take (widL l) ++ t) = widL l ∧ (l.take (widL l) ++ t).take (widL l) = l.take (widL l) ∧ (l.take (widL l) ++ t).drop (widL l) = t ∧ (l.take (widL l) ++ t).getD 0 0 = l.getD 0 0 := by
 have hd := good_take l t h hg; have hp := wid_pos l; have hle := wid_le l h
 have hlen : (l.take (widL l)).length = widL l := by rw [List.length_take]; omega
 refine ⟨fun e => ?_, ?_, ?_, List.take_left' hlen, List.drop_left' hlen, ?_⟩
 ·have := congrArg List.length e; rw [List.length_append, hlen] at this; simp at this; omega
 ·unfold goodL; rw [hd]; exact hg
 ·show (Lib.decodeL _).2 = _; rw [hd]; rfl
 ·rw [List.getD_eq_getElem?_getD, List.getD_eq_getElem?_getD, List.getElem?_append_left (by omega), List.getElem?_take, if_pos (by omega)]
theorem valT_valid (l : List UInt8) : Lib.validD (valT l) = true := by
 refine val_ind (M := fun l => Lib.validD (valT l) = true) rfl (fun l h ih => ?_) l; rw [valT_step l h]
 split
 ·rename_i hg
  obtain ⟨h1, h2, h3, _, h5, _⟩ := good_put l (valT (l.drop (widL l))) h hg; rw [Lib.validD_step _ h1, if_neg h2]
  show Lib.validD (List.drop (widL (l.take (widL l) ++ valT (l.drop (widL l)))) _) = true
  rw [h3, h5]; exact ih
 ·exact ih
theorem valT_pieces (l : List UInt8) : pieces (valT l) = pieces l := by
 refine val_ind (M := fun l => pieces (valT l) = pieces l) rfl (fun l h ih => ?_) l; rw [pieces_step l h, valT_step l h]
 by_cases hg : goodL l
 ·rw [if_pos hg]
  obtain ⟨h1, h2, h3, h4, h5, h6⟩ := good_put l (valT (l.drop (widL l))) h hg; rw [pieces_step _ h1, h3, h4, h5, ih]
  have hk : keepL (l.take (widL l) ++ valT (l.drop (widL l))) ↔ keepL l := by
   unfold keepL; rw [h3, h6]; exact ⟨fun q => ⟨hg, q.2⟩, fun q => ⟨h2, q.2⟩⟩
  by_cases k : keepL l
  ·rw [if_pos (hk.2 k), if_pos k]
  ·rw [if_neg (fun q => k (hk.1 q)), if_neg k]
 ·rw [if_neg hg, if_neg (fun q => hg q.1)]
  exact ih
theorem good_of_valid (l : List UInt8) (h : l ≠ []) (hv : Lib.validD l = true) : goodL l ∧ Lib.validD (l.drop (widL l)) = true := by
 rw [Lib.validD_step l h] at hv
 split at hv
 ·cases hv
 ·rename_i hg; exact ⟨hg, hv⟩
theorem dec_drop (l : List UInt8) (i : Nat) : Utf8.decode ⟨l.toArray⟩ i = Lib.decodeL (l.drop i) := by
 rw [decodeL_N, Lib.decode_N ⟨l.toArray⟩ i]
 simp [List.getD_eq_getElem?_getD, List.getElem?_drop, ByteArray.size]
theorem drop_ne (l : List UInt8) (i : Nat) (h : i < l.length) : l.drop i ≠ [] := fun e => by
 have := congrArg List.length e; rw [List.length_drop] at this; simp at this; omega
theorem rune_val (l : List UInt8) (h : l ≠ []) (hg : goodL l) : ((Lib.decodeL l).1 = (l.getD 0 0).toNat ∧ (l.getD 0 0).toNat < 128 ∧ widL l = 1) ∨ (128 ≤ (Lib.decodeL l).1 ∧ 128 ≤ (l.getD 0 0).toNat ∧ 1 < widL l) := by
 have hr := rune_at l 0 (by cases l with | nil => exact absurd rfl h | cons _ _ => simp); rw [dec_drop, List.drop_zero] at hr
 rcases hr with ⟨h1, h2⟩ | ⟨h1, h2, _⟩
 ·left
  exact ⟨by rw [h2], h1, by show (Lib.decodeL l).2 = 1; rw [h2]⟩
 ·right
  exact ⟨h2, h1, good_high l h h1 hg⟩
def barR (r : Nat) : Bool := r == 0 || r == 10 || r == 60 || r == 62
theorem keep_iff (l : List UInt8) (h : l ≠ []) (hg : goodL l) : keepL l ↔ barR (Lib.decodeL l).1 = false := by
 unfold keepL
 rcases rune_val l h hg with ⟨h1, h2, h3⟩ | ⟨h1, h2, h3⟩
 ·rw [h1, h3]
  unfold barR barB
  constructor
  ·rintro ⟨_, q⟩
   cases hb : ((l.getD 0 0).toNat == 0 || (l.getD 0 0).toNat == 10 || (l.getD 0 0).toNat == 60 || (l.getD 0 0).toNat == 62) with
   | false => rfl
   | true => exact absurd ⟨rfl, hb⟩ q
  ·intro q
   exact ⟨hg, fun p => by rw [q] at p; exact absurd p.2 (by decide)⟩
 ·constructor
  ·intro _
   unfold barR
   simp
   omega
  ·intro _
   exact ⟨hg, fun p => by omega⟩
theorem trimLeft_flat : ∀ gs : List (List UInt8), (∀ g ∈ gs, Rune g) → Lib.trimLeftB gs.flatten 32 = (lstrip gs).flatten
 | [], _ => rfl
 | g :: r, h => by
  have hg := h g (by simp)
  cases hb : blank g with
  | true =>
   have e : g = [32] := of_decide_eq_true hb; subst e; have ih := trimLeft_flat r (fun x hx => h x (by simp [hx])); unfold lstrip at ih ⊢; rw [List.dropWhile_cons_of_pos hb, ← ih]; unfold Lib.trimLeftB; rw [List.flatten_cons, List.singleton_append, List.dropWhile_cons_of_pos (by decide)]
  | false =>
   rw [lstrip_none g r hb]
   have hf := hg.first hb
   cases g with
   | nil => exact absurd rfl hg.ne
   | cons c t =>
    unfold Lib.trimLeftB; rw [List.flatten_cons, List.cons_append, List.dropWhile_cons_of_neg]
    simp
    intro e
    apply hf
    rw [e]; rfl
theorem rstrip_blank : ∀ r : List (List UInt8), rstrip (r ++ [[32]]) = rstrip r
 | [] => rfl
 | g :: r => by
  rw [List.cons_append]; unfold rstrip; rw [rstrip_blank r]
theorem trimRight_flat (gs : List (List UInt8)) (h : ∀ g ∈ gs, Rune g) : Lib.trimRightB gs.flatten 32 = (rstrip gs).flatten := by
 have key : ∀ (n : Nat) (gs : List (List UInt8)), gs.length = n → (∀ g ∈ gs, Rune g) → Lib.trimRightB gs.flatten 32 = (rstrip gs).flatten := by
  intro n
  induction n with
  | zero =>
   intro gs hn _; rw [List.eq_nil_of_length_eq_zero hn]; rfl
  | succ n ih =>
   intro gs hn h
   have hne : gs ≠ [] := fun e => by rw [e] at hn; simp at hn
   obtain ⟨r, g, rfl⟩ : ∃ r g, gs = r ++ [g] := ⟨gs.dropLast, gs.getLast hne, (List.dropLast_concat_getLast hne).symm⟩; have hg := h g (by simp)
   cases hb : blank g with
   | true =>
    have e : g = [32] := of_decide_eq_true hb; subst e; rw [rstrip_blank, ← ih r (by simpa using hn) (fun x hx => h x (by simp [hx]))]; unfold Lib.trimRightB; rw [List.flatten_append, List.flatten_singleton, List.reverse_append, List.reverse_singleton, List.singleton_append, List.dropWhile_cons_of_pos (by decide)]
   | false =>
    rw [rstrip_none r g hb]; have hf := hg.final hb; obtain ⟨t, c, rfl⟩ : ∃ t c, g = t ++ [c] := ⟨g.dropLast, g.getLast hg.ne, (List.dropLast_concat_getLast hg.ne).symm⟩; unfold Lib.trimRightB
    have e1 : (r ++ [t ++ [c]]).flatten.reverse = c :: (r.flatten ++ t).reverse := by
     rw [List.flatten_append, List.flatten_singleton, ← List.append_assoc, List.reverse_append, List.reverse_singleton, List.singleton_append]
    have e2 : List.reverse (c :: (r.flatten ++ t).reverse) = (r ++ [t ++ [c]]).flatten := by rw [← e1, List.reverse_reverse]
    rw [e1, List.dropWhile_cons_of_neg, e2]
    simp
    intro e
    apply hf
    rw [e]; simp
 exact key gs.length gs rfl h
theorem fit_at : ∀ (az : List (List UInt8)) (g : List UInt8) (bs : List (List UInt8)) (n : Nat), az.flatten.length ≤ n → n < az.flatten.length + g.length → fitL n (az ++ g :: bs) = az
 | [], g, bs, n, h1, h2 => by
  simp at h2
  rw [List.nil_append]; unfold fitL; rw [if_neg (by omega)]
 | a :: r, g, bs, n, h1, h2 => by
  rw [List.flatten_cons, List.length_append] at h1 h2; rw [List.cons_append]; unfold fitL; rw [if_pos (by omega), fit_at r g bs _ (by omega) (by omega)]
def Edge (gs : List (List UInt8)) (i e : Nat) : Prop :=
 ∃ az bs, gs = az ++ bs ∧ i = az.flatten.length ∧ (az = [] ∧ e = 0 ∨ ∃ a g, az = a ++ [g] ∧ e = a.flatten.length)
theorem Edge.start (gs : List (List UInt8)) : Edge gs 0 0 := ⟨[], gs, rfl, rfl, .inl ⟨rfl, rfl⟩⟩
theorem Edge.next {gs : List (List UInt8)} (hr : ∀ g ∈ gs, Rune g) {i e : Nat} (h : Edge gs i e) (hi : i < gs.flatten.length) : Edge gs (i + widL (gs.flatten.drop i)) i := by
 obtain ⟨az, bs, rfl, rfl, _⟩ := h
 cases bs with
 | nil => simp at hi
 | cons g bs =>
  have hg := hr g (by simp)
  have e1 : (az ++ g :: bs).flatten.drop az.flatten.length = g ++ bs.flatten := by
   rw [List.flatten_append, List.drop_left, List.flatten_cons]
  rw [e1, hg.wid]; exact ⟨az ++ [g], bs, by simp, by simp, .inr ⟨az, g, rfl, rfl⟩⟩
theorem Edge.fit {gs : List (List UInt8)} {i e n : Nat} (h : Edge gs i e) (he : e ≤ n) (hi : n < i) : (fitL n gs).flatten = gs.flatten.take e := by
 obtain ⟨az, bs, rfl, rfl, ⟨rfl, rfl⟩ | ⟨a, g, rfl, rfl⟩⟩ := h
 ·simp at hi
 ·have e1 : (a ++ [g] ++ bs) = a ++ g :: bs := by simp
  rw [List.flatten_append, List.flatten_singleton, List.length_append] at hi; rw [e1, fit_at a g bs n he hi, List.flatten_append, List.take_left]
theorem Edge.le {gs : List (List UInt8)} {i e : Nat} (h : Edge gs i e) : i ≤ gs.flatten.length ∧ e ≤ i := by
 obtain ⟨az, bs, rfl, rfl, ⟨rfl, rfl⟩ | ⟨a, g, rfl, rfl⟩⟩ := h
 ·simp
 ·simp
def freeT (l : List UInt8) : List UInt8 := (pieces l).flatten
def cutT (l : List UInt8) : List UInt8 := (fitL 200 (lstrip (pieces l))).flatten
theorem clean_left (l : List UInt8) : Lib.trimLeftB (freeT l) 32 = (lstrip (pieces l)).flatten := trimLeft_flat _ (pieces_rune l.length l (Nat.le_refl _))
theorem clean_right (l : List UInt8) : Lib.trimRightB (cutT l) 32 = cleanT l :=
 trimRight_flat _ (fun g hg => pieces_rune l.length l (Nat.le_refl _) g (lstrip_sub _ g (fit_sub _ _ g hg)))
theorem lstrip_rune (l : List UInt8) : ∀ g ∈ lstrip (pieces l), Rune g := fun g hg => pieces_rune l.length l (Nat.le_refl _) g (lstrip_sub _ g hg)
theorem pieces_len (l : List UInt8) : (pieces l).flatten.length ≤ l.length := by
 refine val_ind (M := fun l => (pieces l).flatten.length ≤ l.length) (by simp [pieces_nil]) (fun l h ih => ?_) l; rw [List.length_drop] at ih; have hp := wid_pos l; have hle := wid_le l h; rw [pieces_step l h]
 split
 ·rw [List.flatten_cons, List.length_append, List.length_take]; omega
 ·omega
theorem lstrip_len : ∀ gs : List (List UInt8), (lstrip gs).flatten.length ≤ gs.flatten.length
 | [] => by simp [lstrip]
 | g :: r => by
  have ih := lstrip_len r; unfold lstrip at ih ⊢; rw [List.dropWhile_cons]
  split
  ·rw [List.flatten_cons, List.length_append]; omega
  ·exact Nat.le_refl _
theorem clean_iff (l : List UInt8) : cleanT l = l ↔ wordL l = true := ⟨fun h => by rw [← h]; exact clean_isword l, word_stays l⟩
theorem cut_at (c : UInt8) (sep a b : List UInt8) (h : ∀ d ∈ a, d ≠ c) : Lib.cut (a ++ c :: (sep ++ b)) (c :: sep) = (a, b, true) := by
 have hi : Lib.index (a ++ c :: (sep ++ b)) (c :: sep) = a.length := by
  refine Lib.index_first (by simp) ?_ (fun j hj => ?_)
  ·unfold Lib.occAt
   rw [List.drop_left, List.isPrefixOf_iff_prefix]; exact ⟨b, rfl⟩
  ·cases ho : Lib.occAt (a ++ c :: (sep ++ b)) (c :: sep) j with
   | false => rfl
   | true =>
    have := Lib.occAt_head rfl ho; rw [List.getElem?_append_left hj, List.getElem?_eq_getElem hj] at this; exact absurd (Option.some.inj this) (h _ (List.getElem_mem hj))
 unfold Lib.cut; rw [hi, if_pos (by omega), Int.toNat_natCast, List.take_left]
 have e : a ++ c :: (sep ++ b) = (a ++ (c :: sep)) ++ b := by simp
 rw [e]
 congr 1
 rw [List.drop_left' (by simp)]
def partsL (rd : List UInt8 → Option Int) (s : List UInt8) : Option Idt :=
 if (Lib.cut s [60]).2.2 = true ∧ (Lib.cut (Lib.cut s [60]).2.1 [62, 32]).2.2 = true ∧ (Lib.cut (Lib.cut (Lib.cut s [60]).2.1 [62, 32]).2.1 [32]).2.2 = true then
  match rd (Lib.cut (Lib.cut (Lib.cut s [60]).2.1 [62, 32]).2.1 [32]).1 with
  | none => none
  | some v => match zoneR (Lib.cut (Lib.cut (Lib.cut s [60]).2.1 [62, 32]).2.1 [32]).2.1 with
   | none => none
   | some z => some ⟨Lib.trimSuffix (Lib.cut s [60]).1 [32], (Lib.cut (Lib.cut s [60]).2.1 [62, 32]).1, v, z⟩
 else none
theorem suffix_ahead (name : List UInt8) (h : wordL name = true) : Lib.trimSuffix (aheadT name) [32] = name := by
 unfold aheadT
 split
 ·rename_i e; rw [e]; rfl
 ·unfold Lib.trimSuffix Lib.hasSuffix
  rw [if_pos (by rw [List.isSuffixOf_iff_suffix]; exact ⟨name, rfl⟩)]
  simp
theorem parts_print {wr : Int → List UInt8} {rd : List UInt8 → Option Int} (hn : Num wr rd) (hd : ∀ v, 0 ≤ v → v ≤ 1099511627775 → ∀ c ∈ wr v, c ≠ 32) {i : Idt} (h : rightI i = true) : partsL rd (printI wr i) = some i := by
 obtain ⟨h1, h2, h3, h4, h5, h6⟩ := (right_iff i).1 h
 have hp : printI wr i = textT i.name i.email (wr i.whn) (zoneT i.zone) := by unfold printI; rw [if_pos h]
 obtain ⟨name, email, v, z⟩ := i; simp only at h1 h2 h3 h4 h5 h6 hp; have hrd := hn.back v h3 h4; have hbl := hd v h3 h4; have hz := zone_read z h5 h6; rw [hp]; generalize wr v = num at hrd hbl; generalize zoneT z = zt at hz
 have c1 : Lib.cut (textT name email num zt) [60] = (aheadT name, email ++ 62 :: 32 :: (num ++ 32 :: zt), true) := by
  have := cut_at 60 [] (aheadT name) (email ++ 62 :: 32 :: (num ++ 32 :: zt)) (ahead_no 60 (by decide) name (word_no h1).1); unfold textT
  simpa using this
 have c2 : Lib.cut (email ++ 62 :: 32 :: (num ++ 32 :: zt)) [62, 32] = (email, num ++ 32 :: zt, true) := by
  have := cut_at 62 [32] email (num ++ 32 :: zt) (word_no h2).2
  simpa using this
 have c3 : Lib.cut (num ++ 32 :: zt) [32] = (num, zt, true) := by
  have := cut_at 32 [] num zt hbl
  simpa using this
 unfold partsL; rw [c1]; simp only [c2, c3, hrd, hz, suffix_ahead name h1]
 simp
def parseP (wr : Int → List UInt8) (rd : List UInt8 → Option Int) (s : List UInt8) : Option Idt :=
 match partsL rd s with
 | none => none
 | some i => if rightI i = true ∧ printI wr i = s then some i else none
theorem parse_same {wr : Int → List UInt8} {rd : List UInt8 → Option Int} (hn : Num wr rd) (hd : ∀ v, 0 ≤ v → v ≤ 1099511627775 → ∀ c ∈ wr v, c ≠ 32) (s : List UInt8) : parseP wr rd s = parseR wr rd s := by
 cases e : parseP wr rd s with
 | some i =>
  unfold parseP at e
  cases e2 : partsL rd s with
  | none => rw [e2] at e; cases e
  | some j =>
   rw [e2] at e; simp only at e
   by_cases hc : rightI j = true ∧ printI wr j = s
   ·rw [if_pos hc] at e
    obtain rfl := Option.some.inj e; exact (parse_one hn s j hc.1 hc.2).symm
   ·rw [if_neg hc] at e; cases e
 | none =>
  refine (parse_none s (fun i hi hs => ?_)).symm; have hq := parts_print hn hd hi; rw [hs] at hq; unfold parseP at e; rw [hq] at e; simp only at e; rw [if_pos ⟨hi, hs⟩] at e
  cases e
end Go.Proofs.YtnbcbiglkmdepaaGreatDoor
namespace Go.Proofs.YtnbcbiglkmdepaaGreatDoor
def parsQ (un : List UInt8 → Option (List UInt8)) : Nat → List UInt8 → Option (List (List UInt8) × List UInt8)
 | 0, s => some ([], s)
 | n + 1, s => match lineL s parentW with
  | none => some ([], s)
  | some (x, r) => match un x with
   | none => none
   | some p => (parsQ un n r).map fun q => (p :: q.1, q.2)
def thenC {α : Type} (F : List (List UInt8) → List UInt8 → Option α) : Option (List (List UInt8) × List UInt8) → Option α
 | none => none
 | some q => F q.1 q.2
theorem pars_way {α : Type} (un : List UInt8 → Option (List UInt8)) : ∀ (n : Nat) (s : List UInt8) (F : List (List UInt8) → List UInt8 → Option α) (hF : ∀ ps q y, lineL q parentW = some y → F ps q = none),
  thenC F (parsL un n s) = thenC F (parsQ un n s)
 | 0, s, F, hF => by
  unfold parsL parsQ
  cases e : lineL s parentW with
  | none => rfl
  | some y => exact (hF [] s y e).symm
 | n + 1, s, F, hF => by
  unfold parsL parsQ
  cases e : lineL s parentW with
  | none => rfl
  | some y =>
   obtain ⟨x, r⟩ := y; simp only
   cases e2 : un x with
   | none => rfl
   | some p =>
    simp only; have ih := pars_way un n r (fun ps q => F (p :: ps) q) (fun ps q y h => hF (p :: ps) q y h)
    cases e3 : parsL un n r with
    | none =>
     rw [e3] at ih
     cases e4 : parsQ un n r with
     | none => rfl
     | some z => rw [e4] at ih; exact ih
    | some z =>
     rw [e3] at ih
     cases e4 : parsQ un n r with
     | none => rw [e4] at ih; exact ih
     | some z' => rw [e4] at ih; exact ih
theorem parent_no_author {q : List UInt8} {y : List UInt8 × List UInt8} (h : lineL q parentW = some y) : lineL q authorW = none := by
 obtain ⟨x, r⟩ := y; rw [(line_only h).1]; exact line_first 112 97 (by decide) _
theorem parent_no_who {pa : List UInt8 → Option Idt} {q : List UInt8} {y : List UInt8 × List UInt8} (h : lineL q parentW = some y) : whoL pa q = none := by
 unfold whoL; rw [parent_no_author h]
def endC (t : List UInt8) (pa : List UInt8 → Option Idt) (ps : List (List UInt8)) (q : List UInt8) : Option Rcd :=
 match whoL pa q with
 | none => none
 | some (a, c, tx) => if rightR ⟨t, ps, a, c, tx⟩ = true then some ⟨t, ps, a, c, tx⟩ else none
theorem parseC_way (un : List UInt8 → Option (List UInt8)) (pa : List UInt8 → Option Idt) (s : List UInt8) :
  parseC un pa s = match lineL s treeW with
   | none => none
   | some (x, r) => match un x with
    | none => none
    | some t => thenC (endC t pa) (parsQ un 16 r) := by
 unfold parseC
 cases e1 : lineL s treeW with
 | none => rfl
 | some y =>
  obtain ⟨x, r⟩ := y; simp only
  cases e2 : un x with
  | none => rfl
  | some t =>
   simp only; rw [← pars_way un 16 r (endC t pa) (fun ps q y h => by unfold endC; rw [parent_no_who h])]
   cases e3 : parsL un 16 r with
   | none => rfl
   | some z =>
    obtain ⟨ps, q⟩ := z
    rfl
def parsP (un : List UInt8 → Option (List UInt8)) (ps : List (List UInt8)) (n : Nat) (s : List UInt8) : Option (List (List UInt8) × List UInt8) := (parsQ un n s).map fun q => (ps ++ q.1, q.2)
section
variable {un : List UInt8 → Option (List UInt8)}
theorem parsP_nil (n : Nat) (s : List UInt8) : parsP un [] n s = parsQ un n s := by
 unfold parsP
 cases parsQ un n s with
 | none => rfl
 | some q => rfl
theorem parsP_zero (ps : List (List UInt8)) (s : List UInt8) : parsP un ps 0 s = some (ps, s) := by unfold parsP parsQ; simp
theorem parsP_stop {s : List UInt8} (h : lineL s parentW = none) (ps : List (List UInt8)) : ∀ n, parsP un ps n s = some (ps, s)
 | 0 => parsP_zero ps s
 | n + 1 => by unfold parsP parsQ; rw [h]; simp
theorem parsP_bad {s x r : List UInt8} (h : lineL s parentW = some (x, r)) (hu : un x = none) (ps : List (List UInt8)) (n : Nat) : parsP un ps (n + 1) s = none := by unfold parsP parsQ; rw [h]; simp only [hu]; rfl
theorem parsP_next {s x r p : List UInt8} (h : lineL s parentW = some (x, r)) (hu : un x = some p) (ps : List (List UInt8)) (n : Nat) : parsP un ps (n + 1) s = parsP un (ps ++ [p]) n r := by
 unfold parsP; rw [show parsQ un (n + 1) s = (parsQ un n r).map fun q => (p :: q.1, q.2) by rw [parsQ, h]; simp only [hu]]
 cases parsQ un n r with
 | none => rfl
 | some q => simp
end
theorem line_cut (s w : List UInt8) (hw : noEol w) : lineL s w = if w <+: s then (if eolL (s.drop w.length) < (s.drop w.length).length then some ((s.drop w.length).take (eolL (s.drop w.length)), (s.drop w.length).drop (eolL (s.drop w.length) + 1)) else none) else none := by
 by_cases h : w <+: s
 ·rw [if_pos h]
  obtain ⟨t, rfl⟩ := h; rw [List.drop_left]
  by_cases h2 : eolL t < t.length
  ·rw [if_pos h2]
   have h10 : t[eolL t]'h2 = 10 := beq_iff_eq.1 (List.findIdx_getElem (p := fun c : UInt8 => c == 10) (w := h2))
   have hno : noEol (t.take (eolL t)) := by
    intro d hd e; obtain ⟨i, hi, q⟩ := List.mem_iff_getElem.1 hd; rw [List.getElem_take] at q; rw [List.length_take] at hi; have := List.not_of_lt_findIdx (p := fun c : UInt8 => c == 10) (xs := t) (i := i) (by unfold eolL at hi; omega); simp only [beq_eq_false_iff_ne, ne_eq, Bool.not_eq_true] at this; exact this (q.trans e)
   have e : w ++ t = lineT w (t.take (eolL t)) (t.drop (eolL t + 1)) := by
    unfold lineT
    congr 1
    conv => lhs; rw [← List.take_append_drop (eolL t) t, List.drop_eq_getElem_cons h2, h10]
   rw [e]; exact line_print hw hno _
  ·rw [if_neg h2]
   refine line_lone (fun d hd e => ?_) w
   rcases List.mem_append.1 hd with hd | hd
   ·exact hw d hd e
   ·refine h2 ?_
    unfold eolL; exact List.findIdx_lt_length.2 ⟨d, hd, by simp [e]⟩
 ·rw [if_neg h]
  cases e : lineL s w with
  | none => rfl
  | some y =>
   obtain ⟨x, r⟩ := y; exact absurd ⟨x ++ 10 :: r, by rw [(line_only e).1]; rfl⟩ h
theorem cut_eol (s : List UInt8) : Lib.cut s [10] = if eolL s < s.length then (s.take (eolL s), s.drop (eolL s + 1), true) else (s, [], false) := by
 by_cases h2 : eolL s < s.length
 ·rw [if_pos h2]
  have h10 : s[eolL s]'h2 = 10 := beq_iff_eq.1 (List.findIdx_getElem (p := fun c : UInt8 => c == 10) (w := h2))
  have hno : noEol (s.take (eolL s)) := by
   intro d hd e; obtain ⟨i, hi, q⟩ := List.mem_iff_getElem.1 hd; rw [List.getElem_take] at q; rw [List.length_take] at hi; have := List.not_of_lt_findIdx (p := fun c : UInt8 => c == 10) (xs := s) (i := i) (by unfold eolL at hi; omega); simp only [beq_eq_false_iff_ne, ne_eq, Bool.not_eq_true] at this; exact this (q.trans e)
  have e : s = s.take (eolL s) ++ 10 :: ([] ++ s.drop (eolL s + 1)) := by
   conv => lhs; rw [← List.take_append_drop (eolL s) s, List.drop_eq_getElem_cons h2, h10]
   rfl
  conv => lhs; rw [e]
  exact cut_at 10 [] _ _ hno
 ·rw [if_neg h2]
  unfold Lib.cut
  have hi : Lib.index s [10] = -1 := Lib.index_none (fun j hj => by
   cases ho : Lib.occAt s [10] j with
   | false => rfl
   | true =>
    have := Lib.occAt_head rfl ho
    exact absurd (List.findIdx_lt_length.2 ⟨10, List.mem_of_getElem? this, by simp⟩) h2)
  rw [hi, if_neg (by decide)]
theorem byte_zero (l : List UInt8) : (Lib.indexByte l 0 < 0 ∧ ∀ d ∈ l, d ≠ 0) ∨ (0 ≤ Lib.indexByte l 0 ∧ ∃ d ∈ l, d = 0) := by
 induction l with
 | nil => exact .inl ⟨by decide, fun d hd => by cases hd⟩
 | cons b l ih =>
  unfold Lib.indexByte
  by_cases hb : b = 0
  ·subst hb; exact .inr ⟨by simp, 0, by simp, rfl⟩
  ·rw [beq_false_of_ne hb, if_neg (by decide)]
   have hge := Lib.indexByte_ge l 0
   rcases ih with ⟨h1, h2⟩ | ⟨h1, d, hd, e⟩
   ·rw [if_pos (by rw [beq_iff_eq]; omega)]
    refine .inl ⟨by decide, fun d hd => ?_⟩
    rcases List.mem_cons.1 hd with rfl | hd
    ·exact hb
    ·exact h2 d hd
   ·rw [if_neg (by rw [beq_iff_eq]; omega)]
    exact .inr ⟨by omega, d, by simp [hd], e⟩
end Go.Proofs.YtnbcbiglkmdepaaGreatDoor
namespace Go.Proofs.YtnbcbiglkmdepaaGreatDoor
set_option maxRecDepth 20000
open Go.RowKit
theorem eqD_comm (x y : List UInt8) : eqD x y = eqD y x := by unfold eqD; exact Bool.beq_comm
theorem Index_some (b1 o1 c1 n : Nat) (l : List (List UInt8)) (x : List UInt8) (w : World) (hn : n = l.length) (hm : n ≤ 1000000) (h1 : b1 < w.heap.size)
  (hc1 : ∀ k (h : k < l.length) j v, (cellsD l[k])[j]? = some v → w.cell? ⟨b1, o1 + k * 20 + j, none⟩ = some v) (hid : ∀ i ∈ l, i.length = 20) (hx : x.length = 20) :
  Calls Tryz.prog 164 #[.slice (some ⟨b1, o1, none⟩) n c1, .agg (arrD x)] w fun e w' => ∃ r : Int, e = .returned (.int .i64 r) ∧ ((amongD l x = true ∧ 0 ≤ r) ∨ (amongD l x = false ∧ r = -1)) ∧ Below w.heap.size w w' := by
 obtain ⟨A, hA⟩ : ∃ A, arrD x = A := ⟨_, rfl⟩; have HAS := hyd (show A.size = 20 by rw [← hA]; exact arrD_size x hx)
 have E := fun (y : List UInt8) (hy : y.length = 20) u => (show (binOp .eql 24 (.agg (arrD x)) (.agg (arrD y))).run Tryz.prog u = .ok (.bool (eqD y x)) u by rw [eql_arrD x y hx hy u, eqD_comm])
 have HERE := hyd (fun (k : Nat) (hk : k < l.length) h => among_here (x := x) hk h); have NONE := hyd (fun h => among_none (l := l) (x := x) h); obtain ⟨R, hR⟩ : ∃ R, amongD l x = R := ⟨_, rfl⟩; rw [hR] at HERE NONE ⊢; rw [hA] at E ⊢; obtain ⟨q, hq⟩ : ∃ q : List UInt8 → Bool, ∀ y, eqD y x = q y := ⟨_, fun _ => rfl⟩; simp only [hq] at E HERE NONE; have HE := hyd E; have b1 := (Below.refl w.heap.size w).alloc (Nat.le_refl _) (.cells A 24); have HX := hyd (heap_alloc_new w (.cells A 24)); have B1 := hyd b1; have HC1 := hyd hc1; have HID := hyd hid; have HN := hyd hn; have LA := hyd (show (Tryz.prog.info? 24).map (·.size) = some A.toList.length by rw [Array.length_toList]; exact infoD_arr A HAS.out); clear hc1 hid hn b1 hR hA hx hq E
 go_enter Tryz.func164, Tryz.ntmps164
 go_wp2_with fail
 go_loopw [8] (fun i wr => ∃ k : Nat, k ≤ n ∧ i = .int .i64 k ∧ (∀ j (hj : j < l.length), j < k → q l[j] = false) ∧ wr.heap[w.heap.size]? = some (.cells A 24 (0, 0)) ∧ Below w.heap.size w wr) (fun i _ => n - (intOf i).toNat)
 case atStart => exact ⟨0, Nat.zero_le _, rfl, fun j _ h => absurd h (Nat.not_lt_zero _), HX.out, B1.out⟩
 case round =>
  obtain ⟨k, hk, rfl, hno, hx, hbr⟩ := hrel; have HBR := hyd hbr; have HNO := hyd hno; have HXR := hyd hx; clear hbr hno hx
  by_cases hlt : k < n
  ·have hkl : k < l.length := by rw [← HN.out]; exact hlt
   obtain ⟨y, hy⟩ : ∃ y, l[k] = y := ⟨_, rfl⟩; have hidy := HID.out y (by rw [← hy]; exact List.getElem_mem _)
   have r1 : ∀ u, Below wr.heap.size wr u → u.rangeAt b1 (o1 + k * 20) (cellsD y) := fun u hu j v hv =>
    (hu.cell (p := ⟨b1, o1 + k * 20 + j, none⟩) (Nat.lt_of_lt_of_le h1 HBR.out.size)).trans ((HBR.out.cell (p := ⟨b1, o1 + k * 20 + j, none⟩) h1).trans (HC1.out k hkl j v (by rw [hy]; exact hv)))
   have R1 := hyd r1; have LX := hyd (show (Tryz.prog.info? 24).map (·.size) = some (cellsD y).length by rw [cellsD_len y hidy]; exact infoD_n); have E1 := HE.out y hidy; unfold arrD at E1; have HERE1 := hyd (HERE.out k hkl)
   have HNO1 := hyd (fun (e : q y = false) (j : Nat) (hj : j < l.length) (hjk : j < k + 1) => (show q l[j] = false from if h : j < k then HNO.out j hj h else by
    obtain rfl : j = k := by omega
    rw [hy]; exact e))
   rw [hy] at HERE1; have HRW := hyd (row_arrD (w := wr) (A := A) HXR.out); clear r1 hidy hy
   generalize cellsD y = cy at *
   go_wp2_with fail
   refine rgB wr (fun hW => ?_); refine tkH 0 rfl (yieldsIf_load_mid (by kernel_rfl) 24 (.tmp 3) (by kernel_rfl) w.heap.size 0 (by kernel_rfl) A.toList _ (fun u hu => row_keepD HRW.out (lt_of_heap HXR.out) hu) Tryz.underlying24 rfl LA.out) hW ?_; refine tkW 1 rfl hW ?_; refine tkW 2 rfl hW ?_; refine tkW 3 rfl hW ?_; refine tkH 4 rfl (yieldsIf_load_mid (by kernel_rfl) 24 (.tmp 14) (by kernel_rfl) b1 (o1 + k * 20) (by kernel_rfl) cy _ (fun u hu => R1.out u hu) Tryz.underlying24 rfl LX.out) hW ?_; refine tkW 5 rfl hW ?_
   try simp only [Act.put, lgA, lgS, lgZ, lsA, lsZ, lsS]
   refine wpAnyH_done (by kernel_rfl) ?_ _; have HB2 := hyd (HBR.out.trans (hW.mono HBR.out.size)); have HX2 := hyd (heap_keep HXR.out hW); clear hW
   cases hqy : q y with
   | true =>
    go_wp2; go_ret; exact ⟨_, rfl, .inl ⟨HERE1.out hqy, Int.natCast_nonneg _⟩, HB2.out⟩
   | false =>
    go_wp2
    go_roundw
    case rel => exact ⟨k + 1, by omega, by go_num, HNO1.out hqy, HX2.out, HB2.out⟩
    case measure => simp [intOf]; omega
  ·obtain rfl : k = n := by omega
   go_wp2; go_ret; exact ⟨_, rfl, .inr ⟨NONE.out (fun j hj => HNO.out j hj (by rw [HN.out]; exact hj)), rfl⟩, HBR.out⟩
theorem Contains_some (b1 o1 c1 n : Nat) (l : List (List UInt8)) (x : List UInt8) (w : World) (hn : n = l.length) (hm : n ≤ 1000000) (h1 : b1 < w.heap.size)
  (hc1 : ∀ k (h : k < l.length) j v, (cellsD l[k])[j]? = some v → w.cell? ⟨b1, o1 + k * 20 + j, none⟩ = some v) (hid : ∀ i ∈ l, i.length = 20) (hx : x.length = 20) :
  Calls Tryz.prog 140 #[.slice (some ⟨b1, o1, none⟩) n c1, .agg (arrD x)] w fun e w' => e = .returned (.bool (amongD l x)) ∧ Below w.heap.size w w' := by
 obtain ⟨A, hA⟩ : ∃ A, arrD x = A := ⟨_, rfl⟩; have HAS := hyd (show A.size = 20 by rw [← hA]; exact arrD_size x hx); have hbx := (Below.refl w.heap.size w).alloc (Nat.le_refl _) (.cells A 24); have HX := hyd (heap_alloc_new w (.cells A 24)); have C := hyd (fun u (hu : Below w.heap.size w u) => Index_some b1 o1 c1 n l x u hn hm (Nat.lt_of_lt_of_le h1 hu.size) (fun k h j v hv => (hu.cell (p := ⟨b1, o1 + k * 20 + j, none⟩) h1).trans (hc1 k h j v hv)) hid hx); rw [hA] at C ⊢; have B1 := hyd hbx; obtain ⟨R, hR⟩ : ∃ R, amongD l x = R := ⟨_, rfl⟩; rw [hR] at C ⊢; clear hn hc1 hid hbx hA hx hR
 go_enter Tryz.func140, Tryz.ntmps140
 go_wp2_with (first
  | (with_reducible refine wpList_load_all 24 (.tmp 3) rfl (by kernel_rfl) w.heap.size A 24 (0, 0) rfl HX.out _ Tryz.underlying24 rfl (infoD_arr A HAS.out) ?_)
  | fail)
 refine (C.out _ B1.out).mono ?_; rintro e w2 ⟨r, rfl, hr, hb2⟩; have HB2 := hyd (B1.out.trans (hb2.mono B1.out.size)); clear hb2 C
 rcases hr with ⟨rfl, hr⟩ | ⟨rfl, rfl⟩
 ·have g1 : r ≥ 0 := hr
  clear hr; go_wp2; go_ret; exact ⟨rfl, HB2.out⟩
 ·go_wp2
  go_ret; exact ⟨rfl, HB2.out⟩
def textR (x : List UInt8) : Bool := decide (x.length ≤ 32768) && decide (∀ d ∈ x, d ≠ 0)
theorem rightText9_is (x : List UInt8) (w : World) :
  Calls Tryz.prog 109 #[.string ⟨x.toArray⟩] w fun e w' => e = .returned (.bool (textR x)) ∧ Below w.heap.size w w' := by
 have C := fun u => Tryz.strings_IndexByte ⟨x.toArray⟩ 0 u
 have e0 : Lib.indexByte (⟨x.toArray⟩ : ByteArray).data.toList (0 : Int).toNat.toUInt8 = Lib.indexByte x 0 := rfl; rw [e0] at C; have HZ := hyd (byte_zero x); have zx := size_toArray x; obtain ⟨r, hr⟩ : ∃ r, Lib.indexByte x 0 = r := ⟨_, rfl⟩; rw [hr] at C HZ; unfold textR; clear e0 hr; obtain ⟨p, hp⟩ : ∃ p, decide (∀ d ∈ x, d ≠ 0) = p := ⟨_, rfl⟩; have HP := hyd hp; rw [hp]; clear hp
 by_cases k1 : x.length ≤ 32768
 ·have g1 : (x.length : Int) ≤ 32768 := by omega
  rw [decide_eq_true k1, Bool.true_and]
  rcases HZ.out with ⟨hz, hno⟩ | ⟨hz, d, hd, hd0⟩
  ·have q : p = true := by rw [← HP.out]; exact decide_eq_true hno
   subst q; clear hno k1
   generalize (⟨x.toArray⟩ : ByteArray) = X at *
   go_enter Tryz.func109, Tryz.ntmps109
   go_wp2_with fail
   refine (C _).mono ?_; rintro e w2 ⟨rfl, rfl⟩; go_wp2; go_ret; exact ⟨rfl, Below.refl _ _⟩
  ·have q : p = false := by rw [← HP.out]; exact decide_eq_false (fun h => h d hd hd0)
   subst q; have g2 : decide (r < 0) = false := decide_eq_false (by omega); clear hz hd hd0 k1
   generalize (⟨x.toArray⟩ : ByteArray) = X at *
   go_enter Tryz.func109, Tryz.ntmps109
   go_wp2_with fail
   refine (C _).mono ?_; rintro e w2 ⟨rfl, rfl⟩; go_wp2; go_ret; exact ⟨rfl, Below.refl _ _⟩
 ·have g1 : ¬ (x.length : Int) ≤ 32768 := by omega
  rw [decide_eq_false k1, Bool.false_and]; clear k1
  generalize (⟨x.toArray⟩ : ByteArray) = X at *
  go_enter Tryz.func109, Tryz.ntmps109
  go_wp2_with fail
  go_ret; exact ⟨rfl, Below.refl _ _⟩
theorem rightParents9_is (a1 : Option Addr) (n c1 : Nat) (l : List (List UInt8)) (w : World) (hit : IdsAt w a1 l) (hn : n = l.length) (hm : n ≤ 1000000) (hnc : n ≤ c1) (hid : ∀ i ∈ l, i.length = 20) :
  Calls Tryz.prog 107 #[.slice a1 n c1] w fun e w' => e = .returned (.bool (decide (n ≤ 16) && parentsR l)) ∧ Below w.heap.size w w' := by
 by_cases k1 : n ≤ 16
 case neg =>
  have g1 : (n : Int) > 16 := by omega
  rw [decide_eq_false k1, Bool.false_and]; clear k1 hit hn hm hnc hid
  go_enter Tryz.func107, Tryz.ntmps107
  go_wp2; go_ret; exact ⟨rfl, Below.refl _ _⟩
 have g1 : decide ((n : Int) > 16) = false := decide_eq_false (by omega); have g1b : decide (16 < (n : Int)) = false := decide_eq_false (by omega)
 have g1c : ¬ (n : Int) > 16 := by omega
 rw [decide_eq_true k1, Bool.true_and]; obtain ⟨z, hz, hzs, hzv, hzb, hz1⟩ := zId_any; have HZS := hyd hzs; have HZB := hyd hzb; have HZ := hyd hz; have HN := hyd hn; have HIT := hyd hit; have HID := hyd hid; have HNC := hyd hnc; have BAD := hyd (fun (k : Nat) (hk : k < l.length) h => parents_bad (ps := l) k hk h); have GOOD := hyd (fun h => (parentsR_iff l).2 h); obtain ⟨R, hR⟩ : ∃ R, parentsR l = R := ⟨_, rfl⟩; rw [hR] at BAD GOOD ⊢; clear hit hid hnc hn hz hzs hz1 hzb hR
 go_enter Tryz.func107, Tryz.ntmps107
 go_wp2_with fail
 go_loopw [10] (fun i wr => ∃ k : Nat, k ≤ n ∧ i = .int .i64 k ∧ (∀ j (hj : j < l.length), j < k → l[j] ≠ idZ ∧ l[j] ∉ l.take j) ∧ Below w.heap.size w wr) (fun i _ => n - (intOf i).toNat)
 case atStart => exact ⟨0, Nat.zero_le _, rfl, fun j _ h => absurd h (Nat.not_lt_zero _), Below.refl _ _⟩
 case round =>
  obtain ⟨k, hk, rfl, hok, hbr⟩ := hrel; have HBR := hyd hbr; have HOK := hyd hok; clear hbr hok
  by_cases hlt : k < n
  ·have hkl : k < l.length := by rw [← HN.out]; exact hlt
   obtain ⟨b, o, rfl, hbl, hc⟩ := HIT.out (by omega); have HC := hyd hc; have HBL := hyd hbl; clear hc hbl; obtain ⟨y, hy⟩ : ∃ y, l[k] = y := ⟨_, rfl⟩; have hidy := HID.out y (by rw [← hy]; exact List.getElem_mem _); have RY := hyd (show wr.rangeAt b (o + k * 20) (cellsD y) from fun j v hv => (HBR.out.cell (p := ⟨b, o + k * 20 + j, none⟩) HBL.out).trans (HC.out k hkl j v (by rw [hy]; exact hv))); have LX := hyd (show (Tryz.prog.info? 24).map (·.size) = some (cellsD y).length by rw [cellsD_len y hidy]; exact infoD_n); have LXA := hyd (show (Tryz.prog.info? 24).map (·.size) = some (cellsD y).toArray.size by rw [List.size_toArray, cellsD_len y hidy]; exact infoD_n); have SXA := hyd (show (cellsD y).toArray.size = z.size by rw [List.size_toArray, cellsD_len y hidy, HZS.out]); have OXA := hyd (cellsD_one y)
   have EY := fun u => eql_arrD y idZ hidy rfl u
   rw [← HZ.out] at EY; unfold arrD at EY
   have gk : (k : Int) ≤ (c1 : Int) := by have := HNC.out; omega
   have CI0 := hyd (fun u (hu : Below w.heap.size w u) => Contains_some b o c1 k (l.take k) y u (by rw [List.length_take]; omega) (by omega) (Nat.lt_of_lt_of_le HBL.out hu.size) (fun q hq j v hv => (hu.cell (p := ⟨b, o + q * 20 + j, none⟩) HBL.out).trans (HC.out q (by rw [List.length_take] at hq; omega) j v (by rw [List.getElem_take] at hv; exact hv))) (fun i hi => HID.out i (List.mem_of_mem_take hi)) hidy); unfold arrD at CI0
   cases hyz : eqD y idZ with
   | true =>
    rw [hyz] at EY; have hr := BAD.out k hkl (.inl (by rw [hy]; exact (eqD_iff _ _).1 hyz)); subst hr; clear hyz BAD GOOD CI0 hy hidy
    generalize cellsD y = cy at *
    go_wp2_with (first
     | (with_reducible refine wpList_load_mid rfl 24 (.tmp 13) rfl b (o + k * 20) rfl cy _ RY.out Tryz.underlying24 rfl LX.out ?_)
     | (with_reducible refine wpList_store_all rfl 24 (.tmp 4) (.tmp 14) rfl wr.heap.size cy.toArray rfl rfl 24 z (heap_alloc_new wr _) LXA.out SXA.out OXA.out ?_)
     | fail)
    intro w2 hg2 ho2 hs2; have HB2 := hyd (((Below.refl wr.heap.size wr).alloc (Nat.le_refl _) (.cells z 24)).trans (ho2.below (Nat.le_refl _) (by simp))); have HP := hyd (fun u (hu : Below w2.heap.size w2 u) => row_keepD (cs := cy) (row_arrD hg2) (lt_of_heap hg2) hu); clear ho2 hs2 hg2
    go_wp2_with fail
    refine rgB w2 (fun hd => ?_); refine tkH 0 rfl (yieldsIf_load_mid (by kernel_rfl) 24 (.tmp 4) (by kernel_rfl) wr.heap.size 0 (by kernel_rfl) cy _ (fun u hu => HP.out u hu) Tryz.underlying24 rfl LX.out) hd ?_; refine tkH 1 rfl (yields_build0 (by kernel_rfl) 24 rfl _ HZB.out) hd ?_; refine tkW 2 rfl hd ?_; refine tkW 3 rfl hd ?_; refine tkU 4 rfl hd ?_; refine tkU 5 rfl hd ?_; refine tkU 6 rfl hd ?_; refine tkU 7 rfl hd ?_; refine tkU 8 rfl hd ?_; refine tkW 9 rfl hd ?_
    try simp only [Act.put, lgA, lgS, lgZ, lsA, lsZ, lsS]
    refine wpAnyH_done (by kernel_rfl) ?_ _; have HB5 := hyd (HBR.out.trans ((HB2.out.trans (hd.mono HB2.out.size)).mono HBR.out.size)); clear hd; go_wp2; go_ret; exact ⟨rfl, HB5.out⟩
   | false =>
    rw [hyz] at EY
    cases hin : amongD (l.take k) y with
    | true =>
     rw [hin] at CI0; have hr := BAD.out k hkl (.inr (by rw [hy]; exact (among_iff _ _).1 hin)); subst hr; clear hyz hin BAD GOOD hy hidy
     generalize cellsD y = cy at *
     go_wp2_with (first
      | (with_reducible refine wpList_load_mid rfl 24 (.tmp 13) rfl b (o + k * 20) rfl cy _ RY.out Tryz.underlying24 rfl LX.out ?_)
      | (with_reducible refine wpList_store_all rfl 24 (.tmp 4) (.tmp 14) rfl wr.heap.size cy.toArray rfl rfl 24 z (heap_alloc_new wr _) LXA.out SXA.out OXA.out ?_)
      | fail)
     intro w2 hg2 ho2 hs2; have HB2 := hyd (((Below.refl wr.heap.size wr).alloc (Nat.le_refl _) (.cells z 24)).trans (ho2.below (Nat.le_refl _) (by simp))); have HP := hyd (fun u (hu : Below w2.heap.size w2 u) => row_keepD (cs := cy) (row_arrD hg2) (lt_of_heap hg2) hu); have CI := hyd (fun u (hu : Below w2.heap.size w2 u) => CI0.out u (HBR.out.trans ((HB2.out.trans (hu.mono HB2.out.size)).mono HBR.out.size))); clear ho2 hs2 hg2 CI0
     go_wp2_with fail
     refine rgB w2 (fun hd => ?_); refine tkH 0 rfl (yieldsIf_load_mid (by kernel_rfl) 24 (.tmp 4) (by kernel_rfl) wr.heap.size 0 (by kernel_rfl) cy _ (fun u hu => HP.out u hu) Tryz.underlying24 rfl LX.out) hd ?_; refine tkH 1 rfl (yields_build0 (by kernel_rfl) 24 rfl _ HZB.out) hd ?_; refine tkW 2 rfl hd ?_; refine tkW 3 rfl hd ?_; refine tkW 4 rfl hd ?_; refine tkW 5 rfl hd ?_; refine tkW 6 rfl hd ?_; refine tkH 7 rfl (yieldsIf_load_mid (by kernel_rfl) 24 (.tmp 4) (by kernel_rfl) wr.heap.size 0 (by kernel_rfl) cy _ (fun u hu => HP.out u hu) Tryz.underlying24 rfl LX.out) hd ?_; refine rdH 8 rfl (fun K hK => ?_)
     go_simp
     refine (CI.out _ hd).mono ?_; rintro e u1 ⟨rfl, hI⟩; have hH := hd.trans (hI.mono hd.size); clear hd hI; refine hK.out _ _ hH (fun hd => ?_); clear hK K
     try simp only [Act.put, lsA, lsZ, lsS]
     refine tkW 9 rfl hd ?_
     try simp only [Act.put, lgA, lgS, lgZ, lsA, lsZ, lsS]
     refine wpAnyH_done (by kernel_rfl) ?_ _; have HB5 := hyd (HBR.out.trans ((HB2.out.trans (hd.mono HB2.out.size)).mono HBR.out.size)); clear hd; go_wp2; go_ret; exact ⟨rfl, HB5.out⟩
    | false =>
     rw [hin] at CI0
     have HOK1 := hyd (fun (j : Nat) (hj : j < l.length) (hjk : j < k + 1) => (show l[j] ≠ idZ ∧ l[j] ∉ l.take j from if h : j < k then HOK.out j hj h else by
      obtain rfl : j = k := by omega
      rw [hy]
      exact ⟨fun e => (by rw [e, eqD_same] at hyz; cases hyz), fun e => (by rw [(among_iff _ _).2 e] at hin; cases hin)⟩))
     clear hyz hin BAD GOOD hy hidy
     generalize cellsD y = cy at *
     go_wp2_with (first
      | (with_reducible refine wpList_load_mid rfl 24 (.tmp 13) rfl b (o + k * 20) rfl cy _ RY.out Tryz.underlying24 rfl LX.out ?_)
      | (with_reducible refine wpList_store_all rfl 24 (.tmp 4) (.tmp 14) rfl wr.heap.size cy.toArray rfl rfl 24 z (heap_alloc_new wr _) LXA.out SXA.out OXA.out ?_)
      | fail)
     intro w2 hg2 ho2 hs2; have HB2 := hyd (((Below.refl wr.heap.size wr).alloc (Nat.le_refl _) (.cells z 24)).trans (ho2.below (Nat.le_refl _) (by simp))); have HP := hyd (fun u (hu : Below w2.heap.size w2 u) => row_keepD (cs := cy) (row_arrD hg2) (lt_of_heap hg2) hu); have CI := hyd (fun u (hu : Below w2.heap.size w2 u) => CI0.out u (HBR.out.trans ((HB2.out.trans (hu.mono HB2.out.size)).mono HBR.out.size))); clear ho2 hs2 hg2 CI0
     go_wp2_with fail
     refine rgB w2 (fun hd => ?_); refine tkH 0 rfl (yieldsIf_load_mid (by kernel_rfl) 24 (.tmp 4) (by kernel_rfl) wr.heap.size 0 (by kernel_rfl) cy _ (fun u hu => HP.out u hu) Tryz.underlying24 rfl LX.out) hd ?_; refine tkH 1 rfl (yields_build0 (by kernel_rfl) 24 rfl _ HZB.out) hd ?_; refine tkW 2 rfl hd ?_; refine tkW 3 rfl hd ?_; refine tkW 4 rfl hd ?_; refine tkW 5 rfl hd ?_; refine tkW 6 rfl hd ?_; refine tkH 7 rfl (yieldsIf_load_mid (by kernel_rfl) 24 (.tmp 4) (by kernel_rfl) wr.heap.size 0 (by kernel_rfl) cy _ (fun u hu => HP.out u hu) Tryz.underlying24 rfl LX.out) hd ?_; refine rdH 8 rfl (fun K hK => ?_)
     go_simp
     refine (CI.out _ hd).mono ?_; rintro e u1 ⟨rfl, hI⟩; have hH := hd.trans (hI.mono hd.size); clear hd hI; refine hK.out _ _ hH (fun hd => ?_); clear hK K
     try simp only [Act.put, lsA, lsZ, lsS]
     refine tkW 9 rfl hd ?_
     try simp only [Act.put, lgA, lgS, lgZ, lsA, lsZ, lsS]
     refine wpAnyH_done (by kernel_rfl) ?_ _; have HB5 := hyd (HBR.out.trans ((HB2.out.trans (hd.mono HB2.out.size)).mono HBR.out.size)); clear hd; go_wp2
     go_roundw
     case rel => exact ⟨k + 1, by omega, by go_num, HOK1.out, HB5.out⟩
     case measure => simp [intOf]; omega
  ·obtain rfl : k = n := by omega
   have hr := GOOD.out (fun j hj => HOK.out j hj (by rw [HN.out]; exact hj)); subst hr; clear BAD GOOD; go_wp2; go_ret; exact ⟨rfl, HBR.out⟩
theorem ext_upto (l : List UInt8) (k : Nat) : (⟨l.toArray⟩ : ByteArray).extract 0 k = ⟨(l.take k).toArray⟩ := Lib.extract_upto _ k
theorem ext_from (l : List UInt8) (k n : Nat) (hn : n = l.length) : (⟨l.toArray⟩ : ByteArray).extract k n = ⟨(l.drop k).toArray⟩ := by
 have := Lib.extract_from ⟨l.toArray⟩ k; rw [size_toArray] at this; rw [hn, this]
theorem barred_is (r : Nat) (hr : r ≤ 2147483647) (w : World) :
  Calls Tryz.prog 204 #[.int .i32 r] w fun e w' => e = .returned (.bool (barR r)) ∧ w = w' := by
 by_cases h0 : r = 0
 ·subst h0
  go_enter Tryz.func204, Tryz.ntmps204
  go_wp2; go_ret; exact ⟨rfl, rfl⟩
 have f0 : ((r : Int) == 0) = false := by simp; omega
 by_cases h1 : r = 10
 ·subst h1
  go_enter Tryz.func204, Tryz.ntmps204
  go_wp2; go_ret; exact ⟨rfl, rfl⟩
 have f1 : ((r : Int) == 10) = false := by simp; omega
 by_cases h2 : r = 60
 ·subst h2
  go_enter Tryz.func204, Tryz.ntmps204
  go_wp2; go_ret; exact ⟨rfl, rfl⟩
 have f2 : ((r : Int) == 60) = false := by simp; omega
 by_cases h3 : r = 62
 ·subst h3
  go_enter Tryz.func204, Tryz.ntmps204
  go_wp2; go_ret; exact ⟨rfl, rfl⟩
 have f3 : ((r : Int) == 62) = false := by simp; omega
 have e : barR r = false := by unfold barR; simp; omega
 rw [e]; clear h0 h1 h2 h3 e
 go_enter Tryz.func204, Tryz.ntmps204
 go_wp2; go_ret; exact ⟨rfl, rfl⟩
theorem rightZone_is (z : Int) (w : World) :
  Calls Tryz.prog 142 #[.int .i64 z] w fun e w' => e = .returned (.bool (decide (-840 ≤ z) && decide (z ≤ 840))) ∧ w = w' := by
 by_cases h0 : -840 ≤ z
 ·by_cases h1 : z ≤ 840
  ·go_enter Tryz.func142, Tryz.ntmps142
   go_wp2; go_ret; exact ⟨ret_bool (by simp [h0, h1]), rfl⟩
  ·go_enter Tryz.func142, Tryz.ntmps142
   go_wp2; go_ret; exact ⟨ret_bool (by simp [h0, h1]), rfl⟩
 ·go_enter Tryz.func142, Tryz.ntmps142
  go_wp2; go_ret; exact ⟨ret_bool (by rw [decide_eq_false (show ¬ -840 ≤ z by omega)]; rfl), rfl⟩
set_option maxRecDepth 100000 in
theorem prefix_long (l : List UInt8) (gs : List (List UInt8)) (hl : l = gs.flatten) (hr : ∀ g ∈ gs, Rune g) (hn : l.length ≤ 1000000) (h200 : 200 < l.length) (w : World) :
  Calls Tryz.prog 187 #[.string ⟨l.toArray⟩, .int .i64 200] w fun e w' => e = .returned (.string ⟨(fitL 200 gs).flatten.toArray⟩) ∧ Below w.heap.size w w' := by
 have RI := hyd (rune_int l); have hsz := size_toArray l; have DD := hyd (dec_drop l); have EX := hyd (ext_upto l); obtain ⟨s, hs⟩ : ∃ s : ByteArray, s = ⟨l.toArray⟩ := ⟨_, rfl⟩; rw [← hs] at RI hsz DD EX ⊢; clear hs; have FIT := hyd (fun i e h => @Edge.fit gs i e 200 h); have NX := hyd (fun i e h => @Edge.next gs hr i e h); have LE := hyd (fun i e h => @Edge.le gs i e h); rw [← hl] at FIT NX LE
 have hlong : ((s.size : Int) ≤ 200) = False := by simp; omega
 have it0 := World.iter_heap w s 0; have b0 := (Below.refl w.heap.size w).alloc (Nat.le_refl _) (.stringIter s 0); have E0 := hyd (Edge.start gs); clear hl hr
 go_enter Tryz.func187, Tryz.ntmps187
 go_wp2_with fail
 go_loopw [5] (fun ve wr => ∃ i e : Nat, Edge gs i e ∧ e ≤ 200 ∧ ve = .int .i64 e ∧ wr.heap[w.heap.size]? = some (.stringIter s i) ∧ Below w.heap.size w wr) (fun _ wr => l.length - wr.iterPos w.heap.size)
 case atStart => exact ⟨0, 0, E0.out, by omega, rfl, it0, b0⟩
 case round =>
  clear it0 b0 E0; obtain ⟨i, e, hed, he, rfl, hit, hbr⟩ := hrel; obtain ⟨hle1, hle2⟩ := LE.out i e hed; have ED := hyd hed; clear hed
  have hes : (e : Int) ≤ (s.size : Int) := by omega
  have hes2 : (e : Int) ≤ (l.length : Int) := by omega
  by_cases hlt : i < l.length
  ·have hnx := fun ty => Lib.run_next_any_at (P := Tryz.prog) wr w.heap.size s i ty hit (by omega)
   obtain ⟨r, k, hr, hk, hr0, hr1, hk1, hkl, hw⟩ := RI.out i hlt; have HK := hyd (show k = widL (l.drop i) by rw [hk, DD.out]; rfl); rw [← hr, ← hk] at hnx; clear hr hk hw; have HP := hyd (show wr.iterPos w.heap.size = i by simp [World.iterPos, hit]); have hit2 := Lib.iterAt_heap wr w.heap.size s i (i + k) hit; have hbr2 := Lib.below_iterAt hbr (k := w.heap.size) (Nat.le_refl _) s (i + k); generalize wr.iterAt w.heap.size s (i + k) = w3 at hnx hit2 hbr2; clear hit hbr
   by_cases c1 : 200 < i
   ·have hc1 : ((i : Int) > 200) = True := by simp; omega
    go_wp2; go_ret; exact ⟨by rw [EX.out, FIT.out i e ED.out he c1]; rfl, hbr2⟩
   ·have hc1 : ((i : Int) > 200) = False := by simp; omega
    go_wp2
    go_roundw
    case rel => exact ⟨i + k, i, by rw [HK.out]; exact NX.out i e ED.out hlt, by omega, rfl, hit2, hbr2⟩
    case measure =>
     rw [HP.out, show World.iterPos _ w.heap.size = i + k by simp [World.iterPos, hit2]]
     omega
  ·obtain rfl : i = l.length := by omega
   have hnx := fun ty => Lib.run_next_end_at (P := Tryz.prog) wr w.heap.size s l.length ty hit (by omega)
   go_wp2; go_ret; exact ⟨by rw [EX.out, FIT.out l.length e ED.out he h200]; rfl, hbr⟩
theorem prefix_is (l : List UInt8) (gs : List (List UInt8)) (hl : l = gs.flatten) (hr : ∀ g ∈ gs, Rune g) (hn : l.length ≤ 1000000) (w : World) :
  Calls Tryz.prog 187 #[.string ⟨l.toArray⟩, .int .i64 200] w fun e w' => e = .returned (.string ⟨(fitL 200 gs).flatten.toArray⟩) ∧ Below w.heap.size w w' := by
 by_cases h200 : 200 < l.length
 ·exact prefix_long l gs hl hr hn h200 w
 ·have hsz := size_toArray l
  have key : (fitL 200 gs).flatten = l := by rw [fit_all gs 200 (by rw [← hl]; omega), ← hl]
  rw [key]; clear hl hr key; obtain ⟨s, hs⟩ : ∃ s : ByteArray, s = ⟨l.toArray⟩ := ⟨_, rfl⟩; rw [← hs] at hsz ⊢; clear hs
  have hshort : (s.size : Int) ≤ 200 := by omega
  have hshort2 : (l.length : Int) ≤ 200 := by omega
  go_enter Tryz.func187, Tryz.ntmps187
  go_wp2; go_ret; exact ⟨rfl, Below.refl _ _⟩
end Go.Proofs.YtnbcbiglkmdepaaGreatDoor
namespace Go.Proofs
set_option maxRecDepth 20000
open Go.Shelf Go.RowKit
def Tryz.bwRen : Go.Shelf.Ren := ⟨fun | 167 => 223 | 240 => 224 | 276 => 235 | n => n, fun | 0 => 0 | 4 => 4 | 5 => 5 | 9 => 9 | 20 => 20 | 37 => 32 | 70 => 251 | 72 => 253 | 75 => 256 | 80 => 259 | 164 => 284 | n => n, fun | n => n⟩
theorem Tryz.bw240 : Go.Proofs.Lays.n240 Tryz.prog Tryz.bwRen := {
 mixed := by kernel_rfl
 f240 := Tryz.func224.trans (congrArg some (by kernel_rfl))
 f276 := Tryz.func235.trans (congrArg some (by kernel_rfl))
 t0 := Tryz.underlying0
 a0 := Tryz.isAgg0
 z0 := Tryz.sizeOf0
 v0 := Tryz.zeroValue0
 t4 := Tryz.underlying4
 a4 := Tryz.isAgg4
 z4 := Tryz.sizeOf4
 v4 := Tryz.zeroValue4
 t9 := Tryz.underlying9
 a9 := Tryz.isAgg9
 z9 := Tryz.sizeOf9
 v9 := Tryz.zeroValue9
 t20 := Tryz.underlying20
 a20 := Tryz.isAgg20
 z20 := Tryz.sizeOf20
 v20 := Tryz.zeroValue20
 t70 := Tryz.underlying251
 a70 := Tryz.isAgg251
 z70 := Tryz.sizeOf251
 v70 := Tryz.zeroValue251
 t72 := Tryz.underlying253
 a72 := Tryz.isAgg253
 z72 := Tryz.sizeOf253
 v72 := Tryz.zeroValue253
 t164 := Tryz.underlying284
 a164 := Tryz.isAgg284
 z164 := Tryz.sizeOf284
 v164 := Tryz.zeroValue284 }
theorem Tryz.bw167 : Go.Proofs.Lays.n167 Tryz.prog Tryz.bwRen := {
 mixed := by kernel_rfl
 f167 := Tryz.func223.trans (congrArg some (by kernel_rfl))
 f240 := Tryz.bw240.f240
 f276 := Tryz.bw240.f276
 t0 := Tryz.underlying0
 a0 := Tryz.isAgg0
 z0 := Tryz.sizeOf0
 v0 := Tryz.zeroValue0
 t4 := Tryz.underlying4
 a4 := Tryz.isAgg4
 z4 := Tryz.sizeOf4
 v4 := Tryz.zeroValue4
 t5 := Tryz.underlying5
 a5 := Tryz.isAgg5
 z5 := Tryz.sizeOf5
 v5 := Tryz.zeroValue5
 t9 := Tryz.underlying9
 a9 := Tryz.isAgg9
 z9 := Tryz.sizeOf9
 v9 := Tryz.zeroValue9
 t20 := Tryz.underlying20
 a20 := Tryz.isAgg20
 z20 := Tryz.sizeOf20
 v20 := Tryz.zeroValue20
 t37 := Tryz.underlying32
 a37 := Tryz.isAgg32
 z37 := Tryz.sizeOf32
 v37 := Tryz.zeroValue32
 t70 := Tryz.underlying251
 a70 := Tryz.isAgg251
 z70 := Tryz.sizeOf251
 v70 := Tryz.zeroValue251
 t72 := Tryz.underlying253
 a72 := Tryz.isAgg253
 z72 := Tryz.sizeOf253
 v72 := Tryz.zeroValue253
 t75 := Tryz.underlying256
 a75 := Tryz.isAgg256
 z75 := Tryz.sizeOf256
 v75 := Tryz.zeroValue256
 t164 := Tryz.underlying284
 a164 := Tryz.isAgg284
 z164 := Tryz.sizeOf284
 v164 := Tryz.zeroValue284 }
theorem Tryz.bwExtra : Builder.Extra Tryz.prog Tryz.bwRen := {
 sizeBuilder := by kernel_rfl
 liesBuilder := by kernel_rfl
 t5 := Tryz.underlying5
 a5 := Tryz.isAgg5
 z5 := Tryz.sizeOf5
 v5 := Tryz.zeroValue5
 infoByte := by kernel_rfl
 cellsByte := by kernel_rfl
 sizeByte := by kernel_rfl
 neB5 := by decide }
theorem Tryz.Builder_WriteByte_k (B b : Nat) (bs : List Value) (c : Int) (w : World) (h : Lib.IsBuilderF 253 5 B b bs w) (hlen : bs.length + 1 ≤ 140737488355328) (hBw : B ≤ w.heap.size) :
  Calls Tryz.prog 223 #[.pointer (some ⟨b, 0, none⟩), .int .u8 c] w fun e w' => e = .returned .nilIface ∧ (Lib.BuilderAtF 253 5 B b (.pointer (some ⟨b, 0, none⟩)) (bs ++ [.int .u8 c]) w' ∧ Below B w w' ∧ Lib.OthersKept 5 (some b) w w') := Any.Builder_WriteByte_k Tryz.bw167 Tryz.bwExtra B b bs c w h hlen hBw
end Go.Proofs
namespace Go.Proofs
open Go.Shelf Go.RowKit
def Tryz.bsRen : Go.Shelf.Ren := ⟨fun | 166 => 221 | 240 => 224 | 276 => 235 | n => n, fun | 0 => 0 | 3 => 3 | 4 => 4 | 5 => 5 | 9 => 9 | 20 => 20 | 37 => 32 | 70 => 251 | 72 => 253 | 75 => 256 | 80 => 259 | 164 => 284 | n => n, fun | n => n⟩
theorem Tryz.bs166 : Go.Proofs.Lays.n166 Tryz.prog Tryz.bsRen := {
 mixed := by kernel_rfl
 f166 := Tryz.func221.trans (congrArg some (by kernel_rfl))
 f240 := Tryz.func224.trans (congrArg some (by kernel_rfl))
 f276 := Tryz.func235.trans (congrArg some (by kernel_rfl))
 t0 := Tryz.underlying0
 a0 := Tryz.isAgg0
 z0 := Tryz.sizeOf0
 v0 := Tryz.zeroValue0
 t3 := Tryz.underlying3
 a3 := Tryz.isAgg3
 z3 := Tryz.sizeOf3
 v3 := Tryz.zeroValue3
 t4 := Tryz.underlying4
 a4 := Tryz.isAgg4
 z4 := Tryz.sizeOf4
 v4 := Tryz.zeroValue4
 t9 := Tryz.underlying9
 a9 := Tryz.isAgg9
 z9 := Tryz.sizeOf9
 v9 := Tryz.zeroValue9
 t20 := Tryz.underlying20
 a20 := Tryz.isAgg20
 z20 := Tryz.sizeOf20
 v20 := Tryz.zeroValue20
 t37 := Tryz.underlying32
 a37 := Tryz.isAgg32
 z37 := Tryz.sizeOf32
 v37 := Tryz.zeroValue32
 t70 := Tryz.underlying251
 a70 := Tryz.isAgg251
 z70 := Tryz.sizeOf251
 v70 := Tryz.zeroValue251
 t72 := Tryz.underlying253
 a72 := Tryz.isAgg253
 z72 := Tryz.sizeOf253
 v72 := Tryz.zeroValue253
 t75 := Tryz.underlying256
 a75 := Tryz.isAgg256
 z75 := Tryz.sizeOf256
 v75 := Tryz.zeroValue256
 t164 := Tryz.underlying284
 a164 := Tryz.isAgg284
 z164 := Tryz.sizeOf284
 v164 := Tryz.zeroValue284 }
theorem Tryz.bsExtra : Builder.Extra Tryz.prog Tryz.bsRen := {
 sizeBuilder := by kernel_rfl
 liesBuilder := by kernel_rfl
 t5 := Tryz.underlying5
 a5 := Tryz.isAgg5
 z5 := Tryz.sizeOf5
 v5 := Tryz.zeroValue5
 infoByte := by kernel_rfl
 cellsByte := by kernel_rfl
 sizeByte := by kernel_rfl
 neB5 := by decide }
theorem Tryz.Builder_WriteString_k (B b : Nat) (bs : List Value) (s : ByteArray) (w : World) (h : Lib.IsBuilderF 253 5 B b bs w) (hlen : bs.length + s.size ≤ 140737488355328) (hBw : B ≤ w.heap.size) :
  Calls Tryz.prog 221 #[.pointer (some ⟨b, 0, none⟩), .string s] w fun e w' => e = .returned (.tuple #[.int .i64 s.size, .nilIface]) ∧ (Lib.BuilderAtF 253 5 B b (.pointer (some ⟨b, 0, none⟩)) (bs ++ Lib.strCells s) w' ∧ Below B w w' ∧ Lib.OthersKept 5 (some b) w w') := Any.Builder_WriteString_k Tryz.bs166 Tryz.bsExtra B b bs s w h hlen hBw
end Go.Proofs
namespace Go.Proofs
open Go.Shelf Go.RowKit
def Tryz.brRen : Go.Shelf.Ren := ⟨fun | 168 => 205 | 240 => 224 | 242 => 225 | 276 => 235 | 278 => 236 | n => n, fun | 0 => 0 | 3 => 3 | 4 => 4 | 5 => 5 | 9 => 9 | 20 => 20 | 21 => 21 | 37 => 32 | 46 => 136 | 51 => 123 | 70 => 251 | 72 => 253 | 75 => 256 | 80 => 259 | 164 => 284 | n => n, fun | n => n⟩
theorem Tryz.br168 : Go.Proofs.Lays.n168 Tryz.prog Tryz.brRen := {
 mixed := by kernel_rfl
 f168 := Tryz.func205.trans (congrArg some (by kernel_rfl))
 f240 := Tryz.func224.trans (congrArg some (by kernel_rfl))
 f242 := Tryz.func225.trans (congrArg some (by kernel_rfl))
 f276 := Tryz.func235.trans (congrArg some (by kernel_rfl))
 f278 := Tryz.func236.trans (congrArg some (by kernel_rfl))
 t0 := Tryz.underlying0
 a0 := Tryz.isAgg0
 z0 := Tryz.sizeOf0
 v0 := Tryz.zeroValue0
 t3 := Tryz.underlying3
 a3 := Tryz.isAgg3
 z3 := Tryz.sizeOf3
 v3 := Tryz.zeroValue3
 t4 := Tryz.underlying4
 a4 := Tryz.isAgg4
 z4 := Tryz.sizeOf4
 v4 := Tryz.zeroValue4
 t5 := Tryz.underlying5
 a5 := Tryz.isAgg5
 z5 := Tryz.sizeOf5
 v5 := Tryz.zeroValue5
 t9 := Tryz.underlying9
 a9 := Tryz.isAgg9
 z9 := Tryz.sizeOf9
 v9 := Tryz.zeroValue9
 t20 := Tryz.underlying20
 a20 := Tryz.isAgg20
 z20 := Tryz.sizeOf20
 v20 := Tryz.zeroValue20
 t21 := Tryz.underlying21
 a21 := Tryz.isAgg21
 z21 := Tryz.sizeOf21
 v21 := Tryz.zeroValue21
 t37 := Tryz.underlying32
 a37 := Tryz.isAgg32
 z37 := Tryz.sizeOf32
 v37 := Tryz.zeroValue32
 t46 := Tryz.underlying136
 a46 := Tryz.isAgg136
 z46 := Tryz.sizeOf136
 v46 := Tryz.zeroValue136
 t51 := Tryz.underlying123
 a51 := Tryz.isAgg123
 z51 := Tryz.sizeOf123
 v51 := Tryz.zeroValue123
 t70 := Tryz.underlying251
 a70 := Tryz.isAgg251
 z70 := Tryz.sizeOf251
 v70 := Tryz.zeroValue251
 t72 := Tryz.underlying253
 a72 := Tryz.isAgg253
 z72 := Tryz.sizeOf253
 v72 := Tryz.zeroValue253
 t75 := Tryz.underlying256
 a75 := Tryz.isAgg256
 z75 := Tryz.sizeOf256
 v75 := Tryz.zeroValue256
 t164 := Tryz.underlying284
 a164 := Tryz.isAgg284
 z164 := Tryz.sizeOf284
 v164 := Tryz.zeroValue284 }
theorem Tryz.brExtra : Builder.Extra Tryz.prog Tryz.brRen := {
 sizeBuilder := by kernel_rfl
 liesBuilder := by kernel_rfl
 t5 := Tryz.underlying5
 a5 := Tryz.isAgg5
 z5 := Tryz.sizeOf5
 v5 := Tryz.zeroValue5
 infoByte := by kernel_rfl
 cellsByte := by kernel_rfl
 sizeByte := by kernel_rfl
 neB5 := by decide }
theorem Tryz.Builder_WriteRune_k (B b : Nat) (bs : List Value) (r : Int) (hr0 : -2147483648 ≤ r) (hr1 : r ≤ 2147483647) (w : World) (h : Lib.IsBuilderF 253 5 B b bs w) (hlen : bs.length + 4 ≤ 140737488355328) (hBw : B ≤ w.heap.size) :
  Calls Tryz.prog 205 #[.pointer (some ⟨b, 0, none⟩), .int .i32 r] w fun e w' => e = .returned (.tuple #[.int .i64 (Lib.runeCells r).length, .nilIface]) ∧ (Lib.BuilderAtF 253 5 B b (.pointer (some ⟨b, 0, none⟩)) (bs ++ Lib.runeCells r) w' ∧ Below B w w' ∧ Lib.OthersKept 5 (some b) w w') := Any.Builder_WriteRune_k Tryz.br168 Tryz.brExtra B b bs r hr0 hr1 w h hlen hBw
theorem Tryz.Builder_WriteString_kc (B b : Nat) (bs : List Value) (s : ByteArray) (w : World) (h : Lib.IsBuilderF 253 5 B b bs w) (hlen : bs.length + s.size ≤ 140737488355328) (hBw : B ≤ w.heap.size) :
  Calls Tryz.prog 221 #[.pointer (some ⟨b, 0, none⟩), .string s] w fun e w' => e = .returned (.tuple #[.int .i64 s.size, .nilIface]) ∧ (Lib.BuilderAtF 253 5 B b (.pointer (some ⟨b, 0, none⟩)) (bs ++ Lib.strCells s) w' ∧ Below B w w' ∧ Lib.OthersKept 5 (some b) w w') ∧ ∀ v0, w.cell? ⟨b, 1, none⟩ = some v0 → ∃ v1, w'.cell? ⟨b, 1, none⟩ = some v1 ∧ v0.capOf ≤ v1.capOf := Any.Builder_WriteString_kc Tryz.bs166 Tryz.bsExtra B b bs s w h hlen hBw
namespace YtnbcbiglkmdepaaGreatDoor
theorem Cap_cell (b : Nat) (p : Option Addr) (n cap : Nat) (w : World) (c1 : w.cell? ⟨b, 1, none⟩ = some (.slice p n cap)) :
  Calls Tryz.prog 222 #[.pointer (some ⟨b, 0, none⟩)] w fun e w' => e = .returned (.int .i64 cap) ∧ w = w' := by
 go_enter Tryz.func222, Tryz.ntmps222
 go_wp2; go_ret; exact ⟨rfl, rfl⟩
end YtnbcbiglkmdepaaGreatDoor
end Go.Proofs
