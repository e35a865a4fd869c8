/-
  Texts that belong together, one behind the other.
-/
import Derived.Test.YtdgcjjledbnofaaDoorFu01
import Derived.Test.YtdgcjjledbnofaaDoorFu02
import Derived.Lib.OthersKept
import Derived.Shelf.Strings.Builder1
import Derived.Shelf.Strings.BuilderF
import Derived.Shelf.Strings.BuilderK
import Derived.Test.YtdgcjjledbnofaaDoorProg
/-
  Layer 1: Unhex of the program.
-/
namespace Go.Proofs.YtdgcjjledbnofaaDoor
open Go.RowKit
set_option linter.unusedVariables false

/-- What a byte stands for as a digit; below zero: it is none. -/
def dg (c : UInt8) : Int := dig16 (c.toNat : Int)
theorem dg_lt (c : UInt8) : dg c < 16 := dig16_lt _
/-- What stands at place j behind k digits. -/
def uh (l : List UInt8) (k j : Nat) : Int := if 2 * j + 1 < k then 16 * dg (l.getD (2 * j) 0) + dg (l.getD (2 * j + 1) 0) else if 2 * j < k then dg (l.getD (2 * j) 0) else 0
theorem uh_next_even (l : List UInt8) (k j : Nat) (h : k = 2 * j) : uh l (k + 1) j = dg (l.getD k 0) ∧ uh l k j = 0 := by
  subst h; unfold uh; constructor
  · rw [if_neg (by omega), if_pos (by omega)]
  · rw [if_neg (by omega), if_neg (by omega)]
theorem uh_next_odd (l : List UInt8) (k j : Nat) (h : k = 2 * j + 1) : uh l (k + 1) j = 16 * uh l k j + dg (l.getD k 0) ∧ uh l k j = dg (l.getD (2 * j) 0) := by
  subst h; unfold uh
  have e : (if 2 * j + 1 < 2 * j + 1 then 16 * dg (l.getD (2 * j) 0) + dg (l.getD (2 * j + 1) 0) else if 2 * j < 2 * j + 1 then dg (l.getD (2 * j) 0) else 0) = dg (l.getD (2 * j) 0) := by
    rw [if_neg (by omega), if_pos (by omega)]
  rw [e]
  exact ⟨by rw [if_pos (by omega)], rfl⟩
theorem uh_other (l : List UInt8) (k j : Nat) (h : j ≠ k / 2) : uh l (k + 1) j = uh l k j := by
  unfold uh
  by_cases h1 : 2 * j + 1 < k
  · rw [if_pos h1, if_pos (by omega)]
  · rw [if_neg h1, if_neg (by omega)]
    by_cases h2 : 2 * j < k
    · rw [if_pos h2, if_pos (by omega)]
    · rw [if_neg h2, if_neg (by omega)]
theorem uh_bd (l : List UInt8) (k j : Nat) (h : ∀ i, i < k → 0 ≤ dg (l.getD i 0)) : 0 ≤ uh l k j ∧ uh l k j < 256 := by
  unfold uh
  split
  · have a := h (2 * j) (by omega); have b := h (2 * j + 1) (by omega)
    have c := dg_lt (l.getD (2 * j) 0); have d := dg_lt (l.getD (2 * j + 1) 0)
    omega
  · split
    · have a := h (2 * j) (by omega)
      have c := dg_lt (l.getD (2 * j) 0)
      omega
    · omega

theorem or16' : ∀ x d : Fin 16, bits BinOp.or IntKind.u8 ((x.1 : Int) * 16 % 256) (d.1 : Int) = 16 * (x.1 : Int) + (d.1 : Int) := by decide +kernel
theorem or16 (x d : Int) (h0 : 0 ≤ x) (h1 : x < 16) (h2 : 0 ≤ d) (h3 : d < 16) : bits BinOp.or IntKind.u8 (x * 16 % 256) d = 16 * x + d := by
  have h := or16' ⟨x.toNat, by omega⟩ ⟨d.toNat, by omega⟩
  simpa [Int.toNat_of_nonneg h0, Int.toNat_of_nonneg h2] using h
theorem set_at (ys : List Value) (i j : Nat) (u : Value) (h : j < ys.length) : (ys.set i u)[j]? = if i = j then some u else ys[j]? := by
  rw [List.getElem?_set]
  split
  · rw [if_pos (by omega)]
  · rfl
/-- One digit more. -/
theorem uh_step (l : List UInt8) (pos n : Nat) (ys : List Value) (x d : Int) (hn : ys.length = n) (hp : pos / 2 < n) (hdig : ∀ i, i < pos → 0 ≤ dg (l.getD i 0))
    (hx : x = uh l pos (pos / 2)) (hd : d = dg (l.getD pos 0)) (hd0 : 0 ≤ d) (hys : ∀ j, j < n → ys[j]? = some (.int .u8 (uh l pos j))) :
    ∀ j, j < n → (ys.set (pos / 2) (.int .u8 (bits BinOp.or IntKind.u8 (x * 16 % 256) d)))[j]? = some (.int .u8 (uh l (pos + 1) j)) := by
  intro j hj
  have hd3 : d < 16 := by rw [hd]; exact dg_lt _
  have key : 0 ≤ x ∧ x < 16 ∧ uh l (pos + 1) (pos / 2) = 16 * x + d := by
    rcases Nat.mod_two_eq_zero_or_one pos with h | h
    · obtain ⟨a, b⟩ := uh_next_even l pos (pos / 2) (by omega)
      rw [b] at hx
      rw [a, hx, hd]; omega
    · obtain ⟨a, b⟩ := uh_next_odd l pos (pos / 2) (by omega)
      have c := hdig (2 * (pos / 2)) (by omega)
      have e := dg_lt (l.getD (2 * (pos / 2)) 0)
      rw [b] at hx a
      rw [a, hd, ← hx]
      omega
  rw [set_at _ _ _ _ (by omega)]
  split
  · rename_i e; subst e
    rw [or16 x d key.1 key.2.1 hd0 hd3, key.2.2]
  · rename_i e
    rw [uh_other l pos j (fun h => e h.symm)]
    exact hys j hj

/-- What Unhex of an even text leaves. -/
def UPost (s : ByteArray) (w : World) (e : Ending) (w' : World) : Prop :=
  Below w.heap.size w w' ∧ ((e = .returned (.tuple #[.slice none 0 0, .int .i64 4]) ∧ ∃ i, i < s.size ∧ dg (s.data.toList.getD i 0) < 0) ∨
    ((∀ i, i < s.size → 0 ≤ dg (s.data.toList.getD i 0)) ∧ ∃ g ys, e = .returned (.tuple #[.slice (some ⟨g, 0, none⟩) (s.size / 2) (s.size / 2), .int .i64 0]) ∧ w.heap.size ≤ g ∧
      w'.ownsRow w.heap.size 5 1 (.slice (some ⟨g, 0, none⟩) (s.size / 2) (s.size / 2)) (s.size / 2) ys ∧ ∀ j, j < s.size / 2 → ys[j]? = some (.int .u8 (uh s.data.toList s.size j))))

theorem own_iter {w : World} {base : Nat} {e : TypeId} {g n cap : Nat} {xs : List Value} (h : w.ownsRow base e 1 (.slice (some ⟨g, 0, none⟩) n cap) n xs) {k : Nat} {s : ByteArray} {pos : Nat} (hk : w.heap[k]? = some (.stringIter s pos)) (p : Nat) :
    (w.iterAt k s p).ownsRow base e 1 (.slice (some ⟨g, 0, none⟩) n cap) n xs := by
  refine ⟨h.1, ?_⟩
  rcases h.2 with ⟨h', _⟩ | ⟨g', cap', cur, h', hb', hg, r⟩
  · simp at h'
  · refine .inr ⟨g', cap', cur, h', hb', ?_, r⟩
    rw [Lib.iterAt_other _ _ _ _ _ (fun e => by rw [e, hk] at hg; cases hg)]
    exact hg

set_option maxHeartbeats 1000000 in
theorem Unhex_core (s : ByteArray) (w : World) (hs : s.size ≤ 1099511627776) (he : s.size % 2 = 0) :
    Calls Tryd.prog 51 #[.string s] w fun e w' => UPost s w e w' := by
  obtain ⟨i0, hi, hz0, hz1, hz2⟩ := info_parts info5
  have hev : ((s.size : Int) % 2 != 0) = false := by simp; omega
  have hmod : (s.size : Int).tmod 2 = (s.size : Int) % 2 := IntWalk.rem_in _ _ (by omega)
  go_enter Tryd.func51, Tryd.ntmps51
  go_wp2_with (at_make; refine wpList_make_full _ rfl _ _ 23 rfl w.heap.size 5 i0 (.int .u8 0) 1 Tryd.underlying23 hi hz0 hz1 _ _ _ _ (s.size / 2) rfl rfl (by omega) (by omega) ?b2 ?b3 (Nat.le_refl _) ?_)
  case b2 => rw [hz2]; omega
  case b3 => unfold maxLen; omega
  intro w0 hown0 hgrow0
  have hb0 : Below w.heap.size w w0 := (Below.refl _ _).grown hgrow0 (Nat.le_refl _) (fun k h => by cases h)
  have hB : w.heap.size < w0.heap.size := own_lt hown0
  have hz : ∀ j, j < s.size / 2 → (madeCells #[Value.int .u8 0] (s.size / 2)).toList[j]? = some (.int .u8 (uh s.data.toList 0 j)) := fun j hj => by
    rw [toList_madeCells_one, List.getElem?_replicate, if_pos (by omega)]
    unfold uh
    rw [if_neg (by omega), if_neg (by omega)]
  have HZ := Lib.hid hz; clear hz
  have HO := Lib.hid hown0
  clear hown0 hgrow0
  go_wp2_with fail
  go_loopw [] (fun wr => ∃ (pos : Nat) (ys : List Value), pos ≤ s.size ∧ (∀ i, i < pos → 0 ≤ dg (s.data.toList.getD i 0)) ∧ wr.heap[w0.heap.size]? = some (.stringIter s pos) ∧
      wr.ownsRow w.heap.size 5 1 (.slice (some ⟨w.heap.size, 0, none⟩) (s.size / 2) (s.size / 2)) (s.size / 2) ys ∧ (∀ j, j < s.size / 2 → ys[j]? = some (.int .u8 (uh s.data.toList pos j))) ∧ Below w.heap.size w wr) (fun wr => s.size - wr.iterPos w0.heap.size)
  case atStart =>
    exact ⟨0, _, Nat.zero_le _, fun i hi => absurd hi (Nat.not_lt_zero _), World.iter_heap w0 s 0, own_keep HO.out ((Below.refl _ w0).alloc (Nat.le_refl _) _), HZ.out, hb0.alloc hb0.size _⟩
  case round =>
    clear hb0 HZ HO
    obtain ⟨pos, ys, hpos, hdig, hit, hown, hys, hbr⟩ := hrel
    have HDIG := Lib.hid hdig; clear hdig
    have HYS := Lib.hid hys; clear hys
    have hsz := hbr.size
    by_cases hp : pos < s.size
    · have hgd : s.data.toList.getD pos 0 = s[pos] := by
        have : pos < s.data.toList.length := by simpa using hp
        rw [List.getD_eq_getElem?_getD, List.getElem?_eq_getElem this]; rfl
      have HGD := Lib.hid hgd; clear hgd
      by_cases ha : (s[pos]).toNat < 128
      · have hnx : ∀ ty, (Instr.next (.pointer (some ⟨w0.heap.size, 0, none⟩)) true ty).run Tryd.prog wr = _ := fun ty => Lib.run_next_ascii_at wr w0.heap.size s pos ty hit hp ha
        obtain ⟨r, hr⟩ : ∃ r : Int, r = ((s[pos]).toNat : Int) := ⟨_, rfl⟩
        rw [← hr] at hnx
        have HR := Lib.hid hr; clear hr
        have hit2 := Lib.iterAt_heap wr w0.heap.size s pos (pos + 1) hit
        have hown2 := own_iter hown hit (pos + 1)
        have hbr2 := Lib.below_iterAt hbr (k := w0.heap.size) (Nat.le_of_lt hB) s (pos + 1)
        generalize wr.iterAt w0.heap.size s (pos + 1) = w2 at hnx hit2 hown2 hbr2
        by_cases hd : 0 ≤ dig16 r
        · go_wp2_with fail
          refine (digit16_yes r hd _).mono ?_
          rintro e w3 ⟨rfl, rfl⟩
          obtain ⟨x, hx⟩ : ∃ x : Int, x = uh s.data.toList pos (pos / 2) := ⟨_, rfl⟩
          have hcell : w2.cell? ⟨w.heap.size, pos / 2, none⟩ = some (.int .u8 x) := by
            rw [hx, hown2.cellAt (pos / 2) (by omega)]; exact HYS.out _ (by omega)
          have hfz := hown2.frozenAt (pos / 2)
          obtain ⟨d, hde⟩ : ∃ d : Int, d = dig16 r := ⟨_, rfl⟩
          rw [← hde] at hd
          simp only [← hde]
          have hd2 : d < 16 := by rw [hde]; exact dig16_lt r
          have HD := Lib.hid hde; clear hde
          have HX := Lib.hid hx; clear hx
          obtain ⟨hst, hgr⟩ := hown2.stored (pos / 2) (.int .u8 (bits BinOp.or IntKind.u8 (x * 16 % 256) d))
          have HS := Lib.hid hst; clear hst
          have HG := Lib.hid hgr; clear hgr
          have hit3 : (w2.setCell ⟨w.heap.size, pos / 2, none⟩ (.int .u8 (bits BinOp.or IntKind.u8 (x * 16 % 256) d))).heap[w0.heap.size]? = some (.stringIter s (pos + 1)) :=
            (heap_setCell_other w2 ⟨w.heap.size, pos / 2, none⟩ w0.heap.size _ (Nat.ne_of_gt hB)).trans hit2
          have hlen := own_len hown
          have HL := Lib.hid hlen; clear hlen
          have HI3 := Lib.hid hit3; clear hit3
          go_wp2
          go_roundw
          case rel =>
            refine ⟨pos + 1, _, by omega, ?_, HI3.out, HS.out, uh_step s.data.toList pos _ ys x d HL.out (by omega) HDIG.out HX.out ?_ hd HYS.out, hbr2.grown HG.out hbr2.size (fun k hk => by cases hk; exact Nat.le_refl _)⟩
            · intro i hi
              by_cases h : i < pos
              · exact HDIG.out i h
              · obtain rfl : i = pos := by omega
                rw [HGD.out]; unfold dg; rw [← HR.out, ← HD.out]; exact hd
            · rw [HGD.out]; unfold dg; rw [← HR.out]; exact HD.out
          case measure =>
            rw [iterPos_of HI3.out, iterPos_of hit]
            omega
        · go_wp2_with fail
          refine (digit16_no r (by omega) _).mono ?_
          rintro e w3 ⟨rfl, rfl⟩
          go_wp2
          go_ret2
          refine ⟨hbr2, .inl ⟨rfl, pos, hp, ?_⟩⟩
          rw [HGD.out]; unfold dg; rw [← HR.out]; omega
      · have hnx : ∀ ty, (Instr.next (.pointer (some ⟨w0.heap.size, 0, none⟩)) true ty).run Tryd.prog wr = _ := fun ty => Lib.run_next_any_at wr w0.heap.size s pos ty hit hp
        have hh := (decode_high s pos hp (by omega)).1
        have hbr2 := Lib.below_iterAt hbr (k := w0.heap.size) (Nat.le_of_lt hB) s (pos + (Utf8.decode s pos).2)
        generalize (Utf8.decode s pos).1 = r at hnx hh
        generalize wr.iterAt w0.heap.size s (pos + (Utf8.decode s pos).2) = w2 at hnx hbr2
        go_wp2_with fail
        refine (digit_high r 16 (by omega) (by omega) (by omega) _).mono ?_
        rintro e w3 ⟨rfl, rfl⟩
        go_wp2
        go_ret2
        refine ⟨hbr2, .inl ⟨rfl, pos, hp, ?_⟩⟩
        rw [HGD.out]; unfold dg dig16; rw [if_neg (by omega), if_neg (by omega)]; omega
    · have hnx : ∀ ty, (Instr.next (.pointer (some ⟨w0.heap.size, 0, none⟩)) true ty).run Tryd.prog wr = _ := fun ty => Lib.run_next_end_at wr w0.heap.size s pos ty hit hp
      obtain rfl : pos = s.size := by omega
      go_wp2
      go_ret2
      exact ⟨hbr, .inr ⟨HDIG.out, w.heap.size, ys, rfl, Nat.le_refl _, hown, HYS.out⟩⟩
end Go.Proofs.YtdgcjjledbnofaaDoor

/-
  Layer 1: which bytes a text of digits is; Unhex of the program, whatever the text.
-/
namespace Go.Proofs.YtdgcjjledbnofaaDoor
open Go.RowKit
set_option linter.unusedVariables false

/-- The bytes of a text of hexadecimal digits. -/
def unhexL : List UInt8 → Option (List UInt8)
  | [] => some []
  | [_] => none
  | a :: b :: r => if 0 ≤ dg a ∧ 0 ≤ dg b then (unhexL r).map (fun t => UInt8.ofNat (16 * dg a + dg b).toNat :: t) else none
theorem unhex_spec : ∀ (n : Nat) (l t : List UInt8), l.length ≤ n → unhexL l = some t → l.length = 2 * t.length ∧ (∀ i, i < l.length → 0 ≤ dg (l.getD i 0)) ∧ ∀ j, j < t.length → ((t.getD j 0).toNat : Int) = 16 * dg (l.getD (2 * j) 0) + dg (l.getD (2 * j + 1) 0) := by
  intro n
  induction n using Nat.strongRecOn with
  | ind n ih =>
    intro l t hl h
    match l, hl, h with
    | [], _, h => simp [unhexL] at h; subst h; simp
    | [_], _, h => simp [unhexL] at h
    | a :: b :: r, hl, h =>
      simp only [unhexL] at h
      split at h
      · rename_i hab
        cases hr : unhexL r with
        | none => simp [hr] at h
        | some t' =>
          simp [hr] at h
          subst h
          obtain ⟨h1, h2, h3⟩ := ih r.length (by simp at hl; omega) r t' (Nat.le_refl _) hr
          refine ⟨by simp; omega, ?_, ?_⟩
          · intro i hi
            match i, hi with
            | 0, _ => exact hab.1
            | 1, _ => exact hab.2
            | i + 2, hi => exact h2 i (by simp at hi; omega)
          · intro j hj
            match j, hj with
            | 0, _ =>
              have c := dg_lt a; have d := dg_lt b
              show ((UInt8.ofNat (16 * dg a + dg b).toNat).toNat : Int) = 16 * dg a + dg b
              rw [UInt8.toNat_ofNat']; omega
            | j + 1, hj =>
              have e := h3 j (by simp at hj; omega)
              rw [show 2 * (j + 1) = 2 * j + 2 by omega, show 2 * j + 2 + 1 = 2 * j + 1 + 2 by omega]
              exact e
      · cases h
theorem unhex_none : ∀ (n : Nat) (l : List UInt8), l.length ≤ n → unhexL l = none → l.length % 2 = 1 ∨ ∃ i, i < l.length ∧ dg (l.getD i 0) < 0 := by
  intro n
  induction n using Nat.strongRecOn with
  | ind n ih =>
    intro l hl h
    match l, hl, h with
    | [], _, h => simp [unhexL] at h
    | [_], _, h => left; rfl
    | a :: b :: r, hl, h =>
      simp only [unhexL] at h
      by_cases ha : dg a < 0
      · exact .inr ⟨0, by simp, ha⟩
      by_cases hb : dg b < 0
      · exact .inr ⟨1, by simp, hb⟩
      rw [if_pos ⟨by omega, by omega⟩] at h
      have hr : unhexL r = none := by simpa using h
      rcases ih r.length (by simp at hl; omega) r (Nat.le_refl _) hr with h1 | ⟨i, h1, h2⟩
      · left; simp; omega
      · right; exact ⟨i + 2, by simp; omega, h2⟩
theorem unhex_odd (l : List UInt8) (h : l.length % 2 = 1) : unhexL l = none := by
  cases e : unhexL l with
  | none => rfl
  | some t => have := (unhex_spec l.length l t (Nat.le_refl _) e).1; omega
theorem unhex_bad (l : List UInt8) (i : Nat) (hi : i < l.length) (h : dg (l.getD i 0) < 0) : unhexL l = none := by
  cases e : unhexL l with
  | none => rfl
  | some t => have := (unhex_spec l.length l t (Nat.le_refl _) e).2.1 i hi; omega

set_option maxHeartbeats 400000 in
theorem Unhex_odd (s : ByteArray) (w : World) (hs : s.size ≤ 1099511627776) (he : s.size % 2 = 1) :
    Calls Tryd.prog 51 #[.string s] w fun e w' => e = .returned (.tuple #[.slice none 0 0, .int .i64 4]) ∧ w = w' := by
  have hev : ((s.size : Int) % 2 != 0) = true := by simp; omega
  go_enter Tryd.func51, Tryd.ntmps51
  go_wp2
  go_ret2
  exact ⟨rfl, rfl⟩
theorem Unhex_none (s : ByteArray) (w : World) (hs : s.size ≤ 1099511627776) (h : unhexL s.data.toList = none) :
    Calls Tryd.prog 51 #[.string s] w fun e w' => e = .returned (.tuple #[.slice none 0 0, .int .i64 4]) ∧ Below w.heap.size w w' := by
  have hl := size_list s
  by_cases ho : s.size % 2 = 1
  · refine (Unhex_odd s w hs ho).mono ?_
    rintro e w' ⟨rfl, rfl⟩
    exact ⟨rfl, Below.refl _ _⟩
  · refine (Unhex_core s w hs (by omega)).mono ?_
    rintro e w' ⟨hb, ⟨he, _⟩ | ⟨hd, _⟩⟩
    · exact ⟨he, hb⟩
    · rcases unhex_none _ _ (Nat.le_refl _) h with h1 | ⟨i, hi, h1⟩
      · omega
      · have := hd i (by omega); omega
theorem Unhex_some (s : ByteArray) (t : List UInt8) (w : World) (hs : s.size ≤ 1099511627776) (h : unhexL s.data.toList = some t) :
    Calls Tryd.prog 51 #[.string s] w fun e w' => ∃ g c, e = .returned (.tuple #[.slice g t.length c, .int .i64 0]) ∧ BAt w' g t ∧ t.length ≤ c ∧ (g = none → t.length = 0 ∧ c = 0) ∧ Below w.heap.size w w' := by
  have hl := size_list s
  obtain ⟨h1, h2, h3⟩ := unhex_spec _ _ _ (Nat.le_refl _) h
  have hn : s.size / 2 = t.length := by omega
  refine (Unhex_core s w hs (by omega)).mono ?_
  rintro e w' ⟨hb, ⟨_, i, hi, hd⟩ | ⟨_, g, ys, he, hg, hown, hys⟩⟩
  · have := h2 i (by omega); omega
  · rw [hn] at he hown hys
    refine ⟨some ⟨g, 0, none⟩, t.length, he, fun hp => ⟨g, 0, rfl, own_lt hown, fun i hi => ?_⟩, Nat.le_refl _, (fun h => by cases h), hb⟩
    rw [Nat.zero_add, hown.cellAt i (by omega), hys i hi]
    have e := h3 i hi
    rw [List.getD_eq_getElem?_getD, List.getElem?_eq_getElem hi] at e
    have e2 : uh s.data.toList s.size i = ((t[i]).toNat : Int) := by
      unfold uh; rw [if_pos (by omega)]; exact e.symm
    rw [e2]
end Go.Proofs.YtdgcjjledbnofaaDoor

/-
  The contracts of strings.Builder's WriteByte and copyCheck at this program: the shelf's own, laid by hand (its command misses two types that no body names).
-/
namespace Go.Proofs
set_option maxRecDepth 20000
open Go.Shelf Go.RowKit
def Tryd.bwRen : Go.Shelf.Ren := ⟨fun | 167 => 33 | 240 => 46 | 276 => 55 | n => n, fun | 0 => 0 | 4 => 4 | 5 => 5 | 9 => 9 | 20 => 20 | 37 => 23 | 70 => 57 | 72 => 59 | 75 => 62 | 80 => 64 | 164 => 81 | n => n, fun | n => n⟩
theorem Tryd.bw240 : Go.Proofs.Lays.n240 Tryd.prog Tryd.bwRen := {
  mixed := by kernel_rfl
  f240 := Tryd.func46.trans (congrArg some (by kernel_rfl))
  f276 := Tryd.func55.trans (congrArg some (by kernel_rfl))
  t0 := Tryd.underlying0
  a0 := Tryd.isAgg0
  z0 := Tryd.sizeOf0
  v0 := Tryd.zeroValue0
  t4 := Tryd.underlying4
  a4 := Tryd.isAgg4
  z4 := Tryd.sizeOf4
  v4 := Tryd.zeroValue4
  t9 := Tryd.underlying9
  a9 := Tryd.isAgg9
  z9 := Tryd.sizeOf9
  v9 := Tryd.zeroValue9
  t20 := Tryd.underlying20
  a20 := Tryd.isAgg20
  z20 := Tryd.sizeOf20
  v20 := Tryd.zeroValue20
  t70 := Tryd.underlying57
  a70 := Tryd.isAgg57
  z70 := Tryd.sizeOf57
  v70 := Tryd.zeroValue57
  t72 := Tryd.underlying59
  a72 := Tryd.isAgg59
  z72 := Tryd.sizeOf59
  v72 := Tryd.zeroValue59
  t164 := Tryd.underlying81
  a164 := Tryd.isAgg81
  z164 := Tryd.sizeOf81
  v164 := Tryd.zeroValue81 }
theorem Tryd.bw167 : Go.Proofs.Lays.n167 Tryd.prog Tryd.bwRen := {
  mixed := by kernel_rfl
  f167 := Tryd.func33.trans (congrArg some (by kernel_rfl))
  f240 := Tryd.bw240.f240
  f276 := Tryd.bw240.f276
  t0 := Tryd.underlying0
  a0 := Tryd.isAgg0
  z0 := Tryd.sizeOf0
  v0 := Tryd.zeroValue0
  t4 := Tryd.underlying4
  a4 := Tryd.isAgg4
  z4 := Tryd.sizeOf4
  v4 := Tryd.zeroValue4
  t5 := Tryd.underlying5
  a5 := Tryd.isAgg5
  z5 := Tryd.sizeOf5
  v5 := Tryd.zeroValue5
  t9 := Tryd.underlying9
  a9 := Tryd.isAgg9
  z9 := Tryd.sizeOf9
  v9 := Tryd.zeroValue9
  t20 := Tryd.underlying20
  a20 := Tryd.isAgg20
  z20 := Tryd.sizeOf20
  v20 := Tryd.zeroValue20
  t37 := Tryd.underlying23
  a37 := Tryd.isAgg23
  z37 := Tryd.sizeOf23
  v37 := Tryd.zeroValue23
  t70 := Tryd.underlying57
  a70 := Tryd.isAgg57
  z70 := Tryd.sizeOf57
  v70 := Tryd.zeroValue57
  t72 := Tryd.underlying59
  a72 := Tryd.isAgg59
  z72 := Tryd.sizeOf59
  v72 := Tryd.zeroValue59
  t75 := Tryd.underlying62
  a75 := Tryd.isAgg62
  z75 := Tryd.sizeOf62
  v75 := Tryd.zeroValue62
  t164 := Tryd.underlying81
  a164 := Tryd.isAgg81
  z164 := Tryd.sizeOf81
  v164 := Tryd.zeroValue81 }
theorem Tryd.bwExtra : Builder.Extra Tryd.prog Tryd.bwRen := {
  sizeBuilder := by kernel_rfl
  liesBuilder := by kernel_rfl
  t5 := Tryd.underlying5
  a5 := Tryd.isAgg5
  z5 := Tryd.sizeOf5
  v5 := Tryd.zeroValue5
  infoByte := by kernel_rfl
  cellsByte := by kernel_rfl
  sizeByte := by kernel_rfl
  neB5 := by decide }
theorem Tryd.Builder_WriteByte_k (B b : Nat) (bs : List Value) (c : Int) (w : World) (h : Lib.IsBuilderF 59 5 B b bs w) (hlen : bs.length + 1 ≤ 140737488355328) (hBw : B ≤ w.heap.size) :
    Calls Tryd.prog 33 #[.pointer (some ⟨b, 0, none⟩), .int .u8 c] w fun e w' => e = .returned .nilIface ∧ (Lib.BuilderAtF 59 5 B b (.pointer (some ⟨b, 0, none⟩)) (bs ++ [.int .u8 c]) w' ∧ Below B w w' ∧ Lib.OthersKept 5 (some b) w w') := Any.Builder_WriteByte_k Tryd.bw167 Tryd.bwExtra B b bs c w h hlen hBw
end Go.Proofs
