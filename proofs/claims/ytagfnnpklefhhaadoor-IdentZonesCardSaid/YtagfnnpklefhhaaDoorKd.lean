/-
  Layer 6: Clean of the reference, its first part: the runes that stay.
-/
import Derived.Test.YtagfnnpklefhhaaDoorDr
import Derived.Test.YtagfnnpklefhhaaDoorJc
import Derived.Test.YtagfnnpklefhhaaDoorJd
import Derived.Lib.FrozenHead2
import Derived.OwnWalk
namespace Go.Proofs.YtagfnnpklefhhaaDoor
open Go.RowKit
set_option linter.unusedVariables false
set_option linter.unusedSimpArgs false

/-- A row of bytes that a call owns. -/
abbrev OwnF (B : Nat) (v : Value) (l : List UInt8) (w : World) : Prop := w.ownsRowF B 5 1 v l.length (Lib.byteCells l)
theorem ownF_below {B : Nat} {v : Value} {l : List UInt8} {w w' : World} (h : OwnF B v l w) (hb : Below w.heap.size w w') : OwnF B v l w' :=
  World.ownsRowF.kept (row := none) h ⟨hb.os, hb.tape, hb.output, hb.size, fun k hk _ => hb.block k hk⟩ (Classical.em _)
theorem ownF_shape {B : Nat} {v : Value} {l : List UInt8} {w : World} (h : OwnF B v l w) : ∃ a c, v = .slice a l.length c ∧ l.length ≤ c ∧ c ≤ maxLen ∧ BAt w a l := by
  rcases h.2 with ⟨hv, h0⟩ | ⟨g, cap, cur, fz, hv, hB, hg, _, hc, hm, _, _⟩
  · obtain rfl : l = [] := List.eq_nil_of_length_eq_zero h0
    exact ⟨none, 0, hv, Nat.le_refl _, Nat.zero_le _, BAt.nil w _⟩
  · have hcs := World.ownsRowF.cells h (g := g) (by rw [hv]; rfl)
    refine ⟨_, cap, hv, hc, hm, fun _ => ⟨g, 0, rfl, (Array.getElem?_eq_some_iff.1 hg).1, fun i hi => ?_⟩⟩
    have := hcs i (.int .u8 (l[i]).toNat) (by simp [Lib.byteCells, List.getElem?_map, hi])
    cases i with
    | zero => simpa [Addr.add] using this
    | succ k => simpa [Addr.add] using this
theorem info_byte : (Tryd.prog.info? 5).map (fun i => (i.zero, i.size, i.bytes)) = some (some (.int .u8 0), 1, 1) := by kernel_rfl
/-- 'append(b, s...)' onto a row that the call owns, s a text. -/
theorem wpList_append_str {ops : Array Oper} {rest : List Oper} {o : Oper} {a : Act} {w : World} {Q : Exit → Act → World → Prop} (hgd : o.guard = none) (sl x : Operand)
    (ho : o.op = .call { callee := .builtin .append, args := #[sl, x], argTypes := #[50, 9] }) (B : Nat) (v : Value) (out m : List UInt8) (s : ByteArray) (hs : a.eval sl = v) (hx : a.eval x = .string s)
    (hS : s = ⟨m.toArray⟩) (hown : OwnF B v out w) (hb : out.length + m.length ≤ 1099511627776) (hB : B ≤ w.heap.size)
    (h : ∀ v' w', OwnF B v' (out ++ m) w' → w.grownBy w' v.ownBlock → wpList Tryd.prog ops Q rest (a.put o.dst v') w') : wpList Tryd.prog ops Q (o :: rest) a w := by
  subst hS
  obtain ⟨i, hi, hz, hz1, hz2⟩ := info_parts info_byte
  refine Lib.wpList_append_own_stringF w hgd sl x 50 9 ho B 5 i Tryd.underlying50 Tryd.underlying9 hi hz hz1 hz2 v out.length (Lib.byteCells out) hs hown ⟨m.toArray⟩ hx (by rw [size_toArray]; unfold maxLen; omega) (by rw [size_toArray]; omega) hB ?_
  intro v' w' ho hg _
  refine h v' w' ?_ hg
  rw [size_toArray, Lib.strCells_eq] at ho
  unfold OwnF
  rw [List.length_append, Lib.byteCells_append]
  exact ho
theorem free_put (f out x : List UInt8) (h : f = out ++ freeT x) (hx : x ≠ []) (hk : keepL x) : f = (out ++ x.take (widL x)) ++ freeT (x.drop (widL x)) := by
  unfold freeT at *
  rw [pieces_step x hx, if_pos hk, List.flatten_cons, ← List.append_assoc] at h
  exact h
theorem free_pass (f out x : List UInt8) (h : f = out ++ freeT x) (hx : x ≠ []) (hk : ¬ keepL x) : f = out ++ freeT (x.drop (widL x)) := by
  unfold freeT at *
  rw [pieces_step x hx, if_neg hk] at h
  exact h
/-- What lies behind the first loop: the bytes that stay. -/
def Freed (l : List UInt8) (w : World) (v : Value) (w' : World) : Prop := ∃ a c, v = .slice a (freeT l).length c ∧ (freeT l).length ≤ c ∧ c ≤ maxLen ∧ BAt w' a (freeT l) ∧ Below w.heap.size w w'

theorem elem_b : Tryd.prog.underlying 50 = some (.slice (Tryd.prog.elem 50)) := by kernel_rfl
/-- 'b[:k]'. -/
theorem bs_head (a : Option Addr) (n c k : Nat) (x : Int) (hx : x = k) (hk : k ≤ c) (u : World) :
    (Instr.sliceAt 50 (.slice a n c) none (some (.int .i64 x)) none).run Tryd.prog u = .ok (.slice a k c) u := by
  subst hx
  obtain ⟨i, hi, hz, hs, hby⟩ := info_parts info_byte
  have e : Tryd.prog.elem 50 = 5 := by kernel_rfl
  rw [run_sliceAt_slice (h := elem_b), run_slice_h (ht := elem_b) (h0 := by omega) (h2 := by omega)]
  rw [e]
  simp [sizeOf, typeInfo, hi, hs, Result.andThen, sliced]
  cases a with
  | none => simp
  | some a => simp [Addr.add]
/-- 'b[k:]'. -/
theorem bs_tail (a : Option Addr) (n c k : Nat) (l : List UInt8) (hn : n = l.length) (hk : k ≤ n) (hc : n ≤ c) :
    ∃ a', (∀ (x : Int) (u : World), x = k → (Instr.sliceAt 50 (.slice a n c) (some (.int .i64 x)) none none).run Tryd.prog u = .ok (.slice a' (n - k) (c - k)) u) ∧
      ∀ w, BAt w a l → BAt w a' (l.drop k) := by
  obtain ⟨i, hi, hz, hs, hby⟩ := info_parts info_byte
  have e : Tryd.prog.elem 50 = 5 := by kernel_rfl
  refine ⟨if c = k then a else a.map (·.add (k * 1)), fun x u hx => ?_, fun w hb => ?_⟩
  · subst hx
    rw [run_sliceAt_slice (h := elem_b), run_slice_l (ht := elem_b) (h0 := by omega) (h1 := by omega)]
    rw [e]
    simp [sizeOf, typeInfo, hi, hs, Result.andThen, sliced]
  · subst hn
    by_cases hck : c = k
    · rw [if_pos hck]
      intro hp
      rw [List.length_drop] at hp; omega
    · rw [if_neg hck]
      intro hp
      rw [List.length_drop] at hp
      obtain ⟨b, o, rfl, h1, h2⟩ := hb (by omega)
      refine ⟨b, o + k, ?_, h1, fun j hj => ?_⟩
      · simp [Addr.add]
      · rw [List.length_drop] at hj
        rw [show o + k + j = o + (k + j) by omega, h2 (k + j) (by omega), List.getElem_drop]
theorem trimR_blank (l : List UInt8) : Lib.trimRightB (l ++ [32]) 32 = Lib.trimRightB l 32 := by
  unfold Lib.trimRightB
  rw [List.reverse_append, List.reverse_singleton, List.singleton_append, List.dropWhile_cons_of_pos (by decide)]
theorem trimR_keep (l : List UInt8) (c : UInt8) (h : c.toNat ≠ 32) : Lib.trimRightB (l ++ [c]) 32 = l ++ [c] := by
  unfold Lib.trimRightB
  have e1 : (l ++ [c]).reverse = c :: l.reverse := by rw [List.reverse_append, List.reverse_singleton, List.singleton_append]
  have e2 : List.reverse (c :: l.reverse) = l ++ [c] := by rw [← e1, List.reverse_reverse]
  rw [e1, List.dropWhile_cons_of_neg, e2]
  simp
  intro e
  apply h
  rw [e]; rfl
theorem take_one_more (m : List UInt8) (j : Nat) (hj : j < m.length) : m.take (j + 1) = m.take j ++ [m.getD j 0] := by
  rw [List.take_add_one, List.getD_eq_getElem?_getD, List.getElem?_eq_getElem hj]; rfl
theorem trimL_blank (m : List UInt8) (hp : 0 < m.length) (h : (m.getD 0 0).toNat = 32) : Lib.trimLeftB m 32 = Lib.trimLeftB (m.drop 1) 32 := by
  cases m with
  | nil => simp at hp
  | cons c r =>
    have e : c = 32 := UInt8.toNat_inj.1 (by simpa using h)
    subst e
    unfold Lib.trimLeftB
    rw [List.dropWhile_cons_of_pos (by decide)]; rfl
theorem trimL_keep (m : List UInt8) (hp : 0 < m.length) (h : (m.getD 0 0).toNat ≠ 32) : Lib.trimLeftB m 32 = m := by
  cases m with
  | nil => simp at hp
  | cons c r =>
    unfold Lib.trimLeftB
    rw [List.dropWhile_cons_of_neg]
    simp
    intro e
    apply h
    rw [e]; rfl
/-- A place between pieces. -/
def Mid (gs : List (List UInt8)) (e : Nat) : Prop := ∃ us ts, gs = us ++ ts ∧ e = us.flatten.length
theorem Mid.start (gs : List (List UInt8)) : Mid gs 0 := ⟨[], gs, rfl, rfl⟩
theorem Mid.next {gs : List (List UInt8)} (hr : ∀ g ∈ gs, Rune g) {e : Nat} (h : Mid gs e) (he : e < gs.flatten.length) :
    Mid gs (e + widL (gs.flatten.drop e)) ∧ (e ≤ 200 → 200 < e + widL (gs.flatten.drop e) → (fitL 200 gs).flatten = gs.flatten.take e) := by
  obtain ⟨us, ts, rfl, rfl⟩ := h
  cases ts with
  | nil => simp at he
  | cons g ts =>
    have hg := hr g (by simp)
    have e1 : (us ++ g :: ts).flatten.drop us.flatten.length = g ++ ts.flatten := by
      rw [List.flatten_append, List.drop_left, List.flatten_cons]
    rw [e1, hg.wid]
    refine ⟨⟨us ++ [g], ts, by simp, by simp⟩, fun h1 h2 => ?_⟩
    rw [fit_at us g ts 200 h1 h2, List.flatten_append, List.take_left]
theorem Mid.le {gs : List (List UInt8)} {e : Nat} (h : Mid gs e) : e ≤ gs.flatten.length := by
  obtain ⟨us, ts, rfl, rfl⟩ := h
  simp
def slLen : Value → Nat
  | .slice _ n _ => n
  | _ => 0
theorem bat_at {w : World} {b o : Nat} {l : List UInt8} (h : ∀ i (h : i < l.length), w.cell? ⟨b, o + i, none⟩ = some (.int .u8 (l[i]).toNat)) (j : Nat) (hj : j < l.length) : w.cell? ⟨b, o + j, none⟩ = some (.int .u8 (l.getD j 0).toNat) := by
  rw [h j hj, List.getD_eq_getElem?_getD, List.getElem?_eq_getElem hj]; rfl
theorem bat_take {w : World} {a : Option Addr} {l : List UInt8} (h : BAt w a l) (n : Nat) : BAt w a (l.take n) := fun hp => by
  rw [List.length_take] at hp
  obtain ⟨b, o, rfl, h1, h2⟩ := h (by omega)
  refine ⟨b, o, rfl, h1, fun i hi => ?_⟩
  rw [List.length_take] at hi
  rw [h2 i (by omega), List.getElem_take]

set_option maxHeartbeats 16000000 in
set_option maxRecDepth 100000 in
theorem rClean_is (l : List UInt8) (w : World) (hn : l.length ≤ 1000000) (hT : Lib.Utf8Tabs 1 2 w) :
    Calls Tryd.prog 18 #[.string ⟨l.toArray⟩] w fun e w' => e = .returned (.string ⟨(cleanT l).toArray⟩) ∧ Below w.heap.size w w' := by
  have HT := Lib.hid hT
  have B0 := Lib.hid (Below.refl w.heap.size w)
  have O0 := Lib.hid (show OwnF w.heap.size (.slice none 0 0) [] w from World.ownsRowF_nil w _ _ _)
  obtain ⟨f, hf⟩ : ∃ f, f = freeT l := ⟨_, rfl⟩
  have F0 := Lib.hid (show f = [] ++ freeT l from hf)
  have HF := Lib.hid hf
  clear hT hf
  go_enter Tryd.func18, Tryd.ntmps18
  go_wp2_with fail
  go_loopw [0, 3] (fun v0 v3 wr => ∃ x out : List UInt8, v0 = .string ⟨x.toArray⟩ ∧ f = out ++ freeT x ∧ out.length + x.length ≤ l.length ∧ OwnF w.heap.size v3 out wr ∧ Below w.heap.size w wr) (fun v0 _ _ => Lib.strSize v0)
  case atStart => exact ⟨l, [], rfl, F0.out, by simp, O0.out, B0.out⟩
  case round =>
    clear F0 O0 B0
    obtain ⟨x, out, rfl, hfo, hlen, hown, hbr⟩ := hrel
    have FO := Lib.hid hfo
    have OW := Lib.hid hown
    have HB := Lib.hid hbr
    have hwr := hbr.size
    clear hfo hown hbr
    have hsz := size_toArray x
    by_cases hx : x = []
    · have hdone := FO.out
      rw [hx] at hdone
      have hd2 : f = out := by rw [hdone]; simp [freeT, pieces_nil]
      subst hx
      subst hd2
      obtain ⟨a, c, rfl, hc1, hc2, hbat⟩ := ownF_shape OW.out
      have BA := Lib.hid hbat
      have fl : f.length ≤ 1000000 := by simp at hlen; omega
      clear hdone OW FO hbat hlen hsz
      go_wp2_with fail
      go_loopw [3] (fun v3 wz => ∃ (a : Option Addr) (c : Nat) (m : List UInt8), v3 = .slice a m.length c ∧ m.length ≤ c ∧ c ≤ maxLen ∧ Lib.trimLeftB f 32 = Lib.trimLeftB m 32 ∧ m.length ≤ 1000000 ∧ BAt wz a m ∧ Below w.heap.size w wz) (fun v3 _ => slLen v3)
      case atStart => exact ⟨a, c, f, rfl, hc1, hc2, rfl, fl, BA.out, HB.out⟩
      case round =>
        clear BA HB hc1 hc2 fl hwr
        obtain ⟨a2, c2, m, rfl, hc2a, hc2b, htl, hml, hb2, hh2⟩ := hrel
        unfold maxLen at hc2b
        have B2 := Lib.hid hb2
        have H2 := Lib.hid hh2
        have TL := Lib.hid htl
        clear hb2 hh2 htl
        by_cases hm0 : m.length = 0
        · obtain rfl : m = [] := List.eq_nil_of_length_eq_zero hm0
          have EQ := Lib.hid (show cleanT l = [] by
            have h := clean_left l
            rw [← HF.out, TL.out] at h
            have h2 : (lstrip (pieces l)).flatten = [] := h.symm
            have h3 := clean_right l
            rw [← h3]
            have h4 : (cutT l).length ≤ 0 := by
              have h5 : fitL 200 (lstrip (pieces l)) = lstrip (pieces l) := fit_all _ _ (by rw [h2]; simp)
              unfold cutT
              rw [h5, h2]; simp
            rw [List.eq_nil_of_length_eq_zero (show (cutT l).length = 0 by omega)]; rfl)
          have cv := B2.out.conv (P := Tryd.prog) c2 50 5 Tryd.underlying50 Tryd.underlying5 9 Tryd.underlying9
          have hsl := fun u => bs_head a2 0 c2 0 0 rfl (by omega) u
          rw [List.length_nil] at cv
          clear hm0
          go_wp2_with fail
          refine wp_loop_rounds 1 ?_
          rw [rounds_succ]
          go_wp2_with fail
          refine wp_loop_rounds 1 ?_
          rw [rounds_succ]
          go_wp2
          go_ret
          exact ⟨by rw [EQ.out]; rfl, H2.out⟩
        · have hmp : 0 < m.length := by omega
          obtain ⟨b, o, ha2, _, hcs⟩ := B2.out hmp
          have hcell := bat_at hcs 0 hmp
          rw [Nat.add_zero] at hcell
          have TB := Lib.hid (trimL_blank m hmp)
          have TK := Lib.hid (trimL_keep m hmp)
          obtain ⟨y, hy⟩ : ∃ y : UInt8, y = m.getD 0 0 := ⟨_, rfl⟩
          rw [← hy] at hcell TB TK
          have j1 : (0 : Int) < (m.length : Int) := by omega
          clear hy hcs
          by_cases y32 : y.toNat = 32
          · have fy : (((y.toNat : Nat) : Int) == 32) = true := by rw [y32]; rfl
            have NX := Lib.hid (TL.out.trans (TB.out y32))
            obtain ⟨a3, hsl3, hba3⟩ := bs_tail a2 m.length c2 1 m rfl (by omega) hc2a
            have hsl3 := fun u => hsl3 1 u rfl
            have B3 := Lib.hid (hba3 _ B2.out)
            have DL := Lib.hid (show (m.drop 1).length = m.length - 1 by rw [List.length_drop])
            subst ha2
            clear y32 TB TK hba3
            go_wp2
            go_roundw
            case rel => exact ⟨a3, c2 - 1, m.drop 1, by rw [DL.out], by rw [DL.out]; omega, by unfold maxLen; omega, NX.out, by rw [DL.out]; omega, B3.out, H2.out⟩
            case measure => simp [slLen]; omega
          · have fy : (((y.toNat : Nat) : Int) == 32) = false := by rw [beq_eq_false_iff_ne]; omega
            obtain ⟨gs, hgs⟩ : ∃ gs, gs = lstrip (pieces l) := ⟨_, rfl⟩
            have hmg : m = gs.flatten := by rw [hgs, ← clean_left, ← HF.out, TL.out]; exact (TK.out y32).symm
            have GR : ∀ g ∈ gs, Rune g := by rw [hgs]; exact lstrip_rune l
            have GNX := Lib.hid (fun e (h : Mid gs e) (he : e < m.length) => (by rw [hmg] at he ⊢; exact h.next GR he : Mid gs (e + widL (m.drop e)) ∧ (e ≤ 200 → 200 < e + widL (m.drop e) → (fitL 200 gs).flatten = m.take e)))
            have GLE := Lib.hid (fun e (h : Mid gs e) => (by rw [hmg]; exact h.le : e ≤ m.length))
            have GALL := Lib.hid (fun h : m.length ≤ 200 => (by rw [fit_all gs 200 (by rw [← hmg]; exact h), ← hmg] : (fitL 200 gs).flatten = m))
            have CR := Lib.hid (show Lib.trimRightB (fitL 200 gs).flatten 32 = cleanT l by rw [hgs]; exact clean_right l)
            rw [ha2] at B2
            subst ha2
            clear y32 TB TK hmg GR hgs HF TL
            go_wp2_with fail
            go_loopw [6] (fun v6 wz => ∃ e : Nat, Mid gs e ∧ e ≤ 200 ∧ v6 = .int .i64 e ∧ BAt wz (some ⟨b, o, none⟩) m ∧ Below w.heap.size w wz) (fun v6 _ => m.length - (intOf v6).toNat)
            case atStart => exact ⟨0, Mid.start gs, by omega, rfl, B2.out, H2.out⟩
            case round =>
              clear B2 H2
              obtain ⟨e0, hmid, he200, rfl, hb3, hh3⟩ := hrel
              have B3 := Lib.hid hb3
              have H3 := Lib.hid hh3
              have MLE := GLE.out e0 hmid
              have MID := Lib.hid hmid
              clear hmid hb3 hh3
              by_cases hlt : e0 < m.length
              · obtain ⟨a3, hsl3, hba3⟩ := bs_tail (some ⟨b, o, none⟩) m.length c2 e0 m rfl (by omega) hc2a
                have hsl3 := fun u => hsl3 ((e0 : Nat) : Int) u rfl
                have cD := DecB_is (m.drop e0) (drop_ne m e0 hlt) a3 (c2 - e0) _ (hba3 _ B3.out) (Utf8Tabs_below HT.out H3.out)
                have k1 := wid_pos (m.drop e0)
                have k2 := wid_le (m.drop e0) (drop_ne m e0 hlt)
                rw [List.length_drop] at cD k2
                obtain ⟨nx1, nx2⟩ := GNX.out e0 MID.out hlt
                have NX1 := Lib.hid nx1
                have NX2 := Lib.hid nx2
                generalize widL (m.drop e0) = k at cD k1 k2 NX1 NX2
                generalize (Lib.decodeL (m.drop e0)).1 = r at cD
                have j1 : (0 : Int) ≤ (e0 : Int) := by omega
                have j2 : (e0 : Int) < (m.length : Int) := by omega
                clear hba3 nx1 nx2
                by_cases hbk : 200 < e0 + k
                · have hbk2 : ((e0 : Int) + (k : Int) > 200) = True := by simp; omega
                  have START := Lib.hid (show Lib.trimRightB (m.take e0) 32 = cleanT l by rw [← NX2.out he200 hbk]; exact CR.out)
                  clear hbk NX1 NX2 MID
                  go_wp2_with fail
                  refine cD.mono ?_
                  rintro e w5 ⟨rfl, b5⟩
                  have hb5 := B3.out.keep b5
                  have hh5 := H3.out.trans (b5.mono H3.out.size)
                  clear B3 H3 b5 cD
                  have B3 := Lib.hid hb5
                  have H3 := Lib.hid hh5
                  clear hb5 hh5
                  go_wp2_with fail
                  go_loopw [6] (fun v6 wz => ∃ e : Nat, e ≤ m.length ∧ v6 = .int .i64 e ∧ Lib.trimRightB (m.take e) 32 = cleanT l ∧ BAt wz (some ⟨b, o, none⟩) m ∧ Below w.heap.size w wz) (fun v6 _ => (intOf v6).toNat)
                  case atStart => exact ⟨e0, by omega, rfl, START.out, B3.out, H3.out⟩
                  case round =>
                    clear START B3 H3
                    obtain ⟨e4, he4, rfl, htr, hbz, hz⟩ := hrel
                    have BZ := Lib.hid hbz
                    have HZ := Lib.hid hz
                    have TR := Lib.hid htr
                    clear hbz hz htr
                    cases e4 with
                    | zero =>
                      have EQ := Lib.hid (show cleanT l = m.take 0 by rw [← TR.out]; rfl)
                      have lt0 : (m.take 0).length = 0 := by simp
                      have cv := (bat_take BZ.out (0)).conv (P := Tryd.prog) c2 50 5 Tryd.underlying50 Tryd.underlying5 9 Tryd.underlying9
                      rw [lt0] at cv
                      have hsl := fun u => bs_head (some ⟨b, o, none⟩) m.length c2 (0 : Nat) ((0 : Nat) : Int) rfl (by omega) u
                      go_wp2
                      go_ret
                      exact ⟨by rw [EQ.out]; rfl, HZ.out⟩
                    | succ j =>
                      have hj : j < m.length := by omega
                      obtain ⟨b2, o2, ha2, _, hcs⟩ := BZ.out (by omega)
                      cases ha2
                      have hcell := bat_at hcs j hj
                      have TO := Lib.hid (take_one_more m j hj)
                      have j1 : (0 : Int) ≤ (j : Int) := by omega
                      have j2 : (j : Int) < (m.length : Int) := by omega
                      obtain ⟨y, hy⟩ : ∃ y : UInt8, y = m.getD j 0 := ⟨_, rfl⟩
                      rw [← hy] at hcell TO
                      clear hy hcs
                      by_cases y32 : y.toNat = 32
                      · have fy : (((y.toNat : Nat) : Int) == 32) = true := by rw [y32]; rfl
                        have NX := Lib.hid (show Lib.trimRightB (m.take j) 32 = cleanT l by rw [← TR.out, TO.out, show y = 32 from UInt8.toNat_inj.1 (by simpa using y32), trimR_blank])
                        clear y32
                        go_wp2
                        go_roundw
                        case rel => exact ⟨j, by omega, by first | rfl | (simp; done) | (congr 1; omega), NX.out, BZ.out, HZ.out⟩
                        case measure => simp [intOf]
                      · have fy : (((y.toNat : Nat) : Int) == 32) = false := by rw [beq_eq_false_iff_ne]; omega
                        have EQ := Lib.hid (show cleanT l = m.take (j + 1) by rw [← TR.out, TO.out, trimR_keep _ _ y32])
                        have lt1 : (m.take (j + 1)).length = j + 1 := by rw [List.length_take]; omega
                        clear y32
                        have cv := (bat_take BZ.out (j + 1)).conv (P := Tryd.prog) c2 50 5 Tryd.underlying50 Tryd.underlying5 9 Tryd.underlying9
                        rw [lt1] at cv
                        have hsl := fun u => bs_head (some ⟨b, o, none⟩) m.length c2 (j + 1 : Nat) ((j + 1 : Nat) : Int) rfl (by omega) u
                        go_wp2
                        go_ret
                        exact ⟨by rw [EQ.out]; rfl, HZ.out⟩
                · have hbk2 : ((e0 : Int) + (k : Int) > 200) = False := by simp; omega
                  go_wp2_with fail
                  refine cD.mono ?_
                  rintro e w5 ⟨rfl, b5⟩
                  have hb5 := B3.out.keep b5
                  have hh5 := H3.out.trans (b5.mono H3.out.size)
                  go_wp2
                  go_roundw
                  case rel => exact ⟨e0 + k, NX1.out, by omega, by go_num, hb5, hh5⟩
                  case measure => simp [intOf]; omega
              · obtain rfl : e0 = m.length := by omega
                have START := Lib.hid (show Lib.trimRightB (m.take m.length) 32 = cleanT l by rw [List.take_length, ← GALL.out (by omega)]; exact CR.out)
                obtain ⟨e0, he0⟩ : ∃ e0, e0 = m.length := ⟨_, rfl⟩
                rw [← he0] at START
                have hge : ((m.length : Int) < (m.length : Int)) = False := by simp
                clear MID
                go_wp2_with fail
                go_loopw [6] (fun v6 wz => ∃ e : Nat, e ≤ m.length ∧ v6 = .int .i64 e ∧ Lib.trimRightB (m.take e) 32 = cleanT l ∧ BAt wz (some ⟨b, o, none⟩) m ∧ Below w.heap.size w wz) (fun v6 _ => (intOf v6).toNat)
                case atStart => exact ⟨e0, by omega, by rw [he0], START.out, B3.out, H3.out⟩
                case round =>
                  clear START B3 H3
                  obtain ⟨e4, he4, rfl, htr, hbz, hz⟩ := hrel
                  have BZ := Lib.hid hbz
                  have HZ := Lib.hid hz
                  have TR := Lib.hid htr
                  clear hbz hz htr
                  cases e4 with
                  | zero =>
                    have EQ := Lib.hid (show cleanT l = m.take 0 by rw [← TR.out]; rfl)
                    have lt0 : (m.take 0).length = 0 := by simp
                    have cv := (bat_take BZ.out (0)).conv (P := Tryd.prog) c2 50 5 Tryd.underlying50 Tryd.underlying5 9 Tryd.underlying9
                    rw [lt0] at cv
                    have hsl := fun u => bs_head (some ⟨b, o, none⟩) m.length c2 (0 : Nat) ((0 : Nat) : Int) rfl (by omega) u
                    go_wp2
                    go_ret
                    exact ⟨by rw [EQ.out]; rfl, HZ.out⟩
                  | succ j =>
                    have hj : j < m.length := by omega
                    obtain ⟨b2, o2, ha2, _, hcs⟩ := BZ.out (by omega)
                    cases ha2
                    have hcell := bat_at hcs j hj
                    have TO := Lib.hid (take_one_more m j hj)
                    have j1 : (0 : Int) ≤ (j : Int) := by omega
                    have j2 : (j : Int) < (m.length : Int) := by omega
                    obtain ⟨y, hy⟩ : ∃ y : UInt8, y = m.getD j 0 := ⟨_, rfl⟩
                    rw [← hy] at hcell TO
                    clear hy hcs
                    by_cases y32 : y.toNat = 32
                    · have fy : (((y.toNat : Nat) : Int) == 32) = true := by rw [y32]; rfl
                      have NX := Lib.hid (show Lib.trimRightB (m.take j) 32 = cleanT l by rw [← TR.out, TO.out, show y = 32 from UInt8.toNat_inj.1 (by simpa using y32), trimR_blank])
                      clear y32
                      go_wp2
                      go_roundw
                      case rel => exact ⟨j, by omega, by first | rfl | (simp; done) | (congr 1; omega), NX.out, BZ.out, HZ.out⟩
                      case measure => simp [intOf]
                    · have fy : (((y.toNat : Nat) : Int) == 32) = false := by rw [beq_eq_false_iff_ne]; omega
                      have EQ := Lib.hid (show cleanT l = m.take (j + 1) by rw [← TR.out, TO.out, trimR_keep _ _ y32])
                      have lt1 : (m.take (j + 1)).length = j + 1 := by rw [List.length_take]; omega
                      clear y32
                      have cv := (bat_take BZ.out (j + 1)).conv (P := Tryd.prog) c2 50 5 Tryd.underlying50 Tryd.underlying5 9 Tryd.underlying9
                      rw [lt1] at cv
                      have hsl := fun u => bs_head (some ⟨b, o, none⟩) m.length c2 (j + 1 : Nat) ((j + 1 : Nat) : Int) rfl (by omega) u
                      go_wp2
                      go_ret
                      exact ⟨by rw [EQ.out]; rfl, HZ.out⟩
    · have hpos : 0 < x.length := by cases x with | nil => exact absurd rfl hx | cons _ _ => simp
      have cD := Dec_is x hx wr (Utf8Tabs_below HT.out HB.out)
      have hget := fun h2 => getD_mk x 0 hpos h2
      have EXT := Lib.hid (ext_upto x)
      have EXF := Lib.hid (fun k => ext_from x k x.length rfl)
      have MS := Lib.hid (show Lib.strSize (.string ⟨x.toArray⟩) = x.length by rw [Lib.strSize_string, size_toArray])
      have k1 := wid_pos x
      have kx := wid_le x hx
      have PUT := Lib.hid (free_put f out x FO.out hx)
      have PASS := Lib.hid (free_pass f out x FO.out hx)
      have GOOD := Lib.hid (show goodL x ↔ ¬ ((Lib.decodeL x).1 = 65533 ∧ widL x = 1) from Iff.rfl)
      have KEEP := Lib.hid (show keepL x ↔ goodL x ∧ ¬ (widL x = 1 ∧ barB (x.getD 0 0) = true) from Iff.rfl)
      generalize (⟨x.toArray⟩ : ByteArray) = s at hsz cD hget EXT EXF MS ⊢
      have hx0 := hget (by omega)
      clear hget
      generalize x.getD 0 0 = c at hx0 KEEP
      generalize hk : widL x = k at cD k1 kx PUT PASS GOOD KEEP
      generalize hr : (Lib.decodeL x).1 = r at cD GOOD
      clear hk hr FO
      have tl := Lib.hid (show (x.take k).length = k by rw [List.length_take]; omega)
      have dl := Lib.hid (show (x.drop k).length = x.length - k by rw [List.length_drop])
      have i0 : (0 : Int) ≤ (k : Int) := by omega
      have i1 : (k : Int) ≤ (s.size : Int) := by omega
      have i2 : (k : Int) ≤ (x.length : Int) := by omega
      have hsp : (0 : Int) < (s.size : Int) := by omega
      have hsp2 : (0 : Int) < (x.length : Int) := by omega
      have cB := fun w => rbarred_is c w
      by_cases k2 : k = 1
      · have f2 : ((k : Int) == 1) = true := by rw [k2]; rfl
        have f3 : ((k : Int) > 1) = False := by simp; omega
        by_cases r2 : r = 65533
        · have f4 : ((r : Int) != 65533) = false := by rw [r2]; rfl
          have P := Lib.hid (PASS.out (fun h => GOOD.out.1 h.1 ⟨r2, k2⟩))
          clear cB PUT PASS GOOD KEEP r2 k2
          go_wp2_with fail
          refine cD.mono ?_
          rintro e w2 ⟨rfl, b2⟩
          go_wp2
          go_roundw
          case rel => exact ⟨x.drop k, out, by rw [EXF.out], P.out, by rw [dl.out]; omega, ownF_below OW.out b2, HB.out.trans (b2.mono hwr)⟩
          case measure => rw [MS.out, EXF.out, Lib.strSize_string, size_toArray, dl.out]; omega
        · have f4 : ((r : Int) != 65533) = true := by rw [bne_iff_ne]; omega
          cases hb : barB c with
          | true =>
            have P := Lib.hid (PASS.out (fun h => (KEEP.out.1 h).2 ⟨k2, hb⟩))
            rw [hb] at cB
            clear PUT PASS GOOD KEEP r2 k2 hb
            go_wp2_with fail
            refine cD.mono ?_
            rintro e w2 ⟨rfl, b2⟩
            go_wp2_with fail
            refine (cB _).mono ?_
            rintro e w3 ⟨rfl, rfl⟩
            go_wp2
            go_roundw
            case rel => exact ⟨x.drop k, out, by rw [EXF.out], P.out, by rw [dl.out]; omega, ownF_below OW.out b2, HB.out.trans (b2.mono hwr)⟩
            case measure => rw [MS.out, EXF.out, Lib.strSize_string, size_toArray, dl.out]; omega
          | false =>
            have P := Lib.hid (PUT.out (KEEP.out.2 ⟨GOOD.out.2 (fun h => r2 h.1), fun h => by rw [hb] at h; cases h.2⟩))
            rw [hb] at cB
            clear PUT PASS GOOD KEEP r2 k2 hb
            go_wp2_with fail
            refine cD.mono ?_
            rintro e w2 ⟨rfl, b2⟩
            have O2 := Lib.hid (ownF_below OW.out b2)
            have B2 := Lib.hid (HB.out.trans (b2.mono hwr))
            clear b2
            go_wp2_with fail
            refine (cB _).mono ?_
            rintro e w3 ⟨rfl, rfl⟩
            go_wp2_with (first
              | (at_builtin; refine wpList_append_str rfl _ _ rfl w.heap.size _ out (x.take k) _ rfl rfl (EXT.out k) O2.out (by rw [tl.out]; omega) B2.out.size ?_)
              | fail)
            intro v4 w4 o4 g4
            have hb4 := B2.out.grown g4 B2.out.size (fun j hj => (O2.out.lt j hj).1)
            go_wp2
            go_roundw
            case rel => exact ⟨x.drop k, out ++ x.take k, by rw [EXF.out], P.out, by rw [List.length_append, tl.out, dl.out]; omega, o4, hb4⟩
            case measure => rw [MS.out, EXF.out, Lib.strSize_string, size_toArray, dl.out]; omega
      · have f2 : ((k : Int) == 1) = false := by rw [beq_eq_false_iff_ne]; omega
        have f3 : ((k : Int) > 1) = True := by simp; omega
        have P := Lib.hid (PUT.out (KEEP.out.2 ⟨GOOD.out.2 (fun h => k2 h.2), fun h => k2 h.1⟩))
        by_cases r2 : r = 65533
        · have f4 : ((r : Int) != 65533) = false := by rw [r2]; rfl
          clear cB PUT PASS GOOD KEEP r2 k2
          go_wp2_with fail
          refine cD.mono ?_
          rintro e w2 ⟨rfl, b2⟩
          have O2 := Lib.hid (ownF_below OW.out b2)
          have B2 := Lib.hid (HB.out.trans (b2.mono hwr))
          clear b2
          go_wp2_with (first
            | (at_builtin; refine wpList_append_str rfl _ _ rfl w.heap.size _ out (x.take k) _ rfl rfl (EXT.out k) O2.out (by rw [tl.out]; omega) B2.out.size ?_)
            | fail)
          intro v4 w4 o4 g4
          have hb4 := B2.out.grown g4 B2.out.size (fun j hj => (O2.out.lt j hj).1)
          go_wp2
          go_roundw
          case rel => exact ⟨x.drop k, out ++ x.take k, by rw [EXF.out], P.out, by rw [List.length_append, tl.out, dl.out]; omega, o4, hb4⟩
          case measure => rw [MS.out, EXF.out, Lib.strSize_string, size_toArray, dl.out]; omega
        · have f4 : ((r : Int) != 65533) = true := by rw [bne_iff_ne]; omega
          clear cB PUT PASS GOOD KEEP r2 k2
          go_wp2_with fail
          refine cD.mono ?_
          rintro e w2 ⟨rfl, b2⟩
          have O2 := Lib.hid (ownF_below OW.out b2)
          have B2 := Lib.hid (HB.out.trans (b2.mono hwr))
          clear b2
          go_wp2_with (first
            | (at_builtin; refine wpList_append_str rfl _ _ rfl w.heap.size _ out (x.take k) _ rfl rfl (EXT.out k) O2.out (by rw [tl.out]; omega) B2.out.size ?_)
            | fail)
          intro v4 w4 o4 g4
          have hb4 := B2.out.grown g4 B2.out.size (fun j hj => (O2.out.lt j hj).1)
          go_wp2
          go_roundw
          case rel => exact ⟨x.drop k, out ++ x.take k, by rw [EXF.out], P.out, by rw [List.length_append, tl.out, dl.out]; omega, o4, hb4⟩
          case measure => rw [MS.out, EXF.out, Lib.strSize_string, size_toArray, dl.out]; omega
end Go.Proofs.YtagfnnpklefhhaaDoor
