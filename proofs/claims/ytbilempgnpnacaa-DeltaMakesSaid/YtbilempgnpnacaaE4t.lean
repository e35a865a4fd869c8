/-
  Layer 14, the program: Parse.
-/
import Derived.Test.YtbilempgnpnacaaE4s
import Derived.Deep.LoopGhost
namespace Go.Proofs.Ytbilempgnpnacaa
set_option maxRecDepth 20000
open Go.RowKit
set_option linter.unusedVariables false
set_option linter.unusedSimpArgs false

theorem sizeQ_len {r : List UInt8} (h : r ≠ []) : (r.drop (sizeQ r)).length + 1 ≤ r.length := sizeQ_pos r h
/-- next, whatever is left. -/
theorem next_any {w0 w : World} {g : Nat} {v : Value} {r : List UInt8} (h : RdP w0 w g v r 0) (hm : r.length ≤ 1000000) :
    Calls Try.prog 25 #[.pointer (some ⟨g, 0, none⟩)] w fun x w' => ∃ (A : Array Value) (ok : Bool) (v' : Value) (r' : List UInt8) (e' : Nat), x = .returned (.tuple #[.agg A, .bool ok]) ∧ A.size = 3 ∧ A.all (·.oneCell') = true ∧ RdP w0 w' g v' r' e' ∧ Off g w w' ∧
      (ok = true → e' = 0 ∧ r'.length + 1 ≤ r.length ∧ ∃ y : Edc, A = arrDl y.f y.t y.v ∧ okDl y ∧ Row w' y.v y.b ∧ (∀ k, foot y.v = some k → w.heap.size ≤ k) ∧ parseQ r = (y.x :: (parseQ r').1, (parseQ r').2)) ∧
      (ok = false → parseQ r = ([], e')) := by
  by_cases hr : r = []
  · subst hr
    refine (next_nil h).mono ?_
    rintro x w' ⟨rfl, h1, h2⟩
    exact ⟨zED, false, v, [], 0, rfl, rfl, arrDl_one _ _ _ _ _, h1, h2, fun q => (by cases q), fun _ => parseQ_nil⟩
  · refine (next_some h hr hm).mono ?_
    rintro x w' ⟨v', r', h1, h2, h3, h4⟩
    by_cases he : errQ r = 0
    · obtain ⟨k1, a, c, rfl, k2, k3⟩ := h4 he
      refine ⟨_, true, v', r', 0, rfl, rfl, arrDl_one _ _ _ _ _, by rw [he] at h1; exact h1, h2, fun _ => ⟨rfl, by rw [k1]; exact sizeQ_len hr, ⟨(editQ r).1, (editQ r).2.1, .slice a (editQ r).2.2.length c, (editQ r).2.2⟩, rfl, ⟨_, _, _, rfl⟩, k2, k3, ?_⟩, fun q => by cases q⟩
      rw [parseQ_next hr he, ← k1]
      rfl
    · exact ⟨zED, false, v', r', errQ r, h3 he, rfl, arrDl_one _ _ _ _ _, h1, h2, fun q => (by cases q), fun _ => parseQ_err hr he⟩
theorem zReader : (Try.prog.info? 50).map (fun i => (i.zero, i.size)) = some (some (.agg #[.slice none 0 0, .int .i64 0]), 2) := by kernel_rfl
theorem infoReader : (Try.prog.info? 50).map (·.size) = some 2 := by kernel_rfl
theorem builtReader (a : Option Addr) (n c : Nat) : Try.prog.built 50 [(0, .slice a n c)] = some #[.slice a n c, .int .i64 0] := by kernel_rfl
/-- What next has told, behind some edits. -/
theorem PaK.next {w u : World} {raw r r' : List UInt8} {g p e' : Nat} {own : Option Nat} {l : List Edc} {A : Array Value} {ok : Bool} {lo : Nat}
    (hpq : parseQ raw = (l.map Edc.x ++ (parseQ r).1, (parseQ r).2)) (hl : l.length + r.length ≤ raw.length)
    (h1 : ok = true → e' = 0 ∧ r'.length + 1 ≤ r.length ∧ ∃ y : Edc, A = arrDl y.f y.t y.v ∧ okDl y ∧ Row u y.v y.b ∧ (∀ k, foot y.v = some k → lo ≤ k) ∧ parseQ r = (y.x :: (parseQ r').1, (parseQ r').2)) (h2 : ok = false → parseQ r = ([], e'))
    (hap : ∀ k, lo ≤ k → k < u.heap.size → k ≠ g ∧ own ≠ some k ∧ k ≠ p) (hlo : w.heap.size ≤ lo) : PaK w raw u g p own l r' e' A r.length ok := by
  refine ⟨by omega, ?_⟩
  cases ok with
  | true =>
    rw [if_pos rfl]
    obtain ⟨h3, h4, y, h5, h6, h7, h8, h9⟩ := h1 rfl
    exact ⟨h3, by omega, by omega, y, h5, ⟨h6, h7, fun k hk => hap k (h8 k hk) (h7.lt k hk), fun k hk => Nat.le_trans hlo (h8 k hk)⟩, by rw [hpq, h9]⟩
  | false =>
    rw [if_neg (by decide)]
    rw [hpq, h2 rfl, List.append_nil]
/-- Edits in blocks that are new. -/
def EdF (lo : Nat) (ao : Option Addr) (l : List Edc) : Prop := (∀ ad, ao = some ad → lo ≤ ad.block) ∧ ∀ x ∈ l, ∀ k, foot x.v = some k → lo ≤ k
theorem EdAt.chg {S : Nat → Prop} {u u' : World} {ao : Option Addr} {l : List Edc} {lo : Nat} (h : EdAt u ao l) (hf : EdF lo ao l) (hc : Chg S u u') (hs : ∀ k, S k → k < lo) : EdAt u' ao l := by
  refine ⟨fun hp => ?_, fun x hx => ?_⟩
  · obtain ⟨b, o, e, hb, hcell⟩ := h.1 hp
    refine ⟨b, o, e, Nat.lt_of_lt_of_le hb hc.size, fun k hk j v hv => ?_⟩
    rw [← hcell k hk j v hv]
    exact World.cell?_of_block (w := u) (a := ⟨b, o + k * rowDl.size + j, none⟩) (hc.block b hb (fun q => absurd (hs b q) (by have := hf.1 _ e; simp only at this; omega)))
  · obtain ⟨a, c, e, h1, h2, h3, h4⟩ := h.2 x hx
    refine ⟨a, c, e, fun hp => ?_, h2, h3, h4⟩
    obtain ⟨b, o, e2, hb, hcell⟩ := h1 hp
    refine ⟨b, o, e2, Nat.lt_of_lt_of_le hb hc.size, fun i hi => ?_⟩
    rw [← hcell i hi]
    obtain ⟨c', rfl⟩ : ∃ c', c = c' + 1 := ⟨c - 1, by omega⟩
    have hft := hf.2 x hx b (by rw [e, e2, foot_succ])
    exact World.cell?_of_block (w := u) (a := ⟨b, o + i, none⟩) (hc.block b hb (fun q => absurd (hs b q) (by omega)))
set_option maxHeartbeats 16000000 in
theorem Parse_is (a : Option Addr) (n c : Nat) (raw : List UInt8) (w : World) (h : Red w (.slice a n c) raw) (hm : n ≤ 1000000) :
    Calls Try.prog 12 #[.slice a n c] w fun e w' => ∃ (ao : Option Addr) (k cc : Nat) (l : List Edc), e = .returned (.tuple #[.slice ao k cc, .int .i64 ((parseQ raw).2 : Nat)]) ∧ k = l.length ∧ l.map Edc.x = outQ raw ∧ EdAt w' ao l ∧ EdF w.heap.size ao l ∧ Below w.heap.size w w' := by
  obtain ⟨z, hz, hzs, hzv, hzb, hz1⟩ := zEdit_any
  have hzr := zero_arr zReader
  have hn := (redP h).1
  have ZS := Lib.hid hzs; have Z1 := Lib.hid hz1
  have R0 := Lib.hid (show RdP w (w.alloc (.cells #[.slice a n c, .int .i64 0] 50)) w.heap.size (.slice a n c) raw 0 from ⟨heap_alloc_new w _, h, (Below.refl _ w).alloc (Nat.le_refl _) _, Nat.le_refl _⟩)
  have S0 := Lib.hid (show (w.alloc (.cells #[.slice a n c, .int .i64 0] 50)).heap.size = w.heap.size + 1 by simp)
  have HN := Lib.hid hn
  have BR := Lib.hid (builtReader a n c)
  clear h hz hzs hzb hz1 hn
  go_enter Try.func12, Try.ntmps12
  go_wp2_with (first
    | (refine wpList_build_one rfl 50 0 (.tmp 8) rfl (.slice a n c) rfl _ BR.out ?_)
    | fail)
  refine (next_any R0.out (by have := HN.out; omega)).mono ?_
  rintro x w1 ⟨A, ok, v1, r1, e1, rfl, hA3, hA1, hrd, hof, hok, hno⟩
  have G0 := Lib.hid (show w.heap.size + 1 ≤ w1.heap.size by have := hof.size; have := S0.out; omega)
  have IA := Lib.hid (info_edit A hA3); have A1 := Lib.hid hA1; have A3 := Lib.hid hA3
  have SZ := Lib.hid (show A.size = z.size by rw [A3.out, ZS.out])
  have N1 := Lib.hid (heap_alloc_new w1 (.cells z 34))
  have RD1 := Lib.hid hrd
  have K1 := Lib.hid (show PaK w raw w1 w.heap.size w1.heap.size none [] r1 e1 A raw.length ok from
    PaK.next (r := raw) (lo := w.heap.size + 1) rfl (by simp) (fun q => by
      obtain ⟨h3, h4, y, h5, h6, h7, h8, h9⟩ := hok q
      exact ⟨h3, h4, y, h5, h6, h7, fun k hk => by have := h8 k hk; have := S0.out; omega, h9⟩) hno (fun k h1 h2 => ⟨by omega, by simp, by omega⟩) (by omega))
  clear hrd hof hok hno hA3 hA1 R0
  go_wp2_with (first
    | (with_reducible refine wpList_store_all rfl 34 (.tmp 6) (.tmp 12) rfl w1.heap.size A rfl rfl 34 z N1.out IA.out SZ.out A1.out ?_; intro w2 hg2 ho2 hs2)
    | fail)
  have b2 := ((Below.refl w1.heap.size w1).alloc (Nat.le_refl _) (.cells z 34)).trans (ho2.below (B := w1.heap.size) (Nat.le_refl _) (by simp))
  have T2 := Lib.hid (show PaT w w2 w.heap.size w1.heap.size (.slice none 0 0) [] v1 r1 e1 A from ⟨ownR_nil _ _, fun x hx => (by cases hx), RD1.out.keep b2, hg2, RD1.out.below.size, (by have := G0.out; omega), (fun e => by cases e), (fun e => by cases e)⟩)
  have K2 := Lib.hid (K1.out.keep fun k hk _ _ _ => b2.block k hk)
  clear b2 hg2 ho2 hs2 K1 RD1 N1
  go_loopg [4, 6, 7] raw.length (fun gh v4 v6 v7 wr => ∃ (p : Nat) (l : List Edc) (v' : Value) (r' : List UInt8) (e' : Nat) (C : Array Value) (ok : Bool), v6 = .pointer (some ⟨p, 0, none⟩) ∧ v7 = .bool ok ∧ PaT w wr w.heap.size p v4 l v' r' e' C ∧ (C.size = 3 ∧ C.all (·.oneCell') = true) ∧ PaK w raw wr w.heap.size p v4.ownBlock l r' e' C gh ok)
  case atStart => exact ⟨w1.heap.size, [], v1, r1, e1, A, ok, rfl, rfl, T2.out, ⟨A3.out, A1.out⟩, K2.out⟩
  case round =>
    clear T2 K2 A1 A3 SZ IA G0 S0
    obtain ⟨p, l, v', r', e', C, ok, rfl, rfl, ht, ⟨hc3, hc1⟩, hk⟩ := hrel
    have T := Lib.hid ht; have K := Lib.hid hk; have C3 := Lib.hid hc3; have C1 := Lib.hid hc1; have IC := Lib.hid (info_edit C hc3)
    clear ht hk hc3 hc1
    cases ok with
    | false =>
      have hpq := K.out.2
      rw [if_neg (by decide)] at hpq
      obtain ⟨-, d1, -, -⟩ := T.out.rd.cells
      obtain ⟨ao, ac, hv, hle, hmx, hrow, hnn, hbl⟩ := ownR_shape goodDl T.out.own (fun x hx => (T.out.rows x hx).ok)
      obtain ⟨k, hk⟩ : ∃ k, l.length = k := ⟨_, rfl⟩
      rw [hk] at hv
      subst hv
      have ED := Lib.hid (show EdAt wr ao l from ⟨hrow, fun x hx => (T.out.rows x hx).row.red⟩)
      have EF := Lib.hid (show EdF w.heap.size ao l from ⟨fun ad h => (hbl ad h).1, fun x hx => (T.out.rows x hx).new⟩)
      have PQ := Lib.hid hpq; have HK := Lib.hid hk
      have FB := Lib.hid T.out.rd.below
      clear hpq hrow hnn hk hbl T K
      by_cases he : e' = 0
      · subst he
        have OQ := Lib.hid (show l.map Edc.x = outQ raw by unfold outQ; rw [PQ.out, if_pos rfl])
        go_wp2
        go_ret2
        exact ⟨ao, k, ac, l, by rw [PQ.out]; rfl, HK.out.symm, OQ.out, ED.out, EF.out, FB.out⟩
      · have f1 : ((e' : Int) == 0) = false := by rw [beq_eq_false_iff_ne]; omega
        have f2 : ((e' : Int) != 0) = true := by simp [bne, f1]
        have OQ := Lib.hid (show ([] : List Edc).map Edc.x = outQ raw by unfold outQ; rw [PQ.out, if_neg he]; rfl)
        go_wp2_with fail
        go_quiet (fail)
        have FB2 := Lib.hid (below_drewN FB.out nq)
        go_wp2
        go_ret2
        exact ⟨none, 0, 0, [], by rw [PQ.out]; rfl, rfl, OQ.out, ⟨RowAt.nil _ _, fun x hx => (by cases hx)⟩, ⟨fun ad h => (by cases h), fun x hx => (by cases hx)⟩, FB2.out⟩
    | true =>
      have hpq := K.out.2
      rw [if_pos rfl] at hpq
      obtain ⟨rfl, hgk, hll, x, hC, hx, hpq⟩ := hpq
      have HX := Lib.hid hx; have PQ := Lib.hid hpq; have LL := Lib.hid hll; have HC := Lib.hid hC; have GK := Lib.hid hgk
      have RX := Lib.hid (show RowAt rowDl (wr.alloc (.cells C 34)) (some ⟨wr.heap.size, 0, none⟩) [x] from rowR_one (R := rowDl) (P := Try.prog) goodDl (t := 34) (fr := (0, 0)) (by rw [heap_alloc_new, hC]; rfl))
      have b0 := (Below.refl wr.heap.size wr).alloc (Nat.le_refl _) (.cells C 34)
      have OW := Lib.hid (ownR_below T.out.own b0)
      have SB := Lib.hid (show w.heap.size ≤ (wr.alloc (.cells C 34)).heap.size from Nat.le_trans T.out.rd.below.size b0.size)
      have LB := Lib.hid (show l.length + [x].length ≤ 1000000000 by have := HN.out; simp; omega)
      clear hpq hC hx hgk hll b0 K
      go_wp2_with (first
        | (with_reducible refine wpList_load_all 34 (.tmp 6) rfl (by kernel_rfl) p C 34 (0, 0) rfl T.out.cell _ Try.underlying34 rfl IC.out ?_)
        | (with_reducible refine wpList_load_all 34 (.tmp 6) rfl (by kernel_rfl) p C 34 (0, 0) rfl T5.out.cell _ Try.underlying34 rfl IC.out ?_)
        | (with_reducible refine wpList_build_oneE rfl (.tmp 20) rfl C C3.out rfl ?_)
        | (at_builtin; refine wpList_append_edit rfl (.tmp 19) (.tmp 21) rfl w.heap.size u4 l [x] (some ⟨wr.heap.size, 0, none⟩) 1 1 rfl rfl rfl RX.out (fun y hy => by rw [List.mem_singleton.1 hy]; exact HX.out.ok) (fun y hy => (T.out.rows y hy).ok) OW.out LB.out SB.out ?_; intro v5 w5 ho5 hg5 hn5; have T5 := Lib.hid (T.out.append HX.out (.cells C 34) ho5 hg5 hn5); clear ho5 hg5 hn5)
        | (with_reducible refine wpList_store_all rfl 34 (.tmp 6) (.tmp 23) rfl w5.heap.size C rfl rfl 34 z (heap_alloc_new w5 _) IC.out (by rw [C3.out, ZS.out]) C1.out ?_; intro w6 hg6 ho6 hs6)
        | fail)
      have b6 := ((Below.refl w5.heap.size w5).alloc (Nat.le_refl _) (.cells z 34)).trans (ho6.below (B := w5.heap.size) (Nat.le_refl _) (by simp))
      have T6 := Lib.hid (T5.out.move (p2 := w5.heap.size) b6 rfl hg6)
      obtain ⟨p2, hp2⟩ : ∃ p2, w5.heap.size = p2 := ⟨_, rfl⟩
      rw [hp2] at T6 ⊢
      clear b6 hg6 ho6 hs6 T5 T hp2 RX OW SB LB
      refine (next_any T6.out.rd (by have := LL.out; have := HN.out; omega)).mono ?_
      rintro y w7 ⟨A7, ok7, v7, r7, e7, rfl, hA3, hA1, hrd, hof, hok, hno⟩
      have T7 := Lib.hid (T6.out.read hrd hof)
      have IA7 := Lib.hid (info_edit A7 hA3); have A71 := Lib.hid hA1; have A73 := Lib.hid hA3
      have SZ7 := Lib.hid (show A7.size = C.size by rw [A73.out, C3.out])
      have K7 := Lib.hid (show PaK w raw w7 w.heap.size p2 v5.ownBlock (l ++ [x]) r7 e7 A7 r'.length ok7 from
        PaK.next (r := r') (lo := w6.heap.size) (by rw [PQ.out, List.map_append, List.append_assoc]; rfl) (by rw [List.length_append]; have := LL.out; simp; omega) hok hno (fun k h1 h2 => by
          have q1 := lt_of_heap T6.out.rd.cell
          have q2 := lt_of_heap T6.out.cell
          refine ⟨by omega, fun e => ?_, by omega⟩
          have := own_lt_size T6.out.own k e
          omega) T6.out.rd.below.size)
      clear hrd hof hok hno hA3 hA1 T6
      go_wp2_with (first
        | (with_reducible refine wpList_store_all rfl 34 (.tmp 6) (.tmp 17) rfl p2 A7 rfl rfl 34 C T7.out.cell IA7.out SZ7.out A71.out ?_; intro w8 hg8 ho8 hs8; have T8 := Lib.hid (T7.out.put hg8 ho8); have K8 := Lib.hid (K7.out.keep fun k hk _ _ h3 => ho8.block k hk h3); clear hg8 ho8 hs8)
        | fail)
      go_roundg (r'.length)
      case measure => exact GK.out
      case rel => exact ⟨p2, l ++ [x], v7, r7, e7, A7, ok7, rfl, rfl, T8.out, ⟨A73.out, A71.out⟩, K8.out⟩
end Go.Proofs.Ytbilempgnpnacaa
