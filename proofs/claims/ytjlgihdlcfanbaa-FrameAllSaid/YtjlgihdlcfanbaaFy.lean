/-
  Layer 5: lists of kinds and of payloads that grow.
-/
import Derived.Test.YtjlgihdlcfanbaaFn5
import Derived.Test.YtjlgihdlcfanbaaFz
namespace Go.Proofs.Ytjlgihdlcfanbaa
open Go.RowKit
set_option linter.unusedVariables false
set_option linter.unusedSimpArgs false

theorem own_type {w : World} {base : Nat} {e : TypeId} {size n : Nat} {v : Value} {xs : List Value} (h : w.ownsRow base e size v n xs) (k : Nat) (hk : v.ownBlock = some k) : ∃ cur, w.heap[k]? = some (.cells cur e (0, 0)) := by
  rcases h.2 with ⟨rfl, _⟩ | ⟨g, cap, cur, rfl, _, hg, _⟩
  · cases hk
  · cases hk; exact ⟨cur, hg⟩
theorem own_at {w w' : World} {base : Nat} {e : TypeId} {size n : Nat} {v : Value} {xs : List Value} (h : w.ownsRow base e size v n xs) (hs : ∀ k, v.ownBlock = some k → w'.heap[k]? = w.heap[k]?) : w'.ownsRow base e size v n xs := by
  refine ⟨h.1, ?_⟩
  rcases h.2 with h' | ⟨g, cap, cur, rfl, hb, hg, r⟩
  · exact .inl h'
  · exact .inr ⟨g, cap, cur, rfl, hb, (hs g rfl).trans hg, r⟩
theorem foot_type {w : World} {v : Value} {l : List UInt8} (h : Row w v l) (g : Nat) (hg : foot v = some g) : ∃ cur, w.heap[g]? = some (.cells cur 5 (0, 0)) := by
  rcases h with ⟨a, rfl, _⟩ | ⟨g', cap, cur, rfl, hh, _⟩
  · rw [foot_zero] at hg; cases hg
  · cases hg; exact ⟨cur, hh⟩
def Kinds (w : World) (B : Nat) (v : Value) (ks : List Nat) : Prop := w.ownsRow B 3 1 v ks.length (ks.map fun k => .int .i64 ((k : Nat) : Int))
def Pays (w : World) (B : Nat) (v : Value) (bs : List (List UInt8)) : Prop :=
  ∃ ps, w.ownsRow B 22 1 v bs.length ps ∧ ∀ i (h : i < bs.length), ∃ p, ps[i]? = some p ∧ Row w p bs[i] ∧ ∀ g, foot p = some g → B ≤ g
theorem Kinds.nil (w : World) (B : Nat) : Kinds w B (.slice none 0 0) [] := World.ownsRow_nil _ _ _ _
theorem Pays.nil (w : World) (B : Nat) : Pays w B (.slice none 0 0) [] := ⟨[], World.ownsRow_nil _ _ _ _, fun i h => absurd h (Nat.not_lt_zero _)⟩
theorem Kinds.same {w w' : World} {B : Nat} {v : Value} {ks : List Nat} (h : Kinds w B v ks) (hs : ∀ (k : Nat) (cur : Array Value), w.heap[k]? = some (Obj.cells cur 3 (0, 0)) → w'.heap[k]? = w.heap[k]?) : Kinds w' B v ks :=
  own_at h fun k hk => by obtain ⟨cur, hc⟩ := own_type h k hk; exact hs k cur hc
theorem Pays.same {w w' : World} {B : Nat} {v : Value} {bs : List (List UInt8)} (h : Pays w B v bs) (hs : ∀ (k : Nat) (cur : Array Value) (t : TypeId), w.heap[k]? = some (Obj.cells cur t (0, 0)) → (t = 22 ∨ t = 5) → w'.heap[k]? = w.heap[k]?) : Pays w' B v bs := by
  obtain ⟨ps, h1, h2⟩ := h
  refine ⟨ps, own_at h1 fun k hk => ?_, fun i hi => ?_⟩
  · obtain ⟨cur, hc⟩ := own_type h1 k hk; exact hs k cur _ hc (.inl rfl)
  · obtain ⟨p, g1, g2, g3⟩ := h2 i hi
    exact ⟨p, g1, g2.keep fun g hg => by obtain ⟨cur, hc⟩ := foot_type g2 g hg; exact hs g cur _ hc (.inr rfl), g3⟩
theorem Kinds.keep {w w' : World} {B : Nat} {v : Value} {ks : List Nat} (h : Kinds w B v ks) (hb : Below w.heap.size w w') : Kinds w' B v ks := h.same fun k cur hc => hb.block k (lt_of_heap hc)
theorem Pays.keep {w w' : World} {B : Nat} {v : Value} {bs : List (List UInt8)} (h : Pays w B v bs) (hb : Below w.heap.size w w') : Pays w' B v bs := h.same fun k cur t hc _ => hb.block k (lt_of_heap hc)
theorem block_grown {w w' : World} {row : Option Nat} (hg : w.grownBy w' row) {e : TypeId} (hr : ∀ k, row = some k → ∃ (cur : Array Value) (fr : Nat × Nat), w.heap[k]? = some (Obj.cells cur e fr)) {k : Nat} {cur : Array Value} {t : TypeId} {fr : Nat × Nat} (hk : w.heap[k]? = some (.cells cur t fr)) (hne : t ≠ e) : w'.heap[k]? = w.heap[k]? :=
  hg.block k (lt_of_heap hk) fun e2 => by
    obtain ⟨cur2, fr2, h2⟩ := hr k e2.symm
    rw [hk] at h2
    cases h2
    exact hne rfl
theorem info_int : (Try.prog.info? 3).map (fun i => (i.zero, i.size, i.bytes)) = some (some (.int .i64 0), 1, 8) := by kernel_rfl
theorem info_sl : (Try.prog.info? 22).map (fun i => (i.zero, i.size, i.bytes)) = some (some (.slice none 0 0), 1, 24) := by kernel_rfl
/-- One kind more. -/
theorem wpList_append_kind {ops : Array Oper} {rest : List Oper} {o : Oper} {a : Act} {w : World} {Q : Exit → Act → World → Prop} (hgd : o.guard = none) (s x : Operand)
    (ho : o.op = .call { callee := .builtin .append, args := #[s, x], argTypes := #[35, 35] })
    (B : Nat) (v : Value) (ks : List Nat) (hs : a.eval s = v) (hk : Kinds w B v ks) (g c : Nat) (hx : a.eval x = .slice (some ⟨g, 0, none⟩) 1 c) (k : Nat) (hc : w.cell? ⟨g, 0, none⟩ = some (.int .i64 ((k : Nat) : Int))) (hn : ks.length ≤ 1000000) (hB : B ≤ w.heap.size)
    (h : ∀ v' w', Kinds w' B v' (ks ++ [k]) → w.grownBy w' v.ownBlock → wpList Try.prog ops Q rest (a.put o.dst v') w') : wpList Try.prog ops Q (o :: rest) a w := by
  obtain ⟨i0, hi, hz0, hz1, hz2⟩ := info_parts info_int
  refine wpList_append_own w hgd s x 35 ho B 3 i0 _ 1 8 Try.underlying35 hi hz0 hz1 hz2 rfl (by omega) v ks.length _ hs hk ⟨g, 0, none⟩ 1 c [.int .i64 ((k : Nat) : Int)] hx rfl (fun j u hu => ?_)
    (fun u hu => by simp at hu; subst hu; rfl) (by unfold maxLen; omega) (by omega) hB ?_
  · match j, hu with
    | 0, hu => simp at hu; subst hu; exact hc
  · intro v' w' h2 h3 _
    refine h v' w' ?_ h3
    unfold Kinds
    rw [List.length_append, List.map_append]
    exact h2
/-- One payload more. -/
theorem wpList_append_pay {ops : Array Oper} {rest : List Oper} {o : Oper} {a : Act} {w : World} {Q : Exit → Act → World → Prop} (hgd : o.guard = none) (s x : Operand)
    (ho : o.op = .call { callee := .builtin .append, args := #[s, x], argTypes := #[34, 34] })
    (B : Nat) (v : Value) (bs : List (List UInt8)) (hs : a.eval s = v) (hk : Pays w B v bs) (g c : Nat) (hx : a.eval x = .slice (some ⟨g, 0, none⟩) 1 c) (p : Value) (b : List UInt8) (hc : w.cell? ⟨g, 0, none⟩ = some p) (hp : Row w p b) (hf : ∀ g, foot p = some g → B ≤ g)
    (hn : bs.length ≤ 1000000) (hB : B ≤ w.heap.size)
    (h : ∀ v' w', Pays w' B v' (bs ++ [b]) → w.grownBy w' v.ownBlock → (∀ (k : Nat), v.ownBlock = some k → ∃ cur : Array Value, w.heap[k]? = some (Obj.cells cur 22 (0, 0))) → wpList Try.prog ops Q rest (a.put o.dst v') w') : wpList Try.prog ops Q (o :: rest) a w := by
  obtain ⟨i0, hi, hz0, hz1, hz2⟩ := info_parts info_sl
  obtain ⟨ps, h1, h2⟩ := hk
  have hpo : p.oneCell' = true := by obtain ⟨x, y, rfl, _⟩ := hp.shape; rfl
  have hty := fun k hk => own_type h1 k hk
  refine wpList_append_own w hgd s x 34 ho B 22 i0 _ 1 24 Try.underlying34 hi hz0 hz1 hz2 rfl (by omega) v bs.length ps hs h1 ⟨g, 0, none⟩ 1 c [p] hx rfl (fun j u hu => ?_)
    (fun u hu => by simp at hu; subst hu; exact hpo) (by unfold maxLen; omega) (by omega) hB ?_
  · match j, hu with
    | 0, hu => simp at hu; subst hu; exact hc
  · intro v' w' h3 h4 _
    have keep : ∀ {q : Value} {l : List UInt8}, Row w q l → Row w' q l := fun {q l} hq => hq.keep fun g hg => by
      obtain ⟨cur, hcur⟩ := foot_type hq g hg
      exact block_grown h4 (e := 22) (fun k hk => by obtain ⟨c, hc⟩ := hty k hk; exact ⟨c, _, hc⟩) hcur (by decide)
    refine h v' w' ⟨ps ++ [p], by rw [List.length_append]; exact h3, fun i hi => ?_⟩ h4 hty
    have hpl : ps.length = bs.length := by have := h1.1; omega
    rcases Nat.lt_or_ge i bs.length with hlt | hge
    · obtain ⟨q, g1, g2, g3⟩ := h2 i hlt
      refine ⟨q, ?_, ?_, g3⟩
      · rw [List.getElem?_append_left (by omega)]; exact g1
      · rw [List.getElem_append_left hlt]; exact keep g2
    · have e : i = bs.length := by simp at hi; omega
      subst e
      refine ⟨p, ?_, ?_, hf⟩
      · rw [List.getElem?_append_right (by omega), hpl]; simp
      · rw [List.getElem_append_right (by omega)]
        simpa using keep hp
end Go.Proofs.Ytjlgihdlcfanbaa
