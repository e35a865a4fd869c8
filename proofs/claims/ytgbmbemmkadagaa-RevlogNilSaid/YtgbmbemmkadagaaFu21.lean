/-
  Texts that belong together, one behind the other.
-/
import Derived.Test.YtgbmbemmkadagaaFu08
import Derived.Test.YtgbmbemmkadagaaFu20
import Derived.Test.YtgbmbemmkadagaaFu03
import Derived.Laws.AppendOwn
import Derived.Below
/-
  Rows of ids (cut out of Uc).
-/
namespace Go.Proofs.Ytgbmbemmkadagaa
set_option maxRecDepth 20000
open Go.RowKit Go.Maps
set_option linter.unusedVariables false
set_option linter.unusedSimpArgs false

def rowI : RowT (List UInt8) := ⟨cellsD, 20, 20, 24, 63, fun i => i.length = 20⟩
theorem goodI : RowT.Good rowI Try.prog := rgood_of (by decide) (fun x h => cellsD_len x h) (fun x _ v hv => Array.all_eq_true_iff_forall_mem.1 (cellsD_one x) v (by have h : v ∈ cellsD x := hv; simpa using h)) Try.underlying63 (by kernel_rfl) (by decide)
theorem rowI_ids {w : World} {a : Option Addr} {l : List (List UInt8)} : RowAt rowI w a l ↔ IdsAt w a l := Iff.rfl
theorem rowI_own {B : Nat} {v : Value} {l : List (List UInt8)} {w : World} : OwnR rowI B v l w ↔ OwnD B v l w := Iff.rfl
end Go.Proofs.Ytgbmbemmkadagaa

/-
  Layer 10: bytes that lie in named blocks; which blocks stay.
-/
namespace Go.Proofs.Ytgbmbemmkadagaa
open Go.RowKit
set_option linter.unusedVariables false
set_option linter.unusedSimpArgs false

/-- The blocks of S stay. -/
def Stays (S : Nat → Prop) (w u : World) : Prop := w.heap.size ≤ u.heap.size ∧ ∀ k, S k → k < w.heap.size → u.heap[k]? = w.heap[k]?
theorem Stays.of {S : Nat → Prop} {w u : World} (h : Below w.heap.size w u) : Stays S w u := ⟨h.size, fun k _ hk => h.block k hk⟩
theorem Stays.refl (S : Nat → Prop) (w : World) : Stays S w w := ⟨Nat.le_refl _, fun _ _ _ => rfl⟩
theorem Stays.trans {S : Nat → Prop} {a b c : World} (h : Stays S a b) (k : Stays S b c) : Stays S a c :=
  ⟨Nat.le_trans h.1 k.1, fun i hs hi => (k.2 i hs (Nat.lt_of_lt_of_le hi h.1)).trans (h.2 i hs hi)⟩
theorem Stays.mono {S S' : Nat → Prop} {w u : World} (h : Stays S w u) (hs : ∀ k, S' k → S k) : Stays S' w u := ⟨h.1, fun k hk hl => h.2 k (hs k hk) hl⟩
/-- Bytes that are read alone, in blocks of S. -/
def RedS (S : Nat → Prop) (w : World) (v : Value) (l : List UInt8) : Prop :=
  ∃ a c, v = .slice a l.length c ∧ BAt w a l ∧ (a = none → l.length = 0 ∧ c = 0) ∧ l.length ≤ c ∧ c ≤ maxLen ∧ ∀ ad, 0 < l.length → a = some ad → S ad.block
theorem RedS.red {S : Nat → Prop} {w : World} {v : Value} {l : List UInt8} (h : RedS S w v l) : Red w v l := by
  obtain ⟨a, c, e, hb, hn, hc, hm, _⟩ := h
  exact ⟨a, c, e, hb, hn, hc, hm⟩
theorem RedS.mono {S S' : Nat → Prop} {w : World} {v : Value} {l : List UInt8} (h : RedS S w v l) (hs : ∀ k, k < w.heap.size → S k → S' k) : RedS S' w v l := by
  obtain ⟨a, c, e, hb, hn, hc, hm, hr⟩ := h
  refine ⟨a, c, e, hb, hn, hc, hm, fun ad hp ha => ?_⟩
  obtain ⟨g, o, h1, h2, _⟩ := hb hp
  refine hs _ ?_ (hr ad hp ha)
  rw [h1] at ha
  cases ha
  exact h2
theorem BAt.same {w u : World} {a : Option Addr} {l : List UInt8} (h : BAt w a l) (hs : w.heap.size ≤ u.heap.size) (hb : ∀ ad, 0 < l.length → a = some ad → u.heap[ad.block]? = w.heap[ad.block]?) : BAt u a l := fun hp => by
  obtain ⟨g, o, h1, h2, h3⟩ := h hp
  refine ⟨g, o, h1, Nat.lt_of_lt_of_le h2 hs, fun i hi => ?_⟩
  rw [← h3 i hi]
  exact World.cell?_of_block (w := w) (hb ⟨g, o, none⟩ hp h1)
theorem RedS.keep {S : Nat → Prop} {w u : World} {v : Value} {l : List UInt8} (h : RedS S w v l) (hk : Stays S w u) : RedS S u v l := by
  obtain ⟨a, c, e, hb, hn, hc, hm, hr⟩ := h
  refine ⟨a, c, e, hb.same hk.1 (fun ad hp ha => hk.2 _ (hr ad hp ha) ?_), hn, hc, hm, hr⟩
  obtain ⟨g, o, h1, h2, _⟩ := hb hp
  rw [h1] at ha
  cases ha
  exact h2
/-- What is read is in some blocks. -/
theorem Red.inS {w : World} {v : Value} {l : List UInt8} (h : Red w v l) : RedS (fun k => k < w.heap.size) w v l := by
  obtain ⟨a, c, e, hb, hn, hc, hm⟩ := h
  refine ⟨a, c, e, hb, hn, hc, hm, fun ad hp ha => ?_⟩
  obtain ⟨g, o, h1, h2, _⟩ := hb hp
  rw [h1] at ha
  cases ha
  exact h2
theorem redS_nil (S : Nat → Prop) (w : World) : RedS S w (.slice none 0 0) [] := ⟨none, 0, rfl, BAt.nil w _, fun _ => ⟨rfl, rfl⟩, Nat.le_refl _, Nat.zero_le _, fun ad h => absurd h (Nat.lt_irrefl 0)⟩
end Go.Proofs.Ytgbmbemmkadagaa
