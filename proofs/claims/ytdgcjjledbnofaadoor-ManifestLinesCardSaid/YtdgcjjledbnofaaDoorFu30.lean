/-
  Texts that belong together, one behind the other.
-/
import Derived.Test.YtdgcjjledbnofaaDoorFu07
import Derived.Test.YtdgcjjledbnofaaDoorFu17
import Derived.Test.YtdgcjjledbnofaaDoorRows
import Derived.ProofKit
import Derived.OpenShut
import Derived.Below
import Derived.Carry
import Derived.Test.YtdgcjjledbnofaaDoorFu01
/-
  Layer 16: rows of texts; the lists and the lines that ManifestLines makes.
-/
namespace Go.Proofs.YtdgcjjledbnofaaDoor
set_option maxRecDepth 20000
open Go.RowKit
set_option linter.unusedVariables false
set_option linter.unusedSimpArgs false

def rowS : RowT (List UInt8) := ⟨fun s => [.string ⟨s.toArray⟩], 1, 16, 9, 42, fun _ => True⟩
theorem goodS : RowT.Good rowS Tryd.prog := rgood_of (by decide) (fun x _ => rfl) (fun x _ v hv => by rw [List.mem_singleton.1 hv]; rfl) Tryd.underlying42 (by kernel_rfl) (by decide)
theorem flatS (l : List (List UInt8)) : rowS.flat l = l.map (fun s => Value.string ⟨s.toArray⟩) := by
  unfold RowT.flat
  induction l with
  | nil => rfl
  | cons x l ih => rw [List.flatMap_cons, ih, List.map_cons]; rfl
/-- A text stored into a row that a call owns. -/
theorem ownS_set {B g c : Nat} {l : List (List UInt8)} {w : World} {k : Nat} {s : List UInt8} (h : OwnR rowS B (.slice (some ⟨g, 0, none⟩) l.length c) l w) (hk : k < l.length) :
    OwnR rowS B (.slice (some ⟨g, 0, none⟩) (l.set k s).length c) (l.set k s) (w.setCell ⟨g, k, none⟩ (.string ⟨s.toArray⟩)) := by
  obtain ⟨h1, h2⟩ := h
  rcases h2 with ⟨hv, -⟩ | ⟨g', cap, cur, hv, hB, hh, hc, hm, hs, ht⟩
  · cases hv
  · cases hv
    refine ⟨by rw [rflat_len goodS _ (fun _ _ => trivial)], .inr ⟨g, c, cur.setIfInBounds k (.string ⟨s.toArray⟩), rfl, hB, heap_set hh k _, by rw [List.length_set]; exact hc, hm, by rw [Array.size_setIfInBounds]; exact hs, ?_⟩⟩
    rw [List.length_set, Array.toList_setIfInBounds, List.take_set, ht, flatS, flatS, List.map_set]
theorem ownS_cell {B g c : Nat} {l : List (List UInt8)} {w : World} {k : Nat} (h : OwnR rowS B (.slice (some ⟨g, 0, none⟩) l.length c) l w) (hk : k < l.length) : w.cell? ⟨g, k, none⟩ = some (.string ⟨(l[k]).toArray⟩) ∧ w.frozen? ⟨g, k, none⟩ = false ∧ g < w.heap.size ∧ B ≤ g := by
  obtain ⟨a, c', e, hc, hm, hr, -, hb⟩ := ownR_shape goodS h (fun _ _ => trivial)
  cases e
  refine ⟨?_, ?_, (hb _ rfl).2.2, (hb _ rfl).1⟩
  · have := hr.elem k hk 0 _ rfl
    rw [show (0 + k * rowS.size + 0 : Nat) = k by show 0 + k * 1 + 0 = k; omega] at this
    exact this
  · obtain ⟨-, h2⟩ := h
    rcases h2 with ⟨hv, -⟩ | ⟨g', cap, cur, hv, hB, hh, r⟩
    · cases hv
    · cases hv; exact not_frozen hh k
/-- Rows of other types lie apart. -/
theorem ownR_apart {α β : Type} {R : RowT α} {R' : RowT β} {B : Nat} {v v' : Value} {l : List α} {l' : List β} {w : World} (h : OwnR R B v l w) (h' : OwnR R' B v' l' w) (ht : R.ty ≠ R'.ty) (g : Nat) (hg : v'.ownBlock = some g) : v.ownBlock ≠ some g := by
  intro e
  rcases h.2 with ⟨hv, -⟩ | ⟨g1, cap, cur, hv, hB, hh, r⟩
  · rw [hv] at e; cases e
  · rcases h'.2 with ⟨hv', -⟩ | ⟨g2, cap', cur', hv', hB', hh', r'⟩
    · rw [hv'] at hg; cases hg
    · rw [hv] at e; rw [hv'] at hg
      cases e; cases hg
      rw [hh] at hh'
      have e := Option.some.inj hh'
      injection e with e1 e2
      exact ht e2
/-! The lists. -/
def filG (i : Nat) : Fil := ⟨[UInt8.ofNat (97 + i)], ((1 + i % 3 : Nat) : Int), UInt8.ofNat (i + 1) :: List.replicate 19 0⟩
def filsG (n : Nat) : List Fil := (List.range n).map filG
def linsG (n : Nat) : List (List UInt8) := (List.range n).map (fun i => lineM (filG i))
theorem filsG_len (n : Nat) : (filsG n).length = n := by simp [filsG]
theorem linsG_len (n : Nat) : (linsG n).length = n := by simp [linsG]
theorem filsG_next (n : Nat) : filsG (n + 1) = filsG n ++ [filG n] := by unfold filsG; rw [List.range_succ, List.map_append]; rfl
theorem linsG_next (n : Nat) : linsG (n + 1) = linsG n ++ [lineM (filG n)] := by unfold linsG; rw [List.range_succ, List.map_append]; rfl
theorem filsG_mem {n : Nat} {f : Fil} (h : f ∈ filsG n) : f.id.length = 20 ∧ f.path.length ≤ 600 := by
  unfold filsG at h
  obtain ⟨i, -, rfl⟩ := List.mem_map.1 h
  exact ⟨rfl, by show 1 ≤ 600; decide⟩
theorem linsG_at (n k : Nat) (h : k < (linsG n).length) : (linsG n)[k] = lineM (filG k) := by simp [linsG]
theorem linG_len (i : Nat) : (lineM (filG i)).length ≤ 45 ∧ 43 ≤ (lineM (filG i)).length := by
  have := lineM_len (filG i) rfl
  have e : (filG i).path.length = 1 := rfl
  omega
theorem print_G : ∀ k : Fin 6, printM (filsG (k.1 + 2)) = ((linsG (k.1 + 2)).flatten, 0) := by decide +kernel
/-- The lines that are none. -/
def badL : List UInt8 := [97, 0] ++ hexL (List.replicate 20 0) ++ [10]
def modG (L : List (List UInt8)) (k : Nat) (q : Nat) : List (List UInt8) :=
  if q = 0 then (L.set k (L.getD (k + 1) [])).set (k + 1) (L.getD k [])
  else if q = 1 then L.set (k + 1) (L.getD k [])
  else if q = 2 then L.set k badL
  else L.set k ((L.getD k []).take ((L.getD k []).length - 1) ++ [121, 10])
theorem bad_all : ∀ (n k : Fin 6) (q : Fin 4), k.1 < n.1 + 1 → ((parseM (modG (linsG (n.1 + 2)) k.1 q.1).flatten).1.isEmpty && (parseM (modG (linsG (n.1 + 2)) k.1 q.1).flatten).2 == 4) = true := by decide +kernel
theorem bad_G (n k q : Nat) (h2 : 2 ≤ n) (h7 : n ≤ 7) (hk : k < n - 1) (hq : q < 4) : parseM (modG (linsG n) k q).flatten = ([], 4) := by
  have h := bad_all ⟨n - 2, by omega⟩ ⟨k, by omega⟩ ⟨q, hq⟩ (by show k < n - 2 + 1; omega)
  simp only [show n - 2 + 2 = n by omega, Bool.and_eq_true, beq_iff_eq, List.isEmpty_iff] at h
  exact Prod.ext h.1 h.2
theorem good_G (n : Nat) (h2 : 2 ≤ n) (h7 : n ≤ 7) : printM (filsG n) = ((linsG n).flatten, 0) := by
  have h := print_G ⟨n - 2, by omega⟩
  simp only [show n - 2 + 2 = n by omega] at h
  exact h
theorem modG_len (L : List (List UInt8)) (k q : Nat) : (modG L k q).length = L.length := by
  unfold modG
  split
  · simp
  · split
    · simp
    · split <;> simp
theorem getD_short {L : List (List UInt8)} (h : ∀ s ∈ L, s.length ≤ 45) (k : Nat) : (L.getD k []).length ≤ 45 := by
  by_cases hk : k < L.length
  · rw [List.getD_eq_getElem?_getD, List.getElem?_eq_getElem hk]; exact h _ (List.getElem_mem _)
  · rw [List.getD_eq_getElem?_getD, List.getElem?_eq_none (by omega)]; simp
theorem set_short {L : List (List UInt8)} {b k : Nat} {x : List UInt8} (h : ∀ s ∈ L, s.length ≤ b) (hx : x.length ≤ b) : ∀ s ∈ L.set k x, s.length ≤ b := fun s hs => by
  rcases List.mem_or_eq_of_mem_set hs with hs | rfl
  · exact h s hs
  · exact hx
theorem modG_short {L : List (List UInt8)} (h : ∀ s ∈ L, s.length ≤ 45) (k q : Nat) : ∀ s ∈ modG L k q, s.length ≤ 60 := by
  have h6 : ∀ s ∈ L, s.length ≤ 60 := fun s hs => Nat.le_trans (h s hs) (by decide)
  have g := getD_short h
  unfold modG
  split
  · exact set_short (set_short h6 (Nat.le_trans (g _) (by decide))) (Nat.le_trans (g _) (by decide))
  · split
    · exact set_short h6 (Nat.le_trans (g _) (by decide))
    · split
      · exact set_short h6 (by decide)
      · refine set_short h6 ?_
        have := g k
        rw [List.length_append, List.length_take]
        simp only [List.length_cons, List.length_nil]
        omega
theorem getDS_at {L : List (List UInt8)} {k : Nat} (h : k < L.length) : L.getD k [] = L[k] := by rw [List.getD_eq_getElem?_getD, List.getElem?_eq_getElem h]; rfl
theorem flat_take (L : List (List UInt8)) (j : Nat) (h : j < L.length) : ((L.take (j + 1)).flatten) = (L.take j).flatten ++ L[j] := by
  rw [List.take_succ_eq_append_getElem h, List.flatten_append]
  simp only [List.flatten_cons, List.flatten_nil, List.append_nil]
theorem flat_len (b : Nat) (L : List (List UInt8)) (j : Nat) (h : ∀ s ∈ L, s.length ≤ b) : ((L.take j).flatten).length ≤ b * j := by
  have : ∀ M : List (List UInt8), (∀ s ∈ M, s.length ≤ b) → M.flatten.length ≤ b * M.length := fun M => by
    induction M with
    | nil => simp
    | cons s M ih =>
      intro hm
      have h1 := hm s (by simp)
      have h2 := ih (fun x hx => hm x (by simp [hx]))
      rw [List.flatten_cons, List.length_append, List.length_cons, Nat.mul_add]
      omega
  refine Nat.le_trans (this _ (fun s hs => h s (List.mem_of_mem_take hs))) (Nat.mul_le_mul_left b ?_)
  rw [List.length_take]; omega
end Go.Proofs.YtdgcjjledbnofaaDoor

/-
  What a law's frame shares where no table is listed: how the world is laid, bounds of a byte.
-/
namespace Go.Proofs.YtdgcjjledbnofaaDoor
open Go.ChangeShapes Go.WideShapes Go.ChangeAt Go.RowKit
set_option linter.unusedVariables false

theorem laidOut : laidOutB Tryd.prog = true := by kernel_rfl
theorem lt_of_cell {w : World} {a : Addr} {v : Value} (h : w.cell? a = some v) : a.block < w.heap.size := by
  rcases Nat.lt_or_ge a.block w.heap.size with h' | h'
  · exact h'
  · simp [World.cell?, Array.getElem?_eq_none h'] at h
theorem bounds_byte {n : Int} (h : (Lit.int .u8 n).wf = true) : 0 ≤ n ∧ n ≤ 255 := by
  have e1 : IntKind.u8.min = 0 := rfl
  have e2 : IntKind.u8.max = 255 := rfl
  simpa [Lit.wf, e1, e2] using h
end Go.Proofs.YtdgcjjledbnofaaDoor

/-
  What a law's frame shares where no table is listed: slices of bytes, and of ints, opened.
-/
namespace Go.Proofs.YtdgcjjledbnofaaDoor
open Go.ChangeShapes Go.WideShapes Go.ChangeAt Go.RowKit
set_option linter.unusedVariables false

/-- A slice of bytes that came in. -/
theorem open_bytes {H : Type} {enc : TypeId × Value → H} {W : World} {base : Nat} {a : Option Addr} {n c : Nat} {d : DataW H} {p : List MemPlace} (h : DataW.Trod enc Tryd.prog W base (fun _ => true) true 23 (.slice a n c) d p) :
    ∃ l : List UInt8, n = l.length ∧ BAt W a l ∧ (a = none → n = 0 ∧ c = 0) ∧ (n ≤ c ∧ c ≤ maxLen) := by
  obtain ⟨fuel, hf⟩ := h
  rcases open_ints Tryd.underlying23 Tryd.underlying5 (by kernel_rfl) hf with ⟨hcs, _⟩ | ⟨x, l, c', zs, hcs, _, hl, hm, hz, _, hcell, hwz⟩
  · simp [Value.cells] at hcs
    obtain ⟨rfl, rfl, rfl⟩ := hcs
    exact ⟨[], rfl, BAt.nil _ _, fun _ => ⟨rfl, rfl⟩, Nat.le_refl _, Nat.zero_le _⟩
  · simp [Value.cells] at hcs
    obtain ⟨rfl, rfl, rfl⟩ := hcs
    have hzl : zs.length = c := by simpa using hz
    refine ⟨(zs.take n).map fun z => UInt8.ofNat z.toNat, by simp; omega, fun hp => ?_, (fun h => by cases h), hl, hm⟩
    have hn : 0 < n := by simp at hp; omega
    obtain ⟨b, o, rfl, hc⟩ := ints_at hcell (by omega)
    refine ⟨b, o, rfl, lt_of_cell (a := ⟨b, o + 0, none⟩) (hc 0 (by omega)), fun i hi => ?_⟩
    have hi2 : i < n := by simp at hi; omega
    have hi3 : i < zs.length := by omega
    rw [hc i hi3]
    have hw := bounds_byte (hwz (zs.getD i 0) (by rw [List.getD_eq_getElem?_getD, List.getElem?_eq_getElem hi3]; exact List.getElem_mem _))
    simp only [List.getElem_map, List.getElem_take]
    rw [List.getD_eq_getElem?_getD, List.getElem?_eq_getElem hi3] at hw ⊢
    simp only [Option.getD_some] at hw ⊢
    congr 2
    rw [UInt8.toNat_ofNat']
    omega
end Go.Proofs.YtdgcjjledbnofaaDoor
