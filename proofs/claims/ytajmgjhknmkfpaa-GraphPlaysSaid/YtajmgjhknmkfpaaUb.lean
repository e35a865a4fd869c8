/-
  Layer 12, plain: a graph as a list of nodes, oldest first, each with the places of its parents; what is told of it; nothing of the program.
-/
namespace Go.Proofs.Ytajmgjhknmkfpaa
set_option linter.unusedVariables false
set_option linter.unusedSimpArgs false

structure Gn where
  id : List UInt8
  pl : List Nat
def zeroG : List UInt8 := List.replicate 20 0
def idAt (L : List Gn) (k : Nat) : List UInt8 := ((L[k]?).map Gn.id).getD []
def plAt (L : List Gn) (k : Nat) : List Nat := ((L[k]?).map Gn.pl).getD []
def psOf (L : List Gn) (l : List Nat) : List (List UInt8) := l.map (idAt L)
def atG (L : List Gn) (i : List UInt8) : Option Nat := L.findIdx? (fun n => n.id == i)
def parG (L : List Gn) (i : List UInt8) : List (List UInt8) := match atG L i with
  | some k => psOf L (plAt L k)
  | none => []
def idsG (L : List Gn) : List (List UInt8) := L.map Gn.id
def thoseG (L : List Gn) (f : Nat → Bool) : List (List UInt8) := ((List.range L.length).filter f).map (idAt L)
def markL (s : List Bool) (l : List Nat) : List Bool := l.foldl (fun s p => s.set p true) s
def onG (s : List Bool) (k : Nat) : Bool := s.getD k false
def stepG (L : List Gn) (s : List Bool) (k : Nat) : List Bool := if onG s k then markL s (plAt L k) else s
def backG (L : List Gn) : Nat → List Bool → List Bool
  | 0, s => s
  | k + 1, s => backG L k (stepG L s k)
def closedG (L : List Gn) (l : List Nat) : List Bool := backG L L.length (markL (List.replicate L.length false) l)
def cloG (L : List Gn) (ids : List (List UInt8)) : List (List UInt8) := thoseG L (onG (closedG L (ids.filterMap (atG L))))
def parentsG (L : List Gn) : List Bool := L.foldl (fun s n => markL s n.pl) (List.replicate L.length false)
def headsG (L : List Gn) : List (List UInt8) := thoseG L (fun i => !onG (parentsG L) i)
def comesG (L : List Gn) (a b : List UInt8) : Bool := match atG L a, atG L b with
  | some i, some j => onG (closedG L [i]) j
  | _, _ => false
def missG (L : List Gn) (have_ : List UInt8 → Bool) (ids : List (List UInt8)) : List (List UInt8) := (cloG L ids).filter (fun i => !have_ i)
/-- The places of some, where all are there. -/
def placesG (L : List Gn) : List (List UInt8) → Option (List Nat)
  | [] => some []
  | i :: r => match atG L i, placesG L r with
    | some k, some l => some (k :: l)
    | _, _ => none
/-- What an Add answers, and leaves. -/
def addG (L : List Gn) (i : List UInt8) (ps : List (List UInt8)) : Int × List Gn :=
  match atG L i, placesG L ps with
  | some k, some l => if plAt L k = l then (0, L) else (8, L)
  | some _, none => (8, L)
  | none, none => (6, L)
  | none, some l => if i = zeroG then (1, L) else if 5000 ≤ L.length then (5, L) else (0, L ++ [⟨i, l⟩])
structure GoodG (L : List Gn) : Prop where
  len : ∀ n ∈ L, n.id.length = 20
  nz : ∀ n ∈ L, n.id ≠ zeroG
  nod : ∀ i j (hi : i < L.length) (hj : j < L.length), L[i].id = L[j].id → i = j
  low : ∀ k, ∀ p ∈ plAt L k, p < k
theorem goodG_nil : GoodG [] := ⟨by simp, by simp, fun i j hi => absurd hi (Nat.not_lt_zero _), fun k p hp => by simp [plAt] at hp⟩
theorem idAt_lt {L : List Gn} {k : Nat} (h : k < L.length) : idAt L k = L[k].id := by simp [idAt, h]
theorem plAt_lt {L : List Gn} {k : Nat} (h : k < L.length) : plAt L k = L[k].pl := by simp [plAt, h]
theorem plAt_out {L : List Gn} {k : Nat} (h : L.length ≤ k) : plAt L k = [] := by simp [plAt, h]
theorem idAt_old {L : List Gn} {n : Gn} {k : Nat} (h : k < L.length) : idAt (L ++ [n]) k = idAt L k := by simp [idAt, List.getElem?_append_left h]
theorem plAt_old {L : List Gn} {n : Gn} {k : Nat} (h : k < L.length) : plAt (L ++ [n]) k = plAt L k := by simp [plAt, List.getElem?_append_left h]
theorem plAt_new {L : List Gn} {n : Gn} : plAt (L ++ [n]) L.length = n.pl := by simp [plAt]
theorem atG_some {L : List Gn} {i : List UInt8} {k : Nat} (h : atG L i = some k) : ∃ hk : k < L.length, L[k].id = i := by
  obtain ⟨hk, h1, _⟩ := List.findIdx?_eq_some_iff_getElem.1 h
  exact ⟨hk, by simpa using h1⟩
theorem atG_none {L : List Gn} {i : List UInt8} : atG L i = none ↔ ∀ n ∈ L, n.id ≠ i := by
  unfold atG
  rw [List.findIdx?_eq_none_iff]
  constructor
  · intro h n hn e
    have := h n hn
    simp [e] at this
  · intro h n hn
    simpa using h n hn
theorem atG_is {L : List Gn} (G : GoodG L) {i : List UInt8} {k : Nat} (hk : k < L.length) (h : L[k].id = i) : atG L i = some k := by
  cases e : atG L i with
  | none => exact absurd h (atG_none.1 e _ (List.getElem_mem hk))
  | some j =>
    obtain ⟨hj, h2⟩ := atG_some e
    rw [G.nod j k hj hk (h2.trans h.symm)]
theorem atG_old {L : List Gn} {n : Gn} {i : List UInt8} {k : Nat} (h : atG L i = some k) : atG (L ++ [n]) i = some k := by
  unfold atG at *
  rw [List.findIdx?_append, h]
  rfl
theorem placesG_len : ∀ {L : List Gn} {ps : List (List UInt8)} {l : List Nat}, placesG L ps = some l → l.length = ps.length ∧ ∀ p ∈ l, p < L.length
  | L, [], l, h => by cases h; simp
  | L, i :: r, l, h => by
    unfold placesG at h
    cases e1 : atG L i with
    | none => rw [e1] at h; cases h
    | some k =>
      cases e2 : placesG L r with
      | none => rw [e1, e2] at h; cases h
      | some m =>
        rw [e1, e2] at h
        cases h
        obtain ⟨h1, h2⟩ := placesG_len e2
        refine ⟨by simp [h1], fun p hp => ?_⟩
        rcases List.mem_cons.1 hp with rfl | hp
        · exact (atG_some e1).1
        · exact h2 p hp
theorem placesG_back : ∀ {L : List Gn} {ps : List (List UInt8)} {l : List Nat}, placesG L ps = some l → psOf L l = ps
  | L, [], l, h => by cases h; rfl
  | L, i :: r, l, h => by
    unfold placesG at h
    cases e1 : atG L i with
    | none => rw [e1] at h; cases h
    | some k =>
      cases e2 : placesG L r with
      | none => rw [e1, e2] at h; cases h
      | some m =>
        rw [e1, e2] at h
        cases h
        obtain ⟨hk, hi⟩ := atG_some e1
        unfold psOf
        rw [List.map_cons, idAt_lt hk, hi]
        exact congrArg _ (placesG_back e2)
theorem placesG_there {L : List Gn} (G : GoodG L) : ∀ {l : List Nat}, (∀ p ∈ l, p < L.length) → placesG L (psOf L l) = some l
  | [], _ => rfl
  | k :: r, h => by
    have hk := h k (by simp)
    unfold psOf
    rw [List.map_cons]
    unfold placesG
    rw [atG_is G hk (idAt_lt hk).symm]
    have := placesG_there G (l := r) (fun p hp => h p (by simp [hp]))
    unfold psOf at this
    rw [this]
theorem placesG_none : ∀ {L : List Gn} {ps : List (List UInt8)}, placesG L ps = none ↔ ∃ p ∈ ps, atG L p = none
  | L, [] => by simp [placesG]
  | L, i :: r => by
    have ih := @placesG_none L r
    unfold placesG
    cases e1 : atG L i with
    | none => simp [e1]
    | some k =>
      cases e2 : placesG L r with
      | none => simp [e1, ih.1 e2]
      | some m =>
        have : ¬ ∃ p ∈ r, atG L p = none := fun h => by rw [ih.2 h] at e2; cases e2
        simp only [List.mem_cons, exists_eq_or_imp, e1]
        simpa using this
/-- The place of the first that is not there. -/
theorem placesG_step {L : List Gn} {ps : List (List UInt8)} {k : Nat} (hk : k < ps.length) {l : List Nat} (h : placesG L (ps.take k) = some l) {q : Nat} (hq : atG L ps[k] = some q) : placesG L (ps.take (k + 1)) = some (l ++ [q]) := by
  induction ps generalizing k l with
  | nil => exact absurd hk (Nat.not_lt_zero _)
  | cons i r ih =>
    cases k with
    | zero =>
      cases h
      simp only [List.getElem_cons_zero] at hq
      simp [placesG, hq]
    | succ k =>
      rw [List.take_succ_cons] at h ⊢
      unfold placesG at h ⊢
      cases e1 : atG L i with
      | none => rw [e1] at h; cases h
      | some j =>
        cases e2 : placesG L (r.take k) with
        | none => rw [e1, e2] at h; cases h
        | some m =>
          rw [e1, e2] at h
          cases h
          rw [ih (by simpa using hk) e2 (by simpa using hq)]
          rfl
theorem low_lt {L : List Gn} (G : GoodG L) {k : Nat} : ∀ p ∈ plAt L k, p < L.length := fun p hp => by
  have h1 := G.low k p hp
  rcases Nat.lt_or_ge k L.length with h | h
  · omega
  · rw [plAt_out h] at hp; cases hp
theorem goodG_put {L : List Gn} (G : GoodG L) {i : List UInt8} (hi : i.length = 20) (hz : i ≠ zeroG) (hn : atG L i = none) {l : List Nat} (hl : ∀ p ∈ l, p < L.length) : GoodG (L ++ [⟨i, l⟩]) where
  len := fun n h => by
    rcases List.mem_append.1 h with h | h
    · exact G.len n h
    · simp at h; subst h; exact hi
  nz := fun n h => by
    rcases List.mem_append.1 h with h | h
    · exact G.nz n h
    · simp at h; subst h; exact hz
  nod := fun a b ha hb h => by
    have hn := atG_none.1 hn
    simp only [List.length_append, List.length_cons, List.length_nil] at ha hb
    rw [List.getElem_append, List.getElem_append] at h
    by_cases ha2 : a < L.length
    · by_cases hb2 : b < L.length
      · rw [dif_pos ha2, dif_pos hb2] at h
        exact G.nod a b ha2 hb2 h
      · rw [dif_pos ha2, dif_neg hb2] at h
        have hb3 : b - L.length = 0 := by omega
        simp only [hb3, List.getElem_cons_zero] at h
        exact absurd h (hn _ (List.getElem_mem ha2))
    · by_cases hb2 : b < L.length
      · rw [dif_neg ha2, dif_pos hb2] at h
        have ha3 : a - L.length = 0 := by omega
        simp only [ha3, List.getElem_cons_zero] at h
        exact absurd h.symm (hn _ (List.getElem_mem hb2))
      · omega
  low := fun k p hp => by
    rcases Nat.lt_trichotomy k L.length with h | rfl | h
    · rw [plAt_old h] at hp; exact G.low k p hp
    · rw [plAt_new] at hp; exact hl p hp
    · rw [plAt_out (by simp; omega)] at hp; cases hp
theorem addG_good {L : List Gn} (G : GoodG L) {i : List UInt8} (hi : i.length = 20) (ps : List (List UInt8)) : GoodG (addG L i ps).2 := by
  unfold addG
  cases e1 : atG L i with
  | some k =>
    cases e2 : placesG L ps with
    | some l => simp only; split <;> exact G
    | none => exact G
  | none =>
    cases e2 : placesG L ps with
    | none => exact G
    | some l =>
      simp only
      split
      · exact G
      · rename_i hz
        split
        · exact G
        · exact goodG_put G hi hz e1 (placesG_len e2).2
theorem addG_len (L : List Gn) (i : List UInt8) (ps : List (List UInt8)) : L.length ≤ (addG L i ps).2.length ∧ (addG L i ps).2.length ≤ L.length + 1 := by
  unfold addG
  cases e1 : atG L i with
  | some k =>
    cases e2 : placesG L ps with
    | some l => simp only; split <;> simp
    | none => simp
  | none =>
    cases e2 : placesG L ps with
    | none => simp
    | some l =>
      simp only
      split
      · simp
      · split <;> simp
/-- Marks. -/
theorem markL_len (s : List Bool) : ∀ l : List Nat, (markL s l).length = s.length := by
  intro l
  unfold markL
  induction l generalizing s with
  | nil => rfl
  | cons p r ih => rw [List.foldl_cons, ih]; simp
theorem markL_snoc (s : List Bool) (l : List Nat) (p : Nat) : markL s (l ++ [p]) = (markL s l).set p true := by simp [markL]
theorem onG_set (s : List Bool) (p k : Nat) (b : Bool) (hp : p < s.length) : onG (s.set p b) k = if k = p then b else onG s k := by
  unfold onG
  rw [List.getD_eq_getElem?_getD, List.getD_eq_getElem?_getD, List.getElem?_set]
  by_cases h : p = k
  · subst h; simp [hp]
  · simp [h, Ne.symm h]
theorem onG_mark : ∀ (s : List Bool) (l : List Nat) (k : Nat), (∀ p ∈ l, p < s.length) → (onG (markL s l) k = true ↔ onG s k = true ∨ k ∈ l)
  | s, [], k, _ => by simp [markL]
  | s, p :: r, k, h => by
    have ih := onG_mark (s.set p true) r k (fun q hq => by simpa using h q (by simp [hq]))
    show onG (markL (s.set p true) r) k = true ↔ _
    rw [ih, onG_set s p k true (h p (by simp))]
    by_cases e : k = p
    · simp [e]
    · simp [e]
theorem onG_rep (n k : Nat) : onG (List.replicate n false) k = false := by
  unfold onG
  rw [List.getD_eq_getElem?_getD, List.getElem?_replicate]
  split <;> rfl
theorem onG_out {s : List Bool} {k : Nat} (h : s.length ≤ k) : onG s k = false := by unfold onG; simp [List.getD_eq_getElem?_getD, h]
theorem stepG_len (L : List Gn) (s : List Bool) (k : Nat) : (stepG L s k).length = s.length := by
  unfold stepG
  split
  · exact markL_len _ _
  · rfl
theorem backG_len (L : List Gn) : ∀ (n : Nat) (s : List Bool), (backG L n s).length = s.length
  | 0, s => rfl
  | n + 1, s => by rw [backG, backG_len L n, stepG_len]
theorem closedG_len (L : List Gn) (l : List Nat) : (closedG L l).length = L.length := by
  unfold closedG
  rw [backG_len, markL_len, List.length_replicate]
/-- Who is wanted: those that are asked for, and whose child is wanted. -/
structure FixG (L : List Gn) (S : Nat → Prop) (s : List Bool) : Prop where
  len : s.length = L.length
  fix : ∀ k, k < L.length → (onG s k = true ↔ S k ∨ ∃ j, k < j ∧ j < L.length ∧ onG s j = true ∧ k ∈ plAt L j)
theorem FixG.one {L : List Gn} {S : Nat → Prop} {s t : List Bool} (h : FixG L S s) (h' : FixG L S t) : s = t := by
  have key : ∀ d k, L.length - k ≤ d → onG s k = onG t k := by
    intro d
    induction d with
    | zero => intro k hk; rw [onG_out (by rw [h.len]; omega), onG_out (by rw [h'.len]; omega)]
    | succ d ih =>
      intro k hk
      by_cases hl : k < L.length
      · rw [Bool.eq_iff_iff, h.fix k hl, h'.fix k hl]
        constructor
        · rintro (h1 | ⟨j, h1, h2, h3, h4⟩)
          · exact .inl h1
          · exact .inr ⟨j, h1, h2, (ih j (by omega)) ▸ h3, h4⟩
        · rintro (h1 | ⟨j, h1, h2, h3, h4⟩)
          · exact .inl h1
          · exact .inr ⟨j, h1, h2, (ih j (by omega)).symm ▸ h3, h4⟩
      · rw [onG_out (by rw [h.len]; omega), onG_out (by rw [h'.len]; omega)]
  apply List.ext_getElem (h.len.trans h'.len.symm)
  intro k h1 h2
  have := key (L.length - k) k (Nat.le_refl _)
  unfold onG at this
  simpa [List.getD_eq_getElem?_getD, h1, h2] using this
/-- Between two rounds of the program: all from k on have been met. -/
structure MidG (L : List Gn) (A : Nat → Prop) (k : Nat) (s : List Bool) : Prop where
  len : s.length = L.length
  fix : ∀ m, m < L.length → (onG s m = true ↔ A m ∨ ∃ j, k ≤ j ∧ j < L.length ∧ onG s j = true ∧ m ∈ plAt L j)
theorem MidG.fin {L : List Gn} (G : GoodG L) {A : Nat → Prop} {s : List Bool} (h : MidG L A 0 s) : FixG L A s where
  len := h.len
  fix := fun k hk => by
    rw [h.fix k hk]
    constructor
    · rintro (h1 | ⟨j, h1, h2, h3, h4⟩)
      · exact .inl h1
      · exact .inr ⟨j, G.low j k h4, h2, h3, h4⟩
    · rintro (h1 | ⟨j, h1, h2, h3, h4⟩)
      · exact .inl h1
      · exact .inr ⟨j, Nat.zero_le _, h2, h3, h4⟩
theorem onG_step {L : List Gn} (G : GoodG L) {s : List Bool} (hs : s.length = L.length) (k m : Nat) : onG (stepG L s k) m = true ↔ onG s m = true ∨ (onG s k = true ∧ m ∈ plAt L k) := by
  unfold stepG
  by_cases h : onG s k = true
  · rw [if_pos h, onG_mark s _ m (fun p hp => by rw [hs]; exact low_lt G p hp)]
    simp [h]
  · rw [if_neg h]
    simp [h]
theorem MidG.step {L : List Gn} (G : GoodG L) {A : Nat → Prop} {k : Nat} {s : List Bool} (h : MidG L A (k + 1) s) : MidG L A k (stepG L s k) where
  len := (stepG_len L s k).trans h.len
  fix := fun m hm => by
    have hh := onG_step G h.len k
    have same : ∀ j, k ≤ j → (onG (stepG L s k) j = true ↔ onG s j = true) := fun j hj => by
      rw [hh j]
      constructor
      · rintro (h1 | ⟨h1, h2⟩)
        · exact h1
        · have := G.low k j h2; omega
      · exact .inl
    rw [hh m, h.fix m hm]
    constructor
    · rintro ((h1 | ⟨j, h1, h2, h3, h4⟩) | ⟨h1, h2⟩)
      · exact .inl h1
      · exact .inr ⟨j, by omega, h2, (same j (by omega)).2 h3, h4⟩
      · rcases Nat.lt_or_ge k L.length with hk | hk
        · exact .inr ⟨k, Nat.le_refl _, hk, (same k (Nat.le_refl _)).2 h1, h2⟩
        · rw [plAt_out hk] at h2; cases h2
    · rintro (h1 | ⟨j, h1, h2, h3, h4⟩)
      · exact .inl (.inl h1)
      · rcases Nat.lt_or_ge k j with hj | hj
        · exact .inl (.inr ⟨j, hj, h2, (same j (by omega)).1 h3, h4⟩)
        · obtain rfl : j = k := by omega
          exact .inr ⟨(same j (Nat.le_refl _)).1 h3, h4⟩
theorem MidG.back {L : List Gn} (G : GoodG L) {A : Nat → Prop} : ∀ (k : Nat) (s : List Bool), MidG L A k s → MidG L A 0 (backG L k s)
  | 0, s, h => h
  | k + 1, s, h => MidG.back G k (stepG L s k) (h.step G)
theorem closedG_fix {L : List Gn} (G : GoodG L) {l : List Nat} (hl : ∀ p ∈ l, p < L.length) : FixG L (fun k => k ∈ l) (closedG L l) := by
  refine MidG.fin G (MidG.back G _ _ ⟨by rw [markL_len, List.length_replicate], fun m hm => ?_⟩)
  rw [onG_mark _ l m (fun p hp => by rw [List.length_replicate]; exact hl p hp), onG_rep]
  constructor
  · rintro (h | h)
    · cases h
    · exact .inl h
  · rintro (h | ⟨j, h1, h2, h3, h4⟩)
    · exact .inr h
    · omega
/-- A round of the document's. -/
def stepR (L : List Gn) (S : Nat → Bool) (s : List Bool) (k : Nat) : List Bool := stepG L (s.set k (onG s k || S k)) k
def backR (L : List Gn) (S : Nat → Bool) : Nat → List Bool → List Bool
  | 0, s => s
  | k + 1, s => backR L S k (stepR L S s k)
theorem stepR_mid {L : List Gn} (G : GoodG L) {S : Nat → Bool} {k : Nat} {s : List Bool} (hk : k < L.length) (h : MidG L (fun m => k + 1 ≤ m ∧ S m = true) (k + 1) s) : MidG L (fun m => k ≤ m ∧ S m = true) k (stepR L S s k) := by
  have h1 : MidG L (fun m => k ≤ m ∧ S m = true) (k + 1) (s.set k (onG s k || S k)) := by
    refine ⟨by rw [List.length_set]; exact h.len, fun m hm => ?_⟩
    have e : ∀ j, onG (s.set k (onG s k || S k)) j = if j = k then (onG s k || S k) else onG s j := fun j => onG_set s k j _ (by rw [h.len]; exact hk)
    have e2 : ∀ j, k + 1 ≤ j → onG (s.set k (onG s k || S k)) j = onG s j := fun j hj => by rw [e j, if_neg (by omega)]
    have hsame : (∃ j, k + 1 ≤ j ∧ j < L.length ∧ onG (s.set k (onG s k || S k)) j = true ∧ m ∈ plAt L j) ↔ ∃ j, k + 1 ≤ j ∧ j < L.length ∧ onG s j = true ∧ m ∈ plAt L j := by
      constructor
      · rintro ⟨j, h1, h2, h3, h4⟩
        exact ⟨j, h1, h2, by rw [← e2 j h1]; exact h3, h4⟩
      · rintro ⟨j, h1, h2, h3, h4⟩
        exact ⟨j, h1, h2, by rw [e2 j h1]; exact h3, h4⟩
    rw [hsame, e m]
    by_cases hmk : m = k
    · subst hmk
      rw [if_pos rfl, Bool.or_eq_true, h.fix m hm]
      constructor
      · rintro ((⟨h1, _⟩ | h1) | h1)
        · omega
        · exact .inr h1
        · exact .inl ⟨Nat.le_refl _, h1⟩
      · rintro (⟨_, h1⟩ | h1)
        · exact .inr h1
        · exact .inl (.inr h1)
    · rw [if_neg hmk, h.fix m hm]
      constructor
      · rintro (⟨h1, h2⟩ | h1)
        · exact .inl ⟨by omega, h2⟩
        · exact .inr h1
      · rintro (⟨h1, h2⟩ | h1)
        · exact .inl ⟨by omega, h2⟩
        · exact .inr h1
  exact h1.step G
theorem backR_mid {L : List Gn} (G : GoodG L) {S : Nat → Bool} : ∀ (k : Nat) (s : List Bool), k ≤ L.length → MidG L (fun m => k ≤ m ∧ S m = true) k s → MidG L (fun m => 0 ≤ m ∧ S m = true) 0 (backR L S k s)
  | 0, s, _, h => h
  | k + 1, s, hk, h => backR_mid G k (stepR L S s k) (by omega) (stepR_mid G (by omega) h)
theorem backR_is {L : List Gn} (G : GoodG L) (ids : List (List UInt8)) : backR L (fun k => ids.contains (idAt L k)) L.length (List.replicate L.length false) = closedG L (ids.filterMap (atG L)) := by
  have h1 : MidG L (fun m => L.length ≤ m ∧ (fun k => ids.contains (idAt L k)) m = true) L.length (List.replicate L.length false) := by
    refine ⟨by rw [List.length_replicate], fun m hm => ?_⟩
    rw [onG_rep]
    constructor
    · intro h; cases h
    · rintro (⟨h, _⟩ | ⟨j, h1, h2, _⟩) <;> omega
  have h2 := (backR_mid G _ _ (Nat.le_refl _) h1).fin G
  have hl : ∀ p ∈ ids.filterMap (atG L), p < L.length := fun p hp => by
    obtain ⟨i, _, hi⟩ := List.mem_filterMap.1 hp
    exact (atG_some hi).1
  have h3 := closedG_fix G hl
  refine h2.one ⟨h3.len, fun k hk => ?_⟩
  rw [h3.fix k hk]
  have e : (k ∈ ids.filterMap (atG L)) ↔ (0 ≤ k ∧ ids.contains (idAt L k) = true) := by
    rw [List.contains_iff_mem, List.mem_filterMap]
    constructor
    · rintro ⟨i, hi, h⟩
      obtain ⟨hk2, h4⟩ := atG_some h
      rw [idAt_lt hk2, h4]
      exact ⟨Nat.zero_le _, hi⟩
    · rintro ⟨_, h⟩
      exact ⟨_, h, atG_is G hk (idAt_lt hk).symm⟩
  rw [e]
theorem thoseG_mem {L : List Gn} (G : GoodG L) {f : Nat → Bool} {i : List UInt8} : i ∈ thoseG L f ↔ ∃ k, atG L i = some k ∧ f k = true := by
  unfold thoseG
  rw [List.mem_map]
  constructor
  · rintro ⟨k, hk, rfl⟩
    obtain ⟨h1, h2⟩ := List.mem_filter.1 hk
    have hk := List.mem_range.1 h1
    exact ⟨k, atG_is G hk (idAt_lt hk).symm, h2⟩
  · rintro ⟨k, h1, h2⟩
    obtain ⟨hk, hi⟩ := atG_some h1
    exact ⟨k, List.mem_filter.2 ⟨List.mem_range.2 hk, h2⟩, by rw [idAt_lt hk, hi]⟩
/-- The document's Comes. -/
theorem comesG_is {L : List Gn} (G : GoodG L) (a b : List UInt8) : ((atG L a).isSome && ((atG L b).isSome && (cloG L [a]).contains b)) = comesG L a b := by
  unfold comesG
  cases e1 : atG L a with
  | none => simp
  | some i =>
    cases e2 : atG L b with
    | none => simp
    | some j =>
      simp only [Option.isSome_some, Bool.true_and]
      rw [Bool.eq_iff_iff, List.contains_iff_mem]
      unfold cloG
      rw [thoseG_mem G]
      have e3 : [a].filterMap (atG L) = [i] := by simp [e1]
      rw [e3]
      constructor
      · rintro ⟨k, h1, h2⟩
        rw [e2] at h1
        cases h1
        exact h2
      · intro h
        exact ⟨j, e2, h⟩
theorem parentsG_step (L : List Gn) : ∀ (l : List Gn) (s : List Bool) (k : Nat), (∀ n ∈ l, ∀ p ∈ n.pl, p < s.length) → (onG (l.foldl (fun s n => markL s n.pl) s) k = true ↔ onG s k = true ∨ ∃ n ∈ l, k ∈ n.pl)
  | [], s, k, _ => by simp
  | n :: r, s, k, h => by
    rw [List.foldl_cons, parentsG_step L r (markL s n.pl) k (fun m hm p hp => by rw [markL_len]; exact h m (by simp [hm]) p hp), onG_mark s n.pl k (h n (by simp))]
    simp only [List.mem_cons, exists_eq_or_imp, or_assoc]
theorem parentsG_is {L : List Gn} (G : GoodG L) (k : Nat) : onG (parentsG L) k = true ↔ ∃ j, j < L.length ∧ k ∈ plAt L j := by
  unfold parentsG
  rw [parentsG_step L L _ k (fun n hn p hp => by
    obtain ⟨j, hj, rfl⟩ := List.getElem_of_mem hn
    rw [List.length_replicate]
    exact low_lt G (k := j) p (by rw [plAt_lt hj]; exact hp)), onG_rep]
  constructor
  · rintro (h | ⟨n, hn, h⟩)
    · cases h
    · obtain ⟨j, hj, rfl⟩ := List.getElem_of_mem hn
      exact ⟨j, hj, by rw [plAt_lt hj]; exact h⟩
  · rintro ⟨j, hj, h⟩
    exact .inr ⟨L[j], List.getElem_mem hj, by rw [plAt_lt hj] at h; exact h⟩
/-- All heads together come from all. -/
theorem heads_all {L : List Gn} (G : GoodG L) : cloG L (headsG L) = idsG L := by
  have hh : ∀ k, k < L.length → onG (closedG L ((headsG L).filterMap (atG L))) k = true := by
    have hl : ∀ p ∈ (headsG L).filterMap (atG L), p < L.length := fun p hp => by
      obtain ⟨i, _, hi⟩ := List.mem_filterMap.1 hp
      exact (atG_some hi).1
    have F := closedG_fix G hl
    have key : ∀ d k, L.length - k ≤ d → k < L.length → onG (closedG L ((headsG L).filterMap (atG L))) k = true := by
      intro d
      induction d with
      | zero => intro k h1 h2; omega
      | succ d ih =>
        intro k h1 h2
        rw [F.fix k h2]
        by_cases hp : onG (parentsG L) k = true
        · obtain ⟨j, hj, h3⟩ := (parentsG_is G k).1 hp
          have h4 := G.low j k h3
          exact .inr ⟨j, h4, hj, ih j (by omega) hj, h3⟩
        · refine .inl (List.mem_filterMap.2 ⟨idAt L k, ?_, atG_is G h2 (idAt_lt h2).symm⟩)
          unfold headsG
          rw [thoseG_mem G]
          exact ⟨k, atG_is G h2 (idAt_lt h2).symm, by simp [hp]⟩
    exact fun k hk => key (L.length - k) k (Nat.le_refl _) hk
  unfold cloG thoseG idsG
  rw [List.filter_eq_self.2 (fun k hk => hh k (List.mem_range.1 hk))]
  apply List.ext_getElem (by simp)
  intro k h1 h2
  simp only [List.length_map] at h2
  simp [idAt_lt h2]
theorem comes_self {L : List Gn} (G : GoodG L) {k : Nat} (hk : k < L.length) : onG (closedG L [k]) k = true := by
  rw [(closedG_fix G (l := [k]) (by simpa using hk)).fix k hk]
  exact .inl (by simp)
theorem comes_up {L : List Gn} (G : GoodG L) {k j p : Nat} (hk : k < L.length) (hj : j < L.length) (h : onG (closedG L [k]) j = true) (hp : p ∈ plAt L j) : onG (closedG L [k]) p = true := by
  rw [(closedG_fix G (l := [k]) (by simpa using hk)).fix p (low_lt G p hp)]
  exact .inr ⟨j, G.low j p hp, hj, h, hp⟩
theorem comesG_at {L : List Gn} (G : GoodG L) {i j : Nat} (hi : i < L.length) (hj : j < L.length) : comesG L (idAt L i) (idAt L j) = onG (closedG L [i]) j := by
  unfold comesG
  rw [atG_is G hi (idAt_lt hi).symm, atG_is G hj (idAt_lt hj).symm]
end Go.Proofs.Ytajmgjhknmkfpaa
