/-
  Texts that belong together, one behind the other.
-/
import Derived.Test.YtdgcjjledbnofaaDoorFu02
import Derived.Test.YtdgcjjledbnofaaDoorFu33
import Derived.Test.YtdgcjjledbnofaaDoorFu30
import Derived.Test.YtdgcjjledbnofaaDoorFu31
import Derived.Test.YtdgcjjledbnofaaDoorRows
import Derived.ProofKit
import Derived.OpenShut
import Derived.Below
import Derived.Carry
/-
  The helper Kept of the statements, over bytes: the copy that Own made is as it was.
-/
namespace Go.Proofs.YtdgcjjledbnofaaDoor
open Go.RowKit
set_option linter.unusedVariables false

set_option maxHeartbeats 1000000 in
theorem Kept_any (g n n2 c c2 : Nat) (a : Option Addr) (l : List UInt8) (f : Int) (w : World) (ho : OwnAt w g l f) (h : BAt w a l) (e1 : n = l.length) (e2 : c = l.length + 3) (e3 : n2 = l.length) (hn : l.length ≤ 1099511627776) :
    Calls Tryd.prog 16 #[.slice (some ⟨g, 0, none⟩) n c, .slice a n2 c2, .int .u8 f] w fun e w' => e = .returned (.bool true) ∧ Below w.heap.size w w' := by
  subst e1; subst e2; subst e3
  have P := Lib.hid (fun c1 => Plain_any (some ⟨g, 0, none⟩) a l.length l.length c1 c2 l w ho.bat h rfl rfl hn)
  have HO := Lib.hid ho
  have hg := ho.lt
  clear ho h
  go_enter Tryd.func16, Tryd.ntmps16
  go_wp2_with fail
  refine (P.out _).mono ?_
  rintro e w1 ⟨rfl, hb1⟩
  have HO1 := Lib.hid (HO.out.keep hb1)
  go_wp2_with fail
  go_loopw [8] (fun i wr => ∃ k : Nat, l.length ≤ k ∧ k ≤ l.length + 3 ∧ i = .int .i64 k ∧ Below w.heap.size w wr) (fun i _ => l.length + 3 - (intOf i).toNat)
  case atStart => exact ⟨l.length, Nat.le_refl _, by omega, rfl, hb1⟩
  case round =>
    obtain ⟨k, hk0, hk, rfl, hbr⟩ := hrel
    by_cases hlt : k < l.length + 3
    · have hcell := (HO.out.keep hbr).room k hk0 hlt
      go_wp2
      go_roundw
      case rel => exact ⟨k + 1, by omega, by omega, by go_num, hbr⟩
      case measure => simp [intOf]; omega
    · obtain rfl : k = l.length + 3 := by omega
      go_wp2
      go_ret
      exact ⟨rfl, hbr⟩
end Go.Proofs.YtdgcjjledbnofaaDoor

/-
  Layer 16: what the walks of its laws share.
-/
namespace Go.Proofs.YtdgcjjledbnofaaDoor
set_option maxRecDepth 20000
open Go.RowKit
set_option linter.unusedVariables false
set_option linter.unusedSimpArgs false

def spF : Fil := ⟨[115, 112, 111, 105, 108, 116], 0, zeroId⟩
theorem spF_id : spF.id.length = 20 := rfl
theorem built_spF : Tryd.prog.built 28 [(0, .string ⟨#[115, 112, 111, 105, 108, 116]⟩)] = some (arrF spF) := by kernel_rfl
/-- A literal of one part, where it is wanted. -/
theorem wpList_build_oneW {P : Program} {ops : Array Oper} {rest : List Oper} {o : Oper} {a : Act} {w : World} {Q : Exit → Act → World → Prop} (hw : Region.wanted o (yielded ops a.tmps) = true) (t : TypeId) (k : Nat) (x : Operand) (ho : o.op = .build t #[(k, x)])
    (v : Value) (hx : a.eval x = v) (cells : Array Value) (hb : P.built t [(k, v)] = some cells)
    (h : wpList P ops Q rest (a.put o.dst (.agg cells)) w) : wpList P ops Q (o :: rest) a w := by
  have hp : P.built t (#[(k, x)].map fun (i, x) => (i, a.eval x)).toList = some cells := by simp [hx, hb]
  exact Go.BigFrame.wpList_want hw fun _ hK => wp_build t #[(k, x)] ho (by rw [hp]; rfl) (by rw [hp]; exact hK _ _ h)
/-- What stays: both copies. -/
def PS (w : World) (l : List Fil) (m : List UInt8) (gi gb : Nat) (u : World) : Prop := OwnFil u gi l spF ∧ OwnAt u gb m 71 ∧ Below w.heap.size w u
theorem PS.keep {w u u' : World} {l : List Fil} {m : List UInt8} {gi gb : Nat} (h : PS w l m gi gb u) (b : Below u.heap.size u u') : PS w l m gi gb u' :=
  ⟨h.1.keep b, h.2.1.keep b, h.2.2.trans (b.mono h.2.2.size)⟩
theorem Red.keepW {w u : World} {v : Value} {l : List UInt8} (h : Red w v l) (b : Below w.heap.size w u) : Red u v l := h.below b (Nat.le_refl _)
theorem red_batW {w : World} {a : Option Addr} {n c : Nat} {l : List UInt8} (h : Red w (.slice a n c) l) : BAt w a l := by
  obtain ⟨a', c', e, hb, -⟩ := h
  cases e; exact hb
theorem redM_at {w : World} {a : Option Addr} {n c : Nat} {l : List Fil} (h : RedM w (.slice a n c) l) : FilesAt w a l := by
  obtain ⟨a', c', e, hb, -⟩ := h
  cases e; exact hb
theorem parseM_len {b : List UInt8} (h : b.length ≤ 65536) : (parseM b).1.length ≤ 65536 := by
  unfold parseM
  split
  · simp
  · cases hf : filesM b with
    | none => simp
    | some l =>
      simp only
      split
      · have e := (filesM_some _ b l (Nat.le_refl _) hf)
        have : ∀ l : List Fil, l.length ≤ (textM l).length := fun l => by
          induction l with
          | nil => simp
          | cons f l ih =>
            have hp : 0 < (lineM f).length := by unfold lineM; simp; omega
            rw [textM_cons, List.length_append, List.length_cons]; omega
        have h2 := this l
        rw [e.1] at h2
        exact Nat.le_trans h2 h
      · simp
/-- Paths of at most so many bytes. -/
def ShortM (l : List Fil) (i : Nat) : Prop := ∀ j (hj : j < l.length), j < i → l[j].path.length ≤ 600
theorem ShortM.all {l : List Fil} (h : ShortM l l.length) : ∀ f ∈ l, f.path.length ≤ 600 := fun f hf => by
  obtain ⟨k, hk, rfl⟩ := List.mem_iff_getElem.1 hf
  exact h k hk hk
theorem ShortM.next {l : List Fil} {i : Nat} (h : ShortM l i) (hi : i < l.length) (hp : l[i].path.length ≤ 600) : ShortM l (i + 1) := fun j hj h2 => by
  by_cases e : j < i
  · exact h j hj e
  · obtain rfl : j = i := by omega
    exact hp
theorem ShortM.start (l : List Fil) : ShortM l 0 := fun j _ h => absurd h (Nat.not_lt_zero _)
theorem wrapM (k : Nat) (h : k ≤ 1000000) : wrap64 ((k : Int) + 1) = (k : Int) + 1 := by unfold wrap64; omega
end Go.Proofs.YtdgcjjledbnofaaDoor

/-
  What a law's frame shares where no table is listed: how the world is laid, bounds of a byte.
-/
namespace Go.Proofs.YtdgcjjledbnofaaDoor
open Go.ChangeShapes Go.WideShapes Go.ChangeAt Go.RowKit
set_option linter.unusedVariables false

theorem laidOut : laidOutB Tryd.prog = true := by kernel_rfl
theorem lt_of_cell {w : World} {a : Addr} {v : Value} (h : w.cell? a = some v) : a.block < w.heap.size := by
  rcases Nat.lt_or_ge a.block w.heap.size with h' | h'
  · exact h'
  · simp [World.cell?, Array.getElem?_eq_none h'] at h
theorem bounds_byte {n : Int} (h : (Lit.int .u8 n).wf = true) : 0 ≤ n ∧ n ≤ 255 := by
  have e1 : IntKind.u8.min = 0 := rfl
  have e2 : IntKind.u8.max = 255 := rfl
  simpa [Lit.wf, e1, e2] using h
end Go.Proofs.YtdgcjjledbnofaaDoor
