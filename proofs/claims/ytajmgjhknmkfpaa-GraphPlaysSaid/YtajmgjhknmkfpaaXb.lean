/-
  Keys that are ids: what they read as; which keys have come while a map is gone over.
-/
import Derived.Test.YtajmgjhknmkfpaaXa
import Derived.Test.YtajmgjhknmkfpaaGa
import Derived.DeepKeys4
import Derived.Sort.MapsRangeIn
namespace Go.Proofs.Ytajmgjhknmkfpaa
set_option maxRecDepth 100000
open Go.Maps Go.MapKept
set_option linter.unusedVariables false
set_option linter.unusedSimpArgs false

theorem laidX : laidOutB Try.prog = true := by kernel_rfl
theorem rowX : (32 : TypeId) < Try.prog.types.size := of_decide_eq_true (by kernel_rfl)
theorem wideX : (match Try.prog.underlying 32 with | some (.array _ _) | some (.struct _) => true | _ => false) = true := by kernel_rfl
theorem idKeyed : Keyed Try.prog 32 := Keyed.of_law (deep_law_laid laidX (m := 2) (by omega) rowX (by kernel_rfl) wideX)

/-- Twenty bytes. -/
abbrev B20 := { i : List UInt8 // i.length = 20 }
instance : Inhabited B20 := ⟨⟨List.replicate 20 0, by simp⟩⟩
def encX (x : B20) : Value := .agg (arrD x.1)
theorem arrD_inj {a b : List UInt8} (h : arrD a = arrD b) : a = b := by
  unfold arrD cellsD at h
  have h := congrArg Array.toList h
  simp only [List.toList_toArray, Lib.byteCells] at h
  refine List.map_inj_right (fun x y e => ?_) |>.1 h
  have := (Value.int.inj e).2
  exact UInt8.toNat_inj.1 (by omega)
theorem encX_inj {x y : B20} (h : encX x = encX y) : x = y := Subtype.ext (arrD_inj (Value.agg.inj h))

theorem mapM_all {α β : Type} {f : α → Option β} {g : α → β} : ∀ {l : List α}, (∀ x ∈ l, f x = some (g x)) → l.mapM f = some (l.map g)
  | [], _ => by simp
  | a :: l, h => by
    rw [List.mapM_cons, h a (by simp), mapM_all (fun x hx => h x (by simp [hx]))]
    rfl
/-- What an id reads as, as a key. -/
def codeL (i : List UInt8) : Lit := .string (keyBytes ((List.range 20).map (fun k => [Lit.int .u8 ((i[k]?.getD 0).toNat : Int)])).flatten)
theorem key_idL (i : List UInt8) (hi : i.length = 20) : keyOf Try.prog 32 (.agg (arrD i)) = some (codeL i) := by
  have hu : Try.prog.underlying 32 = some (.array 20 5) := Try.underlying32
  have c1 : Try.prog.cellsOf 32 = 20 := by kernel_rfl
  have c2 : Try.prog.cellsOf 5 = 1 := by kernel_rfl
  have kt : Try.prog.keyType 32 = true := by kernel_rfl
  have hs : (arrD i).size = 20 := arrD_size i hi
  have hl : (arrD i).toList.length = 20 := by simpa using hs
  have hf : (Value.agg (arrD i)).formed Try.prog 32 = true := by
    simp [Value.formed, hu, c1, hs]
  unfold keyOf
  rw [hu]
  simp only
  rw [kt, hf]
  simp only [Bool.and_self, if_true]
  have hc : (Value.agg (arrD i)).cells.toList = (arrD i).toList := rfl
  rw [hc]
  obtain ⟨m, hm⟩ : ∃ m, Try.prog.types.size = m + 1 := Nat.exists_eq_succ_of_ne_zero (Nat.ne_of_gt (Nat.lt_of_le_of_lt (Nat.zero_le _) rowX))
  rw [hm]
  have step : ∀ k ∈ List.range 20, Try.prog.keyLits (m + 1) 5 (((arrD i).toList.drop (k * 1)).take 1) = some [.int .u8 ((i[k]?.getD 0).toNat : Int)] := by
    intro k hk
    have hk : k < i.length := by rw [hi]; exact List.mem_range.1 hk
    have e1 : ((arrD i).toList.drop (k * 1)).take 1 = [.int .u8 ((i[k]?.getD 0).toNat : Int)] := by
      unfold arrD cellsD
      rw [List.toList_toArray, Nat.mul_one, Lib.byteCells, ← List.map_drop, ← List.map_take, List.drop_eq_getElem_cons hk, List.take_succ_cons, List.take_zero, List.getElem?_eq_getElem hk]
      rfl
    rw [e1]
    have hw : (Lit.int .u8 ((i[k]?.getD 0).toNat : Int)).wf = true := by
      have hlt := (i[k]?.getD 0).toNat_lt
      have e1 : IntKind.u8.min = 0 := rfl
      have e2 : IntKind.u8.max = 255 := rfl
      simp only [Lit.wf, e1, e2, Bool.and_eq_true, decide_eq_true_eq]
      omega
    have hu8 : Try.prog.underlying 5 = some (.int .u8) := Try.underlying5
    unfold Program.keyLits
    simp only [hu8]
    rw [if_pos ⟨trivial, hw⟩]
  have top : Try.prog.keyLits (m + 1 + 1) 32 (arrD i).toList = some ((List.range 20).map (fun k => [Lit.int .u8 ((i[k]?.getD 0).toNat : Int)])).flatten := by
    rw [Program.keyLits.eq_def]
    simp only [hu, c1, c2]
    rw [if_pos hl, mapM_all step]
    rfl
  rw [top]
  rfl
theorem key_id (i : List UInt8) (hi : i.length = 20) : ∃ l, keyOf Try.prog 32 (.agg (arrD i)) = some l := ⟨_, key_idL i hi⟩
def codeX (x : B20) : Lit := codeL x.1
theorem code_is (x : B20) : keyOf Try.prog 32 (encX x) = some (codeX x) := key_idL x.1 x.2
theorem code_same {x y : B20} : (codeX x).sameKey (codeX y) = true ↔ x = y := by
  constructor
  · intro h
    have e := WideAt.sameKey_eq h
    exact encX_inj (idKeyed.inj (code_is x) (e ▸ code_is y))
  · rintro rfl
    exact WideAt.sameKey_self (idKeyed.key (code_is x))
/-- Which keys have come: no one twice; those that are there and are no longer to come. -/
def CameX (D : DataW Unit) (left : Lit → Bool) (xs : List B20) : Prop := xs.Nodup ∧ ∀ x, x ∈ xs ↔ (Maps.has D (codeX x) = true ∧ left (codeX x) = false)
theorem CameX.start (D : DataW Unit) : CameX D (Maps.has D) [] := ⟨List.nodup_nil, fun x => by cases Maps.has D (codeX x) <;> simp⟩
theorem CameX.step {D : DataW Unit} {left : Lit → Bool} {xs : List B20} (h : CameX D left xs) {x : B20} {y : DataW Unit} (hlk : left (codeX x) = true) (hat : ∀ zd, D.atKey (codeX x) zd = y) :
    CameX D (fun z => left z && !z.sameKey (codeX x)) (xs ++ [x]) := by
  have hhas : Maps.has D (codeX x) = true := has_true_of_atKey hat
  have hnew : x ∉ xs := fun hx => by have := ((h.2 x).1 hx).2; rw [hlk] at this; cases this
  refine ⟨List.nodup_append.2 ⟨h.1, by simp, fun a ha b hb => by simp at hb; subst hb; exact fun e => hnew (e ▸ ha)⟩, fun y => ?_⟩
  by_cases hy : y = x
  · subst hy; simp [hhas, code_same.2 rfl]
  · have hne : (codeX y).sameKey (codeX x) = false := by
      cases e : (codeX y).sameKey (codeX x)
      · rfl
      · exact absurd (code_same.1 e) hy
    simp [h.2 y, hy, hne]
theorem CameX.all {D : DataW Unit} {left : Lit → Bool} {xs : List B20} (h : CameX D left xs) (hl : ∀ kl, left kl = false) {M : List B20} (hM : M.Nodup) (hD : ∀ x, Maps.has D (codeX x) = true ↔ x ∈ M) : xs.Perm M := by
  refine (List.perm_ext_iff_of_nodup h.1 hM).2 fun x => ?_
  rw [h.2 x, hl, hD x]
  simp
end Go.Proofs.Ytajmgjhknmkfpaa
