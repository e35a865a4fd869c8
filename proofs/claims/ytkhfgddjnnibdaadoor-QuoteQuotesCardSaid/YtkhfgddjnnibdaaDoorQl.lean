/-
  Layer 3: between of the program: all the forms of a text.
-/
import Derived.Test.YtkhfgddjnnibdaaDoorQk
import Derived.Test.YtkhfgddjnnibdaaDoorQy
import Derived.Test.YtkhfgddjnnibdaaDoorQu
namespace Go.Proofs.YtkhfgddjnnibdaaDoor
open Go.RowKit
set_option linter.unusedVariables false
set_option linter.unusedSimpArgs false

/-- What between leaves. -/
def BPost (l : List UInt8) (w : World) (e : Ending) (w' : World) : Prop := Below w.heap.size w w' ∧
  ((∃ t : List UInt8, betL l.length l = some t ∧ t.length ≤ l.length ∧ e = .returned (.tuple #[.string ⟨t.toArray⟩, .bool true])) ∨
    (betL l.length l = none ∧ ∃ s, e = .returned (.tuple #[.string s, .bool false])))

set_option maxHeartbeats 8000000 in
set_option maxRecDepth 100000 in
theorem between_is (l : List UInt8) (w : World) (hn : l.length ≤ 1000000) (hE : ErrTab w) :
    Calls Tryd.prog 25 #[.string ⟨l.toArray⟩] w fun e w' => BPost l w e w' := by
  have HE := Lib.hid hE
  have BN := Bu.new w
  have hB1 := (Below.refl w.heap.size w).alloc (Nat.le_refl _) (.cells #[.pointer none, .slice none 0 0] 43)
  have H1 := Lib.hid BN
  have H2 := Lib.hid hB1
  clear hE BN hB1
  go_enter Tryd.func25, Tryd.ntmps25
  go_wp2_with fail
  go_loopw [0] (fun vs wr => ∃ (m f : Nat) (acc : List UInt8), m ≤ l.length ∧ vs = .string ⟨(l.drop m).toArray⟩ ∧ Bu w.heap.size w.heap.size acc wr ∧ acc.length ≤ m ∧ Below w.heap.size w wr ∧ l.length - m ≤ f ∧ Hid (betL l.length l = (betL f (l.drop m)).map (acc ++ ·))) (fun vs _ => (match vs with | .string s => s.size | _ => 0))
  case atStart => exact ⟨0, l.length, [], Nat.zero_le _, rfl, H1.out, Nat.le_refl _, H2.out, by omega, Lib.hid (by cases h : betL l.length l <;> simp [h])⟩
  case round =>
    clear H1 H2
    obtain ⟨m, f, acc, hm, rfl, hbu, hac, hbr, hf, HB⟩ := hrel
    obtain ⟨d, hd⟩ : ∃ d, d = l.drop m := ⟨_, rfl⟩
    have hdl : d.length = l.length - m := by rw [hd]; simp
    rw [← hd] at HB ⊢
    have HD := Lib.hid hd
    clear hd
    have hem := empty_list d
    by_cases h0 : d.length = 0
    · have e0 : (⟨d.toArray⟩ : ByteArray).toList.isEmpty = true := by rw [hem]; simp [h0]
      have hdn : d = [] := List.eq_nil_of_length_eq_zero h0
      have OK : Hid (betL l.length l = some acc) := Lib.hid (by rw [HB.out, hdn, bet_nil]; simp)
      obtain ⟨s, hs⟩ : ∃ s : ByteArray, s = ⟨d.toArray⟩ := ⟨_, rfl⟩
      rw [← hs] at e0 ⊢
      clear hs hdn hem h0 hdl
      go_wp2_with fail
      refine (hbu.text hbr.size).mono ?_
      rintro e w2 ⟨rfl, b2⟩
      go_wp2
      go_ret2
      exact ⟨hbr.trans b2, .inl ⟨acc, OK.out, by omega, rfl⟩⟩
    · have e0 : (⟨d.toArray⟩ : ByteArray).toList.isEmpty = false := by rw [hem]; simp [h0]
      have hsz := size_toArray d
      have cT := fun w (h : ErrTab w) => takeForm_is d (by omega) w (by omega) h
      have hxd := ext_drop d
      obtain ⟨s, hs⟩ : ∃ s : ByteArray, s = ⟨d.toArray⟩ := ⟨_, rfl⟩
      rw [← hs] at e0 cT hsz hxd ⊢
      clear hs hem
      have XD := Lib.hid hxd
      clear hxd
      obtain ⟨f', rfl⟩ : ∃ f', f = f' + 1 := ⟨f - 1, by omega⟩
      go_wp2_with fail
      refine (cT _ (HE.out.below hbr)).mono ?_
      rintro e w2 ⟨b2, ⟨c, k, hF, rfl⟩ | ⟨hF, z, k, rfl⟩⟩
      · have hk := form_pos hF
        have hbu2 := hbu.below b2
        have hbr2 := hbr.trans (b2.mono hbr.size)
        have NB : Hid (betL l.length l = (betL f' (d.drop k)).map ((acc ++ [c]) ++ ·)) := Lib.hid (by
          rw [HB.out, bet_some hF]
          cases betL f' (d.drop k) <;> simp)
        have hx := XD.out k
        have DD : Hid (d.drop k = l.drop (m + k)) := Lib.hid (by rw [HD.out, List.drop_drop])
        clear hF cT b2 hbu hbr
        go_wp2_with fail
        refine (hbu2.byte hbr2.size (by omega) c _ (by rfl)).mono ?_
        rintro e w3 ⟨rfl, i3, b3, _⟩
        have hbr3 := hbr2.trans b3
        go_wp2
        go_roundw
        case rel => exact ⟨m + k, f', acc ++ [c], by omega, by rw [← hdl, XD.out k, DD.out], i3, by simp; omega, hbr3, by omega, by rw [← DD.out]; exact NB⟩
        case measure => simp [size_toArray]; omega
      · have hbr2 := hbr.trans (b2.mono hbr.size)
        have NB : Hid (betL l.length l = none) := Lib.hid (by
          rw [HB.out, bet_none (fun h => h0 (by rw [h]; rfl)) hF]
          rfl)
        clear hF cT
        go_wp2
        go_ret2
        exact ⟨hbr2, .inr ⟨NB.out, _, rfl⟩⟩
end Go.Proofs.YtkhfgddjnnibdaaDoor
