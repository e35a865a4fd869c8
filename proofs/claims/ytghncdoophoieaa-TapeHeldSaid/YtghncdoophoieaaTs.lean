/-
  Layer 4: what the laws over deeds share.
-/
import Derived.Test.YtghncdoophoieaaTr
import Derived.Test.YtghncdoophoieaaHelpB
namespace Go.Proofs.Ytghncdoophoieaa
open Go.RowKit
set_option linter.unusedVariables false

section
variable {w0 w w' : World} {bt br : Nat} {X : Nat → Prop} {s t : Sx}
theorem two_args (h : Two w0 w bt br X s t) : Two w0 w bt br (fun k => X k ∨ k < w0.heap.size) s t := by
  obtain ⟨v, u, h1, h2, h3, h4, h5, h6, h7, h8, h9⟩ := h
  refine ⟨v, u, h1, h2, h3, h4, h5, h6, h7, h8, fun k hk => ?_⟩
  rcases hk with hk | hk
  · exact h9 k hk
  · refine ⟨Nat.lt_of_lt_of_le hk h3.size, fun hm => ?_, fun hm => ?_⟩
    · rcases hm with rfl | hm
      · omega
      · have := h6 k hm; omega
    · rcases hm with rfl | hm
      · omega
      · have := h7 k hm; omega
theorem two_bytes (h : Two w0 w bt br X s t) : Calls Try.prog 12 #[.pointer (some ⟨bt, 0, none⟩)] w fun e w' => ∃ a c, e = .returned (.slice a s.l.length c) ∧ Row w' (.slice a s.l.length c) s.l ∧ (∀ g, foot (.slice a s.l.length c) = some g → w.heap.size ≤ g) ∧ Below w.heap.size w w' ∧ Two w0 w' bt br X s t := by
  have hx := h
  obtain ⟨v, u, h1, _⟩ := h
  refine (Bytes_at bt v s.l w (Tat.c1 h1) (Tat.row h1) (Tat.len h1)).mono fun e w' ⟨v', e1, e2, e3, e4⟩ => ?_
  obtain ⟨a, c, rfl, _⟩ := e2.shape
  exact ⟨a, c, e1, e2, e3, e4, hx.keep e4 (fun k hk => .inl hk)⟩
theorem two_t2 (h : Two w0 w bt br X s t) : w.cell? ⟨bt, 2, none⟩ = some (.int .i64 s.hd) := by obtain ⟨v, u, h1, _⟩ := h; exact Tat.c2 h1
theorem two_t4 (h : Two w0 w bt br X s t) : w.cell? ⟨bt, 4, none⟩ = some (.bool s.dn) := by obtain ⟨v, u, h1, _⟩ := h; exact Tat.c4 h1
theorem two_r1 (h : Two w0 w bt br X s t) : w.cell? ⟨br, 1, none⟩ = some (.int .i64 t.hd) := by obtain ⟨v, u, _, h1, _⟩ := h; exact Rat.c1 h1
theorem two_r4 (h : Two w0 w bt br X s t) : w.cell? ⟨br, 4, none⟩ = some (.bool t.dn) := by obtain ⟨v, u, _, h1, _⟩ := h; exact Rat.c4 h1
theorem two_r0 (h : Two w0 w bt br X s t) : ∃ a c, w.cell? ⟨br, 0, none⟩ = some (.slice a t.l.length c) ∧ BAt w a t.l := by
  obtain ⟨v, u, _, h1, _⟩ := h
  obtain ⟨a, c, hv, _, _, hb, _⟩ := (Rat.row h1).shape
  exact ⟨a, c, hv ▸ Rat.c0 h1, hb⟩
theorem two_len (h : Two w0 w bt br X s t) : s.l.length ≤ 16777216 := by obtain ⟨v, u, h1, _⟩ := h; exact Tat.len h1
theorem two_held (h : Two w0 w bt br X s t) : s.hd ≤ s.l.length := by obtain ⟨v, u, h1, _⟩ := h; exact Tat.held h1
theorem two_new (n : Int) (w : World) : Calls Try.prog 8 #[.int .i64 n] w fun e w' => e = .returned (.pointer (some ⟨w.heap.size, 0, none⟩)) ∧ Tat w' w.heap.size (.slice none 0 0) (clamp n) [] 0 0 false ∧ Below w.heap.size w w' := New_any n w
theorem two_mk (n : Int) (w w1 w2 : World) (h1 : Tat w1 w.heap.size (.slice none 0 0) (clamp n) [] 0 0 false) (b1 : Below w.heap.size w w1) (h2 : Rat w2 w1.heap.size (.slice none 0 0) (clamp n) [] 0 0 false) (b2 : Below w1.heap.size w1 w2) :
    Two w w2 w.heap.size w1.heap.size (fun _ => False) ⟨clamp n, [], 0, 0, false⟩ ⟨clamp n, [], 0, 0, false⟩ :=
  ⟨.slice none 0 0, .slice none 0 0, h1.keep b2, h2, b1.trans (b2.mono b1.size), Nat.le_refl _, b1.size, (fun g hg => by cases hg), (fun g hg => by cases hg),
    (fun k hk hm => by
      rcases hk with rfl | hk
      · rcases hm with hm | hm
        · have := h1.lt; omega
        · cases hm
      · cases hk), fun k hk => hk.elim⟩
end
theorem DeedAt.cells {W w : World} {b o : Nat} {wh n : Int} {pa : Option Addr} {np pc : Nat} {ls : List (List UInt8)} (h : DeedAt W b o wh n pa np pc ls) (hb : b < W.heap.size) (bel : Below W.heap.size W w) :
    w.cell? ⟨b, o, none⟩ = some (.int .i64 wh) ∧ w.cell? ⟨b, o + 1, none⟩ = some (.int .i64 n) ∧ w.cell? ⟨b, o + 2, none⟩ = some (.slice pa np pc) :=
  ⟨(bel.cell (p := ⟨b, o, none⟩) hb).trans h.1, (bel.cell (p := ⟨b, o + 1, none⟩) hb).trans h.2.1, (bel.cell (p := ⟨b, o + 2, none⟩) hb).trans h.2.2.1⟩
theorem extract_pre (f t : List UInt8) : (⟨(f ++ t).toArray⟩ : ByteArray).extract 0 f.length = ⟨f.toArray⟩ := by
  apply ByteArray.ext
  rw [ByteArray.data_extract]
  simp
set_option maxHeartbeats 2000000 in
theorem Begins_yes (l f : List UInt8) (h : f <+: l) (hl : l.length ≤ 16777216) (w : World) :
    Calls Try.prog 21 #[.string ⟨l.toArray⟩, .string ⟨f.toArray⟩] w fun e w' => e = .returned (.bool true) ∧ w = w' := by
  obtain ⟨t, rfl⟩ := h
  have hx := extract_pre f t
  have h1 : (⟨(f ++ t).toArray⟩ : ByteArray).size = f.length + t.length := by rw [size_toArray, List.length_append]
  have h2 : (⟨f.toArray⟩ : ByteArray).size = f.length := size_toArray f
  rw [List.length_append] at hl
  obtain ⟨x, hxx⟩ : ∃ x : ByteArray, ⟨(f ++ t).toArray⟩ = x := ⟨_, rfl⟩
  obtain ⟨y, hyy⟩ : ∃ y : ByteArray, ⟨f.toArray⟩ = y := ⟨_, rfl⟩
  rw [hxx] at hx h1 ⊢
  rw [hyy] at hx h2 ⊢
  clear hxx hyy
  have hge : (f.length : Int) ≤ (f.length : Int) + t.length := by omega
  go_enter Try.func21, Try.ntmps21
  go_wp2
  go_ret
  exact ⟨rfl, rfl⟩
end Go.Proofs.Ytghncdoophoieaa
