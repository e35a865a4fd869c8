/-
  Texts that belong together, one behind the other.
-/
import Derived.Test.YtdgcjjledbnofaaDoorFu09
import Derived.Test.YtdgcjjledbnofaaDoorFu11
import Derived.ScopeJumps
import Derived.WalkMore
/-
  strings.EqualFold of any text and ".git".
-/
namespace Go.Proofs.YtdgcjjledbnofaaDoor
open Go.RowKit
set_option linter.unusedVariables false
set_option linter.unusedSimpArgs false

/-- The places of the table of simple folds that ".git" reads. -/
def FoldTab (w : World) : Prop := ∀ k v : Nat, (k = 46 ∧ v = 46) ∨ (k = 71 ∧ v = 103) ∨ (k = 73 ∧ v = 105) ∨ (k = 84 ∧ v = 116) ∨ (k = 103 ∧ v = 71) ∨ (k = 105 ∧ v = 73) ∨ (k = 116 ∧ v = 84) → w.cell? ⟨3, k, none⟩ = some (.int .u16 v)
theorem FoldTab.below {w w' : World} (h : FoldTab w) (hb : Below w.heap.size w w') : FoldTab w' := fun k v hk => by
  have := h k v hk
  exact (hb.cell (p := ⟨3, k, none⟩) (World.block_lt_of_cell? w _ this)).trans this

set_option maxHeartbeats 4000000 in
set_option maxRecDepth 100000 in
theorem SimpleFold_at (k v : Nat) (w : World) (hF : FoldTab w) (hk : (k = 46 ∧ v = 46) ∨ (k = 71 ∧ v = 103) ∨ (k = 73 ∧ v = 105) ∨ (k = 84 ∧ v = 116) ∨ (k = 103 ∧ v = 71) ∨ (k = 105 ∧ v = 73) ∨ (k = 116 ∧ v = 84)) :
    Calls Tryd.prog 73 #[.int .i32 k] w fun e w' => e = .returned (.int .i32 v) ∧ w' = w := by
  have hc := hF k v hk
  have h1 : k < 128 := by omega
  have h2 : v < 128 := by omega
  clear hF hk
  go_enter Tryd.func73, Tryd.ntmps73
  go_wp2
  go_ret
  exact ⟨rfl, rfl⟩

/-- What is there at the jump. -/
def AtJump (l : List UInt8) (s g : ByteArray) (w : World) (a : Act) (w' : World) : Prop :=
  Below w.heap.size w w' ∧ ∃ (i : Nat) (u4 u6 u7 u8 u14 u15 u16 u17 u18 u19 u20 u21 u22 u23 u24 u25 u26 u27 u28 u29 u30 u31 u32 u33 u34 u35 u36 u37 u38 u39 u40 u41 u42 u43 u44 u45 u46 u47 u48 u49 u50 u51 u52 u53 u54 : Value), a = { tmps := #[.string s, .string g, undef, undef, u4, .int .i64 i, u6, u7, u8, undef, undef, undef, undef, undef, u14, u15, u16, u17, u18, u19, u20, u21, u22, u23, u24, u25, u26, u27, u28, u29, u30, u31, u32, u33, u34, u35, u36, u37, u38, u39, u40, u41, u42, u43, u44, u45, u46, u47, u48, u49, u50, u51, u52, u53, u54, undef, undef, undef, undef, undef, undef, undef, undef, undef, undef, undef, undef, undef, undef, undef, undef, undef, undef, undef, undef, undef, undef, undef, undef, undef, undef, undef, undef, undef, undef, undef, undef, undef, undef, undef, undef, undef, undef, undef, undef, undef, undef, undef, undef, undef, undef, undef, undef, undef, undef, undef, undef, undef, undef, undef, undef, undef, undef, undef, undef, undef, undef, undef, undef, undef, undef, undef, undef], defers := [] } ∧ i < 4 ∧ i < l.length ∧ 128 ≤ (l.getD i 0).toNat

theorem or_four : ∀ x : Fin 256, (128 ≤ x.1 → 128 ≤ bits BinOp.or .u8 ((x.1 : Nat) : Int) 46 ∧ 128 ≤ bits BinOp.or .u8 ((x.1 : Nat) : Int) 103 ∧ 128 ≤ bits BinOp.or .u8 ((x.1 : Nat) : Int) 105 ∧ 128 ≤ bits BinOp.or .u8 ((x.1 : Nat) : Int) 116) ∧
    (x.1 < 128 → bits BinOp.or .u8 ((x.1 : Nat) : Int) 46 < 128 ∧ bits BinOp.or .u8 ((x.1 : Nat) : Int) 103 < 128 ∧ bits BinOp.or .u8 ((x.1 : Nat) : Int) 105 < 128 ∧ bits BinOp.or .u8 ((x.1 : Nat) : Int) 116 < 128) := by decide +kernel
theorem or_git (x y : UInt8) (h : y.toNat = 46 ∨ y.toNat = 103 ∨ y.toNat = 105 ∨ y.toNat = 116) : (128 ≤ x.toNat → 128 ≤ bits BinOp.or .u8 (x.toNat : Int) (y.toNat : Int)) ∧ (x.toNat < 128 → bits BinOp.or .u8 (x.toNat : Int) (y.toNat : Int) < 128) := by
  have k := or_four ⟨x.toNat, x.toNat_lt⟩
  simp only at k
  rcases h with h | h | h | h <;> rw [h]
  · exact ⟨fun a => (k.1 a).1, fun a => (k.2 a).1⟩
  · exact ⟨fun a => (k.1 a).2.1, fun a => (k.2 a).2.1⟩
  · exact ⟨fun a => (k.1 a).2.2.1, fun a => (k.2 a).2.2.1⟩
  · exact ⟨fun a => (k.1 a).2.2.2, fun a => (k.2 a).2.2.2⟩
theorem git_vals (i : Nat) (h : i < 4) : (gitL.getD i 0).toNat = 46 ∨ (gitL.getD i 0).toNat = 103 ∨ (gitL.getD i 0).toNat = 105 ∨ (gitL.getD i 0).toNat = 116 := by
  have : i = 0 ∨ i = 1 ∨ i = 2 ∨ i = 3 := by omega
  rcases this with rfl | rfl | rfl | rfl <;> decide
theorem low_nat (x : UInt8) : (lowB x).toNat = if 65 ≤ x.toNat ∧ x.toNat ≤ 90 then x.toNat + 32 else x.toNat := by
  have := x.toNat_lt
  unfold lowB
  split
  · rw [UInt8.toNat_ofNat']; omega
  · rfl
theorem git_short (l : List UInt8) (h : l.length ≠ 4) : l.map lowB ≠ gitL := fun e => h (by have := congrArg List.length e; simpa [gitL] using this)

set_option maxHeartbeats 16000000 in
set_option maxRecDepth 100000 in
theorem EqualFold_git (l : List UInt8) (w : World) (hn : l.length ≤ 1000000) (hF : FoldTab w) (hT : Lib.Utf8Tabs 0 1 w) :
    Calls Tryd.prog 67 #[.string ⟨l.toArray⟩, .string ⟨#[46, 103, 105, 116]⟩] w fun e w' => e = .returned (.bool (decide (l.map lowB = gitL))) ∧ Below w.heap.size w w' := by
  have GI : Hid (∀ i, i < 4 → ∀ h, (⟨#[46, 103, 105, 116]⟩ : ByteArray)[i]'h = gitL.getD i 0) := Lib.hid (fun i hi h => by
    have : i = 0 ∨ i = 1 ∨ i = 2 ∨ i = 3 := by omega
    rcases this with rfl | rfl | rfl | rfl <;> rfl)
  have hsz := size_toArray l
  have hget : ∀ i, i < l.length → ∀ h2 : i < (⟨l.toArray⟩ : ByteArray).size, (⟨l.toArray⟩ : ByteArray)[i]'h2 = l.getD i 0 := fun i h h2 => getD_str l i h h2
  obtain ⟨s, hs⟩ : ∃ s : ByteArray, s = ⟨l.toArray⟩ := ⟨_, rfl⟩
  have gsz : (⟨#[46, 103, 105, 116]⟩ : ByteArray).size = 4 := rfl
  obtain ⟨g, hg⟩ : ∃ g : ByteArray, g = ⟨#[46, 103, 105, 116]⟩ := ⟨_, rfl⟩
  rw [← hs] at hsz hget ⊢
  rw [← hg] at gsz GI ⊢
  have HGET := Lib.hid hget
  have HS := Lib.hid hs
  have HG := Lib.hid hg
  have HF := Lib.hid hF
  have HT := Lib.hid hT
  clear hs hget hg hF hT
  obtain ⟨M, hM⟩ : ∃ M : Nat, min (l.length : Int) 4 = (M : Int) := ⟨min l.length 4, by omega⟩
  have hM1 : M ≤ 4 := by omega
  have hM2 : M ≤ l.length := by omega
  have HM : Hid (M = 4 ∨ M = l.length) := Lib.hid (by omega)
  go_enter Tryd.func67, Tryd.ntmps67
  go_wp2
  refine wp_scope_jumps 0 (AtJump l s g w) (fun _ _ => 0) rfl ?_ ?_
  · go_wp2
    go_loopw [5] (fun vi wr => ∃ i : Nat, i ≤ M ∧ vi = .int .i64 i ∧ Below w.heap.size w wr ∧ Hid (∀ j, j < i → (lowB (l.getD j 0)).toNat = (gitL.getD j 0).toNat)) (fun vi _ => 4 - (intOf vi).toNat)
    case atStart => exact ⟨0, Nat.zero_le _, rfl, Below.refl _ _, Lib.hid fun j h => absurd h (Nat.not_lt_zero _)⟩
    case round =>
      clear hM
      obtain ⟨i, hi, rfl, hbr, HALL⟩ := hrel
      by_cases hlt : i < M
      · have hx := HGET.out i (by omega) (by omega)
        have hy := GI.out i (by omega) (by omega)
        have gv := git_vals i (by omega)
        obtain ⟨x, hxe⟩ : ∃ x : UInt8, x = l.getD i 0 := ⟨_, rfl⟩
        obtain ⟨y, hye⟩ : ∃ y : UInt8, y = gitL.getD i 0 := ⟨_, rfl⟩
        rw [← hxe] at hx
        rw [← hye] at hy gv
        have XE := Lib.hid hxe
        have YE := Lib.hid hye
        have LX := low_nat x
        have x8 := x.toNat_lt
        clear hxe hye
        by_cases h128 : 128 ≤ x.toNat
        · have hor := (or_git x y gv).1 h128
          have H128 := Lib.hid h128
          clear h128 gv LX
          go_wp2_with fail
          go_step3
          exact ⟨rfl, hbr, i, _, _, _, _, _, _, _, _, _, _, _, _, _, _, _, _, _, _, _, _, _, _, _, _, _, _, _, _, _, _, _, _, _, _, _, _, _, _, _, _, _, _, _, _, _, rfl, by omega, by omega, by rw [← XE.out]; exact H128.out⟩
        · have hor := (or_git x y gv).2 (by omega)
          have ST : Hid (i + 1 ≤ M) := Lib.hid (by omega)
          have NX : (lowB x).toNat = y.toNat → Hid (∀ j, j < i + 1 → (lowB (l.getD j 0)).toNat = (gitL.getD j 0).toNat) := fun h => Lib.hid fun j hj => by
            by_cases h2 : j < i
            · exact HALL.out j h2
            · obtain rfl : j = i := by omega
              rw [← XE.out, ← YE.out]
              exact h
          have NO : (lowB x).toNat ≠ y.toNat → Hid (decide (l.map lowB = gitL) = false) := fun h => Lib.hid (decide_eq_false (git_not l i (by omega) (by rw [← XE.out, ← YE.out]; exact h)))
          by_cases e0 : y.toNat = x.toNat
          · have f0 : ((y.toNat : Int) == (x.toNat : Int)) = true := by simp [e0]
            have R := NX (by rw [LX]; rw [if_neg (by omega)]; omega)
            clear NX NO LX gv e0
            go_wp2
            go_roundw
            case rel => exact ⟨i + 1, ST.out, by go_num, hbr, R⟩
            case measure => simp [intOf]; omega
          · have f0 : ((y.toNat : Int) == (x.toNat : Int)) = false := by simp; omega
            by_cases e1 : y.toNat < x.toNat
            · have R := NO (by rw [LX]; split <;> omega)
              have q : ¬ 65 ≤ y.toNat ∨ (65 ≤ y.toNat ∧ ¬ y.toNat ≤ 90) := by omega
              clear NX NO LX gv
              rcases q with q | ⟨q1, q2⟩
              · go_wp2
                simp only [Exit.jump]
                go_ret
                exact ⟨ret_bool R.out.symm, hbr⟩
              · go_wp2
                simp only [Exit.jump]
                go_ret
                exact ⟨ret_bool R.out.symm, hbr⟩
            · by_cases h65 : 65 ≤ x.toNat
              · by_cases h90 : x.toNat ≤ 90
                · by_cases h32 : y.toNat = x.toNat + 32
                  · have R := NX (by rw [LX, if_pos ⟨h65, h90⟩]; omega)
                    have f3 : ((y.toNat : Int) == (x.toNat : Int) + 32) = true := by simp; omega
                    have f4 : ((y.toNat : Int) == (x.toNat : Int) + 97 - 65) = true := by simp; omega
                    have hw : ((x.toNat : Int) + 97 - 65) = (x.toNat : Int) + 32 := by omega
                    clear NX NO LX gv h32
                    go_wp2
                    go_roundw
                    case rel => exact ⟨i + 1, ST.out, by go_num, hbr, R⟩
                    case measure => simp [intOf]; omega
                  · have R := NO (by rw [LX, if_pos ⟨h65, h90⟩]; omega)
                    have f3 : ((y.toNat : Int) == (x.toNat : Int) + 32) = false := by simp; omega
                    have f4 : ((y.toNat : Int) == (x.toNat : Int) + 97 - 65) = false := by simp; omega
                    clear NX NO LX gv
                    go_wp2
                    simp only [Exit.jump]
                    go_ret
                    exact ⟨ret_bool R.out.symm, hbr⟩
                · have R := NO (by rw [LX, if_neg (by omega)]; omega)
                  clear NX NO LX gv
                  go_wp2
                  simp only [Exit.jump]
                  go_ret
                  exact ⟨ret_bool R.out.symm, hbr⟩
              · have R := NO (by rw [LX, if_neg (by omega)]; omega)
                clear NX NO LX gv
                go_wp2
                simp only [Exit.jump]
                go_ret
                exact ⟨ret_bool R.out.symm, hbr⟩
      · obtain rfl : i = M := by omega
        by_cases h4 : l.length = 4
        · have f4 : ((l.length : Int) == 4) = true := by simp [h4]
          have R : Hid (decide (l.map lowB = gitL) = true) := Lib.hid (decide_eq_true (git_at l h4 (fun j hj => HALL.out j (by have := HM.out; omega))))
          clear h4
          go_wp2
          simp only [Exit.jump]
          go_ret
          exact ⟨ret_bool R.out.symm, hbr⟩
        · have f4 : ((l.length : Int) == 4) = false := by simp; omega
          have R : Hid (decide (l.map lowB = gitL) = false) := Lib.hid (decide_eq_false (git_short l h4))
          clear h4
          go_wp2
          simp only [Exit.jump]
          go_ret
          exact ⟨ret_bool R.out.symm, hbr⟩
  · rintro a' w' ⟨hb, i, u4, u6, u7, u8, u14, u15, u16, u17, u18, u19, u20, u21, u22, u23, u24, u25, u26, u27, u28, u29, u30, u31, u32, u33, u34, u35, u36, u37, u38, u39, u40, u41, u42, u43, u44, u45, u46, u47, u48, u49, u50, u51, u52, u53, u54, rfl, hi4, hil, h128⟩
    clear hM hM1 hM2 HM
    have R : Hid (decide (l.map lowB = gitL) = false) := Lib.hid (decide_eq_false (git_not l i hil (by
      have h1 := low_nat (l.getD i 0)
      have h2 := git_vals i hi4
      rw [h1, if_neg (by omega)]
      omega)))
    -- what stands behind the place in either text
    have hp : s.extract i l.length = ⟨(l.drop i).toArray⟩ := by rw [HS.out]; exact ext_drop l i
    obtain ⟨r, k, hr, hk, hr0, hr1, hk1, hkl, hw⟩ := rune_int (l.drop i) 0 (by simp; omega)
    have h128r : 128 ≤ r := by
      rcases hw with ⟨_, h, _⟩ | ⟨h, _, _⟩
      · rw [Lib.getD_dropU] at h
        simp only [Nat.add_zero] at h
        omega
      · exact h
    obtain ⟨m, hm⟩ : ∃ m, i + m = 4 := ⟨4 - i, by omega⟩
    have hqs : (g.extract i 4).size = m := by simp [ByteArray.size_extract, gsz]; omega
    obtain ⟨y, hy⟩ : ∃ y : Nat, y = (gitL.getD i 0).toNat := ⟨_, rfl⟩
    have gv := git_vals i hi4
    rw [← hy] at gv
    have hdec : Utf8.decode g i = (y, 1) := by
      have h1 : i < g.size := by omega
      have h2 := GI.out i hi4 h1
      rw [decode_ascii g i h1 (by rw [h2]; omega), h2, hy]
    have cD := fun w h => decode_from g i 4 gsz hi4 (y : Int) 1 (by rw [hdec]) (by rw [hdec]) w h
    have hsp : (⟨(l.drop i).toArray⟩ : ByteArray).size = l.length - i := by rw [size_toArray, List.length_drop]
    obtain ⟨pp, hpp⟩ : ∃ pp : ByteArray, pp = ⟨(l.drop i).toArray⟩ := ⟨_, rfl⟩
    rw [← hpp] at hp hr hk hsp
    obtain ⟨qq, hqq⟩ : ∃ qq : ByteArray, g.extract i 4 = qq := ⟨_, rfl⟩
    rw [hqq] at hqs cD
    have hnx := fun ty => run_next_any (P := Tryd.prog) w' pp 0 ty (by omega)
    rw [← hr, ← hk] at hnx
    simp only [Nat.zero_add] at hnx
    obtain ⟨v, hv, hv2⟩ : ∃ v : Nat, ((y = 46 ∧ v = 46) ∨ (y = 71 ∧ v = 103) ∨ (y = 73 ∧ v = 105) ∨ (y = 84 ∧ v = 116) ∨ (y = 103 ∧ v = 71) ∨ (y = 105 ∧ v = 73) ∨ (y = 116 ∧ v = 84)) ∧ ((v = 46 ∧ y = 46) ∨ (v = 71 ∧ y = 103) ∨ (v = 73 ∧ y = 105) ∨ (v = 84 ∧ y = 116) ∨ (v = 103 ∧ y = 71) ∨ (v = 105 ∧ y = 73) ∨ (v = 116 ∧ y = 84)) := by
      rcases gv with h | h | h | h
      · exact ⟨46, by omega, by omega⟩
      · exact ⟨71, by omega, by omega⟩
      · exact ⟨73, by omega, by omega⟩
      · exact ⟨84, by omega, by omega⟩
    have cF := fun w h => SimpleFold_at y v w h hv
    have cF2 := fun w h => SimpleFold_at v y w h hv2
    have hyr : (y : Int) < r := by omega
    have hvr : (v : Int) < r := by omega
    have f1 : ((y : Int) == r) = false := by simp; omega
    have f2 : ((v : Int) == r) = false := by simp; omega
    have hm0 : ((m : Int) == 0) = false := by simp; omega
    have hm1 : (1 : Int) ≤ (m : Int) := by omega
    have hi4z : (i : Int) ≤ 4 := by omega
    have hilz : (i : Int) ≤ (l.length : Int) := by omega
    have hb2 : Below w.heap.size w (w'.iter pp k) := hb.alloc hb.size _
    have HB2 := Lib.hid hb2
    have CD := Lib.hid cD
    have CF := Lib.hid cF
    have CF2 := Lib.hid cF2
    have EV : Hid (v = y ∨ ((v : Int) != (y : Int)) = true) := Lib.hid (by
      by_cases h : v = y
      · exact .inl h
      · right; simp; omega)
    clear hv hv2 gv hdec hpp hr hk hw hkl cD cF cF2 hb2 h128 hy
    go_wp2_with fail
    refine wp_loop_rounds 1 ?_
    rw [rounds_succ]
    go_wp2_with fail
    refine (CD.out _ (Utf8Tabs_below HT.out HB2.out)).mono ?_
    rintro e w3 ⟨rfl, b3⟩
    have hb3 := HB2.out.trans (b3.mono HB2.out.size)
    go_wp2_with fail
    refine (CF.out _ (HF.out.below hb3)).mono ?_
    rintro e w4 ⟨rfl, rfl⟩
    rcases EV.out with h | h
    · subst h
      have f3 : ((v : Int) != (v : Int)) = false := by simp
      go_wp2_with fail
      refine wp_loop_rounds 1 ?_
      rw [rounds_succ]
      go_wp2
      simp only [Exit.jump]
      go_ret
      exact ⟨ret_bool R.out.symm, hb3⟩
    · have f3 : ((y : Int) != (y : Int)) = false := by simp
      go_wp2_with fail
      refine wp_loop_rounds 2 ?_
      rw [rounds_succ]
      go_wp2_with fail
      refine (CF2.out _ (HF.out.below hb3)).mono ?_
      rintro e w5 ⟨rfl, rfl⟩
      go_wp2_with fail
      rw [rounds_succ]
      go_wp2
      simp only [Exit.jump]
      go_ret
      exact ⟨ret_bool R.out.symm, hb3⟩
end Go.Proofs.YtdgcjjledbnofaaDoor
