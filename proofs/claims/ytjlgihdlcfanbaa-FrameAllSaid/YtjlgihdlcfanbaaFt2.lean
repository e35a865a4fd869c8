/-
  Layer 5: next, Take of the program.
-/
import Derived.Test.YtjlgihdlcfanbaaFt
import Derived.Deep.RegionWith
namespace Go.Proofs.Ytjlgihdlcfanbaa
open Go.RowKit
set_option linter.unusedVariables false
set_option linter.unusedSimpArgs false

theorem PayAt.keep {w w' : World} {v : Value} {l : List UInt8} (h : PayAt w v l) (hb : Below w.heap.size w w') : PayAt w' v l := by
  obtain ⟨a, c, h1, h2, h3⟩ := h
  exact ⟨a, c, h1, h2.keep hb, h3⟩
set_option maxHeartbeats 8000000 in
theorem Take_any (a : Option Addr) (n c : Nat) (l : List UInt8) (w : World) (hn : n = l.length) (hb : BAt w a l) (hc : n ≤ c) (hm : c ≤ maxLen) :
    Calls Try.prog 12 #[.slice a n c] w fun e w' => ∃ v, e = .returned (.tuple #[.int .i64 ((takeK l : Nat) : Int), v, .int .i64 ((takeN l : Nat) : Int), .int .i64 ((takeE l : Nat) : Int)]) ∧ Row w' v (takeP l) ∧
      (∀ g, foot v = some g → w.heap.size ≤ g) ∧ Below w.heap.size w w' := by
  have C := Lib.hid (read_any a n c l w hn hb hc hm)
  have hpl := takeP_len l
  clear hn hb hc hm
  obtain ⟨K, hK⟩ : ∃ K : Int, ((takeK l : Nat) : Int) = K := ⟨_, rfl⟩
  obtain ⟨M, hM⟩ : ∃ M : Int, ((takeN l : Nat) : Int) = M := ⟨_, rfl⟩
  obtain ⟨E, hE⟩ : ∃ E : Int, ((takeE l : Nat) : Int) = E := ⟨_, rfl⟩
  unfold recL at C
  rw [hK, hM, hE] at C
  rw [hK, hM, hE]
  clear hK hM hE
  generalize takeP l = p at C hpl ⊢
  go_enter Try.func12, Try.ntmps12
  go_wp2_with fail
  refine C.out.mono ?_
  rintro e w1 ⟨v, rfl, ⟨pa, pc, rfl, hpb, hpn⟩, hb1⟩
  obtain ⟨pn, hpn2⟩ : ∃ pn, p.length = pn := ⟨_, rfl⟩
  rw [hpn2] at hpn
  rw [hpn2]
  have HPB := Lib.hid (hpb.keep hb1); have HPN := Lib.hid hpn; have HP2 := Lib.hid hpn2
  clear C hpb hpn hpn2
  go_wp2_with fail
  have h2 : (w1.alloc (.cells #[.int .i64 K, .slice pa pn pc, .int .i64 M] 52)).heap[w1.heap.size]? = some (.cells #[.int .i64 K, .slice pa pn pc, .int .i64 M] 52 (0, 0)) := heap_alloc_new w1 _
  have hb12 : Below w1.heap.size w1 (w1.alloc (.cells #[.int .i64 K, .slice pa pn pc, .int .i64 M] 52)) := (Below.refl _ w1).alloc (Nat.le_refl _) _
  generalize (w1.alloc (.cells #[.int .i64 K, .slice pa pn pc, .int .i64 M] 52)) = w2 at h2 hb12 ⊢
  have hlt := lt_of_heap h2
  have HB2 := Lib.hid (hb1.trans (hb12.mono hb1.size))
  have q0 : (World.drew w2).cell? ⟨w1.heap.size, 0, none⟩ = some (.int .i64 K) := (cell_of_row w2 _ 0 _ _ _ h2).trans rfl
  have q1 : (World.drew w2).cell? ⟨w1.heap.size, 1, none⟩ = some (.slice pa pn pc) := (cell_of_row w2 _ 1 _ _ _ h2).trans rfl
  have q2 : (World.drew w2).cell? ⟨w1.heap.size, 2, none⟩ = some (.int .i64 M) := (cell_of_row w2 _ 2 _ _ _ h2).trans rfl
  have HQ := Lib.hid (show ∀ w', Below (World.drew w2).heap.size (World.drew w2) w' → w'.cell? ⟨w1.heap.size, 0, none⟩ = some (.int .i64 K) ∧ w'.cell? ⟨w1.heap.size, 2, none⟩ = some (.int .i64 M) from fun w' h =>
    ⟨(h.cell (p := ⟨w1.heap.size, 0, none⟩) hlt).trans q0, (h.cell (p := ⟨w1.heap.size, 2, none⟩) hlt).trans q2⟩)
  have C2 := Lib.hid (bClone_any p (World.drew w2) pa pn pc ((HPB.out.keep hb12).keep ((Below.refl _ w2).drew)) HP2.out.symm HPN.out (Nat.le_trans hpl (by decide)))
  clear h2 hb12 hb1 HPB
  go_region_with (go_at_call 25; refine C2.out.mono ?_; rintro e w' ⟨v', rfl, hr, hf, hb⟩; have hqa := (HQ.out w' hb).1; have hqb := (HQ.out w' hb).2; have HX := Lib.hid (And.intro hr (And.intro hf hb)); clear hr hf hb)
  all_goals
    go_wp2
    (try simp only [Exit.inBlock, Exit.then])
    refine bodyPost_ret (results_tmp4 rfl _ _ _) rfl ?_
    exact ⟨_, rfl, HX.out.1, fun g hg => Nat.le_trans HB2.out.size (HX.out.2.1 g hg), HB2.out.drew.trans (HX.out.2.2.mono HB2.out.size)⟩
end Go.Proofs.Ytjlgihdlcfanbaa
