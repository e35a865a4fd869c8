/-
  Single operations of QuotePlain's last statement, each over any frame.
-/
import Derived.Test.YtefljlbkdjaloaaDoorQb
import Derived.RegionTactic
namespace Go.Proofs.YtefljlbkdjaloaaDoor
open Go.RowKit
set_option linter.unusedVariables false

theorem y_len (f : Operand → Value) (o : Oper) (x : Operand) (ho : o.op = .call { callee := .builtin .len, args := #[x], argTypes := #[9] }) (qs : ByteArray) (L : Nat) (hz : qs.size = L) (hx : f x = .string qs) (w : World) :
    (execOp f o).run Tryd.prog w = .ok (.value (.int .i64 L)) w := by
  subst hz
  unfold execOp
  rw [ho]
  go_simp
theorem y_lens (f : Operand → Value) (o : Oper) (x : Operand) (ho : o.op = .call { callee := .builtin .len, args := #[x], argTypes := #[31] }) (a : Option Addr) (n c : Nat) (hx : f x = .slice a n c) (w : World) :
    (execOp f o).run Tryd.prog w = .ok (.value (.int .i64 n)) w := by
  unfold execOp
  rw [ho]
  go_simp
theorem y_add (f : Operand → Value) (o : Oper) (x : Operand) (ho : o.op = .binOp .add 3 x (.const (.int .i64 2)) 3) (n : Nat) (hn : n ≤ 1000) (hx : f x = .int .i64 n) (hc : f (.const (.int .i64 2)) = .int .i64 2) (w : World) :
    (execOp f o).run Tryd.prog w = .ok (.value (.int .i64 ((n : Int) + 2))) w := by
  have h := IntWalk.i64_in ((n : Int) + 2) (by omega)
  unfold execOp
  rw [ho]
  go_simp
theorem y_sub (f : Operand → Value) (o : Oper) (x : Operand) (ho : o.op = .binOp .sub 3 x (.const (.int .i64 1)) 3) (L N : Nat) (hL : L = N + 1) (hN : L ≤ 100000) (hx : f x = .int .i64 L) (hc : f (.const (.int .i64 1)) = .int .i64 1) (w : World) :
    (execOp f o).run Tryd.prog w = .ok (.value (.int .i64 N)) w := by
  subst hL
  have h := IntWalk.i64_in (N : Int) (by omega)
  have e : ((N + 1 : Nat) : Int) - 1 = N := by omega
  unfold execOp
  rw [ho]
  go_simp
theorem y_geq (f : Operand → Value) (o : Oper) (x y : Operand) (ho : o.op = .binOp .geq 3 x y 3) (a b : Int) (h : b ≤ a) (hx : f x = .int .i64 a) (hy : f y = .int .i64 b) (w : World) :
    (execOp f o).run Tryd.prog w = .ok (.value (.bool true)) w := by
  unfold execOp
  rw [ho]
  go_simp
theorem y_eql (f : Operand → Value) (o : Oper) (x : Operand) (ho : o.op = .binOp .eql 5 x (.const (.int .u8 34)) 5) (hx : f x = .int .u8 34) (hc : f (.const (.int .u8 34)) = .int .u8 34) (w : World) :
    (execOp f o).run Tryd.prog w = .ok (.value (.bool true)) w := by
  unfold execOp
  rw [ho]
  go_simp
theorem y_idx (f : Operand → Value) (o : Oper) (x y : Operand) (ho : o.op = .index 9 x y) (qs : ByteArray) (N : Nat) (hv : ∃ h : N < qs.size, qs[N]'h = 34) (hx : f x = .string qs) (hy : f y = .int .i64 N) (w : World) :
    (execOp f o).run Tryd.prog w = .ok (.value (.int .u8 34)) w := by
  obtain ⟨hN, hv⟩ := hv
  unfold execOp
  rw [ho]
  go_simp
end Go.Proofs.YtefljlbkdjaloaaDoor
