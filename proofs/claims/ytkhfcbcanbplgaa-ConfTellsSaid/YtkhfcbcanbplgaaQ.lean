/- What == and != say of structs of this program. -/
import Derived.Test.YtkhfcbcanbplgaaS
import Derived.Laws.StructEq
namespace Go.Proofs.Ytkhfcbcanbplgaa
set_option linter.unusedSimpArgs false
set_option linter.unusedVariables false
open Go.RowKit

theorem neq_dom (x y : Dom) (w : World) : (binOp .neq 51 (.agg #[.int .i64 x.above, .int .i64 x.delay, .bool x.ret]) (.agg #[.int .i64 y.above, .int .i64 y.delay, .bool y.ret])).run Try.prog w = .ok (.bool (!(x.above == y.above && (x.delay == y.delay && x.ret == y.ret)))) w := by
  have u3 := Try.underlying3
  have u4 := Try.underlying4
  have a3 := Try.isAgg3
  have z3 := Try.sizeOf3
  have a4 := Try.isAgg4
  have z4 := Try.sizeOf4
  have hS : Try.prog.underlying 51 = some (.struct (Try.prog.fieldsOf 51)) := by kernel_rfl
  have hp : Try.prog.stoodInHeld 51 = false := by kernel_rfl
  rw [run_neq_struct, show (10000 : Nat) = 9999 + 1 from rfl, run_equalIn_agg w 9999 51 _ _ hS hp]
  simp only [Program.fieldsOf, Try.underlying51]
  go_simp
  by_cases h1 : x.above = y.above <;> by_cases h2 : x.delay = y.delay <;> by_cases h3 : x.ret = y.ret <;> simp [h1, h2, h3]
theorem neq_rst (x y : Rst) (w : World) : (binOp .neq 53 (.agg #[.int .i64 x.least]) (.agg #[.int .i64 y.least])).run Try.prog w = .ok (.bool (!(x.least == y.least))) w := by
  have u3 := Try.underlying3
  have a3 := Try.isAgg3
  have z3 := Try.sizeOf3
  have hS : Try.prog.underlying 53 = some (.struct (Try.prog.fieldsOf 53)) := by kernel_rfl
  have hp : Try.prog.stoodInHeld 53 = false := by kernel_rfl
  rw [run_neq_struct, show (10000 : Nat) = 9999 + 1 from rfl, run_equalIn_agg w 9999 53 _ _ hS hp]
  simp only [Program.fieldsOf, Try.underlying53]
  go_simp
  by_cases h1 : x.least = y.least <;> simp [h1]
theorem neq_rgs (x y : Rgs) (w : World) : (binOp .neq 56 (.agg #[.int .u32 x.reset, .bool x.kept]) (.agg #[.int .u32 y.reset, .bool y.kept])).run Try.prog w = .ok (.bool (!(x.reset == y.reset && x.kept == y.kept))) w := by
  have u3 := Try.underlying41
  have u4 := Try.underlying4
  have a3 := Try.isAgg41
  have z3 := Try.sizeOf41
  have a4 := Try.isAgg4
  have z4 := Try.sizeOf4
  have hS : Try.prog.underlying 56 = some (.struct (Try.prog.fieldsOf 56)) := by kernel_rfl
  have hp : Try.prog.stoodInHeld 56 = false := by kernel_rfl
  rw [run_neq_struct, show (10000 : Nat) = 9999 + 1 from rfl, run_equalIn_agg w 9999 56 _ _ hS hp]
  simp only [Program.fieldsOf, Try.underlying56]
  go_simp
  by_cases h1 : x.reset = y.reset <;> by_cases h2 : x.kept = y.kept <;> simp [h1, h2]

end Go.Proofs.Ytkhfcbcanbplgaa
