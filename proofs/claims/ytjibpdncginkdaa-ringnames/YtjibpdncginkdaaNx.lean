import Derived.Test.YtjibpdncginkdaaNr
set_option linter.unusedVariables false
set_option linter.unusedSimpArgs false
namespace Go.Proofs.Ytjibpdncginkdaa
open Go.RowKit

theorem eqA (a b : Int) (w : World) : (Op.equalIn 9999 23 (.agg #[.int .i64 a, .int .i64 b]) (.agg #[.int .i64 a, .int .i64 b])).run Try.prog w = .ok true w := by
  obtain ⟨i0, hi, hz0, hz1, hz2⟩ := info_parts Try.info3
  have h3 : Try.prog.underlying 3 = some (.int .i64) := Try.underlying3
  have e (x : Int) : (Op.equalIn 9998 3 (.int .i64 x) (.int .i64 x)).run Try.prog w = .ok true w := by
    rw [run_equalIn_int (P := Try.prog) w 9997 3 .i64 .i64 x x h3]; simp
  unfold Op.equalIn
  simp [run_underlying Try.underlying23, sizeOf, typeInfo, hi, hz1, Std.Legacy.Range.forIn_eq_forIn_range', List.range', part, isAgg, run_underlying h3, e]
end Go.Proofs.Ytjibpdncginkdaa
