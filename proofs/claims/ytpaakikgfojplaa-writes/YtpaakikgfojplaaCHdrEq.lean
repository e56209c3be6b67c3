import Derived.Test.YtpaakikgfojplaaCRefOffer
/-
  Two headers compared, as one operation.
-/
namespace Go.Proofs.Ytpaakikgfojplaa
open Go.RowKit Num Bk

theorem run_eql_hdr (w : World) (b0 b1 b2 b3 b4 b5 b6 a0 a1 a2 a3 a4 a5 a6 : Int) :
    (binOp .eql 30 (.agg #[.int .i64 b0, .int .i64 b1, .int .i64 b2, .int .i64 b3, .int .i64 b4, .int .i64 b5, .int .i64 b6]) (.agg #[.int .i64 a0, .int .i64 a1, .int .i64 a2, .int .i64 a3, .int .i64 a4, .int .i64 a5, .int .i64 a6])).run Try.prog w =
      .ok (.bool (eqH ⟨b0, b1, b2, b3, b4, b5, b6⟩ ⟨a0, a1, a2, a3, a4, a5, a6⟩)) w := by
  go_simp
  unfold eqH
  (repeat' split) <;> simp_all
end Go.Proofs.Ytpaakikgfojplaa

