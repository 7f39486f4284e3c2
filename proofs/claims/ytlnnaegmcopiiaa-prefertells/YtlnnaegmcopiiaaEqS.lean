/- A style compared with itself; no conditions beyond those written in each theorem. -/
import Derived.Test.YtlnnaegmcopiiaaStyMem
namespace Go.Proofs.Ytlnnaegmcopiiaa
open Go.ChangeShapes Go.WideShapes Go.ChangeAt Go.RowKit
set_option maxRecDepth 100000
theorem eq_len (d : Nat) (a b : Int) (w : World) : (Op.equalIn (d + 2) 35 (.agg #[.int .i64 a, .int .i64 b]) (.agg #[.int .i64 a, .int .i64 b])).run Try.prog w = .ok true w := by
  go_simp
theorem eq24 (d : Nat) (a0 b0 a1 b1 a2 b2 a3 b3 : Int) (w : World) : (Op.equalIn (d + 3) 36 (.agg #[.int .i64 a0, .int .i64 b0, .int .i64 a1, .int .i64 b1, .int .i64 a2, .int .i64 b2, .int .i64 a3, .int .i64 b3]) (.agg #[.int .i64 a0, .int .i64 b0, .int .i64 a1, .int .i64 b1, .int .i64 a2, .int .i64 b2, .int .i64 a3, .int .i64 b3])).run Try.prog w = .ok true w := by
  rw [Op.equalIn.eq_def]
  simp only [Sem.run_bind, run_underlying Try.underlying36, Result.andThen_ok, Try.sizeOf35]
  simp [Std.Legacy.Range.forIn_eq_forIn_range', Std.Legacy.Range.size, List.range', part, Try.isAgg35, Try.sizeOf35, Sem.run_bind, eq_len, List.extract_toArray, List.extract_eq_take_drop]
theorem eq25 (d : Nat) (a0 a1 a2 a3 : Int) (w : World) : (Op.equalIn (d + 3) 37 (.agg #[.int .i64 a0, .int .i64 a1, .int .i64 a2, .int .i64 a3]) (.agg #[.int .i64 a0, .int .i64 a1, .int .i64 a2, .int .i64 a3])).run Try.prog w = .ok true w := by
  rw [Op.equalIn.eq_def]
  simp only [Sem.run_bind, run_underlying Try.underlying37, Result.andThen_ok, Try.sizeOf2]
  simp [Std.Legacy.Range.forIn_eq_forIn_range', Std.Legacy.Range.size, List.range', part, Try.isAgg2, Try.sizeOf2, Sem.run_bind, run_equalIn_int, Try.underlying2]
set_option maxHeartbeats 4000000 in
set_option maxRecDepth 100000 in
theorem equal_style (d : Nat) (s : Sty) (hf : Full s) (w : World) : (Op.equalIn (d + 4) 39 (sv s) (sv s)).run Try.prog w = .ok true w := by
  obtain ⟨shown, pos, lens, bord, rtl, hasz, z, clip, back, line⟩ := s
  have h1 : lens.length = 18 := hf.lens
  have h2 : bord.length = 4 := hf.bord
  clear hf
  match lens, h1 with
  | [q0, q1, q2, q3, q4, q5, q6, q7, q8, q9, q10, q11, q12, q13, q14, q15, q16, q17], _ =>
    match bord, h2 with
    | [n0, n1, n2, n3], _ =>
      show (Op.equalIn (d + 4) 39 (.agg #[.bool shown, .int .i64 pos, .int .i64 q0.k, .int .i64 q0.n, .int .i64 q1.k, .int .i64 q1.n, .int .i64 q2.k, .int .i64 q2.n, .int .i64 q3.k, .int .i64 q3.n, .int .i64 q4.k, .int .i64 q4.n, .int .i64 q5.k, .int .i64 q5.n, .int .i64 q6.k, .int .i64 q6.n, .int .i64 q7.k, .int .i64 q7.n, .int .i64 q8.k, .int .i64 q8.n, .int .i64 q9.k, .int .i64 q9.n, .int .i64 q10.k, .int .i64 q10.n, .int .i64 q11.k, .int .i64 q11.n, .int .i64 q12.k, .int .i64 q12.n, .int .i64 q13.k, .int .i64 q13.n, .int .i64 q14.k, .int .i64 q14.n, .int .i64 q15.k, .int .i64 q15.n, .int .i64 q16.k, .int .i64 q16.n, .int .i64 q17.k, .int .i64 q17.n, .int .i64 n0, .int .i64 n1, .int .i64 n2, .int .i64 n3, .bool rtl, .bool hasz, .int .i64 z, .bool clip, .int .i64 back, .int .i64 line]) (.agg #[.bool shown, .int .i64 pos, .int .i64 q0.k, .int .i64 q0.n, .int .i64 q1.k, .int .i64 q1.n, .int .i64 q2.k, .int .i64 q2.n, .int .i64 q3.k, .int .i64 q3.n, .int .i64 q4.k, .int .i64 q4.n, .int .i64 q5.k, .int .i64 q5.n, .int .i64 q6.k, .int .i64 q6.n, .int .i64 q7.k, .int .i64 q7.n, .int .i64 q8.k, .int .i64 q8.n, .int .i64 q9.k, .int .i64 q9.n, .int .i64 q10.k, .int .i64 q10.n, .int .i64 q11.k, .int .i64 q11.n, .int .i64 q12.k, .int .i64 q12.n, .int .i64 q13.k, .int .i64 q13.n, .int .i64 q14.k, .int .i64 q14.n, .int .i64 q15.k, .int .i64 q15.n, .int .i64 q16.k, .int .i64 q16.n, .int .i64 q17.k, .int .i64 q17.n, .int .i64 n0, .int .i64 n1, .int .i64 n2, .int .i64 n3, .bool rtl, .bool hasz, .int .i64 z, .bool clip, .int .i64 back, .int .i64 line])).run Try.prog w = _
      rw [run_equalIn_agg w (d + 3) 39 _ _ (by kernel_rfl) (by kernel_rfl)]
      have h24 := eq24
      have h25 := eq25
      go_simp
theorem equal_self (s : Sty) (hf : Full s) (w : World) : (Op.equalIn 10000 39 (sv s) (sv s)).run Try.prog w = .ok true w := equal_style 9996 s hf w
theorem eql_self (s : Sty) (hf : Full s) (w : World) : (binOp .eql 39 (sv s) (sv s)).run Try.prog w = .ok (.bool true) w := by
  have h := equal_self s hf w
  unfold sv at h ⊢
  rw [run_eql_struct, h]; rfl
theorem neq_self (s : Sty) (hf : Full s) (w : World) : (binOp .neq 39 (sv s) (sv s)).run Try.prog w = .ok (.bool false) w := by
  have h := equal_self s hf w
  unfold sv at h ⊢
  rw [run_neq_struct, h]; rfl
theorem guard_self (o : BinOp) (x y : Operand) (s s' : Sty) (w : World) : (eqGuard o 39 x y (sv s) (sv s')).run Try.prog w = .ok () w := run_eqGuard_agg w o 39 x y _ _ Try.eqGuardType39
end Go.Proofs.Ytlnnaegmcopiiaa
