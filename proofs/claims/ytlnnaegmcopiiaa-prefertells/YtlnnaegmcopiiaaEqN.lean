/- A node compared with itself; parts of a node; no conditions beyond those written in each theorem. -/
import Derived.Test.YtlnnaegmcopiiaaEqS
import Derived.Test.YtlnnaegmcopiiaaNd
namespace Go.Proofs.Ytlnnaegmcopiiaa
open Go.ChangeShapes Go.WideShapes Go.ChangeAt Go.RowKit
set_option maxRecDepth 100000
/-- A node as a value. -/
def nv (x : Nd) : Value := .agg (ndl x).toArray
theorem part_style (x : Nd) (w : World) : (part 39 (ndl x).toArray 0).run Try.prog w = .ok (sv x.s) w := by
  unfold part
  simp only [Sem.run_bind, Try.isAgg39, Result.andThen_ok, if_true, Try.sizeOf39, Sem.run_pure]
  have e : (ndl x).toArray.extract 0 (0 + 48) = (stl x.s).toArray := by
    rw [List.extract_toArray, List.extract_eq_take_drop, List.drop_zero]
    unfold ndl
    rw [List.take_append_of_le_length (by rw [x.full.len]; omega), List.take_of_length_le (by rw [x.full.len]; omega)]
  rw [e]; rfl
theorem part_parent (x : Nd) (w : World) : (part 3 (ndl x).toArray 48).run Try.prog w = .ok (.int .i64 x.p) w := by
  unfold part
  have e : (ndl x).toArray[48]? = some (.int .i64 x.p) := by rw [List.getElem?_toArray]; exact ndl_par x
  simp [Sem.run_bind, Try.isAgg3, e]
theorem fields51 : ((Try.prog.fieldsOf 42).toList.map fun f => (f.type, f.offset)) = [(39, 0), (3, 48)] := by kernel_rfl
theorem equal_node (x : Nd) (w : World) : (Op.equalIn 10000 42 (nv x) (nv x)).run Try.prog w = .ok true w := by
  unfold nv
  rw [run_equalIn_agg w 9999 42 _ _ (by kernel_rfl) (by kernel_rfl)]
  obtain ⟨a, b, hab, h1, h2, h3, h4⟩ : ∃ a b, (Try.prog.fieldsOf 42).toList = [a, b] ∧ a.type = 39 ∧ a.offset = 0 ∧ b.type = 3 ∧ b.offset = 48 := by
    have h := fields51
    generalize (Try.prog.fieldsOf 42).toList = fs at h
    obtain ⟨a, r, rfl, ha, hr⟩ := List.map_eq_cons_iff.1 h
    obtain ⟨b, r2, rfl, hb, hr2⟩ := List.map_eq_cons_iff.1 hr
    obtain rfl := List.map_eq_nil_iff.1 hr2
    simp at ha hb
    exact ⟨a, b, rfl, ha.1, ha.2, hb.1, hb.2⟩
  have e1 := fun w => equal_style 9995 x.s x.full w
  have e2 := fun w => run_equalIn_int (P := Try.prog) w 9998 3 .i64 .i64 x.p x.p Try.underlying3
  rw [hab]
  simp [Op.eqFields, Sem.run_bind, h1, h2, h3, h4, part_style, part_parent, e1, e2]
theorem neq_node (x : Nd) (w : World) : (binOp .neq 42 (nv x) (nv x)).run Try.prog w = .ok (.bool false) w := by
  have h := equal_node x w
  unfold nv at h ⊢
  rw [run_neq_struct, h]; rfl
theorem guard_node (o : BinOp) (x y : Operand) (s s' : Nd) (w : World) : (eqGuard o 42 x y (nv s) (nv s')).run Try.prog w = .ok () w := run_eqGuard_agg w o 42 x y _ _ Try.eqGuardType42
end Go.Proofs.Ytlnnaegmcopiiaa
