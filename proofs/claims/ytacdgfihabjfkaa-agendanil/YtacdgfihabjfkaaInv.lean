/- Which function a call through the interface comes to, and with which receiver. -/
import Derived.Test.YtacdgfihabjfkaaMeth
namespace Go.Proofs.Ytacdgfihabjfkaa
open Go.ChangeShapes Go.WideShapes Go.ChangeAt Go.RowKit
theorem receiver (a : Addr) (w : World) (x : Option Addr) (n c : Nat) (nm : String) (h : w.cell? a = some (.slice x n c)) : (receiverAt 50 (.val (.pointer (some a))) false (some nm)).run Try.prog w = .ok (.slice x n c) w := by
  have e2 : (underlying 50).run Try.prog w = .ok (.pointer 25) w := by rfl
  have e3 : (Builtin.ssaWrapNilChk_ #[50] 50 #[.pointer (some a), strVal "", strVal nm]).run Try.prog w = .ok (.pointer (some a)) w := by rfl
  unfold receiverAt
  simp [go_sem, Place.get, h, e2, e3]
theorem method_len (a : Addr) (w : World) (x : Option Addr) (n c : Nat) (h : w.cell? a = some (.slice x n c)) : (method 208 50 (.pointer (some a)) "Len").run Try.prog w = .ok (63, .slice x n c) w := by
  obtain ⟨i, h1, m, h2, h3, h4⟩ : ∃ i, (typeInfo 50).run Try.prog w = .ok i w ∧ ∃ m, i.methods.find? (·.name == "Len") = some m ∧ m.path = #[] ∧ m.func = some (63, false) := ⟨_, rfl, _, rfl, rfl, rfl⟩
  have e := fun nm => receiver a w x n c nm h
  unfold method
  simp only [Sem.run_bind, h1, Result.andThen, h2, h3, h4]
  simp [go_sem, follow, e]
theorem method_less (a : Addr) (w : World) (x : Option Addr) (n c : Nat) (h : w.cell? a = some (.slice x n c)) : (method 208 50 (.pointer (some a)) "Less").run Try.prog w = .ok (64, .slice x n c) w := by
  obtain ⟨i, h1, m, h2, h3, h4⟩ : ∃ i, (typeInfo 50).run Try.prog w = .ok i w ∧ ∃ m, i.methods.find? (·.name == "Less") = some m ∧ m.path = #[] ∧ m.func = some (64, false) := ⟨_, rfl, _, rfl, rfl, rfl⟩
  have e := fun nm => receiver a w x n c nm h
  unfold method
  simp only [Sem.run_bind, h1, Result.andThen, h2, h3, h4]
  simp [go_sem, follow, e]
theorem method_swap (a : Addr) (w : World) (x : Option Addr) (n c : Nat) (h : w.cell? a = some (.slice x n c)) : (method 208 50 (.pointer (some a)) "Swap").run Try.prog w = .ok (65, .slice x n c) w := by
  obtain ⟨i, h1, m, h2, h3, h4⟩ : ∃ i, (typeInfo 50).run Try.prog w = .ok i w ∧ ∃ m, i.methods.find? (·.name == "Swap") = some m ∧ m.path = #[] ∧ m.func = some (65, false) := ⟨_, rfl, _, rfl, rfl, rfl⟩
  have e := fun nm => receiver a w x n c nm h
  unfold method
  simp only [Sem.run_bind, h1, Result.andThen, h2, h3, h4]
  simp [go_sem, follow, e]
theorem method_pop (a : Addr) (w : World) : (method 208 50 (.pointer (some a)) "Pop").run Try.prog w = .ok (66, .pointer (some a)) w := by kernel_rfl
theorem method_push (a : Addr) (w : World) : (method 208 50 (.pointer (some a)) "Push").run Try.prog w = .ok (67, .pointer (some a)) w := by kernel_rfl
end Go.Proofs.Ytacdgfihabjfkaa
