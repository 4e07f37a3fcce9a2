/- Two heads compared. -/
import Derived.Test.YtmegncaadglhmaaDoorKHead
namespace Go.Proofs.YtmegncaadglhmaaDoor
open Go.RowKit

theorem eq_two (P : Program) (w : World) (d : Nat) (f g : Field) (hf : f.name ≠ "_") (hg : g.name ≠ "_") (xs ys : Array Value) (a1 b1 a2 b2 : Value) (r1 r2 : Bool)
    (x1 : (part f.type xs f.offset).run P w = .ok a1 w) (y1 : (part f.type ys f.offset).run P w = .ok b1 w) (x2 : (part g.type xs g.offset).run P w = .ok a2 w) (y2 : (part g.type ys g.offset).run P w = .ok b2 w)
    (e1 : (Op.equalIn d f.type a1 b1).run P w = .ok r1 w) (e2 : (Op.equalIn d g.type a2 b2).run P w = .ok r2 w) : (Op.eqFields d xs ys [f, g]).run P w = .ok (r1 && r2) w := by
  simp only [Op.eqFields, hf, hg, ne_eq, not_false_eq_true, if_true, Sem.run_bind, x1, y1, Result.andThen_ok, e1]
  cases r1
  · simp
  · simp only [Bool.not_true, Bool.false_eq_true, if_false, Sem.run_bind, x2, y2, Result.andThen_ok, e2, Bool.true_and]
    cases r2 <;> simp
theorem eq_struct (P : Program) (w : World) (d : Nat) (t : TypeId) (f g : Field) (xs ys : Array Value) (r : Bool) (h1 : P.underlying t = some (.struct (P.fieldsOf t))) (h2 : P.stoodInHeld t = false) (h3 : (P.fieldsOf t).toList = [f, g])
    (h : (Op.eqFields d xs ys [f, g]).run P w = .ok r w) : (Op.equalIn (d + 1) t (.agg xs) (.agg ys)).run P w = .ok r w := by
  rw [run_equalIn_struct w d t xs ys h1 h2, h3]; exact h
/-- two heads compared -/
theorem equalHead (d : Nat) (P Q : List UInt8) (hP : P.length = 32) (hQ : Q.length = 32) (m n : Int) (w : World) :
    (Op.equalIn (d + 2 + 1) 28 (HV P m) (HV Q n)).run Tryd.prog w = .ok (P == Q && m == n) w := by
  have e1 := run_equalIn_bytes (P := Tryd.prog) w d 26 5 32 Tryd.underlying26 Tryd.underlying5 (fun _ => by kernel_rfl) P Q hP hQ
  have e2 := run_equalIn_int (P := Tryd.prog) w (d + 1) 3 .i64 .i64 m n Tryd.underlying3
  exact eq_struct _ w (d + 2) _ _ _ _ _ _ structHead stoodHead fieldsHead (eq_two _ w (d + 2) _ _ (by simp) (by simp) _ _ _ _ _ _ _ _ (partHash P m hP w) (partHash Q n hQ w) (partCount P m hP w) (partCount Q n hQ w) e1 e2)
theorem eql_of_equal (P : Program) (w : World) (t : TypeId) (xs ys : Array Value) (r : Bool) (d : Nat) (hd : d = 10000) (h : (Op.equalIn d t (.agg xs) (.agg ys)).run P w = .ok r w) : (binOp .eql t (.agg xs) (.agg ys)).run P w = .ok (.bool r) w := by
  subst hd
  rw [run_eql_struct, h]; rfl
theorem eqlHead (P Q : List UInt8) (hP : P.length = 32) (hQ : Q.length = 32) (m n : Int) (w : World) : (binOp .eql 28 (HV P m) (HV Q n)).run Tryd.prog w = .ok (.bool (P == Q && m == n)) w :=
  eql_of_equal _ w _ _ _ _ (9997 + 2 + 1) rfl (equalHead 9997 P Q hP hQ m n w)
theorem guardHead (P Q : List UInt8) (m n : Int) (x y : Operand) (w : World) : (eqGuard .eql 28 x y (HV P m) (HV Q n)).run Tryd.prog w = .ok () w :=
  run_eqGuard_agg w .eql 28 x y _ _ (by kernel_rfl)
end Go.Proofs.YtmegncaadglhmaaDoor
