/- Heads: what they are as values, how they are built and compared; Two heads compared; Whether a head is of the record that begins with another one, and of a place in it. -/
import Derived.Test.YtlhfdlfbnnfjjaaDoorJ19
import Derived.Test.YtlhfdlfbnnfjjaaDoorJ01
import Derived.Test.YtlhfdlfbnnfjjaaDoorJ12
namespace Go.Proofs.YtlhfdlfbnnfjjaaDoor
open Go.RowKit

/-- a link -/
def lnk (P l : List UInt8) : List UInt8 := shaOf (P ++ (len4 l.length ++ l))
set_option maxRecDepth 100000 in
theorem length_lnk (P l : List UInt8) : (lnk P l).length = 32 := length_shaOf _
/-- the head's fingerprint behind all parts -/
def folded (P : List UInt8) (ps : List Part) : List UInt8 := ps.foldl (fun Q p => lnk Q p.l) P
set_option maxRecDepth 100000 in
theorem folded_snoc (P : List UInt8) (ps : List Part) (k : Nat) (hk : k < ps.length) : folded P (ps.take (k + 1)) = lnk (folded P (ps.take k)) ps[k].l := by
  unfold folded
  rw [List.take_succ_eq_append_getElem hk, List.foldl_append]; rfl
set_option maxRecDepth 100000 in
theorem length_folded (P : List UInt8) (hP : P.length = 32) : ∀ ps : List Part, (folded P ps).length = 32 := by
  intro ps
  unfold folded
  induction ps generalizing P with
  | nil => exact hP
  | cons p ps ih => exact ih _ (length_lnk _ _)
/-- a head's cells -/
def HC (P : List UInt8) (n : Int) : List Value := P.map B ++ [.int .i64 n]
def HV (P : List UInt8) (n : Int) : Value := .agg (HC P n).toArray
set_option maxRecDepth 100000 in
theorem length_HC (P : List UInt8) (hP : P.length = 32) (n : Int) : (HC P n).length = 33 := by simp [HC, hP]
set_option maxRecDepth 100000 in
theorem one_HC (P : List UInt8) (n : Int) : ∀ v ∈ HC P n, v.oneCell' = true := by
  intro v hv
  rcases List.mem_append.1 hv with h | h
  · obtain ⟨x, _, rfl⟩ := List.mem_map.1 h; rfl
  · obtain rfl := List.mem_singleton.1 h; rfl
/-- nought bytes -/
def z32 : List UInt8 := List.replicate 32 0
set_option maxRecDepth 100000 in
theorem infoHead (n : Nat) (h : n = 33) : (Tryd.prog.info? 42).map (·.size) = some n := by subst h; kernel_rfl
set_option maxRecDepth 100000 in
theorem infoHash (n : Nat) (h : n = 32) : (Tryd.prog.info? 40).map (·.size) = some n := by subst h; kernel_rfl
set_option maxRecDepth 100000 in
theorem zeroHead : (Tryd.prog.info? 42).bind (·.zero) = some (HV z32 0) := by kernel_rfl
set_option maxRecDepth 100000 in
theorem placesHead : ∃ fields, Tryd.prog.underlying 42 = some (.struct fields) ∧ fields.toList.mapM (fun f => (Tryd.prog.info? f.type).map fun i => (f.offset, i.size)) = some [(0, 32), (32, 1)] := ⟨_, Tryd.underlying42, by kernel_rfl⟩
set_option maxRecDepth 100000 in
theorem builtHead (P : List UInt8) (hP : P.length = 32) (n : Int) : Tryd.prog.built 42 [(0, .agg (P.map B).toArray), (1, .int .i64 n)] = some (HC P n).toArray := by
  obtain ⟨fields, hu, hp⟩ := placesHead
  rw [built_struct _ _ fields _ _ hu zeroHead hp]
  have hP' : (P.map B).length = 32 := by simpa using hP
  have hz : (HC z32 0).length = 33 := rfl
  unfold HC at *
  generalize P.map B = X at *
  show Instr.fill _ (z32.map B ++ [Value.int .i64 0]).toArray _ = _
  generalize z32.map B ++ [Value.int .i64 0] = Z at *
  have l1 : (over Z 0 X).length = 33 := by rw [length_over _ _ _ (by omega), hz]
  rw [fill_cons _ Z 0 _ X rfl 0 (by simp [hP']) (by omega), fill_cons _ _ 1 _ [Value.int .i64 n] rfl 32 rfl (by rw [l1]; simp)]
  simp only [Instr.fill]
  congr 2
  apply List.ext_getElem?
  intro i
  simp only [over, List.getElem?_append, List.length_take, List.getElem?_take, List.getElem?_drop, List.length_cons, List.length_nil, List.length_append, List.length_drop]
  grind
set_option maxRecDepth 100000 in
theorem builtHead0 : Tryd.prog.built 42 [] = some (HC z32 0).toArray := by kernel_rfl

set_option maxRecDepth 100000 in
theorem fieldsHead : (Tryd.prog.fieldsOf 42).toList = [{ name := "Hash", type := 40, offset := 0, embedded := false, tag := "", pkgPath := "", byteOffset := 0 }, { name := "Count", type := 3, offset := 32, embedded := false, tag := "", pkgPath := "", byteOffset := 32 }] := by
  simp only [Program.fieldsOf, Tryd.underlying42]
set_option maxRecDepth 100000 in
theorem structHead : Tryd.prog.underlying 42 = some (.struct (Tryd.prog.fieldsOf 42)) := by
  simp only [Program.fieldsOf, Tryd.underlying42]
set_option maxRecDepth 100000 in
theorem stoodHead : Tryd.prog.stoodInHeld 42 = false := by kernel_rfl
set_option maxRecDepth 100000 in
theorem partHash (R : List UInt8) (k : Int) (hR : R.length = 32) (w : World) : (part 40 (HC R k).toArray 0).run Tryd.prog w = .ok (.agg (R.map B).toArray) w := by
  have s26 : ∀ w, (sizeOf 40).run Tryd.prog w = .ok 32 w := fun _ => by kernel_rfl
  have hR' : (R.map B).length = 32 := by simpa using hR
  simp only [part, isAgg, Sem.run_bind, run_underlying Tryd.underlying40, Result.andThen_ok, Sem.run_pure, if_true, s26]
  congr 2
  unfold HC
  generalize R.map B = X at *
  simp [hR']
set_option maxRecDepth 100000 in
theorem partCount (R : List UInt8) (k : Int) (hR : R.length = 32) (w : World) : (part 3 (HC R k).toArray 32).run Tryd.prog w = .ok (.int .i64 k) w := by
  have hR' : (R.map B).length = 32 := by simpa using hR
  have e : (HC R k).toArray[32]? = some (.int .i64 k) := by
    unfold HC
    generalize R.map B = X at *
    simp [hR']
  simp only [part, isAgg, Sem.run_bind, run_underlying Tryd.underlying3, Result.andThen_ok, Sem.run_pure, Bool.false_eq_true, if_false, e]
set_option maxRecDepth 100000 in
/-- two fingerprints compared -/
theorem eqlHash (t : TypeId) (ht : t = 40 ∨ t = 39) (P Q : List UInt8) (hP : P.length = 32) (hQ : Q.length = 32) (w : World) : (binOp .eql t (.agg (P.map B).toArray) (.agg (Q.map B).toArray)).run Tryd.prog w = .ok (.bool (P == Q)) w := by
  rcases ht with rfl | rfl
  · exact run_eql_bytes w 40 5 32 Tryd.underlying40 Tryd.underlying5 (fun _ => by kernel_rfl) P Q hP hQ
  · exact run_eql_bytes w 39 5 32 Tryd.underlying39 Tryd.underlying5 (fun _ => by kernel_rfl) P Q hP hQ
set_option maxRecDepth 100000 in
theorem neqHash (P Q : List UInt8) (hP : P.length = 32) (hQ : Q.length = 32) (w : World) : (binOp .neq 40 (.agg (P.map B).toArray) (.agg (Q.map B).toArray)).run Tryd.prog w = .ok (.bool (!(P == Q))) w := by
  rw [run_neq_struct]
  have := run_equalIn_bytes (P := Tryd.prog) w 9998 40 5 32 Tryd.underlying40 Tryd.underlying5 (fun _ => by kernel_rfl) P Q hP hQ
  rw [show (Op.equalIn 10000 40 (Value.agg (P.map B).toArray) (Value.agg (Q.map B).toArray)).run Tryd.prog w = _ from this]
  rfl
set_option maxRecDepth 100000 in
theorem guardHash (op : BinOp) (P Q : List UInt8) (x y : Operand) (w : World) : (eqGuard op 40 x y (.agg (P.map B).toArray) (.agg (Q.map B).toArray)).run Tryd.prog w = .ok () w :=
  run_eqGuard_agg w op 40 x y _ _ (by kernel_rfl)
end Go.Proofs.YtlhfdlfbnnfjjaaDoor
namespace Go.Proofs.YtlhfdlfbnnfjjaaDoor
open Go.RowKit

set_option maxRecDepth 100000 in
theorem eq_two (P : Program) (w : World) (d : Nat) (f g : Field) (hf : f.name ≠ "_") (hg : g.name ≠ "_") (xs ys : Array Value) (a1 b1 a2 b2 : Value) (r1 r2 : Bool)
    (x1 : (part f.type xs f.offset).run P w = .ok a1 w) (y1 : (part f.type ys f.offset).run P w = .ok b1 w) (x2 : (part g.type xs g.offset).run P w = .ok a2 w) (y2 : (part g.type ys g.offset).run P w = .ok b2 w)
    (e1 : (Op.equalIn d f.type a1 b1).run P w = .ok r1 w) (e2 : (Op.equalIn d g.type a2 b2).run P w = .ok r2 w) : (Op.eqFields d xs ys [f, g]).run P w = .ok (r1 && r2) w := by
  simp only [Op.eqFields, hf, hg, ne_eq, not_false_eq_true, if_true, Sem.run_bind, x1, y1, Result.andThen_ok, e1]
  cases r1
  · simp
  · simp only [Bool.not_true, Bool.false_eq_true, if_false, Sem.run_bind, x2, y2, Result.andThen_ok, e2, Bool.true_and]
    cases r2 <;> simp
set_option maxRecDepth 100000 in
theorem eq_struct (P : Program) (w : World) (d : Nat) (t : TypeId) (f g : Field) (xs ys : Array Value) (r : Bool) (h1 : P.underlying t = some (.struct (P.fieldsOf t))) (h2 : P.stoodInHeld t = false) (h3 : (P.fieldsOf t).toList = [f, g])
    (h : (Op.eqFields d xs ys [f, g]).run P w = .ok r w) : (Op.equalIn (d + 1) t (.agg xs) (.agg ys)).run P w = .ok r w := by
  rw [run_equalIn_struct w d t xs ys h1 h2, h3]; exact h
set_option maxRecDepth 100000 in
/-- two heads compared -/
theorem equalHead (d : Nat) (P Q : List UInt8) (hP : P.length = 32) (hQ : Q.length = 32) (m n : Int) (w : World) :
    (Op.equalIn (d + 2 + 1) 42 (HV P m) (HV Q n)).run Tryd.prog w = .ok (P == Q && m == n) w := by
  have e1 := run_equalIn_bytes (P := Tryd.prog) w d 40 5 32 Tryd.underlying40 Tryd.underlying5 (fun _ => by kernel_rfl) P Q hP hQ
  have e2 := run_equalIn_int (P := Tryd.prog) w (d + 1) 3 .i64 .i64 m n Tryd.underlying3
  exact eq_struct _ w (d + 2) _ _ _ _ _ _ structHead stoodHead fieldsHead (eq_two _ w (d + 2) _ _ (by simp) (by simp) _ _ _ _ _ _ _ _ (partHash P m hP w) (partHash Q n hQ w) (partCount P m hP w) (partCount Q n hQ w) e1 e2)
set_option maxRecDepth 100000 in
theorem eql_of_equal (P : Program) (w : World) (t : TypeId) (xs ys : Array Value) (r : Bool) (d : Nat) (hd : d = 10000) (h : (Op.equalIn d t (.agg xs) (.agg ys)).run P w = .ok r w) : (binOp .eql t (.agg xs) (.agg ys)).run P w = .ok (.bool r) w := by
  subst hd
  rw [run_eql_struct, h]; rfl
set_option maxRecDepth 100000 in
theorem eqlHead (P Q : List UInt8) (hP : P.length = 32) (hQ : Q.length = 32) (m n : Int) (w : World) : (binOp .eql 42 (HV P m) (HV Q n)).run Tryd.prog w = .ok (.bool (P == Q && m == n)) w :=
  eql_of_equal _ w _ _ _ _ (9997 + 2 + 1) rfl (equalHead 9997 P Q hP hQ m n w)
set_option maxRecDepth 100000 in
theorem guardHead (P Q : List UInt8) (m n : Int) (x y : Operand) (w : World) : (eqGuard .eql 42 x y (HV P m) (HV Q n)).run Tryd.prog w = .ok () w :=
  run_eqGuard_agg w .eql 42 x y _ _ (by kernel_rfl)
end Go.Proofs.YtlhfdlfbnnfjjaaDoor
namespace Go.Proofs.YtlhfdlfbnnfjjaaDoor
open Go.RowKit

set_option maxRecDepth 100000 in
theorem eq_nil (P : Program) (w : World) (d : Nat) (xs ys : Array Value) : (Op.eqFields d xs ys []).run P w = .ok true w := by simp [Op.eqFields]
set_option maxRecDepth 100000 in
theorem eq_cons (P : Program) (w : World) (d : Nat) (f : Field) (fs : List Field) (hf : f.name ≠ "_") (xs ys : Array Value) (a b : Value) (r s : Bool)
    (x : (part f.type xs f.offset).run P w = .ok a w) (y : (part f.type ys f.offset).run P w = .ok b w) (e : (Op.equalIn d f.type a b).run P w = .ok r w) (k : (Op.eqFields d xs ys fs).run P w = .ok s w) :
    (Op.eqFields d xs ys (f :: fs)).run P w = .ok (r && s) w := by
  simp only [Op.eqFields, hf, ne_eq, not_false_eq_true, if_true, Sem.run_bind, x, y, Result.andThen_ok, e]
  cases r
  · simp
  · simpa using k
set_option maxRecDepth 100000 in
theorem part_int (xs : Array Value) (o : Nat) (v : Int) (h : xs[o]? = some (.int .i64 v)) (w : World) : (part 3 xs o).run Tryd.prog w = .ok (.int .i64 v) w := by
  simp only [part, isAgg, Sem.run_bind, run_underlying Tryd.underlying3, Result.andThen_ok, Sem.run_pure, Bool.false_eq_true, if_false, h]
set_option maxRecDepth 100000 in
theorem fieldsHd : (Tryd.prog.fieldsOf 72).toList = [{ name := "number", type := 3, offset := 0, embedded := false, tag := "", pkgPath := "gatepost/book", byteOffset := 0 }, { name := "generation", type := 3, offset := 1, embedded := false, tag := "", pkgPath := "gatepost/book", byteOffset := 8 },
    { name := "place", type := 3, offset := 2, embedded := false, tag := "", pkgPath := "gatepost/book", byteOffset := 16 }, { name := "count", type := 3, offset := 3, embedded := false, tag := "", pkgPath := "gatepost/book", byteOffset := 24 }, { name := "length", type := 3, offset := 4, embedded := false, tag := "", pkgPath := "gatepost/book", byteOffset := 32 }] := by
  simp only [Program.fieldsOf, Tryd.underlying72]
set_option maxRecDepth 100000 in
theorem structHd : Tryd.prog.underlying 72 = some (.struct (Tryd.prog.fieldsOf 72)) := by
  simp only [Program.fieldsOf, Tryd.underlying72]
set_option maxRecDepth 100000 in
theorem stoodHd : Tryd.prog.stoodInHeld 72 = false := by kernel_rfl
set_option maxRecDepth 100000 in
theorem equalHd (d : Nat) (a b : Hd) (w : World) : (Op.equalIn (d + 1 + 1) 72 (.agg a.cells.toArray) (.agg b.cells.toArray)).run Tryd.prog w = .ok (decide (a = b)) w := by
  have e := fun (m n : Int) => run_equalIn_int (P := Tryd.prog) w d 3 .i64 .i64 m n Tryd.underlying3
  have hd : decide (a = b) = (((a.n : Int) == (b.n : Int)) && (((a.g : Int) == (b.g : Int)) && (((a.p : Int) == (b.p : Int)) && (((a.c : Int) == (b.c : Int)) && (((a.l : Int) == (b.l : Int)) && true))))) := by
    rw [Bool.eq_iff_iff]
    simp only [decide_eq_true_eq, Bool.and_eq_true, beq_iff_eq, Int.natCast_inj, and_true]
    constructor
    · rintro rfl; exact ⟨rfl, rfl, rfl, rfl, rfl⟩
    · cases a; cases b; simp
  rw [run_equalIn_struct w (d + 1) 72 _ _ structHd stoodHd, fieldsHd, hd]
  exact eq_cons _ w _ _ _ (by simp) _ _ _ _ _ _ (part_int _ _ _ rfl w) (part_int _ _ _ rfl w) (e _ _) (eq_cons _ w _ _ _ (by simp) _ _ _ _ _ _ (part_int _ _ _ rfl w) (part_int _ _ _ rfl w) (e _ _)
    (eq_cons _ w _ _ _ (by simp) _ _ _ _ _ _ (part_int _ _ _ rfl w) (part_int _ _ _ rfl w) (e _ _) (eq_cons _ w _ _ _ (by simp) _ _ _ _ _ _ (part_int _ _ _ rfl w) (part_int _ _ _ rfl w) (e _ _)
    (eq_cons _ w _ _ _ (by simp) _ _ _ _ _ _ (part_int _ _ _ rfl w) (part_int _ _ _ rfl w) (e _ _) (eq_nil _ w _ _ _)))))
set_option maxRecDepth 100000 in
theorem eqlHd (a b : Hd) (w : World) : (binOp .eql 72 (.agg a.cells.toArray) (.agg b.cells.toArray)).run Tryd.prog w = .ok (.bool (decide (a = b))) w :=
  eql_of_equal _ w _ _ _ _ (9998 + 1 + 1) rfl (equalHd 9998 a b w)
set_option maxRecDepth 100000 in
theorem guardHd (xs ys : Array Value) (x y : Operand) (w : World) : (eqGuard .eql 72 x y (.agg xs) (.agg ys)).run Tryd.prog w = .ok () w :=
  run_eqGuard_agg w .eql 72 x y _ _ (by kernel_rfl)

/-- whether a head is of the same record as the first, and of that place -/
def belB (h f : Hd) (place : Nat) : Bool := decide (h = { f with p := place, l := h.l })
set_option maxRecDepth 100000 in
set_option maxHeartbeats 1000000 in
theorem belongs_any (w : World) (h f : Hd) (place : Nat) :
    Calls Tryd.prog 59 #[.agg h.cells.toArray, .agg f.cells.toArray, .int .i64 (place : Int)] w fun e w' => e = .returned (.bool (belB h f place)) ∧ Below w.heap.size w w' := by
  have he := fun w => eqlHd h { f with p := place, l := h.l } w
  have hg := fun xs ys x y w => guardHd xs ys x y w
  unfold Hd.cells at *
  dsimp only at he
  go_enter Tryd.func59, Tryd.ntmps59
  go_wp2
  go_region
  all_goals go_wp2
  all_goals go_ret
  all_goals exact ⟨rfl, (((Below.refl _ _).alloc (Nat.le_refl _) _).alloc (by simp) _).drew⟩
end Go.Proofs.YtlhfdlfbnnfjjaaDoor
