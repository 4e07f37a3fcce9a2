/- Heads: what they are as values, how they are built and compared. -/
import Derived.Test.YtmegncaadglhmaaDoorLinks
import Derived.Test.YtmegncaadglhmaaDoorBuilt
namespace Go.Proofs.YtmegncaadglhmaaDoor
open Go.RowKit

/-- a link -/
def lnk (P l : List UInt8) : List UInt8 := shaOf (P ++ (len4 l.length ++ l))
theorem length_lnk (P l : List UInt8) : (lnk P l).length = 32 := length_shaOf _
/-- the head's fingerprint behind all parts -/
def folded (P : List UInt8) (ps : List Part) : List UInt8 := ps.foldl (fun Q p => lnk Q p.l) P
theorem folded_snoc (P : List UInt8) (ps : List Part) (k : Nat) (hk : k < ps.length) : folded P (ps.take (k + 1)) = lnk (folded P (ps.take k)) ps[k].l := by
  unfold folded
  rw [List.take_succ_eq_append_getElem hk, List.foldl_append]; rfl
theorem length_folded (P : List UInt8) (hP : P.length = 32) : ∀ ps : List Part, (folded P ps).length = 32 := by
  intro ps
  unfold folded
  induction ps generalizing P with
  | nil => exact hP
  | cons p ps ih => exact ih _ (length_lnk _ _)
/-- a head's cells -/
def HC (P : List UInt8) (n : Int) : List Value := P.map B ++ [.int .i64 n]
def HV (P : List UInt8) (n : Int) : Value := .agg (HC P n).toArray
theorem length_HC (P : List UInt8) (hP : P.length = 32) (n : Int) : (HC P n).length = 33 := by simp [HC, hP]
theorem one_HC (P : List UInt8) (n : Int) : ∀ v ∈ HC P n, v.oneCell' = true := by
  intro v hv
  rcases List.mem_append.1 hv with h | h
  · obtain ⟨x, _, rfl⟩ := List.mem_map.1 h; rfl
  · obtain rfl := List.mem_singleton.1 h; rfl
/-- nought bytes -/
def z32 : List UInt8 := List.replicate 32 0
theorem infoHead (n : Nat) (h : n = 33) : (Tryd.prog.info? 28).map (·.size) = some n := by subst h; kernel_rfl
theorem infoHash (n : Nat) (h : n = 32) : (Tryd.prog.info? 26).map (·.size) = some n := by subst h; kernel_rfl
theorem zeroHead : (Tryd.prog.info? 28).bind (·.zero) = some (HV z32 0) := by kernel_rfl
theorem placesHead : ∃ fields, Tryd.prog.underlying 28 = some (.struct fields) ∧ fields.toList.mapM (fun f => (Tryd.prog.info? f.type).map fun i => (f.offset, i.size)) = some [(0, 32), (32, 1)] := ⟨_, Tryd.underlying28, by kernel_rfl⟩
theorem builtHead (P : List UInt8) (hP : P.length = 32) (n : Int) : Tryd.prog.built 28 [(0, .agg (P.map B).toArray), (1, .int .i64 n)] = some (HC P n).toArray := by
  obtain ⟨fields, hu, hp⟩ := placesHead
  rw [built_struct _ _ fields _ _ hu zeroHead hp]
  have hP' : (P.map B).length = 32 := by simpa using hP
  have hz : (HC z32 0).length = 33 := rfl
  unfold HC at *
  generalize P.map B = X at *
  show Instr.fill _ (z32.map B ++ [Value.int .i64 0]).toArray _ = _
  generalize z32.map B ++ [Value.int .i64 0] = Z at *
  have l1 : (over Z 0 X).length = 33 := by rw [length_over _ _ _ (by omega), hz]
  rw [fill_cons _ Z 0 _ X rfl 0 (by simp [hP']) (by omega), fill_cons _ _ 1 _ [Value.int .i64 n] rfl 32 rfl (by rw [l1]; simp)]
  simp only [Instr.fill]
  congr 2
  apply List.ext_getElem?
  intro i
  simp only [over, List.getElem?_append, List.length_take, List.getElem?_take, List.getElem?_drop, List.length_cons, List.length_nil, List.length_append, List.length_drop]
  grind
theorem builtHead0 : Tryd.prog.built 28 [] = some (HC z32 0).toArray := by kernel_rfl

theorem fieldsHead : (Tryd.prog.fieldsOf 28).toList = [{ name := "Hash", type := 26, offset := 0, embedded := false, tag := "", pkgPath := "", byteOffset := 0 }, { name := "Count", type := 3, offset := 32, embedded := false, tag := "", pkgPath := "", byteOffset := 32 }] := by
  simp only [Program.fieldsOf, Tryd.underlying28]
theorem structHead : Tryd.prog.underlying 28 = some (.struct (Tryd.prog.fieldsOf 28)) := by
  simp only [Program.fieldsOf, Tryd.underlying28]
theorem stoodHead : Tryd.prog.stoodInHeld 28 = false := by kernel_rfl
theorem partHash (R : List UInt8) (k : Int) (hR : R.length = 32) (w : World) : (part 26 (HC R k).toArray 0).run Tryd.prog w = .ok (.agg (R.map B).toArray) w := by
  have s26 : ∀ w, (sizeOf 26).run Tryd.prog w = .ok 32 w := fun _ => by kernel_rfl
  have hR' : (R.map B).length = 32 := by simpa using hR
  simp only [part, isAgg, Sem.run_bind, run_underlying Tryd.underlying26, Result.andThen_ok, Sem.run_pure, if_true, s26]
  congr 2
  unfold HC
  generalize R.map B = X at *
  simp [hR']
theorem partCount (R : List UInt8) (k : Int) (hR : R.length = 32) (w : World) : (part 3 (HC R k).toArray 32).run Tryd.prog w = .ok (.int .i64 k) w := by
  have hR' : (R.map B).length = 32 := by simpa using hR
  have e : (HC R k).toArray[32]? = some (.int .i64 k) := by
    unfold HC
    generalize R.map B = X at *
    simp [hR']
  simp only [part, isAgg, Sem.run_bind, run_underlying Tryd.underlying3, Result.andThen_ok, Sem.run_pure, Bool.false_eq_true, if_false, e]
/-- two fingerprints compared -/
theorem eqlHash (t : TypeId) (ht : t = 26 ∨ t = 25) (P Q : List UInt8) (hP : P.length = 32) (hQ : Q.length = 32) (w : World) : (binOp .eql t (.agg (P.map B).toArray) (.agg (Q.map B).toArray)).run Tryd.prog w = .ok (.bool (P == Q)) w := by
  rcases ht with rfl | rfl
  · exact run_eql_bytes w 26 5 32 Tryd.underlying26 Tryd.underlying5 (fun _ => by kernel_rfl) P Q hP hQ
  · exact run_eql_bytes w 25 5 32 Tryd.underlying25 Tryd.underlying5 (fun _ => by kernel_rfl) P Q hP hQ
theorem neqHash (P Q : List UInt8) (hP : P.length = 32) (hQ : Q.length = 32) (w : World) : (binOp .neq 26 (.agg (P.map B).toArray) (.agg (Q.map B).toArray)).run Tryd.prog w = .ok (.bool (!(P == Q))) w := by
  rw [run_neq_struct]
  have := run_equalIn_bytes (P := Tryd.prog) w 9998 26 5 32 Tryd.underlying26 Tryd.underlying5 (fun _ => by kernel_rfl) P Q hP hQ
  rw [show (Op.equalIn 10000 26 (Value.agg (P.map B).toArray) (Value.agg (Q.map B).toArray)).run Tryd.prog w = _ from this]
  rfl
theorem guardHash (op : BinOp) (P Q : List UInt8) (x y : Operand) (w : World) : (eqGuard op 26 x y (.agg (P.map B).toArray) (.agg (Q.map B).toArray)).run Tryd.prog w = .ok () w :=
  run_eqGuard_agg w op 26 x y _ _ (by kernel_rfl)
end Go.Proofs.YtmegncaadglhmaaDoor
