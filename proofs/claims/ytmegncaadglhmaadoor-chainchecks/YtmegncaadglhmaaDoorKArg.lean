/- Heads, proofs, pairs of truths that came in. -/
import Derived.Test.YtmegncaadglhmaaDoorKQuiet
import Derived.Test.YtmegncaadglhmaaDoorLinksArg
import Derived.ChangeSame
namespace Go.Proofs.YtmegncaadglhmaaDoor
open Go.ChangeShapes Go.WideShapes Go.ChangeAt Go.RowKit Go.Deep

section
variable {H : Type} {enc : TypeId × Value → H} {w : World} {base : Nat} {spare : Nat → Bool} {held : Bool} {r : Reach} {b0 : Nat}
theorem hash_of_cells {fuel : Nat} {cs : List Value} {x : DataW H × List MemPlace} (h : DataW.trod enc Tryd.prog w base spare held fuel 26 cs = some x) : ∃ P : List UInt8, P.length = 32 ∧ cs = P.map B := by
  obtain ⟨xs, m, _, _, hlen, hxl, hel⟩ := DataW.trod_array Tryd.underlying26 h
  have c32 : Tryd.prog.cellsOf 26 = 32 := by kernel_rfl
  have c1 : Tryd.prog.cellsOf 5 = 1 := by kernel_rfl
  rw [c32] at hlen
  have hn : ∀ i, i < 32 → ∃ n : Int, cs[i]? = some (.int .u8 n) ∧ 0 ≤ n ∧ n ≤ 255 := by
    intro i hi
    have h1 := hel i hi
    rw [c1, Nat.mul_one, List.getElem?_eq_getElem (by omega)] at h1
    obtain ⟨n, e, _, wn⟩ := DataW.trod_int Tryd.underlying5 h1
    have hb := bounds_u8 wn
    refine ⟨n, ?_, hb.1, hb.2⟩
    have hi' : i < cs.length := by omega
    rw [List.drop_eq_getElem_cons hi', List.take_succ_cons, List.take_zero] at e
    rw [List.getElem?_eq_getElem hi', List.cons.inj e |>.1]
  obtain ⟨f, hf'⟩ := choose_lt hn
  refine ⟨(List.range 32).map fun i => UInt8.ofNat (f i).toNat, by simp, ?_⟩
  apply List.ext_getElem?
  intro i
  rcases Nat.lt_or_ge i 32 with hi | hi
  · obtain ⟨h1, h2, h3⟩ := hf' i hi
    rw [h1]
    simp [hi]
    omega
  · rw [List.getElem?_eq_none (by omega), List.getElem?_eq_none (by simp; omega)]
theorem head_of_cells {fuel : Nat} {cs : List Value} {x : DataW H × List MemPlace} (h : DataW.trod enc Tryd.prog w base spare held fuel 28 cs = some x) : ∃ P : List UInt8, P.length = 32 ∧ ∃ n : Int, (Lit.int .i64 n).wf = true ∧ cs = HC P n := by
  obtain ⟨y0, y1, m, _, hl, h0, h1⟩ := trod_struct2 Tryd.underlying28 h
  have c33 : Tryd.prog.cellsOf 28 = 33 := by kernel_rfl
  have c32 : Tryd.prog.cellsOf 26 = 32 := by kernel_rfl
  have c1 : Tryd.prog.cellsOf 3 = 1 := by kernel_rfl
  rw [c33] at hl
  dsimp only at h0 h1
  rw [c32] at h0
  rw [c1] at h1
  obtain ⟨P, hP, e0⟩ := hash_of_cells h0
  obtain ⟨n, e1, _, wn⟩ := DataW.trod_int Tryd.underlying3 h1
  refine ⟨P, hP, n, wn, ?_⟩
  unfold HC
  have e2 : List.take 1 (List.drop 32 cs) = List.drop 32 cs := List.take_of_length_le (by rw [List.length_drop]; omega)
  rw [← e0, ← e1, List.drop_zero, e2, List.take_append_drop]
theorem head_of_arg {v : Value} {d : DataW H} {p : List MemPlace} (hv : Value.okWide Tryd.prog w r b0 28 v) (h : DataW.Trod enc Tryd.prog w base spare held 28 v d p) :
    ∃ P : List UInt8, P.length = 32 ∧ ∃ n : Int, (Lit.int .i64 n).wf = true ∧ v = HV P n := by
  simp only [Value.okWide, Tryd.underlying28] at hv
  obtain ⟨cs, rfl, hsz, _⟩ := hv
  obtain ⟨fuel, hf⟩ := h
  have hcs : (Value.cells (.agg cs)).toList = cs.toList := by simp [Value.cells]
  rw [hcs] at hf
  obtain ⟨P, hP, n, hn, e⟩ := head_of_cells hf
  exact ⟨P, hP, n, hn, by unfold HV; rw [← e]⟩
theorem int_of_arg {v : Value} {d : DataW H} {p : List MemPlace} (hv : Value.okWide Tryd.prog w r b0 3 v) (h : DataW.Trod enc Tryd.prog w base spare held 3 v d p) : ∃ n : Int, v = .int .i64 n ∧ (Lit.int .i64 n).wf = true := by
  obtain ⟨n, rfl, _, _, wn⟩ := open_int Tryd.underlying3 hv h
  exact ⟨n, rfl, wn⟩
theorem bools2_of_arg {v : Value} {d : DataW H} {p : List MemPlace} (hv : Value.okWide Tryd.prog w r b0 35 v) (h : DataW.Trod enc Tryd.prog w base spare held 35 v d p) : ∃ x y : Bool, v = .agg #[.bool x, .bool y] := by
  simp only [Value.okWide, Tryd.underlying35] at hv
  obtain ⟨cs, rfl, hsz, _⟩ := hv
  obtain ⟨fuel, hf⟩ := h
  obtain ⟨xs, m, _, _, hlen, hxl, hel⟩ := DataW.trod_array Tryd.underlying35 hf
  have c2 : Tryd.prog.cellsOf 35 = 2 := by kernel_rfl
  have c1 : Tryd.prog.cellsOf 4 = 1 := by kernel_rfl
  rw [c2] at hsz
  have hcs : (Value.cells (.agg cs)).toList = cs.toList := by simp [Value.cells]
  rw [hcs] at hel
  have hn : ∀ i, i < 2 → ∃ b : Bool, cs.toList[i]? = some (.bool b) := by
    intro i hi
    have h1 := hel i hi
    rw [c1, Nat.mul_one, List.getElem?_eq_getElem (by omega)] at h1
    obtain ⟨b, e, _⟩ := DataW.trod_bool Tryd.underlying4 h1
    refine ⟨b, ?_⟩
    have hi' : i < cs.toList.length := by simp; omega
    rw [List.drop_eq_getElem_cons hi'] at e
    simp at e
    rw [List.getElem?_eq_getElem hi']
    simp [e]
  obtain ⟨x, hx⟩ := hn 0 (by omega)
  obtain ⟨y, hy⟩ := hn 1 (by omega)
  refine ⟨x, y, ?_⟩
  congr 1
  apply Array.toList_inj.1
  apply List.ext_getElem?
  intro i
  match i with
  | 0 => rw [hx]; rfl
  | 1 => rw [hy]; rfl
  | k + 2 => rw [List.getElem?_eq_none (by simp; omega), List.getElem?_eq_none (by simp)]
theorem proof_of_arg {v : Value} {d : DataW H} {p : List MemPlace} (h0 : 0 < w.heap.size) (hv : Value.okWide Tryd.prog w r b0 38 v) (h : DataW.Trod enc Tryd.prog w base (fun _ => true) held 38 v d p) :
    ∃ P : List UInt8, P.length = 32 ∧ ∃ n : Int, (Lit.int .i64 n).wf = true ∧ ∃ (a : Option Addr) (cap : Nat) (ps : List Part) (g o : Nat), Came w a g o ps ∧ v = .agg (HC P n ++ [Value.slice a ps.length cap]).toArray := by
  simp only [Value.okWide, Tryd.underlying38] at hv
  obtain ⟨cs, rfl, hsz, _⟩ := hv
  obtain ⟨fuel, hf⟩ := h
  have hcs : (Value.cells (.agg cs)).toList = cs.toList := by simp [Value.cells]
  rw [hcs] at hf
  obtain ⟨y0, y1, m, _, hl, hf0, hf1⟩ := trod_struct2 Tryd.underlying38 hf
  have c34 : Tryd.prog.cellsOf 38 = 34 := by kernel_rfl
  have c33 : Tryd.prog.cellsOf 28 = 33 := by kernel_rfl
  have c1 : Tryd.prog.cellsOf 22 = 1 := by kernel_rfl
  rw [c34] at hl
  dsimp only at hf0 hf1
  rw [c33] at hf0
  rw [c1] at hf1
  obtain ⟨P, hP, n, hn, e0⟩ := head_of_cells hf0
  have h33 : 33 < cs.toList.length := by omega
  rw [List.drop_eq_getElem_cons h33, List.take_succ_cons, List.take_zero] at hf1
  obtain ⟨a, len, cap, es⟩ : ∃ a len cap, cs.toList[33] = Value.slice a len cap := by
    rcases open_slice1 Tryd.underlying22 (by kernel_rfl) hf1 with ⟨e, _⟩ | ⟨a, len', cap', m, n, V, D, Pl, e, _⟩
    · simp only [List.cons.injEq, and_true] at e; exact ⟨_, _, _, e⟩
    · simp only [List.cons.injEq, and_true] at e; exact ⟨_, _, _, e⟩
  rw [es] at hf1
  obtain ⟨ps, g, o, rfl, hc⟩ := came_of_trod h0 hf1
  refine ⟨P, hP, n, hn, a, cap, ps, g, o, hc, ?_⟩
  congr 1
  apply Array.toList_inj.1
  rw [← e0, List.drop_zero]
  have : cs.toList.drop 33 = [Value.slice a ps.length cap] := by
    rw [List.drop_eq_getElem_cons h33, es, List.drop_of_length_le (by omega)]
  rw [← this, List.take_append_drop]
end
end Go.Proofs.YtmegncaadglhmaaDoor
