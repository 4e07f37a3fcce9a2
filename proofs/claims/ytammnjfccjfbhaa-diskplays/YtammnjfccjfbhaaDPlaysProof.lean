/- DiskPlays holds: whatever is written, flushed, and lost: each answer, and all sectors, are the chapter's (200 calls, up to 20 sectors); for every input. -/
import Derived.Test.YtammnjfccjfbhaaRows
import Derived.Test.YtammnjfccjfbhaaDPlaysLaw
import Derived.Test.YtammnjfccjfbhaaDOpen2
import Derived.WalkKit
import Derived.ProofKit
import Derived.OpenShut
import Derived.ShutString
import Derived.Carry
namespace Go.Proofs.Ytammnjfccjfbhaa
open Go.ChangeShapes Go.WideShapes Go.ChangeAt Go.RowKit Go.Joins Go.Deep

section
variable {H : Type} {enc : TypeId × Value → H} {w : World} {base : Nat} {spare : Nat → Bool} {held : Bool}
theorem bytes_of_trod {fuel : Nat} {ad : Option Addr} {len cap : Nat} {d : DataW H × List MemPlace} (h : DataW.trod enc Try.prog w base spare held fuel 30 [.slice ad len cap] = some d) :
    ∃ l : List UInt8, l.length = len ∧ BSrc w (.slice ad l.length cap) l := by
  obtain ⟨l, g, o, h1, h2, h3, _⟩ := rows_of_trod (α := UInt8) (fun b => [B b]) (fun _ => True) Try.underlying30 (k := 1) (by kernel_rfl) (by omega) (fun _ _ _ h => by
    obtain ⟨n, hb, _, wn⟩ := DataW.trod_int Try.underlying5 h
    obtain ⟨c, rfl⟩ := u8_of wn
    exact ⟨c, hb, trivial⟩) (fun _ _ => rfl) h
  refine ⟨l, h1, ?_⟩
  by_cases hn : l = []
  · exact .inl ⟨ad, cap, by rw [hn]; rfl, hn⟩
  · refine .inr ⟨g, o, cap, by rw [h3.addr hn], fun j hj => ?_⟩
    have := h3.cell j hj 0 (by omega)
    simpa using this
/-- what is known of a call that came in -/
structure OpOk (w : World) (x : OpR) : Prop where
  op : OpIn w x
  i1 : -9223372036854775808 ≤ x.i
  i2 : x.i ≤ 9223372036854775807
  n1 : -9223372036854775808 ≤ x.n
  n2 : x.n ≤ 9223372036854775807
theorem op_of_trod {fuel : Nat} {cs : List Value} {d : DataW H × List MemPlace} (h : DataW.trod enc Try.prog w base spare held fuel 33 cs = some d) : ∃ x : OpR, cs = x.cells ∧ OpOk w x := by
  obtain ⟨xs, n, _, rfl, hlen, hxl, hf⟩ := DataW.trod_struct Try.underlying33 h
  have h0 := hf 0 _ rfl
  have h1 := hf 1 _ rfl
  have h2 := hf 2 _ rfl
  have h3 := hf 3 _ rfl
  have h4 := hf 4 _ rfl
  have hc : Try.prog.cellsOf 33 = 5 := by kernel_rfl
  rw [hc] at hlen
  match xs, hxl with
  | [y0, y1, y2, y3, y4], _ =>
    match cs, hlen with
    | [v0, v1, v2, v3, v4], _ =>
      simp only [List.getElem?_cons_zero, List.getElem?_cons_succ] at h0 h1 h2 h3 h4
      obtain ⟨k, e0, _, wk⟩ := DataW.trod_int Try.underlying5 h0
      obtain ⟨i, e1, _, wi⟩ := DataW.trod_int Try.underlying3 h1
      obtain ⟨m, e2, _, wm⟩ := DataW.trod_int Try.underlying3 h2
      obtain ⟨kc, rfl⟩ := u8_of wk
      have hi := bounds_i64 wi
      have hm := bounds_i64 wm
      obtain ⟨ab, lb, cpb, e3⟩ := slice_form Try.underlying30 h3
      obtain ⟨ap, lp, cpp, e4⟩ := slice_form Try.underlying31 h4
      obtain rfl : v0 = _ := (List.cons.inj e0).1
      obtain rfl : v1 = _ := (List.cons.inj e1).1
      obtain rfl : v2 = _ := (List.cons.inj e2).1
      obtain rfl : v3 = _ := (List.cons.inj e3).1
      obtain rfl : v4 = _ := (List.cons.inj e4).1
      obtain ⟨l, rfl, hsrc⟩ := bytes_of_trod h3
      obtain ⟨bs, pg, po, rfl, _, hpa, hpc⟩ := bools_of_trod h4
      exact ⟨⟨kc, i, m, ab, cpb, l, ap, cpp, pg, po, bs⟩, rfl, ⟨⟨hsrc, hpa, hpc⟩, hi.1, hi.2, hm.1, hm.2⟩⟩
instance : Inhabited OpR := ⟨lastOp⟩
theorem ops_of_trod {fuel : Nat} {ad : Option Addr} {len cap : Nat} {d : DataW H × List MemPlace} (h : DataW.trod enc Try.prog w base spare held fuel 23 [.slice ad len cap] = some d) :
    ∃ (l : List OpR) (g o : Nat), l.length = len ∧ len ≤ maxLen ∧ RowsAt w ad g o 5 OpR.cells l ∧ ∀ x ∈ l, OpOk w x :=
  rows_of_trod (α := OpR) OpR.cells (OpOk w) Try.underlying23 (k := 5) (by kernel_rfl) (by omega) (fun _ _ _ h => op_of_trod h) (fun _ _ => rfl) h
end
theorem plays_any (w : World) (n : Int) (hn1 : -128 ≤ n) (hn2 : n ≤ 127) (ad : Option Addr) (g o cap : Nat) (l : List OpR) (hr : RowsAt w ad g o 5 OpR.cells l) (hop : ∀ x ∈ l, OpOk w x) (hm : l.length ≤ maxLen) :
    Calls Try.prog 3 #[.int .i8 n, .slice ad l.length cap] w fun e w' => e = .returned (.bool true) ∧ Below w.heap.size w w' := by
  by_cases h : fewB l = true ∧ n ≤ 20
  · obtain ⟨_, hsz⟩ := few_spec h.1
    refine plays_yes w n hn1 h.2 ad g o cap l ⟨hr, fun x hx => ?_, fun x hx => ⟨(hop x hx).i1, (hop x hx).i2, (hop x hx).n1⟩⟩ hm h.1
    have hx' := hop x hx
    exact ⟨hx'.op, fun g o n c e hn => hx'.op.src.lt g o n c e hn, fun hn => block_lt_of_cell (hx'.op.pcell 0 (List.length_pos_iff.2 hn)), hx'.n2, (hsz x hx).2⟩
  · refine plays_no w n hn1 hn2 ad g o cap l hr hm ?_
    by_cases hf : fewB l = true
    · right
      have : ¬ n ≤ 20 := fun h2 => h ⟨hf, h2⟩
      omega
    · left; simpa using hf
end Go.Proofs.Ytammnjfccjfbhaa
namespace Go.Proofs.Ytammnjfccjfbhaa.diskPlays
open Go.ChangeShapes Go.WideShapes Go.ChangeAt Go.RowKit

set_option maxRecDepth 100000 in
theorem lifted (os : Os) (started : os.Started) (H : Type) (enc : TypeId × Value → H) :
    ReturnsInHanded {} Try.checked os 3 .any (Rows.diskPlaysSpec.pre6 enc Try.prog Try.f3 Rows.diskPlaysRow.domain false) (Rows.diskPlaysSpec.post enc Try.prog Try.f3 false true false false) := by
  refine returnsInHanded_of_change (C := Try.checked) own started (by kernel_rfl) Try.func3
    (ChangeSpec.witness6 (enc := enc) (C := Try.checked) false ⟨#[], #[.int .i8 0, .slice none 0 0], []⟩ 8 (by kernel_rfl) (by kernel_rfl) (by kernel_rfl) (by kernel_rfl)) ?_
  intro W base args ds gs before hval0 hW hcnd _
  have hval : ∀ (j : Nat) t v, Try.f3.params[j]? = some t → args[j]? = some v → Value.okWide Try.prog W .any base t v := hval0
  have hW' := hW
  obtain ⟨p, q, hA0, hV, rfl, hfz, hnd⟩ := hW
  have hA : DataW.TrodAll enc Try.prog W 0 (fun _ => true) true Try.f3.params.toList args.toList ds p := hA0
  rw [Try.params3] at hA hval
  obtain ⟨v0, vs0, d0, ds0, p0, q0, hargs, rfl, rfl, h0, r0⟩ := trodAll_cons hA
  obtain ⟨v1, vs1, d1, ds1, p1, q1, rfl, rfl, rfl, h1, r1⟩ := trodAll_cons r0
  obtain ⟨rfl, rfl, rfl⟩ := trodAll_nil r1
  obtain rfl : args = #[v0, v1] := by cases args; simp_all
  obtain ⟨rfl, rfl⟩ := trodVars_none hV
  obtain ⟨a0, rfl, rfl, rfl, w0⟩ := open_int Try.underlying22 (hval 0 22 v0 rfl rfl) h0
  have b0 := bounds_i8 w0
  obtain ⟨a1, len1, cap1, rfl⟩ := okWide_slice Try.underlying23 (hval 1 23 v1 rfl rfl)
  have k1 := h1
  have lt1 : ∀ x ∈ p1, x.block < W.heap.size := by obtain ⟨m, hm⟩ := k1; exact DataW.trod_lt m _ _ _ hm
  obtain ⟨l, g, o, rfl, mo, hr, hop⟩ : ∃ (l : List OpR) (g o : Nat), l.length = len1 ∧ len1 ≤ maxLen ∧ RowsAt W a1 g o 5 OpR.cells l ∧ ∀ x ∈ l, OpOk W x := by
    obtain ⟨fuel, hf⟩ := h1
    exact ops_of_trod (by simpa [Value.cells] using hf)
  clear hA0 hval0
  simp only [List.append_nil] at hW'
  refine (plays_any W a0 b0.1 b0.2 a1 g o cap1 l hr hop mo).mono fun e W' ⟨he, bel⟩ => ?_
  subst he
  exact ⟨_, rfl, _, _, _, [], _, [], hW', trodAll_mk1 (shut_bool Try.underlying4 _), (trodAll_cons_mk (shut_int Try.underlying22 w0) (trodAll_cons_mk (Below.trod laidOut (by kernel_rfl) (of_decide_eq_true (by kernel_rfl)) k1 bel lt1) trodAll_mk0)), rfl, bel.frame _, fun h => by cases h⟩

theorem proved : Rows.DiskPlaysSaid :=
  OpenClaim.holds_of_wide 3 Try.f3 rfl rfl rfl rfl rfl rfl rfl ⟨rfl, rfl, rfl, rfl, rfl⟩ rfl rfl rfl rfl rfl (by kernel_rfl) Try.func3 (by kernel_rfl)
    (of_decide_eq_true (by kernel_rfl)) (by unfold Func.isWrapper; first | (rw [if_pos (by decide +kernel)]; kernel_rfl) | (rw [if_neg (by decide +kernel)]; exact ⟨rfl, rfl⟩))
    (fun os started H enc _ => lifted os started H enc)
end Go.Proofs.Ytammnjfccjfbhaa.diskPlays
namespace Go.Proofs.Ytammnjfccjfbhaa
theorem diskPlays_holds : Rows.DiskPlaysSaid := diskPlays.proved
end Go.Proofs.Ytammnjfccjfbhaa
