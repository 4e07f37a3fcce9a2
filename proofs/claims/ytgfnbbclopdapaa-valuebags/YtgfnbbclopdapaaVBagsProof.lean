/- ValueBags holds: of all values the bag is told, rising, each once, or its error; what is handed in stays (30 values); for every input. -/
import Derived.Test.YtgfnbbclopdapaaRows
import Derived.Test.YtgfnbbclopdapaaVBagsLaw
import Derived.Test.YtgfnbbclopdapaaVOpen
import Derived.WalkKit
import Derived.ProofKit
import Derived.OpenShut
import Derived.ShutString
import Derived.Carry
namespace Go.Proofs.Ytgfnbbclopdapaa
open Go.ChangeShapes Go.WideShapes Go.ChangeAt Go.RowKit Go.Joins Go.Deep
theorem pairs_of {w : World} : ∀ l : List Val, (∀ x ∈ l, ∃ lx, Full w x lx) → ∃ ps : List (Val × List Val), ps.map (·.1) = l ∧ ∀ p ∈ ps, Full w p.1 p.2
  | [], _ => ⟨[], rfl, fun p hp => by cases hp⟩
  | x :: l, h => by
    obtain ⟨lx, hx⟩ := h x (List.mem_cons_self ..)
    obtain ⟨ps, e, hp⟩ := pairs_of l fun y hy => h y (List.mem_cons_of_mem _ hy)
    refine ⟨(x, lx) :: ps, by simp [e], fun p hp' => ?_⟩
    rcases List.mem_cons.1 hp' with rfl | h1
    · exact hx
    · exact hp p h1
section
variable {H : Type} {enc : TypeId × Value → H} {w : World} {base : Nat} {spare : Nat → Bool} {held : Bool}
theorem vals_of_trod {fuel : Nat} {ad : Option Addr} {len cap : Nat} {d : DataW H × List MemPlace} (h : DataW.trod enc Try.prog w base spare held fuel 22 [.slice ad len cap] = some d) :
    ∃ (ps : List (Val × List Val)) (g o : Nat), ps.length = len ∧ len ≤ maxLen ∧ ListAt w ad g o (ps.map (·.1)) ∧ Src w (.slice ad ps.length cap) (ps.map (·.1)) ∧ ∀ p ∈ ps, Full w p.1 p.2 := by
  obtain ⟨l, g, o, hl, hlen, hm, hok, hall⟩ := list_of_trod h
  obtain ⟨ps, e, hp⟩ := pairs_of (w := w) l fun x hx => by
    obtain ⟨y, n, hy⟩ := hall x hx
    obtain ⟨lx, g', o', hl', hlen', hm', _, _⟩ := list_of_trod hy
    exact ⟨lx, ⟨⟨g', o', hl'⟩, hlen', (hok x hx).s, hm'⟩⟩
  have hn : ad = none → cap = 0 := by
    intro hn
    rcases open_slice Try.underlying22 h with ⟨e, _⟩ | ⟨a, len', cap', m, n, D, Pl, e, _⟩
    · simp only [List.cons.injEq, and_true, Value.slice.injEq] at e
      exact e.2.2
    · simp only [List.cons.injEq, and_true, Value.slice.injEq] at e
      rw [hn] at e
      cases e.1
  have hpl : ps.length = l.length := by rw [← e]; simp
  refine ⟨ps, g, o, by omega, hm, by rw [e]; exact hl, ?_, hp⟩
  rw [e, hpl]
  exact src_of_list hl hn
end
end Go.Proofs.Ytgfnbbclopdapaa
namespace Go.Proofs.Ytgfnbbclopdapaa.valueBags
open Go.ChangeShapes Go.WideShapes Go.ChangeAt Go.RowKit

set_option maxRecDepth 100000 in
theorem lifted (os : Os) (started : os.Started) (H : Type) (enc : TypeId × Value → H) :
    ReturnsInHanded {} Try.checked os 4 .any (Rows.valueBagsSpec.pre6 enc Try.prog Try.f4 Rows.valueBagsRow.domain false) (Rows.valueBagsSpec.post enc Try.prog Try.f4 false true false false) := by
  refine returnsInHanded_of_change (C := Try.checked) own started (by kernel_rfl) Try.func4
    (ChangeSpec.witness6 (enc := enc) (C := Try.checked) false ⟨#[], #[.slice none 0 0], []⟩ 8 (by kernel_rfl) (by kernel_rfl) (by kernel_rfl) (by kernel_rfl)) ?_
  intro W base args ds gs before hval0 hW hcnd _
  have hval : ∀ (j : Nat) t v, Try.f4.params[j]? = some t → args[j]? = some v → Value.okWide Try.prog W .any base t v := hval0
  have hW' := hW
  obtain ⟨p, q, hA0, hV, rfl, hfz, hnd⟩ := hW
  have hA : DataW.TrodAll enc Try.prog W 0 (fun _ => true) true Try.f4.params.toList args.toList ds p := hA0
  rw [Try.params4] at hA hval
  obtain ⟨v0, vs0, d0, ds0, p0, q0, hargs, rfl, rfl, h0, r0⟩ := trodAll_cons hA
  obtain ⟨rfl, rfl, rfl⟩ := trodAll_nil r0
  obtain rfl : args = #[v0] := by cases args; simp_all
  obtain ⟨rfl, rfl⟩ := trodVars_none hV
  obtain ⟨a0, len0, cap0, rfl⟩ := okWide_slice Try.underlying22 (hval 0 22 v0 rfl rfl)
  have k0 := h0
  have lt0 : ∀ x ∈ p0, x.block < W.heap.size := by obtain ⟨m, hm⟩ := k0; exact DataW.trod_lt m _ _ _ hm
  obtain ⟨ps, g, o, rfl, hm, hl, hsrc, hf⟩ : ∃ (ps : List (Val × List Val)) (g o : Nat), ps.length = len0 ∧ len0 ≤ maxLen ∧ ListAt W a0 g o (ps.map (·.1)) ∧ Src W (.slice a0 ps.length cap0) (ps.map (·.1)) ∧ ∀ p ∈ ps, Full W p.1 p.2 := by
    obtain ⟨fuel, hf⟩ := h0
    exact vals_of_trod (by simpa [Value.cells] using hf)
  clear hA0 hval0
  simp only [List.append_nil] at hW'
  refine (bags_any W ps a0 g o cap0 hl hsrc hf hm).mono fun e W' ⟨he, bel⟩ => ?_
  subst he
  exact ⟨_, rfl, _, _, _, [], _, [], hW', trodAll_mk1 (shut_bool Try.underlying4 _), (trodAll_cons_mk (Below.trod laidOut (by kernel_rfl) (of_decide_eq_true (by kernel_rfl)) k0 bel lt0) trodAll_mk0), rfl, bel.frame _, fun h => by cases h⟩

theorem proved : Rows.ValueBagsSaid :=
  OpenClaim.holds_of_wide 4 Try.f4 rfl rfl rfl rfl rfl rfl rfl ⟨rfl, rfl, rfl, rfl, rfl⟩ rfl rfl rfl rfl rfl (by kernel_rfl) Try.func4 (by kernel_rfl)
    (of_decide_eq_true (by kernel_rfl)) (by unfold Func.isWrapper; first | (rw [if_pos (by decide +kernel)]; kernel_rfl) | (rw [if_neg (by decide +kernel)]; exact ⟨rfl, rfl⟩))
    (fun os started H enc _ => lifted os started H enc)
end Go.Proofs.Ytgfnbbclopdapaa.valueBags
namespace Go.Proofs.Ytgfnbbclopdapaa
theorem valueBags_holds : Rows.ValueBagsSaid := valueBags.proved
end Go.Proofs.Ytgfnbbclopdapaa
