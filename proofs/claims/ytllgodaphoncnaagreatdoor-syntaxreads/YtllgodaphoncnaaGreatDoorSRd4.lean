/- A reader's calls: attributes, literals, a bag's items. -/
import Derived.Test.YtllgodaphoncnaaGreatDoorJ28
namespace Go.Proofs.YtllgodaphoncnaaGreatDoor
open Go.RowKit

set_option maxRecDepth 100000 in
theorem strsAt_new {W : World} {g : Nat} {l : List (List UInt8)} {T : TypeId} {fr : Nat × Nat} (h : W.heap[g]? = some (.cells (l.map fun s => Value.string (st s)).toArray T fr)) : StrsAt W (some ⟨g, 0, none⟩) g 0 l := by
  refine ⟨fun _ => rfl, fun i hi j hj => ?_⟩
  obtain rfl : j = 0 := by omega
  simp only [Nat.mul_one, Nat.zero_add, Nat.add_zero]
  rw [cell_block h]
  simp [List.getElem?_eq_getElem hi]
set_option maxRecDepth 100000 in
/-- one of these words, which lie in a new block -/
theorem takesNew_any (I : RI) (w : World) (p : PS) (h : Rd I w p) (l : List (List UInt8)) (n : Nat) (hn : l.length = n) (h100 : n ≤ 100) (T : TypeId) (fr : Nat × Nat) (cs : Array Value) (hcs : cs = (l.map fun s => Value.string (st s)).toArray) (c : Nat) :
    Calls Tryz.prog 87 #[I.ptr, .slice (some ⟨w.heap.size, 0, none⟩) n c] (w.alloc (.cells cs T fr)) fun e w' => e = .returned (.string (st (takesOneP I.T l p).1)) ∧ Rd I w' (takesOneP I.T l p).2 ∧ Kept1 I.b w w' := by
  subst hn
  have hb : Below w.heap.size w (w.alloc (.cells cs T fr)) := (Below.refl _ _).alloc (Nat.le_refl _) _
  have hg : (w.alloc (.cells cs T fr)).heap[w.heap.size]? = some (.cells (l.map fun s => Value.string (st s)).toArray T fr) := by rw [← hcs]; exact heap_alloc_new _ _
  exact (takesOne_any I _ p (h.below hb) _ _ _ c l (strsAt_new hg) h100 (fun _ => by have := h.lt; omega)).mono fun e w' ⟨h1, h2, h3⟩ => ⟨h1, h2, (Kept1.of_below hb).trans h3⟩
set_option maxRecDepth 100000 in
set_option maxHeartbeats 2000000 in
theorem attribute_any (I : RI) (w : World) (p : PS) (h : Rd I w p) :
    Calls Tryz.prog 96 #[I.ptr] w fun e w' => e = .returned (.tuple #[.string (st (attributeP I.T p).1.1), .string (st (attributeP I.T p).1.2)]) ∧ Rd I w' (attributeP I.T p).2 ∧ Kept1 I.b w w' := by
  have HT := Lib.hid (fun c => takesNew_any I w p h whoL 4 rfl (by omega) 9 (0, 0) _ rfl c)
  have HST := Lib.hid (fun W q (hr : Rd I W q) => stop_any I W q hr)
  have HND := Lib.hid (fun W q (hr : Rd I W q) => needs_any I W q hr kDot)
  have HNM := Lib.hid (fun W q (hr : Rd I W q) => name_any I W q hr)
  clear h
  unfold attributeP attrTail
  unfold RI.ptr at *
  obtain ⟨o, ho⟩ : ∃ o, takesOneP I.T whoL p = o := ⟨_, rfl⟩
  rw [ho] at HT ⊢
  clear ho
  obtain ⟨ow, q⟩ := o
  dsimp only at HT ⊢
  have eo := toList_st ow
  obtain ⟨q', hq'⟩ : ∃ q', (if ow = [] then stopP q else q) = q' := ⟨_, rfl⟩
  rw [hq']
  have HQ' := Lib.hid hq'
  clear hq'
  obtain ⟨S, hS⟩ : ∃ S, st ow = S := ⟨_, rfl⟩
  rw [hS] at eo HT ⊢
  clear hS
  go_enter Tryz.func96, Tryz.ntmps96
  go_wp2_with fail
  refine (HT.out _).mono ?_
  rintro e w1 ⟨rfl, h1, h2⟩
  have H1 := Lib.hid h1
  have H2 := Lib.hid h2
  clear h1 h2 HT
  by_cases hw : ow = []
  · have hq : (ow == []) = true := by rw [hw]; rfl
    obtain rfl : stopP q = q' := by rw [← HQ'.out, if_pos hw]
    clear HQ'
    go_wp2_with fail
    refine (HST.out _ _ H1.out).mono ?_
    rintro e w2 ⟨rfl, h1, h2⟩
    have H3 := Lib.hid h1
    have H4 := Lib.hid (H2.out.trans h2)
    clear h1 h2 HST
    go_wp2_with fail
    refine (HND.out _ _ H3.out).mono ?_
    rintro e w3 ⟨rfl, h1, h2⟩
    have H5 := Lib.hid h1
    have H6 := Lib.hid (H4.out.trans h2)
    clear h1 h2 HND
    go_wp2_with fail
    refine (HNM.out _ _ H5.out).mono ?_
    rintro e w4 ⟨rfl, h1, h2⟩
    have H7 := Lib.hid h1
    have H8 := Lib.hid (H6.out.trans h2)
    clear h1 h2 HNM
    go_wp2_with fail
    go_ret2
    exact ⟨rfl, H7.out, H8.out⟩
  · have hq : (ow == []) = false := by simpa using hw
    obtain rfl : q = q' := by rw [← HQ'.out, if_neg hw]
    clear HQ'
    go_wp2_with fail
    refine (HND.out _ _ H1.out).mono ?_
    rintro e w3 ⟨rfl, h1, h2⟩
    have H5 := Lib.hid h1
    have H6 := Lib.hid (H2.out.trans h2)
    clear h1 h2 HND
    go_wp2_with fail
    refine (HNM.out _ _ H5.out).mono ?_
    rintro e w4 ⟨rfl, h1, h2⟩
    have H7 := Lib.hid h1
    have H8 := Lib.hid (H6.out.trans h2)
    clear h1 h2 HNM
    go_wp2_with fail
    go_ret2
    exact ⟨rfl, H7.out, H8.out⟩
set_option maxRecDepth 100000 in
set_option maxHeartbeats 1000000 in
theorem attr_any (I : RI) (w : World) (p : PS) (h : Rd I w p) (op : List UInt8) :
    Calls Tryz.prog 152 #[I.ptr, .string (st op)] w (PostT I w (attrP I.T op p)) := by
  have HA := Lib.hid (fun W (hb : Below w.heap.size w W) => attribute_any I W p (h.below hb))
  have hlt := h.lt
  have HLT := Lib.hid hlt
  have H := Lib.hid h
  clear h hlt
  unfold attrP
  obtain ⟨o, ho⟩ : ∃ o, attributeP I.T p = o := ⟨_, rfl⟩
  rw [ho] at HA ⊢
  clear ho
  obtain ⟨⟨ow, on⟩, q⟩ := o
  dsimp only at HA ⊢
  obtain ⟨S, hS⟩ : ∃ S, st op = S := ⟨_, rfl⟩
  rw [hS]
  have HS := Lib.hid hS
  clear hS
  unfold RI.ptr at *
  go_enter Tryz.func152, Tryz.ntmps152
  go_wp2_with fail
  have hb0 : Below w.heap.size w (w.alloc (.cells #[.string ⟨#[]⟩, .int .i64 0, .int .i64 0, .string ⟨#[]⟩, .slice none 0 0, .string ⟨#[]⟩, .string ⟨#[]⟩, .slice none 0 0] 27)) := (Below.refl _ _).alloc (Nat.le_refl _) _
  refine (HA.out _ hb0).mono ?_
  rintro e w1 ⟨rfl, h1, h2⟩
  have g1 : w1.heap[w.heap.size]? = some (.cells #[.string ⟨#[]⟩, .int .i64 0, .int .i64 0, .string ⟨#[]⟩, .slice none 0 0, .string ⟨#[]⟩, .string ⟨#[]⟩, .slice none 0 0] 27 (0, 0)) := by
    rw [h2.block _ (by simp) (by have := HLT.out; omega)]; exact heap_alloc_new _ _
  have H1 := Lib.hid h1
  have H2 := Lib.hid ((Kept1.of_below hb0).trans h2)
  have g0 := HLT.out
  have hne : w.heap.size ≠ I.b := by omega
  clear h1 h2 hb0 HA
  have x0 := cell_block g1 0
  have x1 := cell_block g1 1
  have x2 := cell_block g1 2
  have x3 := cell_block g1 3
  have x4 := cell_block g1 4
  have x5 := cell_block g1 5
  have x6 := cell_block g1 6
  have x7 := cell_block g1 7
  have xf : ∀ o, w1.frozen? ⟨w.heap.size, o, none⟩ = false := fun o => by simp [World.frozen?, g1]
  simp only [List.getElem?_toArray, List.getElem?_cons_zero, List.getElem?_cons_succ] at x0 x1 x2 x3 x4 x5 x6 x7
  go_wp2_with fail
  exact bodyPost_ret (v := XV.v ⟨S, ⟨0, 0, ⟨#[]⟩, none, 0, 0⟩, st ow, st on, none, 0, 0⟩) (by simp [results, Tryz.results152, go_sem, XV.v, x0, x1, x2, x3, x4, x5, x6, x7]) rfl
    (fin8 (N := w.heap.size + 1) H.out (by rw [← HS.out]; exact trAt_leaf _ (valIs_none _ _) none 0) H1.out H2.out (Nat.le_refl _) (Nat.lt_succ_self _) (kept_set8 _ _ _ _ _ _ _ _ _))
end Go.Proofs.YtllgodaphoncnaaGreatDoor
