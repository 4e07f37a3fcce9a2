/- Fingerprints of parts; a stream's size and its clone. -/
import Derived.Test.YtmegncaadglhmaaDoorStream
namespace Go.Proofs.YtmegncaadglhmaaDoor
open Go.RowKit

/-- a slice of bytes lies in old memory -/
structure Part.In (w : World) (p : Part) : Prop where
  bytes : BytesAt w p.ad p.g p.o p.l
  cap : p.l.length ≤ p.cap
  lt : p.g < w.heap.size
theorem BytesAt.below {w w' : World} {ad : Option Addr} {g o : Nat} {l : List UInt8} (h : BytesAt w ad g o l) (hk : Below w.heap.size w w') : BytesAt w' ad g o l :=
  ⟨h.at', fun j hj => by rw [hk.cell (by exact block_lt_of_cell (h.cell j hj))]; exact h.cell j hj⟩
theorem Part.In.below {w w' : World} {p : Part} (h : p.In w) (hk : Below w.heap.size w w') : p.In w' := ⟨h.bytes.below hk, h.cap, Nat.lt_of_lt_of_le h.lt hk.size⟩
theorem Part.In.ok {w : World} {p : Part} (h : p.In w) {b : Nat} (hb : p.g ≠ b) : p.Ok w b := ⟨h.bytes, h.cap, hb⟩
/-- the slice of parts lies in old memory -/
structure PartsIn (w : World) (ap : Option Addr) (gp op : Nat) (ps : List Part) : Prop where
  at' : ps ≠ [] → ap = some ⟨gp, op, none⟩
  cell : ∀ i, (h : i < ps.length) → w.cell? ⟨gp, op + i, none⟩ = some (ps[i]).val
  lt : gp < w.heap.size
  parts : ∀ p ∈ ps, p.In w
theorem PartsIn.below {w w' : World} {ap : Option Addr} {gp op : Nat} {ps : List Part} (h : PartsIn w ap gp op ps) (hk : Below w.heap.size w w') : PartsIn w' ap gp op ps :=
  ⟨h.at', fun i hi => by rw [hk.cell (by exact h.lt)]; exact h.cell i hi, Nat.lt_of_lt_of_le h.lt hk.size, fun p hp => (h.parts p hp).below hk⟩

/-- the hash as a value -/
def H (l : List UInt8) : Value := .agg ((shaOf l).map B).toArray

set_option maxRecDepth 100000 in
set_option maxHeartbeats 400000 in
theorem of_any (w : World) (ps : List Part) (ap : Option Addr) (gp op cp : Nat) (hp : PartsIn w ap gp op ps) (ht : Tab w) (hm : (joined ps).length ≤ 100000000000) (hl : ps.length ≤ 1000000000000) :
    Calls Tryd.prog 29 #[.slice ap ps.length cp] w fun e w' => e = .returned (H (joined ps)) ∧ Below w.heap.size w w' := by
  have h0 := ht.size
  have Hp := Lib.hid hp
  have Ht := Lib.hid ht
  clear hp ht
  go_enter Tryd.func29, Tryd.ntmps29
  go_wp2_with fail
  generalize hW : World.alloc _ _ = w1
  have hres : w1.heap[w.heap.size]? = some (.cells (zeros 32).toArray 26 (0, 0)) := by rw [← hW]; exact heap_alloc_new _ _
  have hb1 : Below w.heap.size w w1 := by rw [← hW]; exact (Below.refl _ _).alloc (Nat.le_refl _) _
  have hs1 : w1.heap.size = w.heap.size + 1 := by rw [← hW]; simp
  clear hW
  refine (new_any w1).mono ?_
  rintro e w2 ⟨rfl, hh2, hb2, hs2⟩
  have hbw2 : Below w.heap.size w w2 := hb1.trans (hb2.mono (by omega))
  have hres2 := (hb2.block _ (lt_block hres)).trans hres
  have hlt2 : w.heap.size < w1.heap.size := by omega
  have Hh2 := Lib.hid hh2
  have Hb2 := Lib.hid hbw2
  have Hres2 := Lib.hid hres2
  clear hh2 hb2 hs2 hbw2 hres2 hres hb1 hs1
  go_wp2_with fail
  have hpw := Hp.out.below Hb2.out
  refine (write_any w2 w1.heap.size [] ps ap gp op cp Hh2.out (Ht.out.below Hb2.out h0) (by omega) hpw.at' hpw.cell (by have := Hp.out.lt; omega) (fun p hp => (hpw.parts p hp).ok (by have := (Hp.out.parts p hp).lt; omega)) (by simp; omega) hl).mono ?_
  rintro e w3 ⟨rfl, hh3, hk3⟩
  rw [List.nil_append] at hh3
  have hb3 := Kept1.mono Hb2.out hk3 (by omega)
  have hres3 := hk3.heap Hres2.out (by omega)
  have Hh3 := Lib.hid hh3
  have Hb3 := Lib.hid hb3
  have Hres3 := Lib.hid hres3
  clear hh3 hk3 hb3 hres3 hpw Hh2 Hb2 Hres2
  go_wp2_with fail
  refine (sum_any w3 w1.heap.size _ Hh3.out (Ht.out.below Hb3.out h0) hm).mono ?_
  rintro e w4 ⟨rfl, hb4⟩
  have hbw4 : Below w.heap.size w w4 := Hb3.out.trans (hb4.mono Hb3.out.size)
  have hres4 := (hb4.block _ (lt_block Hres3.out)).trans Hres3.out
  have hthere := there_block hres4 0 32 (by simp [zeros])
  have hl32 : ((shaOf (joined ps)).map B).length = 32 := by simp [length_shaOf]
  have hend := heap_setCells _ _ ((shaOf (joined ps)).map B) 0 _ _ hres4 (by rw [hl32]; simp [zeros])
  rw [over_all _ _ (by rw [hl32]; simp [zeros])] at hend
  have hkl := (Kept1.setCells (b := w.heap.size) w.heap.size (Or.inl rfl) ((shaOf (joined ps)).map B) 0 (Kept1.of_below hbw4)).below (Nat.le_refl _)
  have hone : ((shaOf (joined ps)).map B).toArray.all (·.oneCell') = true := all_oneCell_toArray (by intro v hv; obtain ⟨x, _, rfl⟩ := List.mem_map.1 hv; rfl)
  have hH : H (joined ps) = .agg ((shaOf (joined ps)).map B).toArray := rfl
  generalize (shaOf (joined ps)).map B = L at *
  have HH := Lib.hid hH
  have Hkl := Lib.hid hkl
  have Hend := Lib.hid hend
  have Hl32 := Lib.hid hl32
  have hi : (Tryd.prog.info? 26).map (·.size) = some L.length := by rw [hl32]; kernel_rfl
  clear hkl hend hl32 hres4 hb4 hbw4 Hres3 Hb3 Hh3 hH
  go_wp2_with (refine wpList_store_mid rfl 26 (.tmp 2) (.tmp 9) rfl w.heap.size 0 L.toArray rfl rfl (by simpa [Hl32.out] using hthere) (by simpa using hi) hone ?_)
  exact bodyPost_ret (v := .agg L.toArray) (results_cell_row Tryd.results29 _ _ w.heap.size 26 L.toArray (0, 0) _ rfl Hend.out Tryd.underlying26 rfl (by simpa using hi)) rfl ⟨by rw [HH.out], Hkl.out⟩

theorem fold_zip : ∀ (L P : List Value) (A : List Value), A.length = L.length → List.foldl (fun (cs : Array Value) (x : Value × Nat) => cs.setIfInBounds x.snd x.fst) (P ++ A).toArray (L.zipIdx P.length) = (P ++ L).toArray
  | [], P, [], _ => by simp
  | v :: L, P, a :: A, h => by
    have ih := fold_zip L (P ++ [v]) A (by simpa using h)
    simp only [List.zipIdx_cons, List.foldl_cons]
    rw [show ((P ++ a :: A).toArray.setIfInBounds P.length v) = ((P ++ [v]) ++ A).toArray by simp, show P.length + 1 = (P ++ [v]).length by simp, ih]
    simp
theorem fold_all (L A : List Value) (h : A.length = L.length) : List.foldl (fun (cs : Array Value) (x : Value × Nat) => cs.setIfInBounds x.snd x.fst) A.toArray L.zipIdx = L.toArray := fold_zip L [] A h

end Go.Proofs.YtmegncaadglhmaaDoor
