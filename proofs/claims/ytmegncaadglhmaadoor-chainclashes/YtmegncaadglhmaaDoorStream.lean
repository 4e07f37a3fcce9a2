/- The stream's own calls. -/
import Derived.Test.YtmegncaadglhmaaDoorFinish
import Derived.Deep.Upon
namespace Go.Proofs.YtmegncaadglhmaaDoor
open Go.RowKit

/-- a slice of bytes, as a value, and where it lies -/
structure Part where
  ad : Option Addr
  g : Nat
  o : Nat
  cap : Nat
  l : List UInt8
def Part.val (p : Part) : Value := .slice p.ad p.l.length p.cap
/-- it lies there, apart from block b -/
structure Part.Ok (w : World) (b : Nat) (p : Part) : Prop where
  bytes : BytesAt w p.ad p.g p.o p.l
  cap : p.l.length ≤ p.cap
  apart : p.g ≠ b
theorem Part.Ok.kept {w w' : World} {b : Nat} {p : Part} (h : p.Ok w b) (hk : Kept1 b w w') : p.Ok w' b := ⟨h.bytes.kept hk h.apart, h.cap, h.apart⟩
/-- the bytes of parts, one behind the other -/
def joined (ps : List Part) : List UInt8 := ps.flatMap (·.l)

def zeros64 : List UInt8 := List.replicate 64 0
set_option maxRecDepth 100000 in
set_option maxHeartbeats 400000 in
theorem new_any (w : World) : Calls Tryd.prog 39 #[] w fun e w' => e = .returned (.pointer (some ⟨w.heap.size, 0, none⟩)) ∧ Holds w' w.heap.size 86 [] ∧ Below w.heap.size w w' ∧ w'.heap.size = w.heap.size + 1 := by
  go_enter Tryd.func39, Tryd.ntmps39
  have hz : ∀ w, (zeroValue 86).run Tryd.prog w = .ok (.agg (dg ⟨0, 0, 0, 0, 0, 0, 0, 0⟩ zeros64 0).toArray) w := fun _ => by kernel_rfl
  go_wp2_with fail
  go_ret
  generalize hW : World.alloc _ _ = w1
  refine ⟨rfl, ⟨⟨0, 0, 0, 0, 0, 0, 0, 0⟩, zeros64, took_none _ rfl, rfl, ?_⟩, ?_, ?_⟩
  · rw [← hW]; exact heap_alloc_new _ _
  · rw [← hW]; exact (Below.refl _ _).alloc (Nat.le_refl _) _
  · rw [← hW]; simp

set_option maxHeartbeats 400000 in
theorem write_any (w : World) (b : Nat) (l0 : List UInt8) (ps : List Part) (ap : Option Addr) (gp op cp : Nat) (hh : Holds w b 86 l0) (ht : Tab w) (hbn : b ≠ 0)
    (hap : ps ≠ [] → ap = some ⟨gp, op, none⟩) (hcell : ∀ i, (h : i < ps.length) → w.cell? ⟨gp, op + i, none⟩ = some (ps[i]).val) (hgp : gp ≠ b) (hok : ∀ p ∈ ps, p.Ok w b)
    (hm : l0.length + (joined ps).length ≤ 1000000000000) (hl : ps.length ≤ 1000000000000) :
    Calls Tryd.prog 40 #[.pointer (some ⟨b, 0, none⟩), .slice ap ps.length cp] w fun e w' => e = .returned (.tuple #[]) ∧ Holds w' b 86 (l0 ++ joined ps) ∧ Kept1 b w w' := by
  go_enter Tryd.func40, Tryd.ntmps40
  go_wp2_with fail
  go_loopw [8] (fun i wr => ∃ k : Nat, k ≤ ps.length ∧ i = .int .i64 k ∧ Holds wr b 86 (l0 ++ joined (ps.take k)) ∧ Kept1 b w wr) (fun i _ => ps.length - (intOf i).toNat)
  case atStart => exact ⟨0, by omega, rfl, by simpa [joined] using hh, Kept1.refl _ _⟩
  case round =>
    obtain ⟨k, hk, rfl, hr, hkp⟩ := hrel
    by_cases hlt : k < ps.length
    · have hd : decide ((k : Int) < (ps.length : Int)) = true := by simp; omega
      have hd' : decide (k < ps.length) = true := by simp; omega
      have hc : wr.cell? ⟨gp, op + k, none⟩ = some (ps[k]).val := by rw [hkp.cell (block_lt_of_cell (hcell k hlt)) hgp]; exact hcell k hlt
      have hpk := (hok ps[k] (List.getElem_mem hlt)).kept hkp
      have hsn : joined (ps.take (k + 1)) = joined (ps.take k) ++ ps[k].l := by unfold joined; rw [List.take_succ_eq_append_getElem hlt, List.flatMap_append, List.flatMap_singleton]
      have hle : (joined (ps.take (k + 1))).length ≤ (joined ps).length := by
        have : joined ps = joined (ps.take (k + 1)) ++ joined (ps.drop (k + 1)) := by unfold joined; rw [← List.flatMap_append, List.take_append_drop]
        rw [this]; simp
      rw [hsn] at hle
      obtain rfl := hap (by intro e; simp [e] at hlt)
      generalize hp : ps[k] = p at *
      obtain ⟨pad, pg, po, pcap, pl⟩ := p
      simp only [Part.val] at hc
      have Hr := Lib.hid hr
      have Hpk := Lib.hid hpk
      have Hkp := Lib.hid hkp
      have Hsn := Lib.hid hsn
      have Hle := Lib.hid hle
      clear hp hr hpk hkp hsn hle hap hcell hok
      go_wp2_with fail
      refine (take_any wr b 86 _ pl _ pg po pcap Hr.out (ht.kept Hkp.out (Ne.symm hbn)) hbn Hpk.out.bytes Hpk.out.apart Hpk.out.cap (by have := Hle.out; simp at this ⊢; omega)).mono ?_
      rintro e w1 ⟨rfl, hh1, hk1⟩
      rw [List.append_assoc, ← Hsn.out] at hh1
      have hkk := Hkp.out.trans hk1
      have Hh1 := Lib.hid hh1
      have Hk1 := Lib.hid hkk
      clear hh1 hk1 hkk
      go_wp2_with fail
      go_roundw
      case rel => exact ⟨k + 1, by omega, by go_num, Hh1.out, Hk1.out⟩
      case measure => simp [intOf]; omega
    · obtain rfl : k = ps.length := by omega
      have hd : decide ((ps.length : Int) < (ps.length : Int)) = false := by simp
      rw [List.take_length] at hr
      have Hr := Lib.hid hr
      have Hkp := Lib.hid hkp
      clear hr hkp hap hcell hok hlt
      go_wp2_with fail
      go_end0
      exact ⟨rfl, Hr.out, Hkp.out⟩

/-- a digest's cells, read as one -/
theorem DgAt.range {w : World} {b : Nat} {t : TypeId} {s : St8} {rest : List UInt8} {n : Nat} (h : DgAt w b t s rest n) : w.rangeAt b 0 (dg s rest n) := range_block h.blk
theorem infoDg (t : TypeId) (ht : t = 84 ∨ t = 86) (n : Nat) (h : n = 73) : (Tryd.prog.info? t).map (·.size) = some n := by
  subst h; rcases ht with rfl | rfl <;> kernel_rfl
theorem one_dg (s : St8) (rest : List UInt8) (n : Nat) : (dg s rest n).toArray.all (·.oneCell') = true := all_oneCell_toArray (by
  intro v hv
  simp only [dg, List.mem_append, List.mem_map, List.mem_singleton] at hv
  rcases hv with ⟨x, _, rfl⟩ | ⟨x, _, rfl⟩ | rfl <;> rfl)

set_option maxRecDepth 100000 in
set_option maxHeartbeats 400000 in
theorem sum_any (w : World) (b : Nat) (l : List UInt8) (hh : Holds w b 86 l) (ht : Tab w) (hm : l.length ≤ 100000000000) :
    Calls Tryd.prog 41 #[.pointer (some ⟨b, 0, none⟩)] w fun e w' => e = .returned (.agg ((shaOf l).map B).toArray) ∧ Below w.heap.size w w' := by
  obtain ⟨s, rest, htk, hdg⟩ := hh.here
  have hl73 := length_dg s rest l.length hdg.len
  have h0 := ht.size
  have hz : ∀ w, (zeroValue 84).run Tryd.prog w = .ok (.agg (dg ⟨0, 0, 0, 0, 0, 0, 0, 0⟩ zeros64 0).toArray) w := fun _ => by kernel_rfl
  have hth : ∀ (A : Obj), ((w.alloc A).alloc (.cells (dg ⟨0, 0, 0, 0, 0, 0, 0, 0⟩ zeros64 0).toArray 84)).there (w.heap.size + 1) 0 73 := fun A => there_block (heap_alloc2_new _ _ _) 0 73 (by rw [length_dg _ _ _ rfl]; omega)
  have Htk := Lib.hid htk
  have Hh := Lib.hid hh
  have Hl := Lib.hid hl73
  have Ht := Lib.hid ht
  have Hdl := Lib.hid hdg.len
  have hrg := hdg.range
  clear htk hh hl73 ht hdg
  go_enter Tryd.func41, Tryd.ntmps41
  go_wp2_with (first
    | (refine wpList_load_mid rfl 84 (.tmp 6) rfl b 0 rfl (dg s rest l.length) _ (World.rangeAt_alloc hrg _) Tryd.underlying84 rfl (infoDg _ (Or.inl rfl) _ Hl.out) ?_)
    | (refine wpList_store_mid rfl 84 (.tmp 3) (.tmp 7) rfl (w.heap.size + 1) 0 (dg s rest l.length).toArray rfl rfl (by simpa [Hl.out] using hth _) (infoDg _ (Or.inl rfl) _ Hl.out) (one_dg _ _ _) ?_))
  generalize hW : World.setCells _ _ _ _ = w2
  have hres : w2.heap[w.heap.size]? = some (.cells (zeros 32).toArray 26 (0, 0)) := by
    rw [← hW, World.heap_setCells_other _ _ _ _ (by simp; omega) (by omega)]; exact heap_alloc2_old _ _ _
  have hdg2 : w2.heap[w.heap.size + 1]? = some (.cells (dg s rest l.length).toArray 84 (0, 0)) := by
    rw [← hW]
    refine (heap_setCells (w.heap.size + 1) 84 (dg s rest l.length) 0 (dg ⟨0, 0, 0, 0, 0, 0, 0, 0⟩ zeros64 0) _ (heap_alloc2_new w _ _) (by rw [Hl.out, length_dg _ _ _ rfl]; omega)).trans ?_
    rw [over_all _ _ (by rw [Hl.out, length_dg _ _ _ rfl])]
  have hbel : Below w.heap.size w w2 := by
    rw [← hW]
    exact (Kept1.setCells (b := w.heap.size + 1) _ (Or.inl rfl) _ _ (Kept1.of_below (((Below.refl _ _).alloc (Nat.le_refl _) _).alloc (by simp) _))).below (by omega)
  clear hW hz hth hrg
  refine (finish_any w2 (w.heap.size + 1) 84 l ⟨s, rest, Htk.out, Hdl.out, hdg2⟩ (Ht.out.below hbel h0) (by omega) hm).mono ?_
  rintro e w3 ⟨rfl, hk3⟩
  have hres3 := hk3.heap hres (by omega)
  have hb3 := Kept1.mono hbel hk3 (by omega)
  have hthere := there_block hres3 0 32 (by simp [zeros])
  have hl32 : ((shaOf l).map B).length = 32 := by simp [length_shaOf]
  have hend := heap_setCells _ _ ((shaOf l).map B) 0 _ _ hres3 (by rw [hl32]; simp [zeros])
  rw [over_all _ _ (by rw [hl32]; simp [zeros])] at hend
  have hkl := (Kept1.setCells (b := w.heap.size) w.heap.size (Or.inl rfl) ((shaOf l).map B) 0 (Kept1.of_below hb3)).below (Nat.le_refl _)
  have hone : ((shaOf l).map B).toArray.all (·.oneCell') = true := all_oneCell_toArray (by intro v hv; obtain ⟨x, _, rfl⟩ := List.mem_map.1 hv; rfl)
  generalize hLe : (shaOf l).map B = L at *
  have HL := Lib.hid hLe
  clear hLe
  have Hkl := Lib.hid hkl
  have Hend := Lib.hid hend
  have Hl32 := Lib.hid hl32
  have hi : (Tryd.prog.info? 26).map (·.size) = some L.length := by rw [hl32]; kernel_rfl
  clear hkl hend hl32 hk3 hres3 hb3 hres hdg2 hbel
  go_wp2_with (refine wpList_store_mid rfl 26 (.tmp 2) (.tmp 8) rfl w.heap.size 0 L.toArray rfl rfl (by simpa [Hl32.out] using hthere) (by simpa using hi) hone ?_)
  exact bodyPost_ret (v := .agg L.toArray) (results_cell_row Tryd.results41 _ _ w.heap.size 26 L.toArray (0, 0) _ rfl Hend.out Tryd.underlying26 rfl (by simpa using hi)) rfl ⟨by rw [HL.out], Hkl.out⟩
end Go.Proofs.YtmegncaadglhmaaDoor
