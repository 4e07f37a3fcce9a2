/- The reference reads no record where there is none; All sectors of a disk, read one by one; The reference reads all records. -/
import Derived.Test.YtlhfdlfbnnfjjaaDoorJ35
namespace Go.Proofs.YtlhfdlfbnnfjjaaDoor
open Go.RowKit

set_option maxRecDepth 100000 in
theorem refOne_end (w : World) (ap : Option Addr) (len cp : Nat) (n : Nat) :
    Calls Tryd.prog 28 #[.slice ap len cp, .int .i64 (len : Int), .int .i64 ((n : Int) + 1), .int .i64 1] w fun e w' =>
      e = .returned (.tuple #[.slice none 0 0, .int .i64 0, .int .i64 0]) ∧ Below w.heap.size w w' := by
  go_enter Tryd.func28, Tryd.ntmps28
  go_wp2_with fail
  exact bodyPost_ret (v := .tuple #[.slice none 0 0, .int .i64 0, .int .i64 0]) (by simp [results, Tryd.results28, go_sem]) rfl ⟨rfl, Below.refl _ _⟩
set_option maxRecDepth 100000 in
set_option maxHeartbeats 1000000 in
theorem refOne_zero (w : World) (ss : List Part) (ap : Option Addr) (gp op cp : Nat) (hp : PartsIn w ap gp op ss) (_hss : ss.length ≤ 1000) (A n : Nat) (q : Part) (hq : ss[A]? = some q) (hz : q.l = z64) :
    Calls Tryd.prog 28 #[.slice ap ss.length cp, .int .i64 (A : Int), .int .i64 ((n : Int) + 1), .int .i64 1] w fun e w' =>
      e = .returned (.tuple #[.slice none 0 0, .int .i64 0, .int .i64 0]) ∧ Below w.heap.size w w' := by
  obtain ⟨hA, hqe⟩ := List.getElem?_eq_some_iff.1 hq
  have hqi := hp.parts q (List.mem_of_getElem? hq)
  have hap := hp.at' (by intro e; rw [e] at hA; cases hA)
  have hcell := hp.cell A hA
  rw [hqe] at hcell
  have hqlen : q.l.length = 64 := by rw [hz]; rfl
  have hqat := hqi.bytes.at' (by rw [hz]; decide)
  have c9 := hqi.cellV 9 0 (by rw [hz]; rfl)
  obtain ⟨q4, hq4l, hq4a, hq4i, hq4b, hq4c, hq4s⟩ := slice_loP q 4 (by omega) hqi.cap (hqi.bytes.at')
  have hq4len : q4.l.length = 60 := by rw [hq4l, List.length_drop, hqlen]
  have hs4 : ∀ w, (Instr.sliceAt 32 (.slice (some ⟨q.g, q.o, none⟩) 64 q.cap) (some (.int .i64 4)) none none).run Tryd.prog w = .ok (.slice q4.ad 60 q4.cap) w := fun w => by
    have := hq4s w
    rw [hqat, hqlen, hq4len] at this
    exact this
  have HNum : Hid (∀ m : Bl w, Calls Tryd.prog 27 #[.slice q4.ad 60 q4.cap] m.wr fun e w' => e = .returned (.int .i64 0) ∧ Below m.wr.heap.size m.wr w') := Lib.hid fun m => by
    have := refNum_part m.wr q4 ((hq4i w hqi).below m.below) (by omega) 0 0 0 0 _ (by rw [hq4l, hz]; rfl)
    rw [hq4len] at this
    exact this
  have hcv : w.cell? ⟨gp, op + A, none⟩ = some (.slice (some ⟨q.g, q.o, none⟩) 64 q.cap) := by rw [hcell]; unfold Part.val; rw [hqat, hqlen]
  have hgp := hp.lt
  have hqg := hqi.lt
  have cA : ∀ m : Bl w, m.wr.cell? ⟨gp, op + A, none⟩ = some (.slice (some ⟨q.g, q.o, none⟩) 64 q.cap) := fun m => by rw [m.below.cell (by exact hgp)]; exact hcv
  have cQ : ∀ m : Bl w, m.wr.cell? ⟨q.g, q.o + 9, none⟩ = some (.int .u8 0) := fun m => by rw [m.below.cell (by exact hqg)]; exact c9
  subst hap
  have d1 : decide ((ss.length : Int) ≤ (A : Int)) = false := by simp; omega
  have d1' : decide (ss.length ≤ A) = false := by simp; omega
  clear hq4a hq4b hq4c hp hcell hqi hz hqe hq hq4l hq4i hq4s hqlen hqat c9 hcv
  go_enter Tryd.func28, Tryd.ntmps28
  go_wp2_with fail
  refine wp_region_quiet_tailB 13 (by kernel_rfl) (by kernel_rfl) ?_
  simp only [List.take_succ_cons, List.take_zero, List.drop_succ_cons, List.drop_zero]
  iterate 13 (go_big_quiet_step ((go_at_call 27; with_reducible exact Calls.quiet_b (HNum.out _))))
  refine wpQuiet_nil ?_
  intro m
  have HBm := Lib.hid m.below
  clear HNum
  clear cA cQ
  generalize m.wr = W1 at *
  clear m
  go_wp2_with fail
  exact bodyPost_ret (v := .tuple #[.slice none 0 0, .int .i64 0, .int .i64 0]) (by simp [results, Tryd.results28, go_sem]) rfl ⟨rfl, HBm.out⟩
end Go.Proofs.YtlhfdlfbnnfjjaaDoor
namespace Go.Proofs.YtlhfdlfbnnfjjaaDoor
open Go.RowKit

/-- a row of one's own of slices of bytes -/
structure RowP (w : World) (N : Nat) (v : Value) (ps : List Part) : Prop where
  row : w.ownsRow N 32 1 v ps.length (ps.map Part.val)
  ins : ∀ p ∈ ps, p.In w
  nil : ∀ p ∈ ps, p.ad = none → p.cap = 0
set_option maxRecDepth 100000 in
theorem RowP.below {w w' : World} {N : Nat} {v : Value} {ps : List Part} (h : RowP w N v ps) (hb : Below w.heap.size w w') : RowP w' N v ps :=
  ⟨own_same h.row fun g hg => hb.block g (h.row.lt g hg).2, fun p hp => (h.ins p hp).below hb, h.nil⟩
set_option maxRecDepth 100000 in
theorem RowP.empty (w : World) (N : Nat) : RowP w N (.slice none 0 0) [] := ⟨World.ownsRow_nil _ _ _ _, (fun p hp => absurd hp (by simp)), fun p hp => absurd hp (by simp)⟩
set_option maxRecDepth 100000 in
/-- one more, behind a block for it -/
theorem RowP.more {wr w1 : World} {N : Nat} {v : Value} {ps : List Part} (h : RowP wr N v ps) (hps : ∀ q ∈ ps, q.l ≠ [] → v.ownBlock ≠ some q.g) (p : Part) (hp : p.In wr) (hpn : p.ad = none → p.cap = 0) (hpv : p.l ≠ [] → v.ownBlock ≠ some p.g)
    {C : Array Value} {t : TypeId} {g c : Nat} (hown : w1.ownsRow N 32 1 (.slice (some ⟨g, 0, none⟩) (ps.length + 1) c) (ps.length + 1) (ps.map Part.val ++ [p.val])) (hgrow : (wr.alloc (.cells C t)).grownBy w1 v.ownBlock) :
    RowP w1 N (.slice (some ⟨g, 0, none⟩) (ps.length + 1) c) (ps ++ [p]) := by
  have hk : KeptF (fun k => v.ownBlock = some k) wr w1 := (KeptF.of_below ((Below.refl wr.heap.size wr).alloc (Nat.le_refl _) _)).trans (KeptF.of_grown (F := fun k => v.ownBlock = some k) hgrow fun k hk => hk) fun _ _ h => h
  refine ⟨by rw [List.length_append, List.length_singleton, List.map_append]; exact hown, fun x hx => ?_, fun x hx => ?_⟩
  · rcases List.mem_append.1 hx with hx | hx
    · exact (h.ins x hx).keptF hk (hps x hx)
    · obtain rfl := List.mem_singleton.1 hx; exact hp.keptF hk hpv
  · rcases List.mem_append.1 hx with hx | hx
    · exact h.nil x hx
    · obtain rfl := List.mem_singleton.1 hx; exact hpn
structure AllRel (w : World) (S : List (List UInt8)) (k : Nat) (ps : List Part) (v : Value) (wr : World) : Prop where
  row : RowP wr w.heap.size v ps
  txs : ps.map Part.l = S.take k
  len : ps.length = k
  apart : ∀ q ∈ ps, q.l ≠ [] → v.ownBlock ≠ some q.g
  new : ∀ q ∈ ps, w.heap.size ≤ q.g
  below : Below w.heap.size w wr
set_option maxRecDepth 100000 in
set_option maxHeartbeats 2000000 in
theorem all_any (w : World) (N d gs : Nat) (v : Value) (s : DSt) (h : DAt w N d gs v s) (hg : s.gone = false) (hS : s.S.length ≤ 8192) (h64 : ∀ x ∈ s.S, x.length = 64) :
    Calls Tryd.prog 14 #[.pointer (some ⟨d, 0, none⟩)] w fun e w' => ∃ (ap : Option Addr) (gp cp : Nat) (ps : List Part), e = .returned (.slice ap s.S.length cp) ∧ ps.map Part.l = s.S ∧ PartsIn w' ap gp 0 ps ∧ (∀ p ∈ ps, p.ad = none → p.cap = 0) ∧ Below w.heap.size w w' := by
  obtain ⟨i0, hi, hz0, hz1, hz2⟩ := info_parts info_row
  have R0 : AllRel w s.S 0 [] (.slice none 0 0) w := ⟨RowP.empty _ _, by simp, rfl, (fun q hq => absurd hq (by simp)), (fun q hq => absurd hq (by simp)), Below.refl _ _⟩
  have hdlt := h.lt.1
  have H := Lib.hid h
  have H64 := Lib.hid h64
  clear h h64
  go_enter Tryd.func14, Tryd.ntmps14
  go_wp2_with fail
  go_loopw [3, 4, 5, 6] (fun v i _ _ wr => ∃ (k : Nat) (ps : List Part), k ≤ s.S.length ∧ i = .int .i64 (k : Int) ∧ AllRel w s.S k ps v wr) (fun _ i _ _ _ => s.S.length - (intOf i).toNat)
  case atStart => exact ⟨0, [], by omega, rfl, R0⟩
  case round =>
    clear R0
    obtain ⟨k, ps, hk, rfl, hr⟩ := hrel
    have HSc := Lib.hid (sectors_any wr N d gs v s (H.out.below (hr.below.mono (Nat.le_refl _))))
    have HR := Lib.hid hr
    clear hr
    go_wp2_with fail
    refine HSc.out.mono ?_
    rintro e w' ⟨rfl, rfl⟩
    clear HSc
    by_cases hlt : k < s.S.length
    · have hd : decide ((k : Int) < (s.S.length : Int)) = true := by simp; omega
      have hx := H64.out s.S[k] (List.getElem_mem hlt)
      have HRd := Lib.hid (dread_any wr N d gs v s (H.out.below (HR.out.below.mono (Nat.le_refl _))) hg k hlt s.S[k] (List.getElem?_eq_getElem hlt))
      have HTk : Hid (ps.map Part.l ++ [s.S[k]] = s.S.take (k + 1)) := Lib.hid (by rw [HR.out.txs, List.take_succ_eq_append_getElem hlt])
      obtain ⟨b, hb⟩ : ∃ b, s.S[k] = b := ⟨_, rfl⟩
      rw [hb] at HRd HTk hx
      clear hb
      go_wp2_with fail
      refine HRd.out.mono ?_
      rintro e w1 ⟨rfl, hb1, hg1, hs1⟩
      have hpin : (Part.mk (some ⟨wr.heap.size, 0, none⟩) wr.heap.size 0 64 b).In w1 := by have := partNew (l := b) hg1; rwa [hx] at this
      have hpl := HR.out.len
      have HPin := Lib.hid hpin
      have HRow := Lib.hid (HR.out.row.below hb1)
      have HO1 := Lib.hid (fun V : Value => own_same (w' := w1.alloc (.cells #[V] 32)) HRow.out.row fun g hg => (Below.heap_alloc _ _ _ (HRow.out.row.lt g hg).2))
      have HB1 := Lib.hid (HR.out.below.trans (hb1.mono HR.out.below.size))
      clear hpin hb1 hg1 HRd hs1
      have HX := Lib.hid hx
      clear hx
      go_wp2_with (at_builtin; go_loud (refine wpList_append_lies _ rfl (.tmp 26) (.tmp 28) 31 rfl w.heap.size 32 i0 (.slice none 0 0) 1 24 Tryd.underlying31 hi hz0 hz1 hz2 rfl (by decide) _ ps.length (ps.map Part.val) rfl (HO1.out _) ⟨w1.heap.size, 0, none⟩ 1 1 [.slice (some ⟨wr.heap.size, 0, none⟩) 64 64] rfl rfl ?q1 ?q2 (by decide) (by unfold maxLen; omega) (by have := HB1.out.size; omega) (by simp; have := HB1.out.size; omega) _ rfl ?_))
      case q2 => intro u hu; obtain rfl := List.mem_singleton.1 hu; rfl
      case q1 =>
        intro jj u hjj
        rw [Addr.add_mid, Nat.zero_add, cell_block (heap_alloc_new w1 _)]
        simpa using hjj
      intro g c w2 hown hgrow hgw hglt
      have hR2 : AllRel w s.S (k + 1) (ps ++ [⟨some ⟨wr.heap.size, 0, none⟩, wr.heap.size, 0, 64, b⟩]) (.slice (some ⟨g, 0, none⟩) (k + 1) c) w2 := by
        have hlt1 : ∀ g, u3.ownBlock = some g → g < wr.heap.size := fun g hg => (HR.out.row.row.lt g hg).2
        have hin1 := HPin.out.lt
        have hrow2 := HRow.out.more HR.out.apart ⟨some ⟨wr.heap.size, 0, none⟩, wr.heap.size, 0, 64, b⟩ HPin.out (fun h => by cases h) (fun _ e => by have := hlt1 _ e; exact Nat.lt_irrefl _ this) (by rw [hpl]; unfold Part.val; dsimp only; rw [HX.out]; exact hown) hgrow
        rw [hpl] at hrow2
        refine ⟨hrow2, by rw [List.map_append, List.map_singleton]; exact HTk.out, by rw [List.length_append, hpl]; rfl, fun q hq hne e => ?_, fun q hq => ?_, ?_⟩
        · have e' : g = q.g := Option.some.inj e
          rcases hgw with hv | hv
          · rcases List.mem_append.1 hq with hq | hq
            · exact HR.out.apart q hq hne (by rw [hv, e'])
            · obtain rfl := List.mem_singleton.1 hq
              have := hlt1 _ hv
              rw [e'] at this
              exact Nat.lt_irrefl _ this
          · rcases List.mem_append.1 hq with hq | hq
            · have := (HRow.out.ins q hq).lt; omega
            · obtain rfl := List.mem_singleton.1 hq
              dsimp only at e' hin1; omega
        · rcases List.mem_append.1 hq with hq | hq
          · exact HR.out.new q hq
          · obtain rfl := List.mem_singleton.1 hq
            exact HR.out.below.size
        · exact (HB1.out.alloc HB1.out.size _).grown hgrow (by simp; have := HB1.out.size; omega) fun q hq => (HRow.out.row.lt q hq).1
      have HR2 := Lib.hid hR2
      clear hR2 hown hgrow hgw hglt HO1 HRow HPin
      go_wp2_with fail
      go_roundw
      case rel => exact ⟨k + 1, _, by omega, by go_num, HR2.out⟩
      case measure => simp [intOf]; omega
    · have hd : decide ((k : Int) < (s.S.length : Int)) = false := by simp; omega
      obtain rfl : k = s.S.length := by omega
      obtain ⟨ap, gp, cp, hv, hpi⟩ := parts_of_row HR.out.row.row HR.out.row.ins (by have := HR.out.below.size; omega)
      have hpl := HR.out.len
      rw [hpl] at hv
      subst hv
      have HPi := Lib.hid hpi
      clear hpi
      go_wp2_with fail
      go_ret
      exact ⟨ap, gp, cp, ps, rfl, by rw [HR.out.txs, List.take_length], HPi.out, HR.out.row.nil, HR.out.below⟩
end Go.Proofs.YtlhfdlfbnnfjjaaDoor
namespace Go.Proofs.YtlhfdlfbnnfjjaaDoor
open Go.RowKit

/-- a record's sectors, of the first generation -/
def secsOf (n : Nat) (l : List UInt8) : List (List UInt8) := (List.range (nParts l.length)).map fun k => secB n 1 k l
def allS : Nat → List (List UInt8) → List (List UInt8)
  | _, [] => []
  | n, l :: rs => secsOf n l ++ allS (n + 1) rs
set_option maxRecDepth 100000 in
theorem length_secsOf (n : Nat) (l : List UInt8) : (secsOf n l).length = nParts l.length := by simp [secsOf]
set_option maxRecDepth 100000 in
theorem allS_append (n : Nat) (a b : List (List UInt8)) : allS n (a ++ b) = allS n a ++ allS (n + a.length) b := by
  induction a generalizing n with
  | nil => simp [allS]
  | cons l a ih =>
    simp only [List.cons_append, allS, List.append_assoc, ih, List.length_cons]
    rw [show n + 1 + a.length = n + (a.length + 1) by omega]
set_option maxRecDepth 100000 in
theorem le_allS (n : Nat) (a : List (List UInt8)) : a.length ≤ (allS n a).length := by
  induction a generalizing n with
  | nil => simp [allS]
  | cons l a ih =>
    have := ih (n + 1)
    have h1 := nParts_pos l.length
    simp only [allS, List.length_append, List.length_cons, length_secsOf]; omega
/-- these sectors hold those records, and noughts behind -/
structure Lies (ss : List Part) (rs : List (List UInt8)) (room : Nat) : Prop where
  secs : ss.map Part.l = allS 0 rs ++ List.replicate room z64
set_option maxRecDepth 100000 in
theorem Lies.get {ss : List Part} {rs : List (List UInt8)} {room : Nat} (h : Lies ss rs room) (i : Nat) (x : List UInt8) (hx : (allS 0 rs ++ List.replicate room z64)[i]? = some x) : ∃ q, ss[i]? = some q ∧ q.l = x := by
  rw [← h.secs, List.getElem?_map] at hx
  cases hq : ss[i]? with
  | none => rw [hq] at hx; cases hx
  | some q => rw [hq] at hx; exact ⟨q, rfl, Option.some.inj hx⟩
set_option maxRecDepth 100000 in
theorem Lies.len {ss : List Part} {rs : List (List UInt8)} {room : Nat} (h : Lies ss rs room) : ss.length = (allS 0 rs).length + room := by
  have := congrArg List.length h.secs
  simpa using this
set_option maxRecDepth 100000 in
theorem Lies.rec_at {ss : List Part} {rs : List (List UInt8)} {room : Nat} (h : Lies ss rs room) (j : Nat) (hj : j < rs.length) : RecAt ss (allS 0 (rs.take j)).length j rs[j] := by
  have e : rs = rs.take j ++ rs[j] :: rs.drop (j + 1) := by simp
  have e2 : allS 0 rs = allS 0 (rs.take j) ++ (secsOf j rs[j] ++ allS (j + 1) (rs.drop (j + 1))) := by
    conv => lhs; rw [e]
    rw [allS_append, List.length_take, Nat.zero_add, Nat.min_eq_left (Nat.le_of_lt hj)]
    rfl
  refine ⟨fun k hk => h.get _ _ ?_⟩
  rw [e2, List.append_assoc, List.getElem?_append_right (by omega), Nat.add_sub_cancel_left, List.append_assoc, List.getElem?_append_left (by rw [length_secsOf]; exact hk)]
  simp [secsOf, hk]
set_option maxRecDepth 100000 in
theorem Lies.step {_ss : List Part} {rs : List (List UInt8)} (j : Nat) (hj : j < rs.length) : (allS 0 (rs.take (j + 1))).length = (allS 0 (rs.take j)).length + nParts rs[j].length := by
  rw [List.take_succ_eq_append_getElem hj, allS_append, List.length_append]
  simp [allS, length_secsOf]
set_option maxRecDepth 100000 in
theorem Lies.zero_at {ss : List Part} {rs : List (List UInt8)} {room : Nat} (h : Lies ss rs room) (hr : 0 < room) : ∃ q, ss[(allS 0 rs).length]? = some q ∧ q.l = z64 := by
  refine h.get _ _ ?_
  rw [List.getElem?_append_right (Nat.le_refl _), Nat.sub_self, List.getElem?_replicate, if_pos hr]
structure ReadRel (w : World) (rs : List (List UInt8)) (j : Nat) (ps : List Part) (v : Value) (wr : World) : Prop where
  row : RowP wr w.heap.size v ps
  txs : ps.map Part.l = rs.take j
  len : ps.length = j
  apart : ∀ q ∈ ps, q.l ≠ [] → v.ownBlock ≠ some q.g
  below : Below w.heap.size w wr
set_option maxRecDepth 100000 in
theorem RowP.shape {w : World} {N : Nat} {v : Value} {ps : List Part} (h : RowP w N v ps) : ∃ a c, v = .slice a ps.length c := by
  rcases h.row.2 with ⟨rfl, hn⟩ | ⟨g, cap, cur, rfl, _⟩
  · exact ⟨none, 0, by rw [hn]⟩
  · exact ⟨_, _, rfl⟩
set_option maxRecDepth 100000 in
set_option maxHeartbeats 4000000 in
theorem refRead_any (w : World) (ss : List Part) (ap : Option Addr) (gp op cp : Nat) (hp : PartsIn w ap gp op ss) (hnil : ∀ p ∈ ss, p.ad = none → p.cap = 0) (hss : ss.length ≤ 1000) (rs : List (List UInt8)) (room : Nat) (hl : Lies ss rs room) (h64 : ∀ p ∈ ss, p.l.length = 64) (hrs : ∀ r ∈ rs, r.length ≤ 4096) :
    Calls Tryd.prog 13 #[.slice ap ss.length cp] w fun e w' => ∃ (a : Option Addr) (g c : Nat) (most : Int) (ps : List Part), e = .returned (.tuple #[.slice a rs.length c, .int .i64 ((ss.length - room : Nat) : Int), .int .i64 most]) ∧ ps.map Part.l = rs ∧ PartsIn w' a g 0 ps ∧ (∀ p ∈ ps, p.ad = none → p.cap = 0) ∧ Below w.heap.size w w' := by
  obtain ⟨i0, hi, hz0, hz1, hz2⟩ := info_parts info_row
  have hlen := hl.len
  have hrl := le_allS 0 rs
  have hrn : rs.length ≤ ss.length := by omega
  clear hrl
  have HP := Lib.hid hp
  have HNil := Lib.hid hnil
  have HL := Lib.hid hl
  have H64 := Lib.hid h64
  have HRs := Lib.hid hrs
  have hgp := hp.lt
  have HApp := Lib.hid hp.at'
  have HLen := Lib.hid hlen
  clear hlen
  clear hp hnil hl h64 hrs
  go_enter Tryd.func13, Tryd.ntmps13
  go_wp2_with fail
  go_loopw [8, 9] (fun m i wr => ∃ (k : Nat) (most : Int), k ≤ ss.length ∧ i = .int .i64 (k : Int) ∧ m = .int .i64 most ∧ Below w.heap.size w wr) (fun _ i _ => ss.length - (intOf i).toNat)
  case atStart => exact ⟨0, 0, by omega, rfl, rfl, Below.refl _ _⟩
  case round =>
    obtain ⟨k, most, hk, rfl, rfl, hb⟩ := hrel
    have HB := Lib.hid hb
    clear hb
    by_cases hlt : k < ss.length
    · have hd : decide ((k : Int) < (ss.length : Int)) = true := by simp; omega
      have hq := HP.out.parts ss[k] (List.getElem_mem hlt)
      have hcell := HP.out.cell k hlt
      have hap := HApp.out (by intro e; rw [e] at hlt; cases hlt)
      have hqlen := H64.out ss[k] (List.getElem_mem hlt)
      generalize ss[k] = q at *
      have hqat := hq.bytes.at' (by intro e; rw [e] at hqlen; cases hqlen)
      obtain ⟨q4, hq4l, hq4a, hq4i, hq4b, hq4c, hq4s⟩ := slice_loP q 4 (by omega) hq.cap (hq.bytes.at')
      have hq4len : q4.l.length = 60 := by rw [hq4l, List.length_drop, hqlen]
      have hs4 : ∀ w, (Instr.sliceAt 32 (.slice (some ⟨q.g, q.o, none⟩) 64 q.cap) (some (.int .i64 4)) none none).run Tryd.prog w = .ok (.slice q4.ad 60 q4.cap) w := fun w => by
        have := hq4s w
        rw [hqat, hqlen, hq4len] at this
        exact this
      obtain ⟨c0, c1, c2, c3, r, hb4⟩ : ∃ c0 c1 c2 c3 r, q4.l = c0 :: c1 :: c2 :: c3 :: r := by
        match h : q4.l with
        | c0 :: c1 :: c2 :: c3 :: r => exact ⟨_, _, _, _, _, rfl⟩
        | [] => rw [h] at hq4len; cases hq4len
        | [_] => rw [h] at hq4len; cases hq4len
        | [_, _] => rw [h] at hq4len; cases hq4len
        | [_, _, _] => rw [h] at hq4len; cases hq4len
      have hNum := refNum_part wr q4 ((hq4i w hq).below HB.out) (by omega) c0 c1 c2 c3 r hb4
      rw [hq4len] at hNum
      have HNum := Lib.hid hNum
      have hcv : wr.cell? ⟨gp, op + k, none⟩ = some (.slice (some ⟨q.g, q.o, none⟩) 64 q.cap) := by rw [HB.out.cell (by exact hgp), hcell]; unfold Part.val; rw [hqat, hqlen]
      obtain ⟨x, hx⟩ : ∃ x, numU [c0, c1, c2, c3] = x := ⟨_, rfl⟩
      rw [hx] at HNum
      clear hNum hb4 hq4l hq4a hq4b hq4c hq4i hq4s hqlen hqat hq hcell hx
      subst hap
      go_wp2_with fail
      refine HNum.out.mono ?_
      rintro e w2 ⟨rfl, hb2⟩
      have HB2 := Lib.hid (HB.out.trans (hb2.mono HB.out.size))
      clear hb2 HNum hcv HB
      go_wp2_with fail
      all_goals go_roundw
      all_goals first
        | exact ⟨k + 1, _, by omega, by go_num, rfl, HB2.out⟩
        | (simp [intOf]; omega)
    · have hd : decide ((k : Int) < (ss.length : Int)) = false := by simp; omega
      go_wp2_with fail
      have R0 : ReadRel w rs 0 [] (.slice none 0 0) wr := ⟨RowP.empty _ _, by simp, rfl, (fun q hq => absurd hq (by simp)), HB.out⟩
      clear HB hd
      go_loopw [5, 6, 7, 10, 11, 12, 13] (fun v at' least i _ _ _ wr => ∃ (j A : Nat) (ps : List Part), j ≤ rs.length ∧ A = (allS 0 (rs.take j)).length ∧ at' = .int .i64 (A : Int) ∧ least = .int .i64 1 ∧ i = .int .i64 (j : Int) ∧ ReadRel w rs j ps v wr) (fun _ _ _ i _ _ _ _ => rs.length + 1 - (intOf i).toNat)
      case atStart => exact ⟨0, 0, [], by omega, rfl, rfl, rfl, rfl, R0⟩
      case round =>
        clear R0
        obtain ⟨j, A, ps, hj, hA, rfl, rfl, rfl, hr⟩ := hrel
        have hd : decide ((j : Int) ≤ (ss.length : Int)) = true := by simp; omega
        obtain ⟨a5, c5, hv5⟩ := hr.row.shape
        have hpl := hr.len
        rw [hpl] at hv5
        subst hv5
        have HR := Lib.hid hr
        have HA := Lib.hid hA
        clear hr hA
        by_cases hlt : j < rs.length
        · have hrec := HL.out.rec_at j hlt
          rw [← HA.out] at hrec
          have hl4 := HRs.out rs[j] (List.getElem_mem hlt)
          have HO := Lib.hid (refOne_rec wr ss ap gp op cp (HP.out.below (HR.out.below.mono (Nat.le_refl _))) HNil.out hss A j rs[j] hl4 (by omega) hrec)
          go_wp2_with fail
          refine HO.out.mono ?_
          rintro e w2 ⟨r, rfl, hrl, hri, hrn', hrg, hb2⟩
          have hM1 := nParts_pos rs[j].length
          have hM79 := nParts_le _ hl4
          have HAn := Lib.hid (Lies.step (_ss := ss) j hlt)
          have HTk : Hid (ps.map Part.l ++ [r.l] = rs.take (j + 1)) := Lib.hid (by rw [HR.out.txs, hrl, List.take_succ_eq_append_getElem hlt])
          have hrl4 : r.l.length ≤ 4096 := by rw [hrl]; exact hl4
          have HRg : Hid (r.l ≠ [] → wr.heap.size ≤ r.g) := Lib.hid (by rw [hrl]; exact hrg)
          have hAM : A + nParts rs[j].length ≤ ss.length := by
            have h1 := HAn.out
            have h2 := HLen.out
            have h3 := congrArg List.length (allS_append 0 (rs.take (j + 1)) (rs.drop (j + 1)))
            rw [List.take_append_drop, List.length_append] at h3
            have h4 := HA.out
            omega
          obtain ⟨M, hMM⟩ : ∃ M, nParts rs[j].length = M := ⟨_, rfl⟩
          rw [hMM] at hAM
          rw [hMM] at hM1 hM79 HAn ⊢
          have d1 : ((M : Int) == 0) = false := by simp; omega
          have d2 : decide ((4096 : Int) < (r.l.length : Int)) = false := by simp; omega
          have d3 : decide (4096 < r.l.length) = false := by simp; omega
          have HRi := Lib.hid hri
          have HRn := Lib.hid hrn'
          have HRow := Lib.hid (HR.out.row.below hb2)
          have HO1 := Lib.hid (fun V : Value => own_same (w' := w2.alloc (.cells #[V] 32)) HRow.out.row fun g hg => (Below.heap_alloc _ _ _ (HRow.out.row.lt g hg).2))
          have HB2 := Lib.hid (HR.out.below.trans (hb2.mono HR.out.below.size))
          have hb20 := hb2.size
          clear hrl hri hrn' hrg hb2 HO hrec hl4 hMM
          unfold Part.val
          go_wp2_with (at_builtin; refine wpList_append_lies _ rfl (.tmp 52) (.tmp 54) 31 rfl w.heap.size 32 i0 (.slice none 0 0) 1 24 Tryd.underlying31 hi hz0 hz1 hz2 rfl (by decide) _ ps.length (ps.map Part.val) rfl (HO1.out _) ⟨w2.heap.size, 0, none⟩ 1 1 [.slice r.ad r.l.length r.cap] rfl rfl ?q1 ?q2 (by decide) (by unfold maxLen; omega) (by have := HB2.out.size; omega) (by simp; have := HB2.out.size; omega) _ rfl ?_)
          case q2 => intro u hu; obtain rfl := List.mem_singleton.1 hu; rfl
          case q1 =>
            intro jj u hjj
            rw [Addr.add_mid, Nat.zero_add, cell_block (heap_alloc_new w2 _)]
            simpa using hjj
          intro g c w3 hown hgrow hgw hglt
          have hR2 : ReadRel w rs (j + 1) (ps ++ [r]) (.slice (some ⟨g, 0, none⟩) (j + 1) c) w3 := by
            have hlt1 : ∀ g, (Value.slice a5 j c5).ownBlock = some g → g < wr.heap.size := fun g hg => (HR.out.row.row.lt g hg).2
            have hin1 := HRi.out.lt
            have hrow2 := HRow.out.more HR.out.apart r HRi.out HRn.out (fun hne e => by have h1 := hlt1 _ e; have h2 := HRg.out hne; omega) (by rw [hpl]; exact hown) hgrow
            rw [hpl] at hrow2
            refine ⟨hrow2, by rw [List.map_append, List.map_singleton]; exact HTk.out, by rw [List.length_append, hpl]; rfl, fun q hq hne e => ?_, ?_⟩
            · have e' : g = q.g := Option.some.inj e
              rcases hgw with hv | hv
              · rcases List.mem_append.1 hq with hq | hq
                · exact HR.out.apart q hq hne (by rw [hv, e'])
                · obtain rfl := List.mem_singleton.1 hq
                  have h1 := hlt1 _ hv
                  have h2 := HRg.out hne
                  omega
              · rcases List.mem_append.1 hq with hq | hq
                · have := (HRow.out.ins q hq).lt; omega
                · obtain rfl := List.mem_singleton.1 hq
                  omega
            · exact (HB2.out.alloc HB2.out.size _).grown hgrow (by simp; have := HB2.out.size; omega) fun q hq => (HRow.out.row.lt q hq).1
          have HR2 := Lib.hid hR2
          clear hR2 hown hgrow hgw hglt HO1 HRow HRi
          go_wp2_with fail
          go_roundw
          case rel => exact ⟨j + 1, A + M, _, by omega, by rw [HAn.out, HA.out], by go_num, rfl, by go_num, HR2.out⟩
          case measure => simp [intOf]; omega
        · obtain rfl : j = rs.length := by omega
          have hAT : A = (allS 0 rs).length := by rw [HA.out, List.take_length]
          have hO : Calls Tryd.prog 28 #[.slice ap ss.length cp, .int .i64 (A : Int), .int .i64 ((rs.length : Int) + 1), .int .i64 1] wr fun e w' => e = .returned (.tuple #[.slice none 0 0, .int .i64 0, .int .i64 0]) ∧ Below wr.heap.size wr w' := by
            by_cases hr0 : room = 0
            · have : A = ss.length := by rw [HLen.out, hAT, hr0]; rfl
              rw [this]
              exact refOne_end wr ap ss.length cp rs.length
            · obtain ⟨q, hq, hqz⟩ := HL.out.zero_at (by omega)
              rw [← hAT] at hq
              exact refOne_zero wr ss ap gp op cp (HP.out.below (HR.out.below.mono (Nat.le_refl _))) hss A rs.length q hq hqz
          have HO := Lib.hid hO
          have HAT : Hid (A = ss.length - room) := Lib.hid (by rw [HLen.out, hAT]; omega)
          clear hO hAT
          go_wp2_with fail
          refine HO.out.mono ?_
          rintro e w2 ⟨rfl, hb2⟩
          have HB2 := Lib.hid (HR.out.below.trans (hb2.mono HR.out.below.size))
          have HRow := Lib.hid (HR.out.row.below hb2)
          clear hb2 HO
          go_wp2_with fail
          obtain ⟨ap', gp', cp', hv, hpi⟩ := parts_of_row HRow.out.row HRow.out.ins (by have := HB2.out.size; omega)
          rw [hpl] at hv
          exact bodyPost_ret (v := .tuple #[.slice a5 rs.length c5, .int .i64 (A : Int), .int .i64 most]) (by simp [results, Tryd.results13, go_sem]) rfl ⟨ap', gp', cp', most, ps, by rw [hv, HAT.out], by rw [HR.out.txs, List.take_length], hpi, HRow.out.nil, HB2.out⟩
end Go.Proofs.YtlhfdlfbnnfjjaaDoor
