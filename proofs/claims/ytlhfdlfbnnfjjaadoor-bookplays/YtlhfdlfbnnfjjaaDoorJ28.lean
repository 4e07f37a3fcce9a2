/- The record that stands from the first of some sectors on; A book in memory; A record is taken over. -/
import Derived.Test.YtlhfdlfbnnfjjaaDoorJ27
import Derived.Test.YtlhfdlfbnnfjjaaDoorJ18
import Derived.Test.YtlhfdlfbnnfjjaaDoorJ23
import Derived.Test.YtlhfdlfbnnfjjaaDoorJ22
import Derived.Deep.AppendLies
namespace Go.Proofs.YtlhfdlfbnnfjjaaDoor
open Go.RowKit

abbrev Sec := Hd × List UInt8
/-- sectors that a slice has -/
structure SecsIn (w : World) (ad : Option Addr) (G o cap : Nat) (L : List LSec) : Prop where
  at' : L ≠ [] → ad = some ⟨G, o * 6, none⟩
  range : ∀ i, (hi : i < L.length) → w.rangeAt G ((o + i) * 6) (secC L[i].h L[i].q)
  ins : ∀ x ∈ L, LIn w x
  cap : L.length ≤ cap
  lt : G < w.heap.size
set_option maxRecDepth 100000 in
theorem SecsIn.below {w w' : World} {ad : Option Addr} {G o cap : Nat} {L : List LSec} (h : SecsIn w ad G o cap L) (hb : Below w.heap.size w w') : SecsIn w' ad G o cap L :=
  ⟨h.at', fun i hi j v hv => (hb.cell (by exact h.lt)).trans (h.range i hi j v hv), fun x hx => (h.ins x hx).below hb, h.cap, Nat.lt_of_lt_of_le h.lt hb.size⟩
set_option maxRecDepth 100000 in
theorem SecsAt.into {w : World} {G : Nat} {L : List LSec} (h : SecsAt w G L) : SecsIn w (some ⟨G, 0, none⟩) G 0 L.length L :=
  ⟨fun _ => by simp, fun i hi => by rw [Nat.zero_add]; exact h.range i hi, h.ins, Nat.le_refl _, lt_block h.blk⟩
/-- the bytes of the first sectors' parts -/
def recOf (L : List Sec) (k : Nat) : List UInt8 := (L.take k).flatMap fun x => x.2.take x.1.l
set_option maxRecDepth 100000 in
theorem recOf_succ (L : List Sec) (k : Nat) (x : Sec) (h : L[k]? = some x) : recOf L (k + 1) = recOf L k ++ x.2.take x.1.l := by
  obtain ⟨hk, e⟩ := List.getElem?_eq_some_iff.1 h
  unfold recOf
  rw [List.take_succ_eq_append_getElem hk, List.flatMap_append, e]
  simp
/-- the first so many sectors are of one record -/
def AllSt (L : List Sec) (f : Hd) (k : Nat) : Prop := ∀ i, i < k → ∀ x, L[i]? = some x → standsB x.1 x.2 f i = true
/-- a record of that number, and of that generation at least, stands in the first c sectors -/
structure Stands (L : List Sec) (num least : Nat) (f : Hd) (c : Nat) : Prop where
  first : ∃ r, L[0]? = some (f, r)
  beg : begB f (num : Int) (least : Int) = true
  count : f.c = c
  room : c ≤ L.length
  all : AllSt L f c
set_option maxRecDepth 100000 in
theorem length_recOf (L : List Sec) (h : ∀ x ∈ L, x.2.length = 52) (k : Nat) : (recOf L k).length ≤ k * 52 := by
  induction k with
  | zero => simp [recOf]
  | succ k ih =>
    cases hx : L[k]? with
    | none =>
      have : L.length ≤ k := by simpa using hx
      unfold recOf at *
      rw [List.take_of_length_le (by omega)] at *
      omega
    | some x =>
      rw [recOf_succ L k x hx, List.length_append]
      have := h x (List.mem_of_getElem? hx)
      simp
      omega
/-- what standing tells -/
inductive StandPost (L : List Sec) (num least : Nat) (w : World) (e : Ending) (w' : World) : Prop
  | none (h : ∀ f c, ¬ Stands L num least f c) (he : e = .returned (.tuple #[.slice none 0 0, .int .i64 0]))
  | some (f : Hd) (c : Nat) (h : Stands L num least f c) (p : Part) (he : e = .returned (.tuple #[p.val, .int .i64 (c : Int)])) (hin : p.In w') (hl : p.l = recOf L c) (hn : p.ad = none → p.cap = 0) (hg : p.l ≠ [] → w.heap.size ≤ p.g)
structure StRel (w : World) (L : List Sec) (f : Hd) (k : Nat) (v : Value) (wr : World) : Prop where
  own : wr.ownsRow (w.heap.size + 1) 5 1 v (recOf L k).length ((recOf L k).map B)
  hd : wr.heap[w.heap.size]? = some (.cells f.cells.toArray 72 (0, 0))
  below : Below w.heap.size w wr
  all : AllSt L f k
set_option maxRecDepth 100000 in
theorem begB_c {h : Hd} {n l : Int} (hb : begB h n l = true) : 1 ≤ h.c ∧ h.c ≤ 79 := by
  unfold begB at hb
  simp only [Bool.and_eq_true, decide_eq_true_eq] at hb
  omega
set_option maxRecDepth 100000 in
theorem slice_secs (ad : Option Addr) (len cap c : Nat) (hc : c ≤ len) (hl : len ≤ cap) (had : ad ≠ none) (w : World) :
    (Instr.sliceAt 55 (.slice ad len cap) none (some (.int .i64 (c : Int))) none).run Tryd.prog w = .ok (.slice ad c cap) w := by
  have e3 : ∀ w, (sizeOf 74).run Tryd.prog w = .ok 6 w := fun _ => by kernel_rfl
  have e1 : Tryd.prog.elem 55 = 74 := by kernel_rfl
  rw [run_sliceAt_slice (P := Tryd.prog) w 55 _ _ _ _ (by kernel_rfl), run_slice_h (P := Tryd.prog) w 55 ad len cap (by kernel_rfl) .i64 c (by omega) (by omega), e1, e3]
  cases ad with
  | none => exact absurd rfl had
  | some a => simp [sliced, Result.andThen, Addr.add]
set_option maxRecDepth 100000 in
set_option maxHeartbeats 1000000 in
theorem standing_any (w : World) (ad : Option Addr) (G o cap : Nat) (L : List LSec) (h : SecsIn w ad G o cap L) (hm : cap ≤ 8192) (hCb : ∀ x ∈ L, (x.h.c : Int) < 9223372036854775808) (num least : Nat) :
    Calls Tryd.prog 32 #[.slice ad L.length cap, .int .i64 (num : Int), .int .i64 (least : Int)] w fun e w' => StandPost (L.map LSec.abs) num least w e w' ∧ Below w.heap.size w w' := by
  have hcap := h.cap
  have H := Lib.hid h
  have h52 : Hid (∀ x ∈ L.map LSec.abs, x.2.length = 52) := Lib.hid fun y hy => by
    obtain ⟨x, hx, rfl⟩ := List.mem_map.1 hy
    exact (h.ins x hx).len
  by_cases hL : L = []
  · subst hL
    clear h H
    go_enter Tryd.func32, Tryd.ntmps32
    go_wp2_with fail
    go_ret2
    exact ⟨.none (fun f c h => by obtain ⟨r, hr⟩ := h.first; simp at hr) rfl, Below.refl _ _⟩
  · obtain rfl := h.at' hL
    have hlen : 0 < L.length := List.length_pos_iff.2 hL
    have hd0 : ((L.length : Int) == 0) = false := by simp; omega
    obtain ⟨x0, hx0⟩ : ∃ x, L[0]? = some x := ⟨_, List.getElem?_eq_getElem hlen⟩
    have ex0 : L[0] = x0 := by rw [List.getElem?_eq_getElem hlen] at hx0; exact Option.some.inj hx0
    have hf0 : (L.map LSec.abs)[0]? = some (x0.h, x0.q.l) := by rw [List.getElem?_map, hx0]; rfl
    have h5 : w.rangeAt G (o * 6) x0.h.cells := by
      have := h.range 0 hlen
      rw [ex0, Nat.add_zero] at this
      intro j v hj
      exact this j v (by unfold secC; rw [List.getElem?_append_left (List.getElem?_eq_some_iff.1 hj).1]; exact hj)
    have HF0 := Lib.hid hf0
    have HBg := Lib.hid (fun W => begins_any W x0.h (num : Int) (least : Int))
    clear h ex0
    generalize x0.h = f at *
    obtain ⟨b, hb⟩ : ∃ b, begB f (num : Int) (least : Int) = b := ⟨_, rfl⟩
    rw [hb] at HBg
    have HB := Lib.hid hb
    clear hb
    have hz : ∀ w, (zeroValue 72).run Tryd.prog w = .ok (.agg #[.int .i64 0, .int .i64 0, .int .i64 0, .int .i64 0, .int .i64 0]) w := fun _ => by kernel_rfl
    have HR5 := Lib.hid h5
    unfold Hd.cells at HR5 HBg
    clear h5 hf0 hx0
    go_enter Tryd.func32, Tryd.ntmps32
    go_wp2_with (refine wpList_load_mid rfl 72 (.tmp 17) rfl G (o * 6) rfl _ _ HR5.out Tryd.underlying72 rfl infoHd ?_)
    refine (HBg.out _).mono ?_
    rintro e w1 ⟨rfl, hb1⟩
    have g8 : w1.heap[w.heap.size]? = some (.cells [.int .i64 (f.n : Int), .int .i64 (f.g : Int), .int .i64 (f.p : Int), .int .i64 (f.c : Int), .int .i64 (f.l : Int)].toArray 72 (0, 0)) := (hb1.block _ (by simp)).trans (heap_alloc_new _ _)
    have HB1 := Lib.hid (((Below.refl w.heap.size w).alloc (Nat.le_refl _) _).trans (hb1.mono (by simp)))
    have c83 := cell_in g8 3 _ rfl
    have G8 := Lib.hid g8
    clear hb1 g8 HBg hz HR5
    cases b with
    | false =>
      clear H
      go_wp2_with fail
      go_ret2
      refine ⟨.none (fun f' c h => ?_) rfl, HB1.out⟩
      obtain ⟨r, hr⟩ := h.first
      rw [HF0.out] at hr
      cases hr
      have := h.beg
      rw [HB.out] at this
      cases this
    | true =>
      obtain ⟨hc1, hc79⟩ := begB_c HB.out
      by_cases hcl : L.length < f.c
      · have hd1 : decide ((L.length : Int) < (f.c : Int)) = true := by simp; omega
        clear H
        go_wp2_with fail
        go_ret2
        refine ⟨.none (fun f' c h => ?_) rfl, HB1.out⟩
        obtain ⟨r, hr⟩ := h.first
        rw [HF0.out] at hr
        cases hr
        have h1 := h.count
        have h2 := h.room
        rw [List.length_map] at h2
        omega
      · have hd1 : decide ((L.length : Int) < (f.c : Int)) = false := by simp; omega
        have hsl := slice_secs (some ⟨G, o * 6, none⟩) L.length cap f.c (by omega) hcap (by simp)
        have s6 : ∀ w, (sizeOf 74).run Tryd.prog w = .ok 6 w := fun _ => by kernel_rfl
        have hsz1 := HB1.out.size
        have hszG := lt_block G8.out
        have R0 : StRel w (L.map LSec.abs) f 0 (.slice none 0 0) w1 := ⟨by simpa [recOf] using World.ownsRow_nil _ _ _ _, G8.out, HB1.out, fun i hi => absurd hi (by omega)⟩
        have HRO := Lib.hid R0
        clear R0
        go_wp2_with fail
        go_loopw [9, 10, 11, 36] (fun v _ _ i wr => ∃ k : Nat, k ≤ f.c ∧ i = .int .i64 k ∧ w1.heap.size ≤ wr.heap.size ∧ StRel w (L.map LSec.abs) f k v wr) (fun _ _ _ i _ => f.c - (intOf i).toNat)
        case atStart => exact ⟨0, by omega, rfl, Nat.le_refl _, HRO.out⟩
        case round =>
          clear HRO c83
          obtain ⟨k, hk, rfl, hsz, hr⟩ := hrel
          by_cases hlt : k < f.c
          · have hd : decide ((k : Int) < (f.c : Int)) = true := by simp; omega
            have hkL : k < L.length := by omega
            obtain ⟨x, hx⟩ : ∃ x, L[k]? = some x := ⟨_, List.getElem?_eq_getElem hkL⟩
            have ex : L[k] = x := by rw [List.getElem?_eq_getElem hkL] at hx; exact Option.some.inj hx
            have hin : LIn wr x := (H.out.ins x (List.mem_of_getElem? hx)).below hr.below
            have hrg : wr.rangeAt G (o * 6 + k * 6) [.int .i64 (x.h.n : Int), .int .i64 (x.h.g : Int), .int .i64 (x.h.p : Int), .int .i64 (x.h.c : Int), .int .i64 (x.h.l : Int), .slice x.q.ad x.q.l.length x.q.cap] := by
              have := (H.out.below hr.below).range k hkL
              rw [ex, Nat.add_mul] at this
              exact this
            have hxa : (L.map LSec.abs)[k]? = some (x.h, x.q.l) := by rw [List.getElem?_map, hx]; rfl
            have HC : Hid ((x.h.c : Int) < 9223372036854775808) := Lib.hid (hCb x (List.mem_of_getElem? hx))
            have hlenx := Lib.hid hin.len
            have HSt : Hid (∀ W, Below wr.heap.size wr W → Calls Tryd.prog 46 #[.agg (secC x.h x.q).toArray, .agg f.cells.toArray, .int .i64 (k : Int)] W fun e w' => e = .returned (.bool (standsB x.h x.q.l f k)) ∧ Below W.heap.size W w') :=
              Lib.hid fun W hW => stands_any W x.h x.q (hin.q.below hW) hin.len f k HC.out
            have HPt : Hid (standsB x.h x.q.l f k = true → ∀ W, Below wr.heap.size wr W → Calls Tryd.prog 47 #[.agg (secC x.h x.q).toArray] W fun e w' => ∃ q : Part, e = .returned q.val ∧ q.l = x.q.l.take x.h.l ∧ q.In w' ∧ (q.ad = none → q.cap = 0) ∧ Below W.heap.size W w') :=
              Lib.hid fun hs W hW => by
                have hl : x.h.l ≤ 52 := by
                  unfold standsB at hs
                  simp only [Bool.and_eq_true] at hs
                  exact fits_le hs.2.1
                refine (part_any W x.h x.q (hin.q.below hW) (by rw [hin.len]; exact hl)).mono ?_
                rintro e w' ⟨q, he, hl', hi, _, hn, hb⟩
                exact ⟨q, he, hl', hi, hn hin.nil, hb⟩
            unfold secC Hd.cells Part.val at HSt HPt
            simp only [List.cons_append, List.nil_append] at HSt HPt
            have HHd : Hid (∀ W, Below wr.heap.size wr W → W.rangeAt w.heap.size 0 [.int .i64 (f.n : Int), .int .i64 (f.g : Int), .int .i64 (f.p : Int), .int .i64 (f.c : Int), .int .i64 (f.l : Int)]) := Lib.hid fun W hW => range_block (L := [.int .i64 (f.n : Int), .int .i64 (f.g : Int), .int .i64 (f.p : Int), .int .i64 (f.c : Int), .int .i64 (f.l : Int)]) ((hW.block _ (lt_block hr.hd)).trans hr.hd)
            obtain ⟨b2, hb2⟩ : ∃ b, standsB x.h x.q.l f k = b := ⟨_, rfl⟩
            rw [hb2] at HSt HPt
            have HB2 := Lib.hid hb2
            have HR := Lib.hid hr
            have HX := Lib.hid hxa
            have HRg := Lib.hid hrg
            clear hin hrg hxa hb2 hr hx ex HC
            have Hlx := Lib.hid (rfl : x.q.l.take x.h.l = x.q.l.take x.h.l)
            go_wp2_with (first
              | (refine wpList_load_mid rfl 74 (.tmp 39) rfl G (o * 6 + k * 6) rfl _ _ HRg.out Tryd.underlying74 rfl (info_secB _ rfl) ?_)
              | (refine wpList_load_mid rfl 72 (.tmp 8) rfl w.heap.size 0 rfl _ _ (HHd.out _ ((Below.refl _ _).alloc (Nat.le_refl _) _)) Tryd.underlying72 rfl infoHd ?_))
            refine (HSt.out _ ((Below.refl _ _).alloc (Nat.le_refl _) _)).mono ?_
            rintro e w2 ⟨rfl, hbl2⟩
            have hb02 : Below wr.heap.size wr w2 := ((Below.refl wr.heap.size wr).alloc (Nat.le_refl _) _).trans (hbl2.mono (by simp))
            have hr2 : w2.rangeAt wr.heap.size 0 [.int .i64 (x.h.n : Int), .int .i64 (x.h.g : Int), .int .i64 (x.h.p : Int), .int .i64 (x.h.c : Int), .int .i64 (x.h.l : Int), .slice x.q.ad x.q.l.length x.q.cap] := range_block (L := [.int .i64 (x.h.n : Int), .int .i64 (x.h.g : Int), .int .i64 (x.h.p : Int), .int .i64 (x.h.c : Int), .int .i64 (x.h.l : Int), .slice x.q.ad x.q.l.length x.q.cap]) ((hbl2.block _ (by simp)).trans (heap_alloc_new _ _))
            have HB02 := Lib.hid hb02
            have HR2 := Lib.hid hr2
            clear hbl2 hb02 hr2 HSt HHd HRg
            cases b2 with
            | false =>
              go_wp2_with fail
              go_ret2
              refine ⟨.none (fun f' c h => ?_) rfl, HR.out.below.trans (HB02.out.mono HR.out.below.size)⟩
              obtain ⟨r, hr⟩ := h.first
              rw [HF0.out] at hr
              cases hr
              have h1 := h.all k (by rw [← h.count]; exact hlt) _ HX.out
              rw [HB2.out] at h1
              cases h1
            | true =>
              go_wp2_with (refine wpList_load_mid rfl 74 (.tmp 11) rfl wr.heap.size 0 rfl _ _ HR2.out Tryd.underlying74 rfl (info_secB _ rfl) ?_)
              refine (HPt.out (by trivial) _ HB02.out).mono ?_
              rintro e w3 ⟨q, rfl, hql, hqi, hqn, hb3⟩
              have hb03 : Below wr.heap.size wr w3 := HB02.out.trans (hb3.mono HB02.out.size)
              have hown := own_same HR.out.own fun g hg => hb03.block g (HR.out.own.lt g hg).2
              have hbw3 := HR.out.below.trans (hb03.mono HR.out.below.size)
              have HO := Lib.hid hown
              have HQ := Lib.hid hqi
              have HQN := Lib.hid hqn
              have HQL := Lib.hid hql
              have HB3 := Lib.hid hbw3
              have HH3 := Lib.hid ((hb03.block _ (lt_block HR.out.hd)).trans HR.out.hd)
              have hsz3 : w1.heap.size ≤ w3.heap.size := by have := hb03.size; omega
              have HLq : Hid (q.l.length ≤ 52) := Lib.hid (by rw [hql, List.length_take, hlenx.out]; exact Nat.min_le_right _ _)
              have HLr : Hid ((recOf (L.map LSec.abs) k).length ≤ 79 * 52) := Lib.hid (Nat.le_trans (length_recOf _ h52.out k) (by omega))
              have HSu : Hid (recOf (L.map LSec.abs) (k + 1) = recOf (L.map LSec.abs) k ++ q.l) := Lib.hid (by rw [recOf_succ _ _ _ HX.out, hql])
              have HAll : Hid (AllSt (L.map LSec.abs) f (k + 1)) := Lib.hid fun i hi y hy => by
                rcases Nat.lt_or_ge i k with h | h
                · exact HR.out.all i h y hy
                · obtain rfl : i = k := by omega
                  rw [HX.out] at hy; cases hy
                  exact HB2.out
              clear hown hqi hqn hql hbw3 hb3 hb03 HR HR2 HB02 HPt HX HB2
              go_wp2_with (refine wpList_append_part rfl (.tmp 46) (.tmp 48) rfl (w.heap.size + 1) u9 (recOf (L.map LSec.abs) k).length (recOf (L.map LSec.abs) k) rfl HO.out q HQ.out HQN.out rfl (by have := HLq.out; have := HLr.out; omega) (by omega) ?_)
              intro v' w4 hown4 hb4
              have R4 : StRel w (L.map LSec.abs) f (k + 1) v' w4 := ⟨by rw [HSu.out, List.length_append, List.map_append]; exact hown4, (hb4.block _ (by omega)).trans HH3.out, HB3.out.trans (hb4.mono (by omega)), HAll.out⟩
              have HR4 := Lib.hid R4
              have hsz4 : w1.heap.size ≤ w4.heap.size := by have := hb4.size; omega
              clear hown4 hb4 R4 HO HSu HAll HH3 HB3
              go_wp2_with fail
              go_roundw
              case rel => exact ⟨k + 1, by omega, by go_num, hsz4, HR4.out⟩
              case measure => simp [intOf]; omega
          · have hd : decide ((k : Int) < (f.c : Int)) = false := by simp; omega
            obtain rfl : k = f.c := by omega
            have c83 := cell_in hr.hd 3 _ rfl
            have HR := Lib.hid hr
            clear hr
            go_wp2_with fail
            go_quiet (fail)
            obtain ⟨p, hpv, hpi, hpl, hpn, _, hpg⟩ := part_of_own HR.out.own (by omega)
            have HPG : Hid (p.l ≠ [] → w.heap.size ≤ p.g) := Lib.hid fun hne => by
              have h1 := hpi.bytes.at' hne
              have h2 : u9.ownBlock = some p.g := by rw [← hpv]; unfold Part.val; rw [h1]; rfl
              have := (HR.out.own.lt _ h2).1
              omega
            have HP := Lib.hid hpi
            have HPL := Lib.hid hpl
            have HPN := Lib.hid hpn
            have HPV := Lib.hid hpv
            clear hpi hpl hpn hpg hpv c83
            go_wp2_with fail
            go_ret2
            exact ⟨.some f f.c ⟨⟨_, HF0.out⟩, HB.out, rfl, by rw [List.length_map]; omega, HR.out.all⟩ p (by rw [HPV.out]; rfl) ⟨⟨HP.out.bytes.at', fun j hj => HP.out.bytes.cell j hj⟩, HP.out.cap, HP.out.lt⟩ HPL.out HPN.out HPG.out, ⟨HR.out.below.os, HR.out.below.tape, HR.out.below.output, HR.out.below.size, HR.out.below.block⟩⟩
end Go.Proofs.YtlhfdlfbnnfjjaaDoor
namespace Go.Proofs.YtlhfdlfbnnfjjaaDoor
open Go.RowKit

/-- a book's cells -/
def bookC (d : Nat) (ra : Value) (P : List UInt8) (n : Int) (room gen : Nat) (over : Bool) : List Value :=
  .pointer (some ⟨d, 0, none⟩) :: ra :: (HC P n ++ [.int .i64 (room : Int), .int .i64 (gen : Int), .bool over])
set_option maxRecDepth 100000 in
theorem length_bookC (d : Nat) (ra : Value) (P : List UInt8) (hP : P.length = 32) (n : Int) (room gen : Nat) (over : Bool) : (bookC d ra P n room gen over).length = 38 := by simp [bookC, HC, hP]
set_option maxRecDepth 100000 in
theorem bk1 (d : Nat) (ra ra' : Value) (P : List UInt8) (n : Int) (room gen : Nat) (over : Bool) : (bookC d ra P n room gen over).set 1 ra' = bookC d ra' P n room gen over := rfl
set_option maxRecDepth 100000 in
theorem bk34 (d : Nat) (ra : Value) (P : List UInt8) (hP : P.length = 32) (n : Int) (room gen : Nat) (over : Bool) : (bookC d ra P n room gen over)[34]? = some (.int .i64 n) := by simp [bookC, HC, hP]
set_option maxRecDepth 100000 in
theorem bk35 (d : Nat) (ra : Value) (P : List UInt8) (hP : P.length = 32) (n : Int) (room gen : Nat) (over : Bool) : (bookC d ra P n room gen over)[35]? = some (.int .i64 (room : Int)) := by simp [bookC, HC, hP]
set_option maxRecDepth 100000 in
theorem bk36 (d : Nat) (ra : Value) (P : List UInt8) (hP : P.length = 32) (n : Int) (room gen : Nat) (over : Bool) : (bookC d ra P n room gen over)[36]? = some (.int .i64 (gen : Int)) := by simp [bookC, HC, hP]
set_option maxRecDepth 100000 in
theorem bk37 (d : Nat) (ra : Value) (P : List UInt8) (hP : P.length = 32) (n : Int) (room gen : Nat) (over : Bool) : (bookC d ra P n room gen over)[37]? = some (.bool over) := by simp [bookC, HC, hP]
set_option maxRecDepth 100000 in
theorem bkHead (d : Nat) (ra : Value) (P : List UInt8) (_ : P.length = 32) (n : Int) (room gen : Nat) (over : Bool) (j : Nat) (hj : j < (HC P n).length) : (bookC d ra P n room gen over)[2 + j]? = (HC P n)[j]? := by
  unfold bookC
  rw [show 2 + j = j + 1 + 1 by omega, List.getElem?_cons_succ, List.getElem?_cons_succ, List.getElem?_append_left hj]
set_option maxRecDepth 100000 in
theorem bkHead_set (d : Nat) (ra : Value) (P : List UInt8) (hP : P.length = 32) (n : Int) (room gen : Nat) (o : Bool) (P' : List UInt8) (hP' : P'.length = 32) (n' : Int) : over (bookC d ra P n room gen o) 2 (HC P' n') = bookC d ra P' n' room gen o := by
  unfold over bookC HC
  simp [hP']
  rw [List.drop_append]
  simp [hP]
set_option maxRecDepth 100000 in
theorem bk35_set (d : Nat) (ra : Value) (P : List UInt8) (hP : P.length = 32) (n : Int) (room gen : Nat) (o : Bool) (room' : Nat) : (bookC d ra P n room gen o).set 35 (.int .i64 (room' : Int)) = bookC d ra P n room' gen o := by
  unfold bookC HC
  have e : (35 : Nat) = 32 + 1 + 1 + 1 := rfl
  rw [e, List.set_cons_succ, List.set_cons_succ, List.set_append_right _ _ (by simp [hP])]
  simp [hP]
set_option maxRecDepth 100000 in
theorem bk37_set (d : Nat) (ra : Value) (P : List UInt8) (hP : P.length = 32) (n : Int) (room gen : Nat) (o o' : Bool) : (bookC d ra P n room gen o).set 37 (.bool o') = bookC d ra P n room gen o' := by
  unfold bookC HC
  have e : (37 : Nat) = 35 + 1 + 1 := rfl
  rw [e, List.set_cons_succ, List.set_cons_succ, List.set_append_right _ _ (by simp [hP])]
  simp [hP]
/-- the blocks that a book and its disk turn -/
def J (b : Nat) (ra : Value) (d gs : Nat) (v : Value) (k : Nat) : Prop := k = b ∨ ra.ownBlock = some k ∨ foot d gs v k
/-- a book on its disk: what it was made of, its room, its generation, whether it is over -/
structure Both (w : World) (N d gs : Nat) (v : Value) (s : DSt) (b : Nat) (ra : Value) (ps : List Part) (room gen : Nat) (o : Bool) : Prop where
  disk : DAt w N d gs v s
  blk : w.heap[b]? = some (.cells (bookC d ra (folded z32 ps) (ps.length : Int) room gen o).toArray 60 (0, 0))
  row : w.ownsRow N 32 1 ra ps.length (ps.map Part.val)
  ins : ∀ p ∈ ps, p.In w
  nil : ∀ p ∈ ps, p.ad = none → p.cap = 0
  lim : ∀ p ∈ ps, p.l.length ≤ 4108
  few : ps.length ≤ 8192
  rm : room ≤ 8192
  bN : N ≤ b
  ne : ra.ownBlock ≠ some b
  apart : ¬ foot d gs v b
  apartR : ∀ k, ra.ownBlock = some k → ¬ foot d gs v k
  parts : ∀ p ∈ ps, p.l ≠ [] → ¬ J b ra d gs v p.g
set_option maxRecDepth 100000 in
theorem lenF (ps : List Part) : (folded z32 ps).length = 32 := length_folded z32 rfl ps
set_option maxRecDepth 100000 in
theorem Both.jlt {w : World} {N d gs : Nat} {v : Value} {s : DSt} {b : Nat} {ra : Value} {ps : List Part} {room gen : Nat} {o : Bool} (h : Both w N d gs v s b ra ps room gen o) {k : Nat} (hk : J b ra d gs v k) : N ≤ k ∧ k < w.heap.size := by
  rcases hk with rfl | hk | hk
  · exact ⟨h.bN, lt_block h.blk⟩
  · exact h.row.lt k hk
  · exact h.disk.footN hk
set_option maxRecDepth 100000 in
theorem Part.In.keptF {F : Nat → Prop} {w w' : World} {p : Part} (h : p.In w) (hk : KeptF F w w') (hb : p.l ≠ [] → ¬ F p.g) : p.In w' := by
  refine ⟨⟨h.bytes.at', fun j hj => ?_⟩, h.cap, Nat.lt_of_lt_of_le h.lt hk.size⟩
  have hne : p.l ≠ [] := by intro e; rw [e] at hj; cases hj
  rw [World.cell?_of_block (w := w) (hk.block p.g h.lt (hb hne))]
  exact h.bytes.cell j hj
set_option maxRecDepth 100000 in
/-- what is turned elsewhere leaves it as it is -/
theorem Both.kept {F : Nat → Prop} {w w' : World} {N d gs : Nat} {v : Value} {s : DSt} {b : Nat} {ra : Value} {ps : List Part} {room gen : Nat} {o : Bool} (h : Both w N d gs v s b ra ps room gen o) (hk : KeptF F w w') (hF : ∀ k, J b ra d gs v k → ¬ F k) (hP : ∀ p ∈ ps, p.l ≠ [] → ¬ F p.g) : Both w' N d gs v s b ra ps room gen o :=
  ⟨h.disk.kept hk fun k hf => hF k (.inr (.inr hf)), hk.heap h.blk (hF b (.inl rfl)), own_same h.row fun g hg => hk.block g (h.row.lt g hg).2 (hF g (.inr (.inl hg))), fun p hp => (h.ins p hp).keptF hk (hP p hp), h.nil, h.lim, h.few, h.rm, h.bN, h.ne, h.apart, h.apartR, h.parts⟩
set_option maxRecDepth 100000 in
theorem Both.below {w w' : World} {N d gs : Nat} {v : Value} {s : DSt} {b : Nat} {ra : Value} {ps : List Part} {room gen : Nat} {o : Bool} (h : Both w N d gs v s b ra ps room gen o) (hb : Below w.heap.size w w') : Both w' N d gs v s b ra ps room gen o :=
  h.kept (F := fun _ => False) ⟨hb.os, hb.tape, hb.output, hb.size, fun k hk _ => hb.block k hk⟩ (fun _ _ => id) (fun _ _ _ => id)
set_option maxRecDepth 100000 in
/-- the same book, where its disk is elsewhere or otherwise -/
theorem Both.cells {w : World} {N d gs : Nat} {v : Value} {s : DSt} {b : Nat} {ra : Value} {ps : List Part} {room gen : Nat} {o : Bool} (h : Both w N d gs v s b ra ps room gen o) :
    w.cell? ⟨b, 0, none⟩ = some (.pointer (some ⟨d, 0, none⟩)) ∧ w.cell? ⟨b, 1, none⟩ = some ra ∧ w.cell? ⟨b, 34, none⟩ = some (.int .i64 (ps.length : Int)) ∧ w.cell? ⟨b, 35, none⟩ = some (.int .i64 (room : Int)) ∧ w.cell? ⟨b, 36, none⟩ = some (.int .i64 (gen : Int)) ∧ w.cell? ⟨b, 37, none⟩ = some (.bool o) :=
  ⟨cell_in h.blk 0 _ rfl, cell_in h.blk 1 _ rfl, cell_in h.blk 34 _ (bk34 _ _ _ (lenF ps) _ _ _ _), cell_in h.blk 35 _ (bk35 _ _ _ (lenF ps) _ _ _ _), cell_in h.blk 36 _ (bk36 _ _ _ (lenF ps) _ _ _ _), cell_in h.blk 37 _ (bk37 _ _ _ (lenF ps) _ _ _ _)⟩
set_option maxRecDepth 100000 in
theorem Both.headR {w : World} {N d gs : Nat} {v : Value} {s : DSt} {b : Nat} {ra : Value} {ps : List Part} {room gen : Nat} {o : Bool} (h : Both w N d gs v s b ra ps room gen o) : w.rangeAt b 2 (HC (folded z32 ps) (ps.length : Int)) :=
  range_mid h.blk 2 _ fun j hj => bkHead _ _ _ (lenF ps) _ _ _ _ j hj

set_option maxRecDepth 100000 in
theorem room_any' (w : World) {N d gs : Nat} {v : Value} {s : DSt} {b : Nat} {ra : Value} {ps : List Part} {room gen : Nat} {o : Bool} (h : Both w N d gs v s b ra ps room gen o) :
    Calls Tryd.prog 10 #[.pointer (some ⟨b, 0, none⟩)] w fun e w' => e = .returned (.int .i64 (room : Int)) ∧ w = w' := by
  obtain ⟨c0, c1, c34, c35, c36, c37⟩ := h.cells
  clear h c0 c1 c34 c36 c37
  go_enter Tryd.func10, Tryd.ntmps10
  go_wp2
  go_ret
  exact ⟨rfl, rfl⟩
set_option maxRecDepth 100000 in
theorem over_any' (w : World) {N d gs : Nat} {v : Value} {s : DSt} {b : Nat} {ra : Value} {ps : List Part} {room gen : Nat} {o : Bool} (h : Both w N d gs v s b ra ps room gen o) :
    Calls Tryd.prog 11 #[.pointer (some ⟨b, 0, none⟩)] w fun e w' => e = .returned (.bool o) ∧ w = w' := by
  obtain ⟨c0, c1, c34, c35, c36, c37⟩ := h.cells
  clear h c0 c1 c34 c36 c35
  go_enter Tryd.func11, Tryd.ntmps11
  go_wp2
  go_ret
  exact ⟨rfl, rfl⟩
set_option maxRecDepth 100000 in
theorem head_any' (w : World) {N d gs : Nat} {v : Value} {s : DSt} {b : Nat} {ra : Value} {ps : List Part} {room gen : Nat} {o : Bool} (h : Both w N d gs v s b ra ps room gen o) :
    Calls Tryd.prog 12 #[.pointer (some ⟨b, 0, none⟩)] w fun e w' => e = .returned (HV (folded z32 ps) (ps.length : Int)) ∧ Below w.heap.size w w' := by
  have hr := Lib.hid h.headR
  have hD := length_HC (folded z32 ps) (lenF ps) (ps.length : Int)
  have hone := one_HC (folded z32 ps) (ps.length : Int)
  have hz : ∀ w, (zeroValue 42).run Tryd.prog w = .ok (.agg (HC z32 0).toArray) w := fun _ => by kernel_rfl
  have hZ33 : (HC z32 0).length = 33 := rfl
  unfold HV
  have hb := lt_block h.blk
  clear h
  generalize HC z32 0 = Z at *
  generalize HC (folded z32 ps) (ps.length : Int) = D at *
  go_enter Tryd.func12, Tryd.ntmps12
  have hr2 := range_below ((Below.refl w.heap.size w).alloc (Nat.le_refl _) (.cells Z.toArray 42)) hr.out hb
  have hth := there_block (heap_alloc_new w (.cells Z.toArray 42)) 0 33 (by omega)
  have hend := heap_setCells _ _ D 0 _ _ (heap_alloc_new w (.cells Z.toArray 42)) (by omega)
  rw [over_all _ _ (by omega)] at hend
  have hkl := (Kept1.setCells (b := w.heap.size) w.heap.size (Or.inl rfl) D 0 (Kept1.of_below ((Below.refl w.heap.size w).alloc (Nat.le_refl _) (.cells Z.toArray 42)))).below (Nat.le_refl _)
  have Hend := Lib.hid hend
  have Hkl := Lib.hid hkl
  have Hth := Lib.hid hth
  have HR2 := Lib.hid hr2
  clear hend hkl hth hr2 hr
  go_wp2_with (first
    | (refine wpList_load_mid rfl 42 (.tmp 5) rfl b 2 rfl D _ HR2.out Tryd.underlying42 rfl (infoHead _ hD) ?_)
    | (refine wpList_store_mid rfl 42 (.tmp 2) (.tmp 6) rfl w.heap.size 0 D.toArray rfl rfl (by simpa [hD] using Hth.out) (infoHead _ (by simpa using hD)) (all_oneCell_toArray hone) ?_))
  exact bodyPost_ret (v := .agg D.toArray) (results_cell_row Tryd.results12 _ _ w.heap.size 42 D.toArray (0, 0) _ rfl Hend.out Tryd.underlying42 rfl (infoHead _ (by simpa using hD))) rfl ⟨rfl, Hkl.out⟩
end Go.Proofs.YtlhfdlfbnnfjjaaDoor
namespace Go.Proofs.YtlhfdlfbnnfjjaaDoor
open Go.RowKit

set_option maxRecDepth 100000 in
theorem info_row : (Tryd.prog.info? 32).map (fun i => (i.zero, i.size, i.bytes)) = some (some (.slice none 0 0), 1, 24) := by kernel_rfl
/-- the blocks of a book's own -/
def bfoot (b : Nat) (ra : Value) (k : Nat) : Prop := k = b ∨ ra.ownBlock = some k
set_option maxRecDepth 100000 in
theorem folded_one (ps : List Part) (p : Part) : folded z32 (ps ++ [p]) = lnk (folded z32 ps) p.l := by simp [folded]
set_option maxRecDepth 100000 in
theorem tab_kept {F : Nat → Prop} {w w' : World} (h : Tab w) (hk : KeptF F w w') (hF : ¬ F 0) : Tab w' := fun k hk' => by
  rw [World.cell?_of_block (w := w) (hk.block 0 h.size hF)]
  exact h k hk'
set_option maxRecDepth 100000 in
set_option maxHeartbeats 1000000 in
theorem add_any (w : World) {N d gs : Nat} {v : Value} {s : DSt} {b : Nat} {ra : Value} {ps : List Part} {room gen : Nat} {o : Bool} (h : Both w N d gs v s b ra ps room gen o) (ht : Tab w) (hN : 0 < N) (p : Part) (hp : p.In w) (hpn : p.ad = none → p.cap = 0) (hpl : p.l.length ≤ 4108)
    (hpj : p.l ≠ [] → ¬ J b ra d gs v p.g) (c : Nat) (hc : c ≤ room) (hfew : ps.length + 1 ≤ 8192) :
    Calls Tryd.prog 25 #[.pointer (some ⟨b, 0, none⟩), p.val, .int .i64 (c : Int)] w fun e w' => e = .returned (.tuple #[]) ∧ ∃ ra', Both w' N d gs v s b ra' (ps ++ [p]) (room - c) gen o ∧ KeptF (bfoot b ra) w w' ∧ (∀ k, ra'.ownBlock = some k → ra.ownBlock = some k ∨ w.heap.size ≤ k) := by
  obtain ⟨i0, hi, hz0, hz1, hz2⟩ := info_parts info_row
  obtain ⟨c0, c1, c34, c35, c36, c37⟩ := h.cells
  have f1 := frozen_of_row w b 1 _ _ h.blk
  have hbl := lt_block h.blk
  have H := Lib.hid h
  have HP := Lib.hid hp
  have HPN := Lib.hid hpn
  have HPJ := Lib.hid hpj
  have HT := Lib.hid ht
  have hrow := h.row
  have hNs : N ≤ w.heap.size := by have := h.bN; omega
  have HNE := Lib.hid h.ne
  clear h hp hpn hpj ht c0 c34 c35 c36 c37
  unfold Part.val
  go_enter Tryd.func25, Tryd.ntmps25
  have hown1 := own_same (w' := w.alloc (.cells #[.slice p.ad p.l.length p.cap] 32)) hrow fun g hg => (Below.heap_alloc _ _ _ (hrow.lt g hg).2)
  have HO1 := Lib.hid hown1
  clear hown1 hrow
  go_wp2_with (at_builtin; refine wpList_append_lies _ rfl (.tmp 10) (.tmp 12) 31 rfl N 32 i0 (.slice none 0 0) 1 24 Tryd.underlying31 hi hz0 hz1 hz2 rfl (by decide) ra ps.length (ps.map Part.val) rfl HO1.out ⟨w.heap.size, 0, none⟩ 1 1 [.slice p.ad p.l.length p.cap] rfl rfl ?q1 ?q2 (by decide) (by unfold maxLen; omega) (by omega) (by simp; omega) _ rfl ?_)
  case q2 => intro u hu; obtain rfl := List.mem_singleton.1 hu; rfl
  case q1 =>
    intro j u hj
    rw [Addr.add_mid, Nat.zero_add, cell_block (heap_alloc_new w _)]
    simpa using hj
  intro g cap w1 hown hgrow hg hglt
  have hk1 : KeptF (bfoot b ra) w w1 := (KeptF.of_below ((Below.refl _ _).alloc (Nat.le_refl _) _)).trans (KeptF.of_grown (F := bfoot b ra) hgrow fun k hk => .inr hk) fun _ _ h => h
  have hgb : g ≠ b := by
    rcases hg with hg | hg
    · intro e; rw [e] at hg; exact HNE.out hg
    · omega
  have hb1 := hgrow.block b (by simp; omega) (fun e => HNE.out e.symm)
  have hblk1 := (hb1.trans (Below.heap_alloc _ _ _ hbl)).trans H.out.blk
  have c11 := cell_in hblk1 1 _ rfl
  have f11 := frozen_of_row w1 b 1 _ _ hblk1
  have hblk2 := cell_set_kept hblk1 1 (.slice (some ⟨g, 0, none⟩) (ps.length + 1) cap)
  rw [bk1] at hblk2
  have hk12 : Kept1 b w1 (w1.setCell ⟨b, 1, none⟩ (.slice (some ⟨g, 0, none⟩) (ps.length + 1) cap)) := (Kept1.refl _ _).setCell ⟨b, 1, none⟩ (Or.inl rfl) _
  have hk2 := hk1.trans (KeptF.of_kept1 (F := bfoot b ra) hk12 fun _ => .inl rfl) fun _ _ h => h
  have hown2 := own_same hown fun k hk => by injection hk with hk; subst hk; exact hk12.block g hglt hgb
  have hg2lt : g < (w1.setCell ⟨b, 1, none⟩ (.slice (some ⟨g, 0, none⟩) (ps.length + 1) cap)).heap.size := by simpa [World.setCell] using hglt
  obtain ⟨w2, hw2⟩ : ∃ w2, w1.setCell ⟨b, 1, none⟩ (.slice (some ⟨g, 0, none⟩) (ps.length + 1) cap) = w2 := ⟨_, rfl⟩
  have HW2 := Lib.hid hw2
  rw [hw2] at hblk2 hk2 hown2 hg2lt
  have HK2 := Lib.hid hk2
  have HB2 := Lib.hid hblk2
  have HO2 := Lib.hid hown2
  have HG := Lib.hid hg
  have hr2 := Lib.hid (range_mid hblk2 2 (HC (folded z32 ps) (ps.length : Int)) fun j hj => bkHead _ _ _ (lenF ps) _ _ _ _ j hj)
  have hTabN : ¬ bfoot b ra 0 := fun hf => by
    rcases hf with hf | hf
    · have := H.out.bN; omega
    · have := (H.out.row.lt _ hf).1; omega
  have HNx := Lib.hid (next_any w2 (folded z32 ps) (lenF ps) (ps.length : Int) (by omega) p (HP.out.keptF hk2 fun hne hf => HPJ.out hne (hf.elim .inl fun h => .inr (.inl h))) (tab_kept HT.out hk2 fun hf => hTabN hf) (by omega))
  unfold HV Part.val at HNx
  have hD := length_HC (folded z32 ps) (lenF ps) (ps.length : Int)
  clear hown hgrow hg hk1 hb1 hblk1 hblk2 hk12 hk2 hown2 hw2 HO1 hglt c1 f1
  obtain ⟨D0, hD0⟩ : ∃ D0, HC (folded z32 ps) (ps.length : Int) = D0 := ⟨_, rfl⟩
  rw [hD0] at hr2 HNx hD
  clear hD0
  go_wp2_with (first | (rw [HW2.out]; fail) | (refine wpList_load_mid rfl 42 (.tmp 19) rfl b 2 rfl D0 _ (by rw [HW2.out]; exact hr2.out) Tryd.underlying42 rfl (infoHead _ hD) ?_))
  rw [HW2.out]
  refine HNx.out.mono ?_
  rintro e w3 ⟨rfl, hb3⟩
  have hblt2 := lt_block HB2.out
  have hblk3 := (hb3.block b hblt2).trans HB2.out
  have hth := there_block hblk3 2 33 (by rw [length_bookC _ _ _ (lenF ps)]; omega)
  have hblk4 := heap_setCells b _ (HC (lnk (folded z32 ps) p.l) ((ps.length : Int) + 1)) 2 _ w3 hblk3 (by rw [length_bookC _ _ _ (lenF ps), length_HC _ (length_lnk _ _)]; omega)
  rw [bkHead_set _ _ _ (lenF ps) _ _ _ _ _ (length_lnk _ _)] at hblk4
  have hk34 : Kept1 b w3 (w3.setCells b 2 (HC (lnk (folded z32 ps) p.l) ((ps.length : Int) + 1))) := (Kept1.refl _ _).setCells b (Or.inl rfl) _ _
  have hD1 := length_HC (lnk (folded z32 ps) p.l) (length_lnk _ _) ((ps.length : Int) + 1)
  have hone1 := one_HC (lnk (folded z32 ps) p.l) ((ps.length : Int) + 1)
  have c35 := cell_in hblk4 35 _ (bk35 _ _ _ (length_lnk _ _) _ _ _ _)
  have f35 := frozen_of_row _ b 35 _ _ hblk4
  have hblk5 := cell_set_kept hblk4 35 (.int .i64 ((room - c : Nat) : Int))
  rw [bk35_set _ _ _ (length_lnk _ _)] at hblk5
  have hk45 : Kept1 b (w3.setCells b 2 (HC (lnk (folded z32 ps) p.l) ((ps.length : Int) + 1))) ((w3.setCells b 2 (HC (lnk (folded z32 ps) p.l) ((ps.length : Int) + 1))).setCell ⟨b, 35, none⟩ (.int .i64 ((room - c : Nat) : Int))) := (Kept1.refl _ _).setCell ⟨b, 35, none⟩ (Or.inl rfl) _
  have hk35 := hk34.trans hk45
  have hk25 : Kept1 b w2 _ := (Kept1.of_below (b := b) hb3).trans hk35
  have hrm : ((room - c : Nat) : Int) = (room : Int) - (c : Int) := by omega
  rw [hrm] at hblk5 hk25
  have hrl := H.out.rm
  obtain ⟨D1, hD1e⟩ : ∃ D1, HC (lnk (folded z32 ps) p.l) ((ps.length : Int) + 1) = D1 := ⟨_, rfl⟩
  simp only [hD1e] at hth hD1 hone1 c35 f35 hblk5 hk25 ⊢
  have HK25 := Lib.hid hk25
  have HB5 := Lib.hid hblk5
  have HTh := Lib.hid hth
  have hrm2 := Lib.hid hrm
  clear hD1e hblk3 hth hblk4 hk34 hblk5 hk45 hk35 hk25 hb3 HW2 hr2 HNx hrm c11 f11
  go_wp2_with (refine wpList_store_mid rfl 42 (.tmp 24) (.tmp 22) rfl b 2 D1.toArray rfl rfl (by simpa [hD1] using HTh.out) (infoHead _ (by simpa using hD1)) (all_oneCell_toArray hone1) ?_)
  go_end0
  have hkT := HK2.out.trans (KeptF.of_kept1 (F := bfoot b ra) HK25.out fun _ => .inl rfl) fun _ _ h => h
  have hJ : ∀ k, bfoot b ra k → J b ra d gs v k := fun k hk => hk.elim .inl fun h => .inr (.inl h)
  have hnJ : ∀ k, J b (.slice (some ⟨g, 0, none⟩) (ps.length + 1) cap) d gs v k → J b ra d gs v k ∨ k = w.heap.size + 1 := fun k hk => by
    rcases hk with rfl | hk | hk
    · exact .inl (.inl rfl)
    · obtain rfl : g = k := Option.some.inj hk
      rcases HG.out with h | h
      · exact .inl (.inr (.inl h))
      · exact .inr h
    · exact .inl (.inr (.inr hk))
  refine ⟨rfl, .slice (some ⟨g, 0, none⟩) (ps.length + 1) cap, ⟨?_, ?_, ?_, ?_, ?_, ?_, ?_, ?_, H.out.bN, ?_, H.out.apart, ?_, ?_⟩, hkT, ?_⟩
  · exact H.out.disk.kept hkT fun k hf hb => by
      rcases hb with rfl | hb
      · exact H.out.apart hf
      · exact H.out.apartR k hb hf
  · rw [folded_one, List.length_append, List.length_singleton, Int.natCast_add]
    exact HB5.out
  · rw [List.length_append, List.length_singleton, List.map_append]
    exact own_same HO2.out fun k hk => by obtain rfl : g = k := Option.some.inj hk; exact HK25.out.block g hg2lt hgb
  · intro q hq
    rcases List.mem_append.1 hq with hq | hq
    · exact (H.out.ins q hq).keptF hkT fun hne hf => H.out.parts q hq hne (hJ _ hf)
    · obtain rfl := List.mem_singleton.1 hq
      exact HP.out.keptF hkT fun hne hf => HPJ.out hne (hJ _ hf)
  · intro q hq
    rcases List.mem_append.1 hq with hq | hq
    · exact H.out.nil q hq
    · obtain rfl := List.mem_singleton.1 hq; exact HPN.out
  · intro q hq
    rcases List.mem_append.1 hq with hq | hq
    · exact H.out.lim q hq
    · obtain rfl := List.mem_singleton.1 hq; exact hpl
  · rw [List.length_append, List.length_singleton]; exact hfew
  · omega
  · intro e; injection e with e; exact hgb e
  · intro k hk hf
    rcases hnJ k (.inr (.inl hk)) with h | h
    · obtain rfl : g = k := Option.some.inj hk
      rcases HG.out with h | h
      · exact H.out.apartR g h hf
      · have := (H.out.disk.footN hf).2; omega
    · have := (H.out.disk.footN hf).2; omega
  · intro q hq hne hj
    rcases List.mem_append.1 hq with hq | hq
    · rcases hnJ _ hj with h | h
      · exact H.out.parts q hq hne h
      · have := (H.out.ins q hq).lt; omega
    · obtain rfl := List.mem_singleton.1 hq
      rcases hnJ _ hj with h | h
      · exact HPJ.out hne h
      · have := HP.out.lt; omega
  · intro k hk
    obtain rfl : g = k := Option.some.inj hk
    rcases HG.out with h | h
    · exact .inl h
    · exact .inr (by omega)
end Go.Proofs.YtlhfdlfbnnfjjaaDoor
