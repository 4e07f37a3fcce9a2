/- All records, in memory of their own; That the program answers at all; BookOwn. -/
import Derived.Test.YtjeopjajcdbncaaDoorJ31
import Derived.Test.YtjeopjajcdbncaaDoorJ18
import Derived.Test.YtjeopjajcdbncaaDoorJ24
namespace Go.Proofs.YtjeopjajcdbncaaDoor
open Go.RowKit

/-- the part's bytes lie in a block that may be written -/
def OwnB1 (w : World) (q : Part) : Prop := q.l ≠ [] → ∃ C : Array Value, w.heap[q.g]? = some (.cells C 5 (0, 0))
set_option maxRecDepth 100000 in
set_option maxHeartbeats 1000000 in
theorem clone2_any (w : World) (p : Part) (hp : p.In w) (hl : p.l.length ≤ 5000) :
    Calls Tryd.prog 31 #[.slice p.ad p.l.length p.cap] w fun e w' => ∃ q : Part, e = .returned (.slice q.ad q.l.length q.cap) ∧ q.l = p.l ∧ q.In w' ∧ (q.ad = none → q.cap = 0) ∧ (q.l ≠ [] → w.heap.size ≤ q.g) ∧ OwnB1 w' q ∧ Below w.heap.size w w' := by
  have q22 : ∀ (w : World) (a : Option Addr) (n c n' c' : Nat), (binOp .eql 32 (.slice a n c) (.slice none n' c')).run Tryd.prog w = .ok (.bool a.isNone) w := fun w a n c n' c' => Lib.run_eql_slice_nil w _ _ a n c n' c' Tryd.underlying32
  obtain ⟨i0, hi, hz0, hz1, hz2⟩ := info_parts (show (Tryd.prog.info? 5).map (fun i => (i.zero, i.size, i.bytes)) = some (some (.int .u8 0), 1, 1) by kernel_rfl)
  have h0 : 0 < w.heap.size := Nat.lt_of_le_of_lt (Nat.zero_le _) hp.lt
  cases had : p.ad with
  | none =>
    have hl0 : p.l = [] := by
      by_cases h : p.l = []
      · exact h
      · have := hp.bytes.at' h
        rw [had] at this; cases this
    have HL0 := Lib.hid hl0
    clear hl0 hp had
    go_enter Tryd.func31, Tryd.ntmps31
    go_wp2
    go_ret
    exact ⟨⟨none, 0, 0, 0, []⟩, rfl, HL0.out.symm, ⟨⟨fun h => absurd rfl h, fun j hj => by cases hj⟩, Nat.le_refl _, h0⟩, fun _ => rfl, fun h => absurd rfl h, fun h => absurd rfl h, Below.refl _ _⟩
  | some ad =>
    have HP := Lib.hid hp
    have HAD := Lib.hid had
    clear hp had
    have hsrc : ∀ (A : Obj) (j : Nat) (u : Value), (p.l.map B)[j]? = some u → (w.alloc A).cell? (ad.add j) = some u := by
      intro A j u hu
      obtain ⟨hj, e⟩ := List.getElem?_eq_some_iff.1 hu
      have hj' : j < p.l.length := by simpa using hj
      have hne : p.l ≠ [] := by intro e; rw [e] at hj'; cases hj'
      have h1 := HP.out.bytes.at' hne
      rw [HAD.out] at h1
      cases h1
      have hc := HP.out.bytes.cell j hj'
      refine Lib.cell?_alloc_some _ ?_
      rw [Addr.add_mid, hc, ← e]; simp
    have HS := Lib.hid hsrc
    clear hsrc
    go_enter Tryd.func31, Tryd.ntmps31
    go_wp2_with (at_builtin; refine wpList_append_own _ rfl _ _ 32 rfl w.heap.size 5 i0 (.int .u8 0) 1 1 Tryd.underlying32 hi hz0 hz1 hz2 rfl (by decide) _ _ _ rfl (World.ownsRow_made w #[] 0 (Nat.le_refl _) (Nat.zero_le _) rfl) ad p.l.length p.cap (p.l.map B) rfl ?qc1 ?qc2 ?qc3 ?qc4 ?qc5 ?qc6 ?_)
    case qc1 => simp
    case qc2 => exact HS.out _
    case qc3 => intro u hu; obtain ⟨x, _, rfl⟩ := List.mem_map.1 hu; rfl
    case qc4 => unfold maxLen; omega
    case qc5 => omega
    case qc6 => simp
    intro v' w1 hown hgrow hnil
    have hown' : w1.ownsRow w.heap.size 5 1 v' p.l.length (p.l.map B) := by simpa using hown
    have hb : Below w.heap.size w w1 := ((Below.refl _ w).alloc (Nat.le_refl _) _).grown hgrow (by simp) (by intro k hk; simp [Value.ownBlock] at hk; omega)
    obtain ⟨q, hqv, hqin, hql, hqn, _, hqg⟩ := part_of_own hown' (by have := hb.size; omega)
    have HQG : Hid (q.l ≠ [] → w.heap.size ≤ q.g) := Lib.hid fun hne => by
      have h1 := hqin.bytes.at' hne
      have h2 : v'.ownBlock = some q.g := by rw [← hqv]; unfold Part.val; rw [h1]; rfl
      exact (hown'.lt _ h2).1
    have HQO : Hid (OwnB1 w1 q) := Lib.hid fun hne => by
      rcases hown'.2 with ⟨_, hn⟩ | ⟨g, cap, cur, hv, _, hg, _⟩
      · rw [hql] at hne
        exact absurd (List.length_eq_zero_iff.1 hn) hne
      · have h1 := hqin.bytes.at' hne
        have h2 : v'.ownBlock = some q.g := by rw [← hqv]; unfold Part.val; rw [h1]; rfl
        rw [hv] at h2
        obtain rfl : g = q.g := Option.some.inj h2
        exact ⟨cur, hg⟩
    unfold Part.val at hqv
    have HB := Lib.hid hb
    have HQ := Lib.hid hqin
    have HQL := Lib.hid hql
    have HQN := Lib.hid hqn
    have HQV := Lib.hid hqv
    clear hown hown' hgrow hnil hb hqin hql hqn hqv
    go_wp2
    go_ret
    exact ⟨q, by rw [HQV.out]; rfl, HQL.out, HQ.out, HQN.out, HQG.out, HQO.out, HB.out⟩
set_option maxRecDepth 100000 in
theorem parts_of_row {w : World} {N : Nat} {ra : Value} {ps : List Part} (h : w.ownsRow N 32 1 ra ps.length (ps.map Part.val)) (hi : ∀ p ∈ ps, p.In w) (h0 : 0 < w.heap.size) : ∃ ap gp cp, ra = .slice ap ps.length cp ∧ PartsIn w ap gp 0 ps := by
  have hh := h
  rcases h.2 with ⟨rfl, hn⟩ | ⟨g, cap, cur, rfl, hb, hg, hc, hm, hsz, ht⟩
  · have : ps = [] := List.length_eq_zero_iff.1 hn
    subst this
    exact ⟨none, 0, 0, rfl, ⟨fun h => absurd rfl h, fun i hi => absurd hi (by simp), h0, hi⟩⟩
  · refine ⟨_, g, cap, rfl, ⟨fun _ => rfl, fun i hi' => ?_, lt_block hg, hi⟩⟩
    have := hh.cells (g := g) rfl i ps[i].val (by simp [hi'])
    rwa [Addr.add_mid] at this
set_option maxRecDepth 100000 in
set_option maxHeartbeats 1000000 in
theorem records_any (w : World) {N d gs : Nat} {v : Value} {s : DSt} {b : Nat} {ra : Value} {ps : List Part} {room gen : Nat} {o : Bool} (h : Both w N d gs v s b ra ps room gen o) :
    Calls Tryd.prog 19 #[.pointer (some ⟨b, 0, none⟩)] w fun e w' => ∃ qs : List Part, e = .returned (.slice (some ⟨w.heap.size, 0, none⟩) ps.length ps.length) ∧ txs qs = txs ps ∧ qs.length = ps.length ∧ PartsIn w' (some ⟨w.heap.size, 0, none⟩) w.heap.size 0 qs ∧ (∀ q ∈ qs, q.ad = none → q.cap = 0) ∧ (∀ q ∈ qs, q.l ≠ [] → w.heap.size < q.g) ∧ (∀ q ∈ qs, OwnB1 w' q) ∧ Below w.heap.size w w' := by
  obtain ⟨ap, gp, cp, rfl, hp⟩ := parts_of_row h.row h.ins (by have := lt_block h.blk; omega)
  have op : Nat := 0
  have hm := h.few
  have c1 := h.cells.2.1
  have HP := Lib.hid hp
  have HL : Hid (∀ p ∈ ps, p.l.length ≤ 5000) := Lib.hid fun p hp => by have := h.lim p hp; omega
  have hst : ∀ W : World, W.heap[w.heap.size]? = some (.cells (nils ps.length).toArray 32 (0, 0)) → Below w.heap.size w W → CloRel w ps 0 [] W := fun W h1 h2 => ⟨by simpa using h1, rfl, rfl, (fun q hq => absurd hq (by simp)), (fun q hq => absurd hq (by simp)), (fun q hq => absurd hq (by simp)), h2⟩
  have HST := Lib.hid hst
  have hblt := lt_block h.blk
  have HBk := Lib.hid h.blk
  clear hst hp h op
  go_enter Tryd.func19, Tryd.ntmps19
  go_wp2_with (refine wpList_make_slices rfl (.tmp 10) rfl ps.length rfl (by omega) ?_)
  generalize hW : World.alloc _ _ = W0 at *
  have R0 : CloRel w ps 0 [] W0 := HST.out W0 (by rw [← hW]; exact heap_alloc_new _ _) (by rw [← hW]; exact (Below.refl _ _).alloc (Nat.le_refl _) _)
  have c12 := cell_in ((Below.heap_alloc w (.cells (nils ps.length).toArray 32) b hblt).trans HBk.out) 1 _ rfl
  rw [hW] at c12
  clear hW HST
  go_wp2_with fail
  go_loopw [4, 5, 17] (fun _ _ i wr => ∃ (k : Nat) (qs : List Part), k ≤ ps.length ∧ i = .int .i64 k ∧ CloRel w ps k qs wr ∧ ∀ q ∈ qs, OwnB1 wr q) (fun _ _ i _ => ps.length - (intOf i).toNat)
  case atStart => exact ⟨0, [], by omega, rfl, R0, fun q hq => absurd hq (by simp)⟩
  case round =>
    clear R0
    obtain ⟨k, qs, hk, rfl, hr, hoq⟩ := hrel
    have HOQ := Lib.hid hoq
    clear hoq
    by_cases hlt : k < ps.length
    · have hd : decide ((k : Int) < (ps.length : Int)) = true := by simp; omega
      obtain rfl := HP.out.at' (by intro e; rw [e] at hlt; cases hlt)
      have hcell : wr.cell? ⟨gp, 0 + k, none⟩ = some (.slice ps[k].ad ps[k].l.length ps[k].cap) := by
        rw [hr.below.cell (by exact HP.out.lt), HP.out.cell k hlt]; rfl
      rw [Nat.zero_add] at hcell
      have HCl := Lib.hid (clone2_any wr ps[k] ((HP.out.parts ps[k] (List.getElem_mem hlt)).below hr.below) (HL.out _ (List.getElem_mem hlt)))
      have HR := Lib.hid hr
      have HSt := Lib.hid (fun (w2 : World) (q : Part) => hr.step (w2 := w2) hlt q)
      clear hr
      generalize ps[k] = p at *
      go_wp2_with fail
      refine HCl.out.mono ?_
      rintro e w2 ⟨q, rfl, hql, hqin, hqn, hqg, hqo, hb2⟩
      have R2 := HSt.out w2 q hql hqin hqn hqg hb2
      have hrow := (hb2.block _ (lt_block HR.out.row)).trans HR.out.row
      obtain ⟨v0, c0⟩ : ∃ v0, w2.cell? ⟨w.heap.size, k, none⟩ = some v0 := by
        have hl0 : k < (qs.map Part.val ++ nils (ps.length - k)).length := by simp [nils, HR.out.len]; omega
        exact ⟨_, by rw [cell_block hrow, List.getElem?_toArray, List.getElem?_eq_getElem hl0]⟩
      have f0 := frozen_of_row w2 w.heap.size k _ _ hrow
      have HR2 := Lib.hid R2
      have HOQ2 : Hid (∀ x ∈ qs ++ [q], OwnB1 (w2.setCell ⟨w.heap.size, k, none⟩ (.slice q.ad q.l.length q.cap)) x) := Lib.hid fun x hx hne => by
        have hk1 : Kept1 w.heap.size w2 (w2.setCell ⟨w.heap.size, k, none⟩ (.slice q.ad q.l.length q.cap)) := (Kept1.refl w.heap.size w2).setCell ⟨w.heap.size, k, none⟩ (Or.inl rfl) _
        have hnew := R2.new x hx hne
        rcases List.mem_append.1 hx with hx | hx
        · obtain ⟨C, hC⟩ := HOQ.out x hx hne
          exact ⟨C, hk1.heap ((hb2.block _ (lt_block hC)).trans hC) (by omega)⟩
        · obtain rfl := List.mem_singleton.1 hx
          obtain ⟨C, hC⟩ := hqo hne
          exact ⟨C, hk1.heap hC (by omega)⟩
      clear hql hqin hqn hqg hqo hb2 hrow R2 HR HSt HCl hcell
      go_wp2_with fail
      go_roundw
      case rel => exact ⟨k + 1, qs ++ [q], by omega, by go_num, HR2.out, HOQ2.out⟩
      case measure => simp [intOf]; omega
    · have hd : decide ((k : Int) < (ps.length : Int)) = false := by simp; omega
      obtain rfl : k = ps.length := by omega
      have HR := Lib.hid hr
      clear hr
      go_wp2_with fail
      go_ret
      refine ⟨qs, rfl, by have := HR.out.texts; rwa [List.take_length] at this, HR.out.len, ⟨fun _ => rfl, fun i hi => ?_, lt_block HR.out.row, HR.out.parts⟩, HR.out.nil, HR.out.new, HOQ.out, HR.out.below⟩
      rw [cell_block HR.out.row, Nat.zero_add, List.getElem?_toArray, List.getElem?_append_left (by simpa using hi)]
      simp [hi]
end Go.Proofs.YtjeopjajcdbncaaDoor
namespace Go.Proofs.YtjeopjajcdbncaaDoor
open Go.RowKit

set_option maxRecDepth 100000 in
theorem numU_zeros (k : Nat) : numU (List.replicate k 0) = 0 := by
  induction k with
  | zero => rfl
  | succ k ih => rw [List.replicate_succ', numU_snoc, ih]; rfl
set_option maxRecDepth 100000 in
theorem rdH_z64 : rdH z64 = ⟨0, 0, 0, 0, 0⟩ := by
  unfold rdH z64
  simp
  exact ⟨numU_zeros 4, numU_zeros 1, numU_zeros 2⟩
set_option maxRecDepth 100000 in
theorem greatG_zeros (m : Nat) : greatG ((List.replicate m z64).map rdS) = 0 := by
  induction m with
  | zero => rfl
  | succ m ih => rw [List.replicate_succ', List.map_append, List.map_singleton, greatG_snoc, ih, rdS, rdH_z64]; rfl
set_option maxRecDepth 100000 in
/-- sectors that say no number from 1 on have no record -/
theorem no_stands {T : List Sec} {n l : Nat} {f : Hd} {c : Nat} (h0 : ∀ x ∈ T, x.1.n = 0) (hn : 1 ≤ n) (h : Stands T n l f c) : False := by
  obtain ⟨r, hr⟩ := h.first
  have h1 := h0 _ (List.mem_of_getElem? hr)
  have h2 := h.beg
  unfold begB at h2
  simp only [Bool.and_eq_true, beq_iff_eq] at h2
  dsimp only at h1
  omega
set_option maxRecDepth 100000 in
theorem zeros_n (m : Nat) : ∀ x ∈ (List.replicate m z64).map rdS, x.1.n = 0 := by
  intro x hx
  obtain ⟨y, hy, rfl⟩ := List.mem_map.1 hx
  rw [(List.mem_replicate.1 hy).2, rdS, rdH_z64]
set_option maxRecDepth 100000 in
theorem reads_zeros {T T' : List Sec} {n l l' : Nat} {rs : List (List UInt8)} (h0 : ∀ x ∈ T, x.1.n = 0) (hn : 1 ≤ n) (h : Reads T n l rs T' l') : rs = [] ∧ T' = T ∧ l' = l := by
  cases h with
  | nil => exact ⟨rfl, rfl, rfl⟩
  | cons h1 _ _ => exact (no_stands h0 hn h1).elim
set_option maxRecDepth 100000 in
theorem wrote_gone (s : DSt) (i : Nat) (x : List UInt8) (hf : s.fuse ≤ 0) : (s.wrote i x).gone = s.gone ∧ (s.wrote i x).fuse = s.fuse := by
  unfold DSt.wrote DSt.burnt
  dsimp only
  rw [if_neg (by omega)]
  exact ⟨rfl, rfl⟩
set_option maxRecDepth 100000 in
theorem wrN_gone (s : DSt) (A n g : Nat) (l : List UInt8) (k : Nat) (hf : s.fuse ≤ 0) : (wrN s A n g l k).gone = s.gone ∧ (wrN s A n g l k).fuse = s.fuse := by
  induction k with
  | zero => exact ⟨rfl, rfl⟩
  | succ k ih =>
    obtain ⟨h1, h2⟩ := wrote_gone (wrN s A n g l k) (A + k) (secB n g k l) (by omega)
    exact ⟨h1.trans ih.1, h2.trans ih.2⟩
set_option maxRecDepth 100000 in
/-- on a disk without a fuse all is written -/
theorem AppP.free {s s' : DSt} {rs rs' : List (List UInt8)} {room gen room' : Nat} {o' : Bool} {l : List UInt8} {c : Int} (h : AppP s rs room gen false l c s' rs' room' o') (hf : s.fuse ≤ 0) (hg : s.gone = false) (hl : l.length ≤ 4096) (hr : nParts l.length ≤ room) :
    c = 0 ∧ s' = { wrN s (s.S.length - room) rs.length gen l (nParts l.length) with ws := [] } ∧ rs' = rs ++ [l] ∧ room' = room - nParts l.length ∧ o' = false := by
  cases h with
  | over ho => cases ho
  | long _ h => omega
  | full _ _ h => omega
  | done => exact ⟨rfl, rfl, rfl, rfl, rfl⟩
  | lost _ _ _ k hk hg' => rw [(wrN_gone _ _ _ _ _ _ hf).1, hg] at hg'; cases hg'
set_option maxRecDepth 100000 in
theorem make_bytes (n : Nat) (hn : n ≤ 1000000) (w : World) : (Instr.makeSlice 32 (.int .i64 (n : Int)) (.int .i64 (n : Int))).run Tryd.prog w = .ok (.slice (some ⟨w.heap.size, 0, none⟩) n n) (w.alloc (.cells ((List.replicate n 0).map B).toArray 5)) := by
  obtain ⟨i, hi, hz, hs, hb⟩ := info_parts (show (Tryd.prog.info? 5).map (fun i => (i.zero, i.size, i.bytes)) = some (some (.int .u8 0), 1, 1) by kernel_rfl)
  have hr := run_make (P := Tryd.prog) w 32 5 i (.int .u8 0) Tryd.underlying32 hi hz .i64 .i64 n n (by omega) (Int.le_refl _) (by rw [hb]; omega) (by omega)
  have hm : madeCells (Value.int .u8 0).cells n = ((List.replicate n 0).map B).toArray := by
    apply Array.ext
    · simp [madeCells]
    · intro j h1 h2
      simp [madeCells, Value.cells, B, Nat.mod_one]
  rw [hs, Int.toNat_natCast, Nat.mul_one, hm] at hr
  exact hr
set_option maxRecDepth 100000 in
set_option maxHeartbeats 2000000 in
theorem awake_any (w : World) (ht : Tab w) : Calls Tryd.prog 7 #[] w fun e w' => e = .returned (.bool true) ∧ Below w.heap.size w w' := by
  have HT := Lib.hid ht
  have h0 := ht.size
  have HN := Lib.hid (dnew_any w 9)
  clear ht
  go_enter Tryd.func7, Tryd.ntmps7
  go_wp2_with fail
  refine HN.out.mono ?_
  rintro e w1 ⟨rfl, hd, hb1, hs1⟩
  have hgr : greatG ((DSt.new (secN 9)).S.map rdS) = 0 := greatG_zeros 9
  have HO := Lib.hid (open_any w1 hd rfl (HT.out.below hb1 h0) h0 (by rw [hgr]; omega))
  rw [hgr] at HO
  have HB1 := Lib.hid hb1
  clear hd hb1 HN hgr
  go_wp2_with fail
  refine HO.out.mono ?_
  rintro e w2 ⟨b, ra, ps, T, l, rfl, hbo, hrd, hst, hb2, hbw, hown, hnew⟩
  obtain ⟨e1, e2, e3⟩ := reads_zeros (zeros_n 9) (Nat.le_refl _) hrd
  have hps : ps = [] := by cases ps with
    | nil => rfl
    | cons _ _ => cases e1
  subst hps
  have hT9 : T.length = 9 := by rw [e2]; rfl
  rw [hT9] at hbo
  have HB2 := Lib.hid (HB1.out.trans (hb2.mono HB1.out.size))
  have HBo := Lib.hid hbo
  clear hrd hst hb2 hown hnew e1 e2 e3 HO hT9 hbo HB1
  have hmk : ∀ w, (Instr.makeSlice 32 (.int .i64 53) (.int .i64 53)).run Tryd.prog w = .ok (.slice (some ⟨w.heap.size, 0, none⟩) 53 53) (w.alloc (.cells ((List.replicate 53 0).map B).toArray 5)) := make_bytes 53 (by omega)
  have hbo2 := HBo.out.below ((Below.refl w2.heap.size w2).alloc (Nat.le_refl _) (.cells ((List.replicate 53 0).map B).toArray 5))
  have hpin := partNew (heap_alloc_new w2 (.cells ((List.replicate 53 0).map B).toArray 5))
  have hb3 := HB2.out.alloc HB2.out.size (.cells ((List.replicate 53 0).map B).toArray 5)
  have HAp := Lib.hid (append_any (w2.alloc (.cells ((List.replicate 53 0).map B).toArray 5)) hbo2 (HT.out.below hb3 h0) h0 _ hpin (by simp) (fun _ hj => by
    have h1 := (HBo.out.jlt hj).2
    dsimp only at h1
    omega) (by show 9 ≤ (List.replicate (secN 9) z64).length; rw [List.length_replicate]; decide) (by simp [DSt.new]) (by simp [DSt.new]) (by omega) (by simp))
  unfold Part.val at HAp
  simp only [List.length_replicate] at HAp
  have HB3 := Lib.hid hb3
  have hmk2 := Lib.hid hmk
  clear hbo2 hpin hb3 HB2
  obtain ⟨Z, hZ⟩ : ∃ Z, ((List.replicate 53 (0 : UInt8)).map B).toArray = Z := ⟨_, rfl⟩
  rw [hZ] at HAp HB3
  simp only [hZ] at hmk
  clear hZ hmk2
  go_wp2_with fail
  refine HAp.out.mono ?_
  rintro e w3 ⟨c, v', s', ra', ps', room', o', rfl, hap, hbo3, hk3, hj3, _⟩
  obtain ⟨rfl, rfl, hps, rfl, rfl⟩ := hap.free (by simp [DSt.new]) rfl (by simp) (by simp [nParts])
  have HBo3 := Lib.hid hbo3
  have HB4 := Lib.hid (KeptF.mono HB3.out hk3 (Nat.le_refl _) fun k hk => by have := (HBo.out.jlt hk).1; omega)
  have hr7 : 9 - nParts (List.replicate 53 (0 : UInt8)).length = 7 := by simp [nParts]
  have HR := Lib.hid (room_any' w3 hbo3)
  rw [hr7] at HR
  clear hap hbo3 hk3 hj3 HAp hps hr7 hmk HB3
  go_wp2_with fail
  refine HR.out.mono ?_
  rintro e w4 ⟨rfl, rfl⟩
  go_wp2_with fail
  go_ret
  exact ⟨rfl, HB4.out⟩
end Go.Proofs.YtjeopjajcdbncaaDoor
namespace Go.Proofs.YtjeopjajcdbncaaDoor
open Go.RowKit

/-- bytes that may be written over -/
structure Bytes1 (w : World) (q : Part) : Prop where
  blk : q.l ≠ [] → ∃ C : List Value, w.heap[q.g]? = some (.cells C.toArray 5 (0, 0)) ∧ ∀ j, j < q.l.length → ∃ z : Int, C[q.o + j]? = some (.int .u8 z)
set_option maxRecDepth 100000 in
theorem Bytes1.of {w : World} {q : Part} (h : q.In w) (ho : OwnB1 w q) : Bytes1 w q := ⟨fun hne => by
  obtain ⟨C, hC⟩ := ho hne
  refine ⟨C.toList, by simpa using hC, fun j hj => ⟨(q.l[j].toNat : Int), ?_⟩⟩
  have h1 := h.bytes.cell j hj
  rw [cell_block hC] at h1
  simpa using h1⟩
set_option maxRecDepth 100000 in
theorem Bytes1.set {w : World} {q : Part} (h : Bytes1 w q) (k : Nat) (_ : k < q.l.length) (z : Int) : Bytes1 (w.setCell ⟨q.g, q.o + k, none⟩ (.int .u8 z)) q := ⟨fun hne => by
  obtain ⟨C, hC, hz⟩ := h.blk hne
  refine ⟨C.set (q.o + k) (.int .u8 z), cell_set_kept hC _ _, fun j hj => ?_⟩
  rw [List.getElem?_set]
  obtain ⟨y, hy⟩ := hz j hj
  split
  · rename_i e
    have hlt := (List.getElem?_eq_some_iff.1 hy).1
    rw [if_pos (by omega)]
    exact ⟨_, rfl⟩
  · exact ⟨y, hy⟩⟩
def own1 (q : Part) (k : Nat) : Prop := q.l ≠ [] ∧ k = q.g
set_option maxRecDepth 100000 in
theorem nParts_small (n : Nat) (h : n ≤ 300) : nParts n ≤ 20 := by unfold nParts; omega
set_option maxRecDepth 100000 in
set_option maxHeartbeats 4000000 in
theorem bookOwn_walk (w : World) (ht : Tab w) (p : Part) (hp : p.In w) (hpn : p.ad = none → p.cap = 0) : Calls Tryd.prog 6 #[p.val] w fun e w' => e = .returned (.bool true) ∧ Below w.heap.size w w' := by
  have HT := Lib.hid ht
  have h0 := ht.size
  have HA := Lib.hid (awake_any w ht)
  have HP := Lib.hid hp
  have HPN := Lib.hid hpn
  clear ht hp hpn
  unfold Part.val
  by_cases hlong : 300 < p.l.length
  · have hd : decide ((300 : Int) < (p.l.length : Int)) = true := by simp; omega
    go_enter Tryd.func6, Tryd.ntmps6
    go_wp2_with fail
    refine HA.out.mono ?_
    rintro e w1 ⟨rfl, hb1⟩
    have HA2 := Lib.hid (awake_any w1 (HT.out.below hb1 h0))
    have HB1 := Lib.hid hb1
    clear hb1
    go_wp2_with fail
    refine HA2.out.mono ?_
    rintro e w2 ⟨rfl, hb2⟩
    have HB2 := Lib.hid (HB1.out.trans (hb2.mono HB1.out.size))
    clear hb2
    go_wp2_with fail
    go_ret
    exact ⟨rfl, HB2.out⟩
  · have hd : decide ((300 : Int) < (p.l.length : Int)) = false := by simp; omega
    go_enter Tryd.func6, Tryd.ntmps6
    go_wp2_with fail
    refine HA.out.mono ?_
    rintro e w1 ⟨rfl, hb1⟩
    have HN := Lib.hid (dnew_any w1 20)
    have HB1 := Lib.hid hb1
    clear hb1 HA
    go_wp2_with fail
    refine HN.out.mono ?_
    rintro e w2 ⟨rfl, hd2, hb2, hs2⟩
    have hsz1 := HB1.out.size
    have hb02 := HB1.out.trans (hb2.mono hsz1)
    have hgr : greatG ((DSt.new (secN 20)).S.map rdS) = 0 := greatG_zeros 20
    have HO := Lib.hid (open_any w2 hd2 rfl (HT.out.below hb02 h0) (by omega) (by rw [hgr]; omega))
    rw [hgr] at HO
    have HB2 := Lib.hid hb02
    clear hd2 hb2 HN hgr hb02
    go_wp2_with fail
    refine HO.out.mono ?_
    rintro e w3 ⟨b, ra, ps, T, l, rfl, hbo, hrd, hst, hb3, hbw, hown, hnew⟩
    obtain ⟨e1, e2, e3⟩ := reads_zeros (zeros_n 20) (Nat.le_refl _) hrd
    have hps : ps = [] := by cases ps with
      | nil => rfl
      | cons _ _ => cases e1
    subst hps
    have hT : T.length = 20 := by rw [e2]; rfl
    rw [hT] at hbo
    have hb03 := HB2.out.trans (hb3.mono HB2.out.size)
    have HB3 := Lib.hid hb03
    have HBo := Lib.hid hbo
    have hN3 : w1.heap.size ≤ w3.heap.size := by have := hb3.size; omega
    clear hrd hst hb3 hown hnew e1 e2 e3 HO hT hbo hb03 HB2 hbw
    have hG : (w3.alloc (.cells #[] 5)).ownsRow w3.heap.size 5 1 (.slice (some ⟨w3.heap.size, 0, none⟩) 0 0) 0 (([] : List UInt8).map B) := World.ownsRow_made w3 #[] 0 (Nat.le_refl _) (Nat.zero_le _) rfl
    have HG := Lib.hid hG
    have hP3 : p.In (w3.alloc (.cells #[] 5)) := HP.out.below (HB3.out.trans ((Below.refl w3.heap.size w3).alloc (Nat.le_refl _) _ |>.mono HB3.out.size))
    have HP3 := Lib.hid hP3
    clear hG hP3
    go_wp2_with (at_builtin; refine wpList_append_part rfl (.tmp 24) (.tmp 25) rfl w3.heap.size (.slice (some ⟨w3.heap.size, 0, none⟩) 0 0) 0 [] rfl HG.out p HP3.out HPN.out rfl (by omega) (by simp) ?_)
    intro v4 w4 hown4 hb4
    have hb34 : Below w3.heap.size w3 w4 := ((Below.refl w3.heap.size w3).alloc (Nat.le_refl _) _).trans hb4
    obtain ⟨x, hxv, hxi, hxl, hxn, hxo, hxg⟩ := part_of_own hown4 (by have := hb34.size; omega)
    have hxO : OwnB1 w4 x := fun hne => by
      rcases hown4.2 with ⟨_, hn⟩ | ⟨g, cap, cur, hv, _, hg, _⟩
      · rw [hxl] at hne
        exact absurd (List.length_eq_zero_iff.1 hn) hne
      · rw [hxg g (by rw [hv]; rfl)]
        exact ⟨cur, hg⟩
    have hxN : x.l ≠ [] → w3.heap.size ≤ x.g := fun hne => by
      rcases hown4.2 with ⟨_, hn⟩ | ⟨g, cap, cur, hv, hb, hg, _⟩
      · rw [hxl] at hne
        exact absurd (List.length_eq_zero_iff.1 hn) hne
      · rw [hxg g (by rw [hv]; rfl)]; exact hb
    have hbo4 := HBo.out.below hb34
    have hb04 := HB3.out.trans (hb34.mono HB3.out.size)
    have hAp := append_any w4 hbo4 (HT.out.below hb04 h0) (by omega) x hxi (by rw [hxl]; omega) (fun hne hj => by have h1 := (HBo.out.jlt hj).2; have h2 := hxN hne; omega) (by show 20 ≤ (List.replicate (secN 20) z64).length; rw [List.length_replicate]; decide) (by simp [DSt.new]) (by simp [DSt.new]) (by omega) (by simp)
    have hAp2 := hAp
    subst hxv
    have HAp := Lib.hid hAp
    have HX := Lib.hid hxi
    have HXL := Lib.hid hxl
    have HXO := Lib.hid (Bytes1.of hxi hxO)
    have HXN := Lib.hid hxN
    have HB4 := Lib.hid hb04
    have hs34 := hb34.size
    have hxlt : x.g < w4.heap.size := hxi.lt
    clear hown4 hb4 hb34 hxi hxn hxo hxg hxO hxN hbo4 hb04 hAp hAp2 HG HP3
    unfold Part.val at HAp ⊢
    obtain ⟨n, hn⟩ : ∃ n, p.l.length = n := ⟨_, rfl⟩
    have hxn : x.l.length = n := by rw [hxl, hn]
    rw [hn] at hd hlong ⊢
    rw [hxn] at HAp ⊢
    have HNn := Lib.hid hn
    have HXn := Lib.hid hxn
    clear hn hxn hxl
    go_wp2_with fail
    refine HAp.out.mono ?_
    rintro e w5 ⟨c, v5, s5, ra5, ps5, room5, o5, rfl, hap, hbo5, hk5, hj5, hp5⟩
    have hxl4096 : x.l.length ≤ 300 := by have := HXn.out; omega
    obtain ⟨rfl, rfl, hps5, rfl, rfl⟩ := hap.free (by simp [DSt.new]) rfl (by omega) (nParts_small _ hxl4096)
    obtain ⟨y, rfl, hyl⟩ : ∃ y : Part, ps5 = [y] ∧ y.l = p.l := by
      rw [HXL.out] at hps5
      cases ps5 with
      | nil => cases hps5
      | cons y t =>
        cases t with
        | nil => exact ⟨y, rfl, by simpa [txs] using hps5⟩
        | cons _ _ => simp [txs] at hps5
    have hxJ5 : x.l ≠ [] → ¬ J b ra5 (w1.heap.size + 1) w1.heap.size v5 x.g := fun hne hj => by
      rcases hj5 _ hj with h | h
      · have h1 := (HBo.out.jlt h).2
        have h2 := HXN.out hne
        omega
      · omega
    have hyx : y.l ≠ [] → w4.heap.size ≤ y.g := fun hne => by
      rcases hp5 y (by simp) hne with h | h
      · cases h
      · exact h
    have hJN : ∀ k, J b ra (w1.heap.size + 1) w1.heap.size (.slice none 0 0) k → w.heap.size ≤ k := fun k hk => by have := (HBo.out.jlt hk).1; omega
    have HB5 := Lib.hid (KeptF.mono HB4.out hk5 (Nat.le_refl _) hJN)
    have hxB5 : Bytes1 w5 x := ⟨fun hne => by
      obtain ⟨C, hC, hz⟩ := HXO.out.blk hne
      refine ⟨C, hk5.heap hC fun hj => ?_, hz⟩
      have h1 := (HBo.out.jlt hj).2
      have h2 := HXN.out hne
      omega⟩
    have hs45 := hk5.size
    have HHd := Lib.hid (head_any' w5 hbo5)
    have HBo5 := Lib.hid hbo5
    have HX5 := Lib.hid hxB5
    have HXJ := Lib.hid hxJ5
    have HYX := Lib.hid hyx
    have HYL := Lib.hid hyl
    clear hap hbo5 hk5 hj5 hp5 hps5 hyl hxJ5 hyx hJN hxB5 HAp
    go_wp2_with fail
    refine HHd.out.mono ?_
    rintro e w6 ⟨rfl, hb56⟩
    clear HHd
    have hHs : (HC (folded z32 [y]) (([y] : List Part).length : Int)).length = 33 := length_HC _ (lenF _) _
    have hHo := one_HC (folded z32 [y]) (([y] : List Part).length : Int)
    have hzh : ∀ w, (zeroValue 42).run Tryd.prog w = .ok (.agg (HC z32 0).toArray) w := fun _ => by kernel_rfl
    have hZ33 : (HC z32 0).length = 33 := rfl
    have HV1 : Hid (HV (folded z32 [y]) (([y] : List Part).length : Int) = .agg (HC (folded z32 [y]) (([y] : List Part).length : Int)).toArray) := Lib.hid rfl
    rw [HV1.out]
    obtain ⟨D, hD⟩ : ∃ D, HC (folded z32 [y]) (([y] : List Part).length : Int) = D := ⟨_, rfl⟩
    rw [hD] at hHs hHo ⊢
    have HDD := Lib.hid hD
    clear hD
    obtain ⟨Z, hZ⟩ : ∃ Z, HC z32 0 = Z := ⟨_, rfl⟩
    rw [hZ] at hZ33
    simp only [hZ] at hzh
    clear hZ
    have hth := there_block (heap_alloc_new w6 (.cells Z.toArray 42)) 0 33 (by omega)
    have hend := heap_setCells _ _ D 0 _ _ (heap_alloc_new w6 (.cells Z.toArray 42)) (by omega)
    rw [over_all _ _ (by omega)] at hend
    have hkl := (Kept1.setCells (b := w6.heap.size) w6.heap.size (Or.inl rfl) D 0 (Kept1.of_below ((Below.refl w6.heap.size w6).alloc (Nat.le_refl _) (.cells Z.toArray 42)))).below (Nat.le_refl _)
    have hth2 := Lib.hid hth
    clear hth
    go_wp2_with (refine wpList_store_mid rfl 42 (.tmp 6) (.tmp 36) rfl w6.heap.size 0 D.toArray rfl rfl (by simpa [hHs] using hth2.out) (infoHead _ (by simpa using hHs)) (all_oneCell_toArray hHo) ?_)
    obtain ⟨w7, hw7⟩ : ∃ w7, (w6.alloc (.cells Z.toArray 42)).setCells w6.heap.size 0 D = w7 := ⟨_, rfl⟩
    rw [hw7] at hend hkl
    have HW7 := Lib.hid hw7
    have hb57 := hb56.trans (hkl.mono hb56.size)
    have hh7lt := lt_block hend
    have hbo7 := HBo5.out.below hb57
    have HBo7 := Lib.hid hbo7
    have HHd7 := Lib.hid hend
    have HX7 : Hid (Bytes1 w7 x) := Lib.hid ⟨fun hne => by
      obtain ⟨C, hC, hz⟩ := HX5.out.blk hne
      exact ⟨C, (hb57.block _ (lt_block hC)).trans hC, hz⟩⟩
    have HB7 := Lib.hid (HB5.out.trans (hb57.mono HB5.out.size))
    have hs57 := hb57.size
    have hs56 := hb56.size
    have HRc := Lib.hid (records_any w7 hbo7)
    have HBo7lt : Hid (∀ k, J b ra5 (w1.heap.size + 1) w1.heap.size v5 k → k < w7.heap.size) := Lib.hid fun k hk => (hbo7.jlt hk).2
    have HY7 : Hid (y.g < w7.heap.size) := Lib.hid (hbo7.ins y (by simp)).lt
    clear hend hkl hb57 hb56 hbo7 hth2 HBo5 HX5 HB5 hzh hw7
    rw [HW7.out]
    refine HRc.out.mono ?_
    rintro e w8 ⟨qs, rfl, hqt, hqlen, hqin, hqn, hqg, hqo, hb8⟩
    obtain ⟨q, rfl⟩ : ∃ q, qs = [q] := by
      cases qs with
      | nil => cases hqlen
      | cons q t =>
        cases t with
        | nil => exact ⟨q, rfl⟩
        | cons _ _ => simp at hqlen
    have hql : q.l = p.l := by
      have := HYL.out
      simp only [txs, List.map_cons, List.map_nil, List.cons.injEq, and_true] at hqt
      rw [hqt, this]
    have HQin := Lib.hid (hqin.parts q (by simp))
    have HQB := Lib.hid (Bytes1.of (hqin.parts q (by simp)) (hqo q (by simp)))
    have HQL := Lib.hid hql
    have hqlt : q.g < w8.heap.size := (hqin.parts q (by simp)).lt
    have HQG := Lib.hid (hqg q (by simp))
    have HC8 : Hid (w8.cell? ⟨w7.heap.size, 0, none⟩ = some (.slice q.ad q.l.length q.cap)) := Lib.hid (by have := hqin.cell 0 (by simp); simpa [Part.val] using this)
    have h7lt8 : w7.heap.size < w8.heap.size := hqin.lt
    have hqn' : q.l.length = n := by rw [hql, HNn.out]
    rw [hqn'] at HC8
    have HBo8 := Lib.hid (HBo7.out.below hb8)
    have HX8 : Hid (Bytes1 w8 x) := Lib.hid ⟨fun hne => by
      obtain ⟨C, hC, hz⟩ := HX7.out.blk hne
      exact ⟨C, (hb8.block _ (lt_block hC)).trans hC, hz⟩⟩
    have HHd8 := Lib.hid ((hb8.block _ (lt_block HHd7.out)).trans HHd7.out)
    have HB8 := Lib.hid (HB7.out.trans (hb8.mono HB7.out.size))
    have HP8 := Lib.hid (HP.out.below HB8.out)
    have hx8 : x.g < w8.heap.size := by omega
    have hw08 : w.heap.size ≤ w3.heap.size := HB3.out.size
    have hqn := Lib.hid hqn'
    clear hqt hqlen hqin hqg hqo hb8 hql hqn' HRc HBo7 HX7 HHd7 HB7 hHo hHs hZ33 HV1 HW7
    simp only [List.length_singleton]
    obtain ⟨xa, hxa⟩ : ∃ a, x.ad = a := ⟨_, rfl⟩
    rw [hxa]
    have HXA := Lib.hid hxa
    obtain ⟨qa, hqa⟩ : ∃ a, q.ad = a := ⟨_, rfl⟩
    rw [hqa] at HC8
    have HQA := Lib.hid hqa
    clear hxa hqa
    go_wp2_with fail
    go_loopw [8] (fun i wr => ∃ k : Nat, k ≤ n ∧ i = .int .i64 k ∧ KeptF (own1 x) w8 wr ∧ Bytes1 wr x) (fun i _ => n - (intOf i).toNat)
    case atStart => exact ⟨0, by omega, rfl, .refl _ _, HX8.out⟩
    case round =>
      obtain ⟨k, hk, rfl, hkp, hby⟩ := hrel
      by_cases hlt : k < n
      · have hdk : decide ((k : Int) < (n : Int)) = true := by simp; omega
        have hne : x.l ≠ [] := by intro e; have := HXn.out; rw [e] at this; simp at this; omega
        obtain rfl : xa = some ⟨x.g, x.o, none⟩ := by rw [← HXA.out]; exact HX.out.bytes.at' hne
        obtain ⟨C, hC, hz⟩ := hby.blk hne
        obtain ⟨z, hzk⟩ := hz k (by rw [HXn.out]; exact hlt)
        have c0 := cell_in hC _ _ hzk
        have f0 := frozen_of_row wr x.g (x.o + k) _ _ hC
        have HSet := Lib.hid (fun z => hby.set k (by rw [HXn.out]; exact hlt) z)
        have HK2 : Hid (∀ z, KeptF (own1 x) w8 (wr.setCell ⟨x.g, x.o + k, none⟩ (.int .u8 z))) := Lib.hid fun z => hkp.trans (KeptF.of_kept1 (F := own1 x) ((Kept1.refl x.g wr).setCell ⟨x.g, x.o + k, none⟩ (Or.inl rfl) _) fun _ => ⟨hne, rfl⟩) fun _ _ h => h
        clear hkp hby hC hz hzk hne
        go_wp2_with fail
        go_roundw
        case rel => exact ⟨k + 1, by omega, by go_num, HK2.out _, HSet.out _⟩
        case measure => simp [intOf]; omega
      · have hdk : decide ((k : Int) < (n : Int)) = false := by simp; omega
        obtain rfl : k = n := by omega
        have HKp := Lib.hid hkp
        have hwr8 := hkp.size
        have HC9 : Hid (wr.cell? ⟨w7.heap.size, 0, none⟩ = some (.slice qa k q.cap)) := Lib.hid (by
          rw [World.cell?_of_block (w := w8) (hkp.block w7.heap.size h7lt8 fun h => by have := h.2; omega)]
          exact HC8.out)
        have HQB9 : Hid (Bytes1 wr q) := Lib.hid ⟨fun hne => by
          obtain ⟨C, hC, hz⟩ := HQB.out.blk hne
          exact ⟨C, hkp.heap hC fun h => by have := h.2; have := HQG.out hne; omega, hz⟩⟩
        have hc9 := HC9.out
        clear hkp hby
        go_wp2_with fail
        obtain ⟨w9, rfl⟩ : ∃ w9, w9 = wr := ⟨wr, rfl⟩
        go_loopw [9] (fun i wr => ∃ j : Nat, j ≤ k ∧ i = .int .i64 j ∧ KeptF (own1 q) w9 wr ∧ Bytes1 wr q) (fun i _ => k - (intOf i).toNat)
        case atStart => exact ⟨0, by omega, rfl, .refl _ _, HQB9.out⟩
        case round =>
          clear hc9
          obtain ⟨j, hj, rfl, hkp, hby⟩ := hrel
          by_cases hjlt : j < k
          · have hdj : decide ((j : Int) < (k : Int)) = true := by simp; omega
            have hne : q.l ≠ [] := by intro e; have := hqn.out; rw [e] at this; simp at this; omega
            obtain rfl : qa = some ⟨q.g, q.o, none⟩ := by rw [← HQA.out]; exact HQin.out.bytes.at' hne
            obtain ⟨C, hC, hz⟩ := hby.blk hne
            obtain ⟨z, hzk⟩ := hz j (by rw [hqn.out]; exact hjlt)
            have c0 := cell_in hC _ _ hzk
            have f0 := frozen_of_row wr q.g (q.o + j) _ _ hC
            have hqgt := HQG.out hne
            have c7 : wr.cell? ⟨w7.heap.size, 0, none⟩ = some (.slice (some ⟨q.g, q.o, none⟩) k q.cap) := by
              rw [World.cell?_of_block (w := w9) (hkp.block w7.heap.size (by omega) fun h => by have := h.2; omega)]
              exact HC9.out
            have HSet := Lib.hid (fun z => hby.set j (by rw [hqn.out]; exact hjlt) z)
            have HK2 : Hid (∀ z, KeptF (own1 q) w9 (wr.setCell ⟨q.g, q.o + j, none⟩ (.int .u8 z))) := Lib.hid fun z => hkp.trans (KeptF.of_kept1 (F := own1 q) ((Kept1.refl q.g wr).setCell ⟨q.g, q.o + j, none⟩ (Or.inl rfl) _) fun _ => ⟨hne, rfl⟩) fun _ _ h => h
            clear hkp hby hC hz hzk hne
            go_wp2_with fail
            go_roundw
            case rel => exact ⟨j + 1, by omega, by go_num, HK2.out _, HSet.out _⟩
            case measure => simp [intOf]; omega
          · have hdj : decide ((j : Int) < (k : Int)) = false := by simp; omega
            obtain rfl : j = k := by omega
            have hkF : KeptF (fun g => own1 x g ∨ own1 q g) w8 wr := (HKp.out.wider (G := fun g => own1 x g ∨ own1 q g) fun _ h => .inl h).trans (hkp.wider (G := fun g => own1 x g ∨ own1 q g) fun _ h => .inr h) fun _ _ h => h
            have hqg8 : q.l ≠ [] → w7.heap.size < q.g := HQG.out
            have hxl : x.l ≠ [] → w3.heap.size ≤ x.g := HXN.out
            have hboE : Both wr _ _ _ _ _ _ _ _ _ _ _ := HBo8.out.kept hkF (fun g hJ hF => by
              rcases hF with ⟨hne, rfl⟩ | ⟨hne, rfl⟩
              · exact HXJ.out hne hJ
              · have h1 := hqg8 hne
                have h2 : J b ra5 (w1.heap.size + 1) w1.heap.size v5 q.g := hJ
                have := (HBo7lt.out _ h2); omega) (fun z hz hne hF => by
              obtain rfl := List.mem_singleton.1 hz
              have h0 := HYX.out hne
              rcases hF with ⟨_, he⟩ | ⟨hne2, he⟩
              · omega
              · have h1 := hqg8 hne2
                have := HY7.out; omega)
            have hpE : p.In wr := HP8.out.keptF hkF fun hne hF => by
              have := HP.out.lt
              rcases hF with ⟨hne2, he⟩ | ⟨hne2, he⟩
              · have := hxl hne2; omega
              · have := hqg8 hne2; omega
            have hhE := hkF.heap HHd8.out (fun hF => by
              rcases hF with ⟨hne2, he⟩ | ⟨hne2, he⟩
              · omega
              · have := hqg8 hne2; omega)
            have hBE : Below w.heap.size w wr := KeptF.mono HB8.out hkF (by omega) (fun g hF => by
              rcases hF with ⟨hne2, rfl⟩ | ⟨hne2, rfl⟩
              · have := hxl hne2; omega
              · have := hqg8 hne2; omega)
            have HRc2 := Lib.hid (records_any wr hboE)
            have HBoE := Lib.hid hboE
            have HPE := Lib.hid hpE
            have HHE := Lib.hid hhE
            have HBE := Lib.hid hBE
            clear hkp hby hkF hboE hpE hhE hBE HBo8 HP8 HHd8 HB8
            go_wp2_with fail
            refine HRc2.out.mono ?_
            rintro e w11 ⟨qs, rfl, hqt, hqlen, hqin, _, _, _, hb11⟩
            obtain ⟨r, rfl⟩ : ∃ r, qs = [r] := by
              cases qs with
              | nil => cases hqlen
              | cons r t =>
                cases t with
                | nil => exact ⟨r, rfl⟩
                | cons _ _ => simp at hqlen
            have hrl : r.l = p.l := by
              have := HYL.out
              simp only [txs, List.map_cons, List.map_nil, List.cons.injEq, and_true] at hqt
              rw [hqt, this]
            have hrin := hqin.parts r (by simp)
            have hrn : r.l.length = j := by rw [hrl, HNn.out]
            have hc11 : w11.cell? ⟨wr.heap.size, 0, none⟩ = some (.slice r.ad j r.cap) := by have := hqin.cell 0 (by simp); simpa [Part.val, hrn] using this
            have HW : Hid (∀ W, Below w11.heap.size w11 W → W.cell? ⟨wr.heap.size, 0, none⟩ = some (.slice r.ad j r.cap) ∧ W.rangeAt w6.heap.size 0 D ∧ (convert 32 9 (.slice r.ad j r.cap)).run Tryd.prog W = .ok (.string (tx p.l)) W ∧ (convert 32 9 (.slice p.ad j p.cap)).run Tryd.prog W = .ok (.string (tx p.l)) W) := Lib.hid fun W hW => by
              have hlt11 := hqin.lt
              refine ⟨(hW.cell (by exact hlt11)).trans hc11, range_block ((hW.block _ (by have := lt_block HHE.out; have := hb11.size; omega)).trans ((hb11.block _ (lt_block HHE.out)).trans HHE.out)), ?_, ?_⟩
              · have := conv_part (hrin.below hW)
                rwa [hrn, hrl] at this
              · have := conv_part ((HPE.out.below hb11).below hW)
                rwa [HNn.out] at this
            have HHd : Hid (∀ W, Below w11.heap.size w11 W → Calls Tryd.prog 15 #[.pointer (some ⟨b, 0, none⟩)] W fun e w' => e = .returned (.agg D.toArray) ∧ Below W.heap.size W w') := Lib.hid fun W hW => by
              have := head_any' W ((HBoE.out.below hb11).below hW)
              unfold HV at this
              rwa [HDD.out] at this
            have HEq : Hid (∀ W, (binOp .eql 42 (.agg D.toArray) (.agg D.toArray)).run Tryd.prog W = .ok (.bool true) W) := Lib.hid fun W => by
              have := eqlHead (folded z32 [y]) (folded z32 [y]) (lenF _) (lenF _) (([y] : List Part).length : Int) (([y] : List Part).length : Int) W
              unfold HV at this
              rw [HDD.out] at this
              simpa using this
            have HBl := Lib.hid (HBE.out.trans (hb11.mono HBE.out.size))
            have hD33 : D.length = 33 := by rw [← HDD.out]; exact length_HC _ (lenF _) _
            clear hqt hqlen hqin hrl hrin hrn hc11 hb11
            go_wp2_with fail
            have hcm : ∀ m : Bl w11, m.wr.cell? ⟨wr.heap.size, 0, none⟩ = some (.slice r.ad j r.cap) := fun m => (HW.out _ m.below).1
            have hv1 : ∀ m : Bl w11, (convert 32 9 (.slice r.ad j r.cap)).run Tryd.prog m.wr = .ok (.string (tx p.l)) m.wr := fun m => (HW.out _ m.below).2.2.1
            have hv2 : ∀ m : Bl w11, (convert 32 9 (.slice p.ad j p.cap)).run Tryd.prog m.wr = .ok (.string (tx p.l)) m.wr := fun m => (HW.out _ m.below).2.2.2
            refine wp_region_quiet_tailB 18 (by kernel_rfl) (by kernel_rfl) ?_
            simp only [List.take_succ_cons, List.take_zero, List.drop_succ_cons, List.drop_zero]
            iterate 2 (go_big_quiet_step ((go_at_call 15; with_reducible exact Calls.quiet_b (HHd.out _ (Bl.below _)))))
            refine wpQuiet_load_mid rfl 42 (.tmp 6) rfl w6.heap.size 0 rfl D _ (fun w' ⟨m, hw'⟩ => hw' ▸ (HW.out _ m.below).2.1) Tryd.underlying42 rfl (infoHead _ hD33) ?_
            simp only [Act.put, List.setIfInBounds_toArray, List.set_cons_succ, List.set_cons_zero]
            have HGu : Hid (∀ W x y, (eqGuard .eql 42 x y (.agg D.toArray) (.agg D.toArray)).run Tryd.prog W = .ok () W) := Lib.hid fun W x y => run_eqGuard_agg (P := Tryd.prog) W .eql 42 x y D.toArray D.toArray (by kernel_rfl)
            obtain ⟨V, hV⟩ : ∃ V, Value.agg D.toArray = V := ⟨_, rfl⟩
            rw [hV] at HEq HGu ⊢
            clear hV
            refine wpQuiet_of_op rfl (.bool true) (fun w' ⟨m, hw'⟩ => by
              subst hw'
              have h1 := HEq.out m.wr
              have h2 := HGu.out m.wr
              clear hcm hv1 hv2 HEq HGu
              go_simp) ?_
            simp only [Act.put, List.setIfInBounds_toArray, List.set_cons_succ, List.set_cons_zero]
            iterate 14 (go_big_quiet_step (fail))
            refine wpQuiet_nil ?_
            intro m
            have HBm := Lib.hid (HBl.out.trans (m.below.mono HBl.out.size))
            clear hcm hv1 hv2
            generalize m.wr = w12 at *
            clear m
            go_wp2_with fail
            go_ret
            exact ⟨rfl, HBm.out⟩
end Go.Proofs.YtjeopjajcdbncaaDoor
