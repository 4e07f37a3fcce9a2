/- All records, in memory of their own; That the program answers at all; The reference's cutting of bytes: how many parts. -/
import Derived.Test.YtlhfdlfbnnfjjaaDoorJ31
namespace Go.Proofs.YtlhfdlfbnnfjjaaDoor
open Go.RowKit

/-- the part's bytes lie in a block that may be written -/
def OwnB1 (w : World) (q : Part) : Prop := q.l ≠ [] → ∃ C : Array Value, w.heap[q.g]? = some (.cells C 5 (0, 0))
set_option maxRecDepth 100000 in
set_option maxHeartbeats 1000000 in
theorem clone2_any (w : World) (p : Part) (hp : p.In w) (hl : p.l.length ≤ 5000) :
    Calls Tryd.prog 26 #[.slice p.ad p.l.length p.cap] w fun e w' => ∃ q : Part, e = .returned (.slice q.ad q.l.length q.cap) ∧ q.l = p.l ∧ q.In w' ∧ (q.ad = none → q.cap = 0) ∧ (q.l ≠ [] → w.heap.size ≤ q.g) ∧ OwnB1 w' q ∧ Below w.heap.size w w' := by
  have q22 : ∀ (w : World) (a : Option Addr) (n c n' c' : Nat), (binOp .eql 32 (.slice a n c) (.slice none n' c')).run Tryd.prog w = .ok (.bool a.isNone) w := fun w a n c n' c' => Lib.run_eql_slice_nil w _ _ a n c n' c' Tryd.underlying32
  obtain ⟨i0, hi, hz0, hz1, hz2⟩ := info_parts (show (Tryd.prog.info? 5).map (fun i => (i.zero, i.size, i.bytes)) = some (some (.int .u8 0), 1, 1) by kernel_rfl)
  have h0 : 0 < w.heap.size := Nat.lt_of_le_of_lt (Nat.zero_le _) hp.lt
  cases had : p.ad with
  | none =>
    have hl0 : p.l = [] := by
      by_cases h : p.l = []
      · exact h
      · have := hp.bytes.at' h
        rw [had] at this; cases this
    have HL0 := Lib.hid hl0
    clear hl0 hp had
    go_enter Tryd.func26, Tryd.ntmps26
    go_wp2
    go_ret
    exact ⟨⟨none, 0, 0, 0, []⟩, rfl, HL0.out.symm, ⟨⟨fun h => absurd rfl h, fun j hj => by cases hj⟩, Nat.le_refl _, h0⟩, fun _ => rfl, fun h => absurd rfl h, fun h => absurd rfl h, Below.refl _ _⟩
  | some ad =>
    have HP := Lib.hid hp
    have HAD := Lib.hid had
    clear hp had
    have hsrc : ∀ (A : Obj) (j : Nat) (u : Value), (p.l.map B)[j]? = some u → (w.alloc A).cell? (ad.add j) = some u := by
      intro A j u hu
      obtain ⟨hj, e⟩ := List.getElem?_eq_some_iff.1 hu
      have hj' : j < p.l.length := by simpa using hj
      have hne : p.l ≠ [] := by intro e; rw [e] at hj'; cases hj'
      have h1 := HP.out.bytes.at' hne
      rw [HAD.out] at h1
      cases h1
      have hc := HP.out.bytes.cell j hj'
      refine Lib.cell?_alloc_some _ ?_
      rw [Addr.add_mid, hc, ← e]; simp
    have HS := Lib.hid hsrc
    clear hsrc
    go_enter Tryd.func26, Tryd.ntmps26
    go_wp2_with (at_builtin; refine wpList_append_own _ rfl _ _ 32 rfl w.heap.size 5 i0 (.int .u8 0) 1 1 Tryd.underlying32 hi hz0 hz1 hz2 rfl (by decide) _ _ _ rfl (World.ownsRow_made w #[] 0 (Nat.le_refl _) (Nat.zero_le _) rfl) ad p.l.length p.cap (p.l.map B) rfl ?qc1 ?qc2 ?qc3 ?qc4 ?qc5 ?qc6 ?_)
    case qc1 => simp
    case qc2 => exact HS.out _
    case qc3 => intro u hu; obtain ⟨x, _, rfl⟩ := List.mem_map.1 hu; rfl
    case qc4 => unfold maxLen; omega
    case qc5 => omega
    case qc6 => simp
    intro v' w1 hown hgrow hnil
    have hown' : w1.ownsRow w.heap.size 5 1 v' p.l.length (p.l.map B) := by simpa using hown
    have hb : Below w.heap.size w w1 := ((Below.refl _ w).alloc (Nat.le_refl _) _).grown hgrow (by simp) (by intro k hk; simp [Value.ownBlock] at hk; omega)
    obtain ⟨q, hqv, hqin, hql, hqn, _, hqg⟩ := part_of_own hown' (by have := hb.size; omega)
    have HQG : Hid (q.l ≠ [] → w.heap.size ≤ q.g) := Lib.hid fun hne => by
      have h1 := hqin.bytes.at' hne
      have h2 : v'.ownBlock = some q.g := by rw [← hqv]; unfold Part.val; rw [h1]; rfl
      exact (hown'.lt _ h2).1
    have HQO : Hid (OwnB1 w1 q) := Lib.hid fun hne => by
      rcases hown'.2 with ⟨_, hn⟩ | ⟨g, cap, cur, hv, _, hg, _⟩
      · rw [hql] at hne
        exact absurd (List.length_eq_zero_iff.1 hn) hne
      · have h1 := hqin.bytes.at' hne
        have h2 : v'.ownBlock = some q.g := by rw [← hqv]; unfold Part.val; rw [h1]; rfl
        rw [hv] at h2
        obtain rfl : g = q.g := Option.some.inj h2
        exact ⟨cur, hg⟩
    unfold Part.val at hqv
    have HB := Lib.hid hb
    have HQ := Lib.hid hqin
    have HQL := Lib.hid hql
    have HQN := Lib.hid hqn
    have HQV := Lib.hid hqv
    clear hown hown' hgrow hnil hb hqin hql hqn hqv
    go_wp2
    go_ret
    exact ⟨q, by rw [HQV.out]; rfl, HQL.out, HQ.out, HQN.out, HQG.out, HQO.out, HB.out⟩
set_option maxRecDepth 100000 in
theorem parts_of_row {w : World} {N : Nat} {ra : Value} {ps : List Part} (h : w.ownsRow N 32 1 ra ps.length (ps.map Part.val)) (hi : ∀ p ∈ ps, p.In w) (h0 : 0 < w.heap.size) : ∃ ap gp cp, ra = .slice ap ps.length cp ∧ PartsIn w ap gp 0 ps := by
  have hh := h
  rcases h.2 with ⟨rfl, hn⟩ | ⟨g, cap, cur, rfl, hb, hg, hc, hm, hsz, ht⟩
  · have : ps = [] := List.length_eq_zero_iff.1 hn
    subst this
    exact ⟨none, 0, 0, rfl, ⟨fun h => absurd rfl h, fun i hi => absurd hi (by simp), h0, hi⟩⟩
  · refine ⟨_, g, cap, rfl, ⟨fun _ => rfl, fun i hi' => ?_, lt_block hg, hi⟩⟩
    have := hh.cells (g := g) rfl i ps[i].val (by simp [hi'])
    rwa [Addr.add_mid] at this
set_option maxRecDepth 100000 in
set_option maxHeartbeats 1000000 in
theorem records_any (w : World) {N d gs : Nat} {v : Value} {s : DSt} {b : Nat} {ra : Value} {ps : List Part} {room gen : Nat} {o : Bool} (h : Both w N d gs v s b ra ps room gen o) :
    Calls Tryd.prog 16 #[.pointer (some ⟨b, 0, none⟩)] w fun e w' => ∃ qs : List Part, e = .returned (.slice (some ⟨w.heap.size, 0, none⟩) ps.length ps.length) ∧ txs qs = txs ps ∧ qs.length = ps.length ∧ PartsIn w' (some ⟨w.heap.size, 0, none⟩) w.heap.size 0 qs ∧ (∀ q ∈ qs, q.ad = none → q.cap = 0) ∧ (∀ q ∈ qs, q.l ≠ [] → w.heap.size < q.g) ∧ (∀ q ∈ qs, OwnB1 w' q) ∧ Below w.heap.size w w' := by
  obtain ⟨ap, gp, cp, rfl, hp⟩ := parts_of_row h.row h.ins (by have := lt_block h.blk; omega)
  have op : Nat := 0
  have hm := h.few
  have c1 := h.cells.2.1
  have HP := Lib.hid hp
  have HL : Hid (∀ p ∈ ps, p.l.length ≤ 5000) := Lib.hid fun p hp => by have := h.lim p hp; omega
  have hst : ∀ W : World, W.heap[w.heap.size]? = some (.cells (nils ps.length).toArray 32 (0, 0)) → Below w.heap.size w W → CloRel w ps 0 [] W := fun W h1 h2 => ⟨by simpa using h1, rfl, rfl, (fun q hq => absurd hq (by simp)), (fun q hq => absurd hq (by simp)), (fun q hq => absurd hq (by simp)), h2⟩
  have HST := Lib.hid hst
  have hblt := lt_block h.blk
  have HBk := Lib.hid h.blk
  clear hst hp h op
  go_enter Tryd.func16, Tryd.ntmps16
  go_wp2_with (refine wpList_make_slices rfl (.tmp 10) rfl ps.length rfl (by omega) ?_)
  generalize hW : World.alloc _ _ = W0 at *
  have R0 : CloRel w ps 0 [] W0 := HST.out W0 (by rw [← hW]; exact heap_alloc_new _ _) (by rw [← hW]; exact (Below.refl _ _).alloc (Nat.le_refl _) _)
  have c12 := cell_in ((Below.heap_alloc w (.cells (nils ps.length).toArray 32) b hblt).trans HBk.out) 1 _ rfl
  rw [hW] at c12
  clear hW HST
  go_wp2_with fail
  go_loopw [4, 5, 17] (fun _ _ i wr => ∃ (k : Nat) (qs : List Part), k ≤ ps.length ∧ i = .int .i64 k ∧ CloRel w ps k qs wr ∧ ∀ q ∈ qs, OwnB1 wr q) (fun _ _ i _ => ps.length - (intOf i).toNat)
  case atStart => exact ⟨0, [], by omega, rfl, R0, fun q hq => absurd hq (by simp)⟩
  case round =>
    clear R0
    obtain ⟨k, qs, hk, rfl, hr, hoq⟩ := hrel
    have HOQ := Lib.hid hoq
    clear hoq
    by_cases hlt : k < ps.length
    · have hd : decide ((k : Int) < (ps.length : Int)) = true := by simp; omega
      obtain rfl := HP.out.at' (by intro e; rw [e] at hlt; cases hlt)
      have hcell : wr.cell? ⟨gp, 0 + k, none⟩ = some (.slice ps[k].ad ps[k].l.length ps[k].cap) := by
        rw [hr.below.cell (by exact HP.out.lt), HP.out.cell k hlt]; rfl
      rw [Nat.zero_add] at hcell
      have HCl := Lib.hid (clone2_any wr ps[k] ((HP.out.parts ps[k] (List.getElem_mem hlt)).below hr.below) (HL.out _ (List.getElem_mem hlt)))
      have HR := Lib.hid hr
      have HSt := Lib.hid (fun (w2 : World) (q : Part) => hr.step (w2 := w2) hlt q)
      clear hr
      generalize ps[k] = p at *
      go_wp2_with fail
      refine HCl.out.mono ?_
      rintro e w2 ⟨q, rfl, hql, hqin, hqn, hqg, hqo, hb2⟩
      have R2 := HSt.out w2 q hql hqin hqn hqg hb2
      have hrow := (hb2.block _ (lt_block HR.out.row)).trans HR.out.row
      obtain ⟨v0, c0⟩ : ∃ v0, w2.cell? ⟨w.heap.size, k, none⟩ = some v0 := by
        have hl0 : k < (qs.map Part.val ++ nils (ps.length - k)).length := by simp [nils, HR.out.len]; omega
        exact ⟨_, by rw [cell_block hrow, List.getElem?_toArray, List.getElem?_eq_getElem hl0]⟩
      have f0 := frozen_of_row w2 w.heap.size k _ _ hrow
      have HR2 := Lib.hid R2
      have HOQ2 : Hid (∀ x ∈ qs ++ [q], OwnB1 (w2.setCell ⟨w.heap.size, k, none⟩ (.slice q.ad q.l.length q.cap)) x) := Lib.hid fun x hx hne => by
        have hk1 : Kept1 w.heap.size w2 (w2.setCell ⟨w.heap.size, k, none⟩ (.slice q.ad q.l.length q.cap)) := (Kept1.refl w.heap.size w2).setCell ⟨w.heap.size, k, none⟩ (Or.inl rfl) _
        have hnew := R2.new x hx hne
        rcases List.mem_append.1 hx with hx | hx
        · obtain ⟨C, hC⟩ := HOQ.out x hx hne
          exact ⟨C, hk1.heap ((hb2.block _ (lt_block hC)).trans hC) (by omega)⟩
        · obtain rfl := List.mem_singleton.1 hx
          obtain ⟨C, hC⟩ := hqo hne
          exact ⟨C, hk1.heap hC (by omega)⟩
      clear hql hqin hqn hqg hqo hb2 hrow R2 HR HSt HCl hcell
      go_wp2_with fail
      go_roundw
      case rel => exact ⟨k + 1, qs ++ [q], by omega, by go_num, HR2.out, HOQ2.out⟩
      case measure => simp [intOf]; omega
    · have hd : decide ((k : Int) < (ps.length : Int)) = false := by simp; omega
      obtain rfl : k = ps.length := by omega
      have HR := Lib.hid hr
      clear hr
      go_wp2_with fail
      go_ret
      refine ⟨qs, rfl, by have := HR.out.texts; rwa [List.take_length] at this, HR.out.len, ⟨fun _ => rfl, fun i hi => ?_, lt_block HR.out.row, HR.out.parts⟩, HR.out.nil, HR.out.new, HOQ.out, HR.out.below⟩
      rw [cell_block HR.out.row, Nat.zero_add, List.getElem?_toArray, List.getElem?_append_left (by simpa using hi)]
      simp [hi]
end Go.Proofs.YtlhfdlfbnnfjjaaDoor
namespace Go.Proofs.YtlhfdlfbnnfjjaaDoor
open Go.RowKit

set_option maxRecDepth 100000 in
theorem numU_zeros (k : Nat) : numU (List.replicate k 0) = 0 := by
  induction k with
  | zero => rfl
  | succ k ih => rw [List.replicate_succ', numU_snoc, ih]; rfl
set_option maxRecDepth 100000 in
theorem rdH_z64 : rdH z64 = ⟨0, 0, 0, 0, 0⟩ := by
  unfold rdH z64
  simp
  exact ⟨numU_zeros 4, numU_zeros 1, numU_zeros 2⟩
set_option maxRecDepth 100000 in
theorem greatG_zeros (m : Nat) : greatG ((List.replicate m z64).map rdS) = 0 := by
  induction m with
  | zero => rfl
  | succ m ih => rw [List.replicate_succ', List.map_append, List.map_singleton, greatG_snoc, ih, rdS, rdH_z64]; rfl
set_option maxRecDepth 100000 in
/-- sectors that say no number from 1 on have no record -/
theorem no_stands {T : List Sec} {n l : Nat} {f : Hd} {c : Nat} (h0 : ∀ x ∈ T, x.1.n = 0) (hn : 1 ≤ n) (h : Stands T n l f c) : False := by
  obtain ⟨r, hr⟩ := h.first
  have h1 := h0 _ (List.mem_of_getElem? hr)
  have h2 := h.beg
  unfold begB at h2
  simp only [Bool.and_eq_true, beq_iff_eq] at h2
  dsimp only at h1
  omega
set_option maxRecDepth 100000 in
theorem zeros_n (m : Nat) : ∀ x ∈ (List.replicate m z64).map rdS, x.1.n = 0 := by
  intro x hx
  obtain ⟨y, hy, rfl⟩ := List.mem_map.1 hx
  rw [(List.mem_replicate.1 hy).2, rdS, rdH_z64]
set_option maxRecDepth 100000 in
theorem reads_zeros {T T' : List Sec} {n l l' : Nat} {rs : List (List UInt8)} (h0 : ∀ x ∈ T, x.1.n = 0) (hn : 1 ≤ n) (h : Reads T n l rs T' l') : rs = [] ∧ T' = T ∧ l' = l := by
  cases h with
  | nil => exact ⟨rfl, rfl, rfl⟩
  | cons h1 _ _ => exact (no_stands h0 hn h1).elim
set_option maxRecDepth 100000 in
theorem wrote_gone (s : DSt) (i : Nat) (x : List UInt8) (hf : s.fuse ≤ 0) : (s.wrote i x).gone = s.gone ∧ (s.wrote i x).fuse = s.fuse := by
  unfold DSt.wrote DSt.burnt
  dsimp only
  rw [if_neg (by omega)]
  exact ⟨rfl, rfl⟩
set_option maxRecDepth 100000 in
theorem wrN_gone (s : DSt) (A n g : Nat) (l : List UInt8) (k : Nat) (hf : s.fuse ≤ 0) : (wrN s A n g l k).gone = s.gone ∧ (wrN s A n g l k).fuse = s.fuse := by
  induction k with
  | zero => exact ⟨rfl, rfl⟩
  | succ k ih =>
    obtain ⟨h1, h2⟩ := wrote_gone (wrN s A n g l k) (A + k) (secB n g k l) (by omega)
    exact ⟨h1.trans ih.1, h2.trans ih.2⟩
set_option maxRecDepth 100000 in
/-- on a disk without a fuse all is written -/
theorem AppP.free {s s' : DSt} {rs rs' : List (List UInt8)} {room gen room' : Nat} {o' : Bool} {l : List UInt8} {c : Int} (h : AppP s rs room gen false l c s' rs' room' o') (hf : s.fuse ≤ 0) (hg : s.gone = false) (hl : l.length ≤ 4096) (hr : nParts l.length ≤ room) :
    c = 0 ∧ s' = { wrN s (s.S.length - room) rs.length gen l (nParts l.length) with ws := [] } ∧ rs' = rs ++ [l] ∧ room' = room - nParts l.length ∧ o' = false := by
  cases h with
  | over ho => cases ho
  | long _ h => omega
  | full _ _ h => omega
  | done => exact ⟨rfl, rfl, rfl, rfl, rfl⟩
  | lost _ _ _ k hk hg' => rw [(wrN_gone _ _ _ _ _ _ hf).1, hg] at hg'; cases hg'
set_option maxRecDepth 100000 in
theorem make_bytes (n : Nat) (hn : n ≤ 1000000) (w : World) : (Instr.makeSlice 32 (.int .i64 (n : Int)) (.int .i64 (n : Int))).run Tryd.prog w = .ok (.slice (some ⟨w.heap.size, 0, none⟩) n n) (w.alloc (.cells ((List.replicate n 0).map B).toArray 5)) := by
  obtain ⟨i, hi, hz, hs, hb⟩ := info_parts (show (Tryd.prog.info? 5).map (fun i => (i.zero, i.size, i.bytes)) = some (some (.int .u8 0), 1, 1) by kernel_rfl)
  have hr := run_make (P := Tryd.prog) w 32 5 i (.int .u8 0) Tryd.underlying32 hi hz .i64 .i64 n n (by omega) (Int.le_refl _) (by rw [hb]; omega) (by omega)
  have hm : madeCells (Value.int .u8 0).cells n = ((List.replicate n 0).map B).toArray := by
    apply Array.ext
    · simp [madeCells]
    · intro j h1 h2
      simp [madeCells, Value.cells, B, Nat.mod_one]
  rw [hs, Int.toNat_natCast, Nat.mul_one, hm] at hr
  exact hr
set_option maxRecDepth 100000 in
set_option maxHeartbeats 2000000 in
theorem awake_any (w : World) (ht : Tab w) : Calls Tryd.prog 4 #[] w fun e w' => e = .returned (.bool true) ∧ Below w.heap.size w w' := by
  have HT := Lib.hid ht
  have h0 := ht.size
  have HN := Lib.hid (dnew_any w 9)
  clear ht
  go_enter Tryd.func4, Tryd.ntmps4
  go_wp2_with fail
  refine HN.out.mono ?_
  rintro e w1 ⟨rfl, hd, hb1, hs1⟩
  have hgr : greatG ((DSt.new (secN 9)).S.map rdS) = 0 := greatG_zeros 9
  have HO := Lib.hid (open_any w1 hd rfl (HT.out.below hb1 h0) h0 (by rw [hgr]; omega))
  rw [hgr] at HO
  have HB1 := Lib.hid hb1
  clear hd hb1 HN hgr
  go_wp2_with fail
  refine HO.out.mono ?_
  rintro e w2 ⟨b, ra, ps, T, l, rfl, hbo, hrd, hst, hb2, hbw, hown, hnew⟩
  obtain ⟨e1, e2, e3⟩ := reads_zeros (zeros_n 9) (Nat.le_refl _) hrd
  have hps : ps = [] := by cases ps with
    | nil => rfl
    | cons _ _ => cases e1
  subst hps
  have hT9 : T.length = 9 := by rw [e2]; rfl
  rw [hT9] at hbo
  have HB2 := Lib.hid (HB1.out.trans (hb2.mono HB1.out.size))
  have HBo := Lib.hid hbo
  clear hrd hst hb2 hown hnew e1 e2 e3 HO hT9 hbo HB1
  have hmk : ∀ w, (Instr.makeSlice 32 (.int .i64 53) (.int .i64 53)).run Tryd.prog w = .ok (.slice (some ⟨w.heap.size, 0, none⟩) 53 53) (w.alloc (.cells ((List.replicate 53 0).map B).toArray 5)) := make_bytes 53 (by omega)
  have hbo2 := HBo.out.below ((Below.refl w2.heap.size w2).alloc (Nat.le_refl _) (.cells ((List.replicate 53 0).map B).toArray 5))
  have hpin := partNew (heap_alloc_new w2 (.cells ((List.replicate 53 0).map B).toArray 5))
  have hb3 := HB2.out.alloc HB2.out.size (.cells ((List.replicate 53 0).map B).toArray 5)
  have HAp := Lib.hid (append_any (w2.alloc (.cells ((List.replicate 53 0).map B).toArray 5)) hbo2 (HT.out.below hb3 h0) h0 _ hpin (by simp) (fun _ hj => by
    have h1 := (HBo.out.jlt hj).2
    dsimp only at h1
    omega) (by show 9 ≤ (List.replicate (secN 9) z64).length; rw [List.length_replicate]; decide) (by simp [DSt.new]) (by simp [DSt.new]) (by omega) (by simp))
  unfold Part.val at HAp
  simp only [List.length_replicate] at HAp
  have HB3 := Lib.hid hb3
  have hmk2 := Lib.hid hmk
  clear hbo2 hpin hb3 HB2
  obtain ⟨Z, hZ⟩ : ∃ Z, ((List.replicate 53 (0 : UInt8)).map B).toArray = Z := ⟨_, rfl⟩
  rw [hZ] at HAp HB3
  simp only [hZ] at hmk
  clear hZ hmk2
  go_wp2_with fail
  refine HAp.out.mono ?_
  rintro e w3 ⟨c, v', s', ra', ps', room', o', rfl, hap, hbo3, hk3, hj3, _⟩
  obtain ⟨rfl, rfl, hps, rfl, rfl⟩ := hap.free (by simp [DSt.new]) rfl (by simp) (by simp [nParts])
  have HBo3 := Lib.hid hbo3
  have HB4 := Lib.hid (KeptF.mono HB3.out hk3 (Nat.le_refl _) fun k hk => by have := (HBo.out.jlt hk).1; omega)
  have hr7 : 9 - nParts (List.replicate 53 (0 : UInt8)).length = 7 := by simp [nParts]
  have HR := Lib.hid (room_any' w3 hbo3)
  rw [hr7] at HR
  clear hap hbo3 hk3 hj3 HAp hps hr7 hmk HB3
  go_wp2_with fail
  refine HR.out.mono ?_
  rintro e w4 ⟨rfl, rfl⟩
  go_wp2_with fail
  go_ret
  exact ⟨rfl, HB4.out⟩
end Go.Proofs.YtlhfdlfbnnfjjaaDoor
namespace Go.Proofs.YtlhfdlfbnnfjjaaDoor
open Go.RowKit

set_option maxRecDepth 100000 in
theorem slice_mid (ad : Option Addr) (len cap i m : Nat) (h1 : i ≤ m) (h2 : m ≤ cap) : ∃ ad', ∀ w, (Instr.sliceAt 32 (.slice ad len cap) (some (.int .i64 (i : Int))) (some (.int .i64 (m : Int))) none).run Tryd.prog w = .ok (.slice ad' (m - i) (cap - i)) w := by
  refine ⟨if cap = i then ad else ad.map (·.add (i * 1)), fun w => ?_⟩
  have e3 : ∀ w, (sizeOf 5).run Tryd.prog w = .ok 1 w := fun _ => by kernel_rfl
  have e1 : Tryd.prog.elem 32 = 5 := by kernel_rfl
  rw [run_sliceAt_slice (P := Tryd.prog) w 32 _ _ _ _ (by kernel_rfl), run_slice_lh (P := Tryd.prog) w 32 ad len cap (by kernel_rfl) .i64 .i64 i m (by omega) (by omega) (by omega), e1, e3]
  simp [sliced, Result.andThen]
structure RCutRel (w : World) (k : Nat) (X : List Value) (v : Value) (wr : World) : Prop where
  own : wr.ownsRow w.heap.size 32 1 v k X
  below : Below w.heap.size w wr
set_option maxRecDepth 100000 in
set_option maxHeartbeats 2000000 in
theorem refCut_any (w : World) (ad : Option Addr) (n cap : Nat) (hcap : n ≤ cap) (hn : n ≤ 100000) :
    Calls Tryd.prog 8 #[.slice ad n cap] w fun e w' => ∃ a c, e = .returned (.slice a (nParts n) c) ∧ Below w.heap.size w w' := by
  obtain ⟨i0, hi, hz0, hz1, hz2⟩ := info_parts info_row
  have R0 : RCutRel w 0 [] (.slice none 0 0) w := ⟨World.ownsRow_nil _ _ _ _, Below.refl _ _⟩
  obtain ⟨M, hM⟩ : ∃ M, nParts n = M := ⟨_, rfl⟩
  have hM1 : ∀ k, 1 ≤ k → (52 * k < n ↔ k < M) := fun k hk => by rw [← hM]; unfold nParts; omega
  have hMpos : 0 < M := by rw [← hM]; unfold nParts; omega
  have hMle : M ≤ 2000 := by rw [← hM]; unfold nParts; omega
  rw [hM]
  have HM1 := Lib.hid hM1
  clear hM hM1
  go_enter Tryd.func8, Tryd.ntmps8
  go_wp2_with fail
  go_loopw [3, 4] (fun v i wr => ∃ (k j : Nat) (X : List Value), k ≤ M ∧ j = 52 * k ∧ i = .int .i64 (j : Int) ∧ RCutRel w k X v wr) (fun _ i _ => 52 * M - (intOf i).toNat)
  case atStart => exact ⟨0, 0, [], by omega, rfl, rfl, R0⟩
  case round =>
    clear R0
    obtain ⟨k, j, X, hk, hj, rfl, hr⟩ := hrel
    by_cases hlt : k < M
    · have hjn : j = 0 ∨ j < n := by
        rcases Nat.eq_zero_or_pos k with h | h
        · left; omega
        · right; rw [hj]; exact (HM1.out k h).2 hlt
      obtain ⟨m, hm⟩ : ∃ m, min (j + 52) n = m := ⟨_, rfl⟩
      have hmj : j ≤ m ∧ m ≤ cap := by omega
      obtain ⟨ad', hsl⟩ := slice_mid ad n cap j m hmj.1 hmj.2
      have HR := Lib.hid hr
      have hbase := hr.below.size
      clear hr
      obtain ⟨z, hz⟩ : ∃ z, ((j : Int) == 0) = z := ⟨_, rfl⟩
      have hd2 : z = false → decide ((j : Int) < (n : Int)) = true := fun e => by
        subst e
        have : (j : Int) ≠ 0 := by simpa using hz
        simp; omega
      have hlt52 : j ≤ 200000 := by omega
      have hmin : (m = n ∧ n < j + 52) ∨ (m = j + 52 ∧ j + 52 ≤ n) := by omega
      clear hm hmj
      have HO1 := Lib.hid (fun V : Value => own_same (w' := wr.alloc (.cells #[V] 32)) HR.out.own fun g hg => (Below.heap_alloc _ _ _ (HR.out.own.lt g hg).2))
      have HJ := Lib.hid hj
      have HJN := Lib.hid hjn
      clear hj hjn
      rcases hmin with ⟨rfl, hmm⟩ | ⟨rfl, hmm⟩ <;> cases z
      · have dm : decide ((m : Int) < (j : Int) + 52) = true := by simp; omega
        have hjl : j < m := by rcases HJN.out with h | h
                               · subst h; cases hz
                               · exact h
        have hd3 : decide (j < m) = true := by simpa using hjl
        have hd4 : decide ((j : Int) < (m : Int)) = true := by simp; omega
        clear hd2
        go_wp2_with (at_builtin; refine wpList_append_lies _ rfl (.tmp 15) (.tmp 24) 31 rfl w.heap.size 32 i0 (.slice none 0 0) 1 24 Tryd.underlying31 hi hz0 hz1 hz2 rfl (by decide) _ k X rfl (HO1.out _) ⟨wr.heap.size, 0, none⟩ 1 1 [.slice ad' (m - j) (cap - j)] rfl rfl ?q1 ?q2 (by decide) (by unfold maxLen; omega) (by omega) (by simp; omega) _ rfl ?_)
        case q2 => intro u hu; obtain rfl := List.mem_singleton.1 hu; rfl
        case q1 =>
          intro jj u hjj
          rw [Addr.add_mid, Nat.zero_add, cell_block (heap_alloc_new wr _)]
          simpa using hjj
        intro g c w1 hown hgrow hg hglt
        have hb : Below w.heap.size w w1 := ((HR.out.below).alloc hbase _).grown hgrow (by simp; omega) (fun q hq => (HR.out.own.lt q hq).1)
        have R1 : RCutRel w (k + 1) (X ++ [_]) _ w1 := ⟨hown, hb⟩
        have HR1 := Lib.hid R1
        clear R1 hown hgrow hg hglt hb HO1
        go_wp2_with fail
        go_roundw
        case rel => exact ⟨k + 1, j + 52, _, by omega, by have := HJ.out; omega, by go_num, HR1.out⟩
        case measure => simp [intOf]; have := HJ.out; omega
      · have dm : decide ((m : Int) < (j : Int) + 52) = true := by simp; omega
        clear hd2
        go_wp2_with (at_builtin; refine wpList_append_lies _ rfl (.tmp 15) (.tmp 24) 31 rfl w.heap.size 32 i0 (.slice none 0 0) 1 24 Tryd.underlying31 hi hz0 hz1 hz2 rfl (by decide) _ k X rfl (HO1.out _) ⟨wr.heap.size, 0, none⟩ 1 1 [.slice ad' (m - j) (cap - j)] rfl rfl ?q1 ?q2 (by decide) (by unfold maxLen; omega) (by omega) (by simp; omega) _ rfl ?_)
        case q2 => intro u hu; obtain rfl := List.mem_singleton.1 hu; rfl
        case q1 =>
          intro jj u hjj
          rw [Addr.add_mid, Nat.zero_add, cell_block (heap_alloc_new wr _)]
          simpa using hjj
        intro g c w1 hown hgrow hg hglt
        have hb : Below w.heap.size w w1 := ((HR.out.below).alloc hbase _).grown hgrow (by simp; omega) (fun q hq => (HR.out.own.lt q hq).1)
        have R1 : RCutRel w (k + 1) (X ++ [_]) _ w1 := ⟨hown, hb⟩
        have HR1 := Lib.hid R1
        clear R1 hown hgrow hg hglt hb HO1
        go_wp2_with fail
        go_roundw
        case rel => exact ⟨k + 1, j + 52, _, by omega, by have := HJ.out; omega, by go_num, HR1.out⟩
        case measure => simp [intOf]; have := HJ.out; omega
      · have dm : decide ((n : Int) < (j : Int) + 52) = false := by simp; omega
        have hsl2 : ∀ w, (Instr.sliceAt 32 (.slice ad n cap) (some (.int .i64 (j : Int))) (some (.int .i64 ((j : Int) + 52))) none).run Tryd.prog w = .ok (.slice ad' 52 (cap - j)) w := fun w => by have := hsl w; rwa [show ((j + 52 : Nat) : Int) = (j : Int) + 52 by omega, show j + 52 - j = 52 by omega] at this
        clear hsl
        have hjl : j < n := by rcases HJN.out with h | h
                               · subst h; cases hz
                               · exact h
        have hd3 : decide (j < n) = true := by simpa using hjl
        have hd4 : decide ((j : Int) < (n : Int)) = true := by simp; omega
        clear hd2
        go_wp2_with (at_builtin; refine wpList_append_lies _ rfl (.tmp 15) (.tmp 24) 31 rfl w.heap.size 32 i0 (.slice none 0 0) 1 24 Tryd.underlying31 hi hz0 hz1 hz2 rfl (by decide) _ k X rfl (HO1.out _) ⟨wr.heap.size, 0, none⟩ 1 1 [.slice ad' 52 (cap - j)] rfl rfl ?q1 ?q2 (by decide) (by unfold maxLen; omega) (by omega) (by simp; omega) _ rfl ?_)
        case q2 => intro u hu; obtain rfl := List.mem_singleton.1 hu; rfl
        case q1 =>
          intro jj u hjj
          rw [Addr.add_mid, Nat.zero_add, cell_block (heap_alloc_new wr _)]
          simpa using hjj
        intro g c w1 hown hgrow hg hglt
        have hb : Below w.heap.size w w1 := ((HR.out.below).alloc hbase _).grown hgrow (by simp; omega) (fun q hq => (HR.out.own.lt q hq).1)
        have R1 : RCutRel w (k + 1) (X ++ [_]) _ w1 := ⟨hown, hb⟩
        have HR1 := Lib.hid R1
        clear R1 hown hgrow hg hglt hb HO1
        go_wp2_with fail
        go_roundw
        case rel => exact ⟨k + 1, j + 52, _, by omega, by have := HJ.out; omega, by go_num, HR1.out⟩
        case measure => simp [intOf]; have := HJ.out; omega
      · have dm : decide ((n : Int) < (j : Int) + 52) = false := by simp; omega
        have hsl2 : ∀ w, (Instr.sliceAt 32 (.slice ad n cap) (some (.int .i64 (j : Int))) (some (.int .i64 ((j : Int) + 52))) none).run Tryd.prog w = .ok (.slice ad' 52 (cap - j)) w := fun w => by have := hsl w; rwa [show ((j + 52 : Nat) : Int) = (j : Int) + 52 by omega, show j + 52 - j = 52 by omega] at this
        clear hsl
        clear hd2
        go_wp2_with (at_builtin; refine wpList_append_lies _ rfl (.tmp 15) (.tmp 24) 31 rfl w.heap.size 32 i0 (.slice none 0 0) 1 24 Tryd.underlying31 hi hz0 hz1 hz2 rfl (by decide) _ k X rfl (HO1.out _) ⟨wr.heap.size, 0, none⟩ 1 1 [.slice ad' 52 (cap - j)] rfl rfl ?q1 ?q2 (by decide) (by unfold maxLen; omega) (by omega) (by simp; omega) _ rfl ?_)
        case q2 => intro u hu; obtain rfl := List.mem_singleton.1 hu; rfl
        case q1 =>
          intro jj u hjj
          rw [Addr.add_mid, Nat.zero_add, cell_block (heap_alloc_new wr _)]
          simpa using hjj
        intro g c w1 hown hgrow hg hglt
        have hb : Below w.heap.size w w1 := ((HR.out.below).alloc hbase _).grown hgrow (by simp; omega) (fun q hq => (HR.out.own.lt q hq).1)
        have R1 : RCutRel w (k + 1) (X ++ [_]) _ w1 := ⟨hown, hb⟩
        have HR1 := Lib.hid R1
        clear R1 hown hgrow hg hglt hb HO1
        go_wp2_with fail
        go_roundw
        case rel => exact ⟨k + 1, j + 52, _, by omega, by have := HJ.out; omega, by go_num, HR1.out⟩
        case measure => simp [intOf]; have := HJ.out; omega
    · obtain rfl : k = M := by omega
      have hz : ((j : Int) == 0) = false := by simp; omega
      have hjl : ¬ j < n := by have := (HM1.out k (by omega)).1; omega
      have hd2 : decide (j < n) = false := by simpa using hjl
      have hd4 : decide ((j : Int) < (n : Int)) = false := by simp; omega
      have HR := Lib.hid hr
      clear hr hj
      obtain ⟨a, c, rfl⟩ : ∃ a c, u3 = .slice a k c := by
        rcases HR.out.own.2 with ⟨rfl, hn⟩ | ⟨g, cap, cur, rfl, _⟩
        · omega
        · exact ⟨_, _, rfl⟩
      go_wp2_with fail
      go_ret
      exact ⟨a, c, rfl, HR.out.below⟩
end Go.Proofs.YtlhfdlfbnnfjjaaDoor
