/- What appends and crashes leave of a book; All records, in memory of their own; That the program answers at all. -/
import Derived.Test.YtjeopjajcdbncaaDoorJ33
import Derived.Test.YtjeopjajcdbncaaDoorJ31
namespace Go.Proofs.YtjeopjajcdbncaaDoor
open Go.RowKit

set_option maxRecDepth 100000 in
theorem nParts_pos (n : Nat) : 1 ≤ nParts n := by unfold nParts; omega
set_option maxRecDepth 100000 in
theorem map_get (S : List (List UInt8)) (i : Nat) : (S.map rdS)[i]? = S[i]?.map rdS := List.getElem?_map ..
set_option maxRecDepth 100000 in
theorem BInv.append {s : DSt} {gen room : Nat} {rs : List (List UInt8)} {l : List UInt8} (h : BInv s.S gen room rs) (hl : l.length ≤ 4096) (hr : nParts l.length ≤ room) (hn : rs.length ≤ 8192) (hg : gen < 4294967296) :
    BInv (wrN s (s.S.length - room) rs.length gen l (nParts l.length)).S gen (room - nParts l.length) (rs ++ [l]) := by
  obtain ⟨⟨P, X, L, e, hx, hR, hst, hL, hXg⟩, hgens, h1⟩ := h
  have hM := nParts_le l.length hl
  have hlen : P.length + X.length = s.S.length := by have := congrArg List.length e; simpa using this.symm
  have hA : s.S.length - room = P.length := by omega
  rw [hA]
  have hS : (wrN s P.length rs.length gen l (nParts l.length)).S.map rdS = P ++ (newT rs.length gen l ++ X.drop (nParts l.length)) := by
    apply List.ext_getElem?
    intro j
    rw [map_get, wrN_get]
    have ej := congrArg (fun T => T[j]?) e
    simp only [map_get] at ej
    split
    · rename_i hc
      rw [List.getElem?_append_right (by omega), newT_get _ _ _ _ _ (by omega)]
      simp only [Option.map_some]
      rw [rdS_secB _ _ _ _ hn hg (by omega) hl]
    · rename_i hc
      rw [ej]
      rcases Nat.lt_or_ge j P.length with hj | hj
      · rw [List.getElem?_append_left hj, List.getElem?_append_left hj]
      · rw [List.getElem?_append_right hj, List.getElem?_append_right hj]
        rcases Nat.lt_or_ge (j - P.length) (nParts l.length) with h2 | h2
        · have : s.S.length ≤ j := by omega
          omega
        · rw [List.getElem?_append_right (by simpa [newT] using h2), List.getElem?_drop]
          congr 1
          simp [newT]; omega
  refine ⟨⟨P ++ newT rs.length gen l, X.drop (nParts l.length), gen, by rw [hS, List.append_assoc], by rw [List.length_drop, hx], ?_, ?_, Nat.le_refl _, fun x hx => hXg x (List.mem_of_mem_drop hx)⟩, ?_, h1⟩
  · have h2 := hR.more (newT rs.length gen l)
    rw [List.nil_append] at h2
    have h3 := newT_stands rs.length gen l hl [] L hL
    have h4 := rec_newT rs.length gen l []
    rw [List.append_nil] at h3 h4
    have h5 := h2.snoc (by rw [Nat.add_comm]; exact h3) (by rw [h4]; exact hl)
    rw [h4, List.drop_of_length_le (by simp [newT])] at h5
    exact h5
  · exact stop_less fun x hx => hXg x (List.mem_of_mem_drop hx)
  · intro x hx
    rw [hS] at hx
    rcases List.mem_append.1 hx with hx | hx
    · exact hgens x (by rw [e]; exact List.mem_append_left _ hx)
    · rcases List.mem_append.1 hx with hx | hx
      · obtain ⟨i, _, rfl⟩ := List.mem_map.1 hx
        exact Nat.le_refl _
      · have := hXg x (List.mem_of_mem_drop hx); omega
set_option maxRecDepth 100000 in
/-- what a crash leaves of sectors that were being written -/
theorem crash_sectors {s : DSt} {n gen A k : Nat} {l : List UInt8} {bs : List Bool} (hs : s.ws = []) (hk : A + k ≤ s.S.length) (hn : n ≤ 8192) (hg : gen < 4294967296) (hl : l.length ≤ 4096) (hk2 : k ≤ nParts l.length) (j : Nat) :
    (((wrN s A n gen l k).crash bs).S.map rdS)[j]? = (s.S.map rdS)[j]? ∨ (A ≤ j ∧ j < A + k ∧ (((wrN s A n gen l k).crash bs).S.map rdS)[j]? = some (newS n gen (j - A) l)) := by
  have hM := nParts_le l.length hl
  have hh := wrN_hist s A n gen l hs k hk
  have hw := wrN_ws s A n gen l hs k
  have hwl := (wrN_len s A n gen l k).2.1
  rw [hs] at hwl
  simp only [List.length_nil, Nat.zero_add] at hwl
  have e : ((wrN s A n gen l k).crash bs).S = redoL bs (wrN s A n gen l k).ws s.S := by unfold DSt.crash; dsimp only; rw [hh.undo]
  rw [map_get, map_get, e]
  rcases redo_get bs (wrN s A n gen l k).ws A s.S (fun i r hr => (hw i r hr).1) j with ⟨h1, _⟩ | ⟨i, r, hj, hr, _, _, h1⟩
  · left; rw [h1]
  · right
    have hi : i < k := by have := (List.getElem?_eq_some_iff.1 hr).1; omega
    refine ⟨by omega, by omega, ?_⟩
    rw [h1, (hw i r hr).2]
    simp only [Option.map_some]
    rw [rdS_secB _ _ _ _ hn hg (by omega) hl]
    congr 2
    omega
set_option maxRecDepth 100000 in
/-- behind a crash all records are there, and perhaps the one that was cut off -/
theorem BInv.crash {s : DSt} {gen room : Nat} {rs : List (List UInt8)} {l : List UInt8} {k : Nat} {bs : List Bool} (h : BInv s.S gen room rs) (hs : s.ws = []) (hl : l.length ≤ 4096) (hr : nParts l.length ≤ room) (hk : k ≤ nParts l.length) (hn : rs.length ≤ 8192) (hg : gen < 4294967296) :
    (∀ x ∈ ((wrN s (s.S.length - room) rs.length gen l k).crash bs).S.map rdS, x.1.g ≤ gen) ∧
    ∀ rs' T' l', Reads (((wrN s (s.S.length - room) rs.length gen l k).crash bs).S.map rdS) 1 1 rs' T' l' → Stop T' (rs'.length + 1) l' → rs' = rs ∨ rs' = rs ++ [l] := by
  obtain ⟨⟨P, X, L, e, hx, hR, hst, hL, hXg⟩, hgens, h1⟩ := h
  have hM := nParts_le l.length hl
  have hlen : P.length + X.length = s.S.length := by have := congrArg List.length e; simpa using this.symm
  have hA : s.S.length - room = P.length := by omega
  rw [hA]
  have hc := fun j => crash_sectors (s := s) (n := rs.length) (gen := gen) (A := P.length) (k := k) (l := l) (bs := bs) hs (by omega) hn hg hl hk j
  have hSl : (((wrN s P.length rs.length gen l k).crash bs).S.map rdS).length = s.S.length := by rw [List.length_map, crash_len, (wrN_len s P.length rs.length gen l k).1]
  obtain ⟨U, hU⟩ : ∃ U, ((wrN s P.length rs.length gen l k).crash bs).S.map rdS = U := ⟨_, rfl⟩
  rw [hU] at hc hSl ⊢
  have hUP : U = P ++ U.drop P.length := by
    have : U.take P.length = P := by
      apply List.ext_getElem?
      intro j
      rw [List.getElem?_take]
      split
      · rename_i hj
        rcases hc j with h | ⟨h, _, _⟩
        · rw [h, e, List.getElem?_append_left hj]
        · omega
      · rename_i hj
        rw [List.getElem?_eq_none (by omega)]
    rw [← List.take_append_drop P.length U, this]
    simp
  obtain ⟨Y, hY⟩ : ∃ Y, U.drop P.length = Y := ⟨_, rfl⟩
  rw [hY] at hUP
  have hYl : Y.length = X.length := by rw [← hY, List.length_drop]; omega
  have hYi : ∀ i, Y[i]? = X[i]? ∨ (i < k ∧ Y[i]? = some (newS rs.length gen i l)) := fun i => by
    have h2 := hc (P.length + i)
    rw [hUP, List.getElem?_append_right (by omega), e, List.getElem?_append_right (by omega), Nat.add_sub_cancel_left] at h2
    rcases h2 with h2 | ⟨_, h3, h4⟩
    · exact .inl h2
    · exact .inr ⟨by omega, h4⟩
  refine ⟨fun x hx => ?_, fun rs' T' l' hR' hS' => ?_⟩
  · obtain ⟨j, hj⟩ := List.getElem?_of_mem hx
    rcases hc j with h | ⟨_, _, h⟩
    · rw [h] at hj; exact hgens x (List.mem_of_getElem? hj)
    · rw [h] at hj; obtain rfl := Option.some.inj hj; exact Nat.le_refl _
  · rw [hUP] at hR'
    by_cases hno : ∃ i, i < nParts l.length ∧ Y[i]? = X[i]?
    · left
      have h2 := hR.more Y
      rw [List.nil_append] at h2
      have h3 := stop_part (n := rs.length) (g := gen) (l := l) hXg hst hYl (fun i => (hYi i).imp id fun h => ⟨by omega, h.2⟩) hno
      exact (hR'.det (by rw [Nat.add_comm]; exact hS') h2 (by rw [Nat.add_comm]; exact h3)).1
    · right
      have hall : ∀ i, i < nParts l.length → Y[i]? = some (newS rs.length gen i l) := fun i hi => by
        rcases hYi i with h | ⟨_, h⟩
        · exact absurd ⟨i, hi, h⟩ hno
        · exact h
      have hYe : Y = newT rs.length gen l ++ X.drop (nParts l.length) := by
        apply List.ext_getElem?
        intro i
        rcases Nat.lt_or_ge i (nParts l.length) with hi | hi
        · rw [hall i hi, newT_get _ _ _ _ _ hi]
        · rw [List.getElem?_append_right (by simpa [newT] using hi), List.getElem?_drop]
          rcases hYi i with h | ⟨h, _⟩
          · rw [h]; congr 1; simp [newT]; omega
          · omega
      have h2 := hR.more Y
      rw [List.nil_append] at h2
      have h3 := newT_stands rs.length gen l hl (X.drop (nParts l.length)) L hL
      have h4 := rec_newT rs.length gen l (X.drop (nParts l.length))
      rw [← hYe] at h3 h4
      have h5 := h2.snoc (by rw [Nat.add_comm]; exact h3) (by rw [h4]; exact hl)
      rw [h4] at h5
      have h6 : Stop (Y.drop (nParts l.length)) (1 + (rs ++ [l]).length) gen := by
        rw [hYe, List.drop_left' (by simp [newT])]
        exact stop_less fun x hx => hXg x (List.mem_of_mem_drop hx)
      exact (hR'.det (by rw [Nat.add_comm]; exact hS') h5 h6).1
set_option maxRecDepth 100000 in
/-- a book that is opened anew, where nothing waits, is the same -/
theorem BInv.same {S : List (List UInt8)} {gen room : Nat} {rs rs' : List (List UInt8)} {T' : List Sec} {l' : Nat} (h : BInv S gen room rs) (hR' : Reads (S.map rdS) 1 1 rs' T' l') (hS' : Stop T' (rs'.length + 1) l') : rs' = rs := by
  obtain ⟨P, X, L, e, hx, hR, hst, hL, hXg⟩ := h.ex
  have h2 := hR.more X
  rw [List.nil_append, ← e] at h2
  exact (hR'.det (by rw [Nat.add_comm]; exact hS') h2 (by rw [Nat.add_comm]; exact hst)).1
end Go.Proofs.YtjeopjajcdbncaaDoor
namespace Go.Proofs.YtjeopjajcdbncaaDoor
open Go.RowKit

/-- the part's bytes lie in a block that may be written -/
def OwnB1 (w : World) (q : Part) : Prop := q.l ≠ [] → ∃ C : Array Value, w.heap[q.g]? = some (.cells C 5 (0, 0))
set_option maxRecDepth 100000 in
set_option maxHeartbeats 1000000 in
theorem clone2_any (w : World) (p : Part) (hp : p.In w) (hl : p.l.length ≤ 5000) :
    Calls Tryd.prog 31 #[.slice p.ad p.l.length p.cap] w fun e w' => ∃ q : Part, e = .returned (.slice q.ad q.l.length q.cap) ∧ q.l = p.l ∧ q.In w' ∧ (q.ad = none → q.cap = 0) ∧ (q.l ≠ [] → w.heap.size ≤ q.g) ∧ OwnB1 w' q ∧ Below w.heap.size w w' := by
  have q22 : ∀ (w : World) (a : Option Addr) (n c n' c' : Nat), (binOp .eql 32 (.slice a n c) (.slice none n' c')).run Tryd.prog w = .ok (.bool a.isNone) w := fun w a n c n' c' => Lib.run_eql_slice_nil w _ _ a n c n' c' Tryd.underlying32
  obtain ⟨i0, hi, hz0, hz1, hz2⟩ := info_parts (show (Tryd.prog.info? 5).map (fun i => (i.zero, i.size, i.bytes)) = some (some (.int .u8 0), 1, 1) by kernel_rfl)
  have h0 : 0 < w.heap.size := Nat.lt_of_le_of_lt (Nat.zero_le _) hp.lt
  cases had : p.ad with
  | none =>
    have hl0 : p.l = [] := by
      by_cases h : p.l = []
      · exact h
      · have := hp.bytes.at' h
        rw [had] at this; cases this
    have HL0 := Lib.hid hl0
    clear hl0 hp had
    go_enter Tryd.func31, Tryd.ntmps31
    go_wp2
    go_ret
    exact ⟨⟨none, 0, 0, 0, []⟩, rfl, HL0.out.symm, ⟨⟨fun h => absurd rfl h, fun j hj => by cases hj⟩, Nat.le_refl _, h0⟩, fun _ => rfl, fun h => absurd rfl h, fun h => absurd rfl h, Below.refl _ _⟩
  | some ad =>
    have HP := Lib.hid hp
    have HAD := Lib.hid had
    clear hp had
    have hsrc : ∀ (A : Obj) (j : Nat) (u : Value), (p.l.map B)[j]? = some u → (w.alloc A).cell? (ad.add j) = some u := by
      intro A j u hu
      obtain ⟨hj, e⟩ := List.getElem?_eq_some_iff.1 hu
      have hj' : j < p.l.length := by simpa using hj
      have hne : p.l ≠ [] := by intro e; rw [e] at hj'; cases hj'
      have h1 := HP.out.bytes.at' hne
      rw [HAD.out] at h1
      cases h1
      have hc := HP.out.bytes.cell j hj'
      refine Lib.cell?_alloc_some _ ?_
      rw [Addr.add_mid, hc, ← e]; simp
    have HS := Lib.hid hsrc
    clear hsrc
    go_enter Tryd.func31, Tryd.ntmps31
    go_wp2_with (at_builtin; refine wpList_append_own _ rfl _ _ 32 rfl w.heap.size 5 i0 (.int .u8 0) 1 1 Tryd.underlying32 hi hz0 hz1 hz2 rfl (by decide) _ _ _ rfl (World.ownsRow_made w #[] 0 (Nat.le_refl _) (Nat.zero_le _) rfl) ad p.l.length p.cap (p.l.map B) rfl ?qc1 ?qc2 ?qc3 ?qc4 ?qc5 ?qc6 ?_)
    case qc1 => simp
    case qc2 => exact HS.out _
    case qc3 => intro u hu; obtain ⟨x, _, rfl⟩ := List.mem_map.1 hu; rfl
    case qc4 => unfold maxLen; omega
    case qc5 => omega
    case qc6 => simp
    intro v' w1 hown hgrow hnil
    have hown' : w1.ownsRow w.heap.size 5 1 v' p.l.length (p.l.map B) := by simpa using hown
    have hb : Below w.heap.size w w1 := ((Below.refl _ w).alloc (Nat.le_refl _) _).grown hgrow (by simp) (by intro k hk; simp [Value.ownBlock] at hk; omega)
    obtain ⟨q, hqv, hqin, hql, hqn, _, hqg⟩ := part_of_own hown' (by have := hb.size; omega)
    have HQG : Hid (q.l ≠ [] → w.heap.size ≤ q.g) := Lib.hid fun hne => by
      have h1 := hqin.bytes.at' hne
      have h2 : v'.ownBlock = some q.g := by rw [← hqv]; unfold Part.val; rw [h1]; rfl
      exact (hown'.lt _ h2).1
    have HQO : Hid (OwnB1 w1 q) := Lib.hid fun hne => by
      rcases hown'.2 with ⟨_, hn⟩ | ⟨g, cap, cur, hv, _, hg, _⟩
      · rw [hql] at hne
        exact absurd (List.length_eq_zero_iff.1 hn) hne
      · have h1 := hqin.bytes.at' hne
        have h2 : v'.ownBlock = some q.g := by rw [← hqv]; unfold Part.val; rw [h1]; rfl
        rw [hv] at h2
        obtain rfl : g = q.g := Option.some.inj h2
        exact ⟨cur, hg⟩
    unfold Part.val at hqv
    have HB := Lib.hid hb
    have HQ := Lib.hid hqin
    have HQL := Lib.hid hql
    have HQN := Lib.hid hqn
    have HQV := Lib.hid hqv
    clear hown hown' hgrow hnil hb hqin hql hqn hqv
    go_wp2
    go_ret
    exact ⟨q, by rw [HQV.out]; rfl, HQL.out, HQ.out, HQN.out, HQG.out, HQO.out, HB.out⟩
set_option maxRecDepth 100000 in
theorem parts_of_row {w : World} {N : Nat} {ra : Value} {ps : List Part} (h : w.ownsRow N 32 1 ra ps.length (ps.map Part.val)) (hi : ∀ p ∈ ps, p.In w) (h0 : 0 < w.heap.size) : ∃ ap gp cp, ra = .slice ap ps.length cp ∧ PartsIn w ap gp 0 ps := by
  have hh := h
  rcases h.2 with ⟨rfl, hn⟩ | ⟨g, cap, cur, rfl, hb, hg, hc, hm, hsz, ht⟩
  · have : ps = [] := List.length_eq_zero_iff.1 hn
    subst this
    exact ⟨none, 0, 0, rfl, ⟨fun h => absurd rfl h, fun i hi => absurd hi (by simp), h0, hi⟩⟩
  · refine ⟨_, g, cap, rfl, ⟨fun _ => rfl, fun i hi' => ?_, lt_block hg, hi⟩⟩
    have := hh.cells (g := g) rfl i ps[i].val (by simp [hi'])
    rwa [Addr.add_mid] at this
set_option maxRecDepth 100000 in
set_option maxHeartbeats 1000000 in
theorem records_any (w : World) {N d gs : Nat} {v : Value} {s : DSt} {b : Nat} {ra : Value} {ps : List Part} {room gen : Nat} {o : Bool} (h : Both w N d gs v s b ra ps room gen o) :
    Calls Tryd.prog 19 #[.pointer (some ⟨b, 0, none⟩)] w fun e w' => ∃ qs : List Part, e = .returned (.slice (some ⟨w.heap.size, 0, none⟩) ps.length ps.length) ∧ txs qs = txs ps ∧ qs.length = ps.length ∧ PartsIn w' (some ⟨w.heap.size, 0, none⟩) w.heap.size 0 qs ∧ (∀ q ∈ qs, q.ad = none → q.cap = 0) ∧ (∀ q ∈ qs, q.l ≠ [] → w.heap.size < q.g) ∧ (∀ q ∈ qs, OwnB1 w' q) ∧ Below w.heap.size w w' := by
  obtain ⟨ap, gp, cp, rfl, hp⟩ := parts_of_row h.row h.ins (by have := lt_block h.blk; omega)
  have op : Nat := 0
  have hm := h.few
  have c1 := h.cells.2.1
  have HP := Lib.hid hp
  have HL : Hid (∀ p ∈ ps, p.l.length ≤ 5000) := Lib.hid fun p hp => by have := h.lim p hp; omega
  have hst : ∀ W : World, W.heap[w.heap.size]? = some (.cells (nils ps.length).toArray 32 (0, 0)) → Below w.heap.size w W → CloRel w ps 0 [] W := fun W h1 h2 => ⟨by simpa using h1, rfl, rfl, (fun q hq => absurd hq (by simp)), (fun q hq => absurd hq (by simp)), (fun q hq => absurd hq (by simp)), h2⟩
  have HST := Lib.hid hst
  have hblt := lt_block h.blk
  have HBk := Lib.hid h.blk
  clear hst hp h op
  go_enter Tryd.func19, Tryd.ntmps19
  go_wp2_with (refine wpList_make_slices rfl (.tmp 10) rfl ps.length rfl (by omega) ?_)
  generalize hW : World.alloc _ _ = W0 at *
  have R0 : CloRel w ps 0 [] W0 := HST.out W0 (by rw [← hW]; exact heap_alloc_new _ _) (by rw [← hW]; exact (Below.refl _ _).alloc (Nat.le_refl _) _)
  have c12 := cell_in ((Below.heap_alloc w (.cells (nils ps.length).toArray 32) b hblt).trans HBk.out) 1 _ rfl
  rw [hW] at c12
  clear hW HST
  go_wp2_with fail
  go_loopw [4, 5, 17] (fun _ _ i wr => ∃ (k : Nat) (qs : List Part), k ≤ ps.length ∧ i = .int .i64 k ∧ CloRel w ps k qs wr ∧ ∀ q ∈ qs, OwnB1 wr q) (fun _ _ i _ => ps.length - (intOf i).toNat)
  case atStart => exact ⟨0, [], by omega, rfl, R0, fun q hq => absurd hq (by simp)⟩
  case round =>
    clear R0
    obtain ⟨k, qs, hk, rfl, hr, hoq⟩ := hrel
    have HOQ := Lib.hid hoq
    clear hoq
    by_cases hlt : k < ps.length
    · have hd : decide ((k : Int) < (ps.length : Int)) = true := by simp; omega
      obtain rfl := HP.out.at' (by intro e; rw [e] at hlt; cases hlt)
      have hcell : wr.cell? ⟨gp, 0 + k, none⟩ = some (.slice ps[k].ad ps[k].l.length ps[k].cap) := by
        rw [hr.below.cell (by exact HP.out.lt), HP.out.cell k hlt]; rfl
      rw [Nat.zero_add] at hcell
      have HCl := Lib.hid (clone2_any wr ps[k] ((HP.out.parts ps[k] (List.getElem_mem hlt)).below hr.below) (HL.out _ (List.getElem_mem hlt)))
      have HR := Lib.hid hr
      have HSt := Lib.hid (fun (w2 : World) (q : Part) => hr.step (w2 := w2) hlt q)
      clear hr
      generalize ps[k] = p at *
      go_wp2_with fail
      refine HCl.out.mono ?_
      rintro e w2 ⟨q, rfl, hql, hqin, hqn, hqg, hqo, hb2⟩
      have R2 := HSt.out w2 q hql hqin hqn hqg hb2
      have hrow := (hb2.block _ (lt_block HR.out.row)).trans HR.out.row
      obtain ⟨v0, c0⟩ : ∃ v0, w2.cell? ⟨w.heap.size, k, none⟩ = some v0 := by
        have hl0 : k < (qs.map Part.val ++ nils (ps.length - k)).length := by simp [nils, HR.out.len]; omega
        exact ⟨_, by rw [cell_block hrow, List.getElem?_toArray, List.getElem?_eq_getElem hl0]⟩
      have f0 := frozen_of_row w2 w.heap.size k _ _ hrow
      have HR2 := Lib.hid R2
      have HOQ2 : Hid (∀ x ∈ qs ++ [q], OwnB1 (w2.setCell ⟨w.heap.size, k, none⟩ (.slice q.ad q.l.length q.cap)) x) := Lib.hid fun x hx hne => by
        have hk1 : Kept1 w.heap.size w2 (w2.setCell ⟨w.heap.size, k, none⟩ (.slice q.ad q.l.length q.cap)) := (Kept1.refl w.heap.size w2).setCell ⟨w.heap.size, k, none⟩ (Or.inl rfl) _
        have hnew := R2.new x hx hne
        rcases List.mem_append.1 hx with hx | hx
        · obtain ⟨C, hC⟩ := HOQ.out x hx hne
          exact ⟨C, hk1.heap ((hb2.block _ (lt_block hC)).trans hC) (by omega)⟩
        · obtain rfl := List.mem_singleton.1 hx
          obtain ⟨C, hC⟩ := hqo hne
          exact ⟨C, hk1.heap hC (by omega)⟩
      clear hql hqin hqn hqg hqo hb2 hrow R2 HR HSt HCl hcell
      go_wp2_with fail
      go_roundw
      case rel => exact ⟨k + 1, qs ++ [q], by omega, by go_num, HR2.out, HOQ2.out⟩
      case measure => simp [intOf]; omega
    · have hd : decide ((k : Int) < (ps.length : Int)) = false := by simp; omega
      obtain rfl : k = ps.length := by omega
      have HR := Lib.hid hr
      clear hr
      go_wp2_with fail
      go_ret
      refine ⟨qs, rfl, by have := HR.out.texts; rwa [List.take_length] at this, HR.out.len, ⟨fun _ => rfl, fun i hi => ?_, lt_block HR.out.row, HR.out.parts⟩, HR.out.nil, HR.out.new, HOQ.out, HR.out.below⟩
      rw [cell_block HR.out.row, Nat.zero_add, List.getElem?_toArray, List.getElem?_append_left (by simpa using hi)]
      simp [hi]
end Go.Proofs.YtjeopjajcdbncaaDoor
namespace Go.Proofs.YtjeopjajcdbncaaDoor
open Go.RowKit

set_option maxRecDepth 100000 in
theorem numU_zeros (k : Nat) : numU (List.replicate k 0) = 0 := by
  induction k with
  | zero => rfl
  | succ k ih => rw [List.replicate_succ', numU_snoc, ih]; rfl
set_option maxRecDepth 100000 in
theorem rdH_z64 : rdH z64 = ⟨0, 0, 0, 0, 0⟩ := by
  unfold rdH z64
  simp
  exact ⟨numU_zeros 4, numU_zeros 1, numU_zeros 2⟩
set_option maxRecDepth 100000 in
theorem greatG_zeros (m : Nat) : greatG ((List.replicate m z64).map rdS) = 0 := by
  induction m with
  | zero => rfl
  | succ m ih => rw [List.replicate_succ', List.map_append, List.map_singleton, greatG_snoc, ih, rdS, rdH_z64]; rfl
set_option maxRecDepth 100000 in
/-- sectors that say no number from 1 on have no record -/
theorem no_stands {T : List Sec} {n l : Nat} {f : Hd} {c : Nat} (h0 : ∀ x ∈ T, x.1.n = 0) (hn : 1 ≤ n) (h : Stands T n l f c) : False := by
  obtain ⟨r, hr⟩ := h.first
  have h1 := h0 _ (List.mem_of_getElem? hr)
  have h2 := h.beg
  unfold begB at h2
  simp only [Bool.and_eq_true, beq_iff_eq] at h2
  dsimp only at h1
  omega
set_option maxRecDepth 100000 in
theorem zeros_n (m : Nat) : ∀ x ∈ (List.replicate m z64).map rdS, x.1.n = 0 := by
  intro x hx
  obtain ⟨y, hy, rfl⟩ := List.mem_map.1 hx
  rw [(List.mem_replicate.1 hy).2, rdS, rdH_z64]
set_option maxRecDepth 100000 in
theorem reads_zeros {T T' : List Sec} {n l l' : Nat} {rs : List (List UInt8)} (h0 : ∀ x ∈ T, x.1.n = 0) (hn : 1 ≤ n) (h : Reads T n l rs T' l') : rs = [] ∧ T' = T ∧ l' = l := by
  cases h with
  | nil => exact ⟨rfl, rfl, rfl⟩
  | cons h1 _ _ => exact (no_stands h0 hn h1).elim
set_option maxRecDepth 100000 in
theorem wrote_gone (s : DSt) (i : Nat) (x : List UInt8) (hf : s.fuse ≤ 0) : (s.wrote i x).gone = s.gone ∧ (s.wrote i x).fuse = s.fuse := by
  unfold DSt.wrote DSt.burnt
  dsimp only
  rw [if_neg (by omega)]
  exact ⟨rfl, rfl⟩
set_option maxRecDepth 100000 in
theorem wrN_gone (s : DSt) (A n g : Nat) (l : List UInt8) (k : Nat) (hf : s.fuse ≤ 0) : (wrN s A n g l k).gone = s.gone ∧ (wrN s A n g l k).fuse = s.fuse := by
  induction k with
  | zero => exact ⟨rfl, rfl⟩
  | succ k ih =>
    obtain ⟨h1, h2⟩ := wrote_gone (wrN s A n g l k) (A + k) (secB n g k l) (by omega)
    exact ⟨h1.trans ih.1, h2.trans ih.2⟩
set_option maxRecDepth 100000 in
/-- on a disk without a fuse all is written -/
theorem AppP.free {s s' : DSt} {rs rs' : List (List UInt8)} {room gen room' : Nat} {o' : Bool} {l : List UInt8} {c : Int} (h : AppP s rs room gen false l c s' rs' room' o') (hf : s.fuse ≤ 0) (hg : s.gone = false) (hl : l.length ≤ 4096) (hr : nParts l.length ≤ room) :
    c = 0 ∧ s' = { wrN s (s.S.length - room) rs.length gen l (nParts l.length) with ws := [] } ∧ rs' = rs ++ [l] ∧ room' = room - nParts l.length ∧ o' = false := by
  cases h with
  | over ho => cases ho
  | long _ h => omega
  | full _ _ h => omega
  | done => exact ⟨rfl, rfl, rfl, rfl, rfl⟩
  | lost _ _ _ k hk hg' => rw [(wrN_gone _ _ _ _ _ _ hf).1, hg] at hg'; cases hg'
set_option maxRecDepth 100000 in
theorem make_bytes (n : Nat) (hn : n ≤ 1000000) (w : World) : (Instr.makeSlice 32 (.int .i64 (n : Int)) (.int .i64 (n : Int))).run Tryd.prog w = .ok (.slice (some ⟨w.heap.size, 0, none⟩) n n) (w.alloc (.cells ((List.replicate n 0).map B).toArray 5)) := by
  obtain ⟨i, hi, hz, hs, hb⟩ := info_parts (show (Tryd.prog.info? 5).map (fun i => (i.zero, i.size, i.bytes)) = some (some (.int .u8 0), 1, 1) by kernel_rfl)
  have hr := run_make (P := Tryd.prog) w 32 5 i (.int .u8 0) Tryd.underlying32 hi hz .i64 .i64 n n (by omega) (Int.le_refl _) (by rw [hb]; omega) (by omega)
  have hm : madeCells (Value.int .u8 0).cells n = ((List.replicate n 0).map B).toArray := by
    apply Array.ext
    · simp [madeCells]
    · intro j h1 h2
      simp [madeCells, Value.cells, B, Nat.mod_one]
  rw [hs, Int.toNat_natCast, Nat.mul_one, hm] at hr
  exact hr
set_option maxRecDepth 100000 in
set_option maxHeartbeats 2000000 in
theorem awake_any (w : World) (ht : Tab w) : Calls Tryd.prog 7 #[] w fun e w' => e = .returned (.bool true) ∧ Below w.heap.size w w' := by
  have HT := Lib.hid ht
  have h0 := ht.size
  have HN := Lib.hid (dnew_any w 9)
  clear ht
  go_enter Tryd.func7, Tryd.ntmps7
  go_wp2_with fail
  refine HN.out.mono ?_
  rintro e w1 ⟨rfl, hd, hb1, hs1⟩
  have hgr : greatG ((DSt.new (secN 9)).S.map rdS) = 0 := greatG_zeros 9
  have HO := Lib.hid (open_any w1 hd rfl (HT.out.below hb1 h0) h0 (by rw [hgr]; omega))
  rw [hgr] at HO
  have HB1 := Lib.hid hb1
  clear hd hb1 HN hgr
  go_wp2_with fail
  refine HO.out.mono ?_
  rintro e w2 ⟨b, ra, ps, T, l, rfl, hbo, hrd, hst, hb2, hbw, hown, hnew⟩
  obtain ⟨e1, e2, e3⟩ := reads_zeros (zeros_n 9) (Nat.le_refl _) hrd
  have hps : ps = [] := by cases ps with
    | nil => rfl
    | cons _ _ => cases e1
  subst hps
  have hT9 : T.length = 9 := by rw [e2]; rfl
  rw [hT9] at hbo
  have HB2 := Lib.hid (HB1.out.trans (hb2.mono HB1.out.size))
  have HBo := Lib.hid hbo
  clear hrd hst hb2 hown hnew e1 e2 e3 HO hT9 hbo HB1
  have hmk : ∀ w, (Instr.makeSlice 32 (.int .i64 53) (.int .i64 53)).run Tryd.prog w = .ok (.slice (some ⟨w.heap.size, 0, none⟩) 53 53) (w.alloc (.cells ((List.replicate 53 0).map B).toArray 5)) := make_bytes 53 (by omega)
  have hbo2 := HBo.out.below ((Below.refl w2.heap.size w2).alloc (Nat.le_refl _) (.cells ((List.replicate 53 0).map B).toArray 5))
  have hpin := partNew (heap_alloc_new w2 (.cells ((List.replicate 53 0).map B).toArray 5))
  have hb3 := HB2.out.alloc HB2.out.size (.cells ((List.replicate 53 0).map B).toArray 5)
  have HAp := Lib.hid (append_any (w2.alloc (.cells ((List.replicate 53 0).map B).toArray 5)) hbo2 (HT.out.below hb3 h0) h0 _ hpin (by simp) (fun _ hj => by
    have h1 := (HBo.out.jlt hj).2
    dsimp only at h1
    omega) (by show 9 ≤ (List.replicate (secN 9) z64).length; rw [List.length_replicate]; decide) (by simp [DSt.new]) (by simp [DSt.new]) (by omega) (by simp))
  unfold Part.val at HAp
  simp only [List.length_replicate] at HAp
  have HB3 := Lib.hid hb3
  have hmk2 := Lib.hid hmk
  clear hbo2 hpin hb3 HB2
  obtain ⟨Z, hZ⟩ : ∃ Z, ((List.replicate 53 (0 : UInt8)).map B).toArray = Z := ⟨_, rfl⟩
  rw [hZ] at HAp HB3
  simp only [hZ] at hmk
  clear hZ hmk2
  go_wp2_with fail
  refine HAp.out.mono ?_
  rintro e w3 ⟨c, v', s', ra', ps', room', o', rfl, hap, hbo3, hk3, hj3, _⟩
  obtain ⟨rfl, rfl, hps, rfl, rfl⟩ := hap.free (by simp [DSt.new]) rfl (by simp) (by simp [nParts])
  have HBo3 := Lib.hid hbo3
  have HB4 := Lib.hid (KeptF.mono HB3.out hk3 (Nat.le_refl _) fun k hk => by have := (HBo.out.jlt hk).1; omega)
  have hr7 : 9 - nParts (List.replicate 53 (0 : UInt8)).length = 7 := by simp [nParts]
  have HR := Lib.hid (room_any' w3 hbo3)
  rw [hr7] at HR
  clear hap hbo3 hk3 hj3 HAp hps hr7 hmk HB3
  go_wp2_with fail
  refine HR.out.mono ?_
  rintro e w4 ⟨rfl, rfl⟩
  go_wp2_with fail
  go_ret
  exact ⟨rfl, HB4.out⟩
end Go.Proofs.YtjeopjajcdbncaaDoor
