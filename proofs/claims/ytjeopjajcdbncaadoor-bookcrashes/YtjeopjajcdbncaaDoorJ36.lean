/- BookCrashes; A fingerprint that came in; Numbers that came in. -/
import Derived.Test.YtjeopjajcdbncaaDoorJ35
import Derived.Test.YtjeopjajcdbncaaDoorJ19
import Derived.ChangeSame
namespace Go.Proofs.YtjeopjajcdbncaaDoor
open Go.RowKit

set_option maxRecDepth 100000 in
theorem fieldHash (R : List UInt8) (k : Int) (hR : R.length = 32) (w : World) : (Instr.field 42 (.agg (HC R k).toArray) 0).run Tryd.prog w = .ok (.agg (R.map B).toArray) w := by
  have h := partHash R k hR w
  unfold Instr.field
  simp only [Sem.run_bind, run_underlying Tryd.underlying42, Result.andThen_ok]
  simp [asAgg, h]
set_option maxRecDepth 100000 in
set_option maxHeartbeats 8000000 in
theorem bookCrashes_walk (w : World) (ht : Tab w) (ad : Option Addr) (g o cap : Nat) (l : List COp) (h : OpsAt w ad g o l) (hop : ∀ x ∈ l, COpOk w x) (hm : l.length ≤ maxLen) :
    Calls Tryd.prog 4 #[.slice ad l.length cap] w fun e w' => e = .returned (.bool true) ∧ Below w.heap.size w w' := by
  have HT := Lib.hid ht
  have h0 := ht.size
  have HA := Lib.hid (awake_any w ht)
  have H := Lib.hid h
  have HOp := Lib.hid hop
  have HFew : Hid (∀ W, Below w.heap.size w W → _) := Lib.hid fun W hW => few6_any W ad g o cap l (h.below hW) hm fun x hx => ⟨(hop x hx).most, (hop x hx).pmost⟩
  clear ht h hop
  unfold maxLen at hm
  obtain ⟨i0, hi, hz0, hz1, hz2⟩ := info_parts info_row
  go_enter Tryd.func4, Tryd.ntmps4
  go_wp2_with fail
  refine HA.out.mono ?_
  rintro e w1 ⟨rfl, hb1⟩
  have HB1 := Lib.hid hb1
  have HF := Lib.hid (HFew.out w1 hb1)
  clear hb1 HA HFew
  go_wp2_with fail
  refine HF.out.mono ?_
  rintro e w1' ⟨r, rfl, rfl, hr⟩
  have HR := Lib.hid hr
  clear hr HF
  cases r with
  | false =>
    have HA2 := Lib.hid (awake_any w1 (HT.out.below HB1.out h0))
    go_wp2_with fail
    refine HA2.out.mono ?_
    rintro e w2 ⟨rfl, hb2⟩
    have HB2 := Lib.hid (HB1.out.trans (hb2.mono HB1.out.size))
    clear hb2
    go_wp2_with fail
    go_ret
    exact ⟨rfl, HB2.out⟩
  | true =>
    obtain ⟨hl30, hsz⟩ := HR.out rfl
    have HSz := Lib.hid hsz
    have HN := Lib.hid (dnew_any w1 300)
    clear hsz HR
    go_wp2_with fail
    refine HN.out.mono ?_
    rintro e w2 ⟨rfl, hd2, hb2, hs2⟩
    have hsz1 := HB1.out.size
    have hb02 := HB1.out.trans (hb2.mono hsz1)
    have hgr : greatG ((DSt.new (secN 300)).S.map rdS) = 0 := greatG_zeros 300
    have HO := Lib.hid (open_any w2 hd2 rfl (HT.out.below hb02 h0) (by omega) (by rw [hgr]; omega))
    rw [hgr] at HO
    have HB2 := Lib.hid hb02
    clear hd2 hb2 HN hgr hb02
    go_wp2_with fail
    refine HO.out.mono ?_
    rintro e w3 ⟨b, ra, ps, T, l', rfl, hbo, hrd, hst, hb3, hbw, hown, hnew⟩
    obtain ⟨e1, e2, e3⟩ := reads_zeros (zeros_n 300) (Nat.le_refl _) hrd
    have hps : ps = [] := by cases ps with
      | nil => rfl
      | cons _ _ => cases e1
    subst hps
    have hb03 := HB2.out.trans (hb3.mono HB2.out.size)
    have HM0 : Hid (CrM w w1.heap.size (w1.heap.size + 1) w1.heap.size (.slice none 0 0) (DSt.new (secN 300)) b ra [] T.length (0 + 1) false [] (.slice none 0 0) w3) := Lib.hid ⟨hbo, World.ownsRow_nil _ _ _ _, (fun p hp => absurd hp (by simp)), (fun p hp => absurd hp (by simp)), (fun p hp => absurd hp (by simp)), (fun g hg => by cases hg), (fun p hp => absurd hp (by simp)), hb03, hsz1⟩
    have hz0 : greatG ((DSt.new (secN 300)).S.map rdS) = 0 := greatG_zeros 300
    have HP0 : Hid (CrP w 0 (DSt.new (secN 300)) T.length (0 + 1) false (txs []) (.slice none 0 0)) := Lib.hid ⟨fun _ => ⟨rfl, by have := BInv.opened hrd hst; rwa [hz0] at this⟩, (fun e => by cases e), by omega, by simp [txs], by show (List.replicate (secN 300) z64).length = 300; rw [List.length_replicate]; decide, by show (0 : Int) ≤ _; omega⟩
    clear hbo hrd hst hb3 hbw hown hnew e1 e2 e3 HO hb03 hz0 HB2
    go_wp2_with fail
    go_loopw [4, 6, 7, 8, 9, 10, 11, 12, 13, 14, 15] (fun bv wv cv ow i _ _ _ _ _ _ wr => ∃ (k : Nat) (v : Value) (s : DSt) (b : Nat) (ra : Value) (ps : List Part) (room gen : Nat) (oo : Bool) (ws : List Part), k ≤ l.length ∧ i = .int .i64 k ∧ bv = .pointer (some ⟨b, 0, none⟩) ∧ ow = .bool oo ∧
      CrM w w1.heap.size (w1.heap.size + 1) w1.heap.size v s b ra ps room gen oo ws wv wr ∧ CrP w k s room gen oo (txs ps) cv ∧ txs ws = txs ps) (fun _ _ _ _ i _ _ _ _ _ _ _ => l.length - (intOf i).toNat)
    case atStart => exact ⟨0, _, _, _, _, _, _, _, _, _, by omega, rfl, rfl, rfl, HM0.out, HP0.out, rfl⟩
    case round =>
      clear HM0 HP0
      obtain ⟨k, v, s, b, ra, ps, room, gen, oo, ws, hk, rfl, rfl, rfl, hM, hP, htx⟩ := hrel
      have HM := Lib.hid hM
      have HP := Lib.hid hP
      have HTx := Lib.hid htx
      clear hM hP htx
      by_cases hlt : k < l.length
      · have hd : decide ((k : Int) < (l.length : Int)) = true := by simp; omega
        obtain rfl := H.out.addr (by intro e; rw [e] at hlt; cases hlt)
        have hx := HOp.out l[k] (List.getElem_mem hlt)
        have hxs := HSz.out l[k] (List.getElem_mem hlt)
        have hrg : wr.rangeAt g (o + k * 4) l[k].cells := fun j y hy => by
          have := (H.out.below HM.out.below).cell k hlt j (by simpa [COp.cells] using (List.getElem?_eq_some_iff.1 hy).1)
          rw [this, hy]
        generalize l[k] = x at *
        unfold COp.cells Part.val at hrg
        have HX := Lib.hid hx
        have HRg := Lib.hid hrg
        clear hx hrg
        have s4 : ∀ w, (sizeOf 35).run Tryd.prog w = .ok 4 w := fun _ => by kernel_rfl
        have i4 : (Tryd.prog.info? 35).map (·.size) = some 4 := by kernel_rfl
        go_wp2_with (refine wpList_load_mid rfl 35 (.tmp 40) rfl g (o + k * 4) rfl _ _ HRg.out Tryd.underlying35 rfl i4 ?_)
        all_goals generalize hW : World.alloc _ _ = W4 at *
        all_goals have hb4 : Below wr.heap.size wr W4 := by rw [← hW]; exact (Below.refl _ _).alloc (Nat.le_refl _) _
        all_goals have hg4 : W4.heap[wr.heap.size]? = some (.cells [.int .u8 x.kc, .int .i64 x.n, .slice x.p.ad x.p.l.length x.p.cap, .slice x.pa x.bs.length x.pc].toArray 35 (0, 0)) := by rw [← hW]; exact heap_alloc_new _ _
        all_goals have HM4 := Lib.hid (HM.out.more hb4)
        all_goals have HG4 := Lib.hid hg4
        all_goals have HJl : Hid (∀ k, J b ra (w1.heap.size + 1) w1.heap.size v k → k < wr.heap.size) := Lib.hid fun k hk => (HM.out.both.jlt hk).2
        all_goals have hs4 := hb4.size
        all_goals clear hW hb4 hg4 HRg HM
        · cases hgo : s.gone with
          | true =>
            have HFu := Lib.hid (fuse_gone W4 _ _ _ _ _ HM4.out.both.disk hgo x.n)
            clear hgo
            refine HFu.out.mono ?_
            rintro e w5 ⟨rfl, rfl⟩
            clear HFu
            go_wp2_with fail
            go_roundw
            case rel => exact ⟨k + 1, v, s, b, ra, ps, room, gen, oo, ws, by omega, by go_num, rfl, rfl, HM4.out, HP.out.later, HTx.out⟩
            case measure => simp [intOf]; omega
          | false =>
            have HFu := Lib.hid (fuse_any W4 _ _ _ _ _ HM4.out.both.disk hgo x.n)
            have HGo := Lib.hid hgo
            clear hgo
            refine HFu.out.mono ?_
            rintro e w5 ⟨rfl, hd5, hk5⟩
            have HM5 := Lib.hid (HM4.out.call (HM4.out.both.disked hd5 (KeptF.of_kept1 hk5 fun _ => .inl rfl) fun _ h => .inl h) (KeptF.of_kept1 hk5 fun _ => .inr (.inr (.inl rfl))) (fun _ h => .inl h) (fun _ h _ => .inl h))
            have HP5 := Lib.hid (HP.out.fuse x.n HX.out.n1 HGo.out)
            clear hd5 hk5 HFu
            go_wp2_with fail
            go_roundw
            case rel => exact ⟨k + 1, v, _, b, ra, ps, room, gen, oo, ws, by omega, by go_num, rfl, rfl, HM5.out, HP5.out, HTx.out⟩
            case measure => simp [intOf]; omega
        · have hpg : x.bs ≠ [] → x.pg < w.heap.size := fun hne => block_lt_of_cell (HX.out.pcell 0 (List.length_pos_iff.2 hne))
          have hwN := HM4.out.wN
          have hgen := HP.out.hg
          have hrs := HP.out.hr
          rw [len_txs] at hrs
          have hbN := HM4.out.both.bN
          have hbs := hxs.2
          have HCr := Lib.hid (crash_any W4 _ _ _ _ _ HM4.out.both.disk (by have := HP.out.waits; omega) x.pa x.pg x.po x.pc x.bs (by omega) HX.out.pad (fun j hj => by rw [HM4.out.below.cell (by exact block_lt_of_cell (HX.out.pcell j hj))]; exact HX.out.pcell j hj) (fun hne hf => by have h1 := (HM4.out.both.disk.footN hf).1; have h2 := hpg hne; omega))
          clear hpg hbs
          refine HCr.out.mono ?_
          rintro e w5 ⟨rfl, hd5, hk5⟩
          have hM5 := HM4.out.call (HM4.out.both.disked hd5 hk5 fun _ h => by cases h) (hk5.wider fun _ h => .inr (.inr h)) (fun _ h => by
            rcases h with h | h | h | h | h
            · exact .inl (.inl h)
            · exact .inl (.inr (.inl h))
            · exact .inl (.inr (.inr (.inl h)))
            · exact .inl (.inr (.inr (.inr (.inl h))))
            · cases h) (fun _ h _ => .inl h)
          obtain ⟨hgr, hcr⟩ := HP.out.crash (by omega) x.bs
          have HCP := Lib.hid hcr
          have HGr := Lib.hid hgr
          have HM5 := Lib.hid hM5
          have HOx := Lib.hid (open_any w5 hM5.both.disk rfl (HT.out.below hM5.below h0) (by omega) (by omega))
          clear hd5 hk5 hM5 hcr hgr HCr HM4
          go_wp2_with fail
          refine HOx.out.mono ?_
          rintro e w6 ⟨b2, ra2, ps2, T2, l2, rfl, hbo6, hrd2, hst2, hb6, hbw2, hown2, hnew2⟩
          have hM6 := HM5.out.call hbo6 (KeptF.of_below hb6) (fun j hj => by
            rcases hj with hj | hj | hj
            · exact .inr (by omega)
            · exact .inr (hown2 j hj)
            · exact .inl (.inr (.inr hj))) (fun q hq hne => .inr (hnew2 q hq hne))
          have HM6 := Lib.hid hM6
          have HRd2 := Lib.hid hrd2
          have HSt2 := Lib.hid hst2
          have HOy := Lib.hid (open_any w6 hM6.both.disk rfl (HT.out.below hM6.below h0) (by omega) (by have := HGr.out; omega))
          clear hbo6 hrd2 hst2 hb6 hbw2 hown2 hnew2 hM6 HOx HM5
          go_wp2_with fail
          refine HOy.out.mono ?_
          rintro e w7 ⟨b3, ra3, ps3, T3, l3, rfl, hbo7, hrd3, hst3, hb7, _, _, _⟩
          have hdet : txs ps2 = txs ps3 := (HRd2.out.det (by rw [len_txs, Nat.add_comm]; exact HSt2.out) hrd3 (by rw [len_txs, Nat.add_comm]; exact hst3)).1
          have HDet := Lib.hid hdet
          have HM7 := Lib.hid (HM6.out.more hb7)
          have HBy := Lib.hid hbo7
          clear hbo7 hrd3 hst3 hb7 hdet HOy HM6
          have HR1 := Lib.hid (records_any w7 HM7.out.both)
          go_wp2_with fail
          refine HR1.out.mono ?_
          rintro e w8 ⟨qs1, rfl, hqt1, hql1, hqi1, _, _, _, hb8⟩
          have HR2 := Lib.hid (records_any w8 (HBy.out.below hb8))
          have HM8 := Lib.hid (HM7.out.more hb8)
          have HQ1 := Lib.hid hqi1
          have HQT1 := Lib.hid hqt1
          have HQL1 := Lib.hid hql1
          have hf2 := HM7.out.both.few
          clear hqi1 hqt1 hql1 hb8 HR1 HM7
          go_wp2_with fail
          refine HR2.out.mono ?_
          rintro e w9 ⟨qs2, rfl, hqt2, hql2, hqi2, _, _, _, hb9⟩
          have hS1 := same_any w9 qs1 qs2 (some ⟨w7.heap.size, 0, none⟩) (some ⟨w8.heap.size, 0, none⟩) w7.heap.size 0 ps2.length w8.heap.size 0 ps3.length (HQ1.out.below hb9) hqi2 (by have := HQL1.out; unfold maxLen; omega) (by have := congrArg List.length HDet.out; simp only [txs, List.length_map] at this; unfold maxLen; omega)
          rw [decide_eq_true (HQT1.out.trans (HDet.out.trans hqt2.symm)), HQL1.out, hql2] at hS1
          have HS1 := Lib.hid hS1
          have HM9 := Lib.hid (HM8.out.more hb9)
          clear hqt2 hql2 hqi2 hb9 hS1 HR2 HM8 HQ1 HQT1 HQL1 HBy
          go_wp2_with fail
          refine HS1.out.mono ?_
          rintro e w10 ⟨rfl, hb10⟩
          have HM10 := Lib.hid (HM9.out.more hb10)
          clear hb10 HS1 HM9
          obtain ⟨hrec, hP10⟩ := HCP.out (txs ps2) T2 l2 HRd2.out (by rw [len_txs]; exact HSt2.out)
          have HP10 := Lib.hid hP10
          have HRec := Lib.hid hrec
          clear hrec hP10 HCP HRd2 HSt2 HDet
          cases oo with
          | false =>
            have htx6 : txs ws = txs ps2 := by
              rcases HRec.out with h | ⟨h, _⟩
              · rw [HTx.out, h]
              · cases h
            have HT6 := Lib.hid htx6
            clear htx6 HRec
            have hrs2 : ps2.length ≤ k + 1 := by have := HP10.out.hr; rwa [len_txs] at this
            have HR3 := Lib.hid (records_any w10 HM10.out.both)
            go_wp2_with fail
            refine HR3.out.mono ?_
            rintro e w12 ⟨qs3, rfl, hqt3, hql3, hqi3, _, _, _, hb12⟩
            have hM12 := HM10.out.more hb12
            obtain ⟨ap, gp, cp, rfl, hwp⟩ := hM12.wslice
            have hf3 := hM12.both.few
            have hwl3 : ws.length ≤ k + 1 := by have := congrArg List.length HT6.out; simp only [txs, List.length_map] at this; omega
            have hS3 := same_any w12 qs3 ws (some ⟨w10.heap.size, 0, none⟩) ap w10.heap.size 0 ps2.length gp 0 cp hqi3 hwp (by unfold maxLen; omega) (by unfold maxLen; omega)
            rw [decide_eq_true (hqt3.trans (HT6.out).symm), hql3] at hS3
            have HS3 := Lib.hid hS3
            have HM12 := Lib.hid hM12
            clear hqt3 hql3 hqi3 hb12 hwp hS3 hM12 HR3 hf3
            go_wp2_with fail
            refine HS3.out.mono ?_
            rintro e w13 ⟨rfl, hb13⟩
            have hM13 := HM12.out.more hb13
            have HHd := Lib.hid (head_any' w13 hM13.both)
            have HM13 := Lib.hid hM13
            clear hb13 HS3 HM12 hM13
            have hpart0 := fun w => fieldHash (folded z32 ps2) (ps2.length : Int) (lenF ps2) w
            have hneq0 := fun w => neqHash (folded z32 ps2) (folded z32 ps2) (lenF ps2) (lenF ps2) w
            have hgu0 := fun w x y => guardHash .neq (folded z32 ps2) (folded z32 ps2) x y w
            simp only [beq_self_eq_true, Bool.not_true] at hneq0
            unfold HV at HHd
            obtain ⟨V, hV⟩ : ∃ V, Value.agg ((folded z32 ps2).map B).toArray = V := ⟨_, rfl⟩
            rw [hV] at hpart0 hneq0 hgu0
            have HV2 := Lib.hid hV
            obtain ⟨D, hD⟩ : ∃ D, (HC (folded z32 ps2) (ps2.length : Int)).toArray = D := ⟨_, rfl⟩
            rw [hD] at hpart0 HHd
            clear hV hD
            go_wp2_with fail
            refine HHd.out.mono ?_
            rintro e w14 ⟨rfl, hb14⟩
            have hM14 := HM13.out.more hb14
            obtain ⟨ap2, gp2, cp2, hwe, hwp⟩ := hM14.wslice
            have hRH := refHash_any w14 ws ap2 gp2 0 cp2 hwp hM14.wnil (by have := lt_block hM14.both.blk; omega) (fun q hq => by have := hM14.wlen q hq; omega) (by omega)
            rw [← hwe, folded_txs ws ps2 z32 (HT6.out), HV2.out] at hRH
            have HRH := Lib.hid hRH
            have HM14 := Lib.hid hM14
            clear hb14 hwe hwp hRH HHd HM13 hM14
            go_wp2_with fail
            refine HRH.out.mono ?_
            rintro e w15 ⟨rfl, hb15⟩
            have HM15 := Lib.hid (HM14.out.more hb15)
            clear hb15 HRH HM14
            go_wp2_with fail
            go_roundw
            case rel => exact ⟨k + 1, .slice none 0 0, s.crash x.bs, b2, ra2, ps2, T2.length, _, false, ws, by omega, by go_num, rfl, rfl, HM15.out, HP10.out, HT6.out⟩
            case measure => simp [intOf]; omega
          | true =>
            have HRx := Lib.hid (records_any w10 HM10.out.both)
            go_wp2_with fail
            refine HRx.out.mono ?_
            rintro e w11 ⟨qs4, rfl, _, _, _, _, _, _, hb11⟩
            have HM11 := Lib.hid (HM10.out.more hb11)
            clear hb11 HRx HM10
            have hlenF : ∀ W, (Builtin.len_ #[31] 3 #[u6]).run Tryd.prog W = .ok (.int .i64 (ws.length : Int)) W := by
              obtain ⟨ap0, gp0, cp0, hu6, _⟩ := HM11.out.wslice
              intro W
              rw [hu6, run_len_slice (P := Tryd.prog) W 31 3 ap0 ws.length cp0 (by kernel_rfl)]
              rfl
            have hwsl : ws.length = ps.length := by have := congrArg List.length HTx.out; simpa only [txs, List.length_map] using this
            have hwb : ws.length ≤ 8000 := by omega
            rcases HRec.out with h | ⟨_, c, hcv, hci, hcn, hcl, h⟩
            · have HT6 : Hid (txs ws = txs ps2) := Lib.hid (by rw [HTx.out, h])
              have hpl : ps2.length = ps.length := by have := congrArg List.length h; simpa only [txs, List.length_map] using this
              have hdl : ((ps2.length : Int) == (ws.length : Int) + 1) = false := by simp; omega
              have hdl2 : (ps2.length == ws.length + 1) = false := by simp; omega
              clear h HRec hpl hwsl
              have hrs2 : ps2.length ≤ k + 1 := by have := HP10.out.hr; rwa [len_txs] at this
              have HR3 := Lib.hid (records_any w11 HM11.out.both)
              go_wp2_with fail
              refine HR3.out.mono ?_
              clear hdl hdl2 hlenF
              rintro e w12 ⟨qs3, rfl, hqt3, hql3, hqi3, _, _, _, hb12⟩
              have hM12 := HM11.out.more hb12
              obtain ⟨ap, gp, cp, rfl, hwp⟩ := hM12.wslice
              have hf3 := hM12.both.few
              have hwl3 : ws.length ≤ k + 1 := by have := congrArg List.length HT6.out; simp only [txs, List.length_map] at this; omega
              have hS3 := same_any w12 qs3 ws (some ⟨w11.heap.size, 0, none⟩) ap w11.heap.size 0 ps2.length gp 0 cp hqi3 hwp (by unfold maxLen; omega) (by unfold maxLen; omega)
              rw [decide_eq_true (hqt3.trans (HT6.out).symm), hql3] at hS3
              have HS3 := Lib.hid hS3
              have HM12 := Lib.hid hM12
              clear hqt3 hql3 hqi3 hb12 hwp hS3 hM12 HR3 hf3
              go_wp2_with fail
              refine HS3.out.mono ?_
              rintro e w13 ⟨rfl, hb13⟩
              have hM13 := HM12.out.more hb13
              have HHd := Lib.hid (head_any' w13 hM13.both)
              have HM13 := Lib.hid hM13
              clear hb13 HS3 HM12 hM13
              have hpart0 := fun w => fieldHash (folded z32 ps2) (ps2.length : Int) (lenF ps2) w
              have hneq0 := fun w => neqHash (folded z32 ps2) (folded z32 ps2) (lenF ps2) (lenF ps2) w
              have hgu0 := fun w x y => guardHash .neq (folded z32 ps2) (folded z32 ps2) x y w
              simp only [beq_self_eq_true, Bool.not_true] at hneq0
              unfold HV at HHd
              obtain ⟨V, hV⟩ : ∃ V, Value.agg ((folded z32 ps2).map B).toArray = V := ⟨_, rfl⟩
              rw [hV] at hpart0 hneq0 hgu0
              have HV2 := Lib.hid hV
              obtain ⟨D, hD⟩ : ∃ D, (HC (folded z32 ps2) (ps2.length : Int)).toArray = D := ⟨_, rfl⟩
              rw [hD] at hpart0 HHd
              clear hV hD
              go_wp2_with fail
              refine HHd.out.mono ?_
              rintro e w14 ⟨rfl, hb14⟩
              have hM14 := HM13.out.more hb14
              obtain ⟨ap2, gp2, cp2, hwe, hwp⟩ := hM14.wslice
              have hRH := refHash_any w14 ws ap2 gp2 0 cp2 hwp hM14.wnil (by have := lt_block hM14.both.blk; omega) (fun q hq => by have := hM14.wlen q hq; omega) (by omega)
              rw [← hwe, folded_txs ws ps2 z32 (HT6.out), HV2.out] at hRH
              have HRH := Lib.hid hRH
              have HM14 := Lib.hid hM14
              clear hb14 hwe hwp hRH HHd HM13 hM14
              go_wp2_with fail
              refine HRH.out.mono ?_
              rintro e w15 ⟨rfl, hb15⟩
              have HM15 := Lib.hid (HM14.out.more hb15)
              clear hb15 HRH HM14
              go_wp2_with fail
              go_roundw
              case rel => exact ⟨k + 1, .slice none 0 0, s.crash x.bs, b2, ra2, ps2, T2.length, _, false, ws, by omega, by go_num, rfl, rfl, HM15.out, HP10.out, HT6.out⟩
              case measure => simp [intOf]; omega
            · subst hcv
              have hpl : ps2.length = ps.length + 1 := by have := congrArg List.length h; simpa only [txs, List.length_map, List.length_append, List.length_singleton] using this
              have hdl : ((ps2.length : Int) == (ws.length : Int) + 1) = true := by simp; omega
              have hdl2 : (ps2.length == ws.length + 1) = true := by simp; omega
              have HCI : Hid (c.In w ∧ (c.ad = none → c.cap = 0) ∧ c.l.length ≤ 4096 ∧ True) := Lib.hid ⟨hci, hcn, hcl, trivial⟩
              have HT6 : Hid (txs (ws ++ [c]) = txs ps2) := Lib.hid (by
                rw [h, ← HTx.out]
                unfold txs
                rw [List.map_append, List.map_singleton])
              clear h HRec hpl hwsl hci hcn hcl
              unfold Part.val
              unfold Part.val at HP10
              have HO2 := Lib.hid (own_same (w' := w11.alloc (.cells #[.slice c.ad c.l.length c.cap] 32)) HM11.out.row fun g hg => (Below.heap_alloc _ _ _ (HM11.out.row.lt g hg).2))
              have hNw := HM11.out.both.bN
              have hNs := lt_block HM11.out.both.blk
              have hwl : ws.length ≤ 8000 := by have := congrArg List.length HTx.out; simp only [txs, List.length_map] at this; omega
              go_wp2_with (at_builtin; refine wpList_append_lies _ rfl (.tmp 122) (.tmp 124) 31 rfl w1.heap.size 32 i0 (.slice none 0 0) 1 24 Tryd.underlying31 hi hz0 hz1 hz2 rfl (by decide) _ ws.length (ws.map Part.val) rfl HO2.out ⟨w11.heap.size, 0, none⟩ 1 1 [.slice c.ad c.l.length c.cap] rfl rfl ?r1 ?r2 (by decide) (by unfold maxLen; omega) (by omega) (by simp; omega) _ rfl ?_)
              case r2 => intro u hu; obtain rfl := List.mem_singleton.1 hu; rfl
              case r1 =>
                intro jj u hjj
                rw [Addr.add_mid, Nat.zero_add, cell_block (heap_alloc_new w11 _)]
                simpa using hjj
              intro gw cw w6 hown hgrow hgw _
              have HM6 := Lib.hid (HM11.out.want c HCI.out.1 HCI.out.2.1 HCI.out.2.2.1 hown hgrow hgw)
              clear hown hgrow hgw HO2 hNw hNs
              obtain ⟨wv6, hwv6⟩ : ∃ v, Value.slice (some ⟨gw, 0, none⟩) (ws.length + 1) cw = v := ⟨_, rfl⟩
              rw [hwv6] at HM6 ⊢
              clear hwv6
              obtain ⟨ws6, hws6⟩ : ∃ ws6, ws ++ [c] = ws6 := ⟨_, rfl⟩
              rw [hws6] at HM6 HT6
              clear hws6 HM11 hdl hdl2 hwl hlenF
              have hrs2 : ps2.length ≤ k + 1 := by have := HP10.out.hr; rwa [len_txs] at this
              have HR3 := Lib.hid (records_any w6 HM6.out.both)
              go_wp2_with fail
              refine HR3.out.mono ?_
              rintro e w12 ⟨qs3, rfl, hqt3, hql3, hqi3, _, _, _, hb12⟩
              have hM12 := HM6.out.more hb12
              obtain ⟨ap, gp, cp, rfl, hwp⟩ := hM12.wslice
              have hf3 := hM12.both.few
              have hwl3 : ws6.length ≤ k + 1 := by have := congrArg List.length HT6.out; simp only [txs, List.length_map] at this; omega
              have hS3 := same_any w12 qs3 ws6 (some ⟨w6.heap.size, 0, none⟩) ap w6.heap.size 0 ps2.length gp 0 cp hqi3 hwp (by unfold maxLen; omega) (by unfold maxLen; omega)
              rw [decide_eq_true (hqt3.trans (HT6.out).symm), hql3] at hS3
              have HS3 := Lib.hid hS3
              have HM12 := Lib.hid hM12
              clear hqt3 hql3 hqi3 hb12 hwp hS3 hM12 HR3 hf3
              go_wp2_with fail
              refine HS3.out.mono ?_
              rintro e w13 ⟨rfl, hb13⟩
              have hM13 := HM12.out.more hb13
              have HHd := Lib.hid (head_any' w13 hM13.both)
              have HM13 := Lib.hid hM13
              clear hb13 HS3 HM12 hM13
              have hpart0 := fun w => fieldHash (folded z32 ps2) (ps2.length : Int) (lenF ps2) w
              have hneq0 := fun w => neqHash (folded z32 ps2) (folded z32 ps2) (lenF ps2) (lenF ps2) w
              have hgu0 := fun w x y => guardHash .neq (folded z32 ps2) (folded z32 ps2) x y w
              simp only [beq_self_eq_true, Bool.not_true] at hneq0
              unfold HV at HHd
              obtain ⟨V, hV⟩ : ∃ V, Value.agg ((folded z32 ps2).map B).toArray = V := ⟨_, rfl⟩
              rw [hV] at hpart0 hneq0 hgu0
              have HV2 := Lib.hid hV
              obtain ⟨D, hD⟩ : ∃ D, (HC (folded z32 ps2) (ps2.length : Int)).toArray = D := ⟨_, rfl⟩
              rw [hD] at hpart0 HHd
              clear hV hD
              go_wp2_with fail
              refine HHd.out.mono ?_
              rintro e w14 ⟨rfl, hb14⟩
              have hM14 := HM13.out.more hb14
              obtain ⟨ap2, gp2, cp2, hwe, hwp⟩ := hM14.wslice
              have hRH := refHash_any w14 ws6 ap2 gp2 0 cp2 hwp hM14.wnil (by have := lt_block hM14.both.blk; omega) (fun q hq => by have := hM14.wlen q hq; omega) (by omega)
              rw [← hwe, folded_txs ws6 ps2 z32 (HT6.out), HV2.out] at hRH
              have HRH := Lib.hid hRH
              have HM14 := Lib.hid hM14
              clear hb14 hwe hwp hRH HHd HM13 hM14
              go_wp2_with fail
              refine HRH.out.mono ?_
              rintro e w15 ⟨rfl, hb15⟩
              have HM15 := Lib.hid (HM14.out.more hb15)
              clear hb15 HRH HM14
              go_wp2_with fail
              go_roundw
              case rel => exact ⟨k + 1, .slice none 0 0, s.crash x.bs, b2, ra2, ps2, T2.length, _, false, ws6, by omega, by go_num, rfl, rfl, HM15.out, HP10.out, HT6.out⟩
              case measure => simp [intOf]; omega

        · have hpin : x.p.In W4 := HX.out.inn.below HM4.out.below
          have hgen := HP.out.hg
          have hrs := HP.out.hr
          rw [len_txs] at hrs
          have hwN := HM4.out.wN
          have HAp := append_any W4 HM4.out.both (HT.out.below HM4.out.below h0) (by omega) x.p hpin (by omega) (fun hne hj => by have h1 := (HM4.out.both.jlt hj).1; have h2 := HX.out.inn.lt; omega) HP.out.room_le (by have := HP.out.waits; omega) HP.out.fu (by omega) (by omega)
          have HAp2 := Lib.hid HAp
          unfold Part.val at HAp2
          clear hpin HAp
          refine HAp2.out.mono ?_
          rintro e w5 ⟨c, v', s', ra', ps', room', o', rfl, hap, hbo5, hk5, hj5, hp5⟩
          have HM5 := Lib.hid (HM4.out.call hbo5 hk5 hj5 hp5)
          obtain ⟨hP5, hout⟩ := HP.out.append (by omega) x.p HX.out.inn HX.out.nil hap
          have HP5 := Lib.hid hP5
          have HG5 := Lib.hid (hk5.heap HG4.out (fun hj => by have := HJl.out _ hj; omega))
          clear hbo5 hk5 hj5 hp5 hap hP5 HAp2
          have c52 := cell_in HG5.out 2 _ rfl
          have HTx5 := Lib.hid hout
          rcases hout with ⟨rfl, htx5, rfl, rfl, hl4⟩ | ⟨hc0, hc5, htx5, rfl, rfl⟩ | ⟨rfl, htx5, rfl⟩
          · have HO1 := Lib.hid (own_same (w' := w5.alloc (.cells #[.slice x.p.ad x.p.l.length x.p.cap] 32)) HM5.out.row fun g hg => (Below.heap_alloc _ _ _ (HM5.out.row.lt g hg).2))
            have hNw := HM5.out.both.bN
            have hNs := lt_block HM5.out.both.blk
            have hwl : ws.length ≤ 8000 := by have := congrArg List.length HTx.out; simp only [txs, List.length_map] at this; omega
            go_wp2_with (at_builtin; refine wpList_append_lies _ rfl (.tmp 51) (.tmp 54) 31 rfl w1.heap.size 32 i0 (.slice none 0 0) 1 24 Tryd.underlying31 hi hz0 hz1 hz2 rfl (by decide) _ ws.length (ws.map Part.val) rfl HO1.out ⟨w5.heap.size, 0, none⟩ 1 1 [.slice x.p.ad x.p.l.length x.p.cap] rfl rfl ?q1 ?q2 (by decide) (by unfold maxLen; omega) (by omega) (by simp; omega) _ rfl ?_)
            case q2 => intro u hu; obtain rfl := List.mem_singleton.1 hu; rfl
            case q1 =>
              intro jj u hjj
              rw [Addr.add_mid, Nat.zero_add, cell_block (heap_alloc_new w5 _)]
              simpa using hjj
            intro gw cw w6 hown hgrow hgw _
            have HM6 := Lib.hid (HM5.out.want x.p HX.out.inn HX.out.nil hl4 hown hgrow hgw)
            clear hown hgrow hgw HO1 hNw hNs
            obtain ⟨wv6, hwv6⟩ : ∃ v, Value.slice (some ⟨gw, 0, none⟩) (ws.length + 1) cw = v := ⟨_, rfl⟩
            rw [hwv6] at HM6 ⊢
            clear hwv6
            have htx6 : txs (ws ++ [x.p]) = txs ps' := by
              rw [htx5, ← HTx.out]
              unfold txs
              rw [List.map_append, List.map_singleton]
            have HT6 := Lib.hid htx6
            have HP6 : Hid (CrP w (k + 1) s' room' gen false (txs ps') u7) := Lib.hid ⟨HP5.out.clean, (fun e => by cases e), HP5.out.hg, HP5.out.hr, HP5.out.h300, HP5.out.fu⟩
            clear HP5
            have HP5 := HP6
            clear HP6
            clear HM5 c52 HG5 htx6 htx5 hwl
            obtain ⟨ws6, hws6⟩ : ∃ ws6, ws ++ [x.p] = ws6 := ⟨_, rfl⟩
            rw [hws6] at HM6 HT6
            clear hws6
            have HOv := Lib.hid (over_any' w6 HM6.out.both)
            go_wp2_with fail
            refine HOv.out.mono ?_
            rintro e w7 ⟨rfl, rfl⟩
            clear HOv
            have HRc := Lib.hid (records_any w6 HM6.out.both)
            go_wp2_with fail
            refine HRc.out.mono ?_
            rintro e w8 ⟨qs, rfl, hqt, hqlen, hqin, _, _, _, hb8⟩
            have hM8 := HM6.out.more hb8
            obtain ⟨ap, gp, cp, rfl, hwp⟩ := hM8.wslice
            have HM8 := Lib.hid hM8
            have hfewq := hM8.both.few
            have hSm := same_any w8 qs ws6 (some ⟨w6.heap.size, 0, none⟩) ap w6.heap.size 0 ps'.length gp 0 cp hqin hwp (by unfold maxLen; omega) (by have := congrArg List.length (HT6.out); simp only [txs, List.length_map] at this; unfold maxLen; omega)
            rw [decide_eq_true (hqt.trans (HT6.out).symm), hqlen] at hSm
            have HSm := Lib.hid hSm
            clear hqt hqlen hqin hb8 hwp hSm hM8 HRc hfewq
            go_wp2_with fail
            refine HSm.out.mono ?_
            rintro e w9 ⟨rfl, hb9⟩
            have HM9 := Lib.hid (HM8.out.more hb9)
            clear hb9 HSm HM8
            go_wp2_with fail
            go_roundw
            case rel => exact ⟨k + 1, v', s', b, ra', ps', room', gen, false, ws6, by omega, by go_num, rfl, rfl, HM9.out, HP5.out, HT6.out⟩
            case measure => simp [intOf]; omega
          · have hcz : (c == 0) = false := by simpa using hc0
            have hcf : (c == 5) = false := by simpa using hc5
            have htx6 : txs ws = txs ps' := by rw [htx5, HTx.out]
            have HP6 : Hid (CrP w (k + 1) s' room' gen false (txs ps') u7) := Lib.hid (HP.out.refuse HP5.out htx5)
            have HT6 := Lib.hid htx6
            clear HP5 HG5 c52 htx5 htx6
            have HP5 := HP6
            clear HP6
            have HOv := Lib.hid (over_any' w5 HM5.out.both)
            go_wp2_with fail
            refine HOv.out.mono ?_
            rintro e w7 ⟨rfl, rfl⟩
            clear HOv
            have HRc := Lib.hid (records_any w5 HM5.out.both)
            go_wp2_with fail
            refine HRc.out.mono ?_
            rintro e w8 ⟨qs, rfl, hqt, hqlen, hqin, _, _, _, hb8⟩
            have hM8 := HM5.out.more hb8
            obtain ⟨ap, gp, cp, rfl, hwp⟩ := hM8.wslice
            have HM8 := Lib.hid hM8
            have hfewq := hM8.both.few
            have hSm := same_any w8 qs ws (some ⟨w5.heap.size, 0, none⟩) ap w5.heap.size 0 ps'.length gp 0 cp hqin hwp (by unfold maxLen; omega) (by have := congrArg List.length (HT6.out); simp only [txs, List.length_map] at this; unfold maxLen; omega)
            rw [decide_eq_true (hqt.trans (HT6.out).symm), hqlen] at hSm
            have HSm := Lib.hid hSm
            clear hqt hqlen hqin hb8 hwp hSm hM8 HRc hfewq
            go_wp2_with fail
            refine HSm.out.mono ?_
            rintro e w9 ⟨rfl, hb9⟩
            have HM9 := Lib.hid (HM8.out.more hb9)
            clear hb9 HSm HM8
            go_wp2_with fail
            go_roundw
            case rel => exact ⟨k + 1, v', s', b, ra', ps', room', gen, false, ws, by omega, by go_num, rfl, rfl, HM9.out, HP5.out, HT6.out⟩
            case measure => simp [intOf]; omega
          · have htx6 : txs ws = txs ps' := by rw [htx5, HTx.out]
            have HT6 := Lib.hid htx6
            clear HG5 htx5 htx6
            cases oo with
            | true =>
              simp only [if_true] at HP5
              have HOv := Lib.hid (over_any' w5 HM5.out.both)
              go_wp2_with fail
              refine HOv.out.mono ?_
              rintro e w7 ⟨rfl, rfl⟩
              clear HOv
              have HRc := Lib.hid (records_any w5 HM5.out.both)
              go_wp2_with fail
              refine HRc.out.mono ?_
              rintro e w8 ⟨qs, rfl, hqt, hqlen, hqin, _, _, _, hb8⟩
              have hM8 := HM5.out.more hb8
              obtain ⟨ap, gp, cp, rfl, hwp⟩ := hM8.wslice
              have HM8 := Lib.hid hM8
              have hfewq := hM8.both.few
              have hSm := same_any w8 qs ws (some ⟨w5.heap.size, 0, none⟩) ap w5.heap.size 0 ps'.length gp 0 cp hqin hwp (by unfold maxLen; omega) (by have := congrArg List.length (HT6.out); simp only [txs, List.length_map] at this; unfold maxLen; omega)
              rw [decide_eq_true (hqt.trans (HT6.out).symm), hqlen] at hSm
              have HSm := Lib.hid hSm
              clear hqt hqlen hqin hb8 hwp hSm hM8 HRc hfewq
              go_wp2_with fail
              refine HSm.out.mono ?_
              rintro e w9 ⟨rfl, hb9⟩
              have HM9 := Lib.hid (HM8.out.more hb9)
              clear hb9 HSm HM8
              go_wp2_with fail
              go_roundw
              case rel => exact ⟨k + 1, v', s', b, ra', ps', room', gen, true, ws, by omega, by go_num, rfl, rfl, HM9.out, HP5.out, HT6.out⟩
              case measure => simp [intOf]; omega
            | false =>
              simp only [Bool.false_eq_true, if_false] at HP5
              unfold Part.val at HP5
              have HOv := Lib.hid (over_any' w5 HM5.out.both)
              go_wp2_with fail
              refine HOv.out.mono ?_
              rintro e w7 ⟨rfl, rfl⟩
              clear HOv
              have HRc := Lib.hid (records_any w5 HM5.out.both)
              go_wp2_with fail
              refine HRc.out.mono ?_
              rintro e w8 ⟨qs, rfl, hqt, hqlen, hqin, _, _, _, hb8⟩
              have hM8 := HM5.out.more hb8
              obtain ⟨ap, gp, cp, rfl, hwp⟩ := hM8.wslice
              have HM8 := Lib.hid hM8
              have hfewq := hM8.both.few
              have hSm := same_any w8 qs ws (some ⟨w5.heap.size, 0, none⟩) ap w5.heap.size 0 ps'.length gp 0 cp hqin hwp (by unfold maxLen; omega) (by have := congrArg List.length (HT6.out); simp only [txs, List.length_map] at this; unfold maxLen; omega)
              rw [decide_eq_true (hqt.trans (HT6.out).symm), hqlen] at hSm
              have HSm := Lib.hid hSm
              clear hqt hqlen hqin hb8 hwp hSm hM8 HRc hfewq
              go_wp2_with fail
              refine HSm.out.mono ?_
              rintro e w9 ⟨rfl, hb9⟩
              have HM9 := Lib.hid (HM8.out.more hb9)
              clear hb9 HSm HM8
              go_wp2_with fail
              go_roundw
              case rel => exact ⟨k + 1, v', s', b, ra', ps', room', gen, true, ws, by omega, by go_num, rfl, rfl, HM9.out, HP5.out, HT6.out⟩
              case measure => simp [intOf]; omega

      · have hd : decide ((k : Int) < (l.length : Int)) = false := by simp; omega
        go_wp2_with fail
        go_ret
        exact ⟨rfl, HM.out.below⟩
end Go.Proofs.YtjeopjajcdbncaaDoor
namespace Go.Proofs.YtjeopjajcdbncaaDoor
open Go.ChangeShapes Go.WideShapes Go.ChangeAt Go.RowKit Go.Deep

set_option maxRecDepth 100000 in
theorem hash_of_arg {H : Type} {enc : TypeId × Value → H} {w : World} {base : Nat} {spare : Nat → Bool} {held : Bool} {r : Reach} {b0 : Nat} {v : Value} {d : DataW H} {p : List MemPlace}
    (hv : Value.okWide Tryd.prog w r b0 40 v) (h : DataW.Trod enc Tryd.prog w base spare held 40 v d p) : ∃ P : List UInt8, P.length = 32 ∧ v = .agg (P.map B).toArray := by
  simp only [Value.okWide, Tryd.underlying40] at hv
  obtain ⟨cs, rfl, hsz, _⟩ := hv
  obtain ⟨fuel, hf⟩ := h
  obtain ⟨xs, m, _, _, hlen, hxl, hel⟩ := DataW.trod_array Tryd.underlying40 hf
  have c32 : Tryd.prog.cellsOf 40 = 32 := by kernel_rfl
  have c1 : Tryd.prog.cellsOf 5 = 1 := by kernel_rfl
  rw [c32] at hsz
  have hcs : (Value.cells (.agg cs)).toList = cs.toList := by simp [Value.cells]
  rw [hcs] at hel
  have hn : ∀ i, i < 32 → ∃ n : Int, cs.toList[i]? = some (.int .u8 n) ∧ 0 ≤ n ∧ n ≤ 255 := by
    intro i hi
    have h1 := hel i hi
    rw [c1, Nat.mul_one, List.getElem?_eq_getElem (by omega)] at h1
    obtain ⟨n, e, _, wn⟩ := DataW.trod_int Tryd.underlying5 h1
    have hb := bounds_u8 wn
    refine ⟨n, ?_, hb.1, hb.2⟩
    have hi' : i < cs.toList.length := by simp; omega
    rw [List.drop_eq_getElem_cons hi'] at e
    simp at e
    rw [List.getElem?_eq_getElem hi']
    simp [e]
  obtain ⟨f, hf'⟩ := choose_lt hn
  refine ⟨(List.range 32).map fun i => UInt8.ofNat (f i).toNat, by simp, ?_⟩
  congr 1
  apply Array.toList_inj.1
  apply List.ext_getElem?
  intro i
  rcases Nat.lt_or_ge i 32 with hi | hi
  · obtain ⟨h1, h2, h3⟩ := hf' i hi
    rw [h1]
    simp [hi]
    omega
  · rw [List.getElem?_eq_none (by simp; omega), List.getElem?_eq_none (by simp; omega)]
end Go.Proofs.YtjeopjajcdbncaaDoor
namespace Go.Proofs.YtjeopjajcdbncaaDoor
open Go.ChangeShapes Go.WideShapes Go.ChangeAt Go.RowKit Go.Deep

set_option maxRecDepth 100000 in
theorem bint_of_arg {H : Type} {enc : TypeId × Value → H} {w : World} {base : Nat} {spare : Nat → Bool} {held : Bool} {r : Reach} {b0 : Nat} {v : Value} {d : DataW H} {p : List MemPlace} (hv : Value.okWide Tryd.prog w r b0 3 v) (h : DataW.Trod enc Tryd.prog w base spare held 3 v d p) : ∃ n : Int, v = .int .i64 n ∧ (Lit.int .i64 n).wf = true := by
  obtain ⟨n, rfl, _, _, wn⟩ := open_int Tryd.underlying3 hv h
  exact ⟨n, rfl, wn⟩
end Go.Proofs.YtjeopjajcdbncaaDoor
