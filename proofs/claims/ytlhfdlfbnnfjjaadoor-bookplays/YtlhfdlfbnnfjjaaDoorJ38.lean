/- BookPlays' walk; A fingerprint that came in; Numbers that came in. -/
import Derived.Test.YtlhfdlfbnnfjjaaDoorJ37
import Derived.Test.YtlhfdlfbnnfjjaaDoorJ19
import Derived.ChangeSame
namespace Go.Proofs.YtlhfdlfbnnfjjaaDoor
open Go.RowKit

set_option maxRecDepth 100000 in
set_option maxHeartbeats 8000000 in
theorem bookPlays_walk (w : World) (ht : Tab w) (sn : Nat) (hsn : sn < 256) (ad : Option Addr) (g o cap : Nat) (l : List COp) (h : OpsAt w ad g o l) (hop : ∀ x ∈ l, COpOk w x) (hm : l.length ≤ maxLen) :
    Calls Tryd.prog 3 #[.int .u8 (sn : Int), .slice ad l.length cap] w fun e w' => e = .returned (.bool true) ∧ Below w.heap.size w w' := by
  have HT := Lib.hid ht
  have h0 := ht.size
  have HA := Lib.hid (awake_any w ht)
  have H := Lib.hid h
  have HOp := Lib.hid hop
  have HFew : Hid (∀ W, Below w.heap.size w W → _) := Lib.hid fun W hW => few6_any W ad g o cap l (h.below hW) hm fun x hx => ⟨(hop x hx).most, (hop x hx).pmost⟩
  obtain ⟨R, hR⟩ : ∃ R, sn % 200 = R := ⟨_, rfl⟩
  have hR200 : R < 200 := by omega
  have hmod : ((sn : Int).tmod 200) = (R : Int) := by rw [Int.tmod_eq_emod_of_nonneg (by omega), ← hR]; omega
  clear ht h hop hR
  unfold maxLen at hm
  obtain ⟨i0, hi, hz0, hz1, hz2⟩ := info_parts info_row
  go_enter Tryd.func3, Tryd.ntmps3
  go_wp2_with fail
  refine HA.out.mono ?_
  rintro e w1 ⟨rfl, hb1⟩
  have HB1 := Lib.hid hb1
  have HF := Lib.hid (HFew.out w1 hb1)
  clear hb1 HA HFew
  go_wp2_with fail
  refine HF.out.mono ?_
  rintro e w1' ⟨r, rfl, rfl, hr⟩
  have HR := Lib.hid hr
  clear hr HF
  cases r with
  | false =>
    have HA2 := Lib.hid (awake_any w1 (HT.out.below HB1.out h0))
    go_wp2_with fail
    refine HA2.out.mono ?_
    rintro e w2 ⟨rfl, hb2⟩
    have HB2 := Lib.hid (HB1.out.trans (hb2.mono HB1.out.size))
    clear hb2
    go_wp2_with fail
    go_ret
    exact ⟨rfl, HB2.out⟩
  | true =>
    obtain ⟨hl30, hsz⟩ := HR.out rfl
    have HSz := Lib.hid hsz
    have hsec : secN (R : Int) = R := by unfold secN; omega
    have HN := dnew_any w1 (R : Int)
    rw [hsec] at HN
    have HN := Lib.hid HN
    clear hsz HR hsec
    go_wp2_with fail
    refine HN.out.mono ?_
    rintro e w2 ⟨rfl, hd2, hb2, hs2⟩
    have hsz1 := HB1.out.size
    have hb02 := HB1.out.trans (hb2.mono hsz1)
    have hgr : greatG ((DSt.new R).S.map rdS) = 0 := greatG_zeros R
    have HO := Lib.hid (open_any w2 hd2 rfl (HT.out.below hb02 h0) (by omega) (by rw [hgr]; omega))
    rw [hgr, Nat.zero_add] at HO
    have HB2 := Lib.hid hb02
    clear hd2 hb2 HN hgr hb02
    go_wp2_with fail
    refine HO.out.mono ?_
    rintro e w3 ⟨b, ra, ps, T, l', rfl, hbo, hrd, hst, hb3, hbw, hown, hnew⟩
    obtain ⟨e1, e2, e3⟩ := reads_zeros (zeros_n R) (Nat.le_refl _) hrd
    have hps : ps = [] := by cases ps with
      | nil => rfl
      | cons _ _ => cases e1
    subst hps
    have hTl : T.length = R := by rw [e2]; simp
    rw [hTl] at hbo
    have hb03 := HB2.out.trans (hb3.mono HB2.out.size)
    have HM0 : Hid (CrM w w1.heap.size (w1.heap.size + 1) w1.heap.size (.slice none 0 0) (DSt.new R) b ra [] R 1 false [] (.slice none 0 0) w3) := Lib.hid ⟨hbo, World.ownsRow_nil _ _ _ _, (fun p hp => absurd hp (by simp)), (fun p hp => absurd hp (by simp)), (fun p hp => absurd hp (by simp)), (fun g hg => by cases hg), (fun p hp => absurd hp (by simp)), hb03, hsz1⟩
    have HP0 : Hid (PlP 0 R (DSt.new R) (txs [])) := Lib.hid (PlP.start R)
    clear hbo hrd hst hb3 hbw hown hnew e1 e2 e3 HO hb03 HB2 hTl
    go_wp2_with fail
    go_loopw [8, 9, 10, 11, 12, 13] (fun wv rm i _ _ _ wr => ∃ (k : Nat) (v : Value) (s : DSt) (ra : Value) (ps : List Part) (room : Nat) (ws : List Part), k ≤ l.length ∧ i = .int .i64 k ∧ rm = .int .i64 (room : Int) ∧ room ≤ R ∧
      CrM w w1.heap.size (w1.heap.size + 1) w1.heap.size v s b ra ps room 1 false ws wv wr ∧ PlP k room s (txs ps) ∧ txs ws = txs ps ∧ s.S.length = R) (fun _ _ i _ _ _ _ => l.length - (intOf i).toNat)
    case atStart => exact ⟨0, _, _, _, _, _, _, by omega, rfl, rfl, Nat.le_refl _, HM0.out, HP0.out, rfl, by simp [DSt.new]⟩
    case round =>
      clear HM0 HP0
      obtain ⟨k, v, s, ra, ps, room, ws, hk, rfl, rfl, hroom, hM, hP, htx, hSR⟩ := hrel
      have HM := Lib.hid hM
      have HP := Lib.hid hP
      have HTx := Lib.hid htx
      have HSR := Lib.hid hSR
      clear hM hP htx hSR
      by_cases hlt : k < l.length
      · have hd : decide ((k : Int) < (l.length : Int)) = true := by simp; omega
        obtain rfl := H.out.addr (by intro e; rw [e] at hlt; cases hlt)
        have hx := HOp.out l[k] (List.getElem_mem hlt)
        have hxs := HSz.out l[k] (List.getElem_mem hlt)
        have hrg : wr.rangeAt g (o + k * 4) l[k].cells := fun j y hy => by
          have := (H.out.below HM.out.below).cell k hlt j (by simpa [COp.cells] using (List.getElem?_eq_some_iff.1 hy).1)
          rw [this, hy]
        generalize l[k] = x at *
        unfold COp.cells Part.val at hrg
        have HX := Lib.hid hx
        have HRg := Lib.hid hrg
        clear hx hrg
        have s4 : ∀ w, (sizeOf 35).run Tryd.prog w = .ok 4 w := fun _ => by kernel_rfl
        have i4 : (Tryd.prog.info? 35).map (·.size) = some 4 := by kernel_rfl
        go_wp2_with (refine wpList_load_mid rfl 35 (.tmp 47) rfl g (o + k * 4) rfl _ _ HRg.out Tryd.underlying35 rfl i4 ?_)
        generalize hW : World.alloc _ _ = W4 at *
        have hb4 : Below wr.heap.size wr W4 := by rw [← hW]; exact (Below.refl _ _).alloc (Nat.le_refl _) _
        have hg4 : W4.heap[wr.heap.size]? = some (.cells [.int .u8 x.kc, .int .i64 x.n, .slice x.p.ad x.p.l.length x.p.cap, .slice x.pa x.bs.length x.pc].toArray 35 (0, 0)) := by rw [← hW]; exact heap_alloc_new _ _
        have HJl : Hid (∀ k, J b ra (w1.heap.size + 1) w1.heap.size v k → k < wr.heap.size) := Lib.hid fun k hk => (HM.out.both.jlt hk).2
        have HCut := Lib.hid (refCut_any W4 x.p.ad x.p.l.length x.p.cap HX.out.inn.cap (by omega))
        have HM4 := Lib.hid (HM.out.more hb4)
        have HG4 := Lib.hid hg4
        have hs4 := hb4.size
        clear hW hb4 hg4 HRg HM
        refine HCut.out.mono ?_
        rintro e w5 ⟨ca, cc, rfl, hb5⟩
        have HM5 := Lib.hid (HM4.out.more hb5)
        have HG5 := Lib.hid ((hb5.block _ (lt_block HG4.out)).trans HG4.out)
        have c52 := cell_in HG5.out 2 _ rfl
        have hpin : x.p.In w5 := HX.out.inn.below HM5.out.below
        have hrs := HP.out.hr
        rw [len_txs] at hrs
        have hwN := HM5.out.wN
        have HAp := append_any w5 HM5.out.both (HT.out.below HM5.out.below h0) (by omega) x.p hpin (by omega) (fun hne hj => by have h1 := (HM5.out.both.jlt hj).1; have h2 := HX.out.inn.lt; omega) (by rw [HSR.out]; exact hroom) (by rw [HP.out.ws]; simp) (by have := HP.out.fu; omega) (by omega) (by omega)
        unfold Part.val at HAp
        have HAp := Lib.hid HAp
        have hbN5 := HM5.out.both.bN
        clear hpin hb5 HM4 HG4 HCut
        obtain ⟨n, hn⟩ : ∃ n, nParts x.p.l.length = n := ⟨_, rfl⟩
        have HNn := Lib.hid hn
        have hnle : n ≤ 2000 := by rw [← hn]; unfold nParts; omega
        clear hn
        rw [HNn.out]
        by_cases h4 : 4096 < x.p.l.length
        · have d4 : decide ((4096 : Int) < (x.p.l.length : Int)) = true := by simp; omega
          have d4' : decide (4096 < x.p.l.length) = true := by simp; omega
          go_wp2_with fail
          refine HAp.out.mono ?_
          rintro e w6 ⟨c, v', s', ra', ps', room', o', rfl, hap, hbo6, hk6, hj6, hp6⟩
          have HM6 := Lib.hid (HM5.out.call hbo6 hk6 hj6 hp6)
          have HG6 := Lib.hid (hk6.heap HG5.out (fun hj => by have := HJl.out _ hj; omega))
          have c62 := cell_in HG6.out 2 _ rfl
          have hout := HP.out.append hap
          have HSR6 : Hid (s'.S.length = R) := Lib.hid (hap.len.trans HSR.out)
          clear hap hbo6 hk6 hj6 hp6 HAp
          obtain ⟨rfl, hrs', rfl, rfl, hP6⟩ : c = 3 ∧ txs ps' = txs ps ∧ room' = room ∧ o' = false ∧ PlP (k + 1) room' s' (txs ps') := by
            rcases hout with ⟨a1, _, a3, a4, a5, a6⟩ | ⟨_, a2, _⟩ | ⟨_, a2, _⟩
            · exact ⟨a1, a3, a4, a5, by rw [a3, a4]; exact a6⟩
            · omega
            · omega
          clear hout
          have HP6 := Lib.hid hP6
          have HT6 : Hid (txs ws = txs ps') := Lib.hid (by rw [hrs', HTx.out])
          clear HG6 c62 hrs' hP6 HG5 c52 HP
          have HRm := Lib.hid (room_any' w6 HM6.out.both)
          go_wp2_with fail
          refine HRm.out.mono ?_
          rintro e w7 ⟨rfl, rfl⟩
          clear HRm
          have HOv := Lib.hid (over_any' w6 HM6.out.both)
          go_wp2_with fail
          refine HOv.out.mono ?_
          rintro e w7 ⟨rfl, rfl⟩
          clear HOv
          have HHd := Lib.hid (head_any' w6 HM6.out.both)
          have hpart0 := fun w => fieldCount1 (folded z32 ps') (ps'.length : Int) (lenF ps') w
          unfold HV at HHd
          obtain ⟨D, hD⟩ : ∃ D, (HC (folded z32 ps') (ps'.length : Int)).toArray = D := ⟨_, rfl⟩
          rw [hD] at hpart0 HHd
          clear hD
          have hwl3 : ps'.length = ws.length := by have := congrArg List.length HT6.out; simp only [txs, List.length_map] at this; omega
          rw [hwl3] at hpart0
          go_wp2_with fail
          refine HHd.out.mono ?_
          rintro e w8 ⟨rfl, hb8⟩
          have HM8 := Lib.hid (HM6.out.more hb8)
          obtain ⟨ap8, gp8, cp8, rfl, _⟩ := HM8.out.wslice
          clear hb8 HHd hwl3
          go_wp2_with fail
          go_roundw
          case rel => exact ⟨k + 1, v', s', ra', ps', room', ws, by omega, by go_num, rfl, hroom, HM8.out, HP6.out, HT6.out, HSR6.out⟩
          case measure => simp [intOf]; omega
        · have d4 : decide ((4096 : Int) < (x.p.l.length : Int)) = false := by simp; omega
          have d4' : decide (4096 < x.p.l.length) = false := by simp; omega
          by_cases hnr : room < n
          · have d5 : decide ((room : Int) < (n : Int)) = true := by simp; omega
            have d5' : decide (room < n) = true := by simp; omega
            go_wp2_with fail
            refine HAp.out.mono ?_
            rintro e w6 ⟨c, v', s', ra', ps', room', o', rfl, hap, hbo6, hk6, hj6, hp6⟩
            have HM6 := Lib.hid (HM5.out.call hbo6 hk6 hj6 hp6)
            have HG6 := Lib.hid (hk6.heap HG5.out (fun hj => by have := HJl.out _ hj; omega))
            have c62 := cell_in HG6.out 2 _ rfl
            have hout := HP.out.append hap
            have HSR6 : Hid (s'.S.length = R) := Lib.hid (hap.len.trans HSR.out)
            clear hap hbo6 hk6 hj6 hp6 HAp
            obtain ⟨rfl, hrs', rfl, rfl, hP6⟩ : c = 4 ∧ txs ps' = txs ps ∧ room' = room ∧ o' = false ∧ PlP (k + 1) room' s' (txs ps') := by
              rcases hout with ⟨_, a2, _⟩ | ⟨a1, _, _, a3, a4, a5, a6⟩ | ⟨_, _, a2, _⟩
              · omega
              · exact ⟨a1, a3, a4, a5, by rw [a3, a4]; exact a6⟩
              · have := HNn.out; omega
            clear hout
            have HP6 := Lib.hid hP6
            have HT6 : Hid (txs ws = txs ps') := Lib.hid (by rw [hrs', HTx.out])
            clear HG6 c62 hrs' hP6 HG5 c52 HP
            have HRm := Lib.hid (room_any' w6 HM6.out.both)
            go_wp2_with fail
            refine HRm.out.mono ?_
            rintro e w7 ⟨rfl, rfl⟩
            clear HRm
            have HOv := Lib.hid (over_any' w6 HM6.out.both)
            go_wp2_with fail
            refine HOv.out.mono ?_
            rintro e w7 ⟨rfl, rfl⟩
            clear HOv
            have HHd := Lib.hid (head_any' w6 HM6.out.both)
            have hpart0 := fun w => fieldCount1 (folded z32 ps') (ps'.length : Int) (lenF ps') w
            unfold HV at HHd
            obtain ⟨D, hD⟩ : ∃ D, (HC (folded z32 ps') (ps'.length : Int)).toArray = D := ⟨_, rfl⟩
            rw [hD] at hpart0 HHd
            clear hD
            have hwl3 : ps'.length = ws.length := by have := congrArg List.length HT6.out; simp only [txs, List.length_map] at this; omega
            rw [hwl3] at hpart0
            go_wp2_with fail
            refine HHd.out.mono ?_
            rintro e w8 ⟨rfl, hb8⟩
            have HM8 := Lib.hid (HM6.out.more hb8)
            obtain ⟨ap8, gp8, cp8, rfl, _⟩ := HM8.out.wslice
            clear hb8 HHd hwl3
            go_wp2_with fail
            go_roundw
            case rel => exact ⟨k + 1, v', s', ra', ps', room', ws, by omega, by go_num, rfl, hroom, HM8.out, HP6.out, HT6.out, HSR6.out⟩
            case measure => simp [intOf]; omega
          · have d5 : decide ((room : Int) < (n : Int)) = false := by simp; omega
            have d5' : decide (room < n) = false := by simp; omega
            go_wp2_with fail
            refine HAp.out.mono ?_
            rintro e w6 ⟨c, v', s', ra', ps', room', o', rfl, hap, hbo6, hk6, hj6, hp6⟩
            have HM6 := Lib.hid (HM5.out.call hbo6 hk6 hj6 hp6)
            have HG6 := Lib.hid (hk6.heap HG5.out (fun hj => by have := HJl.out _ hj; omega))
            have c62 := cell_in HG6.out 2 _ rfl
            have hout := HP.out.append hap
            have HSR6 : Hid (s'.S.length = R) := Lib.hid (hap.len.trans HSR.out)
            clear hap hbo6 hk6 hj6 hp6 HAp
            obtain ⟨rfl, hrs', rfl, rfl, hP6⟩ : c = 0 ∧ txs ps' = txs ps ++ [x.p.l] ∧ room' = room - n ∧ o' = false ∧ PlP (k + 1) (room - n) s' (txs ps') := by
              rcases hout with ⟨_, a2, _⟩ | ⟨_, _, a2, _⟩ | ⟨a1, _, _, a3, a4, a5, a6⟩
              · omega
              · have := HNn.out; omega
              · rw [HNn.out] at a4 a6
                exact ⟨a1, a3, a4, a5, by rw [a3]; exact a6⟩
            clear hout
            have HP6 := Lib.hid hP6
            have HT6 : Hid (txs (ws ++ [x.p]) = txs ps') := Lib.hid (by
              rw [hrs', ← HTx.out]
              unfold txs
              rw [List.map_append, List.map_singleton])
            clear hrs' hP6 HG5 c52 HP
            have HO1 := Lib.hid (own_same (w' := w6.alloc (.cells #[.slice x.p.ad x.p.l.length x.p.cap] 32)) HM6.out.row fun g hg => (Below.heap_alloc _ _ _ (HM6.out.row.lt g hg).2))
            have hNw := HM6.out.both.bN
            have hNs := lt_block HM6.out.both.blk
            have hwl : ws.length ≤ 8000 := by have := congrArg List.length HTx.out; simp only [txs, List.length_map] at this; omega
            go_wp2_with (at_builtin; refine wpList_append_lies _ rfl (.tmp 68) (.tmp 71) 31 rfl w1.heap.size 32 i0 (.slice none 0 0) 1 24 Tryd.underlying31 hi hz0 hz1 hz2 rfl (by decide) _ ws.length (ws.map Part.val) rfl HO1.out ⟨w6.heap.size, 0, none⟩ 1 1 [.slice x.p.ad x.p.l.length x.p.cap] rfl rfl ?q1 ?q2 (by decide) (by unfold maxLen; omega) (by omega) (by simp; omega) _ rfl ?_)
            case q2 => intro u hu; obtain rfl := List.mem_singleton.1 hu; rfl
            case q1 =>
              intro jj u hjj
              rw [Addr.add_mid, Nat.zero_add, cell_block (heap_alloc_new w6 _)]
              simpa using hjj
            intro gw cw w6' hown hgrow hgw _
            have HM6' := Lib.hid (HM6.out.want x.p HX.out.inn HX.out.nil (by omega) hown hgrow hgw)
            clear hown hgrow hgw HO1 hNw hNs
            obtain ⟨wv6, hwv6⟩ : ∃ v, Value.slice (some ⟨gw, 0, none⟩) (ws.length + 1) cw = v := ⟨_, rfl⟩
            rw [hwv6] at HM6' ⊢
            clear hwv6
            have hrmn : ((room : Int) - (n : Int)) = ((room - n : Nat) : Int) := by omega
            obtain ⟨ws6, hws6⟩ : ∃ ws6, ws ++ [x.p] = ws6 := ⟨_, rfl⟩
            rw [hws6] at HM6' HT6
            clear hws6 hwl HM6 HG6 c62
            obtain ⟨rm, hrm⟩ : ∃ rm, room - n = rm := ⟨_, rfl⟩
            have hrm2 : rm ≤ R := by omega
            rw [hrm] at HM6' HP6 hrmn
            clear hrm
            have HRm := Lib.hid (room_any' w6' HM6'.out.both)
            go_wp2_with fail
            refine HRm.out.mono ?_
            rintro e w7 ⟨rfl, rfl⟩
            clear HRm
            have HOv := Lib.hid (over_any' w6' HM6'.out.both)
            go_wp2_with fail
            refine HOv.out.mono ?_
            rintro e w7 ⟨rfl, rfl⟩
            clear HOv
            have HHd := Lib.hid (head_any' w6' HM6'.out.both)
            have hpart0 := fun w => fieldCount1 (folded z32 ps') (ps'.length : Int) (lenF ps') w
            unfold HV at HHd
            obtain ⟨D, hD⟩ : ∃ D, (HC (folded z32 ps') (ps'.length : Int)).toArray = D := ⟨_, rfl⟩
            rw [hD] at hpart0 HHd
            clear hD
            have hwl3 : ps'.length = ws6.length := by have := congrArg List.length HT6.out; simp only [txs, List.length_map] at this; omega
            rw [hwl3] at hpart0
            go_wp2_with fail
            refine HHd.out.mono ?_
            rintro e w8 ⟨rfl, hb8⟩
            have HM8 := Lib.hid (HM6'.out.more hb8)
            obtain ⟨ap8, gp8, cp8, rfl, _⟩ := HM8.out.wslice
            clear hb8 HHd hwl3
            go_wp2_with fail
            go_roundw
            case rel => exact ⟨k + 1, v', s', ra', ps', rm, ws6, by omega, by go_num, rfl, hrm2, HM8.out, HP6.out, HT6.out, HSR6.out⟩
            case measure => simp [intOf]; omega
      · have hd : decide ((k : Int) < (l.length : Int)) = false := by simp; omega
        have hrs := HP.out.hr
        rw [len_txs] at hrs
        have hwlen : ws.length = ps.length := by have := congrArg List.length HTx.out; simpa only [txs, List.length_map] using this
        have hall := all_any wr _ _ _ _ _ HM.out.both.disk HP.out.gone (by rw [HSR.out]; omega) HM.out.both.disk.ok.len
        rw [HSR.out] at hall
        have HAll := Lib.hid hall
        clear hall
        have HWl := Lib.hid hwlen
        clear hwlen
        go_wp2_with fail
        refine HAll.out.mono ?_
        rintro e w5 ⟨ap, gp, cp, ss, rfl, hss, hpi, hnil, hb5⟩
        have hsl : ss.length = R := by have := congrArg List.length hss; rw [List.length_map] at this; rw [this]; exact HSR.out
        have hrd := refRead_any w5 ss ap gp 0 cp hpi hnil (by omega) (txs ps) room (HP.out.lies ss hss) (fun p hp => HM.out.both.disk.ok.len _ (by rw [← hss]; exact List.mem_map_of_mem hp)) (fun r hr => by rw [← HTx.out] at hr; obtain ⟨p, hp, rfl⟩ := List.mem_map.1 hr; exact HM.out.wlen p hp)
        rw [hsl, len_txs] at hrd
        obtain ⟨q, hq⟩ : ∃ q, R - room = q := ⟨_, rfl⟩
        rw [hq] at hrd
        have hdq : ((q : Int) == (R : Int) - (room : Int)) = true := by simp; omega
        have HRd := Lib.hid hrd
        have HM5 := Lib.hid (HM.out.more hb5)
        clear hpi hnil hb5 hrd HAll hss hsl hq HM
        go_wp2_with fail
        refine HRd.out.mono ?_
        rintro e w6 ⟨a6, g6, c6, most, gs, rfl, hgl, hgi, hgn, hb6⟩
        have HM6 := Lib.hid (HM5.out.more hb6)
        have HGi := Lib.hid hgi
        have HGl : Hid (txs gs = txs ps) := Lib.hid hgl
        have hglen : gs.length = ps.length := by have := congrArg List.length hgl; simpa only [txs, List.length_map] using this
        clear hgl hgi hgn hb6 HRd HM5
        have HR3 := Lib.hid (records_any w6 HM6.out.both)
        go_wp2_with fail
        refine HR3.out.mono ?_
        rintro e w7 ⟨qs3, rfl, hqt3, hql3, hqi3, _, _, _, hb7⟩
        have hM7 := HM6.out.more hb7
        obtain ⟨aw, gw, cw, rfl, hwp⟩ := hM7.wslice
        have hS3 := same_any w7 qs3 ws (some ⟨w6.heap.size, 0, none⟩) aw w6.heap.size 0 ps.length gw 0 cw hqi3 hwp (by unfold maxLen; omega) (by rw [HWl.out]; unfold maxLen; omega)
        rw [decide_eq_true (hqt3.trans HTx.out.symm), hql3] at hS3
        have HS3 := Lib.hid hS3
        have HM7 := Lib.hid hM7
        have HGi7 := Lib.hid (HGi.out.below hb7)
        clear hqt3 hql3 hqi3 hb7 hwp hS3 hM7 HR3 HGi HM6
        go_wp2_with fail
        refine HS3.out.mono ?_
        rintro e w8 ⟨rfl, hb8⟩
        have hM8 := HM7.out.more hb8
        obtain ⟨aw2, gw2, cw2, hwe, hwp⟩ := hM8.wslice
        have hS4 := same_any w8 gs ws a6 aw2 g6 0 c6 gw2 0 cw2 (HGi7.out.below hb8) hwp (by unfold maxLen; omega) (by rw [HWl.out]; unfold maxLen; omega)
        rw [decide_eq_true (HGl.out.trans HTx.out.symm), hglen, ← hwe] at hS4
        have HS4 := Lib.hid hS4
        have HM8 := Lib.hid hM8
        clear hb8 hwe hwp hS4 hM8 HM7 HS3 HGi7
        go_wp2_with fail
        refine HS4.out.mono ?_
        rintro e w9 ⟨rfl, hb9⟩
        have HM9 := Lib.hid (HM8.out.more hb9)
        have hsc := sectors_any w9 _ _ _ _ _ HM9.out.both.disk
        rw [HSR.out] at hsc
        have HSc := Lib.hid hsc
        clear hb9 HS4 HM8 hsc
        go_wp2_with fail
        refine HSc.out.mono ?_
        rintro e w' ⟨rfl, rfl⟩
        clear HSc
        have HHd := Lib.hid (head_any' w9 HM9.out.both)
        have hpart0 := fun w => fieldHash1 (folded z32 ps) (ps.length : Int) (lenF ps) w
        have heq0 := fun w => eqlHash 40 (.inl rfl) (folded z32 ps) (folded z32 ps) (lenF ps) (lenF ps) w
        have hgu0 := fun w x y => guardHash .eql (folded z32 ps) (folded z32 ps) x y w
        simp only [beq_self_eq_true] at heq0
        unfold HV at HHd
        obtain ⟨V, hV⟩ : ∃ V, Value.agg ((folded z32 ps).map B).toArray = V := ⟨_, rfl⟩
        rw [hV] at hpart0 heq0 hgu0
        have HV2 := Lib.hid hV
        obtain ⟨D, hD⟩ : ∃ D, (HC (folded z32 ps) (ps.length : Int)).toArray = D := ⟨_, rfl⟩
        rw [hD] at hpart0 HHd
        clear hV hD
        go_wp2_with fail
        refine HHd.out.mono ?_
        rintro e w10 ⟨rfl, hb10⟩
        have hM10 := HM9.out.more hb10
        obtain ⟨ap2, gp2, cp2, hwe, hwp⟩ := hM10.wslice
        have hRH := refHash_any w10 ws ap2 gp2 0 cp2 hwp hM10.wnil (by have := lt_block hM10.both.blk; omega) (fun q hq => by have := hM10.wlen q hq; omega) (by have := HWl.out; omega)
        rw [← hwe, folded_txs ws ps z32 HTx.out, HV2.out] at hRH
        have HRH := Lib.hid hRH
        have HM10 := Lib.hid hM10
        clear hb10 hwe hwp hRH HHd HM9 hM10
        go_wp2_with fail
        refine HRH.out.mono ?_
        rintro e w11 ⟨rfl, hb11⟩
        have HM11 := Lib.hid (HM10.out.more hb11)
        have hwt := waits_any w11 _ _ _ _ _ HM11.out.both.disk
        rw [HP.out.ws] at hwt
        have HWt := Lib.hid hwt
        clear hb11 HRH HM10 hwt
        go_wp2_with fail
        refine HWt.out.mono ?_
        rintro e w' ⟨rfl, rfl⟩
        go_wp2_with fail
        go_ret
        exact ⟨rfl, HM11.out.below⟩
end Go.Proofs.YtlhfdlfbnnfjjaaDoor
namespace Go.Proofs.YtlhfdlfbnnfjjaaDoor
open Go.ChangeShapes Go.WideShapes Go.ChangeAt Go.RowKit Go.Deep

set_option maxRecDepth 100000 in
theorem hash_of_arg {H : Type} {enc : TypeId × Value → H} {w : World} {base : Nat} {spare : Nat → Bool} {held : Bool} {r : Reach} {b0 : Nat} {v : Value} {d : DataW H} {p : List MemPlace}
    (hv : Value.okWide Tryd.prog w r b0 40 v) (h : DataW.Trod enc Tryd.prog w base spare held 40 v d p) : ∃ P : List UInt8, P.length = 32 ∧ v = .agg (P.map B).toArray := by
  simp only [Value.okWide, Tryd.underlying40] at hv
  obtain ⟨cs, rfl, hsz, _⟩ := hv
  obtain ⟨fuel, hf⟩ := h
  obtain ⟨xs, m, _, _, hlen, hxl, hel⟩ := DataW.trod_array Tryd.underlying40 hf
  have c32 : Tryd.prog.cellsOf 40 = 32 := by kernel_rfl
  have c1 : Tryd.prog.cellsOf 5 = 1 := by kernel_rfl
  rw [c32] at hsz
  have hcs : (Value.cells (.agg cs)).toList = cs.toList := by simp [Value.cells]
  rw [hcs] at hel
  have hn : ∀ i, i < 32 → ∃ n : Int, cs.toList[i]? = some (.int .u8 n) ∧ 0 ≤ n ∧ n ≤ 255 := by
    intro i hi
    have h1 := hel i hi
    rw [c1, Nat.mul_one, List.getElem?_eq_getElem (by omega)] at h1
    obtain ⟨n, e, _, wn⟩ := DataW.trod_int Tryd.underlying5 h1
    have hb := bounds_u8 wn
    refine ⟨n, ?_, hb.1, hb.2⟩
    have hi' : i < cs.toList.length := by simp; omega
    rw [List.drop_eq_getElem_cons hi'] at e
    simp at e
    rw [List.getElem?_eq_getElem hi']
    simp [e]
  obtain ⟨f, hf'⟩ := choose_lt hn
  refine ⟨(List.range 32).map fun i => UInt8.ofNat (f i).toNat, by simp, ?_⟩
  congr 1
  apply Array.toList_inj.1
  apply List.ext_getElem?
  intro i
  rcases Nat.lt_or_ge i 32 with hi | hi
  · obtain ⟨h1, h2, h3⟩ := hf' i hi
    rw [h1]
    simp [hi]
    omega
  · rw [List.getElem?_eq_none (by simp; omega), List.getElem?_eq_none (by simp; omega)]
end Go.Proofs.YtlhfdlfbnnfjjaaDoor
namespace Go.Proofs.YtlhfdlfbnnfjjaaDoor
open Go.ChangeShapes Go.WideShapes Go.ChangeAt Go.RowKit Go.Deep

set_option maxRecDepth 100000 in
theorem bint_of_arg {H : Type} {enc : TypeId × Value → H} {w : World} {base : Nat} {spare : Nat → Bool} {held : Bool} {r : Reach} {b0 : Nat} {v : Value} {d : DataW H} {p : List MemPlace} (hv : Value.okWide Tryd.prog w r b0 3 v) (h : DataW.Trod enc Tryd.prog w base spare held 3 v d p) : ∃ n : Int, v = .int .i64 n ∧ (Lit.int .i64 n).wf = true := by
  obtain ⟨n, rfl, _, _, wn⟩ := open_int Tryd.underlying3 hv h
  exact ⟨n, rfl, wn⟩
end Go.Proofs.YtlhfdlfbnnfjjaaDoor
