/- What is read of sectors: record behind record; A book's records, read; A book is opened. -/
import Derived.Test.YtlhfdlfbnnfjjaaDoorJ28
import Derived.Test.YtlhfdlfbnnfjjaaDoorJ24
namespace Go.Proofs.YtlhfdlfbnnfjjaaDoor
open Go.RowKit

set_option maxRecDepth 100000 in
theorem Stands.det {T : List Sec} {n l : Nat} {f f' : Hd} {c c' : Nat} (h : Stands T n l f c) (k : Stands T n l f' c') : f = f' ∧ c = c' := by
  obtain ⟨r, hr⟩ := h.first
  obtain ⟨r', hr'⟩ := k.first
  rw [hr] at hr'
  cases hr'
  exact ⟨rfl, h.count.symm.trans k.count⟩
set_option maxRecDepth 100000 in
theorem Stands.pos {T : List Sec} {n l : Nat} {f : Hd} {c : Nat} (h : Stands T n l f c) : 1 ≤ c ∧ c ≤ 79 := by
  have := begB_c h.beg
  rw [h.count] at this
  exact this
/-- these records are read, and then those sectors are left, the last generation being that -/
inductive Reads : List Sec → Nat → Nat → List (List UInt8) → List Sec → Nat → Prop
  | nil (T : List Sec) (n l : Nat) : Reads T n l [] T l
  | cons {T T' : List Sec} {n l l' : Nat} {f : Hd} {c : Nat} {rs : List (List UInt8)} (h : Stands T n l f c) (hl : (recOf T c).length ≤ 4096) (k : Reads (T.drop c) (n + 1) f.g rs T' l') : Reads T n l (recOf T c :: rs) T' l'
/-- nothing more is read -/
def Stop (T : List Sec) (n l : Nat) : Prop := ∀ f c, Stands T n l f c → 4096 < (recOf T c).length
set_option maxRecDepth 100000 in
theorem n_one (n k : Nat) : n + (k + 1) = n + 1 + k := by omega
set_option maxRecDepth 100000 in
theorem Reads.snoc {T T' : List Sec} {n l l' : Nat} {rs : List (List UInt8)} (h : Reads T n l rs T' l') {f : Hd} {c : Nat} (hs : Stands T' (n + rs.length) l' f c) (hl : (recOf T' c).length ≤ 4096) : Reads T n l (rs ++ [recOf T' c]) (T'.drop c) f.g := by
  induction h with
  | nil T n l => exact .cons hs hl (.nil _ _ _)
  | cons h1 h2 k ih =>
    refine .cons h1 h2 (ih ?_ hl)
    rwa [List.length_cons, n_one] at hs
set_option maxRecDepth 100000 in
theorem Reads.det {T T' T'' : List Sec} {n l l' l'' : Nat} {rs rs' : List (List UInt8)} (h : Reads T n l rs T' l') (hs : Stop T' (n + rs.length) l') (k : Reads T n l rs' T'' l'') (ks : Stop T'' (n + rs'.length) l'') : rs = rs' ∧ T' = T'' ∧ l' = l'' := by
  induction h generalizing rs' with
  | nil T n l =>
    cases k with
    | nil => exact ⟨rfl, rfl, rfl⟩
    | cons h1 h2 _ => have := hs _ _ h1; omega
  | cons h1 h2 k1 ih =>
    cases k with
    | nil => have := ks _ _ h1; omega
    | cons g1 g2 k2 =>
      obtain ⟨rfl, rfl⟩ := h1.det g1
      rw [List.length_cons, n_one] at hs ks
      obtain ⟨rfl, e2, e3⟩ := ih hs k2 ks
      exact ⟨rfl, e2, e3⟩
set_option maxRecDepth 100000 in
theorem SecsIn.keptF {F : Nat → Prop} {w w' : World} {ad : Option Addr} {G o cap : Nat} {L : List LSec} (h : SecsIn w ad G o cap L) (hk : KeptF F w w') (hG : ¬ F G) (hq : ∀ x ∈ L, ¬ F x.q.g) : SecsIn w' ad G o cap L :=
  ⟨h.at', fun i hi j v hv => (World.cell?_of_block (w := w) (hk.block G h.lt hG)).trans (h.range i hi j v hv), fun x hx => ⟨(h.ins x hx).q.keptF hk fun _ => hq x hx, (h.ins x hx).len, (h.ins x hx).nil⟩, h.cap, Nat.lt_of_lt_of_le h.lt hk.size⟩
set_option maxRecDepth 100000 in
/-- the sectors behind the first ones -/
theorem slice_secs_lo (w0 : World) (ad : Option Addr) (G o cap : Nat) (L : List LSec) (h : SecsIn w0 ad G o cap L) (c : Nat) (hc : c ≤ L.length) : ∃ ad', SecsIn w0 ad' G (o + c) (cap - c) (L.drop c) ∧
    ∀ w, (Instr.sliceAt 55 (.slice ad L.length cap) (some (.int .i64 (c : Int))) none none).run Tryd.prog w = .ok (.slice ad' (L.drop c).length (cap - c)) w := by
  have hcap := h.cap
  refine ⟨if cap = c then ad else ad.map (·.add (c * 6)), ⟨fun hne => ?_, fun i hi => ?_, fun x hx => h.ins x (List.mem_of_mem_drop hx), by rw [List.length_drop]; omega, h.lt⟩, fun w => ?_⟩
  · have hlt : c < L.length := by
      rcases Nat.lt_or_ge c L.length with h | h
      · exact h
      · exact absurd (List.drop_eq_nil_of_le h) hne
    rw [if_neg (by omega), h.at' (by intro e; rw [e] at hlt; cases hlt)]
    simp [Addr.add_mid, Nat.add_mul]
  · have hi' : c + i < L.length := by simp at hi; omega
    have := h.range (c + i) hi'
    rw [show o + c + i = o + (c + i) by omega, List.getElem_drop]
    exact this
  · have e3 : ∀ w, (sizeOf 74).run Tryd.prog w = .ok 6 w := fun _ => by kernel_rfl
    have e1 : Tryd.prog.elem 55 = 74 := by kernel_rfl
    rw [run_sliceAt_slice (P := Tryd.prog) w 55 _ _ _ _ (by kernel_rfl), run_slice_l (P := Tryd.prog) w 55 ad L.length cap (by kernel_rfl) .i64 c (by omega) (by omega), e1, e3]
    simp [sliced, Result.andThen]
end Go.Proofs.YtlhfdlfbnnfjjaaDoor
namespace Go.Proofs.YtlhfdlfbnnfjjaaDoor
open Go.RowKit

def lenV : Value → Nat
  | .slice _ n _ => n
  | _ => 0
structure RdRel (w : World) (N d gs : Nat) (v : Value) (s : DSt) (b : Nat) (gen : Nat) (G : Nat) (L Lk : List LSec) (ad : Option Addr) (cap k l : Nat) (ra : Value) (ps : List Part) (wr : World) : Prop where
  eq : Lk = L.drop k
  both : Both wr N d gs v s b ra ps Lk.length gen false
  secs : SecsIn w ad G k cap Lk
  reads : Reads (L.map LSec.abs) 1 1 (txs ps) (Lk.map LSec.abs) l
  kept : KeptF (fun j => j = b) w wr
  own : ∀ j, ra.ownBlock = some j → w.heap.size ≤ j
  new : ∀ p ∈ ps, p.l ≠ [] → w.heap.size ≤ p.g
  few : ps.length ≤ k
  le : k ≤ L.length
set_option maxRecDepth 100000 in
set_option maxHeartbeats 2000000 in
theorem bread_any (w : World) {N d gs : Nat} {v : Value} {s : DSt} {b : Nat} {gen : Nat} (G : Nat) (L : List LSec) (h : Both w N d gs v s b (.slice none 0 0) [] L.length gen false) (hs : SecsAt w G L) (ht : Tab w) (hN : 0 < N) (hG : G ≠ b) (hq : ∀ x ∈ L, x.q.g ≠ b) (hm : L.length ≤ 8192) (hCb : ∀ x ∈ L, (x.h.c : Int) < 9223372036854775808) :
    Calls Tryd.prog 22 #[.pointer (some ⟨b, 0, none⟩), .slice (some ⟨G, 0, none⟩) L.length L.length] w fun e w' => e = .returned (.tuple #[]) ∧ ∃ ra ps T l, Both w' N d gs v s b ra ps T.length gen false ∧ Reads (L.map LSec.abs) 1 1 (txs ps) T l ∧ Stop T (ps.length + 1) l ∧
      KeptF (fun j => j = b) w w' ∧ (∀ j, ra.ownBlock = some j → w.heap.size ≤ j) ∧ ∀ p ∈ ps, p.l ≠ [] → w.heap.size ≤ p.g := by
  have R0 : RdRel w N d gs v s b gen G L L (some ⟨G, 0, none⟩) L.length 0 1 (.slice none 0 0) [] w := ⟨rfl, h, hs.into, .nil _ _ _, .refl _ _, (fun j hj => by cases hj), (fun p hp => absurd hp (by simp)), Nat.le_refl _, Nat.zero_le _⟩
  have HT := Lib.hid ht
  have HS := Lib.hid hs
  have HQ := Lib.hid hq
  have HC := Lib.hid hCb
  have hGlt := lt_block hs.blk
  have s6 : ∀ w, (sizeOf 74).run Tryd.prog w = .ok 6 w := fun _ => by kernel_rfl
  have hTN : ¬ (fun j => j = b) 0 := fun e => by have := h.bN; simp at e; omega
  clear hs ht hq hCb h
  go_enter Tryd.func22, Tryd.ntmps22
  go_wp2_with fail
  go_loopw [1, 4, 5, 6] (fun sec least _ _ wr => ∃ (k l cap : Nat) (Lk : List LSec) (ad : Option Addr) (ra : Value) (ps : List Part), cap ≤ 8192 ∧ sec = .slice ad Lk.length cap ∧ least = .int .i64 (l : Int) ∧ RdRel w N d gs v s b gen G L Lk ad cap k l ra ps wr) (fun sec _ _ _ _ => lenV sec)
  case atStart => exact ⟨0, 1, L.length, L, _, _, _, hm, rfl, rfl, R0⟩
  case round =>
    clear R0
    obtain ⟨k, l, cap, Lk, ad, ra, ps, hcap, rfl, rfl, hr⟩ := hrel
    have HsubL := Lib.hid (fun x (hx : x ∈ Lk) => List.mem_of_mem_drop (hr.eq ▸ hx : x ∈ L.drop k))
    have hin : SecsIn wr ad G k cap Lk := hr.secs.keptF hr.kept hG fun x hx => HQ.out x (HsubL.out x hx)
    have HSt := Lib.hid (standing_any wr ad G k cap Lk hin hcap (fun x hx => HC.out x (HsubL.out x hx)) (ps.length + 1) l)
    rw [Int.natCast_add, Int.natCast_one] at HSt
    obtain ⟨c0, c1, c34, c35, c36, c37⟩ := hr.both.cells
    have hfew := hr.both.few
    have HR := Lib.hid hr
    clear hin c0 c1 c35 c36 c37 hr
    go_wp2_with fail
    refine HSt.out.mono ?_
    rintro e w1 ⟨hpost, hb1⟩
    have HB1 := Lib.hid hb1
    clear hb1 HSt
    cases hpost with
    | none hno he =>
      subst he
      go_wp2_with fail
      refine bodyPost_ret (results_none rfl _ _ _) rfl ?_
      have hbo := HR.out.both.below HB1.out
      refine ⟨rfl, ra, ps, Lk.map LSec.abs, l, by rw [List.length_map]; exact hbo, HR.out.reads, fun f c hs => absurd hs (hno f c), HR.out.kept.trans (KeptF.of_below HB1.out) fun _ _ h => h, HR.out.own, HR.out.new⟩
    | some f c hst p he hpi hpl hpn hpg =>
      subst he
      obtain ⟨hc1, hc79⟩ := hst.pos
      have hd0 : ((c : Int) == 0) = false := by simp; omega
      have hroom := hst.room
      rw [List.length_map] at hroom
      have HSt2 := Lib.hid hst
      have HPL := Lib.hid hpl
      have HPI := Lib.hid hpi
      have HPN := Lib.hid hpn
      have HPG := Lib.hid hpg
      clear hst hpl hpi hpn hpg
      unfold Part.val
      by_cases hlong : 4096 < p.l.length
      · have hd1 : decide ((4096 : Int) < (p.l.length : Int)) = true := by simp; omega
        go_wp2_with fail
        refine bodyPost_ret (results_none rfl _ _ _) rfl ?_
        have hbo := HR.out.both.below HB1.out
        refine ⟨rfl, ra, ps, Lk.map LSec.abs, l, by rw [List.length_map]; exact hbo, HR.out.reads, fun f' c' hs => ?_, HR.out.kept.trans (KeptF.of_below HB1.out) fun _ _ h => h, HR.out.own, HR.out.new⟩
        obtain ⟨_, rfl⟩ := hs.det HSt2.out
        rw [← HPL.out]; exact hlong
      · have hd1 : decide ((4096 : Int) < (p.l.length : Int)) = false := by simp; omega
        have hk0 := HR.out.kept
        have hsz1 := HB1.out.size
        have hsz0 := hk0.size
        have hJn : p.l ≠ [] → ¬ J b ra d gs v p.g := fun hne hj => by
          have h1 := (HR.out.both.jlt hj).2
          have h2 := HPG.out hne
          omega
        have hfw := HR.out.few
        have hle := HR.out.le
        have hLk : Lk.length = L.length - k := by rw [HR.out.eq, List.length_drop]
        have HAdd := Lib.hid (add_any w1 (HR.out.both.below HB1.out) (tab_kept HT.out (hk0.trans (KeptF.of_below HB1.out) fun _ _ h => h) hTN) hN p HPI.out HPN.out (by omega) hJn c hroom (by omega))
        unfold Part.val at HAdd
        have HAddr := Lib.hid hLk
        obtain ⟨ad', hin', hsl⟩ := slice_secs_lo w ad G k cap Lk HR.out.secs c hroom
        obtain ⟨Ld, hLd⟩ : ∃ Ld, Lk.drop c = Ld := ⟨_, rfl⟩
        rw [hLd] at hin' hsl
        have HIn' := Lib.hid hin'
        have hLdn : Ld.length = Lk.length - c := by rw [← hLd, List.length_drop]
        have HLd := Lib.hid hLd
        clear hJn hin' hLk hLd hfw
        go_wp2_with fail
        refine HAdd.out.mono ?_
        rintro e w2 ⟨rfl, ra', hbo, hk2, hown2⟩
        have hkb : KeptF (fun j => j = b) w w2 := (hk0.trans (KeptF.of_below HB1.out) (fun _ _ h => h)).trans hk2 fun i hi hf => by
          rcases hf with hf | hf
          · exact hf
          · have := HR.out.own i hf; omega
        have hfirst : ∃ x, Lk[0]? = some x ∧ x.h = f := by
          obtain ⟨r, hr⟩ := HSt2.out.first
          rw [List.getElem?_map] at hr
          cases hx : Lk[0]? with
          | none => rw [hx] at hr; cases hr
          | some x =>
            rw [hx] at hr
            exact ⟨x, rfl, congrArg Prod.fst (Option.some.inj hr)⟩
        obtain ⟨x, hx0, hxf⟩ := hfirst
        have hLpos : 0 < Lk.length := by omega
        have hcg : w2.cell? ⟨G, k * 6 + 1, none⟩ = some (.int .i64 (f.g : Int)) := by
          have h1 := (HR.out.secs.keptF hkb hG fun x hx => HQ.out x (HsubL.out x hx)).range 0 hLpos 1 (.int .i64 (f.g : Int))
          rw [Nat.add_zero] at h1
          refine h1 ?_
          have : Lk[0] = x := by rw [List.getElem?_eq_getElem hLpos] at hx0; exact Option.some.inj hx0
          rw [this, hxf]; rfl
        obtain rfl := HR.out.secs.at' (by intro e; rw [e] at hLpos; cases hLpos)
        have HBo := Lib.hid hbo
        have HK2 := Lib.hid hkb
        have HOwn : Hid (∀ j, ra'.ownBlock = some j → w.heap.size ≤ j) := Lib.hid fun j hj => by
          rcases hown2 j hj with h | h
          · exact HR.out.own j h
          · omega
        have hdL : decide ((0 : Int) < (Lk.length : Int)) = true := by simp; omega
        have HNew : Hid (∀ x ∈ ps ++ [p], x.l ≠ [] → w.heap.size ≤ x.g) := Lib.hid fun x hx hne => by
          rcases List.mem_append.1 hx with hx | hx
          · exact HR.out.new x hx hne
          · obtain rfl := List.mem_singleton.1 hx
            have := HPG.out hne; omega
        clear hbo hk2 hown2 hkb hx0 hxf HAdd HB1 HPI HPN HPG c34
        go_wp2_with fail
        have hLk := HAddr.out
        refine ⟨⟨k + c, f.g, cap - c, Ld, ad', ra', ps ++ [p], by omega, by rw [hLdn], rfl, ⟨?_, by rw [hLdn]; exact HBo.out, HIn'.out, ?_, HK2.out, HOwn.out, HNew.out, ?_, by omega⟩⟩, by simp only [lenV]; omega⟩
        · rw [← HLd.out, HR.out.eq, List.drop_drop]
        · have h1 := HR.out.reads.snoc (f := f) (c := c) (by rw [txs, List.length_map, Nat.add_comm]; exact HSt2.out) (by rw [← HPL.out]; omega)
          rw [← HPL.out, ← List.map_drop, HLd.out] at h1
          unfold txs at h1 ⊢
          rw [List.map_append]
          exact h1
        · rw [List.length_append, List.length_singleton]
          have := HR.out.few
          omega
end Go.Proofs.YtlhfdlfbnnfjjaaDoor
namespace Go.Proofs.YtlhfdlfbnnfjjaaDoor
open Go.RowKit

set_option maxRecDepth 100000 in
theorem builtBook (d : Nat) (m g : Int) : Tryd.prog.built 60 [(0, .pointer (some ⟨d, 0, none⟩)), (3, .int .i64 m), (4, .int .i64 g)] = some (.pointer (some ⟨d, 0, none⟩) :: .slice none 0 0 :: (HC z32 0 ++ [.int .i64 m, .int .i64 g, .bool false])).toArray := by kernel_rfl
set_option maxRecDepth 100000 in
theorem length_abs {L : List LSec} {S : List (List UInt8)} (h : L.map LSec.abs = S.map rdS) : L.length = S.length := by
  have := congrArg List.length h
  simpa using this
set_option maxRecDepth 100000 in
theorem rdH_c (b : List UInt8) : (rdH b).c < 256 := by
  have h := numU_lt ((b.drop 9).take 1)
  have : (256 : Nat) ^ ((b.drop 9).take 1).length ≤ 256 ^ 1 := Nat.pow_le_pow_right (by omega) (by rw [List.length_take]; omega)
  simp only [rdH]
  omega
set_option maxRecDepth 100000 in
theorem rdH_g (b : List UInt8) : (rdH b).g < 4294967296 := by
  have h := numU_lt ((b.drop 4).take 4)
  have : (256 : Nat) ^ ((b.drop 4).take 4).length ≤ 256 ^ 4 := Nat.pow_le_pow_right (by omega) (by rw [List.length_take]; omega)
  simp only [rdH]
  omega
set_option maxRecDepth 100000 in
set_option maxHeartbeats 2000000 in
theorem open_any (w : World) {N d gs : Nat} {v : Value} {s : DSt} (h : DAt w N d gs v s) (hg : s.gone = false) (ht : Tab w) (hN : 0 < N) (hgr : greatG (s.S.map rdS) < 4294967295) :
    Calls Tryd.prog 7 #[.pointer (some ⟨d, 0, none⟩)] w fun e w' => ∃ b ra ps T l, e = .returned (.tuple #[.pointer (some ⟨b, 0, none⟩), .int .i64 0]) ∧ Both w' N d gs v s b ra ps T.length (greatG (s.S.map rdS) + 1) false ∧
      Reads (s.S.map rdS) 1 1 (txs ps) T l ∧ Stop T (ps.length + 1) l ∧ Below w.heap.size w w' ∧ w.heap.size ≤ b ∧ (∀ j, ra.ownBlock = some j → w.heap.size ≤ j) ∧ ∀ p ∈ ps, p.l ≠ [] → w.heap.size ≤ p.g := by
  have HL := Lib.hid (load_any w N d gs v s h hg)
  have H := Lib.hid h
  have HT := Lib.hid ht
  have hlim := h.ok.lim
  have h0 := ht.size
  have hdN := h.dN
  have hdlt := h.lt.1
  clear h ht
  obtain ⟨g, hgg⟩ : ∃ g, greatG (s.S.map rdS) = g := ⟨_, rfl⟩
  rw [hgg] at hgr ⊢
  have HGG := Lib.hid hgg
  obtain ⟨m, hm⟩ : ∃ m, s.S.length = m := ⟨_, rfl⟩
  rw [hm] at hlim HL
  have HM := Lib.hid hm
  clear hgg hm
  go_enter Tryd.func7, Tryd.ntmps7
  go_wp2_with fail
  refine HL.out.mono ?_
  rintro e w1 ⟨L, rfl, hs1, habs, hb1⟩
  have hlen := length_abs habs
  rw [HM.out] at hlen
  have HGr := Lib.hid (greatest_any w1 w.heap.size L hs1 (by omega))
  rw [hlen, habs, HGG.out] at HGr
  have HS1 := Lib.hid hs1
  have HB1 := Lib.hid hb1
  have HAbs := Lib.hid habs
  have hGlt := lt_block hs1.blk
  clear HL hs1 hb1 habs
  go_wp2_with fail
  refine HGr.out.mono ?_
  rintro e w2 ⟨rfl, hb2⟩
  have HB2 := Lib.hid hb2
  have hd1 : ((g : Int) == 4294967295) = false := by simp; omega
  clear hb2 HGr
  go_wp2_with (refine wpList_buildd rfl 60 #[(0, .tmp 20), (3, .tmp 22), (4, .tmp 24)] rfl [(0, .pointer (some ⟨d, 0, none⟩)), (3, .int .i64 (m : Int)), (4, .int .i64 ((g : Int) + 1))] (by kernel_rfl) _ (builtBook d _ _) ?_)
  have hbw2 : Below w.heap.size w w2 := HB1.out.trans (HB2.out.mono HB1.out.size)
  have hsz2 := hbw2.size
  have hsz12 := HB2.out.size
  obtain ⟨W3, hW3⟩ : ∃ W3, World.alloc w2 (.cells (.pointer (some ⟨d, 0, none⟩) :: .slice none 0 0 :: (HC z32 0 ++ [.int .i64 (m : Int), .int .i64 ((g : Int) + 1), .bool false])).toArray 60) = W3 := ⟨_, rfl⟩
  have hbw3 : Below w.heap.size w W3 := by rw [← hW3]; exact hbw2.alloc hsz2 _
  have hb23 : Below w2.heap.size w2 W3 := by rw [← hW3]; exact (Below.refl _ _).alloc (Nat.le_refl _) _
  have hblk3 : W3.heap[w2.heap.size]? = some (.cells (bookC d (.slice none 0 0) (folded z32 []) (([] : List Part).length : Int) m (g + 1) false).toArray 60 (0, 0)) := by rw [← hW3]; exact heap_alloc_new _ _
  have hboth : Both W3 N d gs v s w2.heap.size (.slice none 0 0) [] L.length (g + 1) false := by
    refine ⟨H.out.below (hbw3.mono (Nat.le_refl _)), by rw [hlen]; exact hblk3, World.ownsRow_nil _ _ _ _, (fun p hp => absurd hp (by simp)), (fun p hp => absurd hp (by simp)), (fun p hp => absurd hp (by simp)), by simp, by omega, by omega, (fun e => by cases e), ?_, (fun k hk => by cases hk), (fun p hp => absurd hp (by simp))⟩
    intro hf
    have := (H.out.footN hf).2
    omega
  have HRd := Lib.hid (bread_any W3 w.heap.size L hboth (HS1.out.below (HB2.out.trans (hb23.mono hsz12))) (HT.out.below hbw3 h0) hN (by omega) (fun x hx => by have := (HS1.out.ins x hx).q.lt; omega) (by omega) (fun x hx => by
    have h1 : x.abs ∈ s.S.map rdS := by rw [← HAbs.out]; exact List.mem_map_of_mem hx
    obtain ⟨y, _, hy⟩ := List.mem_map.1 h1
    have h2 := rdH_c y
    have h3 : x.h = rdH y := (congrArg Prod.fst hy).symm
    rw [h3]; omega))
  rw [hlen, HAbs.out] at HRd
  rw [hW3]
  have HB3 := Lib.hid hbw3
  have HSz : Hid (w.heap.size ≤ w2.heap.size ∧ w2.heap.size ≤ W3.heap.size) := Lib.hid ⟨hsz2, hb23.size⟩
  clear hW3 hbw3 hb23 hblk3 hboth HS1 HB1 HB2 hbw2 hsz2 hsz12
  refine HRd.out.mono ?_
  rintro e w4 ⟨rfl, ra, ps, T, l, hbo, hrd, hst, hk4, hown, hnew⟩
  have HNew : Hid (∀ p ∈ ps, p.l ≠ [] → w.heap.size ≤ p.g) := Lib.hid fun p hp hne => by have := hnew p hp hne; have := HSz.out; omega
  have HBo := Lib.hid hbo
  have HRd2 := Lib.hid hrd
  have HSt := Lib.hid hst
  have hb4 := KeptF.mono HB3.out hk4 (by have := HSz.out; omega) (fun k hk => by have := HSz.out; omega)
  have HB4 := Lib.hid hb4
  have HOwn : Hid (∀ j, ra.ownBlock = some j → w.heap.size ≤ j) := Lib.hid fun j hj => by have := hown j hj; have := HSz.out; omega
  clear hbo hrd hst hk4 hown hb4 HRd HB3 hnew
  go_wp2_with fail
  go_ret2
  exact ⟨w2.heap.size, ra, ps, T, l, rfl, HBo.out, HRd2.out, HSt.out, HB4.out, HSz.out.1, HOwn.out, HNew.out⟩
end Go.Proofs.YtlhfdlfbnnfjjaaDoor
