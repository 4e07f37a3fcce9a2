/- A map from addresses to numbers; A reader's calls: attributes, literals, a bag's items. -/
import Derived.Test.YtllgodaphoncnaaGreatDoorJ24
import Derived.LaidEqlPtr
namespace Go.Proofs.YtllgodaphoncnaaGreatDoor
open Go.RowKit

section
variable {P : Program} {w : World}
/-- a block of cells that is no string's -/
def PlainB (w : World) (a : Addr) : Prop := ∃ C T, w.heap[a.block]? = some (.cells C T (0, 0))
set_option maxRecDepth 100000 in
theorem run_equal_ptr {tp te : TypeId} {j : TypeInfo} {a b : Addr} (hp : P.underlying tp = some (.pointer te)) (hte : P.info? te = some j) (hsz : j.size ≠ 0) (ha : PlainB w a) (hb : PlainB w b) :
    (Op.equal tp (.pointer (some a)) (.pointer (some b))).run P w = .ok (decide (a = b)) w := by
  by_cases he : a = b
  · subst he
    have h : ∀ d : Nat, (Op.equalIn (d + 1) tp (.pointer (some a)) (.pointer (some a))).run P w = .ok true w := fun d => by
      simp [Op.equalIn, run_underlying hp, sizeOf, typeInfo, hte, run_sameAddr_same]
    simp [Op.equal, Op.maxDepth, h 9999]
  · obtain ⟨ca, ta, ha⟩ := ha
    obtain ⟨cb, tb, hb⟩ := hb
    have h : ∀ d : Nat, (Op.equalIn (d + 1) tp (.pointer (some a)) (.pointer (some b))).run P w = .ok false w := fun d => by
      simp [Op.equalIn, run_underlying hp, sizeOf, typeInfo, hte, hsz, run_sameAddr_other w he ha hb]
    simp [Op.equal, Op.maxDepth, h 9999, he]
def kv (e : MapEntry) : Value × Value := (e.key, e.val)
def kvF (x : Addr × Int) : Value × Value := (.pointer (some x.1), .int .i64 x.2)
/-- the place of an address, and its number -/
def findF (a : Addr) : List (Addr × Int) → Nat → Option (Nat × Int)
  | [], _ => none
  | x :: l, i => if a = x.1 then some (i, x.2) else findF a l (i + 1)
set_option maxRecDepth 100000 in
theorem run_asking {tp te : TypeId} {j : TypeInfo} {a : Addr} (hp : P.underlying tp = some (.pointer te)) (hte : P.info? te = some j) (hsz : j.size ≠ 0) (ha : PlainB w a) :
    ∀ (es : List MapEntry) (F : List (Addr × Int)) (i : Nat), es.map kv = F.map kvF → (∀ x ∈ F, PlainB w x.1) → (Instr.findAsking tp (.pointer (some a)) es i).run P w = .ok ((findF a F i).map fun p => (p.1, .int .i64 p.2)) w
  | [], [], i, _, _ => by simp [Instr.findAsking, findF]
  | [], _ :: _, _, h, _ => by simp at h
  | _ :: _, [], _, h, _ => by simp at h
  | e :: es, x :: F, i, h, hx => by
    simp only [List.map_cons, List.cons.injEq] at h
    obtain ⟨h1, h2⟩ := h
    have hk : e.key = .pointer (some x.1) := congrArg Prod.fst h1
    have hv : e.val = .int .i64 x.2 := congrArg Prod.snd h1
    have he := run_equal_ptr hp hte hsz ha (hx x List.mem_cons_self)
    have ih := run_asking hp hte hsz ha es F (i + 1) h2 (fun y hy => hx y (List.mem_cons_of_mem _ hy))
    unfold Instr.findAsking findF
    rw [hk, hv]
    by_cases hax : a = x.1
    · rw [decide_eq_true hax] at he
      rw [if_pos hax]
      simp only [Sem.run_bind, he, Result.andThen_ok, if_true, Sem.run_pure, Option.map_some]
    · rw [decide_eq_false hax] at he
      rw [if_neg hax]
      simp only [Sem.run_bind, he, Result.andThen_ok, Bool.false_eq_true, if_false, ih]
/-- block M is a map that holds just these -/
structure MapIs (w : World) (M : Nat) (F : List (Addr × Int)) : Prop where
  map : ∃ es clk, w.heap[M]? = some (.map es clk) ∧ es.toList.map kv = F.map kvF
  keys : ∀ x ∈ F, PlainB w x.1
def lookF (a : Addr) (F : List (Addr × Int)) : Int := match findF a F 0 with
  | some p => p.2
  | none => 0
set_option maxRecDepth 100000 in
theorem run_findKey {tp te : TypeId} {j : TypeInfo} {a : Addr} (hp : P.underlying tp = some (.pointer te)) (hte : P.info? te = some j) (hsz : j.size ≠ 0) (ha : PlainB w a) (es : List MapEntry) (F : List (Addr × Int)) (h : es.map kv = F.map kvF) (hx : ∀ x ∈ F, PlainB w x.1) :
    (Instr.findKey tp (.pointer (some a)) es).run P w = .ok ((findF a F 0).map fun p => (p.1, .int .i64 p.2)) w := by
  have hq := run_asking hp hte hsz ha es F 0 h hx
  unfold Instr.findKey
  cases es with
  | nil =>
    cases F with
    | nil => simp [run_underlying hp, Instr.findNow, findF]
    | cons x F => simp at h
  | cons e es =>
    cases F with
    | nil => simp at h
    | cons x F =>
      have hk : e.key = .pointer (some x.1) := by simp only [List.map_cons, List.cons.injEq] at h; exact congrArg Prod.fst h.1
      simp [run_underlying hp, Instr.findNow, Instr.sameNow, hq]
set_option maxRecDepth 100000 in
theorem run_checkPtr {tp te : TypeId} (b : Bool) (x : Option Addr) (hp : P.underlying tp = some (.pointer te)) : (Instr.checkKey b 10000 tp (.pointer x)).run P w = .ok () w := by
  have h : ∀ d : Nat, (Instr.checkKey b (d + 1) tp (.pointer x)).run P w = .ok () w := fun d => by
    unfold Instr.checkKey
    simp only [Sem.run_bind, run_underlying hp, Result.andThen_ok, Sem.run_pure]
  exact h 9999
set_option maxRecDepth 100000 in
theorem run_stays (a : Addr) : (Instr.keyThatStays (.pointer (some a)) (.pointer (some a))).run P w = .ok (.pointer (some a)) w := by
  have h : ∀ d : Nat, Instr.sameBits d (.pointer (some a)) (.pointer (some a)) = true := fun d => by cases d <;> simp [Instr.sameBits]
  unfold Instr.keyThatStays
  rw [h 10000]
  rfl
set_option maxRecDepth 100000 in
theorem run_lookup_ptr {tm tp ti te : TypeId} {j : TypeInfo} {a : Addr} {M : Nat} {F : List (Addr × Int)} (hm : P.underlying tm = some (.map tp ti)) (hp : P.underlying tp = some (.pointer te)) (hte : P.info? te = some j) (hsz : j.size ≠ 0)
    (hz : (zeroValue ti).run P w = .ok (.int .i64 0) w) (ha : PlainB w a) (h : MapIs w M F) : (Instr.lookup tm (.map (some M)) (.pointer (some a)) false).run P w = .ok (.int .i64 (lookF a F)) w := by
  obtain ⟨es, clk, hg, he⟩ := h.map
  have hf := run_findKey hp hte hsz ha es.toList F he h.keys
  unfold Instr.lookup lookF
  cases hff : findF a F 0 with
  | none =>
    rw [hff] at hf
    simp only [Sem.run_bind, run_underlying hm, Result.andThen_ok, MapKept.run_getObj_map hg, Sem.run_pure, run_checkPtr _ _ hp, hf, Option.map_none, hz]
    rfl
  | some p =>
    rw [hff] at hf
    simp only [Sem.run_bind, run_underlying hm, Result.andThen_ok, MapKept.run_getObj_map hg, Sem.run_pure, run_checkPtr _ _ hp, hf, Option.map_some]
    rfl
/-- the map with this number at that address -/
def putF' (a : Addr) (v : Int) (F : List (Addr × Int)) : List (Addr × Int) := match findF a F 0 with
  | some p => F.set p.1 (a, v)
  | none => F ++ [(a, v)]
set_option maxRecDepth 100000 in
theorem findF_at {a : Addr} : ∀ {F : List (Addr × Int)} {i : Nat} {p : Nat × Int}, findF a F i = some p → i ≤ p.1 ∧ F[p.1 - i]? = some (a, p.2)
  | x :: l, i, p, h => by
    unfold findF at h
    by_cases hx : a = x.1
    · rw [if_pos hx] at h
      obtain rfl := Option.some.inj h
      subst hx
      simp
    · rw [if_neg hx] at h
      obtain ⟨h1, h2⟩ := findF_at h
      refine ⟨by omega, ?_⟩
      rw [show p.1 - i = (p.1 - (i + 1)) + 1 by omega, List.getElem?_cons_succ]
      exact h2
set_option maxRecDepth 100000 in
theorem kept_setBlock {w : World} {M : Nat} (o : Obj) : Kept1 M w { w with heap := w.heap.setIfInBounds M o } :=
  ⟨rfl, rfl, rfl, by simp, fun k _ hk => by simp [Ne.symm hk]⟩
set_option maxRecDepth 100000 in
theorem PlainB.kept {w w' : World} {M : Nat} {a : Addr} (h : PlainB w a) (hk : Kept1 M w w') (hM : ∀ C T, w.heap[M]? ≠ some (.cells C T (0, 0))) : PlainB w' a := by
  obtain ⟨C, T, hg⟩ := h
  exact ⟨C, T, (hk.block _ (lt_block hg) (by intro e; rw [e] at hg; exact hM C T hg)).trans hg⟩
set_option maxRecDepth 100000 in
theorem run_update_ptr {tm tp ti te : TypeId} {j : TypeInfo} {a : Addr} {M : Nat} {F : List (Addr × Int)} (v : Int) (hm : P.underlying tm = some (.map tp ti)) (hp : P.underlying tp = some (.pointer te)) (hte : P.info? te = some j) (hsz : j.size ≠ 0)
    (ha : PlainB w a) (h : MapIs w M F) : ∃ w', (Instr.mapUpdate tm (.map (some M)) (.pointer (some a)) (.int .i64 v)).run P w = .ok () w' ∧ Kept1 M w w' ∧ MapIs w' M (putF' a v F) ∧ w'.heap.size = w.heap.size := by
  obtain ⟨es, clk, hg, he⟩ := h.map
  have hf := run_findKey hp hte hsz ha es.toList F he h.keys
  have hM : ∀ C T, w.heap[M]? ≠ some (.cells C T (0, 0)) := fun C T => by rw [hg]; simp
  have hlt := lt_block hg
  cases hff : findF a F 0 with
  | none =>
    rw [hff] at hf
    refine ⟨{ w with heap := w.heap.setIfInBounds M (.map (es.push { key := .pointer (some a), val := .int .i64 v, born := clk }) (clk + 1)) }, ?_, kept_setBlock _, ⟨⟨_, _, by simp [hlt]; exact ⟨rfl, rfl⟩, ?_⟩, ?_⟩, by simp⟩
    · unfold Instr.mapUpdate
      simp only [Sem.run_bind, run_underlying hm, Result.andThen_ok, MapKept.run_getObj_map hg, run_checkPtr _ _ hp, hf, Option.map_none]
      exact MapKept.run_setObj_map _ hg
    · unfold putF'; rw [hff]; simp [kv, kvF, he]
    · unfold putF'; rw [hff]
      intro x hx
      rcases List.mem_append.1 hx with hx | hx
      · exact (h.keys x hx).kept (kept_setBlock _) hM
      · obtain rfl := List.mem_singleton.1 hx
        exact ha.kept (kept_setBlock _) hM
  | some p =>
    rw [hff] at hf
    obtain ⟨-, hpF⟩ := findF_at hff
    rw [Nat.sub_zero] at hpF
    have hpl : p.1 < F.length := by
      rcases Nat.lt_or_ge p.1 F.length with k | k
      · exact k
      · rw [List.getElem?_eq_none k] at hpF; cases hpF
    have hlen : es.size = F.length := by
      have := congrArg List.length he
      simpa using this
    have hek : ∃ e, es[p.1]? = some e ∧ e.key = .pointer (some a) := by
      have h1 := congrArg (·[p.1]?) he
      simp only [List.getElem?_map, hpF, Option.map_some, kvF] at h1
      obtain ⟨e, h2, h3⟩ := Option.map_eq_some_iff.1 h1
      refine ⟨e, by simpa using h2, ?_⟩
      exact congrArg Prod.fst h3
    obtain ⟨e, hee, hkey⟩ := hek
    refine ⟨{ w with heap := w.heap.setIfInBounds M (.map (es.modify p.1 fun e => { e with key := .pointer (some a), val := .int .i64 v }) clk) }, ?_, kept_setBlock _, ⟨⟨_, _, by simp [hlt]; exact ⟨rfl, rfl⟩, ?_⟩, ?_⟩, by simp⟩
    · unfold Instr.mapUpdate
      simp only [Sem.run_bind, run_underlying hm, Result.andThen_ok, MapKept.run_getObj_map hg, run_checkPtr _ _ hp, hf, Option.map_some, hee, Option.getD_some, hkey, run_stays]
      exact MapKept.run_setObj_map _ hg
    · unfold putF'; rw [hff]
      apply List.ext_getElem?
      intro i
      have h1 := congrArg (·[i]?) he
      simp only [List.getElem?_map] at h1
      by_cases hi : i = p.1
      · subst hi
        simp only [List.getElem?_map, Array.getElem?_toList, Array.getElem?_modify, List.getElem?_set, hpl, if_true]
        rw [hee]
        simp [kv, kvF]
      · simp only [List.getElem?_map, Array.getElem?_toList, Array.getElem?_modify, List.getElem?_set, if_neg (Ne.symm hi)]
        simpa using h1
    · unfold putF'; rw [hff]
      intro x hx
      rcases List.mem_or_eq_of_mem_set hx with hx | rfl
      · exact (h.keys x hx).kept (kept_setBlock _) hM
      · exact ha.kept (kept_setBlock _) hM
end
end Go.Proofs.YtllgodaphoncnaaGreatDoor
namespace Go.Proofs.YtllgodaphoncnaaGreatDoor
open Go.RowKit

set_option maxRecDepth 100000 in
theorem strsAt_new {W : World} {g : Nat} {l : List (List UInt8)} {T : TypeId} {fr : Nat × Nat} (h : W.heap[g]? = some (.cells (l.map fun s => Value.string (st s)).toArray T fr)) : StrsAt W (some ⟨g, 0, none⟩) g 0 l := by
  refine ⟨fun _ => rfl, fun i hi j hj => ?_⟩
  obtain rfl : j = 0 := by omega
  simp only [Nat.mul_one, Nat.zero_add, Nat.add_zero]
  rw [cell_block h]
  simp [List.getElem?_eq_getElem hi]
set_option maxRecDepth 100000 in
/-- one of these words, which lie in a new block -/
theorem takesNew_any (I : RI) (w : World) (p : PS) (h : Rd I w p) (l : List (List UInt8)) (n : Nat) (hn : l.length = n) (h100 : n ≤ 100) (T : TypeId) (fr : Nat × Nat) (cs : Array Value) (hcs : cs = (l.map fun s => Value.string (st s)).toArray) (c : Nat) :
    Calls Tryz.prog 87 #[I.ptr, .slice (some ⟨w.heap.size, 0, none⟩) n c] (w.alloc (.cells cs T fr)) fun e w' => e = .returned (.string (st (takesOneP I.T l p).1)) ∧ Rd I w' (takesOneP I.T l p).2 ∧ Kept1 I.b w w' := by
  subst hn
  have hb : Below w.heap.size w (w.alloc (.cells cs T fr)) := (Below.refl _ _).alloc (Nat.le_refl _) _
  have hg : (w.alloc (.cells cs T fr)).heap[w.heap.size]? = some (.cells (l.map fun s => Value.string (st s)).toArray T fr) := by rw [← hcs]; exact heap_alloc_new _ _
  exact (takesOne_any I _ p (h.below hb) _ _ _ c l (strsAt_new hg) h100 (fun _ => by have := h.lt; omega)).mono fun e w' ⟨h1, h2, h3⟩ => ⟨h1, h2, (Kept1.of_below hb).trans h3⟩
set_option maxRecDepth 100000 in
set_option maxHeartbeats 2000000 in
theorem attribute_any (I : RI) (w : World) (p : PS) (h : Rd I w p) :
    Calls Tryz.prog 96 #[I.ptr] w fun e w' => e = .returned (.tuple #[.string (st (attributeP I.T p).1.1), .string (st (attributeP I.T p).1.2)]) ∧ Rd I w' (attributeP I.T p).2 ∧ Kept1 I.b w w' := by
  have HT := Lib.hid (fun c => takesNew_any I w p h whoL 4 rfl (by omega) 9 (0, 0) _ rfl c)
  have HST := Lib.hid (fun W q (hr : Rd I W q) => stop_any I W q hr)
  have HND := Lib.hid (fun W q (hr : Rd I W q) => needs_any I W q hr kDot)
  have HNM := Lib.hid (fun W q (hr : Rd I W q) => name_any I W q hr)
  clear h
  unfold attributeP attrTail
  unfold RI.ptr at *
  obtain ⟨o, ho⟩ : ∃ o, takesOneP I.T whoL p = o := ⟨_, rfl⟩
  rw [ho] at HT ⊢
  clear ho
  obtain ⟨ow, q⟩ := o
  dsimp only at HT ⊢
  have eo := toList_st ow
  obtain ⟨q', hq'⟩ : ∃ q', (if ow = [] then stopP q else q) = q' := ⟨_, rfl⟩
  rw [hq']
  have HQ' := Lib.hid hq'
  clear hq'
  obtain ⟨S, hS⟩ : ∃ S, st ow = S := ⟨_, rfl⟩
  rw [hS] at eo HT ⊢
  clear hS
  go_enter Tryz.func96, Tryz.ntmps96
  go_wp2_with fail
  refine (HT.out _).mono ?_
  rintro e w1 ⟨rfl, h1, h2⟩
  have H1 := Lib.hid h1
  have H2 := Lib.hid h2
  clear h1 h2 HT
  by_cases hw : ow = []
  · have hq : (ow == []) = true := by rw [hw]; rfl
    obtain rfl : stopP q = q' := by rw [← HQ'.out, if_pos hw]
    clear HQ'
    go_wp2_with fail
    refine (HST.out _ _ H1.out).mono ?_
    rintro e w2 ⟨rfl, h1, h2⟩
    have H3 := Lib.hid h1
    have H4 := Lib.hid (H2.out.trans h2)
    clear h1 h2 HST
    go_wp2_with fail
    refine (HND.out _ _ H3.out).mono ?_
    rintro e w3 ⟨rfl, h1, h2⟩
    have H5 := Lib.hid h1
    have H6 := Lib.hid (H4.out.trans h2)
    clear h1 h2 HND
    go_wp2_with fail
    refine (HNM.out _ _ H5.out).mono ?_
    rintro e w4 ⟨rfl, h1, h2⟩
    have H7 := Lib.hid h1
    have H8 := Lib.hid (H6.out.trans h2)
    clear h1 h2 HNM
    go_wp2_with fail
    go_ret2
    exact ⟨rfl, H7.out, H8.out⟩
  · have hq : (ow == []) = false := by simpa using hw
    obtain rfl : q = q' := by rw [← HQ'.out, if_neg hw]
    clear HQ'
    go_wp2_with fail
    refine (HND.out _ _ H1.out).mono ?_
    rintro e w3 ⟨rfl, h1, h2⟩
    have H5 := Lib.hid h1
    have H6 := Lib.hid (H2.out.trans h2)
    clear h1 h2 HND
    go_wp2_with fail
    refine (HNM.out _ _ H5.out).mono ?_
    rintro e w4 ⟨rfl, h1, h2⟩
    have H7 := Lib.hid h1
    have H8 := Lib.hid (H6.out.trans h2)
    clear h1 h2 HNM
    go_wp2_with fail
    go_ret2
    exact ⟨rfl, H7.out, H8.out⟩
set_option maxRecDepth 100000 in
set_option maxHeartbeats 1000000 in
theorem attr_any (I : RI) (w : World) (p : PS) (h : Rd I w p) (op : List UInt8) :
    Calls Tryz.prog 152 #[I.ptr, .string (st op)] w (PostT I w (attrP I.T op p)) := by
  have HA := Lib.hid (fun W (hb : Below w.heap.size w W) => attribute_any I W p (h.below hb))
  have hlt := h.lt
  have HLT := Lib.hid hlt
  have H := Lib.hid h
  clear h hlt
  unfold attrP
  obtain ⟨o, ho⟩ : ∃ o, attributeP I.T p = o := ⟨_, rfl⟩
  rw [ho] at HA ⊢
  clear ho
  obtain ⟨⟨ow, on⟩, q⟩ := o
  dsimp only at HA ⊢
  obtain ⟨S, hS⟩ : ∃ S, st op = S := ⟨_, rfl⟩
  rw [hS]
  have HS := Lib.hid hS
  clear hS
  unfold RI.ptr at *
  go_enter Tryz.func152, Tryz.ntmps152
  go_wp2_with fail
  have hb0 : Below w.heap.size w (w.alloc (.cells #[.string ⟨#[]⟩, .int .i64 0, .int .i64 0, .string ⟨#[]⟩, .slice none 0 0, .string ⟨#[]⟩, .string ⟨#[]⟩, .slice none 0 0] 27)) := (Below.refl _ _).alloc (Nat.le_refl _) _
  refine (HA.out _ hb0).mono ?_
  rintro e w1 ⟨rfl, h1, h2⟩
  have g1 : w1.heap[w.heap.size]? = some (.cells #[.string ⟨#[]⟩, .int .i64 0, .int .i64 0, .string ⟨#[]⟩, .slice none 0 0, .string ⟨#[]⟩, .string ⟨#[]⟩, .slice none 0 0] 27 (0, 0)) := by
    rw [h2.block _ (by simp) (by have := HLT.out; omega)]; exact heap_alloc_new _ _
  have H1 := Lib.hid h1
  have H2 := Lib.hid ((Kept1.of_below hb0).trans h2)
  have g0 := HLT.out
  have hne : w.heap.size ≠ I.b := by omega
  clear h1 h2 hb0 HA
  have x0 := cell_block g1 0
  have x1 := cell_block g1 1
  have x2 := cell_block g1 2
  have x3 := cell_block g1 3
  have x4 := cell_block g1 4
  have x5 := cell_block g1 5
  have x6 := cell_block g1 6
  have x7 := cell_block g1 7
  have xf : ∀ o, w1.frozen? ⟨w.heap.size, o, none⟩ = false := fun o => by simp [World.frozen?, g1]
  simp only [List.getElem?_toArray, List.getElem?_cons_zero, List.getElem?_cons_succ] at x0 x1 x2 x3 x4 x5 x6 x7
  go_wp2_with fail
  exact bodyPost_ret (v := XV.v ⟨S, ⟨0, 0, ⟨#[]⟩, none, 0, 0⟩, st ow, st on, none, 0, 0⟩) (by simp [results, Tryz.results152, go_sem, XV.v, x0, x1, x2, x3, x4, x5, x6, x7]) rfl
    (fin8 (N := w.heap.size + 1) H.out (by rw [← HS.out]; exact trAt_leaf _ (valIs_none _ _) none 0) H1.out H2.out (Nat.le_refl _) (Nat.lt_succ_self _) (kept_set8 _ _ _ _ _ _ _ _ _))
end Go.Proofs.YtllgodaphoncnaaGreatDoor
