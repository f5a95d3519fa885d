/- Consistency of the program: the tower's state as a whole; climb. -/
import Derived.Test.YteappjgdcbploaaL12L
import Derived.Deep.CutRange
namespace Go.Proofs.Yteappjgdcbploaa
open Go.RowKit
open Go.Maps (Keyed Tidy IsMap)
set_option linter.unusedVariables false
set_option linter.unusedSimpArgs false

/-- An owned row stays while a block of another kind is changed. -/
theorem own_tag {w w' : World} {base n size b : Nat} {e : TypeId} {v : Value} {xs : List Value} {ob : Obj} (h : w.ownsRow base e size v n xs) (hob : w.heap[b]? = some ob) (ho : ∀ cs fr, ob ≠ .cells cs e fr) (hc : ChgS (fun k => k = b) w w') : w'.ownsRow base e size v n xs := by
  refine ownsRow_keep h fun k hk => ?_
  rcases h.2 with ⟨rfl, -⟩ | ⟨g, cap, cur, rfl, hb, hg, -⟩
  · cases hk
  · simp only [Value.ownBlock, Option.some.injEq] at hk
    subst hk
    refine hc.block g (World.ownsRow.lt h g rfl).2 fun e => ?_
    subst e
    rw [hg] at hob
    exact ho _ _ (Option.some.inj hob).symm
theorem blk_tag {w w' : World} {g b : Nat} {vs : List Value} {e : TypeId} {ob : Obj} (h : Blk w g vs e) (hob : w.heap[b]? = some ob) (ho : ∀ cs fr, ob ≠ .cells cs e fr) (hc : ChgS (fun k => k = b) w w') : Blk w' g vs e := by
  refine h.chg hc fun e => ?_
  subst e
  unfold Blk at h
  rw [h] at hob
  exact ho _ _ (Option.some.inj hob).symm
theorem own_read {w : World} {base n c gT : Nat} {xs : List Int} (h : OwnI w base (.slice (some ⟨gT, 0, none⟩) n c) xs) : RdI w (some ⟨gT, 0, none⟩) xs := h.reads
section
variable (O : List Int) (W : List (List Int)) (J : List (List (List Int)))
/-- A tower as it is while it is built: l: its level; ps: its relations; w0: the world before it. -/
structure TwS (t : Tw) (gP : Nat) (ps : List RelV) (w0 : World) (l b : Nat) (w : World) : Prop where
  bel : Below w0.heap.size w0 w
  pres : RdP t.A0 t.A1 t.A2 O W J w0
  rel0 : ∀ p ∈ ps, RelRd w0 p
  box : Blk w t.tb (t.cells O l) 121
  szs : OwnI w w0.heap.size (.slice (some ⟨t.gS, 0, none⟩) (O.length + 1) t.cS) (Num.szsL O W J)
  ap : t.AP = some ⟨gP, 0, none⟩
  prd : ∃ vals, w.ownsRow w0.heap.size 22 1 (.slice (some ⟨gP, 0, none⟩) O.length t.cP) O.length vals ∧ ∀ j, l ≤ j → j < O.length → ∃ gT c, vals[j]? = some (.slice (some ⟨gT, 0, none⟩) (Num.tabL (Num.tlL O W J j)).length c) ∧ OwnI w w0.heap.size (.slice (some ⟨gT, 0, none⟩) (Num.tabL (Num.tlL O W J j)).length c) (Num.tabL (Num.tlL O W J j))
  rel : OwnR w w0.heap.size t.vR ps
  map : ∃ Do, Maps.size Do ≤ b ∧ w.ownsMap Try.prog 3 mapR t.bo (Maps.size Do) Do
  tb0 : w0.heap.size ≤ t.tb
  bo0 : w0.heap.size ≤ t.bo
end
section
variable {O : List Int} {W : List (List Int)} {J : List (List (List Int))} {t : Tw} {gP : Nat} {ps : List RelV} {w0 : World} {l bd : Nat} {w w' : World}
theorem TwS.toR (h : TwS O W J t gP ps w0 l bd w) : TwR O W J t l w := by
  refine ⟨h.box, ⟨h.pres.1.below' h.bel, h.pres.2.1.below' h.bel, h.pres.2.2.below' h.bel⟩, own_read h.szs, fun j h1 h2 => ?_⟩
  obtain ⟨vals, hv, ht⟩ := h.prd
  obtain ⟨gT, c, e, ho⟩ := ht j h1 h2
  have hlt := World.ownsRow.lt hv gP rfl
  refine ⟨gP, _, c, h.ap, hlt.2, ?_, own_read ho⟩
  rw [World.ownsRow.cellAt hv j (by omega), e]
theorem TwS.toRel (h : TwS O W J t gP ps w0 l bd w) : RelsRd w t.vR ps := RelsRd.of h.rel fun p hp => (h.rel0 p hp).below' h.bel
theorem TwS.below (h : TwS O W J t gP ps w0 l bd w) (hb : Below w.heap.size w w') : TwS O W J t gP ps w0 l bd w' := by
  have hk : ∀ k, k < w.heap.size → w'.heap[k]? = w.heap[k]? := fun k hk => hb.block k hk
  have ho : ∀ {e : TypeId} {n size : Nat} {v : Value} {xs : List Value}, w.ownsRow w0.heap.size e size v n xs → w'.ownsRow w0.heap.size e size v n xs := fun h => ownsRow_keep h fun k e => hk k (World.ownsRow.lt h k e).2
  obtain ⟨vals, hv, ht⟩ := h.prd
  obtain ⟨Do, h1, h2⟩ := h.map
  exact ⟨bstep h.bel h.bel.size hb, h.pres, h.rel0, h.box.below hb, ho h.szs, h.ap, ⟨vals, ho hv, fun j a b => by obtain ⟨gT, c, e, ht⟩ := ht j a b; exact ⟨gT, c, e, ho ht⟩⟩, ho h.rel, ⟨Do, h1, own_keep h2 (hk _ h2.lt)⟩, h.tb0, h.bo0⟩
/-- A block of none of the tower's kinds is changed. -/
theorem TwS.tag {b : Nat} {ob : Obj} (h : TwS O W J t gP ps w0 l bd w) (hob : w.heap[b]? = some ob) (hc : ChgS (fun k => k = b) w w') (hb0 : w0.heap.size ≤ b) (hne : b ≠ t.bo)
    (h1 : ∀ cs fr, ob ≠ .cells cs 121 fr) (h2 : ∀ cs fr, ob ≠ .cells cs 2 fr) (h3 : ∀ cs fr, ob ≠ .cells cs 22 fr) (h4 : ∀ cs fr, ob ≠ .cells cs 102 fr) : TwS O W J t gP ps w0 l bd w' := by
  obtain ⟨vals, hv, ht⟩ := h.prd
  obtain ⟨Do, a1, a2⟩ := h.map
  exact ⟨bstepS h.bel h.bel.size (fun k hk => by omega) hc, h.pres, h.rel0, blk_tag h.box hob h1 hc, own_tag h.szs hob h2 hc, h.ap, ⟨vals, own_tag hv hob h3 hc, fun j a b => by obtain ⟨gT, c, e, ht⟩ := ht j a b; exact ⟨gT, c, e, own_tag ht hob h2 hc⟩⟩, own_tag h.rel hob h4 hc, ⟨Do, a1, own_keep a2 (hc.block _ a2.lt (fun e => hne e.symm))⟩, h.tb0, h.bo0⟩
/-- A map is changed. -/
theorem TwS.tagMap {b : Nat} {es : Array MapEntry} {ck : Nat} (h : TwS O W J t gP ps w0 l bd w) (hob : w.heap[b]? = some (.map es ck)) (hc : ChgS (fun k => k = b) w w') (hb0 : w0.heap.size ≤ b) (hne : b ≠ t.bo) : TwS O W J t gP ps w0 l bd w' :=
  h.tag hob hc hb0 hne (fun _ _ e => by cases e) (fun _ _ e => by cases e) (fun _ _ e => by cases e) (fun _ _ e => by cases e)
/-- .. the outer map. -/
theorem TwS.outer {Do : DataW Unit} {bd' : Nat} (h : TwS O W J t gP ps w0 l bd w) (hc : ChgS (fun k => k = t.bo) w w') (hD : w'.ownsMap Try.prog 3 mapR t.bo (Maps.size Do) Do) : RelsRd w' t.vR ps ∧ TwR O W J t l w' ∧ (Maps.size Do ≤ bd' → TwS O W J t gP ps w0 l bd' w') := by
  obtain ⟨vals, hv, ht⟩ := h.prd
  obtain ⟨D0, a1, ⟨es, ck, hob, _⟩⟩ := h.map
  refine ⟨RelsRd.chgMap hob hc h.toRel, TwR.chgMap hob hc h.toR, fun hsz => ?_⟩
  exact ⟨bstepS h.bel h.bel.size (fun k hk => by have := h.bo0; omega) hc, h.pres, h.rel0, blk_tag h.box hob (fun _ _ e => by cases e) hc, own_tag h.szs hob (fun _ _ e => by cases e) hc, h.ap, ⟨vals, own_tag hv hob (fun _ _ e => by cases e) hc, fun j a b => by obtain ⟨gT, c, e, ht⟩ := ht j a b; exact ⟨gT, c, e, own_tag ht hob (fun _ _ e => by cases e) hc⟩⟩, own_tag h.rel hob (fun _ _ e => by cases e) hc, ⟨Do, hsz, hD⟩, h.tb0, h.bo0⟩
theorem TwS.prdHeap (h : TwS O W J t gP ps w0 l bd w) : ∃ cur, w.heap[gP]? = some (.cells cur 22 (0, 0)) := by
  obtain ⟨vals, hv, -⟩ := h.prd
  rcases hv.2 with ⟨e, -⟩ | ⟨g, cap, cur, e, -, hg, -⟩
  · cases e
  · simp only [Value.slice.injEq, Option.some.injEq, Addr.mk.injEq, and_true, true_and] at e
    obtain ⟨rfl, rfl⟩ := e
    exact ⟨cur, hg⟩
theorem TwS.ne (h : TwS O W J t gP ps w0 l bd w) : gP ≠ t.tb ∧ gP ≠ t.bo ∧ t.tb ≠ t.bo := by
  obtain ⟨cur, hg⟩ := h.prdHeap
  have hb := h.box
  obtain ⟨Do, _, ⟨es, ck, hm, _⟩⟩ := h.map
  unfold Blk at hb
  refine ⟨fun e => ?_, fun e => ?_, fun e => ?_⟩
  · rw [e, hb] at hg; simp at hg
  · rw [e, hm] at hg; cases hg
  · rw [e, hm] at hb; cases hb
theorem TwS.slot {i : Nat} (h : TwS O W J t gP ps w0 l bd w) (hi : i < O.length) : ∃ u, w.cell? ⟨gP, i, none⟩ = some u ∧ w.frozen? ⟨gP, i, none⟩ = false := by
  obtain ⟨vals, hv, -⟩ := h.prd
  have hvl : i < vals.length := by have := hv.1; omega
  exact ⟨vals[i], by rw [World.ownsRow.cellAt hv i (by omega), List.getElem?_eq_getElem hvl], World.ownsRow.frozenAt hv i⟩
/-- A table is put at its place, and the level is lowered. -/
theorem TwS.next {i gT c : Nat} (h : TwS O W J t gP ps w0 (i + 1) bd w) (hi : i < O.length) (hT : OwnI w w0.heap.size (.slice (some ⟨gT, 0, none⟩) (Num.tabL (Num.tlL O W J i)).length c) (Num.tabL (Num.tlL O W J i))) :
    TwS O W J t gP ps w0 i bd ((w.setCell ⟨gP, i, none⟩ (.slice (some ⟨gT, 0, none⟩) (Num.tabL (Num.tlL O W J i)).length c)).setCell ⟨t.tb, 6, none⟩ (.int .i64 (i : Int))) := by
  obtain ⟨n1, n2, n3⟩ := h.ne
  obtain ⟨cur, hg⟩ := h.prdHeap
  have hc1 : ChgS (fun k => k = gP) w (w.setCell ⟨gP, i, none⟩ (.slice (some ⟨gT, 0, none⟩) (Num.tabL (Num.tlL O W J i)).length c)) := ChgS.set w ⟨gP, i, none⟩ _
  obtain ⟨vals, hv, ht⟩ := h.prd
  have hlt := World.ownsRow.lt hv gP rfl
  have hv1 := (World.ownsRow.stored hv i (.slice (some ⟨gT, 0, none⟩) (Num.tabL (Num.tlL O W J i)).length c)).1
  have hb1 := blk_tag h.box hg (fun _ _ e => by simp at e) hc1
  have hb1' := hb1
  unfold Blk at hb1'
  obtain ⟨Do, m1, m2⟩ := h.map
  generalize hw1 : w.setCell ⟨gP, i, none⟩ (.slice (some ⟨gT, 0, none⟩) (Num.tabL (Num.tlL O W J i)).length c) = w1 at *
  have hc2 : ChgS (fun k => k = t.tb) w1 (w1.setCell ⟨t.tb, 6, none⟩ (.int .i64 (i : Int))) := ChgS.set w1 ⟨t.tb, 6, none⟩ _
  have L1 := bstepS h.bel h.bel.size (fun k hk => by omega) hc1
  have hI : ∀ {gT n c : Nat} {xs : List Int}, OwnI w w0.heap.size (.slice (some ⟨gT, 0, none⟩) n c) xs → OwnI (w1.setCell ⟨t.tb, 6, none⟩ (.int .i64 (i : Int))) w0.heap.size (.slice (some ⟨gT, 0, none⟩) n c) xs := fun h0 =>
    own_tag (own_tag h0 hg (fun _ _ e => by simp at e) hc1) hb1' (fun _ _ e => by simp at e) hc2
  refine ⟨bstepS L1 L1.size (fun k hk => by have := h.tb0; omega) hc2, h.pres, h.rel0, hb1.set 6 (.int .i64 (i : Int)), hI h.szs, h.ap, ⟨vals.set i (.slice (some ⟨gT, 0, none⟩) (Num.tabL (Num.tlL O W J i)).length c), own_tag hv1 hb1' (fun _ _ e => by simp at e) hc2, fun j h1 h2 => ?_⟩,
    own_tag (own_tag h.rel hg (fun _ _ e => by simp at e) hc1) hb1' (fun _ _ e => by simp at e) hc2, ⟨Do, m1, own_keep (own_keep m2 (hc1.block _ m2.lt (fun e => n2 e.symm))) (hc2.block _ (by have := m2.lt; have := hc1.size; omega) (fun e => n3 e.symm))⟩, h.tb0, h.bo0⟩
  have hvl : vals.length = O.length := by have := hv.1; omega
  by_cases e : j = i
  · subst e
    exact ⟨gT, c, by rw [List.getElem?_set_self (by omega)], hI hT⟩
  · obtain ⟨gT', c', e', ho⟩ := ht j (by omega) h2
    exact ⟨gT', c', by rw [List.getElem?_set_ne (by omega), e'], hI ho⟩
end
/-- What holds behind the first store of a climb. -/
structure MidS (O : List Int) (W : List (List Int)) (J : List (List (List Int))) (t : Tw) (gP : Nat) (ps : List RelV) (w0 : World) (i bm : Nat) (w : World) : Prop where
  st : TwS O W J t gP ps w0 (i + 1) 1 w
  im : MSt O W J i t.bo bm w
  b0 : w0.heap.size ≤ bm
section
variable {O : List Int} {W : List (List Int)} {J : List (List (List Int))} {t : Tw} {gP : Nat} {ps : List RelV} {w0 : World} {i bm : Nat} {w w' : World}
theorem MidS.mapHeap (h : MidS O W J t gP ps w0 i bm w) : ∃ es ck, w.heap[bm]? = some (.map es ck) := by
  obtain ⟨D, ⟨es, ck, hb, _⟩, _⟩ := h.im.inn
  exact ⟨es, ck, hb⟩
theorem MidS.chg (h : MidS O W J t gP ps w0 i bm w) (hc : ChgS (fun k => k = bm) w w') (hs : MSt O W J i t.bo bm w') : MidS O W J t gP ps w0 i bm w' := by
  obtain ⟨es, ck, hb⟩ := h.mapHeap
  exact ⟨h.st.tagMap hb hc h.b0 h.im.ne, hs, h.b0⟩
theorem MidS.below (h : MidS O W J t gP ps w0 i bm w) (hb : Below w.heap.size w w') : MidS O W J t gP ps w0 i bm w' := ⟨h.st.below hb, h.im.below hb, h.b0⟩
theorem MidS.toR (h : MidS O W J t gP ps w0 i bm w) : ∀ w', ChgS (fun k => k = bm) w w' → TwR O W J t (i + 1) w' := fun w' hc => by
  obtain ⟨es, ck, hb⟩ := h.mapHeap
  exact TwR.chgMap hb hc h.st.toR
theorem MidS.toRel (h : MidS O W J t gP ps w0 i bm w) : ∀ w', ChgS (fun k => k = bm) w w' → RelsRd w' t.vR ps := fun w' hc => by
  obtain ⟨es, ck, hb⟩ := h.mapHeap
  exact RelsRd.chgMap hb hc h.st.toRel
/-- The first images are put among the levels. -/
theorem TwS.open_ (h : TwS O W J t gP ps w0 (i + 1) 0 w) (hf : FirstIm O W J i bm w) (hb : w0.heap.size ≤ bm) (hne : bm ≠ t.bo) (hi : i ≤ 1000) :
    ∃ w', (Instr.mapUpdate 119 (.map (some t.bo)) (.int .i64 (i : Int)) (.map (some bm))).run Try.prog w = .ok () w' ∧ MidS O W J t gP ps w0 i bm w' ∧ ChgS (fun k => k = t.bo) w w' := by
  obtain ⟨Do, m1, m2⟩ := h.map
  obtain ⟨w', hrun, hown, hgr⟩ := m2.update keyed3 Try.underlying119 (by unfold maxLen; omega) (key3 (x := (i : Int)) (by omega)) (show mapR (.map (some bm)) = some (kd (bm : Int), []) from rfl)
  have hc : ChgS (fun k => k = t.bo) w w' := ChgS.of_grown hgr (fun k hk => by simpa using hk.symm)
  have hD := own_full hown
  have hsz : Maps.size (Do.put (ky (i : Int)) (kd (bm : Int))) ≤ 1 := by
    have := hown.size_le
    omega
  obtain ⟨D, d1, d2⟩ := hf
  refine ⟨w', hrun, ⟨(h.outer (bd' := 1) hc hD).2.2 hsz, ⟨⟨_, by omega, hD, Maps.atKey_put_same m2.isMap (key_lit _) _ _⟩, ⟨D, own_keep d1 (hc.block _ d1.lt hne), d2⟩, hne⟩, hb⟩, hc⟩
/-- They are taken out again. -/
theorem MidS.shut {w6 : World} (h : MidS O W J t gP ps w0 i bm w6) {l : Nat} (hst : TwS O W J t gP ps w0 l 1 w) (Do : DataW Unit) (hD : w.ownsMap Try.prog 3 mapR t.bo 1 Do) (hh : Maps.has Do (ky (i : Int)) = true)
    (hown : w'.ownsMap Try.prog 3 mapR t.bo 1 (Do.del (ky (i : Int)))) (ht : w.mapTurned w' t.bo) : TwS O W J t gP ps w0 l 0 w' ∧ ChgS (fun k => k = t.bo) w w' := by
  have hc : ChgS (fun k => k = t.bo) w w' := ChgS.of_grown ht.grown (fun k hk => by simpa using hk.symm)
  have h1 := Maps.size_del (k := ky (i : Int)) (hD.tidy keyed3)
  rw [if_pos hh] at h1
  have h2 := hD.size_le
  exact ⟨(hst.outer (bd' := 0) hc (own_full hown)).2.2 (by omega), hc⟩
end
theorem own_inj {k : TypeId} {R : Value → Option (DataW Unit × List MemPlace)} {w : World} {b n m : Nat} {D D' : DataW Unit} (h : w.ownsMap Try.prog k R b n D) (h' : w.ownsMap Try.prog k R b m D') : D = D' := by
  obtain ⟨es, ck, hb, _, _, hD⟩ := h
  obtain ⟨es', ck', hb', _, _, hD'⟩ := h'
  rw [hb] at hb'
  simp only [Option.some.injEq, Obj.map.injEq] at hb'
  obtain ⟨rfl, rfl⟩ := hb'
  rw [hD, hD']
theorem blk_ne_map {w : World} {g b : Nat} {vs : List Value} {e : TypeId} {es : Array MapEntry} {ck : Nat} (h : Blk w g vs e) (hm : w.heap[b]? = some (.map es ck)) : g ≠ b := fun e => by
  unfold Blk at h
  rw [e, hm] at h
  cases h
theorem chg_to3 {a b c : Nat} {w w' : World} (h : ChgS (fun k => k = c) w w') : ChgS (fun k => k = a ∨ k = b ∨ k = c) w w' := h.mono fun k hk => .inr (.inr hk)
/-- The result is stored. -/
theorem last_store {O : List Int} {W : List (List Int)} {J : List (List (List Int))} {t : Tw} {gP : Nat} {ps : List RelV} {w0 w w9 : World} {l bd : Nat} {p q r v : Value} {S : Nat → Prop} (hB : Blk w9 w.heap.size [p, q, r, v] 132) (hT : TwS O W J t gP ps w0 l bd w9) (x y z u : Value) (h0 : w0.heap.size ≤ w.heap.size) (hne : w.heap.size ≠ t.bo) (hC : ChgS S w w9) :
    ∃ w10, (((w9.setCell ⟨w.heap.size, 0, none⟩ x).setCell ⟨w.heap.size, 1, none⟩ y).setCell ⟨w.heap.size, 2, none⟩ z).setCell ⟨w.heap.size, 3, none⟩ u = w10 ∧ Blk w10 w.heap.size [x, y, z, u] 132 ∧ TwS O W J t gP ps w0 l bd w10 ∧ ChgS S w w10 := by
  have hcr : ChgS (fun k => k = w.heap.size) w9 ((((w9.setCell ⟨w.heap.size, 0, none⟩ x).setCell ⟨w.heap.size, 1, none⟩ y).setCell ⟨w.heap.size, 2, none⟩ z).setCell ⟨w.heap.size, 3, none⟩ u) := (((ChgS.set _ ⟨w.heap.size, 0, none⟩ _).trans (ChgS.set _ ⟨w.heap.size, 1, none⟩ _)).trans (ChgS.set _ ⟨w.heap.size, 2, none⟩ _)).trans (ChgS.set _ ⟨w.heap.size, 3, none⟩ _)
  exact ⟨_, rfl, (((hB.set 0 x).set 1 y).set 2 z).set 3 u, hT.tag hB hcr h0 hne (fun _ _ e => by simp at e) (fun _ _ e => by simp at e) (fun _ _ e => by simp at e) (fun _ _ e => by simp at e), chg_out hC hcr⟩
/-- The outer map of a climb, as it is when the images are taken out. -/
theorem outer_has {O : List Int} {W : List (List Int)} {J : List (List (List Int))} {t : Tw} {gP : Nat} {ps : List RelV} {w0 : World} {i bm l : Nat} {w : World} (h : TwS O W J t gP ps w0 l 1 w) (hs : MSt O W J i t.bo bm w) :
    ∃ Do, w.ownsMap Try.prog 3 mapR t.bo 1 Do ∧ Maps.has Do (ky (i : Int)) = true := by
  obtain ⟨Do, h1, h2⟩ := h.map
  obtain ⟨⟨D2, _, h3, h4⟩, _, _⟩ := hs
  have e := own_inj h2 h3
  subst e
  refine ⟨Do, h2.mono h1, ?_⟩
  cases hh : Maps.has Do (ky (i : Int)) with
  | true => rfl
  | false =>
    rw [Maps.atKey_of_not_has hh] at h4
    simp only [kd, DataW.lit.injEq, Lit.int.injEq, true_and] at h4
    omega
set_option maxRecDepth 100000 in
set_option maxHeartbeats 8000000 in
theorem climb_any {O : List Int} {W : List (List Int)} {J : List (List (List Int))} (V : Num.Val O W J) (i : Nat) (hi : i < O.length) (C : Num.Con (Num.tlL O W J (i + 1))) (t : Tw) (gP : Nat) (ps : List RelV) (w0 w : World) (hps : ps.map (·.2) = Num.rels O W J) (hlen : ps.length ≤ 100) (h : TwS O W J t gP ps w0 (i + 1) 0 w) :
    Calls Try.prog 143 #[.pointer (some ⟨t.tb, 0, none⟩)] w fun e w' => e = .returned (fltV (Num.fltA O W J i)) ∧ TwS O W J t gP ps w0 (if (Num.fltA O W J i).k = 0 then i else i + 1) 0 w' ∧ ChgS (fun k => k = t.tb ∨ k = gP ∨ k = t.bo) w w' := by
  have n6 := V.n6
  have HV := Lib.hid V
  have HC := Lib.hid C
  have HPS := Lib.hid hps
  obtain ⟨W0, hW0⟩ : ∃ X, w.alloc (.cells #[.int .i64 0, .int .i64 0, .int .i64 0, .int .i64 0] 132) = X := ⟨_, rfl⟩
  have b0 : Below w.heap.size w W0 := by rw [← hW0]; go_grown
  have BF : Blk W0 w.heap.size [.int .i64 0, .int .i64 0, .int .i64 0, .int .i64 0] 132 := by rw [← hW0]; exact Blk.new w [.int .i64 0, .int .i64 0, .int .i64 0, .int .i64 0] 132
  have h0 := h.below b0
  have b1 : Below W0.heap.size W0 W0.drew := (Below.refl _ _).drew
  have h1 := h0.below b1
  obtain ⟨tl, t0, t1, t2, t3, t4, t5, t6, t7⟩ := h0.box.c8
  have hbF := BF.c4
  have HFI := Lib.hid (firstImages_any V i hi C t W0.drew h1.toR)
  have HH1 := Lib.hid h1
  have HBF1 : Hid (Blk W0.drew w.heap.size [.int .i64 0, .int .i64 0, .int .i64 0, .int .i64 0] 132) := Lib.hid BF
  have hlt1 : t.bo < W0.drew.heap.size := by
    obtain ⟨Do, _, m2⟩ := h1.map
    exact m2.lt
  have hbw0 := h1.bel.size
  have HW0 := Lib.hid h.bel.size
  have htlt : w.heap.size ≤ W0.drew.heap.size := b0.size
  have hiw : IntKind.i64.wrap (((i + 1 : Nat) : Int) - 1) = (i : Int) := by rw [IntWalk.i64_in _ (by omega)]; omega
  have HCW : Hid (ChgS (fun k => k = t.tb ∨ k = gP ∨ k = t.bo) w W0.drew) := Lib.hid ((ChgS.of_below b0).trans (ChgS.of_below b1))
  have HFAG : Hid (∀ bm wc, MidS O W J t gP ps w0 i bm wc → Calls Try.prog 157 #[.pointer (some ⟨t.tb, 0, none⟩), .int .i64 (i : Int)] wc fun e w' => e = .returned (fltV (Num.fltA O W J i)) ∧ ChgS (fun k => k = bm) wc w' ∧ MSt O W J i t.bo bm w') := Lib.hid fun bm wc hm => faultAt_any HV.out i hi HC.out t bm wc ps HPS.out hlen hm.toR hm.toRel hm.im
  unfold fltV at HFAG ⊢
  generalize Num.fltA O W J i = f at *
  obtain ⟨fk, fl, ff, fs⟩ := f
  clear h h0 h1 V C hps BF
  go_enter Try.func143, Try.ntmps143
  go_wp2_with (fail)
  clear hW0
  go_cut [3] from 10 to 17 (fun s3 wx => ∃ bm, s3 = .int .i64 (i : Int) ∧ Hid (MidS O W J t gP ps w0 i bm wx) ∧ Hid (Blk wx w.heap.size [.int .i64 0, .int .i64 0, .int .i64 0, .int .i64 0] 132) ∧ Hid (ChgS (fun k => k = t.tb ∨ k = gP ∨ k = t.bo) w wx) ∧ w.heap.size < wx.heap.size ∧ w.heap.size ≤ bm)
  case first =>
    go_region_with (first
      | (go_at_call 156; (with_reducible refine HFI.out.mono ?_); rintro e w2 ⟨bm, rfl, hbm, hb2, hfi⟩; obtain ⟨w3, hrun3, hmid3, hc3⟩ := TwS.open_ (HH1.out.below hb2) hfi (by omega) (by omega) (by omega); have hB2 := HBF1.out.below hb2; obtain ⟨ql, q0, q1, q2, q3, q4, q5, q6, q7⟩ := (HH1.out.below hb2).box.c8))
    all_goals
      have hB3 : Blk w3 w.heap.size [.int .i64 0, .int .i64 0, .int .i64 0, .int .i64 0] 132 := hB2.chg hc3 (fun e => by obtain ⟨Do, _, ⟨es, ck, hm, _⟩⟩ := (HH1.out.below hb2).map; unfold Blk at hB2; rw [e, hm] at hB2; cases hB2)
      have hC3 := (HCW.out.trans (ChgS.of_below hb2)).trans (hc3.mono fun k hk => .inr (.inr hk))
      have hL3 : w.heap.size < w3.heap.size := hB3.lt
      have HB3 := Lib.hid hB3
      have HM3 := Lib.hid hmid3
      have HC3 := Lib.hid hC3
      clear hB3 hmid3 hC3 hB2 hc3 hfi hb2
      go_wp2_with (fail)
      go_meet
      exact ⟨bm, rfl, HM3, HB3, HC3, hL3, by omega⟩
  case rest =>
    obtain ⟨bm, rfl, hM, hB, hCw, hL, hbmw⟩ := hcut
    clear t0 t1 t2 t3 t4 t5 t6 t7 hbF HFI HH1 HBF1 HCW
    have hm := hM.out
    have HFA := Lib.hid (HFAG.out bm wc hm)
    have hw0w : w0.heap.size ≤ w.heap.size := HW0.out
    have hk3 := key3 (x := (i : Int)) (by omega)
    clear hm
    go_wp2_with (fail)
    refine HFA.out.mono ?_; rintro e w4 ⟨rfl, hc4, hs4⟩
    have hM4 := hM.out.chg hc4 hs4
    obtain ⟨es4, ck4, hob4⟩ := hM.out.mapHeap
    have hB4 := Blk.chgMap hob4 hc4 hB.out
    have hC4 := chg_new hCw.out hc4 hbmw
    obtain ⟨w5, hw5⟩ : ∃ X, w4.alloc (.cells #[.int .i64 fk, .int .i64 fl, .int .i64 ff, .int .i64 fs] 132) = X := ⟨_, rfl⟩
    have b5 : Below w4.heap.size w4 w5 := by rw [← hw5]; go_grown
    have BF5 : Blk w5 w4.heap.size [.int .i64 fk, .int .i64 fl, .int .i64 ff, .int .i64 fs] 132 := by rw [← hw5]; exact Blk.new w4 [.int .i64 fk, .int .i64 fl, .int .i64 ff, .int .i64 fs] 132
    have hM5 := hM4.below b5
    have hB5 := hB4.below b5
    have hC5 := hC4.trans (ChgS.of_below b5)
    obtain ⟨bf, f0, f1, f2, f3⟩ := BF5.c4
    have hL4 : w.heap.size < w4.heap.size := hB4.lt
    have HM5 := Lib.hid hM5
    have HB5 := Lib.hid hB5
    have HC5 := Lib.hid hC5
    have HBF5 := Lib.hid BF5
    clear HFA hM4 hM5 hB4 hB5 hC4 hC5 BF5 b5 hs4 hc4 hob4 hM hB hCw
    by_cases hk : fk = 0
    · subst hk
      have b6 : Below w5.heap.size w5 w5.drew := (Below.refl _ _).drew
      have hM6 := HM5.out.below b6
      have HPA := Lib.hid (productsAt_any HV.out i hi HC.out t bm w5.drew hM6.toR hM6.im)
      have HM6 := Lib.hid hM6
      have HB6 := Lib.hid (HB5.out.below b6)
      have HBF6 := Lib.hid (HBF5.out.below b6)
      have HC6 := Lib.hid (HC5.out.trans (ChgS.of_below b6))
      obtain ⟨tl, t0, t1, t2, t3, t4, t5, t6, t7⟩ := HM5.out.st.box.c8
      have hap := HM5.out.st.ap
      rw [hap] at t5
      have hz6 : w4.heap.size < w5.drew.heap.size := bf
      have hw06 : w0.heap.size ≤ w5.drew.heap.size := by omega
      have htl : 0 < (Num.tabL (Num.tlL O W J i)).length := by
        have h1 := Num.tabL_len (HV.out.ok i)
        have h2 := szL_bd HV.out i
        omega
      clear hM6 b6
      have i0 : (0 : Int) ≤ (i : Int) := by omega
      have i1 : (i : Int) < (O.length : Int) := by omega
      go_wp2_with (fail)
      go_cut [3, 4] from 24 to 32 (fun s3 s4 wx => ∃ (w6 : World) (gT c n : Nat), s3 = .int .i64 (i : Int) ∧ s4 = .pointer (some ⟨w4.heap.size, 0, none⟩) ∧ wx = w6.setCell ⟨gP, i, none⟩ (.slice (some ⟨gT, 0, none⟩) n c) ∧ Hid (n = (Num.tabL (Num.tlL O W J i)).length) ∧ Hid (MidS O W J t gP ps w0 i bm w6) ∧ Hid (OwnI w6 w0.heap.size (.slice (some ⟨gT, 0, none⟩) n c) (Num.tabL (Num.tlL O W J i))) ∧ Hid (Blk w6 w.heap.size [.int .i64 0, .int .i64 0, .int .i64 0, .int .i64 0] 132) ∧ Hid (Blk w6 w4.heap.size [.int .i64 0, .int .i64 fl, .int .i64 ff, .int .i64 fs] 132) ∧ Hid (ChgS (fun k => k = t.tb ∨ k = gP ∨ k = t.bo) w w6))
      case first =>
        go_region_with (first
          | (go_at_call 158; (with_reducible refine HPA.out.mono ?_); rintro e w6 ⟨v6, rfl, ow6, hc6, hs6⟩; obtain ⟨gT, cT, rfl, hgT, hgT0⟩ := ownI_first ow6 htl rfl; have hM6 := HM6.out.chg hc6 hs6; obtain ⟨ql, q0, q1, q2, q3, q4, q5, q6, q7⟩ := hM6.st.box.c8; obtain ⟨us, ut, uf⟩ := hM6.st.slot hi; have hq5 := hM6.st.ap; rw [hq5] at q5))
        all_goals
          have hob6 := HM6.out.mapHeap
          obtain ⟨es6, ck6, hob6⟩ := hob6
          have HB7 := Lib.hid (Blk.chgMap hob6 hc6 HB6.out)
          have HBF7 := Lib.hid (Blk.chgMap hob6 hc6 HBF6.out)
          have HC7 := Lib.hid (chg_new HC6.out hc6 hbmw)
          have HM7 := Lib.hid hM6
          have HOW7 := Lib.hid (ow6.base_ hw06)
          clear hM6 ow6 hc6 hs6 hob6
          go_wp2_with (fail)
          go_meet
          exact ⟨w6, gT, cT, _, rfl, rfl, rfl, Lib.hid rfl, HM7, HOW7, HB7, HBF7, HC7⟩
      case rest =>
        obtain ⟨w6, gT, cT, nT, rfl, rfl, rfl, HNT, HM7, HOW7, HB7, HBF7, HC7⟩ := hcut
        clear t0 t1 t2 t3 t4 t5 t6 t7 HM6 HB6 HBF6 HC6 HPA HM5 HB5 HC5 HBF5 f0 f1 f2 f3 hap
        have hNT := HNT.out
        obtain ⟨n1, n2, n3⟩ := HM7.out.st.ne
        have hnx := (HM7.out.st).next hi (gT := gT) (c := cT) (by rw [← hNT]; exact HOW7.out)
        rw [← hNT] at hnx
        have hcg : ChgS (fun k => k = gP) w6 (w6.setCell ⟨gP, i, none⟩ (.slice (some ⟨gT, 0, none⟩) nT cT)) := ChgS.set w6 ⟨gP, i, none⟩ _
        obtain ⟨cur, hg⟩ := HM7.out.st.prdHeap
        have hbx := blk_tag HM7.out.st.box hg (fun _ _ e => by simp at e) hcg
        have hbr := blk_tag HB7.out hg (fun _ _ e => by simp at e) hcg
        have hbf := blk_tag HBF7.out hg (fun _ _ e => by simp at e) hcg
        have hbmg : bm ≠ gP := fun e => by
          obtain ⟨es, ck, hx⟩ := HM7.out.mapHeap
          rw [e, hg] at hx
          cases hx
        have hs1 := HM7.out.im.other hcg (fun e => n2 e.symm) hbmg
        have hcc1 := HC7.out.trans (hcg.mono fun k hk => .inr (.inl hk))
        generalize hw7 : w6.setCell ⟨gP, i, none⟩ (.slice (some ⟨gT, 0, none⟩) nT cT) = w7 at *
        have hct : ChgS (fun k => k = t.tb) w7 (w7.setCell ⟨t.tb, 6, none⟩ (.int .i64 (i : Int))) := ChgS.set w7 ⟨t.tb, 6, none⟩ _
        have hbt := hbx
        unfold Blk at hbt
        have hBr := blk_tag hbr hbt (fun _ _ e => by simp at e) hct
        have hBf := blk_tag hbf hbt (fun _ _ e => by simp at e) hct
        have hbmt : bm ≠ t.tb := fun e => by
          obtain ⟨D, ⟨es, ck, hx, _⟩, _⟩ := hs1.inn
          rw [e, hbt] at hx
          cases hx
        have hS := hs1.other hct (fun e => n3 e.symm) hbmt
        have hCC := hcc1.trans (hct.mono fun k hk => .inl hk)
        obtain ⟨tl, t0, t1, t2, t3, t4, t5, t6, t7⟩ := hbx.c8
        have u6 := hbx.free 6
        have hT := hnx
        have hMid : MidS O W J t gP ps w0 i bm w6 := HM7.out
        generalize hw8 : w7.setCell ⟨t.tb, 6, none⟩ (.int .i64 (i : Int)) = w8 at *
        clear hbx hbr hbf hs1 hcc1 hct hbt hcg hg hnx HNT HOW7 HB7 HBF7 HC7 hw7
        obtain ⟨Do, hDo, hhas⟩ := outer_has hT hS
        obtain ⟨tl, t0, t1, t2, t3, t4, t5, t6, t7⟩ := hT.box.c8
        have HT := Lib.hid hT
        have HDo := Lib.hid hDo
        have HHas := Lib.hid hhas
        have HMid := Lib.hid hMid
        have HBr := Lib.hid hBr
        have HBf := Lib.hid hBf
        have HCC := Lib.hid hCC
        clear hT hDo hhas hMid hBr hBf hCC hS
        go_wp2_with (first | (at_delete; refine wpList_delete_own _ rfl _ _ 119 3 rfl 161 keyed3 Try.underlying119 mapR t.bo 1 Do rfl HDo.out (.int .i64 (i : Int)) (ky (i : Int)) rfl hk3 ?_; intro w9 hown9 hturn9; obtain ⟨hT9, hc9⟩ := HMid.out.shut HT.out Do HDo.out HHas.out hown9 hturn9; obtain ⟨es, ck, hob, -⟩ := HDo.out; have hBr9 := Blk.chgMap hob hc9 HBr.out; have hBf9 := Blk.chgMap hob hc9 HBf.out; obtain ⟨qf, f0, f1, f2, f3⟩ := hBf9.c4; obtain ⟨qr, r0, r1, r2, r3⟩ := hBr9.c4; have g0 := hBr9.free 0; have g1 := hBr9.free 1; have g2 := hBr9.free 2; have g3 := hBr9.free 3; obtain ⟨w10, hw10, hBr10, hT10, hC10⟩ := last_store hBr9 hT9 (.int .i64 0) (.int .i64 fl) (.int .i64 ff) (.int .i64 fs) hw0w (blk_ne_map HBr.out hob) (HCC.out.trans (chg_to3 hc9)); obtain ⟨qr2, s0, s1, s2, s3⟩ := hBr10.c4; have HT10 := Lib.hid hT10; have HC10 := Lib.hid hC10; clear hT10 hC10 hBr10 hBr9 hBf9 hT9 hc9 hown9 hturn9 hob))
        refine bodyPost_ret (v := .agg #[.int .i64 0, .int .i64 fl, .int .i64 ff, .int .i64 fs]) (by simp [results, Try.results143, go_sem, qr2, s0, s1, s2, s3]) rfl ?_
        exact ⟨rfl, by first | exact HT10.out | (rw [if_neg hk]; exact HT10.out), HC10.out⟩
    · have hT := HM5.out.st
      have hS := HM5.out.im
      have hMid := HM5.out
      have hBr := HB5.out
      have hBf := HBF5.out
      have hCC := HC5.out
      have hke : (fk == 0) = false := by simp [hk]
      clear HM5 HB5 HC5 HBF5
      obtain ⟨Do, hDo, hhas⟩ := outer_has hT hS
      obtain ⟨tl, t0, t1, t2, t3, t4, t5, t6, t7⟩ := hT.box.c8
      have HT := Lib.hid hT
      have HDo := Lib.hid hDo
      have HHas := Lib.hid hhas
      have HMid := Lib.hid hMid
      have HBr := Lib.hid hBr
      have HBf := Lib.hid hBf
      have HCC := Lib.hid hCC
      clear hT hDo hhas hMid hBr hBf hCC hS
      go_wp2_with (first | (at_delete; refine wpList_delete_own _ rfl _ _ 119 3 rfl 161 keyed3 Try.underlying119 mapR t.bo 1 Do rfl HDo.out (.int .i64 (i : Int)) (ky (i : Int)) rfl hk3 ?_; intro w9 hown9 hturn9; obtain ⟨hT9, hc9⟩ := HMid.out.shut HT.out Do HDo.out HHas.out hown9 hturn9; obtain ⟨es, ck, hob, -⟩ := HDo.out; have hBr9 := Blk.chgMap hob hc9 HBr.out; have hBf9 := Blk.chgMap hob hc9 HBf.out; obtain ⟨qf, f0, f1, f2, f3⟩ := hBf9.c4; obtain ⟨qr, r0, r1, r2, r3⟩ := hBr9.c4; have g0 := hBr9.free 0; have g1 := hBr9.free 1; have g2 := hBr9.free 2; have g3 := hBr9.free 3; obtain ⟨w10, hw10, hBr10, hT10, hC10⟩ := last_store hBr9 hT9 (.int .i64 fk) (.int .i64 fl) (.int .i64 ff) (.int .i64 fs) hw0w (blk_ne_map HBr.out hob) (HCC.out.trans (chg_to3 hc9)); obtain ⟨qr2, s0, s1, s2, s3⟩ := hBr10.c4; have HT10 := Lib.hid hT10; have HC10 := Lib.hid hC10; clear hT10 hC10 hBr10 hBr9 hBf9 hT9 hc9 hown9 hturn9 hob))
      refine bodyPost_ret (v := .agg #[.int .i64 fk, .int .i64 fl, .int .i64 ff, .int .i64 fs]) (by simp [results, Try.results143, go_sem, qr2, s0, s1, s2, s3]) rfl ?_
      exact ⟨rfl, by first | exact HT10.out | (rw [if_neg hk]; exact HT10.out), HC10.out⟩
end Go.Proofs.Yteappjgdcbploaa
