/- Collection of the program: lists of rules, collectorOf. -/
import Derived.Test.YtahmhdpgdhfjnaaL13D
import Derived.Test.YtahmhdpgdhfjnaaL13E
import Derived.Test.YtahmhdpgdhfjnaaL11L
namespace Go.Proofs.Ytahmhdpgdhfjnaa
open Go.RowKit
set_option linter.unusedVariables false
set_option linter.unusedSimpArgs false

/-- A rule in memory. -/
structure RuV where
  x : Value
  l : Value
  r : Value
  q : Num.Rel
def cellsU (u : RuV) : List Value := [u.x, .int .i64 u.q.g, .int .i64 u.q.b, .int .i64 u.q.o, u.l, u.r]
theorem cellsU_len (u : RuV) : (cellsU u).length = 6 := rfl
def RuOwn (w : World) (base : Nat) (v : Value) (u : RuV) : Prop := (∃ A n c, u.x = .slice A n c) ∧ OwnI w base u.l (Num.ruL u.q) ∧ OwnI w base u.r (Num.ruR u.q) ∧ (∀ k, u.l.ownBlock = some k → v.ownBlock ≠ some k) ∧ ∀ k, u.r.ownBlock = some k → v.ownBlock ≠ some k
theorem RuOwn.below {w w' : World} {base : Nat} {v : Value} {u : RuV} (h : RuOwn w base v u) (hb : Below w.heap.size w w') : RuOwn w' base v u := ⟨h.1, h.2.1.below hb, h.2.2.1.below hb, h.2.2.2⟩
theorem RuOwn.grown {w w' : World} {base : Nat} {v v' : Value} {u : RuV} (h : RuOwn w base v u) (hg : w.grownBy w' v.ownBlock) (ha : v'.ownBlock = v.ownBlock ∨ v'.ownBlock = some w.heap.size) : RuOwn w' base v' u := by
  obtain ⟨h1, h2, h3, h4, h5⟩ := h
  have kp : ∀ {t : Value} {xs : List Int}, OwnI w base t xs → (∀ k, t.ownBlock = some k → v.ownBlock ≠ some k) → OwnI w' base t xs ∧ ∀ k, t.ownBlock = some k → v'.ownBlock ≠ some k := fun {t xs} ho hn => by
    refine ⟨ho.kept hg ?_, fun k hk => ?_⟩
    · cases ht : t.ownBlock with
      | none => exact .inl rfl
      | some k => exact .inr fun e => hn k ht e.symm
    · rcases ha with e | e
      · rw [e]; exact hn k hk
      · rw [e]
        intro e'
        have := (World.ownsRow.lt ho k hk).2
        simp only [Option.some.injEq] at e'
        omega
  obtain ⟨a1, a2⟩ := kp h2 h4
  obtain ⟨b1, b2⟩ := kp h3 h5
  exact ⟨h1, a1, b1, a2, b2⟩
/-- A rule as it is read. -/
def RuAt (w : World) (g p : Nat) (q : Num.Rel) : Prop := ∃ AV nV cV AL cL AR cR, w.cell? ⟨g, p, none⟩ = some (.slice AV nV cV) ∧ w.cell? ⟨g, p + 1, none⟩ = some (.int .i64 q.g) ∧ w.cell? ⟨g, p + 2, none⟩ = some (.int .i64 q.b) ∧ w.cell? ⟨g, p + 3, none⟩ = some (.int .i64 q.o) ∧
  w.cell? ⟨g, p + 4, none⟩ = some (.slice AL (Num.ruL q).length cL) ∧ w.cell? ⟨g, p + 5, none⟩ = some (.slice AR (Num.ruR q).length cR) ∧ RdI w AL (Num.ruL q) ∧ RdI w AR (Num.ruR q)
theorem RuAt.below {w w' : World} {g p : Nat} {q : Num.Rel} (h : RuAt w g p q) (hg : g < w.heap.size) (hb : Below w.heap.size w w') : RuAt w' g p q := by
  obtain ⟨AV, nV, cV, AL, cL, AR, cR, h0, h1, h2, h3, h4, h5, h6, h7⟩ := h
  exact ⟨AV, nV, cV, AL, cL, AR, cR, (hb.cell hg).trans h0, (hb.cell hg).trans h1, (hb.cell hg).trans h2, (hb.cell hg).trans h3, (hb.cell hg).trans h4, (hb.cell hg).trans h5, h6.below' hb, h7.below' hb⟩
def RulesRd (w : World) (A : Option Addr) (qs : List Num.Rel) : Prop := ∀ (j : Nat) (q : Num.Rel), qs[j]? = some q → ∃ g o, A = some ⟨g, o, none⟩ ∧ g < w.heap.size ∧ RuAt w g (o + j * 6) q
theorem RulesRd.below {w w' : World} {A : Option Addr} {qs : List Num.Rel} (h : RulesRd w A qs) (hb : Below w.heap.size w w') : RulesRd w' A qs := fun j q hq => by
  obtain ⟨g, o, e, hg, hr⟩ := h j q hq
  exact ⟨g, o, e, Nat.lt_of_lt_of_le hg hb.size, hr.below hg hb⟩
theorem RulesRd.take {w : World} {A : Option Addr} {qs : List Num.Rel} (h : RulesRd w A qs) (n : Nat) : RulesRd w A (qs.take n) := fun j q hq => by
  refine h j q ?_
  rw [List.getElem?_take] at hq
  split at hq
  · exact hq
  · cases hq
theorem RulesRd.drop {w : World} {A : Option Addr} {qs : List Num.Rel} {c : Nat} (h : RulesRd w A qs) (n : Nat) (hc : qs.length ≤ c) : RulesRd w (if c = n then A else A.map fun p => p.add (n * 6)) (qs.drop n) := fun j q hq => by
  rw [List.getElem?_drop] at hq
  have hlt : n + j < qs.length := by
    rcases Nat.lt_or_ge (n + j) qs.length with h1 | h1
    · exact h1
    · rw [List.getElem?_eq_none h1] at hq; cases hq
  obtain ⟨g, o, e, hg, hr⟩ := h (n + j) q hq
  subst e
  rw [if_neg (by omega)]
  refine ⟨g, o + n * 6, by simp [Addr.add_lit], hg, ?_⟩
  rw [show o + n * 6 + j * 6 = o + (n + j) * 6 by omega]
  exact hr
/-- A list of rules in new memory. -/
theorem rules_of {w : World} {base : Nat} {A : Option Addr} {n c : Nat} {us : List RuV} {qs : List Num.Rel} (h : OwnM cellsU 6 91 w base (.slice A n c) us) (hm : us.map (·.q) = qs) (ho : ∀ u ∈ us, ∃ v, RuOwn w base v u) : RulesRd w A qs := by
  intro j q hq
  rw [← hm, List.getElem?_map] at hq
  obtain ⟨u, hu, rfl⟩ := Option.map_eq_some_iff.mp hq
  obtain ⟨hj, rfl⟩ := List.getElem?_eq_some_iff.mp hu
  obtain ⟨g, rfl, hb, hg, hc⟩ := OwnM.at_ cellsU_len h hj
  obtain ⟨v, ⟨AV, nV, cV, e1⟩, o1, o2, -, -⟩ := ho _ (List.getElem_mem hj)
  obtain ⟨AL, cL, e2⟩ := o1.form
  obtain ⟨AR, cR, e3⟩ := o2.form
  rw [e2] at o1
  rw [e3] at o2
  refine ⟨g, 0, rfl, hg, AV, nV, cV, AL, cL, AR, cR, ?_, ?_, ?_, ?_, ?_, ?_, o1.reads, o2.reads⟩
  · rw [Nat.zero_add, ← Nat.add_zero (j * 6), hc 0 (by omega)]; simp [cellsU, e1]
  · rw [Nat.zero_add, hc 1 (by omega)]; rfl
  · rw [Nat.zero_add, hc 2 (by omega)]; rfl
  · rw [Nat.zero_add, hc 3 (by omega)]; rfl
  · rw [Nat.zero_add, hc 4 (by omega)]; simp [cellsU, e2]
  · rw [Nat.zero_add, hc 5 (by omega)]; simp [cellsU, e3]
/-- A rule of a relation. -/
theorem iRule_any (A : Option Addr) (c : Nat) (q : Num.Rel) (w : World) (hx : RdI w A q.x) (hq : Num.R9 q) :
    Calls Try.prog 115 #[.agg #[.slice A q.x.length c, .int .i64 q.g, .int .i64 q.b, .int .i64 q.o]] w fun e w' => ∃ vl vr, e = .returned (.agg #[.slice A q.x.length c, .int .i64 q.g, .int .i64 q.b, .int .i64 q.o, vl, vr]) ∧ OwnI w' w.heap.size vl (Num.ruL q) ∧ OwnI w' w.heap.size vr (Num.ruR q) ∧ Below w.heap.size w w' := by
  obtain ⟨x, qg, qb, qo⟩ := q
  obtain ⟨h1, h2, ⟨i, j, h3, h4, h5, h6⟩, h7, h8⟩ := hq
  simp only at h1 h2 h3 h4 h7 h8 hx ⊢
  subst h3 h4
  obtain ⟨m, rfl⟩ := Int.eq_ofNat_of_zero_le (show 0 ≤ qo by omega)
  by_cases e : j = i
  · subst e
    have e1 : Num.ruL ⟨x, (j : Int), (j : Int), (m : Int)⟩ = List.replicate m ((j : Int) + 1) := by unfold Num.ruL; rw [if_pos rfl]; rfl
    have e2 : Num.ruR ⟨x, (j : Int), (j : Int), (m : Int)⟩ = Num.wrd x := if_pos rfl
    rw [e1, e2]
    exact rule_pow A c x j m w hx h1 h2 h5 (by omega) (by omega)
  · have e1 : Num.ruL ⟨x, (j : Int), (i : Int), (m : Int)⟩ = [(j : Int) + 1, (i : Int) + 1] := if_neg (show ¬ ((j : Int) = (i : Int)) by omega)
    have e2 : Num.ruR ⟨x, (j : Int), (i : Int), (m : Int)⟩ = ((i : Int) + 1) :: Num.wrd x := if_neg (show ¬ ((j : Int) = (i : Int)) by omega)
    rw [e1, e2]
    exact rule_con A c x i j m w hx h1 h2 h5 h6 e (by omega) (by omega)
theorem Num.rels_R9 {O : List Int} {W : List (List Int)} {J : List (List (List Int))} (h : Num.preB O W J = true) : ∀ q, q ∈ Num.rels O W J → Num.R9 q := fun q hq => by
  obtain ⟨h6, -, -⟩ := Num.ordC_zero (Num.preB_out h).1
  obtain ⟨a, b, ⟨i, j, e1, e2, h1, h2⟩, h3, h4⟩ := Num.rels_ok h q hq
  exact ⟨a, b, ⟨i, j, e1, e2, by omega, by omega⟩, h3, h4⟩
set_option maxRecDepth 100000 in
set_option maxHeartbeats 4000000 in
theorem collectorOf_any (A0 A1 A2 : Option Addr) (c0 c1 c2 : Nat) (O : List Int) (W : List (List Int)) (J : List (List (List Int))) (w : World) (hO : RdI w A0 O) (hW : RdW w A1 W) (hJ : RdX w A2 J) (hp : Num.preB O W J = true) :
    Calls Try.prog 64 #[.agg #[.slice A0 O.length c0, .slice A1 W.length c1, .slice A2 J.length c2]] w fun e w' => ∃ A c, e = .returned (.slice A (Num.rels O W J).length c) ∧ (Num.rels O W J).length ≤ c ∧ RulesRd w' A (Num.rels O W J) ∧ Below w.heap.size w w' := by
  obtain ⟨i0, hi, hz0, hz1, hz2⟩ := info_parts infoRule
  obtain ⟨p1, p2⟩ := Num.preB_shape hp
  have h6 := (Num.ordC_zero p1).1
  have b0 : Below w.heap.size w (w.alloc (.cells #[.slice A0 O.length c0, .slice A1 W.length c1, .slice A2 J.length c2] 28)) := by go_grown
  have BX := (Blk.new w [.slice A0 O.length c0, .slice A1 W.length c1, .slice A2 J.length c2] 28).c3
  have HLR := Lib.hid (Num.rels_len p2 h6)
  have HOK := Lib.hid (Num.rels_R9 hp)
  generalize hW0 : (w.alloc (.cells #[.slice A0 O.length c0, .slice A1 W.length c1, .slice A2 J.length c2] 28)) = W0 at *
  obtain ⟨bl, x0, x1, x2⟩ := BX
  have HCR := Lib.hid (relationsOf_any A0 A1 A2 c0 c1 c2 O W J W0 (hO.below' b0) (hW.below' b0) (hJ.below' b0) h6 p2)
  clear hO hW hJ p1 p2 hp
  generalize Num.rels O W J = qs at *
  go_enter Try.func64, Try.ntmps64
  go_wp2_with (fail)
  clear hW0
  refine HCR.out.mono ?_; rintro e w2 ⟨v, rfl, ⟨ps, hps, hpm, hrd⟩, hb2⟩
  clear HCR
  have hpl : ps.length = qs.length := by have h1 := congrArg List.length hpm; rwa [List.length_map] at h1
  have hpl2 : ps.length ≤ 100 := by have := HLR.out; omega
  obtain ⟨AP, cP, rfl, -⟩ := hps.form
  have HPS := Lib.hid hps
  have HRD : Hid (∀ j, (hj : j < ps.length) → RelRd w2 ps[j] ∧ Num.R9 ps[j].2) := Lib.hid fun j hj => ⟨(hrd _ (List.getElem_mem hj)).below' hb2, HOK.out _ (by rw [← hpm]; exact List.mem_map_of_mem (List.getElem_mem hj))⟩
  have HPM := Lib.hid hpm
  have L2 := bstep b0 b0.size hb2
  clear hps hpm hrd hb2 x0 x1 x2 HOK HLR
  go_wp2_with (fail)
  go_loopw [3, 9] (fun s3 s9 wr => ∃ (j : Nat) (us : List RuV), s9 = .int .i64 j ∧ j ≤ ps.length ∧ Hid (OwnM cellsU 6 91 wr w2.heap.size s3 us) ∧ Hid (us.map (·.q) = (ps.take j).map (·.2)) ∧ us.length = j ∧ Hid (∀ u ∈ us, RuOwn wr w2.heap.size s3 u) ∧ Below w2.heap.size w2 wr) (fun _ s9 _ => ps.length - (intOf s9).toNat)
  case atStart => exact ⟨0, [], rfl, by omega, Lib.hid (OwnM.nil _ _), Lib.hid (by simp), rfl, Lib.hid (fun u hu => by simp at hu), Below.refl _ _⟩
  case round =>
    obtain ⟨j, us, rfl, hj, own, hm, hul, hok, bel⟩ := hrel
    have Z := bel.size
    by_cases hlt : j < ps.length
    · obtain ⟨g, rfl, hgb, hgl, k0, k1, k2, k3⟩ := HPS.out.at_ hlt
      obtain ⟨⟨B, d, hu, hr, hlx⟩, hok9⟩ := HRD.out j hlt
      have HST : Hid ((ps.take (j + 1)).map (·.2) = (ps.take j).map (·.2) ++ [ps[j].2]) := Lib.hid (by rw [List.take_succ_eq_append_getElem hlt, List.map_append]; rfl)
      have i0' : (0 : Int) ≤ (j : Int) := by omega
      have i1 : (j : Int) < (ps.length : Int) := by omega
      rw [hu] at k0
      have HR := Lib.hid (hr.below' bel)
      have HOK := Lib.hid hok9
      clear hu hr hok9
      generalize ps[j].2 = q at *
      generalize (ps.take j).map (·.2) = out at *
      have y0 : wr.cell? ⟨g, j * 4, none⟩ = some (.slice B q.x.length d) := by rw [bel.cell hgl]; exact k0
      have y1 : wr.cell? ⟨g, j * 4 + 1, none⟩ = some (.int .i64 q.g) := by rw [bel.cell hgl]; exact k1
      have y2 : wr.cell? ⟨g, j * 4 + 2, none⟩ = some (.int .i64 q.b) := by rw [bel.cell hgl]; exact k2
      have y3 : wr.cell? ⟨g, j * 4 + 3, none⟩ = some (.int .i64 q.o) := by rw [bel.cell hgl]; exact k3
      have BW : Below wr.heap.size wr (wr.alloc (.cells #[.slice B q.x.length d, .int .i64 q.g, .int .i64 q.b, .int .i64 q.o] 85)) := by go_grown
      have HV := Lib.hid (iRule_any B d q (wr.alloc (.cells #[.slice B q.x.length d, .int .i64 q.g, .int .i64 q.b, .int .i64 q.o] 85)) (HR.out.below' BW) HOK.out)
      clear k0 k1 k2 k3
      go_wp2_with (fail)
      refine HV.out.mono ?_; rintro e w5 ⟨vl, vr, rfl, owl, owr, hb5⟩
      have L5 := bstep BW BW.size hb5
      have own5 : OwnM cellsU 6 91 w5 w2.heap.size u3 us := ownsRow_keep own.out fun k e => L5.block k (World.ownsRow.lt own.out k e).2
      have hnew : RuOwn w5 w2.heap.size u3 ⟨.slice B q.x.length d, vl, vr, q⟩ := ⟨⟨_, _, _, rfl⟩, owl.base_ (Nat.le_trans Z BW.size), owr.base_ (Nat.le_trans Z BW.size), fun k hk e => by have h1 := (World.ownsRow.lt own.out k e).2; have h2 := owl.base_le k hk; have h3 := BW.size; simp at h2; omega, fun k hk e => by have h1 := (World.ownsRow.lt own.out k e).2; have h2 := owr.base_le k hk; simp at h2; omega⟩
      have hall : ∀ u ∈ us ++ [(⟨.slice B q.x.length d, vl, vr, q⟩ : RuV)], RuOwn w5 w2.heap.size u3 u := fun u hu => by
        rcases List.mem_append.mp hu with h | h
        · exact (hok.out u h).below L5
        · rw [List.mem_singleton.mp h]; exact hnew
      obtain ⟨AL, nL, cL, rfl, eL⟩ := owl.formN
      obtain ⟨AR, nR, cR, rfl, eR⟩ := owr.formN
      have HC1 := Lib.hid (rdC_lit w5 [.slice B q.x.length d, .int .i64 q.g, .int .i64 q.b, .int .i64 q.o, .slice AL nL cL, .slice AR nR cR] 91)
      have HONE : Hid (∀ u ∈ [Value.slice B q.x.length d, .int .i64 q.g, .int .i64 q.b, .int .i64 q.o, .slice AL nL cL, .slice AR nR cR], u.oneCell' = true) := Lib.hid (by simp [Value.oneCell'])
      have BA : Below w5.heap.size w5 (w5.alloc (.cells #[.slice B q.x.length d, .int .i64 q.g, .int .i64 q.b, .int .i64 q.o, .slice AL nL cL, .slice AR nR cR] 91)) := by go_grown
      have HPA : Hid (OwnM cellsU 6 91 (w5.alloc (.cells #[.slice B q.x.length d, .int .i64 q.g, .int .i64 q.b, .int .i64 q.o, .slice AL nL cL, .slice AR nR cR] 91)) w2.heap.size u3 us) := Lib.hid (World.ownsRow.alloc own5 _)
      have hall2 : Hid (∀ u ∈ us ++ [(⟨.slice B q.x.length d, .slice AL nL cL, .slice AR nR cR, q⟩ : RuV)], RuOwn (w5.alloc (.cells #[.slice B q.x.length d, .int .i64 q.g, .int .i64 q.b, .int .i64 q.o, .slice AL nL cL, .slice AR nR cR] 91)) w2.heap.size u3 u) := Lib.hid fun u hu => (hall u hu).below BA
      have LW := bstep bel Z L5
      clear HV hb5 y0 y1 y2 y3 BW hall hnew own hok owl owr
      go_wp2_with (first | (at_builtin; refine wpList_append_listN _ rfl _ _ 88 rfl w2.heap.size 91 i0 (.agg #[.slice none 0 0, .int .i64 0, .int .i64 0, .int .i64 0, .slice none 0 0, .slice none 0 0]) 6 96 Try.underlying88 hi hz0 hz1 hz2 rfl (by decide) _ us.length (us.flatMap cellsU) rfl HPA.out (some ⟨w5.heap.size, 0, none⟩) 1 1 [.slice B q.x.length d, .int .i64 q.g, .int .i64 q.b, .int .i64 q.o, .slice AL nL cL, .slice AR nR cR] (by simp) rfl HC1.out HONE.out (by unfold maxLen; omega) (by omega) (by have := LW.size; go_size) ?_; intro v7 w7 own7 gr7 at7))
      obtain ⟨p1, p2⟩ := OwnM.push (p := (⟨.slice B q.x.length d, .slice AL nL cL, .slice AR nR cR, q⟩ : RuV)) own5 LW LW.size own7 gr7
      have hk7 : Hid (∀ u ∈ us ++ [(⟨.slice B q.x.length d, .slice AL nL cL, .slice AR nR cR, q⟩ : RuV)], RuOwn w7 w2.heap.size v7 u) := Lib.hid fun u hu => (hall2.out u hu).grown gr7 at7
      have hm7 : Hid ((us ++ [(⟨.slice B q.x.length d, .slice AL nL cL, .slice AR nR cR, q⟩ : RuV)]).map (·.q) = (ps.take (j + 1)).map (·.2)) := Lib.hid (by rw [HST.out, List.map_append, hm.out]; rfl)
      go_wp2_with (fail)
      exact ⟨⟨j + 1, _, by go_num, by omega, Lib.hid p1, hm7, by simp; omega, hk7, p2⟩, by simp [intOf]; omega⟩
    · have hge : ¬ ((j : Int) < (ps.length : Int)) := by omega
      obtain rfl : j = ps.length := by omega
      obtain ⟨A, c, rfl, hc⟩ := own.out.form
      have HF : Hid (RulesRd wr A qs) := Lib.hid (rules_of own.out (by rw [hm.out, List.take_length, HPM.out]) fun u hu => ⟨_, hok.out u hu⟩)
      have el : us.length = qs.length := by omega
      clear own hok
      go_wp2_with (fail)
      go_ret
      exact ⟨A, c, by first | rfl | rw [el], by omega, HF.out, bstep L2 L2.size bel⟩
end Go.Proofs.Ytahmhdpgdhfjnaa
