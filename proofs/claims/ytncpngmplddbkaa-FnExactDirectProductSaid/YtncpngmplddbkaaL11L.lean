/- Presentations: PresentationRelators of both sides. -/
import Derived.Test.YtncpngmplddbkaaL11K
namespace Go.Proofs.Ytncpngmplddbkaa
open Go.RowKit
set_option linter.unusedVariables false
set_option linter.unusedSimpArgs false

theorem sumOf_bd {α : Type} (f : α → Nat) (c : Nat) : ∀ (xs : List α), (∀ x ∈ xs, f x ≤ c) → sumOf f xs ≤ xs.length * c
  | [], _ => by simp [sumOf]
  | x :: xs, h => by
    have h1 := h x (by simp)
    have h2 := sumOf_bd f c xs fun y hy => h y (by simp [hy])
    have e : sumOf f (x :: xs) = f x + sumOf f xs := by simp [sumOf]
    rw [e, List.length_cons, Nat.succ_mul]
    omega
theorem rels_cnt {O : List Int} {W : List (List Int)} {J : List (List (List Int))} (h : Num.preB O W J = true) : spII.cnt ((Num.rels O W J).map Num.relW) ≤ 1000000000 := by
  have h1 := Num.rels_ok h
  obtain ⟨h2, h3⟩ := Num.preB_shape h
  have h4 := Num.rels_len h3 (Num.ordC_zero h2).1
  have h5 := sumOf_bd spI.cnt 1000 ((Num.rels O W J).map Num.relW) fun x hx => by
    obtain ⟨q, hq, rfl⟩ := List.mem_map.mp hx
    exact Num.relW_len (h1 q hq)
  rw [List.length_map] at h5
  show sumOf spI.cnt _ ≤ _
  have : (Num.rels O W J).length * 1000 ≤ 100 * 1000 := Nat.mul_le_mul_right _ h4
  omega
theorem MadeC.nilII {w w' : World} {c : Int} (hb : Below w.heap.size w w') : MadeC spII [] c w (.returned (.tuple #[.slice none 0 0, .int .i64 c])) w' :=
  ⟨_, fun _ => False, rfl, spL_nil _ _ _ _, fun k hk => hk.elim, by simp [spII, spL, sumOf], hb⟩
set_option maxHeartbeats 1000000 in
theorem sPresentationRelators_ok (v0 : Value) (p : Pres) (w : World) (h0 : spPres.rd w v0 p) (s0 : spPres.sz p ≤ 1048576) : Calls Try.prog 27 #[v0] w (MadeC spII (rPresentationRelators p) (cPresentationRelators p) w) := by
  obtain ⟨O, W, J⟩ := p
  have h0' := h0
  obtain ⟨A0, c0, A1, c1, A2, c2, rfl, ⟨hO, hW, hJ⟩, m0, -, -⟩ := pres_open h0
  replace hO : RdI w A0 O := hO
  replace hW : RdW w A1 W := hW
  replace hJ : RdX w A2 J := hJ
  simp only at h0' h0 ⊢
  have b0 : Below w.heap.size w (w.alloc (.cells #[.slice A0 O.length c0, .slice A1 W.length c1, .slice A2 J.length c2] 29)) := by go_grown
  have HI := Lib.hid (sIsPres_any _ ⟨O, W, J⟩ _ (spPres.rd_below h0' b0))
  cases hk : Pres.ok ⟨O, W, J⟩ with
  | true =>
    rw [hk] at HI
    have hp : Num.preB O W J = true := hk
    have HR : Hid (rPresentationRelators ⟨O, W, J⟩ = (Num.rels O W J).map Num.relW ∧ cPresentationRelators ⟨O, W, J⟩ = 0) := Lib.hid ⟨if_pos hk, if_pos hk⟩
    have HCN := Lib.hid (rels_cnt hp)
    have HX : Hid (∀ W', Below w.heap.size w W' → Calls Try.prog 57 #[.agg #[.slice A0 O.length c0, .slice A1 W.length c1, .slice A2 J.length c2]] W' (Made spII ((Num.rels O W J).map Num.relW) W')) := Lib.hid fun W' hb =>
      sRelators_any A0 A1 A2 c0 c1 c2 O W J W' (hO.below' hb) (hW.below' hb) (hJ.below' hb) hp
    have BX := (Blk.new w [.slice A0 O.length c0, .slice A1 W.length c1, .slice A2 J.length c2] 29)
    clear hO hW hJ h0 h0' hk hp
    generalize (Num.rels O W J).map Num.relW = out at *
    go_enter Try.func27, Try.ntmps27
    go_wp2_with (fail)
    refine HI.out.mono ?_; rintro e' w1 ⟨rfl, hb1⟩
    obtain ⟨bl, x0, x1, x2⟩ := (BX.below hb1).c3
    have L := bstep b0 b0.size hb1
    have HX1 := Lib.hid (HX.out w1 L)
    clear HI HX BX hb1
    go_wp2_with (fail)
    refine HX1.out.mono ?_; rintro e' w2 ⟨u, S, rfl, own, hS, hb2⟩
    go_wp2_with (fail)
    go_ret2
    rw [HR.out.1, HR.out.2]
    exact ⟨u, S, rfl, own, fun k hk => by have := hS k hk; have := L.size; omega, HCN.out, bstep L L.size hb2⟩
  | false =>
    rw [hk] at HI
    have HR : Hid (rPresentationRelators ⟨O, W, J⟩ = [] ∧ cPresentationRelators ⟨O, W, J⟩ = 1) := Lib.hid ⟨if_neg (by rw [hk]; simp), if_neg (by rw [hk]; simp)⟩
    clear hO hW hJ h0 h0' hk
    go_enter Try.func27, Try.ntmps27
    go_wp2_with (fail)
    refine HI.out.mono ?_; rintro e' w1 ⟨rfl, hb1⟩
    go_wp2_with (fail)
    go_ret2
    rw [HR.out.1, HR.out.2]
    exact MadeC.nilII (bstep b0 b0.size hb1)
set_option maxRecDepth 100000 in
set_option maxHeartbeats 4000000 in
theorem iRelators_main (A0 A1 A2 : Option Addr) (c0 c1 c2 : Nat) (O : List Int) (W : List (List Int)) (J : List (List (List Int))) (w : World) (hO : RdI w A0 O) (hW : RdW w A1 W) (hJ : RdX w A2 J) (m1 : W.length ≤ maxLen) (m2 : J.length ≤ maxLen) (hc : O.length ≤ c0) (hp : Num.preB O W J = true) :
    Calls Try.prog 28 #[.agg #[.slice A0 O.length c0, .slice A1 W.length c1, .slice A2 J.length c2]] w (MadeC spII ((Num.rels O W J).map Num.relW) 0 w) := by
  obtain ⟨p1, p2⟩ := Num.preB_shape hp
  have h6 := (Num.ordC_zero p1).1
  have hl : O.length ≤ maxLen := by unfold maxLen; omega
  have b0 : Below w.heap.size w (w.alloc (.cells #[.slice A0 O.length c0, .slice A1 W.length c1, .slice A2 J.length c2] 29)) := by go_grown
  have HI := Lib.hid (iIsPres_any _ ⟨O, W, J⟩ _ (PresC.below (w := w) (v := .agg #[.slice A0 O.length c0, .slice A1 W.length c1, .slice A2 J.length c2]) ⟨A0, c0, A1, c1, A2, c2, rfl, ⟨hO, hW, hJ⟩, hl, m1, m2, hc⟩ b0))
  rw [show Pres.ok ⟨O, W, J⟩ = true from hp] at HI
  have HCR : Hid (∀ W', Below w.heap.size w W' → Calls Try.prog 49 #[.agg #[.slice A0 O.length c0, .slice A1 W.length c1, .slice A2 J.length c2]] W' fun e w' => ∃ v, e = .returned v ∧ RelsOut W' w' W'.heap.size v (Num.rels O W J) ∧ Below W'.heap.size W' w') :=
    Lib.hid fun W' hb => relationsOf_any A0 A1 A2 c0 c1 c2 O W J W' (hO.below' hb) (hW.below' hb) (hJ.below' hb) h6 p2
  have HCN := Lib.hid (rels_cnt hp)
  have HOK := Lib.hid (Num.rels_ok hp)
  have HLR := Lib.hid (Num.rels_len p2 h6)
  have BX := (Blk.new w [.slice A0 O.length c0, .slice A1 W.length c1, .slice A2 J.length c2] 29)
  clear hO hW hJ p1 p2 hp
  go_enter Try.func28, Try.ntmps28
  go_wp2_with (fail)
  refine HI.out.mono ?_; rintro e w1 ⟨rfl, hb1⟩
  obtain ⟨bl, x0, x1, x2⟩ := (BX.below hb1).c3
  have L1 := bstep b0 b0.size hb1
  have HC2 := Lib.hid (HCR.out w1 L1)
  clear HI HCR BX hb1
  go_wp2_with (fail)
  refine HC2.out.mono ?_; rintro e w2 ⟨v, rfl, hro, hb2⟩
  obtain ⟨ps, hps, hpm, hrd⟩ := hro
  have L2 := bstep L1 L1.size hb2
  have hpl : ps.length ≤ 100 := by
    have h1 := congrArg List.length hpm
    rw [List.length_map] at h1
    have h2 := HLR.out
    omega
  obtain ⟨AP, cP, rfl, -⟩ := hps.form
  have HPS := Lib.hid hps
  have HRD : Hid (∀ j, (hj : j < ps.length) → RelRd w1 ps[j] ∧ Num.RelOk O.length ps[j].2) := Lib.hid fun j hj => ⟨hrd _ (List.getElem_mem hj), HOK.out _ (by rw [← hpm]; exact List.mem_map_of_mem (List.getElem_mem hj))⟩
  have HALL : Hid ((ps.map fun p => Num.relW p.2) = (Num.rels O W J).map Num.relW) := Lib.hid (by rw [← hpm, List.map_map]; rfl)
  have HB2 := Lib.hid hb2
  clear HC2 hps hpm hrd hb2 x0 x1 x2 HOK HLR
  go_wp2_with (fail)
  go_loopw [4, 13] (fun s4 s13 wr => ∃ (j : Nat) (S : Nat → Prop), s13 = .int .i64 j ∧ j ≤ ps.length ∧ Hid (spII.own wr S s4 ((ps.take j).map fun p => Num.relW p.2)) ∧ Hid (∀ k, S k → w2.heap.size ≤ k) ∧ Below w2.heap.size w2 wr) (fun _ s13 _ => ps.length - (intOf s13).toNat)
  case atStart => exact ⟨0, _, rfl, by omega, Lib.hid (spL_nil _ _ _ _), Lib.hid (fun k hk => hk.elim), Below.refl _ _⟩
  case round =>
    obtain ⟨j, S, rfl, hj, own, hS, bel⟩ := hrel
    have Z := bel.size
    by_cases hlt : j < ps.length
    · obtain ⟨g, rfl, hgb, hgl, k0, k1, k2, k3⟩ := HPS.out.at_ hlt
      obtain ⟨⟨B, d, hu, hr, hlx⟩, hok⟩ := HRD.out j hlt
      have HST : Hid ((ps.take (j + 1)).map (fun p => Num.relW p.2) = (ps.take j).map (fun p => Num.relW p.2) ++ [Num.relW ps[j].2]) := Lib.hid (by rw [List.take_succ_eq_append_getElem hlt, List.map_append]; rfl)
      have hln : ((ps.take j).map fun p => Num.relW p.2).length ≤ 1000000 := by rw [List.length_map, List.length_take]; omega
      have i0 : (0 : Int) ≤ (j : Int) := by omega
      have i1 : (j : Int) < (ps.length : Int) := by omega
      rw [hu] at k0
      have HR := Lib.hid ((hr.below' HB2.out).below' bel)
      have HOK := Lib.hid hok
      clear hu hr hok
      generalize hq : ps[j].2 = q at *
      clear hq
      generalize (ps.take j).map (fun p => Num.relW p.2) = out at *
      have y0 : wr.cell? ⟨g, j * 4, none⟩ = some (.slice B q.x.length d) := by rw [bel.cell hgl]; exact k0
      have y1 : wr.cell? ⟨g, j * 4 + 1, none⟩ = some (.int .i64 q.g) := by rw [bel.cell hgl]; exact k1
      have y2 : wr.cell? ⟨g, j * 4 + 2, none⟩ = some (.int .i64 q.b) := by rw [bel.cell hgl]; exact k2
      have y3 : wr.cell? ⟨g, j * 4 + 3, none⟩ = some (.int .i64 q.o) := by rw [bel.cell hgl]; exact k3
      have BW : Below wr.heap.size wr (wr.alloc (.cells #[.slice B q.x.length d, .int .i64 q.g, .int .i64 q.b, .int .i64 q.o] 63)) := by go_grown
      have HV := Lib.hid (relator_any B d O.length q (wr.alloc (.cells #[.slice B q.x.length d, .int .i64 q.g, .int .i64 q.b, .int .i64 q.o] 63)) (HR.out.below' BW) HOK.out h6)
      clear k0 k1 k2 k3
      go_wp2_with (fail)
      refine HV.out.mono ?_; rintro e w5 ⟨u5, rfl, ow5, hb5⟩
      have L5 := bstep BW BW.size hb5
      obtain ⟨A6, n6, c6, rfl, e6⟩ := ow5.formN
      have HPA := spII.own_below own.out L5
      have ow5' := ow5.base_ BW.size
      have HPB := apart_row own.out ow5'
      have HPC := spI_of ow5'
      clear HV hb5 ow5 y0 y1 y2 y3 BW
      go_wp2_with (first | (at_builtin; refine wpList_push (s := spI) (nul := []) w5 rfl _ _ 23 22 rfl Try.underlying23 infoII S (fun k => (Value.slice A6 n6 c6).ownBlock = some k) u4 (.slice A6 n6 c6) out (Num.relW q) rfl rfl HPA HPC rfl HPB hln ?_; intro v7 w7 S7 own7 hS7 ch7 fm7))
      have HO7 : Hid (spII.own w7 S7 v7 ((ps.take (j + 1)).map fun p => Num.relW p.2)) := Lib.hid (by rw [HST.out]; exact own7)
      have L7 := bstepS (bstep bel Z L5) (bstep bel Z L5).size hS.out ch7
      have HS7 : Hid (∀ k, S7 k → w2.heap.size ≤ k) := Lib.hid fun q' hq' => by
        rcases hS7 q' hq' with h | h | h
        · exact hS.out q' h
        · have := ow5'.base_le q' h; omega
        · have := (bstep bel Z L5).size; omega
      go_wp2_with (fail)
      exact ⟨⟨j + 1, S7, by go_num, by omega, HO7, HS7, L7⟩, by simp [intOf]; omega⟩
    · have hge : ¬ ((j : Int) < (ps.length : Int)) := by omega
      obtain rfl : j = ps.length := by omega
      have HO7 : Hid (spII.own wr S u4 ((Num.rels O W J).map Num.relW)) := Lib.hid (by rw [← HALL.out]; have := own.out; rwa [List.take_length] at this)
      clear own
      go_wp2_with (fail)
      go_ret2
      exact ⟨_, S, rfl, HO7.out, fun k hk => by have := hS.out k hk; have := L2.size; omega, HCN.out, bstep L2 L2.size bel⟩
set_option maxHeartbeats 1000000 in
theorem iPresentationRelators_ok (v0 : Value) (p : Pres) (w : World) (h0 : PresC w v0 p) (s0 : spPres.sz p ≤ 1048576) : Calls Try.prog 28 #[v0] w (MadeC spII (rPresentationRelators p) (cPresentationRelators p) w) := by
  obtain ⟨O, W, J⟩ := p
  have h0' := h0
  obtain ⟨A0, c0, A1, c1, A2, c2, rfl, ⟨hO, hW, hJ⟩, m0, m1, m2, hc⟩ := h0
  cases hk : Pres.ok ⟨O, W, J⟩ with
  | true =>
    have HR : rPresentationRelators ⟨O, W, J⟩ = (Num.rels O W J).map Num.relW ∧ cPresentationRelators ⟨O, W, J⟩ = 0 := ⟨if_pos hk, if_pos hk⟩
    rw [HR.1, HR.2]
    exact iRelators_main A0 A1 A2 c0 c1 c2 O W J w hO hW hJ m1 m2 hc hk
  | false =>
    have b0 : Below w.heap.size w (w.alloc (.cells #[.slice A0 O.length c0, .slice A1 W.length c1, .slice A2 J.length c2] 29)) := by go_grown
    have HI := Lib.hid (iIsPres_any _ ⟨O, W, J⟩ _ (h0'.below b0))
    rw [hk] at HI
    have HR : Hid (rPresentationRelators ⟨O, W, J⟩ = [] ∧ cPresentationRelators ⟨O, W, J⟩ = 1) := Lib.hid ⟨if_neg (by rw [hk]; simp), if_neg (by rw [hk]; simp)⟩
    simp only at HI h0' ⊢
    clear hO hW hJ h0' hk
    go_enter Try.func28, Try.ntmps28
    go_wp2_with (fail)
    refine HI.out.mono ?_; rintro e' w1 ⟨rfl, hb1⟩
    go_wp2_with (fail)
    go_ret2
    rw [HR.out.1, HR.out.2]
    exact MadeC.nilII (bstep b0 b0.size hb1)
end Go.Proofs.Ytncpngmplddbkaa
