/- A row put into rows in reduced form. -/
import Derived.Test.YtggkoihlmijacaaIns
import Derived.Test.YtggkoihlmijacaaL02G
import Derived.Test.YtggkoihlmijacaaL02S
import Derived.Test.YtggkoihlmijacaaL02P
import Derived.Test.YtggkoihlmijacaaKB
namespace Go.Proofs.Ytggkoihlmijacaa
open Go.RowKit
set_option linter.unusedVariables false
set_option linter.unusedSimpArgs false

theorem put_get {α : Type} (l : List α) (d x : α) {i : Nat} (h : i ≤ l.length) (j : Nat) : (l.take i ++ x :: l.drop i).getD j d = if j < i then l.getD j d else if j = i then x else l.getD (j - 1) d := by
  have ht : (l.take i).length = i := by simp; omega
  simp only [List.getD_eq_getElem?_getD]
  by_cases h1 : j < i
  · rw [if_pos h1, List.getElem?_append_left (by omega), List.getElem?_take_of_lt h1]
  · rw [if_neg h1, List.getElem?_append_right (by omega), ht]
    by_cases h2 : j = i
    · subst h2; simp
    · rw [if_neg h2]
      have e1 : j - i = (j - 1 - i) + 1 := by omega
      rw [e1, List.getElem?_cons_succ, List.getElem?_drop]
      congr 2
      omega
/-- A row put in among the others. -/
theorem spL_ins {α : Type} {E : TypeId} {s : Sp α} {nul : α} {w : World} {S T : Nat → Prop} {v u : Value} {xs : List α} {x : α} {i : Nat} (hv : (spL E s nul).own w S v xs) (hu : s.own w T u x) (hd : ∀ k, S k → ¬ T k) (hi : i ≤ xs.length) :
    ∃ vs, w.ownsRow 0 E 1 v xs.length vs ∧ (∀ j, j < xs.length → ∃ P, s.own w P (vs.getD j undef) (xs.getD j nul)) ∧ ∀ (w2 : World) (v' : Value) (g : Nat), w2.ownsRow 0 E 1 v' (xs.length + 1) (vs.take i ++ u :: vs.drop i) → w.grownBy w2 v.ownBlock → v'.ownBlock = some g → (v.ownBlock = some g ∨ w.heap.size ≤ g) → g < w2.heap.size →
      (spL E s nul).own w2 (fun k => S k ∨ T k ∨ k = g) v' (xs.take i ++ x :: xs.drop i) := by
  obtain ⟨vs, P, h1, h2, h3, h4, h5, h6⟩ := hv
  refine ⟨vs, h1, fun j hj => ⟨P j, h2 j hj⟩, fun w2 v' g ho hg hg1 hg2 hg3 => ?_⟩
  have hvl : vs.length = xs.length := by have := h1.1; simpa using this
  have hT : ∀ k, T k → k < w.heap.size := fun k hk => s.own_lt hu hk
  have same : ∀ k, k < w.heap.size → some k ≠ v.ownBlock → w2.heap[k]? = w.heap[k]? := fun k hk hn => hg.block k hk hn
  have hll : (xs.take i ++ x :: xs.drop i).length = xs.length + 1 := by simp; omega
  have Q : ∀ j, j < xs.length + 1 → ∀ k, (if j < i then P j else if j = i then T else P (j - 1)) k → (S k ∨ T k) ∧ k < w.heap.size ∧ v.ownBlock ≠ some k := fun j hj k hk => by
    by_cases a : j < i
    · rw [if_pos a] at hk
      have := h4 j (by omega) k hk
      exact ⟨.inl this.1, h6 k this.1, this.2⟩
    · rw [if_neg a] at hk
      by_cases b : j = i
      · rw [if_pos b] at hk
        exact ⟨.inr hk, hT k hk, fun e => hd k (h5 k e) hk⟩
      · rw [if_neg b] at hk
        have := h4 (j - 1) (by omega) k hk
        exact ⟨.inl this.1, h6 k this.1, this.2⟩
  refine ⟨vs.take i ++ u :: vs.drop i, fun j => if j < i then P j else if j = i then T else P (j - 1), by rw [hll]; exact ho, fun j hj => ?_, fun a b hab hb k hka => ?_, fun j hj k hk => ?_, fun k hk => ?_, fun k hk => ?_⟩
  · rw [hll] at hj
    have hk : ∀ k, (if j < i then P j else if j = i then T else P (j - 1)) k → w2.heap[k]? = w.heap[k]? := fun k hk => by
      obtain ⟨_, q2, q3⟩ := Q j hj k hk
      exact same k q2 (fun e => q3 e.symm)
    rw [put_get _ _ _ (by omega), put_get _ _ _ hi]
    show s.own w2 (if j < i then P j else if j = i then T else P (j - 1)) _ _
    by_cases a : j < i
    · rw [if_pos a] at hk ⊢
      rw [if_pos a, if_pos a]
      exact s.own_keep (h2 j (by omega)) hk
    · rw [if_neg a] at hk ⊢
      rw [if_neg a, if_neg a]
      by_cases b : j = i
      · rw [if_pos b] at hk ⊢
        rw [if_pos b, if_pos b]
        exact s.own_keep hu hk
      · rw [if_neg b] at hk ⊢
        rw [if_neg b, if_neg b]
        exact s.own_keep (h2 (j - 1) (by omega)) hk
  · rw [hll] at hb
    change (if a < i then P a else if a = i then T else P (a - 1)) k at hka
    show ¬ (if b < i then P b else if b = i then T else P (b - 1)) k
    intro hkb
    by_cases a1 : a < i
    · rw [if_pos a1] at hka
      by_cases b1 : b < i
      · rw [if_pos b1] at hkb; exact h3 a b hab (by omega) k hka hkb
      · rw [if_neg b1] at hkb
        by_cases b2 : b = i
        · rw [if_pos b2] at hkb; exact hd k (h4 a (by omega) k hka).1 hkb
        · rw [if_neg b2] at hkb; exact h3 a (b - 1) (by omega) (by omega) k hka hkb
    · rw [if_neg a1] at hka
      rw [if_neg (by omega), if_neg (by omega)] at hkb
      by_cases a2 : a = i
      · rw [if_pos a2] at hka; exact hd k (h4 (b - 1) (by omega) k hkb).1 hka
      · rw [if_neg a2] at hka; exact h3 (a - 1) (b - 1) (by omega) (by omega) k hka hkb
  · rw [hll] at hj
    obtain ⟨q1, q2, q3⟩ := Q j hj k hk
    refine ⟨q1.elim .inl (fun h => .inr (.inl h)), fun e => ?_⟩
    rw [hg1] at e
    obtain rfl : g = k := by simpa using e
    rcases hg2 with h | h
    · exact q3 h
    · omega
  · rw [hg1] at hk
    exact .inr (.inr (by simpa using hk.symm))
  · have hz := hg.size
    rcases hk with hk | hk | hk
    · have := h6 k hk; omega
    · have := hT k hk; omega
    · omega
theorem insertAt_any (p : Int) (v u : Value) (e : List (List Int)) (x : List Int) (S T : Nat → Prop) (i vb vc : Nat) (w : World) (h : (spRR p).own w S v e) (hu : (spR p).own w T u x) (hd : ∀ k, S k → ¬ T k) (hi : i ≤ e.length) (hn : e.length ≤ 1000) (hbx : w.heap[vb]? = some (.cells #[u] 56 (0, 0))) (hS : ¬ S vb) :
    Calls Try.prog 117 #[v, .int .i64 i, .slice (some ⟨vb, 0, none⟩) 1 vc] w fun e' w' => ∃ v' g, e' = .returned v' ∧ (spRR p).own w' (fun k => S k ∨ T k ∨ k = g) v' (Num.putAt e i x) ∧ (S g ∨ w.heap.size ≤ g) ∧ ChgS S w w' := by
  obtain ⟨vs, ho, hrows, hnext⟩ := spL_ins (i := i) h hu hd hi
  have hvl : vs.length = e.length := by have := ho.1; simpa using this
  have h5 : ∀ k, v.ownBlock = some k → S k := by obtain ⟨_, _, _, _, _, _, h5, _⟩ := h; exact h5
  have ou : u.oneCell' = true := by obtain ⟨A, c, rfl, -⟩ := spR_form ((spR p).own_rd hu); rfl
  have ov : ∀ y ∈ vs, y.oneCell' = true := fun y hy => by
    obtain ⟨j, hj, rfl⟩ := List.mem_iff_getElem.mp hy
    obtain ⟨P, hP⟩ := hrows j (by omega)
    rw [Num.getD_lt _ _ hj] at hP
    obtain ⟨A, c, e1, -⟩ := spR_form ((spR p).own_rd hP)
    rw [e1]; rfl
  have huc : w.cell? ⟨vb, 0, none⟩ = some u := by simp [World.cell?, hbx]
  obtain ⟨A, c, rfl, -⟩ := ownsRow_cap ho
  have key : ∀ e' w', InsAt w A e.length c vs i u e' w' → ∃ v' g, e' = .returned v' ∧ (spRR p).own w' (fun k => S k ∨ T k ∨ k = g) v' (Num.putAt e i x) ∧ (S g ∨ w.heap.size ≤ g) ∧ ChgS S w w' := by
    rintro e' w' ⟨g, cap, rfl, q1, q2, q3, q4⟩
    exact ⟨_, g, rfl, hnext w' _ g q1 q2 rfl q3 q4, q3.imp (h5 g) id, ChgS.of_grown q2 h5⟩
  by_cases hie : i = e.length
  · subst hie
    exact (ins_end A e.length c vb vc vs u w ho hn huc ou).mono key
  · rcases ho.2 with ⟨hv, h0⟩ | ⟨g, c', cur, hv, hb, hg, q1, q2, q3, q4⟩
    · omega
    · simp only [Value.slice.injEq] at hv
      obtain ⟨rfl, -, rfl⟩ := hv
      have hne : vb ≠ g := fun e1 => hS (e1 ▸ h5 g rfl)
      by_cases hr : e.length + 1 ≤ c
      · exact (ins_shift g e.length c i vb vc vs u w ho hn (by omega) hr hne hbx ou ov).mono key
      · exact (ins_grow g e.length c i vb vc vs u w ho hn (by omega) (by omega) hne hbx ou ov).mono key
theorem OwnTo.below {α : Type} {E : TypeId} {s : Sp α} {nul : α} {w w' : World} {S : Nat → Prop} {v : Value} {xs : List α} {tgt : Nat → α} {j : Nat} (h : OwnTo E s nul w S v xs tgt j) (hb : Below w.heap.size w w') : OwnTo E s nul w' S v xs tgt j := by
  obtain ⟨vs, T, h1, h2, h3, h4, h5, h6⟩ := h
  exact ⟨vs, T, ownsRow_keep h1 (fun k e => hb.block k (h6 k (h5 k e))), fun i hi => s.own_below (h2 i hi) hb, h3, h4, h5, fun k hk => Nat.lt_of_lt_of_le (h6 k hk) hb.size⟩
theorem OwnTo.lt {α : Type} {E : TypeId} {s : Sp α} {nul : α} {w : World} {S : Nat → Prop} {v : Value} {xs : List α} {tgt : Nat → α} {j k : Nat} (h : OwnTo E s nul w S v xs tgt j) (hk : S k) : k < w.heap.size := by
  obtain ⟨vs, T, h1, h2, h3, h4, h5, h6⟩ := h
  exact h6 k hk
set_option maxRecDepth 100000 in
set_option maxHeartbeats 2000000 in
theorem iInsert_any (p : Int) (n : Nat) (ev rv : Value) (e : List (List Int)) (y : List Int) (S T : Nat → Prop) (w : World) (h : (spRR p).own w S ev e) (hu : (spR p).own w T rv y) (hd : ∀ k, S k → ¬ T k) (hgp : Num.gp p = true) (hE : Num.Ech p n e) (hy : Num.Vec p n y) (h0 : ∀ i, i < e.length → y.getD (Num.lead (e.getD i [])) 0 = 0) (hk : Num.lead y < n) (hn : n ≤ 1000) (hl : e.length ≤ 1000) :
    Calls Try.prog 94 #[ev, rv] w fun e' w' => ∃ v' S', e' = .returned v' ∧ (spRR p).own w' S' v' (Num.insRow p e (Num.unify p y) (Num.lead y)) ∧ (∀ k, S' k → S k ∨ T k ∨ w.heap.size ≤ k) ∧ ChgS (fun k => S k ∨ T k) w w' := by
  obtain ⟨hp1, hp2⟩ := Num.gp_le hgp
  obtain ⟨U, cU, rfl, -⟩ := spR_form ((spR p).own_rd hu)
  have yl1 : y.length ≤ n := Nat.le_of_eq hy.len
  have yl2 : n ≤ y.length := Nat.le_of_eq hy.len.symm
  obtain ⟨gT, cg, e1, hTg, hgl, a0, a1, -, -⟩ := spR_own_at hu (j := Num.lead y) (by omega)
  simp only [Value.slice.injEq] at e1
  obtain ⟨rfl, -, rfl⟩ := e1
  have hne := Num.lead_ne (v := y) (by omega)
  have yk0 := hy.lo (Num.lead y)
  have yk1 := hy.hi (Num.lead y)
  obtain ⟨z1, z2, z3⟩ := Num.unify_facts hgp hy hk
  obtain ⟨bz0, bz1, -⟩ := Num.bez_inv yk0 yk1 (Num.gp_gcd hgp (by omega) yk1)
  have HP := Lib.hid (pivotOf_any p _ y w ((spR p).own_rd hu) (by omega))
  have HI := Lib.hid (fun W => inverse_yes (y.getD (Num.lead y) 0) p W yk0 yk1 (by omega) (Num.gp_gcd hgp (by omega) yk1))
  have HSC : Hid (∀ W, Below w.heap.size w W → Calls Try.prog 85 #[.slice (some ⟨gT, 0, none⟩) y.length cU, .agg #[.int .i64 (Num.bez (y.getD (Num.lead y) 0) p), .int .i64 p]] W fun e' w' => e' = .returned (.tuple #[]) ∧ (spR p).own w' T (.slice (some ⟨gT, 0, none⟩) y.length cU) (Num.unify p y) ∧ ChgS T W w') := Lib.hid fun W hW =>
    scale_any p _ T _ y n W ((spR p).own_below hu hW) hp1 hp2 bz0 (by omega) hy hn
  have HCL : Hid (∀ i, i < e.length → Num.lead (Num.cut p (Num.unify p y) (Num.lead y) (e.getD i [])) = Num.lead (e.getD i [])) := Lib.hid fun i hi => hE.cut_lead (by omega) z1 (fun c hc => z2 c (Num.lead_zero hc)) (fun a ha => z2 _ (h0 a ha)) hi
  have HPL := Lib.hid (hE.cut_place (by omega) z1 (fun c hc => z2 c (Num.lead_zero hc)) (fun a ha => z2 _ (h0 a ha)))
  have HZ1 := Lib.hid z1
  have HEV := Lib.hid hE.vec
  have HD := Lib.hid hd
  have HO := Lib.hid h
  have k0 : (0 : Int) ≤ (Num.lead y : Int) := by omega
  have k1 : (Num.lead y : Int) < (y.length : Int) := by omega
  have k2 : (Num.lead y : Int) ≤ 1000 := by omega
  have HK := Lib.hid hk
  have HINS : Hid (Num.insRow p e (Num.unify p y) (Num.lead y) = Num.putAt (e.map (Num.cut p (Num.unify p y) (Num.lead y))) (Num.place e (Num.lead y)) (Num.unify p y)) := Lib.hid rfl
  have hSlt : Hid (∀ k, S k → k < w.heap.size) := Lib.hid fun k h1 => (spRR p).own_lt h h1
  have hTlt : Hid (∀ k, T k → k < w.heap.size) := Lib.hid fun k h1 => (spR p).own_lt hu h1
  rw [HINS.out]
  have hnS : ¬ S gT := fun h1 => hd gT h1 hTg
  have bzr := Num.mod_bd
  clear z1 z2 z3 h hu hd hE hy h0 hk hne HINS bzr
  generalize hzz : Num.unify p y = z at *
  generalize Num.bez (y.getD (Num.lead y) 0) p = bz at *
  generalize y.getD (Num.lead y) 0 = yk at *
  generalize Num.lead y = k at *
  clear hzz
  have zl1 : z.length ≤ n := Nat.le_of_eq HZ1.out.len
  have zl2 : n ≤ z.length := Nat.le_of_eq HZ1.out.len.symm
  have HZL : Hid (z.length = y.length) := Lib.hid (by omega)
  go_enter Try.func94, Try.ntmps94
  go_wp2_with (fail)
  refine HP.out.mono ?_; rintro e' w1 ⟨rfl, rfl⟩
  go_wp2_with (fail)
  refine (HI.out _).mono ?_; rintro e' w1 ⟨rfl, hb1⟩
  go_wp2_with (fail)
  refine (HSC.out _ (hb1.alloc hb1.size _)).mono ?_; rintro e' w2 ⟨rfl, ow2, ch2⟩
  have C2 : ChgS T w w2 := ((ChgS.of_below hb1).trans (ChgS.of_below ((Below.refl _ _).alloc (Nat.le_refl _) _))).trans ch2
  have OE2 := Lib.hid ((spRR p).own_chg HO.out C2 HD.out)
  have OT2 := Lib.hid ow2
  have CC2 : ChgS (fun k => S k ∨ T k) w w2 := C2.mono fun k h1 => .inr h1
  obtain ⟨Ae, ce, rfl, -, -⟩ := (spRR p).own_rd HO.out
  clear ow2 ch2 C2 hb1 HSC HI HP a0 a1
  go_wp2_with (fail)
  go_loopw [25] (fun s wr => ∃ j : Nat, s = .int .i64 j ∧ j ≤ e.length ∧ Hid (OwnTo 56 (spR p) [] wr S (.slice Ae e.length ce) e (fun i => Num.cut p z k (e.getD i [])) j) ∧ Hid ((spR p).own wr T (.slice (some ⟨gT, 0, none⟩) y.length cU) z) ∧ ChgS (fun k => S k ∨ T k) w wr) (fun s _ => e.length - (intOf s).toNat)
  case atStart => exact ⟨0, rfl, by omega, Lib.hid (OwnTo.start OE2.out), OT2, CC2⟩
  case round =>
    obtain ⟨j, rfl, hj, own, oT, chg⟩ := hrel
    clear OE2 OT2 CC2
    by_cases hlt : j < e.length
    · obtain ⟨g, u, Tj, rfl, hc, ho, hTj, hnext⟩ := OwnTo.at_ (g := 0) (c := 0) own.out hlt
      obtain ⟨Bu, cu, rfl, -⟩ := spR_form ((spR p).own_rd ho)
      have V := HEV.out j hlt
      have rl1 : (e.getD j []).length ≤ n := Nat.le_of_eq V.len
      have rl2 : n ≤ (e.getD j []).length := Nat.le_of_eq V.len.symm
      have hkk := HK.out
      obtain ⟨gu, cgu, e2, -, hgu, a0, a1, -, -⟩ := spR_own_at ho (j := k) (by omega)
      simp only [Value.slice.injEq] at e2
      obtain ⟨rfl, -, rfl⟩ := e2
      have j0 : (0 : Int) ≤ (j : Int) := by omega
      have j1 : (j : Int) < (e.length : Int) := by omega
      have r0 := V.lo k
      have r1 := V.hi k
      have kr : (k : Int) < ((e.getD j []).length : Int) := by omega
      have ng := Num.neg_bd (p := p) ((e.getD j []).getD k 0) (by omega)
      have HN := Lib.hid (fun W => negated_any ((e.getD j []).getD k 0) p W (by omega) (by omega) r0 r1)
      have HC : Hid (∀ W, Below wr.heap.size wr W → Calls Try.prog 106 #[.slice (some ⟨gu, 0, none⟩) (e.getD j []).length cu, .agg #[.int .i64 (Num.neg p ((e.getD j []).getD k 0)), .int .i64 p], .slice (some ⟨gT, 0, none⟩) y.length cU] W fun e' w' => e' = .returned (.tuple #[]) ∧ (spR p).own w' Tj (.slice (some ⟨gu, 0, none⟩) (e.getD j []).length cu) (Num.cut p z k (e.getD j [])) ∧ ChgS Tj W w') := Lib.hid fun W hW =>
        addMul_any p _ Tj _ _ (e.getD j []) z n W ((spR p).own_below ho hW) (fun w' hc' => (spR p).own_rd ((spR p).own_chg ((spR p).own_below oT.out hW) hc' (fun q h1 h2 => HD.out q (hTj q h2) h1))) hp1 hp2 ng.1 ng.2 V HZ1.out hn
      have HNX := Lib.hid hnext
      have HTJ := Lib.hid hTj
      clear V hnext ho own
      generalize Num.neg p ((e.getD j []).getD k 0) = c9 at *
      generalize (e.getD j []).getD k 0 = rk at *
      generalize e.getD j [] = r at *
      go_wp2_with (fail)
      refine (HN.out _).mono ?_; rintro e' w3 ⟨rfl, hb3⟩
      go_wp2_with (fail)
      refine (HC.out _ hb3).mono ?_; rintro e' w4 ⟨rfl, ow4, ch4⟩
      have O4 := Lib.hid (HNX.out w4 ow4 ((ChgS.of_below hb3).trans ch4))
      have T4 := Lib.hid ((spR p).own_chg ((spR p).own_below oT.out hb3) ch4 (fun q h1 h2 => HD.out q (HTJ.out q h2) h1))
      have C4 : ChgS (fun k => S k ∨ T k) w w4 := chg.trans ((ChgS.of_below hb3).trans (ch4.mono fun q h1 => .inl (HTJ.out q h1)))
      clear ow4 ch4 hb3 HN HC hc
      go_wp2_with (fail)
      exact ⟨⟨j + 1, by go_num, by omega, O4, T4, C4⟩, by simp [intOf]; omega⟩
    · obtain rfl : j = e.length := by omega
      have hge : ¬ ((e.length : Int) < (e.length : Int)) := by omega
      have OM : (spRR p).own wr S (.slice Ae e.length ce) (e.map (Num.cut p z k)) := own.out.done (by simp) (fun j hj => Num.map_getD hj)
      have hml : (e.map (Num.cut p z k)).length = e.length := by simp
      have HPC := place_any p (.slice Ae e.length ce) (e.map (Num.cut p z k)) k wr ((spRR p).own_rd OM) (by omega) (fun i hi => by rw [hml] at hi; rw [Num.map_getD hi]; unfold Num.cut; rw [Num.addV_length, (HEV.out i hi).len]; exact hn) (by have := HK.out; omega)
      rw [HPL.out] at HPC
      have HPC := Lib.hid HPC
      have hpl := Num.place_le e k
      have ha : Below wr.heap.size wr (wr.alloc (.cells #[.slice (some ⟨gT, 0, none⟩) y.length cU] 56)) := (Below.refl _ _).alloc (Nat.le_refl _) _
      have HIN := Lib.hid (insertAt_any p (.slice Ae e.length ce) (.slice (some ⟨gT, 0, none⟩) y.length cU) (e.map (Num.cut p z k)) z S T (Num.place e k) wr.heap.size 1 (wr.alloc (.cells #[.slice (some ⟨gT, 0, none⟩) y.length cU] 56)) ((spRR p).own_below OM ha) ((spR p).own_below oT.out ha) HD.out (by omega) (by omega) (by show (wr.heap.push _)[wr.heap.size]? = _; simp) (fun h1 => by have := (spRR p).own_lt OM h1; omega))
      have CW : ChgS (fun k => S k ∨ T k) w (wr.alloc (.cells #[.slice (some ⟨gT, 0, none⟩) y.length cU] 56)) := chg.trans (ChgS.of_below ha)
      have hwr := chg.size
      have hplb : (Num.place e k : Int) ≤ 1000 := by omega
      clear OM hml own oT ha hpl
      generalize hpl9 : Num.place e k = pl at *
      have HPL9 := Lib.hid hpl9
      clear hpl9
      go_wp2_with (fail)
      refine HPC.out.mono ?_; rintro e' w3 ⟨rfl, rfl⟩
      go_wp2_with (fail)
      refine HIN.out.mono ?_; rintro e' w4 ⟨v', g', rfl, ow4, hg4, ch4⟩
      have O4 := Lib.hid ow4
      clear ow4 HIN
      go_wp2_with (fail)
      go_ret
      exact ⟨v', fun q => S q ∨ T q ∨ q = g', rfl, by rw [HPL9.out]; exact O4.out, fun q hq => by
        rcases hq with h1 | h1 | h1
        · exact .inl h1
        · exact .inr (.inl h1)
        · subst h1
          rcases hg4 with h2 | h2
          · exact .inl h2
          · exact .inr (.inr (by simp at h2; omega)), CW.trans (ch4.mono fun q h1 => .inl h1)⟩
end Go.Proofs.Ytggkoihlmijacaa
