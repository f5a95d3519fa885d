/- OpL, OpP, L12O, L12P, Pk, Zb, L13O, L13P, L13Q, WIsNormalTail, PIsNormalTail in one. -/
import Derived.Test.YtahmhdpgdhfjnaaKB
import Derived.Test.YtahmhdpgdhfjnaaShPres
import Derived.Test.YtahmhdpgdhfjnaaL12N
import Derived.Test.YtahmhdpgdhfjnaaL12D
import Derived.Test.YtahmhdpgdhfjnaaL11F
import Derived.Test.YtahmhdpgdhfjnaaRows
import Derived.Deep.Slices
import Derived.StillTailTactics
import Derived.Handy
import Derived.Deep.RegionHeld3
import Derived.Deep.DeepCutAuto
import Derived.WalkKit
import Derived.ProofKit
import Derived.OpenShut
import Derived.ShutString
import Derived.ChangeOld
import Derived.Below
namespace Go.Proofs.Ytahmhdpgdhfjnaa
open Go.RowKit Go.ChangeShapes Go.WideShapes Go.ChangeAt
set_option linter.unusedVariables false
set_option linter.unusedSimpArgs false

set_option maxRecDepth 100000 in
/-- What a slice of slices of int64 that came in says. -/
theorem open_lists {H : Type} {enc : TypeId × Value → H} {W : World} {base : Nat} {v : Value} {d : DataW H} {p : List MemPlace}
    (hv : Value.okWide Try.prog W .any base 25 v) (h : DataW.Trod enc Try.prog W 0 (fun _ => true) true 25 v d p) :
    ∃ (A : Option Addr) (cap : Nat) (xss : List (List Int)), v = .slice A xss.length cap ∧ RdII W A xss ∧ (∀ j, j < xss.length → (xss.getD j []).length ≤ maxLen) ∧ xss.length ≤ maxLen := by
  obtain ⟨a0, len0, cap0, rfl⟩ := okWide_slice Try.underlying25 hv
  obtain ⟨fuel, hf⟩ := h
  rcases Go.Deep.open_int_rows Try.underlying25 Try.underlying24 Try.underlying2 (by kernel_rfl) (by kernel_rfl) hf with ⟨hc, _⟩ | ⟨a, len, cap, A, L, C', Z, hc, _, hl, hm, _, hr⟩
  · simp [Value.cells] at hc
    obtain ⟨rfl, rfl, rfl⟩ := hc
    exact ⟨none, 0, [], rfl, fun j hj => by simp at hj, fun j hj => by simp at hj, by simp⟩
  · simp [Value.cells] at hc
    obtain ⟨rfl, rfl, rfl⟩ := hc
    refine ⟨some a, cap0, (List.range len0).map fun r => (Z r).take (L r), by simp, fun j hj => ?_, fun j hj => ?_, by simp; omega⟩
    · have hj' : j < len0 := by simpa using hj
      obtain ⟨h1, h2, h3, h4, h5, h6, h7⟩ := hr j (by omega)
      obtain ⟨b, o, rfl⟩ := plain_of (hr 0 (by omega)).1
      have hcell : W.cell? ⟨b, o + j, none⟩ = some (.slice (A j) (L j) (C' j)) := by rw [← Go.WideShapes.add_plain]; exact h1
      have hg : ((List.range len0).map fun r => (Z r).take (L r)).getD j [] = (Z j).take (L j) := by simp [hj']
      rw [hg]
      have hlen : ((Z j).take (L j)).length = L j := by simp; omega
      rw [hlen]
      refine ⟨b, o, A j, C' j, rfl, World.block_lt_of_cell? W _ hcell, hcell, fun i hi => ?_⟩
      rw [hlen] at hi
      cases hA : A j with
      | none => have := h6 hA; omega
      | some a' =>
        obtain ⟨_, hcc⟩ := h7 a' hA
        have hci := hcc i (by omega)
        obtain ⟨b', o', rfl⟩ := plain_of (hcc 0 (by omega))
        have hcell' : W.cell? ⟨b', o' + i, none⟩ = some (.int .i64 ((Z j).getD i 0)) := by rw [← Go.WideShapes.add_plain]; exact hci
        refine ⟨b', o', rfl, World.block_lt_of_cell? W _ hcell', ?_⟩
        rw [hcell']
        simp [List.getElem?_take, hi]
    · have hj' : j < len0 := by simpa using hj
      obtain ⟨h1, h2, h3, h4, h5, h6, h7⟩ := hr j (by omega)
      have hg : ((List.range len0).map fun r => (Z r).take (L r)).getD j [] = (Z j).take (L j) := by simp [hj']
      rw [hg]
      simp; omega
theorem rdLists_of {w : World} {A : Option Addr} {c : Nat} {xss : List (List Int)} (h : RdII w A xss ∧ (∀ j, j < xss.length → (xss.getD j []).length ≤ maxLen) ∧ xss.length ≤ maxLen) : spII.rd w (.slice A xss.length c) xss := by
  obtain ⟨h1, h2, h3⟩ := h
  refine ⟨A, c, rfl, h3, fun j hj => ?_⟩
  obtain ⟨g, o, B, cB, e, hg, hc, hr⟩ := h1 j hj
  exact ⟨g, o, _, e, hg, hc, B, cB, rfl, h2 j hj, hr⟩
end Go.Proofs.Ytahmhdpgdhfjnaa
namespace Go.Proofs.Ytahmhdpgdhfjnaa
open Go.RowKit Go.ChangeShapes Go.WideShapes Go.ChangeAt
set_option linter.unusedVariables false
set_option linter.unusedSimpArgs false

section
variable {H : Type} {enc : TypeId × Value → H} {W : World}
theorem choose_to {α : Type} {p : Nat → α → Prop} (d : α) {n : Nat} (h : ∀ i, i < n → ∃ x, p i x) : ∃ f : Nat → α, ∀ i, i < n → p i (f i) := by
  classical
  refine ⟨fun i => if hi : i < n then (h i hi).choose else d, fun i hi => ?_⟩
  simp only [hi, dif_pos]
  exact (h i hi).choose_spec
theorem trod_ints {fuel : Nat} {u : Value} {x : DataW H × List MemPlace} (h : DataW.trod enc Try.prog W 0 (fun _ => true) true fuel 24 [u] = some x) : ∃ xs, spI.rd W u xs := by
  rcases open_ints Try.underlying24 Try.underlying2 (by kernel_rfl) h with ⟨hcs, _⟩ | ⟨x, l, c, zs, hcs, _, hl, hm, hz, _, hcell, hwz⟩
  · simp at hcs
    subst hcs
    exact ⟨[], none, 0, rfl, by simp, fun j hj => by simp at hj⟩
  · simp at hcs
    subst hcs
    have hz' : zs.length = c := by simpa using hz
    have hlen : (zs.take l).length = l := by simp; omega
    refine ⟨zs.take l, some x, c, by rw [hlen], by rw [hlen]; omega, fun j hj => ?_⟩
    rw [hlen] at hj
    obtain ⟨b, o, rfl, hc⟩ := ints_at hcell (by omega)
    have h1 := hc j (by omega)
    refine ⟨b, o, rfl, World.block_lt_of_cell? W _ h1, ?_⟩
    rw [h1]
    simp [List.getElem?_take, hj]
theorem trod_list {α : Type} {s : Sp α} {nul : α} {E t e : TypeId} (ht : Try.prog.underlying t = some (.slice e)) (hc : Try.prog.cellsOf e = 1)
    (each : ∀ n u y, DataW.trod enc Try.prog W 0 (fun _ => true) true n e [u] = some y → ∃ x, s.rd W u x) {fuel : Nat} {u : Value} {x : DataW H × List MemPlace}
    (h : DataW.trod enc Try.prog W 0 (fun _ => true) true fuel t [u] = some x) : ∃ xs, (spL E s nul).rd W u xs := by
  rcases Go.Deep.open_slice1 ht hc h with ⟨hcs, _⟩ | ⟨a, len, cap, m, n, V, D, Pl, hcs, _, hl, hm, hmm, _, hx⟩
  · simp at hcs
    subst hcs
    exact ⟨[], none, 0, rfl, by simp, fun j hj => by simp at hj⟩
  · simp at hcs
    subst hcs
    simp only [if_true] at hmm
    have hmm' := hmm.symm
    subst hmm'
    obtain ⟨X, hX⟩ := choose_to (p := fun r y => s.rd W (V r) y) nul (fun r (hr : r < cap) => each _ _ _ (hx r hr).2)
    refine ⟨(List.range len).map X, some a, cap, by simp, by simp; omega, fun j hj => ?_⟩
    have hj' : j < len := by simpa using hj
    obtain ⟨b, o, rfl⟩ := plain_of (hx 0 (by omega)).1
    have hcell : W.cell? ⟨b, o + j, none⟩ = some (V j) := by rw [← Go.WideShapes.add_plain]; exact (hx j (by omega)).1
    refine ⟨b, o, V j, rfl, World.block_lt_of_cell? W _ hcell, hcell, ?_⟩
    have hg : ((List.range len).map X).getD j nul = X j := by simp [hj']
    rw [hg]
    exact hX j (by omega)
set_option maxRecDepth 100000 in
/-- What a presentation by value says. -/
theorem open_pres {base : Nat} {v : Value} {d : DataW H} {p : List MemPlace}
    (hv : Value.okWide Try.prog W .any base 47 v) (h : DataW.Trod enc Try.prog W 0 (fun _ => true) true 47 v d p) : ∃ x : Pres, spPres.rd W v x := by
  obtain ⟨c0, c1, c2, y0, y1, y2, m, rfl, _, _, hy0, hy1, hy2⟩ := Go.Joins.open_agg3 Try.underlying47 (by kernel_rfl) (by kernel_rfl) hv h
  obtain ⟨O, hO⟩ := trod_ints hy0
  obtain ⟨R, hR⟩ := trod_list (s := spI) (nul := []) (E := 24) Try.underlying25 (by kernel_rfl) (fun n u y hh => trod_ints hh) hy1
  obtain ⟨J, hJ⟩ := trod_list (s := spII) (nul := []) (E := 25) Try.underlying26 (by kernel_rfl) (fun n u y hh => trod_list (s := spI) (nul := []) (E := 24) Try.underlying25 (by kernel_rfl) (fun n u y hh => trod_ints hh) hh) hy2
  exact ⟨⟨O, R, J⟩, _, _, _, rfl, hO, hR, hJ⟩
end
end Go.Proofs.Ytahmhdpgdhfjnaa
namespace Go.Proofs.Ytahmhdpgdhfjnaa
open Go.RowKit
set_option linter.unusedVariables false
set_option linter.unusedSimpArgs false

theorem Num.fltA_kind (O : List Int) (W : List (List Int)) (J : List (List (List Int))) (i : Nat) : ((Num.fltA O W J i).k = 0 → Num.fltA O W J i = ⟨0, 0, 0, 0⟩) ∧ ((Num.fltA O W J i).k ≠ 0 → (Num.fltA O W J i).l = i) := by
  unfold Num.fltA Num.fltL
  repeat' split
  all_goals simp
/-- The level at which the tower stops. -/
def Num.levP (O : List Int) (W : List (List Int)) (J : List (List (List Int))) : Int := if (Num.fltP O W J).k = 0 then 0 else (Num.fltP O W J).l + 1
/-- A block of faults is none of a tower's. -/
theorem TwS.notFault {O : List Int} {W : List (List Int)} {J : List (List (List Int))} {t : Tw} {gP : Nat} {ps : List RelV} {w0 : World} {l bd : Nat} {w : World} (h : TwS O W J t gP ps w0 l bd w) {b : Nat} {vs : List Value} (B : Blk w b vs 31) : b ≠ t.tb ∧ b ≠ gP ∧ b ≠ t.bo := by
  obtain ⟨cur, hg⟩ := h.prdHeap
  have hb := h.box
  obtain ⟨Do, _, ⟨es, ck, hm, _⟩⟩ := h.map
  unfold Blk at hb B
  refine ⟨fun e => ?_, fun e => ?_, fun e => ?_⟩
  · rw [e, hb] at B; simp at B
  · rw [e, hg] at B; simp at B
  · rw [e, hm] at B; simp at B
/-- A fault stored into its block. -/
theorem TwS.fault {O : List Int} {W : List (List Int)} {J : List (List (List Int))} {t : Tw} {gP : Nat} {ps : List RelV} {w0 : World} {l bd : Nat} {w : World} (h : TwS O W J t gP ps w0 l bd w) {b : Nat} {p q r v : Value} (B : Blk w b [p, q, r, v] 31) (hb0 : w0.heap.size ≤ b) (x y z u : Value) :
    ∃ w9, (((w.setCell ⟨b, 0, none⟩ x).setCell ⟨b, 1, none⟩ y).setCell ⟨b, 2, none⟩ z).setCell ⟨b, 3, none⟩ u = w9 ∧ Blk w9 b [x, y, z, u] 31 ∧ TwS O W J t gP ps w0 l bd w9 ∧ ChgS (fun k => k = b) w w9 := by
  have hc : ChgS (fun k => k = b) w ((((w.setCell ⟨b, 0, none⟩ x).setCell ⟨b, 1, none⟩ y).setCell ⟨b, 2, none⟩ z).setCell ⟨b, 3, none⟩ u) :=
    (((ChgS.set w ⟨b, 0, none⟩ x).trans (ChgS.set _ ⟨b, 1, none⟩ y)).trans (ChgS.set _ ⟨b, 2, none⟩ z)).trans (ChgS.set _ ⟨b, 3, none⟩ u)
  have hB := B
  unfold Blk at hB
  refine ⟨_, rfl, (((B.set 0 x).set 1 y).set 2 z).set 3 u, h.tag hB hc hb0 (h.notFault B).2.2 (fun _ _ e => by simp at e) (fun _ _ e => by simp at e) (fun _ _ e => by simp at e) (fun _ _ e => by simp at e), hc⟩
theorem chg_four (w : World) (b : Nat) (x y z u : Value) : ChgS (fun k => k = b) w ((((w.setCell ⟨b, 0, none⟩ x).setCell ⟨b, 1, none⟩ y).setCell ⟨b, 2, none⟩ z).setCell ⟨b, 3, none⟩ u) :=
  (((ChgS.set w ⟨b, 0, none⟩ x).trans (ChgS.set _ ⟨b, 1, none⟩ y)).trans (ChgS.set _ ⟨b, 2, none⟩ z)).trans (ChgS.set _ ⟨b, 3, none⟩ u)
/-- What holds at the head of the loop. -/
structure TopS (O : List Int) (W : List (List Int)) (J : List (List (List Int))) (t : Tw) (gP : Nat) (ps : List RelV) (W0 : World) (b3 b5 m : Nat) (f : Num.Flt) (wr : World) : Prop where
  st : TwS O W J t gP ps W0 m 0 wr
  con : Num.Con (Num.tlL O W J m)
  le : m ≤ O.length
  flt : (f.k = 0 ∧ f = ⟨0, 0, 0, 0⟩ ∧ Num.fltF O W J m = Num.fltP O W J) ∨ (f.k ≠ 0 ∧ f = Num.fltP O W J ∧ f.l + 1 = m)
  box : Blk wr b5 [.int .i64 f.k, .int .i64 f.l, .int .i64 f.f, .int .i64 f.s] 31
  res : Blk wr b3 [.int .i64 0, .int .i64 0, .int .i64 0, .int .i64 0] 31
  hb : W0.heap.size ≤ b5
  h3 : b3 < W0.heap.size
set_option maxRecDepth 100000 in
set_option maxHeartbeats 4000000 in
theorem tower_any {A0 A1 A2 : Option Addr} {c0 c1 c2 : Nat} {O : List Int} {W : List (List Int)} {J : List (List (List Int))} (V : Num.Val O W J) (w : World) (hP : RdP A0 A1 A2 O W J w) :
    Calls Try.prog 55 #[prV A0 A1 A2 c0 c1 c2 O] w fun e w' => ∃ tb, e = .returned (.tuple #[.pointer (some ⟨tb, 0, none⟩), fltV (Num.fltP O W J)]) ∧ Below w.heap.size w w' ∧ w'.cell? ⟨tb, 6, none⟩ = some (.int .i64 (Num.levP O W J)) := by
  have n6 := V.n6
  have HV := Lib.hid V
  obtain ⟨W0, hW0⟩ : ∃ X, (w.alloc (.cells #[.slice A0 O.length c0, .slice A1 O.length c1, .slice A2 O.length c2] 28)).alloc (.cells #[.int .i64 0, .int .i64 0, .int .i64 0, .int .i64 0] 31) = X := ⟨_, rfl⟩
  have hz0 : W0.heap.size = w.heap.size + 2 := by rw [← hW0]; simp
  have b0 : Below w.heap.size w W0 := by rw [← hW0]; go_grown
  have BP : Blk W0 w.heap.size [.slice A0 O.length c0, .slice A1 O.length c1, .slice A2 O.length c2] 28 := by rw [← hW0]; exact (Blk.new w [.slice A0 O.length c0, .slice A1 O.length c1, .slice A2 O.length c2] 28).alloc _
  have BF : Blk W0 (w.heap.size + 1) [.int .i64 0, .int .i64 0, .int .i64 0, .int .i64 0] 31 := by
    rw [← hW0]
    have := Blk.new (w.alloc (.cells #[.slice A0 O.length c0, .slice A1 O.length c1, .slice A2 O.length c2] 28)) [.int .i64 0, .int .i64 0, .int .i64 0, .int .i64 0] 31
    simpa using this
  have HT := Lib.hid (trivial_any (c0 := c0) (c1 := c1) (c2 := c2) V W0 ⟨hP.1.below' b0, hP.2.1.below' b0, hP.2.2.below' b0⟩)
  obtain ⟨bl, x0, x1, x2⟩ := BP.c3
  clear BP hP V
  go_enter Try.func55, Try.ntmps55
  go_wp2_with (fail)
  refine HT.out.mono ?_; rintro e w1 ⟨t, gP, ps, rfl, hps, TS⟩
  have BF1 := BF.below TS.bel
  have hz1 := TS.bel.size
  have bA : Below w1.heap.size w1 (w1.alloc (.cells #[.int .i64 0, .int .i64 0, .int .i64 0, .int .i64 0] 31)) := by go_grown
  have TS1 := TS.below bA
  have BN := Blk.new w1 [.int .i64 0, .int .i64 0, .int .i64 0, .int .i64 0] 31
  have HTOP : Hid (TopS O W J t gP ps W0 (w.heap.size + 1) w1.heap.size O.length ⟨0, 0, 0, 0⟩ (w1.alloc (.cells #[.int .i64 0, .int .i64 0, .int .i64 0, .int .i64 0] 31))) := Lib.hid ⟨TS1, Num.Con.end_, Nat.le_refl _, .inl ⟨rfl, rfl, rfl⟩, BN, BF1.below bA, hz1, by omega⟩
  obtain ⟨nl, n0, n1, n2, n3⟩ := BN.c4
  have g0 := BN.free 0
  have g1 := BN.free 1
  have g2 := BN.free 2
  have g3 := BN.free 3
  have HPS := Lib.hid hps
  have hlen : ps.length ≤ 100 := by
    have h := Num.rels_len (Num.shapeB_ok HV.out.lw HV.out.lj (fun i hi => HV.out.lr i (by have := HV.out.lj; omega))) n6
    rw [← hps, List.length_map] at h
    exact h
  clear TS TS1 BN bA BF1 BF hps HT
  go_wp2_with (fail)
  clear n0 n1 n2 n3 g0 g1 g2 g3 nl
  go_loopw [] (fun wr => ∃ (m : Nat) (f : Num.Flt), Hid (TopS O W J t gP ps W0 (w.heap.size + 1) w1.heap.size m f wr)) (fun wr => (intOf ((wr.cell? ⟨t.tb, 6, none⟩).getD undef)).toNat + (if intOf ((wr.cell? ⟨w1.heap.size, 0, none⟩).getD undef) = 0 then 1 else 0))
  case atStart => exact ⟨_, _, HTOP⟩
  case round =>
    obtain ⟨m, f, hT⟩ := hrel
    clear HTOP
    obtain ⟨tl, t0, t1, t2, t3, t4, t5, t6, t7⟩ := hT.out.st.box.c8
    obtain ⟨fk, fl, ff, fs⟩ := f
    obtain ⟨ul, u0, u1, u2, u3⟩ := hT.out.box.c4
    by_cases hgo : 0 < m ∧ fk = 0
    · obtain ⟨hm0, rfl⟩ := hgo
      obtain ⟨i, rfl⟩ : ∃ i, m = i + 1 := ⟨m - 1, by omega⟩
      have i0 : (0 : Int) < ((i + 1 : Nat) : Int) := by omega
      have hle := hT.out.le
      have HCL := Lib.hid (climb_any HV.out i (by omega) hT.out.con t gP ps W0 wr HPS.out hlen hT.out.st)
      have HA := Lib.hid (Num.fltA_kind O W J i)
      have hst := Num.fltF_step (O := O) (W := W) (J := J) (i := i)
      have hfp : Num.fltF O W J (i + 1) = Num.fltP O W J := by
        rcases hT.out.flt with h | h
        · exact h.2.2
        · exact absurd rfl h.1
      rw [hfp] at hst
      have HST := Lib.hid hst
      have HCS : Hid ((Num.fltA O W J i).k = 0 → Num.Con (Num.tlL O W J i)) := Lib.hid fun h => Num.Con.step HV.out (by omega) h hT.out.con
      clear hst hfp
      generalize Num.fltA O W J i = g at *
      obtain ⟨gk, gl, gf, gs⟩ := g
      unfold fltV at HCL
      generalize hmi : ((i + 1 : Nat) : Int) = mi at *
      go_wp2_with (fail)
      refine HCL.out.mono ?_; rintro e w2 ⟨rfl, T2, C2⟩
      have hne := hT.out.st.notFault hT.out.box
      have hne3 := hT.out.st.notFault hT.out.res
      have B2 := hT.out.box.chg C2 (by rintro (h | h | h); exact hne.1 h; exact hne.2.1 h; exact hne.2.2 h)
      have R2 := hT.out.res.chg C2 (by rintro (h | h | h); exact hne3.1 h; exact hne3.2.1 h; exact hne3.2.2 h)
      obtain ⟨w9, e9, B9, T9, C9⟩ := T2.fault B2 hT.out.hb (.int .i64 gk) (.int .i64 gl) (.int .i64 gf) (.int .i64 gs)
      have R9 := R2.chg C9 (fun e => by have := hT.out.hb; have := hT.out.h3; omega)
      have NEW : ∃ (m' : Nat) (f' : Num.Flt), Hid (TopS O W J t gP ps W0 (w.heap.size + 1) w1.heap.size m' f' w9) ∧ m' + (if f'.k = 0 then 1 else 0) < i + 1 + 1 := by
        by_cases hgk : gk = 0
        · have hg0 := HA.out.1 hgk
          rw [if_pos hgk] at T9
          refine ⟨i, ⟨gk, gl, gf, gs⟩, Lib.hid ⟨T9, HCS.out hgk, by omega, .inl ⟨hgk, hg0, ?_⟩, B9, R9, hT.out.hb, hT.out.h3⟩, by split <;> omega⟩
          rw [HST.out, if_pos hgk]
        · have hl := HA.out.2 hgk
          rw [if_neg hgk] at T9
          refine ⟨i + 1, ⟨gk, gl, gf, gs⟩, Lib.hid ⟨T9, hT.out.con, by omega, .inr ⟨hgk, ?_, ?_⟩, B9, R9, hT.out.hb, hT.out.h3⟩, ?_⟩
          · rw [HST.out, if_neg hgk]
          · show gl + 1 = _
            have : gl = (i : Int) := hl
            omega
          · rw [if_neg hgk]
            omega
      have HNEW := Lib.hid NEW
      obtain ⟨vl, v0, v1, v2, v3⟩ := B2.c4
      have g0 := B2.free 0
      have g1 := B2.free 1
      have g2 := B2.free 2
      have g3 := B2.free 3
      clear NEW T9 T2 C2 C9 B9 R9 B2 R2 hne hne3 HCL
      go_wp2_with (fail)
      obtain ⟨m', f', hT', hme⟩ := HNEW.out
      refine ⟨⟨m', f', hT'⟩, ?_⟩
      obtain ⟨-, -, -, -, -, -, -, t6', -⟩ := hT'.out.st.box.c8
      obtain ⟨-, u0', -⟩ := hT'.out.box.c4
      rw [t6', u0', t6, u0]
      by_cases hz : f'.k = 0
      · rw [if_pos hz] at hme
        simp [intOf, hz]
        omega
      · rw [if_neg hz] at hme
        simp [intOf, hz]
        omega
    · have HEX : Hid ((⟨fk, fl, ff, fs⟩ : Num.Flt) = Num.fltP O W J ∧ (m : Int) = Num.levP O W J) := Lib.hid (by
        unfold Num.levP
        rcases hT.out.flt with ⟨h1, h2, h3⟩ | ⟨h1, h2, h3⟩
        · have hm : m = 0 := by
            have h1' : fk = 0 := h1
            omega
          subst hm
          have e : (⟨fk, fl, ff, fs⟩ : Num.Flt) = Num.fltP O W J := by rw [h2, ← h3]; rfl
          refine ⟨e, ?_⟩
          rw [← e, if_pos h1]
          rfl
        · refine ⟨h2, ?_⟩
          rw [← h2, if_neg h1, h3])
      have STD := hT.out.st
      have L : Below w.heap.size w wr := b0.trans (STD.bel.mono b0.size)
      have BFr := hT.out.res
      have hex : ¬ (0 : Int) < (m : Int) ∨ ((0 : Int) < (m : Int) ∧ ¬ fk = 0) := by omega
      have HEX1 := HEX
      clear hT hgo
      generalize hmi : (m : Int) = mi at *
      rcases hex with hm | ⟨hm, hk⟩
      all_goals
        go_wp2_with (fail)
        obtain ⟨w9, e9, B9, L9⟩ := flt_store BFr (.int .i64 fk) (.int .i64 fl) (.int .i64 ff) (.int .i64 fs) (by omega : w.heap.size ≤ w.heap.size + 1) L
        have c9 : w9.cell? ⟨t.tb, 6, none⟩ = some (.int .i64 mi) := by
          have hc := chg_four wr (w.heap.size + 1) (.int .i64 fk) (.int .i64 fl) (.int .i64 ff) (.int .i64 fs)
          rw [e9] at hc
          rw [← hmi]
          exact (STD.box.chg hc (fun e => (STD.notFault BFr).1 e.symm)).cell 6 (by simp)
        obtain ⟨bl9, f0, f1, f2, f3⟩ := BFr.c4
        obtain ⟨bl9', r0, r1, r2, r3⟩ := B9.c4
        have g0 := BFr.free 0
        have g1 := BFr.free 1
        have g2 := BFr.free 2
        have g3 := BFr.free 3
        have HC9 := Lib.hid c9
        have HL9 := Lib.hid L9
        clear B9 BFr STD L L9 c9
        go_region
        all_goals go_wp2_with (fail)
        refine bodyPost_ret (v := .tuple #[.pointer (some ⟨t.tb, 0, none⟩), .agg #[.int .i64 fk, .int .i64 fl, .int .i64 ff, .int .i64 fs]]) (by simp [results, Try.results55, go_sem, bl9', r0, r1, r2, r3]) rfl ?_
        exact ⟨t.tb, by rw [← HEX.out.1]; rfl, HL9.out.drew, by rw [← HEX.out.2]; exact HC9.out⟩
end Go.Proofs.Ytahmhdpgdhfjnaa
namespace Go.Proofs.Ytahmhdpgdhfjnaa
open Go.RowKit
set_option linter.unusedVariables false
set_option linter.unusedSimpArgs false

theorem tower_at {A0 A1 A2 : Option Addr} {c0 c1 c2 : Nat} {w : World} {x0 : Pres} (V : Num.Val x0.O x0.W x0.J) (hr : RdI w A0 x0.O ∧ RdW w A1 x0.W ∧ RdX w A2 x0.J) (W' : World) (hb : Below w.heap.size w W') :
    Calls Try.prog 55 #[.agg #[.slice A0 x0.O.length c0, .slice A1 x0.W.length c1, .slice A2 x0.J.length c2]] W' (fun e w' => ∃ tb, e = .returned (.tuple #[.pointer (some ⟨tb, 0, none⟩), fltV (Num.fltP x0.O x0.W x0.J)]) ∧ Below W'.heap.size W' w' ∧ w'.cell? ⟨tb, 6, none⟩ = some (.int .i64 (Num.levP x0.O x0.W x0.J))) := by
  rw [V.lw, V.lj]
  exact tower_any V W' ⟨hr.1.below' hb, hr.2.1.below' hb, hr.2.2.below' hb⟩
set_option maxHeartbeats 2000000 in
theorem iConsistencyFault_ok (v0 : Value) (x0 : Pres) (w : World) (h0 : PresC w v0 x0) (s0 : spPres.sz x0 ≤ 1048576) : Calls Try.prog 16 #[v0] w (RetF (rConsistencyFault x0) (cConsistencyFault x0) w) := by
  have h1 := h0
  obtain ⟨A0, c0, A1, c1, A2, c2, rfl, hr, -, -, -, -⟩ := h0
  obtain ⟨W0, hW0⟩ : ∃ X, (w.alloc (.cells #[.slice A0 x0.O.length c0, .slice A1 x0.W.length c1, .slice A2 x0.J.length c2] 28)).alloc (.cells #[.int .i64 0, .int .i64 0, .int .i64 0, .int .i64 0] 31) = X := ⟨_, rfl⟩
  have b0 : Below w.heap.size w W0 := by rw [← hW0]; go_grown
  have BX : Blk W0 w.heap.size [.slice A0 x0.O.length c0, .slice A1 x0.W.length c1, .slice A2 x0.J.length c2] 28 := by rw [← hW0]; exact (Blk.new w [.slice A0 x0.O.length c0, .slice A1 x0.W.length c1, .slice A2 x0.J.length c2] 28).alloc _
  have BF : Blk W0 (w.heap.size + 1) [.int .i64 0, .int .i64 0, .int .i64 0, .int .i64 0] 31 := by
    rw [← hW0]
    have := Blk.new (w.alloc (.cells #[.slice A0 x0.O.length c0, .slice A1 x0.W.length c1, .slice A2 x0.J.length c2] 28)) [.int .i64 0, .int .i64 0, .int .i64 0, .int .i64 0] 31
    simpa using this
  have HI := Lib.hid (iIsPres_any _ x0 W0 (h1.below b0))
  obtain ⟨bl, x1, x2, x3⟩ := BX.c3
  cases hk : x0.ok with
  | true =>
    rw [hk] at HI
    have V := Num.Val.of hk
    have HR : Hid (rConsistencyFault x0 = Num.fltP x0.O x0.W x0.J ∧ cConsistencyFault x0 = 0) := Lib.hid ⟨if_pos hk, if_pos hk⟩
    have HC := Lib.hid (tower_at (c0 := c0) (c1 := c1) (c2 := c2) V hr)
    unfold fltV at HC
    generalize Num.levP x0.O x0.W x0.J = lv at *
    generalize Num.fltP x0.O x0.W x0.J = f at *
    obtain ⟨fk, fl, ff, fs⟩ := f
    clear h1 hr hk V
    go_enter Try.func16, Try.ntmps16
    go_wp2_with (fail)
    clear hW0
    refine HI.out.mono ?_; rintro e w2 ⟨rfl, hb2⟩
    have L2 := bstep b0 b0.size hb2
    obtain ⟨bl2, y0, y1, y2⟩ := (BX.below hb2).c3
    have BF2 := BF.below hb2
    have HC2 := Lib.hid (HC.out _ L2)
    clear HC HI hb2 x1 x2 x3
    go_wp2_with (fail)
    refine HC2.out.mono ?_; rintro e w3 ⟨tb, rfl, hb3, -⟩
    have bA : Below w3.heap.size w3 (w3.alloc (.cells #[.int .i64 fk, .int .i64 fl, .int .i64 ff, .int .i64 fs] 31)) := by go_grown
    have L3 : Below w.heap.size w w3 := bstep L2 L2.size hb3
    have BF3 := (BF2.below hb3).below bA
    have BN := Blk.new w3 [.int .i64 fk, .int .i64 fl, .int .i64 ff, .int .i64 fs] 31
    obtain ⟨nl, n0, n1, n2, n3⟩ := BN.c4
    obtain ⟨w9, e9, B9, L9⟩ := flt_store BF3 (.int .i64 fk) (.int .i64 fl) (.int .i64 ff) (.int .i64 fs) (by omega : w.heap.size ≤ w.heap.size + 1) (bstep L3 L3.size bA)
    obtain ⟨bl9, f0, f1, f2, f3⟩ := BF3.c4
    obtain ⟨bl9', r0, r1, r2, r3⟩ := B9.c4
    have g0 := BF3.free 0
    have g1 := BF3.free 1
    have g2 := BF3.free 2
    have g3 := BF3.free 3
    clear HC2 hb3 B9 bA BN BF3 BF2 BF
    go_wp2_with (fail)
    refine bodyPost_ret (v := .tuple #[.agg #[.int .i64 fk, .int .i64 fl, .int .i64 ff, .int .i64 fs], .int .i64 0]) (by simp [results, Try.results16, go_sem, bl9', r0, r1, r2, r3]) rfl ?_
    exact ⟨by rw [HR.out.1, HR.out.2]; rfl, L9⟩
  | false =>
    rw [hk] at HI
    have HR : Hid (rConsistencyFault x0 = ⟨0, 0, 0, 0⟩ ∧ cConsistencyFault x0 = 1) := Lib.hid ⟨if_neg (by rw [hk]; simp), if_neg (by rw [hk]; simp)⟩
    clear h1 hr hk
    go_enter Try.func16, Try.ntmps16
    go_wp2_with (fail)
    clear hW0
    refine HI.out.mono ?_; rintro e w2 ⟨rfl, hb2⟩
    have L2 := bstep b0 b0.size hb2
    have BF2 := BF.below hb2
    obtain ⟨w9, e9, B9, L9⟩ := flt_store BF2 (.int .i64 0) (.int .i64 0) (.int .i64 0) (.int .i64 0) (by omega : w.heap.size ≤ w.heap.size + 1) L2
    obtain ⟨bl9, f0, f1, f2, f3⟩ := BF2.c4
    obtain ⟨bl9', r0, r1, r2, r3⟩ := B9.c4
    have g0 := BF2.free 0
    have g1 := BF2.free 1
    have g2 := BF2.free 2
    have g3 := BF2.free 3
    clear hb2 B9 x1 x2 x3
    go_wp2_with (fail)
    refine bodyPost_ret (v := .tuple #[.agg #[.int .i64 0, .int .i64 0, .int .i64 0, .int .i64 0], .int .i64 1]) (by simp [results, Try.results16, go_sem, bl9', r0, r1, r2, r3]) rfl ?_
    exact ⟨by rw [HR.out.1, HR.out.2]; rfl, L9⟩
set_option maxHeartbeats 2000000 in
theorem iConsistentFrom_ok (v0 : Value) (x0 : Pres) (w : World) (h0 : PresC w v0 x0) (s0 : spPres.sz x0 ≤ 1048576) : Calls Try.prog 18 #[v0] w (RetI (rConsistentFrom x0) (cConsistentFrom x0) w) := by
  have h1 := h0
  obtain ⟨A0, c0, A1, c1, A2, c2, rfl, hr, -, -, -, -⟩ := h0
  have b0 : Below w.heap.size w (w.alloc (.cells #[.slice A0 x0.O.length c0, .slice A1 x0.W.length c1, .slice A2 x0.J.length c2] 28)) := by go_grown
  have BX := (Blk.new w [.slice A0 x0.O.length c0, .slice A1 x0.W.length c1, .slice A2 x0.J.length c2] 28)
  have HI := Lib.hid (iIsPres_any _ x0 _ (h1.below b0))
  cases hk : x0.ok with
  | true =>
    rw [hk] at HI
    have V := Num.Val.of hk
    have HR : Hid (rConsistentFrom x0 = Num.levP x0.O x0.W x0.J ∧ cConsistentFrom x0 = 0) := Lib.hid ⟨if_pos hk, if_pos hk⟩
    have HC := Lib.hid (tower_at (c0 := c0) (c1 := c1) (c2 := c2) V hr)
    unfold fltV at HC
    generalize Num.levP x0.O x0.W x0.J = lv at *
    generalize Num.fltP x0.O x0.W x0.J = f at *
    obtain ⟨fk, fl, ff, fs⟩ := f
    clear h1 hr hk V
    go_enter Try.func18, Try.ntmps18
    go_wp2_with (fail)
    refine HI.out.mono ?_; rintro e w2 ⟨rfl, hb2⟩
    have L2 := bstep b0 b0.size hb2
    obtain ⟨bl, y0, y1, y2⟩ := (BX.below hb2).c3
    have HC2 := Lib.hid (HC.out _ L2)
    clear HC HI hb2 BX
    go_wp2_with (fail)
    refine HC2.out.mono ?_; rintro e w3 ⟨tb, rfl, hb3, hcell⟩
    have L3 : Below w.heap.size w w3 := bstep L2 L2.size hb3
    have L4 : Below w.heap.size w (w3.alloc (.cells #[.int .i64 fk, .int .i64 fl, .int .i64 ff, .int .i64 fs] 31)) := L3.alloc L3.size _
    have h6 : (w3.alloc (.cells #[.int .i64 fk, .int .i64 fl, .int .i64 ff, .int .i64 fs] 31)).cell? ⟨tb, 6, none⟩ = some (.int .i64 lv) := by
      rw [World.cell?_alloc_lt _ _ _ (World.block_lt_of_cell? _ _ hcell)]
      exact hcell
    have BN := Blk.new w3 [.int .i64 fk, .int .i64 fl, .int .i64 ff, .int .i64 fs] 31
    obtain ⟨nl, n0, n1, n2, n3⟩ := BN.c4
    clear HC2 hb3 hcell BN
    go_wp2_with (fail)
    go_ret2
    rw [HR.out.1, HR.out.2]
    exact ⟨rfl, L4⟩
  | false =>
    rw [hk] at HI
    have HR2 : Hid (rConsistentFrom x0 = 0 ∧ cConsistentFrom x0 = 1) := Lib.hid ⟨if_neg (by rw [hk]; simp), if_neg (by rw [hk]; simp)⟩
    clear h1 hr hk
    go_enter Try.func18, Try.ntmps18
    go_wp2_with (fail)
    refine HI.out.mono ?_; rintro e w2 ⟨rfl, hb2⟩
    go_wp2_with (fail)
    go_ret2
    rw [HR2.out.1, HR2.out.2]
    exact ⟨rfl, bstep b0 b0.size hb2⟩
set_option maxHeartbeats 2000000 in
theorem iIsConsistent_ok (v0 : Value) (x0 : Pres) (w : World) (h0 : PresC w v0 x0) (s0 : spPres.sz x0 ≤ 1048576) : Calls Try.prog 19 #[v0] w (RetB (rIsConsistent x0) w) := by
  have h1 := h0
  obtain ⟨A0, c0, A1, c1, A2, c2, rfl, hr, -, -, -, -⟩ := h0
  have b0 : Below w.heap.size w (w.alloc (.cells #[.slice A0 x0.O.length c0, .slice A1 x0.W.length c1, .slice A2 x0.J.length c2] 28)) := by go_grown
  have HI := Lib.hid (iConsistencyFault_ok _ x0 _ (h1.below b0) s0)
  have HR : Hid (rIsConsistent x0 = (decide ((rConsistencyFault x0).k = 0) && decide (cConsistencyFault x0 = 0))) := Lib.hid (by
    unfold rIsConsistent Pres.con rConsistencyFault cConsistencyFault
    cases hk : x0.ok <;> simp)
  unfold RetF fltV at HI
  generalize rConsistencyFault x0 = f at *
  generalize cConsistencyFault x0 = c at *
  obtain ⟨fk, fl, ff, fs⟩ := f
  clear h1 hr
  go_enter Try.func19, Try.ntmps19
  go_wp2_with (fail)
  refine HI.out.mono ?_; rintro e w2 ⟨rfl, hb2⟩
  have L2 := bstep b0 b0.size hb2
  have BN := Blk.new w2 [.int .i64 fk, .int .i64 fl, .int .i64 ff, .int .i64 fs] 31
  have L4 : Below w.heap.size w (w2.alloc (.cells #[.int .i64 fk, .int .i64 fl, .int .i64 ff, .int .i64 fs] 31)) := L2.alloc L2.size _
  obtain ⟨nl, n0, n1, n2, n3⟩ := BN.c4
  clear HI hb2 BN
  by_cases hk : fk = 0
  · subst hk
    by_cases hc : c = 0
    · subst hc
      go_wp2_with (fail)
      go_ret
      exact ⟨by rw [HR.out]; simp, L4⟩
    · have hcb : (c == 0) = false := by simp [hc]
      go_wp2_with (fail)
      go_ret
      exact ⟨by rw [HR.out]; simp [hc], L4⟩
  · have hkb : (fk == 0) = false := by simp [hk]
    go_wp2_with (fail)
    go_ret
    exact ⟨by rw [HR.out]; simp [hk], L4⟩
end Go.Proofs.Ytahmhdpgdhfjnaa
namespace Go.Proofs.Ytahmhdpgdhfjnaa
open Go.RowKit
set_option linter.unusedVariables false
set_option linter.unusedSimpArgs false

def RdWK (w : World) (A : Option Addr) (fs : List (List Int)) : Prop := ∀ i, i < fs.length → ∃ g o B c, A = some ⟨g, o, none⟩ ∧ g < w.heap.size ∧ w.cell? ⟨g, o + i, none⟩ = some (.slice B (fs.getD i []).length c) ∧ (fs.getD i []).length ≤ maxLen ∧ (RdI w B (fs.getD i []) ∧ (fs.getD i []).length ≤ c)
theorem RdWK.rd {w : World} {A : Option Addr} {fs : List (List Int)} (h : RdWK w A fs) : RdW w A fs := fun i hi => by
  obtain ⟨g, o, B, c, h1, h2, h3, h4, h5, h6⟩ := h i hi
  exact ⟨g, o, B, c, h1, h2, h3, h4, h5⟩
theorem RdWK.below' {w w' : World} {A : Option Addr} {fs : List (List Int)} (h : RdWK w A fs) (hb : Below w.heap.size w w') : RdWK w' A fs := by
  intro i hi
  obtain ⟨g, o, B, c, rfl, hg, hc, hl, hr, hk⟩ := h i hi
  exact ⟨g, o, B, c, rfl, by have := hb.size; omega, by rw [hb.cell hg]; exact hc, hl, hr.below' hb, hk⟩
def RdXK (w : World) (A : Option Addr) (fs : List (List (List Int))) : Prop := ∀ i, i < fs.length → ∃ g o B c, A = some ⟨g, o, none⟩ ∧ g < w.heap.size ∧ w.cell? ⟨g, o + i, none⟩ = some (.slice B (fs.getD i []).length c) ∧ (fs.getD i []).length ≤ maxLen ∧ RdWK w B (fs.getD i [])
def CapX (w : World) (A : Option Addr) (fs : List (List (List Int))) : Prop := ∀ i, i < fs.length → ∀ B n c, (∃ g o, A = some ⟨g, o, none⟩ ∧ w.cell? ⟨g, o + i, none⟩ = some (.slice B n c)) → n ≤ c
theorem RdXK.rd {w : World} {A : Option Addr} {fs : List (List (List Int))} (h : RdXK w A fs) : RdX w A fs := fun i hi => by
  obtain ⟨g, o, B, c, h1, h2, h3, h4, h5⟩ := h i hi
  exact ⟨g, o, B, c, h1, h2, h3, h4, h5.rd⟩
theorem RdXK.below' {w w' : World} {A : Option Addr} {fs : List (List (List Int))} (h : RdXK w A fs) (hb : Below w.heap.size w w') : RdXK w' A fs := by
  intro i hi
  obtain ⟨g, o, B, c, rfl, hg, hc, hl, hr⟩ := h i hi
  exact ⟨g, o, B, c, rfl, Nat.lt_of_lt_of_le hg hb.size, by rw [hb.cell hg]; exact hc, hl, hr.below' hb⟩
/-- The middle rows have room, too. -/
def RdXM (w : World) (A : Option Addr) (fs : List (List (List Int))) : Prop := ∀ i, i < fs.length → ∃ g o B c, A = some ⟨g, o, none⟩ ∧ g < w.heap.size ∧ w.cell? ⟨g, o + i, none⟩ = some (.slice B (fs.getD i []).length c) ∧ (fs.getD i []).length ≤ maxLen ∧ (RdWK w B (fs.getD i []) ∧ (fs.getD i []).length ≤ c)
theorem RdXM.k {w : World} {A : Option Addr} {fs : List (List (List Int))} (h : RdXM w A fs) : RdXK w A fs := fun i hi => by
  obtain ⟨g, o, B, c, h1, h2, h3, h4, h5, h6⟩ := h i hi
  exact ⟨g, o, B, c, h1, h2, h3, h4, h5⟩
theorem RdXM.below' {w w' : World} {A : Option Addr} {fs : List (List (List Int))} (h : RdXM w A fs) (hb : Below w.heap.size w w') : RdXM w' A fs := by
  intro i hi
  obtain ⟨g, o, B, c, rfl, hg, hc, hl, hr, hk⟩ := h i hi
  exact ⟨g, o, B, c, rfl, Nat.lt_of_lt_of_le hg hb.size, by rw [hb.cell hg]; exact hc, hl, hr.below' hb, hk⟩
def PresK (w : World) (v : Value) (x : Pres) : Prop := ∃ A0 c0 A1 c1 A2 c2, v = .agg #[.slice A0 x.O.length c0, .slice A1 x.W.length c1, .slice A2 x.J.length c2] ∧
    (RdI w A0 x.O ∧ RdWK w A1 x.W ∧ RdXM w A2 x.J) ∧ x.O.length ≤ maxLen ∧ x.W.length ≤ maxLen ∧ x.J.length ≤ maxLen ∧ x.O.length ≤ c0
theorem PresK.c {w : World} {v : Value} {x : Pres} (h : PresK w v x) : PresC w v x := by
  obtain ⟨A0, c0, A1, c1, A2, c2, e, ⟨h0, h1, h2⟩, m⟩ := h
  exact ⟨A0, c0, A1, c1, A2, c2, e, ⟨h0, h1.rd, h2.k.rd⟩, m⟩
theorem PresK.rd {w : World} {v : Value} {x : Pres} (h : PresK w v x) : spPres.rd w v x := h.c.rd
theorem PresK.below {w w' : World} {v : Value} {x : Pres} (h : PresK w v x) (hb : Below w.heap.size w w') : PresK w' v x := by
  obtain ⟨A0, c0, A1, c1, A2, c2, rfl, ⟨h0, h1, h2⟩, m⟩ := h
  exact ⟨A0, c0, A1, c1, A2, c2, rfl, ⟨h0.below' hb, h1.below' hb, h2.below' hb⟩, m⟩
theorem ownsRow_room {w : World} {base n size : Nat} {e : TypeId} {v : Value} {xs : List Value} (h : w.ownsRow base e size v n xs) : ∃ A cap, v = .slice A n cap ∧ n ≤ cap ∧ n ≤ maxLen := by
  rcases h.2 with ⟨h2, h0⟩ | ⟨g, cap, cur, hv, hg, hh, h1, h2, r⟩
  · exact ⟨none, 0, by rw [h2, h0], by omega, by omega⟩
  · exact ⟨_, cap, hv, h1, by omega⟩
/-- The rows of an own list. -/
theorem spL_rows {α : Type} {E : TypeId} {s : Sp α} {nul : α} {w : World} {S : Nat → Prop} {v : Value} {xs : List α} (h : (spL E s nul).own w S v xs) :
    ∃ A c, v = .slice A xs.length c ∧ xs.length ≤ maxLen ∧ xs.length ≤ c ∧ ∀ i, i < xs.length → ∃ g u T, A = some ⟨g, 0, none⟩ ∧ g < w.heap.size ∧ w.cell? ⟨g, 0 + i, none⟩ = some u ∧ s.own w T u (xs.getD i nul) := by
  obtain ⟨vs, T, h1, h2, h3, h4, h5, h6⟩ := h
  obtain ⟨A, c, e, hc, hm⟩ := ownsRow_room h1
  refine ⟨A, c, e, hm, hc, fun i hi => ?_⟩
  have hvl : vs.length = xs.length := by have := h1.1; simpa using this
  rcases h1.2 with ⟨hv, h0⟩ | ⟨g, c', cur, hv, hb, hg, r⟩
  · omega
  · rw [hv] at e
    simp only [Value.slice.injEq] at e
    obtain ⟨rfl, -, rfl⟩ := e
    subst hv
    refine ⟨g, vs.getD i undef, T i, rfl, (h1.lt g rfl).2, ?_, h2 i hi⟩
    rw [Nat.zero_add, h1.cellAt i (by omega), List.getD_eq_getElem?_getD, List.getElem?_eq_getElem (by omega)]
    rfl
theorem rdWK_of {w : World} {S : Nat → Prop} {A : Option Addr} {n c : Nat} {fs : List (List Int)} (h : spII.own w S (.slice A n c) fs) : RdWK w A fs := by
  obtain ⟨A', c', e, hm, hc, hr⟩ := spL_rows h
  simp only [Value.slice.injEq] at e
  obtain ⟨rfl, rfl, rfl⟩ := e
  intro i hi
  obtain ⟨g, u, T, rfl, hg, hcell, ho⟩ := hr i hi
  obtain ⟨B, d, e, hd, hm2⟩ := ownsRow_room ho.1
  have hrd := spI.own_rd ho
  subst e
  obtain ⟨B', d', e2, -, hri⟩ := hrd
  simp only [Value.slice.injEq] at e2
  obtain ⟨rfl, -, rfl⟩ := e2
  exact ⟨g, 0, B, d, rfl, hg, hcell, hm2, hri, hd⟩
theorem rdXM_of {w : World} {S : Nat → Prop} {A : Option Addr} {n c : Nat} {fs : List (List (List Int))} (h : spIII.own w S (.slice A n c) fs) : RdXM w A fs := by
  obtain ⟨A', c', e, hm, hc, hr⟩ := spL_rows h
  simp only [Value.slice.injEq] at e
  obtain ⟨rfl, rfl, rfl⟩ := e
  intro i hi
  obtain ⟨g, u, T, rfl, hg, hcell, ho⟩ := hr i hi
  have ho' := ho
  obtain ⟨vs, T', k1, -⟩ := ho'
  obtain ⟨B, d, rfl, hd, hm2⟩ := ownsRow_room k1
  exact ⟨g, 0, B, d, rfl, hg, hcell, hm2, rdWK_of ho, hd⟩
theorem presK_of {w : World} {S : Nat → Prop} {v : Value} {x : Pres} (h : spPres.own w S v x) : PresK w v x := by
  obtain ⟨A0, c0, A1, c1, A2, c2, e, ⟨h0, -, -⟩, m0, m1, m2, hc⟩ := presC_of h
  obtain ⟨v0, v1, v2, T0, T1, T2, e2, o0, o1, o2, -⟩ := h
  rw [e2] at e
  simp only [Value.agg.injEq, Array.mk.injEq, List.cons.injEq, and_true] at e
  obtain ⟨rfl, rfl, rfl⟩ := e
  exact ⟨A0, c0, A1, c1, A2, c2, e2, ⟨h0, rdWK_of o1, rdXM_of o2⟩, m0, m1, m2, hc⟩
def RelRdK (w : World) (p : RelV) : Prop := ∃ A c, p.1 = .slice A p.2.x.length c ∧ (RdI w A p.2.x ∧ p.2.x.length ≤ c) ∧ p.2.x.length ≤ maxLen
theorem RelRdK.rd {w : World} {p : RelV} (h : RelRdK w p) : RelRd w p := by
  obtain ⟨A, c, h1, h2, h3⟩ := h
  exact ⟨A, c, h1, h2.1, h3⟩
/-- A list of relations in new memory, whose vectors lie where they lay. -/
def RelsOutK (w w' : World) (base : Nat) (v : Value) (rs : List Num.Rel) : Prop := ∃ ps : List RelV, OwnR w' base v ps ∧ ps.map (·.2) = rs ∧ ∀ p ∈ ps, RelRdK w p
set_option maxRecDepth 100000 in
set_option maxHeartbeats 4000000 in
theorem relationsOfK_any (A0 A1 A2 : Option Addr) (c0 c1 c2 : Nat) (O : List Int) (W : List (List Int)) (J : List (List (List Int))) (w : World) (hO : RdI w A0 O) (hW : RdWK w A1 W) (hJ : RdXK w A2 J) (h6 : O.length ≤ 6) (hs : Num.shapeB O W J = true) :
    Calls Try.prog 62 #[.agg #[.slice A0 O.length c0, .slice A1 W.length c1, .slice A2 J.length c2]] w fun e w' => ∃ v, e = .returned v ∧ RelsOutK w w' w.heap.size v (Num.rels O W J) ∧ Below w.heap.size w w' := by
  obtain ⟨i0, hi, hz0, hz1, hz2⟩ := info_parts infoRel
  obtain ⟨eW, eJ, er⟩ := Num.shapeB_out hs
  have b0 : Below w.heap.size w (w.alloc (.cells #[.slice A0 O.length c0, .slice A1 W.length c1, .slice A2 J.length c2] 28)) := by go_grown
  have HO := Lib.hid (hO.below' b0)
  have HW := Lib.hid (hW.below' b0)
  have HJ := Lib.hid (hJ.below' b0)
  have HWw := Lib.hid hW
  have HJw := Lib.hid hJ
  have BX := (Blk.new w [.slice A0 O.length c0, .slice A1 W.length c1, .slice A2 J.length c2] 28).c3
  have lW : O.length ≤ W.length := by omega
  have lJ : O.length ≤ J.length := by omega
  have HR : Hid (∀ i, i < O.length → (J.getD i []).length ≤ 5 - i) := Lib.hid fun i hi => by have := er i (by omega); omega
  clear hO hW hJ eW eJ er hs
  generalize hW0 : (w.alloc (.cells #[.slice A0 O.length c0, .slice A1 W.length c1, .slice A2 J.length c2] 28)) = W0 at *
  obtain ⟨bl, bx0, bx1, bx2⟩ := BX
  go_enter Try.func62, Try.ntmps62
  go_wp2_with (fail)
  clear hW0
  go_loopw [3, 4, 12] (fun s3 s4 s12 wr => ∃ (i : Nat) (ps qs : List RelV), s12 = .int .i64 i ∧ i ≤ O.length ∧ Hid (OwnR wr W0.heap.size s3 ps) ∧ Hid (OwnR wr W0.heap.size s4 qs) ∧ Hid (ApartV s3 s4) ∧ Hid (ps.map (·.2) = Num.relsP O W i) ∧ Hid (qs.map (·.2) = Num.relsC O J i) ∧ Hid (∀ p, p ∈ ps ∨ p ∈ qs → RelRdK w p) ∧ ps.length ≤ i ∧ qs.length ≤ 6 * i ∧ Below W0.heap.size W0 wr) (fun _ _ s12 _ => O.length - (intOf s12).toNat)
  case atStart => exact ⟨0, [], [], rfl, by omega, Lib.hid (OwnR.nil _ _), Lib.hid (OwnR.nil _ _), Lib.hid (.inl rfl), Lib.hid rfl, Lib.hid rfl, Lib.hid (fun p hp => by rcases hp with h | h <;> simp at h), by simp, by simp, Below.refl _ _⟩
  case round =>
    obtain ⟨i, ps, qs, rfl, hi', hP, hQ, hap, hpm, hqm, hrd, lp, lq, bel⟩ := hrel
    have zb := bel.size
    by_cases hlt : i < O.length
    · obtain ⟨g, o, rfl, hg, hc⟩ := (HO.out.below' bel) i hlt
      obtain ⟨g1, o1, B1, d1, rfl, hg1, hc1, hl1, hr1⟩ := (HW.out.below' bel) i (by omega)
      obtain ⟨g2, o2, B2, d2, rfl, hg2, hc2, hl2, hr2⟩ := (HJ.out.below' bel) i (by omega)
      have j0 : (0 : Int) ≤ (i : Int) := by omega
      have j1 : (i : Int) < (O.length : Int) := by omega
      have j2 : (i : Int) < (W.length : Int) := by omega
      have j3 : (i : Int) < (J.length : Int) := by omega
      have y0 : wr.cell? ⟨w.heap.size, 0, none⟩ = some (.slice (some ⟨g, o, none⟩) O.length c0) := by rw [bel.cell bl]; exact bx0
      have y1 : wr.cell? ⟨w.heap.size, 1, none⟩ = some (.slice (some ⟨g1, o1, none⟩) W.length c1) := by rw [bel.cell bl]; exact bx1
      have y2 : wr.cell? ⟨w.heap.size, 2, none⟩ = some (.slice (some ⟨g2, o2, none⟩) J.length c2) := by rw [bel.cell bl]; exact bx2
      have hRr := HR.out i hlt
      have hRdP : Hid (RelRdK w (.slice B1 (W.getD i []).length d1, ⟨W.getD i [], i, i, O.getD i 0⟩)) := Lib.hid (by
        obtain ⟨g1', o1', B1', d1', e1, hg1', hc1', hl1', hr1'⟩ := HWw.out i (by omega)
        simp only [Option.some.injEq, Addr.mk.injEq, and_true] at e1
        obtain ⟨rfl, rfl⟩ := e1
        have hh : wr.cell? ⟨g1, o1 + i, none⟩ = w.cell? ⟨g1, o1 + i, none⟩ := by rw [bel.cell (by have := b0.size; show g1 < _; omega), b0.cell hg1']
        rw [hh, hc1'] at hc1
        simp only [Option.some.injEq, Value.slice.injEq, true_and] at hc1
        obtain ⟨rfl, rfl⟩ := hc1
        exact ⟨_, _, rfl, hr1', hl1'⟩)
      have hRdC : Hid (∀ k, k < (J.getD i []).length → ∃ g3 o3 B3 d3, B2 = some ⟨g3, o3, none⟩ ∧ g3 < W0.heap.size ∧ W0.cell? ⟨g3, o3 + k, none⟩ = some (.slice B3 ((J.getD i []).getD k []).length d3) ∧ RelRdK w (.slice B3 ((J.getD i []).getD k []).length d3, ⟨(J.getD i []).getD k [], (i : Int) + 1 + (k : Int), i, O.getD i 0⟩)) := Lib.hid fun k hk => by
        obtain ⟨g2', o2', B2', d2', e2, hg2', hc2', hl2', hr2'⟩ := HJw.out i (by omega)
        simp only [Option.some.injEq, Addr.mk.injEq, and_true] at e2
        obtain ⟨rfl, rfl⟩ := e2
        have hh : wr.cell? ⟨g2, o2 + i, none⟩ = w.cell? ⟨g2, o2 + i, none⟩ := by rw [bel.cell (by have := b0.size; show g2 < _; omega), b0.cell hg2']
        rw [hh, hc2'] at hc2
        simp only [Option.some.injEq, Value.slice.injEq, true_and] at hc2
        obtain ⟨rfl, rfl⟩ := hc2
        obtain ⟨g3, o3, B3, d3, rfl, hg3, hc3, hl3, hr3⟩ := hr2' k hk
        exact ⟨g3, o3, B3, d3, rfl, by have := b0.size; omega, by rw [b0.cell hg3]; exact hc3, _, _, rfl, hr3, hl3⟩
      have hPN : Hid (Num.relsP O W (i + 1) = Num.relsP O W i ++ [⟨W.getD i [], i, i, O.getD i 0⟩]) := Lib.hid rfl
      have hCN : Hid (Num.relsC O J (i + 1) = Num.relsC O J i ++ Num.relsK (J.getD i []) i (O.getD i 0) (J.getD i []).length) := Lib.hid rfl
      clear hr1 hr2
      unfold maxLen at hl1 hl2
      generalize W.getD i [] = x at *
      generalize J.getD i [] = r at *
      generalize O.getD i 0 = y at *
      have HZF : Hid (∀ w3, Below W0.heap.size W0 w3 → w3.cell? ⟨w.heap.size, 2, none⟩ = some (.slice (some ⟨g2, o2, none⟩) J.length c2) ∧ w3.cell? ⟨g2, o2 + i, none⟩ = some (.slice B2 r.length d2)) := Lib.hid fun w3 hb => ⟨by rw [hb.cell bl]; exact bx2, by
        obtain ⟨g2', o2', B2', d2', e2, hg2', hc2', -, -⟩ := HJw.out i (by omega)
        simp only [Option.some.injEq, Addr.mk.injEq, and_true] at e2
        obtain ⟨rfl, rfl⟩ := e2
        have q1 : g2 < W0.heap.size := by have := b0.size; omega
        rw [hb.cell q1]
        rw [bel.cell q1] at hc2
        exact hc2⟩
      have HC1 := Lib.hid (rdC_lit wr [.slice B1 x.length d1, .int .i64 i, .int .i64 i, .int .i64 y] 85)
      have HONE : Hid (∀ u ∈ [Value.slice B1 x.length d1, .int .i64 (i : Int), .int .i64 (i : Int), .int .i64 y], u.oneCell' = true) := Lib.hid (by simp [Value.oneCell'])
      have HPA : Hid (OwnR (wr.alloc (.cells #[.slice B1 x.length d1, .int .i64 (i : Int), .int .i64 (i : Int), .int .i64 y] 85)) W0.heap.size u3 ps) := Lib.hid (World.ownsRow.alloc hP.out _)
      go_wp2_with (first | (at_builtin; refine wpList_append_listN _ rfl _ _ 75 rfl W0.heap.size 85 i0 (.agg #[.slice none 0 0, .int .i64 0, .int .i64 0, .int .i64 0]) 4 48 Try.underlying75 hi hz0 hz1 hz2 rfl (by decide) _ ps.length (relCells ps) rfl HPA.out (some ⟨wr.heap.size, 0, none⟩) 1 1 [.slice B1 x.length d1, .int .i64 i, .int .i64 i, .int .i64 y] (by simp) rfl HC1.out HONE.out (by unfold maxLen; omega) (by omega) (by go_size) ?_; intro v3 w3 own3 gr3 at3; obtain ⟨p1, p2, p3⟩ := rel_push (p := (.slice B1 x.length d1, ⟨x, i, i, y⟩)) hP.out bel zb own3 gr3 at3; obtain ⟨z2, z3⟩ := HZF.out w3 p2))
      obtain ⟨p4, p5⟩ := p3 _ _ hQ.out hap.out
      have HP3 := Lib.hid p1
      have HQ3 := Lib.hid p4
      have HAP3 := Lib.hid p5
      have hpm3 : Hid ((ps ++ [(Value.slice B1 x.length d1, (⟨x, i, i, y⟩ : Num.Rel))]).map (·.2) = Num.relsP O W (i + 1)) := Lib.hid (by rw [hPN.out, List.map_append, hpm.out]; rfl)
      have hrd3 : Hid (∀ p, p ∈ ps ++ [(Value.slice B1 x.length d1, (⟨x, i, i, y⟩ : Num.Rel))] ∨ p ∈ qs → RelRdK w p) := Lib.hid fun p hp => by
        rcases hp with h | h
        · rcases List.mem_append.mp h with h | h
          · exact hrd.out p (.inl h)
          · rw [List.mem_singleton.mp h]; exact hRdP.out
        · exact hrd.out p (.inr h)
      have lp3 : (ps ++ [(Value.slice B1 x.length d1, (⟨x, i, i, y⟩ : Num.Rel))]).length ≤ i + 1 := by simp; omega
      generalize hPS : ps ++ [(Value.slice B1 x.length d1, (⟨x, i, i, y⟩ : Num.Rel))] = PS at *
      have L3 := p2
      have zb3 := p2.size
      clear own3 gr3 at3 p1 p2 p3 p4 p5 hP hQ hap hpm hrd hRdP HPA HC1 HONE y0 y1 y2 hc hc1 hc2 hPN hPS lp bel zb hg hg1 hg2 HZF
      go_loopw [4, 35] (fun s4 s35 wr => ∃ (k : Nat) (rs : List RelV), s35 = .int .i64 k ∧ k ≤ r.length ∧ Hid (OwnR wr W0.heap.size v3 PS) ∧ Hid (OwnR wr W0.heap.size s4 rs) ∧ Hid (ApartV v3 s4) ∧ Hid (rs.map (·.2) = Num.relsC O J i ++ Num.relsK r i y k) ∧ Hid (∀ p, p ∈ PS ∨ p ∈ rs → RelRdK w p) ∧ rs.length ≤ 6 * i + k ∧ Below W0.heap.size W0 wr) (fun _ s35 _ => r.length - (intOf s35).toNat)
      case atStart => exact ⟨0, qs, rfl, by omega, HP3, HQ3, HAP3, Lib.hid (by rw [hqm.out]; simp [Num.relsK]), hrd3, by omega, L3⟩
      case round =>
        obtain ⟨k, rs, rfl, hk, hP, hQ, hap, hrm, hrd, lr, bel⟩ := hrel
        clear HP3 HQ3 HAP3 hrd3 L3 zb3 z2 z3 hqm lq
        have zb := bel.size
        by_cases hlk : k < r.length
        · obtain ⟨g3, o3, B3, d3, rfl, hg3, hc3, hrdk⟩ := hRdC.out k hlk
          have k0 : (0 : Int) ≤ (k : Int) := by omega
          have k1 : (k : Int) < (r.length : Int) := by omega
          have y3 : wr.cell? ⟨g3, o3 + k, none⟩ = some (.slice B3 (r.getD k []).length d3) := by rw [bel.cell (by show g3 < _; omega)]; exact hc3
          have hw1 : IntKind.i64.wrap ((i : Int) + 1) = (i : Int) + 1 := IntWalk.i64_in _ (by omega)
          have hw2 : IntKind.i64.wrap ((i : Int) + 1 + (k : Int)) = (i : Int) + 1 + (k : Int) := IntWalk.i64_in _ (by omega)
          have hRN : Hid (Num.relsK r i y (k + 1) = Num.relsK r i y k ++ [⟨r.getD k [], (i : Int) + 1 + (k : Int), i, y⟩]) := Lib.hid rfl
          have HRK := Lib.hid hrdk
          clear hc3 hrdk
          generalize r.getD k [] = z at *
          have HC1 := Lib.hid (rdC_lit wr [.slice B3 z.length d3, .int .i64 ((i : Int) + 1 + (k : Int)), .int .i64 i, .int .i64 y] 85)
          have HONE : Hid (∀ u ∈ [Value.slice B3 z.length d3, .int .i64 ((i : Int) + 1 + (k : Int)), .int .i64 (i : Int), .int .i64 y], u.oneCell' = true) := Lib.hid (by simp [Value.oneCell'])
          have HPA : Hid (OwnR (wr.alloc (.cells #[.slice B3 z.length d3, .int .i64 ((i : Int) + 1 + (k : Int)), .int .i64 (i : Int), .int .i64 y] 85)) W0.heap.size u4 rs) := Lib.hid (World.ownsRow.alloc hQ.out _)
          have l5 : r.length ≤ 5 := by omega
          go_wp2_with (first | (at_builtin; refine wpList_append_listN _ rfl _ _ 75 rfl W0.heap.size 85 i0 (.agg #[.slice none 0 0, .int .i64 0, .int .i64 0, .int .i64 0]) 4 48 Try.underlying75 hi hz0 hz1 hz2 rfl (by decide) _ rs.length (relCells rs) rfl HPA.out (some ⟨wr.heap.size, 0, none⟩) 1 1 [.slice B3 z.length d3, .int .i64 ((i : Int) + 1 + (k : Int)), .int .i64 i, .int .i64 y] (by simp) rfl HC1.out HONE.out (by unfold maxLen; omega) (by omega) (by go_size) ?_; intro v4 w4 own4 gr4 at4))
          obtain ⟨p1, p2, p3⟩ := rel_push (p := (.slice B3 z.length d3, ⟨z, (i : Int) + 1 + (k : Int), i, y⟩)) hQ.out bel zb own4 gr4 at4
          obtain ⟨p4, p5⟩ := p3 _ _ hP.out hap.out.symm
          have HP3 := Lib.hid p1
          have HQ3 := Lib.hid p4
          have HAP3 := Lib.hid p5.symm
          have hrm3 : Hid ((rs ++ [(Value.slice B3 z.length d3, (⟨z, (i : Int) + 1 + (k : Int), i, y⟩ : Num.Rel))]).map (·.2) = Num.relsC O J i ++ Num.relsK r i y (k + 1)) := Lib.hid (by rw [hRN.out, List.map_append, hrm.out, List.append_assoc]; rfl)
          have hrd3 : Hid (∀ p, p ∈ PS ∨ p ∈ rs ++ [(Value.slice B3 z.length d3, (⟨z, (i : Int) + 1 + (k : Int), i, y⟩ : Num.Rel))] → RelRdK w p) := Lib.hid fun p hp => by
            rcases hp with h | h
            · exact hrd.out p (.inl h)
            · rcases List.mem_append.mp h with h | h
              · exact hrd.out p (.inr h)
              · rw [List.mem_singleton.mp h]; exact HRK.out
          have lr3 : (rs ++ [(Value.slice B3 z.length d3, (⟨z, (i : Int) + 1 + (k : Int), i, y⟩ : Num.Rel))]).length ≤ 6 * i + (k + 1) := by simp; omega
          generalize rs ++ [(Value.slice B3 z.length d3, (⟨z, (i : Int) + 1 + (k : Int), i, y⟩ : Num.Rel))] = RS at *
          have L3 := p2
          clear own4 gr4 at4 p1 p2 p3 p4 p5 hP hQ hap hrm hrd HPA HC1 HONE y3
          go_wp2_with (fail)
          exact ⟨⟨k + 1, RS, by go_num, by omega, HQ3, HP3, HAP3, hrm3, hrd3, lr3, L3⟩, by simp [intOf]; omega⟩
        · have hge : ¬ ((k : Int) < (r.length : Int)) := by omega
          obtain rfl : k = r.length := by omega
          have hqm3 : Hid (rs.map (·.2) = Num.relsC O J (i + 1)) := Lib.hid (by rw [hCN.out, hrm.out])
          go_wp2_with (fail)
          exact ⟨⟨i + 1, PS, rs, by go_num, by omega, hP, hQ, hap, hpm3, hqm3, hrd, by omega, by omega, bel⟩, by simp [intOf]; omega⟩
    · have hge : ¬ ((i : Int) < (O.length : Int)) := by omega
      obtain rfl : i = O.length := by omega
      obtain ⟨AP, cP, rfl, -⟩ := hP.out.form
      obtain ⟨AQ, cQ, rfl, hCQ⟩ := hQ.out.form
      have HCQ := Lib.hid hCQ
      have HONE := Lib.hid (relCells_one w qs (fun p hp => (hrd.out p (.inr hp)).rd))
      have HL := Lib.hid (relCells_len qs)
      have HB := Lib.hid (fun k hk => (World.ownsRow.lt hP.out k hk).1)
      have HM : Hid ((ps ++ qs).map (·.2) = Num.rels O W J) := Lib.hid (by rw [List.map_append, hpm.out, hqm.out]; rfl)
      clear hCQ
      go_wp2_with (first | (at_builtin; refine wpList_append_listN _ rfl _ _ 75 rfl W0.heap.size 85 i0 (.agg #[.slice none 0 0, .int .i64 0, .int .i64 0, .int .i64 0]) 4 48 Try.underlying75 hi hz0 hz1 hz2 rfl (by decide) _ ps.length (relCells ps) rfl hP.out AQ qs.length cQ (relCells qs) HL.out rfl HCQ.out HONE.out (by unfold maxLen; omega) (by omega) (by omega) ?_; intro v3 w3 own3 gr3 at3))
      have own4 : OwnR w3 W0.heap.size v3 (ps ++ qs) := by
        unfold OwnR
        rw [relCells_app]
        simpa using own3
      have L := bel.grown gr3 zb HB.out
      go_wp2_with (fail)
      go_ret
      exact ⟨_, rfl, ⟨ps ++ qs, ownsRow_base own4 b0.size, HM.out, fun p hp => hrd.out p (List.mem_append.mp hp)⟩, b0.trans (L.mono b0.size)⟩
end Go.Proofs.Ytahmhdpgdhfjnaa
namespace Go.Proofs.Ytahmhdpgdhfjnaa
open Go.RowKit
set_option linter.unusedVariables false
set_option linter.unusedSimpArgs false

theorem rdI_takeZ {w : World} {A : Option Addr} {x : List Int} (h : RdI w A x) (k : Nat) : RdI w A (x.take k) := fun j hj => by
  have hj' : j < k ∧ j < x.length := by rw [List.length_take] at hj; omega
  have e : (x.take k).getD j 0 = x.getD j 0 := by simp [List.getD_eq_getElem?_getD, List.getElem?_take, hj'.1]
  rw [e]
  exact h j hj'.2
def Num.nzB (xs : List Int) : Bool := decide (∃ j, j < xs.length ∧ xs.getD j 0 ≠ 0)
theorem nz_any (y : Int) (w : World) : Calls Try.prog 126 #[.int .i64 y] w fun e w' => e = .returned (.bool (decide (y ≠ 0))) ∧ w = w' := by
  by_cases h : y ≠ 0
  · have T : Hid (decide (y ≠ 0) = true) := Lib.hid (decide_eq_true h)
    have T2 : (y != 0) = true ∨ True := .inr trivial
    have T3 : ∀ (_ : y ≠ 0), (y != 0) = true := fun h => by simpa using h
    have T4 := T3
    have T5 := T3 h
    clear T2 T3 T4
    go_enter Try.func126, Try.ntmps126
    go_wp2_with (fail)
    go_ret
    exact ⟨ret_b T.out.symm, rfl⟩
  · have T : Hid (decide (y ≠ 0) = false) := Lib.hid (decide_eq_false h)
    have T5 : (y != 0) = false := by simpa using h
    go_enter Try.func126, Try.ntmps126
    go_wp2_with (fail)
    go_ret
    exact ⟨ret_b T.out.symm, rfl⟩
set_option maxHeartbeats 1000000 in
theorem nz_index (A : Option Addr) (c : Nat) (xs : List Int) (w : World) (h : RdI w A xs) (hl : xs.length ≤ 100000) :
    Calls Try.prog 150 #[.slice A xs.length c, .func (.func 126) #[] #[]] w fun e w' => ∃ r : Int, e = .returned (.int .i64 r) ∧ decide (0 ≤ r) = Num.nzB xs ∧ w = w' := by
  have HA := Lib.hid h
  clear h
  go_enter Try.func150, Try.ntmps150
  go_wp2_with (fail)
  go_loopw [8] (fun s8 wr => ∃ k : Nat, s8 = .int .i64 k ∧ k ≤ xs.length ∧ Hid (∀ j, j < k → ¬ (xs.getD j 0 ≠ 0)) ∧ w = wr) (fun s8 _ => xs.length - (intOf s8).toNat)
  case atStart => exact ⟨0, rfl, by omega, Lib.hid (fun j hj => by omega), rfl⟩
  case round =>
    obtain ⟨k, rfl, hk, hf, rfl⟩ := hrel
    by_cases hlt : k < xs.length
    · obtain ⟨g, o, rfl, hg, hc⟩ := HA.out k hlt
      have i0 : (0 : Int) ≤ (k : Int) := by omega
      have i1 : (k : Int) < (xs.length : Int) := by omega
      have HC := Lib.hid (nz_any (xs.getD k 0) w)
      by_cases hp : xs.getD k 0 ≠ 0
      · have HR : Hid (decide (0 ≤ (k : Int)) = Num.nzB xs) := Lib.hid (by unfold Num.nzB; rw [decide_eq_true i0, decide_eq_true ⟨k, hlt, hp⟩])
        rw [decide_eq_true hp] at HC
        clear hp hf
        generalize xs.getD k 0 = y at *
        go_wp2_with (fail)
        refine HC.out.mono ?_; rintro e w' ⟨rfl, rfl⟩
        go_wp2_with (fail)
        go_ret
        exact ⟨_, rfl, HR.out, rfl⟩
      · have HN : Hid (∀ j, j < k + 1 → ¬ (xs.getD j 0 ≠ 0)) := Lib.hid fun j hj => by
          rcases Nat.lt_succ_iff_lt_or_eq.mp hj with h1 | rfl
          · exact hf.out j h1
          · exact hp
        rw [decide_eq_false hp] at HC
        clear hp hf
        generalize xs.getD k 0 = y at *
        go_wp2_with (fail)
        refine HC.out.mono ?_; rintro e w' ⟨rfl, rfl⟩
        go_wp2_with (fail)
        exact ⟨⟨k + 1, by go_num, by omega, by first | exact HN | exact Lib.hid (fun j hj => by have := HN.out j hj; omega), by first | rfl | trivial⟩, by simp [intOf]; omega⟩
    · have hge : ¬ ((k : Int) < (xs.length : Int)) := by omega
      obtain rfl : k = xs.length := by omega
      have HR : Hid (decide (0 ≤ (-1 : Int)) = Num.nzB xs) := Lib.hid (by unfold Num.nzB; rw [decide_eq_false (show ¬ (0 : Int) ≤ -1 by omega), decide_eq_false (fun ⟨j, hj, hp⟩ => hf.out j hj hp)])
      go_wp2_with (fail)
      go_ret
      exact ⟨_, rfl, HR.out, rfl⟩
theorem nz_contains (A : Option Addr) (c : Nat) (xs : List Int) (w : World) (h : RdI w A xs) (hl : xs.length ≤ 100000) :
    Calls Try.prog 125 #[.slice A xs.length c, .func (.func 126) #[] #[]] w fun e w' => e = .returned (.bool (Num.nzB xs)) ∧ w = w' := by
  have HC := Lib.hid (nz_index A c xs w h hl)
  clear h
  generalize Num.nzB xs = b at *
  go_enter Try.func125, Try.ntmps125
  go_wp2_with (fail)
  refine HC.out.mono ?_; rintro e w' ⟨r, rfl, hr, rfl⟩
  have HR := Lib.hid hr
  clear hr
  go_wp2_with (fail)
  go_ret
  exact ⟨ret_b HR.out, rfl⟩
end Go.Proofs.Ytahmhdpgdhfjnaa
namespace Go.Proofs.Ytahmhdpgdhfjnaa
open Go.RowKit
set_option linter.unusedVariables false
set_option linter.unusedSimpArgs false

def Num.norB (O : List Int) (J : List (List (List Int))) (i : Nat) : Bool := decide (∀ h, h < i → ∀ j, j < O.length → i ≤ j → Num.nzB ((((J.getD h []).getD (j - h - 1) [])).take i) = false)
/-- The code of a group and an index of a tail. -/
def Pres.tlC (p : Pres) (i : Int) : Int := if p.con = false then 1 else if 0 ≤ i ∧ i ≤ (p.O.length : Int) then 0 else 2
def rIsNormalTail (p : Pres) (i : Int) : Bool := if p.tlC i = 0 then Num.norB p.O p.J i.toNat else false
def cIsNormalTail (p : Pres) (i : Int) : Int := p.tlC i
theorem Pres.tlC_bad {p : Pres} {i : Int} (h : p.con = false) : p.tlC i = 1 := if_pos h
theorem Pres.tlC_ok {p : Pres} {i : Int} (h : p.con = true) (h' : 0 ≤ i ∧ i ≤ (p.O.length : Int)) : p.tlC i = 0 := by unfold Pres.tlC; rw [if_neg (by rw [h]; simp), if_pos h']
theorem Pres.tlC_out {p : Pres} {i : Int} (h : p.con = true) (h' : ¬ (0 ≤ i ∧ i ≤ (p.O.length : Int))) : p.tlC i = 2 := by unfold Pres.tlC; rw [if_neg (by rw [h]; simp), if_neg h']
theorem Pres.con_ok {p : Pres} (h : p.con = true) : p.ok = true := by unfold Pres.con at h; rw [Bool.and_eq_true] at h; exact h.1
/-- The relations tell it. -/
theorem Num.nor_rels {O : List Int} {W : List (List Int)} {J : List (List (List Int))} (hs : Num.shapeB O W J = true) {i : Nat} (hi : i ≤ O.length) :
    (∀ q ∈ Num.rels O W J, ¬ (q.b < (i : Int) ∧ (i : Int) ≤ q.g ∧ Num.nzB (q.x.take i) = true)) ↔ Num.norB O J i = true := by
  obtain ⟨e1, e2, e3⟩ := Num.shapeB_out hs
  unfold Num.norB
  rw [decide_eq_true_eq]
  refine ⟨fun h a ha j hj2 hj1 => ?_, fun h q hq ⟨h1, h2, h3⟩ => ?_⟩
  · have hl := e3 a (by omega)
    have := h _ (Num.rels_mem.mpr (.inr ⟨a, j - a - 1, by omega, by omega, rfl⟩))
    cases hv : Num.nzB (((J.getD a []).getD (j - a - 1) []).take i) with
    | false => rfl
    | true => exact absurd ⟨by show (a : Int) < (i : Int); omega, by show (i : Int) ≤ (a : Int) + 1 + ((j - a - 1 : Nat) : Int); omega, hv⟩ this
  · rcases Num.rels_mem.mp hq with ⟨a, ha, rfl⟩ | ⟨a, k, ha, hk, rfl⟩
    · simp only at h1 h2
      omega
    · simp only at h1 h2 h3
      have hl := e3 a (by omega)
      have := h a (by omega) (a + 1 + k) (by omega) (by omega)
      rw [show a + 1 + k - a - 1 = k by omega] at this
      rw [this] at h3
      cases h3
theorem zeroBefore_any (A : Option Addr) (c : Nat) (x : List Int) (i : Nat) (w : World) (h : RdI w A x) (hc : x.length ≤ c) (hi : i ≤ x.length) (hl : x.length ≤ 1000) :
    Calls Try.prog 85 #[.slice A x.length c, .int .i64 (i : Int)] w fun e w' => e = .returned (.bool (!Num.nzB (x.take i))) ∧ w = w' := by
  have lt : (x.take i).length = i := by rw [List.length_take]; omega
  have HC : Hid (Calls Try.prog 125 #[.slice A i c, .func (.func 126) #[] #[]] w fun e w' => e = .returned (.bool (Num.nzB (x.take i))) ∧ w = w') := Lib.hid (by
    have := nz_contains A c (x.take i) w (rdI_takeZ h i) (by omega)
    rwa [lt] at this)
  have i0 : (0 : Int) ≤ (i : Int) := by omega
  have i1 : (i : Int) ≤ (x.length : Int) := by omega
  have i2 : (i : Int) ≤ (c : Int) := by omega
  clear h lt
  generalize Num.nzB (x.take i) = b at *
  go_enter Try.func85, Try.ntmps85
  go_wp2_with (fail)
  refine HC.out.mono ?_; rintro e w' ⟨rfl, rfl⟩
  go_wp2_with (fail)
  go_ret
  exact ⟨rfl, rfl⟩
theorem isTailIndex_any (A0 : Option Addr) (c0 n : Nat) (v1 v2 : Value) (i : Int) (w : World) (f1 : v1.oneCell' = true) (f2 : v2.oneCell' = true) (A1 A2 : Option Addr) (n1 c1 n2 c2 : Nat) (e1 : v1 = .slice A1 n1 c1) (e2 : v2 = .slice A2 n2 c2) :
    Calls Try.prog 58 #[.agg #[.slice A0 n c0, v1, v2], .int .i64 i] w fun e w' => e = .returned (.bool (decide (0 ≤ i ∧ i ≤ (n : Int)))) ∧ Below w.heap.size w w' := by
  subst e1 e2
  have b0 : Below w.heap.size w (w.alloc (.cells #[.slice A0 n c0, .slice A1 n1 c1, .slice A2 n2 c2] 28)) := by go_grown
  obtain ⟨bl, x0, x1, x2⟩ := (Blk.new w [.slice A0 n c0, .slice A1 n1 c1, .slice A2 n2 c2] 28).c3
  by_cases h1 : 0 ≤ i
  · by_cases h2 : i ≤ (n : Int)
    · have HF : Hid (decide (0 ≤ i ∧ i ≤ (n : Int)) = true) := Lib.hid (decide_eq_true ⟨h1, h2⟩)
      go_enter Try.func58, Try.ntmps58
      go_wp2_with (fail)
      go_ret
      exact ⟨by first | rfl | exact ret_b HF.out.symm, b0⟩
    · have HF : Hid (decide (0 ≤ i ∧ i ≤ (n : Int)) = false) := Lib.hid (decide_eq_false fun h => h2 h.2)
      have h2' : decide (i ≤ (n : Int)) = false := decide_eq_false h2
      go_enter Try.func58, Try.ntmps58
      go_wp2_with (fail)
      go_ret
      exact ⟨by first | rfl | exact ret_b HF.out.symm, b0⟩
  · have HF : Hid (decide (0 ≤ i ∧ i ≤ (n : Int)) = false) := Lib.hid (decide_eq_false fun h => h1 h.1)
    have h2' : decide (0 ≤ i) = false := decide_eq_false h1
    go_enter Try.func58, Try.ntmps58
    go_wp2_with (fail)
    go_ret
    exact ⟨by first | rfl | exact ret_b HF.out.symm, b0⟩
end Go.Proofs.Ytahmhdpgdhfjnaa
namespace Go.Proofs.Ytahmhdpgdhfjnaa
open Go.RowKit
set_option linter.unusedVariables false
set_option linter.unusedSimpArgs false

theorem con_eq (p : Pres) : rIsConsistent p = p.con := rfl
set_option maxRecDepth 100000 in
set_option maxHeartbeats 4000000 in
theorem iIsNormalTail_ok (v0 : Value) (p : Pres) (I : Int) (w : World) (h0 : PresK w v0 p) (s0 : spPres.sz p ≤ 1048576) : Calls Try.prog 34 #[v0, .int .i64 I] w (RetBC (rIsNormalTail p I) (cIsNormalTail p I) w) := by
  obtain ⟨O, W, J⟩ := p
  have h0' := h0
  obtain ⟨A0, c0, A1, c1, A2, c2, rfl, ⟨hO, hW, hJ⟩, m0, m1, m2, hc0⟩ := h0
  replace hO : RdI w A0 O := hO
  replace hW : RdWK w A1 W := hW
  replace hJ : RdXM w A2 J := hJ
  simp only at h0' m0 ⊢
  have b0 : Below w.heap.size w (w.alloc (.cells #[.slice A0 O.length c0, .slice A1 W.length c1, .slice A2 J.length c2] 28)) := by go_grown
  have BX := (Blk.new w [.slice A0 O.length c0, .slice A1 W.length c1, .slice A2 J.length c2] 28)
  have HI := Lib.hid (iIsConsistent_ok _ ⟨O, W, J⟩ _ (h0'.c.below b0) s0)
  rw [con_eq] at HI
  have HT : Hid (∀ W', Calls Try.prog 58 #[.agg #[.slice A0 O.length c0, .slice A1 W.length c1, .slice A2 J.length c2], .int .i64 I] W' fun e w' => e = .returned (.bool (decide (0 ≤ I ∧ I ≤ (O.length : Int)))) ∧ Below W'.heap.size W' w') := Lib.hid fun W' => isTailIndex_any A0 c0 O.length _ _ I W' rfl rfl A1 A2 _ c1 _ c2 rfl rfl
  generalize hW0 : (w.alloc (.cells #[.slice A0 O.length c0, .slice A1 W.length c1, .slice A2 J.length c2] 28)) = W0 at *
  obtain ⟨bl, x0, x1, x2⟩ := BX.c3
  unfold RetB at HI
  cases hk : Pres.con ⟨O, W, J⟩ with
  | true =>
    rw [hk] at HI
    have hok := Pres.con_ok hk
    have hpre : Num.preB O W J = true := hok
    obtain ⟨p1, p2⟩ := Num.preB_shape hpre
    have h6 := (Num.ordC_zero p1).1
    by_cases hI : 0 ≤ I ∧ I ≤ (O.length : Int)
    · have hc := Pres.tlC_ok hk hI
      obtain ⟨i, rfl⟩ := Int.eq_ofNat_of_zero_le hI.1
      have hin : i ≤ O.length := by omega
      have HR : Hid (rIsNormalTail ⟨O, W, J⟩ (i : Int) = Num.norB O J i ∧ cIsNormalTail ⟨O, W, J⟩ (i : Int) = 0) := Lib.hid ⟨if_pos hc, hc⟩
      have HNR := Lib.hid (Num.nor_rels (W := W) p2 hin)
      have HLR := Lib.hid (Num.rels_len p2 h6)
      have HRO := Lib.hid (Num.rels_ok hpre)
      have HRX : Hid (∀ q, q ∈ Num.rels O W J → q.x.length = O.length) := Lib.hid fun q hq => by
        obtain ⟨-, e2, e3, e4, e5⟩ := Num.preB_out hpre
        rcases Num.rels_mem.mp hq with ⟨j, hj, rfl⟩ | ⟨j, k, hj, hk, rfl⟩
        · exact (Num.fitB_out (e4 j hj)).1
        · obtain ⟨-, c2⟩ := Num.conB_out (e5 j hj)
          exact (Num.fitB_out (c2 k hk)).1
      have HRL : Hid (∀ W', Below w.heap.size w W' → _) := Lib.hid fun W' hb => relationsOfK_any A0 A1 A2 c0 c1 c2 O W J W' (hO.below' hb) (hW.below' hb) (hJ.k.below' hb) h6 p2
      rw [decide_eq_true hI] at HT
      clear hO hW hJ hok hpre p1 p2 hk hI hc h0'
      generalize Num.rels O W J = qs at *
      generalize Num.norB O J i = res at *
      go_enter Try.func34, Try.ntmps34
      go_wp2_with (fail)
      clear hW0
      refine HI.out.mono ?_; rintro e w1 ⟨rfl, hb1⟩
      have L1 := bstep b0 b0.size hb1
      have BX1 := BX.below hb1
      obtain ⟨bl1, y0, y1, y2⟩ := BX1.c3
      clear HI x0 x1 x2
      go_wp2_with (fail)
      refine (HT.out w1).mono ?_; rintro e w2 ⟨rfl, hb2⟩
      have L2 := bstep L1 L1.size hb2
      obtain ⟨bl2, z0, z1, z2⟩ := (BX1.below hb2).c3
      have HC2 := Lib.hid (HRL.out w2 L2)
      clear HT HRL y0 y1 y2
      go_wp2_with (fail)
      refine HC2.out.mono ?_; rintro e w3 ⟨v, rfl, ⟨ps, hps, hpm, hrd⟩, hb3⟩
      have L3 := bstep L2 L2.size hb3
      have hpl : ps.length ≤ 100 := by have h1 := congrArg List.length hpm; rw [List.length_map] at h1; have := HLR.out; omega
      obtain ⟨AP, cP, rfl, -⟩ := hps.form
      have HPS := Lib.hid hps
      have HRD : Hid (∀ j, (hj : j < ps.length) → RelRdK w3 ps[j] ∧ ps[j].2 ∈ qs) := Lib.hid fun j hj => ⟨by obtain ⟨A, c, k1, k2, k3⟩ := hrd _ (List.getElem_mem hj); exact ⟨A, c, k1, ⟨k2.1.below' hb3, k2.2⟩, k3⟩, by rw [← hpm]; exact List.mem_map_of_mem (List.getElem_mem hj)⟩
      have HEND : Hid ((∀ j, (hj : j < ps.length) → ¬ (ps[j].2.b < (i : Int) ∧ (i : Int) ≤ ps[j].2.g ∧ Num.nzB (ps[j].2.x.take i) = true)) → res = true) := Lib.hid fun h => HNR.out.mp fun q hq => by
        rw [← hpm] at hq
        obtain ⟨p, hp, rfl⟩ := List.mem_map.mp hq
        obtain ⟨j, hj, rfl⟩ := List.getElem_of_mem hp
        exact h j hj
      have HBAD : Hid (∀ j, (hj : j < ps.length) → (ps[j].2.b < (i : Int) ∧ (i : Int) ≤ ps[j].2.g ∧ Num.nzB (ps[j].2.x.take i) = true) → res = false) := Lib.hid fun j hj h => by
        cases hr : res with
        | false => rfl
        | true => exact absurd h (HNR.out.mpr hr _ (HRD.out j hj).2)
      clear HC2 hps hpm hrd hb3 z0 z1 z2 HLR HNR
      go_wp2_with (fail)
      go_loopw [20] (fun s wr => ∃ j : Nat, s = .int .i64 j ∧ j ≤ ps.length ∧ Hid (∀ k, (hk : k < ps.length) → k < j → ¬ (ps[k].2.b < (i : Int) ∧ (i : Int) ≤ ps[k].2.g ∧ Num.nzB (ps[k].2.x.take i) = true)) ∧ Below w3.heap.size w3 wr) (fun s _ => ps.length - (intOf s).toNat)
      case atStart => exact ⟨0, rfl, by omega, Lib.hid (fun k hk hlt => by omega), Below.refl _ _⟩
      case round =>
        obtain ⟨j, rfl, hj, hf, bel⟩ := hrel
        by_cases hlt : j < ps.length
        · obtain ⟨g, rfl, hgb, hgl, k0, k1, k2, k3⟩ := HPS.out.at_ hlt
          obtain ⟨⟨B, d, hu, ⟨hr, hrc⟩, hlx⟩, hm⟩ := HRD.out j hlt
          have hxl := HRX.out _ hm
          obtain ⟨-, -, ⟨a, b, e1, e2, e3, e4⟩, -, -⟩ := HRO.out _ hm
          have j0 : (0 : Int) ≤ (j : Int) := by omega
          have j1 : (j : Int) < (ps.length : Int) := by omega
          rw [hu] at k0
          have HNX : Hid (¬ (ps[j].2.b < (i : Int) ∧ (i : Int) ≤ ps[j].2.g ∧ Num.nzB (ps[j].2.x.take i) = true) → ∀ k, (hk : k < ps.length) → k < j + 1 → ¬ (ps[k].2.b < (i : Int) ∧ (i : Int) ≤ ps[k].2.g ∧ Num.nzB (ps[k].2.x.take i) = true)) := Lib.hid fun h k hk hkj => by
            rcases Nat.lt_succ_iff_lt_or_eq.mp hkj with h1 | rfl
            · exact hf.out k hk h1
            · exact h
          have HB2 := Lib.hid (HBAD.out j hlt)
          have HR9 := Lib.hid hr
          clear hu hr hm hf
          generalize hq : ps[j].2 = q at *
          clear hq
          obtain ⟨qx, qg, qb, qo⟩ := q
          simp only at k0 k1 k2 k3 hxl HNX HB2 HR9 e1 e2 hlx hrc
          subst e1 e2
          have y0 : wr.cell? ⟨g, j * 4, none⟩ = some (.slice B qx.length d) := by rw [bel.cell hgl]; exact k0
          have y1 : wr.cell? ⟨g, j * 4 + 1, none⟩ = some (.int .i64 (b : Int)) := by rw [bel.cell hgl]; exact k1
          have y2 : wr.cell? ⟨g, j * 4 + 2, none⟩ = some (.int .i64 (a : Int)) := by rw [bel.cell hgl]; exact k2
          have y3 : wr.cell? ⟨g, j * 4 + 3, none⟩ = some (.int .i64 qo) := by rw [bel.cell hgl]; exact k3
          have BW : Below wr.heap.size wr (wr.alloc (.cells #[.slice B qx.length d, .int .i64 (b : Int), .int .i64 (a : Int), .int .i64 qo] 85)) := by go_grown
          have LW := bstep bel bel.size BW
          have HZ := Lib.hid (zeroBefore_any B d qx i (wr.alloc (.cells #[.slice B qx.length d, .int .i64 (b : Int), .int .i64 (a : Int), .int .i64 qo] 85)) (HR9.out.below' LW) hrc (by omega) (by omega))
          clear k0 k1 k2 k3 hxl
          by_cases ha : (a : Int) < (i : Int)
          · have t1 : decide ((a : Int) < (i : Int)) = true := decide_eq_true ha
            have t1n : decide (a < i) = true := decide_eq_true (by omega)
            by_cases hb : (i : Int) ≤ (b : Int)
            · have t2 : decide ((i : Int) ≤ (b : Int)) = true := decide_eq_true hb
              have t2n : decide (i ≤ b) = true := decide_eq_true (by omega)
              cases hz : Num.nzB (qx.take i) with
              | true =>
                rw [hz] at HZ
                have HF : Hid (res = false) := Lib.hid (HB2.out ⟨ha, hb, hz⟩)
                clear hz HNX
                go_wp2_with (fail)
                refine HZ.out.mono ?_; rintro e w5 ⟨rfl, rfl⟩
                go_wp2_with (fail)
                go_ret2
                rw [HR.out.1, HR.out.2, HF.out]
                exact ⟨rfl, bstep L3 L3.size LW⟩
              | false =>
                rw [hz] at HZ
                have HN := Lib.hid (HNX.out (fun h => by rw [hz] at h; exact absurd h.2.2 (by simp)))
                clear hz HNX
                go_wp2_with (fail)
                refine HZ.out.mono ?_; rintro e w5 ⟨rfl, rfl⟩
                go_wp2_with (fail)
                exact ⟨⟨j + 1, by go_num, by omega, HN, LW⟩, by simp [intOf]; omega⟩
            · have t2 : decide ((i : Int) ≤ (b : Int)) = false := decide_eq_false hb
              have t2n : decide (i ≤ b) = false := decide_eq_false (by omega)
              have HN := Lib.hid (HNX.out (fun h => hb h.2.1))
              clear HNX
              go_wp2_with (fail)
              exact ⟨⟨j + 1, by go_num, by omega, HN, LW⟩, by simp [intOf]; omega⟩
          · have t1 : decide ((a : Int) < (i : Int)) = false := decide_eq_false ha
            have t1n : decide (a < i) = false := decide_eq_false (by omega)
            have HN := Lib.hid (HNX.out (fun h => ha h.1))
            clear HNX
            go_wp2_with (fail)
            exact ⟨⟨j + 1, by go_num, by omega, HN, LW⟩, by simp [intOf]; omega⟩
        · have hge : ¬ ((j : Int) < (ps.length : Int)) := by omega
          have HF : Hid (res = true) := Lib.hid (HEND.out fun k hk => hf.out k hk (by omega))
          clear hf
          go_wp2_with (fail)
          go_ret2
          rw [HR.out.1, HR.out.2, HF.out]
          exact ⟨rfl, bstep L3 L3.size bel⟩
    · have hc := Pres.tlC_out hk hI
      have HR : Hid (rIsNormalTail ⟨O, W, J⟩ I = false ∧ cIsNormalTail ⟨O, W, J⟩ I = 2) := Lib.hid ⟨by unfold rIsNormalTail; rw [if_neg (by rw [hc]; omega)], hc⟩
      rw [decide_eq_false hI] at HT
      clear hO hW hJ hok hpre p1 p2 hk hI hc h0'
      go_enter Try.func34, Try.ntmps34
      go_wp2_with (fail)
      clear hW0
      refine HI.out.mono ?_; rintro e w1 ⟨rfl, hb1⟩
      have L1 := bstep b0 b0.size hb1
      obtain ⟨bl1, y0, y1, y2⟩ := (BX.below hb1).c3
      clear HI x0 x1 x2
      go_wp2_with (fail)
      refine (HT.out w1).mono ?_; rintro e w2 ⟨rfl, hb2⟩
      go_wp2_with (fail)
      go_ret2
      rw [HR.out.1, HR.out.2]
      exact ⟨rfl, bstep L1 L1.size hb2⟩
  | false =>
    rw [hk] at HI
    have hc := Pres.tlC_bad (i := I) hk
    have HR : Hid (rIsNormalTail ⟨O, W, J⟩ I = false ∧ cIsNormalTail ⟨O, W, J⟩ I = 1) := Lib.hid ⟨by unfold rIsNormalTail; rw [if_neg (by rw [hc]; omega)], hc⟩
    clear hO hW hJ hk hc h0'
    go_enter Try.func34, Try.ntmps34
    go_wp2_with (fail)
    clear hW0
    refine HI.out.mono ?_; rintro e w1 ⟨rfl, hb1⟩
    go_wp2_with (fail)
    go_ret2
    rw [HR.out.1, HR.out.2]
    exact ⟨rfl, bstep b0 b0.size hb1⟩
end Go.Proofs.Ytahmhdpgdhfjnaa
namespace Go.Proofs.Ytahmhdpgdhfjnaa
open Go.RowKit
set_option linter.unusedVariables false
set_option linter.unusedSimpArgs false

theorem sZero9_any (A : Option Addr) (c : Nat) (x : List Int) (w : World) (h : RdI w A x) (hl : x.length ≤ 100000) :
    Calls Try.prog 124 #[.slice A x.length c] w fun e w' => e = .returned (.bool (!Num.nzB x)) ∧ w = w' := by
  have HY : Hid ((∀ j, j < x.length → x.getD j 0 = 0) → Num.nzB x = false) := Lib.hid fun h => decide_eq_false fun ⟨j, hj, hne⟩ => hne (h j hj)
  have HN : Hid (∀ j, j < x.length → x.getD j 0 ≠ 0 → Num.nzB x = true) := Lib.hid fun j hj hne => decide_eq_true ⟨j, hj, hne⟩
  generalize Num.nzB x = b at *
  go_enter Try.func124, Try.ntmps124
  go_wp2_with (fail)
  go_loopw [3] (fun s wr => ∃ k : Nat, s = .int .i64 k ∧ k ≤ x.length ∧ Hid (∀ j, j < k → x.getD j 0 = 0) ∧ w = wr) (fun s _ => x.length - (intOf s).toNat)
  case atStart => exact ⟨0, rfl, by omega, Lib.hid (fun j hj => by omega), rfl⟩
  case round =>
    obtain ⟨k, rfl, hk, hf, rfl⟩ := hrel
    by_cases hlt : k < x.length
    · obtain ⟨g, o, rfl, hg, hc⟩ := h k hlt
      have i0 : (0 : Int) ≤ (k : Int) := by omega
      have i1 : (k : Int) < (x.length : Int) := by omega
      by_cases hz : x.getD k 0 = 0
      · have T1 : (x.getD k 0 != 0) = false := by simpa using hz
        have HF : Hid (∀ j, j < k + 1 → x.getD j 0 = 0) := Lib.hid fun j hj => by
          rcases Nat.lt_succ_iff_lt_or_eq.mp hj with h1 | rfl
          · exact hf.out j h1
          · exact hz
        clear hf hz
        generalize x.getD k 0 = y at *
        go_wp2_with (fail)
        exact ⟨⟨k + 1, by go_num, by omega, HF, by first | rfl | trivial⟩, by simp [intOf]; omega⟩
      · have T1 : (x.getD k 0 != 0) = true := by simpa using hz
        have HB := Lib.hid (HN.out k hlt hz)
        clear hf hz
        generalize x.getD k 0 = y at *
        go_wp2_with (fail)
        go_ret
        exact ⟨by rw [HB.out]; rfl, rfl⟩
    · have hge : ¬ ((k : Int) < (x.length : Int)) := by omega
      obtain rfl : k = x.length := by omega
      have HB := Lib.hid (HY.out hf.out)
      go_wp2_with (fail)
      go_ret
      exact ⟨by rw [HB.out]; rfl, rfl⟩
set_option maxRecDepth 100000 in
set_option maxHeartbeats 2000000 in
theorem sNormal_any (A0 A1 A2 : Option Addr) (c0 c1 c2 : Nat) (O : List Int) (W : List (List Int)) (J : List (List (List Int))) (i : Nat) (w : World) (hO : RdI w A0 O) (hJ : RdXM w A2 J) (hpre : Num.preB O W J = true) (hi : i ≤ O.length) :
    Calls Try.prog 84 #[.agg #[.slice A0 O.length c0, .slice A1 W.length c1, .slice A2 J.length c2], .int .i64 (i : Int)] w fun e w' => e = .returned (.bool (Num.norB O J i)) ∧ Below w.heap.size w w' := by
  obtain ⟨p1, p2⟩ := Num.preB_shape hpre
  have h6 := (Num.ordC_zero p1).1
  obtain ⟨e1, e2, e3⟩ := Num.shapeB_out p2
  obtain ⟨-, -, -, -, e5⟩ := Num.preB_out hpre
  have b0 : Below w.heap.size w (w.alloc (.cells #[.slice A0 O.length c0, .slice A1 W.length c1, .slice A2 J.length c2] 28)) := by go_grown
  obtain ⟨bl, x0, x1, x2⟩ := (Blk.new w [.slice A0 O.length c0, .slice A1 W.length c1, .slice A2 J.length c2] 28).c3
  generalize hW0 : (w.alloc (.cells #[.slice A0 O.length c0, .slice A1 W.length c1, .slice A2 J.length c2] 28)) = W0 at *
  have HJ := Lib.hid (hJ.below' b0)
  have HY : Hid ((∀ h, h < i → ∀ j, j < O.length → i ≤ j → Num.nzB ((((J.getD h []).getD (j - h - 1) [])).take i) = false) → Num.norB O J i = true) := Lib.hid fun h => decide_eq_true h
  have HN : Hid (∀ h, h < i → ∀ j, j < O.length → i ≤ j → Num.nzB ((((J.getD h []).getD (j - h - 1) [])).take i) = true → Num.norB O J i = false) := Lib.hid fun h hh j hj hij hb => decide_eq_false fun hall => by rw [hall h hh j hj hij] at hb; cases hb
  have HLJ : Hid (J.length = O.length) := Lib.hid e2
  have HLR : Hid (∀ h, h < O.length → (J.getD h []).length = O.length - 1 - h) := Lib.hid fun h hh => by have := e3 h (by omega); omega
  have HLX : Hid (∀ h, h < O.length → ∀ k, k < O.length - 1 - h → ((J.getD h []).getD k []).length = O.length) := Lib.hid fun h hh k hk => by
    obtain ⟨c1', c2'⟩ := Num.conB_out (e5 h hh)
    exact (Num.fitB_out (c2' k (by rw [c1']; exact hk))).1
  generalize Num.norB O J i = res at *
  clear hO hJ hpre p1 p2 e1 e2 e3 e5
  go_enter Try.func84, Try.ntmps84
  go_wp2_with (fail)
  clear hW0
  go_loopw [5] (fun s wr => ∃ h : Nat, s = .int .i64 h ∧ h ≤ i ∧ Hid (∀ a, a < h → ∀ j, j < O.length → i ≤ j → Num.nzB ((((J.getD a []).getD (j - a - 1) [])).take i) = false) ∧ W0 = wr) (fun s _ => i - (intOf s).toNat)
  case atStart => exact ⟨0, rfl, by omega, Lib.hid (fun a ha => by omega), rfl⟩
  case round =>
    obtain ⟨h, rfl, hh, hf, rfl⟩ := hrel
    by_cases hlt : h < i
    · have i1 : (h : Int) < (i : Int) := by omega
      have i1n : decide (h < i) = true := decide_eq_true hlt
      have hw : IntKind.i64.wrap ((h : Int) + 1) = (h : Int) + 1 := IntWalk.i64_in _ (by omega)
      go_wp2_with (fail)
      go_loopw [6] (fun s wr => ∃ j : Nat, s = .int .i64 j ∧ i ≤ j ∧ j ≤ O.length ∧ Hid (∀ k, k < j → i ≤ k → Num.nzB ((((J.getD h []).getD (k - h - 1) [])).take i) = false) ∧ W0 = wr) (fun s _ => O.length - (intOf s).toNat)
      case atStart => exact ⟨i, rfl, by omega, hi, Lib.hid (fun k hk hk2 => by omega), rfl⟩
      case round =>
        obtain ⟨j, rfl, hij, hj, hg, rfl⟩ := hrel
        by_cases hjl : j < O.length
        · have j1 : (j : Int) < (O.length : Int) := by omega
          obtain ⟨k, hk⟩ : ∃ k, k = j - h - 1 := ⟨_, rfl⟩
          have hlr := HLR.out h (by omega)
          have hlx := HLX.out h (by omega) k (by omega)
          have hlj := HLJ.out
          obtain ⟨g2, o2, B2, d2, hA2, hg2, hc2, hl2, hr2, hd2⟩ := HJ.out h (by omega)
          obtain ⟨g3, o3, B3, d3, hB2, hg3, hc3, hl3, hr3, hd3⟩ := hr2 k (by omega)
          subst hA2 hB2
          have h0 : (0 : Int) ≤ (h : Int) := by omega
          have h1 : (h : Int) < (J.length : Int) := by omega
          have k0 : (0 : Int) ≤ (k : Int) := by omega
          have k1 : (k : Int) < ((J.getD h []).length : Int) := by omega
          have wd : IntKind.i64.wrap ((j : Int) - (h : Int)) = (k : Int) + 1 := by rw [IntWalk.i64_in _ (by omega)]; omega
          have we : IntKind.i64.wrap ((k : Int) + 1 - 1) = (k : Int) := by rw [IntWalk.i64_in _ (by omega)]; omega
          have we2 : IntKind.i64.wrap (k : Int) = (k : Int) := by rw [IntWalk.i64_in _ (by omega)]
          have wj : IntKind.i64.wrap ((j : Int) + 1) = (j : Int) + 1 := IntWalk.i64_in _ (by omega)
          have s0 : (0 : Int) ≤ (i : Int) := by omega
          have s1 : (i : Int) ≤ (((J.getD h []).getD k []).length : Int) := by omega
          have s2 : (i : Int) ≤ (d3 : Int) := by omega
          have lt : (((J.getD h []).getD k []).take i).length = i := by rw [List.length_take]; omega
          have HZ : Hid (Calls Try.prog 124 #[.slice B3 i d3] W0 fun e w' => e = .returned (.bool (!Num.nzB (((J.getD h []).getD k []).take i))) ∧ W0 = w') := Lib.hid (by
            have := sZero9_any B3 d3 (((J.getD h []).getD k []).take i) W0 (rdI_takeZ hr3 i) (by omega)
            rwa [lt] at this)
          have HX : Hid (Num.nzB (((J.getD h []).getD k []).take i) = true → res = false) := Lib.hid fun hb => HN.out h hlt j hjl hij (by rw [← hk]; exact hb)
          have HG : Hid (Num.nzB (((J.getD h []).getD k []).take i) = false → ∀ k, k < j + 1 → i ≤ k → Num.nzB ((((J.getD h []).getD (k - h - 1) [])).take i) = false) := Lib.hid fun hb k' hk1 hk2 => by
            rcases Nat.lt_succ_iff_lt_or_eq.mp hk1 with h1 | rfl
            · exact hg.out k' h1 hk2
            · rw [← hk]; exact hb
          clear hr2 hr3 hg hlr lt hlj hk
          generalize (J.getD h []).getD k [] = z at *
          generalize J.getD h [] = r at *
          cases hb : Num.nzB (z.take i) with
          | true =>
            rw [hb] at HZ
            have HF := Lib.hid (HX.out hb)
            clear hb HG HX hlx
            go_wp2_with (fail)
            refine HZ.out.mono ?_; rintro e w' ⟨rfl, rfl⟩
            go_wp2_with (fail)
            go_ret
            exact ⟨ret_b HF.out.symm, b0⟩
          | false =>
            rw [hb] at HZ
            have HF := Lib.hid (HG.out hb)
            clear hb HG HX hlx
            go_wp2_with (fail)
            refine HZ.out.mono ?_; rintro e w' ⟨rfl, rfl⟩
            go_wp2_with (fail)
            exact ⟨⟨j + 1, by go_num, by omega, by omega, HF, by first | rfl | trivial⟩, by simp [intOf]; omega⟩
        · have hge : ¬ ((j : Int) < (O.length : Int)) := by omega
          obtain rfl : j = O.length := by omega
          have HF : Hid (∀ a, a < h + 1 → ∀ j, j < O.length → i ≤ j → Num.nzB ((((J.getD a []).getD (j - a - 1) [])).take i) = false) := Lib.hid fun a ha j hj hij => by
            rcases Nat.lt_succ_iff_lt_or_eq.mp ha with h1 | rfl
            · exact hf.out a h1 j hj hij
            · exact hg.out j hj hij
          clear hf hg
          go_wp2_with (fail)
          exact ⟨⟨h + 1, by go_num, by omega, HF, by first | rfl | trivial⟩, by simp [intOf]; omega⟩
    · have hge : ¬ ((h : Int) < (i : Int)) := by omega
      have hgen : decide (h < i) = false := decide_eq_false hlt
      obtain rfl : h = i := by omega
      have HF := Lib.hid (HY.out hf.out)
      clear hf
      go_wp2_with (fail)
      go_ret
      exact ⟨ret_b HF.out.symm, b0⟩
set_option maxRecDepth 100000 in
set_option maxHeartbeats 1000000 in
theorem sCode8_any (v0 : Value) (p : Pres) (I : Int) (w : World) (h0 : spPres.rd w v0 p) : Calls Try.prog 83 #[v0, .int .i64 I] w fun e w' => e = .returned (.int .i64 (p.tlC I)) ∧ Below w.heap.size w w' := by
  obtain ⟨O, W, J⟩ := p
  have h0' := h0
  obtain ⟨A0, c0, A1, c1, A2, c2, rfl, ⟨hO, hW, hJ⟩, m0, -, -⟩ := pres_open h0
  simp only at h0' h0 m0 ⊢
  have b0 : Below w.heap.size w (w.alloc (.cells #[.slice A0 O.length c0, .slice A1 W.length c1, .slice A2 J.length c2] 28)) := by go_grown
  have BX := (Blk.new w [.slice A0 O.length c0, .slice A1 W.length c1, .slice A2 J.length c2] 28)
  have HI := Lib.hid (sGroup_any _ ⟨O, W, J⟩ _ (spPres.rd_below h0' b0))
  generalize hW0 : (w.alloc (.cells #[.slice A0 O.length c0, .slice A1 W.length c1, .slice A2 J.length c2] 28)) = W0 at *
  obtain ⟨bl, x0, x1, x2⟩ := BX.c3
  unfold RetB at HI
  clear hO hW hJ h0 h0'
  cases hk : Pres.con ⟨O, W, J⟩ with
  | true =>
    rw [hk] at HI
    by_cases hI : 0 ≤ I ∧ I ≤ (O.length : Int)
    · have HF := Lib.hid (Pres.tlC_ok hk hI)
      have HI2 := Lib.hid (sIn_yes I 0 (O.length : Int) · hI.1 hI.2)
      clear hk hI
      go_enter Try.func83, Try.ntmps83
      go_wp2_with (fail)
      clear hW0
      refine HI.out.mono ?_; rintro e w1 ⟨rfl, hb1⟩
      have L1 := bstep b0 b0.size hb1
      obtain ⟨bl1, y0, y1, y2⟩ := (BX.below hb1).c3
      clear HI x0 x1 x2
      go_wp2_with (fail)
      refine (HI2.out w1).mono ?_; rintro e w2 ⟨rfl, rfl⟩
      go_wp2_with (fail)
      go_ret
      exact ⟨ret_i HF.out.symm, L1⟩
    · have HF := Lib.hid (Pres.tlC_out hk hI)
      have hI2 : I < 0 ∨ (O.length : Int) < I := by omega
      have HI2 := Lib.hid (sIn_no I 0 (O.length : Int) · hI2)
      clear hk hI hI2
      go_enter Try.func83, Try.ntmps83
      go_wp2_with (fail)
      clear hW0
      refine HI.out.mono ?_; rintro e w1 ⟨rfl, hb1⟩
      have L1 := bstep b0 b0.size hb1
      obtain ⟨bl1, y0, y1, y2⟩ := (BX.below hb1).c3
      clear HI x0 x1 x2
      go_wp2_with (fail)
      refine (HI2.out w1).mono ?_; rintro e w2 ⟨rfl, rfl⟩
      go_wp2_with (fail)
      go_ret
      exact ⟨ret_i HF.out.symm, L1⟩
  | false =>
    rw [hk] at HI
    have HF := Lib.hid (Pres.tlC_bad (i := I) hk)
    clear hk
    go_enter Try.func83, Try.ntmps83
    go_wp2_with (fail)
    clear hW0
    refine HI.out.mono ?_; rintro e w1 ⟨rfl, hb1⟩
    go_wp2_with (fail)
    go_ret
    exact ⟨ret_i HF.out.symm, bstep b0 b0.size hb1⟩
set_option maxRecDepth 100000 in
set_option maxHeartbeats 1000000 in
theorem sIsNormalTail_ok (v0 : Value) (p : Pres) (I : Int) (w : World) (h0 : PresK w v0 p) (s0 : spPres.sz p ≤ 1048576) : Calls Try.prog 33 #[v0, .int .i64 I] w (RetBC (rIsNormalTail p I) (cIsNormalTail p I) w) := by
  obtain ⟨O, W, J⟩ := p
  have h0' := h0
  obtain ⟨A0, c0, A1, c1, A2, c2, rfl, ⟨hO, hW, hJ⟩, m0, m1, m2, hc0⟩ := h0
  replace hO : RdI w A0 O := hO
  replace hJ : RdXM w A2 J := hJ
  simp only at h0' m0 ⊢
  have b0 : Below w.heap.size w (w.alloc (.cells #[.slice A0 O.length c0, .slice A1 W.length c1, .slice A2 J.length c2] 28)) := by go_grown
  have BX := (Blk.new w [.slice A0 O.length c0, .slice A1 W.length c1, .slice A2 J.length c2] 28)
  have HI := Lib.hid (sCode8_any _ ⟨O, W, J⟩ I _ (h0'.rd |> fun h => spPres.rd_below h b0))
  generalize hW0 : (w.alloc (.cells #[.slice A0 O.length c0, .slice A1 W.length c1, .slice A2 J.length c2] 28)) = W0 at *
  obtain ⟨bl, x0, x1, x2⟩ := BX.c3
  by_cases hc : Pres.tlC ⟨O, W, J⟩ I = 0
  · have hcon : Pres.con ⟨O, W, J⟩ = true := by
      cases hk : Pres.con ⟨O, W, J⟩ with
      | true => rfl
      | false => rw [Pres.tlC_bad hk] at hc; omega
    have hI : 0 ≤ I ∧ I ≤ (O.length : Int) := by
      by_cases h : 0 ≤ I ∧ I ≤ (O.length : Int)
      · exact h
      · rw [Pres.tlC_out hcon h] at hc; omega
    obtain ⟨i, rfl⟩ := Int.eq_ofNat_of_zero_le hI.1
    have HR : Hid (rIsNormalTail ⟨O, W, J⟩ (i : Int) = Num.norB O J i ∧ cIsNormalTail ⟨O, W, J⟩ (i : Int) = 0) := Lib.hid ⟨if_pos hc, hc⟩
    have HN : Hid (∀ W', Below w.heap.size w W' → _) := Lib.hid fun W' hb => sNormal_any A0 A1 A2 c0 c1 c2 O W J i W' (hO.below' hb) (hJ.below' hb) (Pres.con_ok hcon) (by omega)
    rw [hc] at HI
    clear hc hcon hI hO hJ hW h0'
    go_enter Try.func33, Try.ntmps33
    go_wp2_with (fail)
    clear hW0
    refine HI.out.mono ?_; rintro e w1 ⟨rfl, hb1⟩
    have L1 := bstep b0 b0.size hb1
    obtain ⟨bl1, y0, y1, y2⟩ := (BX.below hb1).c3
    have HN1 := Lib.hid (HN.out w1 L1)
    clear HI HN x0 x1 x2
    go_wp2_with (fail)
    refine HN1.out.mono ?_; rintro e w2 ⟨rfl, hb2⟩
    go_wp2_with (fail)
    go_ret2
    rw [HR.out.1, HR.out.2]
    exact ⟨rfl, bstep L1 L1.size hb2⟩
  · have HR : Hid (rIsNormalTail ⟨O, W, J⟩ I = false ∧ cIsNormalTail ⟨O, W, J⟩ I = Pres.tlC ⟨O, W, J⟩ I) := Lib.hid ⟨if_neg hc, rfl⟩
    have T1 : (Pres.tlC ⟨O, W, J⟩ I != 0) = true := by simpa using hc
    clear hc hO hJ hW h0'
    generalize Pres.tlC ⟨O, W, J⟩ I = cc at *
    go_enter Try.func33, Try.ntmps33
    go_wp2_with (fail)
    clear hW0
    refine HI.out.mono ?_; rintro e w1 ⟨rfl, hb1⟩
    go_wp2_with (fail)
    go_ret2
    rw [HR.out.1, HR.out.2]
    exact ⟨rfl, bstep b0 b0.size hb1⟩
end Go.Proofs.Ytahmhdpgdhfjnaa
namespace Go.Proofs.Ytahmhdpgdhfjnaa
open Go.RowKit
set_option linter.unusedVariables false
set_option linter.unusedSimpArgs false

set_option maxRecDepth 100000 in
set_option maxHeartbeats 4000000 in
theorem fnExactIsNormalTail_run (v0 : Value) (x0 : Pres) (x1 : Int) (w : World) (h0 : spPres.rd w v0 x0) :
    Calls Try.prog 6 #[v0, .int .i64 x1] w fun e w' => e = .returned (.bool true) ∧ Below w.heap.size w w' := by
  obtain ⟨Aa0_0, na0_0, ca0_0, Aa0_1, na0_1, ca0_1, Aa0_2, na0_2, ca0_2, rfl, -, -, -⟩ := spPres_form h0
  have L : Below w.heap.size w (w.alloc (.cells [.slice Aa0_0 na0_0 ca0_0, .slice Aa0_1 na0_1 ca0_1, .slice Aa0_2 na0_2 ca0_2].toArray 47)) := by go_grown
  have Ba0 : Blk (w.alloc (.cells [.slice Aa0_0 na0_0 ca0_0, .slice Aa0_1 na0_1 ca0_1, .slice Aa0_2 na0_2 ca0_2].toArray 47)) (w.heap.size) [.slice Aa0_0 na0_0 ca0_0, .slice Aa0_1 na0_1 ca0_1, .slice Aa0_2 na0_2 ca0_2] 47 := by have := Blk.new w [.slice Aa0_0 na0_0 ca0_0, .slice Aa0_1 na0_1 ca0_1, .slice Aa0_2 na0_2 ca0_2] 47; simpa only [World.size_alloc] using this
  have RW0 := Lib.hid h0
  clear h0
  by_cases s0 : (spPres.sz x0 : Int) ≤ 1048576
  · have s0' : spPres.sz x0 ≤ 1048576 := by omega
    obtain ⟨ba0l, ba00, ba01, ba02⟩ := Ba0.c3
    have HC := Lib.hid (szPres_ok (.agg #[.slice Aa0_0 na0_0 ca0_0, .slice Aa0_1 na0_1 ca0_1, .slice Aa0_2 na0_2 ca0_2]) x0 (1048576) (w.alloc (.cells [.slice Aa0_0 na0_0 ca0_0, .slice Aa0_1 na0_1 ca0_1, .slice Aa0_2 na0_2 ca0_2].toArray 47)) (spPres.rd_below RW0.out L) (by omega) (by omega))
    rw [szLeft_yes (n := spPres.sz x0) (left := 1048576) (by omega)] at HC
    have g0 : 0 ≤ 1048576 - (spPres.sz x0 : Int) := by omega
    have g0' : 1048576 - (spPres.sz x0 : Int) ≤ 1048576 := by omega
    go_enter Try.func6, Try.ntmps6
    go_wp2_with (fail)
    refine HC.out.mono ?_; rintro e w1 ⟨rfl, hb⟩
    clear ba0l ba00 ba01 ba02
    clear HC
    replace Ba0 := Ba0.below hb
    replace L := bstep L L.size hb
    clear hb
    obtain ⟨ba0l, ba00, ba01, ba02⟩ := Ba0.c3
    go_wp2_with (fail)
    refine (toPres_ok (.agg #[.slice Aa0_0 na0_0 ca0_0, .slice Aa0_1 na0_1 ca0_1, .slice Aa0_2 na0_2 ca0_2]) x0 w1 (spPres.rd_below RW0.out L) s0').mono ?_; rintro e w2 ⟨up0, Sp0, rfl, owp0, hSp0, hb⟩
    clear ba0l ba00 ba01 ba02
    have Na0_p0 : ¬ Sp0 (w.heap.size) := fun g => by have := hSp0 _ g; have := Ba0.lt; omega
    have Hp0 : Hid (∀ k, Sp0 k → w.heap.size ≤ k) := Lib.hid fun k g => by have := hSp0 k g; have := L.size; omega
    replace Ba0 := Ba0.below hb
    replace L := bstep L L.size hb
    clear hb hSp0
    obtain ⟨Ap0_0, np0_0, cp0_0, Ap0_1, np0_1, cp0_1, Ap0_2, np0_2, cp0_2, rfl, -, -, -⟩ := spPres_form (spPres.own_rd owp0)
    have Op0 := Lib.hid owp0
    clear owp0
    obtain ⟨ba0l, ba00, ba01, ba02⟩ := Ba0.c3
    go_wp2_with (fail)
    refine (sIsNormalTail_ok (.agg #[.slice Ap0_0 np0_0 cp0_0, .slice Ap0_1 np0_1 cp0_1, .slice Ap0_2 np0_2 cp0_2]) x0 x1 w2 (presK_of Op0.out) s0').mono ?_; rintro e w3 ⟨rfl, hb⟩
    clear ba0l ba00 ba01 ba02
    replace Op0 := Lib.hid (spPres.own_below Op0.out hb)
    replace Ba0 := Ba0.below hb
    replace L := bstep L L.size hb
    clear hb
    obtain ⟨ba0l, ba00, ba01, ba02⟩ := Ba0.c3
    go_wp2_with (fail)
    refine (toPres_ok (.agg #[.slice Aa0_0 na0_0 ca0_0, .slice Aa0_1 na0_1 ca0_1, .slice Aa0_2 na0_2 ca0_2]) x0 w3 (spPres.rd_below RW0.out L) s0').mono ?_; rintro e w4 ⟨uq0, Sq0, rfl, owq0, hSq0, hb⟩
    clear ba0l ba00 ba01 ba02
    have Na0_q0 : ¬ Sq0 (w.heap.size) := fun g => by have := hSq0 _ g; have := Ba0.lt; omega
    have Hq0 : Hid (∀ k, Sq0 k → w.heap.size ≤ k) := Lib.hid fun k g => by have := hSq0 k g; have := L.size; omega
    replace Ba0 := Ba0.below hb
    replace L := bstep L L.size hb
    clear hb hSq0
    obtain ⟨Aq0_0, nq0_0, cq0_0, Aq0_1, nq0_1, cq0_1, Aq0_2, nq0_2, cq0_2, rfl, -, -, -⟩ := spPres_form (spPres.own_rd owq0)
    have Oq0 := Lib.hid owq0
    clear owq0
    have Bq0 := Blk.new w4 [.slice Aq0_0 nq0_0 cq0_0, .slice Aq0_1 nq0_1 cq0_1, .slice Aq0_2 nq0_2 cq0_2] 28
    have Nq0_q0 : ¬ Sq0 w4.heap.size := fun g => by have := spPres.own_lt Oq0.out g; omega
    have hbx : Below w4.heap.size w4 (w4.alloc (.cells [.slice Aq0_0 nq0_0 cq0_0, .slice Aq0_1 nq0_1 cq0_1, .slice Aq0_2 nq0_2 cq0_2].toArray 28)) := (Below.refl _ _).alloc (Nat.le_refl _) _
    replace Oq0 := Lib.hid (spPres.own_below Oq0.out hbx)
    replace Ba0 := Ba0.below hbx
    replace L := bstep L L.size hbx
    clear hbx
    obtain ⟨ba0l, ba00, ba01, ba02⟩ := Ba0.c3
    obtain ⟨bq0l, bq00, bq01, bq02⟩ := Bq0.c3
    go_wp2_with (fail)
    refine (iIsNormalTail_ok (.agg #[.slice Aq0_0 nq0_0 cq0_0, .slice Aq0_1 nq0_1 cq0_1, .slice Aq0_2 nq0_2 cq0_2]) x0 x1 (w4.alloc (.cells [.slice Aq0_0 nq0_0 cq0_0, .slice Aq0_1 nq0_1 cq0_1, .slice Aq0_2 nq0_2 cq0_2].toArray 28)) (presK_of Oq0.out) s0').mono ?_; rintro e w5 ⟨rfl, hb⟩
    clear ba0l ba00 ba01 ba02 bq0l bq00 bq01 bq02
    replace Oq0 := Lib.hid (spPres.own_below Oq0.out hb)
    replace Ba0 := Ba0.below hb
    replace Bq0 := Bq0.below hb
    replace L := bstep L L.size hb
    clear hb
    obtain ⟨ba0l, ba00, ba01, ba02⟩ := Ba0.c3
    obtain ⟨bq0l, bq00, bq01, bq02⟩ := Bq0.c3
    have HT := Lib.hid (toPres_ok (.agg #[.slice Aa0_0 na0_0 ca0_0, .slice Aa0_1 na0_1 ca0_1, .slice Aa0_2 na0_2 ca0_2]) x0 w5.drew (spPres.rd_drew (spPres.rd_below RW0.out L)) s0')
    go_wp2_with (fail)
    go_region_held3 (fun wx => wx.cell? ⟨w4.heap.size, 0, none⟩ = some (.slice Aq0_0 nq0_0 cq0_0) ∧ wx.cell? ⟨w4.heap.size, 1, none⟩ = some (.slice Aq0_1 nq0_1 cq0_1) ∧ wx.cell? ⟨w4.heap.size, 2, none⟩ = some (.slice Aq0_2 nq0_2 cq0_2) ∧ wx.cell? ⟨(w.heap.size), 0, none⟩ = some (.slice Aa0_0 na0_0 ca0_0) ∧ wx.cell? ⟨(w.heap.size), 1, none⟩ = some (.slice Aa0_1 na0_1 ca0_1) ∧ wx.cell? ⟨(w.heap.size), 2, none⟩ = some (.slice Aa0_2 na0_2 ca0_2)) (first | go_keep | assumption) (first | (go_at_call 29; refine HT.out.mono ?_; rintro e w6 ⟨ut0, St0, rfl, owt0, hSt0, hb⟩; have SM : w6.cell? ⟨w4.heap.size, 0, none⟩ = some (.slice Aq0_0 nq0_0 cq0_0) ∧ w6.cell? ⟨w4.heap.size, 1, none⟩ = some (.slice Aq0_1 nq0_1 cq0_1) ∧ w6.cell? ⟨w4.heap.size, 2, none⟩ = some (.slice Aq0_2 nq0_2 cq0_2) ∧ w6.cell? ⟨(w.heap.size), 0, none⟩ = some (.slice Aa0_0 na0_0 ca0_0) ∧ w6.cell? ⟨(w.heap.size), 1, none⟩ = some (.slice Aa0_1 na0_1 ca0_1) ∧ w6.cell? ⟨(w.heap.size), 2, none⟩ = some (.slice Aa0_2 na0_2 ca0_2) := ⟨(Blk.cell (Bq0.drew.below hb) 0 (by simp)), (Blk.cell (Bq0.drew.below hb) 1 (by simp)), (Blk.cell (Bq0.drew.below hb) 2 (by simp)), (Blk.cell (Ba0.drew.below hb) 0 (by simp)), (Blk.cell (Ba0.drew.below hb) 1 (by simp)), (Blk.cell (Ba0.drew.below hb) 2 (by simp))⟩) | (go_at_call 30; refine (eqPres_ok (.agg #[.slice Aq0_0 nq0_0 cq0_0, .slice Aq0_1 nq0_1 cq0_1, .slice Aq0_2 nq0_2 cq0_2]) _ x0 _ (spPres.rd_below (spPres.rd_drew (spPres.own_rd Oq0.out)) hb) (spPres.own_rd owt0)).mono ?_; rintro e w7 ⟨rfl, hb2⟩; have SM2 : w7.cell? ⟨w4.heap.size, 0, none⟩ = some (.slice Aq0_0 nq0_0 cq0_0) ∧ w7.cell? ⟨w4.heap.size, 1, none⟩ = some (.slice Aq0_1 nq0_1 cq0_1) ∧ w7.cell? ⟨w4.heap.size, 2, none⟩ = some (.slice Aq0_2 nq0_2 cq0_2) ∧ w7.cell? ⟨(w.heap.size), 0, none⟩ = some (.slice Aa0_0 na0_0 ca0_0) ∧ w7.cell? ⟨(w.heap.size), 1, none⟩ = some (.slice Aa0_1 na0_1 ca0_1) ∧ w7.cell? ⟨(w.heap.size), 2, none⟩ = some (.slice Aa0_2 na0_2 ca0_2) := ⟨(Blk.cell ((Bq0.drew.below hb).below hb2) 0 (by simp)), (Blk.cell ((Bq0.drew.below hb).below hb2) 1 (by simp)), (Blk.cell ((Bq0.drew.below hb).below hb2) 2 (by simp)), (Blk.cell ((Ba0.drew.below hb).below hb2) 0 (by simp)), (Blk.cell ((Ba0.drew.below hb).below hb2) 1 (by simp)), (Blk.cell ((Ba0.drew.below hb).below hb2) 2 (by simp))⟩))
    clear ba0l ba00 ba01 ba02 bq0l bq00 bq01 bq02
    have hd : Below w5.heap.size w5 w5.drew := (Below.refl _ _).drew
    replace Oq0 := Lib.hid (spPres.own_below Oq0.out hd)
    replace Ba0 := Ba0.below hd
    replace Bq0 := Bq0.below hd
    replace L := bstep L L.size hd
    replace Oq0 := Lib.hid (spPres.own_below Oq0.out hb)
    replace Ba0 := Ba0.below hb
    replace Bq0 := Bq0.below hb
    replace L := bstep L L.size hb
    replace Oq0 := Lib.hid (spPres.own_below Oq0.out hb2)
    replace Ba0 := Ba0.below hb2
    replace Bq0 := Bq0.below hb2
    replace L := bstep L L.size hb2
    clear hd hb hb2 HT SM SM2 owt0 hSt0
    obtain ⟨ba0l, ba00, ba01, ba02⟩ := Ba0.c3
    obtain ⟨bq0l, bq00, bq01, bq02⟩ := Bq0.c3
    go_wp2_with (fail)
    go_ret
    exact ⟨rfl, L⟩
  · obtain ⟨ba0l, ba00, ba01, ba02⟩ := Ba0.c3
    have HC := Lib.hid (szPres_ok (.agg #[.slice Aa0_0 na0_0 ca0_0, .slice Aa0_1 na0_1 ca0_1, .slice Aa0_2 na0_2 ca0_2]) x0 (1048576) (w.alloc (.cells [.slice Aa0_0 na0_0 ca0_0, .slice Aa0_1 na0_1 ca0_1, .slice Aa0_2 na0_2 ca0_2].toArray 47)) (spPres.rd_below RW0.out L) (by omega) (by omega))
    rw [szLeft_no (n := spPres.sz x0) (left := 1048576) (by omega)] at HC
    go_enter Try.func6, Try.ntmps6
    go_wp2_with (fail)
    refine HC.out.mono ?_; rintro e w1 ⟨rfl, hb⟩
    clear ba0l ba00 ba01 ba02
    clear HC
    replace Ba0 := Ba0.below hb
    replace L := bstep L L.size hb
    clear hb
    obtain ⟨ba0l, ba00, ba01, ba02⟩ := Ba0.c3
    go_wp2_with (fail)
    go_ret
    exact ⟨rfl, L⟩
theorem fnExactIsNormalTail_walk (v0 : Value) (x0 : Pres) (a1 : Int) (w : World) (w0 : spPres.rd w v0 x0) (w1 : (Lit.int .i64 a1).wf = true) :
    Calls Try.prog 6 #[v0, .int .i64 a1] w fun e w' => e = .returned (.bool true) ∧ Below w.heap.size w w' :=
  fnExactIsNormalTail_run v0 x0 a1 w w0
end Go.Proofs.Ytahmhdpgdhfjnaa
namespace Go.Proofs.Ytahmhdpgdhfjnaa.fnExactIsNormalTail
open Go.ChangeShapes Go.WideShapes Go.ChangeAt Go.RowKit
open Go.ChangeMaps (open_string shut_string)
set_option linter.unusedVariables false

theorem own : ownKnob Try.prog.godebug = none := by kernel_rfl
theorem laidOut : laidOutB Try.prog = true := by kernel_rfl

set_option maxRecDepth 100000 in
theorem lifted (os : Os) (started : os.Started) (H : Type) (enc : TypeId × Value → H) :
    ReturnsInHanded {} Try.checked os 6 .any (Rows.fnExactIsNormalTailSpec.pre6 enc Try.prog Try.f6 Rows.fnExactIsNormalTailRow.domain false) (Rows.fnExactIsNormalTailSpec.post enc Try.prog Try.f6 false true false false) := by
  refine returnsInHanded_of_change (C := Try.checked) own started (by kernel_rfl) Try.func6
    (ChangeSpec.witness6 (enc := enc) (C := Try.checked) false ⟨#[], #[.agg #[.slice none 0 0, .slice none 0 0, .slice none 0 0], .int .i64 0], []⟩ 8 (by kernel_rfl) (by kernel_rfl) (by kernel_rfl) (by kernel_rfl)) ?_
  intro W base args ds gs before hval0 hW hcnd _
  have hval : ∀ (j : Nat) t v, Try.f6.params[j]? = some t → args[j]? = some v → Value.okWide Try.prog W .any base t v := hval0
  have hW' := hW
  obtain ⟨p, q, hA0, hV, rfl, hfz, hnd⟩ := hW
  have hA : DataW.TrodAll enc Try.prog W 0 (fun _ => true) true Try.f6.params.toList args.toList ds p := hA0
  rw [Try.params6] at hA hval
  obtain ⟨v0, vs0, d0, ds0, p0, q0, hargs, rfl, rfl, h0, r0⟩ := trodAll_cons hA
  obtain ⟨v1, vs1, d1, ds1, p1, q1, rfl, rfl, rfl, h1, r1⟩ := trodAll_cons r0
  obtain ⟨rfl, rfl, rfl⟩ := trodAll_nil r1
  obtain rfl : args = #[v0, v1] := by cases args; simp_all
  obtain ⟨rfl, rfl⟩ := trodVars_none hV
  have k0 := h0
  have lt0 : ∀ x ∈ p0, x.block < W.heap.size := by obtain ⟨m, hm⟩ := k0; exact DataW.trod_lt m _ _ _ hm
  obtain ⟨z0, w0⟩ := open_pres (hval 0 47 v0 rfl rfl) h0
  obtain ⟨a1, rfl, rfl, rfl, w1⟩ := open_int Try.underlying2 (hval 1 2 v1 rfl rfl) h1
  clear hA0 hval0
  refine (fnExactIsNormalTail_walk v0 z0 a1 W w0 w1).mono fun e W' ⟨he, bel⟩ => ?_
  subst he
  exact ⟨_, rfl, _, _, _, [], _, [], hW', trodAll_mk1 (shut_bool Try.underlying4 _), (trodAll_cons_mk (Below.trod laidOut (by kernel_rfl) (of_decide_eq_true (by kernel_rfl)) k0 bel lt0) (trodAll_cons_mk (shut_int Try.underlying2 w1) trodAll_mk0)), rfl, bel.frame _, fun h => by cases h⟩

theorem over : Rows.fnExactIsNormalTailRow.holds Try.pinned (OpenSpec.ofChange Rows.fnExactIsNormalTailSpec) :=
  OpenClaim.holds_of_wide 6 Try.f6 rfl rfl rfl rfl rfl rfl rfl ⟨rfl, rfl, rfl, rfl, rfl⟩ rfl rfl rfl rfl rfl (by kernel_rfl) Try.func6 (by kernel_rfl)
    (of_decide_eq_true (by kernel_rfl)) (by unfold Func.isWrapper; first | (rw [if_pos (by decide +kernel)]; kernel_rfl) | (rw [if_neg (by decide +kernel)]; exact ⟨rfl, rfl⟩))
    (fun os started H enc _ => lifted os started H enc)

theorem proved : Rows.FnExactIsNormalTailSaid := over
#print axioms proved
end Go.Proofs.Ytahmhdpgdhfjnaa.fnExactIsNormalTail
