/- OpL, OpP, L12O, L12P, L13O, L13P, L13Q, L13V, L13W, WHeadPresentation, PHeadPresentation in one. -/
import Derived.Test.YtahmhdpgdhfjnaaKB
import Derived.Test.YtahmhdpgdhfjnaaShPres
import Derived.Test.YtahmhdpgdhfjnaaL12N
import Derived.Test.YtahmhdpgdhfjnaaL12D
import Derived.Test.YtahmhdpgdhfjnaaQHa
import Derived.Test.YtahmhdpgdhfjnaaRows
import Derived.Deep.Slices
import Derived.StillTailTactics
import Derived.Handy
import Derived.Deep.RegionHeld3
import Derived.Deep.DeepCutAuto
import Derived.WalkKit
import Derived.ProofKit
import Derived.OpenShut
import Derived.ShutString
import Derived.ChangeOld
import Derived.Below
namespace Go.Proofs.Ytahmhdpgdhfjnaa
open Go.RowKit Go.ChangeShapes Go.WideShapes Go.ChangeAt
set_option linter.unusedVariables false
set_option linter.unusedSimpArgs false

set_option maxRecDepth 100000 in
/-- What a slice of slices of int64 that came in says. -/
theorem open_lists {H : Type} {enc : TypeId × Value → H} {W : World} {base : Nat} {v : Value} {d : DataW H} {p : List MemPlace}
    (hv : Value.okWide Try.prog W .any base 25 v) (h : DataW.Trod enc Try.prog W 0 (fun _ => true) true 25 v d p) :
    ∃ (A : Option Addr) (cap : Nat) (xss : List (List Int)), v = .slice A xss.length cap ∧ RdII W A xss ∧ (∀ j, j < xss.length → (xss.getD j []).length ≤ maxLen) ∧ xss.length ≤ maxLen := by
  obtain ⟨a0, len0, cap0, rfl⟩ := okWide_slice Try.underlying25 hv
  obtain ⟨fuel, hf⟩ := h
  rcases Go.Deep.open_int_rows Try.underlying25 Try.underlying24 Try.underlying2 (by kernel_rfl) (by kernel_rfl) hf with ⟨hc, _⟩ | ⟨a, len, cap, A, L, C', Z, hc, _, hl, hm, _, hr⟩
  · simp [Value.cells] at hc
    obtain ⟨rfl, rfl, rfl⟩ := hc
    exact ⟨none, 0, [], rfl, fun j hj => by simp at hj, fun j hj => by simp at hj, by simp⟩
  · simp [Value.cells] at hc
    obtain ⟨rfl, rfl, rfl⟩ := hc
    refine ⟨some a, cap0, (List.range len0).map fun r => (Z r).take (L r), by simp, fun j hj => ?_, fun j hj => ?_, by simp; omega⟩
    · have hj' : j < len0 := by simpa using hj
      obtain ⟨h1, h2, h3, h4, h5, h6, h7⟩ := hr j (by omega)
      obtain ⟨b, o, rfl⟩ := plain_of (hr 0 (by omega)).1
      have hcell : W.cell? ⟨b, o + j, none⟩ = some (.slice (A j) (L j) (C' j)) := by rw [← Go.WideShapes.add_plain]; exact h1
      have hg : ((List.range len0).map fun r => (Z r).take (L r)).getD j [] = (Z j).take (L j) := by simp [hj']
      rw [hg]
      have hlen : ((Z j).take (L j)).length = L j := by simp; omega
      rw [hlen]
      refine ⟨b, o, A j, C' j, rfl, World.block_lt_of_cell? W _ hcell, hcell, fun i hi => ?_⟩
      rw [hlen] at hi
      cases hA : A j with
      | none => have := h6 hA; omega
      | some a' =>
        obtain ⟨_, hcc⟩ := h7 a' hA
        have hci := hcc i (by omega)
        obtain ⟨b', o', rfl⟩ := plain_of (hcc 0 (by omega))
        have hcell' : W.cell? ⟨b', o' + i, none⟩ = some (.int .i64 ((Z j).getD i 0)) := by rw [← Go.WideShapes.add_plain]; exact hci
        refine ⟨b', o', rfl, World.block_lt_of_cell? W _ hcell', ?_⟩
        rw [hcell']
        simp [List.getElem?_take, hi]
    · have hj' : j < len0 := by simpa using hj
      obtain ⟨h1, h2, h3, h4, h5, h6, h7⟩ := hr j (by omega)
      have hg : ((List.range len0).map fun r => (Z r).take (L r)).getD j [] = (Z j).take (L j) := by simp [hj']
      rw [hg]
      simp; omega
theorem rdLists_of {w : World} {A : Option Addr} {c : Nat} {xss : List (List Int)} (h : RdII w A xss ∧ (∀ j, j < xss.length → (xss.getD j []).length ≤ maxLen) ∧ xss.length ≤ maxLen) : spII.rd w (.slice A xss.length c) xss := by
  obtain ⟨h1, h2, h3⟩ := h
  refine ⟨A, c, rfl, h3, fun j hj => ?_⟩
  obtain ⟨g, o, B, cB, e, hg, hc, hr⟩ := h1 j hj
  exact ⟨g, o, _, e, hg, hc, B, cB, rfl, h2 j hj, hr⟩
end Go.Proofs.Ytahmhdpgdhfjnaa
namespace Go.Proofs.Ytahmhdpgdhfjnaa
open Go.RowKit Go.ChangeShapes Go.WideShapes Go.ChangeAt
set_option linter.unusedVariables false
set_option linter.unusedSimpArgs false

section
variable {H : Type} {enc : TypeId × Value → H} {W : World}
theorem choose_to {α : Type} {p : Nat → α → Prop} (d : α) {n : Nat} (h : ∀ i, i < n → ∃ x, p i x) : ∃ f : Nat → α, ∀ i, i < n → p i (f i) := by
  classical
  refine ⟨fun i => if hi : i < n then (h i hi).choose else d, fun i hi => ?_⟩
  simp only [hi, dif_pos]
  exact (h i hi).choose_spec
theorem trod_ints {fuel : Nat} {u : Value} {x : DataW H × List MemPlace} (h : DataW.trod enc Try.prog W 0 (fun _ => true) true fuel 24 [u] = some x) : ∃ xs, spI.rd W u xs := by
  rcases open_ints Try.underlying24 Try.underlying2 (by kernel_rfl) h with ⟨hcs, _⟩ | ⟨x, l, c, zs, hcs, _, hl, hm, hz, _, hcell, hwz⟩
  · simp at hcs
    subst hcs
    exact ⟨[], none, 0, rfl, by simp, fun j hj => by simp at hj⟩
  · simp at hcs
    subst hcs
    have hz' : zs.length = c := by simpa using hz
    have hlen : (zs.take l).length = l := by simp; omega
    refine ⟨zs.take l, some x, c, by rw [hlen], by rw [hlen]; omega, fun j hj => ?_⟩
    rw [hlen] at hj
    obtain ⟨b, o, rfl, hc⟩ := ints_at hcell (by omega)
    have h1 := hc j (by omega)
    refine ⟨b, o, rfl, World.block_lt_of_cell? W _ h1, ?_⟩
    rw [h1]
    simp [List.getElem?_take, hj]
theorem trod_list {α : Type} {s : Sp α} {nul : α} {E t e : TypeId} (ht : Try.prog.underlying t = some (.slice e)) (hc : Try.prog.cellsOf e = 1)
    (each : ∀ n u y, DataW.trod enc Try.prog W 0 (fun _ => true) true n e [u] = some y → ∃ x, s.rd W u x) {fuel : Nat} {u : Value} {x : DataW H × List MemPlace}
    (h : DataW.trod enc Try.prog W 0 (fun _ => true) true fuel t [u] = some x) : ∃ xs, (spL E s nul).rd W u xs := by
  rcases Go.Deep.open_slice1 ht hc h with ⟨hcs, _⟩ | ⟨a, len, cap, m, n, V, D, Pl, hcs, _, hl, hm, hmm, _, hx⟩
  · simp at hcs
    subst hcs
    exact ⟨[], none, 0, rfl, by simp, fun j hj => by simp at hj⟩
  · simp at hcs
    subst hcs
    simp only [if_true] at hmm
    have hmm' := hmm.symm
    subst hmm'
    obtain ⟨X, hX⟩ := choose_to (p := fun r y => s.rd W (V r) y) nul (fun r (hr : r < cap) => each _ _ _ (hx r hr).2)
    refine ⟨(List.range len).map X, some a, cap, by simp, by simp; omega, fun j hj => ?_⟩
    have hj' : j < len := by simpa using hj
    obtain ⟨b, o, rfl⟩ := plain_of (hx 0 (by omega)).1
    have hcell : W.cell? ⟨b, o + j, none⟩ = some (V j) := by rw [← Go.WideShapes.add_plain]; exact (hx j (by omega)).1
    refine ⟨b, o, V j, rfl, World.block_lt_of_cell? W _ hcell, hcell, ?_⟩
    have hg : ((List.range len).map X).getD j nul = X j := by simp [hj']
    rw [hg]
    exact hX j (by omega)
set_option maxRecDepth 100000 in
/-- What a presentation by value says. -/
theorem open_pres {base : Nat} {v : Value} {d : DataW H} {p : List MemPlace}
    (hv : Value.okWide Try.prog W .any base 47 v) (h : DataW.Trod enc Try.prog W 0 (fun _ => true) true 47 v d p) : ∃ x : Pres, spPres.rd W v x := by
  obtain ⟨c0, c1, c2, y0, y1, y2, m, rfl, _, _, hy0, hy1, hy2⟩ := Go.Joins.open_agg3 Try.underlying47 (by kernel_rfl) (by kernel_rfl) hv h
  obtain ⟨O, hO⟩ := trod_ints hy0
  obtain ⟨R, hR⟩ := trod_list (s := spI) (nul := []) (E := 24) Try.underlying25 (by kernel_rfl) (fun n u y hh => trod_ints hh) hy1
  obtain ⟨J, hJ⟩ := trod_list (s := spII) (nul := []) (E := 25) Try.underlying26 (by kernel_rfl) (fun n u y hh => trod_list (s := spI) (nul := []) (E := 24) Try.underlying25 (by kernel_rfl) (fun n u y hh => trod_ints hh) hh) hy2
  exact ⟨⟨O, R, J⟩, _, _, _, rfl, hO, hR, hJ⟩
end
end Go.Proofs.Ytahmhdpgdhfjnaa
namespace Go.Proofs.Ytahmhdpgdhfjnaa
open Go.RowKit
set_option linter.unusedVariables false
set_option linter.unusedSimpArgs false

theorem Num.fltA_kind (O : List Int) (W : List (List Int)) (J : List (List (List Int))) (i : Nat) : ((Num.fltA O W J i).k = 0 → Num.fltA O W J i = ⟨0, 0, 0, 0⟩) ∧ ((Num.fltA O W J i).k ≠ 0 → (Num.fltA O W J i).l = i) := by
  unfold Num.fltA Num.fltL
  repeat' split
  all_goals simp
/-- The level at which the tower stops. -/
def Num.levP (O : List Int) (W : List (List Int)) (J : List (List (List Int))) : Int := if (Num.fltP O W J).k = 0 then 0 else (Num.fltP O W J).l + 1
/-- A block of faults is none of a tower's. -/
theorem TwS.notFault {O : List Int} {W : List (List Int)} {J : List (List (List Int))} {t : Tw} {gP : Nat} {ps : List RelV} {w0 : World} {l bd : Nat} {w : World} (h : TwS O W J t gP ps w0 l bd w) {b : Nat} {vs : List Value} (B : Blk w b vs 31) : b ≠ t.tb ∧ b ≠ gP ∧ b ≠ t.bo := by
  obtain ⟨cur, hg⟩ := h.prdHeap
  have hb := h.box
  obtain ⟨Do, _, ⟨es, ck, hm, _⟩⟩ := h.map
  unfold Blk at hb B
  refine ⟨fun e => ?_, fun e => ?_, fun e => ?_⟩
  · rw [e, hb] at B; simp at B
  · rw [e, hg] at B; simp at B
  · rw [e, hm] at B; simp at B
/-- A fault stored into its block. -/
theorem TwS.fault {O : List Int} {W : List (List Int)} {J : List (List (List Int))} {t : Tw} {gP : Nat} {ps : List RelV} {w0 : World} {l bd : Nat} {w : World} (h : TwS O W J t gP ps w0 l bd w) {b : Nat} {p q r v : Value} (B : Blk w b [p, q, r, v] 31) (hb0 : w0.heap.size ≤ b) (x y z u : Value) :
    ∃ w9, (((w.setCell ⟨b, 0, none⟩ x).setCell ⟨b, 1, none⟩ y).setCell ⟨b, 2, none⟩ z).setCell ⟨b, 3, none⟩ u = w9 ∧ Blk w9 b [x, y, z, u] 31 ∧ TwS O W J t gP ps w0 l bd w9 ∧ ChgS (fun k => k = b) w w9 := by
  have hc : ChgS (fun k => k = b) w ((((w.setCell ⟨b, 0, none⟩ x).setCell ⟨b, 1, none⟩ y).setCell ⟨b, 2, none⟩ z).setCell ⟨b, 3, none⟩ u) :=
    (((ChgS.set w ⟨b, 0, none⟩ x).trans (ChgS.set _ ⟨b, 1, none⟩ y)).trans (ChgS.set _ ⟨b, 2, none⟩ z)).trans (ChgS.set _ ⟨b, 3, none⟩ u)
  have hB := B
  unfold Blk at hB
  refine ⟨_, rfl, (((B.set 0 x).set 1 y).set 2 z).set 3 u, h.tag hB hc hb0 (h.notFault B).2.2 (fun _ _ e => by simp at e) (fun _ _ e => by simp at e) (fun _ _ e => by simp at e) (fun _ _ e => by simp at e), hc⟩
theorem chg_four (w : World) (b : Nat) (x y z u : Value) : ChgS (fun k => k = b) w ((((w.setCell ⟨b, 0, none⟩ x).setCell ⟨b, 1, none⟩ y).setCell ⟨b, 2, none⟩ z).setCell ⟨b, 3, none⟩ u) :=
  (((ChgS.set w ⟨b, 0, none⟩ x).trans (ChgS.set _ ⟨b, 1, none⟩ y)).trans (ChgS.set _ ⟨b, 2, none⟩ z)).trans (ChgS.set _ ⟨b, 3, none⟩ u)
/-- What holds at the head of the loop. -/
structure TopS (O : List Int) (W : List (List Int)) (J : List (List (List Int))) (t : Tw) (gP : Nat) (ps : List RelV) (W0 : World) (b3 b5 m : Nat) (f : Num.Flt) (wr : World) : Prop where
  st : TwS O W J t gP ps W0 m 0 wr
  con : Num.Con (Num.tlL O W J m)
  le : m ≤ O.length
  flt : (f.k = 0 ∧ f = ⟨0, 0, 0, 0⟩ ∧ Num.fltF O W J m = Num.fltP O W J) ∨ (f.k ≠ 0 ∧ f = Num.fltP O W J ∧ f.l + 1 = m)
  box : Blk wr b5 [.int .i64 f.k, .int .i64 f.l, .int .i64 f.f, .int .i64 f.s] 31
  res : Blk wr b3 [.int .i64 0, .int .i64 0, .int .i64 0, .int .i64 0] 31
  hb : W0.heap.size ≤ b5
  h3 : b3 < W0.heap.size
set_option maxRecDepth 100000 in
set_option maxHeartbeats 4000000 in
theorem tower_any {A0 A1 A2 : Option Addr} {c0 c1 c2 : Nat} {O : List Int} {W : List (List Int)} {J : List (List (List Int))} (V : Num.Val O W J) (w : World) (hP : RdP A0 A1 A2 O W J w) :
    Calls Try.prog 55 #[prV A0 A1 A2 c0 c1 c2 O] w fun e w' => ∃ tb, e = .returned (.tuple #[.pointer (some ⟨tb, 0, none⟩), fltV (Num.fltP O W J)]) ∧ Below w.heap.size w w' ∧ w'.cell? ⟨tb, 6, none⟩ = some (.int .i64 (Num.levP O W J)) := by
  have n6 := V.n6
  have HV := Lib.hid V
  obtain ⟨W0, hW0⟩ : ∃ X, (w.alloc (.cells #[.slice A0 O.length c0, .slice A1 O.length c1, .slice A2 O.length c2] 28)).alloc (.cells #[.int .i64 0, .int .i64 0, .int .i64 0, .int .i64 0] 31) = X := ⟨_, rfl⟩
  have hz0 : W0.heap.size = w.heap.size + 2 := by rw [← hW0]; simp
  have b0 : Below w.heap.size w W0 := by rw [← hW0]; go_grown
  have BP : Blk W0 w.heap.size [.slice A0 O.length c0, .slice A1 O.length c1, .slice A2 O.length c2] 28 := by rw [← hW0]; exact (Blk.new w [.slice A0 O.length c0, .slice A1 O.length c1, .slice A2 O.length c2] 28).alloc _
  have BF : Blk W0 (w.heap.size + 1) [.int .i64 0, .int .i64 0, .int .i64 0, .int .i64 0] 31 := by
    rw [← hW0]
    have := Blk.new (w.alloc (.cells #[.slice A0 O.length c0, .slice A1 O.length c1, .slice A2 O.length c2] 28)) [.int .i64 0, .int .i64 0, .int .i64 0, .int .i64 0] 31
    simpa using this
  have HT := Lib.hid (trivial_any (c0 := c0) (c1 := c1) (c2 := c2) V W0 ⟨hP.1.below' b0, hP.2.1.below' b0, hP.2.2.below' b0⟩)
  obtain ⟨bl, x0, x1, x2⟩ := BP.c3
  clear BP hP V
  go_enter Try.func55, Try.ntmps55
  go_wp2_with (fail)
  refine HT.out.mono ?_; rintro e w1 ⟨t, gP, ps, rfl, hps, TS⟩
  have BF1 := BF.below TS.bel
  have hz1 := TS.bel.size
  have bA : Below w1.heap.size w1 (w1.alloc (.cells #[.int .i64 0, .int .i64 0, .int .i64 0, .int .i64 0] 31)) := by go_grown
  have TS1 := TS.below bA
  have BN := Blk.new w1 [.int .i64 0, .int .i64 0, .int .i64 0, .int .i64 0] 31
  have HTOP : Hid (TopS O W J t gP ps W0 (w.heap.size + 1) w1.heap.size O.length ⟨0, 0, 0, 0⟩ (w1.alloc (.cells #[.int .i64 0, .int .i64 0, .int .i64 0, .int .i64 0] 31))) := Lib.hid ⟨TS1, Num.Con.end_, Nat.le_refl _, .inl ⟨rfl, rfl, rfl⟩, BN, BF1.below bA, hz1, by omega⟩
  obtain ⟨nl, n0, n1, n2, n3⟩ := BN.c4
  have g0 := BN.free 0
  have g1 := BN.free 1
  have g2 := BN.free 2
  have g3 := BN.free 3
  have HPS := Lib.hid hps
  have hlen : ps.length ≤ 100 := by
    have h := Num.rels_len (Num.shapeB_ok HV.out.lw HV.out.lj (fun i hi => HV.out.lr i (by have := HV.out.lj; omega))) n6
    rw [← hps, List.length_map] at h
    exact h
  clear TS TS1 BN bA BF1 BF hps HT
  go_wp2_with (fail)
  clear n0 n1 n2 n3 g0 g1 g2 g3 nl
  go_loopw [] (fun wr => ∃ (m : Nat) (f : Num.Flt), Hid (TopS O W J t gP ps W0 (w.heap.size + 1) w1.heap.size m f wr)) (fun wr => (intOf ((wr.cell? ⟨t.tb, 6, none⟩).getD undef)).toNat + (if intOf ((wr.cell? ⟨w1.heap.size, 0, none⟩).getD undef) = 0 then 1 else 0))
  case atStart => exact ⟨_, _, HTOP⟩
  case round =>
    obtain ⟨m, f, hT⟩ := hrel
    clear HTOP
    obtain ⟨tl, t0, t1, t2, t3, t4, t5, t6, t7⟩ := hT.out.st.box.c8
    obtain ⟨fk, fl, ff, fs⟩ := f
    obtain ⟨ul, u0, u1, u2, u3⟩ := hT.out.box.c4
    by_cases hgo : 0 < m ∧ fk = 0
    · obtain ⟨hm0, rfl⟩ := hgo
      obtain ⟨i, rfl⟩ : ∃ i, m = i + 1 := ⟨m - 1, by omega⟩
      have i0 : (0 : Int) < ((i + 1 : Nat) : Int) := by omega
      have hle := hT.out.le
      have HCL := Lib.hid (climb_any HV.out i (by omega) hT.out.con t gP ps W0 wr HPS.out hlen hT.out.st)
      have HA := Lib.hid (Num.fltA_kind O W J i)
      have hst := Num.fltF_step (O := O) (W := W) (J := J) (i := i)
      have hfp : Num.fltF O W J (i + 1) = Num.fltP O W J := by
        rcases hT.out.flt with h | h
        · exact h.2.2
        · exact absurd rfl h.1
      rw [hfp] at hst
      have HST := Lib.hid hst
      have HCS : Hid ((Num.fltA O W J i).k = 0 → Num.Con (Num.tlL O W J i)) := Lib.hid fun h => Num.Con.step HV.out (by omega) h hT.out.con
      clear hst hfp
      generalize Num.fltA O W J i = g at *
      obtain ⟨gk, gl, gf, gs⟩ := g
      unfold fltV at HCL
      generalize hmi : ((i + 1 : Nat) : Int) = mi at *
      go_wp2_with (fail)
      refine HCL.out.mono ?_; rintro e w2 ⟨rfl, T2, C2⟩
      have hne := hT.out.st.notFault hT.out.box
      have hne3 := hT.out.st.notFault hT.out.res
      have B2 := hT.out.box.chg C2 (by rintro (h | h | h); exact hne.1 h; exact hne.2.1 h; exact hne.2.2 h)
      have R2 := hT.out.res.chg C2 (by rintro (h | h | h); exact hne3.1 h; exact hne3.2.1 h; exact hne3.2.2 h)
      obtain ⟨w9, e9, B9, T9, C9⟩ := T2.fault B2 hT.out.hb (.int .i64 gk) (.int .i64 gl) (.int .i64 gf) (.int .i64 gs)
      have R9 := R2.chg C9 (fun e => by have := hT.out.hb; have := hT.out.h3; omega)
      have NEW : ∃ (m' : Nat) (f' : Num.Flt), Hid (TopS O W J t gP ps W0 (w.heap.size + 1) w1.heap.size m' f' w9) ∧ m' + (if f'.k = 0 then 1 else 0) < i + 1 + 1 := by
        by_cases hgk : gk = 0
        · have hg0 := HA.out.1 hgk
          rw [if_pos hgk] at T9
          refine ⟨i, ⟨gk, gl, gf, gs⟩, Lib.hid ⟨T9, HCS.out hgk, by omega, .inl ⟨hgk, hg0, ?_⟩, B9, R9, hT.out.hb, hT.out.h3⟩, by split <;> omega⟩
          rw [HST.out, if_pos hgk]
        · have hl := HA.out.2 hgk
          rw [if_neg hgk] at T9
          refine ⟨i + 1, ⟨gk, gl, gf, gs⟩, Lib.hid ⟨T9, hT.out.con, by omega, .inr ⟨hgk, ?_, ?_⟩, B9, R9, hT.out.hb, hT.out.h3⟩, ?_⟩
          · rw [HST.out, if_neg hgk]
          · show gl + 1 = _
            have : gl = (i : Int) := hl
            omega
          · rw [if_neg hgk]
            omega
      have HNEW := Lib.hid NEW
      obtain ⟨vl, v0, v1, v2, v3⟩ := B2.c4
      have g0 := B2.free 0
      have g1 := B2.free 1
      have g2 := B2.free 2
      have g3 := B2.free 3
      clear NEW T9 T2 C2 C9 B9 R9 B2 R2 hne hne3 HCL
      go_wp2_with (fail)
      obtain ⟨m', f', hT', hme⟩ := HNEW.out
      refine ⟨⟨m', f', hT'⟩, ?_⟩
      obtain ⟨-, -, -, -, -, -, -, t6', -⟩ := hT'.out.st.box.c8
      obtain ⟨-, u0', -⟩ := hT'.out.box.c4
      rw [t6', u0', t6, u0]
      by_cases hz : f'.k = 0
      · rw [if_pos hz] at hme
        simp [intOf, hz]
        omega
      · rw [if_neg hz] at hme
        simp [intOf, hz]
        omega
    · have HEX : Hid ((⟨fk, fl, ff, fs⟩ : Num.Flt) = Num.fltP O W J ∧ (m : Int) = Num.levP O W J) := Lib.hid (by
        unfold Num.levP
        rcases hT.out.flt with ⟨h1, h2, h3⟩ | ⟨h1, h2, h3⟩
        · have hm : m = 0 := by
            have h1' : fk = 0 := h1
            omega
          subst hm
          have e : (⟨fk, fl, ff, fs⟩ : Num.Flt) = Num.fltP O W J := by rw [h2, ← h3]; rfl
          refine ⟨e, ?_⟩
          rw [← e, if_pos h1]
          rfl
        · refine ⟨h2, ?_⟩
          rw [← h2, if_neg h1, h3])
      have STD := hT.out.st
      have L : Below w.heap.size w wr := b0.trans (STD.bel.mono b0.size)
      have BFr := hT.out.res
      have hex : ¬ (0 : Int) < (m : Int) ∨ ((0 : Int) < (m : Int) ∧ ¬ fk = 0) := by omega
      have HEX1 := HEX
      clear hT hgo
      generalize hmi : (m : Int) = mi at *
      rcases hex with hm | ⟨hm, hk⟩
      all_goals
        go_wp2_with (fail)
        obtain ⟨w9, e9, B9, L9⟩ := flt_store BFr (.int .i64 fk) (.int .i64 fl) (.int .i64 ff) (.int .i64 fs) (by omega : w.heap.size ≤ w.heap.size + 1) L
        have c9 : w9.cell? ⟨t.tb, 6, none⟩ = some (.int .i64 mi) := by
          have hc := chg_four wr (w.heap.size + 1) (.int .i64 fk) (.int .i64 fl) (.int .i64 ff) (.int .i64 fs)
          rw [e9] at hc
          rw [← hmi]
          exact (STD.box.chg hc (fun e => (STD.notFault BFr).1 e.symm)).cell 6 (by simp)
        obtain ⟨bl9, f0, f1, f2, f3⟩ := BFr.c4
        obtain ⟨bl9', r0, r1, r2, r3⟩ := B9.c4
        have g0 := BFr.free 0
        have g1 := BFr.free 1
        have g2 := BFr.free 2
        have g3 := BFr.free 3
        have HC9 := Lib.hid c9
        have HL9 := Lib.hid L9
        clear B9 BFr STD L L9 c9
        go_region
        all_goals go_wp2_with (fail)
        refine bodyPost_ret (v := .tuple #[.pointer (some ⟨t.tb, 0, none⟩), .agg #[.int .i64 fk, .int .i64 fl, .int .i64 ff, .int .i64 fs]]) (by simp [results, Try.results55, go_sem, bl9', r0, r1, r2, r3]) rfl ?_
        exact ⟨t.tb, by rw [← HEX.out.1]; rfl, HL9.out.drew, by rw [← HEX.out.2]; exact HC9.out⟩
end Go.Proofs.Ytahmhdpgdhfjnaa
namespace Go.Proofs.Ytahmhdpgdhfjnaa
open Go.RowKit
set_option linter.unusedVariables false
set_option linter.unusedSimpArgs false

theorem tower_at {A0 A1 A2 : Option Addr} {c0 c1 c2 : Nat} {w : World} {x0 : Pres} (V : Num.Val x0.O x0.W x0.J) (hr : RdI w A0 x0.O ∧ RdW w A1 x0.W ∧ RdX w A2 x0.J) (W' : World) (hb : Below w.heap.size w W') :
    Calls Try.prog 55 #[.agg #[.slice A0 x0.O.length c0, .slice A1 x0.W.length c1, .slice A2 x0.J.length c2]] W' (fun e w' => ∃ tb, e = .returned (.tuple #[.pointer (some ⟨tb, 0, none⟩), fltV (Num.fltP x0.O x0.W x0.J)]) ∧ Below W'.heap.size W' w' ∧ w'.cell? ⟨tb, 6, none⟩ = some (.int .i64 (Num.levP x0.O x0.W x0.J))) := by
  rw [V.lw, V.lj]
  exact tower_any V W' ⟨hr.1.below' hb, hr.2.1.below' hb, hr.2.2.below' hb⟩
set_option maxHeartbeats 2000000 in
theorem iConsistencyFault_ok (v0 : Value) (x0 : Pres) (w : World) (h0 : PresC w v0 x0) (s0 : spPres.sz x0 ≤ 1048576) : Calls Try.prog 16 #[v0] w (RetF (rConsistencyFault x0) (cConsistencyFault x0) w) := by
  have h1 := h0
  obtain ⟨A0, c0, A1, c1, A2, c2, rfl, hr, -, -, -, -⟩ := h0
  obtain ⟨W0, hW0⟩ : ∃ X, (w.alloc (.cells #[.slice A0 x0.O.length c0, .slice A1 x0.W.length c1, .slice A2 x0.J.length c2] 28)).alloc (.cells #[.int .i64 0, .int .i64 0, .int .i64 0, .int .i64 0] 31) = X := ⟨_, rfl⟩
  have b0 : Below w.heap.size w W0 := by rw [← hW0]; go_grown
  have BX : Blk W0 w.heap.size [.slice A0 x0.O.length c0, .slice A1 x0.W.length c1, .slice A2 x0.J.length c2] 28 := by rw [← hW0]; exact (Blk.new w [.slice A0 x0.O.length c0, .slice A1 x0.W.length c1, .slice A2 x0.J.length c2] 28).alloc _
  have BF : Blk W0 (w.heap.size + 1) [.int .i64 0, .int .i64 0, .int .i64 0, .int .i64 0] 31 := by
    rw [← hW0]
    have := Blk.new (w.alloc (.cells #[.slice A0 x0.O.length c0, .slice A1 x0.W.length c1, .slice A2 x0.J.length c2] 28)) [.int .i64 0, .int .i64 0, .int .i64 0, .int .i64 0] 31
    simpa using this
  have HI := Lib.hid (iIsPres_any _ x0 W0 (h1.below b0))
  obtain ⟨bl, x1, x2, x3⟩ := BX.c3
  cases hk : x0.ok with
  | true =>
    rw [hk] at HI
    have V := Num.Val.of hk
    have HR : Hid (rConsistencyFault x0 = Num.fltP x0.O x0.W x0.J ∧ cConsistencyFault x0 = 0) := Lib.hid ⟨if_pos hk, if_pos hk⟩
    have HC := Lib.hid (tower_at (c0 := c0) (c1 := c1) (c2 := c2) V hr)
    unfold fltV at HC
    generalize Num.levP x0.O x0.W x0.J = lv at *
    generalize Num.fltP x0.O x0.W x0.J = f at *
    obtain ⟨fk, fl, ff, fs⟩ := f
    clear h1 hr hk V
    go_enter Try.func16, Try.ntmps16
    go_wp2_with (fail)
    clear hW0
    refine HI.out.mono ?_; rintro e w2 ⟨rfl, hb2⟩
    have L2 := bstep b0 b0.size hb2
    obtain ⟨bl2, y0, y1, y2⟩ := (BX.below hb2).c3
    have BF2 := BF.below hb2
    have HC2 := Lib.hid (HC.out _ L2)
    clear HC HI hb2 x1 x2 x3
    go_wp2_with (fail)
    refine HC2.out.mono ?_; rintro e w3 ⟨tb, rfl, hb3, -⟩
    have bA : Below w3.heap.size w3 (w3.alloc (.cells #[.int .i64 fk, .int .i64 fl, .int .i64 ff, .int .i64 fs] 31)) := by go_grown
    have L3 : Below w.heap.size w w3 := bstep L2 L2.size hb3
    have BF3 := (BF2.below hb3).below bA
    have BN := Blk.new w3 [.int .i64 fk, .int .i64 fl, .int .i64 ff, .int .i64 fs] 31
    obtain ⟨nl, n0, n1, n2, n3⟩ := BN.c4
    obtain ⟨w9, e9, B9, L9⟩ := flt_store BF3 (.int .i64 fk) (.int .i64 fl) (.int .i64 ff) (.int .i64 fs) (by omega : w.heap.size ≤ w.heap.size + 1) (bstep L3 L3.size bA)
    obtain ⟨bl9, f0, f1, f2, f3⟩ := BF3.c4
    obtain ⟨bl9', r0, r1, r2, r3⟩ := B9.c4
    have g0 := BF3.free 0
    have g1 := BF3.free 1
    have g2 := BF3.free 2
    have g3 := BF3.free 3
    clear HC2 hb3 B9 bA BN BF3 BF2 BF
    go_wp2_with (fail)
    refine bodyPost_ret (v := .tuple #[.agg #[.int .i64 fk, .int .i64 fl, .int .i64 ff, .int .i64 fs], .int .i64 0]) (by simp [results, Try.results16, go_sem, bl9', r0, r1, r2, r3]) rfl ?_
    exact ⟨by rw [HR.out.1, HR.out.2]; rfl, L9⟩
  | false =>
    rw [hk] at HI
    have HR : Hid (rConsistencyFault x0 = ⟨0, 0, 0, 0⟩ ∧ cConsistencyFault x0 = 1) := Lib.hid ⟨if_neg (by rw [hk]; simp), if_neg (by rw [hk]; simp)⟩
    clear h1 hr hk
    go_enter Try.func16, Try.ntmps16
    go_wp2_with (fail)
    clear hW0
    refine HI.out.mono ?_; rintro e w2 ⟨rfl, hb2⟩
    have L2 := bstep b0 b0.size hb2
    have BF2 := BF.below hb2
    obtain ⟨w9, e9, B9, L9⟩ := flt_store BF2 (.int .i64 0) (.int .i64 0) (.int .i64 0) (.int .i64 0) (by omega : w.heap.size ≤ w.heap.size + 1) L2
    obtain ⟨bl9, f0, f1, f2, f3⟩ := BF2.c4
    obtain ⟨bl9', r0, r1, r2, r3⟩ := B9.c4
    have g0 := BF2.free 0
    have g1 := BF2.free 1
    have g2 := BF2.free 2
    have g3 := BF2.free 3
    clear hb2 B9 x1 x2 x3
    go_wp2_with (fail)
    refine bodyPost_ret (v := .tuple #[.agg #[.int .i64 0, .int .i64 0, .int .i64 0, .int .i64 0], .int .i64 1]) (by simp [results, Try.results16, go_sem, bl9', r0, r1, r2, r3]) rfl ?_
    exact ⟨by rw [HR.out.1, HR.out.2]; rfl, L9⟩
set_option maxHeartbeats 2000000 in
theorem iConsistentFrom_ok (v0 : Value) (x0 : Pres) (w : World) (h0 : PresC w v0 x0) (s0 : spPres.sz x0 ≤ 1048576) : Calls Try.prog 18 #[v0] w (RetI (rConsistentFrom x0) (cConsistentFrom x0) w) := by
  have h1 := h0
  obtain ⟨A0, c0, A1, c1, A2, c2, rfl, hr, -, -, -, -⟩ := h0
  have b0 : Below w.heap.size w (w.alloc (.cells #[.slice A0 x0.O.length c0, .slice A1 x0.W.length c1, .slice A2 x0.J.length c2] 28)) := by go_grown
  have BX := (Blk.new w [.slice A0 x0.O.length c0, .slice A1 x0.W.length c1, .slice A2 x0.J.length c2] 28)
  have HI := Lib.hid (iIsPres_any _ x0 _ (h1.below b0))
  cases hk : x0.ok with
  | true =>
    rw [hk] at HI
    have V := Num.Val.of hk
    have HR : Hid (rConsistentFrom x0 = Num.levP x0.O x0.W x0.J ∧ cConsistentFrom x0 = 0) := Lib.hid ⟨if_pos hk, if_pos hk⟩
    have HC := Lib.hid (tower_at (c0 := c0) (c1 := c1) (c2 := c2) V hr)
    unfold fltV at HC
    generalize Num.levP x0.O x0.W x0.J = lv at *
    generalize Num.fltP x0.O x0.W x0.J = f at *
    obtain ⟨fk, fl, ff, fs⟩ := f
    clear h1 hr hk V
    go_enter Try.func18, Try.ntmps18
    go_wp2_with (fail)
    refine HI.out.mono ?_; rintro e w2 ⟨rfl, hb2⟩
    have L2 := bstep b0 b0.size hb2
    obtain ⟨bl, y0, y1, y2⟩ := (BX.below hb2).c3
    have HC2 := Lib.hid (HC.out _ L2)
    clear HC HI hb2 BX
    go_wp2_with (fail)
    refine HC2.out.mono ?_; rintro e w3 ⟨tb, rfl, hb3, hcell⟩
    have L3 : Below w.heap.size w w3 := bstep L2 L2.size hb3
    have L4 : Below w.heap.size w (w3.alloc (.cells #[.int .i64 fk, .int .i64 fl, .int .i64 ff, .int .i64 fs] 31)) := L3.alloc L3.size _
    have h6 : (w3.alloc (.cells #[.int .i64 fk, .int .i64 fl, .int .i64 ff, .int .i64 fs] 31)).cell? ⟨tb, 6, none⟩ = some (.int .i64 lv) := by
      rw [World.cell?_alloc_lt _ _ _ (World.block_lt_of_cell? _ _ hcell)]
      exact hcell
    have BN := Blk.new w3 [.int .i64 fk, .int .i64 fl, .int .i64 ff, .int .i64 fs] 31
    obtain ⟨nl, n0, n1, n2, n3⟩ := BN.c4
    clear HC2 hb3 hcell BN
    go_wp2_with (fail)
    go_ret2
    rw [HR.out.1, HR.out.2]
    exact ⟨rfl, L4⟩
  | false =>
    rw [hk] at HI
    have HR2 : Hid (rConsistentFrom x0 = 0 ∧ cConsistentFrom x0 = 1) := Lib.hid ⟨if_neg (by rw [hk]; simp), if_neg (by rw [hk]; simp)⟩
    clear h1 hr hk
    go_enter Try.func18, Try.ntmps18
    go_wp2_with (fail)
    refine HI.out.mono ?_; rintro e w2 ⟨rfl, hb2⟩
    go_wp2_with (fail)
    go_ret2
    rw [HR2.out.1, HR2.out.2]
    exact ⟨rfl, bstep b0 b0.size hb2⟩
set_option maxHeartbeats 2000000 in
theorem iIsConsistent_ok (v0 : Value) (x0 : Pres) (w : World) (h0 : PresC w v0 x0) (s0 : spPres.sz x0 ≤ 1048576) : Calls Try.prog 19 #[v0] w (RetB (rIsConsistent x0) w) := by
  have h1 := h0
  obtain ⟨A0, c0, A1, c1, A2, c2, rfl, hr, -, -, -, -⟩ := h0
  have b0 : Below w.heap.size w (w.alloc (.cells #[.slice A0 x0.O.length c0, .slice A1 x0.W.length c1, .slice A2 x0.J.length c2] 28)) := by go_grown
  have HI := Lib.hid (iConsistencyFault_ok _ x0 _ (h1.below b0) s0)
  have HR : Hid (rIsConsistent x0 = (decide ((rConsistencyFault x0).k = 0) && decide (cConsistencyFault x0 = 0))) := Lib.hid (by
    unfold rIsConsistent Pres.con rConsistencyFault cConsistencyFault
    cases hk : x0.ok <;> simp)
  unfold RetF fltV at HI
  generalize rConsistencyFault x0 = f at *
  generalize cConsistencyFault x0 = c at *
  obtain ⟨fk, fl, ff, fs⟩ := f
  clear h1 hr
  go_enter Try.func19, Try.ntmps19
  go_wp2_with (fail)
  refine HI.out.mono ?_; rintro e w2 ⟨rfl, hb2⟩
  have L2 := bstep b0 b0.size hb2
  have BN := Blk.new w2 [.int .i64 fk, .int .i64 fl, .int .i64 ff, .int .i64 fs] 31
  have L4 : Below w.heap.size w (w2.alloc (.cells #[.int .i64 fk, .int .i64 fl, .int .i64 ff, .int .i64 fs] 31)) := L2.alloc L2.size _
  obtain ⟨nl, n0, n1, n2, n3⟩ := BN.c4
  clear HI hb2 BN
  by_cases hk : fk = 0
  · subst hk
    by_cases hc : c = 0
    · subst hc
      go_wp2_with (fail)
      go_ret
      exact ⟨by rw [HR.out]; simp, L4⟩
    · have hcb : (c == 0) = false := by simp [hc]
      go_wp2_with (fail)
      go_ret
      exact ⟨by rw [HR.out]; simp [hc], L4⟩
  · have hkb : (fk == 0) = false := by simp [hk]
    go_wp2_with (fail)
    go_ret
    exact ⟨by rw [HR.out]; simp [hk], L4⟩
end Go.Proofs.Ytahmhdpgdhfjnaa
namespace Go.Proofs.Ytahmhdpgdhfjnaa
open Go.RowKit
set_option linter.unusedVariables false
set_option linter.unusedSimpArgs false

def Num.norB (O : List Int) (J : List (List (List Int))) (i : Nat) : Bool := decide (∀ h, h < i → ∀ j, j < O.length → i ≤ j → Num.nzB ((((J.getD h []).getD (j - h - 1) [])).take i) = false)
/-- The code of a group and an index of a tail. -/
def Pres.tlC (p : Pres) (i : Int) : Int := if p.con = false then 1 else if 0 ≤ i ∧ i ≤ (p.O.length : Int) then 0 else 2
def rIsNormalTail (p : Pres) (i : Int) : Bool := if p.tlC i = 0 then Num.norB p.O p.J i.toNat else false
def cIsNormalTail (p : Pres) (i : Int) : Int := p.tlC i
theorem Pres.tlC_bad {p : Pres} {i : Int} (h : p.con = false) : p.tlC i = 1 := if_pos h
theorem Pres.tlC_ok {p : Pres} {i : Int} (h : p.con = true) (h' : 0 ≤ i ∧ i ≤ (p.O.length : Int)) : p.tlC i = 0 := by unfold Pres.tlC; rw [if_neg (by rw [h]; simp), if_pos h']
theorem Pres.tlC_out {p : Pres} {i : Int} (h : p.con = true) (h' : ¬ (0 ≤ i ∧ i ≤ (p.O.length : Int))) : p.tlC i = 2 := by unfold Pres.tlC; rw [if_neg (by rw [h]; simp), if_neg h']
theorem Pres.con_ok {p : Pres} (h : p.con = true) : p.ok = true := by unfold Pres.con at h; rw [Bool.and_eq_true] at h; exact h.1
/-- The relations tell it. -/
theorem Num.nor_rels {O : List Int} {W : List (List Int)} {J : List (List (List Int))} (hs : Num.shapeB O W J = true) {i : Nat} (hi : i ≤ O.length) :
    (∀ q ∈ Num.rels O W J, ¬ (q.b < (i : Int) ∧ (i : Int) ≤ q.g ∧ Num.nzB (q.x.take i) = true)) ↔ Num.norB O J i = true := by
  obtain ⟨e1, e2, e3⟩ := Num.shapeB_out hs
  unfold Num.norB
  rw [decide_eq_true_eq]
  refine ⟨fun h a ha j hj2 hj1 => ?_, fun h q hq ⟨h1, h2, h3⟩ => ?_⟩
  · have hl := e3 a (by omega)
    have := h _ (Num.rels_mem.mpr (.inr ⟨a, j - a - 1, by omega, by omega, rfl⟩))
    cases hv : Num.nzB (((J.getD a []).getD (j - a - 1) []).take i) with
    | false => rfl
    | true => exact absurd ⟨by show (a : Int) < (i : Int); omega, by show (i : Int) ≤ (a : Int) + 1 + ((j - a - 1 : Nat) : Int); omega, hv⟩ this
  · rcases Num.rels_mem.mp hq with ⟨a, ha, rfl⟩ | ⟨a, k, ha, hk, rfl⟩
    · simp only at h1 h2
      omega
    · simp only at h1 h2 h3
      have hl := e3 a (by omega)
      have := h a (by omega) (a + 1 + k) (by omega) (by omega)
      rw [show a + 1 + k - a - 1 = k by omega] at this
      rw [this] at h3
      cases h3
theorem zeroBefore_any (A : Option Addr) (c : Nat) (x : List Int) (i : Nat) (w : World) (h : RdI w A x) (hc : x.length ≤ c) (hi : i ≤ x.length) (hl : x.length ≤ 1000) :
    Calls Try.prog 85 #[.slice A x.length c, .int .i64 (i : Int)] w fun e w' => e = .returned (.bool (!Num.nzB (x.take i))) ∧ w = w' := by
  have lt : (x.take i).length = i := by rw [List.length_take]; omega
  have HC : Hid (Calls Try.prog 125 #[.slice A i c, .func (.func 126) #[] #[]] w fun e w' => e = .returned (.bool (Num.nzB (x.take i))) ∧ w = w') := Lib.hid (by
    have := nz_contains A c (x.take i) w (rdI_takeZ h i) (by omega)
    rwa [lt] at this)
  have i0 : (0 : Int) ≤ (i : Int) := by omega
  have i1 : (i : Int) ≤ (x.length : Int) := by omega
  have i2 : (i : Int) ≤ (c : Int) := by omega
  clear h lt
  generalize Num.nzB (x.take i) = b at *
  go_enter Try.func85, Try.ntmps85
  go_wp2_with (fail)
  refine HC.out.mono ?_; rintro e w' ⟨rfl, rfl⟩
  go_wp2_with (fail)
  go_ret
  exact ⟨rfl, rfl⟩
theorem isTailIndex_any (A0 : Option Addr) (c0 n : Nat) (v1 v2 : Value) (i : Int) (w : World) (f1 : v1.oneCell' = true) (f2 : v2.oneCell' = true) (A1 A2 : Option Addr) (n1 c1 n2 c2 : Nat) (e1 : v1 = .slice A1 n1 c1) (e2 : v2 = .slice A2 n2 c2) :
    Calls Try.prog 58 #[.agg #[.slice A0 n c0, v1, v2], .int .i64 i] w fun e w' => e = .returned (.bool (decide (0 ≤ i ∧ i ≤ (n : Int)))) ∧ Below w.heap.size w w' := by
  subst e1 e2
  have b0 : Below w.heap.size w (w.alloc (.cells #[.slice A0 n c0, .slice A1 n1 c1, .slice A2 n2 c2] 28)) := by go_grown
  obtain ⟨bl, x0, x1, x2⟩ := (Blk.new w [.slice A0 n c0, .slice A1 n1 c1, .slice A2 n2 c2] 28).c3
  by_cases h1 : 0 ≤ i
  · by_cases h2 : i ≤ (n : Int)
    · have HF : Hid (decide (0 ≤ i ∧ i ≤ (n : Int)) = true) := Lib.hid (decide_eq_true ⟨h1, h2⟩)
      go_enter Try.func58, Try.ntmps58
      go_wp2_with (fail)
      go_ret
      exact ⟨by first | rfl | exact ret_b HF.out.symm, b0⟩
    · have HF : Hid (decide (0 ≤ i ∧ i ≤ (n : Int)) = false) := Lib.hid (decide_eq_false fun h => h2 h.2)
      have h2' : decide (i ≤ (n : Int)) = false := decide_eq_false h2
      go_enter Try.func58, Try.ntmps58
      go_wp2_with (fail)
      go_ret
      exact ⟨by first | rfl | exact ret_b HF.out.symm, b0⟩
  · have HF : Hid (decide (0 ≤ i ∧ i ≤ (n : Int)) = false) := Lib.hid (decide_eq_false fun h => h1 h.1)
    have h2' : decide (0 ≤ i) = false := decide_eq_false h1
    go_enter Try.func58, Try.ntmps58
    go_wp2_with (fail)
    go_ret
    exact ⟨by first | rfl | exact ret_b HF.out.symm, b0⟩
end Go.Proofs.Ytahmhdpgdhfjnaa
namespace Go.Proofs.Ytahmhdpgdhfjnaa
open Go.RowKit
set_option linter.unusedVariables false
set_option linter.unusedSimpArgs false

theorem con_eq (p : Pres) : rIsConsistent p = p.con := rfl
set_option maxRecDepth 100000 in
set_option maxHeartbeats 4000000 in
theorem iIsNormalTail_ok (v0 : Value) (p : Pres) (I : Int) (w : World) (h0 : PresK w v0 p) (s0 : spPres.sz p ≤ 1048576) : Calls Try.prog 34 #[v0, .int .i64 I] w (RetBC (rIsNormalTail p I) (cIsNormalTail p I) w) := by
  obtain ⟨O, W, J⟩ := p
  have h0' := h0
  obtain ⟨A0, c0, A1, c1, A2, c2, rfl, ⟨hO, hW, hJ⟩, m0, m1, m2, hc0⟩ := h0
  replace hO : RdI w A0 O := hO
  replace hW : RdWK w A1 W := hW
  replace hJ : RdXM w A2 J := hJ
  simp only at h0' m0 ⊢
  have b0 : Below w.heap.size w (w.alloc (.cells #[.slice A0 O.length c0, .slice A1 W.length c1, .slice A2 J.length c2] 28)) := by go_grown
  have BX := (Blk.new w [.slice A0 O.length c0, .slice A1 W.length c1, .slice A2 J.length c2] 28)
  have HI := Lib.hid (iIsConsistent_ok _ ⟨O, W, J⟩ _ (h0'.c.below b0) s0)
  rw [con_eq] at HI
  have HT : Hid (∀ W', Calls Try.prog 58 #[.agg #[.slice A0 O.length c0, .slice A1 W.length c1, .slice A2 J.length c2], .int .i64 I] W' fun e w' => e = .returned (.bool (decide (0 ≤ I ∧ I ≤ (O.length : Int)))) ∧ Below W'.heap.size W' w') := Lib.hid fun W' => isTailIndex_any A0 c0 O.length _ _ I W' rfl rfl A1 A2 _ c1 _ c2 rfl rfl
  generalize hW0 : (w.alloc (.cells #[.slice A0 O.length c0, .slice A1 W.length c1, .slice A2 J.length c2] 28)) = W0 at *
  obtain ⟨bl, x0, x1, x2⟩ := BX.c3
  unfold RetB at HI
  cases hk : Pres.con ⟨O, W, J⟩ with
  | true =>
    rw [hk] at HI
    have hok := Pres.con_ok hk
    have hpre : Num.preB O W J = true := hok
    obtain ⟨p1, p2⟩ := Num.preB_shape hpre
    have h6 := (Num.ordC_zero p1).1
    by_cases hI : 0 ≤ I ∧ I ≤ (O.length : Int)
    · have hc := Pres.tlC_ok hk hI
      obtain ⟨i, rfl⟩ := Int.eq_ofNat_of_zero_le hI.1
      have hin : i ≤ O.length := by omega
      have HR : Hid (rIsNormalTail ⟨O, W, J⟩ (i : Int) = Num.norB O J i ∧ cIsNormalTail ⟨O, W, J⟩ (i : Int) = 0) := Lib.hid ⟨if_pos hc, hc⟩
      have HNR := Lib.hid (Num.nor_rels (W := W) p2 hin)
      have HLR := Lib.hid (Num.rels_len p2 h6)
      have HRO := Lib.hid (Num.rels_ok hpre)
      have HRX : Hid (∀ q, q ∈ Num.rels O W J → q.x.length = O.length) := Lib.hid fun q hq => by
        obtain ⟨-, e2, e3, e4, e5⟩ := Num.preB_out hpre
        rcases Num.rels_mem.mp hq with ⟨j, hj, rfl⟩ | ⟨j, k, hj, hk, rfl⟩
        · exact (Num.fitB_out (e4 j hj)).1
        · obtain ⟨-, c2⟩ := Num.conB_out (e5 j hj)
          exact (Num.fitB_out (c2 k hk)).1
      have HRL : Hid (∀ W', Below w.heap.size w W' → _) := Lib.hid fun W' hb => relationsOfK_any A0 A1 A2 c0 c1 c2 O W J W' (hO.below' hb) (hW.below' hb) (hJ.k.below' hb) h6 p2
      rw [decide_eq_true hI] at HT
      clear hO hW hJ hok hpre p1 p2 hk hI hc h0'
      generalize Num.rels O W J = qs at *
      generalize Num.norB O J i = res at *
      go_enter Try.func34, Try.ntmps34
      go_wp2_with (fail)
      clear hW0
      refine HI.out.mono ?_; rintro e w1 ⟨rfl, hb1⟩
      have L1 := bstep b0 b0.size hb1
      have BX1 := BX.below hb1
      obtain ⟨bl1, y0, y1, y2⟩ := BX1.c3
      clear HI x0 x1 x2
      go_wp2_with (fail)
      refine (HT.out w1).mono ?_; rintro e w2 ⟨rfl, hb2⟩
      have L2 := bstep L1 L1.size hb2
      obtain ⟨bl2, z0, z1, z2⟩ := (BX1.below hb2).c3
      have HC2 := Lib.hid (HRL.out w2 L2)
      clear HT HRL y0 y1 y2
      go_wp2_with (fail)
      refine HC2.out.mono ?_; rintro e w3 ⟨v, rfl, ⟨ps, hps, hpm, hrd⟩, hb3⟩
      have L3 := bstep L2 L2.size hb3
      have hpl : ps.length ≤ 100 := by have h1 := congrArg List.length hpm; rw [List.length_map] at h1; have := HLR.out; omega
      obtain ⟨AP, cP, rfl, -⟩ := hps.form
      have HPS := Lib.hid hps
      have HRD : Hid (∀ j, (hj : j < ps.length) → RelRdK w3 ps[j] ∧ ps[j].2 ∈ qs) := Lib.hid fun j hj => ⟨by obtain ⟨A, c, k1, k2, k3⟩ := hrd _ (List.getElem_mem hj); exact ⟨A, c, k1, ⟨k2.1.below' hb3, k2.2⟩, k3⟩, by rw [← hpm]; exact List.mem_map_of_mem (List.getElem_mem hj)⟩
      have HEND : Hid ((∀ j, (hj : j < ps.length) → ¬ (ps[j].2.b < (i : Int) ∧ (i : Int) ≤ ps[j].2.g ∧ Num.nzB (ps[j].2.x.take i) = true)) → res = true) := Lib.hid fun h => HNR.out.mp fun q hq => by
        rw [← hpm] at hq
        obtain ⟨p, hp, rfl⟩ := List.mem_map.mp hq
        obtain ⟨j, hj, rfl⟩ := List.getElem_of_mem hp
        exact h j hj
      have HBAD : Hid (∀ j, (hj : j < ps.length) → (ps[j].2.b < (i : Int) ∧ (i : Int) ≤ ps[j].2.g ∧ Num.nzB (ps[j].2.x.take i) = true) → res = false) := Lib.hid fun j hj h => by
        cases hr : res with
        | false => rfl
        | true => exact absurd h (HNR.out.mpr hr _ (HRD.out j hj).2)
      clear HC2 hps hpm hrd hb3 z0 z1 z2 HLR HNR
      go_wp2_with (fail)
      go_loopw [20] (fun s wr => ∃ j : Nat, s = .int .i64 j ∧ j ≤ ps.length ∧ Hid (∀ k, (hk : k < ps.length) → k < j → ¬ (ps[k].2.b < (i : Int) ∧ (i : Int) ≤ ps[k].2.g ∧ Num.nzB (ps[k].2.x.take i) = true)) ∧ Below w3.heap.size w3 wr) (fun s _ => ps.length - (intOf s).toNat)
      case atStart => exact ⟨0, rfl, by omega, Lib.hid (fun k hk hlt => by omega), Below.refl _ _⟩
      case round =>
        obtain ⟨j, rfl, hj, hf, bel⟩ := hrel
        by_cases hlt : j < ps.length
        · obtain ⟨g, rfl, hgb, hgl, k0, k1, k2, k3⟩ := HPS.out.at_ hlt
          obtain ⟨⟨B, d, hu, ⟨hr, hrc⟩, hlx⟩, hm⟩ := HRD.out j hlt
          have hxl := HRX.out _ hm
          obtain ⟨-, -, ⟨a, b, e1, e2, e3, e4⟩, -, -⟩ := HRO.out _ hm
          have j0 : (0 : Int) ≤ (j : Int) := by omega
          have j1 : (j : Int) < (ps.length : Int) := by omega
          rw [hu] at k0
          have HNX : Hid (¬ (ps[j].2.b < (i : Int) ∧ (i : Int) ≤ ps[j].2.g ∧ Num.nzB (ps[j].2.x.take i) = true) → ∀ k, (hk : k < ps.length) → k < j + 1 → ¬ (ps[k].2.b < (i : Int) ∧ (i : Int) ≤ ps[k].2.g ∧ Num.nzB (ps[k].2.x.take i) = true)) := Lib.hid fun h k hk hkj => by
            rcases Nat.lt_succ_iff_lt_or_eq.mp hkj with h1 | rfl
            · exact hf.out k hk h1
            · exact h
          have HB2 := Lib.hid (HBAD.out j hlt)
          have HR9 := Lib.hid hr
          clear hu hr hm hf
          generalize hq : ps[j].2 = q at *
          clear hq
          obtain ⟨qx, qg, qb, qo⟩ := q
          simp only at k0 k1 k2 k3 hxl HNX HB2 HR9 e1 e2 hlx hrc
          subst e1 e2
          have y0 : wr.cell? ⟨g, j * 4, none⟩ = some (.slice B qx.length d) := by rw [bel.cell hgl]; exact k0
          have y1 : wr.cell? ⟨g, j * 4 + 1, none⟩ = some (.int .i64 (b : Int)) := by rw [bel.cell hgl]; exact k1
          have y2 : wr.cell? ⟨g, j * 4 + 2, none⟩ = some (.int .i64 (a : Int)) := by rw [bel.cell hgl]; exact k2
          have y3 : wr.cell? ⟨g, j * 4 + 3, none⟩ = some (.int .i64 qo) := by rw [bel.cell hgl]; exact k3
          have BW : Below wr.heap.size wr (wr.alloc (.cells #[.slice B qx.length d, .int .i64 (b : Int), .int .i64 (a : Int), .int .i64 qo] 85)) := by go_grown
          have LW := bstep bel bel.size BW
          have HZ := Lib.hid (zeroBefore_any B d qx i (wr.alloc (.cells #[.slice B qx.length d, .int .i64 (b : Int), .int .i64 (a : Int), .int .i64 qo] 85)) (HR9.out.below' LW) hrc (by omega) (by omega))
          clear k0 k1 k2 k3 hxl
          by_cases ha : (a : Int) < (i : Int)
          · have t1 : decide ((a : Int) < (i : Int)) = true := decide_eq_true ha
            have t1n : decide (a < i) = true := decide_eq_true (by omega)
            by_cases hb : (i : Int) ≤ (b : Int)
            · have t2 : decide ((i : Int) ≤ (b : Int)) = true := decide_eq_true hb
              have t2n : decide (i ≤ b) = true := decide_eq_true (by omega)
              cases hz : Num.nzB (qx.take i) with
              | true =>
                rw [hz] at HZ
                have HF : Hid (res = false) := Lib.hid (HB2.out ⟨ha, hb, hz⟩)
                clear hz HNX
                go_wp2_with (fail)
                refine HZ.out.mono ?_; rintro e w5 ⟨rfl, rfl⟩
                go_wp2_with (fail)
                go_ret2
                rw [HR.out.1, HR.out.2, HF.out]
                exact ⟨rfl, bstep L3 L3.size LW⟩
              | false =>
                rw [hz] at HZ
                have HN := Lib.hid (HNX.out (fun h => by rw [hz] at h; exact absurd h.2.2 (by simp)))
                clear hz HNX
                go_wp2_with (fail)
                refine HZ.out.mono ?_; rintro e w5 ⟨rfl, rfl⟩
                go_wp2_with (fail)
                exact ⟨⟨j + 1, by go_num, by omega, HN, LW⟩, by simp [intOf]; omega⟩
            · have t2 : decide ((i : Int) ≤ (b : Int)) = false := decide_eq_false hb
              have t2n : decide (i ≤ b) = false := decide_eq_false (by omega)
              have HN := Lib.hid (HNX.out (fun h => hb h.2.1))
              clear HNX
              go_wp2_with (fail)
              exact ⟨⟨j + 1, by go_num, by omega, HN, LW⟩, by simp [intOf]; omega⟩
          · have t1 : decide ((a : Int) < (i : Int)) = false := decide_eq_false ha
            have t1n : decide (a < i) = false := decide_eq_false (by omega)
            have HN := Lib.hid (HNX.out (fun h => ha h.1))
            clear HNX
            go_wp2_with (fail)
            exact ⟨⟨j + 1, by go_num, by omega, HN, LW⟩, by simp [intOf]; omega⟩
        · have hge : ¬ ((j : Int) < (ps.length : Int)) := by omega
          have HF : Hid (res = true) := Lib.hid (HEND.out fun k hk => hf.out k hk (by omega))
          clear hf
          go_wp2_with (fail)
          go_ret2
          rw [HR.out.1, HR.out.2, HF.out]
          exact ⟨rfl, bstep L3 L3.size bel⟩
    · have hc := Pres.tlC_out hk hI
      have HR : Hid (rIsNormalTail ⟨O, W, J⟩ I = false ∧ cIsNormalTail ⟨O, W, J⟩ I = 2) := Lib.hid ⟨by unfold rIsNormalTail; rw [if_neg (by rw [hc]; omega)], hc⟩
      rw [decide_eq_false hI] at HT
      clear hO hW hJ hok hpre p1 p2 hk hI hc h0'
      go_enter Try.func34, Try.ntmps34
      go_wp2_with (fail)
      clear hW0
      refine HI.out.mono ?_; rintro e w1 ⟨rfl, hb1⟩
      have L1 := bstep b0 b0.size hb1
      obtain ⟨bl1, y0, y1, y2⟩ := (BX.below hb1).c3
      clear HI x0 x1 x2
      go_wp2_with (fail)
      refine (HT.out w1).mono ?_; rintro e w2 ⟨rfl, hb2⟩
      go_wp2_with (fail)
      go_ret2
      rw [HR.out.1, HR.out.2]
      exact ⟨rfl, bstep L1 L1.size hb2⟩
  | false =>
    rw [hk] at HI
    have hc := Pres.tlC_bad (i := I) hk
    have HR : Hid (rIsNormalTail ⟨O, W, J⟩ I = false ∧ cIsNormalTail ⟨O, W, J⟩ I = 1) := Lib.hid ⟨by unfold rIsNormalTail; rw [if_neg (by rw [hc]; omega)], hc⟩
    clear hO hW hJ hk hc h0'
    go_enter Try.func34, Try.ntmps34
    go_wp2_with (fail)
    clear hW0
    refine HI.out.mono ?_; rintro e w1 ⟨rfl, hb1⟩
    go_wp2_with (fail)
    go_ret2
    rw [HR.out.1, HR.out.2]
    exact ⟨rfl, bstep b0 b0.size hb1⟩
end Go.Proofs.Ytahmhdpgdhfjnaa
namespace Go.Proofs.Ytahmhdpgdhfjnaa
open Go.RowKit
set_option linter.unusedVariables false
set_option linter.unusedSimpArgs false

theorem sZero9_any (A : Option Addr) (c : Nat) (x : List Int) (w : World) (h : RdI w A x) (hl : x.length ≤ 100000) :
    Calls Try.prog 124 #[.slice A x.length c] w fun e w' => e = .returned (.bool (!Num.nzB x)) ∧ w = w' := by
  have HY : Hid ((∀ j, j < x.length → x.getD j 0 = 0) → Num.nzB x = false) := Lib.hid fun h => decide_eq_false fun ⟨j, hj, hne⟩ => hne (h j hj)
  have HN : Hid (∀ j, j < x.length → x.getD j 0 ≠ 0 → Num.nzB x = true) := Lib.hid fun j hj hne => decide_eq_true ⟨j, hj, hne⟩
  generalize Num.nzB x = b at *
  go_enter Try.func124, Try.ntmps124
  go_wp2_with (fail)
  go_loopw [3] (fun s wr => ∃ k : Nat, s = .int .i64 k ∧ k ≤ x.length ∧ Hid (∀ j, j < k → x.getD j 0 = 0) ∧ w = wr) (fun s _ => x.length - (intOf s).toNat)
  case atStart => exact ⟨0, rfl, by omega, Lib.hid (fun j hj => by omega), rfl⟩
  case round =>
    obtain ⟨k, rfl, hk, hf, rfl⟩ := hrel
    by_cases hlt : k < x.length
    · obtain ⟨g, o, rfl, hg, hc⟩ := h k hlt
      have i0 : (0 : Int) ≤ (k : Int) := by omega
      have i1 : (k : Int) < (x.length : Int) := by omega
      by_cases hz : x.getD k 0 = 0
      · have T1 : (x.getD k 0 != 0) = false := by simpa using hz
        have HF : Hid (∀ j, j < k + 1 → x.getD j 0 = 0) := Lib.hid fun j hj => by
          rcases Nat.lt_succ_iff_lt_or_eq.mp hj with h1 | rfl
          · exact hf.out j h1
          · exact hz
        clear hf hz
        generalize x.getD k 0 = y at *
        go_wp2_with (fail)
        exact ⟨⟨k + 1, by go_num, by omega, HF, by first | rfl | trivial⟩, by simp [intOf]; omega⟩
      · have T1 : (x.getD k 0 != 0) = true := by simpa using hz
        have HB := Lib.hid (HN.out k hlt hz)
        clear hf hz
        generalize x.getD k 0 = y at *
        go_wp2_with (fail)
        go_ret
        exact ⟨by rw [HB.out]; rfl, rfl⟩
    · have hge : ¬ ((k : Int) < (x.length : Int)) := by omega
      obtain rfl : k = x.length := by omega
      have HB := Lib.hid (HY.out hf.out)
      go_wp2_with (fail)
      go_ret
      exact ⟨by rw [HB.out]; rfl, rfl⟩
set_option maxRecDepth 100000 in
set_option maxHeartbeats 2000000 in
theorem sNormal_any (A0 A1 A2 : Option Addr) (c0 c1 c2 : Nat) (O : List Int) (W : List (List Int)) (J : List (List (List Int))) (i : Nat) (w : World) (hO : RdI w A0 O) (hJ : RdXM w A2 J) (hpre : Num.preB O W J = true) (hi : i ≤ O.length) :
    Calls Try.prog 84 #[.agg #[.slice A0 O.length c0, .slice A1 W.length c1, .slice A2 J.length c2], .int .i64 (i : Int)] w fun e w' => e = .returned (.bool (Num.norB O J i)) ∧ Below w.heap.size w w' := by
  obtain ⟨p1, p2⟩ := Num.preB_shape hpre
  have h6 := (Num.ordC_zero p1).1
  obtain ⟨e1, e2, e3⟩ := Num.shapeB_out p2
  obtain ⟨-, -, -, -, e5⟩ := Num.preB_out hpre
  have b0 : Below w.heap.size w (w.alloc (.cells #[.slice A0 O.length c0, .slice A1 W.length c1, .slice A2 J.length c2] 28)) := by go_grown
  obtain ⟨bl, x0, x1, x2⟩ := (Blk.new w [.slice A0 O.length c0, .slice A1 W.length c1, .slice A2 J.length c2] 28).c3
  generalize hW0 : (w.alloc (.cells #[.slice A0 O.length c0, .slice A1 W.length c1, .slice A2 J.length c2] 28)) = W0 at *
  have HJ := Lib.hid (hJ.below' b0)
  have HY : Hid ((∀ h, h < i → ∀ j, j < O.length → i ≤ j → Num.nzB ((((J.getD h []).getD (j - h - 1) [])).take i) = false) → Num.norB O J i = true) := Lib.hid fun h => decide_eq_true h
  have HN : Hid (∀ h, h < i → ∀ j, j < O.length → i ≤ j → Num.nzB ((((J.getD h []).getD (j - h - 1) [])).take i) = true → Num.norB O J i = false) := Lib.hid fun h hh j hj hij hb => decide_eq_false fun hall => by rw [hall h hh j hj hij] at hb; cases hb
  have HLJ : Hid (J.length = O.length) := Lib.hid e2
  have HLR : Hid (∀ h, h < O.length → (J.getD h []).length = O.length - 1 - h) := Lib.hid fun h hh => by have := e3 h (by omega); omega
  have HLX : Hid (∀ h, h < O.length → ∀ k, k < O.length - 1 - h → ((J.getD h []).getD k []).length = O.length) := Lib.hid fun h hh k hk => by
    obtain ⟨c1', c2'⟩ := Num.conB_out (e5 h hh)
    exact (Num.fitB_out (c2' k (by rw [c1']; exact hk))).1
  generalize Num.norB O J i = res at *
  clear hO hJ hpre p1 p2 e1 e2 e3 e5
  go_enter Try.func84, Try.ntmps84
  go_wp2_with (fail)
  clear hW0
  go_loopw [5] (fun s wr => ∃ h : Nat, s = .int .i64 h ∧ h ≤ i ∧ Hid (∀ a, a < h → ∀ j, j < O.length → i ≤ j → Num.nzB ((((J.getD a []).getD (j - a - 1) [])).take i) = false) ∧ W0 = wr) (fun s _ => i - (intOf s).toNat)
  case atStart => exact ⟨0, rfl, by omega, Lib.hid (fun a ha => by omega), rfl⟩
  case round =>
    obtain ⟨h, rfl, hh, hf, rfl⟩ := hrel
    by_cases hlt : h < i
    · have i1 : (h : Int) < (i : Int) := by omega
      have i1n : decide (h < i) = true := decide_eq_true hlt
      have hw : IntKind.i64.wrap ((h : Int) + 1) = (h : Int) + 1 := IntWalk.i64_in _ (by omega)
      go_wp2_with (fail)
      go_loopw [6] (fun s wr => ∃ j : Nat, s = .int .i64 j ∧ i ≤ j ∧ j ≤ O.length ∧ Hid (∀ k, k < j → i ≤ k → Num.nzB ((((J.getD h []).getD (k - h - 1) [])).take i) = false) ∧ W0 = wr) (fun s _ => O.length - (intOf s).toNat)
      case atStart => exact ⟨i, rfl, by omega, hi, Lib.hid (fun k hk hk2 => by omega), rfl⟩
      case round =>
        obtain ⟨j, rfl, hij, hj, hg, rfl⟩ := hrel
        by_cases hjl : j < O.length
        · have j1 : (j : Int) < (O.length : Int) := by omega
          obtain ⟨k, hk⟩ : ∃ k, k = j - h - 1 := ⟨_, rfl⟩
          have hlr := HLR.out h (by omega)
          have hlx := HLX.out h (by omega) k (by omega)
          have hlj := HLJ.out
          obtain ⟨g2, o2, B2, d2, hA2, hg2, hc2, hl2, hr2, hd2⟩ := HJ.out h (by omega)
          obtain ⟨g3, o3, B3, d3, hB2, hg3, hc3, hl3, hr3, hd3⟩ := hr2 k (by omega)
          subst hA2 hB2
          have h0 : (0 : Int) ≤ (h : Int) := by omega
          have h1 : (h : Int) < (J.length : Int) := by omega
          have k0 : (0 : Int) ≤ (k : Int) := by omega
          have k1 : (k : Int) < ((J.getD h []).length : Int) := by omega
          have wd : IntKind.i64.wrap ((j : Int) - (h : Int)) = (k : Int) + 1 := by rw [IntWalk.i64_in _ (by omega)]; omega
          have we : IntKind.i64.wrap ((k : Int) + 1 - 1) = (k : Int) := by rw [IntWalk.i64_in _ (by omega)]; omega
          have we2 : IntKind.i64.wrap (k : Int) = (k : Int) := by rw [IntWalk.i64_in _ (by omega)]
          have wj : IntKind.i64.wrap ((j : Int) + 1) = (j : Int) + 1 := IntWalk.i64_in _ (by omega)
          have s0 : (0 : Int) ≤ (i : Int) := by omega
          have s1 : (i : Int) ≤ (((J.getD h []).getD k []).length : Int) := by omega
          have s2 : (i : Int) ≤ (d3 : Int) := by omega
          have lt : (((J.getD h []).getD k []).take i).length = i := by rw [List.length_take]; omega
          have HZ : Hid (Calls Try.prog 124 #[.slice B3 i d3] W0 fun e w' => e = .returned (.bool (!Num.nzB (((J.getD h []).getD k []).take i))) ∧ W0 = w') := Lib.hid (by
            have := sZero9_any B3 d3 (((J.getD h []).getD k []).take i) W0 (rdI_takeZ hr3 i) (by omega)
            rwa [lt] at this)
          have HX : Hid (Num.nzB (((J.getD h []).getD k []).take i) = true → res = false) := Lib.hid fun hb => HN.out h hlt j hjl hij (by rw [← hk]; exact hb)
          have HG : Hid (Num.nzB (((J.getD h []).getD k []).take i) = false → ∀ k, k < j + 1 → i ≤ k → Num.nzB ((((J.getD h []).getD (k - h - 1) [])).take i) = false) := Lib.hid fun hb k' hk1 hk2 => by
            rcases Nat.lt_succ_iff_lt_or_eq.mp hk1 with h1 | rfl
            · exact hg.out k' h1 hk2
            · rw [← hk]; exact hb
          clear hr2 hr3 hg hlr lt hlj hk
          generalize (J.getD h []).getD k [] = z at *
          generalize J.getD h [] = r at *
          cases hb : Num.nzB (z.take i) with
          | true =>
            rw [hb] at HZ
            have HF := Lib.hid (HX.out hb)
            clear hb HG HX hlx
            go_wp2_with (fail)
            refine HZ.out.mono ?_; rintro e w' ⟨rfl, rfl⟩
            go_wp2_with (fail)
            go_ret
            exact ⟨ret_b HF.out.symm, b0⟩
          | false =>
            rw [hb] at HZ
            have HF := Lib.hid (HG.out hb)
            clear hb HG HX hlx
            go_wp2_with (fail)
            refine HZ.out.mono ?_; rintro e w' ⟨rfl, rfl⟩
            go_wp2_with (fail)
            exact ⟨⟨j + 1, by go_num, by omega, by omega, HF, by first | rfl | trivial⟩, by simp [intOf]; omega⟩
        · have hge : ¬ ((j : Int) < (O.length : Int)) := by omega
          obtain rfl : j = O.length := by omega
          have HF : Hid (∀ a, a < h + 1 → ∀ j, j < O.length → i ≤ j → Num.nzB ((((J.getD a []).getD (j - a - 1) [])).take i) = false) := Lib.hid fun a ha j hj hij => by
            rcases Nat.lt_succ_iff_lt_or_eq.mp ha with h1 | rfl
            · exact hf.out a h1 j hj hij
            · exact hg.out j hj hij
          clear hf hg
          go_wp2_with (fail)
          exact ⟨⟨h + 1, by go_num, by omega, HF, by first | rfl | trivial⟩, by simp [intOf]; omega⟩
    · have hge : ¬ ((h : Int) < (i : Int)) := by omega
      have hgen : decide (h < i) = false := decide_eq_false hlt
      obtain rfl : h = i := by omega
      have HF := Lib.hid (HY.out hf.out)
      clear hf
      go_wp2_with (fail)
      go_ret
      exact ⟨ret_b HF.out.symm, b0⟩
set_option maxRecDepth 100000 in
set_option maxHeartbeats 1000000 in
theorem sCode8_any (v0 : Value) (p : Pres) (I : Int) (w : World) (h0 : spPres.rd w v0 p) : Calls Try.prog 83 #[v0, .int .i64 I] w fun e w' => e = .returned (.int .i64 (p.tlC I)) ∧ Below w.heap.size w w' := by
  obtain ⟨O, W, J⟩ := p
  have h0' := h0
  obtain ⟨A0, c0, A1, c1, A2, c2, rfl, ⟨hO, hW, hJ⟩, m0, -, -⟩ := pres_open h0
  simp only at h0' h0 m0 ⊢
  have b0 : Below w.heap.size w (w.alloc (.cells #[.slice A0 O.length c0, .slice A1 W.length c1, .slice A2 J.length c2] 28)) := by go_grown
  have BX := (Blk.new w [.slice A0 O.length c0, .slice A1 W.length c1, .slice A2 J.length c2] 28)
  have HI := Lib.hid (sGroup_any _ ⟨O, W, J⟩ _ (spPres.rd_below h0' b0))
  generalize hW0 : (w.alloc (.cells #[.slice A0 O.length c0, .slice A1 W.length c1, .slice A2 J.length c2] 28)) = W0 at *
  obtain ⟨bl, x0, x1, x2⟩ := BX.c3
  unfold RetB at HI
  clear hO hW hJ h0 h0'
  cases hk : Pres.con ⟨O, W, J⟩ with
  | true =>
    rw [hk] at HI
    by_cases hI : 0 ≤ I ∧ I ≤ (O.length : Int)
    · have HF := Lib.hid (Pres.tlC_ok hk hI)
      have HI2 := Lib.hid (sIn_yes I 0 (O.length : Int) · hI.1 hI.2)
      clear hk hI
      go_enter Try.func83, Try.ntmps83
      go_wp2_with (fail)
      clear hW0
      refine HI.out.mono ?_; rintro e w1 ⟨rfl, hb1⟩
      have L1 := bstep b0 b0.size hb1
      obtain ⟨bl1, y0, y1, y2⟩ := (BX.below hb1).c3
      clear HI x0 x1 x2
      go_wp2_with (fail)
      refine (HI2.out w1).mono ?_; rintro e w2 ⟨rfl, rfl⟩
      go_wp2_with (fail)
      go_ret
      exact ⟨ret_i HF.out.symm, L1⟩
    · have HF := Lib.hid (Pres.tlC_out hk hI)
      have hI2 : I < 0 ∨ (O.length : Int) < I := by omega
      have HI2 := Lib.hid (sIn_no I 0 (O.length : Int) · hI2)
      clear hk hI hI2
      go_enter Try.func83, Try.ntmps83
      go_wp2_with (fail)
      clear hW0
      refine HI.out.mono ?_; rintro e w1 ⟨rfl, hb1⟩
      have L1 := bstep b0 b0.size hb1
      obtain ⟨bl1, y0, y1, y2⟩ := (BX.below hb1).c3
      clear HI x0 x1 x2
      go_wp2_with (fail)
      refine (HI2.out w1).mono ?_; rintro e w2 ⟨rfl, rfl⟩
      go_wp2_with (fail)
      go_ret
      exact ⟨ret_i HF.out.symm, L1⟩
  | false =>
    rw [hk] at HI
    have HF := Lib.hid (Pres.tlC_bad (i := I) hk)
    clear hk
    go_enter Try.func83, Try.ntmps83
    go_wp2_with (fail)
    clear hW0
    refine HI.out.mono ?_; rintro e w1 ⟨rfl, hb1⟩
    go_wp2_with (fail)
    go_ret
    exact ⟨ret_i HF.out.symm, bstep b0 b0.size hb1⟩
set_option maxRecDepth 100000 in
set_option maxHeartbeats 1000000 in
theorem sIsNormalTail_ok (v0 : Value) (p : Pres) (I : Int) (w : World) (h0 : PresK w v0 p) (s0 : spPres.sz p ≤ 1048576) : Calls Try.prog 33 #[v0, .int .i64 I] w (RetBC (rIsNormalTail p I) (cIsNormalTail p I) w) := by
  obtain ⟨O, W, J⟩ := p
  have h0' := h0
  obtain ⟨A0, c0, A1, c1, A2, c2, rfl, ⟨hO, hW, hJ⟩, m0, m1, m2, hc0⟩ := h0
  replace hO : RdI w A0 O := hO
  replace hJ : RdXM w A2 J := hJ
  simp only at h0' m0 ⊢
  have b0 : Below w.heap.size w (w.alloc (.cells #[.slice A0 O.length c0, .slice A1 W.length c1, .slice A2 J.length c2] 28)) := by go_grown
  have BX := (Blk.new w [.slice A0 O.length c0, .slice A1 W.length c1, .slice A2 J.length c2] 28)
  have HI := Lib.hid (sCode8_any _ ⟨O, W, J⟩ I _ (h0'.rd |> fun h => spPres.rd_below h b0))
  generalize hW0 : (w.alloc (.cells #[.slice A0 O.length c0, .slice A1 W.length c1, .slice A2 J.length c2] 28)) = W0 at *
  obtain ⟨bl, x0, x1, x2⟩ := BX.c3
  by_cases hc : Pres.tlC ⟨O, W, J⟩ I = 0
  · have hcon : Pres.con ⟨O, W, J⟩ = true := by
      cases hk : Pres.con ⟨O, W, J⟩ with
      | true => rfl
      | false => rw [Pres.tlC_bad hk] at hc; omega
    have hI : 0 ≤ I ∧ I ≤ (O.length : Int) := by
      by_cases h : 0 ≤ I ∧ I ≤ (O.length : Int)
      · exact h
      · rw [Pres.tlC_out hcon h] at hc; omega
    obtain ⟨i, rfl⟩ := Int.eq_ofNat_of_zero_le hI.1
    have HR : Hid (rIsNormalTail ⟨O, W, J⟩ (i : Int) = Num.norB O J i ∧ cIsNormalTail ⟨O, W, J⟩ (i : Int) = 0) := Lib.hid ⟨if_pos hc, hc⟩
    have HN : Hid (∀ W', Below w.heap.size w W' → _) := Lib.hid fun W' hb => sNormal_any A0 A1 A2 c0 c1 c2 O W J i W' (hO.below' hb) (hJ.below' hb) (Pres.con_ok hcon) (by omega)
    rw [hc] at HI
    clear hc hcon hI hO hJ hW h0'
    go_enter Try.func33, Try.ntmps33
    go_wp2_with (fail)
    clear hW0
    refine HI.out.mono ?_; rintro e w1 ⟨rfl, hb1⟩
    have L1 := bstep b0 b0.size hb1
    obtain ⟨bl1, y0, y1, y2⟩ := (BX.below hb1).c3
    have HN1 := Lib.hid (HN.out w1 L1)
    clear HI HN x0 x1 x2
    go_wp2_with (fail)
    refine HN1.out.mono ?_; rintro e w2 ⟨rfl, hb2⟩
    go_wp2_with (fail)
    go_ret2
    rw [HR.out.1, HR.out.2]
    exact ⟨rfl, bstep L1 L1.size hb2⟩
  · have HR : Hid (rIsNormalTail ⟨O, W, J⟩ I = false ∧ cIsNormalTail ⟨O, W, J⟩ I = Pres.tlC ⟨O, W, J⟩ I) := Lib.hid ⟨if_neg hc, rfl⟩
    have T1 : (Pres.tlC ⟨O, W, J⟩ I != 0) = true := by simpa using hc
    clear hc hO hJ hW h0'
    generalize Pres.tlC ⟨O, W, J⟩ I = cc at *
    go_enter Try.func33, Try.ntmps33
    go_wp2_with (fail)
    clear hW0
    refine HI.out.mono ?_; rintro e w1 ⟨rfl, hb1⟩
    go_wp2_with (fail)
    go_ret2
    rw [HR.out.1, HR.out.2]
    exact ⟨rfl, bstep b0 b0.size hb1⟩
end Go.Proofs.Ytahmhdpgdhfjnaa
namespace Go.Proofs.Ytahmhdpgdhfjnaa
open Go.RowKit
set_option linter.unusedVariables false
set_option linter.unusedSimpArgs false

theorem Num.ptV_zero (b : Nat) (x : List Int) : Num.ptV 0 b x = x.take b := by simp [Num.ptV]
theorem rdI_head {w : World} {A : Option Addr} {x : List Int} (h : RdI w A x) (b : Nat) : RdI w A (Num.ptV 0 b x) := by rw [Num.ptV_zero]; exact rdI_takeZ h b
def Pres.hdC (p : Pres) (I : Int) : Int := if p.tlC I = 0 then (if Num.norB p.O p.J I.toNat = true then 0 else 5) else p.tlC I
def rHeadPresentation (p : Pres) (I : Int) : Pres := if p.hdC I = 0 then partP p.O p.W p.J 0 I.toNat else noPres
def cHeadPresentation (p : Pres) (I : Int) : Int := p.hdC I
set_option maxRecDepth 100000 in
set_option maxHeartbeats 4000000 in
theorem sHead_main (A0 A1 A2 : Option Addr) (c0 c1 c2 b : Nat) (O : List Int) (W : List (List Int)) (J : List (List (List Int))) (w : World) (h0 : PresK w (.agg #[.slice A0 O.length c0, .slice A1 W.length c1, .slice A2 J.length c2]) ⟨O, W, J⟩) (hO : RdI w A0 O) (hW : RdWK w A1 W) (hJ : RdXM w A2 J) (hcon : Pres.con ⟨O, W, J⟩ = true) (hb : b ≤ O.length) (hnor : Num.norB O J b = true) (hc0 : O.length ≤ c0) :
    Calls Try.prog 35 #[.agg #[.slice A0 O.length c0, .slice A1 W.length c1, .slice A2 J.length c2], .int .i64 (b : Int)] w (MadeC spPres (partP O W J 0 b) 0 w) := by
  have hpre : Num.preB O W J = true := Pres.con_ok hcon
  have V := Num.Shp9.of hpre
  have h6 := V.n6
  have HV := Lib.hid V
  have HCNT := Lib.hid (partP_cnt V (a := 0) hb)
  have b0 : Below w.heap.size w ((w.alloc (.cells #[.slice A0 O.length c0, .slice A1 W.length c1, .slice A2 J.length c2] 28)).alloc (.cells #[.slice none 0 0, .slice none 0 0, .slice none 0 0] 28)) := by go_grown
  have BX0 := (Blk.new w [.slice A0 O.length c0, .slice A1 W.length c1, .slice A2 J.length c2] 28).alloc (.cells #[.slice none 0 0, .slice none 0 0, .slice none 0 0] 28)
  have BR0 : Blk ((w.alloc (.cells #[.slice A0 O.length c0, .slice A1 W.length c1, .slice A2 J.length c2] 28)).alloc (.cells #[.slice none 0 0, .slice none 0 0, .slice none 0 0] 28)) (w.heap.size + 1) [.slice none 0 0, .slice none 0 0, .slice none 0 0] 28 := by
    have := Blk.new (w.alloc (.cells #[.slice A0 O.length c0, .slice A1 W.length c1, .slice A2 J.length c2] 28)) [.slice none 0 0, .slice none 0 0, .slice none 0 0] 28
    simpa using this
  have a0 : (0 : Int) ≤ (b : Int) := by omega
  have a1 : (b : Int) ≤ (O.length : Int) := by omega
  have a2 : (b : Int) ≤ (c0 : Int) := by omega
  have hz2 : ((w.alloc (.cells #[.slice A0 O.length c0, .slice A1 W.length c1, .slice A2 J.length c2] 28)).alloc (.cells #[.slice none 0 0, .slice none 0 0, .slice none 0 0] 28)).heap.size = w.heap.size + 2 := by simp
  generalize hW0 : ((w.alloc (.cells #[.slice A0 O.length c0, .slice A1 W.length c1, .slice A2 J.length c2] 28)).alloc (.cells #[.slice none 0 0, .slice none 0 0, .slice none 0 0] 28)) = W0 at *
  obtain ⟨bl, x0, x1, x2⟩ := BX0.c3
  have HC8 := Lib.hid (sCode8_any _ ⟨O, W, J⟩ (b : Int) W0 (spPres.rd_below h0.rd b0))
  rw [Pres.tlC_ok hcon ⟨by omega, by show (b : Int) ≤ (O.length : Int); omega⟩] at HC8
  have HNR : Hid (∀ W', Below w.heap.size w W' → _) := Lib.hid fun W' hbb => sNormal_any A0 A1 A2 c0 c1 c2 O W J b W' (hO.below' hbb) (hJ.below' hbb) hpre hb
  rw [hnor] at HNR
  have HOWA : Hid (∀ W', Below w.heap.size w W' → _) := Lib.hid fun W' hbb => sOwnI_any A0 b c0 (Num.ptV 0 b O) W' (rdI_head (hO.below' hbb) b) (Num.ptV_len hb) (by have := Num.ptV_le 0 b O h6; omega)
  have HWx := Lib.hid hW
  have HJx := Lib.hid hJ
  have hz0 := b0.size
  have hBR0 := BR0.lt
  clear hO hW hJ V hnor hcon hpre h0
  go_enter Try.func35, Try.ntmps35
  go_wp2_with (fail)
  clear hW0
  refine HC8.out.mono ?_; rintro e wA ⟨rfl, hbA⟩
  have LA := bstep b0 b0.size hbA
  have BXA := BX0.below hbA
  have BRA := BR0.below hbA
  obtain ⟨blA, xA0, xA1, xA2⟩ := BXA.c3
  have HNA := Lib.hid (HNR.out wA LA)
  clear HC8 HNR bl x0 x1 x2
  go_wp2_with (fail)
  refine HNA.out.mono ?_; rintro e wB ⟨rfl, hbB⟩
  have LB := bstep LA LA.size hbB
  have BXB := BXA.below hbB
  have BRB := BRA.below hbB
  obtain ⟨bl, x0, x1, x2⟩ := BXB.c3
  have hzA := hbA.size
  have hzB := hbB.size
  have HOW := Lib.hid (HOWA.out wB LB)
  clear HNA HOWA blA xA0 xA1 xA2 BXA BRA
  go_wp2_with (fail)
  refine HOW.out.mono ?_; rintro e w1 ⟨u0, rfl, ow0, hb1⟩
  obtain ⟨A9, n9, c9, rfl, e9⟩ := ow0.formN
  generalize hOV : Num.ptV 0 b O = OV at *
  have L1 := bstep LB LB.size hb1
  have hz1 := hb1.size
  have PB0 : PBox W0.heap.size (w1.alloc (.cells #[.slice A9 n9 c9, .slice none 0 0, .slice none 0 0] 28)) w1.heap.size OV [] [] (.slice A9 n9 c9) (.slice none 0 0) (.slice none 0 0) (fun k => (Value.slice A9 n9 c9).ownBlock = some k) (fun _ => False) (fun _ => False) :=
    ⟨Blk.new w1 _ _, spI.own_alloc (spI_of ow0) _, spL_nil _ _ _ _, spL_nil _ _ _ _, fun k _ h => h, fun k _ h => h, fun k h => h.elim, fun k hk => by have := World.ownsRow.lt ow0 k hk; exact ⟨by omega, by omega⟩, fun k h => h.elim, fun k h => h.elim, by omega⟩
  have BR := (BRB.below hb1).alloc (.cells #[.slice A9 n9 c9, .slice none 0 0, .slice none 0 0] 28)
  have BX := (BXB.below hb1).alloc (.cells #[.slice A9 n9 c9, .slice none 0 0, .slice none 0 0] 28)
  have LA9 : Below w.heap.size w (w1.alloc (.cells #[.slice A9 n9 c9, .slice none 0 0, .slice none 0 0] 28)) := L1.alloc L1.size _
  have hb4 : w.heap.size + 2 ≤ w1.heap.size := by omega
  have HPB0 := Lib.hid PB0
  have HBR0 := Lib.hid BR
  have HBX0 := Lib.hid BX
  have HOV := Lib.hid hOV
  have HE9 := Lib.hid e9
  clear PB0 BR BX L1 hb1 ow0 HOW BR0 BX0 b0 bl x0 x1 x2 hBR0 hOV e9 BRB BXB hbA hbB LA LB hzA hzB hz1
  generalize hB4 : w1.heap.size = b4 at *
  generalize hZ0 : W0.heap.size = z0 at *
  go_wp2_with (fail)
  generalize hWA : w1.alloc (.cells #[.slice A9 n9 c9, .slice none 0 0, .slice none 0 0] 28) = wa at *
  clear hWA hB4 hZ0
  go_loopw [8] (fun s8 wr => ∃ (i : Nat) (v1 v2 : Value) (S1 S2 : Nat → Prop), s8 = .int .i64 i ∧ i ≤ b ∧ Hid (PBox z0 wr b4 OV (Num.ptW W 0 b i) (Num.ptJ J 0 b i) (.slice A9 n9 c9) v1 v2 (fun k => (Value.slice A9 n9 c9).ownBlock = some k) S1 S2) ∧ Hid (Blk wr (w.heap.size + 1) [.slice none 0 0, .slice none 0 0, .slice none 0 0] 28) ∧ Hid (Blk wr w.heap.size [.slice A0 O.length c0, .slice A1 W.length c1, .slice A2 J.length c2] 28) ∧ Below w.heap.size w wr) (fun s8 _ => b - (intOf s8).toNat)
  case atStart => exact ⟨0, _, _, _, _, rfl, Nat.zero_le _, HPB0, HBR0, HBX0, LA9⟩
  case round =>
    obtain ⟨i, v1, v2, S1, S2, rfl, hib, PB, BR, BX, bel⟩ := hrel
    clear HPB0 HBR0 HBX0 LA9
    have Z := bel.size
    obtain ⟨bx, p0, p1, p2⟩ := BX.out.c3
    by_cases hlt : i < b
    · have i0 : (0 : Int) ≤ (i : Int) := by omega
      have i1 : (i : Int) < (b : Int) := by omega
      have hw1 : IntKind.i64.wrap ((i : Int) + 1) = (i : Int) + 1 := IntWalk.i64_in _ (by omega)
      obtain ⟨-, ⟨A1', c1', e1⟩, A2', c2', e2⟩ := PB.out.forms
      rw [Num.ptW_len] at e1
      rw [Num.ptJ_len] at e2
      subst e1 e2
      have hlJ := HV.out.lj
      have hlW := HV.out.lw
      obtain ⟨gj, oj, Bj, cj, hA2, hgj, hcj, -, hrj, hkj⟩ := (HJx.out.below' bel) i (by rw [hlJ]; omega)
      obtain ⟨gw, ow, Bw, cw, hA1, hgw, hcw, -, hrw, hkw⟩ := (HWx.out.below' bel) i (by rw [hlW]; omega)
      have j1 : (i : Int) < (J.length : Int) := by omega
      have j2 : (i : Int) < (W.length : Int) := by omega
      have hlr := HV.out.lr i (by omega)
      have hlw := HV.out.wl i (by omega)
      have hlc := fun k hk => HV.out.cl i k (by omega) hk
      clear hlJ hlW
      have HSW : Hid (Num.ptW W 0 b (i + 1) = Num.ptW W 0 b i ++ [Num.ptV 0 b (W.getD i [])]) := Lib.hid (Num.ptW_step W (a := 0) (b := b) (Nat.zero_le i))
      have HSJ : Hid (Num.ptJ J 0 b (i + 1) = Num.ptJ J 0 b i ++ [Num.ptR (J.getD i []) 0 b (b - i - 1)]) := Lib.hid (Num.ptJ_step J (a := 0) (b := b) (Nat.zero_le i))
      have hlW' : (Num.ptW W 0 b i).length ≤ 1000000 := by rw [Num.ptW_len]; omega
      have hlJ' : (Num.ptJ J 0 b i).length ≤ 1000000 := by rw [Num.ptJ_len]; omega
      generalize Num.ptW W 0 b i = ws at *
      generalize Num.ptJ J 0 b i = js at *
      generalize hrow : J.getD i [] = row at *
      generalize hwow : W.getD i [] = wrow at *
      obtain ⟨nr, hnr⟩ : ∃ nr, row.length = nr := ⟨_, rfl⟩
      rw [hnr] at hcj hkj
      obtain ⟨m, hm⟩ : ∃ m : Nat, m = b - i - 1 := ⟨_, rfl⟩
      have hm0 : IntKind.i64.wrap ((b : Int) - 1) = (b : Int) - 1 := IntWalk.i64_in _ (by omega)
      have hm1 : IntKind.i64.wrap ((b : Int) - 1 - (i : Int)) = (m : Int) := by rw [IntWalk.i64_in _ (by omega)]; omega
      have hRW3 := rdI_head (hrw.below' (Below.refl _ _).drew) b
      rw [hlw] at hcw hkw
      have hlcm : ∀ k, k < m → (row.getD k []).length = O.length := fun k hk => hlc k (by omega)
      have HFA := Lib.hid hlcm
      have HFB : Hid (nr = row.length) := Lib.hid hnr.symm
      have HFC : Hid (m ≤ nr) := Lib.hid (by omega)
      have HROW := Lib.hid hrow
      rw [← hm] at HSJ
      have hmb : m ≤ 6 := by omega
      have hnwb : (b : Int) ≤ (cw : Int) := by omega
      have HCW := Lib.hid (sOwnI_any Bw b cw (Num.ptV 0 b wrow) wr.drew hRW3 (Num.ptV_len (by omega)) (by have := Num.ptV_le 0 b wrow (by omega); omega))
      generalize Num.ptV 0 b wrow = wv at *
      clear hlr hlw hlc hlcm hnr hrj hrw hrow hwow hRW3 hm
      obtain ⟨bl, x0, x1, x2⟩ := PB.out.box.c3
      have fr := PB.out.box.free 1
      subst hA2 hA1
      go_wp2_with (fail)
      go_region_law (first
        | (go_simp; go_at_call 86; refine HCW.out.mono ?_; rintro e w3 ⟨u3, rfl, o3, hb3⟩; obtain ⟨A3, n3, c3, rfl, e3⟩ := o3.formN; have L3 : Below wr.heap.size wr w3 := (Below.refl _ _).drew.trans hb3; have SM3 : w3.cell? ⟨b4, 1, none⟩ = some (.slice A1' i c1') := (by rw [L3.cell bl]; exact x1); have HPB3 := Lib.hid (PB.out.below L3); have HPA := HPB3.out.o1; have HPC := spI_of o3; have HPB : ∀ k, S1 k → ¬ ((Value.slice A3 n3 c3).ownBlock = some k) := (fun k h1 h2 => by have := spII.own_lt PB.out.o1 h1; have := World.ownsRow.lt o3 k h2; simp only [World.size_drew] at this; omega); have t3 : b4 < w3.heap.size := Nat.lt_of_lt_of_le bl L3.size)
        | (refine step_push (s := spI) (nul := []) w3 rfl (.tmp 35) (.tmp 44) 25 24 rfl Try.underlying25 infoII S1 (fun k => (Value.slice A3 n3 c3).ownBlock = some k) (.slice A1' i c1') (.slice A3 n3 c3) ws wv rfl rfl HPA HPC rfl HPB hlW' ?_; intro v7 w7 S7 own7 hS7 ch7 fm7; obtain ⟨A7, c7, rfl⟩ := fm7; have SM7 : w7.cell? ⟨b4, 1, none⟩ = some (.slice A1' i c1') := (by have h9 := (HPB3.out.box.chg ch7 (fun hh => (HPB3.out.s1 _ hh).2 rfl)).cell 1 (by simp); exact h9); have SF7 : w7.frozen? ⟨b4, 1, none⟩ = false := (HPB3.out.box.chg ch7 (fun hh => (HPB3.out.s1 _ hh).2 rfl)).free 1))
      all_goals
        have CH8 : ChgS S1 wr w7 := (ChgS.of_below L3).trans ch7
        have PB8 := PB.out.putW CH8 own7 (fun k hk => by
          have hq2 := L3.size
          rcases hS7 k hk with h | h | h
          · exact .inl h
          · exact .inr (by have := (World.ownsRow.lt o3 k h).1; simp only [World.size_drew] at this; omega)
          · exact .inr (by omega))
        have L8 := (bstepS bel Z (fun k hk => by have := PB.out.s1 k hk; omega) CH8).setCell (p := ⟨b4, 1, none⟩) (by simp; omega) (.slice A7 (ws.length + 1) c7)
        have BR8 := (BR.out.chg CH8 (fun hh => by have := PB.out.s1 _ hh; omega)).other (p := ⟨b4, 1, none⟩) (by simp; omega) (.slice A7 (ws.length + 1) c7)
        have BX8 := (BX.out.chg CH8 (fun hh => by have := PB.out.s1 _ hh; omega)).other (p := ⟨b4, 1, none⟩) (by simp; omega) (.slice A7 (ws.length + 1) c7)
        have HPB8 := Lib.hid PB8
        have HBR8 := Lib.hid BR8
        have HBX8 := Lib.hid BX8
        clear PB8 BR8 BX8 CH8 own7 ch7 hS7 SM7 SF7 PB BR BX HPB3 HPA HPC HPB o3 L3 SM3 bel x0 x1 x2 fr bl t3 HCW p0 p1 p2 bx hb3 hgj hcj hgw hcw
        obtain ⟨W8, hW8⟩ : ∃ X, w7.setCell ⟨b4, 1, none⟩ (.slice A7 (ws.length + 1) c7) = X := ⟨_, rfl⟩
        rw [hW8] at HPB8 HBR8 HBX8 L8
        have own9 : Hid (spII.own (W8.alloc (.cells #[] 24)) (fun k => k = W8.heap.size) (.slice (some ⟨W8.heap.size, 0, none⟩) 0 0) (Num.ptR row 0 b 0)) := Lib.hid (spL_empty _ _ _ _)
        have B9 : Below W8.heap.size W8 (W8.alloc (.cells #[] 24)) := by go_grown
        go_wp2_with (fail)
        clear hW8
        go_loopw [9, 10] (fun s6 s7 wr => ∃ (k : Nat) (S3 : Nat → Prop), s7 = .int .i64 (k : Int) ∧ k ≤ m ∧ Hid (spII.own wr S3 s6 (Num.ptR row 0 b k)) ∧ Hid (∀ k, S3 k → W8.heap.size ≤ k) ∧ Below W8.heap.size W8 wr) (fun _ s7 _ => m - (intOf s7).toNat)
        case atStart => exact ⟨0, _, rfl, by omega, own9, Lib.hid (fun k hk => by omega), B9⟩
        case round =>
          clear own9 B9
          obtain ⟨k, S3, rfl, hk, own, hS, be8⟩ := hrel
          have L9 := bstep L8 L8.size be8
          have HBX9 := Lib.hid (HBX8.out.below be8)
          obtain ⟨bx, p0, p1, p2⟩ := HBX9.out.c3
          by_cases hlk : k < m
          · obtain ⟨gj', oj', Bj', cj', hA2', hgj, hcj, -, hrj, -⟩ := (HJx.out.below' L9) i (by have := HV.out.lj; omega)
            simp only [Option.some.injEq, Addr.mk.injEq] at hA2'
            obtain ⟨rfl, rfl, -⟩ := hA2'
            rw [HROW.out] at hcj hrj
            rw [← HFB.out] at hcj
            have k0 : (0 : Int) ≤ (k : Int) := by omega
            have k1 : (k : Int) < (m : Int) := by omega
            have k3 : (k : Int) < (nr : Int) := by have := HFC.out; omega
            have k2 : IntKind.i64.wrap ((k : Int) + 1) = (k : Int) + 1 := IntWalk.i64_in _ (by omega)
            obtain ⟨gq, oq, Bq, cq, hBj, hgq, hcq, -, hrq, hkq⟩ := hrj k (by have := HFB.out; omega)
            have hql := HFA.out k hlk
            rw [hql] at hcq hkq
            have hRQ := rdI_head hrq b
            have q1 : (b : Int) ≤ (cq : Int) := by omega
            have HCL := Lib.hid (sOwnI_any Bq b cq (Num.ptV 0 b (row.getD k [])) wr hRQ (Num.ptV_len (by omega)) (by have := Num.ptV_le 0 b (row.getD k []) (by omega); omega))
            have HSK : Hid (Num.ptR row 0 b (k + 1) = Num.ptR row 0 b k ++ [Num.ptV 0 b (row.getD k [])]) := Lib.hid rfl
            have hlr : (Num.ptR row 0 b k).length ≤ 1000000 := by rw [Num.ptR_len]; omega
            generalize Num.ptR row 0 b k = rs at *
            generalize Num.ptV 0 b (row.getD k []) = un at *
            clear hrq hRQ hql hrj
            subst hBj
            go_wp2_with (fail)
            refine HCL.out.mono ?_; rintro e w5 ⟨u5, rfl, ow5, hb5⟩
            obtain ⟨A6, n6, c6, rfl, e6⟩ := ow5.formN
            have HPA := spII.own_below own.out hb5
            have HPB := apart_row own.out ow5
            have HPC := spI_of ow5
            have L5 := bstep be8 be8.size hb5
            go_wp2_with (first | (at_builtin; refine wpList_push (s := spI) (nul := []) w5 rfl _ _ 25 24 rfl Try.underlying25 infoII S3 (fun k => (Value.slice A6 n6 c6).ownBlock = some k) u9 (.slice A6 n6 c6) rs un rfl rfl HPA HPC rfl HPB hlr ?_; intro v9 w9 S9 own9 hS9 ch9 fm9))
            have HO9 : Hid (spII.own w9 S9 v9 (Num.ptR row 0 b (k + 1))) := Lib.hid (by rw [HSK.out]; exact own9)
            have L10 := bstepS L5 L5.size hS.out ch9
            have HS9 : Hid (∀ k, S9 k → W8.heap.size ≤ k) := Lib.hid fun q hq => by
              rcases hS9 q hq with h | h | h
              · exact hS.out q h
              · have := ow5.base_le q h; have := be8.size; omega
              · have := L5.size; omega
            go_wp2_with (fail)
            exact ⟨⟨k + 1, S9, by first | rfl | go_num | (congr 1; omega) | (simp; omega), by omega, HO9, HS9, L10⟩, by simp [intOf]; omega⟩
          · have hge : ¬ ((k : Int) < (m : Int)) := by omega
            obtain rfl : k = m := by omega
            have PB9 := HPB8.out.below be8
            generalize Num.ptR row 0 b k = rk at *
            obtain ⟨A6, c6, e6, -⟩ := spII.own_rd own.out
            obtain ⟨n6, hn6⟩ : ∃ n6, rk.length = n6 := ⟨_, rfl⟩
            rw [hn6] at e6
            subst e6
            clear hn6
            obtain ⟨bl, x0, x1, x2⟩ := PB9.box.c3
            have fr := PB9.box.free 2
            have HPB9 := Lib.hid PB9
            have HPA := PB9.o2
            have HPC := own.out
            have HPD : ∀ k, S2 k → ¬ S3 k := fun k h1 h2 => by have := spIII.own_lt HPB8.out.o2 h1; have := hS.out k h2; omega
            clear PB9
            go_wp2_with (first | (at_builtin; refine wpList_push (s := spII) (nul := []) wr rfl _ _ 26 25 rfl Try.underlying26 infoIII S2 S3 (.slice A2' i c2') (.slice A6 n6 c6) js rk rfl rfl HPA HPC rfl HPD hlJ' ?_; intro v9 w9 S9 own9 hS9 ch9 fm9; obtain ⟨A8, c8, rfl⟩ := fm9; obtain ⟨SB9, SM90, SM91, SM9⟩ := (HPB9.out.box.chg ch9 (fun hh => (HPB9.out.s2 _ hh).2 rfl)).c3; have SF9 : w9.frozen? ⟨b4, 2, none⟩ = false := (HPB9.out.box.chg ch9 (fun hh => (HPB9.out.s2 _ hh).2 rfl)).free 2))
            have CH10 : ChgS S2 W8 w9 := (ChgS.of_below be8).trans ch9
            have PB10 := HPB8.out.putJ CH10 own9 (fun k hk => by
              rcases hS9 k hk with h | h | h
              · exact .inl h
              · exact .inr (hS.out k h)
              · exact .inr (by have := be8.size; omega))
            have L10 := (bstepS L8 L8.size (fun k hk => by have := HPB8.out.s2 k hk; omega) CH10).setCell (p := ⟨b4, 2, none⟩) (by simp; omega) (.slice A8 (js.length + 1) c8)
            have BR10 := (HBR8.out.chg CH10 (fun hh => by have := HPB8.out.s2 _ hh; omega)).other (p := ⟨b4, 2, none⟩) (by simp; omega) (.slice A8 (js.length + 1) c8)
            have BX10 := (HBX8.out.chg CH10 (fun hh => by have := HPB8.out.s2 _ hh; omega)).other (p := ⟨b4, 2, none⟩) (by simp; omega) (.slice A8 (js.length + 1) c8)
            rw [← HSW.out, ← HSJ.out] at PB10
            have HPB10 := Lib.hid PB10
            have HBR10 := Lib.hid BR10
            have HBX10 := Lib.hid BX10
            clear PB10 BR10 BX10
            go_wp2_with (fail)
            exact ⟨⟨i + 1, _, _, _, _, by go_num, by omega, HPB10, HBR10, HBX10, L10⟩, by simp [intOf]; omega⟩
    · have hge : ¬ ((i : Int) < (b : Int)) := by omega
      obtain rfl : i = b := by omega
      obtain ⟨-, ⟨A1', c1', e1⟩, A2', c2', e2⟩ := PB.out.forms
      rw [Num.ptW_len] at e1
      rw [Num.ptJ_len] at e2
      subst e1 e2
      obtain ⟨bl, x0, x1, x2⟩ := PB.out.box.c3
      obtain ⟨br, r0, r1, r2⟩ := BR.out.c3
      obtain ⟨f0, f1, f2⟩ := BR.out.f3
      have hB8 := PB.out.hB
      have ne1 : ¬ (w.heap.size + 1 = b4) := by omega
      have ne2 : ¬ (b4 = w.heap.size + 1) := by omega
      have HPB := Lib.hid PB.out
      clear PB BR BX
      go_wp2_with (fail)
      refine bodyPost_ret (v := .tuple #[.agg #[.slice A9 n9 c9, .slice A1' i c1', .slice A2' i c2'], .int .i64 0]) (by simp [results, Try.results35, go_sem, br, r0, r1, r2]) rfl ?_
      have ow := HPB.out.own
      have bs := HPB.out.base
      have e : partP O W J 0 i = ⟨OV, Num.ptW W 0 i i, Num.ptJ J 0 i i⟩ := by unfold partP; rw [HOV.out]; rfl
      rw [e] at HCNT ⊢
      exact madeC_set ow (fun k hk => by have := bs k hk; omega) HCNT.out bel (by omega) _ _ _ _
end Go.Proofs.Ytahmhdpgdhfjnaa
namespace Go.Proofs.Ytahmhdpgdhfjnaa
open Go.RowKit
set_option linter.unusedVariables false
set_option linter.unusedSimpArgs false

theorem Pres.tlC_in {p : Pres} {I : Int} (h : p.tlC I = 0) : p.con = true ∧ 0 ≤ I ∧ I ≤ (p.O.length : Int) := by
  unfold Pres.tlC at h
  cases hc : p.con with
  | false => rw [if_pos hc] at h; exact absurd h (by decide)
  | true =>
    rw [if_neg (by rw [hc]; simp)] at h
    by_cases hI : 0 ≤ I ∧ I ≤ (p.O.length : Int)
    · exact ⟨rfl, hI⟩
    · rw [if_neg hI] at h; exact absurd h (by decide)
set_option maxRecDepth 100000 in
set_option maxHeartbeats 4000000 in
theorem iHeadPresentation_ok (v0 : Value) (p : Pres) (I : Int) (w : World) (h0 : PresK w v0 p) (s0 : spPres.sz p ≤ 1048576) : Calls Try.prog 36 #[v0, .int .i64 I] w (MadeC spPres (rHeadPresentation p I) (cHeadPresentation p I) w) := by
  obtain ⟨O, W, J⟩ := p
  have h0' := h0
  obtain ⟨A0, c0, A1, c1, A2, c2, rfl, ⟨hO, hW, hJ⟩, m0, m1, m2, hc0⟩ := h0
  replace hO : RdI w A0 O := hO
  replace hW : RdWK w A1 W := hW
  replace hJ : RdXM w A2 J := hJ
  replace hc0 : O.length ≤ c0 := hc0
  simp only at h0' m0 ⊢
  have b0 : Below w.heap.size w ((w.alloc (.cells #[.slice A0 O.length c0, .slice A1 W.length c1, .slice A2 J.length c2] 28)).alloc (.cells #[.slice none 0 0, .slice none 0 0, .slice none 0 0] 28)) := by go_grown
  have BX := (Blk.new w [.slice A0 O.length c0, .slice A1 W.length c1, .slice A2 J.length c2] 28).alloc (.cells #[.slice none 0 0, .slice none 0 0, .slice none 0 0] 28)
  have BR : Blk ((w.alloc (.cells #[.slice A0 O.length c0, .slice A1 W.length c1, .slice A2 J.length c2] 28)).alloc (.cells #[.slice none 0 0, .slice none 0 0, .slice none 0 0] 28)) (w.heap.size + 1) [.slice none 0 0, .slice none 0 0, .slice none 0 0] 28 := by
    have := Blk.new (w.alloc (.cells #[.slice A0 O.length c0, .slice A1 W.length c1, .slice A2 J.length c2] 28)) [.slice none 0 0, .slice none 0 0, .slice none 0 0] 28
    simpa using this
  have HI := Lib.hid (iIsNormalTail_ok _ ⟨O, W, J⟩ I _ (h0'.below b0) s0)
  have hz2 : ((w.alloc (.cells #[.slice A0 O.length c0, .slice A1 W.length c1, .slice A2 J.length c2] 28)).alloc (.cells #[.slice none 0 0, .slice none 0 0, .slice none 0 0] 28)).heap.size = w.heap.size + 2 := by simp
  generalize hW0 : ((w.alloc (.cells #[.slice A0 O.length c0, .slice A1 W.length c1, .slice A2 J.length c2] 28)).alloc (.cells #[.slice none 0 0, .slice none 0 0, .slice none 0 0] 28)) = W0 at *
  obtain ⟨bl, x0, x1, x2⟩ := BX.c3
  obtain ⟨br, r0, r1, r2⟩ := BR.c3
  obtain ⟨f0, f1, f2⟩ := BR.f3
  unfold RetBC at HI
  by_cases hk : Pres.tlC ⟨O, W, J⟩ I = 0
  · have hin := Pres.tlC_in hk
    have V := Num.Shp9.of (Pres.con_ok hin.1 : Num.preB O W J = true)
    obtain ⟨-, hI0, hI1⟩ := hin
    replace hI1 : I ≤ (O.length : Int) := hI1
    obtain ⟨i, rfl⟩ := Int.eq_ofNat_of_zero_le hI0
    have hin : i ≤ O.length := by omega
    have e1 : cIsNormalTail ⟨O, W, J⟩ (i : Int) = 0 := hk
    have e2 : rIsNormalTail ⟨O, W, J⟩ (i : Int) = Num.norB O J i := if_pos hk
    rw [e1, e2] at HI
    cases hn : Num.norB O J i with
    | true =>
      rw [hn] at HI
      have hc : Pres.hdC ⟨O, W, J⟩ (i : Int) = 0 := by unfold Pres.hdC; rw [if_pos hk]; exact if_pos hn
      have HR : Hid (rHeadPresentation ⟨O, W, J⟩ (i : Int) = partP O W J 0 i ∧ cHeadPresentation ⟨O, W, J⟩ (i : Int) = 0) := Lib.hid ⟨if_pos hc, hc⟩
      have HPO : Hid (∀ W', Below w.heap.size w W' → Calls Try.prog 59 #[.agg #[.slice A0 O.length c0, .slice A1 W.length c1, .slice A2 J.length c2], .int .i64 0, .int .i64 (i : Int)] W' (Made spPres (partP O W J 0 i) W')) := Lib.hid fun W' hb => partOf_any A0 A1 A2 c0 c1 c2 0 i O W J W' (hO.below' hb) (hW.below' hb) (hJ.below' hb) V (Nat.zero_le _) hin hc0
      have HCNT := Lib.hid (partP_cnt V (a := 0) hin)
      clear hO hW hJ hk hI0 hI1 hc h0' V e1 e2 hn hin
      generalize partP O W J 0 i = y at *
      go_enter Try.func36, Try.ntmps36
      go_wp2_with (fail)
      clear hW0
      refine HI.out.mono ?_; rintro e w1 ⟨rfl, hb1⟩
      have L1 := bstep b0 b0.size hb1
      have hsz := hb1.size
      have BX1 := BX.below hb1
      have BR1 := BR.below hb1
      obtain ⟨bl1, y0, y1, y2⟩ := BX1.c3
      have HC2 := Lib.hid (HPO.out w1 L1)
      clear HI x0 x1 x2 bl br r0 r1 r2 f0 f1 f2 HPO
      go_wp2_with (fail)
      refine HC2.out.mono ?_; rintro e w3 ⟨v, S, rfl, own, hS, hb3⟩
      have L3 := bstep L1 L1.size hb3
      obtain ⟨B0, n0, d0, B1, n1, d1, B2, n2, d2, rfl, -, -, -⟩ := spPres_form (spPres.own_rd own)
      have BR3 := BR1.below hb3
      obtain ⟨br, r0, r1, r2⟩ := BR3.c3
      obtain ⟨f0, f1, f2⟩ := BR3.f3
      have HOWN := Lib.hid own
      clear own HC2 BR1
      go_wp2_with (fail)
      refine bodyPost_ret (v := .tuple #[.agg #[.slice B0 n0 d0, .slice B1 n1 d1, .slice B2 n2 d2], .int .i64 0]) (by simp [results, Try.results36, go_sem, br, r0, r1, r2]) rfl ?_
      rw [HR.out.1, HR.out.2]
      exact madeC_set HOWN.out (fun k hk => by have := hS k hk; omega) HCNT.out L3 (by omega) _ _ _ _
    | false =>
      rw [hn] at HI
      have hc : Pres.hdC ⟨O, W, J⟩ (i : Int) = 5 := by unfold Pres.hdC; rw [if_pos hk]; exact if_neg (by show ¬ Num.norB O J i = true; rw [hn]; simp)
      have HR : Hid (rHeadPresentation ⟨O, W, J⟩ (i : Int) = noPres ∧ cHeadPresentation ⟨O, W, J⟩ (i : Int) = 5) := Lib.hid ⟨if_neg (by rw [hc]; decide), hc⟩
      clear hO hW hJ hk hI0 hI1 hc h0' V e1 e2 hn hin
      go_enter Try.func36, Try.ntmps36
      go_wp2_with (fail)
      clear hW0
      refine HI.out.mono ?_; rintro e w1 ⟨rfl, hb1⟩
      have L1 := bstep b0 b0.size hb1
      have BR1 := BR.below hb1
      clear HI x0 x1 x2 bl br r0 r1 r2 f0 f1 f2
      obtain ⟨br, r0, r1, r2⟩ := BR1.c3
      obtain ⟨f0, f1, f2⟩ := BR1.f3
      go_wp2_with (fail)
      refine bodyPost_ret (v := .tuple #[.agg #[.slice none 0 0, .slice none 0 0, .slice none 0 0], .int .i64 5]) (by simp [results, Try.results36, go_sem, br, r0, r1, r2]) rfl ?_
      rw [HR.out.1, HR.out.2]
      exact noPres_set' L1 (by omega) _ _ _ _
  · have e1 : rIsNormalTail ⟨O, W, J⟩ I = false := if_neg hk
    have e2 : cIsNormalTail ⟨O, W, J⟩ I = Pres.tlC ⟨O, W, J⟩ I := rfl
    have hc : Pres.hdC ⟨O, W, J⟩ I = Pres.tlC ⟨O, W, J⟩ I := if_neg hk
    have HR : Hid (rHeadPresentation ⟨O, W, J⟩ I = noPres ∧ cHeadPresentation ⟨O, W, J⟩ I = Pres.tlC ⟨O, W, J⟩ I) := Lib.hid ⟨if_neg (by rw [hc]; exact hk), hc⟩
    rw [e1, e2] at HI
    generalize Pres.tlC ⟨O, W, J⟩ I = q at *
    have T1 : (q != 0) = true := by simpa using hk
    clear hO hW hJ hc h0' e1 e2 hk
    go_enter Try.func36, Try.ntmps36
    go_wp2_with (fail)
    clear hW0
    refine HI.out.mono ?_; rintro e w1 ⟨rfl, hb1⟩
    have L1 := bstep b0 b0.size hb1
    have BR1 := BR.below hb1
    clear HI x0 x1 x2 bl br r0 r1 r2 f0 f1 f2
    obtain ⟨br, r0, r1, r2⟩ := BR1.c3
    obtain ⟨f0, f1, f2⟩ := BR1.f3
    go_wp2_with (fail)
    refine bodyPost_ret (v := .tuple #[.agg #[.slice none 0 0, .slice none 0 0, .slice none 0 0], .int .i64 q]) (by simp [results, Try.results36, go_sem, br, r0, r1, r2]) rfl ?_
    rw [HR.out.1, HR.out.2]
    exact noPres_set' L1 (by omega) _ _ _ _
set_option maxRecDepth 100000 in
set_option maxHeartbeats 4000000 in
theorem sHeadPresentation_ok (v0 : Value) (p : Pres) (I : Int) (w : World) (h0 : PresK w v0 p) (s0 : spPres.sz p ≤ 1048576) : Calls Try.prog 35 #[v0, .int .i64 I] w (MadeC spPres (rHeadPresentation p I) (cHeadPresentation p I) w) := by
  obtain ⟨O, W, J⟩ := p
  have h0' := h0
  obtain ⟨A0, c0, A1, c1, A2, c2, rfl, ⟨hO, hW, hJ⟩, m0, m1, m2, hc0⟩ := h0
  replace hO : RdI w A0 O := hO
  replace hW : RdWK w A1 W := hW
  replace hJ : RdXM w A2 J := hJ
  replace hc0 : O.length ≤ c0 := hc0
  simp only at h0' m0 ⊢
  by_cases hk : Pres.tlC ⟨O, W, J⟩ I = 0
  · obtain ⟨hcon, hI0, hI1⟩ := Pres.tlC_in hk
    replace hI1 : I ≤ (O.length : Int) := hI1
    obtain ⟨i, rfl⟩ := Int.eq_ofNat_of_zero_le hI0
    have hin : i ≤ O.length := by omega
    cases hn : Num.norB O J i with
    | true =>
      have hc : Pres.hdC ⟨O, W, J⟩ (i : Int) = 0 := by unfold Pres.hdC; rw [if_pos hk]; exact if_pos hn
      have e : rHeadPresentation ⟨O, W, J⟩ (i : Int) = partP O W J 0 i ∧ cHeadPresentation ⟨O, W, J⟩ (i : Int) = 0 := ⟨if_pos hc, hc⟩
      rw [e.1, e.2]
      exact sHead_main A0 A1 A2 c0 c1 c2 i O W J w h0' hO hW hJ hcon hin hn hc0
    | false =>
      have hc : Pres.hdC ⟨O, W, J⟩ (i : Int) = 5 := by unfold Pres.hdC; rw [if_pos hk]; exact if_neg (by show ¬ Num.norB O J i = true; rw [hn]; simp)
      have HR : Hid (rHeadPresentation ⟨O, W, J⟩ (i : Int) = noPres ∧ cHeadPresentation ⟨O, W, J⟩ (i : Int) = 5) := Lib.hid ⟨if_neg (by rw [hc]; decide), hc⟩
      have b0 : Below w.heap.size w ((w.alloc (.cells #[.slice A0 O.length c0, .slice A1 W.length c1, .slice A2 J.length c2] 28)).alloc (.cells #[.slice none 0 0, .slice none 0 0, .slice none 0 0] 28)) := by go_grown
      have BX := (Blk.new w [.slice A0 O.length c0, .slice A1 W.length c1, .slice A2 J.length c2] 28).alloc (.cells #[.slice none 0 0, .slice none 0 0, .slice none 0 0] 28)
      have BR : Blk ((w.alloc (.cells #[.slice A0 O.length c0, .slice A1 W.length c1, .slice A2 J.length c2] 28)).alloc (.cells #[.slice none 0 0, .slice none 0 0, .slice none 0 0] 28)) (w.heap.size + 1) [.slice none 0 0, .slice none 0 0, .slice none 0 0] 28 := by
        have := Blk.new (w.alloc (.cells #[.slice A0 O.length c0, .slice A1 W.length c1, .slice A2 J.length c2] 28)) [.slice none 0 0, .slice none 0 0, .slice none 0 0] 28
        simpa using this
      have hz2 : ((w.alloc (.cells #[.slice A0 O.length c0, .slice A1 W.length c1, .slice A2 J.length c2] 28)).alloc (.cells #[.slice none 0 0, .slice none 0 0, .slice none 0 0] 28)).heap.size = w.heap.size + 2 := by simp
      generalize hW0 : ((w.alloc (.cells #[.slice A0 O.length c0, .slice A1 W.length c1, .slice A2 J.length c2] 28)).alloc (.cells #[.slice none 0 0, .slice none 0 0, .slice none 0 0] 28)) = W0 at *
      obtain ⟨bl, x0, x1, x2⟩ := BX.c3
      obtain ⟨br, r0, r1, r2⟩ := BR.c3
      obtain ⟨f0, f1, f2⟩ := BR.f3
      have HI := Lib.hid (sCode8_any _ ⟨O, W, J⟩ (i : Int) W0 (spPres.rd_below h0'.rd b0))
      rw [hk] at HI
      have HNR : Hid (∀ W', Below w.heap.size w W' → _) := Lib.hid fun W' hbb => sNormal_any A0 A1 A2 c0 c1 c2 O W J i W' (hO.below' hbb) (hJ.below' hbb) (Pres.con_ok hcon) hin
      rw [hn] at HNR
      clear hO hW hJ hk hI0 hI1 hc h0' hn hin hcon
      go_enter Try.func35, Try.ntmps35
      go_wp2_with (fail)
      clear hW0
      refine HI.out.mono ?_; rintro e wA ⟨rfl, hbA⟩
      have LA := bstep b0 b0.size hbA
      have BXA := BX.below hbA
      have BRA := BR.below hbA
      obtain ⟨blA, xA0, xA1, xA2⟩ := BXA.c3
      have HNA := Lib.hid (HNR.out wA LA)
      clear HI HNR x0 x1 x2 bl br r0 r1 r2 f0 f1 f2
      go_wp2_with (fail)
      refine HNA.out.mono ?_; rintro e wB ⟨rfl, hbB⟩
      have LB := bstep LA LA.size hbB
      obtain ⟨br, r0, r1, r2⟩ := (BRA.below hbB).c3
      obtain ⟨f0, f1, f2⟩ := (BRA.below hbB).f3
      go_wp2_with (fail)
      refine bodyPost_ret (v := .tuple #[.agg #[.slice none 0 0, .slice none 0 0, .slice none 0 0], .int .i64 5]) (by simp [results, Try.results35, go_sem, br, r0, r1, r2]) rfl ?_
      rw [HR.out.1, HR.out.2]
      exact noPres_set' LB (by omega) _ _ _ _
  · have hc : Pres.hdC ⟨O, W, J⟩ I = Pres.tlC ⟨O, W, J⟩ I := if_neg hk
    have HR : Hid (rHeadPresentation ⟨O, W, J⟩ I = noPres ∧ cHeadPresentation ⟨O, W, J⟩ I = Pres.tlC ⟨O, W, J⟩ I) := Lib.hid ⟨if_neg (by rw [hc]; exact hk), hc⟩
    have b0 : Below w.heap.size w ((w.alloc (.cells #[.slice A0 O.length c0, .slice A1 W.length c1, .slice A2 J.length c2] 28)).alloc (.cells #[.slice none 0 0, .slice none 0 0, .slice none 0 0] 28)) := by go_grown
    have BX := (Blk.new w [.slice A0 O.length c0, .slice A1 W.length c1, .slice A2 J.length c2] 28).alloc (.cells #[.slice none 0 0, .slice none 0 0, .slice none 0 0] 28)
    have BR : Blk ((w.alloc (.cells #[.slice A0 O.length c0, .slice A1 W.length c1, .slice A2 J.length c2] 28)).alloc (.cells #[.slice none 0 0, .slice none 0 0, .slice none 0 0] 28)) (w.heap.size + 1) [.slice none 0 0, .slice none 0 0, .slice none 0 0] 28 := by
      have := Blk.new (w.alloc (.cells #[.slice A0 O.length c0, .slice A1 W.length c1, .slice A2 J.length c2] 28)) [.slice none 0 0, .slice none 0 0, .slice none 0 0] 28
      simpa using this
    have hz2 : ((w.alloc (.cells #[.slice A0 O.length c0, .slice A1 W.length c1, .slice A2 J.length c2] 28)).alloc (.cells #[.slice none 0 0, .slice none 0 0, .slice none 0 0] 28)).heap.size = w.heap.size + 2 := by simp
    generalize hW0 : ((w.alloc (.cells #[.slice A0 O.length c0, .slice A1 W.length c1, .slice A2 J.length c2] 28)).alloc (.cells #[.slice none 0 0, .slice none 0 0, .slice none 0 0] 28)) = W0 at *
    obtain ⟨bl, x0, x1, x2⟩ := BX.c3
    obtain ⟨br, r0, r1, r2⟩ := BR.c3
    obtain ⟨f0, f1, f2⟩ := BR.f3
    have HI := Lib.hid (sCode8_any _ ⟨O, W, J⟩ I W0 (spPres.rd_below h0'.rd b0))
    generalize Pres.tlC ⟨O, W, J⟩ I = q at *
    have T1 : (q != 0) = true := by simpa using hk
    clear hO hW hJ hc h0' hk
    go_enter Try.func35, Try.ntmps35
    go_wp2_with (fail)
    clear hW0
    refine HI.out.mono ?_; rintro e wA ⟨rfl, hbA⟩
    have LA := bstep b0 b0.size hbA
    have BRA := BR.below hbA
    clear HI x0 x1 x2 bl br r0 r1 r2 f0 f1 f2
    obtain ⟨br, r0, r1, r2⟩ := BRA.c3
    obtain ⟨f0, f1, f2⟩ := BRA.f3
    go_wp2_with (fail)
    refine bodyPost_ret (v := .tuple #[.agg #[.slice none 0 0, .slice none 0 0, .slice none 0 0], .int .i64 q]) (by simp [results, Try.results35, go_sem, br, r0, r1, r2]) rfl ?_
    rw [HR.out.1, HR.out.2]
    exact noPres_set' LA (by omega) _ _ _ _
end Go.Proofs.Ytahmhdpgdhfjnaa
namespace Go.Proofs.Ytahmhdpgdhfjnaa
open Go.RowKit
set_option linter.unusedVariables false
set_option linter.unusedSimpArgs false

set_option maxRecDepth 100000 in
set_option maxHeartbeats 4000000 in
theorem fnExactHeadPresentation_run (v0 : Value) (x0 : Pres) (x1 : Int) (w : World) (h0 : spPres.rd w v0 x0) :
    Calls Try.prog 7 #[v0, .int .i64 x1] w fun e w' => e = .returned (.bool true) ∧ Below w.heap.size w w' := by
  obtain ⟨Aa0_0, na0_0, ca0_0, Aa0_1, na0_1, ca0_1, Aa0_2, na0_2, ca0_2, rfl, -, -, -⟩ := spPres_form h0
  have L : Below w.heap.size w (w.alloc (.cells [.slice Aa0_0 na0_0 ca0_0, .slice Aa0_1 na0_1 ca0_1, .slice Aa0_2 na0_2 ca0_2].toArray 47)) := by go_grown
  have Ba0 : Blk (w.alloc (.cells [.slice Aa0_0 na0_0 ca0_0, .slice Aa0_1 na0_1 ca0_1, .slice Aa0_2 na0_2 ca0_2].toArray 47)) (w.heap.size) [.slice Aa0_0 na0_0 ca0_0, .slice Aa0_1 na0_1 ca0_1, .slice Aa0_2 na0_2 ca0_2] 47 := by have := Blk.new w [.slice Aa0_0 na0_0 ca0_0, .slice Aa0_1 na0_1 ca0_1, .slice Aa0_2 na0_2 ca0_2] 47; simpa only [World.size_alloc] using this
  have RW0 := Lib.hid h0
  clear h0
  by_cases s0 : (spPres.sz x0 : Int) ≤ 1048576
  · have s0' : spPres.sz x0 ≤ 1048576 := by omega
    obtain ⟨ba0l, ba00, ba01, ba02⟩ := Ba0.c3
    have HC := Lib.hid (szPres_ok (.agg #[.slice Aa0_0 na0_0 ca0_0, .slice Aa0_1 na0_1 ca0_1, .slice Aa0_2 na0_2 ca0_2]) x0 (1048576) (w.alloc (.cells [.slice Aa0_0 na0_0 ca0_0, .slice Aa0_1 na0_1 ca0_1, .slice Aa0_2 na0_2 ca0_2].toArray 47)) (spPres.rd_below RW0.out L) (by omega) (by omega))
    rw [szLeft_yes (n := spPres.sz x0) (left := 1048576) (by omega)] at HC
    have g0 : 0 ≤ 1048576 - (spPres.sz x0 : Int) := by omega
    have g0' : 1048576 - (spPres.sz x0 : Int) ≤ 1048576 := by omega
    go_enter Try.func7, Try.ntmps7
    go_wp2_with (fail)
    refine HC.out.mono ?_; rintro e w1 ⟨rfl, hb⟩
    clear ba0l ba00 ba01 ba02
    clear HC
    replace Ba0 := Ba0.below hb
    replace L := bstep L L.size hb
    clear hb
    obtain ⟨ba0l, ba00, ba01, ba02⟩ := Ba0.c3
    go_wp2_with (fail)
    refine (toPres_ok (.agg #[.slice Aa0_0 na0_0 ca0_0, .slice Aa0_1 na0_1 ca0_1, .slice Aa0_2 na0_2 ca0_2]) x0 w1 (spPres.rd_below RW0.out L) s0').mono ?_; rintro e w2 ⟨up0, Sp0, rfl, owp0, hSp0, hb⟩
    clear ba0l ba00 ba01 ba02
    have Na0_p0 : ¬ Sp0 (w.heap.size) := fun g => by have := hSp0 _ g; have := Ba0.lt; omega
    have Hp0 : Hid (∀ k, Sp0 k → w.heap.size ≤ k) := Lib.hid fun k g => by have := hSp0 k g; have := L.size; omega
    replace Ba0 := Ba0.below hb
    replace L := bstep L L.size hb
    clear hb hSp0
    obtain ⟨Ap0_0, np0_0, cp0_0, Ap0_1, np0_1, cp0_1, Ap0_2, np0_2, cp0_2, rfl, -, -, -⟩ := spPres_form (spPres.own_rd owp0)
    have Op0 := Lib.hid owp0
    clear owp0
    obtain ⟨ba0l, ba00, ba01, ba02⟩ := Ba0.c3
    go_wp2_with (fail)
    refine (sHeadPresentation_ok (.agg #[.slice Ap0_0 np0_0 cp0_0, .slice Ap0_1 np0_1 cp0_1, .slice Ap0_2 np0_2 cp0_2]) x0 x1 w2 (presK_of Op0.out) s0').mono ?_; rintro e w3 ⟨uw0, Sw0, rfl, oww0, hSw0, hcnt, hb⟩
    clear ba0l ba00 ba01 ba02
    clear hcnt
    have Dp0_w0 : Hid (∀ k, Sp0 k → ¬ Sw0 k) := Lib.hid fun k g1 g2 => by have := spPres.own_lt Op0.out g1; have := hSw0 k g2; omega
    have Na0_w0 : ¬ Sw0 (w.heap.size) := fun g => by have := hSw0 _ g; have := Ba0.lt; omega
    have Hw0 : Hid (∀ k, Sw0 k → w.heap.size ≤ k) := Lib.hid fun k g => by have := hSw0 k g; have := L.size; omega
    replace Op0 := Lib.hid (spPres.own_below Op0.out hb)
    replace Ba0 := Ba0.below hb
    replace L := bstep L L.size hb
    clear hb hSw0
    obtain ⟨Aw0_0, nw0_0, cw0_0, Aw0_1, nw0_1, cw0_1, Aw0_2, nw0_2, cw0_2, rfl, -, -, -⟩ := spPres_form (spPres.own_rd oww0)
    have Ow0 := Lib.hid oww0
    clear oww0
    have Bw0 := Blk.new w3 [.slice Aw0_0 nw0_0 cw0_0, .slice Aw0_1 nw0_1 cw0_1, .slice Aw0_2 nw0_2 cw0_2] 28
    have Nw0_p0 : ¬ Sp0 w3.heap.size := fun g => by have := spPres.own_lt Op0.out g; omega
    have Nw0_w0 : ¬ Sw0 w3.heap.size := fun g => by have := spPres.own_lt Ow0.out g; omega
    have hbx : Below w3.heap.size w3 (w3.alloc (.cells [.slice Aw0_0 nw0_0 cw0_0, .slice Aw0_1 nw0_1 cw0_1, .slice Aw0_2 nw0_2 cw0_2].toArray 28)) := (Below.refl _ _).alloc (Nat.le_refl _) _
    replace Op0 := Lib.hid (spPres.own_below Op0.out hbx)
    replace Ow0 := Lib.hid (spPres.own_below Ow0.out hbx)
    replace Ba0 := Ba0.below hbx
    replace L := bstep L L.size hbx
    clear hbx
    obtain ⟨ba0l, ba00, ba01, ba02⟩ := Ba0.c3
    obtain ⟨bw0l, bw00, bw01, bw02⟩ := Bw0.c3
    go_wp2_with (fail)
    refine (toPres_ok (.agg #[.slice Aa0_0 na0_0 ca0_0, .slice Aa0_1 na0_1 ca0_1, .slice Aa0_2 na0_2 ca0_2]) x0 (w3.alloc (.cells [.slice Aw0_0 nw0_0 cw0_0, .slice Aw0_1 nw0_1 cw0_1, .slice Aw0_2 nw0_2 cw0_2].toArray 28)) (spPres.rd_below RW0.out L) s0').mono ?_; rintro e w4 ⟨uq0, Sq0, rfl, owq0, hSq0, hb⟩
    clear ba0l ba00 ba01 ba02 bw0l bw00 bw01 bw02
    have Dw0_q0 : Hid (∀ k, Sw0 k → ¬ Sq0 k) := Lib.hid fun k g1 g2 => by have := spPres.own_lt Ow0.out g1; have := hSq0 k g2; omega
    have Na0_q0 : ¬ Sq0 (w.heap.size) := fun g => by have := hSq0 _ g; have := Ba0.lt; omega
    have Nw0_q0 : ¬ Sq0 w3.heap.size := fun g => by have := hSq0 _ g; have := Bw0.lt; omega
    have Hq0 : Hid (∀ k, Sq0 k → w.heap.size ≤ k) := Lib.hid fun k g => by have := hSq0 k g; have := L.size; omega
    replace Ow0 := Lib.hid (spPres.own_below Ow0.out hb)
    replace Ba0 := Ba0.below hb
    replace Bw0 := Bw0.below hb
    replace L := bstep L L.size hb
    clear hb hSq0
    obtain ⟨Aq0_0, nq0_0, cq0_0, Aq0_1, nq0_1, cq0_1, Aq0_2, nq0_2, cq0_2, rfl, -, -, -⟩ := spPres_form (spPres.own_rd owq0)
    have Oq0 := Lib.hid owq0
    clear owq0
    have Bq0 := Blk.new w4 [.slice Aq0_0 nq0_0 cq0_0, .slice Aq0_1 nq0_1 cq0_1, .slice Aq0_2 nq0_2 cq0_2] 28
    have Nq0_w0 : ¬ Sw0 w4.heap.size := fun g => by have := spPres.own_lt Ow0.out g; omega
    have Nq0_q0 : ¬ Sq0 w4.heap.size := fun g => by have := spPres.own_lt Oq0.out g; omega
    have hbx : Below w4.heap.size w4 (w4.alloc (.cells [.slice Aq0_0 nq0_0 cq0_0, .slice Aq0_1 nq0_1 cq0_1, .slice Aq0_2 nq0_2 cq0_2].toArray 28)) := (Below.refl _ _).alloc (Nat.le_refl _) _
    replace Ow0 := Lib.hid (spPres.own_below Ow0.out hbx)
    replace Oq0 := Lib.hid (spPres.own_below Oq0.out hbx)
    replace Ba0 := Ba0.below hbx
    replace Bw0 := Bw0.below hbx
    replace L := bstep L L.size hbx
    clear hbx
    obtain ⟨ba0l, ba00, ba01, ba02⟩ := Ba0.c3
    obtain ⟨bw0l, bw00, bw01, bw02⟩ := Bw0.c3
    obtain ⟨bq0l, bq00, bq01, bq02⟩ := Bq0.c3
    go_wp2_with (fail)
    refine (iHeadPresentation_ok (.agg #[.slice Aq0_0 nq0_0 cq0_0, .slice Aq0_1 nq0_1 cq0_1, .slice Aq0_2 nq0_2 cq0_2]) x0 x1 (w4.alloc (.cells [.slice Aq0_0 nq0_0 cq0_0, .slice Aq0_1 nq0_1 cq0_1, .slice Aq0_2 nq0_2 cq0_2].toArray 28)) (presK_of Oq0.out) s0').mono ?_; rintro e w5 ⟨ug0, Sg0, rfl, owg0, hSg0, hcnt, hb⟩
    clear ba0l ba00 ba01 ba02 bw0l bw00 bw01 bw02 bq0l bq00 bq01 bq02
    have Dw0_g0 : Hid (∀ k, Sw0 k → ¬ Sg0 k) := Lib.hid fun k g1 g2 => by have := spPres.own_lt Ow0.out g1; have := hSg0 k g2; omega
    have Dq0_g0 : Hid (∀ k, Sq0 k → ¬ Sg0 k) := Lib.hid fun k g1 g2 => by have := spPres.own_lt Oq0.out g1; have := hSg0 k g2; omega
    have Na0_g0 : ¬ Sg0 (w.heap.size) := fun g => by have := hSg0 _ g; have := Ba0.lt; omega
    have Nw0_g0 : ¬ Sg0 w3.heap.size := fun g => by have := hSg0 _ g; have := Bw0.lt; omega
    have Nq0_g0 : ¬ Sg0 w4.heap.size := fun g => by have := hSg0 _ g; have := Bq0.lt; omega
    have Hg0 : Hid (∀ k, Sg0 k → w.heap.size ≤ k) := Lib.hid fun k g => by have := hSg0 k g; have := L.size; omega
    replace Ow0 := Lib.hid (spPres.own_below Ow0.out hb)
    replace Oq0 := Lib.hid (spPres.own_below Oq0.out hb)
    replace Ba0 := Ba0.below hb
    replace Bw0 := Bw0.below hb
    replace Bq0 := Bq0.below hb
    replace L := bstep L L.size hb
    clear hb hSg0
    obtain ⟨Ag0_0, ng0_0, cg0_0, Ag0_1, ng0_1, cg0_1, Ag0_2, ng0_2, cg0_2, rfl, -, -, -⟩ := spPres_form (spPres.own_rd owg0)
    have Og0 := Lib.hid owg0
    clear owg0
    have Bg0 := Blk.new w5 [.slice Ag0_0 ng0_0 cg0_0, .slice Ag0_1 ng0_1 cg0_1, .slice Ag0_2 ng0_2 cg0_2] 28
    have Ng0_w0 : ¬ Sw0 w5.heap.size := fun g => by have := spPres.own_lt Ow0.out g; omega
    have Ng0_q0 : ¬ Sq0 w5.heap.size := fun g => by have := spPres.own_lt Oq0.out g; omega
    have Ng0_g0 : ¬ Sg0 w5.heap.size := fun g => by have := spPres.own_lt Og0.out g; omega
    have hbx : Below w5.heap.size w5 (w5.alloc (.cells [.slice Ag0_0 ng0_0 cg0_0, .slice Ag0_1 ng0_1 cg0_1, .slice Ag0_2 ng0_2 cg0_2].toArray 28)) := (Below.refl _ _).alloc (Nat.le_refl _) _
    replace Ow0 := Lib.hid (spPres.own_below Ow0.out hbx)
    replace Oq0 := Lib.hid (spPres.own_below Oq0.out hbx)
    replace Og0 := Lib.hid (spPres.own_below Og0.out hbx)
    replace Ba0 := Ba0.below hbx
    replace Bw0 := Bw0.below hbx
    replace Bq0 := Bq0.below hbx
    replace L := bstep L L.size hbx
    clear hbx
    obtain ⟨ba0l, ba00, ba01, ba02⟩ := Ba0.c3
    obtain ⟨bw0l, bw00, bw01, bw02⟩ := Bw0.c3
    obtain ⟨bq0l, bq00, bq01, bq02⟩ := Bq0.c3
    obtain ⟨bg0l, bg00, bg01, bg02⟩ := Bg0.c3
    go_wp2_with (fail)
    refine (eqPres_ok (.agg #[.slice Ag0_0 ng0_0 cg0_0, .slice Ag0_1 ng0_1 cg0_1, .slice Ag0_2 ng0_2 cg0_2]) (.agg #[.slice Aw0_0 nw0_0 cw0_0, .slice Aw0_1 nw0_1 cw0_1, .slice Aw0_2 nw0_2 cw0_2]) (rHeadPresentation x0 x1) (w5.alloc (.cells [.slice Ag0_0 ng0_0 cg0_0, .slice Ag0_1 ng0_1 cg0_1, .slice Ag0_2 ng0_2 cg0_2].toArray 28)) (spPres.own_rd Og0.out) (spPres.own_rd Ow0.out)).mono ?_; rintro e w6 ⟨rfl, hb⟩
    clear ba0l ba00 ba01 ba02 bw0l bw00 bw01 bw02 bq0l bq00 bq01 bq02 bg0l bg00 bg01 bg02
    replace Ow0 := Lib.hid (spPres.own_below Ow0.out hb)
    replace Oq0 := Lib.hid (spPres.own_below Oq0.out hb)
    replace Og0 := Lib.hid (spPres.own_below Og0.out hb)
    replace Ba0 := Ba0.below hb
    replace Bw0 := Bw0.below hb
    replace Bq0 := Bq0.below hb
    replace Bg0 := Bg0.below hb
    replace L := bstep L L.size hb
    clear hb
    obtain ⟨ba0l, ba00, ba01, ba02⟩ := Ba0.c3
    obtain ⟨bw0l, bw00, bw01, bw02⟩ := Bw0.c3
    obtain ⟨bq0l, bq00, bq01, bq02⟩ := Bq0.c3
    obtain ⟨bg0l, bg00, bg01, bg02⟩ := Bg0.c3
    have HT := Lib.hid (toPres_ok (.agg #[.slice Aa0_0 na0_0 ca0_0, .slice Aa0_1 na0_1 ca0_1, .slice Aa0_2 na0_2 ca0_2]) x0 w6.drew (spPres.rd_drew (spPres.rd_below RW0.out L)) s0')
    go_wp2_with (fail)
    go_region_held3 (fun wx => wx.cell? ⟨w4.heap.size, 0, none⟩ = some (.slice Aq0_0 nq0_0 cq0_0) ∧ wx.cell? ⟨w4.heap.size, 1, none⟩ = some (.slice Aq0_1 nq0_1 cq0_1) ∧ wx.cell? ⟨w4.heap.size, 2, none⟩ = some (.slice Aq0_2 nq0_2 cq0_2) ∧ wx.cell? ⟨(w.heap.size), 0, none⟩ = some (.slice Aa0_0 na0_0 ca0_0) ∧ wx.cell? ⟨(w.heap.size), 1, none⟩ = some (.slice Aa0_1 na0_1 ca0_1) ∧ wx.cell? ⟨(w.heap.size), 2, none⟩ = some (.slice Aa0_2 na0_2 ca0_2)) (first | go_keep | assumption) (first | (go_at_call 29; refine HT.out.mono ?_; rintro e w7 ⟨ut0, St0, rfl, owt0, hSt0, hb⟩; have SM : w7.cell? ⟨w4.heap.size, 0, none⟩ = some (.slice Aq0_0 nq0_0 cq0_0) ∧ w7.cell? ⟨w4.heap.size, 1, none⟩ = some (.slice Aq0_1 nq0_1 cq0_1) ∧ w7.cell? ⟨w4.heap.size, 2, none⟩ = some (.slice Aq0_2 nq0_2 cq0_2) ∧ w7.cell? ⟨(w.heap.size), 0, none⟩ = some (.slice Aa0_0 na0_0 ca0_0) ∧ w7.cell? ⟨(w.heap.size), 1, none⟩ = some (.slice Aa0_1 na0_1 ca0_1) ∧ w7.cell? ⟨(w.heap.size), 2, none⟩ = some (.slice Aa0_2 na0_2 ca0_2) := ⟨(Blk.cell (Bq0.drew.below hb) 0 (by simp)), (Blk.cell (Bq0.drew.below hb) 1 (by simp)), (Blk.cell (Bq0.drew.below hb) 2 (by simp)), (Blk.cell (Ba0.drew.below hb) 0 (by simp)), (Blk.cell (Ba0.drew.below hb) 1 (by simp)), (Blk.cell (Ba0.drew.below hb) 2 (by simp))⟩) | (go_at_call 30; refine (eqPres_ok (.agg #[.slice Aq0_0 nq0_0 cq0_0, .slice Aq0_1 nq0_1 cq0_1, .slice Aq0_2 nq0_2 cq0_2]) _ x0 _ (spPres.rd_below (spPres.rd_drew (spPres.own_rd Oq0.out)) hb) (spPres.own_rd owt0)).mono ?_; rintro e w8 ⟨rfl, hb2⟩; have SM2 : w8.cell? ⟨w4.heap.size, 0, none⟩ = some (.slice Aq0_0 nq0_0 cq0_0) ∧ w8.cell? ⟨w4.heap.size, 1, none⟩ = some (.slice Aq0_1 nq0_1 cq0_1) ∧ w8.cell? ⟨w4.heap.size, 2, none⟩ = some (.slice Aq0_2 nq0_2 cq0_2) ∧ w8.cell? ⟨(w.heap.size), 0, none⟩ = some (.slice Aa0_0 na0_0 ca0_0) ∧ w8.cell? ⟨(w.heap.size), 1, none⟩ = some (.slice Aa0_1 na0_1 ca0_1) ∧ w8.cell? ⟨(w.heap.size), 2, none⟩ = some (.slice Aa0_2 na0_2 ca0_2) := ⟨(Blk.cell ((Bq0.drew.below hb).below hb2) 0 (by simp)), (Blk.cell ((Bq0.drew.below hb).below hb2) 1 (by simp)), (Blk.cell ((Bq0.drew.below hb).below hb2) 2 (by simp)), (Blk.cell ((Ba0.drew.below hb).below hb2) 0 (by simp)), (Blk.cell ((Ba0.drew.below hb).below hb2) 1 (by simp)), (Blk.cell ((Ba0.drew.below hb).below hb2) 2 (by simp))⟩))
    clear ba0l ba00 ba01 ba02 bw0l bw00 bw01 bw02 bq0l bq00 bq01 bq02 bg0l bg00 bg01 bg02
    have hd : Below w6.heap.size w6 w6.drew := (Below.refl _ _).drew
    replace Ow0 := Lib.hid (spPres.own_below Ow0.out hd)
    replace Oq0 := Lib.hid (spPres.own_below Oq0.out hd)
    replace Og0 := Lib.hid (spPres.own_below Og0.out hd)
    replace Ba0 := Ba0.below hd
    replace Bw0 := Bw0.below hd
    replace Bq0 := Bq0.below hd
    replace Bg0 := Bg0.below hd
    replace L := bstep L L.size hd
    replace Ow0 := Lib.hid (spPres.own_below Ow0.out hb)
    replace Oq0 := Lib.hid (spPres.own_below Oq0.out hb)
    replace Og0 := Lib.hid (spPres.own_below Og0.out hb)
    replace Ba0 := Ba0.below hb
    replace Bw0 := Bw0.below hb
    replace Bq0 := Bq0.below hb
    replace Bg0 := Bg0.below hb
    replace L := bstep L L.size hb
    replace Ow0 := Lib.hid (spPres.own_below Ow0.out hb2)
    replace Oq0 := Lib.hid (spPres.own_below Oq0.out hb2)
    replace Og0 := Lib.hid (spPres.own_below Og0.out hb2)
    replace Ba0 := Ba0.below hb2
    replace Bw0 := Bw0.below hb2
    replace Bq0 := Bq0.below hb2
    replace Bg0 := Bg0.below hb2
    replace L := bstep L L.size hb2
    clear hd hb hb2 HT SM SM2 owt0 hSt0
    have e0 := spPres_cnt x0
    obtain ⟨ba0l, ba00, ba01, ba02⟩ := Ba0.c3
    obtain ⟨bw0l, bw00, bw01, bw02⟩ := Bw0.c3
    obtain ⟨bq0l, bq00, bq01, bq02⟩ := Bq0.c3
    obtain ⟨bg0l, bg00, bg01, bg02⟩ := Bg0.c3
    go_wp2_with (fail)
    refine (markPres_ok Sq0 (.agg #[.slice Aq0_0 nq0_0 cq0_0, .slice Aq0_1 nq0_1 cq0_1, .slice Aq0_2 nq0_2 cq0_2]) x0 (1) w8 Oq0.out (by omega) (by omega)).mono ?_; rintro e w9 ⟨rfl, ow, ch⟩
    clear ba0l ba00 ba01 ba02 bw0l bw00 bw01 bw02 bq0l bq00 bq01 bq02 bg0l bg00 bg01 bg02
    replace Ow0 := Lib.hid (spPres.own_chg Ow0.out ch Dw0_q0.out)
    replace Og0 := Lib.hid (spPres.own_chg Og0.out ch (fun k g1 g2 => Dq0_g0.out k g2 g1))
    replace Ba0 := Ba0.chg ch Na0_q0
    replace Bw0 := Bw0.chg ch Nw0_q0
    replace Bq0 := Bq0.chg ch Nq0_q0
    replace Bg0 := Bg0.chg ch Ng0_q0
    replace L := bstepS L L.size Hq0.out ch
    replace Oq0 := Lib.hid ow
    clear ow ch
    have kp0 : 0 ≤ 1 + (spPres.cnt x0 : Int) := by omega
    obtain ⟨ba0l, ba00, ba01, ba02⟩ := Ba0.c3
    obtain ⟨bw0l, bw00, bw01, bw02⟩ := Bw0.c3
    obtain ⟨bq0l, bq00, bq01, bq02⟩ := Bq0.c3
    obtain ⟨bg0l, bg00, bg01, bg02⟩ := Bg0.c3
    go_wp2_with (fail)
    refine (eqPres_ok (.agg #[.slice Ag0_0 ng0_0 cg0_0, .slice Ag0_1 ng0_1 cg0_1, .slice Ag0_2 ng0_2 cg0_2]) (.agg #[.slice Aw0_0 nw0_0 cw0_0, .slice Aw0_1 nw0_1 cw0_1, .slice Aw0_2 nw0_2 cw0_2]) (rHeadPresentation x0 x1) w9 (spPres.own_rd Og0.out) (spPres.own_rd Ow0.out)).mono ?_; rintro e w10 ⟨rfl, hb⟩
    clear ba0l ba00 ba01 ba02 bw0l bw00 bw01 bw02 bq0l bq00 bq01 bq02 bg0l bg00 bg01 bg02
    replace Ow0 := Lib.hid (spPres.own_below Ow0.out hb)
    replace Oq0 := Lib.hid (spPres.own_below Oq0.out hb)
    replace Og0 := Lib.hid (spPres.own_below Og0.out hb)
    replace Ba0 := Ba0.below hb
    replace Bw0 := Bw0.below hb
    replace Bq0 := Bq0.below hb
    replace Bg0 := Bg0.below hb
    replace L := bstep L L.size hb
    clear hb
    obtain ⟨ba0l, ba00, ba01, ba02⟩ := Ba0.c3
    obtain ⟨bw0l, bw00, bw01, bw02⟩ := Bw0.c3
    obtain ⟨bg0l, bg00, bg01, bg02⟩ := Bg0.c3
    go_wp2_with (fail)
    refine (markPres_ok Sg0 (.agg #[.slice Ag0_0 ng0_0 cg0_0, .slice Ag0_1 ng0_1 cg0_1, .slice Ag0_2 ng0_2 cg0_2]) (rHeadPresentation x0 x1) (1) w10 Og0.out (by omega) (by omega)).mono ?_; rintro e w11 ⟨rfl, ow, ch⟩
    clear ba0l ba00 ba01 ba02 bw0l bw00 bw01 bw02 bg0l bg00 bg01 bg02
    replace Ow0 := Lib.hid (spPres.own_chg Ow0.out ch Dw0_g0.out)
    replace Ba0 := Ba0.chg ch Na0_g0
    replace Bw0 := Bw0.chg ch Nw0_g0
    replace Bg0 := Bg0.chg ch Ng0_g0
    replace L := bstepS L L.size Hg0.out ch
    replace Og0 := Lib.hid ow
    clear ow ch
    have km : 0 ≤ 1 + (spPres.cnt (rHeadPresentation x0 x1) : Int) := by omega
    obtain ⟨ba0l, ba00, ba01, ba02⟩ := Ba0.c3
    obtain ⟨bw0l, bw00, bw01, bw02⟩ := Bw0.c3
    obtain ⟨bg0l, bg00, bg01, bg02⟩ := Bg0.c3
    go_wp2_with (fail)
    refine (heldPres_ok (.agg #[.slice Ag0_0 ng0_0 cg0_0, .slice Ag0_1 ng0_1 cg0_1, .slice Ag0_2 ng0_2 cg0_2]) (rHeadPresentation x0 x1) 1 w11 (spPres.own_rd Og0.out) (by omega) (by omega)).mono ?_; rintro e w12 ⟨rfl, hb⟩
    clear ba0l ba00 ba01 ba02 bw0l bw00 bw01 bw02 bg0l bg00 bg01 bg02
    replace Ow0 := Lib.hid (spPres.own_below Ow0.out hb)
    replace Og0 := Lib.hid (spPres.own_below Og0.out hb)
    replace Ba0 := Ba0.below hb
    replace Bw0 := Bw0.below hb
    replace Bg0 := Bg0.below hb
    replace L := bstep L L.size hb
    clear hb
    obtain ⟨ba0l, ba00, ba01, ba02⟩ := Ba0.c3
    obtain ⟨bw0l, bw00, bw01, bw02⟩ := Bw0.c3
    obtain ⟨bg0l, bg00, bg01, bg02⟩ := Bg0.c3
    go_wp2_with (fail)
    refine (toPres_ok (.agg #[.slice Aa0_0 na0_0 ca0_0, .slice Aa0_1 na0_1 ca0_1, .slice Aa0_2 na0_2 ca0_2]) x0 w12 (spPres.rd_below RW0.out L) s0').mono ?_; rintro e w13 ⟨ur0, Sr0, rfl, owr0, hSr0, hb⟩
    clear ba0l ba00 ba01 ba02 bw0l bw00 bw01 bw02 bg0l bg00 bg01 bg02
    have Dw0_r0 : Hid (∀ k, Sw0 k → ¬ Sr0 k) := Lib.hid fun k g1 g2 => by have := spPres.own_lt Ow0.out g1; have := hSr0 k g2; omega
    have Dg0_r0 : Hid (∀ k, Sg0 k → ¬ Sr0 k) := Lib.hid fun k g1 g2 => by have := spPres.own_lt Og0.out g1; have := hSr0 k g2; omega
    have Na0_r0 : ¬ Sr0 (w.heap.size) := fun g => by have := hSr0 _ g; have := Ba0.lt; omega
    have Nw0_r0 : ¬ Sr0 w3.heap.size := fun g => by have := hSr0 _ g; have := Bw0.lt; omega
    have Ng0_r0 : ¬ Sr0 w5.heap.size := fun g => by have := hSr0 _ g; have := Bg0.lt; omega
    have Hr0 : Hid (∀ k, Sr0 k → w.heap.size ≤ k) := Lib.hid fun k g => by have := hSr0 k g; have := L.size; omega
    replace Ow0 := Lib.hid (spPres.own_below Ow0.out hb)
    replace Og0 := Lib.hid (spPres.own_below Og0.out hb)
    replace Ba0 := Ba0.below hb
    replace Bw0 := Bw0.below hb
    replace Bg0 := Bg0.below hb
    replace L := bstep L L.size hb
    clear hb hSr0
    obtain ⟨Ar0_0, nr0_0, cr0_0, Ar0_1, nr0_1, cr0_1, Ar0_2, nr0_2, cr0_2, rfl, -, -, -⟩ := spPres_form (spPres.own_rd owr0)
    have Or0 := Lib.hid owr0
    clear owr0
    obtain ⟨ba0l, ba00, ba01, ba02⟩ := Ba0.c3
    obtain ⟨bw0l, bw00, bw01, bw02⟩ := Bw0.c3
    obtain ⟨bg0l, bg00, bg01, bg02⟩ := Bg0.c3
    go_wp2_with (fail)
    refine (iHeadPresentation_ok (.agg #[.slice Ar0_0 nr0_0 cr0_0, .slice Ar0_1 nr0_1 cr0_1, .slice Ar0_2 nr0_2 cr0_2]) x0 x1 w13 (presK_of Or0.out) s0').mono ?_; rintro e w14 ⟨uh0, Sh0, rfl, owh0, hSh0, hcnt, hb⟩
    clear ba0l ba00 ba01 ba02 bw0l bw00 bw01 bw02 bg0l bg00 bg01 bg02
    clear hcnt
    have Dw0_h0 : Hid (∀ k, Sw0 k → ¬ Sh0 k) := Lib.hid fun k g1 g2 => by have := spPres.own_lt Ow0.out g1; have := hSh0 k g2; omega
    have Dg0_h0 : Hid (∀ k, Sg0 k → ¬ Sh0 k) := Lib.hid fun k g1 g2 => by have := spPres.own_lt Og0.out g1; have := hSh0 k g2; omega
    have Dr0_h0 : Hid (∀ k, Sr0 k → ¬ Sh0 k) := Lib.hid fun k g1 g2 => by have := spPres.own_lt Or0.out g1; have := hSh0 k g2; omega
    have Na0_h0 : ¬ Sh0 (w.heap.size) := fun g => by have := hSh0 _ g; have := Ba0.lt; omega
    have Nw0_h0 : ¬ Sh0 w3.heap.size := fun g => by have := hSh0 _ g; have := Bw0.lt; omega
    have Ng0_h0 : ¬ Sh0 w5.heap.size := fun g => by have := hSh0 _ g; have := Bg0.lt; omega
    have Hh0 : Hid (∀ k, Sh0 k → w.heap.size ≤ k) := Lib.hid fun k g => by have := hSh0 k g; have := L.size; omega
    replace Ow0 := Lib.hid (spPres.own_below Ow0.out hb)
    replace Og0 := Lib.hid (spPres.own_below Og0.out hb)
    replace Or0 := Lib.hid (spPres.own_below Or0.out hb)
    replace Ba0 := Ba0.below hb
    replace Bw0 := Bw0.below hb
    replace Bg0 := Bg0.below hb
    replace L := bstep L L.size hb
    clear hb hSh0
    obtain ⟨Ah0_0, nh0_0, ch0_0, Ah0_1, nh0_1, ch0_1, Ah0_2, nh0_2, ch0_2, rfl, -, -, -⟩ := spPres_form (spPres.own_rd owh0)
    have Oh0 := Lib.hid owh0
    clear owh0
    have Bh0 := Blk.new w14 [.slice Ah0_0 nh0_0 ch0_0, .slice Ah0_1 nh0_1 ch0_1, .slice Ah0_2 nh0_2 ch0_2] 28
    have Nh0_w0 : ¬ Sw0 w14.heap.size := fun g => by have := spPres.own_lt Ow0.out g; omega
    have Nh0_g0 : ¬ Sg0 w14.heap.size := fun g => by have := spPres.own_lt Og0.out g; omega
    have Nh0_r0 : ¬ Sr0 w14.heap.size := fun g => by have := spPres.own_lt Or0.out g; omega
    have Nh0_h0 : ¬ Sh0 w14.heap.size := fun g => by have := spPres.own_lt Oh0.out g; omega
    have hbx : Below w14.heap.size w14 (w14.alloc (.cells [.slice Ah0_0 nh0_0 ch0_0, .slice Ah0_1 nh0_1 ch0_1, .slice Ah0_2 nh0_2 ch0_2].toArray 28)) := (Below.refl _ _).alloc (Nat.le_refl _) _
    replace Ow0 := Lib.hid (spPres.own_below Ow0.out hbx)
    replace Og0 := Lib.hid (spPres.own_below Og0.out hbx)
    replace Or0 := Lib.hid (spPres.own_below Or0.out hbx)
    replace Oh0 := Lib.hid (spPres.own_below Oh0.out hbx)
    replace Ba0 := Ba0.below hbx
    replace Bw0 := Bw0.below hbx
    replace Bg0 := Bg0.below hbx
    replace L := bstep L L.size hbx
    clear hbx
    obtain ⟨ba0l, ba00, ba01, ba02⟩ := Ba0.c3
    obtain ⟨bw0l, bw00, bw01, bw02⟩ := Bw0.c3
    obtain ⟨bg0l, bg00, bg01, bg02⟩ := Bg0.c3
    obtain ⟨bh0l, bh00, bh01, bh02⟩ := Bh0.c3
    go_wp2_with (fail)
    refine (eqPres_ok (.agg #[.slice Ah0_0 nh0_0 ch0_0, .slice Ah0_1 nh0_1 ch0_1, .slice Ah0_2 nh0_2 ch0_2]) (.agg #[.slice Aw0_0 nw0_0 cw0_0, .slice Aw0_1 nw0_1 cw0_1, .slice Aw0_2 nw0_2 cw0_2]) (rHeadPresentation x0 x1) (w14.alloc (.cells [.slice Ah0_0 nh0_0 ch0_0, .slice Ah0_1 nh0_1 ch0_1, .slice Ah0_2 nh0_2 ch0_2].toArray 28)) (spPres.own_rd Oh0.out) (spPres.own_rd Ow0.out)).mono ?_; rintro e w15 ⟨rfl, hb⟩
    clear ba0l ba00 ba01 ba02 bw0l bw00 bw01 bw02 bg0l bg00 bg01 bg02 bh0l bh00 bh01 bh02
    replace Ow0 := Lib.hid (spPres.own_below Ow0.out hb)
    replace Og0 := Lib.hid (spPres.own_below Og0.out hb)
    replace Oh0 := Lib.hid (spPres.own_below Oh0.out hb)
    replace Ba0 := Ba0.below hb
    replace Bw0 := Bw0.below hb
    replace Bg0 := Bg0.below hb
    replace Bh0 := Bh0.below hb
    replace L := bstep L L.size hb
    clear hb
    obtain ⟨ba0l, ba00, ba01, ba02⟩ := Ba0.c3
    obtain ⟨bw0l, bw00, bw01, bw02⟩ := Bw0.c3
    obtain ⟨bg0l, bg00, bg01, bg02⟩ := Bg0.c3
    obtain ⟨bh0l, bh00, bh01, bh02⟩ := Bh0.c3
    go_wp2_with (fail)
    refine (heldPres_ok (.agg #[.slice Ag0_0 ng0_0 cg0_0, .slice Ag0_1 ng0_1 cg0_1, .slice Ag0_2 ng0_2 cg0_2]) (rHeadPresentation x0 x1) 1 w15 (spPres.own_rd Og0.out) (by omega) (by omega)).mono ?_; rintro e w16 ⟨rfl, hb⟩
    clear ba0l ba00 ba01 ba02 bw0l bw00 bw01 bw02 bg0l bg00 bg01 bg02 bh0l bh00 bh01 bh02
    replace Ow0 := Lib.hid (spPres.own_below Ow0.out hb)
    replace Og0 := Lib.hid (spPres.own_below Og0.out hb)
    replace Oh0 := Lib.hid (spPres.own_below Oh0.out hb)
    replace Ba0 := Ba0.below hb
    replace Bw0 := Bw0.below hb
    replace Bg0 := Bg0.below hb
    replace Bh0 := Bh0.below hb
    replace L := bstep L L.size hb
    clear hb
    obtain ⟨ba0l, ba00, ba01, ba02⟩ := Ba0.c3
    obtain ⟨bw0l, bw00, bw01, bw02⟩ := Bw0.c3
    obtain ⟨bg0l, bg00, bg01, bg02⟩ := Bg0.c3
    obtain ⟨bh0l, bh00, bh01, bh02⟩ := Bh0.c3
    go_wp2_with (fail)
    go_ret
    exact ⟨rfl, L⟩
  · obtain ⟨ba0l, ba00, ba01, ba02⟩ := Ba0.c3
    have HC := Lib.hid (szPres_ok (.agg #[.slice Aa0_0 na0_0 ca0_0, .slice Aa0_1 na0_1 ca0_1, .slice Aa0_2 na0_2 ca0_2]) x0 (1048576) (w.alloc (.cells [.slice Aa0_0 na0_0 ca0_0, .slice Aa0_1 na0_1 ca0_1, .slice Aa0_2 na0_2 ca0_2].toArray 47)) (spPres.rd_below RW0.out L) (by omega) (by omega))
    rw [szLeft_no (n := spPres.sz x0) (left := 1048576) (by omega)] at HC
    go_enter Try.func7, Try.ntmps7
    go_wp2_with (fail)
    refine HC.out.mono ?_; rintro e w1 ⟨rfl, hb⟩
    clear ba0l ba00 ba01 ba02
    clear HC
    replace Ba0 := Ba0.below hb
    replace L := bstep L L.size hb
    clear hb
    obtain ⟨ba0l, ba00, ba01, ba02⟩ := Ba0.c3
    go_wp2_with (fail)
    go_ret
    exact ⟨rfl, L⟩
theorem fnExactHeadPresentation_walk (v0 : Value) (x0 : Pres) (a1 : Int) (w : World) (w0 : spPres.rd w v0 x0) (w1 : (Lit.int .i64 a1).wf = true) :
    Calls Try.prog 7 #[v0, .int .i64 a1] w fun e w' => e = .returned (.bool true) ∧ Below w.heap.size w w' :=
  fnExactHeadPresentation_run v0 x0 a1 w w0
end Go.Proofs.Ytahmhdpgdhfjnaa
namespace Go.Proofs.Ytahmhdpgdhfjnaa.fnExactHeadPresentation
open Go.ChangeShapes Go.WideShapes Go.ChangeAt Go.RowKit
open Go.ChangeMaps (open_string shut_string)
set_option linter.unusedVariables false

theorem own : ownKnob Try.prog.godebug = none := by kernel_rfl
theorem laidOut : laidOutB Try.prog = true := by kernel_rfl

set_option maxRecDepth 100000 in
theorem lifted (os : Os) (started : os.Started) (H : Type) (enc : TypeId × Value → H) :
    ReturnsInHanded {} Try.checked os 7 .any (Rows.fnExactHeadPresentationSpec.pre6 enc Try.prog Try.f7 Rows.fnExactHeadPresentationRow.domain false) (Rows.fnExactHeadPresentationSpec.post enc Try.prog Try.f7 false true false false) := by
  refine returnsInHanded_of_change (C := Try.checked) own started (by kernel_rfl) Try.func7
    (ChangeSpec.witness6 (enc := enc) (C := Try.checked) false ⟨#[], #[.agg #[.slice none 0 0, .slice none 0 0, .slice none 0 0], .int .i64 0], []⟩ 8 (by kernel_rfl) (by kernel_rfl) (by kernel_rfl) (by kernel_rfl)) ?_
  intro W base args ds gs before hval0 hW hcnd _
  have hval : ∀ (j : Nat) t v, Try.f7.params[j]? = some t → args[j]? = some v → Value.okWide Try.prog W .any base t v := hval0
  have hW' := hW
  obtain ⟨p, q, hA0, hV, rfl, hfz, hnd⟩ := hW
  have hA : DataW.TrodAll enc Try.prog W 0 (fun _ => true) true Try.f7.params.toList args.toList ds p := hA0
  rw [Try.params7] at hA hval
  obtain ⟨v0, vs0, d0, ds0, p0, q0, hargs, rfl, rfl, h0, r0⟩ := trodAll_cons hA
  obtain ⟨v1, vs1, d1, ds1, p1, q1, rfl, rfl, rfl, h1, r1⟩ := trodAll_cons r0
  obtain ⟨rfl, rfl, rfl⟩ := trodAll_nil r1
  obtain rfl : args = #[v0, v1] := by cases args; simp_all
  obtain ⟨rfl, rfl⟩ := trodVars_none hV
  have k0 := h0
  have lt0 : ∀ x ∈ p0, x.block < W.heap.size := by obtain ⟨m, hm⟩ := k0; exact DataW.trod_lt m _ _ _ hm
  obtain ⟨z0, w0⟩ := open_pres (hval 0 47 v0 rfl rfl) h0
  obtain ⟨a1, rfl, rfl, rfl, w1⟩ := open_int Try.underlying2 (hval 1 2 v1 rfl rfl) h1
  clear hA0 hval0
  refine (fnExactHeadPresentation_walk v0 z0 a1 W w0 w1).mono fun e W' ⟨he, bel⟩ => ?_
  subst he
  exact ⟨_, rfl, _, _, _, [], _, [], hW', trodAll_mk1 (shut_bool Try.underlying4 _), (trodAll_cons_mk (Below.trod laidOut (by kernel_rfl) (of_decide_eq_true (by kernel_rfl)) k0 bel lt0) (trodAll_cons_mk (shut_int Try.underlying2 w1) trodAll_mk0)), rfl, bel.frame _, fun h => by cases h⟩

theorem over : Rows.fnExactHeadPresentationRow.holds Try.pinned (OpenSpec.ofChange Rows.fnExactHeadPresentationSpec) :=
  OpenClaim.holds_of_wide 7 Try.f7 rfl rfl rfl rfl rfl rfl rfl ⟨rfl, rfl, rfl, rfl, rfl⟩ rfl rfl rfl rfl rfl (by kernel_rfl) Try.func7 (by kernel_rfl)
    (of_decide_eq_true (by kernel_rfl)) (by unfold Func.isWrapper; first | (rw [if_pos (by decide +kernel)]; kernel_rfl) | (rw [if_neg (by decide +kernel)]; exact ⟨rfl, rfl⟩))
    (fun os started H enc _ => lifted os started H enc)

theorem proved : Rows.FnExactHeadPresentationSaid := over
#print axioms proved
end Go.Proofs.Ytahmhdpgdhfjnaa.fnExactHeadPresentation
