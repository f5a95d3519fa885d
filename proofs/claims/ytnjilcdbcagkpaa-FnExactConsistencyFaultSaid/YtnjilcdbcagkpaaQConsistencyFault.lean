/- OpL, OpP, L12O, L12P, WConsistencyFault, PConsistencyFault in one. -/
import Derived.Test.YtnjilcdbcagkpaaKB
import Derived.Test.YtnjilcdbcagkpaaShPres
import Derived.Test.YtnjilcdbcagkpaaL12N
import Derived.Test.YtnjilcdbcagkpaaL12D
import Derived.Test.YtnjilcdbcagkpaaRows
import Derived.Deep.Slices
import Derived.StillTailTactics
import Derived.Deep.RegionHeld3
import Derived.Deep.DeepCutAuto
import Derived.WalkKit
import Derived.ProofKit
import Derived.OpenShut
import Derived.ShutString
import Derived.ChangeOld
import Derived.Below
namespace Go.Proofs.Ytnjilcdbcagkpaa
open Go.RowKit Go.ChangeShapes Go.WideShapes Go.ChangeAt
set_option linter.unusedVariables false
set_option linter.unusedSimpArgs false

set_option maxRecDepth 100000 in
/-- What a slice of slices of int64 that came in says. -/
theorem open_lists {H : Type} {enc : TypeId × Value → H} {W : World} {base : Nat} {v : Value} {d : DataW H} {p : List MemPlace}
    (hv : Value.okWide Try.prog W .any base 25 v) (h : DataW.Trod enc Try.prog W 0 (fun _ => true) true 25 v d p) :
    ∃ (A : Option Addr) (cap : Nat) (xss : List (List Int)), v = .slice A xss.length cap ∧ RdII W A xss ∧ (∀ j, j < xss.length → (xss.getD j []).length ≤ maxLen) ∧ xss.length ≤ maxLen := by
  obtain ⟨a0, len0, cap0, rfl⟩ := okWide_slice Try.underlying25 hv
  obtain ⟨fuel, hf⟩ := h
  rcases Go.Deep.open_int_rows Try.underlying25 Try.underlying24 Try.underlying2 (by kernel_rfl) (by kernel_rfl) hf with ⟨hc, _⟩ | ⟨a, len, cap, A, L, C', Z, hc, _, hl, hm, _, hr⟩
  · simp [Value.cells] at hc
    obtain ⟨rfl, rfl, rfl⟩ := hc
    exact ⟨none, 0, [], rfl, fun j hj => by simp at hj, fun j hj => by simp at hj, by simp⟩
  · simp [Value.cells] at hc
    obtain ⟨rfl, rfl, rfl⟩ := hc
    refine ⟨some a, cap0, (List.range len0).map fun r => (Z r).take (L r), by simp, fun j hj => ?_, fun j hj => ?_, by simp; omega⟩
    · have hj' : j < len0 := by simpa using hj
      obtain ⟨h1, h2, h3, h4, h5, h6, h7⟩ := hr j (by omega)
      obtain ⟨b, o, rfl⟩ := plain_of (hr 0 (by omega)).1
      have hcell : W.cell? ⟨b, o + j, none⟩ = some (.slice (A j) (L j) (C' j)) := by rw [← Go.WideShapes.add_plain]; exact h1
      have hg : ((List.range len0).map fun r => (Z r).take (L r)).getD j [] = (Z j).take (L j) := by simp [hj']
      rw [hg]
      have hlen : ((Z j).take (L j)).length = L j := by simp; omega
      rw [hlen]
      refine ⟨b, o, A j, C' j, rfl, World.block_lt_of_cell? W _ hcell, hcell, fun i hi => ?_⟩
      rw [hlen] at hi
      cases hA : A j with
      | none => have := h6 hA; omega
      | some a' =>
        obtain ⟨_, hcc⟩ := h7 a' hA
        have hci := hcc i (by omega)
        obtain ⟨b', o', rfl⟩ := plain_of (hcc 0 (by omega))
        have hcell' : W.cell? ⟨b', o' + i, none⟩ = some (.int .i64 ((Z j).getD i 0)) := by rw [← Go.WideShapes.add_plain]; exact hci
        refine ⟨b', o', rfl, World.block_lt_of_cell? W _ hcell', ?_⟩
        rw [hcell']
        simp [List.getElem?_take, hi]
    · have hj' : j < len0 := by simpa using hj
      obtain ⟨h1, h2, h3, h4, h5, h6, h7⟩ := hr j (by omega)
      have hg : ((List.range len0).map fun r => (Z r).take (L r)).getD j [] = (Z j).take (L j) := by simp [hj']
      rw [hg]
      simp; omega
theorem rdLists_of {w : World} {A : Option Addr} {c : Nat} {xss : List (List Int)} (h : RdII w A xss ∧ (∀ j, j < xss.length → (xss.getD j []).length ≤ maxLen) ∧ xss.length ≤ maxLen) : spII.rd w (.slice A xss.length c) xss := by
  obtain ⟨h1, h2, h3⟩ := h
  refine ⟨A, c, rfl, h3, fun j hj => ?_⟩
  obtain ⟨g, o, B, cB, e, hg, hc, hr⟩ := h1 j hj
  exact ⟨g, o, _, e, hg, hc, B, cB, rfl, h2 j hj, hr⟩
end Go.Proofs.Ytnjilcdbcagkpaa
namespace Go.Proofs.Ytnjilcdbcagkpaa
open Go.RowKit Go.ChangeShapes Go.WideShapes Go.ChangeAt
set_option linter.unusedVariables false
set_option linter.unusedSimpArgs false

section
variable {H : Type} {enc : TypeId × Value → H} {W : World}
theorem choose_to {α : Type} {p : Nat → α → Prop} (d : α) {n : Nat} (h : ∀ i, i < n → ∃ x, p i x) : ∃ f : Nat → α, ∀ i, i < n → p i (f i) := by
  classical
  refine ⟨fun i => if hi : i < n then (h i hi).choose else d, fun i hi => ?_⟩
  simp only [hi, dif_pos]
  exact (h i hi).choose_spec
theorem trod_ints {fuel : Nat} {u : Value} {x : DataW H × List MemPlace} (h : DataW.trod enc Try.prog W 0 (fun _ => true) true fuel 24 [u] = some x) : ∃ xs, spI.rd W u xs := by
  rcases open_ints Try.underlying24 Try.underlying2 (by kernel_rfl) h with ⟨hcs, _⟩ | ⟨x, l, c, zs, hcs, _, hl, hm, hz, _, hcell, hwz⟩
  · simp at hcs
    subst hcs
    exact ⟨[], none, 0, rfl, by simp, fun j hj => by simp at hj⟩
  · simp at hcs
    subst hcs
    have hz' : zs.length = c := by simpa using hz
    have hlen : (zs.take l).length = l := by simp; omega
    refine ⟨zs.take l, some x, c, by rw [hlen], by rw [hlen]; omega, fun j hj => ?_⟩
    rw [hlen] at hj
    obtain ⟨b, o, rfl, hc⟩ := ints_at hcell (by omega)
    have h1 := hc j (by omega)
    refine ⟨b, o, rfl, World.block_lt_of_cell? W _ h1, ?_⟩
    rw [h1]
    simp [List.getElem?_take, hj]
theorem trod_list {α : Type} {s : Sp α} {nul : α} {E t e : TypeId} (ht : Try.prog.underlying t = some (.slice e)) (hc : Try.prog.cellsOf e = 1)
    (each : ∀ n u y, DataW.trod enc Try.prog W 0 (fun _ => true) true n e [u] = some y → ∃ x, s.rd W u x) {fuel : Nat} {u : Value} {x : DataW H × List MemPlace}
    (h : DataW.trod enc Try.prog W 0 (fun _ => true) true fuel t [u] = some x) : ∃ xs, (spL E s nul).rd W u xs := by
  rcases Go.Deep.open_slice1 ht hc h with ⟨hcs, _⟩ | ⟨a, len, cap, m, n, V, D, Pl, hcs, _, hl, hm, hmm, _, hx⟩
  · simp at hcs
    subst hcs
    exact ⟨[], none, 0, rfl, by simp, fun j hj => by simp at hj⟩
  · simp at hcs
    subst hcs
    simp only [if_true] at hmm
    have hmm' := hmm.symm
    subst hmm'
    obtain ⟨X, hX⟩ := choose_to (p := fun r y => s.rd W (V r) y) nul (fun r (hr : r < cap) => each _ _ _ (hx r hr).2)
    refine ⟨(List.range len).map X, some a, cap, by simp, by simp; omega, fun j hj => ?_⟩
    have hj' : j < len := by simpa using hj
    obtain ⟨b, o, rfl⟩ := plain_of (hx 0 (by omega)).1
    have hcell : W.cell? ⟨b, o + j, none⟩ = some (V j) := by rw [← Go.WideShapes.add_plain]; exact (hx j (by omega)).1
    refine ⟨b, o, V j, rfl, World.block_lt_of_cell? W _ hcell, hcell, ?_⟩
    have hg : ((List.range len).map X).getD j nul = X j := by simp [hj']
    rw [hg]
    exact hX j (by omega)
set_option maxRecDepth 100000 in
/-- What a presentation by value says. -/
theorem open_pres {base : Nat} {v : Value} {d : DataW H} {p : List MemPlace}
    (hv : Value.okWide Try.prog W .any base 39 v) (h : DataW.Trod enc Try.prog W 0 (fun _ => true) true 39 v d p) : ∃ x : Pres, spPres.rd W v x := by
  obtain ⟨c0, c1, c2, y0, y1, y2, m, rfl, _, _, hy0, hy1, hy2⟩ := Go.Joins.open_agg3 Try.underlying39 (by kernel_rfl) (by kernel_rfl) hv h
  obtain ⟨O, hO⟩ := trod_ints hy0
  obtain ⟨R, hR⟩ := trod_list (s := spI) (nul := []) (E := 24) Try.underlying25 (by kernel_rfl) (fun n u y hh => trod_ints hh) hy1
  obtain ⟨J, hJ⟩ := trod_list (s := spII) (nul := []) (E := 25) Try.underlying26 (by kernel_rfl) (fun n u y hh => trod_list (s := spI) (nul := []) (E := 24) Try.underlying25 (by kernel_rfl) (fun n u y hh => trod_ints hh) hh) hy2
  exact ⟨⟨O, R, J⟩, _, _, _, rfl, hO, hR, hJ⟩
end
end Go.Proofs.Ytnjilcdbcagkpaa
namespace Go.Proofs.Ytnjilcdbcagkpaa
open Go.RowKit
set_option linter.unusedVariables false
set_option linter.unusedSimpArgs false

theorem Num.fltA_kind (O : List Int) (W : List (List Int)) (J : List (List (List Int))) (i : Nat) : ((Num.fltA O W J i).k = 0 → Num.fltA O W J i = ⟨0, 0, 0, 0⟩) ∧ ((Num.fltA O W J i).k ≠ 0 → (Num.fltA O W J i).l = i) := by
  unfold Num.fltA Num.fltL
  repeat' split
  all_goals simp
/-- The level at which the tower stops. -/
def Num.levP (O : List Int) (W : List (List Int)) (J : List (List (List Int))) : Int := if (Num.fltP O W J).k = 0 then 0 else (Num.fltP O W J).l + 1
/-- A block of faults is none of a tower's. -/
theorem TwS.notFault {O : List Int} {W : List (List Int)} {J : List (List (List Int))} {t : Tw} {gP : Nat} {ps : List RelV} {w0 : World} {l bd : Nat} {w : World} (h : TwS O W J t gP ps w0 l bd w) {b : Nat} {vs : List Value} (B : Blk w b vs 31) : b ≠ t.tb ∧ b ≠ gP ∧ b ≠ t.bo := by
  obtain ⟨cur, hg⟩ := h.prdHeap
  have hb := h.box
  obtain ⟨Do, _, ⟨es, ck, hm, _⟩⟩ := h.map
  unfold Blk at hb B
  refine ⟨fun e => ?_, fun e => ?_, fun e => ?_⟩
  · rw [e, hb] at B; simp at B
  · rw [e, hg] at B; simp at B
  · rw [e, hm] at B; simp at B
/-- A fault stored into its block. -/
theorem TwS.fault {O : List Int} {W : List (List Int)} {J : List (List (List Int))} {t : Tw} {gP : Nat} {ps : List RelV} {w0 : World} {l bd : Nat} {w : World} (h : TwS O W J t gP ps w0 l bd w) {b : Nat} {p q r v : Value} (B : Blk w b [p, q, r, v] 31) (hb0 : w0.heap.size ≤ b) (x y z u : Value) :
    ∃ w9, (((w.setCell ⟨b, 0, none⟩ x).setCell ⟨b, 1, none⟩ y).setCell ⟨b, 2, none⟩ z).setCell ⟨b, 3, none⟩ u = w9 ∧ Blk w9 b [x, y, z, u] 31 ∧ TwS O W J t gP ps w0 l bd w9 ∧ ChgS (fun k => k = b) w w9 := by
  have hc : ChgS (fun k => k = b) w ((((w.setCell ⟨b, 0, none⟩ x).setCell ⟨b, 1, none⟩ y).setCell ⟨b, 2, none⟩ z).setCell ⟨b, 3, none⟩ u) :=
    (((ChgS.set w ⟨b, 0, none⟩ x).trans (ChgS.set _ ⟨b, 1, none⟩ y)).trans (ChgS.set _ ⟨b, 2, none⟩ z)).trans (ChgS.set _ ⟨b, 3, none⟩ u)
  have hB := B
  unfold Blk at hB
  refine ⟨_, rfl, (((B.set 0 x).set 1 y).set 2 z).set 3 u, h.tag hB hc hb0 (h.notFault B).2.2 (fun _ _ e => by simp at e) (fun _ _ e => by simp at e) (fun _ _ e => by simp at e) (fun _ _ e => by simp at e), hc⟩
theorem chg_four (w : World) (b : Nat) (x y z u : Value) : ChgS (fun k => k = b) w ((((w.setCell ⟨b, 0, none⟩ x).setCell ⟨b, 1, none⟩ y).setCell ⟨b, 2, none⟩ z).setCell ⟨b, 3, none⟩ u) :=
  (((ChgS.set w ⟨b, 0, none⟩ x).trans (ChgS.set _ ⟨b, 1, none⟩ y)).trans (ChgS.set _ ⟨b, 2, none⟩ z)).trans (ChgS.set _ ⟨b, 3, none⟩ u)
/-- What holds at the head of the loop. -/
structure TopS (O : List Int) (W : List (List Int)) (J : List (List (List Int))) (t : Tw) (gP : Nat) (ps : List RelV) (W0 : World) (b3 b5 m : Nat) (f : Num.Flt) (wr : World) : Prop where
  st : TwS O W J t gP ps W0 m 0 wr
  con : Num.Con (Num.tlL O W J m)
  le : m ≤ O.length
  flt : (f.k = 0 ∧ f = ⟨0, 0, 0, 0⟩ ∧ Num.fltF O W J m = Num.fltP O W J) ∨ (f.k ≠ 0 ∧ f = Num.fltP O W J ∧ f.l + 1 = m)
  box : Blk wr b5 [.int .i64 f.k, .int .i64 f.l, .int .i64 f.f, .int .i64 f.s] 31
  res : Blk wr b3 [.int .i64 0, .int .i64 0, .int .i64 0, .int .i64 0] 31
  hb : W0.heap.size ≤ b5
  h3 : b3 < W0.heap.size
set_option maxRecDepth 100000 in
set_option maxHeartbeats 4000000 in
theorem tower_any {A0 A1 A2 : Option Addr} {c0 c1 c2 : Nat} {O : List Int} {W : List (List Int)} {J : List (List (List Int))} (V : Num.Val O W J) (w : World) (hP : RdP A0 A1 A2 O W J w) :
    Calls Try.prog 33 #[prV A0 A1 A2 c0 c1 c2 O] w fun e w' => ∃ tb, e = .returned (.tuple #[.pointer (some ⟨tb, 0, none⟩), fltV (Num.fltP O W J)]) ∧ Below w.heap.size w w' ∧ w'.cell? ⟨tb, 6, none⟩ = some (.int .i64 (Num.levP O W J)) := by
  have n6 := V.n6
  have HV := Lib.hid V
  obtain ⟨W0, hW0⟩ : ∃ X, (w.alloc (.cells #[.slice A0 O.length c0, .slice A1 O.length c1, .slice A2 O.length c2] 28)).alloc (.cells #[.int .i64 0, .int .i64 0, .int .i64 0, .int .i64 0] 31) = X := ⟨_, rfl⟩
  have hz0 : W0.heap.size = w.heap.size + 2 := by rw [← hW0]; simp
  have b0 : Below w.heap.size w W0 := by rw [← hW0]; go_grown
  have BP : Blk W0 w.heap.size [.slice A0 O.length c0, .slice A1 O.length c1, .slice A2 O.length c2] 28 := by rw [← hW0]; exact (Blk.new w [.slice A0 O.length c0, .slice A1 O.length c1, .slice A2 O.length c2] 28).alloc _
  have BF : Blk W0 (w.heap.size + 1) [.int .i64 0, .int .i64 0, .int .i64 0, .int .i64 0] 31 := by
    rw [← hW0]
    have := Blk.new (w.alloc (.cells #[.slice A0 O.length c0, .slice A1 O.length c1, .slice A2 O.length c2] 28)) [.int .i64 0, .int .i64 0, .int .i64 0, .int .i64 0] 31
    simpa using this
  have HT := Lib.hid (trivial_any (c0 := c0) (c1 := c1) (c2 := c2) V W0 ⟨hP.1.below' b0, hP.2.1.below' b0, hP.2.2.below' b0⟩)
  obtain ⟨bl, x0, x1, x2⟩ := BP.c3
  clear BP hP V
  go_enter Try.func33, Try.ntmps33
  go_wp2_with (fail)
  refine HT.out.mono ?_; rintro e w1 ⟨t, gP, ps, rfl, hps, TS⟩
  have BF1 := BF.below TS.bel
  have hz1 := TS.bel.size
  have bA : Below w1.heap.size w1 (w1.alloc (.cells #[.int .i64 0, .int .i64 0, .int .i64 0, .int .i64 0] 31)) := by go_grown
  have TS1 := TS.below bA
  have BN := Blk.new w1 [.int .i64 0, .int .i64 0, .int .i64 0, .int .i64 0] 31
  have HTOP : Hid (TopS O W J t gP ps W0 (w.heap.size + 1) w1.heap.size O.length ⟨0, 0, 0, 0⟩ (w1.alloc (.cells #[.int .i64 0, .int .i64 0, .int .i64 0, .int .i64 0] 31))) := Lib.hid ⟨TS1, Num.Con.end_, Nat.le_refl _, .inl ⟨rfl, rfl, rfl⟩, BN, BF1.below bA, hz1, by omega⟩
  obtain ⟨nl, n0, n1, n2, n3⟩ := BN.c4
  have g0 := BN.free 0
  have g1 := BN.free 1
  have g2 := BN.free 2
  have g3 := BN.free 3
  have HPS := Lib.hid hps
  have hlen : ps.length ≤ 100 := by
    have h := Num.rels_len (Num.shapeB_ok HV.out.lw HV.out.lj (fun i hi => HV.out.lr i (by have := HV.out.lj; omega))) n6
    rw [← hps, List.length_map] at h
    exact h
  clear TS TS1 BN bA BF1 BF hps HT
  go_wp2_with (fail)
  clear n0 n1 n2 n3 g0 g1 g2 g3 nl
  go_loopw [] (fun wr => ∃ (m : Nat) (f : Num.Flt), Hid (TopS O W J t gP ps W0 (w.heap.size + 1) w1.heap.size m f wr)) (fun wr => (intOf ((wr.cell? ⟨t.tb, 6, none⟩).getD undef)).toNat + (if intOf ((wr.cell? ⟨w1.heap.size, 0, none⟩).getD undef) = 0 then 1 else 0))
  case atStart => exact ⟨_, _, HTOP⟩
  case round =>
    obtain ⟨m, f, hT⟩ := hrel
    clear HTOP
    obtain ⟨tl, t0, t1, t2, t3, t4, t5, t6, t7⟩ := hT.out.st.box.c8
    obtain ⟨fk, fl, ff, fs⟩ := f
    obtain ⟨ul, u0, u1, u2, u3⟩ := hT.out.box.c4
    by_cases hgo : 0 < m ∧ fk = 0
    · obtain ⟨hm0, rfl⟩ := hgo
      obtain ⟨i, rfl⟩ : ∃ i, m = i + 1 := ⟨m - 1, by omega⟩
      have i0 : (0 : Int) < ((i + 1 : Nat) : Int) := by omega
      have hle := hT.out.le
      have HCL := Lib.hid (climb_any HV.out i (by omega) hT.out.con t gP ps W0 wr HPS.out hlen hT.out.st)
      have HA := Lib.hid (Num.fltA_kind O W J i)
      have hst := Num.fltF_step (O := O) (W := W) (J := J) (i := i)
      have hfp : Num.fltF O W J (i + 1) = Num.fltP O W J := by
        rcases hT.out.flt with h | h
        · exact h.2.2
        · exact absurd rfl h.1
      rw [hfp] at hst
      have HST := Lib.hid hst
      have HCS : Hid ((Num.fltA O W J i).k = 0 → Num.Con (Num.tlL O W J i)) := Lib.hid fun h => Num.Con.step HV.out (by omega) h hT.out.con
      clear hst hfp
      generalize Num.fltA O W J i = g at *
      obtain ⟨gk, gl, gf, gs⟩ := g
      unfold fltV at HCL
      generalize hmi : ((i + 1 : Nat) : Int) = mi at *
      go_wp2_with (fail)
      refine HCL.out.mono ?_; rintro e w2 ⟨rfl, T2, C2⟩
      have hne := hT.out.st.notFault hT.out.box
      have hne3 := hT.out.st.notFault hT.out.res
      have B2 := hT.out.box.chg C2 (by rintro (h | h | h); exact hne.1 h; exact hne.2.1 h; exact hne.2.2 h)
      have R2 := hT.out.res.chg C2 (by rintro (h | h | h); exact hne3.1 h; exact hne3.2.1 h; exact hne3.2.2 h)
      obtain ⟨w9, e9, B9, T9, C9⟩ := T2.fault B2 hT.out.hb (.int .i64 gk) (.int .i64 gl) (.int .i64 gf) (.int .i64 gs)
      have R9 := R2.chg C9 (fun e => by have := hT.out.hb; have := hT.out.h3; omega)
      have NEW : ∃ (m' : Nat) (f' : Num.Flt), Hid (TopS O W J t gP ps W0 (w.heap.size + 1) w1.heap.size m' f' w9) ∧ m' + (if f'.k = 0 then 1 else 0) < i + 1 + 1 := by
        by_cases hgk : gk = 0
        · have hg0 := HA.out.1 hgk
          rw [if_pos hgk] at T9
          refine ⟨i, ⟨gk, gl, gf, gs⟩, Lib.hid ⟨T9, HCS.out hgk, by omega, .inl ⟨hgk, hg0, ?_⟩, B9, R9, hT.out.hb, hT.out.h3⟩, by split <;> omega⟩
          rw [HST.out, if_pos hgk]
        · have hl := HA.out.2 hgk
          rw [if_neg hgk] at T9
          refine ⟨i + 1, ⟨gk, gl, gf, gs⟩, Lib.hid ⟨T9, hT.out.con, by omega, .inr ⟨hgk, ?_, ?_⟩, B9, R9, hT.out.hb, hT.out.h3⟩, ?_⟩
          · rw [HST.out, if_neg hgk]
          · show gl + 1 = _
            have : gl = (i : Int) := hl
            omega
          · rw [if_neg hgk]
            omega
      have HNEW := Lib.hid NEW
      obtain ⟨vl, v0, v1, v2, v3⟩ := B2.c4
      have g0 := B2.free 0
      have g1 := B2.free 1
      have g2 := B2.free 2
      have g3 := B2.free 3
      clear NEW T9 T2 C2 C9 B9 R9 B2 R2 hne hne3 HCL
      go_wp2_with (fail)
      obtain ⟨m', f', hT', hme⟩ := HNEW.out
      refine ⟨⟨m', f', hT'⟩, ?_⟩
      obtain ⟨-, -, -, -, -, -, -, t6', -⟩ := hT'.out.st.box.c8
      obtain ⟨-, u0', -⟩ := hT'.out.box.c4
      rw [t6', u0', t6, u0]
      by_cases hz : f'.k = 0
      · rw [if_pos hz] at hme
        simp [intOf, hz]
        omega
      · rw [if_neg hz] at hme
        simp [intOf, hz]
        omega
    · have HEX : Hid ((⟨fk, fl, ff, fs⟩ : Num.Flt) = Num.fltP O W J ∧ (m : Int) = Num.levP O W J) := Lib.hid (by
        unfold Num.levP
        rcases hT.out.flt with ⟨h1, h2, h3⟩ | ⟨h1, h2, h3⟩
        · have hm : m = 0 := by
            have h1' : fk = 0 := h1
            omega
          subst hm
          have e : (⟨fk, fl, ff, fs⟩ : Num.Flt) = Num.fltP O W J := by rw [h2, ← h3]; rfl
          refine ⟨e, ?_⟩
          rw [← e, if_pos h1]
          rfl
        · refine ⟨h2, ?_⟩
          rw [← h2, if_neg h1, h3])
      have STD := hT.out.st
      have L : Below w.heap.size w wr := b0.trans (STD.bel.mono b0.size)
      have BFr := hT.out.res
      have hex : ¬ (0 : Int) < (m : Int) ∨ ((0 : Int) < (m : Int) ∧ ¬ fk = 0) := by omega
      have HEX1 := HEX
      clear hT hgo
      generalize hmi : (m : Int) = mi at *
      rcases hex with hm | ⟨hm, hk⟩
      all_goals
        go_wp2_with (fail)
        obtain ⟨w9, e9, B9, L9⟩ := flt_store BFr (.int .i64 fk) (.int .i64 fl) (.int .i64 ff) (.int .i64 fs) (by omega : w.heap.size ≤ w.heap.size + 1) L
        have c9 : w9.cell? ⟨t.tb, 6, none⟩ = some (.int .i64 mi) := by
          have hc := chg_four wr (w.heap.size + 1) (.int .i64 fk) (.int .i64 fl) (.int .i64 ff) (.int .i64 fs)
          rw [e9] at hc
          rw [← hmi]
          exact (STD.box.chg hc (fun e => (STD.notFault BFr).1 e.symm)).cell 6 (by simp)
        obtain ⟨bl9, f0, f1, f2, f3⟩ := BFr.c4
        obtain ⟨bl9', r0, r1, r2, r3⟩ := B9.c4
        have g0 := BFr.free 0
        have g1 := BFr.free 1
        have g2 := BFr.free 2
        have g3 := BFr.free 3
        have HC9 := Lib.hid c9
        have HL9 := Lib.hid L9
        clear B9 BFr STD L L9 c9
        go_region
        all_goals go_wp2_with (fail)
        refine bodyPost_ret (v := .tuple #[.pointer (some ⟨t.tb, 0, none⟩), .agg #[.int .i64 fk, .int .i64 fl, .int .i64 ff, .int .i64 fs]]) (by simp [results, Try.results33, go_sem, bl9', r0, r1, r2, r3]) rfl ?_
        exact ⟨t.tb, by rw [← HEX.out.1]; rfl, HL9.out.drew, by rw [← HEX.out.2]; exact HC9.out⟩
end Go.Proofs.Ytnjilcdbcagkpaa
namespace Go.Proofs.Ytnjilcdbcagkpaa
open Go.RowKit
set_option linter.unusedVariables false
set_option linter.unusedSimpArgs false

theorem tower_at {A0 A1 A2 : Option Addr} {c0 c1 c2 : Nat} {w : World} {x0 : Pres} (V : Num.Val x0.O x0.W x0.J) (hr : RdI w A0 x0.O ∧ RdW w A1 x0.W ∧ RdX w A2 x0.J) (W' : World) (hb : Below w.heap.size w W') :
    Calls Try.prog 33 #[.agg #[.slice A0 x0.O.length c0, .slice A1 x0.W.length c1, .slice A2 x0.J.length c2]] W' (fun e w' => ∃ tb, e = .returned (.tuple #[.pointer (some ⟨tb, 0, none⟩), fltV (Num.fltP x0.O x0.W x0.J)]) ∧ Below W'.heap.size W' w' ∧ w'.cell? ⟨tb, 6, none⟩ = some (.int .i64 (Num.levP x0.O x0.W x0.J))) := by
  rw [V.lw, V.lj]
  exact tower_any V W' ⟨hr.1.below' hb, hr.2.1.below' hb, hr.2.2.below' hb⟩
set_option maxHeartbeats 2000000 in
theorem iConsistencyFault_ok (v0 : Value) (x0 : Pres) (w : World) (h0 : PresC w v0 x0) (s0 : spPres.sz x0 ≤ 1048576) : Calls Try.prog 12 #[v0] w (RetF (rConsistencyFault x0) (cConsistencyFault x0) w) := by
  have h1 := h0
  obtain ⟨A0, c0, A1, c1, A2, c2, rfl, hr, -, -, -, -⟩ := h0
  obtain ⟨W0, hW0⟩ : ∃ X, (w.alloc (.cells #[.slice A0 x0.O.length c0, .slice A1 x0.W.length c1, .slice A2 x0.J.length c2] 28)).alloc (.cells #[.int .i64 0, .int .i64 0, .int .i64 0, .int .i64 0] 31) = X := ⟨_, rfl⟩
  have b0 : Below w.heap.size w W0 := by rw [← hW0]; go_grown
  have BX : Blk W0 w.heap.size [.slice A0 x0.O.length c0, .slice A1 x0.W.length c1, .slice A2 x0.J.length c2] 28 := by rw [← hW0]; exact (Blk.new w [.slice A0 x0.O.length c0, .slice A1 x0.W.length c1, .slice A2 x0.J.length c2] 28).alloc _
  have BF : Blk W0 (w.heap.size + 1) [.int .i64 0, .int .i64 0, .int .i64 0, .int .i64 0] 31 := by
    rw [← hW0]
    have := Blk.new (w.alloc (.cells #[.slice A0 x0.O.length c0, .slice A1 x0.W.length c1, .slice A2 x0.J.length c2] 28)) [.int .i64 0, .int .i64 0, .int .i64 0, .int .i64 0] 31
    simpa using this
  have HI := Lib.hid (iIsPres_any _ x0 W0 (h1.below b0))
  obtain ⟨bl, x1, x2, x3⟩ := BX.c3
  cases hk : x0.ok with
  | true =>
    rw [hk] at HI
    have V := Num.Val.of hk
    have HR : Hid (rConsistencyFault x0 = Num.fltP x0.O x0.W x0.J ∧ cConsistencyFault x0 = 0) := Lib.hid ⟨if_pos hk, if_pos hk⟩
    have HC := Lib.hid (tower_at (c0 := c0) (c1 := c1) (c2 := c2) V hr)
    unfold fltV at HC
    generalize Num.levP x0.O x0.W x0.J = lv at *
    generalize Num.fltP x0.O x0.W x0.J = f at *
    obtain ⟨fk, fl, ff, fs⟩ := f
    clear h1 hr hk V
    go_enter Try.func12, Try.ntmps12
    go_wp2_with (fail)
    clear hW0
    refine HI.out.mono ?_; rintro e w2 ⟨rfl, hb2⟩
    have L2 := bstep b0 b0.size hb2
    obtain ⟨bl2, y0, y1, y2⟩ := (BX.below hb2).c3
    have BF2 := BF.below hb2
    have HC2 := Lib.hid (HC.out _ L2)
    clear HC HI hb2 x1 x2 x3
    go_wp2_with (fail)
    refine HC2.out.mono ?_; rintro e w3 ⟨tb, rfl, hb3, -⟩
    have bA : Below w3.heap.size w3 (w3.alloc (.cells #[.int .i64 fk, .int .i64 fl, .int .i64 ff, .int .i64 fs] 31)) := by go_grown
    have L3 : Below w.heap.size w w3 := bstep L2 L2.size hb3
    have BF3 := (BF2.below hb3).below bA
    have BN := Blk.new w3 [.int .i64 fk, .int .i64 fl, .int .i64 ff, .int .i64 fs] 31
    obtain ⟨nl, n0, n1, n2, n3⟩ := BN.c4
    obtain ⟨w9, e9, B9, L9⟩ := flt_store BF3 (.int .i64 fk) (.int .i64 fl) (.int .i64 ff) (.int .i64 fs) (by omega : w.heap.size ≤ w.heap.size + 1) (bstep L3 L3.size bA)
    obtain ⟨bl9, f0, f1, f2, f3⟩ := BF3.c4
    obtain ⟨bl9', r0, r1, r2, r3⟩ := B9.c4
    have g0 := BF3.free 0
    have g1 := BF3.free 1
    have g2 := BF3.free 2
    have g3 := BF3.free 3
    clear HC2 hb3 B9 bA BN BF3 BF2 BF
    go_wp2_with (fail)
    refine bodyPost_ret (v := .tuple #[.agg #[.int .i64 fk, .int .i64 fl, .int .i64 ff, .int .i64 fs], .int .i64 0]) (by simp [results, Try.results12, go_sem, bl9', r0, r1, r2, r3]) rfl ?_
    exact ⟨by rw [HR.out.1, HR.out.2]; rfl, L9⟩
  | false =>
    rw [hk] at HI
    have HR : Hid (rConsistencyFault x0 = ⟨0, 0, 0, 0⟩ ∧ cConsistencyFault x0 = 1) := Lib.hid ⟨if_neg (by rw [hk]; simp), if_neg (by rw [hk]; simp)⟩
    clear h1 hr hk
    go_enter Try.func12, Try.ntmps12
    go_wp2_with (fail)
    clear hW0
    refine HI.out.mono ?_; rintro e w2 ⟨rfl, hb2⟩
    have L2 := bstep b0 b0.size hb2
    have BF2 := BF.below hb2
    obtain ⟨w9, e9, B9, L9⟩ := flt_store BF2 (.int .i64 0) (.int .i64 0) (.int .i64 0) (.int .i64 0) (by omega : w.heap.size ≤ w.heap.size + 1) L2
    obtain ⟨bl9, f0, f1, f2, f3⟩ := BF2.c4
    obtain ⟨bl9', r0, r1, r2, r3⟩ := B9.c4
    have g0 := BF2.free 0
    have g1 := BF2.free 1
    have g2 := BF2.free 2
    have g3 := BF2.free 3
    clear hb2 B9 x1 x2 x3
    go_wp2_with (fail)
    refine bodyPost_ret (v := .tuple #[.agg #[.int .i64 0, .int .i64 0, .int .i64 0, .int .i64 0], .int .i64 1]) (by simp [results, Try.results12, go_sem, bl9', r0, r1, r2, r3]) rfl ?_
    exact ⟨by rw [HR.out.1, HR.out.2]; rfl, L9⟩
set_option maxHeartbeats 2000000 in
theorem iConsistentFrom_ok (v0 : Value) (x0 : Pres) (w : World) (h0 : PresC w v0 x0) (s0 : spPres.sz x0 ≤ 1048576) : Calls Try.prog 14 #[v0] w (RetI (rConsistentFrom x0) (cConsistentFrom x0) w) := by
  have h1 := h0
  obtain ⟨A0, c0, A1, c1, A2, c2, rfl, hr, -, -, -, -⟩ := h0
  have b0 : Below w.heap.size w (w.alloc (.cells #[.slice A0 x0.O.length c0, .slice A1 x0.W.length c1, .slice A2 x0.J.length c2] 28)) := by go_grown
  have BX := (Blk.new w [.slice A0 x0.O.length c0, .slice A1 x0.W.length c1, .slice A2 x0.J.length c2] 28)
  have HI := Lib.hid (iIsPres_any _ x0 _ (h1.below b0))
  cases hk : x0.ok with
  | true =>
    rw [hk] at HI
    have V := Num.Val.of hk
    have HR : Hid (rConsistentFrom x0 = Num.levP x0.O x0.W x0.J ∧ cConsistentFrom x0 = 0) := Lib.hid ⟨if_pos hk, if_pos hk⟩
    have HC := Lib.hid (tower_at (c0 := c0) (c1 := c1) (c2 := c2) V hr)
    unfold fltV at HC
    generalize Num.levP x0.O x0.W x0.J = lv at *
    generalize Num.fltP x0.O x0.W x0.J = f at *
    obtain ⟨fk, fl, ff, fs⟩ := f
    clear h1 hr hk V
    go_enter Try.func14, Try.ntmps14
    go_wp2_with (fail)
    refine HI.out.mono ?_; rintro e w2 ⟨rfl, hb2⟩
    have L2 := bstep b0 b0.size hb2
    obtain ⟨bl, y0, y1, y2⟩ := (BX.below hb2).c3
    have HC2 := Lib.hid (HC.out _ L2)
    clear HC HI hb2 BX
    go_wp2_with (fail)
    refine HC2.out.mono ?_; rintro e w3 ⟨tb, rfl, hb3, hcell⟩
    have L3 : Below w.heap.size w w3 := bstep L2 L2.size hb3
    have L4 : Below w.heap.size w (w3.alloc (.cells #[.int .i64 fk, .int .i64 fl, .int .i64 ff, .int .i64 fs] 31)) := L3.alloc L3.size _
    have h6 : (w3.alloc (.cells #[.int .i64 fk, .int .i64 fl, .int .i64 ff, .int .i64 fs] 31)).cell? ⟨tb, 6, none⟩ = some (.int .i64 lv) := by
      rw [World.cell?_alloc_lt _ _ _ (World.block_lt_of_cell? _ _ hcell)]
      exact hcell
    have BN := Blk.new w3 [.int .i64 fk, .int .i64 fl, .int .i64 ff, .int .i64 fs] 31
    obtain ⟨nl, n0, n1, n2, n3⟩ := BN.c4
    clear HC2 hb3 hcell BN
    go_wp2_with (fail)
    go_ret2
    rw [HR.out.1, HR.out.2]
    exact ⟨rfl, L4⟩
  | false =>
    rw [hk] at HI
    have HR2 : Hid (rConsistentFrom x0 = 0 ∧ cConsistentFrom x0 = 1) := Lib.hid ⟨if_neg (by rw [hk]; simp), if_neg (by rw [hk]; simp)⟩
    clear h1 hr hk
    go_enter Try.func14, Try.ntmps14
    go_wp2_with (fail)
    refine HI.out.mono ?_; rintro e w2 ⟨rfl, hb2⟩
    go_wp2_with (fail)
    go_ret2
    rw [HR2.out.1, HR2.out.2]
    exact ⟨rfl, bstep b0 b0.size hb2⟩
set_option maxHeartbeats 2000000 in
theorem iIsConsistent_ok (v0 : Value) (x0 : Pres) (w : World) (h0 : PresC w v0 x0) (s0 : spPres.sz x0 ≤ 1048576) : Calls Try.prog 15 #[v0] w (RetB (rIsConsistent x0) w) := by
  have h1 := h0
  obtain ⟨A0, c0, A1, c1, A2, c2, rfl, hr, -, -, -, -⟩ := h0
  have b0 : Below w.heap.size w (w.alloc (.cells #[.slice A0 x0.O.length c0, .slice A1 x0.W.length c1, .slice A2 x0.J.length c2] 28)) := by go_grown
  have HI := Lib.hid (iConsistencyFault_ok _ x0 _ (h1.below b0) s0)
  have HR : Hid (rIsConsistent x0 = (decide ((rConsistencyFault x0).k = 0) && decide (cConsistencyFault x0 = 0))) := Lib.hid (by
    unfold rIsConsistent Pres.con rConsistencyFault cConsistencyFault
    cases hk : x0.ok <;> simp)
  unfold RetF fltV at HI
  generalize rConsistencyFault x0 = f at *
  generalize cConsistencyFault x0 = c at *
  obtain ⟨fk, fl, ff, fs⟩ := f
  clear h1 hr
  go_enter Try.func15, Try.ntmps15
  go_wp2_with (fail)
  refine HI.out.mono ?_; rintro e w2 ⟨rfl, hb2⟩
  have L2 := bstep b0 b0.size hb2
  have BN := Blk.new w2 [.int .i64 fk, .int .i64 fl, .int .i64 ff, .int .i64 fs] 31
  have L4 : Below w.heap.size w (w2.alloc (.cells #[.int .i64 fk, .int .i64 fl, .int .i64 ff, .int .i64 fs] 31)) := L2.alloc L2.size _
  obtain ⟨nl, n0, n1, n2, n3⟩ := BN.c4
  clear HI hb2 BN
  by_cases hk : fk = 0
  · subst hk
    by_cases hc : c = 0
    · subst hc
      go_wp2_with (fail)
      go_ret
      exact ⟨by rw [HR.out]; simp, L4⟩
    · have hcb : (c == 0) = false := by simp [hc]
      go_wp2_with (fail)
      go_ret
      exact ⟨by rw [HR.out]; simp [hc], L4⟩
  · have hkb : (fk == 0) = false := by simp [hk]
    go_wp2_with (fail)
    go_ret
    exact ⟨by rw [HR.out]; simp [hk], L4⟩
end Go.Proofs.Ytnjilcdbcagkpaa
namespace Go.Proofs.Ytnjilcdbcagkpaa
open Go.RowKit
set_option linter.unusedVariables false
set_option linter.unusedSimpArgs false

theorem sCF (v0 : Value) (x0 : Pres) (w : World) (h0 : spPres.rd w v0 x0) (s0 : spPres.sz x0 ≤ 1048576) {fk fl ff fs : Int} (hf : rConsistencyFault x0 = ⟨fk, fl, ff, fs⟩) : Calls Try.prog 13 #[v0] w fun e w' => e = .returned (.tuple #[.agg #[.int .i64 fk, .int .i64 fl, .int .i64 ff, .int .i64 fs], .int .i64 (cConsistencyFault x0)]) ∧ Below w.heap.size w w' := by
  have h := sConsistencyFault_ok v0 x0 w h0 s0
  unfold RetF fltV at h
  rw [hf] at h
  exact h
theorem iCF (v0 : Value) (x0 : Pres) (w : World) (h0 : PresC w v0 x0) (s0 : spPres.sz x0 ≤ 1048576) {fk fl ff fs : Int} (hf : rConsistencyFault x0 = ⟨fk, fl, ff, fs⟩) : Calls Try.prog 12 #[v0] w fun e w' => e = .returned (.tuple #[.agg #[.int .i64 fk, .int .i64 fl, .int .i64 ff, .int .i64 fs], .int .i64 (cConsistencyFault x0)]) ∧ Below w.heap.size w w' := by
  have h := iConsistencyFault_ok v0 x0 w h0 s0
  unfold RetF fltV at h
  rw [hf] at h
  exact h
theorem eqFault_ok (x y z u : Int) (w : World) : Calls Try.prog 23 #[.agg #[.int .i64 x, .int .i64 y, .int .i64 z, .int .i64 u], .agg #[.int .i64 x, .int .i64 y, .int .i64 z, .int .i64 u]] w fun e w' => e = .returned (.bool true) ∧ Below w.heap.size w w' := by
  have B1 := (Blk.new w [.int .i64 x, .int .i64 y, .int .i64 z, .int .i64 u] 31).alloc (.cells #[.int .i64 x, .int .i64 y, .int .i64 z, .int .i64 u] 31)
  have B2 := Blk.new (w.alloc (.cells #[.int .i64 x, .int .i64 y, .int .i64 z, .int .i64 u] 31)) [.int .i64 x, .int .i64 y, .int .i64 z, .int .i64 u] 31
  simp only [World.size_alloc] at B2
  have L : Below w.heap.size w ((w.alloc (.cells #[.int .i64 x, .int .i64 y, .int .i64 z, .int .i64 u] 31)).alloc (.cells #[.int .i64 x, .int .i64 y, .int .i64 z, .int .i64 u] 31)) := by go_grown
  obtain ⟨l1, a0, a1, a2, a3⟩ := B1.c4
  obtain ⟨l2, b0, b1, b2, b3⟩ := B2.c4
  clear B1 B2
  go_enter Try.func23, Try.ntmps23
  go_wp2_with (fail)
  go_ret
  exact ⟨rfl, L⟩
set_option maxRecDepth 100000 in
set_option maxHeartbeats 4000000 in
theorem fnExactConsistencyFault_run (v0 : Value) (x0 : Pres) (w : World) (h0 : spPres.rd w v0 x0) :
    Calls Try.prog 6 #[v0] w fun e w' => e = .returned (.bool true) ∧ Below w.heap.size w w' := by
  obtain ⟨fk, fl, ff, fs, hf⟩ : ∃ a b c d, rConsistencyFault x0 = ⟨a, b, c, d⟩ := ⟨_, _, _, _, rfl⟩
  obtain ⟨Aa0_0, na0_0, ca0_0, Aa0_1, na0_1, ca0_1, Aa0_2, na0_2, ca0_2, rfl, -, -, -⟩ := spPres_form h0
  have L : Below w.heap.size w (w.alloc (.cells [.slice Aa0_0 na0_0 ca0_0, .slice Aa0_1 na0_1 ca0_1, .slice Aa0_2 na0_2 ca0_2].toArray 39)) := by go_grown
  have Ba0 : Blk (w.alloc (.cells [.slice Aa0_0 na0_0 ca0_0, .slice Aa0_1 na0_1 ca0_1, .slice Aa0_2 na0_2 ca0_2].toArray 39)) (w.heap.size) [.slice Aa0_0 na0_0 ca0_0, .slice Aa0_1 na0_1 ca0_1, .slice Aa0_2 na0_2 ca0_2] 39 := by have := Blk.new w [.slice Aa0_0 na0_0 ca0_0, .slice Aa0_1 na0_1 ca0_1, .slice Aa0_2 na0_2 ca0_2] 39; simpa only [World.size_alloc] using this
  have RW0 := Lib.hid h0
  clear h0
  by_cases s0 : (spPres.sz x0 : Int) ≤ 1048576
  · have s0' : spPres.sz x0 ≤ 1048576 := by omega
    obtain ⟨ba0l, ba00, ba01, ba02⟩ := Ba0.c3
    have HC := Lib.hid (szPres_ok (.agg #[.slice Aa0_0 na0_0 ca0_0, .slice Aa0_1 na0_1 ca0_1, .slice Aa0_2 na0_2 ca0_2]) x0 (1048576) (w.alloc (.cells [.slice Aa0_0 na0_0 ca0_0, .slice Aa0_1 na0_1 ca0_1, .slice Aa0_2 na0_2 ca0_2].toArray 39)) (spPres.rd_below RW0.out L) (by omega) (by omega))
    rw [szLeft_yes (n := spPres.sz x0) (left := 1048576) (by omega)] at HC
    have g0 : 0 ≤ 1048576 - (spPres.sz x0 : Int) := by omega
    have g0' : 1048576 - (spPres.sz x0 : Int) ≤ 1048576 := by omega
    go_enter Try.func6, Try.ntmps6
    go_wp2_with (fail)
    refine HC.out.mono ?_; rintro e w1 ⟨rfl, hb⟩
    clear ba0l ba00 ba01 ba02
    clear HC
    replace Ba0 := Ba0.below hb
    replace L := bstep L L.size hb
    clear hb
    obtain ⟨ba0l, ba00, ba01, ba02⟩ := Ba0.c3
    go_wp2_with (fail)
    refine (toPres_ok (.agg #[.slice Aa0_0 na0_0 ca0_0, .slice Aa0_1 na0_1 ca0_1, .slice Aa0_2 na0_2 ca0_2]) x0 w1 (spPres.rd_below RW0.out L) s0').mono ?_; rintro e w2 ⟨up0, Sp0, rfl, owp0, hSp0, hb⟩
    clear ba0l ba00 ba01 ba02
    have Na0_p0 : ¬ Sp0 (w.heap.size) := fun g => by have := hSp0 _ g; have := Ba0.lt; omega
    have Hp0 : Hid (∀ k, Sp0 k → w.heap.size ≤ k) := Lib.hid fun k g => by have := hSp0 k g; have := L.size; omega
    replace Ba0 := Ba0.below hb
    replace L := bstep L L.size hb
    clear hb hSp0
    obtain ⟨Ap0_0, np0_0, cp0_0, Ap0_1, np0_1, cp0_1, Ap0_2, np0_2, cp0_2, rfl, -, -, -⟩ := spPres_form (spPres.own_rd owp0)
    have Op0 := Lib.hid owp0
    clear owp0
    obtain ⟨ba0l, ba00, ba01, ba02⟩ := Ba0.c3
    go_wp2_with (fail)
    refine (sCF (.agg #[.slice Ap0_0 np0_0 cp0_0, .slice Ap0_1 np0_1 cp0_1, .slice Ap0_2 np0_2 cp0_2]) x0 w2 (spPres.own_rd Op0.out) s0' hf).mono ?_; rintro e w3 ⟨rfl, hb⟩
    clear ba0l ba00 ba01 ba02
    replace Op0 := Lib.hid (spPres.own_below Op0.out hb)
    replace Ba0 := Ba0.below hb
    replace L := bstep L L.size hb
    clear hb
    have Bw := Blk.new w3 [.int .i64 fk, .int .i64 fl, .int .i64 ff, .int .i64 fs] 31
    have hbx : Below w3.heap.size w3 (w3.alloc (.cells [.int .i64 fk, .int .i64 fl, .int .i64 ff, .int .i64 fs].toArray 31)) := (Below.refl _ _).alloc (Nat.le_refl _) _
    replace Ba0 := Ba0.below hbx
    replace L := bstep L L.size hbx
    clear hbx
    obtain ⟨ba0l, ba00, ba01, ba02⟩ := Ba0.c3
    obtain ⟨bwl, bw0, bw1, bw2, bw3⟩ := Bw.c4
    go_wp2_with (fail)
    refine (toPres_ok (.agg #[.slice Aa0_0 na0_0 ca0_0, .slice Aa0_1 na0_1 ca0_1, .slice Aa0_2 na0_2 ca0_2]) x0 (w3.alloc (.cells [.int .i64 fk, .int .i64 fl, .int .i64 ff, .int .i64 fs].toArray 31)) (spPres.rd_below RW0.out L) s0').mono ?_; rintro e w4 ⟨uq0, Sq0, rfl, owq0, hSq0, hb⟩
    clear ba0l ba00 ba01 ba02 bwl bw0 bw1 bw2 bw3
    have Na0_q0 : ¬ Sq0 (w.heap.size) := fun g => by have := hSq0 _ g; have := Ba0.lt; omega
    have Hq0 : Hid (∀ k, Sq0 k → w.heap.size ≤ k) := Lib.hid fun k g => by have := hSq0 k g; have := L.size; omega
    replace Ba0 := Ba0.below hb
    replace Bw := Bw.below hb
    replace L := bstep L L.size hb
    clear hb hSq0
    obtain ⟨Aq0_0, nq0_0, cq0_0, Aq0_1, nq0_1, cq0_1, Aq0_2, nq0_2, cq0_2, rfl, -, -, -⟩ := spPres_form (spPres.own_rd owq0)
    have Oq0 := Lib.hid owq0
    clear owq0
    have Bq0 := Blk.new w4 [.slice Aq0_0 nq0_0 cq0_0, .slice Aq0_1 nq0_1 cq0_1, .slice Aq0_2 nq0_2 cq0_2] 28
    have Nq0_q0 : ¬ Sq0 w4.heap.size := fun g => by have := spPres.own_lt Oq0.out g; omega
    have hbx : Below w4.heap.size w4 (w4.alloc (.cells [.slice Aq0_0 nq0_0 cq0_0, .slice Aq0_1 nq0_1 cq0_1, .slice Aq0_2 nq0_2 cq0_2].toArray 28)) := (Below.refl _ _).alloc (Nat.le_refl _) _
    replace Oq0 := Lib.hid (spPres.own_below Oq0.out hbx)
    replace Ba0 := Ba0.below hbx
    replace Bw := Bw.below hbx
    replace L := bstep L L.size hbx
    clear hbx
    obtain ⟨ba0l, ba00, ba01, ba02⟩ := Ba0.c3
    obtain ⟨bwl, bw0, bw1, bw2, bw3⟩ := Bw.c4
    obtain ⟨bq0l, bq00, bq01, bq02⟩ := Bq0.c3
    go_wp2_with (fail)
    refine (iCF (.agg #[.slice Aq0_0 nq0_0 cq0_0, .slice Aq0_1 nq0_1 cq0_1, .slice Aq0_2 nq0_2 cq0_2]) x0 (w4.alloc (.cells [.slice Aq0_0 nq0_0 cq0_0, .slice Aq0_1 nq0_1 cq0_1, .slice Aq0_2 nq0_2 cq0_2].toArray 28)) (presC_of Oq0.out) s0' hf).mono ?_; rintro e w5 ⟨rfl, hb⟩
    clear ba0l ba00 ba01 ba02 bq0l bq00 bq01 bq02 bwl bw0 bw1 bw2 bw3
    replace Oq0 := Lib.hid (spPres.own_below Oq0.out hb)
    replace Ba0 := Ba0.below hb
    replace Bw := Bw.below hb
    replace Bq0 := Bq0.below hb
    replace L := bstep L L.size hb
    clear hb
    have Bg := Blk.new w5 [.int .i64 fk, .int .i64 fl, .int .i64 ff, .int .i64 fs] 31
    have hbx : Below w5.heap.size w5 (w5.alloc (.cells [.int .i64 fk, .int .i64 fl, .int .i64 ff, .int .i64 fs].toArray 31)) := (Below.refl _ _).alloc (Nat.le_refl _) _
    replace Oq0 := Lib.hid (spPres.own_below Oq0.out hbx)
    replace Ba0 := Ba0.below hbx
    replace Bw := Bw.below hbx
    replace Bq0 := Bq0.below hbx
    replace L := bstep L L.size hbx
    clear hbx
    obtain ⟨ba0l, ba00, ba01, ba02⟩ := Ba0.c3
    obtain ⟨bwl, bw0, bw1, bw2, bw3⟩ := Bw.c4
    obtain ⟨bq0l, bq00, bq01, bq02⟩ := Bq0.c3
    obtain ⟨bgl, bg0, bg1, bg2, bg3⟩ := Bg.c4
    go_wp2_with (fail)
    refine (eqFault_ok fk fl ff fs (w5.alloc (.cells [.int .i64 fk, .int .i64 fl, .int .i64 ff, .int .i64 fs].toArray 31))).mono ?_; rintro e wf ⟨rfl, hb⟩
    clear ba0l ba00 ba01 ba02 bq0l bq00 bq01 bq02 bwl bw0 bw1 bw2 bw3 bgl bg0 bg1 bg2 bg3
    replace Oq0 := Lib.hid (spPres.own_below Oq0.out hb)
    replace Ba0 := Ba0.below hb
    replace Bw := Bw.below hb
    replace Bq0 := Bq0.below hb
    replace Bg := Bg.below hb
    replace L := bstep L L.size hb
    clear hb
    obtain ⟨ba0l, ba00, ba01, ba02⟩ := Ba0.c3
    obtain ⟨bwl, bw0, bw1, bw2, bw3⟩ := Bw.c4
    obtain ⟨bq0l, bq00, bq01, bq02⟩ := Bq0.c3
    obtain ⟨bgl, bg0, bg1, bg2, bg3⟩ := Bg.c4
    have HT := Lib.hid (toPres_ok (.agg #[.slice Aa0_0 na0_0 ca0_0, .slice Aa0_1 na0_1 ca0_1, .slice Aa0_2 na0_2 ca0_2]) x0 wf.drew (spPres.rd_drew (spPres.rd_below RW0.out L)) s0')
    go_wp2_with (fail)
    go_region_held3 (fun wx => wx.cell? ⟨w4.heap.size, 0, none⟩ = some (.slice Aq0_0 nq0_0 cq0_0) ∧ wx.cell? ⟨w4.heap.size, 1, none⟩ = some (.slice Aq0_1 nq0_1 cq0_1) ∧ wx.cell? ⟨w4.heap.size, 2, none⟩ = some (.slice Aq0_2 nq0_2 cq0_2) ∧ wx.cell? ⟨(w.heap.size), 0, none⟩ = some (.slice Aa0_0 na0_0 ca0_0) ∧ wx.cell? ⟨(w.heap.size), 1, none⟩ = some (.slice Aa0_1 na0_1 ca0_1) ∧ wx.cell? ⟨(w.heap.size), 2, none⟩ = some (.slice Aa0_2 na0_2 ca0_2)) (first | go_keep | assumption) (first | (go_at_call 20; refine HT.out.mono ?_; rintro e w6 ⟨ut0, St0, rfl, owt0, hSt0, hb⟩; have SM : w6.cell? ⟨w4.heap.size, 0, none⟩ = some (.slice Aq0_0 nq0_0 cq0_0) ∧ w6.cell? ⟨w4.heap.size, 1, none⟩ = some (.slice Aq0_1 nq0_1 cq0_1) ∧ w6.cell? ⟨w4.heap.size, 2, none⟩ = some (.slice Aq0_2 nq0_2 cq0_2) ∧ w6.cell? ⟨(w.heap.size), 0, none⟩ = some (.slice Aa0_0 na0_0 ca0_0) ∧ w6.cell? ⟨(w.heap.size), 1, none⟩ = some (.slice Aa0_1 na0_1 ca0_1) ∧ w6.cell? ⟨(w.heap.size), 2, none⟩ = some (.slice Aa0_2 na0_2 ca0_2) := ⟨(Blk.cell (Bq0.drew.below hb) 0 (by simp)), (Blk.cell (Bq0.drew.below hb) 1 (by simp)), (Blk.cell (Bq0.drew.below hb) 2 (by simp)), (Blk.cell (Ba0.drew.below hb) 0 (by simp)), (Blk.cell (Ba0.drew.below hb) 1 (by simp)), (Blk.cell (Ba0.drew.below hb) 2 (by simp))⟩) | (go_at_call 21; refine (eqPres_ok (.agg #[.slice Aq0_0 nq0_0 cq0_0, .slice Aq0_1 nq0_1 cq0_1, .slice Aq0_2 nq0_2 cq0_2]) _ x0 _ (spPres.rd_below (spPres.rd_drew (spPres.own_rd Oq0.out)) hb) (spPres.own_rd owt0)).mono ?_; rintro e w7 ⟨rfl, hb2⟩; have SM2 : w7.cell? ⟨w4.heap.size, 0, none⟩ = some (.slice Aq0_0 nq0_0 cq0_0) ∧ w7.cell? ⟨w4.heap.size, 1, none⟩ = some (.slice Aq0_1 nq0_1 cq0_1) ∧ w7.cell? ⟨w4.heap.size, 2, none⟩ = some (.slice Aq0_2 nq0_2 cq0_2) ∧ w7.cell? ⟨(w.heap.size), 0, none⟩ = some (.slice Aa0_0 na0_0 ca0_0) ∧ w7.cell? ⟨(w.heap.size), 1, none⟩ = some (.slice Aa0_1 na0_1 ca0_1) ∧ w7.cell? ⟨(w.heap.size), 2, none⟩ = some (.slice Aa0_2 na0_2 ca0_2) := ⟨(Blk.cell ((Bq0.drew.below hb).below hb2) 0 (by simp)), (Blk.cell ((Bq0.drew.below hb).below hb2) 1 (by simp)), (Blk.cell ((Bq0.drew.below hb).below hb2) 2 (by simp)), (Blk.cell ((Ba0.drew.below hb).below hb2) 0 (by simp)), (Blk.cell ((Ba0.drew.below hb).below hb2) 1 (by simp)), (Blk.cell ((Ba0.drew.below hb).below hb2) 2 (by simp))⟩))
    clear ba0l ba00 ba01 ba02 bq0l bq00 bq01 bq02 bwl bw0 bw1 bw2 bw3 bgl bg0 bg1 bg2 bg3
    have hd : Below wf.heap.size wf wf.drew := (Below.refl _ _).drew
    replace Oq0 := Lib.hid (spPres.own_below Oq0.out hd)
    replace Ba0 := Ba0.below hd
    replace Bq0 := Bq0.below hd
    replace L := bstep L L.size hd
    replace Oq0 := Lib.hid (spPres.own_below Oq0.out hb)
    replace Ba0 := Ba0.below hb
    replace Bq0 := Bq0.below hb
    replace L := bstep L L.size hb
    replace Oq0 := Lib.hid (spPres.own_below Oq0.out hb2)
    replace Ba0 := Ba0.below hb2
    replace Bq0 := Bq0.below hb2
    replace L := bstep L L.size hb2
    clear hd hb hb2 HT SM SM2 owt0 hSt0
    obtain ⟨ba0l, ba00, ba01, ba02⟩ := Ba0.c3
    obtain ⟨bq0l, bq00, bq01, bq02⟩ := Bq0.c3
    go_wp2_with (fail)
    go_ret
    exact ⟨rfl, L⟩
  · obtain ⟨ba0l, ba00, ba01, ba02⟩ := Ba0.c3
    have HC := Lib.hid (szPres_ok (.agg #[.slice Aa0_0 na0_0 ca0_0, .slice Aa0_1 na0_1 ca0_1, .slice Aa0_2 na0_2 ca0_2]) x0 (1048576) (w.alloc (.cells [.slice Aa0_0 na0_0 ca0_0, .slice Aa0_1 na0_1 ca0_1, .slice Aa0_2 na0_2 ca0_2].toArray 39)) (spPres.rd_below RW0.out L) (by omega) (by omega))
    rw [szLeft_no (n := spPres.sz x0) (left := 1048576) (by omega)] at HC
    go_enter Try.func6, Try.ntmps6
    go_wp2_with (fail)
    refine HC.out.mono ?_; rintro e w1 ⟨rfl, hb⟩
    clear ba0l ba00 ba01 ba02
    clear HC
    replace Ba0 := Ba0.below hb
    replace L := bstep L L.size hb
    clear hb
    obtain ⟨ba0l, ba00, ba01, ba02⟩ := Ba0.c3
    go_wp2_with (fail)
    go_ret
    exact ⟨rfl, L⟩
theorem fnExactConsistencyFault_walk (v0 : Value) (x0 : Pres) (w : World) (w0 : spPres.rd w v0 x0) :
    Calls Try.prog 6 #[v0] w fun e w' => e = .returned (.bool true) ∧ Below w.heap.size w w' :=
  fnExactConsistencyFault_run v0 x0 w w0
end Go.Proofs.Ytnjilcdbcagkpaa
namespace Go.Proofs.Ytnjilcdbcagkpaa.fnExactConsistencyFault
open Go.ChangeShapes Go.WideShapes Go.ChangeAt Go.RowKit
open Go.ChangeMaps (open_string shut_string)
set_option linter.unusedVariables false

theorem own : ownKnob Try.prog.godebug = none := by kernel_rfl
theorem laidOut : laidOutB Try.prog = true := by kernel_rfl

set_option maxRecDepth 100000 in
theorem lifted (os : Os) (started : os.Started) (H : Type) (enc : TypeId × Value → H) :
    ReturnsInHanded {} Try.checked os 6 .any (Rows.fnExactConsistencyFaultSpec.pre6 enc Try.prog Try.f6 Rows.fnExactConsistencyFaultRow.domain false) (Rows.fnExactConsistencyFaultSpec.post enc Try.prog Try.f6 false true false false) := by
  refine returnsInHanded_of_change (C := Try.checked) own started (by kernel_rfl) Try.func6
    (ChangeSpec.witness6 (enc := enc) (C := Try.checked) false ⟨#[], #[.agg #[.slice none 0 0, .slice none 0 0, .slice none 0 0]], []⟩ 8 (by kernel_rfl) (by kernel_rfl) (by kernel_rfl) (by kernel_rfl)) ?_
  intro W base args ds gs before hval0 hW hcnd _
  have hval : ∀ (j : Nat) t v, Try.f6.params[j]? = some t → args[j]? = some v → Value.okWide Try.prog W .any base t v := hval0
  have hW' := hW
  obtain ⟨p, q, hA0, hV, rfl, hfz, hnd⟩ := hW
  have hA : DataW.TrodAll enc Try.prog W 0 (fun _ => true) true Try.f6.params.toList args.toList ds p := hA0
  rw [Try.params6] at hA hval
  obtain ⟨v0, vs0, d0, ds0, p0, q0, hargs, rfl, rfl, h0, r0⟩ := trodAll_cons hA
  obtain ⟨rfl, rfl, rfl⟩ := trodAll_nil r0
  obtain rfl : args = #[v0] := by cases args; simp_all
  obtain ⟨rfl, rfl⟩ := trodVars_none hV
  have k0 := h0
  have lt0 : ∀ x ∈ p0, x.block < W.heap.size := by obtain ⟨m, hm⟩ := k0; exact DataW.trod_lt m _ _ _ hm
  obtain ⟨z0, w0⟩ := open_pres (hval 0 39 v0 rfl rfl) h0
  clear hA0 hval0
  refine (fnExactConsistencyFault_walk v0 z0 W w0).mono fun e W' ⟨he, bel⟩ => ?_
  subst he
  exact ⟨_, rfl, _, _, _, [], _, [], hW', trodAll_mk1 (shut_bool Try.underlying4 _), (trodAll_cons_mk (Below.trod laidOut (by kernel_rfl) (of_decide_eq_true (by kernel_rfl)) k0 bel lt0) trodAll_mk0), rfl, bel.frame _, fun h => by cases h⟩

theorem over : Rows.fnExactConsistencyFaultRow.holds Try.pinned (OpenSpec.ofChange Rows.fnExactConsistencyFaultSpec) :=
  OpenClaim.holds_of_wide 6 Try.f6 rfl rfl rfl rfl rfl rfl rfl ⟨rfl, rfl, rfl, rfl, rfl⟩ rfl rfl rfl rfl rfl (by kernel_rfl) Try.func6 (by kernel_rfl)
    (of_decide_eq_true (by kernel_rfl)) (by unfold Func.isWrapper; first | (rw [if_pos (by decide +kernel)]; kernel_rfl) | (rw [if_neg (by decide +kernel)]; exact ⟨rfl, rfl⟩))
    (fun os started H enc _ => lifted os started H enc)

theorem proved : Rows.FnExactConsistencyFaultSaid := over
#print axioms proved
end Go.Proofs.Ytnjilcdbcagkpaa.fnExactConsistencyFault
