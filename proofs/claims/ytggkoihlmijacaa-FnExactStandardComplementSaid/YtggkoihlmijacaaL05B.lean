/- The program's unitsAt. -/
import Derived.Test.YtggkoihlmijacaaL05A
import Derived.Test.YtggkoihlmijacaaL02D
namespace Go.Proofs.Ytggkoihlmijacaa
open Go.RowKit
set_option linter.unusedVariables false
set_option linter.unusedSimpArgs false

/-- The unit vectors at some indices. -/
def Num.unitsV (n : Nat) (l : List Nat) : List (List Int) := l.map (Num.unitV n)
theorem Num.unitsV_length (n : Nat) (l : List Nat) : (Num.unitsV n l).length = l.length := by simp [Num.unitsV]
theorem Num.unitsV_get {n : Nat} {l : List Nat} {j : Nat} (h : j < l.length) : (Num.unitsV n l).getD j [] = Num.unitV n (l.getD j 0) := by
  unfold Num.unitsV
  rw [Num.getD_lt _ _ (by simpa using h)]
  simp [h]
theorem Num.ints_length (l : List Nat) : (Num.ints l).length = l.length := by simp [Num.ints]
theorem Num.ints_get {l : List Nat} {j : Nat} (h : j < l.length) : (Num.ints l).getD j 0 = (l.getD j 0 : Int) := by
  unfold Num.ints
  simp [h]
set_option maxRecDepth 100000 in
set_option maxHeartbeats 1000000 in
theorem unitsAt_any (p : Int) (n : Nat) (v : Value) (l : List Nat) (w : World) (h : spI.rd w v (Num.ints l)) (hl : l.length ≤ 8) (hn : n ≤ 8) (hi9 : ∀ j, j < l.length → l.getD j 0 < n) (hp1 : 2 ≤ p) (hp2 : p ≤ 7) :
    Calls Try.prog 75 #[.int .i64 p, .int .i64 (n : Int), v] w (Made spMat ⟨p, n, Num.unitsV n l⟩ w) := by
  obtain ⟨i0, hi, hz0, hz1, hz2⟩ := info_parts infoRow
  obtain ⟨A, c, rfl, -, -⟩ := spI_form h
  have il := Num.ints_length l
  rw [il] at h ⊢
  have HR := Lib.hid h
  have UL := Lib.hid (Num.unitsV_length n l)
  have HIL := Lib.hid il
  have HI9 := Lib.hid hi9
  have HL : Hid (∀ i, i < (Num.unitsV n l).length → ((Num.unitsV n l).getD i []).length = n) := Lib.hid fun i hi => by
    rw [Num.unitsV_get (by rw [← Num.unitsV_length n l]; exact hi), Num.unitV_length]
  have b0 : Below w.heap.size w (w.alloc (.cells #[.int .i64 0, .int .i64 0, .slice none 0 0] 27)) := by go_grown
  have B0 := Blk.new w [.int .i64 0, .int .i64 0, .slice none 0 0] 27
  clear h il hi9
  generalize hm9 : l.length = m at *
  have HM9 := Lib.hid hm9
  clear hm9
  go_enter Try.func75, Try.ntmps75
  go_wp2_with (first | (refine wpList_make_full _ rfl (.tmp 11) (.tmp 11) 51 rfl (w.heap.size + 1) 56 i0 (.slice none 0 0) 1 Try.underlying51 hi hz0 hz1 .i64 .i64 (m : Int) (m : Int) m rfl rfl rfl rfl (by rw [hz2]; omega) (by unfold maxLen; omega) (by simp) ?_; intro w1 own1 gr1; rw [World.size_alloc] at own1; have b1 : Below (w.alloc (.cells #[.int .i64 0, .int .i64 0, .slice none 0 0] 27)).heap.size (w.alloc (.cells #[.int .i64 0, .int .i64 0, .slice none 0 0] 27)) w1 := (Below.refl _ _).grown gr1 (Nat.le_refl _) (fun k hk => by simp at hk); have B1 := B0.below b1; have L1 := bstep b0 b0.size b1; clear gr1 b1 B0))
  go_loopw [15] (fun s wr => ∃ j : Nat, s = .int .i64 j ∧ j ≤ m ∧ CopyTo 56 (spR p) [] (w.heap.size + 1) wr (.slice (some ⟨w.heap.size + 1, 0, none⟩) m m) (Num.unitsV n l) j ∧ Blk wr w.heap.size [.int .i64 0, .int .i64 0, .slice none 0 0] 27 ∧ Below w.heap.size w wr) (fun s _ => m - (intOf s).toNat)
  case atStart => exact ⟨0, rfl, by omega, ⟨_, fun _ _ => False, (by rw [UL.out]; exact own1), fun i hi => by omega, fun i j _ hj => by omega, fun i hi => by omega⟩, B1, L1⟩
  case round =>
    obtain ⟨j, rfl, hj, own, BX, bel⟩ := hrel
    clear own1 B1 L1
    by_cases hlt : j < m
    · have j0 : (0 : Int) ≤ (j : Int) := by omega
      have j1 : (j : Int) < (m : Int) := by omega
      have hr9 : spI.rd wr (.slice A m c) (Num.ints l) := spI.rd_below HR.out bel
      rw [← HIL.out] at hr9
      obtain ⟨g, o, rfl, hg, hc⟩ := spI_at hr9 (j := j) (by rw [HIL.out]; exact hlt)
      rw [Num.ints_get (by rw [HM9.out]; exact hlt)] at hc
      have hx9 := HI9.out j hlt
      have HT0 := unitRow_any p n (l.getD j 0) wr (by omega) hx9 (by omega) (by omega)
      have hug := Num.unitsV_get (n := n) (l := l) (j := j) (by rw [HM9.out]; exact hlt)
      rw [← hug] at HT0
      have HT := Lib.hid HT0
      have HOWN := Lib.hid own
      have hz := bel.size
      have x0 : (0 : Int) ≤ (l.getD j 0 : Int) := by omega
      have x1 : (l.getD j 0 : Int) < (n : Int) := by omega
      clear own HT0 hr9 hx9 hug
      generalize l.getD j 0 = ix at *
      go_wp2_with (fail)
      refine HT.out.mono ?_; rintro e w2 ⟨u2, S2, rfl, ow2, hS2, b2⟩
      obtain ⟨A2, cap2, rfl, -⟩ := spR_form ((spR p).own_rd ow2)
      obtain ⟨⟨ov, hov⟩, hfz, st1, st2, hzz⟩ := HOWN.out.step (by rw [UL.out]; exact hlt) b2 ow2 hS2
      generalize ((Num.unitsV n l).getD j []).length = n2 at *
      have B2 := (BX.below b2).other (p := ⟨w.heap.size + 1, j, none⟩) (by simp) (.slice A2 n2 cap2)
      have bel2 := (bel.trans (b2.mono hz)).grown st2 (by have := b2.size; omega) (fun k hk => by simp at hk; omega)
      have HST := Lib.hid st1
      clear st1 st2 ow2 HOWN HT hS2 b2
      go_wp2_with (fail)
      exact ⟨⟨j + 1, by go_num, by omega, HST.out, B2, bel2⟩, by simp [intOf]; omega⟩
    · have hge : ¬ ((j : Int) < (m : Int)) := by omega
      obtain rfl : j = m := by omega
      have own' : CopyTo 56 (spR p) [] (w.heap.size + 1) wr (.slice (some ⟨w.heap.size + 1, 0, none⟩) j j) (Num.unitsV n l) (Num.unitsV n l).length := by rw [UL.out]; exact own
      have HC := Lib.hid (matrixOf_any p n (.slice (some ⟨w.heap.size + 1, 0, none⟩) j j) (Num.unitsV n l) wr ((spRR p).own_rd own'.done) (by rw [UL.out]; omega) (fun i hi => by rw [HL.out i hi]; omega))
      clear own own'
      go_wp2_with (fail)
      refine HC.out.mono ?_; rintro e w2 ⟨u2, S2, rfl, ⟨v2, T2, rfl, o2, sub2, -⟩, hS2, hb2⟩
      obtain ⟨A2, c2, rfl, -, -⟩ := spII.own_rd o2
      have B2 := BX.below hb2
      have L2 := bstep bel bel.size hb2
      have lt1 := BX.lt
      have HT : Hid (∀ k, T2 k → w.heap.size ≤ k) := Lib.hid fun k h => by have := hS2 k (sub2 k h); omega
      have nT : ¬ T2 w.heap.size := fun h => by have := hS2 _ (sub2 _ h); omega
      clear hb2 hS2 sub2 BX bel
      obtain ⟨bl, q0, q1, q2⟩ := B2.c3
      obtain ⟨f0, f1, f2⟩ := B2.f3
      have HO := Lib.hid o2
      clear o2
      go_wp2_with (fail)
      refine bodyPost_ret (v := .agg #[.int .i64 p, .int .i64 (n : Int), .slice A2 (Num.unitsV n l).length c2]) (by simp [results, Try.results75, go_sem, bl, q0, q1, q2]) rfl ?_
      refine Made.of (S := T2) rfl ⟨.slice A2 (Num.unitsV n l).length c2, T2, rfl, ?_, fun k h => h, fun k h => ?_⟩ (fun k h => HT.out _ h) ?_
      · exact spII.own_set (spII.own_set (spII.own_set HO.out (p := ⟨w.heap.size, 0, none⟩) nT _) (p := ⟨w.heap.size, 1, none⟩) nT _) (p := ⟨w.heap.size, 2, none⟩) nT _
      · have := spII.own_lt HO.out h
        simpa using this
      · exact ((L2.setCell (p := ⟨w.heap.size, 0, none⟩) (by simp) _).setCell (p := ⟨w.heap.size, 1, none⟩) (by simp) _).setCell (p := ⟨w.heap.size, 2, none⟩) (by simp) _
end Go.Proofs.Ytggkoihlmijacaa
