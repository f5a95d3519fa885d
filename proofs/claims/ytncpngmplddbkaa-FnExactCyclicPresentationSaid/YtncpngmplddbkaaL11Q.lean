/- Presentations: the model's l07Factors and CyclicPresentation. -/
import Derived.Test.YtncpngmplddbkaaL11P
import Derived.Test.YtncpngmplddbkaaNumCy
import Derived.Test.YtncpngmplddbkaaRow
namespace Go.Proofs.Ytncpngmplddbkaa
open Go.RowKit
set_option linter.unusedVariables false
set_option linter.unusedSimpArgs false

/-- The factors up to a trial divisor, and what is left. -/
def Num.sevF (n : Int) : Nat → List Int × Int
  | 0 => ([], n)
  | j + 1 => if Num.gp ((j : Int) + 2) = true then ((Num.sevF n j).1 ++ List.replicate (Num.ve ((j : Int) + 2) (Num.sevF n j).2).toNat ((j : Int) + 2), Num.vr ((j : Int) + 2) (Num.sevF n j).2) else Num.sevF n j
theorem Num.sevF_end {n : Int} (h1 : 1 ≤ n) (h2 : n ≤ 729) : (Num.sevF n 6).1 = Num.cycO n ∧ decide ((Num.sevF n 6).2 = 1) = Num.cycG n := by
  obtain ⟨e1, e2⟩ := Num.cyc_strip h1 h2
  rw [e1, e2]
  have g : Num.gp 2 = true ∧ Num.gp 3 = true ∧ Num.gp 4 = false ∧ Num.gp 5 = true ∧ Num.gp 6 = false ∧ Num.gp 7 = true := by decide
  obtain ⟨g2, g3, g4, g5, g6, g7⟩ := g
  simp only [Num.sevF]
  simp only [show ((0 : Nat) : Int) + 2 = 2 from rfl, show ((1 : Nat) : Int) + 2 = 3 from rfl, show ((2 : Nat) : Int) + 2 = 4 from rfl, show ((3 : Nat) : Int) + 2 = 5 from rfl, show ((4 : Nat) : Int) + 2 = 6 from rfl, show ((5 : Nat) : Int) + 2 = 7 from rfl, g2, g3, g4, g5, g6, g7, if_true, if_false, List.nil_append]
  simp
set_option maxRecDepth 100000 in
set_option maxHeartbeats 2000000 in
theorem sFactors7_any (n : Int) (w : World) (h1 : 1 ≤ n) (h2 : n ≤ 729) :
    Calls Try.prog 64 #[.int .i64 n] w fun e w' => ∃ u, e = .returned (.tuple #[u, .bool (Num.cycG n)]) ∧ OwnI w' w.heap.size u (Num.cycO n) ∧ Below w.heap.size w w' := by
  obtain ⟨iT, hiT, hz0, hz1, hz2⟩ := info_parts infoI
  have HEND := Lib.hid (Num.sevF_end h1 h2)
  go_enter Try.func64, Try.ntmps64
  go_wp2_with (fail)
  go_loopw [0, 4, 5] (fun s0 s4 s5 wr => ∃ (j : Nat) (m : Int) (out : List Int), s5 = .int .i64 ((j : Int) + 2) ∧ s0 = .int .i64 m ∧ j ≤ 6 ∧ 1 ≤ m ∧ (out.length : Int) + m ≤ 729 ∧ Hid (OwnI wr w.heap.size s4 out) ∧ Hid (Num.sevF n j = (out, m)) ∧ Below w.heap.size w wr) (fun _ _ s5 _ => (9 - intOf s5).toNat)
  case atStart => exact ⟨0, n, [], rfl, rfl, by omega, h1, by simpa using h2, Lib.hid (World.ownsRow_lit w #[] 0 (Nat.le_refl _) (by unfold maxLen; omega) rfl), Lib.hid rfl, by go_grown⟩
  case round =>
    obtain ⟨j, m, out, rfl, rfl, hj, hm1, hm2, own, HS, bel⟩ := hrel
    by_cases hlt : j < 6
    · have k0 : (j : Int) + 2 ≤ 7 := by omega
      have k1 : IntKind.i64.wrap ((j : Int) + 2 + 1) = (j : Int) + 2 + 1 := IntWalk.i64_in _ (by omega)
      have HST : Hid (Num.sevF n (j + 1) = if Num.gp ((j : Int) + 2) = true then (out ++ List.replicate (Num.ve ((j : Int) + 2) m).toNat ((j : Int) + 2), Num.vr ((j : Int) + 2) m) else (out, m)) := Lib.hid (by rw [Num.sevF, HS.out])
      clear HS
      generalize hd : (j : Int) + 2 = d at *
      have hd2 : 2 ≤ d := by omega
      have hd7 : d ≤ 7 := by omega
      have hd0 : d ≠ 0 := by omega
      have own0 := own
      have bel0 := bel
      have hm10 := hm1
      have hm20 := hm2
      clear own bel
      go_wp2_with (fail)
      go_loopw [0, 4] (fun s0 s4 wr => ∃ (m' : Int) (out' : List Int), s0 = .int .i64 m' ∧ 1 ≤ m' ∧ (out'.length : Int) + m' ≤ 729 ∧ Hid (OwnI wr w.heap.size s4 out') ∧ Hid (Num.sevF n (j + 1) = if Num.gp d = true then (out' ++ List.replicate (Num.ve d m').toNat d, Num.vr d m') else (out', m')) ∧ Below w.heap.size w wr) (fun s0 _ _ => (intOf s0).toNat)
      case atStart => exact ⟨m, out, rfl, hm10, hm20, own0, HST, bel0⟩
      case round =>
        clear own0 HST bel0 hm10 hm20 hm1 hm2
        obtain ⟨m', out', rfl, hm1, hm2, own, HS, bel⟩ := hrel
        cases hg : Num.gp d with
        | false =>
          have HS1 : Hid (Num.sevF n (j + 1) = (out', m')) := Lib.hid (by rw [HS.out, hg]; rfl)
          have HP := Lib.hid (sPrime_no d wr hg)
          clear hg HS
          go_wp2_with (fail)
          refine HP.out.mono ?_; rintro e w' ⟨rfl, rfl⟩
          go_wp2_with (fail)
          exact ⟨⟨j + 1, m', out', by rw [← hd]; first | (congr 1; omega) | (simp; omega), rfl, by omega, hm1, hm2, own, HS1, bel⟩, by simp [intOf]; omega⟩
        | true =>
          have HP := Lib.hid (sPrime_yes d wr hg)
          have ht0 : m'.tmod d = m' % d := Int.tmod_eq_emod_of_nonneg (by omega)
          have hq0 : m'.tdiv d = m' / d := Int.tdiv_eq_ediv_of_nonneg (by omega)
          by_cases hm : m' % d = 0
          · obtain ⟨d1, d2, d3⟩ := Num.div_bd hd2 hm1 hm
            obtain ⟨v1, v2⟩ := Num.v_step hd2 hm1 hm
            have HS1 : Hid (Num.sevF n (j + 1) = if Num.gp d = true then (out' ++ [d] ++ List.replicate (Num.ve d (m' / d)).toNat d, Num.vr d (m' / d)) else (out' ++ [d], m' / d)) := Lib.hid (by
              rw [HS.out, hg, if_pos rfl, if_pos rfl, v1, v2]
              have h9 := Num.ve_nonneg d (m' / d)
              rw [show (Num.ve d (m' / d) + 1).toNat = (Num.ve d (m' / d)).toNat + 1 by omega, List.replicate_succ, List.append_assoc]
              rfl)
            have HS1b := Lib.hid (by have h9 := HS1.out; rwa [hg, if_pos rfl] at h9)
            have ht : (m' % d == 0) = true := by simp [hm]
            have ow := own.out
            have hol : out'.length ≤ 729 := by omega
            clear hg HS d3 v1 v2 hm own
            generalize hmd : m' / d = m2 at *
            have hw : IntKind.i64.wrap m2 = m2 := IntWalk.i64_in _ (by omega)
            go_wp2_with (fail)
            refine HP.out.mono ?_; rintro e w' ⟨rfl, rfl⟩
            go_wp2_with (first | (at_builtin; refine wpList_append_own_at _ rfl (.tmp 19) (.tmp 21) 22 rfl w.heap.size 2 iT (.int .i64 0) 1 8 Try.underlying22 hiT hz0 hz1 hz2 rfl (by decide) _ _ _ rfl (ow.alloc _) ⟨_, 0, none⟩ 1 1 [.int .i64 d] rfl rfl (cell_one_new _ _ _) (by simp [Value.oneCell']) (by unfold maxLen; omega) (by omega) (by have := bel.size; go_size) ?_; intro v1 w1 hown1 hgrow1 _ hat1))
            obtain ⟨p1, p2⟩ := push_post ow bel hown1 hgrow1
            have P1 := Lib.hid p1
            go_wp2_with (fail)
            exact ⟨⟨m2, out' ++ [d], rfl, d1, by rw [List.length_append]; simp; omega, P1, (by first | exact HS1 | exact HS1b), p2⟩, by simp [intOf]; omega⟩
          · obtain ⟨v1, v2⟩ := Num.v_stop hm1 hd2 hm
            have HS1 : Hid (Num.sevF n (j + 1) = (out', m')) := Lib.hid (by rw [HS.out, hg, if_pos rfl, v1, v2]; simp)
            have ht : (m' % d == 0) = false := by simpa using hm
            clear hg HS v1 v2 hm
            go_wp2_with (fail)
            refine HP.out.mono ?_; rintro e w' ⟨rfl, rfl⟩
            go_wp2_with (fail)
            exact ⟨⟨j + 1, m', out', by rw [← hd]; first | (congr 1; omega) | (simp; omega), rfl, by omega, hm1, hm2, own, HS1, bel⟩, by simp [intOf]; omega⟩
    · have hge : ¬ ((j : Int) + 2 ≤ 7) := by omega
      obtain rfl : j = 6 := by omega
      have h9 := HEND.out
      rw [HS.out] at h9
      obtain ⟨e1, e2⟩ := h9
      simp only at e1 e2
      have HE := Lib.hid e1
      have HE2 : Hid ((m == 1) = Num.cycG n) := Lib.hid (by rw [← e2, Bool.eq_iff_iff]; simp)
      clear e1 e2 HEND HS
      go_wp2_with (fail)
      go_ret2
      rw [← HE2.out, ← HE.out]
      exact ⟨_, rfl, own.out, bel⟩
end Go.Proofs.Ytncpngmplddbkaa
