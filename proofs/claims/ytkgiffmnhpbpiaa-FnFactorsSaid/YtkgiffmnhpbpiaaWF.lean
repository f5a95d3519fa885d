/- The walk of the law of factors: the prime powers multiply to the number, and the part of each group prime is among them. -/
import Derived.Test.YtkgiffmnhpbpiaaNumP
import Derived.Test.YtkgiffmnhpbpiaaL01G
import Derived.Test.YtkgiffmnhpbpiaaDrA
namespace Go.Proofs.Ytkgiffmnhpbpiaa
open Go.RowKit
set_option linter.unusedVariables false
set_option linter.unusedSimpArgs false

theorem factorize_post2 (n : Int) (w : World) (hn1 : 1 ≤ n) (hn2 : n ≤ 1000000) : Calls Try.prog 15 #[.int .i64 n] w (FacPost w (Num.facP 2 n) (Num.facE 2 n)) :=
  (factorize_ok n w hn1 hn2).mono fun _ _ h => FacPost.of h
theorem sFactorize_post (n : Int) (w : World) (hn1 : 1 ≤ n) (hn2 : n ≤ 1000000) : Calls Try.prog 16 #[.int .i64 n] w (FacPost w (Num.facP 2 n) (Num.facE 2 n)) :=
  (sFactorize_ok n w hn1 hn2).mono fun _ _ h => FacPost.of h
theorem below_tr' {w a b : World} (h : Below w.heap.size w a) (k : Below a.heap.size a b) : Below w.heap.size w b := h.trans (k.mono h.size)
theorem RdI.step {a b : World} {A : Option Addr} {xs : List Int} (h : RdI a A xs) (k : Below a.heap.size a b) : RdI b A xs := h.below' k

theorem OwnI.lit (w : World) (xs : List Int) {base : Nat} (hb : base ≤ w.heap.size) (hl : xs.length ≤ 1000000) : OwnI (w.alloc (.cells (xs.map (Value.int .i64)).toArray 2)) base (.slice (some ⟨w.heap.size, 0, none⟩) xs.length xs.length) xs := by
  have h := World.ownsRow_lit (e := 2) (size := 1) w (xs.map (Value.int .i64)).toArray xs.length hb (by unfold maxLen; omega) (by simp)
  simpa [OwnI] using h
theorem OwnI.set {w : World} {base g n cap : Nat} {xs : List Int} (h : OwnI w base (.slice (some ⟨g, 0, none⟩) n cap) xs) (k : Nat) (x : Int) :
    OwnI (w.setCell ⟨g, k, none⟩ (.int .i64 x)) base (.slice (some ⟨g, 0, none⟩) n cap) (xs.set k x) := by
  obtain ⟨A, c, e⟩ := h.form
  simp only [Value.slice.injEq] at e
  obtain ⟨rfl, rfl, rfl⟩ := e
  have h1 := (World.ownsRow.stored h k (.int .i64 x)).1
  unfold OwnI
  rw [List.length_set, List.map_set]
  exact h1
theorem OwnI.at_ {w : World} {base g n cap : Nat} {xs : List Int} (h : OwnI w base (.slice (some ⟨g, 0, none⟩) n cap) xs) (k : Nat) (hk : k < xs.length) :
    w.cell? ⟨g, k, none⟩ = some (.int .i64 (xs.getD k 0)) ∧ w.frozen? ⟨g, k, none⟩ = false := by
  obtain ⟨A, c, e⟩ := h.form
  simp only [Value.slice.injEq] at e
  obtain ⟨rfl, rfl, rfl⟩ := e
  refine ⟨?_, World.ownsRow.frozenAt h k⟩
  rw [World.ownsRow.cellAt h k (by omega), List.getElem?_map]
  simp [hk]

set_option maxHeartbeats 2000000 in
theorem fnFactors_walk (a0 : Option Addr) (len0 cap0 : Nat) (z0 : List Int) (w : World) (w0 : IsRow .u8 w a0 len0 cap0 z0) :
    Calls Try.prog 3 #[.slice a0 len0 cap0] w fun e w' => e = .returned (.bool true) ∧ Below w.heap.size w w' := by
  have hB := w0.rdB
  clear w0
  by_cases hl : 4096 < len0
  · go_enter Try.func3, Try.ntmps3
    go_wp2_with (go_at_call 13; refine (big_yes _ _ _ _ hl).mono ?_; rintro e w' ⟨rfl, rfl⟩)
    go_ret
    exact ⟨rfl, Below.refl _ _⟩
  · have hl' : len0 ≤ 4096 := by omega
    clear hl
    go_enter Try.func3, Try.ntmps3
    go_wp2_with (fail)
    refine (big_no _ _ _ _ hl').mono ?_; rintro e w' ⟨rfl, rfl⟩
    go_wp2_with (fail)
    refine (drawFactorize_any _ _ _ _ hB hl').mono ?_; rintro e w1 ⟨⟨n, rfl⟩, bel⟩
    clear hB
    by_cases hn : n < 1 ∨ 1000000 < n
    · have H := Lib.hid hn
      clear hn
      have e0 : ∀ wx, Calls Try.prog 17 #[.slice none 0 0, .slice none 0 0] wx fun e w' => e = .returned (.bool true) ∧ Below wx.heap.size wx w' := fun wx => likeInts_yes none none 0 0 [] wx (RdI.nil _ _) (RdI.nil _ _) (by simp)
      go_wp2_with (fail)
      refine (factorize_bad _ _ H.out).mono ?_; rintro e w' ⟨rfl, rfl⟩
      go_wp2_with (fail)
      refine (sFactorize_bad _ _ H.out).mono ?_; rintro e w' ⟨rfl, rfl⟩
      go_wp2_with (fail)
      refine (e0 _).mono ?_; rintro e w2 ⟨rfl, b2⟩
      go_wp2_with (fail)
      refine (e0 _).mono ?_; rintro e w3 ⟨rfl, b3⟩
      go_wp2
      go_ret
      exact ⟨rfl, below_tr' (below_tr' bel b2) b3⟩
    · have n1 : 1 ≤ n := by omega
      have n2 : n ≤ 1000000 := by omega
      clear hn
      have hlP : (Num.facP 2 n).length ≤ 1000000 := by have := Num.facP_len (d := 2) n1; omega
      have hPE := Num.facPE_len 2 n
      have hlE : (Num.facE 2 n).length ≤ 1000000 := by omega
      have HPE := Lib.hid hPE
      clear hPE
      go_wp2_with (fail)
      refine (factorize_post2 _ _ n1 n2).mono ?_; rintro e w2 ⟨G1, c1, G2, c2, rfl, g1, g2, _, b2⟩
      replace bel := below_tr' bel b2
      clear b2
      go_wp2_with (fail)
      refine (sFactorize_post _ _ n1 n2).mono ?_; rintro e w3 ⟨S1, k1, S2, k2, rfl, s1, s2, _, b3⟩
      replace bel := below_tr' bel b3
      have rg1 := (g1.below b3).reads
      have rg2 := (g2.below b3).reads
      have rs1 := s1.reads
      have rs2 := s2.reads
      clear g1 g2 s1 s2 b3
      go_wp2_with (fail)
      refine (likeInts_yes _ _ _ _ _ _ rg1 rs1 (by omega)).mono ?_; rintro e w4 ⟨rfl, b⟩
      replace bel := below_tr' bel b
      replace rg2 := rg2.step b
      replace rs1 := rs1.step b
      replace rs2 := rs2.step b
      clear b rg1
      go_wp2_with (fail)
      refine (likeInts_yes _ _ _ _ _ _ rg2 rs2 (by omega)).mono ?_; rintro e w5 ⟨rfl, b⟩
      replace bel := below_tr' bel b
      replace rs1 := rs1.step b
      replace rs2 := rs2.step b
      clear b rg2
      go_wp2_with (fail)
      have tS1 : ∀ g o, S1 = some ⟨g, o, none⟩ → 0 < (Num.facP 2 n).length → g < w5.heap.size := fun g o e hp => by
        obtain ⟨g', o', e', hlt, _⟩ := rs1 0 hp
        rw [e] at e'
        injection e' with e'
        injection e' with e1 _ _
        omega
      have tS2 : ∀ g o, S2 = some ⟨g, o, none⟩ → 0 < (Num.facE 2 n).length → g < w5.heap.size := fun g o e hp => by
        obtain ⟨g', o', e', hlt, _⟩ := rs2 0 hp
        rw [e] at e'
        injection e' with e'
        injection e' with e1 _ _
        omega
      have ol : OwnI ((w5.alloc (.cells (([1, 1, 1, 1] : List Int).map (Value.int .i64)).toArray 2)).alloc (.cells (([2, 3, 5, 7] : List Int).map (Value.int .i64)).toArray 2)) w.heap.size (.slice (some ⟨w5.heap.size, 0, none⟩) 4 4) [1, 1, 1, 1] :=
        (OwnI.lit w5 [1, 1, 1, 1] bel.size (by simp)).alloc _
      have rg := RdI.lit (w5.alloc (.cells (([1, 1, 1, 1] : List Int).map (Value.int .i64)).toArray 2)) [2, 3, 5, 7]
      rw [World.size_alloc] at rg
      have gal := (World.grownBy_alloc w5 (.cells (([1, 1, 1, 1] : List Int).map (Value.int .i64)).toArray 2) none).trans (World.grownBy_alloc _ (.cells (([2, 3, 5, 7] : List Int).map (Value.int .i64)).toArray 2) none)
      have rs1' := rs1.grown gal (fun g o e => by simp)
      have rs2' := rs2.grown gal (fun g o e => by simp)
      have bel' := (bel.alloc bel.size (.cells (([1, 1, 1, 1] : List Int).map (Value.int .i64)).toArray 2)).alloc (by have := bel.size; go_size) (.cells (([2, 3, 5, 7] : List Int).map (Value.int .i64)).toArray 2)
      have hz := bel.size
      clear gal rs1 rs2 bel
      go_loopw [10, 13] (fun s10 s13 wr => ∃ (i : Nat) (ls : List Int), s13 = .int .i64 i ∧ s10 = .int .i64 (Num.prodL ((Num.facL 2 n).take i)) ∧ i ≤ (Num.facP 2 n).length ∧ OwnI wr w.heap.size (.slice (some ⟨w5.heap.size, 0, none⟩) 4 4) ls ∧ Num.MixAt n i 0 ls ∧ RdI wr S1 (Num.facP 2 n) ∧ RdI wr S2 (Num.facE 2 n) ∧ RdI wr (some ⟨w5.heap.size + 1, 0, none⟩) [2, 3, 5, 7] ∧ Below w.heap.size w wr) (fun _ s13 _ => (Num.facP 2 n).length - (intOf s13).toNat)
      case atStart => exact ⟨0, [1, 1, 1, 1], rfl, rfl, by omega, ol, Num.mix_start n, rs1', rs2', rg, bel'⟩
      case round =>
        obtain ⟨i, ls, rfl, rfl, hi, own, mix, r1, r2, r3, bel⟩ := hrel
        clear ol rg rs1' rs2' bel'
        by_cases hlt : i < (Num.facP 2 n).length
        · obtain ⟨p, x, hp, he, p2, e1, e2, P1, P2, Pm, pr1, q1, q2, q3, hs⟩ := Num.at_index n1 hlt
          have hltE : i < (Num.facE 2 n).length := by have := HPE.out; omega
          obtain ⟨g, o, rfl, hg, hc⟩ := r1 i hlt
          obtain ⟨g', o', rfl, hg', hc'⟩ := r2 i hltE
          have gS1 := tS1 g o rfl (by omega)
          have gS2 := tS2 g' o' rfl (by omega)
          rw [hp] at hc
          rw [he] at hc'
          have hM : ∀ wx, Calls Try.prog 18 #[.int .i64 p, .int .i64 x, .int .i64 1000000] wx fun e w' => e = .returned (.tuple #[.int .i64 (p ^ x.toNat), .int .i64 0]) ∧ Below wx.heap.size wx w' := fun wx => by
            have h := modPower_ok p x 1000000 wx (by omega) (by omega) (by omega) (by omega)
            rwa [Int.emod_eq_of_lt (by omega) (by omega)] at h
          have HM := Lib.hid hM
          have HS := Lib.hid hs
          have HP := Lib.hid hp
          have HPR := Lib.hid pr1
          have HR1 := Lib.hid r1
          have HR2 := Lib.hid r2
          have HR3 := Lib.hid r3
          clear hM hs pr1 r1 r2 r3 tS1 tS2 hp he
          generalize p ^ x.toNat = P at *
          have P0 : (P == 0) = false := by simp; omega
          generalize hQ : Num.prodL ((Num.facL 2 n).take i) = Q at *
          have HQ := Lib.hid hQ
          clear hQ
          have m0 : 0 ≤ Q * P := Int.mul_nonneg (by omega) (by omega)
          have i0 : (0 : Int) ≤ (i : Int) := by omega
          have i1 : (i : Int) < ((Num.facP 2 n).length : Int) := by omega
          have i2 : (i : Int) < ((Num.facE 2 n).length : Int) := by omega
          go_wp2_with (fail)
          go_region_held3 (fun wx => wx.cell? ⟨g, o + i, none⟩ = some (.int .i64 p) ∧ wx.cell? ⟨g', o' + i, none⟩ = some (.int .i64 x)) (first | go_keep | assumption) (first | (go_at_call 18; refine (HM.out _).mono ?_; rintro e wm ⟨rfl, hbm⟩; have SM : wm.cell? ⟨g, o + i, none⟩ = some (.int .i64 p) ∧ wm.cell? ⟨g', o' + i, none⟩ = some (.int .i64 x) := ⟨(by rw [hbm.cell hg]; exact hc), (by rw [hbm.cell hg']; exact hc')⟩))
          all_goals
            have R1 := HR1.out.below' ((Below.refl _ _).drew.trans hbm)
            have R2 := HR2.out.below' ((Below.refl _ _).drew.trans hbm)
            have R3 := HR3.out.below' ((Below.refl _ _).drew.trans hbm)
            have OW := own.below ((Below.refl _ _).drew.trans hbm)
            have bel2 := bel.drew.trans (hbm.mono (by have := bel.size; go_size))
            clear own bel hc hc' SM hbm HR1 HR2 HR3 hg hg'
            go_wp2_with (fail)
            go_loopw [16] (fun s16 wi => ∃ (k : Nat) (ls : List Int), s16 = .int .i64 k ∧ k ≤ 4 ∧ OwnI wi w.heap.size (.slice (some ⟨w5.heap.size, 0, none⟩) 4 4) ls ∧ Num.MixAt n i k ls ∧ RdI wi (some ⟨g, o, none⟩) (Num.facP 2 n) ∧ RdI wi (some ⟨g', o', none⟩) (Num.facE 2 n) ∧ RdI wi (some ⟨w5.heap.size + 1, 0, none⟩) [2, 3, 5, 7] ∧ Below w.heap.size w wi) (fun s16 _ => (4 - intOf s16).toNat)
            case atStart => exact ⟨0, ls, rfl, by omega, OW, mix, R1, R2, R3, bel2⟩
            case round =>
              obtain ⟨k, ms, rfl, hk, ow, mx, r1, r2, r3, bl⟩ := hrel
              clear OW R1 R2 R3 bel2 mix
              by_cases hk4 : k < 4
              · obtain ⟨ga, oa, ea, _, hca⟩ := r1 i hlt
                obtain ⟨rfl, rfl⟩ : ga = g ∧ oa = o := by
                  injection ea with ea
                  injection ea with e1 e2 _
                  exact ⟨e1.symm, e2.symm⟩
                rw [HP.out] at hca
                obtain ⟨gq, oq, eq, _, hcq⟩ := r3 k (by simpa using hk4)
                obtain ⟨rfl, rfl⟩ : gq = w5.heap.size + 1 ∧ oq = 0 := by
                  injection eq with eq
                  injection eq with e1 e2 _
                  exact ⟨e1.symm, e2.symm⟩
                have hcq' : wr.cell? ⟨w5.heap.size + 1, 0 + k, none⟩ = some (.int .i64 (Num.grp k)) := hcq
                rw [Nat.zero_add] at hcq'
                obtain ⟨hcp, hfp⟩ := ow.at_ k (by rw [mx.1]; exact hk4)
                clear hcq eq ea
                have j0 : (0 : Int) ≤ (k : Int) := by omega
                have j1 : (k : Int) < 4 := by omega
                by_cases hgk : Num.grp k = p
                · have mx' := Num.mix_hit mx hk4 hgk HS.out
                  have ow' := ow.set k P
                  have ht : (Num.grp k == p) = true := by simp [hgk]
                  have HGK := Lib.hid hgk
                  clear hgk ow mx
                  generalize ms.getD k 0 = ov at *
                  generalize Num.grp k = q at *
                  have gset := grown_set wr w5.heap.size k (.int .i64 P)
                  have x1 := r1.grown gset (fun g o e => by simp at e ⊢; omega)
                  have x2 := r2.grown gset (fun g o e => by simp at e ⊢; omega)
                  have x3 := r3.grown gset (fun g o e => by simp at e ⊢; omega)
                  have bl' := bl.setCell (p := ⟨w5.heap.size, k, none⟩) hz (.int .i64 P)
                  have HX : Hid (RdI _ _ _ ∧ RdI _ _ _ ∧ RdI _ _ _) := Lib.hid ⟨x1, x2, x3⟩
                  have HO := Lib.hid ow'
                  clear gset x1 x2 x3 r1 r2 r3 ow'
                  go_wp2_with (fail)
                  go_quiet (fail)
                  go_wp2_with (fail)
                  exact ⟨⟨k + 1, _, by go_num, by omega, HO.out.drewN _, mx', HX.out.1.below' (below_drewN (Below.refl _ _) _), HX.out.2.1.below' (below_drewN (Below.refl _ _) _), HX.out.2.2.below' (below_drewN (Below.refl _ _) _), below_drewN bl' _⟩, by simp [intOf]; omega⟩
                · have mx' := Num.mix_miss mx hk4 hgk HS.out
                  have ht : (Num.grp k == p) = false := by simp [hgk]
                  clear hgk mx hcp hfp
                  generalize Num.grp k = q at *
                  go_wp2_with (fail)
                  go_quiet (fail)
                  go_wp2_with (fail)
                  exact ⟨⟨k + 1, ms, by go_num, by omega, ow.drewN _, mx', r1.below' (below_drewN (Below.refl _ _) _), r2.below' (below_drewN (Below.refl _ _) _), r3.below' (below_drewN (Below.refl _ _) _), below_drewN bl _⟩, by simp [intOf]; omega⟩
              · obtain rfl : k = 4 := by omega
                have mx' := Num.mix_next mx
                clear mx
                go_wp2_with (fail)
                exact ⟨⟨i + 1, ms, by go_num, by rw [HPR.out], by omega, ow, mx', r1, r2, r3, bl⟩, by simp [intOf]; omega⟩
        · have hge : ¬ ((i : Int) < ((Num.facP 2 n).length : Int)) := by omega
          have hend := Num.mix_end n1 mix (by omega)
          have hprod := Num.prodL_end n1 (i := i) (by omega)
          have HEND := Lib.hid hend
          have HPROD := Lib.hid hprod
          have r4 := own.reads
          have l4 := mix.1
          clear hend hprod mix
          go_wp2_with (fail)
          go_loop [17] (fun s17 => ∃ k : Nat, k ≤ 4 ∧ s17 = .int .i64 k) (fun s17 => (4 - intOf s17).toNat)
          case atStart => exact ⟨0, by omega, rfl⟩
          case round =>
            obtain ⟨k, hk, rfl⟩ := hrel
            by_cases hk4 : k < 4
            · obtain ⟨gq, oq, eq, _, hcq⟩ := r3 k (by simpa using hk4)
              obtain ⟨rfl, rfl⟩ : gq = w5.heap.size + 1 ∧ oq = 0 := by
                injection eq with eq
                injection eq with e1 e2 _
                exact ⟨e1.symm, e2.symm⟩
              obtain ⟨gp', op, ep, _, hcp⟩ := r4 k (by omega)
              obtain ⟨rfl, rfl⟩ : gp' = w5.heap.size ∧ op = 0 := by
                injection ep with ep
                injection ep with e1 e2 _
                exact ⟨e1.symm, e2.symm⟩
              rw [HEND.out k hk4] at hcp
              have hcq' : wr.cell? ⟨w5.heap.size + 1, 0 + k, none⟩ = some (.int .i64 (Num.grp k)) := hcq
              have hgp := Lib.hid (Num.gp_grp hk4)
              rw [Nat.zero_add] at hcp hcq'
              clear hcq eq ep
              generalize Num.grp k = q at *
              have i0 : (0 : Int) ≤ (k : Int) := by omega
              have i1 : (k : Int) < 4 := by omega
              go_wp2_with (first | (go_at_call 19; refine (primePart_ok _ _ _ n1 n2 hgp.out).mono ?_; rintro e w' ⟨rfl, rfl⟩) | (go_at_call 20; refine (gp_yes _ _ hgp.out).mono ?_; rintro e w' ⟨rfl, rfl⟩))
              exact ⟨⟨k + 1, by omega, by go_num⟩, by simp [intOf]; omega⟩
            · have hge4 : ¬ ((k : Int) < 4) := by omega
              have ht : (Num.prodL ((Num.facL 2 n).take i) == n) = true := by rw [HPROD.out]; simp
              go_wp2_with (fail)
              go_ret
              exact ⟨rfl, bel⟩
end Go.Proofs.Ytkgiffmnhpbpiaa
