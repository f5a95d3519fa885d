/- Draws of abelian groups. -/
import Derived.Test.YtpplojbcjgiabaaDrS
namespace Go.Proofs.Ytpplojbcjgiabaa
open Go.RowKit
set_option linter.unusedVariables false
set_option linter.unusedSimpArgs false
set_option maxRecDepth 100000 in
set_option maxHeartbeats 4000000 in
theorem good_any (q : Nat) (A : Option Addr) (len cap : Nat) (w : World) (hs : SrcI w q A len cap) :
    Calls Try.prog 64 #[.pointer (some ⟨q, 0, none⟩)] w (DrawnAn 50 w q A len cap) := by
  obtain ⟨i0, hi, hz0, hz1, hz2⟩ := info_parts infoI
  have hq := hs.lt
  have B1 : Blk (((w.alloc (.cells [.slice none 0 0, (.int .i64 0 : Value)].toArray 40)).alloc (.cells #[] 2)).alloc (.cells [.slice (some ⟨w.heap.size + 1, 0, none⟩) 0 0, (.int .i64 0 : Value)].toArray 40)) w.heap.size [.slice none 0 0, (.int .i64 0 : Value)] 40 := ((Blk.new w [.slice none 0 0, (.int .i64 0 : Value)] 40).alloc _).alloc _
  have B2 : Blk (((w.alloc (.cells [.slice none 0 0, (.int .i64 0 : Value)].toArray 40)).alloc (.cells #[] 2)).alloc (.cells [.slice (some ⟨w.heap.size + 1, 0, none⟩) 0 0, (.int .i64 0 : Value)].toArray 40)) (w.heap.size + 2) [.slice (some ⟨w.heap.size + 1, 0, none⟩) 0 0, (.int .i64 0 : Value)] 40 := by have := Blk.new ((w.alloc (.cells [.slice none 0 0, (.int .i64 0 : Value)].toArray 40)).alloc (.cells #[] 2)) [.slice (some ⟨w.heap.size + 1, 0, none⟩) 0 0, (.int .i64 0 : Value)] 40; rwa [World.size_alloc, World.size_alloc] at this
  have hc1 : ChgS (fun k => k = q) w (((w.alloc (.cells [.slice none 0 0, (.int .i64 0 : Value)].toArray 40)).alloc (.cells #[] 2)).alloc (.cells [.slice (some ⟨w.heap.size + 1, 0, none⟩) 0 0, (.int .i64 0 : Value)].toArray 40)) := ((chgS_alloc w _).trans (chgS_alloc _ _)).trans (chgS_alloc _ _)
  have hs1 : SrcI (((w.alloc (.cells [.slice none 0 0, (.int .i64 0 : Value)].toArray 40)).alloc (.cells #[] 2)).alloc (.cells [.slice (some ⟨w.heap.size + 1, 0, none⟩) 0 0, (.int .i64 0 : Value)].toArray 40)) q A len cap := ((hs.chg (S := fun _ => False) (chgS_alloc w (.cells [.slice none 0 0, (.int .i64 0 : Value)].toArray 40)) (fun k h => h.elim)).chg (S := fun _ => False) (chgS_alloc _ (.cells #[] 2)) (fun k h => h.elim)).chg (S := fun _ => False) (chgS_alloc _ (.cells [.slice (some ⟨w.heap.size + 1, 0, none⟩) 0 0, (.int .i64 0 : Value)].toArray 40)) (fun k h => h.elim)
  have S0 : StB w (((w.alloc (.cells [.slice none 0 0, (.int .i64 0 : Value)].toArray 40)).alloc (.cells #[] 2)).alloc (.cells [.slice (some ⟨w.heap.size + 1, 0, none⟩) 0 0, (.int .i64 0 : Value)].toArray 40)) q (w.heap.size + 2) A len cap [.slice (some ⟨w.heap.size + 1, 0, none⟩) 0 0, (.int .i64 0 : Value)] := ⟨hs1, B1, B2, hc1, hq, by omega⟩
  have S1 := Lib.hid S0
  have hl0 : OwnI ((w.alloc (.cells [.slice none 0 0, (.int .i64 0 : Value)].toArray 40)).alloc (.cells #[] 2)) (w.heap.size + 1) (.slice (some ⟨w.heap.size + 1, 0, none⟩) 0 0) [] := by
    have := World.ownsRow_lit (base := w.heap.size + 1) (e := 2) (size := 1) (w.alloc (.cells [.slice none 0 0, (.int .i64 0 : Value)].toArray 40)) #[] 0 (Nat.le_of_eq (World.size_alloc _ _).symm) (by unfold maxLen; omega) rfl
    rw [World.size_alloc] at this
    exact this
  have O0 : OwnD (((w.alloc (.cells [.slice none 0 0, (.int .i64 0 : Value)].toArray 40)).alloc (.cells #[] 2)).alloc (.cells [.slice (some ⟨w.heap.size + 1, 0, none⟩) 0 0, (.int .i64 0 : Value)].toArray 40)) w.heap.size (w.heap.size + 2) (.slice (some ⟨w.heap.size + 1, 0, none⟩) 0 0) [] := ⟨hl0.alloc _, fun k e => by first | (have := Option.some.inj e; omega) | (simp [Value.ownBlock] at e; omega) | cases e⟩
  have O1 := Lib.hid O0
  obtain ⟨bl0, a00, a01⟩ := B2.c2
  have f00 := B2.free 0
  have f01 := B2.free 1
  have HS := S1
  have HO := O1
  clear S0 S1 O0 O1 hl0 hs1 hc1 B1 hs
  go_enter Try.func64, Try.ntmps64
  go_wp2_with (fail)
  refine (nextS q A len cap 4 _ HS.out.src (by omega) (by omega)).mono ?_
  rintro e w1 ⟨k, rfl, ⟨k0, k1⟩, hs', hc'⟩
  replace HO := Lib.hid (OwnD.chg HO.out hc' (fun k g => .inl (by omega)))
  replace HS := Lib.hid (StB.draw HS.out hs' hc')
  clear hs' hc'

  go_wp2_with (fail)
  go_loopw [4, 5] (fun s4 s5 wr => ∃ (d k : Int) (U : Option Addr) (cU : Nat) (F : List Int), s4 = .int .i64 d ∧ s5 = .int .i64 k ∧ 0 ≤ k ∧ F.length + k ≤ 4 ∧ Hid (StB w wr q (w.heap.size + 2) A len cap [.slice U F.length cU, .int .i64 0]) ∧ Hid (OwnD wr w.heap.size (w.heap.size + 2) (.slice U F.length cU) F)) (fun _ s5 _ => (intOf s5).toNat)
  case atStart => exact ⟨1, k, _, _, [], rfl, rfl, k0, by simp; omega, HS, HO⟩
  case round =>
    clear HS HO
    obtain ⟨d, x, U, cU, F, rfl, rfl, x0, xl, HS, HO⟩ := hrel
    by_cases hx : 0 < x
    · go_wp2_with (fail)
      refine (nextS q A len cap 4 _ HS.out.src (by omega) (by omega)).mono ?_
      rintro e w2 ⟨r, rfl, ⟨r0, r1⟩, hs', hc'⟩
      replace HO := Lib.hid (OwnD.chg HO.out hc' (fun k g => .inl (by omega)))
      replace HS := Lib.hid (StB.draw HS.out hs' hc')
      clear hs' hc'

      have e1 : IntKind.i64.wrap (1 + r) = 1 + r := IntWalk.i64_in _ (by omega)
      obtain ⟨y, hyE⟩ : ∃ y, IntKind.i64.wrap (d * (1 + r)) = y := ⟨_, rfl⟩
      by_cases hy : 1 < y
      · have HD := Lib.hid HO.out.far
        obtain ⟨bl, a0, a1⟩ := HS.out.a.c2
        obtain ⟨blr, b0, b1⟩ := HS.out.r.c2
        have f0 := HS.out.a.free 0
        have f1 := HS.out.a.free 1
        have g0 := HS.out.r.free 0
        have g1 := HS.out.r.free 1

        go_wp2_with (first | (at_builtin; refine wpList_append_own_at _ rfl (.tmp 22) (.tmp 24) 24 rfl (w.heap.size + 1) 2 i0 (.int .i64 0) 1 8 Try.underlying24 hi hz0 hz1 hz2 rfl (by decide) _ _ _ rfl (HO.out.1.alloc _) ⟨_, 0, none⟩ 1 1 [.int .i64 y] rfl rfl (cell_one_new _ _ _) (by simp [Value.oneCell']) (by unfold maxLen; omega) (by omega) (by simp; omega) ?_; intro v3 w3 own3 gr3 _ at3; have hc3 : ChgS (fun k => (Value.slice U F.length cU).ownBlock = some k) (w2.alloc (.cells #[.int .i64 y] 2)) w3 := ChgS.of_grown gr3 (fun k e => e); have S3 := Lib.hid (((HS.out).alloc (.cells #[.int .i64 y] 2)).far hc3 HD.out); have O3 := Lib.hid (OwnD.push (fun k e => (HD.out k e).2) (by have := HS.out.a.lt; simp; omega) own3 at3); obtain ⟨U3, c3, hv3⟩ := O3.out.1.form; rw [List.length_append] at hv3; simp only [List.length_cons, List.length_nil, Nat.zero_add] at hv3; subst hv3; obtain ⟨bl3, a30, a31⟩ := S3.out.a.c2; have f30 := S3.out.a.free 0; have f31 := S3.out.a.free 1))
        exact ⟨⟨_, x - 1, U3, c3, F ++ [y], rfl, rfl, by omega, by rw [List.length_append]; simp; omega, Lib.hid (StB.pushed y S3.out), Lib.hid (OwnD.pushed O3.out _)⟩, by simp [intOf]; omega⟩
      · go_wp2_with (fail)
        exact ⟨⟨_, x - 1, U, cU, F, rfl, rfl, by omega, by omega, HS, HO⟩, by simp [intOf]; omega⟩
    · obtain rfl : x = 0 := by omega
      go_wp2_with (fail)
      refine (nextS q A len cap 3 _ HS.out.src (by omega) (by omega)).mono ?_
      rintro e w4 ⟨r3, rfl, ⟨r30, r31⟩, hs', hc'⟩
      replace HO := Lib.hid (OwnD.chg HO.out hc' (fun k g => .inl (by omega)))
      replace HS := Lib.hid (StB.draw HS.out hs' hc')
      clear hs' hc'
      by_cases e3 : r3 = 0
      · subst e3
        go_wp2_with (fail)
        refine (nextS q A len cap 4 _ HS.out.src (by omega) (by omega)).mono ?_
        rintro e w5 ⟨K, rfl, ⟨K0, K1⟩, hs', hc'⟩
        replace HO := Lib.hid (OwnD.chg HO.out hc' (fun k g => .inl (by omega)))
        replace HS := Lib.hid (StB.draw HS.out hs' hc')
        clear hs' hc'

        obtain ⟨bl, a0, a1⟩ := HS.out.a.c2
        obtain ⟨blr, b0, b1⟩ := HS.out.r.c2
        have f0 := HS.out.a.free 0
        have f1 := HS.out.a.free 1
        have g0 := HS.out.r.free 0
        have g1 := HS.out.r.free 1

        go_wp2_with (fail)
        replace HS := Lib.hid (StB.set HS.out 1 (.int .i64 K))
        replace HO := Lib.hid (OwnD.set HO.out 1 (.int .i64 K))
        clear bl a0 a1 blr b0 b1 f0 f1 g0 g1
        refine (nextS q A len cap 16 _ HS.out.src (by omega) (by omega)).mono ?_
        rintro e w6 ⟨r4, rfl, ⟨r40, r41⟩, hs', hc'⟩
        replace HO := Lib.hid (OwnD.chg HO.out hc' (fun k g => .inl (by omega)))
        replace HS := Lib.hid (StB.draw HS.out hs' hc')
        clear hs' hc'
        by_cases e4 : r4 = 0
        · subst e4
          have HS6 := Lib.hid (StB.alloc HS.out (.cells #[] 2))
          have hb6 := HS.out.a.lt
          have HO6 := Lib.hid (OwnD.lit (H := w.heap.size) w6 hb6 (by have := HS.out.b; omega) [] (by simp))
          clear HS HO
          have HS := HS6
          have HO := HO6
          clear HS6 HO6
          go_wp2_with (fail)
          refine (nextS q A len cap 2 _ HS.out.src (by omega) (by omega)).mono ?_
          rintro e w7 ⟨K2, rfl, ⟨K20, K21⟩, hs', hc'⟩
          replace HO := Lib.hid (OwnD.chg HO.out hc' (fun k g => .inl (by omega)))
          replace HS := Lib.hid (StB.draw HS.out hs' hc')
          clear hs' hc'

          obtain ⟨bl, a0, a1⟩ := HS.out.a.c2
          obtain ⟨blr, b0, b1⟩ := HS.out.r.c2
          have f0 := HS.out.a.free 0
          have f1 := HS.out.a.free 1
          have g0 := HS.out.r.free 0
          have g1 := HS.out.r.free 1

          go_wp2_with (fail)
          replace HS := Lib.hid (StB.set (StB.set HS.out 0 (.slice (some ⟨w6.heap.size, 0, none⟩) 0 0)) 1 (.int .i64 K2))
          replace HO := Lib.hid (OwnD.set (OwnD.set HO.out 0 (.slice (some ⟨w6.heap.size, 0, none⟩) 0 0)) 1 (.int .i64 K2))
          clear bl a0 a1 blr b0 b1 f0 f1 g0 g1
          go_loopw [40] (fun _ wr => ∃ (U : Option Addr) (cU : Nat) (F : List Int), F.length ≤ 9 ∧ Hid (StB w wr q (w.heap.size + 2) A len cap [.slice U F.length cU, .int .i64 K2]) ∧ Hid (OwnD wr w.heap.size (w.heap.size + 2) (.slice U F.length cU) F)) (fun _ wr => 9 - lenC (wr.cell? ⟨w.heap.size + 2, 0, none⟩))
          case atStart => exact ⟨_, _, [], by simp, HS, HO⟩
          case round =>
            clear HS HO
            obtain ⟨U, cU, F, xl, HS, HO⟩ := hrel
            obtain ⟨bl, a0, a1⟩ := HS.out.a.c2
            obtain ⟨blr, b0, b1⟩ := HS.out.r.c2
            have f0 := HS.out.a.free 0
            have f1 := HS.out.a.free 1
            have g0 := HS.out.r.free 0
            have g1 := HS.out.r.free 1

            by_cases hF : (F.length : Int) < 9
            · replace HS := Lib.hid (StB.drew HS.out)
              have HO2 : Hid (OwnD wr.drew w.heap.size (w.heap.size + 2) (.slice U F.length cU) F) := Lib.hid HO.out
              have HD := Lib.hid HO.out.far
              have HR : Hid (RdC ((wr.drew.alloc (.cells #[.int .i64 2, .int .i64 997, .int .i64 1000000] 2)).alloc (.cells #[.int .i64 2] 2)) (some ⟨wr.heap.size + 1, 0, none⟩) [.int .i64 2]) := Lib.hid (by
                have := (RdI.lit (wr.drew.alloc (.cells #[.int .i64 2, .int .i64 997, .int .i64 1000000] 2)) [2]).cells
                rw [World.size_alloc] at this
                exact this)
              go_wp2_with (fail)
              have aw1 : ((wr.drew.alloc (.cells #[.int .i64 2, .int .i64 997, .int .i64 1000000] 2)).alloc (.cells #[.int .i64 2] 2)).cell? ⟨w.heap.size + 1 + 1, 0, none⟩ = some (.slice U F.length cU) := (Blk.cell ((HS.out.alloc _).alloc _).a 0 (by simp))
              have aw2 : ((wr.alloc (.cells #[.int .i64 2, .int .i64 997, .int .i64 1000000] 2)).drew.alloc (.cells #[.int .i64 2] 2)).cell? ⟨w.heap.size + 1 + 1, 0, none⟩ = some (.slice U F.length cU) := aw1
              have aw3 : ((wr.alloc (.cells #[.int .i64 2, .int .i64 997, .int .i64 1000000] 2)).alloc (.cells #[.int .i64 2] 2)).drew.cell? ⟨w.heap.size + 1 + 1, 0, none⟩ = some (.slice U F.length cU) := aw1
              refine wp_region_held_drew (S := fun _ => True) (by kernel_rfl) trivial (fun _ => ?_)
              refine wpAnyH_take (i := 0) (v := ?_) rfl (by kernel_rfl) (by kernel_rfl) (by kernel_rfl) (fun _ _ _ h => h) (Or.inl ⟨by rfl, ?_⟩) trivial ?_
              rotate_left
              · intro W9 _; go_simp
                with_reducible rfl
              refine wpAnyH_take (i := 3) (v := ?_) rfl (by kernel_rfl) (by kernel_rfl) (by kernel_rfl) (fun _ _ _ h => h) (Or.inl ⟨by rfl, ?_⟩) trivial ?_
              rotate_left
              · intro W9 _; go_simp
                with_reducible rfl
              refine wpAnyH_ready (rs := [1, 2, 4]) (by kernel_rfl) (by simp) ?_
              refine (AllReadyH.cons rfl (fun K hK => ?_) (AllReadyH.cons rfl (fun K hK => ?_) (AllReadyH.cons rfl (fun K hK => ?_) AllReadyH.nil)))
              · go_simp
                refine hK.out _ _ trivial (fun _ => ?_)
                clear hK K
                refine wpAnyH_ready (rs := [2, 4]) (by kernel_rfl) (by simp) ?_
                refine (AllReadyH.cons rfl (fun K hK => ?_) (AllReadyH.cons rfl (fun K hK => ?_) AllReadyH.nil))
                · go_simp
                  refine hK.out _ _ trivial (fun _ => ?_)
                  clear hK K
                  refine wpAnyH_ready (rs := [4]) (by kernel_rfl) (by simp) ?_
                  refine (AllReadyH.cons rfl (fun K hK => ?_) AllReadyH.nil)
                  go_simp
                  refine (next_eq q _).mono ?_
                  rintro e w8 ⟨rfl, rfl⟩
                  try go_simp
                  refine hK.out _ _ trivial (fun _ => ?_)
                  clear hK K
                  refine wpAnyH_take (i := 5) (v := ?_) rfl (by kernel_rfl) (by kernel_rfl) (by kernel_rfl) (fun _ _ _ h => h) (Or.inl ⟨by rfl, ?_⟩) trivial ?_
                  rotate_left
                  · intro W9 _; go_simp
                    with_reducible rfl
                  refine wpAnyH_ready (rs := [6]) (by kernel_rfl) (by simp) ?_
                  refine (AllReadyH.cons rfl (fun K hK => ?_) AllReadyH.nil)
                  go_simp
                  refine hK.out _ _ trivial (fun _ => ?_)
                  clear hK K
                  refine wpAnyH_ready (rs := [7]) (by kernel_rfl) (by simp) ?_
                  refine (AllReadyH.cons rfl (fun K hK => ?_) AllReadyH.nil)
                  go_simp
                  refine hK.out _ _ trivial (fun _ => ?_)
                  clear hK K
                  refine wpAnyH_ready (rs := [8]) (by kernel_rfl) (by simp) ?_
                  refine (AllReadyH.cons rfl (fun K hK => ?_) AllReadyH.nil)
                  refine step_append_list _ rfl _ _ 24 rfl (w.heap.size + 1) 2 i0 (.int .i64 0) 8 Try.underlying24 hi hz0 hz1 hz2 rfl (.slice U F.length cU) F.length (F.map (Value.int .i64)) rfl ((HO2.out.1.alloc (.cells #[.int .i64 2, .int .i64 997, .int .i64 1000000] 2)).alloc (.cells #[.int .i64 2] 2)) (some ⟨wr.heap.size + 1, 0, none⟩) 1 1 [.int .i64 2] rfl rfl HR.out (by simp [Value.oneCell']) (by unfold maxLen; omega) (by omega) (by simp; omega) ?_
                  intro v3 w3 own3 gr3 at3
                  have hc3 : ChgS (fun k => (Value.slice U F.length cU).ownBlock = some k) ((wr.drew.alloc (.cells #[.int .i64 2, .int .i64 997, .int .i64 1000000] 2)).alloc (.cells #[.int .i64 2] 2)) w3 := ChgS.of_grown gr3 (fun k e => e)
                  have S3 := Lib.hid (((HS.out.alloc (.cells #[.int .i64 2, .int .i64 997, .int .i64 1000000] 2)).alloc (.cells #[.int .i64 2] 2)).far hc3 HD.out)
                  have O3 := Lib.hid (OwnD.push (x := 2) (fun k e => (HD.out k e).2) (by have := HS.out.a.lt; simp at this ⊢; omega) own3 at3)
                  obtain ⟨U3, c3, hv3⟩ := O3.out.1.form
                  rw [List.length_append] at hv3
                  simp only [List.length_cons, List.length_nil, Nat.zero_add] at hv3
                  subst hv3
                  obtain ⟨bl3, a30, a31⟩ := S3.out.a.c2
                  have f30 := S3.out.a.free 0
                  have f31 := S3.out.a.free 1
                  refine hK.out _ _ trivial (fun _ => ?_)
                  clear hK K
                  refine wpAnyH_ready (rs := [9]) (by kernel_rfl) (by simp) ?_
                  refine (AllReadyH.cons rfl (fun K hK => ?_) AllReadyH.nil)
                  go_simp
                  refine hK.out _ _ trivial (fun _ => ?_)
                  clear hK K
                  refine wpAnyH_ready (rs := [10]) (by kernel_rfl) (by simp) ?_
                  refine (AllReadyH.cons rfl (fun K hK => ?_) AllReadyH.nil)
                  go_simp
                  refine hK.out _ _ trivial (fun _ => ?_)
                  clear hK K
                  refine wpAnyH_done (by kernel_rfl) ?_ _
                  go_wp2_with (fail)
                  exact ⟨⟨U3, c3, F ++ [2], by rw [List.length_append]; simp; omega, Lib.hid (StB.pushed 2 S3.out), Lib.hid (OwnD.pushed O3.out _)⟩, by rw [World.cell?_setCell_same _ _ _ a30, a0]; simp [lenC]; omega⟩
                · go_simp
                  refine (next_eq q _).mono ?_
                  rintro e w8 ⟨rfl, rfl⟩
                  try go_simp
                  refine hK.out _ _ trivial (fun _ => ?_)
                  clear hK K
                  refine wpAnyH_ready (rs := [2]) (by kernel_rfl) (by simp) ?_
                  refine (AllReadyH.cons rfl (fun K hK => ?_) AllReadyH.nil)
                  go_simp
                  refine hK.out _ _ trivial (fun _ => ?_)
                  clear hK K
                  refine wpAnyH_take (i := 5) (v := ?_) rfl (by kernel_rfl) (by kernel_rfl) (by kernel_rfl) (fun _ _ _ h => h) (Or.inl ⟨by rfl, ?_⟩) trivial ?_
                  rotate_left
                  · intro W9 _; go_simp
                    with_reducible rfl
                  refine wpAnyH_ready (rs := [6]) (by kernel_rfl) (by simp) ?_
                  refine (AllReadyH.cons rfl (fun K hK => ?_) AllReadyH.nil)
                  go_simp
                  refine hK.out _ _ trivial (fun _ => ?_)
                  clear hK K
                  refine wpAnyH_ready (rs := [7]) (by kernel_rfl) (by simp) ?_
                  refine (AllReadyH.cons rfl (fun K hK => ?_) AllReadyH.nil)
                  go_simp
                  refine hK.out _ _ trivial (fun _ => ?_)
                  clear hK K
                  refine wpAnyH_ready (rs := [8]) (by kernel_rfl) (by simp) ?_
                  refine (AllReadyH.cons rfl (fun K hK => ?_) AllReadyH.nil)
                  refine step_append_list _ rfl _ _ 24 rfl (w.heap.size + 1) 2 i0 (.int .i64 0) 8 Try.underlying24 hi hz0 hz1 hz2 rfl (.slice U F.length cU) F.length (F.map (Value.int .i64)) rfl ((HO2.out.1.alloc (.cells #[.int .i64 2, .int .i64 997, .int .i64 1000000] 2)).alloc (.cells #[.int .i64 2] 2)) (some ⟨wr.heap.size + 1, 0, none⟩) 1 1 [.int .i64 2] rfl rfl HR.out (by simp [Value.oneCell']) (by unfold maxLen; omega) (by omega) (by simp; omega) ?_
                  intro v3 w3 own3 gr3 at3
                  have hc3 : ChgS (fun k => (Value.slice U F.length cU).ownBlock = some k) ((wr.drew.alloc (.cells #[.int .i64 2, .int .i64 997, .int .i64 1000000] 2)).alloc (.cells #[.int .i64 2] 2)) w3 := ChgS.of_grown gr3 (fun k e => e)
                  have S3 := Lib.hid (((HS.out.alloc (.cells #[.int .i64 2, .int .i64 997, .int .i64 1000000] 2)).alloc (.cells #[.int .i64 2] 2)).far hc3 HD.out)
                  have O3 := Lib.hid (OwnD.push (x := 2) (fun k e => (HD.out k e).2) (by have := HS.out.a.lt; simp at this ⊢; omega) own3 at3)
                  obtain ⟨U3, c3, hv3⟩ := O3.out.1.form
                  rw [List.length_append] at hv3
                  simp only [List.length_cons, List.length_nil, Nat.zero_add] at hv3
                  subst hv3
                  obtain ⟨bl3, a30, a31⟩ := S3.out.a.c2
                  have f30 := S3.out.a.free 0
                  have f31 := S3.out.a.free 1
                  refine hK.out _ _ trivial (fun _ => ?_)
                  clear hK K
                  refine wpAnyH_ready (rs := [9]) (by kernel_rfl) (by simp) ?_
                  refine (AllReadyH.cons rfl (fun K hK => ?_) AllReadyH.nil)
                  go_simp
                  refine hK.out _ _ trivial (fun _ => ?_)
                  clear hK K
                  refine wpAnyH_ready (rs := [10]) (by kernel_rfl) (by simp) ?_
                  refine (AllReadyH.cons rfl (fun K hK => ?_) AllReadyH.nil)
                  go_simp
                  refine hK.out _ _ trivial (fun _ => ?_)
                  clear hK K
                  refine wpAnyH_done (by kernel_rfl) ?_ _
                  go_wp2_with (fail)
                  exact ⟨⟨U3, c3, F ++ [2], by rw [List.length_append]; simp; omega, Lib.hid (StB.pushed 2 S3.out), Lib.hid (OwnD.pushed O3.out _)⟩, by rw [World.cell?_setCell_same _ _ _ a30, a0]; simp [lenC]; omega⟩
              · go_simp
                refine hK.out _ _ trivial (fun _ => ?_)
                clear hK K
                refine wpAnyH_ready (rs := [1, 4]) (by kernel_rfl) (by simp) ?_
                refine (AllReadyH.cons rfl (fun K hK => ?_) (AllReadyH.cons rfl (fun K hK => ?_) AllReadyH.nil))
                · go_simp
                  refine hK.out _ _ trivial (fun _ => ?_)
                  clear hK K
                  refine wpAnyH_ready (rs := [4]) (by kernel_rfl) (by simp) ?_
                  refine (AllReadyH.cons rfl (fun K hK => ?_) AllReadyH.nil)
                  go_simp
                  refine (next_eq q _).mono ?_
                  rintro e w8 ⟨rfl, rfl⟩
                  try go_simp
                  refine hK.out _ _ trivial (fun _ => ?_)
                  clear hK K
                  refine wpAnyH_take (i := 5) (v := ?_) rfl (by kernel_rfl) (by kernel_rfl) (by kernel_rfl) (fun _ _ _ h => h) (Or.inl ⟨by rfl, ?_⟩) trivial ?_
                  rotate_left
                  · intro W9 _; go_simp
                    with_reducible rfl
                  refine wpAnyH_ready (rs := [6]) (by kernel_rfl) (by simp) ?_
                  refine (AllReadyH.cons rfl (fun K hK => ?_) AllReadyH.nil)
                  go_simp
                  refine hK.out _ _ trivial (fun _ => ?_)
                  clear hK K
                  refine wpAnyH_ready (rs := [7]) (by kernel_rfl) (by simp) ?_
                  refine (AllReadyH.cons rfl (fun K hK => ?_) AllReadyH.nil)
                  go_simp
                  refine hK.out _ _ trivial (fun _ => ?_)
                  clear hK K
                  refine wpAnyH_ready (rs := [8]) (by kernel_rfl) (by simp) ?_
                  refine (AllReadyH.cons rfl (fun K hK => ?_) AllReadyH.nil)
                  refine step_append_list _ rfl _ _ 24 rfl (w.heap.size + 1) 2 i0 (.int .i64 0) 8 Try.underlying24 hi hz0 hz1 hz2 rfl (.slice U F.length cU) F.length (F.map (Value.int .i64)) rfl ((HO2.out.1.alloc (.cells #[.int .i64 2, .int .i64 997, .int .i64 1000000] 2)).alloc (.cells #[.int .i64 2] 2)) (some ⟨wr.heap.size + 1, 0, none⟩) 1 1 [.int .i64 2] rfl rfl HR.out (by simp [Value.oneCell']) (by unfold maxLen; omega) (by omega) (by simp; omega) ?_
                  intro v3 w3 own3 gr3 at3
                  have hc3 : ChgS (fun k => (Value.slice U F.length cU).ownBlock = some k) ((wr.drew.alloc (.cells #[.int .i64 2, .int .i64 997, .int .i64 1000000] 2)).alloc (.cells #[.int .i64 2] 2)) w3 := ChgS.of_grown gr3 (fun k e => e)
                  have S3 := Lib.hid (((HS.out.alloc (.cells #[.int .i64 2, .int .i64 997, .int .i64 1000000] 2)).alloc (.cells #[.int .i64 2] 2)).far hc3 HD.out)
                  have O3 := Lib.hid (OwnD.push (x := 2) (fun k e => (HD.out k e).2) (by have := HS.out.a.lt; simp at this ⊢; omega) own3 at3)
                  obtain ⟨U3, c3, hv3⟩ := O3.out.1.form
                  rw [List.length_append] at hv3
                  simp only [List.length_cons, List.length_nil, Nat.zero_add] at hv3
                  subst hv3
                  obtain ⟨bl3, a30, a31⟩ := S3.out.a.c2
                  have f30 := S3.out.a.free 0
                  have f31 := S3.out.a.free 1
                  refine hK.out _ _ trivial (fun _ => ?_)
                  clear hK K
                  refine wpAnyH_ready (rs := [9]) (by kernel_rfl) (by simp) ?_
                  refine (AllReadyH.cons rfl (fun K hK => ?_) AllReadyH.nil)
                  go_simp
                  refine hK.out _ _ trivial (fun _ => ?_)
                  clear hK K
                  refine wpAnyH_ready (rs := [10]) (by kernel_rfl) (by simp) ?_
                  refine (AllReadyH.cons rfl (fun K hK => ?_) AllReadyH.nil)
                  go_simp
                  refine hK.out _ _ trivial (fun _ => ?_)
                  clear hK K
                  refine wpAnyH_done (by kernel_rfl) ?_ _
                  go_wp2_with (fail)
                  exact ⟨⟨U3, c3, F ++ [2], by rw [List.length_append]; simp; omega, Lib.hid (StB.pushed 2 S3.out), Lib.hid (OwnD.pushed O3.out _)⟩, by rw [World.cell?_setCell_same _ _ _ a30, a0]; simp [lenC]; omega⟩
                · go_simp
                  refine (next_eq q _).mono ?_
                  rintro e w8 ⟨rfl, rfl⟩
                  try go_simp
                  refine hK.out _ _ trivial (fun _ => ?_)
                  clear hK K
                  refine wpAnyH_take (i := 5) (v := ?_) rfl (by kernel_rfl) (by kernel_rfl) (by kernel_rfl) (fun _ _ _ h => h) (Or.inl ⟨by rfl, ?_⟩) trivial ?_
                  rotate_left
                  · intro W9 _; go_simp
                    with_reducible rfl
                  refine wpAnyH_ready (rs := [1, 6]) (by kernel_rfl) (by simp) ?_
                  refine (AllReadyH.cons rfl (fun K hK => ?_) (AllReadyH.cons rfl (fun K hK => ?_) AllReadyH.nil))
                  · go_simp
                    refine hK.out _ _ trivial (fun _ => ?_)
                    clear hK K
                    refine wpAnyH_ready (rs := [6]) (by kernel_rfl) (by simp) ?_
                    refine (AllReadyH.cons rfl (fun K hK => ?_) AllReadyH.nil)
                    go_simp
                    refine hK.out _ _ trivial (fun _ => ?_)
                    clear hK K
                    refine wpAnyH_ready (rs := [7]) (by kernel_rfl) (by simp) ?_
                    refine (AllReadyH.cons rfl (fun K hK => ?_) AllReadyH.nil)
                    go_simp
                    refine hK.out _ _ trivial (fun _ => ?_)
                    clear hK K
                    refine wpAnyH_ready (rs := [8]) (by kernel_rfl) (by simp) ?_
                    refine (AllReadyH.cons rfl (fun K hK => ?_) AllReadyH.nil)
                    refine step_append_list _ rfl _ _ 24 rfl (w.heap.size + 1) 2 i0 (.int .i64 0) 8 Try.underlying24 hi hz0 hz1 hz2 rfl (.slice U F.length cU) F.length (F.map (Value.int .i64)) rfl ((HO2.out.1.alloc (.cells #[.int .i64 2, .int .i64 997, .int .i64 1000000] 2)).alloc (.cells #[.int .i64 2] 2)) (some ⟨wr.heap.size + 1, 0, none⟩) 1 1 [.int .i64 2] rfl rfl HR.out (by simp [Value.oneCell']) (by unfold maxLen; omega) (by omega) (by simp; omega) ?_
                    intro v3 w3 own3 gr3 at3
                    have hc3 : ChgS (fun k => (Value.slice U F.length cU).ownBlock = some k) ((wr.drew.alloc (.cells #[.int .i64 2, .int .i64 997, .int .i64 1000000] 2)).alloc (.cells #[.int .i64 2] 2)) w3 := ChgS.of_grown gr3 (fun k e => e)
                    have S3 := Lib.hid (((HS.out.alloc (.cells #[.int .i64 2, .int .i64 997, .int .i64 1000000] 2)).alloc (.cells #[.int .i64 2] 2)).far hc3 HD.out)
                    have O3 := Lib.hid (OwnD.push (x := 2) (fun k e => (HD.out k e).2) (by have := HS.out.a.lt; simp at this ⊢; omega) own3 at3)
                    obtain ⟨U3, c3, hv3⟩ := O3.out.1.form
                    rw [List.length_append] at hv3
                    simp only [List.length_cons, List.length_nil, Nat.zero_add] at hv3
                    subst hv3
                    obtain ⟨bl3, a30, a31⟩ := S3.out.a.c2
                    have f30 := S3.out.a.free 0
                    have f31 := S3.out.a.free 1
                    refine hK.out _ _ trivial (fun _ => ?_)
                    clear hK K
                    refine wpAnyH_ready (rs := [9]) (by kernel_rfl) (by simp) ?_
                    refine (AllReadyH.cons rfl (fun K hK => ?_) AllReadyH.nil)
                    go_simp
                    refine hK.out _ _ trivial (fun _ => ?_)
                    clear hK K
                    refine wpAnyH_ready (rs := [10]) (by kernel_rfl) (by simp) ?_
                    refine (AllReadyH.cons rfl (fun K hK => ?_) AllReadyH.nil)
                    go_simp
                    refine hK.out _ _ trivial (fun _ => ?_)
                    clear hK K
                    refine wpAnyH_done (by kernel_rfl) ?_ _
                    go_wp2_with (fail)
                    exact ⟨⟨U3, c3, F ++ [2], by rw [List.length_append]; simp; omega, Lib.hid (StB.pushed 2 S3.out), Lib.hid (OwnD.pushed O3.out _)⟩, by rw [World.cell?_setCell_same _ _ _ a30, a0]; simp [lenC]; omega⟩
                  · go_simp
                    refine hK.out _ _ trivial (fun _ => ?_)
                    clear hK K
                    refine wpAnyH_ready (rs := [1, 7]) (by kernel_rfl) (by simp) ?_
                    refine (AllReadyH.cons rfl (fun K hK => ?_) (AllReadyH.cons rfl (fun K hK => ?_) AllReadyH.nil))
                    · go_simp
                      refine hK.out _ _ trivial (fun _ => ?_)
                      clear hK K
                      refine wpAnyH_ready (rs := [7]) (by kernel_rfl) (by simp) ?_
                      refine (AllReadyH.cons rfl (fun K hK => ?_) AllReadyH.nil)
                      go_simp
                      refine hK.out _ _ trivial (fun _ => ?_)
                      clear hK K
                      refine wpAnyH_ready (rs := [8]) (by kernel_rfl) (by simp) ?_
                      refine (AllReadyH.cons rfl (fun K hK => ?_) AllReadyH.nil)
                      refine step_append_list _ rfl _ _ 24 rfl (w.heap.size + 1) 2 i0 (.int .i64 0) 8 Try.underlying24 hi hz0 hz1 hz2 rfl (.slice U F.length cU) F.length (F.map (Value.int .i64)) rfl ((HO2.out.1.alloc (.cells #[.int .i64 2, .int .i64 997, .int .i64 1000000] 2)).alloc (.cells #[.int .i64 2] 2)) (some ⟨wr.heap.size + 1, 0, none⟩) 1 1 [.int .i64 2] rfl rfl HR.out (by simp [Value.oneCell']) (by unfold maxLen; omega) (by omega) (by simp; omega) ?_
                      intro v3 w3 own3 gr3 at3
                      have hc3 : ChgS (fun k => (Value.slice U F.length cU).ownBlock = some k) ((wr.drew.alloc (.cells #[.int .i64 2, .int .i64 997, .int .i64 1000000] 2)).alloc (.cells #[.int .i64 2] 2)) w3 := ChgS.of_grown gr3 (fun k e => e)
                      have S3 := Lib.hid (((HS.out.alloc (.cells #[.int .i64 2, .int .i64 997, .int .i64 1000000] 2)).alloc (.cells #[.int .i64 2] 2)).far hc3 HD.out)
                      have O3 := Lib.hid (OwnD.push (x := 2) (fun k e => (HD.out k e).2) (by have := HS.out.a.lt; simp at this ⊢; omega) own3 at3)
                      obtain ⟨U3, c3, hv3⟩ := O3.out.1.form
                      rw [List.length_append] at hv3
                      simp only [List.length_cons, List.length_nil, Nat.zero_add] at hv3
                      subst hv3
                      obtain ⟨bl3, a30, a31⟩ := S3.out.a.c2
                      have f30 := S3.out.a.free 0
                      have f31 := S3.out.a.free 1
                      refine hK.out _ _ trivial (fun _ => ?_)
                      clear hK K
                      refine wpAnyH_ready (rs := [9]) (by kernel_rfl) (by simp) ?_
                      refine (AllReadyH.cons rfl (fun K hK => ?_) AllReadyH.nil)
                      go_simp
                      refine hK.out _ _ trivial (fun _ => ?_)
                      clear hK K
                      refine wpAnyH_ready (rs := [10]) (by kernel_rfl) (by simp) ?_
                      refine (AllReadyH.cons rfl (fun K hK => ?_) AllReadyH.nil)
                      go_simp
                      refine hK.out _ _ trivial (fun _ => ?_)
                      clear hK K
                      refine wpAnyH_done (by kernel_rfl) ?_ _
                      go_wp2_with (fail)
                      exact ⟨⟨U3, c3, F ++ [2], by rw [List.length_append]; simp; omega, Lib.hid (StB.pushed 2 S3.out), Lib.hid (OwnD.pushed O3.out _)⟩, by rw [World.cell?_setCell_same _ _ _ a30, a0]; simp [lenC]; omega⟩
                    · go_simp
                      refine hK.out _ _ trivial (fun _ => ?_)
                      clear hK K
                      refine wpAnyH_ready (rs := [1]) (by kernel_rfl) (by simp) ?_
                      refine (AllReadyH.cons rfl (fun K hK => ?_) AllReadyH.nil)
                      go_simp
                      refine hK.out _ _ trivial (fun _ => ?_)
                      clear hK K
                      refine wpAnyH_ready (rs := [8]) (by kernel_rfl) (by simp) ?_
                      refine (AllReadyH.cons rfl (fun K hK => ?_) AllReadyH.nil)
                      refine step_append_list _ rfl _ _ 24 rfl (w.heap.size + 1) 2 i0 (.int .i64 0) 8 Try.underlying24 hi hz0 hz1 hz2 rfl (.slice U F.length cU) F.length (F.map (Value.int .i64)) rfl ((HO2.out.1.alloc (.cells #[.int .i64 2, .int .i64 997, .int .i64 1000000] 2)).alloc (.cells #[.int .i64 2] 2)) (some ⟨wr.heap.size + 1, 0, none⟩) 1 1 [.int .i64 2] rfl rfl HR.out (by simp [Value.oneCell']) (by unfold maxLen; omega) (by omega) (by simp; omega) ?_
                      intro v3 w3 own3 gr3 at3
                      have hc3 : ChgS (fun k => (Value.slice U F.length cU).ownBlock = some k) ((wr.drew.alloc (.cells #[.int .i64 2, .int .i64 997, .int .i64 1000000] 2)).alloc (.cells #[.int .i64 2] 2)) w3 := ChgS.of_grown gr3 (fun k e => e)
                      have S3 := Lib.hid (((HS.out.alloc (.cells #[.int .i64 2, .int .i64 997, .int .i64 1000000] 2)).alloc (.cells #[.int .i64 2] 2)).far hc3 HD.out)
                      have O3 := Lib.hid (OwnD.push (x := 2) (fun k e => (HD.out k e).2) (by have := HS.out.a.lt; simp at this ⊢; omega) own3 at3)
                      obtain ⟨U3, c3, hv3⟩ := O3.out.1.form
                      rw [List.length_append] at hv3
                      simp only [List.length_cons, List.length_nil, Nat.zero_add] at hv3
                      subst hv3
                      obtain ⟨bl3, a30, a31⟩ := S3.out.a.c2
                      have f30 := S3.out.a.free 0
                      have f31 := S3.out.a.free 1
                      refine hK.out _ _ trivial (fun _ => ?_)
                      clear hK K
                      refine wpAnyH_ready (rs := [9]) (by kernel_rfl) (by simp) ?_
                      refine (AllReadyH.cons rfl (fun K hK => ?_) AllReadyH.nil)
                      go_simp
                      refine hK.out _ _ trivial (fun _ => ?_)
                      clear hK K
                      refine wpAnyH_ready (rs := [10]) (by kernel_rfl) (by simp) ?_
                      refine (AllReadyH.cons rfl (fun K hK => ?_) AllReadyH.nil)
                      go_simp
                      refine hK.out _ _ trivial (fun _ => ?_)
                      clear hK K
                      refine wpAnyH_done (by kernel_rfl) ?_ _
                      go_wp2_with (fail)
                      exact ⟨⟨U3, c3, F ++ [2], by rw [List.length_append]; simp; omega, Lib.hid (StB.pushed 2 S3.out), Lib.hid (OwnD.pushed O3.out _)⟩, by rw [World.cell?_setCell_same _ _ _ a30, a0]; simp [lenC]; omega⟩
              · go_simp
                refine (next_eq q _).mono ?_
                rintro e w8 ⟨rfl, rfl⟩
                try go_simp
                refine hK.out _ _ trivial (fun _ => ?_)
                clear hK K
                refine wpAnyH_ready (rs := [1, 2]) (by kernel_rfl) (by simp) ?_
                refine (AllReadyH.cons rfl (fun K hK => ?_) (AllReadyH.cons rfl (fun K hK => ?_) AllReadyH.nil))
                · go_simp
                  refine hK.out _ _ trivial (fun _ => ?_)
                  clear hK K
                  refine wpAnyH_ready (rs := [2]) (by kernel_rfl) (by simp) ?_
                  refine (AllReadyH.cons rfl (fun K hK => ?_) AllReadyH.nil)
                  go_simp
                  refine hK.out _ _ trivial (fun _ => ?_)
                  clear hK K
                  refine wpAnyH_take (i := 5) (v := ?_) rfl (by kernel_rfl) (by kernel_rfl) (by kernel_rfl) (fun _ _ _ h => h) (Or.inl ⟨by rfl, ?_⟩) trivial ?_
                  rotate_left
                  · intro W9 _; go_simp
                    with_reducible rfl
                  refine wpAnyH_ready (rs := [6]) (by kernel_rfl) (by simp) ?_
                  refine (AllReadyH.cons rfl (fun K hK => ?_) AllReadyH.nil)
                  go_simp
                  refine hK.out _ _ trivial (fun _ => ?_)
                  clear hK K
                  refine wpAnyH_ready (rs := [7]) (by kernel_rfl) (by simp) ?_
                  refine (AllReadyH.cons rfl (fun K hK => ?_) AllReadyH.nil)
                  go_simp
                  refine hK.out _ _ trivial (fun _ => ?_)
                  clear hK K
                  refine wpAnyH_ready (rs := [8]) (by kernel_rfl) (by simp) ?_
                  refine (AllReadyH.cons rfl (fun K hK => ?_) AllReadyH.nil)
                  refine step_append_list _ rfl _ _ 24 rfl (w.heap.size + 1) 2 i0 (.int .i64 0) 8 Try.underlying24 hi hz0 hz1 hz2 rfl (.slice U F.length cU) F.length (F.map (Value.int .i64)) rfl ((HO2.out.1.alloc (.cells #[.int .i64 2, .int .i64 997, .int .i64 1000000] 2)).alloc (.cells #[.int .i64 2] 2)) (some ⟨wr.heap.size + 1, 0, none⟩) 1 1 [.int .i64 2] rfl rfl HR.out (by simp [Value.oneCell']) (by unfold maxLen; omega) (by omega) (by simp; omega) ?_
                  intro v3 w3 own3 gr3 at3
                  have hc3 : ChgS (fun k => (Value.slice U F.length cU).ownBlock = some k) ((wr.drew.alloc (.cells #[.int .i64 2, .int .i64 997, .int .i64 1000000] 2)).alloc (.cells #[.int .i64 2] 2)) w3 := ChgS.of_grown gr3 (fun k e => e)
                  have S3 := Lib.hid (((HS.out.alloc (.cells #[.int .i64 2, .int .i64 997, .int .i64 1000000] 2)).alloc (.cells #[.int .i64 2] 2)).far hc3 HD.out)
                  have O3 := Lib.hid (OwnD.push (x := 2) (fun k e => (HD.out k e).2) (by have := HS.out.a.lt; simp at this ⊢; omega) own3 at3)
                  obtain ⟨U3, c3, hv3⟩ := O3.out.1.form
                  rw [List.length_append] at hv3
                  simp only [List.length_cons, List.length_nil, Nat.zero_add] at hv3
                  subst hv3
                  obtain ⟨bl3, a30, a31⟩ := S3.out.a.c2
                  have f30 := S3.out.a.free 0
                  have f31 := S3.out.a.free 1
                  refine hK.out _ _ trivial (fun _ => ?_)
                  clear hK K
                  refine wpAnyH_ready (rs := [9]) (by kernel_rfl) (by simp) ?_
                  refine (AllReadyH.cons rfl (fun K hK => ?_) AllReadyH.nil)
                  go_simp
                  refine hK.out _ _ trivial (fun _ => ?_)
                  clear hK K
                  refine wpAnyH_ready (rs := [10]) (by kernel_rfl) (by simp) ?_
                  refine (AllReadyH.cons rfl (fun K hK => ?_) AllReadyH.nil)
                  go_simp
                  refine hK.out _ _ trivial (fun _ => ?_)
                  clear hK K
                  refine wpAnyH_done (by kernel_rfl) ?_ _
                  go_wp2_with (fail)
                  exact ⟨⟨U3, c3, F ++ [2], by rw [List.length_append]; simp; omega, Lib.hid (StB.pushed 2 S3.out), Lib.hid (OwnD.pushed O3.out _)⟩, by rw [World.cell?_setCell_same _ _ _ a30, a0]; simp [lenC]; omega⟩
                · go_simp
                  refine hK.out _ _ trivial (fun _ => ?_)
                  clear hK K
                  refine wpAnyH_take (i := 5) (v := ?_) rfl (by kernel_rfl) (by kernel_rfl) (by kernel_rfl) (fun _ _ _ h => h) (Or.inl ⟨by rfl, ?_⟩) trivial ?_
                  rotate_left
                  · intro W9 _; go_simp
                    with_reducible rfl
                  refine wpAnyH_ready (rs := [1, 6]) (by kernel_rfl) (by simp) ?_
                  refine (AllReadyH.cons rfl (fun K hK => ?_) (AllReadyH.cons rfl (fun K hK => ?_) AllReadyH.nil))
                  · go_simp
                    refine hK.out _ _ trivial (fun _ => ?_)
                    clear hK K
                    refine wpAnyH_ready (rs := [6]) (by kernel_rfl) (by simp) ?_
                    refine (AllReadyH.cons rfl (fun K hK => ?_) AllReadyH.nil)
                    go_simp
                    refine hK.out _ _ trivial (fun _ => ?_)
                    clear hK K
                    refine wpAnyH_ready (rs := [7]) (by kernel_rfl) (by simp) ?_
                    refine (AllReadyH.cons rfl (fun K hK => ?_) AllReadyH.nil)
                    go_simp
                    refine hK.out _ _ trivial (fun _ => ?_)
                    clear hK K
                    refine wpAnyH_ready (rs := [8]) (by kernel_rfl) (by simp) ?_
                    refine (AllReadyH.cons rfl (fun K hK => ?_) AllReadyH.nil)
                    refine step_append_list _ rfl _ _ 24 rfl (w.heap.size + 1) 2 i0 (.int .i64 0) 8 Try.underlying24 hi hz0 hz1 hz2 rfl (.slice U F.length cU) F.length (F.map (Value.int .i64)) rfl ((HO2.out.1.alloc (.cells #[.int .i64 2, .int .i64 997, .int .i64 1000000] 2)).alloc (.cells #[.int .i64 2] 2)) (some ⟨wr.heap.size + 1, 0, none⟩) 1 1 [.int .i64 2] rfl rfl HR.out (by simp [Value.oneCell']) (by unfold maxLen; omega) (by omega) (by simp; omega) ?_
                    intro v3 w3 own3 gr3 at3
                    have hc3 : ChgS (fun k => (Value.slice U F.length cU).ownBlock = some k) ((wr.drew.alloc (.cells #[.int .i64 2, .int .i64 997, .int .i64 1000000] 2)).alloc (.cells #[.int .i64 2] 2)) w3 := ChgS.of_grown gr3 (fun k e => e)
                    have S3 := Lib.hid (((HS.out.alloc (.cells #[.int .i64 2, .int .i64 997, .int .i64 1000000] 2)).alloc (.cells #[.int .i64 2] 2)).far hc3 HD.out)
                    have O3 := Lib.hid (OwnD.push (x := 2) (fun k e => (HD.out k e).2) (by have := HS.out.a.lt; simp at this ⊢; omega) own3 at3)
                    obtain ⟨U3, c3, hv3⟩ := O3.out.1.form
                    rw [List.length_append] at hv3
                    simp only [List.length_cons, List.length_nil, Nat.zero_add] at hv3
                    subst hv3
                    obtain ⟨bl3, a30, a31⟩ := S3.out.a.c2
                    have f30 := S3.out.a.free 0
                    have f31 := S3.out.a.free 1
                    refine hK.out _ _ trivial (fun _ => ?_)
                    clear hK K
                    refine wpAnyH_ready (rs := [9]) (by kernel_rfl) (by simp) ?_
                    refine (AllReadyH.cons rfl (fun K hK => ?_) AllReadyH.nil)
                    go_simp
                    refine hK.out _ _ trivial (fun _ => ?_)
                    clear hK K
                    refine wpAnyH_ready (rs := [10]) (by kernel_rfl) (by simp) ?_
                    refine (AllReadyH.cons rfl (fun K hK => ?_) AllReadyH.nil)
                    go_simp
                    refine hK.out _ _ trivial (fun _ => ?_)
                    clear hK K
                    refine wpAnyH_done (by kernel_rfl) ?_ _
                    go_wp2_with (fail)
                    exact ⟨⟨U3, c3, F ++ [2], by rw [List.length_append]; simp; omega, Lib.hid (StB.pushed 2 S3.out), Lib.hid (OwnD.pushed O3.out _)⟩, by rw [World.cell?_setCell_same _ _ _ a30, a0]; simp [lenC]; omega⟩
                  · go_simp
                    refine hK.out _ _ trivial (fun _ => ?_)
                    clear hK K
                    refine wpAnyH_ready (rs := [1, 7]) (by kernel_rfl) (by simp) ?_
                    refine (AllReadyH.cons rfl (fun K hK => ?_) (AllReadyH.cons rfl (fun K hK => ?_) AllReadyH.nil))
                    · go_simp
                      refine hK.out _ _ trivial (fun _ => ?_)
                      clear hK K
                      refine wpAnyH_ready (rs := [7]) (by kernel_rfl) (by simp) ?_
                      refine (AllReadyH.cons rfl (fun K hK => ?_) AllReadyH.nil)
                      go_simp
                      refine hK.out _ _ trivial (fun _ => ?_)
                      clear hK K
                      refine wpAnyH_ready (rs := [8]) (by kernel_rfl) (by simp) ?_
                      refine (AllReadyH.cons rfl (fun K hK => ?_) AllReadyH.nil)
                      refine step_append_list _ rfl _ _ 24 rfl (w.heap.size + 1) 2 i0 (.int .i64 0) 8 Try.underlying24 hi hz0 hz1 hz2 rfl (.slice U F.length cU) F.length (F.map (Value.int .i64)) rfl ((HO2.out.1.alloc (.cells #[.int .i64 2, .int .i64 997, .int .i64 1000000] 2)).alloc (.cells #[.int .i64 2] 2)) (some ⟨wr.heap.size + 1, 0, none⟩) 1 1 [.int .i64 2] rfl rfl HR.out (by simp [Value.oneCell']) (by unfold maxLen; omega) (by omega) (by simp; omega) ?_
                      intro v3 w3 own3 gr3 at3
                      have hc3 : ChgS (fun k => (Value.slice U F.length cU).ownBlock = some k) ((wr.drew.alloc (.cells #[.int .i64 2, .int .i64 997, .int .i64 1000000] 2)).alloc (.cells #[.int .i64 2] 2)) w3 := ChgS.of_grown gr3 (fun k e => e)
                      have S3 := Lib.hid (((HS.out.alloc (.cells #[.int .i64 2, .int .i64 997, .int .i64 1000000] 2)).alloc (.cells #[.int .i64 2] 2)).far hc3 HD.out)
                      have O3 := Lib.hid (OwnD.push (x := 2) (fun k e => (HD.out k e).2) (by have := HS.out.a.lt; simp at this ⊢; omega) own3 at3)
                      obtain ⟨U3, c3, hv3⟩ := O3.out.1.form
                      rw [List.length_append] at hv3
                      simp only [List.length_cons, List.length_nil, Nat.zero_add] at hv3
                      subst hv3
                      obtain ⟨bl3, a30, a31⟩ := S3.out.a.c2
                      have f30 := S3.out.a.free 0
                      have f31 := S3.out.a.free 1
                      refine hK.out _ _ trivial (fun _ => ?_)
                      clear hK K
                      refine wpAnyH_ready (rs := [9]) (by kernel_rfl) (by simp) ?_
                      refine (AllReadyH.cons rfl (fun K hK => ?_) AllReadyH.nil)
                      go_simp
                      refine hK.out _ _ trivial (fun _ => ?_)
                      clear hK K
                      refine wpAnyH_ready (rs := [10]) (by kernel_rfl) (by simp) ?_
                      refine (AllReadyH.cons rfl (fun K hK => ?_) AllReadyH.nil)
                      go_simp
                      refine hK.out _ _ trivial (fun _ => ?_)
                      clear hK K
                      refine wpAnyH_done (by kernel_rfl) ?_ _
                      go_wp2_with (fail)
                      exact ⟨⟨U3, c3, F ++ [2], by rw [List.length_append]; simp; omega, Lib.hid (StB.pushed 2 S3.out), Lib.hid (OwnD.pushed O3.out _)⟩, by rw [World.cell?_setCell_same _ _ _ a30, a0]; simp [lenC]; omega⟩
                    · go_simp
                      refine hK.out _ _ trivial (fun _ => ?_)
                      clear hK K
                      refine wpAnyH_ready (rs := [1]) (by kernel_rfl) (by simp) ?_
                      refine (AllReadyH.cons rfl (fun K hK => ?_) AllReadyH.nil)
                      go_simp
                      refine hK.out _ _ trivial (fun _ => ?_)
                      clear hK K
                      refine wpAnyH_ready (rs := [8]) (by kernel_rfl) (by simp) ?_
                      refine (AllReadyH.cons rfl (fun K hK => ?_) AllReadyH.nil)
                      refine step_append_list _ rfl _ _ 24 rfl (w.heap.size + 1) 2 i0 (.int .i64 0) 8 Try.underlying24 hi hz0 hz1 hz2 rfl (.slice U F.length cU) F.length (F.map (Value.int .i64)) rfl ((HO2.out.1.alloc (.cells #[.int .i64 2, .int .i64 997, .int .i64 1000000] 2)).alloc (.cells #[.int .i64 2] 2)) (some ⟨wr.heap.size + 1, 0, none⟩) 1 1 [.int .i64 2] rfl rfl HR.out (by simp [Value.oneCell']) (by unfold maxLen; omega) (by omega) (by simp; omega) ?_
                      intro v3 w3 own3 gr3 at3
                      have hc3 : ChgS (fun k => (Value.slice U F.length cU).ownBlock = some k) ((wr.drew.alloc (.cells #[.int .i64 2, .int .i64 997, .int .i64 1000000] 2)).alloc (.cells #[.int .i64 2] 2)) w3 := ChgS.of_grown gr3 (fun k e => e)
                      have S3 := Lib.hid (((HS.out.alloc (.cells #[.int .i64 2, .int .i64 997, .int .i64 1000000] 2)).alloc (.cells #[.int .i64 2] 2)).far hc3 HD.out)
                      have O3 := Lib.hid (OwnD.push (x := 2) (fun k e => (HD.out k e).2) (by have := HS.out.a.lt; simp at this ⊢; omega) own3 at3)
                      obtain ⟨U3, c3, hv3⟩ := O3.out.1.form
                      rw [List.length_append] at hv3
                      simp only [List.length_cons, List.length_nil, Nat.zero_add] at hv3
                      subst hv3
                      obtain ⟨bl3, a30, a31⟩ := S3.out.a.c2
                      have f30 := S3.out.a.free 0
                      have f31 := S3.out.a.free 1
                      refine hK.out _ _ trivial (fun _ => ?_)
                      clear hK K
                      refine wpAnyH_ready (rs := [9]) (by kernel_rfl) (by simp) ?_
                      refine (AllReadyH.cons rfl (fun K hK => ?_) AllReadyH.nil)
                      go_simp
                      refine hK.out _ _ trivial (fun _ => ?_)
                      clear hK K
                      refine wpAnyH_ready (rs := [10]) (by kernel_rfl) (by simp) ?_
                      refine (AllReadyH.cons rfl (fun K hK => ?_) AllReadyH.nil)
                      go_simp
                      refine hK.out _ _ trivial (fun _ => ?_)
                      clear hK K
                      refine wpAnyH_done (by kernel_rfl) ?_ _
                      go_wp2_with (fail)
                      exact ⟨⟨U3, c3, F ++ [2], by rw [List.length_append]; simp; omega, Lib.hid (StB.pushed 2 S3.out), Lib.hid (OwnD.pushed O3.out _)⟩, by rw [World.cell?_setCell_same _ _ _ a30, a0]; simp [lenC]; omega⟩
            · go_wp2_with (fail)
              refine bodyPost_ret (v := .agg #[.slice U F.length cU, .int .i64 K2]) (by simp [results, Try.results64, go_sem, blr, b0, b1]) rfl ?_
              exact StB.fin HS.out HO.out (by omega)
        · have n4 : (r4 == 0) = false := by simpa using e4
          clear e4
          obtain ⟨bl, a0, a1⟩ := HS.out.a.c2
          obtain ⟨blr, b0, b1⟩ := HS.out.r.c2
          have f0 := HS.out.a.free 0
          have f1 := HS.out.a.free 1
          have g0 := HS.out.r.free 0
          have g1 := HS.out.r.free 1

          go_wp2_with (fail)
          refine bodyPost_ret (v := .agg #[.slice U F.length cU, .int .i64 K]) (by simp [results, Try.results64, go_sem, blr, b0, b1]) rfl ?_
          exact StB.fin HS.out HO.out (by omega)

      · have n3 : (r3 == 0) = false := by simpa using e3
        clear e3
        go_wp2_with (fail)
        refine (nextS q A len cap 16 _ HS.out.src (by omega) (by omega)).mono ?_
        rintro e w6 ⟨r4, rfl, ⟨r40, r41⟩, hs', hc'⟩
        replace HO := Lib.hid (OwnD.chg HO.out hc' (fun k g => .inl (by omega)))
        replace HS := Lib.hid (StB.draw HS.out hs' hc')
        clear hs' hc'
        by_cases e4 : r4 = 0
        · subst e4
          have HS6 := Lib.hid (StB.alloc HS.out (.cells #[] 2))
          have hb6 := HS.out.a.lt
          have HO6 := Lib.hid (OwnD.lit (H := w.heap.size) w6 hb6 (by have := HS.out.b; omega) [] (by simp))
          clear HS HO
          have HS := HS6
          have HO := HO6
          clear HS6 HO6
          go_wp2_with (fail)
          refine (nextS q A len cap 2 _ HS.out.src (by omega) (by omega)).mono ?_
          rintro e w7 ⟨K2, rfl, ⟨K20, K21⟩, hs', hc'⟩
          replace HO := Lib.hid (OwnD.chg HO.out hc' (fun k g => .inl (by omega)))
          replace HS := Lib.hid (StB.draw HS.out hs' hc')
          clear hs' hc'

          obtain ⟨bl, a0, a1⟩ := HS.out.a.c2
          obtain ⟨blr, b0, b1⟩ := HS.out.r.c2
          have f0 := HS.out.a.free 0
          have f1 := HS.out.a.free 1
          have g0 := HS.out.r.free 0
          have g1 := HS.out.r.free 1

          go_wp2_with (fail)
          replace HS := Lib.hid (StB.set (StB.set HS.out 0 (.slice (some ⟨w6.heap.size, 0, none⟩) 0 0)) 1 (.int .i64 K2))
          replace HO := Lib.hid (OwnD.set (OwnD.set HO.out 0 (.slice (some ⟨w6.heap.size, 0, none⟩) 0 0)) 1 (.int .i64 K2))
          clear bl a0 a1 blr b0 b1 f0 f1 g0 g1
          go_loopw [40] (fun _ wr => ∃ (U : Option Addr) (cU : Nat) (F : List Int), F.length ≤ 9 ∧ Hid (StB w wr q (w.heap.size + 2) A len cap [.slice U F.length cU, .int .i64 K2]) ∧ Hid (OwnD wr w.heap.size (w.heap.size + 2) (.slice U F.length cU) F)) (fun _ wr => 9 - lenC (wr.cell? ⟨w.heap.size + 2, 0, none⟩))
          case atStart => exact ⟨_, _, [], by simp, HS, HO⟩
          case round =>
            clear HS HO
            obtain ⟨U, cU, F, xl, HS, HO⟩ := hrel
            obtain ⟨bl, a0, a1⟩ := HS.out.a.c2
            obtain ⟨blr, b0, b1⟩ := HS.out.r.c2
            have f0 := HS.out.a.free 0
            have f1 := HS.out.a.free 1
            have g0 := HS.out.r.free 0
            have g1 := HS.out.r.free 1

            by_cases hF : (F.length : Int) < 9
            · replace HS := Lib.hid (StB.drew HS.out)
              have HO2 : Hid (OwnD wr.drew w.heap.size (w.heap.size + 2) (.slice U F.length cU) F) := Lib.hid HO.out
              have HD := Lib.hid HO.out.far
              have HR : Hid (RdC ((wr.drew.alloc (.cells #[.int .i64 2, .int .i64 997, .int .i64 1000000] 2)).alloc (.cells #[.int .i64 2] 2)) (some ⟨wr.heap.size + 1, 0, none⟩) [.int .i64 2]) := Lib.hid (by
                have := (RdI.lit (wr.drew.alloc (.cells #[.int .i64 2, .int .i64 997, .int .i64 1000000] 2)) [2]).cells
                rw [World.size_alloc] at this
                exact this)
              go_wp2_with (fail)
              have aw1 : ((wr.drew.alloc (.cells #[.int .i64 2, .int .i64 997, .int .i64 1000000] 2)).alloc (.cells #[.int .i64 2] 2)).cell? ⟨w.heap.size + 1 + 1, 0, none⟩ = some (.slice U F.length cU) := (Blk.cell ((HS.out.alloc _).alloc _).a 0 (by simp))
              have aw2 : ((wr.alloc (.cells #[.int .i64 2, .int .i64 997, .int .i64 1000000] 2)).drew.alloc (.cells #[.int .i64 2] 2)).cell? ⟨w.heap.size + 1 + 1, 0, none⟩ = some (.slice U F.length cU) := aw1
              have aw3 : ((wr.alloc (.cells #[.int .i64 2, .int .i64 997, .int .i64 1000000] 2)).alloc (.cells #[.int .i64 2] 2)).drew.cell? ⟨w.heap.size + 1 + 1, 0, none⟩ = some (.slice U F.length cU) := aw1
              refine wp_region_held_drew (S := fun _ => True) (by kernel_rfl) trivial (fun _ => ?_)
              refine wpAnyH_take (i := 0) (v := ?_) rfl (by kernel_rfl) (by kernel_rfl) (by kernel_rfl) (fun _ _ _ h => h) (Or.inl ⟨by rfl, ?_⟩) trivial ?_
              rotate_left
              · intro W9 _; go_simp
                with_reducible rfl
              refine wpAnyH_take (i := 3) (v := ?_) rfl (by kernel_rfl) (by kernel_rfl) (by kernel_rfl) (fun _ _ _ h => h) (Or.inl ⟨by rfl, ?_⟩) trivial ?_
              rotate_left
              · intro W9 _; go_simp
                with_reducible rfl
              refine wpAnyH_ready (rs := [1, 2, 4]) (by kernel_rfl) (by simp) ?_
              refine (AllReadyH.cons rfl (fun K hK => ?_) (AllReadyH.cons rfl (fun K hK => ?_) (AllReadyH.cons rfl (fun K hK => ?_) AllReadyH.nil)))
              · go_simp
                refine hK.out _ _ trivial (fun _ => ?_)
                clear hK K
                refine wpAnyH_ready (rs := [2, 4]) (by kernel_rfl) (by simp) ?_
                refine (AllReadyH.cons rfl (fun K hK => ?_) (AllReadyH.cons rfl (fun K hK => ?_) AllReadyH.nil))
                · go_simp
                  refine hK.out _ _ trivial (fun _ => ?_)
                  clear hK K
                  refine wpAnyH_ready (rs := [4]) (by kernel_rfl) (by simp) ?_
                  refine (AllReadyH.cons rfl (fun K hK => ?_) AllReadyH.nil)
                  go_simp
                  refine (next_eq q _).mono ?_
                  rintro e w8 ⟨rfl, rfl⟩
                  try go_simp
                  refine hK.out _ _ trivial (fun _ => ?_)
                  clear hK K
                  refine wpAnyH_take (i := 5) (v := ?_) rfl (by kernel_rfl) (by kernel_rfl) (by kernel_rfl) (fun _ _ _ h => h) (Or.inl ⟨by rfl, ?_⟩) trivial ?_
                  rotate_left
                  · intro W9 _; go_simp
                    with_reducible rfl
                  refine wpAnyH_ready (rs := [6]) (by kernel_rfl) (by simp) ?_
                  refine (AllReadyH.cons rfl (fun K hK => ?_) AllReadyH.nil)
                  go_simp
                  refine hK.out _ _ trivial (fun _ => ?_)
                  clear hK K
                  refine wpAnyH_ready (rs := [7]) (by kernel_rfl) (by simp) ?_
                  refine (AllReadyH.cons rfl (fun K hK => ?_) AllReadyH.nil)
                  go_simp
                  refine hK.out _ _ trivial (fun _ => ?_)
                  clear hK K
                  refine wpAnyH_ready (rs := [8]) (by kernel_rfl) (by simp) ?_
                  refine (AllReadyH.cons rfl (fun K hK => ?_) AllReadyH.nil)
                  refine step_append_list _ rfl _ _ 24 rfl (w.heap.size + 1) 2 i0 (.int .i64 0) 8 Try.underlying24 hi hz0 hz1 hz2 rfl (.slice U F.length cU) F.length (F.map (Value.int .i64)) rfl ((HO2.out.1.alloc (.cells #[.int .i64 2, .int .i64 997, .int .i64 1000000] 2)).alloc (.cells #[.int .i64 2] 2)) (some ⟨wr.heap.size + 1, 0, none⟩) 1 1 [.int .i64 2] rfl rfl HR.out (by simp [Value.oneCell']) (by unfold maxLen; omega) (by omega) (by simp; omega) ?_
                  intro v3 w3 own3 gr3 at3
                  have hc3 : ChgS (fun k => (Value.slice U F.length cU).ownBlock = some k) ((wr.drew.alloc (.cells #[.int .i64 2, .int .i64 997, .int .i64 1000000] 2)).alloc (.cells #[.int .i64 2] 2)) w3 := ChgS.of_grown gr3 (fun k e => e)
                  have S3 := Lib.hid (((HS.out.alloc (.cells #[.int .i64 2, .int .i64 997, .int .i64 1000000] 2)).alloc (.cells #[.int .i64 2] 2)).far hc3 HD.out)
                  have O3 := Lib.hid (OwnD.push (x := 2) (fun k e => (HD.out k e).2) (by have := HS.out.a.lt; simp at this ⊢; omega) own3 at3)
                  obtain ⟨U3, c3, hv3⟩ := O3.out.1.form
                  rw [List.length_append] at hv3
                  simp only [List.length_cons, List.length_nil, Nat.zero_add] at hv3
                  subst hv3
                  obtain ⟨bl3, a30, a31⟩ := S3.out.a.c2
                  have f30 := S3.out.a.free 0
                  have f31 := S3.out.a.free 1
                  refine hK.out _ _ trivial (fun _ => ?_)
                  clear hK K
                  refine wpAnyH_ready (rs := [9]) (by kernel_rfl) (by simp) ?_
                  refine (AllReadyH.cons rfl (fun K hK => ?_) AllReadyH.nil)
                  go_simp
                  refine hK.out _ _ trivial (fun _ => ?_)
                  clear hK K
                  refine wpAnyH_ready (rs := [10]) (by kernel_rfl) (by simp) ?_
                  refine (AllReadyH.cons rfl (fun K hK => ?_) AllReadyH.nil)
                  go_simp
                  refine hK.out _ _ trivial (fun _ => ?_)
                  clear hK K
                  refine wpAnyH_done (by kernel_rfl) ?_ _
                  go_wp2_with (fail)
                  exact ⟨⟨U3, c3, F ++ [2], by rw [List.length_append]; simp; omega, Lib.hid (StB.pushed 2 S3.out), Lib.hid (OwnD.pushed O3.out _)⟩, by rw [World.cell?_setCell_same _ _ _ a30, a0]; simp [lenC]; omega⟩
                · go_simp
                  refine (next_eq q _).mono ?_
                  rintro e w8 ⟨rfl, rfl⟩
                  try go_simp
                  refine hK.out _ _ trivial (fun _ => ?_)
                  clear hK K
                  refine wpAnyH_ready (rs := [2]) (by kernel_rfl) (by simp) ?_
                  refine (AllReadyH.cons rfl (fun K hK => ?_) AllReadyH.nil)
                  go_simp
                  refine hK.out _ _ trivial (fun _ => ?_)
                  clear hK K
                  refine wpAnyH_take (i := 5) (v := ?_) rfl (by kernel_rfl) (by kernel_rfl) (by kernel_rfl) (fun _ _ _ h => h) (Or.inl ⟨by rfl, ?_⟩) trivial ?_
                  rotate_left
                  · intro W9 _; go_simp
                    with_reducible rfl
                  refine wpAnyH_ready (rs := [6]) (by kernel_rfl) (by simp) ?_
                  refine (AllReadyH.cons rfl (fun K hK => ?_) AllReadyH.nil)
                  go_simp
                  refine hK.out _ _ trivial (fun _ => ?_)
                  clear hK K
                  refine wpAnyH_ready (rs := [7]) (by kernel_rfl) (by simp) ?_
                  refine (AllReadyH.cons rfl (fun K hK => ?_) AllReadyH.nil)
                  go_simp
                  refine hK.out _ _ trivial (fun _ => ?_)
                  clear hK K
                  refine wpAnyH_ready (rs := [8]) (by kernel_rfl) (by simp) ?_
                  refine (AllReadyH.cons rfl (fun K hK => ?_) AllReadyH.nil)
                  refine step_append_list _ rfl _ _ 24 rfl (w.heap.size + 1) 2 i0 (.int .i64 0) 8 Try.underlying24 hi hz0 hz1 hz2 rfl (.slice U F.length cU) F.length (F.map (Value.int .i64)) rfl ((HO2.out.1.alloc (.cells #[.int .i64 2, .int .i64 997, .int .i64 1000000] 2)).alloc (.cells #[.int .i64 2] 2)) (some ⟨wr.heap.size + 1, 0, none⟩) 1 1 [.int .i64 2] rfl rfl HR.out (by simp [Value.oneCell']) (by unfold maxLen; omega) (by omega) (by simp; omega) ?_
                  intro v3 w3 own3 gr3 at3
                  have hc3 : ChgS (fun k => (Value.slice U F.length cU).ownBlock = some k) ((wr.drew.alloc (.cells #[.int .i64 2, .int .i64 997, .int .i64 1000000] 2)).alloc (.cells #[.int .i64 2] 2)) w3 := ChgS.of_grown gr3 (fun k e => e)
                  have S3 := Lib.hid (((HS.out.alloc (.cells #[.int .i64 2, .int .i64 997, .int .i64 1000000] 2)).alloc (.cells #[.int .i64 2] 2)).far hc3 HD.out)
                  have O3 := Lib.hid (OwnD.push (x := 2) (fun k e => (HD.out k e).2) (by have := HS.out.a.lt; simp at this ⊢; omega) own3 at3)
                  obtain ⟨U3, c3, hv3⟩ := O3.out.1.form
                  rw [List.length_append] at hv3
                  simp only [List.length_cons, List.length_nil, Nat.zero_add] at hv3
                  subst hv3
                  obtain ⟨bl3, a30, a31⟩ := S3.out.a.c2
                  have f30 := S3.out.a.free 0
                  have f31 := S3.out.a.free 1
                  refine hK.out _ _ trivial (fun _ => ?_)
                  clear hK K
                  refine wpAnyH_ready (rs := [9]) (by kernel_rfl) (by simp) ?_
                  refine (AllReadyH.cons rfl (fun K hK => ?_) AllReadyH.nil)
                  go_simp
                  refine hK.out _ _ trivial (fun _ => ?_)
                  clear hK K
                  refine wpAnyH_ready (rs := [10]) (by kernel_rfl) (by simp) ?_
                  refine (AllReadyH.cons rfl (fun K hK => ?_) AllReadyH.nil)
                  go_simp
                  refine hK.out _ _ trivial (fun _ => ?_)
                  clear hK K
                  refine wpAnyH_done (by kernel_rfl) ?_ _
                  go_wp2_with (fail)
                  exact ⟨⟨U3, c3, F ++ [2], by rw [List.length_append]; simp; omega, Lib.hid (StB.pushed 2 S3.out), Lib.hid (OwnD.pushed O3.out _)⟩, by rw [World.cell?_setCell_same _ _ _ a30, a0]; simp [lenC]; omega⟩
              · go_simp
                refine hK.out _ _ trivial (fun _ => ?_)
                clear hK K
                refine wpAnyH_ready (rs := [1, 4]) (by kernel_rfl) (by simp) ?_
                refine (AllReadyH.cons rfl (fun K hK => ?_) (AllReadyH.cons rfl (fun K hK => ?_) AllReadyH.nil))
                · go_simp
                  refine hK.out _ _ trivial (fun _ => ?_)
                  clear hK K
                  refine wpAnyH_ready (rs := [4]) (by kernel_rfl) (by simp) ?_
                  refine (AllReadyH.cons rfl (fun K hK => ?_) AllReadyH.nil)
                  go_simp
                  refine (next_eq q _).mono ?_
                  rintro e w8 ⟨rfl, rfl⟩
                  try go_simp
                  refine hK.out _ _ trivial (fun _ => ?_)
                  clear hK K
                  refine wpAnyH_take (i := 5) (v := ?_) rfl (by kernel_rfl) (by kernel_rfl) (by kernel_rfl) (fun _ _ _ h => h) (Or.inl ⟨by rfl, ?_⟩) trivial ?_
                  rotate_left
                  · intro W9 _; go_simp
                    with_reducible rfl
                  refine wpAnyH_ready (rs := [6]) (by kernel_rfl) (by simp) ?_
                  refine (AllReadyH.cons rfl (fun K hK => ?_) AllReadyH.nil)
                  go_simp
                  refine hK.out _ _ trivial (fun _ => ?_)
                  clear hK K
                  refine wpAnyH_ready (rs := [7]) (by kernel_rfl) (by simp) ?_
                  refine (AllReadyH.cons rfl (fun K hK => ?_) AllReadyH.nil)
                  go_simp
                  refine hK.out _ _ trivial (fun _ => ?_)
                  clear hK K
                  refine wpAnyH_ready (rs := [8]) (by kernel_rfl) (by simp) ?_
                  refine (AllReadyH.cons rfl (fun K hK => ?_) AllReadyH.nil)
                  refine step_append_list _ rfl _ _ 24 rfl (w.heap.size + 1) 2 i0 (.int .i64 0) 8 Try.underlying24 hi hz0 hz1 hz2 rfl (.slice U F.length cU) F.length (F.map (Value.int .i64)) rfl ((HO2.out.1.alloc (.cells #[.int .i64 2, .int .i64 997, .int .i64 1000000] 2)).alloc (.cells #[.int .i64 2] 2)) (some ⟨wr.heap.size + 1, 0, none⟩) 1 1 [.int .i64 2] rfl rfl HR.out (by simp [Value.oneCell']) (by unfold maxLen; omega) (by omega) (by simp; omega) ?_
                  intro v3 w3 own3 gr3 at3
                  have hc3 : ChgS (fun k => (Value.slice U F.length cU).ownBlock = some k) ((wr.drew.alloc (.cells #[.int .i64 2, .int .i64 997, .int .i64 1000000] 2)).alloc (.cells #[.int .i64 2] 2)) w3 := ChgS.of_grown gr3 (fun k e => e)
                  have S3 := Lib.hid (((HS.out.alloc (.cells #[.int .i64 2, .int .i64 997, .int .i64 1000000] 2)).alloc (.cells #[.int .i64 2] 2)).far hc3 HD.out)
                  have O3 := Lib.hid (OwnD.push (x := 2) (fun k e => (HD.out k e).2) (by have := HS.out.a.lt; simp at this ⊢; omega) own3 at3)
                  obtain ⟨U3, c3, hv3⟩ := O3.out.1.form
                  rw [List.length_append] at hv3
                  simp only [List.length_cons, List.length_nil, Nat.zero_add] at hv3
                  subst hv3
                  obtain ⟨bl3, a30, a31⟩ := S3.out.a.c2
                  have f30 := S3.out.a.free 0
                  have f31 := S3.out.a.free 1
                  refine hK.out _ _ trivial (fun _ => ?_)
                  clear hK K
                  refine wpAnyH_ready (rs := [9]) (by kernel_rfl) (by simp) ?_
                  refine (AllReadyH.cons rfl (fun K hK => ?_) AllReadyH.nil)
                  go_simp
                  refine hK.out _ _ trivial (fun _ => ?_)
                  clear hK K
                  refine wpAnyH_ready (rs := [10]) (by kernel_rfl) (by simp) ?_
                  refine (AllReadyH.cons rfl (fun K hK => ?_) AllReadyH.nil)
                  go_simp
                  refine hK.out _ _ trivial (fun _ => ?_)
                  clear hK K
                  refine wpAnyH_done (by kernel_rfl) ?_ _
                  go_wp2_with (fail)
                  exact ⟨⟨U3, c3, F ++ [2], by rw [List.length_append]; simp; omega, Lib.hid (StB.pushed 2 S3.out), Lib.hid (OwnD.pushed O3.out _)⟩, by rw [World.cell?_setCell_same _ _ _ a30, a0]; simp [lenC]; omega⟩
                · go_simp
                  refine (next_eq q _).mono ?_
                  rintro e w8 ⟨rfl, rfl⟩
                  try go_simp
                  refine hK.out _ _ trivial (fun _ => ?_)
                  clear hK K
                  refine wpAnyH_take (i := 5) (v := ?_) rfl (by kernel_rfl) (by kernel_rfl) (by kernel_rfl) (fun _ _ _ h => h) (Or.inl ⟨by rfl, ?_⟩) trivial ?_
                  rotate_left
                  · intro W9 _; go_simp
                    with_reducible rfl
                  refine wpAnyH_ready (rs := [1, 6]) (by kernel_rfl) (by simp) ?_
                  refine (AllReadyH.cons rfl (fun K hK => ?_) (AllReadyH.cons rfl (fun K hK => ?_) AllReadyH.nil))
                  · go_simp
                    refine hK.out _ _ trivial (fun _ => ?_)
                    clear hK K
                    refine wpAnyH_ready (rs := [6]) (by kernel_rfl) (by simp) ?_
                    refine (AllReadyH.cons rfl (fun K hK => ?_) AllReadyH.nil)
                    go_simp
                    refine hK.out _ _ trivial (fun _ => ?_)
                    clear hK K
                    refine wpAnyH_ready (rs := [7]) (by kernel_rfl) (by simp) ?_
                    refine (AllReadyH.cons rfl (fun K hK => ?_) AllReadyH.nil)
                    go_simp
                    refine hK.out _ _ trivial (fun _ => ?_)
                    clear hK K
                    refine wpAnyH_ready (rs := [8]) (by kernel_rfl) (by simp) ?_
                    refine (AllReadyH.cons rfl (fun K hK => ?_) AllReadyH.nil)
                    refine step_append_list _ rfl _ _ 24 rfl (w.heap.size + 1) 2 i0 (.int .i64 0) 8 Try.underlying24 hi hz0 hz1 hz2 rfl (.slice U F.length cU) F.length (F.map (Value.int .i64)) rfl ((HO2.out.1.alloc (.cells #[.int .i64 2, .int .i64 997, .int .i64 1000000] 2)).alloc (.cells #[.int .i64 2] 2)) (some ⟨wr.heap.size + 1, 0, none⟩) 1 1 [.int .i64 2] rfl rfl HR.out (by simp [Value.oneCell']) (by unfold maxLen; omega) (by omega) (by simp; omega) ?_
                    intro v3 w3 own3 gr3 at3
                    have hc3 : ChgS (fun k => (Value.slice U F.length cU).ownBlock = some k) ((wr.drew.alloc (.cells #[.int .i64 2, .int .i64 997, .int .i64 1000000] 2)).alloc (.cells #[.int .i64 2] 2)) w3 := ChgS.of_grown gr3 (fun k e => e)
                    have S3 := Lib.hid (((HS.out.alloc (.cells #[.int .i64 2, .int .i64 997, .int .i64 1000000] 2)).alloc (.cells #[.int .i64 2] 2)).far hc3 HD.out)
                    have O3 := Lib.hid (OwnD.push (x := 2) (fun k e => (HD.out k e).2) (by have := HS.out.a.lt; simp at this ⊢; omega) own3 at3)
                    obtain ⟨U3, c3, hv3⟩ := O3.out.1.form
                    rw [List.length_append] at hv3
                    simp only [List.length_cons, List.length_nil, Nat.zero_add] at hv3
                    subst hv3
                    obtain ⟨bl3, a30, a31⟩ := S3.out.a.c2
                    have f30 := S3.out.a.free 0
                    have f31 := S3.out.a.free 1
                    refine hK.out _ _ trivial (fun _ => ?_)
                    clear hK K
                    refine wpAnyH_ready (rs := [9]) (by kernel_rfl) (by simp) ?_
                    refine (AllReadyH.cons rfl (fun K hK => ?_) AllReadyH.nil)
                    go_simp
                    refine hK.out _ _ trivial (fun _ => ?_)
                    clear hK K
                    refine wpAnyH_ready (rs := [10]) (by kernel_rfl) (by simp) ?_
                    refine (AllReadyH.cons rfl (fun K hK => ?_) AllReadyH.nil)
                    go_simp
                    refine hK.out _ _ trivial (fun _ => ?_)
                    clear hK K
                    refine wpAnyH_done (by kernel_rfl) ?_ _
                    go_wp2_with (fail)
                    exact ⟨⟨U3, c3, F ++ [2], by rw [List.length_append]; simp; omega, Lib.hid (StB.pushed 2 S3.out), Lib.hid (OwnD.pushed O3.out _)⟩, by rw [World.cell?_setCell_same _ _ _ a30, a0]; simp [lenC]; omega⟩
                  · go_simp
                    refine hK.out _ _ trivial (fun _ => ?_)
                    clear hK K
                    refine wpAnyH_ready (rs := [1, 7]) (by kernel_rfl) (by simp) ?_
                    refine (AllReadyH.cons rfl (fun K hK => ?_) (AllReadyH.cons rfl (fun K hK => ?_) AllReadyH.nil))
                    · go_simp
                      refine hK.out _ _ trivial (fun _ => ?_)
                      clear hK K
                      refine wpAnyH_ready (rs := [7]) (by kernel_rfl) (by simp) ?_
                      refine (AllReadyH.cons rfl (fun K hK => ?_) AllReadyH.nil)
                      go_simp
                      refine hK.out _ _ trivial (fun _ => ?_)
                      clear hK K
                      refine wpAnyH_ready (rs := [8]) (by kernel_rfl) (by simp) ?_
                      refine (AllReadyH.cons rfl (fun K hK => ?_) AllReadyH.nil)
                      refine step_append_list _ rfl _ _ 24 rfl (w.heap.size + 1) 2 i0 (.int .i64 0) 8 Try.underlying24 hi hz0 hz1 hz2 rfl (.slice U F.length cU) F.length (F.map (Value.int .i64)) rfl ((HO2.out.1.alloc (.cells #[.int .i64 2, .int .i64 997, .int .i64 1000000] 2)).alloc (.cells #[.int .i64 2] 2)) (some ⟨wr.heap.size + 1, 0, none⟩) 1 1 [.int .i64 2] rfl rfl HR.out (by simp [Value.oneCell']) (by unfold maxLen; omega) (by omega) (by simp; omega) ?_
                      intro v3 w3 own3 gr3 at3
                      have hc3 : ChgS (fun k => (Value.slice U F.length cU).ownBlock = some k) ((wr.drew.alloc (.cells #[.int .i64 2, .int .i64 997, .int .i64 1000000] 2)).alloc (.cells #[.int .i64 2] 2)) w3 := ChgS.of_grown gr3 (fun k e => e)
                      have S3 := Lib.hid (((HS.out.alloc (.cells #[.int .i64 2, .int .i64 997, .int .i64 1000000] 2)).alloc (.cells #[.int .i64 2] 2)).far hc3 HD.out)
                      have O3 := Lib.hid (OwnD.push (x := 2) (fun k e => (HD.out k e).2) (by have := HS.out.a.lt; simp at this ⊢; omega) own3 at3)
                      obtain ⟨U3, c3, hv3⟩ := O3.out.1.form
                      rw [List.length_append] at hv3
                      simp only [List.length_cons, List.length_nil, Nat.zero_add] at hv3
                      subst hv3
                      obtain ⟨bl3, a30, a31⟩ := S3.out.a.c2
                      have f30 := S3.out.a.free 0
                      have f31 := S3.out.a.free 1
                      refine hK.out _ _ trivial (fun _ => ?_)
                      clear hK K
                      refine wpAnyH_ready (rs := [9]) (by kernel_rfl) (by simp) ?_
                      refine (AllReadyH.cons rfl (fun K hK => ?_) AllReadyH.nil)
                      go_simp
                      refine hK.out _ _ trivial (fun _ => ?_)
                      clear hK K
                      refine wpAnyH_ready (rs := [10]) (by kernel_rfl) (by simp) ?_
                      refine (AllReadyH.cons rfl (fun K hK => ?_) AllReadyH.nil)
                      go_simp
                      refine hK.out _ _ trivial (fun _ => ?_)
                      clear hK K
                      refine wpAnyH_done (by kernel_rfl) ?_ _
                      go_wp2_with (fail)
                      exact ⟨⟨U3, c3, F ++ [2], by rw [List.length_append]; simp; omega, Lib.hid (StB.pushed 2 S3.out), Lib.hid (OwnD.pushed O3.out _)⟩, by rw [World.cell?_setCell_same _ _ _ a30, a0]; simp [lenC]; omega⟩
                    · go_simp
                      refine hK.out _ _ trivial (fun _ => ?_)
                      clear hK K
                      refine wpAnyH_ready (rs := [1]) (by kernel_rfl) (by simp) ?_
                      refine (AllReadyH.cons rfl (fun K hK => ?_) AllReadyH.nil)
                      go_simp
                      refine hK.out _ _ trivial (fun _ => ?_)
                      clear hK K
                      refine wpAnyH_ready (rs := [8]) (by kernel_rfl) (by simp) ?_
                      refine (AllReadyH.cons rfl (fun K hK => ?_) AllReadyH.nil)
                      refine step_append_list _ rfl _ _ 24 rfl (w.heap.size + 1) 2 i0 (.int .i64 0) 8 Try.underlying24 hi hz0 hz1 hz2 rfl (.slice U F.length cU) F.length (F.map (Value.int .i64)) rfl ((HO2.out.1.alloc (.cells #[.int .i64 2, .int .i64 997, .int .i64 1000000] 2)).alloc (.cells #[.int .i64 2] 2)) (some ⟨wr.heap.size + 1, 0, none⟩) 1 1 [.int .i64 2] rfl rfl HR.out (by simp [Value.oneCell']) (by unfold maxLen; omega) (by omega) (by simp; omega) ?_
                      intro v3 w3 own3 gr3 at3
                      have hc3 : ChgS (fun k => (Value.slice U F.length cU).ownBlock = some k) ((wr.drew.alloc (.cells #[.int .i64 2, .int .i64 997, .int .i64 1000000] 2)).alloc (.cells #[.int .i64 2] 2)) w3 := ChgS.of_grown gr3 (fun k e => e)
                      have S3 := Lib.hid (((HS.out.alloc (.cells #[.int .i64 2, .int .i64 997, .int .i64 1000000] 2)).alloc (.cells #[.int .i64 2] 2)).far hc3 HD.out)
                      have O3 := Lib.hid (OwnD.push (x := 2) (fun k e => (HD.out k e).2) (by have := HS.out.a.lt; simp at this ⊢; omega) own3 at3)
                      obtain ⟨U3, c3, hv3⟩ := O3.out.1.form
                      rw [List.length_append] at hv3
                      simp only [List.length_cons, List.length_nil, Nat.zero_add] at hv3
                      subst hv3
                      obtain ⟨bl3, a30, a31⟩ := S3.out.a.c2
                      have f30 := S3.out.a.free 0
                      have f31 := S3.out.a.free 1
                      refine hK.out _ _ trivial (fun _ => ?_)
                      clear hK K
                      refine wpAnyH_ready (rs := [9]) (by kernel_rfl) (by simp) ?_
                      refine (AllReadyH.cons rfl (fun K hK => ?_) AllReadyH.nil)
                      go_simp
                      refine hK.out _ _ trivial (fun _ => ?_)
                      clear hK K
                      refine wpAnyH_ready (rs := [10]) (by kernel_rfl) (by simp) ?_
                      refine (AllReadyH.cons rfl (fun K hK => ?_) AllReadyH.nil)
                      go_simp
                      refine hK.out _ _ trivial (fun _ => ?_)
                      clear hK K
                      refine wpAnyH_done (by kernel_rfl) ?_ _
                      go_wp2_with (fail)
                      exact ⟨⟨U3, c3, F ++ [2], by rw [List.length_append]; simp; omega, Lib.hid (StB.pushed 2 S3.out), Lib.hid (OwnD.pushed O3.out _)⟩, by rw [World.cell?_setCell_same _ _ _ a30, a0]; simp [lenC]; omega⟩
              · go_simp
                refine (next_eq q _).mono ?_
                rintro e w8 ⟨rfl, rfl⟩
                try go_simp
                refine hK.out _ _ trivial (fun _ => ?_)
                clear hK K
                refine wpAnyH_ready (rs := [1, 2]) (by kernel_rfl) (by simp) ?_
                refine (AllReadyH.cons rfl (fun K hK => ?_) (AllReadyH.cons rfl (fun K hK => ?_) AllReadyH.nil))
                · go_simp
                  refine hK.out _ _ trivial (fun _ => ?_)
                  clear hK K
                  refine wpAnyH_ready (rs := [2]) (by kernel_rfl) (by simp) ?_
                  refine (AllReadyH.cons rfl (fun K hK => ?_) AllReadyH.nil)
                  go_simp
                  refine hK.out _ _ trivial (fun _ => ?_)
                  clear hK K
                  refine wpAnyH_take (i := 5) (v := ?_) rfl (by kernel_rfl) (by kernel_rfl) (by kernel_rfl) (fun _ _ _ h => h) (Or.inl ⟨by rfl, ?_⟩) trivial ?_
                  rotate_left
                  · intro W9 _; go_simp
                    with_reducible rfl
                  refine wpAnyH_ready (rs := [6]) (by kernel_rfl) (by simp) ?_
                  refine (AllReadyH.cons rfl (fun K hK => ?_) AllReadyH.nil)
                  go_simp
                  refine hK.out _ _ trivial (fun _ => ?_)
                  clear hK K
                  refine wpAnyH_ready (rs := [7]) (by kernel_rfl) (by simp) ?_
                  refine (AllReadyH.cons rfl (fun K hK => ?_) AllReadyH.nil)
                  go_simp
                  refine hK.out _ _ trivial (fun _ => ?_)
                  clear hK K
                  refine wpAnyH_ready (rs := [8]) (by kernel_rfl) (by simp) ?_
                  refine (AllReadyH.cons rfl (fun K hK => ?_) AllReadyH.nil)
                  refine step_append_list _ rfl _ _ 24 rfl (w.heap.size + 1) 2 i0 (.int .i64 0) 8 Try.underlying24 hi hz0 hz1 hz2 rfl (.slice U F.length cU) F.length (F.map (Value.int .i64)) rfl ((HO2.out.1.alloc (.cells #[.int .i64 2, .int .i64 997, .int .i64 1000000] 2)).alloc (.cells #[.int .i64 2] 2)) (some ⟨wr.heap.size + 1, 0, none⟩) 1 1 [.int .i64 2] rfl rfl HR.out (by simp [Value.oneCell']) (by unfold maxLen; omega) (by omega) (by simp; omega) ?_
                  intro v3 w3 own3 gr3 at3
                  have hc3 : ChgS (fun k => (Value.slice U F.length cU).ownBlock = some k) ((wr.drew.alloc (.cells #[.int .i64 2, .int .i64 997, .int .i64 1000000] 2)).alloc (.cells #[.int .i64 2] 2)) w3 := ChgS.of_grown gr3 (fun k e => e)
                  have S3 := Lib.hid (((HS.out.alloc (.cells #[.int .i64 2, .int .i64 997, .int .i64 1000000] 2)).alloc (.cells #[.int .i64 2] 2)).far hc3 HD.out)
                  have O3 := Lib.hid (OwnD.push (x := 2) (fun k e => (HD.out k e).2) (by have := HS.out.a.lt; simp at this ⊢; omega) own3 at3)
                  obtain ⟨U3, c3, hv3⟩ := O3.out.1.form
                  rw [List.length_append] at hv3
                  simp only [List.length_cons, List.length_nil, Nat.zero_add] at hv3
                  subst hv3
                  obtain ⟨bl3, a30, a31⟩ := S3.out.a.c2
                  have f30 := S3.out.a.free 0
                  have f31 := S3.out.a.free 1
                  refine hK.out _ _ trivial (fun _ => ?_)
                  clear hK K
                  refine wpAnyH_ready (rs := [9]) (by kernel_rfl) (by simp) ?_
                  refine (AllReadyH.cons rfl (fun K hK => ?_) AllReadyH.nil)
                  go_simp
                  refine hK.out _ _ trivial (fun _ => ?_)
                  clear hK K
                  refine wpAnyH_ready (rs := [10]) (by kernel_rfl) (by simp) ?_
                  refine (AllReadyH.cons rfl (fun K hK => ?_) AllReadyH.nil)
                  go_simp
                  refine hK.out _ _ trivial (fun _ => ?_)
                  clear hK K
                  refine wpAnyH_done (by kernel_rfl) ?_ _
                  go_wp2_with (fail)
                  exact ⟨⟨U3, c3, F ++ [2], by rw [List.length_append]; simp; omega, Lib.hid (StB.pushed 2 S3.out), Lib.hid (OwnD.pushed O3.out _)⟩, by rw [World.cell?_setCell_same _ _ _ a30, a0]; simp [lenC]; omega⟩
                · go_simp
                  refine hK.out _ _ trivial (fun _ => ?_)
                  clear hK K
                  refine wpAnyH_take (i := 5) (v := ?_) rfl (by kernel_rfl) (by kernel_rfl) (by kernel_rfl) (fun _ _ _ h => h) (Or.inl ⟨by rfl, ?_⟩) trivial ?_
                  rotate_left
                  · intro W9 _; go_simp
                    with_reducible rfl
                  refine wpAnyH_ready (rs := [1, 6]) (by kernel_rfl) (by simp) ?_
                  refine (AllReadyH.cons rfl (fun K hK => ?_) (AllReadyH.cons rfl (fun K hK => ?_) AllReadyH.nil))
                  · go_simp
                    refine hK.out _ _ trivial (fun _ => ?_)
                    clear hK K
                    refine wpAnyH_ready (rs := [6]) (by kernel_rfl) (by simp) ?_
                    refine (AllReadyH.cons rfl (fun K hK => ?_) AllReadyH.nil)
                    go_simp
                    refine hK.out _ _ trivial (fun _ => ?_)
                    clear hK K
                    refine wpAnyH_ready (rs := [7]) (by kernel_rfl) (by simp) ?_
                    refine (AllReadyH.cons rfl (fun K hK => ?_) AllReadyH.nil)
                    go_simp
                    refine hK.out _ _ trivial (fun _ => ?_)
                    clear hK K
                    refine wpAnyH_ready (rs := [8]) (by kernel_rfl) (by simp) ?_
                    refine (AllReadyH.cons rfl (fun K hK => ?_) AllReadyH.nil)
                    refine step_append_list _ rfl _ _ 24 rfl (w.heap.size + 1) 2 i0 (.int .i64 0) 8 Try.underlying24 hi hz0 hz1 hz2 rfl (.slice U F.length cU) F.length (F.map (Value.int .i64)) rfl ((HO2.out.1.alloc (.cells #[.int .i64 2, .int .i64 997, .int .i64 1000000] 2)).alloc (.cells #[.int .i64 2] 2)) (some ⟨wr.heap.size + 1, 0, none⟩) 1 1 [.int .i64 2] rfl rfl HR.out (by simp [Value.oneCell']) (by unfold maxLen; omega) (by omega) (by simp; omega) ?_
                    intro v3 w3 own3 gr3 at3
                    have hc3 : ChgS (fun k => (Value.slice U F.length cU).ownBlock = some k) ((wr.drew.alloc (.cells #[.int .i64 2, .int .i64 997, .int .i64 1000000] 2)).alloc (.cells #[.int .i64 2] 2)) w3 := ChgS.of_grown gr3 (fun k e => e)
                    have S3 := Lib.hid (((HS.out.alloc (.cells #[.int .i64 2, .int .i64 997, .int .i64 1000000] 2)).alloc (.cells #[.int .i64 2] 2)).far hc3 HD.out)
                    have O3 := Lib.hid (OwnD.push (x := 2) (fun k e => (HD.out k e).2) (by have := HS.out.a.lt; simp at this ⊢; omega) own3 at3)
                    obtain ⟨U3, c3, hv3⟩ := O3.out.1.form
                    rw [List.length_append] at hv3
                    simp only [List.length_cons, List.length_nil, Nat.zero_add] at hv3
                    subst hv3
                    obtain ⟨bl3, a30, a31⟩ := S3.out.a.c2
                    have f30 := S3.out.a.free 0
                    have f31 := S3.out.a.free 1
                    refine hK.out _ _ trivial (fun _ => ?_)
                    clear hK K
                    refine wpAnyH_ready (rs := [9]) (by kernel_rfl) (by simp) ?_
                    refine (AllReadyH.cons rfl (fun K hK => ?_) AllReadyH.nil)
                    go_simp
                    refine hK.out _ _ trivial (fun _ => ?_)
                    clear hK K
                    refine wpAnyH_ready (rs := [10]) (by kernel_rfl) (by simp) ?_
                    refine (AllReadyH.cons rfl (fun K hK => ?_) AllReadyH.nil)
                    go_simp
                    refine hK.out _ _ trivial (fun _ => ?_)
                    clear hK K
                    refine wpAnyH_done (by kernel_rfl) ?_ _
                    go_wp2_with (fail)
                    exact ⟨⟨U3, c3, F ++ [2], by rw [List.length_append]; simp; omega, Lib.hid (StB.pushed 2 S3.out), Lib.hid (OwnD.pushed O3.out _)⟩, by rw [World.cell?_setCell_same _ _ _ a30, a0]; simp [lenC]; omega⟩
                  · go_simp
                    refine hK.out _ _ trivial (fun _ => ?_)
                    clear hK K
                    refine wpAnyH_ready (rs := [1, 7]) (by kernel_rfl) (by simp) ?_
                    refine (AllReadyH.cons rfl (fun K hK => ?_) (AllReadyH.cons rfl (fun K hK => ?_) AllReadyH.nil))
                    · go_simp
                      refine hK.out _ _ trivial (fun _ => ?_)
                      clear hK K
                      refine wpAnyH_ready (rs := [7]) (by kernel_rfl) (by simp) ?_
                      refine (AllReadyH.cons rfl (fun K hK => ?_) AllReadyH.nil)
                      go_simp
                      refine hK.out _ _ trivial (fun _ => ?_)
                      clear hK K
                      refine wpAnyH_ready (rs := [8]) (by kernel_rfl) (by simp) ?_
                      refine (AllReadyH.cons rfl (fun K hK => ?_) AllReadyH.nil)
                      refine step_append_list _ rfl _ _ 24 rfl (w.heap.size + 1) 2 i0 (.int .i64 0) 8 Try.underlying24 hi hz0 hz1 hz2 rfl (.slice U F.length cU) F.length (F.map (Value.int .i64)) rfl ((HO2.out.1.alloc (.cells #[.int .i64 2, .int .i64 997, .int .i64 1000000] 2)).alloc (.cells #[.int .i64 2] 2)) (some ⟨wr.heap.size + 1, 0, none⟩) 1 1 [.int .i64 2] rfl rfl HR.out (by simp [Value.oneCell']) (by unfold maxLen; omega) (by omega) (by simp; omega) ?_
                      intro v3 w3 own3 gr3 at3
                      have hc3 : ChgS (fun k => (Value.slice U F.length cU).ownBlock = some k) ((wr.drew.alloc (.cells #[.int .i64 2, .int .i64 997, .int .i64 1000000] 2)).alloc (.cells #[.int .i64 2] 2)) w3 := ChgS.of_grown gr3 (fun k e => e)
                      have S3 := Lib.hid (((HS.out.alloc (.cells #[.int .i64 2, .int .i64 997, .int .i64 1000000] 2)).alloc (.cells #[.int .i64 2] 2)).far hc3 HD.out)
                      have O3 := Lib.hid (OwnD.push (x := 2) (fun k e => (HD.out k e).2) (by have := HS.out.a.lt; simp at this ⊢; omega) own3 at3)
                      obtain ⟨U3, c3, hv3⟩ := O3.out.1.form
                      rw [List.length_append] at hv3
                      simp only [List.length_cons, List.length_nil, Nat.zero_add] at hv3
                      subst hv3
                      obtain ⟨bl3, a30, a31⟩ := S3.out.a.c2
                      have f30 := S3.out.a.free 0
                      have f31 := S3.out.a.free 1
                      refine hK.out _ _ trivial (fun _ => ?_)
                      clear hK K
                      refine wpAnyH_ready (rs := [9]) (by kernel_rfl) (by simp) ?_
                      refine (AllReadyH.cons rfl (fun K hK => ?_) AllReadyH.nil)
                      go_simp
                      refine hK.out _ _ trivial (fun _ => ?_)
                      clear hK K
                      refine wpAnyH_ready (rs := [10]) (by kernel_rfl) (by simp) ?_
                      refine (AllReadyH.cons rfl (fun K hK => ?_) AllReadyH.nil)
                      go_simp
                      refine hK.out _ _ trivial (fun _ => ?_)
                      clear hK K
                      refine wpAnyH_done (by kernel_rfl) ?_ _
                      go_wp2_with (fail)
                      exact ⟨⟨U3, c3, F ++ [2], by rw [List.length_append]; simp; omega, Lib.hid (StB.pushed 2 S3.out), Lib.hid (OwnD.pushed O3.out _)⟩, by rw [World.cell?_setCell_same _ _ _ a30, a0]; simp [lenC]; omega⟩
                    · go_simp
                      refine hK.out _ _ trivial (fun _ => ?_)
                      clear hK K
                      refine wpAnyH_ready (rs := [1]) (by kernel_rfl) (by simp) ?_
                      refine (AllReadyH.cons rfl (fun K hK => ?_) AllReadyH.nil)
                      go_simp
                      refine hK.out _ _ trivial (fun _ => ?_)
                      clear hK K
                      refine wpAnyH_ready (rs := [8]) (by kernel_rfl) (by simp) ?_
                      refine (AllReadyH.cons rfl (fun K hK => ?_) AllReadyH.nil)
                      refine step_append_list _ rfl _ _ 24 rfl (w.heap.size + 1) 2 i0 (.int .i64 0) 8 Try.underlying24 hi hz0 hz1 hz2 rfl (.slice U F.length cU) F.length (F.map (Value.int .i64)) rfl ((HO2.out.1.alloc (.cells #[.int .i64 2, .int .i64 997, .int .i64 1000000] 2)).alloc (.cells #[.int .i64 2] 2)) (some ⟨wr.heap.size + 1, 0, none⟩) 1 1 [.int .i64 2] rfl rfl HR.out (by simp [Value.oneCell']) (by unfold maxLen; omega) (by omega) (by simp; omega) ?_
                      intro v3 w3 own3 gr3 at3
                      have hc3 : ChgS (fun k => (Value.slice U F.length cU).ownBlock = some k) ((wr.drew.alloc (.cells #[.int .i64 2, .int .i64 997, .int .i64 1000000] 2)).alloc (.cells #[.int .i64 2] 2)) w3 := ChgS.of_grown gr3 (fun k e => e)
                      have S3 := Lib.hid (((HS.out.alloc (.cells #[.int .i64 2, .int .i64 997, .int .i64 1000000] 2)).alloc (.cells #[.int .i64 2] 2)).far hc3 HD.out)
                      have O3 := Lib.hid (OwnD.push (x := 2) (fun k e => (HD.out k e).2) (by have := HS.out.a.lt; simp at this ⊢; omega) own3 at3)
                      obtain ⟨U3, c3, hv3⟩ := O3.out.1.form
                      rw [List.length_append] at hv3
                      simp only [List.length_cons, List.length_nil, Nat.zero_add] at hv3
                      subst hv3
                      obtain ⟨bl3, a30, a31⟩ := S3.out.a.c2
                      have f30 := S3.out.a.free 0
                      have f31 := S3.out.a.free 1
                      refine hK.out _ _ trivial (fun _ => ?_)
                      clear hK K
                      refine wpAnyH_ready (rs := [9]) (by kernel_rfl) (by simp) ?_
                      refine (AllReadyH.cons rfl (fun K hK => ?_) AllReadyH.nil)
                      go_simp
                      refine hK.out _ _ trivial (fun _ => ?_)
                      clear hK K
                      refine wpAnyH_ready (rs := [10]) (by kernel_rfl) (by simp) ?_
                      refine (AllReadyH.cons rfl (fun K hK => ?_) AllReadyH.nil)
                      go_simp
                      refine hK.out _ _ trivial (fun _ => ?_)
                      clear hK K
                      refine wpAnyH_done (by kernel_rfl) ?_ _
                      go_wp2_with (fail)
                      exact ⟨⟨U3, c3, F ++ [2], by rw [List.length_append]; simp; omega, Lib.hid (StB.pushed 2 S3.out), Lib.hid (OwnD.pushed O3.out _)⟩, by rw [World.cell?_setCell_same _ _ _ a30, a0]; simp [lenC]; omega⟩
            · go_wp2_with (fail)
              refine bodyPost_ret (v := .agg #[.slice U F.length cU, .int .i64 K2]) (by simp [results, Try.results64, go_sem, blr, b0, b1]) rfl ?_
              exact StB.fin HS.out HO.out (by omega)
        · have n4 : (r4 == 0) = false := by simpa using e4
          clear e4
          obtain ⟨bl, a0, a1⟩ := HS.out.a.c2
          obtain ⟨blr, b0, b1⟩ := HS.out.r.c2
          have f0 := HS.out.a.free 0
          have f1 := HS.out.a.free 1
          have g0 := HS.out.r.free 0
          have g1 := HS.out.r.free 1

          go_wp2_with (fail)
          refine bodyPost_ret (v := .agg #[.slice U F.length cU, .int .i64 0]) (by simp [results, Try.results64, go_sem, blr, b0, b1]) rfl ?_
          exact StB.fin HS.out HO.out (by omega)


end Go.Proofs.Ytpplojbcjgiabaa
