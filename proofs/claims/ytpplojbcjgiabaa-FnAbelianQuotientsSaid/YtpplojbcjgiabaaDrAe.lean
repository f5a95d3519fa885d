/- The draw of one abelian group, rarely of something else. -/
import Derived.Test.YtpplojbcjgiabaaDrAc
namespace Go.Proofs.Ytpplojbcjgiabaa
open Go.RowKit
set_option linter.unusedVariables false
set_option linter.unusedSimpArgs false
/-- A literal of one number is stored; the block of the literal is reckoned last. -/
theorem drawn_lit {w0 w : World} {q B len cap : Nat} {A : Option Addr} {vs : List Value} (h : StB w0 w q B A len cap vs) (x K : Int) :
    DrawnAb w0 q A len cap (.returned (.agg #[.slice (some ⟨w.heap.size, 0, none⟩) 1 1, .int .i64 K])) ((((w.setCell ⟨B, 0, none⟩ (.slice (some ⟨w.heap.size, 0, none⟩) 1 1)).setCell ⟨w0.heap.size, 0, none⟩ (.slice (some ⟨w.heap.size, 0, none⟩) 1 1)).setCell ⟨w0.heap.size, 1, none⟩ (.int .i64 K)).alloc (.cells #[.int .i64 x] 2)) := by
  have g : ∀ {v : World} (i : Nat) (u : Value), ChgS (fun k => k = w0.heap.size) v (v.setCell ⟨w0.heap.size, i, none⟩ u) := fun i u => ChgS.set _ ⟨w0.heap.size, i, none⟩ u
  have S7 := h.set 0 (.slice (some ⟨w.heap.size, 0, none⟩) 1 1)
  have h2 := ((g (v := w.setCell ⟨B, 0, none⟩ (.slice (some ⟨w.heap.size, 0, none⟩) 1 1)) 0 (.slice (some ⟨w.heap.size, 0, none⟩) 1 1)).trans (g 1 (.int .i64 K))).trans (chgS_alloc _ (.cells #[.int .i64 x] 2))
  have hb := h.a.lt
  have hq := h.q
  have hB := h.b
  refine ⟨some ⟨w.heap.size, 0, none⟩, 1, [x], K, rfl, ?_, by simp, S7.src.chg h2 (fun k e => by omega), S7.c.on h2 fun k e => .inr (by omega)⟩
  have hl := OwnI.lit (((w.setCell ⟨B, 0, none⟩ (.slice (some ⟨w.heap.size, 0, none⟩) 1 1)).setCell ⟨w0.heap.size, 0, none⟩ (.slice (some ⟨w.heap.size, 0, none⟩) 1 1)).setCell ⟨w0.heap.size, 1, none⟩ (.int .i64 K)) [x] (base := w0.heap.size + 1) (by simp only [World.size_setCell]; omega) (by simp)
  simp only [World.size_setCell] at hl
  exact hl
set_option maxRecDepth 100000 in
set_option maxHeartbeats 4000000 in
theorem draw_any (q : Nat) (A : Option Addr) (len cap : Nat) (w : World) (hs : SrcI w q A len cap) (hG : ∀ W, SrcI W q A len cap → Calls Try.prog 64 #[.pointer (some ⟨q, 0, none⟩)] W (DrawnAn 50 W q A len cap)) :
    Calls Try.prog 44 #[.pointer (some ⟨q, 0, none⟩)] w (DrawnAb w q A len cap) := by
  obtain ⟨i0, hi, hz0, hz1, hz2⟩ := info_parts infoI
  have hq := hs.lt
  have B1 : Blk (w.alloc (.cells [.slice none 0 0, (.int .i64 0 : Value)].toArray 40)) w.heap.size [.slice none 0 0, (.int .i64 0 : Value)] 40 := Blk.new w _ _
  have hs1 := hs.chg (S := fun _ => False) (chgS_alloc w (.cells [.slice none 0 0, (.int .i64 0 : Value)].toArray 40)) (fun k h => h.elim)
  have HGG := Lib.hid (hG _ hs1)
  have hc1 := Lib.hid (chgS_alloc (S := fun k => k = q) w (.cells [.slice none 0 0, (.int .i64 0 : Value)].toArray 40))
  clear hG hs hs1
  go_enter Try.func44, Try.ntmps44
  go_wp2_with (fail)
  refine HGG.out.mono ?_
  rintro e w1 ⟨U, cU, F, K, rfl, ho, hl, hs2, hc2⟩
  rw [World.size_alloc] at ho
  have hz := hc2.size
  rw [World.size_alloc] at hz
  have S0 : StB w (w1.alloc (.cells [.slice U F.length cU, (.int .i64 K : Value)].toArray 40)) q w1.heap.size A len cap [.slice U F.length cU, .int .i64 K] :=
    ⟨hs2.chg (S := fun _ => False) (chgS_alloc w1 (.cells [.slice U F.length cU, (.int .i64 K : Value)].toArray 40)) (fun k h => h.elim), (B1.chg hc2 (by omega)).alloc _, Blk.new w1 _ _, (hc1.out.trans hc2).trans (chgS_alloc _ _), hq, by omega⟩
  have O0 : OwnD (w1.alloc (.cells [.slice U F.length cU, (.int .i64 K : Value)].toArray 40)) w.heap.size w1.heap.size (.slice U F.length cU) F := ⟨OwnI.alloc (ownsRow_base ho (by omega)) _, fun k e => by have := (World.ownsRow.lt ho k e).2; omega⟩
  have HS := Lib.hid S0
  have HO := Lib.hid O0
  clear HGG hc1 B1 ho hs2 hc2 S0 O0
  go_wp2_with (fail)
  refine (nextS q A len cap 30 _ HS.out.src (by omega) (by omega)).mono ?_
  rintro e w8 ⟨r, rfl, ⟨r0, r1⟩, hs', hc'⟩
  replace HO := Lib.hid (OwnD.chg HO.out hc' (fun k g => .inl (by omega)))
  replace HS := Lib.hid (StB.draw HS.out hs' hc')
  clear hs' hc'
  by_cases e0 : r = 0
  · subst e0
    obtain ⟨bl, a0, a1⟩ := HS.out.a.c2
    obtain ⟨blr, b0, b1⟩ := HS.out.r.c2
    have f0 := HS.out.a.free 0
    have f1 := HS.out.a.free 1
    have g0 := HS.out.r.free 0
    have g1 := HS.out.r.free 1
    have HD := Lib.hid HO.out.far
    go_wp2_with (first | (at_builtin; refine wpList_append_own_at _ rfl (.tmp 11) (.tmp 12) 24 rfl (w.heap.size + 1) 2 i0 (.int .i64 0) 1 8 Try.underlying24 hi hz0 hz1 hz2 rfl (by decide) _ _ _ rfl (HO.out.1.alloc _) ⟨_, 0, none⟩ 1 1 [.int .i64 1] rfl rfl (cell_one_new _ _ _) (by simp [Value.oneCell']) (by unfold maxLen; omega) (by omega) (by simp; omega) ?_; intro v3 w3 own3 gr3 _ at3; have hc3 : ChgS (fun k => (Value.slice U F.length cU).ownBlock = some k) (w8.alloc (.cells #[.int .i64 1] 2)) w3 := ChgS.of_grown gr3 (fun k e => e); have S3 := Lib.hid (((HS.out).alloc (.cells #[.int .i64 1] 2)).far hc3 HD.out); have O3 := Lib.hid (OwnD.push (fun k e => (HD.out k e).2) (by have := HS.out.a.lt; simp; omega) own3 at3); obtain ⟨U3, c3, hv3⟩ := O3.out.1.form; rw [List.length_append] at hv3; simp only [List.length_cons, List.length_nil, Nat.zero_add] at hv3; subst hv3; obtain ⟨bl3, a30, a31⟩ := S3.out.a.c2; have f30 := S3.out.a.free 0; have f31 := S3.out.a.free 1; obtain ⟨blr3, b30, b31⟩ := S3.out.r.c2; have g30 := S3.out.r.free 0; have g31 := S3.out.r.free 1))
    have HE := StB.fin (m := 100) (StB.pushed (U3 := U3) (c3 := c3) 1 S3.out) (OwnD.pushed (x := 1) O3.out (.slice U3 (F.length + 1) c3)) (by rw [List.length_append]; simp; omega)
    simp only [List.length_append, List.length_cons, List.length_nil, Nat.zero_add] at HE
    refine bodyPost_ret (v := .agg #[.slice U3 (F.length + 1) c3, .int .i64 K]) (by simp [results, Try.results44, go_sem, blr3, b30, b31]) rfl ?_
    exact HE
  have n0 : (r == 0) = false := by simpa using e0
  by_cases e1 : r = 1
  · subst e1
    obtain ⟨bl, a0, a1⟩ := HS.out.a.c2
    obtain ⟨blr, b0, b1⟩ := HS.out.r.c2
    have f0 := HS.out.a.free 0
    have f1 := HS.out.a.free 1
    have g0 := HS.out.r.free 0
    have g1 := HS.out.r.free 1
    have HD := Lib.hid HO.out.far
    go_wp2_with (first | (at_builtin; refine wpList_append_own_at _ rfl (.tmp 18) (.tmp 19) 24 rfl (w.heap.size + 1) 2 i0 (.int .i64 0) 1 8 Try.underlying24 hi hz0 hz1 hz2 rfl (by decide) _ _ _ rfl (HO.out.1.alloc _) ⟨_, 0, none⟩ 1 1 [.int .i64 7] rfl rfl (cell_one_new _ _ _) (by simp [Value.oneCell']) (by unfold maxLen; omega) (by omega) (by simp; omega) ?_; intro v3 w3 own3 gr3 _ at3; have hc3 : ChgS (fun k => (Value.slice U F.length cU).ownBlock = some k) (w8.alloc (.cells #[.int .i64 7] 2)) w3 := ChgS.of_grown gr3 (fun k e => e); have S3 := Lib.hid (((HS.out).alloc (.cells #[.int .i64 7] 2)).far hc3 HD.out); have O3 := Lib.hid (OwnD.push (fun k e => (HD.out k e).2) (by have := HS.out.a.lt; simp; omega) own3 at3); obtain ⟨U3, c3, hv3⟩ := O3.out.1.form; rw [List.length_append] at hv3; simp only [List.length_cons, List.length_nil, Nat.zero_add] at hv3; subst hv3; obtain ⟨bl3, a30, a31⟩ := S3.out.a.c2; have f30 := S3.out.a.free 0; have f31 := S3.out.a.free 1; obtain ⟨blr3, b30, b31⟩ := S3.out.r.c2; have g30 := S3.out.r.free 0; have g31 := S3.out.r.free 1))
    have HE := StB.fin (m := 100) (StB.pushed (U3 := U3) (c3 := c3) 7 S3.out) (OwnD.pushed (x := 7) O3.out (.slice U3 (F.length + 1) c3)) (by rw [List.length_append]; simp; omega)
    simp only [List.length_append, List.length_cons, List.length_nil, Nat.zero_add] at HE
    refine bodyPost_ret (v := .agg #[.slice U3 (F.length + 1) c3, .int .i64 K]) (by simp [results, Try.results44, go_sem, blr3, b30, b31]) rfl ?_
    exact HE
  have n1 : (r == 1) = false := by simpa using e1
  by_cases e2 : r = 2
  · subst e2
    clear n0 n1 e0 e1
    replace HS := Lib.hid (StB.drew HS.out)
    have HO2 : Hid (OwnD w8.drew w.heap.size w1.heap.size (.slice U F.length cU) F) := Lib.hid HO.out
    have hb8 := HS.out.a.lt
    have hz8 : w1.heap.size < w8.heap.size := hb8
    go_wp2_with (fail)
    have cB : w8.drew.cell? ⟨w1.heap.size, 0, none⟩ = some (.slice U F.length cU) := HS.out.a.cell 0 (by simp)
    refine wp_region_held_drew (S := fun wx => wx.cell? ⟨w1.heap.size, 0, none⟩ = some (.slice U F.length cU)) (by kernel_rfl) cB (fun _ => ?_)
    refine wpAnyH_take (i := 0) (v := ?_) rfl (by kernel_rfl) (by kernel_rfl) (by kernel_rfl) (fun _ _ _ h => h) (Or.inl ⟨by rfl, ?_⟩) cB ?_
    rotate_left
    · intro W9 hSw; go_simp
      with_reducible rfl
    refine wpAnyH_take (i := 1) (v := ?_) rfl (by kernel_rfl) (by kernel_rfl) (by kernel_rfl) (fun _ _ _ h => h) (Or.inl ⟨by rfl, ?_⟩) cB ?_
    rotate_left
    · intro W9 hSw; go_simp
      with_reducible rfl
    refine wpAnyH_take (i := 2) (v := ?_) rfl (by kernel_rfl) (by kernel_rfl) (by kernel_rfl) (fun _ _ _ h => h) (Or.inl ⟨by rfl, ?_⟩) cB ?_
    rotate_left
    · intro W9 hSw; go_simp
      with_reducible rfl
    refine wpAnyH_take (i := 3) (v := ?_) rfl (by kernel_rfl) (by kernel_rfl) (by kernel_rfl) (fun _ _ _ h => h) (Or.inl ⟨by rfl, ?_⟩) cB ?_
    rotate_left
    · intro W9 hSw; go_simp
      with_reducible rfl
    refine wpAnyH_take (i := 5) (v := ?_) rfl (by kernel_rfl) (by kernel_rfl) (by kernel_rfl) (fun _ _ _ h => h) (Or.inl ⟨by rfl, ?_⟩) cB ?_
    rotate_left
    · intro W9 hSw; go_simp
      with_reducible rfl
    refine wpAnyH_ready (rs := [4, 6]) (by kernel_rfl) (by simp) ?_
    refine (AllReadyH.cons rfl (fun K' hK => ?_) (AllReadyH.cons rfl (fun K' hK => ?_) AllReadyH.nil))
    · go_simp
      refine hK.out _ _ (Blk.cell (HS.out.alloc (.cells #[.int .i64 (-1), .int .i64 10, .int .i64 11, .int .i64 (IntKind.i64.wrap (10 - (F.length : Int)))] 2)).a 0 (by simp)) (fun _ => ?_)
      clear hK K'
      refine wpAnyH_ready (rs := [6]) (by kernel_rfl) (by simp) ?_
      refine (AllReadyH.cons rfl (fun K' hK => ?_) AllReadyH.nil)
      go_simp
      refine (nextS q A len cap 4 _ (HS.out.alloc (.cells #[.int .i64 (-1), .int .i64 10, .int .i64 11, .int .i64 (IntKind.i64.wrap (10 - (F.length : Int)))] 2)).src (by omega) (by omega)).mono ?_
      rintro e w9 ⟨s, rfl, ⟨s0, s1⟩, hs', hc'⟩
      obtain ⟨i, rfl⟩ := Int.eq_ofNat_of_zero_le s0
      have i0' : (0 : Int) ≤ (i : Int) := by omega
      have i1' : (i : Int) < 4 := by omega
      have hL : ∀ i, i < 4 → (w8.drew.alloc (.cells #[.int .i64 (-1), .int .i64 10, .int .i64 11, .int .i64 (IntKind.i64.wrap (10 - (F.length : Int)))] 2)).cell? ⟨w8.heap.size, i, none⟩ = some (.int .i64 (([-1, 10, 11, IntKind.i64.wrap (10 - (F.length : Int))] : List Int).getD i 0)) := fun i hi => by
        have h : i = 0 ∨ i = 1 ∨ i = 2 ∨ i = 3 := by omega
        have hb := Blk.new w8.drew [.int .i64 (-1), .int .i64 10, .int .i64 11, .int .i64 (IntKind.i64.wrap (10 - (F.length : Int)))] 2
        rcases h with rfl | rfl | rfl | rfl
        · exact hb.cell 0 (by simp)
        · exact hb.cell 1 (by simp)
        · exact hb.cell 2 (by simp)
        · exact hb.cell 3 (by simp)
      have hx := (World.cell?_of_block (w := w8.drew.alloc (.cells #[.int .i64 (-1), .int .i64 10, .int .i64 11, .int .i64 (IntKind.i64.wrap (10 - (F.length : Int)))] 2)) (hc'.block w8.heap.size (by simp) (by have := HS.out.q; have := HS.out.b; omega))).trans (hL i (by omega))
      generalize ([-1, 10, 11, IntKind.i64.wrap (10 - (F.length : Int))] : List Int).getD i 0 = f at *
      have HS9 := Lib.hid (StB.draw (HS.out.alloc (.cells #[.int .i64 (-1), .int .i64 10, .int .i64 11, .int .i64 (IntKind.i64.wrap (10 - (F.length : Int)))] 2)) hs' hc')
      have HO9 := Lib.hid (OwnD.chg (HO2.out.alloc (.cells #[.int .i64 (-1), .int .i64 10, .int .i64 11, .int .i64 (IntKind.i64.wrap (10 - (F.length : Int)))] 2)) hc' (fun k g => .inl (by omega)))
      clear hs' hc' hL HS HO HO2 cB
      try go_simp
      refine hK.out _ _ (Blk.cell HS9.out.a 0 (by simp)) (fun _ => ?_)
      clear hK K'
      refine wpAnyH_take (i := 7) (v := ?_) rfl (by kernel_rfl) (by kernel_rfl) (by kernel_rfl) (fun _ _ _ h => h) (Or.inl ⟨by rfl, ?_⟩) (Blk.cell HS9.out.a 0 (by simp)) ?_
      rotate_left
      · intro W9 hSw; go_simp
        with_reducible rfl
      refine wpAnyH_ready (rs := [8]) (by kernel_rfl) (by simp) ?_
      refine (AllReadyH.cons rfl (fun K' hK => ?_) AllReadyH.nil)
      go_simp
      refine hK.out _ _ (Blk.cell HS9.out.a 0 (by simp)) (fun _ => ?_)
      clear hK K'
      refine wpAnyH_ready (rs := [9]) (by kernel_rfl) (by simp) ?_
      refine (AllReadyH.cons rfl (fun K' hK => ?_) AllReadyH.nil)
      go_simp
      refine hK.out _ _ (Blk.cell HS9.out.a 0 (by simp)) (fun _ => ?_)
      clear hK K'
      obtain ⟨bl, a0, a1⟩ := HS9.out.a.c2
      have f1 := HS9.out.a.free 1
      refine wpAnyH_ready (rs := [10]) (by kernel_rfl) (by simp) ?_
      refine (AllReadyH.cons rfl (fun K' hK => ?_) AllReadyH.nil)
      go_simp
      refine hK.out _ _ (Blk.cell (HS9.out.set 1 (.int .i64 f)).a 0 (by simp)) (fun _ => ?_)
      clear hK K'
      refine wpAnyH_done (by kernel_rfl) ?_ _
      clear bl a0 a1 f1
      have HS := Lib.hid (StB.set HS9.out 1 (.int .i64 f))
      have HO := Lib.hid (OwnD.set HO9.out 1 (.int .i64 f))
      obtain ⟨bl, a0, a1⟩ := HS.out.a.c2
      obtain ⟨blr, b0, b1⟩ := HS.out.r.c2
      have f0 := HS.out.a.free 0
      have f1 := HS.out.a.free 1
      have g0 := HS.out.r.free 0
      have g1 := HS.out.r.free 1
      go_wp2_with (fail)
      refine bodyPost_ret (v := .agg #[.slice U F.length cU, .int .i64 f]) (by simp [results, Try.results44, go_sem, blr, b0, b1]) rfl ?_
      exact StB.fin (m := 100) HS.out HO.out (by omega)
    · go_simp
      refine (nextS q A len cap 4 _ HS.out.src (by omega) (by omega)).mono ?_
      rintro e w9 ⟨s, rfl, ⟨s0, s1⟩, hs', hc'⟩
      obtain ⟨i, rfl⟩ := Int.eq_ofNat_of_zero_le s0
      have i0' : (0 : Int) ≤ (i : Int) := by omega
      have i1' : (i : Int) < 4 := by omega
      have HS8 := Lib.hid (StB.draw HS.out hs' hc')
      have HO8 := Lib.hid (OwnD.chg HO2.out hc' (fun k g => .inl (by omega)))
      clear hs' hc' HS HO HO2 cB
      try go_simp
      refine hK.out _ _ (Blk.cell HS8.out.a 0 (by simp)) (fun _ => ?_)
      clear hK K'
      refine wpAnyH_ready (rs := [4]) (by kernel_rfl) (by simp) ?_
      refine (AllReadyH.cons rfl (fun K' hK => ?_) AllReadyH.nil)
      go_simp
      refine hK.out _ _ (Blk.cell (HS8.out.alloc (.cells #[.int .i64 (-1), .int .i64 10, .int .i64 11, .int .i64 (IntKind.i64.wrap (10 - (F.length : Int)))] 2)).a 0 (by simp)) (fun _ => ?_)
      clear hK K'
      have hL : ∀ i, i < 4 → (w9.alloc (.cells #[.int .i64 (-1), .int .i64 10, .int .i64 11, .int .i64 (IntKind.i64.wrap (10 - (F.length : Int)))] 2)).cell? ⟨w9.heap.size, i, none⟩ = some (.int .i64 (([-1, 10, 11, IntKind.i64.wrap (10 - (F.length : Int))] : List Int).getD i 0)) := fun i hi => by
        have h : i = 0 ∨ i = 1 ∨ i = 2 ∨ i = 3 := by omega
        have hb := Blk.new w9 [.int .i64 (-1), .int .i64 10, .int .i64 11, .int .i64 (IntKind.i64.wrap (10 - (F.length : Int)))] 2
        rcases h with rfl | rfl | rfl | rfl
        · exact hb.cell 0 (by simp)
        · exact hb.cell 1 (by simp)
        · exact hb.cell 2 (by simp)
        · exact hb.cell 3 (by simp)
      have hx := hL i (by omega)
      generalize ([-1, 10, 11, IntKind.i64.wrap (10 - (F.length : Int))] : List Int).getD i 0 = f at *
      have HS9 := Lib.hid (HS8.out.alloc (.cells #[.int .i64 (-1), .int .i64 10, .int .i64 11, .int .i64 (IntKind.i64.wrap (10 - (F.length : Int)))] 2))
      have HO9 := Lib.hid (HO8.out.alloc (.cells #[.int .i64 (-1), .int .i64 10, .int .i64 11, .int .i64 (IntKind.i64.wrap (10 - (F.length : Int)))] 2))
      clear hL HS8 HO8
      generalize w9.alloc (.cells #[.int .i64 (-1), .int .i64 10, .int .i64 11, .int .i64 (IntKind.i64.wrap (10 - (F.length : Int)))] 2) = wz at *
      refine wpAnyH_take (i := 7) (v := ?_) rfl (by kernel_rfl) (by kernel_rfl) (by kernel_rfl) (fun _ _ _ h => h) (Or.inl ⟨by rfl, ?_⟩) (Blk.cell HS9.out.a 0 (by simp)) ?_
      rotate_left
      · intro W9 hSw; go_simp
        with_reducible rfl
      refine wpAnyH_ready (rs := [8]) (by kernel_rfl) (by simp) ?_
      refine (AllReadyH.cons rfl (fun K' hK => ?_) AllReadyH.nil)
      go_simp
      refine hK.out _ _ (Blk.cell HS9.out.a 0 (by simp)) (fun _ => ?_)
      clear hK K'
      refine wpAnyH_ready (rs := [9]) (by kernel_rfl) (by simp) ?_
      refine (AllReadyH.cons rfl (fun K' hK => ?_) AllReadyH.nil)
      go_simp
      refine hK.out _ _ (Blk.cell HS9.out.a 0 (by simp)) (fun _ => ?_)
      clear hK K'
      obtain ⟨bl, a0, a1⟩ := HS9.out.a.c2
      have f1 := HS9.out.a.free 1
      refine wpAnyH_ready (rs := [10]) (by kernel_rfl) (by simp) ?_
      refine (AllReadyH.cons rfl (fun K' hK => ?_) AllReadyH.nil)
      go_simp
      refine hK.out _ _ (Blk.cell (HS9.out.set 1 (.int .i64 f)).a 0 (by simp)) (fun _ => ?_)
      clear hK K'
      refine wpAnyH_done (by kernel_rfl) ?_ _
      clear bl a0 a1 f1
      have HS := Lib.hid (StB.set HS9.out 1 (.int .i64 f))
      have HO := Lib.hid (OwnD.set HO9.out 1 (.int .i64 f))
      obtain ⟨bl, a0, a1⟩ := HS.out.a.c2
      obtain ⟨blr, b0, b1⟩ := HS.out.r.c2
      have f0 := HS.out.a.free 0
      have f1 := HS.out.a.free 1
      have g0 := HS.out.r.free 0
      have g1 := HS.out.r.free 1
      go_wp2_with (fail)
      refine bodyPost_ret (v := .agg #[.slice U F.length cU, .int .i64 f]) (by simp [results, Try.results44, go_sem, blr, b0, b1]) rfl ?_
      exact StB.fin (m := 100) HS.out HO.out (by omega)
  have n2 : (r == 2) = false := by simpa using e2
  by_cases e3 : r = 3
  · subst e3
    clear n0 n1 n2 e0 e1 e2
    have hb8 := HS.out.a.lt
    have HO5 := Lib.hid (OwnD.lit (H := w.heap.size) w8 hb8 (by omega) [] (by simp))
    have HR5 : Hid (RdC ((w8.alloc (.cells #[] 2)).alloc (.cells #[.int .i64 1000000, .int .i64 2000000] 2)) (some ⟨w8.heap.size + 1, 0, none⟩) [.int .i64 1000000, .int .i64 2000000]) := Lib.hid (by
      have := (RdI.lit (w8.alloc (.cells #[] 2)) [1000000, 2000000]).cells
      rw [World.size_alloc] at this
      exact this)
    have HD5 : Hid (∀ k, (Value.slice (some ⟨w8.heap.size, 0, none⟩) 0 0).ownBlock = some k → w.heap.size < k ∧ k ≠ w1.heap.size) := Lib.hid (OwnD.far HO5.out)
    obtain ⟨bl, a0, a1⟩ := HS.out.a.c2
    obtain ⟨blr, b0, b1⟩ := HS.out.r.c2
    have f0 := HS.out.a.free 0
    have f1 := HS.out.a.free 1
    have g0 := HS.out.r.free 0
    have g1 := HS.out.r.free 1

    go_wp2_with (first | (at_builtin; refine wpList_append_list _ rfl _ _ 24 rfl (w.heap.size + 1) 2 i0 (.int .i64 0) 8 Try.underlying24 hi hz0 hz1 hz2 rfl (.slice (some ⟨w8.heap.size, 0, none⟩) 0 0) 0 [] rfl (HO5.out.1.alloc (.cells #[.int .i64 1000000, .int .i64 2000000] 2)) (some ⟨w8.heap.size + 1, 0, none⟩) 2 2 [.int .i64 1000000, .int .i64 2000000] rfl rfl HR5.out (by simp [Value.oneCell']) (by unfold maxLen; omega) (by omega) (by simp; omega) ?_; intro v3 w3 own3 gr3 at3; have hc3 : ChgS (fun k => (Value.slice (some ⟨w8.heap.size, 0, none⟩) 0 0).ownBlock = some k) ((w8.alloc (.cells #[] 2)).alloc (.cells #[.int .i64 1000000, .int .i64 2000000] 2)) w3 := ChgS.of_grown gr3 (fun k e => e); have S3 := Lib.hid (((HS.out.alloc (.cells #[] 2)).alloc (.cells #[.int .i64 1000000, .int .i64 2000000] 2)).far hc3 HD5.out); have O3 : Hid (OwnD w3 w.heap.size w1.heap.size v3 [1000000, 2000000]) := Lib.hid ⟨own3, (fun k e => by rcases at3 with g | g; exact (HD5.out k (g ▸ e)).2; rw [g] at e; have := Option.some.inj e; simp at this; omega)⟩; obtain ⟨U3, c3, hv3⟩ := O3.out.1.form; simp only [List.length_cons, List.length_nil, Nat.zero_add] at hv3; subst hv3; obtain ⟨bl3, a30, a31⟩ := S3.out.a.c2; have f30 := S3.out.a.free 0; have f31 := S3.out.a.free 1; obtain ⟨blr3, b30, b31⟩ := S3.out.r.c2; have g30 := S3.out.r.free 0; have g31 := S3.out.r.free 1))
    have HE := StB.fin (m := 100) (F := [1000000, 2000000]) (StB.set S3.out 0 (.slice U3 2 c3)) (OwnD.set O3.out 0 (.slice U3 2 c3)) (by simp)
    refine bodyPost_ret (v := .agg #[.slice U3 2 c3, .int .i64 K]) (by simp [results, Try.results44, go_sem, blr3, b30, b31]) rfl ?_
    exact HE
  have n3 : (r == 3) = false := by simpa using e3
  by_cases e4 : r = 4
  · subst e4
    clear n0 n1 n2 n3 e0 e1 e2 e3
    have HE := Lib.hid (drawn_lit HS.out 0 K)
    obtain ⟨bl, a0, a1⟩ := HS.out.a.c2
    obtain ⟨blr, b0, b1⟩ := HS.out.r.c2
    have f0 := HS.out.a.free 0
    have f1 := HS.out.a.free 1
    have g0 := HS.out.r.free 0
    have g1 := HS.out.r.free 1

    go_wp2_with (fail)
    refine bodyPost_ret (v := .agg #[.slice (some ⟨w8.heap.size, 0, none⟩) 1 1, .int .i64 K]) (by simp [results, Try.results44, go_sem, blr, b0, b1]) rfl ?_
    exact HE.out
  have n4 : (r == 4) = false := by simpa using e4
  clear e0 e1 e2 e3 e4
  obtain ⟨bl, a0, a1⟩ := HS.out.a.c2
  obtain ⟨blr, b0, b1⟩ := HS.out.r.c2
  have f0 := HS.out.a.free 0
  have f1 := HS.out.a.free 1
  have g0 := HS.out.r.free 0
  have g1 := HS.out.r.free 1
  go_wp2_with (fail)
  refine bodyPost_ret (v := .agg #[.slice U F.length cU, .int .i64 K]) (by simp [results, Try.results44, go_sem, blr, b0, b1]) rfl ?_
  exact StB.fin HS.out HO.out (by omega)
end Go.Proofs.Ytpplojbcjgiabaa
