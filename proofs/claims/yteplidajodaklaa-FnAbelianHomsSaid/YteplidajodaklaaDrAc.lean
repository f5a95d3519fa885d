/- Draws of abelian groups: what rests on the draw of one group. -/
import Derived.Test.YteplidajodaklaaDrS
namespace Go.Proofs.Yteplidajodaklaa
open Go.RowKit
set_option linter.unusedVariables false
set_option linter.unusedSimpArgs false
/-- A drawn group is put into the result's box. -/
theorem DrawnAb.put {w0 w1 w2 : World} {q len cap : Nat} {A U : Option Addr} {c : Nat} {F : List Int} {K : Int} (hc1 : ChgS (fun k => k = q) w0 w1) (hq : q < w0.heap.size) (ho : OwnI w2 (w1.heap.size + 1) (.slice U F.length c) F) (hl : F.length ≤ 100) (hs : SrcI w2 q A len cap) (hc : ChgS (fun k => k = q) w1 w2) :
    DrawnAb w0 q A len cap (.returned (.agg #[.slice U F.length c, .int .i64 K])) ((w2.setCell ⟨w0.heap.size, 0, none⟩ (.slice U F.length c)).setCell ⟨w0.heap.size, 1, none⟩ (.int .i64 K)) := by
  have g : ∀ {v : World} (i : Nat) (u : Value), ChgS (fun k => k = w0.heap.size) v (v.setCell ⟨w0.heap.size, i, none⟩ u) := fun i u => ChgS.set _ ⟨w0.heap.size, i, none⟩ u
  have h2 := (g (v := w2) 0 (.slice U F.length c)).trans (g 1 (.int .i64 K))
  have hz := hc1.size
  refine ⟨U, c, F, K, rfl, ?_, hl, hs.chg h2 (fun k e => by omega), (hc1.trans hc).on h2 fun k e => .inr (by omega)⟩
  exact ownsRow_keep (ownsRow_base ho (by omega)) fun k e => by
    obtain ⟨h3, h4⟩ := World.ownsRow.lt ho k e
    exact h2.block k h4 (fun hk => by omega)
set_option maxRecDepth 100000 in
set_option maxHeartbeats 2000000 in
theorem great_any (q : Nat) (A : Option Addr) (len cap : Nat) (w : World) (hs : SrcI w q A len cap) (hD : ∀ W, SrcI W q A len cap → Calls Try.prog 31 #[.pointer (some ⟨q, 0, none⟩)] W (DrawnAb W q A len cap)) :
    Calls Try.prog 20 #[.pointer (some ⟨q, 0, none⟩)] w (DrawnAb w q A len cap) := by
  obtain ⟨i0, hi, hz0, hz1, hz2⟩ := info_parts infoI
  have hq := hs.lt
  have B1 : Blk (w.alloc (.cells [.slice none 0 0, (.int .i64 0 : Value)].toArray 26)) w.heap.size [.slice none 0 0, (.int .i64 0 : Value)] 26 := Blk.new w _ _
  have hs1 := Lib.hid (hs.chg (S := fun _ => False) (chgS_alloc w (.cells [.slice none 0 0, (.int .i64 0 : Value)].toArray 26)) (fun k h => h.elim))
  have hc1 := Lib.hid (chgS_alloc (S := fun k => k = q) w (.cells [.slice none 0 0, (.int .i64 0 : Value)].toArray 26))
  have HDR := Lib.hid hD
  clear hD hs
  go_enter Try.func20, Try.ntmps20
  go_wp2_with (fail)
  refine (nextS q A len cap 6 _ hs1.out (by omega) (by omega)).mono ?_
  rintro e w1 ⟨r, rfl, ⟨r0, r1⟩, hs2, hc2⟩
  have B2 := B1.chg hc2 (by omega)
  have HC := Lib.hid (hc1.out.trans hc2)
  have hz := HC.out.size
  clear hs1 hc1 hc2 B1
  by_cases hr : 0 < r
  · have HG := Lib.hid (HDR.out w1 hs2)
    clear hs2 HDR
    go_wp2_with (fail)
    refine HG.out.mono ?_
    rintro e w2 ⟨U, c, F, K, rfl, ho, hl, hs3, hc3⟩
    have B3 := B2.chg hc3 (by omega)
    have HE := Lib.hid (DrawnAb.put (K := K) HC.out hq ho hl hs3 hc3)
    obtain ⟨bl, a0, a1⟩ := B3.c2
    have f0 := B3.free 0
    have f1 := B3.free 1
    clear HG ho hs3 hc3 HC B2 B3
    go_wp2_with (fail)
    refine bodyPost_ret (v := .agg #[.slice U F.length c, .int .i64 K]) (by simp [results, Try.results20, go_sem, bl, a0, a1]) rfl ?_
    exact HE.out
  · clear HDR
    have S0 : StB w ((w1.alloc (.cells #[] 2)).alloc (.cells [.slice (some ⟨w1.heap.size, 0, none⟩) 0 0, (.int .i64 0 : Value)].toArray 26)) q (w1.heap.size + 1) A len cap [.slice (some ⟨w1.heap.size, 0, none⟩) 0 0, (.int .i64 0 : Value)] :=
      ⟨(hs2.chg (S := fun _ => False) (chgS_alloc w1 (.cells #[] 2)) (fun k h => h.elim)).chg (S := fun _ => False) (chgS_alloc _ (.cells [.slice (some ⟨w1.heap.size, 0, none⟩) 0 0, (.int .i64 0 : Value)].toArray 26)) (fun k h => h.elim),
       (B2.alloc _).alloc _, by have := Blk.new (w1.alloc (.cells #[] 2)) [.slice (some ⟨w1.heap.size, 0, none⟩) 0 0, (.int .i64 0 : Value)] 26; rwa [World.size_alloc] at this, (HC.out.trans (chgS_alloc _ _)).trans (chgS_alloc _ _), hq, by omega⟩
    have hb2 := B2.lt
    have O0 : OwnD ((w1.alloc (.cells #[] 2)).alloc (.cells [.slice (some ⟨w1.heap.size, 0, none⟩) 0 0, (.int .i64 0 : Value)].toArray 26)) w.heap.size (w1.heap.size + 1) (.slice (some ⟨w1.heap.size, 0, none⟩) 0 0) [] :=
      ⟨OwnI.alloc (show OwnI (w1.alloc (.cells #[] 2)) (w.heap.size + 1) (.slice (some ⟨w1.heap.size, 0, none⟩) 0 0) [] from World.ownsRow_lit w1 #[] 0 hb2 (by unfold maxLen; omega) rfl) _, fun k e => by first | (have := Option.some.inj e; omega) | (simp [Value.ownBlock] at e; omega) | cases e⟩
    have HS := Lib.hid S0
    have HO := Lib.hid O0
    have hL : ∀ i, i < 4 → (((w1.alloc (.cells #[] 2)).alloc (.cells [.slice (some ⟨w1.heap.size, 0, none⟩) 0 0, (.int .i64 0 : Value)].toArray 26)).alloc (.cells #[.int .i64 997, .int .i64 1000000, .int .i64 210, .int .i64 64] 2)).cell? ⟨w1.heap.size + 1 + 1, i, none⟩ = some (.int .i64 (([997, 1000000, 210, 64] : List Int).getD i 0)) := fun i hi => by
      have h : i = 0 ∨ i = 1 ∨ i = 2 ∨ i = 3 := by omega
      have hb := Blk.new ((w1.alloc (.cells #[] 2)).alloc (.cells [.slice (some ⟨w1.heap.size, 0, none⟩) 0 0, (.int .i64 0 : Value)].toArray 26)) [.int .i64 997, .int .i64 1000000, .int .i64 210, .int .i64 64] 2
      rw [World.size_alloc, World.size_alloc] at hb
      rcases h with rfl | rfl | rfl | rfl
      · exact hb.cell 0 (by simp)
      · exact hb.cell 1 (by simp)
      · exact hb.cell 2 (by simp)
      · exact hb.cell 3 (by simp)
    have hz4 : w1.heap.size + 1 + 1 < (((w1.alloc (.cells #[] 2)).alloc (.cells [.slice (some ⟨w1.heap.size, 0, none⟩) 0 0, (.int .i64 0 : Value)].toArray 26)).alloc (.cells #[.int .i64 997, .int .i64 1000000, .int .i64 210, .int .i64 64] 2)).heap.size := by simp
    replace HS := Lib.hid (HS.out.alloc (.cells #[.int .i64 997, .int .i64 1000000, .int .i64 210, .int .i64 64] 2))
    replace HO := Lib.hid (HO.out.alloc (.cells #[.int .i64 997, .int .i64 1000000, .int .i64 210, .int .i64 64] 2))
    go_wp2_with (fail)
    refine (nextS q A len cap 4 _ HS.out.src (by omega) (by omega)).mono ?_
    rintro e w2 ⟨s, rfl, ⟨s0, s1⟩, hs', hc'⟩
    obtain ⟨i, rfl⟩ := Int.eq_ofNat_of_zero_le s0
    have hx : w2.cell? ⟨w1.heap.size + 1 + 1, i, none⟩ = some (.int .i64 (([997, 1000000, 210, 64] : List Int).getD i 0)) := (World.cell?_of_block (w := ((w1.alloc (.cells #[] 2)).alloc (.cells [.slice (some ⟨w1.heap.size, 0, none⟩) 0 0, (.int .i64 0 : Value)].toArray 26)).alloc (.cells #[.int .i64 997, .int .i64 1000000, .int .i64 210, .int .i64 64] 2)) (hc'.block (w1.heap.size + 1 + 1) hz4 (by omega))).trans (hL i (by omega))
    replace HO := Lib.hid (OwnD.chg HO.out hc' (fun k g => .inl (by omega)))
    replace HS := Lib.hid (StB.draw HS.out hs' hc')
    generalize ([997, 1000000, 210, 64] : List Int).getD i 0 = f at *
    clear hs' hc' hL hz4 S0 O0
    have i0' : (0 : Int) ≤ (i : Int) := by omega
    have i1 : (i : Int) < 4 := by omega
    go_wp2_with (fail)
    refine (nextS q A len cap 8 _ HS.out.src (by omega) (by omega)).mono ?_
    rintro e w3 ⟨k, rfl, ⟨k0, k1⟩, hs', hc'⟩
    replace HO := Lib.hid (OwnD.chg HO.out hc' (fun k g => .inl (by omega)))
    replace HS := Lib.hid (StB.draw HS.out hs' hc')
    clear hs' hc' hx
    go_wp2_with (fail)
    go_loopw [5] (fun s5 wr => ∃ (k : Int) (U : Option Addr) (cU : Nat) (F : List Int), s5 = .int .i64 k ∧ 0 ≤ k ∧ F.length + k ≤ 9 ∧ Hid (StB w wr q (w1.heap.size + 1) A len cap [.slice U F.length cU, .int .i64 0]) ∧ Hid (OwnD wr w.heap.size (w1.heap.size + 1) (.slice U F.length cU) F)) (fun s5 _ => (intOf s5).toNat)
    case atStart => exact ⟨_, _, _, [], rfl, by omega, by simp; omega, HS, HO⟩
    case round =>
      clear HS HO
      obtain ⟨x, U, cU, F, rfl, x0, xl, HS, HO⟩ := hrel
      by_cases hx : 0 < x
      · have HD := Lib.hid HO.out.far
        obtain ⟨bl, a0, a1⟩ := HS.out.a.c2
        obtain ⟨blr, b0, b1⟩ := HS.out.r.c2
        have f0 := HS.out.a.free 0
        have f1 := HS.out.a.free 1
        have g0 := HS.out.r.free 0
        have g1 := HS.out.r.free 1

        go_wp2_with (first | (at_builtin; refine wpList_append_own_at _ rfl (.tmp 26) (.tmp 28) 24 rfl (w.heap.size + 1) 2 i0 (.int .i64 0) 1 8 Try.underlying24 hi hz0 hz1 hz2 rfl (by decide) _ _ _ rfl (HO.out.1.alloc _) ⟨_, 0, none⟩ 1 1 [.int .i64 f] rfl rfl (cell_one_new _ _ _) (by simp [Value.oneCell']) (by unfold maxLen; omega) (by omega) (by simp; omega) ?_; intro v3 w3 own3 gr3 _ at3; have hc3 : ChgS (fun k => (Value.slice U F.length cU).ownBlock = some k) (wr.alloc (.cells #[.int .i64 f] 2)) w3 := ChgS.of_grown gr3 (fun k e => e); have S3 := Lib.hid (((HS.out).alloc (.cells #[.int .i64 f] 2)).far hc3 HD.out); have O3 := Lib.hid (OwnD.push (fun k e => (HD.out k e).2) (by have := HS.out.a.lt; simp; omega) own3 at3); obtain ⟨U3, c3, hv3⟩ := O3.out.1.form; rw [List.length_append] at hv3; simp only [List.length_cons, List.length_nil, Nat.zero_add] at hv3; subst hv3; obtain ⟨bl3, a30, a31⟩ := S3.out.a.c2; have f30 := S3.out.a.free 0; have f31 := S3.out.a.free 1))
        exact ⟨⟨x - 1, U3, c3, F ++ [f], rfl, by omega, by rw [List.length_append]; simp; omega, Lib.hid (StB.pushed f S3.out), Lib.hid (OwnD.pushed O3.out _)⟩, by simp [intOf]; omega⟩
      · obtain rfl : x = 0 := by omega
        obtain ⟨bl, a0, a1⟩ := HS.out.a.c2
        obtain ⟨blr, b0, b1⟩ := HS.out.r.c2
        have f0 := HS.out.a.free 0
        have f1 := HS.out.a.free 1
        have g0 := HS.out.r.free 0
        have g1 := HS.out.r.free 1

        go_wp2_with (fail)
        refine bodyPost_ret (v := .agg #[.slice U F.length cU, .int .i64 0]) (by simp [results, Try.results20, go_sem, blr, b0, b1]) rfl ?_
        exact StB.fin HS.out HO.out (by omega)
end Go.Proofs.Yteplidajodaklaa
