/- Presentations: the model's l07Both. -/
import Derived.Test.YtncpngmplddbkaaL11V
import Derived.BigQuiet
import Derived.Deep.DeepCutAuto
namespace Go.Proofs.Ytncpngmplddbkaa
open Go.RowKit
set_option linter.unusedVariables false
set_option linter.unusedSimpArgs false

set_option maxRecDepth 100000 in
set_option maxHeartbeats 8000000 in
theorem sBoth_any (A0 A1 A2 B0 B1 B2 : Option Addr) (a0 a1 a2 b0 b1 b2 m n : Nat) (Oa Ob : List Int) (Wa Wb : List (List Int)) (Ja Jb : List (List (List Int))) (w : World) (hA : RdI w A0 Oa ∧ RdW w A1 Wa ∧ RdX w A2 Ja) (hB : RdI w B0 Ob ∧ RdW w B1 Wb ∧ RdX w B2 Jb)
    (SA : Num.Shp m Oa Wa Ja) (SB : Num.Shp n Ob Wb Jb) :
    Calls Try.prog 69 #[.agg #[.slice A0 m a0, .slice A1 m a1, .slice A2 m a2], .agg #[.slice B0 n b0, .slice B1 n b1, .slice B2 n b2]] w (Made spPres ⟨Oa ++ Ob, Num.dpW m n Wa Wb (trivP (Oa ++ Ob)).W, Num.dpJ m n Ja Jb (trivP (Oa ++ Ob)).J⟩ w) := by
  have m6 := SA.h6
  have n6 := SB.h6
  have HSA := Lib.hid SA
  have HSB := Lib.hid SB
  obtain ⟨W0, hW0⟩ : ∃ X, ((w.alloc (.cells #[.slice A0 m a0, .slice A1 m a1, .slice A2 m a2] 29)).alloc (.cells #[.slice B0 n b0, .slice B1 n b1, .slice B2 n b2] 29)).alloc (.cells #[.slice none 0 0, .slice none 0 0, .slice none 0 0] 29) = X := ⟨_, rfl⟩
  have hz0 : W0.heap.size = w.heap.size + 3 := by rw [← hW0]; simp
  have bW : Below w.heap.size w W0 := by rw [← hW0]; go_grown
  have BA : Blk W0 w.heap.size [.slice A0 m a0, .slice A1 m a1, .slice A2 m a2] 29 := by rw [← hW0]; exact ((Blk.new w [.slice A0 m a0, .slice A1 m a1, .slice A2 m a2] 29).alloc _).alloc _
  have BB : Blk W0 (w.heap.size + 1) [.slice B0 n b0, .slice B1 n b1, .slice B2 n b2] 29 := by
    rw [← hW0]
    have := (Blk.new (w.alloc (.cells #[.slice A0 m a0, .slice A1 m a1, .slice A2 m a2] 29)) [.slice B0 n b0, .slice B1 n b1, .slice B2 n b2] 29).alloc (.cells #[.slice none 0 0, .slice none 0 0, .slice none 0 0] 29)
    simpa using this
  have BR : Blk W0 (w.heap.size + 1 + 1) [.slice none 0 0, .slice none 0 0, .slice none 0 0] 29 := by
    rw [← hW0]
    have := Blk.new ((w.alloc (.cells #[.slice A0 m a0, .slice A1 m a1, .slice A2 m a2] 29)).alloc (.cells #[.slice B0 n b0, .slice B1 n b1, .slice B2 n b2] 29)) [.slice none 0 0, .slice none 0 0, .slice none 0 0] 29
    simpa using this
  have RA : Hid (RdI W0 A0 Oa ∧ RdW W0 A1 Wa ∧ RdX W0 A2 Ja) := Lib.hid ⟨hA.1.below' bW, hA.2.1.below' bW, hA.2.2.below' bW⟩
  have RB : Hid (RdI W0 B0 Ob ∧ RdW W0 B1 Wb ∧ RdX W0 B2 Jb) := Lib.hid ⟨hB.1.below' bW, hB.2.1.below' bW, hB.2.2.below' bW⟩
  have HBA := Lib.hid BA
  have HBB := Lib.hid BB
  have HBR := Lib.hid BR
  obtain ⟨l0, x0, x1, x2⟩ := BA.c3
  obtain ⟨l1, y0, y1, y2⟩ := BB.c3
  clear hA hB SA SB BA BB BR
  have HOW : Hid (∀ W, RdI W A0 Oa → _) := Lib.hid fun W (h : RdI W A0 Oa) => sOwnI_any A0 m a0 Oa W h HSA.out.l0 (by have := HSA.out.l0; omega)
  go_enter Try.func69, Try.ntmps69
  go_wp2_with (fail)
  go_quiet (fail)
  clear hW0
  go_wp2_with (fail)
  generalize hW1 : W0.drewN nq = W1 at *
  have hz1 : w.heap.size + 3 ≤ W1.heap.size := by rw [← hW1]; exact Nat.le_of_eq hz0.symm
  have B01 : Below W0.heap.size W0 W1 := by rw [← hW1]; exact ⟨rfl, rfl, rfl, Nat.le_refl _, fun _ _ => rfl⟩
  replace RA : Hid (RdI W1 A0 Oa ∧ RdW W1 A1 Wa ∧ RdX W1 A2 Ja) := Lib.hid ⟨RA.out.1.below' B01, RA.out.2.1.below' B01, RA.out.2.2.below' B01⟩
  replace RB : Hid (RdI W1 B0 Ob ∧ RdW W1 B1 Wb ∧ RdX W1 B2 Jb) := Lib.hid ⟨RB.out.1.below' B01, RB.out.2.1.below' B01, RB.out.2.2.below' B01⟩
  replace HBA := Lib.hid (HBA.out.below B01)
  replace HBB := Lib.hid (HBB.out.below B01)
  replace HBR := Lib.hid (HBR.out.below B01)
  clear l0 x0 x1 x2 l1 y0 y1 y2
  have bW1 : Below w.heap.size w W1 := bstep bW bW.size B01
  obtain ⟨l0, x0, x1, x2⟩ := HBA.out.c3
  obtain ⟨l1, y0, y1, y2⟩ := HBB.out.c3
  obtain ⟨N, hN⟩ : ∃ N, m + n = N := ⟨_, rfl⟩
  have HN := Lib.hid hN
  have HLN : Hid ((Oa ++ Ob).length = N) := Lib.hid (by rw [List.length_append, HSA.out.l0, HSB.out.l0, hN])
  have HTR : Hid (∀ W A c, RdI W A (Oa ++ Ob) → Calls Try.prog 59 #[.slice A N c] W (Made spPres (trivP (Oa ++ Ob)) W)) := Lib.hid fun W A c h => by
    have := sTrivial_any A c (Oa ++ Ob) W h (by rw [HLN.out]; omega)
    rw [HLN.out] at this
    exact this
  have hlab : Oa.length + Ob.length ≤ 1000000000 := by rw [HSA.out.l0, HSB.out.l0]; omega
  clear hW1 hz0 bW B01 hN
  go_cut [7] from 18 to 24 (fun s7 wx => ∃ (b : Nat) (A4 A5 A6 : Option Addr) (c4 c5 c6 : Nat) (S0 S1 S2 : Nat → Prop), s7 = .pointer (some ⟨b, 0, none⟩) ∧ Hid (PBox W1.heap.size wx b (Oa ++ Ob) (trivP (Oa ++ Ob)).W (trivP (Oa ++ Ob)).J (.slice A4 N c4) (.slice A5 N c5) (.slice A6 N c6) S0 S1 S2) ∧ Below W1.heap.size W1 wx)
  case first =>
    go_region_law (first
      | (go_simp; go_at_call 76; refine (HOW.out _ (RA.out.1.below' (by go_grown))).mono ?_; rintro e w5 ⟨u5, rfl, ow5, hb5⟩; have B5 : Below W1.heap.size W1 w5 := bstep (by go_grown) (by go_size) hb5; have SM5 : w5.cell? ⟨w.heap.size + 1, 0, none⟩ = some (.slice B0 n b0) := (by rw [B5.cell l1]; exact y0); have t5 : w.heap.size + 1 < w5.heap.size := Nat.lt_of_lt_of_le l1 B5.size; (try (have BK5 := (Blk.new _ [.slice none 0 0, .slice none 0 0, .slice none 0 0] 29).below hb5)); try (have BK5 := (Blk.new _ [.slice none 0 0, .slice none 0 0, .slice none 0 0] 29).drew.below hb5))
      | (refine step_app_ints _ rfl (.tmp 20) (.tmp 22) rfl _ u5 Oa Ob rfl (ow5.below (by go_grown)) B0 n b0 HSB.out.l0 rfl (RB.out.1.below' (bstep B5 B5.size (by go_grown))) hlab (by first | exact B5.size | (have := hb5.size; simp at this ⊢; omega) | (have := B5.size; simp; omega)) ?_; intro v6 w6 own6 gr6 at6; obtain ⟨A6, n6, c6, rfl, e6⟩ := own6.formN; obtain rfl : N = n6 := (by rw [← e6]; exact HLN.out.symm); have B6 : Below W1.heap.size W1 w6 := (bstep B5 B5.size (by go_grown)).grown gr6 (by first | exact B5.size | (have := B5.size; simp; omega)) (fun k hk => Nat.le_trans (by first | exact Nat.le_refl _ | (simp; done) | go_size) (World.ownsRow.lt ow5 k hk).1); (try (have BK6 := (Blk.new _ [.slice none 0 0, .slice none 0 0, .slice none 0 0] 29).chg (ChgS.of_grown gr6 (S := fun k => u5.ownBlock = some k) (fun k hk => hk)) (fun hh => by have := World.ownsRow.lt ow5 _ hh; omega))); (try (have BK6 := BK5.chg (ChgS.of_grown gr6 (S := fun k => u5.ownBlock = some k) (fun k hk => hk)) (fun hh => by have := World.ownsRow.lt ow5 _ hh; simp at this; omega))))
      | (go_simp; go_at_call 59; refine (HTR.out _ A6 c6 (own6.reads.below' (by go_grown))).mono ?_; rintro e w7 ⟨u7, S7, rfl, own7, hS7, hb7⟩; have B7 : Below W1.heap.size W1 w7 := bstep (bstep B6 B6.size (by go_grown)) (by first | exact B6.size | (have := B6.size; simp; omega)) hb7; obtain ⟨A4, n4, c4, A5, n5, c5, A6', n6', c6', rfl, q0, q1, q2⟩ := spPres_form (spPres.own_rd own7); obtain ⟨e4, e5, e6'⟩ := trivP_lens q0 q1 q2; rw [HLN.out] at e4 e5 e6'; obtain rfl : N = n4 := e4.symm; obtain rfl : N = n5 := e5.symm; obtain rfl : N = n6' := e6'.symm; have S7B : ∀ k, S7 k → W1.heap.size ≤ k := (fun k hk => Nat.le_trans (by first | exact B6.size | (have := B6.size; simp; omega)) (hS7 k hk)); (try (have S7N := fun k (hk : S7 k) => Nat.ne_of_gt (Nat.lt_of_lt_of_le BK6.lt (hS7 k hk)))); (try (have S7N := fun k (hk : S7 k) => Nat.ne_of_gt (Nat.lt_of_lt_of_le (Blk.new _ [.slice none 0 0, .slice none 0 0, .slice none 0 0] 29).lt (hS7 k hk)))); (try (have BK7 := BK6.below hb7)); (try (have BK7 := (Blk.new _ [.slice none 0 0, .slice none 0 0, .slice none 0 0] 29).below hb7)); try (have BC7 := BK7.c3; have BF7 := BK7.f3)))
    all_goals go_wp2_with (fail)
    all_goals go_meet
    all_goals first
      | (obtain ⟨S0, S1, S2, PB⟩ := PBox.new3 own7 S7B B7.size; exact ⟨_, A4, A5, A6', c4, c5, c6', S0, S1, S2, rfl, Lib.hid PB, B7.alloc B7.size _⟩)
      | (have hb : W1.heap.size ≤ w6.heap.size := B6.size; obtain ⟨S0, S1, S2, PB⟩ := PBox.set3 own7 (fun k hk => ⟨S7B k hk, S7N k hk⟩) BK7 hb; exact ⟨_, A4, A5, A6', c4, c5, c6', S0, S1, S2, rfl, Lib.hid PB, ((B7.setCell (p := ⟨_, 0, none⟩) hb _).setCell (p := ⟨_, 1, none⟩) hb _).setCell (p := ⟨_, 2, none⟩) hb _⟩)
      | (have hb : W1.heap.size ≤ w5.heap.size := B5.size; obtain ⟨S0, S1, S2, PB⟩ := PBox.set3 own7 (fun k hk => ⟨S7B k hk, S7N k hk⟩) BK7 hb; exact ⟨_, A4, A5, A6', c4, c5, c6', S0, S1, S2, rfl, Lib.hid PB, ((B7.setCell (p := ⟨_, 0, none⟩) hb _).setCell (p := ⟨_, 1, none⟩) hb _).setCell (p := ⟨_, 2, none⟩) hb _⟩)
      | (have hb : W1.heap.size ≤ W1.heap.size := Nat.le_refl _; obtain ⟨S0, S1, S2, PB⟩ := PBox.set3 own7 (fun k hk => ⟨S7B k hk, S7N k hk⟩) BK7 hb; exact ⟨_, A4, A5, A6', c4, c5, c6', S0, S1, S2, rfl, Lib.hid PB, ((B7.setCell (p := ⟨_, 0, none⟩) hb _).setCell (p := ⟨_, 1, none⟩) hb _).setCell (p := ⟨_, 2, none⟩) hb _⟩)
  case rest =>
    obtain ⟨b, A4, A5, A6, c4, c5, c6, S0, S1, S2, rfl, PB, bel⟩ := hcut
    have HTW : Hid ((trivP (Oa ++ Ob)).W.length = N) := Lib.hid (by show (List.replicate _ _).length = _; rw [List.length_replicate]; exact HLN.out)
    have HTJ : Hid ((trivP (Oa ++ Ob)).J.length = N ∧ ∀ i, i < N → ((trivP (Oa ++ Ob)).J.getD i []).length = N - 1 - i) := Lib.hid (by
      show (Num.trivJ _ _).length = _ ∧ ∀ i, i < N → ((Num.trivJ _ _).getD i []).length = _
      rw [HLN.out]
      exact ⟨Num.trivJ_len _ _, fun i hi => by rw [Num.trivJ_at _ _ _ hi, Num.trivR_len]⟩)
    generalize (trivP (Oa ++ Ob)).W = TW at *
    generalize (trivP (Oa ++ Ob)).J = TJ at *
    clear l0 x0 x1 x2 l1 y0 y1 y2 HOW HTR
    go_wp2_with (fail)
    go_loopw [8] (fun s8 wr => ∃ (i : Nat) (S1 S2 : Nat → Prop), s8 = .int .i64 i ∧ i ≤ m ∧ Hid (PBox W1.heap.size wr b (Oa ++ Ob) (Num.pW (Num.shA n) 0 Wa TW i) (Num.pJ (Num.shA n) 0 Ja TJ i) (.slice A4 N c4) (.slice A5 N c5) (.slice A6 N c6) S0 S1 S2) ∧ Below W1.heap.size W1 wr) (fun s8 _ => m - (intOf s8).toNat)
    case atStart => exact ⟨0, _, _, rfl, by omega, PB, bel⟩
    case round =>
      clear PB bel
      obtain ⟨i, S1, S2, rfl, hi, PB, bel⟩ := hrel
      have Z := bel.size
      have RX := Lib.hid (show RdI wr A0 Oa ∧ RdW wr A1 Wa ∧ RdX wr A2 Ja from ⟨RA.out.1.below' bel, RA.out.2.1.below' bel, RA.out.2.2.below' bel⟩)
      obtain ⟨la, xa0, xa1, xa2⟩ := (HBA.out.below bel).c3
      obtain ⟨lb, xb0, xb1, xb2⟩ := (HBB.out.below bel).c3
      by_cases hlt : i < m
      · have i0 : (0 : Int) ≤ (i : Int) := by omega
        have i1 : (i : Int) < (m : Int) := by omega
        have hf : i < N := by have := HN.out; omega
        have f0 : (0 : Int) ≤ (i : Int) := by omega
        have f1 : (i : Int) < (N : Int) := by omega
        obtain ⟨gA, oA, BA', cA, rfl, hgA, hcA, hlA, hrA⟩ := RX.out.2.1 i (by rw [HSA.out.l1]; exact hlt)
        rw [HSA.out.lw i hlt] at hcA hlA
        have hlw := HSA.out.lw i hlt
        obtain ⟨gW, cW, ugW, eW, hWB, hWb, hWl, hWc, hWf, hput⟩ := PB.out.rowW (j := i) (by rw [Num.pW_len, HTW.out]; exact hf)
        simp only [Value.slice.injEq] at eW
        obtain ⟨rfl, -, -⟩ := eW
        obtain ⟨bl, z0, z1, z2⟩ := PB.out.box.c3
        have HSH : Hid (Calls Try.prog 81 #[.int .i64 0, .slice BA' m cA, .int .i64 (n : Int)] wr.drew (fun e w' => ∃ u, e = .returned u ∧ OwnI w' wr.drew.heap.size u ((Num.shA n) (Wa.getD i [])) ∧ Below wr.drew.heap.size wr.drew w')) := Lib.hid (by have h := sShift_any 0 n BA' cA (Wa.getD i []) wr.drew hrA (by omega) (by omega) (by omega); rw [hlw] at h; exact h)
        have HST : Hid (Num.pW (Num.shA n) 0 Wa TW (i + 1) = (Num.pW (Num.shA n) 0 Wa TW i).set i ((Num.shA n) (Wa.getD i []))) := Lib.hid (by rw [Num.pW_step, Nat.zero_add])
        have HJS : Hid (Num.pJ (Num.shA n) 0 Ja TJ (i + 1) = Num.jrow (Num.pJ (Num.shA n) 0 Ja TJ i) i (Num.shA n) (Ja.getD i []) (m - 1 - i)) := Lib.hid (by rw [Num.pJ_step, HSA.out.lj i hlt, Nat.zero_add])
        have HJL : Hid (i < (Num.pJ (Num.shA n) 0 Ja TJ i).length ∧ ((Num.pJ (Num.shA n) 0 Ja TJ i).getD i []).length = N - 1 - i) := Lib.hid ⟨by rw [Num.pJ_len, HTJ.out.1]; exact hf, by rw [Num.pJ_atlen _ _ _ _ _ (by rw [HTJ.out.1]; have := HN.out; omega)]; exact HTJ.out.2 _ hf⟩
        generalize Num.pW (Num.shA n) 0 Wa TW i = ws at *
        generalize Num.pJ (Num.shA n) 0 Ja TJ i = js at *
        generalize (Num.shA n) (Wa.getD i []) = nw at *
        clear hlw hrA hlA
        go_wp2_with (fail)
        go_cut [8] from 30 to 40 (fun s8 wx => ∃ S1' : Nat → Prop, s8 = .int .i64 i ∧ Hid (PBox W1.heap.size wx b (Oa ++ Ob) (Num.pW (Num.shA n) 0 Wa TW (i + 1)) (Num.jrow js i (Num.shA n) (Ja.getD i []) 0) (.slice A4 N c4) (.slice (some ⟨gW, 0, none⟩) N c5) (.slice A6 N c6) S0 S1' S2) ∧ Below W1.heap.size W1 wx)
        case first =>
          go_region_law (first
            | (go_simp; go_at_call 81; refine HSH.out.mono ?_; rintro e w5 ⟨u5, rfl, ow5, hb5⟩; obtain ⟨A7, n7, c7, rfl, e7⟩ := ow5.formN; have B5 : Below wr.heap.size wr w5 := (Below.refl _ _).drew.trans hb5; have SM5 : w5.cell? ⟨b, 1, none⟩ = some (.slice (some ⟨gW, 0, none⟩) N c5) := (by rw [B5.cell bl]; exact z1); have SC5 : w5.cell? ⟨gW, i, none⟩ = some ugW := (by rw [B5.cell hWl]; exact hWc); have SF5 : w5.frozen? ⟨gW, i, none⟩ = false := (by rw [B5.frozen hWl]; exact hWf); have t5 : gW < w5.heap.size := Nat.lt_of_lt_of_le hWl B5.size))
          all_goals
            obtain ⟨S1', PB8⟩ := hput w5 (.slice A7 n7 c7) _ _ B5 (spI_of ow5) (fun k hk => (World.ownsRow.lt ow5 k hk).1)
            have L8 := (bstep bel Z B5).setCell (p := ⟨gW, i, none⟩) hWB (.slice A7 n7 c7)
            rw [← HST.out, ← Num.jrow_zero HJL.out.1 (Num.shA n) (Ja.getD i [])] at PB8
            have HPB8 := Lib.hid PB8
            clear PB8
            go_wp2_with (fail)
            go_meet
            exact ⟨S1', rfl, HPB8, L8⟩
        case rest =>
          obtain ⟨S1', rfl, HPB8, L8⟩ := hcut
          clear hput hWc hWf hWl bl z0 z1 z2 PB la xa0 xa1 xa2 lb xb0 xb1 xb2 hcA hgA HSH RX bel Z HST
          obtain ⟨lp, hlp⟩ : ∃ lp, lp = m - 1 - i := ⟨_, rfl⟩
          have hlpN : lp ≤ N - 1 - i := by have := HN.out; omega
          have HLP : Hid ((Ja.getD i []).length = lp ∧ ∀ k, k < lp → ((Ja.getD i []).getD k []).length = m) := Lib.hid ⟨by rw [hlp]; exact HSA.out.lj i hlt, fun k hk => HSA.out.lr i hlt k (by omega)⟩
          rw [← hlp] at HJS
          have hlp6 : lp ≤ 6 := by omega
          clear hlp
          go_wp2_with (fail)
          go_loopw [9] (fun s9 wr => ∃ (j : Nat) (S2 : Nat → Prop), s9 = .int .i64 j ∧ j ≤ lp ∧ Hid (PBox W1.heap.size wr b (Oa ++ Ob) (Num.pW (Num.shA n) 0 Wa TW (i + 1)) (Num.jrow js i (Num.shA n) (Ja.getD i []) j) (.slice A4 N c4) (.slice (some ⟨gW, 0, none⟩) N c5) (.slice A6 N c6) S0 S1' S2) ∧ Below W1.heap.size W1 wr) (fun s9 _ => lp - (intOf s9).toNat)
          case atStart => exact ⟨0, _, rfl, by omega, HPB8, L8⟩
          case round =>
            clear HPB8 L8
            obtain ⟨j, S2, rfl, hj, PB, bel⟩ := hrel
            have Z := bel.size
            obtain ⟨la, xa0, xa1, xa2⟩ := (HBA.out.below bel).c3
            obtain ⟨lb, xb0, xb1, xb2⟩ := (HBB.out.below bel).c3
            obtain ⟨gC, oC, BC, cC, eC, hgC, hcC, hlC, hrC⟩ := (RA.out.2.2.below' bel) i (by rw [HSA.out.l2]; exact hlt)
            rw [HLP.out.1] at hcC
            subst eC
            by_cases hlj : j < lp
            · have j0 : (0 : Int) ≤ (j : Int) := by omega
              have j1 : (j : Int) < (lp : Int) := by omega
              obtain ⟨gD, oD, BD, cD, eD, hgD, hcD, hlD, hrD⟩ := hrC j (by rw [HLP.out.1]; exact hlj)
              have hlr := HLP.out.2 j hlj
              rw [hlr] at hcD
              subst eD
              have hqN : j < ((Num.jrow js i (Num.shA n) (Ja.getD i []) j).getD i []).length := by rw [Num.jrow_at HJL.out.1, Num.pW_len, HJL.out.2]; omega
              obtain ⟨gJ, cJ, g1, c1, ugJ, eJ, hJB, hJb, hJl, hJl1, hJc, hJc1, hJf, hput⟩ := PB.out.rowJ (i := i) (j := j) (by rw [Num.jrow_len]; exact HJL.out.1) hqN
              simp only [Value.slice.injEq] at eJ
              obtain ⟨rfl, -, -⟩ := eJ
              obtain ⟨bl, z0, z1, z2⟩ := PB.out.box.c3
              have HJT : Hid ((Num.jrow js i (Num.shA n) (Ja.getD i []) j).set i (((Num.jrow js i (Num.shA n) (Ja.getD i []) j).getD i []).set j ((Num.shA n) ((Ja.getD i []).getD j []))) = Num.jrow js i (Num.shA n) (Ja.getD i []) (j + 1)) := Lib.hid (Num.jrow_step HJL.out.1 (Num.shA n) (Ja.getD i []) j)
              have HSH : Hid (Calls Try.prog 81 #[.int .i64 0, .slice BD m cD, .int .i64 (n : Int)] wr.drew (fun e w' => ∃ u, e = .returned u ∧ OwnI w' wr.drew.heap.size u ((Num.shA n) ((Ja.getD i []).getD j [])) ∧ Below wr.drew.heap.size wr.drew w')) := Lib.hid (by have h := sShift_any 0 n BD cD ((Ja.getD i []).getD j []) wr.drew hrD (by omega) (by omega) (by omega); rw [hlr] at h; exact h)
              obtain ⟨q, hq⟩ : ∃ q, ((Num.jrow js i (Num.shA n) (Ja.getD i []) j).getD i []).length = q := ⟨_, rfl⟩
              rw [hq] at hJc hqN
              have q1 : (j : Int) < (q : Int) := by omega
              have hwj : IntKind.i64.wrap ((j : Int) + 1) = (j : Int) + 1 := IntWalk.i64_in _ (by omega)
              generalize Num.jrow js i (Num.shA n) (Ja.getD i []) j = jj at *
              generalize (Num.shA n) ((Ja.getD i []).getD j []) = nw2 at *
              clear hlr hrD hlD hq hrC hlC
              go_wp2_with (fail)
              go_region_law (first
                | (go_simp; go_at_call 81; refine HSH.out.mono ?_; rintro e w6 ⟨u6, rfl, ow6, hb6⟩; obtain ⟨A8, n8, c8, rfl, e8⟩ := ow6.formN; have B6 : Below wr.heap.size wr w6 := (Below.refl _ _).drew.trans hb6; have SM6 : w6.cell? ⟨b, 2, none⟩ = some (.slice (some ⟨gJ, 0, none⟩) N c6) := (by rw [B6.cell bl]; exact z2); have SC6 : w6.cell? ⟨gJ, i, none⟩ = some (.slice (some ⟨g1, 0, none⟩) q c1) := (by rw [B6.cell hJl]; exact hJc); have SD6 : w6.cell? ⟨g1, j, none⟩ = some ugJ := (by rw [B6.cell hJl1]; exact hJc1); have SF6 : w6.frozen? ⟨g1, j, none⟩ = false := (by rw [B6.frozen hJl1]; exact hJf); have t6 : g1 < w6.heap.size := Nat.lt_of_lt_of_le hJl1 B6.size))
              all_goals
                obtain ⟨S2', PB9⟩ := hput w6 (.slice A8 n8 c8) _ _ B6 (spI_of ow6) (fun k hk => (World.ownsRow.lt ow6 k hk).1)
                have L9 := (bstep bel Z B6).setCell (p := ⟨g1, j, none⟩) hJB (.slice A8 n8 c8)
                rw [HJT.out] at PB9
                have HPB9 := Lib.hid PB9
                clear PB9
                go_wp2_with (fail)
                exact ⟨⟨j + 1, S2', by go_num, by omega, HPB9, L9⟩, by simp [intOf]; omega⟩
            · have hge : ¬ ((j : Int) < (lp : Int)) := by omega
              obtain rfl : lp = j := by omega
              have PB9 := PB.out
              rw [← HJS.out] at PB9
              have HPB9 := Lib.hid PB9
              clear PB9 PB hrC hlC
              go_wp2_with (fail)
              exact ⟨⟨i + 1, _, _, by go_num, by omega, HPB9, bel⟩, by simp [intOf]; omega⟩
      · have hge : ¬ ((i : Int) < (m : Int)) := by omega
        obtain rfl : m = i := by omega
        have HTW2 : Hid ((Num.pW (Num.shA n) 0 Wa TW m).length = N) := Lib.hid (by rw [Num.pW_len]; exact HTW.out)
        have HTJ2 : Hid ((Num.pJ (Num.shA n) 0 Ja TJ m).length = N ∧ ∀ k, k < N → ((Num.pJ (Num.shA n) 0 Ja TJ m).getD k []).length = N - 1 - k) := Lib.hid ⟨by rw [Num.pJ_len]; exact HTJ.out.1, fun k hk => by rw [Num.pJ_atlen _ _ _ _ _ (by rw [HTJ.out.1]; have := HN.out; omega)]; exact HTJ.out.2 k hk⟩
        have HDP : Hid (Num.dpW m n Wa Wb TW = Num.pW (Num.shB m) m Wb (Num.pW (Num.shA n) 0 Wa TW m) n ∧ Num.dpJ m n Ja Jb TJ = Num.pJ (Num.shB m) m Jb (Num.pJ (Num.shA n) 0 Ja TJ m) n) := Lib.hid ⟨rfl, rfl⟩
        generalize Num.pW (Num.shA n) 0 Wa TW m = TW2 at *
        generalize Num.pJ (Num.shA n) 0 Ja TJ m = TJ2 at *
        clear xa0 xa1 xa2 xb0 xb1 xb2 la lb RX Z
        go_wp2_with (fail)
        go_loopw [10] (fun s10 wr => ∃ (i : Nat) (S1 S2 : Nat → Prop), s10 = .int .i64 i ∧ i ≤ n ∧ Hid (PBox W1.heap.size wr b (Oa ++ Ob) (Num.pW (Num.shB m) m Wb TW2 i) (Num.pJ (Num.shB m) m Jb TJ2 i) (.slice A4 N c4) (.slice A5 N c5) (.slice A6 N c6) S0 S1 S2) ∧ Below W1.heap.size W1 wr) (fun s10 _ => n - (intOf s10).toNat)
        case atStart => exact ⟨0, _, _, rfl, by omega, PB, bel⟩
        case round =>
          clear PB bel
          obtain ⟨i, S1, S2, rfl, hi, PB, bel⟩ := hrel
          have Z := bel.size
          have RX := Lib.hid (show RdI wr B0 Ob ∧ RdW wr B1 Wb ∧ RdX wr B2 Jb from ⟨RB.out.1.below' bel, RB.out.2.1.below' bel, RB.out.2.2.below' bel⟩)
          obtain ⟨la, xa0, xa1, xa2⟩ := (HBA.out.below bel).c3
          obtain ⟨lb, xb0, xb1, xb2⟩ := (HBB.out.below bel).c3
          by_cases hlt : i < n
          · have i0 : (0 : Int) ≤ (i : Int) := by omega
            have i1 : (i : Int) < (n : Int) := by omega
            have hf : (m + i) < N := by have := HN.out; omega
            have wfi : IntKind.i64.wrap ((m : Int) + (i : Int)) = (m : Int) + (i : Int) := IntWalk.i64_in _ (by omega)
            have tfi : ((m : Int) + (i : Int)).toNat = m + i := by omega
            have f0 : (0 : Int) ≤ (m : Int) + (i : Int) := by omega
            have f1 : (m : Int) + (i : Int) < (N : Int) := by omega
            obtain ⟨gA, oA, BA', cA, rfl, hgA, hcA, hlA, hrA⟩ := RX.out.2.1 i (by rw [HSB.out.l1]; exact hlt)
            rw [HSB.out.lw i hlt] at hcA hlA
            have hlw := HSB.out.lw i hlt
            obtain ⟨gW, cW, ugW, eW, hWB, hWb, hWl, hWc, hWf, hput⟩ := PB.out.rowW (j := (m + i)) (by rw [Num.pW_len, HTW2.out]; exact hf)
            simp only [Value.slice.injEq] at eW
            obtain ⟨rfl, -, -⟩ := eW
            obtain ⟨bl, z0, z1, z2⟩ := PB.out.box.c3
            have HSH : Hid (Calls Try.prog 81 #[.int .i64 (m : Int), .slice BA' n cA, .int .i64 0] wr.drew (fun e w' => ∃ u, e = .returned u ∧ OwnI w' wr.drew.heap.size u ((Num.shB m) (Wb.getD i [])) ∧ Below wr.drew.heap.size wr.drew w')) := Lib.hid (by have h := sShift_any m 0 BA' cA (Wb.getD i []) wr.drew hrA (by omega) (by omega) (by omega); rw [hlw, show List.replicate m (0 : Int) ++ (Wb.getD i []) ++ List.replicate 0 0 = Num.shB m (Wb.getD i []) from List.append_nil _] at h; exact h)
            have HST : Hid (Num.pW (Num.shB m) m Wb TW2 (i + 1) = (Num.pW (Num.shB m) m Wb TW2 i).set (m + i) ((Num.shB m) (Wb.getD i []))) := Lib.hid (by rw [Num.pW_step])
            have HJS : Hid (Num.pJ (Num.shB m) m Jb TJ2 (i + 1) = Num.jrow (Num.pJ (Num.shB m) m Jb TJ2 i) (m + i) (Num.shB m) (Jb.getD i []) (n - 1 - i)) := Lib.hid (by rw [Num.pJ_step, HSB.out.lj i hlt])
            have HJL : Hid ((m + i) < (Num.pJ (Num.shB m) m Jb TJ2 i).length ∧ ((Num.pJ (Num.shB m) m Jb TJ2 i).getD (m + i) []).length = N - 1 - (m + i)) := Lib.hid ⟨by rw [Num.pJ_len, HTJ2.out.1]; exact hf, by rw [Num.pJ_atlen _ _ _ _ _ (by rw [HTJ2.out.1]; have := HN.out; omega)]; exact HTJ2.out.2 _ hf⟩
            generalize Num.pW (Num.shB m) m Wb TW2 i = ws at *
            generalize Num.pJ (Num.shB m) m Jb TJ2 i = js at *
            generalize (Num.shB m) (Wb.getD i []) = nw at *
            clear hlw hrA hlA
            go_wp2_with (fail)
            go_cut [10] from 73 to 85 (fun s10 wx => ∃ S1' : Nat → Prop, s10 = .int .i64 i ∧ Hid (PBox W1.heap.size wx b (Oa ++ Ob) (Num.pW (Num.shB m) m Wb TW2 (i + 1)) (Num.jrow js (m + i) (Num.shB m) (Jb.getD i []) 0) (.slice A4 N c4) (.slice (some ⟨gW, 0, none⟩) N c5) (.slice A6 N c6) S0 S1' S2) ∧ Below W1.heap.size W1 wx)
            case first =>
              go_region_law (first
                | (go_simp; go_at_call 81; refine HSH.out.mono ?_; rintro e w5 ⟨u5, rfl, ow5, hb5⟩; obtain ⟨A7, n7, c7, rfl, e7⟩ := ow5.formN; have B5 : Below wr.heap.size wr w5 := (Below.refl _ _).drew.trans hb5; have SM5 : w5.cell? ⟨b, 1, none⟩ = some (.slice (some ⟨gW, 0, none⟩) N c5) := (by rw [B5.cell bl]; exact z1); have SC5 : w5.cell? ⟨gW, (m + i), none⟩ = some ugW := (by rw [B5.cell hWl]; exact hWc); have SF5 : w5.frozen? ⟨gW, (m + i), none⟩ = false := (by rw [B5.frozen hWl]; exact hWf); have t5 : gW < w5.heap.size := Nat.lt_of_lt_of_le hWl B5.size))
              all_goals
                obtain ⟨S1', PB8⟩ := hput w5 (.slice A7 n7 c7) _ _ B5 (spI_of ow5) (fun k hk => (World.ownsRow.lt ow5 k hk).1)
                have L8 := (bstep bel Z B5).setCell (p := ⟨gW, (m + i), none⟩) hWB (.slice A7 n7 c7)
                rw [← HST.out, ← Num.jrow_zero HJL.out.1 (Num.shB m) (Jb.getD i [])] at PB8
                have HPB8 := Lib.hid PB8
                clear PB8
                go_wp2_with (fail)
                go_meet
                exact ⟨S1', rfl, HPB8, L8⟩
            case rest =>
              obtain ⟨S1', rfl, HPB8, L8⟩ := hcut
              clear hput hWc hWf hWl bl z0 z1 z2 PB la xa0 xa1 xa2 lb xb0 xb1 xb2 hcA hgA HSH RX bel Z HST
              obtain ⟨lp, hlp⟩ : ∃ lp, lp = n - 1 - i := ⟨_, rfl⟩
              have hlpN : lp ≤ N - 1 - (m + i) := by have := HN.out; omega
              have HLP : Hid ((Jb.getD i []).length = lp ∧ ∀ k, k < lp → ((Jb.getD i []).getD k []).length = n) := Lib.hid ⟨by rw [hlp]; exact HSB.out.lj i hlt, fun k hk => HSB.out.lr i hlt k (by omega)⟩
              rw [← hlp] at HJS
              have hlp6 : lp ≤ 6 := by omega
              clear hlp
              go_wp2_with (fail)
              go_loopw [11] (fun s11 wr => ∃ (j : Nat) (S2 : Nat → Prop), s11 = .int .i64 j ∧ j ≤ lp ∧ Hid (PBox W1.heap.size wr b (Oa ++ Ob) (Num.pW (Num.shB m) m Wb TW2 (i + 1)) (Num.jrow js (m + i) (Num.shB m) (Jb.getD i []) j) (.slice A4 N c4) (.slice (some ⟨gW, 0, none⟩) N c5) (.slice A6 N c6) S0 S1' S2) ∧ Below W1.heap.size W1 wr) (fun s11 _ => lp - (intOf s11).toNat)
              case atStart => exact ⟨0, _, rfl, by omega, HPB8, L8⟩
              case round =>
                clear HPB8 L8
                obtain ⟨j, S2, rfl, hj, PB, bel⟩ := hrel
                have Z := bel.size
                obtain ⟨la, xa0, xa1, xa2⟩ := (HBA.out.below bel).c3
                obtain ⟨lb, xb0, xb1, xb2⟩ := (HBB.out.below bel).c3
                obtain ⟨gC, oC, BC, cC, eC, hgC, hcC, hlC, hrC⟩ := (RB.out.2.2.below' bel) i (by rw [HSB.out.l2]; exact hlt)
                rw [HLP.out.1] at hcC
                subst eC
                by_cases hlj : j < lp
                · have j0 : (0 : Int) ≤ (j : Int) := by omega
                  have j1 : (j : Int) < (lp : Int) := by omega
                  obtain ⟨gD, oD, BD, cD, eD, hgD, hcD, hlD, hrD⟩ := hrC j (by rw [HLP.out.1]; exact hlj)
                  have hlr := HLP.out.2 j hlj
                  rw [hlr] at hcD
                  subst eD
                  have hqN : j < ((Num.jrow js (m + i) (Num.shB m) (Jb.getD i []) j).getD (m + i) []).length := by rw [Num.jrow_at HJL.out.1, Num.pW_len, HJL.out.2]; omega
                  obtain ⟨gJ, cJ, g1, c1, ugJ, eJ, hJB, hJb, hJl, hJl1, hJc, hJc1, hJf, hput⟩ := PB.out.rowJ (i := (m + i)) (j := j) (by rw [Num.jrow_len]; exact HJL.out.1) hqN
                  simp only [Value.slice.injEq] at eJ
                  obtain ⟨rfl, -, -⟩ := eJ
                  obtain ⟨bl, z0, z1, z2⟩ := PB.out.box.c3
                  have HJT : Hid ((Num.jrow js (m + i) (Num.shB m) (Jb.getD i []) j).set (m + i) (((Num.jrow js (m + i) (Num.shB m) (Jb.getD i []) j).getD (m + i) []).set j ((Num.shB m) ((Jb.getD i []).getD j []))) = Num.jrow js (m + i) (Num.shB m) (Jb.getD i []) (j + 1)) := Lib.hid (Num.jrow_step HJL.out.1 (Num.shB m) (Jb.getD i []) j)
                  have HSH : Hid (Calls Try.prog 81 #[.int .i64 (m : Int), .slice BD n cD, .int .i64 0] wr.drew (fun e w' => ∃ u, e = .returned u ∧ OwnI w' wr.drew.heap.size u ((Num.shB m) ((Jb.getD i []).getD j [])) ∧ Below wr.drew.heap.size wr.drew w')) := Lib.hid (by have h := sShift_any m 0 BD cD ((Jb.getD i []).getD j []) wr.drew hrD (by omega) (by omega) (by omega); rw [hlr, show List.replicate m (0 : Int) ++ ((Jb.getD i []).getD j []) ++ List.replicate 0 0 = Num.shB m ((Jb.getD i []).getD j []) from List.append_nil _] at h; exact h)
                  obtain ⟨q, hq⟩ : ∃ q, ((Num.jrow js (m + i) (Num.shB m) (Jb.getD i []) j).getD (m + i) []).length = q := ⟨_, rfl⟩
                  rw [hq] at hJc hqN
                  have q1 : (j : Int) < (q : Int) := by omega
                  have hwj : IntKind.i64.wrap ((j : Int) + 1) = (j : Int) + 1 := IntWalk.i64_in _ (by omega)
                  generalize Num.jrow js (m + i) (Num.shB m) (Jb.getD i []) j = jj at *
                  generalize (Num.shB m) ((Jb.getD i []).getD j []) = nw2 at *
                  clear hlr hrD hlD hq hrC hlC
                  go_wp2_with (fail)
                  go_region_law (first
                    | (go_simp; go_at_call 81; refine HSH.out.mono ?_; rintro e w6 ⟨u6, rfl, ow6, hb6⟩; obtain ⟨A8, n8, c8, rfl, e8⟩ := ow6.formN; have B6 : Below wr.heap.size wr w6 := (Below.refl _ _).drew.trans hb6; have SM6 : w6.cell? ⟨b, 2, none⟩ = some (.slice (some ⟨gJ, 0, none⟩) N c6) := (by rw [B6.cell bl]; exact z2); have SC6 : w6.cell? ⟨gJ, (m + i), none⟩ = some (.slice (some ⟨g1, 0, none⟩) q c1) := (by rw [B6.cell hJl]; exact hJc); have SD6 : w6.cell? ⟨g1, j, none⟩ = some ugJ := (by rw [B6.cell hJl1]; exact hJc1); have SF6 : w6.frozen? ⟨g1, j, none⟩ = false := (by rw [B6.frozen hJl1]; exact hJf); have t6 : g1 < w6.heap.size := Nat.lt_of_lt_of_le hJl1 B6.size))
                  all_goals
                    obtain ⟨S2', PB9⟩ := hput w6 (.slice A8 n8 c8) _ _ B6 (spI_of ow6) (fun k hk => (World.ownsRow.lt ow6 k hk).1)
                    have L9 := (bstep bel Z B6).setCell (p := ⟨g1, j, none⟩) hJB (.slice A8 n8 c8)
                    rw [HJT.out] at PB9
                    have HPB9 := Lib.hid PB9
                    clear PB9
                    go_wp2_with (fail)
                    exact ⟨⟨j + 1, S2', by go_num, by omega, HPB9, L9⟩, by simp [intOf]; omega⟩
                · have hge : ¬ ((j : Int) < (lp : Int)) := by omega
                  obtain rfl : lp = j := by omega
                  have PB9 := PB.out
                  rw [← HJS.out] at PB9
                  have HPB9 := Lib.hid PB9
                  clear PB9 PB hrC hlC
                  go_wp2_with (fail)
                  exact ⟨⟨i + 1, _, _, by go_num, by omega, HPB9, bel⟩, by simp [intOf]; omega⟩
          · have hge : ¬ ((i : Int) < (n : Int)) := by omega
            obtain rfl : n = i := by omega
            obtain ⟨bl, z0, z1, z2⟩ := PB.out.box.c3
            obtain ⟨br, r0, r1, r2⟩ := (HBR.out.below bel).c3
            obtain ⟨f0, f1, f2⟩ := (HBR.out.below bel).f3
            have hBb := PB.out.hB
            have ne1 : ¬ (w.heap.size + 1 + 1 = b) := by omega
            have ne2 : ¬ (b = w.heap.size + 1 + 1) := by omega
            have HPB := Lib.hid PB.out
            clear PB
            go_wp2_with (fail)
            refine bodyPost_ret (v := .agg #[.slice A4 N c4, .slice A5 N c5, .slice A6 N c6]) (by simp [results, Try.results69, go_sem, br, r0, r1, r2]) rfl ?_
            have ow := HPB.out.own
            have bs := HPB.out.base
            have nb : ¬ ((fun k => S0 k ∨ S1 k ∨ S2 k) (w.heap.size + 1 + 1)) := fun hh => by have := bs _ hh; omega
            have Lw := bstep bW1 bW1.size bel
            refine ⟨_, _, rfl, ?_, fun k hk => by have := bs k hk; omega, ?_⟩
            · rw [HDP.out.1, HDP.out.2]
              exact spPres.own_set (spPres.own_set (spPres.own_set ow (p := ⟨w.heap.size + 1 + 1, 0, none⟩) nb _) (p := ⟨w.heap.size + 1 + 1, 1, none⟩) nb _) (p := ⟨w.heap.size + 1 + 1, 2, none⟩) nb _
            · exact ((Lw.setCell (p := ⟨w.heap.size + 1 + 1, 0, none⟩) (by simp; omega) _).setCell (p := ⟨w.heap.size + 1 + 1, 1, none⟩) (by simp; omega) _).setCell (p := ⟨w.heap.size + 1 + 1, 2, none⟩) (by simp; omega) _
end Go.Proofs.Ytncpngmplddbkaa
