/- Presentations: normal words of both sides, NormalWord. -/
import Derived.Test.YteappjgdcbploaaL11H
namespace Go.Proofs.Yteappjgdcbploaa
open Go.RowKit
set_option linter.unusedVariables false
set_option linter.unusedSimpArgs false

set_option maxRecDepth 100000 in
set_option maxHeartbeats 1000000 in
theorem genLetter_any (i : Nat) (w : World) (h : i ≤ 1000) : Calls Try.prog 147 #[.int .i64 (i : Int)] w fun e w' => e = .returned (.int .i64 ((i : Int) + 1)) ∧ w = w' := by
  have h1 : IntKind.i64.wrap (i : Int) = (i : Int) := IntWalk.i64_in _ (by omega)
  have h2 : IntKind.i64.wrap ((i : Int) + 1) = (i : Int) + 1 := IntWalk.i64_in _ (by omega)
  go_enter Try.func147, Try.ntmps147
  go_wp2_with (fail)
  go_ret
  exact ⟨rfl, rfl⟩
set_option maxRecDepth 100000 in
set_option maxHeartbeats 2000000 in
theorem iWord_any (A : Option Addr) (c : Nat) (v : List Int) (w : World) (h : RdI w A v) (hl : v.length ≤ 64) (hb : ∀ j, j < v.length → 0 ≤ v.getD j 0 ∧ v.getD j 0 ≤ 64) :
    Calls Try.prog 149 #[.slice A v.length c] w fun e w' => ∃ u, e = .returned u ∧ OwnI w' w.heap.size u (Num.wrd v) ∧ Below w.heap.size w w' := by
  have HLN := Lib.hid (Num.wrdTo_len v hb)
  have HB := Lib.hid hb
  clear hb
  go_enter Try.func149, Try.ntmps149
  go_wp2_with (fail)
  go_loopw [3, 8] (fun s3 s8 wr => ∃ i : Nat, i ≤ v.length ∧ s8 = .int .i64 i ∧ Hid (OwnI wr w.heap.size s3 (Num.wrdTo v i)) ∧ Below w.heap.size w wr) (fun _ s8 _ => v.length - (intOf s8).toNat)
  case atStart => exact ⟨0, by omega, rfl, Lib.hid (World.ownsRow_nil _ _ _ _), Below.refl _ _⟩
  case round =>
    obtain ⟨i, hi, rfl, own, bel⟩ := hrel
    have Z := bel.size
    by_cases hlt : i < v.length
    · obtain ⟨g, o, rfl, hg, hc⟩ := (h.below' bel) i hlt
      have i0 : (0 : Int) ≤ (i : Int) := by omega
      have i1 : (i : Int) < (v.length : Int) := by omega
      obtain ⟨b1, b2⟩ := HB.out i hlt
      have hln := HLN.out i hi
      have HST : Hid (Num.wrdTo v (i + 1) = Num.wrdTo v i ++ List.replicate (v.getD i 0).toNat ((i : Int) + 1)) := Lib.hid rfl
      generalize v.getD i 0 = x at *
      obtain ⟨m, rfl⟩ := Int.eq_ofNat_of_zero_le b1
      simp only [Int.toNat_natCast] at HST
      generalize Num.wrdTo v i = out at *
      have HG := Lib.hid (genLetter_any i wr (by omega))
      have BW : Below wr.heap.size wr (wr.alloc (.cells #[.int .i64 ((i : Int) + 1)] 2)) := by go_grown
      have HRP := Lib.hid (repeatI_any wr.heap.size m ((i : Int) + 1) (wr.alloc (.cells #[.int .i64 ((i : Int) + 1)] 2)) (by omega) ((Blk.new wr [.int .i64 ((i : Int) + 1)] 2).cell 0 (by simp)))
      have hw1 : IntKind.i64.wrap (m : Int) = (m : Int) := IntWalk.i64_in _ (by omega)
      go_wp2_with (fail)
      refine HG.out.mono ?_; rintro e w' ⟨rfl, rfl⟩
      go_wp2_with (fail)
      refine HRP.out.mono ?_; rintro e w5 ⟨AR, cR, rfl, hR, -, hb5⟩
      have B5 := bstep BW BW.size hb5
      have own5 := own.out.below B5
      have L5 := bstep bel Z B5
      have HBl := Lib.hid own.out.base_le
      clear HG HRP BW hb5 own
      go_wp2_with (first | (at_builtin; refine wpList_app_ints _ rfl _ _ rfl w.heap.size _ out (List.replicate m ((i : Int) + 1)) rfl own5 AR m cR (by simp) rfl hR (by rw [List.length_replicate]; omega) L5.size ?_; intro v6 w6 own6 gr6 at6))
      have O6 : Hid (OwnI w6 w.heap.size v6 (Num.wrdTo v (i + 1))) := Lib.hid (by rw [HST.out]; exact own6)
      have L6 := L5.grown gr6 L5.size HBl.out
      go_wp2_with (fail)
      exact ⟨⟨i + 1, by omega, by go_num, O6, L6⟩, by simp [intOf]; omega⟩
    · have hge : ¬ ((i : Int) < (v.length : Int)) := by omega
      obtain rfl : i = v.length := by omega
      go_wp2_with (fail)
      go_ret
      exact ⟨_, rfl, own.out, bel⟩
set_option maxRecDepth 100000 in
set_option maxHeartbeats 2000000 in
theorem sWord7_any (A : Option Addr) (c : Nat) (v : List Int) (w : World) (h : RdI w A v) (hl : v.length ≤ 64) (hb : ∀ j, j < v.length → 0 ≤ v.getD j 0 ∧ v.getD j 0 ≤ 64) :
    Calls Try.prog 152 #[.slice A v.length c] w fun e w' => ∃ u, e = .returned u ∧ OwnI w' w.heap.size u (Num.wrd v) ∧ Below w.heap.size w w' := by
  obtain ⟨iT, hi, hz0, hz1, hz2⟩ := info_parts infoI
  have HLN := Lib.hid (Num.wrdTo_len v hb)
  have HB := Lib.hid hb
  clear hb
  go_enter Try.func152, Try.ntmps152
  go_wp2_with (fail)
  go_loopw [3, 4] (fun s3 s4 wr => ∃ i : Nat, i ≤ v.length ∧ s4 = .int .i64 i ∧ Hid (OwnI wr w.heap.size s3 (Num.wrdTo v i)) ∧ Below w.heap.size w wr) (fun _ s4 _ => v.length - (intOf s4).toNat)
  case atStart => exact ⟨0, by omega, rfl, Lib.hid (World.ownsRow_lit w #[] 0 (Nat.le_refl _) (by unfold maxLen; omega) rfl), by go_grown⟩
  case round =>
    obtain ⟨i, hi', rfl, own, bel⟩ := hrel
    by_cases hlt : i < v.length
    · have i0 : (0 : Int) ≤ (i : Int) := by omega
      have i1 : (i : Int) < (v.length : Int) := by omega
      obtain ⟨b1, b2⟩ := HB.out i hlt
      have hln := HLN.out i hi'
      have HRD := Lib.hid (fun W (hW : Below w.heap.size w W) => (h.below' hW) i hlt)
      have HST : Hid (Num.wrdTo v (i + 1) = Num.wrdTo v i ++ List.replicate (v.getD i 0).toNat ((i : Int) + 1)) := Lib.hid rfl
      have hw2 : IntKind.i64.wrap ((i : Int) + 1) = (i : Int) + 1 := IntWalk.i64_in _ (by omega)
      generalize v.getD i 0 = x at *
      obtain ⟨m, rfl⟩ := Int.eq_ofNat_of_zero_le b1
      simp only [Int.toNat_natCast] at HST
      generalize Num.wrdTo v i = out at *
      have O0 : Hid (OwnI wr w.heap.size u3 (out ++ List.replicate 0 ((i : Int) + 1))) := Lib.hid (by simpa using own.out)
      clear own
      go_wp2_with (fail)
      have bel0 := bel
      clear bel
      go_loopw [3, 5] (fun s3 s5 wr => ∃ k : Nat, k ≤ m ∧ s5 = .int .i64 k ∧ Hid (OwnI wr w.heap.size s3 (out ++ List.replicate k ((i : Int) + 1))) ∧ Below w.heap.size w wr) (fun _ s5 _ => m - (intOf s5).toNat)
      case atStart => exact ⟨0, by omega, rfl, O0, bel0⟩
      case round =>
        obtain ⟨k, hk, rfl, own, bel⟩ := hrel
        clear O0 bel0
        have Z := bel.size
        obtain ⟨g, o, rfl, hg, hc⟩ := HRD.out wr bel
        by_cases hlk : k < m
        · have k0 : (k : Int) < (m : Int) := by omega
          have ow := own.out
          have hol : (out ++ List.replicate k ((i : Int) + 1)).length ≤ 64 * i + k := by rw [List.length_append, List.length_replicate]; omega
          have HSK : Hid (out ++ List.replicate (k + 1) ((i : Int) + 1) = out ++ List.replicate k ((i : Int) + 1) ++ [(i : Int) + 1]) := Lib.hid (by rw [List.replicate_succ', List.append_assoc])
          clear own
          generalize out ++ List.replicate k ((i : Int) + 1) = os at *
          go_wp2_with (first | (at_builtin; refine wpList_append_own_at _ rfl (.tmp 21) (.tmp 24) 22 rfl w.heap.size 2 iT (.int .i64 0) 1 8 Try.underlying22 hi hz0 hz1 hz2 rfl (by decide) _ _ _ rfl (ow.alloc _) ⟨_, 0, none⟩ 1 1 [.int .i64 ((i : Int) + 1)] rfl rfl (cell_one_new _ _ _) (by simp [Value.oneCell']) (by unfold maxLen; omega) (by omega) (by go_size) ?_; intro v1 w1 hown1 hgrow1 _ hat1))
          obtain ⟨p1, p2⟩ := push_post ow bel hown1 hgrow1
          have P1 : Hid (OwnI w1 w.heap.size v1 (out ++ List.replicate (k + 1) ((i : Int) + 1))) := Lib.hid (by rw [HSK.out]; exact p1)
          go_wp2_with (fail)
          exact ⟨⟨k + 1, by omega, by go_num, P1, p2⟩, by simp [intOf]; omega⟩
        · have hge : ¬ ((k : Int) < (m : Int)) := by omega
          obtain rfl : k = m := by omega
          have O1 : Hid (OwnI wr w.heap.size u3 (Num.wrdTo v (i + 1))) := Lib.hid (by rw [HST.out]; exact own.out)
          go_wp2_with (fail)
          exact ⟨⟨i + 1, by omega, by go_num, O1, bel⟩, by simp [intOf]; omega⟩
    · have hge : ¬ ((i : Int) < (v.length : Int)) := by omega
      obtain rfl : i = v.length := by omega
      go_wp2_with (fail)
      go_ret
      exact ⟨_, rfl, own.out, bel⟩
theorem Num.wrd_len {v : List Int} (hb : ∀ j, j < v.length → 0 ≤ v.getD j 0 ∧ v.getD j 0 ≤ 64) : (Num.wrd v).length ≤ 64 * v.length := Num.wrdTo_len v hb _ (Nat.le_refl _)
end Go.Proofs.Yteappjgdcbploaa
