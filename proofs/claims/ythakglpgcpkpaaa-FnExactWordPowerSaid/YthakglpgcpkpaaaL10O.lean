/- Words: WordPower. -/
import Derived.Test.YthakglpgcpkpaaaL10N
namespace Go.Proofs.Ythakglpgcpkpaaa
open Go.RowKit
set_option linter.unusedVariables false
set_option linter.unusedSimpArgs false

theorem pow_out {k : Int} {x : List Int} {e : Int} (hz : Num.codeW k [x] = 0) (he : ¬ inE e) : rWordPower k x e = [] ∧ cWordPower k x e = 2 := by
  unfold rWordPower cWordPower
  rw [if_pos hz, if_pos hz, if_neg he, if_neg he]
  exact ⟨rfl, rfl⟩
theorem pow_in {k : Int} {x : List Int} {e : Int} (hz : Num.codeW k [x] = 0) (he : inE e) : rWordPower k x e = Num.limR (Num.powL (baseW x e) e.natAbs) ∧ cWordPower k x e = Num.limC (Num.powL (baseW x e) e.natAbs) := by
  unfold rWordPower cWordPower
  rw [if_pos hz, if_pos hz, if_pos he, if_pos he]
  exact ⟨rfl, rfl⟩
theorem pow_bad {k : Int} {x : List Int} {e : Int} (hz : ¬ Num.codeW k [x] = 0) : rWordPower k x e = [] ∧ cWordPower k x e = Num.codeW k [x] := by
  unfold rWordPower cWordPower
  rw [if_neg hz, if_neg hz]
  exact ⟨rfl, rfl⟩
/-- The limited product of a repeated word, from the literal on. -/
theorem power_tail (A : Option Addr) (c m : Nat) (x : List Int) (w w0 : World) (h : RdI w A x) (hl : x.length ≤ 64) (hs : Num.SmallW x) (hm : m ≤ 64) (hb0 : Below w0.heap.size w0 w) :
    Calls Try.prog 66 #[.slice (some ⟨w.heap.size, 0, none⟩) 1 1, .int .i64 (m : Int)] (w.alloc (.cells #[.slice A x.length c] 24)) fun e w' => ∃ V d, e = .returned (.slice V m d) ∧
      Calls Try.prog 52 #[.slice V m d] w' (LimC (Num.powL x m) w0) := by
  have b1 : Below w.heap.size w (w.alloc (.cells #[.slice A x.length c] 24)) := by go_grown
  have bw : Below w0.heap.size w0 (w.alloc (.cells #[.slice A x.length c] 24)) := bstep hb0 hb0.size b1
  refine (repeat_any w.heap.size m c A x _ hm ((Blk.new w [.slice A x.length c] 24).cell 0 (by simp)) (h.below' b1) (by unfold maxLen; omega)).mono ?_
  rintro e w' ⟨V, d, rfl, hr, bel⟩
  have bw' : Below w0.heap.size w0 w' := bstep bw bw.size bel
  refine ⟨V, d, rfl, (limited_any V m d (List.replicate m x) w' hr (by simp) (by simp; omega) (all_of (P := fun f => f.length ≤ 64) (fun f hf => by rw [List.eq_of_mem_replicate hf]; exact hl)) (all_of (P := Num.SmallW) (fun f hf => by rw [List.eq_of_mem_replicate hf]; exact hs))).mono ?_⟩
  intro e w2 hh
  exact LimC.up hh bw'
set_option maxRecDepth 100000 in
set_option maxHeartbeats 2000000 in
theorem iWordPower_any (k E : Int) (v : Value) (x : List Int) (w : World) (h : spI.rd w v x) : Calls Try.prog 35 #[.int .i64 k, v, .int .i64 E] w (MadeC spI (rWordPower k x E) (cWordPower k x E) w) := by
  obtain ⟨A, c, rfl, hm, hA⟩ := h
  have b0 : Below w.heap.size w (w.alloc (.cells #[.slice A x.length c] 24)) := by go_grown
  have HC := Lib.hid (codes_one k A c x w hA hm)
  by_cases hz : Num.codeW k [x] = 0
  · obtain ⟨hl, hs⟩ := word_bd hz
    by_cases he : inE E
    · have HR := Lib.hid (pow_in hz he)
      have hrl := Num.limR_len (Num.powL (baseW x E) E.natAbs)
      obtain ⟨e1, e2⟩ := he
      have t1 : ¬ E < -64 := by omega
      have t2 : ¬ 64 < E := by omega
      have t3 : decide (64 < E) = false := decide_eq_false t2
      rw [hz] at HC
      by_cases hn : E < 0
      · obtain ⟨m, hm2⟩ : ∃ m : Nat, E = -(m : Int) := ⟨E.natAbs, by omega⟩
        subst hm2
        have hm64 : m ≤ 64 := by omega
        have hb : baseW x (-(m : Int)) = Num.invW x := if_pos hn
        rw [hb, show (-(m : Int)).natAbs = m by omega] at HR hrl
        have HI := Lib.hid (inverseWord_any A x.length c x _ (hA.below' b0) rfl (by omega) hs)
        have w1 : IntKind.i64.wrap (-(-(m : Int))) = (m : Int) := by rw [show -(-(m : Int)) = (m : Int) by omega]; exact IntWalk.i64_in _ (by omega)
        have w2 : IntKind.i64.wrap (m : Int) = (m : Int) := IntWalk.i64_in _ (by omega)
        clear hz hA e1 e2 hb hm
        go_enter Try.func35, Try.ntmps35
        go_wp2_with (fail)
        refine HC.out.mono ?_; rintro e w' ⟨rfl, rfl⟩
        go_wp2_with (fail)
        refine HI.out.mono ?_; rintro e w3 ⟨u, rfl, own, bel⟩
        have bw : Below w.heap.size w w3 := bstep b0 b0.size bel
        obtain ⟨U, cU, rfl⟩ := own.form
        have HP := Lib.hid (power_tail U cU m (Num.invW x) w3 w own.reads (by rw [Num.invW_len]; exact hl) hs.inv hm64 bw)
        clear HI HC
        go_wp2_with (fail)
        refine HP.out.mono ?_; rintro e w4 ⟨V, d, rfl, hcl⟩
        have HCL := Lib.hid hcl
        clear hcl
        go_wp2_with (fail)
        refine HCL.out.mono ?_; rintro e w5 ⟨r, rfl, ownr, belr⟩
        go_wp2_with (fail)
        go_ret2
        rw [HR.out.1, HR.out.2]
        exact MadeC.list ownr (by omega) belr
      · obtain ⟨m, hm2⟩ : ∃ m : Nat, E = (m : Int) := ⟨E.natAbs, by omega⟩
        subst hm2
        have hm64 : m ≤ 64 := by omega
        have hb : baseW x (m : Int) = x := if_neg hn
        rw [hb, show (m : Int).natAbs = m by omega] at HR hrl
        have hp := power_tail A c m x _ w (hA.below' b0) hl hs hm64 b0
        simp only [World.size_alloc] at hp
        have HP := Lib.hid hp
        have w2 : IntKind.i64.wrap (m : Int) = (m : Int) := IntWalk.i64_in _ (by omega)
        clear hz hA e1 e2 hb hp hm
        go_enter Try.func35, Try.ntmps35
        go_wp2_with (fail)
        refine HC.out.mono ?_; rintro e w' ⟨rfl, rfl⟩
        go_wp2_with (fail)
        refine HP.out.mono ?_; rintro e w4 ⟨V, d, rfl, hcl⟩
        have HCL := Lib.hid hcl
        clear hcl
        go_wp2_with (fail)
        refine HCL.out.mono ?_; rintro e w5 ⟨r, rfl, ownr, belr⟩
        go_wp2_with (fail)
        go_ret2
        rw [HR.out.1, HR.out.2]
        exact MadeC.list ownr (by omega) belr
    · have HR := Lib.hid (pow_out hz he)
      rw [hz] at HC
      have ho : E < -64 ∨ 64 < E := by unfold inE at he; omega
      clear hz hA he hm
      rcases ho with t1 | t1
      · go_enter Try.func35, Try.ntmps35
        go_wp2_with (fail)
        refine HC.out.mono ?_; rintro e w' ⟨rfl, rfl⟩
        go_wp2_with (fail)
        go_ret2
        rw [HR.out.1, HR.out.2]
        exact MadeC.nilW b0
      · have t2 : ¬ E < -64 := by omega
        have t3 : decide (64 < E) = true := decide_eq_true t1
        go_enter Try.func35, Try.ntmps35
        go_wp2_with (fail)
        refine HC.out.mono ?_; rintro e w' ⟨rfl, rfl⟩
        go_wp2_with (fail)
        go_ret2
        rw [HR.out.1, HR.out.2]
        exact MadeC.nilW b0
  · have HR := Lib.hid (pow_bad (e := E) hz)
    have T1 : (Num.codeW k [x] != 0) = true := by simpa using hz
    clear hz hA hm
    generalize Num.codeW k [x] = cd at *
    go_enter Try.func35, Try.ntmps35
    go_wp2_with (fail)
    refine HC.out.mono ?_; rintro e w' ⟨rfl, rfl⟩
    go_wp2_with (fail)
    go_ret2
    rw [HR.out.1, HR.out.2]
    exact MadeC.nilW b0
end Go.Proofs.Ythakglpgcpkpaaa
