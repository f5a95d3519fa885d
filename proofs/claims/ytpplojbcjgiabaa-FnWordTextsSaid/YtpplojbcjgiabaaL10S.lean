/- Words: a strings.Builder of the call's own; WordText of the program. -/
import Derived.Test.YtpplojbcjgiabaaL10D
import Derived.Test.YtpplojbcjgiabaaL10F
import Derived.Test.YtpplojbcjgiabaaL10Q
import Derived.Shelf.Strings.BuilderK
import Derived.BigRegion
import Derived.RegionTactic
namespace Go.Proofs.Ytpplojbcjgiabaa
open Go.RowKit
set_option linter.unusedVariables false
set_option linter.unusedSimpArgs false

theorem infoBld : (Try.prog.info? 63).map (·.size) = some 2 := by kernel_rfl
theorem infoB : (Try.prog.info? 5).map (fun i => (i.zero, i.size, i.bytes)) = some (some (.int .u8 0), 1, 1) := by kernel_rfl
set_option maxHeartbeats 1000000 in
set_option maxRecDepth 100000 in
theorem copyCheck_used (b : Nat) (w : World) (h0 : w.cell? ⟨b, 0, none⟩ = some (.pointer (some ⟨b, 0, none⟩))) :
    Calls Try.prog 62 #[.pointer (some ⟨b, 0, none⟩)] w fun e w' => e = .returned (.tuple #[]) ∧ w' = w := by
  obtain ⟨j, hj, _⟩ := Option.map_eq_some_iff.1 infoBld
  go_enter Try.func62, Try.ntmps62
  go_wp2
  rw [Lib.run_neq_ptr_same w _ Try.underlying61 hj]
  go_wp2
  go_end0
  exact ⟨rfl, rfl⟩
set_option maxHeartbeats 1000000 in
set_option maxRecDepth 100000 in
theorem copyCheck_fresh (b : Nat) (w : World) (h0 : w.cell? ⟨b, 0, none⟩ = some (.pointer none)) (hsh : w.shape? b = some (63, 2)) (hfz : w.frozen? ⟨b, 0, none⟩ = false) :
    Calls Try.prog 62 #[.pointer (some ⟨b, 0, none⟩)] w fun e w' => e = .returned (.tuple #[]) ∧ w' = w.setCell ⟨b, 0, none⟩ (.pointer (some ⟨b, 0, none⟩)) := by
  obtain ⟨j, hj, hjs⟩ := Option.map_eq_some_iff.1 infoBld
  go_enter Try.func62, Try.ntmps62
  go_wp2
  rw [Lib.run_to_unsafe w ⟨b, 0, none⟩ Try.underlying61 Try.underlying105 hj (by rw [hjs]; decide) hsh (Nat.zero_lt_succ 1)]
  simp only [Result.andThen]
  rw [Oper.upon_value]
  go_wp2
  rw [run_callFunc_extern Try.func73 (by kernel_rfl) (by kernel_rfl) (by kernel_rfl) (e := Extern.AbiNoEscape.same) (by kernel_rfl)]
  rw [Lib.run_noEscape]
  simp only [Result.andThen]
  rw [Oper.upon_value]
  go_wp2
  rw [Lib.run_from_unsafe w ⟨b, 0, none⟩ Try.underlying105 Try.underlying61 hj hsh (by kernel_rfl)]
  simp only [Result.andThen]
  rw [Oper.upon_value]
  go_wp2
  go_end0
  exact ⟨rfl, rfl⟩
/-- A builder in a block of the call's own: the bytes that it holds. -/
def Bld (H : Nat) (w : World) (b : Nat) (l : List UInt8) : Prop :=
  H ≤ b ∧ ∃ p v, (p = .pointer none ∨ p = .pointer (some ⟨b, 0, none⟩)) ∧ w.heap[b]? = some (.cells #[p, v] 63 (0, 0)) ∧ w.ownsRow H 5 1 v l.length (Lib.byteCells l) ∧ v.ownBlock ≠ some b
theorem row_ne {w : World} {H b n : Nat} {v p u : Value} {xs : List Value} (h : w.ownsRow H 5 1 v n xs) (hb : w.heap[b]? = some (.cells #[p, u] 63 (0, 0))) : v.ownBlock ≠ some b := fun e => by
  rcases h.2 with ⟨h0, _⟩ | ⟨g, cap, cur, hv, hg1, hg, _⟩
  · rw [h0] at e; cases e
  · rw [hv] at e
    simp only [Value.ownBlock, Option.some.injEq] at e
    subst e
    rw [hg] at hb
    simp at hb
/-- What stands behind the check: the builder has been used. -/
theorem copyCheck_any (H b : Nat) (l : List UInt8) (w : World) (h : Bld H w b l) :
    Calls Try.prog 62 #[.pointer (some ⟨b, 0, none⟩)] w fun e w' => e = .returned (.tuple #[]) ∧ Below H w w' ∧ ∃ v, w'.heap[b]? = some (.cells #[.pointer (some ⟨b, 0, none⟩), v] 63 (0, 0)) ∧ w'.ownsRow H 5 1 v l.length (Lib.byteCells l) := by
  obtain ⟨hH, p, v, hp, hbk, hown, hne⟩ := h
  have hlt := (Array.getElem?_eq_some_iff.1 hbk).1
  rcases hp with rfl | rfl
  · refine (copyCheck_fresh b w (by simp [World.cell?, hbk]) (by simp [World.shape?, hbk]) (by simp [World.frozen?, hbk])).mono ?_
    rintro e w' ⟨rfl, rfl⟩
    refine ⟨rfl, (Below.refl _ _).setCell (p := ⟨b, 0, none⟩) hH _, v, ?_, ?_⟩
    · have := (show Blk w b [.pointer none, v] 63 from hbk).set 0 (.pointer (some ⟨b, 0, none⟩))
      exact this
    · exact ownsRow_keep hown fun k e => Below.heap_setCell _ _ _ _ (fun e2 => hne (by rw [e, e2]))
  · refine (copyCheck_used b w (by simp [World.cell?, hbk])).mono ?_
    rintro e w' ⟨rfl, rfl⟩
    exact ⟨rfl, Below.refl _ _, v, hbk, hown⟩
set_option maxHeartbeats 1000000 in
theorem appendRune_any (H : Nat) (v : Value) (n : Nat) (xs : List Value) (r : Int) (w : World) (hr0 : 0 ≤ r) (hr1 : r ≤ 127) (hown : w.ownsRow H 5 1 v n xs) (hn : n ≤ 1000000) (hH : H ≤ w.heap.size) :
    Calls Try.prog 63 #[v, .int .i32 r] w fun e w' => ∃ v', e = .returned v' ∧ w'.ownsRow H 5 1 v' (n + 1) (xs ++ [.int .u8 r]) ∧ (∃ o, (w.alloc o).grownBy w' v.ownBlock) := by
  obtain ⟨iT, hi, hz0, hz1, hz2⟩ := info_parts infoB
  have w1 : IntKind.u32.wrap r = r := IntWalk.u32_in _ (by omega)
  have w2 : IntKind.u8.wrap r = r := IntWalk.u8_in _ (by omega)
  obtain ⟨A, c, rfl, -⟩ := ownsRow_cap hown
  go_enter Try.func63, Try.ntmps63
  go_wp2_with (at_builtin; refine wpList_append_own_at _ rfl (.tmp 8) (.tmp 11) 22 rfl H 5 iT (.int .u8 0) 1 1 Try.underlying22 hi hz0 hz1 hz2 rfl (by decide) _ _ _ rfl (hown.alloc _) ⟨_, 0, none⟩ 1 1 [.int .u8 r] rfl rfl (cell_one_new _ _ _) (by simp [Value.oneCell']) (by unfold maxLen; omega) (by omega) (by simp only [World.size_alloc]; omega) ?_; intro v1 w1 hown1 hgrow1 _ hat1)
  go_ret
  exact ⟨_, rfl, hown1, _, hgrow1⟩
set_option maxHeartbeats 1000000 in
set_option maxRecDepth 100000 in
theorem writeRune_any (H b : Nat) (l : List UInt8) (u : UInt8) (w : World) (h : Bld H w b l) (hu : u.toNat ≤ 127) (hl : l.length ≤ 1000) (hH : H ≤ w.heap.size) :
    Calls Try.prog 37 #[.pointer (some ⟨b, 0, none⟩), .int .i32 (u.toNat : Int)] w fun e w' => (∃ k, e = .returned (.tuple #[.int .i64 k, .nilIface])) ∧ Bld H w' b (l ++ [u]) ∧ Below H w w' := by
  have hHb := h.1
  have HC := Lib.hid (copyCheck_any H b l w h)
  clear h
  go_enter Try.func37, Try.ntmps37
  go_wp2_with (fail)
  refine HC.out.mono ?_
  rintro e w1 ⟨rfl, bel1, v, hbk, hown⟩
  have hne := row_ne hown hbk
  obtain ⟨A, c, rfl, -⟩ := ownsRow_cap hown
  have c0 : w1.cell? ⟨b, 0, none⟩ = some (.pointer (some ⟨b, 0, none⟩)) := by simp [World.cell?, hbk]
  have c1 : w1.cell? ⟨b, 1, none⟩ = some (.slice A l.length c) := by simp [World.cell?, hbk]
  have hH1 : H ≤ w1.heap.size := by have := bel1.size; omega
  have hlt := (Array.getElem?_eq_some_iff.1 hbk).1
  have HA := Lib.hid (appendRune_any H _ l.length (Lib.byteCells l) (u.toNat : Int) w1 (by omega) (by omega) hown (by omega) hH1)
  have HO := Lib.hid hown
  clear HC hown
  go_wp2_with (fail)
  refine HA.out.mono ?_
  rintro e w2 ⟨v', rfl, hown', o, hgrow⟩
  have hb2 : w2.heap[b]? = some (.cells #[.pointer (some ⟨b, 0, none⟩), .slice A l.length c] 63 (0, 0)) := by
    rw [hgrow.block b (by simp; omega) (fun e => hne e.symm)]
    exact (((Below.refl w1.heap.size w1).alloc (Nat.le_refl _) o).block b hlt).trans hbk
  have hne2 := row_ne hown' hb2
  have d0 : w2.cell? ⟨b, 0, none⟩ = some (.pointer (some ⟨b, 0, none⟩)) := by simp [World.cell?, hb2]
  have d1 : w2.cell? ⟨b, 1, none⟩ = some (.slice A l.length c) := by simp [World.cell?, hb2]
  have f1 : w2.frozen? ⟨b, 1, none⟩ = false := by simp [World.frozen?, hb2]
  obtain ⟨A', c', rfl, -⟩ := ownsRow_cap hown'
  have bel2 : Below H w w2 := (bel1.alloc hH1 o).grown hgrow (by simp; omega) (fun k hk => (World.ownsRow.lt HO.out k hk).1)
  have HB3 : Hid (Bld H (w2.setCell ⟨b, 1, none⟩ (.slice A' (l.length + 1) c')) b (l ++ [u])) := Lib.hid ⟨hHb, .pointer (some ⟨b, 0, none⟩), .slice A' (l.length + 1) c', .inr rfl, (show Blk w2 b [.pointer (some ⟨b, 0, none⟩), .slice A l.length c] 63 from hb2).set 1 _, by
      have := ownsRow_keep hown' (w' := w2.setCell ⟨b, 1, none⟩ (.slice A' (l.length + 1) c')) fun k e => Below.heap_setCell _ _ _ _ (fun e2 => hne2 (by rw [e, e2]))
      simpa [Lib.byteCells] using this, hne2⟩
  have bel3 : Below H w (w2.setCell ⟨b, 1, none⟩ (.slice A' (l.length + 1) c')) := bel2.setCell (p := ⟨b, 1, none⟩) hHb _
  clear HA HO hown'
  go_wp2_with (fail)
  go_ret2
  exact ⟨⟨_, rfl⟩, HB3.out, bel3⟩
set_option maxHeartbeats 1000000 in
set_option maxRecDepth 100000 in
theorem string_any (H b : Nat) (l : List UInt8) (w : World) (h : Bld H w b l) (h0 : l ≠ []) (hl : l.length ≤ 1000000) :
    Calls Try.prog 39 #[.pointer (some ⟨b, 0, none⟩)] w fun e w' => e = .returned (.string ⟨l.toArray⟩) ∧ Below H w w' := by
  obtain ⟨hH, p, v, hp, hbk, hown, hne⟩ := h
  have hl0 : l.length ≠ 0 := by simpa using h0
  obtain ⟨g, cap, cur, rfl, hbg, hg, hnc, hcm, hcs, htake⟩ : ∃ g cap cur, v = .slice (some ⟨g, 0, none⟩) l.length cap ∧ H ≤ g ∧ w.heap[g]? = some (.cells cur 5 (0, 0)) ∧ l.length ≤ cap ∧ cap ≤ maxLen ∧ cur.size = cap * 1 ∧ cur.toList.take (l.length * 1) = Lib.byteCells l := by
    rcases hown.2 with ⟨_, hz⟩ | ⟨g, cap, cur, hv, r⟩
    · exact absurd hz hl0
    · exact ⟨g, cap, cur, hv, r⟩
  have c1 : w.drew.cell? ⟨b, 1, none⟩ = some (.slice (some ⟨g, 0, none⟩) l.length cap) := by
    have : w.drew.heap[b]? = some (.cells #[p, .slice (some ⟨g, 0, none⟩) l.length cap] 63 (0, 0)) := hbk
    simp [World.cell?, this]
  have hSD : (Builtin.unsafeSliceData_ #[22] 96 #[.slice (some ⟨g, 0, none⟩) l.length cap]).run Try.prog w.drew = .ok (.pointer (some ⟨g, 0, none⟩)) w.drew :=
    Lib.run_unsafeSliceData_row _ _ _ _ _ _ (by omega)
  have hUS : (Builtin.unsafeString_ #[96, 3] 9 #[.pointer (some ⟨g, 0, none⟩), .int .i64 l.length]).run Try.prog w.drew = .ok (.string ⟨l.toArray⟩) (w.drew.freeze ⟨g, 0, none⟩ l.length) := by
    refine Lib.run_unsafeString_row w.drew 96 3 9 5 Try.underlying96 (by kernel_rfl) g cur.size (by have hg' : w.drew.heap[g]? = some (.cells cur 5 (0, 0)) := hg; simp [World.shape?, hg']) l h0 (by omega) (by omega) ?_
    intro j x hx
    have := hown.cells (g := g) rfl j (.int .u8 x.toNat) (by simp [Lib.byteCells, hx])
    exact this
  have HB : Hid (Below H w (w.drew.freeze ⟨g, 0, none⟩ l.length)) := Lib.hid (Lib.below_freeze (Below.drew (Below.refl H w)) (p := ⟨g, 0, none⟩) hbg _)
  clear hown htake hg
  go_enter Try.func39, Try.ntmps39
  go_wp2
  go_region
  all_goals (go_wp2; go_ret; exact ⟨rfl, HB.out⟩)
end Go.Proofs.Ytpplojbcjgiabaa
