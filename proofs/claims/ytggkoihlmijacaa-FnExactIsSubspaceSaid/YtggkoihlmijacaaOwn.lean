/- The model's copies of lists. -/
import Derived.Test.YtggkoihlmijacaaBlk
import Derived.Test.YtggkoihlmijacaaShII
import Derived.Test.YtggkoihlmijacaaApp
import Derived.OwnWalk
namespace Go.Proofs.Ytggkoihlmijacaa
open Go.RowKit
set_option linter.unusedVariables false
set_option linter.unusedSimpArgs false

theorem Made.of {α : Type} {s : Sp α} {x : α} {w : World} {e : Ending} {w' : World} {u : Value} {S : Nat → Prop} (h1 : e = .returned u) (h2 : s.own w' S u x) (h3 : ∀ k, S k → w.heap.size ≤ k) (h4 : Below w.heap.size w w') : Made s x w e w' := ⟨u, S, h1, h2, h3, h4⟩
/-- A row of the call's own as new memory. -/
theorem Made.row {w w' : World} {v : Value} {xs : List Int} {e : Ending} (h1 : e = .returned v) (h2 : OwnI w' w.heap.size v xs) (h3 : Below w.heap.size w w') : Made spI xs w e w' :=
  Made.of h1 (spI_of h2) (fun k hk => (World.ownsRow.lt h2 k hk).1) h3
set_option maxHeartbeats 400000 in
theorem sOwn_any (v : Value) (xs : List Int) (w : World) (h : spI.rd w v xs) (hl : xs.length ≤ 1048576) : Calls Try.prog 104 #[v] w (Made spI xs w) := by
  obtain ⟨A, c, rfl, -, hr⟩ := h
  obtain ⟨i0, hi, hz0, hz1, hz2⟩ := info_parts infoI
  have h0 : (w.alloc (.cells #[] 2)).ownsRow w.heap.size 2 1 (.slice (some ⟨w.heap.size, 0, none⟩) 0 0) 0 [] := World.ownsRow_lit w #[] 0 (Nat.le_refl _) (by unfold maxLen; omega) rfl
  have b0 : Below w.heap.size w (w.alloc (.cells #[] 2)) := by go_grown
  have HR := Lib.hid (hr.below' b0).cells
  have HO := Lib.hid h0
  clear h0 hr
  go_enter Try.func104, Try.ntmps104
  go_wp2_with (first | (at_builtin; refine wpList_append_list _ rfl _ _ 31 rfl w.heap.size 2 i0 (.int .i64 0) 8 Try.underlying31 hi hz0 hz1 hz2 rfl (.slice (some ⟨w.heap.size, 0, none⟩) 0 0) 0 [] rfl HO.out A xs.length c (xs.map (Value.int .i64)) (by simp) rfl HR.out (oneCell_ints xs) (by unfold maxLen; omega) (by omega) (by go_size) ?_; intro v' w' own' gr' at'))
  have HO' : Hid (OwnI w' w.heap.size v' xs) := Lib.hid (by simpa [OwnI] using own')
  have L : Below w.heap.size w w' := b0.grown gr' (by go_size) (fun k hk => by simp [Value.ownBlock] at hk; omega)
  clear own' gr' at'
  go_wp2_with (fail)
  go_ret
  exact Made.row rfl HO'.out L

set_option maxRecDepth 100000 in
set_option maxHeartbeats 1000000 in
theorem sOwn2_any (v : Value) (xss : List (List Int)) (w : World) (h : spII.rd w v xss) (hl : spII.sz xss ≤ 1048576) : Calls Try.prog 62 #[v] w (Made spII xss w) := by
  obtain ⟨A, c, rfl, -, hr⟩ := h
  replace hl : xss.length + sumOf spI.sz xss ≤ 1048576 := hl
  obtain ⟨i0, hi, hz0, hz1, hz2⟩ := info_parts infoII
  have HR := Lib.hid hr
  clear hr
  go_enter Try.func62, Try.ntmps62
  go_wp2_with (fail)
  go_loopw [3, 4] (fun s3 s4 wr => ∃ (j : Nat) (S : Nat → Prop), s4 = .int .i64 j ∧ j ≤ xss.length ∧ spII.own wr S s3 (xss.take j) ∧ Hid (∀ k, S k → w.heap.size ≤ k) ∧ Below w.heap.size w wr) (fun _ s4 _ => xss.length - (intOf s4).toNat)
  case atStart => exact ⟨0, _, rfl, by omega, spL_empty _ _ _ _, Lib.hid (fun k hk => by omega), by go_grown⟩
  case round =>
    obtain ⟨j, S, rfl, hj, own, hS, bel⟩ := hrel
    have hlj : (xss.take j).length = j := by simp; omega
    by_cases hlt : j < xss.length
    · obtain ⟨g, o, u, rfl, hg, hc0, hru⟩ := HR.out j hlt
      have hc : wr.cell? ⟨g, o + j, none⟩ = some u := by rw [bel.cell hg]; exact hc0
      have i0' : (0 : Int) ≤ (j : Int) := by omega
      have i1' : (j : Int) < (xss.length : Int) := by omega
      have hlen : (xss.getD j []).length ≤ 1048576 := by have := sumOf_el spI.sz [] xss j hlt; have e : spI.sz (xss.getD j []) = (xss.getD j []).length := rfl; omega
      have ET : Hid (xss.take (j + 1) = xss.take j ++ [xss.getD j []]) := Lib.hid (by rw [List.take_succ_eq_append_getElem hlt]; simp [hlt])
      have HV := Lib.hid (sOwn_any u _ wr (spI.rd_below hru bel) hlen)
      have HO := Lib.hid own
      obtain ⟨A', c', e', -⟩ := spII.own_rd own
      rw [hlj] at e'
      subst e'
      have HLJ := Lib.hid hlj
      clear hru hc0 own hlj hlen
      generalize xss.getD j [] = x at *
      go_wp2_with (fail)
      refine HV.out.mono ?_; rintro e w2 ⟨u2, S2, rfl, ow2, hS2, hb2⟩
      obtain ⟨U, cU, rfl, -, -⟩ := spI.own_rd ow2
      have o2 := spII.own_below HO.out hb2
      obtain ⟨vs, hvs, hpush⟩ := spL_push o2 ow2 (fun k h1 h2 => by have := spII.own_lt HO.out h1; have := hS2 k h2; omega)
      rw [HLJ.out] at hvs hpush
      have HVS := Lib.hid (hvs.alloc (.cells #[.slice U x.length cU] 31))
      have HP := Lib.hid hpush
      have HB := Lib.hid (fun k (hk : (Value.slice A' j c').ownBlock = some k) => hS.out k (by obtain ⟨_, _, _, _, _, _, h5, _⟩ := HO.out; exact h5 k hk))
      clear hvs hpush o2 HV
      go_wp2_with (first | (at_builtin; refine wpList_append_lies _ rfl _ _ 22 rfl 0 31 i0 (.slice none 0 0) 1 24 Try.underlying22 hi hz0 hz1 hz2 rfl (by decide) (.slice A' j c') j vs rfl HVS.out ⟨_, 0, none⟩ 1 1 [.slice U x.length cU] rfl rfl (cell_one_new _ _ _) (by simp [Value.oneCell']) (by decide) (by unfold maxLen; omega) (by omega) (Nat.zero_le _) _ rfl ?_; intro g3 cap3 w3 own3 gr3 at3 lt3))
      have hz2' : wr.heap.size ≤ w2.heap.size := hb2.size
      have hzw := bel.size
      have OW3 := Lib.hid (HP.out _ _ _ g3 ((Below.refl _ _).alloc (Nat.le_refl _) _) own3 gr3 rfl (by rcases at3 with h' | h'; exact .inl h'; exact .inr (by simp at h'; omega)) lt3)
      have HS4 : Hid (∀ k, (S k ∨ S2 k ∨ k = g3) → w.heap.size ≤ k) := Lib.hid (fun k hk => by
        rcases hk with hk | hk | hk
        · exact hS.out _ hk
        · have := hS2 _ hk; omega
        · rcases at3 with h' | h'
          · rw [hk]; exact HB.out _ h'
          · simp at h'; omega)
      have bel3 : Below w.heap.size w w3 := ((bel.trans (hb2.mono hzw)).alloc (by omega) _).grown gr3 (by simp; omega) HB.out
      clear own3 gr3 at3 lt3 HVS HP hb2 ow2 hS2
      go_wp2_with (fail)
      exact ⟨⟨j + 1, _, by go_num, by omega, by rw [ET.out]; exact OW3.out, HS4, bel3⟩, by simp [intOf]; omega⟩
    · have hge : ¬ ((j : Int) < (xss.length : Int)) := by omega
      obtain rfl : j = xss.length := by omega
      rw [List.take_length] at own
      have HO := Lib.hid own
      clear own hlj
      go_wp2_with (fail)
      go_ret
      exact Made.of rfl HO.out hS.out bel
theorem sz_rows_le {xss : List (List Int)} : xss.length ≤ spII.sz xss := Nat.le_add_right _ _
end Go.Proofs.Ytggkoihlmijacaa
