/- Contracts of the laws' helpers at [][][]int64: measure, copy, comparison, marks. -/
import Derived.Test.YteappjgdcbploaaKB
namespace Go.Proofs.Yteappjgdcbploaa
open Go.RowKit
set_option linter.unusedVariables false
set_option linter.unusedSimpArgs false

def spIII : Sp (List (List (List Int))) := spL 23 spII []
theorem spIII_cnt (x : List (List (List Int))) : spIII.cnt x ≤ spIII.sz x := by
  show sumOf spII.cnt x ≤ x.length + sumOf spII.sz x
  have := sumOf_mono x spII_cnt
  omega
theorem spIII_mark_length (k : Int) (xs : List (List (List Int))) : (spIII.mark k xs).length = xs.length := spL_mark_length _ _ _ _ _
theorem spIII_mark_get (k : Int) (xs : List (List (List Int))) (j : Nat) (h : j < xs.length) : (spIII.mark k xs).getD j [] = markAt spII [] k xs j := spL_mark_get _ _ _ _ _ _ h
theorem infoIII : (Try.prog.info? 23).map (fun i => (i.zero, i.size, i.bytes)) = some (some (.slice none 0 0), 1, 24) := by kernel_rfl
set_option maxHeartbeats 400000 in
theorem szIII_ok : SzOk 58 spIII := by
  rintro v xs left w ⟨A, cap, rfl, hm, h3⟩ h0 hl
  have hx' := hm
  unfold maxLen at hx'
  show Calls _ _ _ _ fun e w' => e = .returned (.int .i64 (szLeft (xs.length + sumOf spII.sz xs) left)) ∧ _
  by_cases hs : left < xs.length
  · have HB := Lib.hid (szLeft_no (n := xs.length + sumOf spII.sz xs) (left := left) (by omega))
    clear h3
    go_enter Try.func58, Try.ntmps58
    go_wp2_with (fail)
    go_ret
    exact ⟨ret_i HB.out.symm, Below.refl _ _⟩
  · have HA := Lib.hid h3
    clear h3
    go_enter Try.func58, Try.ntmps58
    go_wp2_with (fail)
    go_loopw [1, 5] (fun s1 s5 wr => ∃ (j : Nat), s5 = .int .i64 j ∧ j ≤ xs.length ∧ s1 = .int .i64 (left - xs.length - sumOf spII.sz (xs.take j)) ∧ 0 ≤ left - xs.length - sumOf spII.sz (xs.take j) ∧ Below w.heap.size w wr) (fun _ s5 _ => xs.length - (intOf s5).toNat)
    case atStart => exact ⟨0, rfl, by omega, by simp [sumOf], by simp [sumOf]; omega, Below.refl _ _⟩
    case round =>
      obtain ⟨j, rfl, hj, rfl, hp, bel⟩ := hrel
      have hle := sumOf_le spII.sz xs j
      by_cases hlt : j < xs.length
      · obtain ⟨g, o, u, rfl, hg, hc, hr⟩ := HA.out j hlt
        have hc' : wr.cell? ⟨g, o + j, none⟩ = some u := by rw [bel.cell hg]; exact hc
        have HR := Lib.hid (spII.rd_below hr bel)
        have HST := Lib.hid (sumOf_take spII.sz [] xs j hlt)
        have hle2 := sumOf_le spII.sz xs (j + 1)
        clear hr hc hg
        generalize hL : left - (xs.length : Int) - (sumOf spII.sz (xs.take j) : Int) = L at *
        have HL := Lib.hid hL
        clear hL
        have L1 : L ≤ 1048576 := by have := HL.out; omega
        have i0 : (0 : Int) ≤ (j : Int) := by omega
        have i1 : (j : Int) < (xs.length : Int) := by omega
        have HC := Lib.hid (szII_ok u _ L wr HR.out hp L1)
        by_cases hfit : (spII.sz (xs.getD j []) : Int) ≤ L
        · have e1 := szLeft_yes hfit
          rw [e1] at HC
          have HR : Hid (L - (spII.sz (xs.getD j []) : Int) = left - xs.length - sumOf spII.sz (xs.take (j + 1))) := Lib.hid (by have := HST.out; have := HL.out; omega)
          clear e1
          generalize spII.sz (xs.getD j []) = n at *
          have t0 : 0 ≤ L - (n : Int) := by omega
          go_wp2_with (fail)
          refine HC.out.mono ?_; rintro e w2 ⟨rfl, hb2⟩
          have bel2 := bstep bel bel.size hb2
          clear hc' hb2
          go_wp2_with (fail)
          exact ⟨⟨j + 1, by go_num, by omega, by rw [HR.out], by have := HR.out; omega, bel2⟩, by simp [intOf]; omega⟩
        · have e1 := szLeft_no (n := spII.sz (xs.getD j [])) (left := L) (by omega)
          rw [e1] at HC
          have HB : Hid (szLeft (xs.length + sumOf spII.sz xs) left = -1) := Lib.hid (szLeft_no (by have := HST.out; have := HL.out; omega))
          clear e1 hfit
          go_wp2_with (fail)
          refine HC.out.mono ?_; rintro e w2 ⟨rfl, hb2⟩
          have bel2 := bstep bel bel.size hb2
          clear hc' hb2
          go_wp2_with (fail)
          go_ret
          exact ⟨ret_i HB.out.symm, bel2⟩
      · obtain rfl : j = xs.length := by omega
        have hge : ¬ ((xs.length : Int) < (xs.length : Int)) := by omega
        have HB : Hid (left - (xs.length : Int) - (sumOf spII.sz xs : Int) = szLeft (xs.length + sumOf spII.sz xs) left) := Lib.hid (by
          rw [List.take_length] at hp
          rw [szLeft_yes (by omega)]
          omega)
        have HE : Hid (left - (xs.length : Int) - (sumOf spII.sz (xs.take xs.length) : Int) = szLeft (xs.length + sumOf spII.sz xs) left) := Lib.hid (by rw [List.take_length]; exact HB.out)
        go_wp2_with (fail)
        go_ret
        exact ⟨by first | exact ret_i HB.out | exact ret_i HE.out, bel⟩
set_option maxHeartbeats 400000 in
theorem eqIII_ok : EqOk 63 spIII := by
  rintro v u xs w ⟨A, c, rfl, hm, h3⟩ ⟨B, d, rfl, hm', h3'⟩
  have hx' := hm
  unfold maxLen at hx'
  have HA := Lib.hid h3
  have HA' := Lib.hid h3'
  clear h3 h3' hm' hm
  go_enter Try.func63, Try.ntmps63
  go_wp2_with (fail)
  go_loopw [5] (fun s5 wr => ∃ k : Nat, k ≤ xs.length ∧ s5 = .int .i64 k ∧ Below w.heap.size w wr) (fun s5 _ => xs.length - (intOf s5).toNat)
  case atStart => exact ⟨0, by omega, rfl, Below.refl _ _⟩
  case round =>
    obtain ⟨k, hk, rfl, hbel⟩ := hrel
    by_cases hlt : k < xs.length
    · obtain ⟨g, o, u, rfl, hg0, hc0, hr0⟩ := HA.out k hlt
      obtain ⟨g', o', u', rfl, hg0', hc0', hr0'⟩ := HA'.out k hlt
      have hc : wr.cell? ⟨g, o + k, none⟩ = some u := by rw [hbel.cell hg0]; exact hc0
      have hc' : wr.cell? ⟨g', o' + k, none⟩ = some u' := by rw [hbel.cell hg0']; exact hc0'
      have hg : g < wr.heap.size := by have := hbel.size; omega
      have hg' : g' < wr.heap.size := by have := hbel.size; omega
      have i0 : (0 : Int) ≤ (k : Int) := by omega
      have i1 : (k : Int) < (xs.length : Int) := by omega
      have HT := Lib.hid (eqII_ok u u' (xs.getD k []) wr.drew (spII.rd_below (spII.rd_below hr0 hbel) (Below.refl _ _).drew) (spII.rd_below (spII.rd_below hr0' hbel) (Below.refl _ _).drew))
      clear hr0 hr0' hc0 hc0' hg0 hg0'
      go_wp2_with (fail)
      go_region_held3 (fun wx => wx.cell? ⟨g, o + k, none⟩ = some u ∧ wx.cell? ⟨g', o' + k, none⟩ = some u') (first | go_keep | assumption) (first | (go_at_call 46; refine HT.out.mono ?_; rintro e wm ⟨rfl, hbm⟩; have SM : wm.cell? ⟨g, o + k, none⟩ = some u ∧ wm.cell? ⟨g', o' + k, none⟩ = some u' := ⟨(by rw [hbm.cell hg]; exact hc), (by rw [hbm.cell hg']; exact hc')⟩))
      all_goals
        go_wp2_with (fail)
        exact ⟨⟨k + 1, by omega, by go_num, hbel.drew.trans (hbm.mono (by have := hbel.size; go_size))⟩, by simp [intOf]; omega⟩
    · have hge : ¬ ((k : Int) < (xs.length : Int)) := by omega
      go_wp2_with (fail)
      go_ret
      exact ⟨rfl, hbel⟩
set_option maxHeartbeats 400000 in
theorem markIII_ok : MarkOk 67 spIII := by
  intro S v xs k w h hk0 hk1
  obtain ⟨A, cap, rfl, hm, -⟩ := spIII.own_rd h
  have hx' := hm
  unfold maxLen at hx'
  replace hk1 : k + (sumOf spII.cnt xs : Nat) ≤ 1000000000000000 := hk1
  show Calls _ _ _ _ fun e w' => e = .returned (.int .i64 (k + (sumOf spII.cnt xs : Nat))) ∧ _ ∧ _
  have HS := Lib.hid (OwnTo.start (tgt := markAt spII [] k xs) h)
  clear h hm
  go_enter Try.func67, Try.ntmps67
  go_wp2_with (fail)
  go_loopw [1, 5] (fun s1 s5 wr => ∃ j : Nat, j ≤ xs.length ∧ s5 = .int .i64 j ∧ s1 = .int .i64 (k + sumOf spII.cnt (xs.take j)) ∧ OwnTo 23 spII [] wr S (.slice A xs.length cap) xs (markAt spII [] k xs) j ∧ ChgS S w wr) (fun _ s5 _ => xs.length - (intOf s5).toNat)
  case atStart => exact ⟨0, by omega, rfl, by simp [sumOf], HS.out, ChgS.refl _ _⟩
  case round =>
    obtain ⟨j, hj, rfl, rfl, own, chg⟩ := hrel
    clear HS
    by_cases hlt : j < xs.length
    · obtain ⟨g, u, Tj, rfl, hc, ho, hT, hnext⟩ := OwnTo.at_ (g := 0) (c := 0) own hlt
      have hle := sumOf_le spII.cnt xs (j + 1)
      have hst := sumOf_take spII.cnt [] xs j hlt
      have i0 : (0 : Int) ≤ (j : Int) := by omega
      have i1 : (j : Int) < (xs.length : Int) := by omega
      have HC := Lib.hid (markII_ok Tj u (xs.getD j []) (k + sumOf spII.cnt (xs.take j)) wr ho (by omega) (by omega))
      have HN := Lib.hid hnext
      have HT := Lib.hid hT
      have E1 : Hid (k + (sumOf spII.cnt (xs.take j) : Int) + (spII.cnt (xs.getD j []) : Int) = k + (sumOf spII.cnt (xs.take (j + 1)) : Int)) := Lib.hid (by omega)
      have t1 : k + (sumOf spII.cnt (xs.take j) : Int) + (spII.cnt (xs.getD j []) : Int) ≤ 1000000000000000 := by omega
      clear hst hnext hT own ho
      generalize spII.cnt (xs.getD j []) = n at *
      go_wp2_with (fail)
      refine HC.out.mono ?_; rintro e w2 ⟨rfl, ow2, ch2⟩
      have HO := Lib.hid (HN.out w2 ow2 ch2)
      have chg2 := chg.trans (ch2.mono HT.out)
      clear ow2 ch2 chg HC
      go_wp2_with (fail)
      exact ⟨⟨j + 1, by omega, by go_num, by rw [E1.out], HO.out, chg2⟩, by simp [intOf]; omega⟩
    · have hge : ¬ ((j : Int) < (xs.length : Int)) := by omega
      obtain rfl : j = xs.length := by omega
      have HO : Hid (spIII.own wr S (.slice A xs.length cap) (spIII.mark k xs)) := Lib.hid (own.done (spL_mark_length _ _ _ _ _) (fun j hj => spL_mark_get _ _ _ _ _ _ hj))
      have E1 : Hid (k + (sumOf spII.cnt (xs.take xs.length) : Int) = k + (sumOf spII.cnt xs : Int)) := Lib.hid (by rw [List.take_length])
      clear own
      go_wp2_with (fail)
      go_ret
      exact ⟨by first | rfl | exact ret_i E1.out, HO.out, chg⟩
set_option maxRecDepth 100000 in
set_option maxHeartbeats 400000 in
theorem toIII_ok : ToOk 61 spIII := by
  rintro v xs w ⟨A, c, rfl, hm, h3⟩ hsz
  obtain ⟨i0, hi, hz0, hz1, hz2⟩ := info_parts infoIII
  replace hsz : xs.length + sumOf spII.sz xs ≤ 1048576 := hsz
  have hl1 : xs.length ≤ 1048576 := by omega
  have HA := Lib.hid h3
  have HSZ : Hid (∀ j, j < xs.length → spII.sz (xs.getD j []) ≤ 1048576) := Lib.hid fun j hj => by have := sumOf_el spII.sz [] xs j hj; omega
  clear h3 hm hsz
  go_enter Try.func61, Try.ntmps61
  go_wp2_with (refine wpList_make_full _ rfl (.tmp 6) (.tmp 6) 24 rfl w.heap.size 23 i0 (.slice none 0 0) 1 Try.underlying24 hi hz0 hz1 .i64 .i64 (xs.length : Int) (xs.length : Int) xs.length rfl rfl rfl rfl (by rw [hz2]; omega) (by unfold maxLen; omega) (Nat.le_refl _) ?_; intro w1 own1 gr1)
  go_loopw [4] (fun s4 wr => ∃ (j : Nat), s4 = .int .i64 j ∧ j ≤ xs.length ∧ CopyTo 23 spII [] w.heap.size wr (.slice (some ⟨w.heap.size, 0, none⟩) xs.length xs.length) xs j ∧ Below w.heap.size w wr) (fun s4 _ => xs.length - (intOf s4).toNat)
  case atStart => exact ⟨0, rfl, by omega, ⟨_, fun _ _ => False, own1, fun i hi => by omega, fun i j _ hj => by omega, fun i hi => by omega⟩, (Below.refl _ _).grown gr1 (Nat.le_refl _) (fun k hk => by simp at hk)⟩
  case round =>
    obtain ⟨j, rfl, hj, own, bel⟩ := hrel
    clear own1 gr1
    by_cases hlt : j < xs.length
    · obtain ⟨g, o, u, rfl, hg, hc0, hr⟩ := HA.out j hlt
      have hc : wr.cell? ⟨g, o + j, none⟩ = some u := by rw [bel.cell hg]; exact hc0
      have i0 : (0 : Int) ≤ (j : Int) := by omega
      have i1 : (j : Int) < (xs.length : Int) := by omega
      have hz := bel.size
      have HT := Lib.hid (toII_ok u (xs.getD j []) wr (spII.rd_below hr bel) (HSZ.out j hlt))
      have HOWN := Lib.hid own
      clear hr hg hc0 own
      go_wp2_with (fail)
      refine HT.out.mono ?_; rintro e w2 ⟨u2, S2, rfl, ow2, hS2, b2⟩
      obtain ⟨A2, cap2, rfl, -, -⟩ := spII.own_rd ow2
      obtain ⟨⟨ov, hov⟩, hfz, st1, st2, hzz⟩ := HOWN.out.step hlt b2 ow2 hS2
      generalize (xs.getD j []).length = n2 at *
      have hzz2 : w.heap.size < w2.heap.size := Nat.lt_of_lt_of_le hzz b2.size
      have bel2 := (bel.trans (b2.mono hz)).grown st2 (by have := b2.size; omega) (fun k hk => by simp at hk; omega)
      have HST := Lib.hid st1
      clear st1 st2 ow2 HOWN HT hc hS2 b2
      go_wp2_with (fail)
      exact ⟨⟨j + 1, by go_num, by omega, HST.out, bel2⟩, by simp [intOf]; omega⟩
    · have hge : ¬ ((j : Int) < (xs.length : Int)) := by omega
      obtain rfl : j = xs.length := by omega
      have HO := Lib.hid own.done
      clear own
      go_wp2_with (fail)
      go_ret
      exact ⟨_, _, rfl, HO.out, fun k hk => hk.1, bel⟩
end Go.Proofs.Yteappjgdcbploaa
