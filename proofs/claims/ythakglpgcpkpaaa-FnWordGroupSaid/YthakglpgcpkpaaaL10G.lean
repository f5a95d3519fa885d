/- Words: WordCommutator, ExponentSums. -/
import Derived.Test.YthakglpgcpkpaaaL10F
namespace Go.Proofs.Ythakglpgcpkpaaa
open Go.RowKit
set_option linter.unusedVariables false
set_option linter.unusedSimpArgs false

theorem RdW.lit4 {w : World} {A B C D : Option Addr} {xs ys zs us : List Int} (c d e f n1 n2 n3 n4 : Nat) (t : TypeId) (h1 : RdI w A xs) (l1 : xs.length ≤ maxLen) (m1 : xs.length = n1) (h2 : RdI w B ys) (l2 : ys.length ≤ maxLen) (m2 : ys.length = n2)
    (h3 : RdI w C zs) (l3 : zs.length ≤ maxLen) (m3 : zs.length = n3) (h4 : RdI w D us) (l4 : us.length ≤ maxLen) (m4 : us.length = n4) :
    RdW (w.alloc (.cells #[.slice A n1 c, .slice B n2 d, .slice C n3 e, .slice D n4 f] t)) (some ⟨w.heap.size, 0, none⟩) [xs, ys, zs, us] := by
  subst m1 m2 m3 m4
  have bel : Below w.heap.size w (w.alloc (.cells #[.slice A xs.length c, .slice B ys.length d, .slice C zs.length e, .slice D us.length f] t)) := by go_grown
  have hb := Blk.new w [.slice A xs.length c, .slice B ys.length d, .slice C zs.length e, .slice D us.length f] t
  intro i hi
  match i, hi with
  | 0, _ => exact ⟨_, 0, A, c, rfl, by simp, hb.cell 0 (by simp), l1, h1.below' bel⟩
  | 1, _ => exact ⟨_, 0, B, d, rfl, by simp, hb.cell 1 (by simp), l2, h2.below' bel⟩
  | 2, _ => exact ⟨_, 0, C, e, rfl, by simp, hb.cell 2 (by simp), l3, h3.below' bel⟩
  | 3, _ => exact ⟨_, 0, D, f, rfl, by simp, hb.cell 3 (by simp), l4, h4.below' bel⟩
  | i + 4, hi => simp at hi; omega
set_option maxRecDepth 100000 in
set_option maxHeartbeats 1000000 in
theorem iWordCommutator_any (k : Int) (v u : Value) (x y : List Int) (w : World) (h : spI.rd w v x) (h' : spI.rd w u y) : Calls Try.prog 17 #[.int .i64 k, v, u] w (MadeC spI (rWordCommutator k x y) (cWordCommutator k x y) w) := by
  obtain ⟨A, c, rfl, hm, hA⟩ := h
  obtain ⟨B, d, rfl, hm', hB⟩ := h'
  have b0 : Below w.heap.size w (w.alloc (.cells #[.slice A x.length c, .slice B y.length d] 24)) := by go_grown
  have HC := Lib.hid (codes_two k A B c d x y w hA hm hB hm')
  by_cases hz : Num.codeW k [x, y] = 0
  · obtain ⟨⟨hl, hs⟩, hl', hs'⟩ := words_bd hz
    have HI1 := Lib.hid (inverseWord_any A x.length c x _ (hA.below' b0) rfl (by omega) hs)
    have HR : Hid (rWordCommutator k x y = Num.limR (comW x y) ∧ cWordCommutator k x y = Num.limC (comW x y)) := Lib.hid ⟨if_pos hz, if_pos hz⟩
    have hrl := Num.limR_len (comW x y)
    have HA := Lib.hid hA
    have HB := Lib.hid hB
    rw [hz] at HC
    clear hz hA hB
    go_enter Try.func17, Try.ntmps17
    go_wp2_with (fail)
    refine HC.out.mono ?_; rintro e w' ⟨rfl, rfl⟩
    go_wp2_with (fail)
    refine HI1.out.mono ?_; rintro e w1 ⟨v1, rfl, own1, bel1⟩
    have bw1 : Below w.heap.size w w1 := bstep b0 b0.size bel1
    have HI2 := Lib.hid (inverseWord_any B y.length d y w1 (HB.out.below' bw1) rfl (by omega) hs')
    go_wp2_with (fail)
    refine HI2.out.mono ?_; rintro e w2 ⟨v2, rfl, own2, bel2⟩
    have bw2 : Below w.heap.size w w2 := bstep bw1 bw1.size bel2
    obtain ⟨V1, n1, c1, rfl, hn1⟩ := own1.formN
    obtain ⟨V2, n2, c2, rfl, hn2⟩ := own2.formN
    have hp := limited_any (some ⟨w2.heap.size, 0, none⟩) 4 4 [Num.invW x, Num.invW y, x, y] _ (RdW.lit4 c1 c2 c d n1 n2 x.length y.length 24 (own1.reads.below' bel2) (by rw [Num.invW_len]; unfold maxLen; omega) hn1 own2.reads (by rw [Num.invW_len]; unfold maxLen; omega) hn2 (HA.out.below' bw2) hm rfl (HB.out.below' bw2) hm' rfl) rfl (by simp)
      (all_of (P := fun f => f.length ≤ 64) (by simp [hl, hl', Num.invW_len])) (all_of (P := Num.SmallW) (by intro f hf; simp at hf; rcases hf with rfl | rfl | rfl | rfl; exact hs.inv; exact hs'.inv; exact hs; exact hs'))
    rw [show [Num.invW x, Num.invW y, x, y].flatten = comW x y by simp [comW]] at hp
    have HP := Lib.hid hp
    have HN1 := Lib.hid hn1
    have HN2 := Lib.hid hn2
    clear hp hn1 hn2 HI1 HI2 HC
    go_wp2_with (fail)
    refine HP.out.mono ?_; intro e w3 hh
    have bw3 : Below w.heap.size w (w2.alloc (.cells #[.slice V1 n1 c1, .slice V2 n2 c2, .slice A x.length c, .slice B y.length d] 24)) := bw2.alloc bw2.size _
    obtain ⟨r, rfl, own, bel⟩ := hh.up bw3
    go_wp2_with (fail)
    go_ret2
    rw [HR.out.1, HR.out.2]
    exact MadeC.list own (by omega) bel
  · have HR : Hid (rWordCommutator k x y = [] ∧ cWordCommutator k x y = Num.codeW k [x, y]) := Lib.hid ⟨if_neg hz, if_neg hz⟩
    have T1 : (Num.codeW k [x, y] != 0) = true := by simpa using hz
    clear hz hA hB
    generalize Num.codeW k [x, y] = cd at *
    go_enter Try.func17, Try.ntmps17
    go_wp2_with (fail)
    refine HC.out.mono ?_; rintro e w' ⟨rfl, rfl⟩
    go_wp2_with (fail)
    go_ret2
    rw [HR.out.1, HR.out.2]
    exact MadeC.nilW b0
set_option maxRecDepth 100000 in
set_option maxHeartbeats 1000000 in
theorem sCommute_any (A B : Option Addr) (c d : Nat) (x y : List Int) (w : World) (hA : RdI w A x) (hB : RdI w B y) (hl : x.length ≤ 64) (hs : Num.SmallW x) (hl' : y.length ≤ 64) (hs' : Num.SmallW y) :
    Calls Try.prog 56 #[.slice A x.length c, .slice B y.length d] w fun e w' => ∃ v, e = .returned v ∧ OwnI w' w.heap.size v (comW x y) ∧ Below w.heap.size w w' := by
  have HI1 := Lib.hid (sInvert_any A x.length c x w hA rfl (by omega) hs)
  have HA := Lib.hid hA
  have HB := Lib.hid hB
  clear hA hB
  go_enter Try.func56, Try.ntmps56
  go_wp2_with (fail)
  refine HI1.out.mono ?_; rintro e w1 ⟨v1, rfl, own1, bw1⟩
  have HI2 := Lib.hid (sInvert_any B y.length d y w1 (HB.out.below' bw1) rfl (by omega) hs')
  go_wp2_with (fail)
  refine HI2.out.mono ?_; rintro e w2 ⟨v2, rfl, own2, bel2⟩
  have bw2 : Below w.heap.size w w2 := bstep bw1 bw1.size bel2
  have own1' := own1.below bel2
  obtain ⟨V1, n1, c1, rfl, hn1⟩ := own1.formN
  obtain ⟨V2, n2, c2, rfl, hn2⟩ := own2.formN
  have HN1 := Lib.hid hn1
  have HN2 := Lib.hid hn2
  have e1 := Num.invW_len x
  have e2 := Num.invW_len y
  have g1 : (Num.invW x).length ≤ 64 := by omega
  have g2 : (Num.invW y).length ≤ 64 := by omega
  clear hn1 hn2 HI1 HI2 e1 e2
  go_wp2_with (first | (at_builtin; refine wpList_app_ints _ rfl (.tmp 7) (.tmp 9) rfl w.heap.size _ (Num.invW x) (Num.invW y) rfl own1' V2 _ c2 HN2.out rfl own2.reads (by omega) bw2.size ?_; intro v3 w3 own3 gr3 hat3; obtain ⟨V3, n3, c3, rfl, hn3⟩ := own3.formN; have bw3 : Below w.heap.size w w3 := bw2.grown gr3 bw2.size (fun k hk => (World.ownsRow.lt own1' k hk).1); have HN3 := Lib.hid hn3; have hA3 := HA.out.below' bw3; clear hn3) | (at_builtin; refine wpList_app_ints _ rfl (.tmp 11) (.tmp 12) rfl w.heap.size _ (Num.invW x ++ Num.invW y) x rfl own3 A _ c rfl rfl hA3 (by simp only [List.length_append]; omega) bw3.size ?_; intro v4 w4 own4 gr4 hat4; obtain ⟨V4, n4, c4, rfl, hn4⟩ := own4.formN; have bw4 : Below w.heap.size w w4 := bw3.grown gr4 bw3.size (fun k hk => (World.ownsRow.lt own3 k hk).1); have HN4 := Lib.hid hn4; have hB4 := HB.out.below' bw4; clear hn4) | (at_builtin; refine wpList_app_ints _ rfl (.tmp 14) (.tmp 15) rfl w.heap.size _ (Num.invW x ++ Num.invW y ++ x) y rfl own4 B _ d rfl rfl hB4 (by simp only [List.length_append]; omega) bw4.size ?_; intro v5 w5 own5 gr5 hat5))
  go_ret
  exact ⟨_, rfl, own5, bw4.grown gr5 bw4.size (fun k hk => (World.ownsRow.lt own4 k hk).1)⟩
set_option maxRecDepth 100000 in
set_option maxHeartbeats 1000000 in
theorem sWordCommutator_any (k : Int) (v u : Value) (x y : List Int) (w : World) (h : spI.rd w v x) (h' : spI.rd w u y) : Calls Try.prog 18 #[.int .i64 k, v, u] w (MadeC spI (rWordCommutator k x y) (cWordCommutator k x y) w) := by
  obtain ⟨A, c, rfl, hm, hA⟩ := h
  obtain ⟨B, d, rfl, hm', hB⟩ := h'
  have HC := Lib.hid (sCode_any k A B c d _ _ x y w hA rfl hm hB rfl hm')
  by_cases hz : Num.codeW k [x, y] = 0
  · obtain ⟨⟨hl, hs⟩, hl', hs'⟩ := words_bd hz
    have HO := Lib.hid (sCommute_any A B c d x y w hA hB hl hs hl' hs')
    have HR : Hid (rWordCommutator k x y = Num.limR (comW x y) ∧ cWordCommutator k x y = Num.limC (comW x y)) := Lib.hid ⟨if_pos hz, if_pos hz⟩
    have hrl := Num.limR_len (comW x y)
    rw [hz] at HC
    clear hz hA hB
    go_enter Try.func18, Try.ntmps18
    go_wp2_with (fail)
    refine HC.out.mono ?_; rintro e w' ⟨rfl, rfl⟩
    go_wp2_with (fail)
    refine HO.out.mono ?_; rintro e w1 ⟨u1, rfl, own1, bel1⟩
    obtain ⟨U, nU, cU, rfl, hnU⟩ := own1.formN
    have HP := Lib.hid (sResult_any U nU cU (comW x y) w1 own1.reads hnU (by simp [comW, Num.invW_len]; omega) (((hs.inv.app hs'.inv).app hs).app hs'))
    have HNU := Lib.hid hnU
    clear hnU HO HC
    go_wp2_with (fail)
    refine HP.out.mono ?_; intro e w3 hh
    obtain ⟨r, rfl, own, bel⟩ := hh.up bel1
    go_wp2_with (fail)
    go_ret2
    rw [HR.out.1, HR.out.2]
    exact MadeC.list own (by omega) bel
  · have HR : Hid (rWordCommutator k x y = [] ∧ cWordCommutator k x y = Num.codeW k [x, y]) := Lib.hid ⟨if_neg hz, if_neg hz⟩
    have T1 : (Num.codeW k [x, y] != 0) = true := by simpa using hz
    clear hz hA hB
    generalize Num.codeW k [x, y] = cd at *
    go_enter Try.func18, Try.ntmps18
    go_wp2_with (fail)
    refine HC.out.mono ?_; rintro e w' ⟨rfl, rfl⟩
    go_wp2_with (fail)
    go_ret2
    rw [HR.out.1, HR.out.2]
    exact MadeC.nilW (Below.refl _ _)
theorem iWordCommutator_ok (k : Int) (v : Value) (x : List Int) (u : Value) (y : List Int) (w : World) (h : spI.rd w v x) (h' : spI.rd w u y) (s : spI.sz x ≤ 1048576) (s' : spI.sz y ≤ 1048576) : Calls Try.prog 17 #[.int .i64 k, v, u] w (MadeC spI (rWordCommutator k x y) (cWordCommutator k x y) w) := iWordCommutator_any k v u x y w h h'
theorem sWordCommutator_ok (k : Int) (v : Value) (x : List Int) (u : Value) (y : List Int) (w : World) (h : spI.rd w v x) (h' : spI.rd w u y) (s : spI.sz x ≤ 1048576) (s' : spI.sz y ≤ 1048576) : Calls Try.prog 18 #[.int .i64 k, v, u] w (MadeC spI (rWordCommutator k x y) (cWordCommutator k x y) w) := sWordCommutator_any k v u x y w h h'
end Go.Proofs.Ythakglpgcpkpaaa
