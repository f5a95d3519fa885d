/- Words: SubstituteWord. -/
import Derived.Test.YtpplojbcjgiabaaL10H
import Derived.Test.YtpplojbcjgiabaaKB
import Derived.Test.YtpplojbcjgiabaaOpL
namespace Go.Proofs.Ytpplojbcjgiabaa
open Go.RowKit
set_option linter.unusedVariables false
set_option linter.unusedSimpArgs false

section
variable {α : Type} {E : TypeId} {s : Sp α} {nul : α} {B : Nat} {w : World} {v : Value} {xs : List α}
/-- One element more that stays readable whatever becomes of the list's own block. -/
theorem Bag.push3 (h : Bag E s nul B w v xs) : ∃ vs, w.ownsRow B E 1 v xs.length vs ∧ ∀ (w1 w' : World) (v' u : Value) (x : α), Below w.heap.size w w1 → (∀ w2, OffV w1 w2 v → s.rd w2 u x) → w'.ownsRow B E 1 v' (xs.length + 1) (vs ++ [u]) → w1.grownBy w' v.ownBlock →
    (v'.ownBlock = v.ownBlock ∨ ∀ g, v'.ownBlock = some g → w1.heap.size ≤ g) → Bag E s nul B w' v' (xs ++ [x]) := by
  obtain ⟨vs, h1, h2⟩ := h
  have hvl : vs.length = xs.length := by have := h1.1; simpa using this
  refine ⟨vs, h1, fun w1 w' v' u x h01 hu ho hg hv => ?_⟩
  have hs1 := h01.size
  refine ⟨vs ++ [u], by simpa using ho, fun j hj w2 hw2 => ?_⟩
  simp only [List.length_append, List.length_singleton] at hj
  by_cases hlt : j < xs.length
  · have e1 : (vs ++ [u]).getD j undef = vs.getD j undef := by rw [List.getD_eq_getElem?_getD, List.getElem?_append_left (by omega), ← List.getD_eq_getElem?_getD]
    have e2 : (xs ++ [x]).getD j nul = xs.getD j nul := by rw [List.getD_eq_getElem?_getD, List.getElem?_append_left (by omega), ← List.getD_eq_getElem?_getD]
    rw [e1, e2]
    refine h2 j hlt w2 (((OffV.below h01 v).trans (OffV.grown hg) (.inl rfl)).trans hw2 ?_)
    rcases hv with h | h
    · exact .inl h
    · exact .inr fun g e => by have := h g e; omega
  · obtain rfl : j = xs.length := by omega
    have e1 : (vs ++ [u]).getD xs.length undef = u := by
      rw [List.getD_eq_getElem?_getD, List.getElem?_append_right (by omega), hvl]
      simp
    have e2 : (xs ++ [x]).getD xs.length nul = x := by simp [List.getD_eq_getElem?_getD]
    rw [e1, e2]
    exact hu w2 ((OffV.grown hg).trans hw2 hv)
end
theorem Num.facW_pos {imgs : List (List Int)} {x : Int} (h : 0 < x) : Num.facW imgs x = imgs.getD (x - 1).toNat [] := if_pos h
theorem Num.facW_neg {imgs : List (List Int)} {x : Int} (h : ¬ 0 < x) : Num.facW imgs x = Num.invW (imgs.getD (-x - 1).toNat []) := if_neg h
theorem Num.facsW_len (imgs : List (List Int)) (x : List Int) : (Num.facsW imgs x).length = x.length := by simp [Num.facsW]
theorem Num.facsW_all {P : List Int → Prop} {imgs : List (List Int)} {k : Int} {x : List Int} (hk : (imgs.length : Int) = k) (hx : Num.isWB k x = true) (h1 : ∀ f ∈ imgs, P f) (h2 : ∀ f, P f → P (Num.invW f)) : ∀ f ∈ Num.facsW imgs x, P f := by
  intro f hf
  obtain ⟨z, hz, rfl⟩ := List.mem_map.mp hf
  have := (Num.isWB_iff.mp hx).2 z hz
  have hat : ∀ q, q < imgs.length → P (imgs.getD q []) := fun q hq => by
    rw [List.getD_eq_getElem?_getD, List.getElem?_eq_getElem hq]
    exact h1 _ (List.getElem_mem hq)
  by_cases hp : 0 < z
  · rw [Num.facW_pos hp]; exact hat _ (by omega)
  · rw [Num.facW_neg hp]; exact h2 _ (hat _ (by omega))
theorem imgs_bd {m : Int} {imgs : List (List Int)} (hm : 0 ≤ m ∧ m ≤ 6) (h : imgs.all (Num.isWB m) = true) : (∀ f ∈ imgs, f.length ≤ 64) ∧ ∀ f ∈ imgs, Num.SmallW f :=
  ⟨fun f hf => (Num.isWB_iff.mp (List.all_eq_true.mp h f hf)).1, fun f hf => Num.isWB_small hm.2 (List.all_eq_true.mp h f hf)⟩
/-- Which code comes, by the tests in their order. -/
theorem sub_range {k m : Int} {x : List Int} {imgs : List (List Int)} (h : ¬ ((0 ≤ k ∧ k ≤ 6) ∧ 0 ≤ m ∧ m ≤ 6)) : rSubstituteWord k x m imgs = [] ∧ cSubstituteWord k x m imgs = 2 := by
  have e : subC k x m imgs = 2 := if_neg h
  unfold rSubstituteWord cSubstituteWord
  rw [e]; exact ⟨rfl, rfl⟩
theorem sub_bad {k m : Int} {x : List Int} {imgs : List (List Int)} (h : (0 ≤ k ∧ k ≤ 6) ∧ 0 ≤ m ∧ m ≤ 6) (hn : ¬ (Num.isWB k x = true ∧ (imgs.length : Int) = k ∧ imgs.all (Num.isWB m) = true)) : rSubstituteWord k x m imgs = [] ∧ cSubstituteWord k x m imgs = 1 := by
  have e : subC k x m imgs = 1 := by unfold subC; rw [if_pos h, if_neg hn]
  unfold rSubstituteWord cSubstituteWord
  rw [e]; exact ⟨rfl, rfl⟩
theorem sub_good {k m : Int} {x : List Int} {imgs : List (List Int)} (h : (0 ≤ k ∧ k ≤ 6) ∧ 0 ≤ m ∧ m ≤ 6) (hn : Num.isWB k x = true ∧ (imgs.length : Int) = k ∧ imgs.all (Num.isWB m) = true) : rSubstituteWord k x m imgs = Num.limR (Num.repW imgs x) ∧ cSubstituteWord k x m imgs = Num.limC (Num.repW imgs x) := by
  have e : subC k x m imgs = 0 := by unfold subC; rw [if_pos h, if_pos hn]
  unfold rSubstituteWord cSubstituteWord
  rw [e]; exact ⟨rfl, rfl⟩

set_option maxRecDepth 100000 in
set_option maxHeartbeats 2000000 in
theorem iSubst_good (k m : Int) (A C : Option Addr) (c d : Nat) (x : List Int) (imgs : List (List Int)) (w : World) (hA : RdI w A x) (hC : RdW w C imgs) (h : (0 ≤ k ∧ k ≤ 6) ∧ 0 ≤ m ∧ m ≤ 6) (hn : Num.isWB k x = true ∧ (imgs.length : Int) = k ∧ imgs.all (Num.isWB m) = true) :
    Calls Try.prog 8 #[.int .i64 k, .slice A x.length c, .int .i64 m, .slice C imgs.length d] w (LimC (Num.repW imgs x) w) := by
  obtain ⟨iT, hi, hz0, hz1, hz2⟩ := info_parts infoS
  obtain ⟨h1, h2⟩ := h
  obtain ⟨n1, n2, n3⟩ := hn
  have hxl := (Num.isWB_iff.mp n1).1
  have hk6 : imgs.length ≤ 6 := by omega
  obtain ⟨b1, b2⟩ := imgs_bd h2 n3
  have hb1 := all_of b1
  have hb2 := all_of b2
  have fa1 := all_of (Num.facsW_all (P := fun f => f.length ≤ 64) n2 n1 b1 (fun f hf => by show (Num.invW f).length ≤ 64; rw [Num.invW_len]; exact hf))
  have fa2 := all_of (Num.facsW_all (P := Num.SmallW) n2 n1 b2 (fun f hf => hf.inv))
  have HFA := Lib.hid (And.intro fa1 fa2)
  have hfl := Num.facsW_len imgs x
  have HW := Lib.hid (isWord_in k A c x w hA (by unfold maxLen; omega) h1)
  rw [n1] at HW
  have hcc := wordsCode_any m C imgs.length d imgs w hC rfl (by unfold maxLen; omega)
  rw [show Num.codeW m imgs = 0 by unfold Num.codeW; rw [if_pos h2, if_pos n3]] at hcc
  have HCC := Lib.hid hcc
  have HA := Lib.hid hA
  have HC := Lib.hid hC
  have HB := Lib.hid (And.intro hb1 hb2)
  have T1 : ((imgs.length : Int) != k) = false := by simp [n2]
  have HN2 := Lib.hid n2
  have HN1 := Lib.hid n1
  have hmem := w.heap.size
  clear b1 b2 hb1 hb2 fa1 fa2 hcc hA hC n2 n3 n1 hmem
  go_enter Try.func8, Try.ntmps8
  go_wp2_with (first | (go_at_call 28; (with_reducible refine (genCount_yes k _ h1).mono ?_); rintro e w' ⟨rfl, rfl⟩) | (go_at_call 28; (with_reducible refine (genCount_yes m _ h2).mono ?_); rintro e w' ⟨rfl, rfl⟩) | (go_at_call 16; refine HW.out.mono ?_; rintro e w' ⟨rfl, rfl⟩) | (go_at_call 29; refine HCC.out.mono ?_; rintro e w' ⟨rfl, rfl⟩))
  clear T1 HW HCC
  go_loopw [10, 41] (fun s10 s41 wr => ∃ j : Nat, s41 = .int .i64 j ∧ j ≤ x.length ∧ Bag 24 spI [] w.heap.size wr s10 (Num.facsW imgs (x.take j)) ∧ Below w.heap.size w wr) (fun _ s41 _ => x.length - (intOf s41).toNat)
  case atStart => exact ⟨0, rfl, by omega, Bag.nil (World.ownsRow_nil _ _ _ _), Below.refl _ _⟩
  case round =>
    obtain ⟨j, rfl, hj, bag, bel⟩ := hrel
    have Z := bel.size
    by_cases hlt : j < x.length
    · obtain ⟨g, o, rfl, hg, hc⟩ := (HA.out.below' bel) j hlt
      have j0 : (0 : Int) ≤ (j : Int) := by omega
      have j1 : (j : Int) < (x.length : Int) := by omega
      have HST := Lib.hid (Num.facsW_take imgs x j hlt)
      obtain ⟨y1, y2, y3⟩ := Num.isWB_at HN1.out hlt
      have hpl := Num.facsW_len imgs (x.take j)
      rw [List.length_take] at hpl
      generalize x.getD j 0 = y at *
      obtain ⟨vs, ho, hpush⟩ := bag.push3
      have hvb := ho.lt
      obtain ⟨A3, c3, rfl⟩ := bag.form
      have HPU := Lib.hid hpush
      clear hpush
      generalize Num.facsW imgs (x.take j) = fs at *
      have HK := HN2.out
      have hfs : fs.length ≤ 64 := by omega
      clear hpl
      rcases Int.lt_or_gt_of_ne y1 with hng | hp
      · have q0 : (0 : Int) ≤ -y - 1 := by omega
        have q1 : -y - 1 < (imgs.length : Int) := by omega
        have q2 : (-y - 1).toNat < imgs.length := by omega
        have w1 : IntKind.i64.wrap (-y) = -y := IntWalk.i64_in _ (by omega)
        have w2 : IntKind.i64.wrap (-y - 1) = -y - 1 := IntWalk.i64_in _ (by omega)
        rw [Num.facW_neg (by omega)] at HST
        obtain ⟨g4, o4, B4, c4, rfl, hg4, hc4, hl4, hr4⟩ := (HC.out.below' bel) _ q2
        have hb4 := HB.out.1 _ q2
        have hs4 := HB.out.2 _ q2
        generalize imgs.getD (-y - 1).toNat [] = f at *
        generalize hq : (-y - 1).toNat = q at *
        have hq2 : (-y).toNat - 1 = q := by omega
        clear HK
        have HI := Lib.hid (inverseWord_any B4 f.length c4 f wr hr4 rfl (by omega) hs4)
        clear hr4 hl4
        go_wp2_with (fail)
        refine HI.out.mono ?_; rintro e w5 ⟨u5, rfl, own5, bel5⟩
        obtain ⟨A5, n5, c5, rfl, hn5⟩ := own5.formN
        replace hn5 := Lib.hid hn5
        have ho5 := ownsRow_keep ho (fun k hk => bel5.block k (hvb k hk).2)
        have Z5 := bel5.size
        go_wp2_with (at_builtin; refine wpList_append_own_at _ rfl (.tmp 47) (.tmp 55) 25 rfl w.heap.size 24 iT (.slice none 0 0) 1 24 Try.underlying25 hi hz0 hz1 hz2 rfl (by decide) _ _ _ rfl (ho5.alloc _) ⟨_, 0, none⟩ 1 1 [.slice A5 n5 c5] rfl rfl (cell_one_new _ _ _) (by simp [Value.oneCell']) (by unfold maxLen; omega) (by omega) (by simp only [World.size_alloc]; omega) ?_; intro v6 w6 hown6 hgrow6 _ hat6)
        have b5 : Below wr.heap.size wr (w5.alloc (.cells #[.slice A5 n5 c5] 24)) := bel5.alloc Z5 _
        have bag6 := HPU.out _ w6 v6 (.slice A5 n5 c5) (Num.invW f) b5 (fun w2 hw2 => by
          refine ⟨A5, c5, by rw [hn5.out], by rw [Num.invW_len]; unfold maxLen; omega, ?_⟩
          have hr5 := own5.reads
          have hlt5 := World.ownsRow.lt own5
          intro i hi5
          obtain ⟨g5, o5, e5, hg5, hc5⟩ := hr5 i hi5
          subst e5
          have hgb := hlt5 g5 rfl
          refine ⟨g5, o5, rfl, ?_, ?_⟩
          · have := hw2.1; simp at this; omega
          · have e1 := hw2.2 g5 (by simp; omega) (fun e => by have := hvb g5 e; omega)
            rw [World.cell?_of_block e1]
            have hca : (w5.alloc (.cells #[.slice (some ⟨g5, o5, none⟩) n5 c5] 24)).cell? ⟨g5, o5 + i, none⟩ = w5.cell? ⟨g5, o5 + i, none⟩ := World.cell?_of_block (((Below.refl w5.heap.size w5).alloc (Nat.le_refl _) _).block g5 hgb.2)
            rw [hca]
            exact hc5) hown6 hgrow6 (by
          rcases hat6 with h | h
          · exact .inl h
          · exact .inr fun g e => by rw [h] at e; cases e; omega)
        have bel6 : Below w.heap.size w w6 := (bel.trans (b5.mono Z)).grown hgrow6 (by simp; omega) (fun k hk => (hvb k hk).1)
        exact ⟨⟨j + 1, by go_num, by omega, by rw [HST.out]; exact bag6, bel6⟩, by simp [intOf]; omega⟩
      · have q0 : (0 : Int) ≤ y - 1 := by omega
        have q1 : y - 1 < (imgs.length : Int) := by omega
        have q2 : (y - 1).toNat < imgs.length := by omega
        have q3 : ¬ y < 0 := by omega
        have w2 : IntKind.i64.wrap (y - 1) = y - 1 := IntWalk.i64_in _ (by omega)
        rw [Num.facW_pos hp] at HST
        obtain ⟨g4, o4, B4, c4, rfl, hg4, hc4, hl4, hr4⟩ := HC.out _ q2
        have hc4' : wr.cell? ⟨g4, o4 + (y - 1).toNat, none⟩ = some (.slice B4 (imgs.getD (y - 1).toNat []).length c4) := by rw [bel.cell hg4]; exact hc4
        clear hc4
        generalize imgs.getD (y - 1).toNat [] = f at *
        generalize hq : (y - 1).toNat = q at *
        have hq2 : y.toNat - 1 = q := by omega
        have HR4 := Lib.hid hr4
        clear hr4 HK
        go_wp2_with (at_builtin; refine wpList_append_own_at _ rfl (.tmp 57) (.tmp 63) 25 rfl w.heap.size 24 iT (.slice none 0 0) 1 24 Try.underlying25 hi hz0 hz1 hz2 rfl (by decide) _ _ _ rfl (ho.alloc _) ⟨_, 0, none⟩ 1 1 [.slice B4 f.length c4] rfl rfl (cell_one_new _ _ _) (by simp [Value.oneCell']) (by unfold maxLen; omega) (by omega) (by simp only [World.size_alloc]; omega) ?_; intro v6 w6 hown6 hgrow6 _ hat6)
        have b5 : Below wr.heap.size wr (wr.alloc (.cells #[.slice B4 f.length c4] 24)) := by go_grown
        have bel5 : Below w.heap.size w (wr.alloc (.cells #[.slice B4 f.length c4] 24)) := bel.alloc Z _
        have bag6 := HPU.out _ w6 v6 (.slice B4 f.length c4) f b5 (fun w2 hw2 => ⟨B4, c4, rfl, hl4, HR4.out.keep (by have := hw2.1; have := bel5.size; omega) (fun k hk => hw2.at_below bel5 bel5.size (fun g e => (hvb g e).1) hk)⟩) hown6 hgrow6 (by
          rcases hat6 with h | h
          · exact .inl h
          · exact .inr fun g e => by rw [h] at e; cases e; simp)
        have bel6 : Below w.heap.size w w6 := bel5.grown hgrow6 (by simp; omega) (fun k hk => (hvb k hk).1)
        exact ⟨⟨j + 1, by go_num, by omega, by rw [HST.out]; exact bag6, bel6⟩, by simp [intOf]; omega⟩
    · have hge : ¬ ((j : Int) < (x.length : Int)) := by omega
      obtain rfl : j = x.length := by omega
      rw [List.take_length] at bag
      obtain ⟨A3, c3, rfl⟩ := bag.form
      obtain ⟨-, -, hrw⟩ := RdW.of bag.rdII
      have HP : Hid (Calls Try.prog 31 #[.slice A3 x.length c3] wr (LimC (Num.repW imgs x) wr)) := Lib.hid (limited_any A3 x.length c3 (Num.facsW imgs x) wr hrw hfl (by omega) HFA.out.1 HFA.out.2)
      generalize Num.facsW imgs x = FS at *
      clear hrw bag
      go_wp2_with (fail)
      refine HP.out.mono ?_; intro e w3 hh
      obtain ⟨r, rfl, own, bel3⟩ := hh.up bel
      go_wp2_with (fail)
      go_ret2
      exact ⟨r, rfl, own, bel3⟩
end Go.Proofs.Ytpplojbcjgiabaa
