/- Words: reduced forms, of the program and of the model. -/
import Derived.Test.YtpplojbcjgiabaaL10A
import Derived.Test.YtpplojbcjgiabaaKB
import Derived.Maps.AppendAt
namespace Go.Proofs.Ytpplojbcjgiabaa
open Go.RowKit
set_option linter.unusedVariables false
set_option linter.unusedSimpArgs false

/-- A list that is not empty: its last element, and the list without it. -/
theorem OwnI.last {w : World} {base : Nat} {v : Value} {o : List Int} {y : Int} (h : OwnI w base v (o ++ [y])) :
    ∃ g n c, v = .slice (some ⟨g, 0, none⟩) n c ∧ n = o.length + 1 ∧ n ≤ c ∧ c ≤ maxLen ∧ base ≤ g ∧ OwnI w base (.slice (some ⟨g, 0, none⟩) (n - 1) c) o ∧ w.cell? ⟨g, n - 1, none⟩ = some (.int .i64 y) := by
  have h' := h
  unfold OwnI at h'
  rcases h'.2 with ⟨_, h0⟩ | ⟨g, cap, cur, rfl, hb, hg, hn, hm, hs, ht⟩
  · simp at h0
  · have hl : (o ++ [y]).length = o.length + 1 := by simp
    refine ⟨g, _, cap, rfl, hl, hn, hm, hb, ⟨by simp, .inr ⟨g, cap, cur, by rw [hl]; rfl, hb, hg, by omega, hm, hs, ?_⟩⟩, ?_⟩
    · have ht' := congrArg (fun l => List.take (o.length * 1) l) ht
      simp only [List.take_take, List.map_append, List.map_cons, List.map_nil] at ht'
      rw [Nat.min_eq_left (by omega)] at ht'
      rw [ht', List.take_append_of_le_length (by simp)]
      exact List.take_of_length_le (by simp)
    · have hc := World.ownsRow.cellAt h' (o.length) (by omega)
      rw [show (o ++ [y]).length - 1 = o.length by omega, hc]
      simp
theorem push_post {w wr w1 : World} {v v1 : Value} {xs : List Int} {x : Int} {t : TypeId} (own : OwnI wr w.heap.size v xs) (bw : Below w.heap.size w wr)
    (hown1 : w1.ownsRow w.heap.size 2 1 v1 (xs.length + 1) (xs.map (Value.int .i64) ++ [.int .i64 x])) (hg : (wr.alloc (.cells #[.int .i64 x] t)).grownBy w1 v.ownBlock) :
    OwnI w1 w.heap.size v1 (xs ++ [x]) ∧ Below w.heap.size w w1 :=
  ⟨OwnI.snoc hown1, (bw.alloc bw.size _).grown hg (by have := bw.size; go_size) (fun k hk => (World.ownsRow.lt own k hk).1)⟩

set_option maxRecDepth 100000 in
set_option maxHeartbeats 1000000 in
theorem sReduce_any (A : Option Addr) (c : Nat) (xs : List Int) (w : World) (h : RdI w A xs) (hl : xs.length ≤ 1000000) (hs : Num.SmallW xs) :
    Calls Try.prog 61 #[.slice A xs.length c] w fun e w' => ∃ v, e = .returned v ∧ OwnI w' w.heap.size v (Num.redW xs) ∧ Below w.heap.size w w' := by
  obtain ⟨i0, hi, hz0, hz1, hz2⟩ := info_parts infoI
  go_enter Try.func61, Try.ntmps61
  go_wp2_with (fail)
  go_loopw [3, 4] (fun s3 s4 wr => ∃ j : Nat, j ≤ xs.length ∧ s4 = .int .i64 j ∧ OwnI wr w.heap.size s3 (Num.redF [] (xs.take j)) ∧ Below w.heap.size w wr) (fun _ s4 _ => xs.length - (intOf s4).toNat)
  case atStart => exact ⟨0, by omega, rfl, World.ownsRow_lit w #[] 0 (Nat.le_refl _) (by unfold maxLen; omega) rfl, by go_grown⟩
  case round =>
    obtain ⟨j, hj, rfl, own, bw⟩ := hrel
    have Z := bw.size
    by_cases hlt : j < xs.length
    · obtain ⟨g, o, rfl, hg, hc⟩ := (h.below' bw) j hlt
      have i0' : (0 : Int) ≤ (j : Int) := by omega
      have i1' : (j : Int) < (xs.length : Int) := by omega
      have hst := Num.redF_step [] xs j hlt
      have hln := Num.redF_len [] (xs.take j)
      have hsx := hs.at_ j hlt
      have hsm : Num.SmallW (Num.redF [] (xs.take j)) := Num.SmallW.nil.red (fun z hz => hs z (List.mem_of_mem_take hz))
      simp only [List.length_take, List.length_nil, Nat.zero_add] at hln
      generalize xs.getD j 0 = x at hc hst hsx
      generalize Num.redF [] (xs.take j) = out at own hst hln hsm
      have HST := Lib.hid hst
      clear hst
      have w1 : IntKind.i64.wrap (-x) = -x := IntWalk.i64_in _ (by omega)
      rcases Num.concatW_cases out with rfl | ⟨o', y, rfl⟩
      · obtain ⟨A3, c3, rfl⟩ := own.form
        rw [Num.pushW_nil] at HST
        go_wp2_with (fail)
        go_quiet (fail)
        go_wp2_with (at_builtin; refine wpList_append_own_at _ rfl (.tmp 34) (.tmp 39) 24 rfl w.heap.size 2 i0 (.int .i64 0) 1 8 Try.underlying24 hi hz0 hz1 hz2 rfl (by decide) _ _ _ rfl ((own.drewN _).alloc _) ⟨_, 0, none⟩ 1 1 [.int .i64 x] rfl rfl (cell_one_new _ _ _) (by simp [Value.oneCell']) (by unfold maxLen; simp) (by simp) (by go_size) ?_; intro v1 w1 hown1 hgrow1 _ hat1)
        obtain ⟨p1, p2⟩ := push_post (own.drewN _) (below_drewN bw _) hown1 hgrow1
        exact ⟨⟨j + 1, by omega, by go_num, by rw [HST.out]; exact p1, p2⟩, by simp [intOf]; omega⟩
      · obtain ⟨g3, n3, c3, rfl, hn3, hnc, hcm, hb3, own3, hc3⟩ := own.last
        clear hcm
        have hl2 : (o' ++ [y]).length = o'.length + 1 := by simp
        have k6 : n3 ≤ 1000001 := by omega
        clear hl2
        have k0 : decide (0 < n3) = true := decide_eq_true (by omega)
        have k1 : (0 : Int) ≤ (n3 : Int) - 1 := by omega
        have k2 : (n3 : Int) - 1 < (n3 : Int) := by omega
        have k3 : ((n3 : Int) - 1).toNat = n3 - 1 := by omega
        have k4 : (n3 : Int) - 1 ≤ (c3 : Int) := by omega
        have k5 : ¬ c3 = 0 := by omega
        have HN3 := Lib.hid hn3
        clear hn3
        by_cases hy : y = -x
        · have T1 : (y == -x) = true := by simpa using hy
          rw [Num.pushW_same o' hy] at HST
          clear hy
          go_wp2_with (fail)
          go_quiet (fail)
          go_wp2_with (fail)
          exact ⟨⟨j + 1, by omega, by go_num, by rw [HST.out]; exact own3.drewN _, below_drewN bw _⟩, by simp [intOf]; omega⟩
        · have T1 : (y == -x) = false := by simpa using hy
          rw [Num.pushW_other o' hy] at HST
          clear hy
          go_wp2_with (fail)
          go_quiet (fail)
          go_wp2_with (at_builtin; refine wpList_append_own_at _ rfl (.tmp 34) (.tmp 39) 24 rfl w.heap.size 2 i0 (.int .i64 0) 1 8 Try.underlying24 hi hz0 hz1 hz2 rfl (by decide) _ _ _ rfl ((own.drewN _).alloc _) ⟨_, 0, none⟩ 1 1 [.int .i64 x] rfl rfl (cell_one_new _ _ _) (by simp [Value.oneCell']) (by unfold maxLen; omega) (by omega) (by go_size) ?_; intro v1 w1 hown1 hgrow1 _ hat1)
          obtain ⟨p1, p2⟩ := push_post (own.drewN _) (below_drewN bw _) hown1 hgrow1
          exact ⟨⟨j + 1, by omega, by go_num, by rw [HST.out]; exact p1, p2⟩, by simp [intOf]; omega⟩
    · have hge : ¬ ((j : Int) < (xs.length : Int)) := by omega
      obtain rfl : j = xs.length := by omega
      rw [List.take_length] at own
      go_wp2_with (fail)
      go_ret
      exact ⟨_, rfl, own, bw⟩

/-- The words that a list of lists holds. -/
def RdW (w : World) (A : Option Addr) (fs : List (List Int)) : Prop := ∀ i, i < fs.length → ∃ g o B c, A = some ⟨g, o, none⟩ ∧ g < w.heap.size ∧ w.cell? ⟨g, o + i, none⟩ = some (.slice B (fs.getD i []).length c) ∧ (fs.getD i []).length ≤ maxLen ∧ RdI w B (fs.getD i [])
theorem RdW.below' {w w' : World} {A : Option Addr} {fs : List (List Int)} (h : RdW w A fs) (hb : Below w.heap.size w w') : RdW w' A fs := by
  intro i hi
  obtain ⟨g, o, B, c, rfl, hg, hc, hl, hr⟩ := h i hi
  exact ⟨g, o, B, c, rfl, by have := hb.size; omega, by rw [hb.cell hg]; exact hc, hl, hr.below' hb⟩
theorem RdW.of {w : World} {A : Option Addr} {n c : Nat} {fs : List (List Int)} (h : spII.rd w (.slice A n c) fs) : n = fs.length ∧ fs.length ≤ maxLen ∧ RdW w A fs := by
  obtain ⟨A', c', e, hm, hr⟩ := h
  simp only [Value.slice.injEq] at e
  obtain ⟨rfl, rfl, rfl⟩ := e
  refine ⟨rfl, hm, fun i hi => ?_⟩
  obtain ⟨g, o, v, e, hg, hc, B, cB, hv, hlm, hrd⟩ := hr i hi
  subst hv
  exact ⟨g, o, B, cB, e, hg, hc, hlm, hrd⟩

set_option maxRecDepth 100000 in
set_option maxHeartbeats 2000000 in
theorem wordProduct_any (A : Option Addr) (c : Nat) (fs : List (List Int)) (w : World) (h : RdW w A fs) (hl : fs.length ≤ 1000) (hb : ∀ i, i < fs.length → (fs.getD i []).length ≤ 64) (hs : ∀ i, i < fs.length → Num.SmallW (fs.getD i [])) :
    Calls Try.prog 60 #[.slice A fs.length c] w fun e w' => ∃ v, e = .returned v ∧ OwnI w' w.heap.size v (Num.redW fs.flatten) ∧ Below w.heap.size w w' := by
  obtain ⟨i0, hi, hz0, hz1, hz2⟩ := info_parts infoI
  go_enter Try.func60, Try.ntmps60
  go_wp2_with (fail)
  go_loopw [3, 11] (fun s3 s11 wr => ∃ i : Nat, i ≤ fs.length ∧ s11 = .int .i64 i ∧ OwnI wr w.heap.size s3 (Num.redW (fs.take i).flatten) ∧ Below w.heap.size w wr) (fun _ s11 _ => fs.length - (intOf s11).toNat)
  case atStart => exact ⟨0, by omega, rfl, World.ownsRow_nil _ _ _ _, Below.refl _ _⟩
  case round =>
    obtain ⟨i, hi', rfl, own, bw⟩ := hrel
    by_cases hlt : i < fs.length
    · obtain ⟨g, o, B, cB, rfl, hg0, hc0, hBl, hB⟩ := h i hlt
      have hc : wr.cell? ⟨g, o + i, none⟩ = some (.slice B (fs.getD i []).length cB) := by rw [bw.cell hg0]; exact hc0
      have hg : g < wr.heap.size := by have := bw.size; omega
      clear hg0 hc0
      have i0' : (0 : Int) ≤ (i : Int) := by omega
      have i1' : (i : Int) < (fs.length : Int) := by omega
      have HST := Lib.hid (Num.redW_flat fs i hlt)
      have hfl := Num.redW_bd fs i hlt hb
      have hso := Num.redW_sm fs i hs
      have hsf := hs i hlt
      have hbf := hb i hlt
      generalize Num.redW (fs.take i).flatten = out at own HST hfl hso
      generalize fs.getD i [] = f at *
      clear hBl hb hs h
      generalize wr = W0 at *
      go_wp2_with (fail)
      go_loopw [3, 17] (fun s3 s17 wr => ∃ j : Nat, j ≤ f.length ∧ s17 = .int .i64 j ∧ OwnI wr w.heap.size s3 (Num.redF out (f.take j)) ∧ Below w.heap.size w wr) (fun _ s17 _ => f.length - (intOf s17).toNat)
      case atStart => exact ⟨0, by omega, rfl, own, bw⟩
      case round =>
        obtain ⟨j, hj, rfl, own', bw'⟩ := hrel
        have Z := bw'.size
        by_cases hlt2 : j < f.length
        · obtain ⟨g2, o2, rfl, hg2, hc2⟩ := (hB.below' bw') j hlt2
          have j0' : (0 : Int) ≤ (j : Int) := by omega
          have j1' : (j : Int) < (f.length : Int) := by omega
          have hst := Num.redF_step out f j hlt2
          have hln := Num.redF_len out (f.take j)
          have hsx := hsf.at_ j hlt2
          have hsm : Num.SmallW (Num.redF out (f.take j)) := hso.red (fun z hz => hsf z (List.mem_of_mem_take hz))
          simp only [List.length_take] at hln
          generalize f.getD j 0 = x at hc2 hst hsx
          generalize Num.redF out (f.take j) = pr at own' hst hln hsm
          have HST2 := Lib.hid hst
          clear hst
          rcases Num.concatW_cases pr with rfl | ⟨o', y, rfl⟩
          · obtain ⟨A3, c3, rfl⟩ := own'.form
            rw [Num.pushW_nil] at HST2
            go_wp2_with (at_builtin; refine wpList_append_own_at _ rfl (.tmp 38) (.tmp 40) 24 rfl w.heap.size 2 i0 (.int .i64 0) 1 8 Try.underlying24 hi hz0 hz1 hz2 rfl (by decide) _ _ _ rfl (own'.alloc _) ⟨_, 0, none⟩ 1 1 [.int .i64 x] rfl rfl (cell_one_new _ _ _) (by simp [Value.oneCell']) (by unfold maxLen; simp) (by simp) (by go_size) ?_; intro v1 w1 hown1 hgrow1 _ hat1)
            obtain ⟨p1, p2⟩ := push_post own' bw' hown1 hgrow1
            exact ⟨⟨j + 1, by omega, by go_num, by rw [HST2.out]; exact p1, p2⟩, by simp [intOf]; omega⟩
          · obtain ⟨g3, n3, c3, rfl, hn3, hnc, hcm, hb3, own3, hc3⟩ := own'.last
            clear hcm
            have hl2 : (o' ++ [y]).length = o'.length + 1 := by simp
            have k6 : n3 ≤ 1000001 := by omega
            have hsy := hsm y (by simp)
            clear hl2
            have k0 : decide (0 < n3) = true := decide_eq_true (by omega)
            have k1 : (0 : Int) ≤ (n3 : Int) - 1 := by omega
            have k2 : (n3 : Int) - 1 < (n3 : Int) := by omega
            have k3 : ((n3 : Int) - 1).toNat = n3 - 1 := by omega
            have k4 : (n3 : Int) - 1 ≤ (c3 : Int) := by omega
            have k5 : ¬ c3 = 0 := by omega
            have hw2 : IntKind.i64.wrap (y + x) = y + x := IntWalk.i64_in _ (by omega)
            have HN3 := Lib.hid hn3
            clear hn3
            by_cases hy : y = -x
            · have T1 : (y + x == 0) = true := by simp; omega
              rw [Num.pushW_same o' hy] at HST2
              clear hy
              go_wp2_with (fail)
              exact ⟨⟨j + 1, by omega, by go_num, by rw [HST2.out]; exact own3, bw'⟩, by simp [intOf]; omega⟩
            · have T1 : (y + x == 0) = false := by simp; omega
              rw [Num.pushW_other o' hy] at HST2
              clear hy
              go_wp2_with (at_builtin; refine wpList_append_own_at _ rfl (.tmp 38) (.tmp 40) 24 rfl w.heap.size 2 i0 (.int .i64 0) 1 8 Try.underlying24 hi hz0 hz1 hz2 rfl (by decide) _ _ _ rfl (own'.alloc _) ⟨_, 0, none⟩ 1 1 [.int .i64 x] rfl rfl (cell_one_new _ _ _) (by simp [Value.oneCell']) (by unfold maxLen; omega) (by omega) (by go_size) ?_; intro v1 w1 hown1 hgrow1 _ hat1)
              obtain ⟨p1, p2⟩ := push_post own' bw' hown1 hgrow1
              exact ⟨⟨j + 1, by omega, by go_num, by rw [HST2.out]; exact p1, p2⟩, by simp [intOf]; omega⟩
        · have hge : ¬ ((j : Int) < (f.length : Int)) := by omega
          obtain rfl : j = f.length := by omega
          rw [List.take_length] at own'
          go_wp2_with (fail)
          exact ⟨⟨i + 1, by omega, by go_num, by rw [HST.out]; exact own', bw'⟩, by simp [intOf]; omega⟩
    · have hge : ¬ ((i : Int) < (fs.length : Int)) := by omega
      obtain rfl : i = fs.length := by omega
      rw [List.take_length] at own
      go_wp2_with (fail)
      go_ret
      exact ⟨_, rfl, own, bw⟩
end Go.Proofs.Ytpplojbcjgiabaa
