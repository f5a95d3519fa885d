/- Words: codes, limits, inverses of the model; the functions of one word. -/
import Derived.Test.YtpplojbcjgiabaaL10B
import Derived.Test.YtpplojbcjgiabaaKB
namespace Go.Proofs.Ytpplojbcjgiabaa
open Go.RowKit
set_option linter.unusedVariables false
set_option linter.unusedSimpArgs false

theorem MadeC.list {w w' : World} {v : Value} {xs : List Int} {c : Int} (ho : OwnI w' w.heap.size v xs) (hl : xs.length ≤ 1000000000) (hb : Below w.heap.size w w') : MadeC spI xs c w (.returned (.tuple #[v, .int .i64 c])) w' :=
  ⟨v, (fun k => v.ownBlock = some k), rfl, spI_of ho, fun k hk => (World.ownsRow.lt ho k hk).1, hl, hb⟩
theorem MadeC.nilW {w w' : World} {c : Int} (hb : Below w.heap.size w w') : MadeC spI [] c w (.returned (.tuple #[.slice none 0 0, .int .i64 c])) w' :=
  MadeC.list (World.ownsRow_nil _ _ _ _) (by simp) hb
theorem OwnI.base_ {w : World} {b b' : Nat} {v : Value} {xs : List Int} (h : OwnI w b v xs) (hb : b' ≤ b) : OwnI w b' v xs := ownsRow_base h hb
/-- The words of a literal. -/
theorem RdW.lit1 {w : World} {A : Option Addr} {xs : List Int} (c : Nat) (t : TypeId) (h : RdI w A xs) (hl : xs.length ≤ maxLen) : RdW (w.alloc (.cells #[.slice A xs.length c] t)) (some ⟨w.heap.size, 0, none⟩) [xs] := by
  have bel : Below w.heap.size w (w.alloc (.cells #[.slice A xs.length c] t)) := by go_grown
  intro i hi
  match i, hi with
  | 0, _ => exact ⟨_, 0, A, c, rfl, by simp, (Blk.new w [.slice A xs.length c] t).cell 0 (by simp), hl, h.below' bel⟩
  | i + 1, hi => simp at hi
theorem RdW.lit2 {w : World} {A B : Option Addr} {xs ys : List Int} (c d : Nat) (t : TypeId) (h : RdI w A xs) (hl : xs.length ≤ maxLen) (k : RdI w B ys) (kl : ys.length ≤ maxLen) :
    RdW (w.alloc (.cells #[.slice A xs.length c, .slice B ys.length d] t)) (some ⟨w.heap.size, 0, none⟩) [xs, ys] := by
  have bel : Below w.heap.size w (w.alloc (.cells #[.slice A xs.length c, .slice B ys.length d] t)) := by go_grown
  have hb := Blk.new w [.slice A xs.length c, .slice B ys.length d] t
  intro i hi
  match i, hi with
  | 0, _ => exact ⟨_, 0, A, c, rfl, by simp, hb.cell 0 (by simp), hl, h.below' bel⟩
  | 1, _ => exact ⟨_, 0, B, d, rfl, by simp, hb.cell 1 (by simp), kl, k.below' bel⟩
  | i + 2, hi => simp at hi; omega

set_option maxHeartbeats 1000000 in
theorem wordsCode_any (k : Int) (A : Option Addr) (n c : Nat) (ws : List (List Int)) (w : World) (h : RdW w A ws) (hn : ws.length = n) (hl : ws.length ≤ maxLen) :
    Calls Try.prog 29 #[.int .i64 k, .slice A n c] w fun e w' => e = .returned (.int .i64 (Num.codeW k ws)) ∧ w = w' := by
  subst hn
  unfold maxLen at hl
  by_cases hk : 0 ≤ k ∧ k ≤ 6
  · go_enter Try.func29, Try.ntmps29
    go_wp2_with (go_at_call 28; refine (genCount_yes _ _ hk).mono ?_; rintro e w' ⟨rfl, rfl⟩)
    go_loop [12] (fun s => ∃ j : Nat, j ≤ ws.length ∧ s = .int .i64 j ∧ ∀ i, i < j → Num.isWB k (ws.getD i []) = true) (fun s => ws.length - (intOf s).toNat)
    case atStart => exact ⟨0, by omega, rfl, fun i hi => by omega⟩
    case round =>
      obtain ⟨j, hj, rfl, hp⟩ := hrel
      by_cases hlt : j < ws.length
      · obtain ⟨g, o, B, d, rfl, hg, hc, hBl, hB⟩ := h j hlt
        have i0 : (0 : Int) ≤ (j : Int) := by omega
        have i1 : (j : Int) < (ws.length : Int) := by omega
        have HC := Lib.hid (isWord_in k B d (ws.getD j []) w hB hBl hk)
        cases hx : Num.isWB k (ws.getD j []) with
        | true =>
          have HP : Hid (∀ i, i < j + 1 → Num.isWB k (ws.getD i []) = true) := Lib.hid fun i hi => by
            rcases Nat.lt_succ_iff_lt_or_eq.mp hi with h1 | rfl
            · exact hp i h1
            · exact hx
          rw [hx] at HC
          clear hp hx hB hBl
          generalize ws.getD j [] = x at hc HC
          go_wp2_with (go_at_call 16; refine HC.out.mono ?_; rintro e w' ⟨rfl, rfl⟩)
          exact ⟨⟨j + 1, by omega, by go_num, HP.out⟩, by simp [intOf]; omega⟩
        | false =>
          have HB : Hid (Num.codeW k ws = 1) := Lib.hid (Num.codeW_bad hk hlt hx)
          rw [hx] at HC
          clear hp hx hB hBl
          generalize ws.getD j [] = x at hc HC
          go_wp2_with (go_at_call 16; refine HC.out.mono ?_; rintro e w' ⟨rfl, rfl⟩)
          go_ret
          exact ⟨ret_i HB.out.symm, rfl⟩
      · have hge : ¬ ((j : Int) < (ws.length : Int)) := by omega
        obtain rfl : j = ws.length := by omega
        have HB : Hid (Num.codeW k ws = 0) := Lib.hid (Num.codeW_yes hk hp)
        go_wp2_with (fail)
        go_ret
        exact ⟨ret_i HB.out.symm, rfl⟩
  · have HB : Hid (Num.codeW k ws = 2) := Lib.hid (Num.codeW_no hk)
    go_enter Try.func29, Try.ntmps29
    go_wp2_with (go_at_call 28; refine (genCount_no _ _ hk).mono ?_; rintro e w' ⟨rfl, rfl⟩)
    go_ret
    exact ⟨ret_i HB.out.symm, rfl⟩

/-- What a limited product leaves. -/
def LimC (xs : List Int) (w : World) (e : Ending) (w' : World) : Prop := ∃ v, e = .returned (.tuple #[v, .int .i64 (Num.limC xs)]) ∧ OwnI w' w.heap.size v (Num.limR xs) ∧ Below w.heap.size w w'
theorem lim_long {xs : List Int} (h : 64 < (Num.redW xs).length) : Num.limC xs = 3 ∧ Num.limR xs = [] := ⟨if_pos h, if_pos h⟩
theorem lim_fits {xs : List Int} (h : ¬ 64 < (Num.redW xs).length) : Num.limC xs = 0 ∧ Num.limR xs = Num.redW xs := ⟨if_neg h, if_neg h⟩
set_option maxHeartbeats 1000000 in
theorem limited_any (A : Option Addr) (n c : Nat) (fs : List (List Int)) (w : World) (h : RdW w A fs) (hn : fs.length = n) (hl : fs.length ≤ 1000) (hb : ∀ i, i < fs.length → (fs.getD i []).length ≤ 64) (hs : ∀ i, i < fs.length → Num.SmallW (fs.getD i [])) :
    Calls Try.prog 31 #[.slice A n c] w (LimC fs.flatten w) := by
  subst hn
  have HC := Lib.hid (wordProduct_any A c fs w h hl hb hs)
  by_cases hx : 64 < (Num.redW fs.flatten).length
  · obtain ⟨l1, l2⟩ := lim_long hx
    have L1 := Lib.hid l1
    have L2 := Lib.hid l2
    clear l1 l2 h hb hs
    generalize Num.redW fs.flatten = r at *
    go_enter Try.func31, Try.ntmps31
    go_wp2_with (fail)
    refine HC.out.mono ?_; rintro e w1 ⟨v, rfl, own, bel⟩
    obtain ⟨A1, c1, rfl⟩ := own.form
    have k1 : (64 : Int) < (r.length : Int) := by omega
    go_wp2_with (fail)
    go_ret2
    exact ⟨_, by rw [L1.out]; rfl, by rw [L2.out]; exact World.ownsRow_nil _ _ _ _, bel⟩
  · obtain ⟨l1, l2⟩ := lim_fits hx
    have L1 := Lib.hid l1
    have L2 := Lib.hid l2
    clear l1 l2 h hb hs
    generalize Num.redW fs.flatten = r at *
    go_enter Try.func31, Try.ntmps31
    go_wp2_with (fail)
    refine HC.out.mono ?_; rintro e w1 ⟨v, rfl, own, bel⟩
    obtain ⟨A1, c1, rfl⟩ := own.form
    have k1 : ¬ (64 : Int) < (r.length : Int) := by omega
    go_wp2_with (fail)
    go_ret2
    exact ⟨_, by rw [L1.out]; rfl, by rw [L2.out]; exact own, bel⟩
set_option maxHeartbeats 1000000 in
theorem sResult_any (A : Option Addr) (n c : Nat) (xs : List Int) (w : World) (h : RdI w A xs) (hn : xs.length = n) (hl : xs.length ≤ 1000000) (hs : Num.SmallW xs) :
    Calls Try.prog 34 #[.slice A n c] w (LimC xs w) := by
  subst hn
  have HC := Lib.hid (sReduce_any A c xs w h hl hs)
  by_cases hx : 64 < (Num.redW xs).length
  · obtain ⟨l1, l2⟩ := lim_long hx
    have L1 := Lib.hid l1
    have L2 := Lib.hid l2
    clear l1 l2 h hs
    generalize Num.redW xs = r at *
    go_enter Try.func34, Try.ntmps34
    go_wp2_with (fail)
    refine HC.out.mono ?_; rintro e w1 ⟨v, rfl, own, bel⟩
    obtain ⟨A1, c1, rfl⟩ := own.form
    have k1 : (64 : Int) < (r.length : Int) := by omega
    go_wp2_with (fail)
    go_ret2
    exact ⟨_, by rw [L1.out]; rfl, by rw [L2.out]; exact World.ownsRow_nil _ _ _ _, bel⟩
  · obtain ⟨l1, l2⟩ := lim_fits hx
    have L1 := Lib.hid l1
    have L2 := Lib.hid l2
    clear l1 l2 h hs
    generalize Num.redW xs = r at *
    go_enter Try.func34, Try.ntmps34
    go_wp2_with (fail)
    refine HC.out.mono ?_; rintro e w1 ⟨v, rfl, own, bel⟩
    obtain ⟨A1, c1, rfl⟩ := own.form
    have k1 : ¬ (64 : Int) < (r.length : Int) := by omega
    go_wp2_with (fail)
    go_ret2
    exact ⟨_, by rw [L1.out]; rfl, by rw [L2.out]; exact own, bel⟩
set_option maxHeartbeats 1000000 in
theorem sCode_any (k : Int) (A B : Option Addr) (c d n m : Nat) (xs ys : List Int) (w : World) (h : RdI w A xs) (hn : xs.length = n) (hl : xs.length ≤ maxLen) (h' : RdI w B ys) (hm : ys.length = m) (hl' : ys.length ≤ maxLen) :
    Calls Try.prog 40 #[.int .i64 k, .slice A n c, .slice B m d] w fun e w' => e = .returned (.int .i64 (Num.codeW k [xs, ys])) ∧ w = w' := by
  subst hn hm
  rw [Num.codeW_two]
  by_cases hk : 0 ≤ k ∧ k ≤ 6
  · rw [if_pos hk]
    have HC := Lib.hid (sWordB_any k A c xs w h hl hk)
    have HD := Lib.hid (sWordB_any k B d ys w h' hl' hk)
    cases hx : Num.isWB k xs <;> cases hy : Num.isWB k ys <;> rw [hx] at HC <;> rw [hy] at HD <;> clear hx hy h h' hl hl'
    all_goals
      go_enter Try.func40, Try.ntmps40
      go_wp2_with (first | (go_at_call 32; refine (sIn_yes _ _ _ _ hk.1 hk.2).mono ?_; rintro e w' ⟨rfl, rfl⟩) | (go_at_call 33; refine HC.out.mono ?_; rintro e w' ⟨rfl, rfl⟩; clear HC) | (go_at_call 33; refine HD.out.mono ?_; rintro e w' ⟨rfl, rfl⟩))
      go_ret
      exact ⟨rfl, rfl⟩
  · rw [if_neg hk]
    have HN : Hid (k < 0 ∨ 6 < k) := Lib.hid (by omega)
    go_enter Try.func40, Try.ntmps40
    go_wp2_with (first | (go_at_call 32; refine (sIn_no _ _ _ _ HN.out).mono ?_; rintro e w' ⟨rfl, rfl⟩))
    go_ret
    exact ⟨rfl, rfl⟩
set_option maxRecDepth 100000 in
set_option maxHeartbeats 1000000 in
theorem sInvert_any (A : Option Addr) (n c : Nat) (xs : List Int) (w : World) (h : RdI w A xs) (hn : xs.length = n) (hl : xs.length ≤ 1000000) (hs : Num.SmallW xs) :
    Calls Try.prog 58 #[.slice A n c] w fun e w' => ∃ v, e = .returned v ∧ OwnI w' w.heap.size v (Num.invW xs) ∧ Below w.heap.size w w' := by
  subst hn
  obtain ⟨i0, hi, hz0, hz1, hz2⟩ := info_parts infoI
  have w9 : IntKind.i64.wrap ((xs.length : Int) - 1) = (xs.length : Int) - 1 := IntWalk.i64_in _ (by omega)
  go_enter Try.func58, Try.ntmps58
  go_wp2_with (fail)
  go_loopw [3, 4] (fun s3 s4 wr => ∃ t : Nat, t ≤ xs.length ∧ s4 = .int .i64 ((xs.length : Int) - 1 - (t : Int)) ∧ OwnI wr w.heap.size s3 ((Num.invW xs).take t) ∧ Below w.heap.size w wr) (fun _ s4 _ => (intOf s4 + 1).toNat)
  case atStart => exact ⟨0, by omega, by simp, World.ownsRow_lit w #[] 0 (Nat.le_refl _) (by unfold maxLen; omega) rfl, by go_grown⟩
  case round =>
    obtain ⟨t, ht, rfl, own, bw⟩ := hrel
    have Z := bw.size
    by_cases hlt : t < xs.length
    · obtain ⟨g, o, rfl, hg, hc⟩ := (h.below' bw) (xs.length - 1 - t) (by omega)
      have HST := Lib.hid (Num.invW_take xs t hlt)
      have hsx := hs.at_ (xs.length - 1 - t) (by omega)
      have hol : ((Num.invW xs).take t).length ≤ 1000000 := by rw [List.length_take]; omega
      generalize xs.getD (xs.length - 1 - t) 0 = x at hc HST hsx
      generalize (Num.invW xs).take t = out at own HST hol
      have q0 : (0 : Int) ≤ (xs.length : Int) - 1 - (t : Int) := by omega
      have q1 : (xs.length : Int) - 1 - (t : Int) < (xs.length : Int) := by omega
      have q2 : ((xs.length : Int) - 1 - (t : Int)).toNat = xs.length - 1 - t := by omega
      have q3 : IntKind.i64.wrap ((xs.length : Int) - 1 - (t : Int) - 1) = (xs.length : Int) - 1 - (t : Int) - 1 := IntWalk.i64_in _ (by omega)
      have q4 : IntKind.i64.wrap (-x) = -x := IntWalk.i64_in _ (by omega)
      obtain ⟨A3, c3, rfl⟩ := own.form
      go_wp2_with (at_builtin; refine wpList_append_own_at _ rfl (.tmp 13) (.tmp 19) 24 rfl w.heap.size 2 i0 (.int .i64 0) 1 8 Try.underlying24 hi hz0 hz1 hz2 rfl (by decide) _ _ _ rfl (own.alloc _) ⟨_, 0, none⟩ 1 1 [.int .i64 (-x)] rfl rfl (cell_one_new _ _ _) (by simp [Value.oneCell']) (by unfold maxLen; omega) (by omega) (by go_size) ?_; intro v1 w1 hown1 hgrow1 _ hat1)
      obtain ⟨p1, p2⟩ := push_post own bw hown1 hgrow1
      exact ⟨⟨t + 1, by omega, by congr 1; omega, by rw [HST.out]; exact p1, p2⟩, by simp [intOf]; omega⟩
    · obtain rfl : t = xs.length := by omega
      have q0 : ¬ ((0 : Int) ≤ (xs.length : Int) - 1 - (xs.length : Int)) := by omega
      rw [List.take_of_length_le (by rw [Num.invW_len]; omega)] at own
      go_wp2_with (fail)
      go_ret
      exact ⟨_, rfl, own, bw⟩
end Go.Proofs.Ytpplojbcjgiabaa
