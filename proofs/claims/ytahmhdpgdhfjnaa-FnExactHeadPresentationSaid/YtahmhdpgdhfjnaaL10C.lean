/- Words: codes, limits, inverses of the model; the functions of one word. -/
import Derived.Test.YtahmhdpgdhfjnaaL10B
import Derived.Test.YtahmhdpgdhfjnaaKB
namespace Go.Proofs.Ytahmhdpgdhfjnaa
open Go.RowKit
set_option linter.unusedVariables false
set_option linter.unusedSimpArgs false

theorem MadeC.list {w w' : World} {v : Value} {xs : List Int} {c : Int} (ho : OwnI w' w.heap.size v xs) (hl : xs.length ≤ 1000000000) (hb : Below w.heap.size w w') : MadeC spI xs c w (.returned (.tuple #[v, .int .i64 c])) w' :=
  ⟨v, (fun k => v.ownBlock = some k), rfl, spI_of ho, fun k hk => (World.ownsRow.lt ho k hk).1, hl, hb⟩
theorem MadeC.nilW {w w' : World} {c : Int} (hb : Below w.heap.size w w') : MadeC spI [] c w (.returned (.tuple #[.slice none 0 0, .int .i64 c])) w' :=
  MadeC.list (World.ownsRow_nil _ _ _ _) (by simp) hb
theorem OwnI.base_ {w : World} {b b' : Nat} {v : Value} {xs : List Int} (h : OwnI w b v xs) (hb : b' ≤ b) : OwnI w b' v xs := ownsRow_base h hb
/-- The words of a literal. -/
theorem RdW.lit1 {w : World} {A : Option Addr} {xs : List Int} (c : Nat) (t : TypeId) (h : RdI w A xs) (hl : xs.length ≤ maxLen) : RdW (w.alloc (.cells #[.slice A xs.length c] t)) (some ⟨w.heap.size, 0, none⟩) [xs] := by
  have bel : Below w.heap.size w (w.alloc (.cells #[.slice A xs.length c] t)) := by go_grown
  intro i hi
  match i, hi with
  | 0, _ => exact ⟨_, 0, A, c, rfl, by simp, (Blk.new w [.slice A xs.length c] t).cell 0 (by simp), hl, h.below' bel⟩
  | i + 1, hi => simp at hi
theorem RdW.lit2 {w : World} {A B : Option Addr} {xs ys : List Int} (c d : Nat) (t : TypeId) (h : RdI w A xs) (hl : xs.length ≤ maxLen) (k : RdI w B ys) (kl : ys.length ≤ maxLen) :
    RdW (w.alloc (.cells #[.slice A xs.length c, .slice B ys.length d] t)) (some ⟨w.heap.size, 0, none⟩) [xs, ys] := by
  have bel : Below w.heap.size w (w.alloc (.cells #[.slice A xs.length c, .slice B ys.length d] t)) := by go_grown
  have hb := Blk.new w [.slice A xs.length c, .slice B ys.length d] t
  intro i hi
  match i, hi with
  | 0, _ => exact ⟨_, 0, A, c, rfl, by simp, hb.cell 0 (by simp), hl, h.below' bel⟩
  | 1, _ => exact ⟨_, 0, B, d, rfl, by simp, hb.cell 1 (by simp), kl, k.below' bel⟩
  | i + 2, hi => simp at hi; omega

set_option maxHeartbeats 1000000 in
theorem wordsCode_any (k : Int) (A : Option Addr) (n c : Nat) (ws : List (List Int)) (w : World) (h : RdW w A ws) (hn : ws.length = n) (hl : ws.length ≤ maxLen) :
    Calls Try.prog 152 #[.int .i64 k, .slice A n c] w fun e w' => e = .returned (.int .i64 (Num.codeW k ws)) ∧ w = w' := by
  subst hn
  unfold maxLen at hl
  by_cases hk : 0 ≤ k ∧ k ≤ 6
  · go_enter Try.func152, Try.ntmps152
    go_wp2_with (go_at_call 146; refine (genCount_yes _ _ hk).mono ?_; rintro e w' ⟨rfl, rfl⟩)
    go_loop [12] (fun s => ∃ j : Nat, j ≤ ws.length ∧ s = .int .i64 j ∧ ∀ i, i < j → Num.isWB k (ws.getD i []) = true) (fun s => ws.length - (intOf s).toNat)
    case atStart => exact ⟨0, by omega, rfl, fun i hi => by omega⟩
    case round =>
      obtain ⟨j, hj, rfl, hp⟩ := hrel
      by_cases hlt : j < ws.length
      · obtain ⟨g, o, B, d, rfl, hg, hc, hBl, hB⟩ := h j hlt
        have i0 : (0 : Int) ≤ (j : Int) := by omega
        have i1 : (j : Int) < (ws.length : Int) := by omega
        have HC := Lib.hid (isWord_in k B d (ws.getD j []) w hB hBl hk)
        cases hx : Num.isWB k (ws.getD j []) with
        | true =>
          have HP : Hid (∀ i, i < j + 1 → Num.isWB k (ws.getD i []) = true) := Lib.hid fun i hi => by
            rcases Nat.lt_succ_iff_lt_or_eq.mp hi with h1 | rfl
            · exact hp i h1
            · exact hx
          rw [hx] at HC
          clear hp hx hB hBl
          generalize ws.getD j [] = x at hc HC
          go_wp2_with (go_at_call 120; refine HC.out.mono ?_; rintro e w' ⟨rfl, rfl⟩)
          exact ⟨⟨j + 1, by omega, by go_num, HP.out⟩, by simp [intOf]; omega⟩
        | false =>
          have HB : Hid (Num.codeW k ws = 1) := Lib.hid (Num.codeW_bad hk hlt hx)
          rw [hx] at HC
          clear hp hx hB hBl
          generalize ws.getD j [] = x at hc HC
          go_wp2_with (go_at_call 120; refine HC.out.mono ?_; rintro e w' ⟨rfl, rfl⟩)
          go_ret
          exact ⟨ret_i HB.out.symm, rfl⟩
      · have hge : ¬ ((j : Int) < (ws.length : Int)) := by omega
        obtain rfl : j = ws.length := by omega
        have HB : Hid (Num.codeW k ws = 0) := Lib.hid (Num.codeW_yes hk hp)
        go_wp2_with (fail)
        go_ret
        exact ⟨ret_i HB.out.symm, rfl⟩
  · have HB : Hid (Num.codeW k ws = 2) := Lib.hid (Num.codeW_no hk)
    go_enter Try.func152, Try.ntmps152
    go_wp2_with (go_at_call 146; refine (genCount_no _ _ hk).mono ?_; rintro e w' ⟨rfl, rfl⟩)
    go_ret
    exact ⟨ret_i HB.out.symm, rfl⟩

/-- What a limited product leaves. -/
def LimC (xs : List Int) (w : World) (e : Ending) (w' : World) : Prop := ∃ v, e = .returned (.tuple #[v, .int .i64 (Num.limC xs)]) ∧ OwnI w' w.heap.size v (Num.limR xs) ∧ Below w.heap.size w w'
theorem lim_long {xs : List Int} (h : 64 < (Num.redW xs).length) : Num.limC xs = 3 ∧ Num.limR xs = [] := ⟨if_pos h, if_pos h⟩
theorem lim_fits {xs : List Int} (h : ¬ 64 < (Num.redW xs).length) : Num.limC xs = 0 ∧ Num.limR xs = Num.redW xs := ⟨if_neg h, if_neg h⟩
end Go.Proofs.Ytahmhdpgdhfjnaa
