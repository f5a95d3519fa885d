/- Words: InvertWord, MultiplyWords, WordCommutator. -/
import Derived.Test.YteappjgdcbploaaL10E
namespace Go.Proofs.Yteappjgdcbploaa
open Go.RowKit
set_option linter.unusedVariables false
set_option linter.unusedSimpArgs false

/-! ### Two words -/
theorem words_bd {k : Int} {x y : List Int} (h : Num.codeW k [x, y] = 0) : (x.length ≤ 64 ∧ Num.SmallW x) ∧ y.length ≤ 64 ∧ Num.SmallW y := by
  obtain ⟨h1, h2⟩ := Num.codeW_zero h
  have a := h2 x (by simp)
  have b := h2 y (by simp)
  exact ⟨⟨(Num.isWB_iff.mp a).1, Num.isWB_small h1.2 a⟩, (Num.isWB_iff.mp b).1, Num.isWB_small h1.2 b⟩
theorem all_of {P : List Int → Prop} {fs : List (List Int)} (h : ∀ f ∈ fs, P f) : ∀ i, i < fs.length → P (fs.getD i []) := fun i hi => by
  rw [List.getD_eq_getElem?_getD, List.getElem?_eq_getElem hi]
  exact h _ (List.getElem_mem hi)
theorem LimC.up {xs : List Int} {w w1 w' : World} {e : Ending} (h : LimC xs w1 e w') (hb : Below w.heap.size w w1) : LimC xs w e w' := by
  obtain ⟨v, h1, h2, h3⟩ := h
  exact ⟨v, h1, h2.base_ hb.size, bstep hb hb.size h3⟩
theorem OwnI.formN {w : World} {base : Nat} {v : Value} {xs : List Int} (h : OwnI w base v xs) : ∃ A n cap, v = .slice A n cap ∧ xs.length = n := by
  obtain ⟨A, c, e⟩ := h.form
  exact ⟨A, _, c, e, rfl⟩
/-- A list put behind an own list. -/
theorem wpList_app_ints {ops : Array Oper} {rest : List Oper} {o : Oper} {a : Act} {Q : Exit → Act → World → Prop} (w : World) (hgd : o.guard = none) (s x : Operand)
    (ho : o.op = .call { callee := .builtin .append, args := #[s, x], argTypes := #[22, 22] })
    (base : Nat) (v : Value) (xs ys : List Int) (hs : a.eval s = v) (hown : OwnI w base v xs) (A : Option Addr) (m c : Nat) (hm : ys.length = m) (hx : a.eval x = .slice A m c) (hr : RdI w A ys)
    (h63 : xs.length + ys.length ≤ 1000000000) (hbase : base ≤ w.heap.size)
    (h : ∀ v' w', OwnI w' base v' (xs ++ ys) → w.grownBy w' v.ownBlock → (v'.ownBlock = v.ownBlock ∨ v'.ownBlock = some w.heap.size) → wpList Try.prog ops Q rest (a.put o.dst v') w') : wpList Try.prog ops Q (o :: rest) a w := by
  obtain ⟨iT, hi, hz0, hz1, hz2⟩ := info_parts infoI
  refine wpList_append_list w hgd s x 22 ho base 2 iT (.int .i64 0) 8 Try.underlying22 hi hz0 hz1 hz2 rfl v xs.length (xs.map (Value.int .i64)) hs hown A m c (ys.map (Value.int .i64)) (by simpa using hm) hx hr.cells (oneCell_ints ys) (by unfold maxLen; omega) (by omega) hbase ?_
  intro v' w' h1 h2 h3
  refine h v' w' ?_ h2 h3
  unfold OwnI
  rw [List.length_append, List.map_append, hm]
  exact h1
set_option maxRecDepth 100000 in
set_option maxHeartbeats 1000000 in
theorem sOwnI_any (A : Option Addr) (n c : Nat) (xs : List Int) (w : World) (h : RdI w A xs) (hn : xs.length = n) (hl : xs.length ≤ 1000000) :
    Calls Try.prog 132 #[.slice A n c] w fun e w' => ∃ v, e = .returned v ∧ OwnI w' w.heap.size v xs ∧ Below w.heap.size w w' := by
  subst hn
  have b0 : Below w.heap.size w (w.alloc (.cells #[] 2)) := by go_grown
  have HA := Lib.hid (h.below' b0)
  have own0 : OwnI (w.alloc (.cells #[] 2)) w.heap.size (.slice (some ⟨w.heap.size, 0, none⟩) 0 0) [] := World.ownsRow_lit w #[] 0 (Nat.le_refl _) (by unfold maxLen; omega) rfl
  go_enter Try.func132, Try.ntmps132
  go_wp2_with (at_builtin; refine wpList_app_ints _ rfl (.tmp 3) (.tmp 4) rfl w.heap.size _ [] xs rfl own0 A _ c rfl rfl HA.out (by simp; omega) (by go_size) ?_; intro v1 w1 own1 gr1 hat1)
  go_ret
  refine ⟨_, rfl, by simpa using own1, ?_⟩
  exact b0.grown gr1 (by go_size) (fun k hk => (World.ownsRow.lt own0 k hk).1)
end Go.Proofs.Yteappjgdcbploaa
