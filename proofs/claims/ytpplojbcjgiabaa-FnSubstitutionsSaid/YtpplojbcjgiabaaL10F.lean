/- Words: InvertWord, MultiplyWords, WordCommutator. -/
import Derived.Test.YtpplojbcjgiabaaL10E
namespace Go.Proofs.Ytpplojbcjgiabaa
open Go.RowKit
set_option linter.unusedVariables false
set_option linter.unusedSimpArgs false

/-! ### Two words -/
theorem words_bd {k : Int} {x y : List Int} (h : Num.codeW k [x, y] = 0) : (x.length ≤ 64 ∧ Num.SmallW x) ∧ y.length ≤ 64 ∧ Num.SmallW y := by
  obtain ⟨h1, h2⟩ := Num.codeW_zero h
  have a := h2 x (by simp)
  have b := h2 y (by simp)
  exact ⟨⟨(Num.isWB_iff.mp a).1, Num.isWB_small h1.2 a⟩, (Num.isWB_iff.mp b).1, Num.isWB_small h1.2 b⟩
theorem codes_two (k : Int) (A B : Option Addr) (c d : Nat) (x y : List Int) (w : World) (h : RdI w A x) (hl : x.length ≤ maxLen) (h' : RdI w B y) (hl' : y.length ≤ maxLen) :
    Calls Try.prog 29 #[.int .i64 k, .slice (some ⟨w.heap.size, 0, none⟩) 2 2] (w.alloc (.cells #[.slice A x.length c, .slice B y.length d] 24)) fun e w' => e = .returned (.int .i64 (Num.codeW k [x, y])) ∧ (w.alloc (.cells #[.slice A x.length c, .slice B y.length d] 24)) = w' :=
  wordsCode_any k _ 2 2 [x, y] _ (RdW.lit2 c d 24 h hl h' hl') rfl (by unfold maxLen; simp)
theorem all_of {P : List Int → Prop} {fs : List (List Int)} (h : ∀ f ∈ fs, P f) : ∀ i, i < fs.length → P (fs.getD i []) := fun i hi => by
  rw [List.getD_eq_getElem?_getD, List.getElem?_eq_getElem hi]
  exact h _ (List.getElem_mem hi)
theorem LimC.up {xs : List Int} {w w1 w' : World} {e : Ending} (h : LimC xs w1 e w') (hb : Below w.heap.size w w1) : LimC xs w e w' := by
  obtain ⟨v, h1, h2, h3⟩ := h
  exact ⟨v, h1, h2.base_ hb.size, bstep hb hb.size h3⟩
theorem limited_two (A B : Option Addr) (c d : Nat) (x y : List Int) (w : World) (h : RdI w A x) (hl : x.length ≤ 64) (hs : Num.SmallW x) (h' : RdI w B y) (hl' : y.length ≤ 64) (hs' : Num.SmallW y) :
    Calls Try.prog 31 #[.slice (some ⟨w.heap.size, 0, none⟩) 2 2] (w.alloc (.cells #[.slice A x.length c, .slice B y.length d] 24)) (LimC (x ++ y) w) := by
  have := limited_any (some ⟨w.heap.size, 0, none⟩) 2 2 [x, y] _ (RdW.lit2 c d 24 h (by unfold maxLen; omega) h' (by unfold maxLen; omega)) rfl (by simp) (all_of (P := fun f => f.length ≤ 64) (by simp [hl, hl'])) (all_of (P := Num.SmallW) (by intro f hf; simp at hf; rcases hf with rfl | rfl; exact hs; exact hs'))
  refine this.mono ?_
  intro e w' hh
  have e1 : [x, y].flatten = x ++ y := by simp
  rw [e1] at hh
  exact hh.up (by go_grown)
set_option maxRecDepth 100000 in
set_option maxHeartbeats 1000000 in
theorem iMultiplyWords_any (k : Int) (v u : Value) (x y : List Int) (w : World) (h : spI.rd w v x) (h' : spI.rd w u y) : Calls Try.prog 11 #[.int .i64 k, v, u] w (MadeC spI (rMultiplyWords k x y) (cMultiplyWords k x y) w) := by
  obtain ⟨A, c, rfl, hm, hA⟩ := h
  obtain ⟨B, d, rfl, hm', hB⟩ := h'
  have b0 : Below w.heap.size w (w.alloc (.cells #[.slice A x.length c, .slice B y.length d] 24)) := by go_grown
  have HC := Lib.hid (codes_two k A B c d x y w hA hm hB hm')
  by_cases hz : Num.codeW k [x, y] = 0
  · obtain ⟨⟨hl, hs⟩, hl', hs'⟩ := words_bd hz
    have hp := limited_two A B c d x y _ (hA.below' b0) hl hs (hB.below' b0) hl' hs'
    simp only [World.size_alloc] at hp
    have HP := Lib.hid hp
    have HR : Hid (rMultiplyWords k x y = Num.limR (x ++ y) ∧ cMultiplyWords k x y = Num.limC (x ++ y)) := Lib.hid ⟨if_pos hz, if_pos hz⟩
    have hrl := Num.limR_len (x ++ y)
    rw [hz] at HC
    clear hz hA hB hp
    go_enter Try.func11, Try.ntmps11
    go_wp2_with (fail)
    refine HC.out.mono ?_; rintro e w' ⟨rfl, rfl⟩
    go_wp2_with (fail)
    refine HP.out.mono ?_; intro e w1 hh
    obtain ⟨r, rfl, own, bel⟩ := hh.up b0
    go_wp2_with (fail)
    go_ret2
    rw [HR.out.1, HR.out.2]
    exact MadeC.list own (by omega) bel
  · have HR : Hid (rMultiplyWords k x y = [] ∧ cMultiplyWords k x y = Num.codeW k [x, y]) := Lib.hid ⟨if_neg hz, if_neg hz⟩
    have T1 : (Num.codeW k [x, y] != 0) = true := by simpa using hz
    clear hz hA hB
    generalize Num.codeW k [x, y] = cd at *
    go_enter Try.func11, Try.ntmps11
    go_wp2_with (fail)
    refine HC.out.mono ?_; rintro e w' ⟨rfl, rfl⟩
    go_wp2_with (fail)
    go_ret2
    rw [HR.out.1, HR.out.2]
    exact MadeC.nilW b0
theorem OwnI.formN {w : World} {base : Nat} {v : Value} {xs : List Int} (h : OwnI w base v xs) : ∃ A n cap, v = .slice A n cap ∧ xs.length = n := by
  obtain ⟨A, c, e⟩ := h.form
  exact ⟨A, _, c, e, rfl⟩
/-- A list put behind an own list. -/
theorem wpList_app_ints {ops : Array Oper} {rest : List Oper} {o : Oper} {a : Act} {Q : Exit → Act → World → Prop} (w : World) (hgd : o.guard = none) (s x : Operand)
    (ho : o.op = .call { callee := .builtin .append, args := #[s, x], argTypes := #[24, 24] })
    (base : Nat) (v : Value) (xs ys : List Int) (hs : a.eval s = v) (hown : OwnI w base v xs) (A : Option Addr) (m c : Nat) (hm : ys.length = m) (hx : a.eval x = .slice A m c) (hr : RdI w A ys)
    (h63 : xs.length + ys.length ≤ 1000000000) (hbase : base ≤ w.heap.size)
    (h : ∀ v' w', OwnI w' base v' (xs ++ ys) → w.grownBy w' v.ownBlock → (v'.ownBlock = v.ownBlock ∨ v'.ownBlock = some w.heap.size) → wpList Try.prog ops Q rest (a.put o.dst v') w') : wpList Try.prog ops Q (o :: rest) a w := by
  obtain ⟨iT, hi, hz0, hz1, hz2⟩ := info_parts infoI
  refine wpList_append_list w hgd s x 24 ho base 2 iT (.int .i64 0) 8 Try.underlying24 hi hz0 hz1 hz2 rfl v xs.length (xs.map (Value.int .i64)) hs hown A m c (ys.map (Value.int .i64)) (by simpa using hm) hx hr.cells (oneCell_ints ys) (by unfold maxLen; omega) (by omega) hbase ?_
  intro v' w' h1 h2 h3
  refine h v' w' ?_ h2 h3
  unfold OwnI
  rw [List.length_append, List.map_append, hm]
  exact h1
set_option maxRecDepth 100000 in
set_option maxHeartbeats 1000000 in
theorem sOwnI_any (A : Option Addr) (n c : Nat) (xs : List Int) (w : World) (h : RdI w A xs) (hn : xs.length = n) (hl : xs.length ≤ 1000000) :
    Calls Try.prog 45 #[.slice A n c] w fun e w' => ∃ v, e = .returned v ∧ OwnI w' w.heap.size v xs ∧ Below w.heap.size w w' := by
  subst hn
  have b0 : Below w.heap.size w (w.alloc (.cells #[] 2)) := by go_grown
  have HA := Lib.hid (h.below' b0)
  have own0 : OwnI (w.alloc (.cells #[] 2)) w.heap.size (.slice (some ⟨w.heap.size, 0, none⟩) 0 0) [] := World.ownsRow_lit w #[] 0 (Nat.le_refl _) (by unfold maxLen; omega) rfl
  go_enter Try.func45, Try.ntmps45
  go_wp2_with (at_builtin; refine wpList_app_ints _ rfl (.tmp 3) (.tmp 4) rfl w.heap.size _ [] xs rfl own0 A _ c rfl rfl HA.out (by simp; omega) (by go_size) ?_; intro v1 w1 own1 gr1 hat1)
  go_ret
  refine ⟨_, rfl, by simpa using own1, ?_⟩
  exact b0.grown gr1 (by go_size) (fun k hk => (World.ownsRow.lt own0 k hk).1)
theorem iMultiplyWords_ok (k : Int) (v : Value) (x : List Int) (u : Value) (y : List Int) (w : World) (h : spI.rd w v x) (h' : spI.rd w u y) (s : spI.sz x ≤ 1048576) (s' : spI.sz y ≤ 1048576) : Calls Try.prog 11 #[.int .i64 k, v, u] w (MadeC spI (rMultiplyWords k x y) (cMultiplyWords k x y) w) := iMultiplyWords_any k v u x y w h h'
end Go.Proofs.Ytpplojbcjgiabaa
