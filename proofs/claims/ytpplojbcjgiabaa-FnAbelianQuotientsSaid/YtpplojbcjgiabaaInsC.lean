/- An order put into a chain of orders: slices.Insert. -/
import Derived.Test.YtpplojbcjgiabaaL07E
import Derived.Deep.AppendLies
import Derived.Shelf.Spec.SlicesInsert
import Derived.Lib.AppendZerosOnto
import Derived.Shelf.Spec.SlicesInsertGrow
namespace Go.Proofs.Ytpplojbcjgiabaa
open Go.RowKit
set_option linter.unusedVariables false
set_option linter.unusedSimpArgs false

theorem setCells_ownsC {b e n c base : Nat} : ∀ (vs : List Value) (o : Nat) (xs : List Value) (w : World), w.ownsRow base e 1 (.slice (some ⟨b, 0, none⟩) n c) n xs → o + vs.length ≤ n →
    (w.setCells b o vs).ownsRow base e 1 (.slice (some ⟨b, 0, none⟩) n c) n (xs.take o ++ vs ++ xs.drop (o + vs.length)) ∧ w.grownBy (w.setCells b o vs) (some b)
  | [], o, xs, w, h, ho => ⟨by simpa [World.setCells] using h, World.grownBy.refl _ _⟩
  | v :: r, o, xs, w, h, ho => by
    have hl : xs.length = n := by have := h.1; simpa using this
    obtain ⟨s1, g1⟩ := h.stored o v
    obtain ⟨h2, g2⟩ := setCells_ownsC r (o + 1) (xs.set o v) _ s1 (by simp at ho; omega)
    refine ⟨?_, World.grownBy.trans_ g1 g2⟩
    have e1 : (xs.set o v).take (o + 1) = xs.take o ++ [v] := by
      rw [List.take_succ_eq_append_getElem (by simp at ho ⊢; omega), List.take_set_of_le (Nat.le_refl _)]
      simp
    have e2 : (xs.set o v).drop (o + 1 + r.length) = xs.drop (o + (v :: r).length) := by
      rw [List.drop_set_of_lt (by omega)]
      congr 1
      simp
      omega
    rw [e1, e2] at h2
    simpa [World.setCells] using h2
/-- A row with room for one more. -/
theorem owns_roomC {w : World} {base e n c g : Nat} {xs : List Value} (h : w.ownsRow base e 1 (.slice (some ⟨g, 0, none⟩) n c) n xs) (hr : n + 1 ≤ c) : ∃ z, w.ownsRow base e 1 (.slice (some ⟨g, 0, none⟩) (n + 1) c) (n + 1) (xs ++ [z]) := by
  rcases h.2 with ⟨hv, h0⟩ | ⟨g', cap, cur, hv, hb, hg, h1, h2, h3, h4⟩
  · cases hv
  · simp only [Value.slice.injEq, Option.some.injEq, Addr.mk.injEq, and_true, true_and] at hv
    obtain ⟨rfl, rfl⟩ := hv
    have hs : n < cur.toList.length := by simp; omega
    refine ⟨cur.toList[n], ?_, .inr ⟨g, c, cur, rfl, hb, hg, hr, h2, h3, ?_⟩⟩
    · have := h.1; simp at this ⊢; omega
    · rw [Nat.mul_one] at h4 ⊢
      rw [← h4, List.take_succ_eq_append_getElem hs]
theorem run_append_typesC {P : Program} (w : World) (t t' ty ty' e e' : TypeId) (i : TypeInfo) (ht : P.underlying t = some (.slice e)) (ht' : P.underlying t' = some (.slice e')) (hi : P.info? e = some i) (A B : Option Addr) (n c m d : Nat) :
    (Builtin.append_ #[t, t'] ty #[.slice A n c, .slice B m d]).run P w = (Builtin.append_ #[t, t] ty' #[.slice A n c, .slice B m d]).run P w := by
  simp [Builtin.append_, run_underlying ht, run_underlying ht', sizeOf, typeInfo, hi, Builtin.lenOf]
/-- What Insert leaves of an owned row. -/
def InsAtC (w : World) (A : Option Addr) (n c : Nat) (vs : List Value) (i : Nat) (u : Value) (e : Ending) (w' : World) : Prop :=
  ∃ g cap, e = .returned (.slice (some ⟨g, 0, none⟩) (n + 1) cap) ∧ w'.ownsRow 0 80 1 (.slice (some ⟨g, 0, none⟩) (n + 1) cap) (n + 1) (vs.take i ++ u :: vs.drop i) ∧ w.grownBy w' (Value.slice A n c).ownBlock ∧ ((Value.slice A n c).ownBlock = some g ∨ w.heap.size ≤ g) ∧ g < w'.heap.size
set_option maxRecDepth 100000 in
set_option maxHeartbeats 1000000 in
theorem ins_endC (A : Option Addr) (n c vb vc : Nat) (vs : List Value) (u : Value) (w : World) (h : w.ownsRow 0 80 1 (.slice A n c) n vs) (hn : n ≤ 1000) (hu : w.cell? ⟨vb, 0, none⟩ = some u) (h1 : u.oneCell' = true) :
    Calls Try.prog 76 #[.slice A n c, .int .i64 n, .slice (some ⟨vb, 0, none⟩) 1 vc] w (InsAtC w A n c vs n u) := by
  obtain ⟨i0, hi, hz0, hz1, hz2⟩ := info_parts infoCy
  have hvl : vs.length = n := by have := h.1; simpa using this
  have hnc : n ≤ c := by
    rcases h.2 with ⟨hv, h0⟩ | ⟨g', cap, cur, hv, hb, hg, h1, h2, h3, h4⟩
    · omega
    · simp only [Value.slice.injEq] at hv; omega
  have hcm : c ≤ maxLen := by
    rcases h.2 with ⟨hv, h0⟩ | ⟨g', cap, cur, hv, hb, hg, h1, h2, h3, h4⟩
    · simp only [Value.slice.injEq] at hv; unfold maxLen; omega
    · simp only [Value.slice.injEq] at hv; omega
  unfold maxLen at hcm
  obtain ⟨g, cap, w', hrun, h2, h3, h4, h5⟩ := run_append_lies w 77 0 0 80 i0 (.int .i64 0) 1 8 Try.underlying77 hi hz0 hz1 hz2 rfl (by decide) (.slice A n c) n vs h ⟨vb, 0, none⟩ 1 vc [u] rfl (fun j x hj => by
    cases j with
    | zero => simp at hj; subst hj; exact hu
    | succ j => simp at hj) (by simpa using h1) (by decide) (by unfold maxLen; omega) (by omega) (Nat.zero_le _) _ rfl
  have HRUN : ∀ ty, (Builtin.append_ #[77, 76] ty #[.slice A n c, .slice (some ⟨vb, 0, none⟩) 1 vc]).run Try.prog w = .ok (.slice (some ⟨g, 0, none⟩) (n + 1) cap) w' := fun ty => (run_append_typesC w 77 76 ty 0 80 80 i0 Try.underlying77 Try.underlying76 hi _ _ _ _ _ _).trans hrun
  have HE : InsAtC w A n c vs n u (.returned (.slice (some ⟨g, 0, none⟩) (n + 1) cap)) w' := ⟨g, cap, rfl, by rw [List.take_of_length_le (by omega), List.drop_of_length_le (by omega)]; exact h2, h3, h4.imp id (fun e => by omega), h5⟩
  have HEH := Lib.hid HE
  clear hrun h2 h3 h4 h5 HE hvl
  cases A with
  | none =>
    obtain ⟨rfl, rfl⟩ : n = 0 ∧ c = 0 := by
      rcases h.2 with ⟨hv, h0⟩ | ⟨g', cap, cur, hv, hb, hg, h1, h2, h3, h4⟩
      · simp only [Value.slice.injEq] at hv; omega
      · simp only [Value.slice.injEq] at hv; cases hv.1
    clear h
    go_enter Try.func76, Try.ntmps76
    go_wp2_with (at_builtin; refine Lib.wpList_append_run _ rfl _ _ _ _ rfl _ _ rfl rfl _ _ (HRUN _) ?_)
    go_ret
    exact HEH.out
  | some a =>
    clear h
    go_enter Try.func76, Try.ntmps76
    go_wp2_with (at_builtin; refine Lib.wpList_append_run _ rfl _ _ _ _ rfl _ _ rfl rfl _ _ (HRUN _) ?_)
    all_goals
      go_ret
      exact HEH.out
theorem shift_listC (vs : List Value) (z u : Value) (i n : Nat) (hl : vs.length = n) (hi : i < n) :
    ((((vs ++ [z]).take (i + 1) ++ vs.drop i ++ (vs ++ [z]).drop (i + 1 + (vs.drop i).length)).take i ++ [u]) ++ ((vs ++ [z]).take (i + 1) ++ vs.drop i ++ (vs ++ [z]).drop (i + 1 + (vs.drop i).length)).drop (i + [u].length)) = vs.take i ++ u :: vs.drop i := by
  have e1 : (vs ++ [z]).take (i + 1) = vs.take (i + 1) := List.take_append_of_le_length (by omega)
  have e2 : (vs ++ [z]).drop (i + 1 + (vs.drop i).length) = [] := List.drop_of_length_le (by simp; omega)
  have l1 : (vs.take (i + 1)).length = i + 1 := by simp; omega
  rw [e1, e2, List.append_nil, List.take_append_of_le_length (by omega), List.take_take, Nat.min_eq_left (by omega)]
  have e3 : (vs.take (i + 1) ++ vs.drop i).drop (i + [u].length) = vs.drop i := by
    show (vs.take (i + 1) ++ vs.drop i).drop (i + 1) = _
    rw [List.drop_append_of_le_length (by omega), List.drop_of_length_le (by omega)]
    simp
  rw [e3]
  simp
theorem grow_listC (vs X : List Value) (u : Value) (i n : Nat) (hl : vs.length = n) (hi : i < n) (hX : X.length = n + 1) (hx : X.take i = vs.take i) :
    ((X.take i ++ [u] ++ X.drop (i + [u].length)).take (i + 1) ++ vs.drop i ++ (X.take i ++ [u] ++ X.drop (i + [u].length)).drop (i + 1 + (vs.drop i).length)) = vs.take i ++ u :: vs.drop i := by
  have l1 : (X.take i ++ [u]).length = i + 1 := by simp; omega
  have e2 : (X.take i ++ [u] ++ X.drop (i + [u].length)).drop (i + 1 + (vs.drop i).length) = [] := List.drop_of_length_le (by simp; omega)
  rw [e2, List.append_nil, List.take_append_of_le_length (by omega), List.take_of_length_le (by omega), hx]
  simp
theorem grown_drewC (w : World) (r : Option Nat) : w.grownBy w.drew r := ⟨rfl, rfl, rfl, Nat.le_refl _, fun _ _ _ => rfl⟩
theorem owns_cellsC {w : World} {base e n c g : Nat} {vs : List Value} (h : w.ownsRow base e 1 (.slice (some ⟨g, 0, none⟩) n c) n vs) : g < w.heap.size ∧ (∃ cur : Array Value, w.heap[g]? = some (.cells cur e (0, 0)) ∧ cur.size = c ∧ n ≤ c ∧ c ≤ maxLen) ∧ ∀ j x, vs[j]? = some x → w.cell? ⟨g, j, none⟩ = some x := by
  refine ⟨(h.lt g rfl).2, ?_, fun j x hj => ?_⟩
  · rcases h.2 with ⟨hv, h0⟩ | ⟨g', cap, cur, hv, hb, hg, h1, h2, h3, h4⟩
    · cases hv
    · simp only [Value.slice.injEq, Option.some.injEq, Addr.mk.injEq, and_true, true_and] at hv
      obtain ⟨rfl, rfl⟩ := hv
      exact ⟨cur, hg, by omega, h1, h2⟩
  · obtain ⟨hj', rfl⟩ := List.getElem?_eq_some_iff.1 hj
    have hl : vs.length = n := by have := h.1; simpa using this
    rw [h.cellAt j (by omega), hj]
set_option maxRecDepth 100000 in
set_option maxHeartbeats 2000000 in
theorem ins_shiftC (g n c i vb vc : Nat) (vs : List Value) (u : Value) (w : World) (h : w.ownsRow 0 80 1 (.slice (some ⟨g, 0, none⟩) n c) n vs) (hn : n ≤ 1000) (hi : i < n) (hr : n + 1 ≤ c) (hvb : vb ≠ g)
    (hbx : w.heap[vb]? = some (.cells #[u] 80 (0, 0))) (h1 : u.oneCell' = true) (hv1 : ∀ x ∈ vs, x.oneCell' = true) :
    Calls Try.prog 76 #[.slice (some ⟨g, 0, none⟩) n c, .int .i64 i, .slice (some ⟨vb, 0, none⟩) 1 vc] w (InsAtC w (some ⟨g, 0, none⟩) n c vs i u) := by
  have hvl : vs.length = n := by have := h.1; simpa using this
  obtain ⟨hgl, ⟨cur, hcur, hcs, hnc, hcm⟩, hcell⟩ := owns_cellsC h
  unfold maxLen at hcm
  obtain ⟨z, hz⟩ := owns_roomC h hr
  obtain ⟨o1, g1⟩ := setCells_ownsC (vs.drop i) (i + 1) (vs ++ [z]) w.drew hz (by simp; omega)
  obtain ⟨o2, g2⟩ := setCells_ownsC [u] i _ _ o1 (by simp; omega)
  rw [shift_listC vs z u i n hvl hi] at o2
  have HE : Hid (InsAtC w (some ⟨g, 0, none⟩) n c vs i u (.returned (.slice (some ⟨g, 0, none⟩) (n + 1) c)) ((w.drew.setCells g (i + 1) (vs.drop i)).setCells g i [u])) :=
    Lib.hid ⟨g, c, rfl, o2, World.grownBy.trans_ (World.grownBy.trans_ (grown_drewC w (some g)) g1) g2, .inl rfl, (World.ownsRow.lt o2 g rfl).2⟩
  have hui := run_underlying (P := Try.prog) Try.underlying77
  have hsz : (Try.prog.info? 80).map (·.size) = some 1 := by
    obtain ⟨i0, hi0, q0, q1, q2⟩ := info_parts infoCy
    rw [hi0]; simp [q1]
  have hsp : ∀ j, j < n + 1 → (w.cell? ⟨g, j, none⟩).isSome = true := fun j hj => by simp [World.cell?, hcur]; omega
  have hfz : ∀ j, w.frozen? ⟨g, j, none⟩ = false := fun j => by simp [World.frozen?, hcur]
  have hsA : w.shape? vb = some (80, 1) := by simp [World.shape?, hbx]
  have hsB : w.shape? g = some (80, c) := by simp [World.shape?, hcur, hcs]
  have hfA : w.frozen? ⟨vb, 0, none⟩ = false := by simp [World.frozen?, hbx]
  have hfE : w.frozen? ⟨vb, 1, none⟩ = false := by simp [World.frozen?, hbx]
  have huc : w.cell? ⟨vb, 0, none⟩ = some u := by simp [World.cell?, hbx]
  have hov : ∀ lb cb, (callFunc 79 #[.slice (some ⟨vb, 0, none⟩) 1 vc, .slice (some ⟨g, i + 1, none⟩) lb cb]).run Try.prog w = .ok (.value (.bool false)) w := fun lb cb => by
    rw [run_callFunc_extern Try.func79 (by kernel_rfl) (by kernel_rfl) (by kernel_rfl) (e := Extern.SlicesOverlaps.overlaps #[76, 76] #[4]) (by kernel_rfl),
      Lib.run_overlaps_apart w 76 4 80 Try.underlying76 1 (fun W => by
        obtain ⟨i0, hi0, q0, q1, q2⟩ := info_parts infoCy
        simp [sizeOf, typeInfo, hi0, q1]) ⟨vb, 0, none⟩ ⟨g, i + 1, none⟩ 1 vc lb cb hvb 80 80 1 c hsA hsB (by omega) hfA hfE]
    rfl
  have hdl : (vs.drop i).length = n - i := by rw [List.length_drop, hvl]
  have hcp1 : ∀ ty dc sc, (Builtin.copy_ #[77, 77] ty #[.slice (some ⟨g, i + 1, none⟩) (n - i) dc, .slice (some ⟨g, i, none⟩) (n + 1 - i) sc]).run Try.prog w.drew = .ok (goInt (vs.drop i).length) (w.drew.setCells g (i + 1) (vs.drop i)) := fun ty dc sc =>
    run_copy_cells w.drew _ _ ty 80 g (i + 1) (n - i) dc ⟨g, i, none⟩ (n + 1 - i) sc (vs.drop i) Try.underlying77 hsz (by rw [hdl]; simp only [Nat.min_def]; split <;> omega)
      (fun j v hj => by rw [Addr.add_lit]; exact hcell (i + j) v (by rwa [List.getElem?_drop] at hj))
      (fun j hj => hsp _ (by omega)) (fun j hj => hfz _) (fun v hv => hv1 v (List.mem_of_mem_drop hv))
  obtain ⟨W1, hW1⟩ : ∃ W1, W1 = w.drew.setCells g (i + 1) (vs.drop i) := ⟨_, rfl⟩
  have hsp1 : ∀ k, k < n + 1 → (W1.cell? ⟨g, k, none⟩).isSome = true := fun k hk => by
    rw [hW1]
    exact isSome_setCells g (vs.drop i) (i + 1) w.drew (fun j hj => hsp (i + 1 + j) (by omega)) _ (hsp k hk)
  have hcp2 : ∀ (W : World), (∀ x, W.cell? x = W1.cell? x) → (∀ x, W.frozen? x = W1.frozen? x) → ∀ ty dc, (Builtin.copy_ #[77, 76] ty #[.slice (some ⟨g, i, none⟩) (n + 1 - i) dc, .slice (some ⟨vb, 0, none⟩) 1 vc]).run Try.prog W = .ok (goInt [u].length) (W.setCells g i [u]) := fun W hWc hWf ty dc =>
    run_copy_cells W _ _ ty 80 g i (n + 1 - i) dc ⟨vb, 0, none⟩ 1 vc [u] Try.underlying77 hsz (by simp only [Nat.min_def, List.length_singleton]; split <;> omega)
      (fun j v hj => by
        cases j with
        | zero =>
          simp at hj
          subst hj
          rw [Addr.add_lit, hWc, hW1, World.cell?_setCells_out g _ _ _ _ (fun e _ => absurd e hvb)]
          exact huc
        | succ j => simp at hj)
      (fun j hj => by rw [hWc]; exact hsp1 _ (by simp at hj; omega)) (fun j hj => by rw [hWf, hW1, World.frozen?_setCells]; exact hfz _) (by simpa using h1)
  rw [← hW1] at hcp1 HE
  have wp1 : IntKind.i64.wrap ((i : Int) + 1) = (i : Int) + 1 := IntWalk.i64_in _ (by omega)
  have wp2 : IntKind.i64.wrap ((n : Int) + 1) = (n : Int) + 1 := IntWalk.i64_in _ (by omega)
  have tn : ((i : Int) + 1).toNat = i + 1 := by omega
  have tn2 : ((n : Int) + 1).toNat = n + 1 := by omega
  have z0 : (0 : Int) ≤ (i : Int) + 1 := by omega
  have z2 : ¬ ((i : Int) = (n : Int)) := by omega
  have z3 : ¬ (c = i + 1) := by omega
  have z4 : ¬ (c = i) := by omega
  have z5 : (i : Int) ≤ (n : Int) + 1 := by omega
  have z6 : ¬ ((c : Int) < (n : Int) + 1) := by omega
  have z7 : (i : Int) ≤ (n : Int) := by omega
  have z8 : (n : Int) + 1 ≤ (c : Int) := by omega
  clear hcur hcs hz o1 o2 g1 g2 hbx hsp hsp1 hfz hsA hsB hfA hfE h
  go_enter Try.func76, Try.ntmps76
  go_wp2_with (simp only [hov])
  go_region_law (refine step_copy_runI rfl _ _ 77 77 rfl _ _ (by simp [Act.eval, Act.put]) (by simp [Act.eval, Act.put]) (hcp1 _ _ _) ?_)
  all_goals
    go_wp2_with (at_builtin; refine wpList_copy_runI _ rfl _ _ 77 76 rfl _ _ rfl rfl (hcp2 _ (fun _ => rfl) (fun _ => rfl) _ _) ?_)
    go_ret
    first | exact HE.out | (have HF := HE.out; rw [hW1] at HF; exact HF)
set_option maxRecDepth 100000 in
set_option maxHeartbeats 2000000 in
theorem ins_growC (g n c i vb vc : Nat) (vs : List Value) (u : Value) (w : World) (h : w.ownsRow 0 80 1 (.slice (some ⟨g, 0, none⟩) n c) n vs) (hn : n ≤ 1000) (hi : i < n) (hr : c < n + 1) (hvb : vb ≠ g)
    (hbx : w.heap[vb]? = some (.cells #[u] 80 (0, 0))) (h1 : u.oneCell' = true) (hv1 : ∀ x ∈ vs, x.oneCell' = true) :
    Calls Try.prog 76 #[.slice (some ⟨g, 0, none⟩) n c, .int .i64 i, .slice (some ⟨vb, 0, none⟩) 1 vc] w (InsAtC w (some ⟨g, 0, none⟩) n c vs i u) := by
  have hvl : vs.length = n := by have := h.1; simpa using this
  obtain ⟨hgl, ⟨cur, hcur, hcs, hnc, hcm⟩, hcell⟩ := owns_cellsC h
  unfold maxLen at hcm
  obtain ⟨i0, hi0, hz0, hzs, hzb⟩ := info_parts infoCy
  have hvw : vb < w.heap.size := lt_of_block hbx
  have huc : w.cell? ⟨vb, 0, none⟩ = some u := by simp [World.cell?, hbx]
  have hsz : (Try.prog.info? 80).map (·.size) = some 1 := by rw [hi0]; simp [hzs]
  have hkk : (n : Int) + 1 - (i : Int) = ((n + 1 - i : Nat) : Int) := by omega
  have hik : i + (n + 1 - i) = n + 1 := by omega
  have hold : (Builtin.firstCells i0.size i (.slice (some ⟨g, 0, none⟩) i c)).run Try.prog w.drew = .ok (vs.take i).toArray w.drew := by
    rw [hzs]
    exact run_firstCells_some w.drew 1 i ⟨g, 0, none⟩ i c (vs.take i) (by rw [List.length_take]; omega) (fun j v hj => by
      rw [Addr.add_lit, Nat.zero_add]
      rw [List.getElem?_take] at hj
      split at hj
      · exact hcell j v hj
      · cases hj)
  have hrz : ∀ ty, (Builtin.append_ #[77, 3] ty #[.slice (some ⟨g, 0, none⟩) i c, .int .i64 ((n : Int) + 1 - (i : Int))]).run Try.prog w =
      .ok (.slice (some ⟨w.heap.size, 0, none⟩) (n + 1) (grownCap w (n + 1) c 80)) (w.drew.alloc (.cells ((vs.take i).toArray ++ Builtin.zeroCells (Value.int .i64 0).cells (n + 1 - i) ++ Builtin.zeroCells (Value.int .i64 0).cells (grownCap w (n + 1) c 80 - (n + 1))) 80)) := fun ty => by
    have e := Lib.run_append_grow_zeros w 77 3 ty 80 i0 _ .i64 .i64 Try.underlying77 Try.underlying3 hi0 hz0 (some ⟨g, 0, none⟩) i c (vs.take i) hold (n + 1 - i) (by omega) (by omega) (by omega) (by omega) (by rw [hzb]; omega) (by rw [hzb, hik]; exact growslice_fits hr (by omega))
    rw [hik] at e
    rw [hkk]
    exact e
  have hGn : n + 1 ≤ grownCap w (n + 1) c 80 := grownCap_ge w _ _ _
  have hGm : grownCap w (n + 1) c 80 ≤ maxLen := grownCap_le_maxLen w (n + 1) c 80 (by unfold maxLen; omega)
  generalize grownCap w (n + 1) c 80 = G at *
  obtain ⟨CLS, hCLS⟩ : ∃ R : Array Value, R = (vs.take i).toArray ++ Builtin.zeroCells (Value.int .i64 0).cells (n + 1 - i) ++ Builtin.zeroCells (Value.int .i64 0).cells (G - (n + 1)) := ⟨_, rfl⟩
  rw [← hCLS] at hrz
  have hRl : CLS.size = G := by
    rw [hCLS]
    simp [Builtin.zeroCells, Value.cells]
    omega
  have hRt : (CLS.toList.take (n + 1)).take i = vs.take i := by
    rw [List.take_take, Nat.min_eq_left (by omega), hCLS]
    simp only [Array.toList_append, List.append_assoc]
    rw [List.take_append_of_le_length (by simp; omega), List.take_of_length_le (by simp; omega)]
  have hb0 : Below w.heap.size w (w.drew.alloc (.cells CLS 80)) := (Below.refl _ _).drew.alloc (Nat.le_refl _) _
  have own0 : (w.drew.alloc (.cells CLS 80)).ownsRow 0 80 1 (.slice (some ⟨w.heap.size, 0, none⟩) (n + 1) G) (n + 1) (CLS.toList.take (n + 1)) :=
    ⟨by simp; omega, .inr ⟨w.heap.size, G, CLS, rfl, Nat.zero_le _, by show (w.heap.push _)[w.heap.size]? = _; simp, hGn, hGm, by omega, by rw [Nat.mul_one]⟩⟩
  have hXl : (CLS.toList.take (n + 1)).length = n + 1 := by simp; omega
  obtain ⟨W1, hW1⟩ : ∃ W1, W1 = w.drew.alloc (.cells CLS 80) := ⟨_, rfl⟩
  rw [← hW1] at own0 hb0
  obtain ⟨o1, g1⟩ := setCells_ownsC [u] i _ _ own0 (by simp; omega)
  obtain ⟨o2, g2⟩ := setCells_ownsC (vs.drop i) (i + 1) _ (W1.setCells w.heap.size i [u]).drew o1 (by simp; omega)
  rw [grow_listC vs _ u i n hvl hi hXl hRt] at o2
  have gA : w.grownBy W1 (some g) := ⟨hb0.os, hb0.tape, hb0.output, hb0.size, fun k hk _ => hb0.block k hk⟩
  have gB : W1.grownBy (W1.setCells w.heap.size i [u]) (some w.heap.size) := g1
  have hfin : w.grownBy ((W1.setCells w.heap.size i [u]).drew.setCells w.heap.size (i + 1) (vs.drop i)) (some g) :=
    ⟨(g2.os.trans g1.os).trans hb0.os, (g2.tape.trans g1.tape).trans hb0.tape, (g2.output.trans g1.output).trans hb0.output, Nat.le_trans hb0.size (Nat.le_trans g1.size g2.size), fun k hk hne => by
      have hk1 : k < W1.heap.size := by have := hb0.size; omega
      have hk2 : k < (W1.setCells w.heap.size i [u]).heap.size := by have := g1.size; omega
      have hne' : some k ≠ some w.heap.size := fun e => by simp at e; omega
      exact (g2.block k hk2 hne').trans ((g1.block k hk1 hne').trans (hb0.block k hk))⟩
  have HE : Hid (InsAtC w (some ⟨g, 0, none⟩) n c vs i u (.returned (.slice (some ⟨w.heap.size, 0, none⟩) (n + 1) G)) ((W1.setCells w.heap.size i [u]).drew.setCells w.heap.size (i + 1) (vs.drop i))) :=
    Lib.hid ⟨w.heap.size, G, rfl, o2, hfin, .inr (Nat.le_refl _), (World.ownsRow.lt o2 _ rfl).2⟩
  rw [← hW1] at hrz
  have hN : ∀ j, j < n + 1 → (W1.cell? ⟨w.heap.size, j, none⟩).isSome = true := fun j hj => by
    rw [hW1, World.cell?_alloc_at (w := w.drew) CLS _ w.heap.size j rfl, Array.getElem?_eq_getElem (by omega)]; rfl
  have hNf : ∀ j, W1.frozen? ⟨w.heap.size, j, none⟩ = false := fun j => by rw [hW1]; exact World.frozen?_alloc_at (w := w.drew) CLS _ w.heap.size j rfl
  have hOv : W1.cell? ⟨vb, 0, none⟩ = some u := by rw [hb0.cell hvw]; exact huc
  have hdl : (vs.drop i).length = n - i := by rw [List.length_drop, hvl]
  have hcpA : ∀ (W : World), (∀ x, W.cell? x = W1.cell? x) → (∀ x, W.frozen? x = W1.frozen? x) → ∀ ty dc, (Builtin.copy_ #[77, 76] ty #[.slice (some ⟨w.heap.size, i, none⟩) (n + 1 - i) dc, .slice (some ⟨vb, 0, none⟩) 1 vc]).run Try.prog W = .ok (goInt [u].length) (W.setCells w.heap.size i [u]) := fun W hWc hWf ty dc =>
    run_copy_cells W _ _ ty 80 w.heap.size i (n + 1 - i) dc ⟨vb, 0, none⟩ 1 vc [u] Try.underlying77 hsz (by simp only [Nat.min_def, List.length_singleton]; split <;> omega)
      (fun j v hj => by
        cases j with
        | zero =>
          simp at hj
          subst hj
          rw [Addr.add_lit, hWc]
          exact hOv
        | succ j => simp at hj)
      (fun j hj => by rw [hWc]; exact hN _ (by simp at hj; omega)) (fun j hj => by rw [hWf]; exact hNf _) (by simpa using h1)
  have hgN : g ≠ w.heap.size := by omega
  have hcpB : ∀ (W : World), (∀ x, W.cell? x = (W1.setCells w.heap.size i [u]).cell? x) → (∀ x, W.frozen? x = (W1.setCells w.heap.size i [u]).frozen? x) → ∀ ty dc sc, (Builtin.copy_ #[77, 77] ty #[.slice (some ⟨w.heap.size, i + 1, none⟩) (n - i) dc, .slice (some ⟨g, i, none⟩) (n - i) sc]).run Try.prog W = .ok (goInt (vs.drop i).length) (W.setCells w.heap.size (i + 1) (vs.drop i)) := fun W hWc hWf ty dc sc =>
    run_copy_cells W _ _ ty 80 w.heap.size (i + 1) (n - i) dc ⟨g, i, none⟩ (n - i) sc (vs.drop i) Try.underlying77 hsz (by rw [hdl]; simp only [Nat.min_def]; split <;> omega)
      (fun j v hj => by
        rw [Addr.add_lit, hWc, World.cell?_setCells_out _ _ _ _ _ (fun e _ => absurd e hgN), hb0.cell (p := ⟨g, i + j, none⟩) hgl]
        exact hcell (i + j) v (by rwa [List.getElem?_drop] at hj))
      (fun j hj => by rw [hWc]; exact isSome_setCells _ _ _ _ (fun t ht => hN _ (by simp at ht; omega)) _ (hN _ (by omega)))
      (fun j hj => by rw [hWf, World.frozen?_setCells]; exact hNf _) (fun v hv => hv1 v (List.mem_of_mem_drop hv))
  subst hW1
  have hE1 : ∀ x, ((w.alloc (.cells CLS 80)).drew).cell? x = (w.drew.alloc (.cells CLS 80)).cell? x := fun x => rfl
  have hE2 : ∀ x, ((w.alloc (.cells CLS 80)).drew).frozen? x = (w.drew.alloc (.cells CLS 80)).frozen? x := fun x => rfl
  have hF1 : ∀ x, (((w.alloc (.cells CLS 80)).drew.setCells w.heap.size i [u]).drew).cell? x = ((w.drew.alloc (.cells CLS 80)).setCells w.heap.size i [u]).cell? x := fun x => rfl
  have hF2 : ∀ x, (((w.alloc (.cells CLS 80)).drew.setCells w.heap.size i [u]).drew).frozen? x = ((w.drew.alloc (.cells CLS 80)).setCells w.heap.size i [u]).frozen? x := fun x => rfl
  unfold maxLen at hGm
  have z0 : (0 : Int) ≤ (i : Int) + 1 := by omega
  have wp1 : IntKind.i64.wrap ((i : Int) + 1) = (i : Int) + 1 := IntWalk.i64_in _ (by omega)
  have wp2 : IntKind.i64.wrap ((n : Int) + 1) = (n : Int) + 1 := IntWalk.i64_in _ (by omega)
  have wp3 : IntKind.i64.wrap ((n : Int) + 1 - (i : Int)) = (n : Int) + 1 - (i : Int) := IntWalk.i64_in _ (by omega)
  have tn : ((i : Int) + 1).toNat = i + 1 := by omega
  have z2 : ¬ ((i : Int) = (n : Int)) := by omega
  have z3 : ¬ (G = i + 1) := by omega
  have z4 : ¬ (G = i) := by omega
  have z5 : ¬ (c = i) := by omega
  have z6 : (c : Int) < (n : Int) + 1 := by omega
  have z7 : (i : Int) ≤ (n : Int) := by omega
  have z9 : (i : Int) ≤ (c : Int) := by omega
  have z10 : i ≤ n := by omega
  clear hkk hik hold hCLS hRl hRt own0 o1 o2 g1 g2 gA gB hfin hcur hcs h hbx
  go_enter Try.func76, Try.ntmps76
  go_wp2_with (first
    | (at_builtin; refine Lib.wpList_append_run _ rfl _ _ _ _ rfl _ _ rfl rfl _ _ (hrz _) ?_)
    | (at_builtin; refine wpList_copy_runI _ rfl _ _ 77 76 rfl _ _ rfl rfl (hcpA _ hE1 hE2 _ _) ?_)
    | (at_builtin; refine wpList_copy_runI _ rfl _ _ 77 76 rfl _ _ rfl rfl (hcpA _ (fun _ => rfl) (fun _ => rfl) _ _) ?_))
  go_region_law (refine step_copy_runI rfl _ _ 77 77 rfl (.slice (some ⟨w.heap.size, i + 1, none⟩) (n - i) (G - (i + 1))) (.slice (some ⟨g, i, none⟩) (n - i) (c - i)) (by simp [Act.eval, Act.put]) (by simp [Act.eval, Act.put]) (hcpB _ hF1 hF2 _ (G - (i + 1)) (c - i)) ?_)
  all_goals
    go_wp2_with (fail)
    go_ret
    exact HE.out
end Go.Proofs.Ytpplojbcjgiabaa
