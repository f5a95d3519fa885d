/- Consistency of the program: the images that are remembered, as maps in memory. -/
import Derived.Test.YteappjgdcbploaaL12E
import Derived.Maps.OwnSet
namespace Go.Proofs.Yteappjgdcbploaa
open Go.RowKit
open Go.Maps (Keyed Tidy IsMap)
set_option linter.unusedVariables false
set_option linter.unusedSimpArgs false

abbrev ky (x : Int) : Lit := .int .i64 x
abbrev kd (x : Int) : DataW Unit := .lit (.int .i64 x)
theorem keyed2 : Keyed Try.prog 2 := Maps.int_keyed Try.underlying2
theorem keyed3 : Keyed Try.prog 3 := Maps.int_keyed Try.underlying3
theorem zero2 (w : World) : (zeroValue 2).run Try.prog w = .ok (.int .i64 0) w := by kernel_rfl
theorem zero99 (w : World) : (zeroValue 161).run Try.prog w = .ok (.map none) w := by kernel_rfl
theorem key2 {x : Int} (h : -9223372036854775808 ≤ x ∧ x ≤ 9223372036854775807) : keyOf Try.prog 2 (.int .i64 x) = some (ky x) := Maps.keyOf_int_mk Try.underlying2 (WalkArith.wf_i64 (by omega))
theorem key3 {x : Int} (h : -9223372036854775808 ≤ x ∧ x ≤ 9223372036854775807) : keyOf Try.prog 3 (.int .i64 x) = some (ky x) := Maps.keyOf_int_mk Try.underlying3 (WalkArith.wf_i64 (by omega))
/-- How a map among a map's elements is told: by its block. -/
def mapR (v : Value) : Option (DataW Unit × List MemPlace) := match v with
  | .map none => some (kd (-1), [])
  | .map (some b) => some (kd (b : Int), [])
  | _ => none
theorem intR_mk {x : Int} (h : -9223372036854775808 ≤ x ∧ x ≤ 9223372036854775807) : (plainElem (H := Unit) Try.prog 2) (.int .i64 x) = some (kd x, []) := plainElem_int Try.underlying2 (WalkArith.wf_i64 (by omega))
theorem mapR_inv {v : Value} {b : Nat} {ps : List MemPlace} (h : mapR v = some (kd (b : Int), ps)) : v = .map (some b) := by
  unfold mapR at h
  split at h
  · simp only [Option.some.injEq, Prod.mk.injEq, DataW.lit.injEq, Lit.int.injEq, true_and] at h
    obtain ⟨h, -⟩ := h
    omega
  · simp only [Option.some.injEq, Prod.mk.injEq, DataW.lit.injEq, Lit.int.injEq, true_and] at h
    obtain ⟨h, -⟩ := h
    rw [Int.ofNat_inj.mp h]
  · cases h
/-- A map as full as it reads. -/
theorem own_full {k : TypeId} {R : Value → Option (DataW Unit × List MemPlace)} {w : World} {b n : Nat} {D : DataW Unit} (h : w.ownsMap Try.prog k R b n D) : w.ownsMap Try.prog k R b (Maps.size D) D := by
  obtain ⟨es, clock, hb, F, hs, hD⟩ := h
  refine ⟨es, clock, hb, F, ?_, hD⟩
  rw [hD, Maps.size_eq, length_sorted]
  simp
theorem key_lit (x : Int) : WideAt.IsKeyLit (ky x) := by simp [WideAt.IsKeyLit]
/-- A list of different numbers below a bound is no longer than it. -/
theorem Num.nodup_len : ∀ (N : Nat) (l : List Int), l.Nodup → (∀ x, x ∈ l → 0 ≤ x ∧ x < N) → l.length ≤ N
  | 0, l, _, h => by
    cases l with
    | nil => simp
    | cons a l => have := h a (by simp); omega
  | N + 1, l, hn, h => by
    have h1 := Num.nodup_len N (l.erase (N : Int)) (hn.erase _) fun x hx => by
      have hx1 := h x (List.mem_of_mem_erase hx)
      have hx2 : x ≠ (N : Int) := fun e => by
        rw [e] at hx
        exact (List.Nodup.not_mem_erase hn) hx
      omega
    have h2 : l.length ≤ (l.erase (N : Int)).length + 1 := by
      rw [List.length_erase]
      split <;> omega
    omega
section
variable (O : List Int) (W : List (List Int)) (J : List (List (List Int)))
/-- What is remembered of the images of a level. -/
structure Memo (i K : Nat) (D : DataW Unit) : Prop where
  val : ∀ a, Num.El (Num.tlL O W J (i + 1)) a → Maps.has D (ky (Num.numL (Num.tlL O W J (i + 1)) a)) = true → D.atKey (ky (Num.numL (Num.tlL O W J (i + 1)) a)) (kd 0) = kd (Num.numL (Num.tlL O W J (i + 1)) (Num.imgL (Num.lvA O W J i) (Num.tlL O W J (i + 1)) a))
  gen : ∀ q, q < K → i + 1 + q < O.length → Maps.has D (ky (Num.szL (Num.tlL O W J (i + 1 + q + 1)))) = true
  zero : Maps.has D (ky 0) = true
  rng : ∃ es, D = .map es ∧ ∀ p, p ∈ es → ∃ x, p.1 = ky x ∧ 0 ≤ x ∧ x < Num.szL (Num.tlL O W J (i + 1))
structure MSt (i bo bm : Nat) (w : World) : Prop where
  out : ∃ Do, Maps.size Do ≤ 1000 ∧ w.ownsMap Try.prog 3 mapR bo (Maps.size Do) Do ∧ Do.atKey (ky (i : Int)) (kd (-1)) = kd (bm : Int)
  inn : ∃ D, w.ownsMap Try.prog 2 (plainElem (H := Unit) Try.prog 2) bm (Maps.size D) D ∧ Memo O W J i O.length D
  ne : bm ≠ bo
end
theorem mem_insert {x p : Lit × DataW Unit} : ∀ {l : List (Lit × DataW Unit)}, p ∈ DataW.insert x l → p = x ∨ p ∈ l
  | [], h => by simpa [DataW.insert] using h
  | y :: r, h => by
    unfold DataW.insert at h
    split at h
    · simpa using h
    · rcases List.mem_cons.mp h with h | h
      · exact .inr (by simp [h])
      · rcases mem_insert h with h | h
        · exact .inl h
        · exact .inr (by simp [h])
theorem ky_ne {x y : Int} (h : x ≠ y) : ky x ≠ ky y := fun e => h (by simpa [ky] using e)
theorem Memo.put {O : List Int} {W : List (List Int)} {J : List (List (List Int))} {i K : Nat} {D : DataW Unit} (V : Num.Val O W J) (M : Memo O W J i K D) (hD : IsMap D) {a : List Int} (ha : Num.El (Num.tlL O W J (i + 1)) a) :
    Memo O W J i K (D.put (ky (Num.numL (Num.tlL O W J (i + 1)) a)) (kd (Num.numL (Num.tlL O W J (i + 1)) (Num.imgL (Num.lvA O W J i) (Num.tlL O W J (i + 1)) a)))) := by
  have hs : ∀ x : Int, Maps.has D (ky x) = true → Maps.has (D.put (ky (Num.numL (Num.tlL O W J (i + 1)) a)) (kd (Num.numL (Num.tlL O W J (i + 1)) (Num.imgL (Num.lvA O W J i) (Num.tlL O W J (i + 1)) a)))) (ky x) = true := fun x hx => by
    by_cases e : x = Num.numL (Num.tlL O W J (i + 1)) a
    · rw [e]; exact Maps.has_put_same hD (key_lit _) _
    · rw [Maps.has_put_other (ky_ne e)]; exact hx
  refine ⟨fun b hb hh => ?_, fun q hK hq => hs _ (M.gen q hK hq), hs _ M.zero, ?_⟩
  · by_cases e : Num.numL (Num.tlL O W J (i + 1)) b = Num.numL (Num.tlL O W J (i + 1)) a
    · rw [e, Num.numL_inj (V.ok (i + 1)) hb ha e]
      exact Maps.atKey_put_same hD (key_lit _) _ _
    · rw [Maps.has_put_other (ky_ne e)] at hh
      rw [Maps.atKey_put_other (ky_ne e)]
      exact M.val b hb hh
  · obtain ⟨es, rfl, hes⟩ := M.rng
    refine ⟨_, rfl, fun p hp => ?_⟩
    rcases mem_insert hp with rfl | hp
    · have := Num.numL_rng (V.ok (i + 1)) ha
      exact ⟨_, rfl, this.1, this.2⟩
    · exact hes p (List.mem_filter.mp hp).1
theorem Memo.more {O : List Int} {W : List (List Int)} {J : List (List (List Int))} {i K : Nat} {D : DataW Unit} (M : Memo O W J i K D) (h : i + 1 + K < O.length → Maps.has D (ky (Num.szL (Num.tlL O W J (i + 1 + K + 1)))) = true) : Memo O W J i (K + 1) D :=
  ⟨M.val, fun q h1 h2 => by
    by_cases e : q = K
    · subst e; exact h h2
    · exact M.gen q (by omega) h2, M.zero, M.rng⟩
theorem Memo.full {O : List Int} {W : List (List Int)} {J : List (List (List Int))} {i K L : Nat} {D : DataW Unit} (M : Memo O W J i K D) (h : O.length ≤ i + 1 + K) : Memo O W J i L D :=
  ⟨M.val, fun q h1 h2 => M.gen q (by omega) h2, M.zero, M.rng⟩
theorem Memo.size {O : List Int} {W : List (List Int)} {J : List (List (List Int))} {i K : Nat} {D : DataW Unit} (V : Num.Val O W J) (M : Memo O W J i K D) (hD : Tidy D) : Maps.size D ≤ 117649 := by
  obtain ⟨es, rfl, hp⟩ := hD
  have hb := szL_bd V (i + 1)
  obtain ⟨es', e', hk⟩ := M.rng
  simp only [DataW.map.injEq] at e'
  subst e'
  have hl := Num.nodup_len 117649 (es.map fun p => match p.1 with | .int _ x => x | _ => 0) (by
    rw [List.nodup_iff_pairwise_ne, List.pairwise_map]
    refine hp.imp_of_mem ?_
    intro p q hpm hqm hne e
    obtain ⟨x, e1, _⟩ := hk p hpm
    obtain ⟨y, e2, _⟩ := hk q hqm
    rw [e1, e2] at e hne
    exact hne (by rw [show x = y from e])) (fun x hx => by
    obtain ⟨p, hpm, rfl⟩ := List.mem_map.mp hx
    obtain ⟨y, e1, h0, h1⟩ := hk p hpm
    rw [e1]
    show 0 ≤ y ∧ y < _
    omega)
  rw [List.length_map] at hl
  exact hl

theorem own_keep {k : TypeId} {R : Value → Option (DataW Unit × List MemPlace)} {w w' : World} {b n : Nat} {D : DataW Unit} (h : w.ownsMap Try.prog k R b n D) (e : w'.heap[b]? = w.heap[b]?) : w'.ownsMap Try.prog k R b n D := by
  obtain ⟨es, clock, hb, r⟩ := h
  exact ⟨es, clock, e.trans hb, r⟩
section
variable {O : List Int} {W : List (List Int)} {J : List (List (List Int))} {i bo bm : Nat} {w : World}
theorem MSt.lt (h : MSt O W J i bo bm w) : bo < w.heap.size ∧ bm < w.heap.size := by
  obtain ⟨⟨Do, _, h1, _⟩, ⟨D, h2, _⟩, _⟩ := h
  exact ⟨h1.lt, h2.lt⟩
theorem MSt.below {w' : World} (h : MSt O W J i bo bm w) (hb : Below w.heap.size w w') : MSt O W J i bo bm w' := by
  obtain ⟨⟨Do, h1, h2, h3⟩, ⟨D, h4, h5⟩, h6⟩ := h
  exact ⟨⟨Do, h1, own_keep h2 (hb.block bo h2.lt), h3⟩, ⟨D, own_keep h4 (hb.block bm h4.lt), h5⟩, h6⟩
theorem MSt.look1 (h : MSt O W J i bo bm w) (hi : i ≤ 1000) : (Instr.lookup 119 (.map (some bo)) (.int .i64 (i : Int)) false).run Try.prog w = .ok (.map (some bm)) w := by
  obtain ⟨⟨Do, h1, h2, h3⟩, _, _⟩ := h
  obtain ⟨v, ps, hrun, hv⟩ := h2.lookup keyed3 Try.underlying119 (zero99 w) (zd := kd (-1)) (zp := []) rfl (key3 (x := (i : Int)) (by omega))
  rw [h3] at hv
  rw [hrun, mapR_inv hv]
theorem num_pre : ∀ (q : Nat) (Ls : List Num.Lv) (z : List Int), q ≤ Ls.length → Num.numL Ls (Num.zer q ++ z) = Num.numL (Ls.drop q) z
  | 0, Ls, z, _ => rfl
  | q + 1, [], z, h => by simp at h
  | q + 1, L :: Ls, z, h => by
    rw [Num.zer_succ, List.cons_append, Num.numL_cons, num_pre q Ls z (by simpa using h)]
    show 0 * _ + Num.numL (Ls.drop q) z = Num.numL (Ls.drop q) z
    omega
/-- A generator's vector, its number, its image. -/
theorem gen_num (V : Num.Val O W J) (hi : i < O.length) (C : Num.Con (Num.tlL O W J (i + 1))) {q : Nat} (hq : i + 1 + q < O.length) :
    ∃ g, Num.El (Num.tlL O W J (i + 1)) g ∧ Num.numL (Num.tlL O W J (i + 1)) g = Num.szL (Num.tlL O W J (i + 1 + q + 1)) ∧ Num.imgL (Num.lvA O W J i) (Num.tlL O W J (i + 1)) g = (Num.lvA O W J i).cj.getD q [] := by
  have hO := V.ok (i + 1)
  have M := Num.Con.mon hO C
  have hd : (Num.tlL O W J (i + 1)).drop q = Num.lvA O W J (i + 1 + q) :: Num.tlL O W J (i + 1 + q + 1) := by rw [Num.tlL_drop, Num.tlL_step hq]
  have hlen : q < (Num.tlL O W J (i + 1)).length := by rw [Num.tlL_len]; omega
  refine ⟨Num.zer q ++ Num.genL ((Num.tlL O W J (i + 1)).drop q), Num.zer_put hO q (Num.genL_El (Num.OkL.drop q hO)) (by omega), ?_, ?_⟩
  · rw [num_pre _ _ _ (by omega), hd]
    show (1 : Int) * _ + Num.numL _ (Num.zer _) = _
    rw [Num.numL_zer]
    omega
  · have hOi := V.ok i
    rw [Num.tlL_step hi] at hOi
    have hcl : q < (Num.lvA O W J i).cj.length := by rw [hOi.2.2.1]; exact hlen
    show Num.ev _ _ _ _ = _
    rw [Num.ev_zeros, hd, List.drop_eq_getElem_cons hcl]
    show Num.app _ (Num.mulL _ (Num.zer _) _) (Num.zer _) _ = _
    have hce := hOi.2.2.2.1 _ (List.getElem_mem hcl)
    rw [M.onel _ hce, List.getD_eq_getElem?_getD, List.getElem?_eq_getElem hcl]
    exact Num.ev_zer (Num.mulL (Num.tlL O W J (i + 1))) _ _ _
theorem num_ok (V : Num.Val O W J) {a : List Int} (ha : Num.El (Num.tlL O W J (i + 1)) a) : 0 ≤ Num.numL (Num.tlL O W J (i + 1)) a ∧ Num.numL (Num.tlL O W J (i + 1)) a ≤ 117649 := by
  have h1 := Num.numL_rng (V.ok (i + 1)) ha
  have h2 := szL_bd V (i + 1)
  omega
theorem MSt.look2 (h : MSt O W J i bo bm w) (V : Num.Val O W J) {a : List Int} (ha : Num.El (Num.tlL O W J (i + 1)) a) :
    ∃ x b, (Instr.lookup 161 (.map (some bm)) (.int .i64 (Num.numL (Num.tlL O W J (i + 1)) a)) true).run Try.prog w = .ok (.tuple #[.int .i64 x, .bool b]) w ∧ (b = true → x = Num.numL (Num.tlL O W J (i + 1)) (Num.imgL (Num.lvA O W J i) (Num.tlL O W J (i + 1)) a)) ∧
      (b = false → Num.numL (Num.tlL O W J (i + 1)) a ≠ 0) := by
  obtain ⟨_, ⟨D, h4, h5⟩, _⟩ := h
  have hn := num_ok V ha
  obtain ⟨v, ps, hrun, hv⟩ := h4.look_ok keyed2 Try.underlying161 (zero2 w) (zd := kd 0) (zp := []) (intR_mk (by omega)) (key2 (x := Num.numL (Num.tlL O W J (i + 1)) a) (by omega))
  obtain ⟨x, rfl, hx, _⟩ := plainElem_int_inv Try.underlying2 hv
  simp only [Prod.mk.injEq] at hx
  refine ⟨x, _, hrun, fun hb => ?_, fun hb e => ?_⟩
  · have := h5.val a ha hb
    rw [hx.1] at this
    simpa [kd] using this
  · rw [e, h5.zero] at hb
    cases hb
theorem MSt.lookg (h : MSt O W J i bo bm w) (V : Num.Val O W J) (hi : i < O.length) (C : Num.Con (Num.tlL O W J (i + 1))) {q : Nat} (hq : i + 1 + q < O.length) :
    (Instr.lookup 161 (.map (some bm)) (.int .i64 (Num.szL (Num.tlL O W J (i + 1 + q + 1)))) false).run Try.prog w = .ok (.int .i64 (Num.numL (Num.tlL O W J (i + 1)) ((Num.lvA O W J i).cj.getD q []))) w := by
  obtain ⟨g, g1, g2, g3⟩ := gen_num V hi C hq
  obtain ⟨_, ⟨D, h4, h5⟩, _⟩ := h
  have hn := num_ok V g1
  obtain ⟨x, hrun, hx, _⟩ := h4.lookup_int keyed2 Try.underlying161 Try.underlying2 (zero2 w) (key2 (x := Num.numL (Num.tlL O W J (i + 1)) g) (by omega))
  have hv := h5.val g g1 (by rw [g2]; exact h5.gen q (by omega) hq)
  rw [hx, g3] at hv
  rw [← g2, hrun]
  simp only [DataW.lit.injEq, Lit.int.injEq, true_and] at hv
  rw [hv]
theorem MSt.put (h : MSt O W J i bo bm w) (V : Num.Val O W J) (hi : i < O.length) {a : List Int} (ha : Num.El (Num.tlL O W J (i + 1)) a) :
    ∃ w', (Instr.mapUpdate 161 (.map (some bm)) (.int .i64 (Num.numL (Num.tlL O W J (i + 1)) a)) (.int .i64 (Num.numL (Num.tlL O W J (i + 1)) (Num.imgL (Num.lvA O W J i) (Num.tlL O W J (i + 1)) a)))).run Try.prog w = .ok () w' ∧ MSt O W J i bo bm w' ∧ ChgS (fun k => k = bm) w w' ∧
      (Instr.lookup 161 (.map (some bm)) (.int .i64 (Num.numL (Num.tlL O W J (i + 1)) a)) false).run Try.prog w' = .ok (.int .i64 (Num.numL (Num.tlL O W J (i + 1)) (Num.imgL (Num.lvA O W J i) (Num.tlL O W J (i + 1)) a))) w' := by
  obtain ⟨⟨Do, h1, h2, h3⟩, ⟨D, h4, h5⟩, h6⟩ := h
  have hn := num_ok V ha
  have hOi := V.ok i
  rw [Num.tlL_step hi] at hOi
  have hm := num_ok V (Num.El.img hOi a)
  have hsz := h5.size V (h4.tidy keyed2)
  obtain ⟨w', hrun, hown, hgr⟩ := h4.update keyed2 Try.underlying161 (by unfold maxLen; omega) (key2 (x := Num.numL (Num.tlL O W J (i + 1)) a) (by omega)) (intR_mk (x := Num.numL (Num.tlL O W J (i + 1)) (Num.imgL (Num.lvA O W J i) (Num.tlL O W J (i + 1)) a)) (by omega))
  have hput := h5.put V (h4.isMap) ha
  refine ⟨w', hrun, ⟨⟨Do, h1, h2.kept hgr (by simp; omega), h3⟩, ⟨_, own_full hown, hput⟩, h6⟩, ChgS.of_grown hgr (fun k hk => by simpa using hk.symm), ?_⟩
  obtain ⟨x, hrun2, hx, _⟩ := hown.lookup_int keyed2 Try.underlying161 Try.underlying2 (zero2 w') (key2 (x := Num.numL (Num.tlL O W J (i + 1)) a) (by omega))
  rw [Maps.atKey_put_same h4.isMap (key_lit _)] at hx
  rw [hrun2]
  simp only [DataW.lit.injEq, Lit.int.injEq, true_and] at hx
  rw [hx]
end
end Go.Proofs.Yteappjgdcbploaa
