/- The model's identity matrix, matrices made of rows. -/
import Derived.Test.YtggkoihlmijacaaL02K
import Derived.Test.YtggkoihlmijacaaKB
import Derived.Deep.AppendLies
namespace Go.Proofs.Ytggkoihlmijacaa
open Go.RowKit
set_option linter.unusedVariables false
set_option linter.unusedSimpArgs false

theorem Num.unitR_take {n j : Nat} (h : j < n) : (Num.unitR n).take (j + 1) = (Num.unitR n).take j ++ [Num.unitV n j] := by
  rw [List.take_succ_eq_append_getElem (by simpa [Num.unitR] using h)]
  simp [Num.unitR]
theorem Num.unitR_length (n : Nat) : (Num.unitR n).length = n := by simp [Num.unitR]
theorem sumOf_bd {f : List Int → Nat} {c : Nat} (xs : List (List Int)) (h : ∀ x ∈ xs, f x ≤ c) : sumOf f xs ≤ xs.length * c := by
  unfold sumOf
  induction xs with
  | nil => simp
  | cons a l ih =>
    have h1 := h a (by simp)
    have h2 := ih fun x hx => h x (by simp [hx])
    simp only [List.map_cons, List.sum_cons, List.length_cons, Nat.succ_mul]
    omega
theorem rows_bd {n : Nat} {rows : List (List Int)} (h : ∀ i, i < rows.length → (rows.getD i []).length = n) : ∀ x ∈ rows, x.length ≤ n := fun x hx => by
  obtain ⟨i, hi, rfl⟩ := List.mem_iff_getElem.mp hx
  have := h i hi
  rw [Num.getD_lt _ _ hi] at this
  omega
theorem cnt_bd {P C : Int} {n : Nat} {rows : List (List Int)} (h : ∀ i, i < rows.length → (rows.getD i []).length = n) (hl : rows.length ≤ 1000) (hn : n ≤ 1000) : spMat.cnt ⟨P, C, rows⟩ ≤ 1000000000 := by
  have h1 := sumOf_bd (f := spI.cnt) (c := n) rows (rows_bd h)
  have h2 : rows.length * n ≤ 1000 * 1000 := Nat.mul_le_mul hl hn
  have h3 : spMat.cnt ⟨P, C, rows⟩ = sumOf spI.cnt rows := rfl
  omega
theorem sz_bd {n : Nat} {rows : List (List Int)} (h : ∀ i, i < rows.length → (rows.getD i []).length = n) (hl : rows.length ≤ 1000) (hn : n ≤ 1000) : spII.sz rows ≤ 1048576 := by
  have h1 := sumOf_bd (f := spI.sz) (c := n) rows (rows_bd h)
  have h2 : rows.length * n ≤ 1000 * 1000 := Nat.mul_le_mul hl hn
  have h3 : spII.sz rows = rows.length + sumOf spI.sz rows := rfl
  omega
theorem MadeC.mat {x : Mat} {c : Int} {w w' : World} {e : Ending} {v : Value} {S : Nat → Prop} (h1 : e = .returned (.tuple #[.agg #[.int .i64 x.P, .int .i64 x.C, v], .int .i64 c])) (h2 : spII.own w' S v x.R) (h3 : ∀ k, S k → w.heap.size ≤ k) (h4 : spMat.cnt x ≤ 1000000000) (h5 : Below w.heap.size w w') : MadeC spMat x c w e w' :=
  ⟨_, S, h1, ⟨v, S, rfl, h2, fun k h => h, fun k h => spII.own_lt h2 h⟩, h3, h4, h5⟩
theorem MadeC.none {c : Int} {w w' : World} {e : Ending} (h1 : e = .returned (.tuple #[.agg #[.int .i64 0, .int .i64 0, .slice none 0 0], .int .i64 c])) (h5 : Below w.heap.size w w') : MadeC spMat noMat c w e w' :=
  MadeC.mat (x := noMat) (S := fun _ => False) h1 (spL_nil _ _ _ _) (fun k h => h.elim) (by show sumOf spI.cnt ([] : List (List Int)) ≤ _; simp [sumOf]) h5
set_option maxRecDepth 100000 in
set_option maxHeartbeats 1000000 in
theorem sUnit_any (n : Nat) (w : World) (hn : n ≤ 1000) : Calls Try.prog 73 #[.int .i64 n] w (Made spII (Num.unitR n) w) := by
  obtain ⟨i0', hi', hz0', hz1', hz2'⟩ := info_parts infoI
  obtain ⟨i0, hi, hz0, hz1, hz2⟩ := info_parts infoII
  go_enter Try.func73, Try.ntmps73
  go_wp2_with (fail)
  go_loopw [3, 4] (fun s3 s4 wr => ∃ (j : Nat) (S : Nat → Prop), s4 = .int .i64 j ∧ j ≤ n ∧ Hid (spII.own wr S s3 ((Num.unitR n).take j)) ∧ Hid (∀ k, S k → w.heap.size ≤ k) ∧ Below w.heap.size w wr) (fun _ s4 _ => n - (intOf s4).toNat)
  case atStart => exact ⟨0, _, rfl, by omega, Lib.hid (spL_empty _ _ _ _), Lib.hid (fun k hk => by omega), by go_grown⟩
  case round =>
    obtain ⟨j, S, rfl, hj, HO, hS, bel⟩ := hrel
    have hlj : ((Num.unitR n).take j).length = j := by rw [List.length_take, Num.unitR_length]; omega
    by_cases hlt : j < n
    · have j0 : (0 : Int) ≤ (j : Int) := by omega
      have j1 : (j : Int) < (n : Int) := by omega
      have ET := Lib.hid (Num.unitR_take hlt)
      obtain ⟨A', c', e', -⟩ := spII.own_rd HO.out
      rw [hlj] at e'
      subst e'
      have HLJ := Lib.hid hlj
      clear hlj
      have zl : Hid ((Num.zeroV n).length = n) := Lib.hid (by simp [Num.zeroV])
      go_wp2_with (first | (refine wpList_make_full _ rfl (.tmp 12) (.tmp 12) 31 rfl wr.heap.size 2 i0' (.int .i64 0) 1 Try.underlying31 hi' hz0' hz1' .i64 .i64 (n : Int) (n : Int) n rfl rfl rfl rfl (by rw [hz2']; omega) (by unfold maxLen; omega) (Nat.le_refl _) ?_; intro w1 own1 gr1; have o1 : OwnI w1 wr.heap.size (.slice (some ⟨wr.heap.size, 0, none⟩) n n) (Num.zeroV n) := made_zeros own1; have b1 : Below wr.heap.size wr w1 := (Below.refl _ _).grown gr1 (Nat.le_refl _) (fun k hk => by simp at hk); obtain ⟨g, cg, e1, -, hgl, a0, f0⟩ := spI_own_at (spI_of o1) (j := j) (by rw [zl.out]; exact hlt); simp only [Value.slice.injEq] at e1; obtain ⟨e1, -, -⟩ := e1; obtain rfl : wr.heap.size = g := (by simpa using e1); have o2' := spI_set (spI_of o1) (j := j) (by rw [zl.out]; exact hlt) 1; rw [Num.zeroV_set hlt] at o2'; have hb2 : Below wr.heap.size wr (w1.setCell ⟨wr.heap.size, j, none⟩ (.int .i64 1)) := below_set b1 (Nat.le_refl _) j _; obtain ⟨S2, HS2, ow2⟩ : ∃ S2 : Nat → Prop, (∀ k, S2 k → wr.heap.size ≤ k) ∧ Hid (spI.own (w1.setCell ⟨wr.heap.size, j, none⟩ (.int .i64 1)) S2 (.slice (some ⟨wr.heap.size, 0, none⟩) n n) (Num.unitV n j)) := ⟨_, fun k hk => (World.ownsRow.lt o1 k hk).1, Lib.hid o2'⟩; clear own1 gr1 o1 o2' e1 b1; have o2 := spII.own_below HO.out hb2; obtain ⟨vs3, hvs, hpush⟩ := spL_push o2 ow2.out (fun k h1 h2 => by have := spII.own_lt HO.out h1; have := HS2 k h2; omega); rw [HLJ.out] at hvs hpush; have HVS := Lib.hid (hvs.alloc (.cells #[.slice (some ⟨wr.heap.size, 0, none⟩) n n] 31)); have HP := Lib.hid hpush; have HB := Lib.hid (fun k (hk : (Value.slice A' j c').ownBlock = some k) => hS.out k (by obtain ⟨_, _, _, _, _, _, h5, _⟩ := HO.out; exact h5 k hk)); clear hvs hpush o2) | (at_builtin; refine wpList_append_lies _ rfl _ _ 22 rfl 0 31 i0 (.slice none 0 0) 1 24 Try.underlying22 hi hz0 hz1 hz2 rfl (by decide) (.slice A' j c') j vs3 rfl HVS.out ⟨_, 0, none⟩ 1 1 [.slice (some ⟨wr.heap.size, 0, none⟩) n n] rfl rfl (by first | exact cell_one_new _ _ _ | (have hcn := cell_one_new (w1.setCell ⟨wr.heap.size, j, none⟩ (.int .i64 1)) (.slice (some ⟨wr.heap.size, 0, none⟩) n n) 31; rw [World.size_setCell] at hcn; exact hcn)) (by simp [Value.oneCell']) (by decide) (by unfold maxLen; omega) (by omega) (Nat.zero_le _) _ rfl ?_; intro g3 cap3 w3 own3 gr3 at3 lt3))
      have hzp : wr.heap.size ≤ (w1.setCell ⟨wr.heap.size, j, none⟩ (.int .i64 1)).heap.size := hb2.size
      have hzw := bel.size
      have OW3 := Lib.hid (HP.out _ _ _ g3 ((Below.refl _ _).alloc (Nat.le_refl _) _) own3 gr3 rfl (by rcases at3 with h' | h'; exact .inl h'; exact .inr (by simp at h' ⊢; omega)) lt3)
      have HS3 : Hid (∀ k, (S k ∨ S2 k ∨ k = g3) → w.heap.size ≤ k) := Lib.hid (fun k hk => by
        rcases hk with hk | hk | hk
        · exact hS.out _ hk
        · have := HS2 _ hk; omega
        · rcases at3 with h' | h'
          · rw [hk]; exact HB.out _ h'
          · have hzp' := hzp; simp at h' hzp'; omega)
      have bel3 : Below w.heap.size w w3 := ((bel.trans (hb2.mono hzw)).alloc (by omega) _).grown gr3 (by have hzp' := hzp; simp at hzp' ⊢; omega) HB.out
      clear own3 gr3 at3 lt3 HVS HP
      clear hb2 HS2 ow2
      go_wp2_with (fail)
      exact ⟨⟨j + 1, _, by go_num, by omega, Lib.hid (by rw [ET.out]; exact OW3.out), HS3, bel3⟩, by simp [intOf]; omega⟩
    · have hge : ¬ ((j : Int) < (n : Int)) := by omega
      obtain rfl : j = n := by omega
      have HE : Hid ((Num.unitR j).take j = Num.unitR j) := Lib.hid (List.take_of_length_le (by rw [Num.unitR_length]; omega))
      rw [HE.out] at HO
      clear hlj
      go_wp2_with (fail)
      go_ret
      exact Made.of rfl HO.out hS.out bel
set_option maxRecDepth 100000 in
set_option maxHeartbeats 1000000 in
theorem sMake_any (P C : Int) (v : Value) (rows : List (List Int)) (w : World) (h : spII.rd w v rows) (hl : spII.sz rows ≤ 1048576) :
    Calls Try.prog 61 #[.int .i64 P, .int .i64 C, v] w (Made spMat ⟨P, C, rows⟩ w) := by
  have HR := Lib.hid h
  have b0 : Below w.heap.size w (w.alloc (.cells #[.int .i64 0, .int .i64 0, .slice none 0 0] 27)) := by go_grown
  have B0 := Blk.new w [.int .i64 0, .int .i64 0, .slice none 0 0] 27
  have HC := Lib.hid (sOwn2_any v rows _ (spII.rd_below h b0) hl)
  clear h
  go_enter Try.func61, Try.ntmps61
  go_wp2_with (fail)
  refine HC.out.mono ?_; rintro e w1 ⟨u, S, rfl, ow, hS, hb⟩
  obtain ⟨A, c, rfl, -, -⟩ := spII.own_rd ow
  have B1 := B0.below hb
  obtain ⟨bl, c0, c1, c2⟩ := B1.c3
  obtain ⟨f0, f1, f2⟩ := B1.f3
  have nS : ¬ S w.heap.size := fun hk => by have := hS _ hk; simp at this; omega
  have HO := Lib.hid ow
  have HS := Lib.hid hS
  have L := bstep b0 (by go_size) hb
  clear ow hS hb B0 B1
  go_wp2_with (fail)
  refine bodyPost_ret (v := .agg #[.int .i64 P, .int .i64 C, .slice A rows.length c]) (by simp [results, Try.results61, go_sem, bl, c0, c1, c2]) rfl ?_
  refine Made.of (S := S) rfl ⟨.slice A rows.length c, S, rfl, ?_, fun k h => h, fun k h => ?_⟩ (fun k h => by have := HS.out _ h; simp at this; omega) ?_
  · exact spII.own_set (spII.own_set (spII.own_set HO.out (p := ⟨w.heap.size, 0, none⟩) nS _) (p := ⟨w.heap.size, 1, none⟩) nS _) (p := ⟨w.heap.size, 2, none⟩) nS _
  · have := spII.own_lt HO.out h
    simpa using this
  · exact ((L.setCell (p := ⟨w.heap.size, 0, none⟩) (by simp) _).setCell (p := ⟨w.heap.size, 1, none⟩) (by simp) _).setCell (p := ⟨w.heap.size, 2, none⟩) (by simp) _
end Go.Proofs.Ytggkoihlmijacaa
