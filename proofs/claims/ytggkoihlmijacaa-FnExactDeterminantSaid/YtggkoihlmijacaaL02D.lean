/- matrixOf: a matrix of rows of residues. -/
import Derived.Test.YtggkoihlmijacaaL02C
import Derived.Deep.AppendLies
import Derived.Deep.RegionHeld3
import Derived.Deep.RegionLaw
namespace Go.Proofs.Ytggkoihlmijacaa
open Go.RowKit
set_option linter.unusedVariables false
set_option linter.unusedSimpArgs false

def spRR (p : Int) : Sp (List (List Int)) := spL 56 (spR p) []
set_option maxRecDepth 100000 in
set_option maxHeartbeats 2000000 in
theorem matrixOf_any (p C : Int) (v : Value) (rows : List (List Int)) (w : World) (h : (spRR p).rd w v rows) (hl : rows.length ≤ 1000) (hr : ∀ j, j < rows.length → (rows.getD j []).length ≤ 1000) :
    Calls Try.prog 65 #[.int .i64 p, .int .i64 C, v] w (Made spMat ⟨p, C, rows⟩ w) := by
  obtain ⟨A, c, rfl, hm, hrow⟩ := h
  obtain ⟨i0, hi, hz0, hz1, hz2⟩ := info_parts infoS
  have HROW := Lib.hid hrow
  have HL := Lib.hid hr
  clear hrow hm hr
  go_enter Try.func65, Try.ntmps65
  go_wp2_with (fail)
  go_loopw [15] (fun s wr => ∃ (j : Nat) (rv : Value) (S : Nat → Prop), s = .int .i64 j ∧ j ≤ rows.length ∧ spII.own wr S rv (rows.take j) ∧ Hid (∀ k, S k → w.heap.size + 1 + 1 ≤ k) ∧ Blk wr w.heap.size [.int .i64 0, .int .i64 0, .slice none 0 0] 27 ∧ Blk wr (w.heap.size + 1) [.int .i64 p, .int .i64 C, rv] 27 ∧ Below w.heap.size w wr) (fun s _ => rows.length - (intOf s).toNat)
  case atStart => exact ⟨0, _, _, rfl, by omega, spL_nil _ _ _ _, Lib.hid (fun k hk => hk.elim), (Blk.new w [.int .i64 0, .int .i64 0, .slice none 0 0] _).alloc _, (by have := Blk.new (w.alloc (.cells #[.int .i64 0, .int .i64 0, .slice none 0 0] 27)) [.int .i64 p, .int .i64 C, .slice none 0 0] 27; rwa [World.size_alloc] at this), by go_grown⟩
  case round =>
    obtain ⟨j, rv, S, rfl, hj, own, hS, BR, BM, bel⟩ := hrel
    by_cases hlt : j < rows.length
    · obtain ⟨g, o, u, rfl, hg, hc0, hru⟩ := HROW.out j hlt
      have hc : wr.cell? ⟨g, o + j, none⟩ = some u := by rw [bel.cell hg]; exact hc0
      have i0' : (0 : Int) ≤ (j : Int) := by omega
      have i1' : (j : Int) < (rows.length : Int) := by omega
      have RU := Lib.hid ((spR p).rd_drew ((spR p).rd_below hru bel))
      obtain ⟨Au, cu, rfl, -⟩ := spR_form hru
      have hlen := HL.out j hlt
      have HV := Lib.hid (valuesOf_any p _ _ wr.drew RU.out hlen)
      have HO := Lib.hid own
      clear hru hc0 own
      generalize hx : rows.getD j [] = x at *
      have HX := Lib.hid hx
      clear hx
      generalize x.length = n at *
      obtain ⟨A', c', e', -⟩ := spII.own_rd HO.out
      have hlj : (rows.take j).length = j := by simp; omega
      have HLJ := Lib.hid hlj
      rw [hlj] at e'
      subst e'
      clear hlj
      obtain ⟨bl, b0, b1, b2⟩ := BM.c3
      have f2 := BM.free 2
      have NOB : some (⟨w.heap.size + 1, 2, none⟩ : Addr).block ≠ (Value.slice A' j c').ownBlock := fun e => by
        obtain ⟨vs, T, _, _, _, _, h5, _⟩ := HO.out
        have := hS.out _ (h5 _ e.symm)
        simp at this
        omega
      go_wp2_with (fail)
      go_region_law (first | (go_simp; go_at_call 87; refine HV.out.mono ?_; rintro e w2 ⟨u2, S2, rfl, ow2, hS2, hb2⟩; obtain ⟨U, cU, rfl, -, -⟩ := spI.own_rd ow2; have SM : w2.cell? ⟨w.heap.size + 1, 2, none⟩ = some (.slice A' j c') := (by rw [hb2.cell bl]; exact b2); obtain ⟨vs, hvs, hpush⟩ := spL_push (spII.own_below (spII.own_drew HO.out) hb2) ow2 (fun k h1 h2 => by have := spII.own_lt HO.out h1; have h3 := hS2 k h2; exact absurd this (Nat.not_lt.mpr h3)); rw [HLJ.out] at hvs hpush; have HVS := Lib.hid (hvs.alloc (.cells #[.slice U x.length cU] 31)); have HP := Lib.hid hpush; clear hvs hpush; have bl2 : w.heap.size + 1 < w2.heap.size := Nat.lt_of_lt_of_le bl hb2.size; have hf2 : w2.frozen? ⟨w.heap.size + 1, 2, none⟩ = false := (by rw [hb2.frozen bl]; exact f2); have NB1 : Hid ((⟨w.heap.size + 1, 2, none⟩ : Addr).block < (w2.alloc (.cells #[.slice U x.length cU] 31)).heap.size) := Lib.hid (by simp; omega); have NB2 : Hid (some (⟨w.heap.size + 1, 2, none⟩ : Addr).block ≠ (Value.slice A' j c').ownBlock) := Lib.hid NOB) | (refine step_append_lies _ rfl _ _ _ rfl 0 31 i0 (.slice none 0 0) 1 24 Try.underlying22 hi hz0 hz1 hz2 rfl (by decide) (.slice A' j c') j vs rfl HVS.out ⟨_, 0, none⟩ 1 1 [.slice U x.length cU] rfl rfl (cell_one_new _ _ _) (by simp [Value.oneCell']) (by decide) (by unfold maxLen; omega) (by omega) (Nat.zero_le _) _ rfl ?_; intro g3 cap3 w3 own3 gr3 at3 lt3; have SM3 : w3.cell? ⟨w.heap.size + 1, 2, none⟩ = some (.slice A' j c') := (by rw [gr3.cell_far _ NB1.out NB2.out]; rw [((Below.refl w2.heap.size w2).alloc (Nat.le_refl _) _).cell (by simpa using bl2)]; exact SM); have SF3 : w3.frozen? ⟨w.heap.size + 1, 2, none⟩ = false := (by rw [gr3.frozen_far _ NB1.out NB2.out, ((Below.refl w2.heap.size w2).alloc (Nat.le_refl _) _).frozen (by simpa using bl2)]; exact hf2)))
      all_goals
        have nS3 : ¬ (fun k => S k ∨ S2 k ∨ k = g3) (w.heap.size + 1) := by
          intro hk
          rcases hk with hk | hk | hk
          · have := hS.out _ hk; omega
          · have := hS2 _ hk
            have h' : wr.heap.size = wr.drew.heap.size := rfl
            omega
          · rcases at3 with h' | h'
            · exact NOB (by rw [h', hk])
            · simp at h'; omega
        have hz2 : wr.heap.size ≤ w2.heap.size := hb2.size
        have OW3 := Lib.hid (spII.own_set (HP.out _ _ _ g3 ((Below.refl _ _).alloc (Nat.le_refl _) _) own3 gr3 rfl (by
          rcases at3 with h' | h'
          · exact .inl h'
          · exact .inr (by simp at h'; omega)) lt3) (p := ⟨w.heap.size + 1, 2, none⟩) nS3 (.slice (some ⟨g3, 0, none⟩) (j + 1) cap3))
        have ET : Hid (rows.take (j + 1) = rows.take j ++ [x]) := Lib.hid (by
          rw [List.take_succ_eq_append_getElem hlt, ← HX.out]
          simp [hlt])
        have bel3 : Below w.heap.size w w3 := ((((bel.drew).trans (hb2.mono bel.size)).alloc (by have := bel.size; omega) _)).trans ((ChgS.of_grown (S := fun k => w.heap.size ≤ k) gr3 (fun k hk => by
          obtain ⟨vs', T, _, _, _, _, h5, _⟩ := HO.out
          have := hS.out _ (h5 _ hk)
          omega)).below (fun k hk => hk) (by have := bel.size; simp; omega))
        have BR3 : Blk w3 w.heap.size [.int .i64 0, .int .i64 0, .slice none 0 0] 27 := by
          have B2 := (((BR.drew).below hb2).alloc (.cells #[.slice U x.length cU] 31))
          refine B2.chg (ChgS.of_grown (S := fun k => w.heap.size + 1 + 1 ≤ k) gr3 (fun k hk => ?_)) (by omega)
          obtain ⟨vs', T, _, _, _, _, h5, _⟩ := HO.out
          exact hS.out _ (h5 _ hk)
        have BM3 : Blk w3 (w.heap.size + 1) [.int .i64 p, .int .i64 C, .slice A' j c'] 27 := by
          have B2 := (((BM.drew).below hb2).alloc (.cells #[.slice U x.length cU] 31))
          refine B2.chg (ChgS.of_grown (S := fun k => w.heap.size + 1 + 1 ≤ k) gr3 (fun k hk => ?_)) (by omega)
          obtain ⟨vs', T, _, _, _, _, h5, _⟩ := HO.out
          exact hS.out _ (h5 _ hk)
        have BR4 := BR3.other (p := ⟨w.heap.size + 1, 2, none⟩) (by simp) (.slice (some ⟨g3, 0, none⟩) (j + 1) cap3)
        have BM4 := BM3.set 2 (.slice (some ⟨g3, 0, none⟩) (j + 1) cap3)
        simp only [List.set] at BM4
        have L4 := bel3.setCell (p := ⟨w.heap.size + 1, 2, none⟩) (by simp) (.slice (some ⟨g3, 0, none⟩) (j + 1) cap3)
        have HS4 : Hid (∀ k, (S k ∨ S2 k ∨ k = g3) → w.heap.size + 1 + 1 ≤ k) := Lib.hid (fun k hk => by
          rcases hk with hk | hk | hk
          · exact hS.out _ hk
          · have := hS2 _ hk
            have h' : wr.heap.size = wr.drew.heap.size := rfl
            omega
          · rcases at3 with h' | h'
            · obtain ⟨vs', T, _, _, _, _, h5, _⟩ := HO.out
              rw [hk]
              exact hS.out _ (h5 _ h')
            · simp at h'; omega)
        clear own3 gr3 BM3 BR3 bel3 hb2 ow2 SM SM3
        go_wp2_with (fail)
        exact ⟨⟨j + 1, _, _, by go_num, by omega, by rw [ET.out]; exact OW3.out, HS4, BR4, BM4, L4⟩, by simp [intOf]; omega⟩
    · have hge : ¬ ((j : Int) < (rows.length : Int)) := by omega
      obtain rfl : j = rows.length := by omega
      rw [List.take_length] at own
      obtain ⟨A', c', rfl, -⟩ := spII.own_rd own
      have HO := Lib.hid own
      clear own
      obtain ⟨rl, r0, r1, r2⟩ := BR.c3
      obtain ⟨ml, m0, m1, m2⟩ := BM.c3
      have f0 := BR.free 0
      have f1 := BR.free 1
      have f2 := BR.free 2
      have nS : ¬ S w.heap.size := fun hk => by have := hS.out _ hk; omega
      go_wp2_with (fail)
      refine bodyPost_ret (v := .agg #[.int .i64 p, .int .i64 C, .slice A' rows.length c']) (by simp [results, Try.results65, go_sem, rl, r0, r1, r2, ml]) rfl ?_
      refine Made.of (S := S) rfl ⟨.slice A' rows.length c', S, rfl, ?_, fun k h => h, fun k h => ?_⟩ (fun k h => by have := hS.out _ h; omega) ?_
      · exact spII.own_set (spII.own_set (spII.own_set HO.out (p := ⟨w.heap.size, 0, none⟩) nS _) (p := ⟨w.heap.size, 1, none⟩) nS _) (p := ⟨w.heap.size, 2, none⟩) nS _
      · have := spII.own_lt HO.out h
        simpa using this
      · exact ((bel.setCell (p := ⟨w.heap.size, 0, none⟩) (by simp) _).setCell (p := ⟨w.heap.size, 1, none⟩) (by simp) _).setCell (p := ⟨w.heap.size, 2, none⟩) (by simp) _

/-! ### Rows of zeros, a row of the identity matrix -/
theorem made_zeros {w w1 : World} {n : Nat} (own1 : w1.ownsRow w.heap.size 2 1 (.slice (some ⟨w.heap.size, 0, none⟩) n n) n (madeCells (Value.int .i64 0).cells (n * 1)).toList) :
    OwnI w1 w.heap.size (.slice (some ⟨w.heap.size, 0, none⟩) n n) (List.replicate n 0) := by
  unfold OwnI
  have e : (madeCells (Value.int .i64 0).cells (n * 1)).toList = (List.replicate n (0 : Int)).map (Value.int .i64) := by
    show (madeCells #[Value.int .i64 0] (n * 1)).toList = _
    rw [toList_madeCells_one]
    simp
  rw [e] at own1
  simpa using own1
set_option maxHeartbeats 400000 in
theorem zeroRow_any (p : Int) (n : Nat) (w : World) (hn : n ≤ 1000) (hp1 : 1 ≤ p) (hp2 : p ≤ 1000000) :
    Calls Try.prog 83 #[.int .i64 p, .int .i64 n] w (Made (spR p) (Num.zeroV n) w) := by
  show Calls _ _ _ _ (Made (spR p) (List.replicate n 0) w)
  obtain ⟨i0, hi, hz0, hz1, hz2⟩ := info_parts infoI
  go_enter Try.func83, Try.ntmps83
  go_wp2_with (refine wpList_make_full _ rfl (.tmp 6) (.tmp 6) 31 rfl w.heap.size 2 i0 (.int .i64 0) 1 Try.underlying31 hi hz0 hz1 .i64 .i64 (n : Int) (n : Int) n rfl rfl rfl rfl (by rw [hz2]; omega) (by unfold maxLen; omega) (Nat.le_refl _) ?_; intro w1 own1 gr1)
  have o1 := made_zeros own1
  have e0 : (List.replicate n (0 : Int)).map (· % p) = List.replicate n 0 := by simp
  have HC := residuesOf_any p (.slice (some ⟨w.heap.size, 0, none⟩) n n) (List.replicate n 0) w1 (spI.own_rd (spI_of o1)) (by simp; omega) hp1 hp2
  rw [e0] at HC
  have HC := Lib.hid HC
  have b1 : Below w.heap.size w w1 := (Below.refl _ _).grown gr1 (Nat.le_refl _) (fun k hk => by simp at hk)
  clear e0 own1 gr1 o1
  go_wp2_with (fail)
  refine HC.out.mono ?_; rintro e w2 ⟨u, S, rfl, ow, hS, hb⟩
  have HO := Lib.hid ow
  clear ow
  go_wp2_with (fail)
  go_ret
  exact Made.of rfl HO.out (fun k hk => by have := hS k hk; have := b1.size; omega) (bstep b1 b1.size hb)
set_option maxRecDepth 100000 in
set_option maxHeartbeats 1000000 in
theorem unitRow_any (p : Int) (n i : Nat) (w : World) (hn : n ≤ 1000) (hi : i < n) (hp1 : 2 ≤ p) (hp2 : p ≤ 1000000) :
    Calls Try.prog 111 #[.int .i64 p, .int .i64 n, .int .i64 i] w (Made (spR p) (Num.unitV n i) w) := by
  have HC : Hid (Calls Try.prog 83 #[.int .i64 p, .int .i64 n] w (Made (spR p) (List.replicate n 0) w)) := Lib.hid (zeroRow_any p n w hn (by omega) hp2)
  have e1 : (1 : Int) % p = 1 := Int.emod_eq_of_lt (by omega) (by omega)
  have HR := fun W => residueOf_any 1 p W (by omega) hp2
  rw [e1] at HR
  have HR := Lib.hid HR
  have EU : Hid ((List.replicate n (0 : Int)).set i 1 = Num.unitV n i) := Lib.hid (Num.zeroV_set hi)
  clear e1
  go_enter Try.func111, Try.ntmps111
  go_wp2_with (fail)
  refine HC.out.mono ?_; rintro e w1 ⟨u, S, rfl, ow, hS, hb⟩
  obtain ⟨o1, o2, o3⟩ := ow
  obtain ⟨A, c, rfl, -⟩ := ownsRow_cap o1
  have hl : (List.replicate n (0 : Int)).length = n := by simp
  rcases o1.2 with ⟨hv, h0⟩ | ⟨g, cap, cur, hv, hg, hh, r⟩
  · simp at h0; omega
  · simp only [Value.slice.injEq] at hv
    obtain ⟨rfl, -, rfl⟩ := hv
    rw [hl] at o1 o2
    have i0 : (0 : Int) ≤ (i : Int) := by omega
    have i1 : (i : Int) < (n : Int) := by omega
    have HO1 := Lib.hid o1
    have HO2 := Lib.hid o2
    have HO3 := Lib.hid o3
    have HSS := Lib.hid hS
    clear o1 o2 o3 hS hh r
    go_wp2_with (fail)
    refine (HR.out _).mono ?_; rintro e w2 ⟨rfl, hb2⟩
    have o2 := ownsRow_keep HO1.out (w' := w2) (fun k hk => hb2.block k (HO3.out k (HO2.out k hk)))
    obtain ⟨ov0, hov0⟩ : ∃ ov, w2.cell? ⟨g, i * 2, none⟩ = some ov := ⟨_, by rw [o2.cellAt (i * 2) (by omega)]; exact List.getElem?_eq_getElem (by rw [resCells_length]; simp; omega)⟩
    obtain ⟨ov1, hov1⟩ : ∃ ov, w2.cell? ⟨g, i * 2 + 1, none⟩ = some ov := ⟨_, by rw [o2.cellAt (i * 2 + 1) (by omega)]; exact List.getElem?_eq_getElem (by rw [resCells_length]; simp; omega)⟩
    have hf0 := o2.frozenAt (i * 2)
    have hf1 := o2.frozenAt (i * 2 + 1)
    obtain ⟨st1, gr1⟩ := o2.stored (i * 2) (.int .i64 1)
    obtain ⟨st2, gr2⟩ := st1.stored (i * 2 + 1) (.int .i64 p)
    rw [resCells_set p _ i 1 (by simpa using hi), EU.out] at st2
    have hgS : w.heap.size ≤ g := HSS.out g (HO2.out g rfl)
    have hgl : g < w1.heap.size := HO3.out g (HO2.out g rfl)
    have L : Below w.heap.size w ((w2.setCell ⟨g, i * 2, none⟩ (.int .i64 1)).setCell ⟨g, i * 2 + 1, none⟩ (.int .i64 p)) := (((hb.trans (hb2.mono hb.size)).grown gr1 (by have := hb.size; have := hb2.size; omega) (fun k hk => by simp at hk; omega)).grown gr2 (by have := hb.size; have := hb2.size; simp; omega) (fun k hk => by simp at hk; omega))
    have HO := Lib.hid st2
    have hlu : (Num.unitV n i).length = n := Num.unitV_length n i
    have HLU := Lib.hid hlu
    have hsz : ∀ k, S k → k < ((w2.setCell ⟨g, i * 2, none⟩ (.int .i64 1)).setCell ⟨g, i * 2 + 1, none⟩ (.int .i64 p)).heap.size := fun k hk => by have := HO3.out k hk; have := hb2.size; simp; omega
    have HSZ := Lib.hid hsz
    clear o2 st1 st2 gr1 gr2 hlu hsz
    go_wp2_with (fail)
    go_ret
    exact Made.of (S := S) rfl ⟨by rw [HLU.out]; exact HO.out, HO2.out, HSZ.out⟩ HSS.out L
end Go.Proofs.Ytggkoihlmijacaa
