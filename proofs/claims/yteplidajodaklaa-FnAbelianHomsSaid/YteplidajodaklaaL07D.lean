/- CountSolutions of the program and of the model. -/
import Derived.Test.YteplidajodaklaaL07C
import Derived.Test.YteplidajodaklaaKB
namespace Go.Proofs.Yteplidajodaklaa
open Go.RowKit
set_option linter.unusedVariables false
set_option linter.unusedSimpArgs false

/-- The numbers of solutions in the cyclic factors. -/
def Num.gcds (F : List Int) (k : Int) : List Int := F.map fun f => (Int.gcd f k : Int)
theorem Num.gcds_len (F : List Int) (k : Int) : (Num.gcds F k).length = F.length := by simp [Num.gcds]
theorem Num.gcds_take {F : List Int} {k : Int} {j : Nat} (h : j < F.length) : (Num.gcds F k).take (j + 1) = (Num.gcds F k).take j ++ [(Int.gcd (F.getD j 0) k : Int)] := by
  unfold Num.gcds
  rw [← List.map_take, ← List.map_take, map_take_succ _ _ 0 h]
theorem Num.gcds_pos {F : List Int} {k : Int} (hk : 1 ≤ k) : ∀ j, j < (Num.gcds F k).length → 1 ≤ (Num.gcds F k).getD j 0 := fun j hj => by
  have hj' : j < F.length := by rwa [Num.gcds_len] at hj
  have e : (Num.gcds F k).getD j 0 = (Int.gcd F[j] k : Int) := by simp [Num.gcds, hj']
  rw [e]
  have : 0 < Int.gcd F[j] k := Int.gcd_pos_of_ne_zero_right _ (by omega)
  omega
def rCountSolutions (x : Ab) (k : Int) : Int := if x.ok = true then (if 1 ≤ k ∧ k ≤ 1000000 then Num.cnt (Num.gcds x.F k) else 0) else 0
def cCountSolutions (x : Ab) (k : Int) : Int := if x.ok = true then (if 1 ≤ k ∧ k ≤ 1000000 then Num.cntC (Num.gcds x.F k) else 2) else 1
theorem Ab.sol_bad {x : Ab} {k : Int} (h : x.ok = false) : rCountSolutions x k = 0 ∧ cCountSolutions x k = 1 := by unfold rCountSolutions cCountSolutions; simp [h]
theorem Ab.sol_rng {x : Ab} {k : Int} (h : x.ok = true) (h' : ¬ (1 ≤ k ∧ k ≤ 1000000)) : rCountSolutions x k = 0 ∧ cCountSolutions x k = 2 := by unfold rCountSolutions cCountSolutions; rw [if_pos h, if_pos h, if_neg h', if_neg h']; exact ⟨rfl, rfl⟩
theorem Ab.sol_ok {x : Ab} {k : Int} (h : x.ok = true) (h' : 1 ≤ k ∧ k ≤ 1000000) : rCountSolutions x k = Num.cnt (Num.gcds x.F k) ∧ cCountSolutions x k = Num.cntC (Num.gcds x.F k) := by unfold rCountSolutions cCountSolutions; rw [if_pos h, if_pos h, if_pos h', if_pos h']; exact ⟨rfl, rfl⟩
set_option maxRecDepth 100000 in
set_option maxHeartbeats 1000000 in
theorem iCountSolutions_any (v0 : Value) (x0 : Ab) (k : Int) (w : World) (h0 : spAb.rd w v0 x0) : Calls Try.prog 11 #[v0, .int .i64 k] w (RetI (rCountSolutions x0 k) (cCountSolutions x0 k) w) := by
  obtain ⟨i0, hi, hz0, hz1, hz2⟩ := info_parts infoI
  obtain ⟨F, K⟩ := x0
  obtain ⟨_, rfl, A, c, rfl, hm, hA0⟩ := h0
  replace hA0 : RdI w A F := hA0
  replace hm : F.length ≤ maxLen := hm
  have L : Below w.heap.size w (w.alloc (.cells [.slice A F.length c, .int .i64 K].toArray 26)) := by go_grown
  have Ba : Blk (w.alloc (.cells [.slice A F.length c, .int .i64 K].toArray 26)) w.heap.size [.slice A F.length c, .int .i64 K] 26 := Blk.new w _ _
  have K0 := Lib.hid (spAb.rd_below (x := ⟨F, K⟩) (v := .agg #[.slice A F.length c, .int .i64 K]) ⟨_, rfl, A, c, rfl, hm, hA0⟩ L)
  cases hk : Ab.ok ⟨F, K⟩ with
  | false =>
    have HE := Lib.hid (Ab.sol_bad (k := k) hk)
    have HC := Lib.hid (isAb_no _ _ _ K0.out hk)
    clear hk hA0 hm hi hz0 hz1 hz2
    obtain ⟨bl, a0, a1⟩ := Ba.c2
    go_enter Try.func11, Try.ntmps11
    go_wp2_with (fail)
    refine HC.out.mono ?_; rintro e w1 ⟨rfl, hb⟩
    replace L := bstep L L.size hb
    replace Ba := Ba.below hb
    replace K0 := Lib.hid (spAb.rd_below K0.out hb)
    clear a0 a1 bl HC hb
    obtain ⟨bl, a0, a1⟩ := Ba.c2
    go_wp2_with (fail)
    refine bodyPost_ret (v := .tuple #[.int .i64 0, .int .i64 1]) (by simp [results, Try.results11, go_sem]) rfl ?_
    rw [HE.out.1, HE.out.2]
    exact ⟨rfl, L⟩
  | true =>
    have HC := Lib.hid (isAb_yes _ _ _ K0.out hk)
    by_cases hK : 1 ≤ k ∧ k ≤ 1000000
    · have HE := Lib.hid (Ab.sol_ok hk hK)
      obtain ⟨k1, k2⟩ := hK
      have hl10 : F.length ≤ 10 := (Ab.ok_out hk).1
      have HF : Hid (∀ W, Below w.heap.size w W → RdI W A F) := Lib.hid fun W hW => hA0.below' hW
      have HR : Hid (∀ j, j < F.length → 2 ≤ F.getD j 0 ∧ F.getD j 0 ≤ 1000000) := Lib.hid fun j hj => (Ab.ok_out hk).2.2.2.1 j hj
      have HCP : Hid (∀ W A' c', RdI W A' (Num.gcds F k) → Calls Try.prog 25 #[.slice A' (Num.gcds F k).length c'] W fun e w' => e = .returned (.tuple #[.int .i64 (Num.cnt (Num.gcds F k)), .int .i64 (Num.cntC (Num.gcds F k))]) ∧ Below W.heap.size W w') := Lib.hid fun W A' c' hW => (countProd_any A' c' (Num.gcds F k) W hW (by rw [Num.gcds_len]; unfold maxLen; omega) (Num.gcds_pos k1)).mono (by rintro e w' ⟨rfl, rfl⟩; exact ⟨rfl, Below.refl _ _⟩)
      rw [HE.out.1, HE.out.2]
      have HG : Hid (∀ j, j < F.length → (Num.gcds F k).take (j + 1) = (Num.gcds F k).take j ++ [(Int.gcd (F.getD j 0) k : Int)]) := Lib.hid fun j hj => Num.gcds_take hj
      have HL : Hid ((Num.gcds F k).length = F.length) := Lib.hid (Num.gcds_len F k)
      clear hk hA0 hm HE
      generalize Num.gcds F k = G at *
      generalize Num.cnt G = r1 at *
      generalize Num.cntC G = r2 at *
      have k3 : ¬ k < 1 := by omega
      have k4 : ¬ 1000000 < k := by omega
      obtain ⟨bl, a0, a1⟩ := Ba.c2
      go_enter Try.func11, Try.ntmps11
      go_wp2_with (fail)
      refine HC.out.mono ?_; rintro e w1 ⟨rfl, hb⟩
      replace L := bstep L L.size hb
      replace Ba := Ba.below hb
      replace K0 := Lib.hid (spAb.rd_below K0.out hb)
      clear a0 a1 bl HC hb
      obtain ⟨bl, a0, a1⟩ := Ba.c2
      go_wp2_with (fail)
      clear a0 a1 bl
      go_loopw [6, 23] (fun s6 s23 wr => ∃ j : Nat, j ≤ F.length ∧ s23 = .int .i64 j ∧ Hid (OwnI wr w.heap.size s6 (G.take j)) ∧ Below w.heap.size w wr) (fun _ s23 _ => F.length - (intOf s23).toNat)
      case atStart => exact ⟨0, by omega, rfl, Lib.hid (World.ownsRow_nil _ _ _ _), L⟩
      case round =>
        obtain ⟨j, hj, rfl, HO, bw⟩ := hrel
        by_cases hlt : j < F.length
        · obtain ⟨g, o, rfl, hg, hc⟩ := (HF.out _ bw) j hlt
          have i0' : (0 : Int) ≤ (j : Int) := by omega
          have i1 : (j : Int) < (F.length : Int) := by omega
          obtain ⟨x1, x2⟩ := HR.out j hlt
          have EC := Lib.hid (HG.out j hlt)
          have xl : (G.take j).length ≤ 10 := by simp; omega
          have HB := Lib.hid HO.out.base_le
          have bws := bw.size
          generalize F.getD j 0 = x at *
          generalize G.take j = X at *
          have HGC := Lib.hid (commonDivisor_any x k wr (by omega) x2 (by omega) k2)
          generalize (Int.gcd x k : Int) = y at *
          go_wp2_with (fail)
          refine HGC.out.mono ?_; rintro e w2 ⟨rfl, hb⟩
          have HO2 := Lib.hid (HO.out.below hb)
          have bw2 := bstep bw bw.size hb
          have bws2 := bw2.size
          clear HGC hb
          go_wp2_with (first | (at_builtin; refine wpList_append_own_at _ rfl (.tmp 27) (.tmp 31) 24 rfl w.heap.size 2 i0 (.int .i64 0) 1 8 Try.underlying24 hi hz0 hz1 hz2 rfl (by decide) _ _ _ rfl (HO2.out.alloc _) ⟨_, 0, none⟩ 1 1 [.int .i64 y] rfl rfl (cell_one_new _ _ _) (by simp [Value.oneCell']) (by unfold maxLen; omega) (by omega) (by simp; omega) ?_; intro v3 w3 own3 gr3 _ at3))
          exact ⟨⟨j + 1, by omega, by go_num, Lib.hid (by rw [EC.out]; exact OwnI.snoc own3), (bw2.alloc (by omega) _).grown gr3 (by simp; omega) HB.out⟩, by simp [intOf]; omega⟩
        · have hge : ¬ ((j : Int) < (F.length : Int)) := by omega
          obtain rfl : j = F.length := by omega
          have HT : Hid (G.take F.length = G) := Lib.hid (List.take_of_length_le (by rw [HL.out]; omega))
          rw [HT.out] at HO
          obtain ⟨A', c', rfl⟩ := HO.out.form
          have HCP2 := Lib.hid (HCP.out wr A' c' HO.out.reads)
          clear HCP HO HT HG HR
          go_wp2_with (fail)
          refine HCP2.out.mono ?_; rintro e w2 ⟨rfl, hb⟩
          have L2 := bstep bw bw.size hb
          clear HCP2 hb
          go_wp2_with (fail)
          refine bodyPost_ret (v := .tuple #[.int .i64 r1, .int .i64 r2]) (by simp [results, Try.results11, go_sem]) rfl ?_
          exact ⟨rfl, L2⟩
    · have HE := Lib.hid (Ab.sol_rng hk hK)
      have h2 : k < 1 ∨ 1000000 < k := by omega
      clear hk hA0 hm hK hi hz0 hz1 hz2
      rcases h2 with h2 | h2
      · have h3 : k < 1 := by omega
        obtain ⟨bl, a0, a1⟩ := Ba.c2
        go_enter Try.func11, Try.ntmps11
        go_wp2_with (fail)
        refine HC.out.mono ?_; rintro e w1 ⟨rfl, hb⟩
        replace L := bstep L L.size hb
        replace Ba := Ba.below hb
        replace K0 := Lib.hid (spAb.rd_below K0.out hb)
        clear a0 a1 bl HC hb
        obtain ⟨bl, a0, a1⟩ := Ba.c2
        go_wp2_with (fail)
        refine bodyPost_ret (v := .tuple #[.int .i64 0, .int .i64 2]) (by simp [results, Try.results11, go_sem]) rfl ?_
        rw [HE.out.1, HE.out.2]
        exact ⟨rfl, L⟩
      · have h3 : ¬ k < 1 := by omega
        have h4 : 1000000 < k := by omega
        obtain ⟨bl, a0, a1⟩ := Ba.c2
        go_enter Try.func11, Try.ntmps11
        go_wp2_with (fail)
        refine HC.out.mono ?_; rintro e w1 ⟨rfl, hb⟩
        replace L := bstep L L.size hb
        replace Ba := Ba.below hb
        replace K0 := Lib.hid (spAb.rd_below K0.out hb)
        clear a0 a1 bl HC hb
        obtain ⟨bl, a0, a1⟩ := Ba.c2
        go_wp2_with (fail)
        refine bodyPost_ret (v := .tuple #[.int .i64 0, .int .i64 2]) (by simp [results, Try.results11, go_sem]) rfl ?_
        rw [HE.out.1, HE.out.2]
        exact ⟨rfl, L⟩
set_option maxRecDepth 100000 in
set_option maxHeartbeats 1000000 in
theorem sCountSolutions_any (v0 : Value) (x0 : Ab) (k : Int) (w : World) (h0 : spAb.rd w v0 x0) : Calls Try.prog 12 #[v0, .int .i64 k] w (RetI (rCountSolutions x0 k) (cCountSolutions x0 k) w) := by
  obtain ⟨i0, hi, hz0, hz1, hz2⟩ := info_parts infoI
  obtain ⟨F, K⟩ := x0
  obtain ⟨_, rfl, A, c, rfl, hm, hA0⟩ := h0
  replace hA0 : RdI w A F := hA0
  replace hm : F.length ≤ maxLen := hm
  have L : Below w.heap.size w (w.alloc (.cells [.slice A F.length c, .int .i64 K].toArray 26)) := by go_grown
  have Ba : Blk (w.alloc (.cells [.slice A F.length c, .int .i64 K].toArray 26)) w.heap.size [.slice A F.length c, .int .i64 K] 26 := Blk.new w _ _
  have K0 := Lib.hid (spAb.rd_below (x := ⟨F, K⟩) (v := .agg #[.slice A F.length c, .int .i64 K]) ⟨_, rfl, A, c, rfl, hm, hA0⟩ L)
  cases hk : Ab.ok ⟨F, K⟩ with
  | false =>
    have HE := Lib.hid (Ab.sol_bad (k := k) hk)
    have HC := Lib.hid (sIsAb_no _ _ _ K0.out hk)
    clear hk hA0 hm hi hz0 hz1 hz2
    obtain ⟨bl, a0, a1⟩ := Ba.c2
    go_enter Try.func12, Try.ntmps12
    go_wp2_with (fail)
    refine HC.out.mono ?_; rintro e w1 ⟨rfl, hb⟩
    replace L := bstep L L.size hb
    replace Ba := Ba.below hb
    replace K0 := Lib.hid (spAb.rd_below K0.out hb)
    clear a0 a1 bl HC hb
    obtain ⟨bl, a0, a1⟩ := Ba.c2
    go_wp2_with (fail)
    refine bodyPost_ret (v := .tuple #[.int .i64 0, .int .i64 1]) (by simp [results, Try.results12, go_sem]) rfl ?_
    rw [HE.out.1, HE.out.2]
    exact ⟨rfl, L⟩
  | true =>
    have HC := Lib.hid (sIsAb_yes _ _ _ K0.out hk)
    by_cases hK : 1 ≤ k ∧ k ≤ 1000000
    · have HE := Lib.hid (Ab.sol_ok hk hK)
      obtain ⟨k1, k2⟩ := hK
      have hl10 : F.length ≤ 10 := (Ab.ok_out hk).1
      have HF : Hid (∀ W, Below w.heap.size w W → RdI W A F) := Lib.hid fun W hW => hA0.below' hW
      have HR : Hid (∀ j, j < F.length → 2 ≤ F.getD j 0 ∧ F.getD j 0 ≤ 1000000) := Lib.hid fun j hj => (Ab.ok_out hk).2.2.2.1 j hj
      have HCP : Hid (∀ W A' c', RdI W A' (Num.gcds F k) → Calls Try.prog 28 #[.slice A' (Num.gcds F k).length c'] W fun e w' => e = .returned (.tuple #[.int .i64 (Num.cnt (Num.gcds F k)), .int .i64 (Num.cntC (Num.gcds F k))]) ∧ Below W.heap.size W w') := Lib.hid fun W A' c' hW => (sCount_any A' c' (Num.gcds F k) W hW (by rw [Num.gcds_len]; unfold maxLen; omega) (Num.gcds_pos k1)).mono (by rintro e w' ⟨rfl, hb⟩; exact ⟨rfl, hb⟩)
      rw [HE.out.1, HE.out.2]
      have HG : Hid (∀ j, j < F.length → (Num.gcds F k).take (j + 1) = (Num.gcds F k).take j ++ [(Int.gcd (F.getD j 0) k : Int)]) := Lib.hid fun j hj => Num.gcds_take hj
      have HL : Hid ((Num.gcds F k).length = F.length) := Lib.hid (Num.gcds_len F k)
      clear hk hA0 hm HE
      generalize Num.gcds F k = G at *
      generalize Num.cnt G = r1 at *
      generalize Num.cntC G = r2 at *
      have K1 := Lib.hid k1
      have K2 := Lib.hid k2
      obtain ⟨bl, a0, a1⟩ := Ba.c2
      go_enter Try.func12, Try.ntmps12
      go_wp2_with (fail)
      refine HC.out.mono ?_; rintro e w1 ⟨rfl, hb⟩
      replace L := bstep L L.size hb
      replace Ba := Ba.below hb
      replace K0 := Lib.hid (spAb.rd_below K0.out hb)
      clear a0 a1 bl HC hb
      obtain ⟨bl, a0, a1⟩ := Ba.c2
      go_wp2_with (go_at_call 30; refine (sIn_yes _ _ _ _ K1.out K2.out).mono ?_; rintro e w' ⟨rfl, rfl⟩)
      clear a0 a1 bl
      go_loopw [6, 7] (fun s6 s23 wr => ∃ j : Nat, j ≤ F.length ∧ s23 = .int .i64 j ∧ Hid (OwnI wr (w.heap.size + 1) s6 (G.take j)) ∧ Below w.heap.size w wr ∧ Blk wr w.heap.size [.slice A F.length c, .int .i64 K] 26) (fun _ s23 _ => F.length - (intOf s23).toNat)
      case atStart => exact ⟨0, by omega, rfl, Lib.hid (World.ownsRow_lit _ #[] 0 (by have := Ba.lt; omega) (by unfold maxLen; omega) rfl), L.alloc L.size _, Ba.alloc _⟩
      case round =>
        obtain ⟨j, hj, rfl, HO, bw, BX⟩ := hrel
        obtain ⟨bl, a0, a1⟩ := BX.c2
        by_cases hlt : j < F.length
        · obtain ⟨g, o, rfl, hg, hc⟩ := (HF.out _ bw) j hlt
          have i0' : (0 : Int) ≤ (j : Int) := by omega
          have i1 : (j : Int) < (F.length : Int) := by omega
          obtain ⟨x1, x2⟩ := HR.out j hlt
          have EC := Lib.hid (HG.out j hlt)
          have xl : (G.take j).length ≤ 10 := by simp; omega
          have HB := Lib.hid HO.out.base_le
          have bws := bw.size
          generalize F.getD j 0 = x at *
          generalize G.take j = X at *
          have HGC := Lib.hid (sGcd4_any k x wr (by omega) (by omega) (by omega) (by omega))
          rw [Int.gcd_comm] at HGC
          generalize (Int.gcd x k : Int) = y at *
          go_wp2_with (fail)
          refine HGC.out.mono ?_; rintro e w2 ⟨rfl, hb⟩
          have HO2 := Lib.hid (HO.out.below hb)
          have bw2 := bstep bw bw.size hb
          have bws2 := bw2.size
          have BX2 := BX.below hb
          have bxl := BX2.lt
          clear HGC hb
          go_wp2_with (first | (at_builtin; refine wpList_append_own_at _ rfl (.tmp 22) (.tmp 30) 24 rfl (w.heap.size + 1) 2 i0 (.int .i64 0) 1 8 Try.underlying24 hi hz0 hz1 hz2 rfl (by decide) _ _ _ rfl (HO2.out.alloc _) ⟨_, 0, none⟩ 1 1 [.int .i64 y] rfl rfl (cell_one_new _ _ _) (by simp [Value.oneCell']) (by unfold maxLen; omega) (by omega) (by simp; omega) ?_; intro v3 w3 own3 gr3 _ at3))
          exact ⟨⟨j + 1, by omega, by go_num, Lib.hid (by rw [EC.out]; exact OwnI.snoc own3), (bw2.alloc (by omega) _).grown gr3 (by simp; omega) (fun k hk => by have := HB.out k hk; omega), (BX2.alloc _).chg (ChgS.of_grown gr3 (S := fun k => w.heap.size + 1 ≤ k) HB.out) (by omega)⟩, by simp [intOf]; omega⟩
        · have hge : ¬ ((j : Int) < (F.length : Int)) := by omega
          obtain rfl : j = F.length := by omega
          have HT : Hid (G.take F.length = G) := Lib.hid (List.take_of_length_le (by rw [HL.out]; omega))
          rw [HT.out] at HO
          obtain ⟨A', c', rfl⟩ := HO.out.form
          have HCP2 := Lib.hid (HCP.out wr A' c' HO.out.reads)
          clear HCP HO HT HG HR
          go_wp2_with (fail)
          refine HCP2.out.mono ?_; rintro e w2 ⟨rfl, hb⟩
          have L2 := bstep bw bw.size hb
          clear HCP2 hb
          go_wp2_with (fail)
          refine bodyPost_ret (v := .tuple #[.int .i64 r1, .int .i64 r2]) (by simp [results, Try.results12, go_sem]) rfl ?_
          exact ⟨rfl, L2⟩
    · have HE := Lib.hid (Ab.sol_rng hk hK)
      have h2 : k < 1 ∨ 1000000 < k := by omega
      clear hk hA0 hm hK hi hz0 hz1 hz2
      have H2 := Lib.hid h2
      clear h2
      obtain ⟨bl, a0, a1⟩ := Ba.c2
      go_enter Try.func12, Try.ntmps12
      go_wp2_with (fail)
      refine HC.out.mono ?_; rintro e w1 ⟨rfl, hb⟩
      replace L := bstep L L.size hb
      replace Ba := Ba.below hb
      replace K0 := Lib.hid (spAb.rd_below K0.out hb)
      clear a0 a1 bl HC hb
      obtain ⟨bl, a0, a1⟩ := Ba.c2
      go_wp2_with (go_at_call 30; refine (sIn_no _ _ _ _ H2.out).mono ?_; rintro e w' ⟨rfl, rfl⟩)
      refine bodyPost_ret (v := .tuple #[.int .i64 0, .int .i64 2]) (by simp [results, Try.results12, go_sem]) rfl ?_
      rw [HE.out.1, HE.out.2]
      exact ⟨rfl, L⟩
theorem iCountSolutions_ok (v0 : Value) (x0 : Ab) (x1 : Int) (w : World) (h0 : spAb.rd w v0 x0) (s0 : spAb.sz x0 ≤ 1048576) : Calls Try.prog 11 #[v0, .int .i64 x1] w (RetI (rCountSolutions x0 x1) (cCountSolutions x0 x1) w) := iCountSolutions_any v0 x0 x1 w h0
theorem sCountSolutions_ok (v0 : Value) (x0 : Ab) (x1 : Int) (w : World) (h0 : spAb.rd w v0 x0) (s0 : spAb.sz x0 ≤ 1048576) : Calls Try.prog 12 #[v0, .int .i64 x1] w (RetI (rCountSolutions x0 x1) (cCountSolutions x0 x1) w) := sCountSolutions_any v0 x0 x1 w h0
end Go.Proofs.Yteplidajodaklaa
