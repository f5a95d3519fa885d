/- FromPrimary of the model. -/
import Derived.Test.YtndldgmejmephaaL09D
import Derived.Test.YtndldgmejmephaaL09E
namespace Go.Proofs.Ytndldgmejmephaa
open Go.RowKit
set_option linter.unusedVariables false
set_option linter.unusedSimpArgs false

theorem fromS_ne {S : List Int} (hs : S.Pairwise Num.leP) (h : ∀ z ∈ S, Num.PPow z) : ∀ x ∈ Num.fromS S, x ≠ 0 := fun x hx e => by
  obtain ⟨i1, i2⟩ := Num.fromS_ok _ S (Nat.le_refl _) hs h
  have h0 : 0 < Num.cntQ 0 (Num.fromS S) := Num.cntQ_pos.mpr ⟨x, hx, by rw [e]; exact Int.dvd_zero 0⟩
  rw [i2 0 (.inl rfl), Num.cntQ_pos] at h0
  obtain ⟨y, hy, hd⟩ := h0
  have := Int.zero_dvd.mp hd
  have := (h y hy).two
  omega
/-- What the program makes of orders, where the model's factors are known. -/
theorem dir_is {gs S : List Int} {n : Nat} (hs : S.Pairwise Num.leP) (h : ∀ z ∈ S, Num.PPow z) (hc : Num.chR gs = List.replicate n 0 ++ Num.fromS S) :
    rDir gs = (if Num.abB (Num.fromS S).reverse (n : Int) = true then ⟨(Num.fromS S).reverse, (n : Int)⟩ else ⟨[], 0⟩) ∧ cDir gs = (if Num.abB (Num.fromS S).reverse (n : Int) = true then 0 else 3) := by
  have hd := Num.zeros_dc (Num.fromS_ok _ S (Nat.le_refl _) hs h).1 n
  have ha := Num.ab_of hd
  obtain ⟨f1, f2⟩ := Num.fin_zeros (fromS_ne hs h) n
  unfold rDir cDir
  rw [Num.chC_eq, hc]
  rw [f1, f2] at ha ⊢
  rw [ha]
  by_cases hk : Num.OkD (List.replicate n 0 ++ Num.fromS S)
  · rw [if_pos hk, if_pos hk, if_pos (decide_eq_true hk), if_pos (decide_eq_true hk)]
    exact ⟨rfl, rfl⟩
  · rw [if_neg hk, if_neg hk, decide_eq_false hk]
    exact ⟨rfl, rfl⟩
theorem ab_big {F : List Int} {K : Int} (h : ¬ ∀ f ∈ F, f ≤ 1000000) : Num.abB F.reverse K = false := by
  cases hb : Num.abB F.reverse K with
  | false => rfl
  | true =>
    refine absurd (fun f hf => ?_) h
    have hm : f ∈ F.reverse := by simpa using hf
    obtain ⟨j, hj, rfl⟩ := List.mem_iff_getElem.mp hm
    have := ((Num.abB_out hb).2.2.2.1 j hj).2
    rw [List.getD_eq_getElem?_getD, List.getElem?_eq_getElem hj] at this
    exact this
set_option maxRecDepth 100000 in
set_option maxHeartbeats 1000000 in
theorem sMade_any (A : Option Addr) (c : Nat) (F : List Int) (K : Int) (w : World) (h : spI.rd w (.slice A F.length c) F) :
    Calls Try.prog 50 #[.slice A F.length c, .int .i64 K] w fun e w' => e = .returned (.tuple (if Num.abB F K = true then #[.agg #[.slice A F.length c, .int .i64 K], .int .i64 0] else #[.agg #[.slice none 0 0, .int .i64 0], .int .i64 3])) ∧ Below w.heap.size w w' := by
  have L0 : Below w.heap.size w ((w.alloc (.cells [.slice none 0 0, (.int .i64 0 : Value)].toArray 26)).alloc (.cells [.slice A F.length c, .int .i64 K].toArray 26)) := by go_grown
  have BR0 : Blk ((w.alloc (.cells [.slice none 0 0, (.int .i64 0 : Value)].toArray 26)).alloc (.cells [.slice A F.length c, .int .i64 K].toArray 26)) w.heap.size [.slice none 0 0, (.int .i64 0 : Value)] 26 := (Blk.new w _ _).alloc _
  have BA0 : Blk ((w.alloc (.cells [.slice none 0 0, (.int .i64 0 : Value)].toArray 26)).alloc (.cells [.slice A F.length c, .int .i64 K].toArray 26)) (w.heap.size + 1) [.slice A F.length c, .int .i64 K] 26 := by have := Blk.new (w.alloc (.cells [.slice none 0 0, (.int .i64 0 : Value)].toArray 26)) [.slice A F.length c, .int .i64 K] 26; rwa [World.size_alloc] at this
  have K0 : spAb.rd ((w.alloc (.cells [.slice none 0 0, (.int .i64 0 : Value)].toArray 26)).alloc (.cells [.slice A F.length c, .int .i64 K].toArray 26)) (.agg #[.slice A F.length c, .int .i64 K]) ⟨F, K⟩ := ⟨_, rfl, spI.rd_below h L0⟩
  have HC0 := sIsAb_any _ _ _ K0
  rw [show Ab.ok ⟨F, K⟩ = Num.abB F K from rfl] at HC0
  have hAA := h
  obtain ⟨A', c', e', -, -⟩ := hAA
  clear h K0 e'
  cases hk : Num.abB F K with
  | true =>
    rw [hk] at HC0
    have HC := Lib.hid HC0
    clear HC0 hk
    obtain ⟨bl, a0, a1⟩ := BA0.c2
    go_enter Try.func50, Try.ntmps50
    go_wp2_with (fail)
    refine HC.out.mono ?_; rintro e w1 ⟨rfl, hb⟩
    have L1 := bstep L0 L0.size hb
    obtain ⟨q2, q0, q1⟩ := (BA0.below hb).c2
    obtain ⟨r2, r0, r1⟩ := (BR0.below hb).c2
    have f0 := (BR0.below hb).free 0
    have f1 := (BR0.below hb).free 1
    have L2 := (L1.setCell (p := ⟨w.heap.size, 0, none⟩) (by simp) (.slice A F.length c)).setCell (p := ⟨w.heap.size, 1, none⟩) (by simp) (.int .i64 K)
    clear HC hb bl a0 a1 L0 L1 BA0 BR0
    go_wp2_with (fail)
    refine bodyPost_ret (v := .tuple #[.agg #[.slice A F.length c, .int .i64 K], .int .i64 0]) (by simp [results, Try.results50, go_sem, r2, r0, r1]) rfl ?_
    exact ⟨by simp, L2⟩
  | false =>
    rw [hk] at HC0
    have HC := Lib.hid HC0
    clear HC0 hk
    obtain ⟨bl, a0, a1⟩ := BA0.c2
    go_enter Try.func50, Try.ntmps50
    go_wp2_with (fail)
    refine HC.out.mono ?_; rintro e w1 ⟨rfl, hb⟩
    have L1 := bstep L0 L0.size hb
    obtain ⟨r2, r0, r1⟩ := (BR0.below hb).c2
    have f0 := (BR0.below hb).free 0
    have f1 := (BR0.below hb).free 1
    have L2 := (L1.setCell (p := ⟨w.heap.size, 0, none⟩) (by simp) (.slice none 0 0)).setCell (p := ⟨w.heap.size, 1, none⟩) (by simp) (.int .i64 0)
    clear HC hb bl a0 a1 L0 L1 BA0 BR0
    go_wp2_with (fail)
    refine bodyPost_ret (v := .tuple #[.agg #[.slice none 0 0, .int .i64 0], .int .i64 3]) (by simp [results, Try.results50, go_sem, r2, r0, r1]) rfl ?_
    exact ⟨by simp, L2⟩
theorem ppB_pow {z : Int} (h : Num.ppB z = true) : Num.PPow z ∧ z ≤ 1000000 := by
  have := of_decide_eq_true h
  exact ⟨Num.ppow_of this.1 this.2.2, this.2.1⟩
/-- An owned list as a group. -/
theorem MadeC.group {w w' : World} {A : Option Addr} {c : Nat} {F : List Int} {K : Int} (ho : OwnI w' w.heap.size (.slice A F.length c) F) (hl : F.length ≤ 1000000000) (hb : Below w.heap.size w w') : MadeC spAb ⟨F, K⟩ 0 w (.returned (.tuple #[.agg #[.slice A F.length c, .int .i64 K], .int .i64 0])) w' :=
  ⟨_, (fun k => (Value.slice A F.length c).ownBlock = some k), rfl, ⟨_, _, rfl, spI_of ho, fun k hk => hk, fun k hk => (World.ownsRow.lt ho k hk).2⟩, fun k hk => (World.ownsRow.lt ho k hk).1, hl, hb⟩
set_option maxRecDepth 100000 in
set_option maxHeartbeats 2000000 in
theorem sFromPrimary_any (v : Value) (x : List Int) (w : World) (h : spI.rd w v x) : Calls Try.prog 18 #[v] w (MadeC spAb (rFromPrimary x) (cFromPrimary x) w) := by
  obtain ⟨A, cc, rfl, hxm, hA⟩ := h
  have hxm0 := hxm
  unfold maxLen at hxm
  have L0 : Below w.heap.size w (w.alloc (.cells [.slice none 0 0, (.int .i64 0 : Value)].toArray 26)) := by go_grown
  have BR0 : Blk (w.alloc (.cells [.slice none 0 0, (.int .i64 0 : Value)].toArray 26)) w.heap.size [.slice none 0 0, (.int .i64 0 : Value)] 26 := Blk.new w _ _
  have HA := Lib.hid hA
  have HBAD := Lib.hid (fun j (hj : j < x.length) (hf : Num.ppB (x.getD j 0) = false) => fromP_bad hj hf)
  clear hA
  go_enter Try.func18, Try.ntmps18
  go_wp2_with (fail)
  go_loopw [4] (fun s4 wr => ∃ j : Nat, s4 = .int .i64 j ∧ j ≤ x.length ∧ Hid (∀ i, i < j → Num.ppB (x.getD i 0) = true) ∧ Blk wr w.heap.size [.slice none 0 0, (.int .i64 0 : Value)] 26 ∧ Below w.heap.size w wr) (fun s4 _ => x.length - (intOf s4).toNat)
  case atStart => exact ⟨0, rfl, by omega, Lib.hid (fun i hi => by omega), BR0, L0⟩
  case round =>
    obtain ⟨j, rfl, hj, HP, BR, bw⟩ := hrel
    clear BR0 L0
    have bws := bw.size
    by_cases hlt : j < x.length
    · obtain ⟨g, o, rfl, hg, hc⟩ := (HA.out.below' bw) j hlt
      have j0 : (0 : Int) ≤ (j : Int) := by omega
      have j1 : (j : Int) < (x.length : Int) := by omega
      by_cases hin : 2 ≤ x.getD j 0 ∧ x.getD j 0 ≤ 1000000
      · have HI := Lib.hid (sIn_yes (x.getD j 0) 2 1000000 wr hin.1 hin.2)
        have HB := Lib.hid (sBase_any (x.getD j 0) wr hin.2)
        by_cases hb0 : Num.baseN (x.getD j 0) = 0
        · have hf : Num.ppB (x.getD j 0) = false := decide_eq_false fun hh => hh.2.2 hb0
          have HE := Lib.hid (HBAD.out j hlt hf)
          rw [hb0] at HB
          clear hf hin hb0 HP
          generalize x.getD j 0 = z at *
          obtain ⟨r2, r0, r1⟩ := BR.c2
          have f0 := BR.free 0
          have f1 := BR.free 1
          have bw5 := (bw.setCell (p := ⟨w.heap.size, 0, none⟩) (by simp) (.slice none 0 0)).setCell (p := ⟨w.heap.size, 1, none⟩) (by simp) (.int .i64 0)
          clear BR bw
          go_wp2_with (first | (go_at_call 55; (with_reducible refine HI.out.mono ?_); rintro e w2 ⟨rfl, rfl⟩) | (go_at_call 56; (with_reducible refine HB.out.mono ?_); rintro e w2 ⟨rfl, rfl⟩))
          refine bodyPost_ret (v := .tuple #[.agg #[.slice none 0 0, .int .i64 0], .int .i64 2]) (by simp [results, Try.results18, go_sem, r2, r0, r1]) rfl ?_
          rw [HE.out.1, HE.out.2]
          exact MadeC.zero bw5
        · have hp : Num.ppB (x.getD j 0) = true := decide_eq_true ⟨hin.1, hin.2, hb0⟩
          have HP2 : Hid (∀ i, i < j + 1 → Num.ppB (x.getD i 0) = true) := Lib.hid fun i hi => by
            by_cases e : i = j
            · rw [e]; exact hp
            · exact HP.out i (by omega)
          have tb : (Num.baseN (x.getD j 0) == 0) = false := by simpa using hb0
          clear hp hin hb0 HP
          generalize Num.baseN (x.getD j 0) = b at *
          generalize x.getD j 0 = z at *
          go_wp2_with (first | (go_at_call 55; (with_reducible refine HI.out.mono ?_); rintro e w2 ⟨rfl, rfl⟩) | (go_at_call 56; (with_reducible refine HB.out.mono ?_); rintro e w2 ⟨rfl, rfl⟩))
          exact ⟨⟨j + 1, by go_num, by omega, HP2, BR, bw⟩, by simp [intOf]; omega⟩
      · have HI := Lib.hid (sIn_no (x.getD j 0) 2 1000000 wr (by omega))
        have hf : Num.ppB (x.getD j 0) = false := decide_eq_false fun hh => hin ⟨hh.1, hh.2.1⟩
        have HE := Lib.hid (HBAD.out j hlt hf)
        clear hf hin HP
        generalize x.getD j 0 = z at *
        obtain ⟨r2, r0, r1⟩ := BR.c2
        have f0 := BR.free 0
        have f1 := BR.free 1
        have bw5 := (bw.setCell (p := ⟨w.heap.size, 0, none⟩) (by simp) (.slice none 0 0)).setCell (p := ⟨w.heap.size, 1, none⟩) (by simp) (.int .i64 0)
        clear BR bw
        go_wp2_with (first | (go_at_call 55; (with_reducible refine HI.out.mono ?_); rintro e w2 ⟨rfl, rfl⟩))
        refine bodyPost_ret (v := .tuple #[.agg #[.slice none 0 0, .int .i64 0], .int .i64 2]) (by simp [results, Try.results18, go_sem, r2, r0, r1]) rfl ?_
        rw [HE.out.1, HE.out.2]
        exact MadeC.zero bw5
    · obtain rfl : j = x.length := by omega
      have hge : ¬ ((x.length : Int) < (x.length : Int)) := by omega
      have hps := ppsB_at HP.out
      by_cases hlen : 100 < x.length
      · have HE := Lib.hid (fromP_long hps hlen)
        have tl : ¬ ((x.length : Int) ≤ 100) := by omega
        obtain ⟨r2, r0, r1⟩ := BR.c2
        have f0 := BR.free 0
        have f1 := BR.free 1
        have bw5 := (bw.setCell (p := ⟨w.heap.size, 0, none⟩) (by simp) (.slice none 0 0)).setCell (p := ⟨w.heap.size, 1, none⟩) (by simp) (.int .i64 0)
        clear hps HP BR bw
        go_wp2_with (fail)
        refine bodyPost_ret (v := .tuple #[.agg #[.slice none 0 0, .int .i64 0], .int .i64 3]) (by simp [results, Try.results18, go_sem, r2, r0, r1]) rfl ?_
        rw [HE.out.1, HE.out.2]
        exact MadeC.zero bw5
      · have HE := Lib.hid (fromP_good hps hlen)
        have tl : (x.length : Int) ≤ 100 := by omega
        have hpw : ∀ z ∈ x, Num.PPow z ∧ z ≤ 1000000 := fun z hz => ppB_pow (of_decide_eq_true hps z hz)
        have HF := Lib.hid (sFrom_any (.slice A x.length cc) x wr ⟨A, cc, rfl, hxm0, HA.out.below' bw⟩ (by omega) hpw)
        have HDI : Hid (∀ S : List Int, S.Perm x → S.Pairwise Num.leP → rDir x = (if Num.abB (Num.fromS S).reverse 0 = true then ⟨(Num.fromS S).reverse, 0⟩ else ⟨[], 0⟩) ∧ cDir x = (if Num.abB (Num.fromS S).reverse 0 = true then 0 else 3)) := Lib.hid fun S hp hs =>
          dir_is (n := 0) hs (fun z hz => (hpw z (hp.subset hz)).1) (by rw [List.replicate_zero, List.nil_append]; exact Num.fromS_is hp hs fun z hz => (hpw z hz).1)
        clear hps HP hpw
        go_wp2_with (fail)
        refine HF.out.mono ?_; rintro e w2 ⟨S, hp, hs, hcase⟩
        obtain ⟨D1, D2⟩ := HDI.out S hp hs
        rcases hcase with ⟨hall, u, rfl, ho, hb⟩ | ⟨hnot, rfl, hb⟩
        · obtain ⟨U, ucap, rfl⟩ := ho.form
          have BR2 := BR.below hb
          have bw2 := bw.trans (hb.mono bws)
          have HM := Lib.hid (sMade_any U ucap (Num.fromS S).reverse 0 w2 ⟨U, ucap, rfl, by obtain ⟨_, _, e9, hm9⟩ := ownsRow_cap ho; exact hm9, ho.reads⟩)
          have hbr := BR.lt
          have HO2 : Hid (OwnI w2 (w.heap.size + 1) (.slice U (Num.fromS S).reverse.length ucap) (Num.fromS S).reverse) := Lib.hid (ownsRow_base ho (by omega))
          have HLN : Hid (Num.abB (Num.fromS S).reverse 0 = true → (Num.fromS S).reverse.length ≤ 1000000000) := Lib.hid fun hh => by have := (Num.abB_out hh).1; omega
          have HD1 := Lib.hid (And.intro D1 D2)
          clear HF HDI hp hs hall ho hb BR bw D1 D2
          generalize (Num.fromS S).reverse = F at *
          go_wp2_with (fail)
          refine HM.out.mono ?_; rintro e w3 ⟨rfl, hb3⟩
          have BR3 := BR2.below hb3
          have bw3 := bw2.trans (hb3.mono bw2.size)
          have HO3 : Hid (OwnI w3 (w.heap.size + 1) (.slice U F.length ucap) F) := Lib.hid (OwnI.below HO2.out hb3)
          obtain ⟨r2, r0, r1⟩ := BR3.c2
          have f0 := BR3.free 0
          have f1 := BR3.free 1
          clear HM HO2 hb3 BR2 bw2
          cases hab : Num.abB F 0 with
          | true =>
            have HD2 := HD1.out
            rw [hab, if_pos rfl, if_pos rfl] at HD2
            have HD3 := Lib.hid HD2
            have HL3 := Lib.hid (HLN.out hab)
            have bw5 := (bw3.setCell (p := ⟨w.heap.size, 0, none⟩) (by simp) (.slice U F.length ucap)).setCell (p := ⟨w.heap.size, 1, none⟩) (by simp) (.int .i64 0)
            have HO5 : Hid (OwnI ((w3.setCell ⟨w.heap.size, 0, none⟩ (.slice U F.length ucap)).setCell ⟨w.heap.size, 1, none⟩ (.int .i64 0)) w.heap.size (.slice U F.length ucap) F) := Lib.hid (ownsRow_base (owns_set (owns_set HO3.out (by simp) _) (by simp) _) (by omega))
            clear HD2 HD1 HLN hab BR3 bw3
            rw [if_pos rfl]
            go_wp2_with (fail)
            refine bodyPost_ret (v := .tuple #[.agg #[.slice U F.length ucap, .int .i64 0], .int .i64 0]) (by simp [results, Try.results18, go_sem, r2, r0, r1]) rfl ?_
            rw [HE.out.1, HE.out.2, HD3.out.1, HD3.out.2]
            exact MadeC.group HO5.out HL3.out bw5
          | false =>
            have HD2 := HD1.out
            rw [hab, if_neg (by simp), if_neg (by simp)] at HD2
            have HD3 := Lib.hid HD2
            have bw5 := (bw3.setCell (p := ⟨w.heap.size, 0, none⟩) (by simp) (.slice none 0 0)).setCell (p := ⟨w.heap.size, 1, none⟩) (by simp) (.int .i64 0)
            clear HD2 HD1 HLN hab BR3 bw3
            rw [if_neg (by simp)]
            go_wp2_with (fail)
            refine bodyPost_ret (v := .tuple #[.agg #[.slice none 0 0, .int .i64 0], .int .i64 3]) (by simp [results, Try.results18, go_sem, r2, r0, r1]) rfl ?_
            rw [HE.out.1, HE.out.2, HD3.out.1, HD3.out.2]
            exact MadeC.zero bw5
        · have hab := ab_big (K := 0) hnot
          rw [hab, if_neg (by simp)] at D1 D2
          have HD3 := Lib.hid (And.intro D1 D2)
          have BR3 := BR.below hb
          have bw3 := bw.trans (hb.mono bws)
          obtain ⟨r2, r0, r1⟩ := BR3.c2
          have f0 := BR3.free 0
          have f1 := BR3.free 1
          have bw5 := (bw3.setCell (p := ⟨w.heap.size, 0, none⟩) (by simp) (.slice none 0 0)).setCell (p := ⟨w.heap.size, 1, none⟩) (by simp) (.int .i64 0)
          clear HF HDI hp hs hnot hb BR bw D1 D2 hab BR3 bw3
          go_wp2_with (fail)
          refine bodyPost_ret (v := .tuple #[.agg #[.slice none 0 0, .int .i64 0], .int .i64 3]) (by simp [results, Try.results18, go_sem, r2, r0, r1]) rfl ?_
          rw [HE.out.1, HE.out.2, HD3.out.1, HD3.out.2]
          exact MadeC.zero bw5
theorem sFromPrimary_ok (v0 : Value) (x0 : List Int) (w : World) (h0 : spI.rd w v0 x0) (s0 : spI.sz x0 ≤ 1048576) : Calls Try.prog 18 #[v0] w (MadeC spAb (rFromPrimary x0) (cFromPrimary x0) w) := sFromPrimary_any v0 x0 w h0
end Go.Proofs.Ytndldgmejmephaa
