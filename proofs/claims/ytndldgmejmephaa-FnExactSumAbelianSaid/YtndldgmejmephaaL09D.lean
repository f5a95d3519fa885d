/- FromPrimary of the program. -/
import Derived.Test.YtndldgmejmephaaL09C
import Derived.Test.YtndldgmejmephaaL07J
import Derived.Test.YtndldgmejmephaaL01G
namespace Go.Proofs.Ytndldgmejmephaa
open Go.RowKit
set_option linter.unusedVariables false
set_option linter.unusedSimpArgs false

/-- A power of a prime within the limits. -/
def Num.ppB (z : Int) : Bool := decide (2 ≤ z ∧ z ≤ 1000000 ∧ Num.baseN z ≠ 0)
theorem isPrimePower_any (n : Int) (w : World) : Calls Try.prog 57 #[.int .i64 n] w fun e w' => e = .returned (.bool (Num.ppB n)) ∧ Below w.heap.size w w' := by
  by_cases h1 : 1 ≤ n ∧ n ≤ 1000000
  · have HC : Hid (Calls Try.prog 83 #[.int .i64 n] w (FacPost w (Num.facP 2 n) (Num.facE 2 n))) := Lib.hid ((factorize_ok n w h1.1 h1.2).mono fun e w' h => FacPost.of h)
    have HP : Hid (((((Num.facP 2 n).length : Nat) : Int) == 1) = Num.ppB n) := Lib.hid (by
      have hb := Num.facP_one h1.1
      unfold Num.ppB
      by_cases hl : (Num.facP 2 n).length = 1
      · have h2 := hb.mp hl
        have h3 : 2 ≤ n := by
          by_cases h3 : 2 ≤ n
          · exact h3
          · exact absurd (Num.baseN_small (n := n) (by omega)) h2
        rw [hl, decide_eq_true ⟨h3, h1.2, h2⟩]
        rfl
      · rw [decide_eq_false fun hh => hl (hb.mpr hh.2.2)]
        simp
        omega)
    generalize Num.facP 2 n = P at *
    generalize Num.facE 2 n = E at *
    clear h1
    go_enter Try.func57, Try.ntmps57
    go_wp2_with (fail)
    refine HC.out.mono ?_; rintro e w1 ⟨B1, d1, B2, d2, rfl, o1, o2, -, hb⟩
    clear o1 o2 HC
    go_wp2_with (fail)
    go_ret
    exact ⟨ret_b HP.out, hb⟩
  · have HC := Lib.hid (factorize_bad n w (by omega))
    have HP : Hid (Num.ppB n = false) := Lib.hid (decide_eq_false fun hh => h1 ⟨by omega, hh.2.1⟩)
    clear h1
    go_enter Try.func57, Try.ntmps57
    go_wp2_with (fail)
    refine HC.out.mono ?_; rintro e w1 ⟨rfl, rfl⟩
    clear HC
    go_wp2_with (fail)
    go_ret
    exact ⟨ret_b HP.out.symm, Below.refl _ _⟩
def Num.ppsB (x : List Int) : Bool := decide (∀ z ∈ x, Num.ppB z = true)
def cFromPrimary (x : List Int) : Int := if Num.ppsB x = true then (if 100 < x.length then 3 else cDir x) else 2
def rFromPrimary (x : List Int) : Ab := if Num.ppsB x = true then (if 100 < x.length then ⟨[], 0⟩ else rDir x) else ⟨[], 0⟩
theorem fromP_bad {x : List Int} {j : Nat} (hj : j < x.length) (h : Num.ppB (x.getD j 0) = false) : rFromPrimary x = ⟨[], 0⟩ ∧ cFromPrimary x = 2 := by
  have : Num.ppsB x = false := decide_eq_false fun hh => by
    have := hh (x.getD j 0) (by rw [List.getD_eq_getElem?_getD, List.getElem?_eq_getElem hj]; exact List.getElem_mem hj)
    rw [h] at this; cases this
  unfold rFromPrimary cFromPrimary
  simp [this]
theorem fromP_long {x : List Int} (h : Num.ppsB x = true) (hl : 100 < x.length) : rFromPrimary x = ⟨[], 0⟩ ∧ cFromPrimary x = 3 := by
  unfold rFromPrimary cFromPrimary
  rw [if_pos h, if_pos h, if_pos hl, if_pos hl]
  exact ⟨rfl, rfl⟩
theorem fromP_good {x : List Int} (h : Num.ppsB x = true) (hl : ¬ 100 < x.length) : rFromPrimary x = rDir x ∧ cFromPrimary x = cDir x := by
  unfold rFromPrimary cFromPrimary
  rw [if_pos h, if_pos h, if_neg hl, if_neg hl]
  exact ⟨rfl, rfl⟩
theorem ppB_bd {z : Int} (h : Num.ppB z = true) : 2 ≤ z ∧ z ≤ 1000000 := by
  have := of_decide_eq_true h
  exact ⟨this.1, this.2.1⟩
theorem ppsB_at {x : List Int} (h : ∀ j, j < x.length → Num.ppB (x.getD j 0) = true) : Num.ppsB x = true := decide_eq_true (Num.mem_at h)
/-- The zero group, in memory of nobody. -/
theorem MadeC.zero {w w' : World} {c : Int} (hb : Below w.heap.size w w') : MadeC spAb ⟨[], 0⟩ c w (.returned (.tuple #[.agg #[.slice none 0 0, .int .i64 0], .int .i64 c])) w' :=
  ⟨_, (fun k => (Value.slice none 0 0).ownBlock = some k), rfl, ⟨.slice none 0 0, _, rfl, spI_of (World.ownsRow_nil _ 0 _ _ : OwnI _ 0 (.slice none 0 0) []), fun k hk => hk, fun k hk => (by cases hk)⟩, (fun k hk => (by cases hk)), (by show 0 ≤ _; omega), hb⟩
set_option maxRecDepth 100000 in
set_option maxHeartbeats 2000000 in
theorem iFromPrimary_any (v : Value) (x : List Int) (w : World) (h : spI.rd w v x) : Calls Try.prog 20 #[v] w (MadeC spAb (rFromPrimary x) (cFromPrimary x) w) := by
  obtain ⟨A, cc, rfl, hxm, hA⟩ := h
  unfold maxLen at hxm
  have L0 : Below w.heap.size w (w.alloc (.cells [.slice none 0 0, (.int .i64 0 : Value)].toArray 26)) := by go_grown
  have BR0 : Blk (w.alloc (.cells [.slice none 0 0, (.int .i64 0 : Value)].toArray 26)) w.heap.size [.slice none 0 0, (.int .i64 0 : Value)] 26 := Blk.new w _ _
  have HA := Lib.hid hA
  have HBAD := Lib.hid (fun j (hj : j < x.length) (hf : Num.ppB (x.getD j 0) = false) => fromP_bad hj hf)
  clear hA
  go_enter Try.func20, Try.ntmps20
  go_wp2_with (fail)
  go_loopw [8] (fun s8 wr => ∃ j : Nat, s8 = .int .i64 j ∧ j ≤ x.length ∧ Hid (∀ i, i < j → Num.ppB (x.getD i 0) = true) ∧ Blk wr w.heap.size [.slice none 0 0, (.int .i64 0 : Value)] 26 ∧ Below w.heap.size w wr) (fun s8 _ => x.length - (intOf s8).toNat)
  case atStart => exact ⟨0, rfl, by omega, Lib.hid (fun i hi => by omega), BR0, L0⟩
  case round =>
    obtain ⟨j, rfl, hj, HP, BR, bw⟩ := hrel
    clear BR0 L0
    have bws := bw.size
    by_cases hlt : j < x.length
    · obtain ⟨g, o, rfl, hg, hc⟩ := (HA.out.below' bw) j hlt
      have j0 : (0 : Int) ≤ (j : Int) := by omega
      have j1 : (j : Int) < (x.length : Int) := by omega
      have HC0 := isPrimePower_any (x.getD j 0) wr
      cases hp : Num.ppB (x.getD j 0) with
      | true =>
        rw [hp] at HC0
        have HC := Lib.hid HC0
        have HP2 : Hid (∀ i, i < j + 1 → Num.ppB (x.getD i 0) = true) := Lib.hid fun i hi => by
          by_cases e : i = j
          · rw [e]; exact hp
          · exact HP.out i (by omega)
        clear HC0 hp HP
        generalize x.getD j 0 = z at *
        go_wp2_with (fail)
        refine HC.out.mono ?_; rintro e w2 ⟨rfl, hb⟩
        have BR2 := BR.below hb
        have bw2 := bw.trans (hb.mono bws)
        clear HC hb BR bw
        go_wp2_with (fail)
        exact ⟨⟨j + 1, by go_num, by omega, HP2, BR2, bw2⟩, by simp [intOf]; omega⟩
      | false =>
        rw [hp] at HC0
        have HC := Lib.hid HC0
        have HE := Lib.hid (HBAD.out j hlt hp)
        clear HC0 hp HP
        generalize x.getD j 0 = z at *
        go_wp2_with (fail)
        refine HC.out.mono ?_; rintro e w2 ⟨rfl, hb⟩
        have BR4 := BR.below hb
        have bw4 := bw.trans (hb.mono bws)
        obtain ⟨r2, r0, r1⟩ := BR4.c2
        have f0 := BR4.free 0
        have f1 := BR4.free 1
        have bw5 := (bw4.setCell (p := ⟨w.heap.size, 0, none⟩) (by simp) (.slice none 0 0)).setCell (p := ⟨w.heap.size, 1, none⟩) (by simp) (.int .i64 0)
        clear HC hb BR bw BR4 bw4
        go_wp2_with (fail)
        refine bodyPost_ret (v := .tuple #[.agg #[.slice none 0 0, .int .i64 0], .int .i64 2]) (by simp [results, Try.results20, go_sem, r2, r0, r1]) rfl ?_
        rw [HE.out.1, HE.out.2]
        exact MadeC.zero bw5
    · obtain rfl : j = x.length := by omega
      have hge : ¬ ((x.length : Int) < (x.length : Int)) := by omega
      have hps := ppsB_at HP.out
      by_cases hlen : 100 < x.length
      · have HE := Lib.hid (fromP_long hps hlen)
        have tl : ¬ ((x.length : Int) ≤ 100) := by omega
        obtain ⟨r2, r0, r1⟩ := BR.c2
        have f0 := BR.free 0
        have f1 := BR.free 1
        have bw5 := (bw.setCell (p := ⟨w.heap.size, 0, none⟩) (by simp) (.slice none 0 0)).setCell (p := ⟨w.heap.size, 1, none⟩) (by simp) (.int .i64 0)
        clear hps HP BR bw
        go_wp2_with (fail)
        refine bodyPost_ret (v := .tuple #[.agg #[.slice none 0 0, .int .i64 0], .int .i64 3]) (by simp [results, Try.results20, go_sem, r2, r0, r1]) rfl ?_
        rw [HE.out.1, HE.out.2]
        exact MadeC.zero bw5
      · have HE := Lib.hid (fromP_good hps hlen)
        have tl : (x.length : Int) ≤ 100 := by omega
        have HG := Lib.hid (cyclicGroups_own A cc x 0 wr (HA.out.below' bw) (by omega) (by omega) (by omega))
        rw [show Num.chainL x 0 = x by simp [Num.chainL]] at HG
        have HD : Hid (∀ W v, spI.rd W v x → Calls Try.prog 52 #[v] W (MadeC spAb (rDir x) (cDir x) W)) := Lib.hid fun W v hv => directProduct_any v x W hv (by omega) (fun z hz => by have := ppB_bd (of_decide_eq_true hps z hz); omega)
        clear hps HP
        go_wp2_with (fail)
        refine HG.out.mono ?_; rintro e w2 ⟨u2, rfl, ho2, hb2⟩
        have HD2 := Lib.hid (HD.out w2 u2 ho2.rd)
        have BR2 := BR.below hb2
        have bw2 := bw.trans (hb2.mono bws)
        clear HG HD ho2 hb2 BR bw
        go_wp2_with (fail)
        refine HD2.out.mono ?_; rintro e w3 ⟨u3, S3, rfl, ow3, hS3, hcn, hb3⟩
        obtain ⟨A3, n3, c3, rfl, r3⟩ := spAb_form (spAb.own_rd ow3)
        have BR3 := BR2.below hb3
        have bw3 := bw2.trans (hb3.mono bw2.size)
        obtain ⟨r2, r0, r1⟩ := BR3.c2
        have f0 := BR3.free 0
        have f1 := BR3.free 1
        have HS3 : Hid (∀ k, S3 k → w.heap.size + 1 ≤ k) := Lib.hid fun k hk => by have := hS3 k hk; have := BR2.lt; omega
        have OW := Lib.hid ow3
        have HCN := Lib.hid hcn
        have bw5 := (bw3.setCell (p := ⟨w.heap.size, 0, none⟩) (by simp) (.slice A3 n3 c3)).setCell (p := ⟨w.heap.size, 1, none⟩) (by simp) (.int .i64 (rDir x).K)
        clear HD2 ow3 hS3 hb3 BR3 bw3 BR2 bw2 r3 hcn
        generalize rDir x = R at *
        generalize cDir x = CD at *
        go_wp2_with (fail)
        refine bodyPost_ret (v := .tuple #[.agg #[.slice A3 n3 c3, .int .i64 R.K], .int .i64 CD]) (by simp [results, Try.results20, go_sem, r2, r0, r1]) rfl ?_
        rw [HE.out.1, HE.out.2]
        have ns : ¬ S3 w.heap.size := fun hs => by have := HS3.out _ hs; omega
        exact ⟨_, S3, rfl, spAb.own_set (spAb.own_set OW.out (p := ⟨w.heap.size, 0, none⟩) ns _) (p := ⟨w.heap.size, 1, none⟩) ns _, fun k hk => by have := HS3.out k hk; omega, HCN.out, bw5⟩
theorem iFromPrimary_ok (v0 : Value) (x0 : List Int) (w : World) (h0 : spI.rd w v0 x0) (s0 : spI.sz x0 ≤ 1048576) : Calls Try.prog 20 #[v0] w (MadeC spAb (rFromPrimary x0) (cFromPrimary x0) w) := iFromPrimary_any v0 x0 w h0
end Go.Proofs.Ytndldgmejmephaa
