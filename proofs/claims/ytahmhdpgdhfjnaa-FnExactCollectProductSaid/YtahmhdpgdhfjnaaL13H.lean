/- Collection of the program: normalForm. -/
import Derived.Test.YtahmhdpgdhfjnaaL13G
import Derived.Test.YtahmhdpgdhfjnaaL13C
namespace Go.Proofs.Ytahmhdpgdhfjnaa
open Go.RowKit
set_option linter.unusedVariables false
set_option linter.unusedSimpArgs false

def Num.nfW (r : Option (List Int × Nat)) : List Int := match r with | some p => p.1 | none => []
def Num.nfC (r : Option (List Int × Nat)) : Int := match r with | some _ => 0 | none => 3
/-- What normalForm leaves. -/
def NForm (T : Option (List Int × Nat)) (w : World) (e : Ending) (w' : World) : Prop := ∃ B d, e = .returned (.tuple #[.slice B (Num.nfW T).length d, .int .i64 (Num.colS T), .int .i64 (Num.nfC T)]) ∧ RdI w' B (Num.nfW T) ∧ (Num.nfW T).length ≤ d ∧ Below w.heap.size w w'
set_option maxRecDepth 100000 in
set_option maxHeartbeats 4000000 in
theorem normalForm_any (A B : Option Addr) (c d L : Nat) (O : List Int) (W : List (List Int)) (J : List (List (List Int))) (x : List Int) (w : World) (hpre : Num.preB O W J = true) (hR : RulesRd w A (Num.rels O W J)) (hx : RdI w B x) (hl : x.length ≤ 256) (hd : x.length ≤ d) (hp : Num.PosW O.length x) (hL : L ≤ 2000) :
    Calls Try.prog 100 #[.slice A (Num.rels O W J).length c, .slice B x.length d, .int .i64 (L : Int)] w (NForm (Num.colW O W J L x) w) := by
  have V := Num.V9.of hpre
  have HV := Lib.hid V
  have HT0 := Lib.hid (Num.colT_start (O := O) (W := W) (J := J) (L := L) hl)
  have HC : Hid (∀ (W' : World) (y : List Int) (B : Option Addr) (d : Nat), Below w.heap.size w W' → RdI W' B y → y.length ≤ 400 → y.length ≤ d → Num.PosW O.length y → Calls Try.prog 68 #[.slice A (Num.rels O W J).length c, .slice B y.length d] W' (CStep O W J y W' (.slice B y.length d))) :=
    Lib.hid fun W' y B d hb hr hy hd hp => cstep_any A B c d O W J y W' hpre (hR.below hb) hr hy hd hp
  generalize Num.colW O W J L x = T at *
  clear hpre hR V
  generalize (Num.rels O W J).length = nq at *
  unfold NForm
  go_enter Try.func100, Try.ntmps100
  go_wp2_with (fail)
  go_loopw [1, 9] (fun s1 s9 wr => ∃ (s : Nat) (y : List Int) (B : Option Addr) (d : Nat), s1 = .slice B y.length d ∧ s9 = .int .i64 s ∧ s ≤ L ∧ Hid (RdI wr B y) ∧ y.length ≤ 256 ∧ y.length ≤ d ∧ Hid (Num.PosW O.length y) ∧ Hid (Num.colT O W J L s y = T) ∧ Below w.heap.size w wr) (fun _ s9 _ => L + 1 - (intOf s9).toNat)
  case atStart => exact ⟨0, x, B, d, rfl, rfl, by omega, Lib.hid hx, hl, hd, Lib.hid hp, HT0, Below.refl _ _⟩
  case round =>
    clear hx hl hd hp HT0
    obtain ⟨s, y, B, d, rfl, rfl, hs, hr, hyl, hyd, hpy, hT, bel⟩ := hrel
    have HC1 := Lib.hid (HC.out wr y B d bel hr.out (by omega) hyd hpy.out)
    unfold CStep at HC1
    by_cases hat : Num.atW O y < y.length
    · have eI := Num.stI_yes hat
      have hT2 : Hid (Num.colT O W J L (s + 1) (Num.stpW O W J y (Num.atW O y)) = T) := Lib.hid (by rw [← hT.out]; exact (Num.colT_step hs hyl hat).symm)
      have hp2 := Lib.hid (Num.stpW_pos HV.out hpy.out hat)
      have hat0 : ¬ (Num.atW O y : Int) < 0 := by omega
      have HA := Lib.hid hat
      rw [eI] at HC1
      clear hT hat eI
      generalize Num.stpW O W J y (Num.atW O y) = y2 at *
      generalize Num.atW O y = t at *
      have ws : IntKind.i64.wrap ((s : Int) + 1) = (s : Int) + 1 := IntWalk.i64_in _ (by omega)
      go_wp2_with (fail)
      refine HC1.out.mono ?_; rintro e w2 ⟨u, rfl, ho, -, hb2⟩
      have own := ho HA.out
      obtain ⟨B2, d2, rfl, hd2⟩ := own.capN
      have hr2 := own.reads
      have L2 := bstep bel bel.size hb2
      clear HC1 ho own
      by_cases hsl : s = L
      · have T1 : ((s : Int) == (L : Int)) = true := by simp [hsl]
        have HTN : Hid (T = none) := Lib.hid (by rw [← hT2.out]; exact Num.colT_long (.inl (by omega)))
        clear hsl
        go_wp2_with (fail)
        go_ret3
        rw [HTN.out]
        exact ⟨_, _, rfl, RdI.nil _ _, Nat.zero_le _, L2⟩
      · have T1 : ((s : Int) == (L : Int)) = false := beq_eq_false_iff_ne.mpr (by omega)
        by_cases hlong : 256 < y2.length
        · have l1 : (256 : Int) < (y2.length : Int) := by omega
          have HTN : Hid (T = none) := Lib.hid (by rw [← hT2.out]; exact Num.colT_long (.inr hlong))
          clear hsl
          go_wp2_with (fail)
          go_ret3
          rw [HTN.out]
          exact ⟨_, _, rfl, RdI.nil _ _, Nat.zero_le _, L2⟩
        · have l1 : ¬ (256 : Int) < (y2.length : Int) := by omega
          have hsl2 : s + 1 ≤ L := by omega
          clear hsl
          go_wp2_with (fail)
          exact ⟨⟨s + 1, y2, B2, d2, rfl, by go_num, hsl2, Lib.hid hr2, by omega, hd2, hp2, hT2, L2⟩, by simp [intOf]; omega⟩
    · have eI := Num.stI_no hat
      have HTS : Hid (T = some (y, s)) := Lib.hid (by rw [← hT.out]; exact Num.colT_end hs hyl hat)
      have HA := Lib.hid hat
      rw [eI] at HC1
      clear hT hat eI
      go_wp2_with (fail)
      refine HC1.out.mono ?_; rintro e w2 ⟨u, rfl, -, ho, hb2⟩
      have own := ho HA.out
      subst own
      have L2 := bstep bel bel.size hb2
      have hr2 := hr.out.below' hb2
      clear HC1 ho
      go_wp2_with (fail)
      go_ret3
      rw [HTS.out]
      exact ⟨_, _, rfl, hr2, hyd, L2⟩
end Go.Proofs.Ytahmhdpgdhfjnaa
