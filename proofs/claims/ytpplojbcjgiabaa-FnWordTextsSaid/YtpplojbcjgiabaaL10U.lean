/- Words: WordText of the model. -/
import Derived.Test.YtpplojbcjgiabaaL10T
namespace Go.Proofs.Ytpplojbcjgiabaa
open Go.RowKit
set_option linter.unusedVariables false
set_option linter.unusedSimpArgs false

set_option maxHeartbeats 1000000 in
theorem sWordText_any (k : Int) (v : Value) (x : List Int) (w : World) (h : spI.rd w v x) : Calls Try.prog 15 #[.int .i64 k, v] w (RetS (rWordText k x) (cWordText k x) w) := by
  obtain ⟨A, c, rfl, hm, hA⟩ := h
  have HC := Lib.hid (sCode_any k A none c 0 _ 0 x [] w hA rfl hm (RdI.nil _ _) rfl (by simp))
  rw [Num.codeW_pad] at HC
  by_cases hz : Num.codeW k [x] = 0
  · have hk := (Num.codeW_zero hz).1
    have hw := (Num.codeW_zero hz).2 x (by simp)
    have HR : Hid (rWordText k x = tWord x ∧ cWordText k x = 0) := Lib.hid ⟨if_pos hz, hz⟩
    have HP := Lib.hid (sTextL_any A c k x w hA hk.2 hw)
    rw [hz] at HC
    clear hz hA hw
    generalize tWord x = t at *
    go_enter Try.func15, Try.ntmps15
    go_wp2_with (fail)
    refine HC.out.mono ?_; rintro e w' ⟨rfl, rfl⟩
    go_wp2_with (fail)
    refine HP.out.mono ?_; rintro e w1 ⟨rfl, bel⟩
    go_wp2_with (fail)
    go_ret2
    rw [HR.out.1, HR.out.2]
    exact ⟨rfl, bel⟩
  · have HR : Hid (rWordText k x = ⟨#[]⟩ ∧ cWordText k x = Num.codeW k [x]) := Lib.hid ⟨if_neg hz, rfl⟩
    have T1 : (Num.codeW k [x] != 0) = true := by simpa using hz
    clear hz hA
    generalize Num.codeW k [x] = cd at *
    go_enter Try.func15, Try.ntmps15
    go_wp2_with (fail)
    refine HC.out.mono ?_; rintro e w' ⟨rfl, rfl⟩
    go_wp2_with (fail)
    go_ret2
    rw [HR.out.1, HR.out.2]
    exact ⟨rfl, Below.refl _ _⟩
theorem iWordText_ok (k : Int) (v : Value) (x : List Int) (w : World) (h : spI.rd w v x) (s : spI.sz x ≤ 1048576) : Calls Try.prog 14 #[.int .i64 k, v] w (RetS (rWordText k x) (cWordText k x) w) := iWordText_any k v x w h
theorem sWordText_ok (k : Int) (v : Value) (x : List Int) (w : World) (h : spI.rd w v x) (s : spI.sz x ≤ 1048576) : Calls Try.prog 15 #[.int .i64 k, v] w (RetS (rWordText k x) (cWordText k x) w) := sWordText_any k v x w h
end Go.Proofs.Ytpplojbcjgiabaa
