/- Draws of chapter 6: a word whose text is asked; what the law of texts asks of the data. -/
import Derived.Test.YtpplojbcjgiabaaD6B
import Derived.Test.YtpplojbcjgiabaaL10U
import Derived.Test.YtpplojbcjgiabaaL10R
import Derived.Test.YtpplojbcjgiabaaWordG
namespace Go.Proofs.Ytpplojbcjgiabaa
open Go.RowKit
set_option linter.unusedVariables false
set_option linter.unusedSimpArgs false

/-- A word that came. -/
def OneWord (w : World) (e : Ending) (w' : World) : Prop := ∃ k u a, e = .returned (.tuple #[.int .i64 k, u]) ∧ spI.rd w' u a ∧ Below w.heap.size w w'
set_option maxHeartbeats 1000000 in
theorem drawText_any (A : Option Addr) (len cap : Nat) (w : World) (hB : RdB w w.heap.size A len) (hlen : len ≤ 4096) : Calls Try.prog 13 #[.slice A len cap] w (OneWord w) := by
  have HF := Lib.hid (from_any A len cap w hB hlen)
  clear hB
  go_enter Try.func13, Try.ntmps13
  go_wp2_with (fail)
  refine HF.out.mono ?_
  rintro e w1 ⟨rfl, hs1, bel1⟩
  have HN := Lib.hid (count_any w.heap.size A len cap w1 hs1)
  go_wp2_with (fail)
  refine HN.out.mono ?_
  rintro e w2 ⟨k, rfl, ⟨k0, k1⟩, hs2, hc2⟩
  have HA := Lib.hid (word_any w.heap.size A len cap k w2 hs2 k0 k1)
  have q2 := hs2.lt
  go_wp2_with (fail)
  refine HA.out.mono ?_
  rintro e w3 ⟨u, a, rfl, own3, ha, hs3, hc3⟩
  go_wp2_with (fail)
  go_ret2
  have hcc := hc2.trans hc3
  refine ⟨k, u, a, rfl, spI.own_rd (spI_of own3), ?_⟩
  exact bel1.trans (hcc.below (B := w.heap.size) (fun k e => by omega) bel1.size)

/-- The byte of a letter stands for it. -/
theorem letB_uB {x : Int} (h0 : x ≠ 0) (h1 : -6 ≤ x) (h2 : x ≤ 6) : Num.letB ((uB x).toNat : Int) = x := by
  rcases Int.lt_or_gt_of_ne h0 with h | h
  · rw [uB_neg h h1, Num.letB_large (by omega)]; omega
  · rw [uB_pos h h2, Num.letB_small (by omega)]; omega
theorem bytes_text (x : List Int) : bytesOf ⟨(textU x).toArray⟩ = (textU x).map (fun u => (u.toNat : Int)) := by
  unfold bytesOf
  simp
theorem text_parsed {k : Int} {x : List Int} (hk : 0 ≤ k ∧ k ≤ 6) (hw : Num.isWB k x = true) : cParseWord k (bytesOf (tWord x)) = 0 ∧ rParseWord k (bytesOf (tWord x)) = x ∧ (tWord x).size ≤ 1048576 := by
  have hl := (Num.isWB_iff.mp hw).1
  have hx := (Num.isWB_iff.mp hw).2
  unfold cParseWord rParseWord
  rw [if_pos hk, if_pos hk]
  by_cases he : x = []
  · subst he
    have e1 : bytesOf (tWord []) = [49] := by
      show bytesOf ⟨#[49]⟩ = [49]
      rfl
    rw [if_pos e1, if_pos e1]
    exact ⟨rfl, rfl, by show (1 : Nat) ≤ _; omega⟩
  · have e1 : tWord x = ⟨(textU x).toArray⟩ := if_neg he
    rw [e1, bytes_text]
    have hne : ¬ (textU x).map (fun u => (u.toNat : Int)) = [49] := fun h => by
      cases x with
      | nil => exact he rfl
      | cons y t =>
        simp only [textU, List.map_cons, List.cons.injEq] at h
        have hy := hx y (by simp)
        have := letB_uB hy.1 (by omega) (by omega)
        rw [h.1] at this
        have e0 : Num.letB 49 = 0 := Num.letB_none (by omega) (by omega)
        exact hy.1 (by rw [← this]; exact e0)
    have hnn : ¬ (textU x).map (fun u => (u.toNat : Int)) = [] := fun h => he (by simpa [textU] using h)
    rw [if_neg hne, if_neg hne, if_neg hnn, if_neg hnn]
    have hlets : Num.lets ((textU x).map (fun u => (u.toNat : Int))) = x := by
      unfold Num.lets textU
      rw [List.map_map, List.map_map]
      have : ∀ z ∈ x, ((Num.letB ∘ (fun u : UInt8 => (u.toNat : Int))) ∘ uB) z = id z := fun z hz => by
        have hy := hx z hz
        exact letB_uB hy.1 (by omega) (by omega)
      rw [List.map_congr_left this]; simp
    have hok : Num.okT k ((textU x).map (fun u => (u.toNat : Int))) = true := decide_eq_true fun b hb => by
      unfold textU at hb
      rw [List.map_map] at hb
      obtain ⟨z, hz, rfl⟩ := List.mem_map.mp hb
      have hy := hx z hz
      show Num.OkL k ((uB z).toNat : Int)
      unfold Num.OkL
      rw [letB_uB hy.1 (by omega) (by omega)]
      exact hy
    have hlen : ((textU x).map (fun u => (u.toNat : Int))).length = x.length := by simp [textU]
    unfold tailC tailR
    rw [if_pos hok, if_pos hok, if_neg (by omega), if_neg (by omega)]
    refine ⟨rfl, hlets, ?_⟩
    show (textU x).toArray.size ≤ _
    simp [textU]; omega
end Go.Proofs.Ytpplojbcjgiabaa
