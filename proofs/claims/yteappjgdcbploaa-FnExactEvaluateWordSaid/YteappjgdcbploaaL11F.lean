/- Presentations of the program: relation.isValid. -/
import Derived.Test.YteappjgdcbploaaL11C
import Derived.Test.YteappjgdcbploaaL11E
import Derived.Deep.RegionHeld3
namespace Go.Proofs.Yteappjgdcbploaa
open Go.RowKit
set_option linter.unusedVariables false
set_option linter.unusedSimpArgs false

theorem rdI_drop {w : World} {A : Option Addr} {c : Nat} {x : List Int} {k : Nat} (h : RdI w A x) (hk : k ≤ x.length) (hc : x.length ≤ c) : RdI w (if c = k then A else A.map fun p => p.add k) (x.drop k) := by
  intro j hj
  rw [List.length_drop] at hj
  obtain ⟨g', o', e1, e2, e3⟩ := h (k + j) (by omega)
  subst e1
  have e : (x.drop k).getD j 0 = x.getD (k + j) 0 := by simp [List.getD_eq_getElem?_getD]
  rw [if_neg (by omega)]
  exact ⟨g', o' + k, by simp [Addr.add_lit], e2, by rw [e, Nat.add_assoc]; exact e3⟩
/-- A presentation whose orders have the room that a slice of their end wants. -/
def PresC (w : World) (v : Value) (x : Pres) : Prop := ∃ A0 c0 A1 c1 A2 c2, v = .agg #[.slice A0 x.O.length c0, .slice A1 x.W.length c1, .slice A2 x.J.length c2] ∧
    (RdI w A0 x.O ∧ RdW w A1 x.W ∧ RdX w A2 x.J) ∧ x.O.length ≤ maxLen ∧ x.W.length ≤ maxLen ∧ x.J.length ≤ maxLen ∧ x.O.length ≤ c0
theorem PresC.rd {w : World} {v : Value} {x : Pres} (h : PresC w v x) : spPres.rd w v x := by
  obtain ⟨A0, c0, A1, c1, A2, c2, rfl, h1, m0, m1, m2, -⟩ := h
  exact pres_rd h1 m0 m1 m2 _ _ _
theorem PresC.below {w w' : World} {v : Value} {x : Pres} (h : PresC w v x) (hb : Below w.heap.size w w') : PresC w' v x := by
  obtain ⟨A0, c0, A1, c1, A2, c2, rfl, ⟨h0, h1, h2⟩, m⟩ := h
  exact ⟨A0, c0, A1, c1, A2, c2, rfl, ⟨h0.below' hb, h1.below' hb, h2.below' hb⟩, m⟩
theorem presC_of {w : World} {S : Nat → Prop} {v : Value} {x : Pres} (h : spPres.own w S v x) : PresC w v x := by
  obtain ⟨A0, c0, A1, c1, A2, c2, e, h1, m0, m1, m2⟩ := pres_open (spPres.own_rd h)
  refine ⟨A0, c0, A1, c1, A2, c2, e, h1, m0, m1, m2, ?_⟩
  obtain ⟨v0, v1, v2, T0, T1, T2, e2, o0, -⟩ := h
  rw [e2] at e
  simp only [Value.agg.injEq, Array.mk.injEq, List.cons.injEq, and_true] at e
  obtain ⟨rfl, -⟩ := e
  rcases o0.1.2 with ⟨h2, h0⟩ | ⟨g, cap, cur, hv, -, -, hn, -⟩
  · omega
  · simp only [Value.slice.injEq] at hv
    omega
set_option maxRecDepth 100000 in
set_option maxHeartbeats 4000000 in
theorem isValid_any (A A0 : Option Addr) (c c0 : Nat) (x O : List Int) (g o : Int) (i : Nat) (w : World) (hx : RdI w A x) (hO : RdI w A0 O) (hl : x.length ≤ maxLen) (h6 : O.length ≤ 6) (hc : O.length ≤ c0) (hi : i < O.length) (ho : ∀ j, j < O.length → 1 ≤ O.getD j 0) :
    Calls Try.prog 128 #[.agg #[.slice A x.length c, .int .i64 g, .int .i64 (i : Int), .int .i64 o], .slice A0 O.length c0] w (RetB (Num.fitB O x (i + 1)) w) := by
  obtain ⟨gO, oO, eO, -, -⟩ := hO i hi
  subst eO
  have HF : Hid (Num.blwB x (List.replicate (i + 1) 1 ++ O.drop (i + 1)) = Num.fitB O x (i + 1)) := Lib.hid (Num.blw_fit (by omega) ho)
  have b0 : Below w.heap.size w (w.alloc (.cells #[.slice A x.length c, .int .i64 g, .int .i64 (i : Int), .int .i64 o] 102)) := by go_grown
  have HX := Lib.hid (hx.below' b0)
  have HO := Lib.hid (hO.below' b0)
  have BX := (Blk.new w [.slice A x.length c, .int .i64 g, .int .i64 (i : Int), .int .i64 o] 102).c4
  have HD : Hid (∀ W, RdI W (some ⟨gO, oO, none⟩) O → RdI W (if c0 = i + 1 then some (⟨gO, oO, none⟩ : Addr) else some ⟨gO, oO + (i + 1), none⟩) (O.drop (i + 1))) := Lib.hid fun W h => by have := rdI_drop h (by omega) hc (k := i + 1); simpa [Addr.add_lit] using this
  have HLD : Hid ((O.drop (i + 1)).length = O.length - (i + 1)) := Lib.hid (List.length_drop)
  have j1 : IntKind.i64.wrap ((i : Int) + 1) = (i : Int) + 1 := IntWalk.i64_in _ (by omega)
  have j2 : ((i : Int) + 1).toNat = i + 1 := by omega
  have j3 : ¬ ((i : Int) + 1 < 0) := by omega
  have j4 : (i : Int) + 1 ≤ (O.length : Int) := by omega
  have j5 : (O.length : Int) ≤ (c0 : Int) := by omega
  have j6 : (i : Int) + 1 ≤ (c0 : Int) := by omega
  have HRP : Hid (∀ (vb : Nat) (W : World), W.cell? ⟨vb, 0, none⟩ = some (.int .i64 1) → Calls Try.prog 146 #[.slice (some ⟨vb, 0, none⟩) 1 1, .int .i64 ((i : Int) + 1)] W fun e w' => ∃ A c, e = .returned (.slice A (i + 1) c) ∧ RdI w' A (List.replicate (i + 1) 1) ∧ (1 ≤ i + 1 → OwnI w' W.heap.size (.slice A (i + 1) c) (List.replicate (i + 1) 1)) ∧ Below W.heap.size W w') := Lib.hid fun vb W h => repeatI_any vb (i + 1) 1 W (by omega) h
  have HL := Lib.hid hl
  clear hx hO ho hl
  generalize hW0 : (w.alloc (.cells #[.slice A x.length c, .int .i64 g, .int .i64 (i : Int), .int .i64 o] 102)) = W0 at *
  obtain ⟨AD, hAD⟩ : ∃ AD, (if c0 = i + 1 then some (⟨gO, oO, none⟩ : Addr) else some ⟨gO, oO + (i + 1), none⟩) = AD := ⟨_, rfl⟩
  rw [hAD] at HD
  obtain ⟨bl, bx0, bx1, bx2, bx3⟩ := BX
  go_enter Try.func128, Try.ntmps128
  go_wp2_with (fail)
  clear hW0
  have HCC : Hid (∀ (AR : Option Addr) (cR : Nat) (W5 W : World) (vb : Nat), Below W0.heap.size W0 W5 → RdI W5 AR (List.replicate (i + 1) 1) → Below W5.heap.size W5 W → W.cell? ⟨vb, 0, none⟩ = some (.slice AR (i + 1) cR) → W.cell? ⟨vb, 1, none⟩ = some (.slice AD (O.length - (i + 1)) (c0 - (i + 1))) →
      Calls Try.prog 130 #[.slice (some ⟨vb, 0, none⟩) 2 2] W fun e w' => ∃ v, e = .returned v ∧ OwnI w' W.heap.size v (List.replicate (i + 1) 1 ++ O.drop (i + 1)) ∧ Below W.heap.size W w') := Lib.hid fun AR cR W5 W vb h5 hr hb k0 k1 =>
    concatI_any _ _ (List.replicate (i + 1) 1) (O.drop (i + 1)) _ _ ⟨AR, cR, by rw [List.length_replicate], by rw [List.length_replicate]; unfold maxLen; omega, hr.below' hb⟩ ⟨AD, _, by rw [HLD.out], by rw [HLD.out]; unfold maxLen; omega, HD.out _ (HO.out.below' (bstep h5 h5.size hb))⟩ (by rw [List.length_replicate, HLD.out]; omega) k0 k1
  have HL6 : Hid ((List.replicate (i + 1) (1 : Int) ++ O.drop (i + 1)).length ≤ maxLen) := Lib.hid (by rw [List.length_append, List.length_replicate, HLD.out]; unfold maxLen; omega)
  have HEL : Hid ((List.replicate (i + 1) (1 : Int) ++ O.drop (i + 1)).length = i + 1 + (O.length - (i + 1))) := Lib.hid (by rw [List.length_append, List.length_replicate, HLD.out])
  go_region_held3 (fun wx => wx.cell? ⟨w.heap.size, 0, none⟩ = some (.slice A x.length c)) (first | go_keep | assumption) (first
    | (go_at_call 105; (with_reducible refine (HBL.out).mono ?_); rintro e w7 ⟨rfl, rfl⟩)
    | (go_at_call 130; have BW6 : Below w5.heap.size w5 (w5.alloc (.cells #[.slice AR (i + 1) cR, .slice AD (O.length - (i + 1)) (c0 - (i + 1))] 22)) := (Below.refl _ _).alloc (Nat.le_refl _) _; have BK6 := (Blk.new w5 [.slice AR (i + 1) cR, .slice AD (O.length - (i + 1)) (c0 - (i + 1))] 22).c2; have L56 := bstep L5 L5.size BW6; have HC6 := HCC.out AR cR w5 _ w5.heap.size L5 HR5.out BW6 BK6.2.1 BK6.2.2; (with_reducible refine HC6.mono ?_); rintro e w6 ⟨v6, rfl, ow6, hb6⟩; have L6 := bstep L56 L56.size hb6; obtain ⟨A6, c6, rfl⟩ := ow6.form; have HBL := Lib.hid (isBelow_any A A6 c c6 x (List.replicate (i + 1) 1 ++ O.drop (i + 1)) w6 (HX.out.below' L6) ow6.reads HL.out HL6.out); rw [HEL.out] at HBL; have SM6 : w6.cell? ⟨w.heap.size, 0, none⟩ = some (.slice A x.length c) := (by rw [L6.cell bl]; exact bx0); clear HC6 BK6 BW6 L56)
    | (go_at_call 146; have BW5 : Below W0.heap.size W0 ((W0.alloc (.cells #[.int .i64 1] 2)).drew) := ((Below.refl _ _).alloc (Nat.le_refl _) _).drew; have HR0 := HRP.out W0.heap.size ((W0.alloc (.cells #[.int .i64 1] 2)).drew) ((Blk.new W0 [.int .i64 1] 2).drew.cell 0 (by simp)); (with_reducible refine HR0.mono ?_); rintro e w5 ⟨AR, cR, rfl, hR, -, hb5⟩; have L5 := bstep BW5 BW5.size hb5; have HR5 := Lib.hid hR; have SM5 : w5.cell? ⟨w.heap.size, 0, none⟩ = some (.slice A x.length c) := (by rw [L5.cell bl]; exact bx0); clear HR0 hb5 BW5))
  all_goals
    go_wp2_with (fail)
    go_ret
    exact ⟨by rw [HF.out]; rfl, bstep b0 b0.size L6⟩
end Go.Proofs.Yteappjgdcbploaa
