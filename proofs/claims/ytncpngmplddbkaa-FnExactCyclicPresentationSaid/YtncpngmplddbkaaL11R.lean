/- Presentations: the model's CyclicPresentation. -/
import Derived.Test.YtncpngmplddbkaaL11Q
namespace Go.Proofs.Ytncpngmplddbkaa
open Go.RowKit
set_option linter.unusedVariables false
set_option linter.unusedSimpArgs false

def Num.cycS (n : Nat) : Nat → List (List Int)
  | 0 => List.replicate n (List.replicate n 0)
  | i + 1 => (Num.cycS n i).set i (Num.unit7 n (i + 1))
theorem Num.cycS_len (n : Nat) : ∀ i, (Num.cycS n i).length = n
  | 0 => by simp [Num.cycS]
  | i + 1 => by rw [Num.cycS, List.length_set, Num.cycS_len n i]
theorem Num.cycS_at (n : Nat) : ∀ i j, i ≤ j → j < n → (Num.cycS n i).getD j [] = List.replicate n 0
  | 0, j, _, hj => by rw [Num.cycS, List.getD_eq_getElem?_getD, List.getElem?_replicate, if_pos hj]; rfl
  | i + 1, j, h, hj => by
    rw [Num.cycS, getD_set _ _ _ _ _ (by rw [Num.cycS_len]; omega), if_neg (by omega)]
    exact Num.cycS_at n i j (by omega) hj
theorem Num.cycS_mem (n : Nat) : ∀ i, ∀ r ∈ Num.cycS n i, r.length = n
  | 0, r, h => by rw [List.eq_of_mem_replicate h, List.length_replicate]
  | i + 1, r, h => by
    rw [Num.cycS] at h
    rcases List.mem_or_eq_of_mem_set h with h | h
    · exact Num.cycS_mem n i r h
    · rw [h, Num.unit7_len]
/-- What is good, the presentation, the result and the code of CyclicPresentation. -/
def cycOk (n : Int) : Prop := 1 ≤ n ∧ n ≤ 729 ∧ Num.cycG n = true
instance (n : Int) : Decidable (cycOk n) := by unfold cycOk; infer_instance
def cycP (O : List Int) : Pres := ⟨O, Num.cycS O.length (O.length - 1), Num.trivJ O.length O.length⟩
def rCyclicPresentation (n : Int) : Pres := if cycOk n ∧ (Num.cycO n).length ≤ 6 then cycP (Num.cycO n) else noPres
def cCyclicPresentation (n : Int) : Int := if cycOk n then (if (Num.cycO n).length ≤ 6 then 0 else 3) else 2
theorem cycP_cnt {O : List Int} (h : O.length ≤ 64) : spPres.cnt (cycP O) ≤ 1000000000 := by
  have h0 := trivP_cnt h
  have e : spPres.cnt (cycP O) ≤ spPres.cnt (trivP O) + 64 * 64 := by
    show O.length + sumOf spI.cnt (Num.cycS O.length (O.length - 1)) + sumOf spII.cnt (Num.trivJ O.length O.length) ≤ O.length + sumOf spI.cnt (List.replicate O.length (List.replicate O.length 0)) + sumOf spII.cnt (Num.trivJ O.length O.length) + 64 * 64
    have h1 := sumOf_bd spI.cnt 64 (Num.cycS O.length (O.length - 1)) fun x hx => by
      have := Num.cycS_mem _ _ x hx
      show x.length ≤ 64
      omega
    rw [Num.cycS_len] at h1
    have h4 := Nat.mul_le_mul_right 64 h
    omega
  have h2 : spPres.cnt (trivP O) ≤ 900000000 := by
    show O.length + sumOf spI.cnt (List.replicate O.length (List.replicate O.length 0)) + sumOf spII.cnt (Num.trivJ O.length O.length) ≤ _
    have h1 := sumOf_bd spI.cnt 64 (List.replicate O.length (List.replicate O.length (0 : Int))) fun x hx => by
      rw [List.eq_of_mem_replicate hx]
      show (List.replicate O.length (0 : Int)).length ≤ _
      rw [List.length_replicate]; exact h
    have h2 := sumOf_bd spII.cnt (64 * 64) (Num.trivJ O.length O.length) fun x hx => by
      obtain ⟨i, j, rfl, hj⟩ := Num.trivJ_mem _ _ x hx
      have h3 := sumOf_bd spI.cnt 64 (Num.trivR O.length i j) fun y hy => Nat.le_trans (Num.trivR_mem _ _ _ y hy) h
      rw [Num.trivR_len] at h3
      show sumOf spI.cnt _ ≤ _
      have := Nat.mul_le_mul_right 64 (Nat.le_trans hj h)
      omega
    rw [List.length_replicate] at h1
    rw [Num.trivJ_len] at h2
    have h4 := Nat.mul_le_mul_right 64 h
    have h5 := Nat.mul_le_mul_right (64 * 64) h
    omega
  omega
set_option maxRecDepth 100000 in
set_option maxHeartbeats 4000000 in
theorem sCyclic_main (n : Int) (w : World) (hk : cycOk n) (h6 : (Num.cycO n).length ≤ 6) : Calls Try.prog 35 #[.int .i64 n] w (MadeC spPres (cycP (Num.cycO n)) 0 w) := by
  obtain ⟨h1, h2, hg⟩ := hk
  have HCNT := Lib.hid (cycP_cnt (O := Num.cycO n) (by omega))
  have b0 : Below w.heap.size w (w.alloc (.cells #[.slice none 0 0, .slice none 0 0, .slice none 0 0] 29)) := by go_grown
  have BR := (Blk.new w [.slice none 0 0, .slice none 0 0, .slice none 0 0] 29)
  have HF := Lib.hid (sFactors7_any n (w.alloc (.cells #[.slice none 0 0, .slice none 0 0, .slice none 0 0] 29)) h1 h2)
  rw [hg] at HF
  generalize Num.cycO n = O at *
  obtain ⟨m, hm⟩ : ∃ m, O.length = m := ⟨_, rfl⟩
  rw [hm] at h6
  have HM := Lib.hid hm
  have HBR := Lib.hid BR
  have hbw : w.heap.size < (w.alloc (.cells #[.slice none 0 0, .slice none 0 0, .slice none 0 0] 29)).heap.size := by simp
  clear BR hm
  generalize hW0 : w.alloc (.cells #[.slice none 0 0, .slice none 0 0, .slice none 0 0] 29) = W0 at *
  go_enter Try.func35, Try.ntmps35
  go_wp2_with (go_at_call 63; refine (sIn_yes _ _ _ _ h1 h2).mono ?_; rintro e w' ⟨rfl, rfl⟩)
  clear hW0
  refine HF.out.mono ?_; rintro e w1 ⟨u0, rfl, ow0, hb1⟩
  obtain ⟨A0, n0, c0, rfl, e0⟩ := ow0.formN
  have e0' : n0 = m := by rw [← HM.out]; exact e0.symm
  subst e0'
  have HTR := sTrivial_any A0 c0 O w1 ow0.reads (by have := HM.out; omega)
  rw [HM.out] at HTR
  have HT := Lib.hid HTR
  have L1 := bstep b0 b0.size hb1
  have z1 := hb1.size
  have HBR1 := Lib.hid (HBR.out.below hb1)
  have l6 : ¬ (6 < (n0 : Int)) := by omega
  clear HTR HF hb1 ow0 HBR
  go_wp2_with (fail)
  refine HT.out.mono ?_; rintro e w2 ⟨u, S, rfl, own, hS, hb2⟩
  have L2 := bstep L1 L1.size hb2
  have z2 := hb2.size
  obtain ⟨v0, v1, v2, S0, S1, S2, rfl, PB⟩ := PBox.of (B := w.heap.size + 1) own (fun k hk => by have := hS k hk; omega) (by omega)
  have BR2 := (HBR1.out.below hb2).alloc (.cells #[v0, v1, v2] 29)
  have L3 := L2.alloc L2.size (.cells #[v0, v1, v2] 29)
  obtain ⟨⟨A1, c1, e1⟩, ⟨A2, c2, e2⟩, A3, c3, e3⟩ := PB.forms
  have hT : trivP O = ⟨O, Num.cycS n0 0, Num.trivJ n0 n0⟩ := by unfold trivP; rw [HM.out]; rfl
  rw [show (trivP O).O.length = n0 from HM.out] at e1
  rw [show (trivP O).W.length = n0 by rw [hT]; exact Num.cycS_len _ _] at e2
  rw [show (trivP O).J.length = n0 by rw [hT]; exact Num.trivJ_len _ _] at e3
  subst e1 e2 e3
  have hPB0 : PBox (w.heap.size + 1) (w2.alloc (.cells #[.slice A1 n0 c1, .slice A2 n0 c2, .slice A3 n0 c3] 29)) w2.heap.size O (Num.cycS n0 0) (Num.trivJ n0 n0) (.slice A1 n0 c1) (.slice A2 n0 c2) (.slice A3 n0 c3) S0 S1 S2 := by rw [hT] at PB; exact PB
  have HPB0 := Lib.hid hPB0
  have HBR0 := Lib.hid BR2
  have HL3 := Lib.hid L3
  have hb6 : w.heap.size < w2.heap.size := by omega
  clear hPB0 PB BR2 L3 own hS hb2 HT hT
  go_wp2_with (fail)
  generalize hWA : w2.alloc (.cells #[.slice A1 n0 c1, .slice A2 n0 c2, .slice A3 n0 c3] 29) = wa at *
  generalize hb6' : w2.heap.size = b6 at *
  clear hWA hb6'
  have HSX := Lib.hid (⟨S1, rfl⟩ : ∃ S, S1 = S)
  go_loopw [7] (fun s7 wr => ∃ (i : Nat) (S1 : Nat → Prop), s7 = .int .i64 i ∧ i ≤ n0 - 1 ∧ Hid (PBox (w.heap.size + 1) wr b6 O (Num.cycS n0 i) (Num.trivJ n0 n0) (.slice A1 n0 c1) (.slice A2 n0 c2) (.slice A3 n0 c3) S0 S1 S2) ∧ Hid (Blk wr w.heap.size [.slice none 0 0, .slice none 0 0, .slice none 0 0] 29) ∧ Below w.heap.size w wr) (fun s7 _ => n0 - (intOf s7).toNat)
  case atStart => exact ⟨0, S1, rfl, by omega, HPB0, HBR0, HL3.out⟩
  case round =>
    clear HPB0 HBR0 HL3 HSX
    obtain ⟨i, S1, rfl, hi, PB, BR, bel⟩ := hrel
    have Z := bel.size
    have hw1 : IntKind.i64.wrap ((i : Int) + 1) = (i : Int) + 1 := IntWalk.i64_in _ (by omega)
    by_cases hlt : i + 1 < n0
    · have i0 : (0 : Int) ≤ (i : Int) := by omega
      have i1 : (i : Int) < (n0 : Int) := by omega
      have i2 : (i : Int) + 1 < (n0 : Int) := by omega
      have hji : i < (Num.cycS n0 i).length := by rw [Num.cycS_len]; omega
      obtain ⟨g2, cg, ug, Tg, eg, hSg, hgl, hgc, hgf, -, -, -⟩ := spL_own_at PB.out.o1 hji
      simp only [Value.slice.injEq] at eg
      obtain ⟨rfl, -, -⟩ := eg
      obtain ⟨bl, x0, x1, x2⟩ := PB.out.box.c3
      have HU0 := fun W => sUnit_any n0 (i + 1) W (by omega) hlt
      rw [show ((i + 1 : Nat) : Int) = (i : Int) + 1 by omega] at HU0
      have HU := Lib.hid HU0
      have HST : Hid (Num.cycS n0 (i + 1) = (Num.cycS n0 i).set i (Num.unit7 n0 (i + 1))) := Lib.hid rfl
      have HSB := PB.out.s1 g2 hSg
      generalize Num.cycS n0 i = ws at *
      generalize Num.unit7 n0 (i + 1) = un at *
      clear HU0
      go_wp2_with (fail)
      go_region_law (first
        | (go_simp; go_at_call 65; refine (HU.out _).mono ?_; rintro e w5 ⟨u5, rfl, ow5, hb5⟩; obtain ⟨A6, n6, c6, rfl, e6⟩ := ow5.formN; have B5 : Below wr.heap.size wr w5 := (Below.refl _ _).drew.trans hb5; have SM5 : w5.cell? ⟨b6, 1, none⟩ = some (.slice (some ⟨g2, 0, none⟩) n0 c2) := (by rw [B5.cell bl]; exact x1); have SC5 : w5.cell? ⟨g2, i, none⟩ = some ug := (by rw [B5.cell hgl]; exact hgc); have SF5 : w5.frozen? ⟨g2, i, none⟩ = false := (by rw [B5.frozen hgl]; exact hgf); have t5 : g2 < w5.heap.size := Nat.lt_of_lt_of_le hgl B5.size))
      all_goals
        have PB8 := PB.out.row hji B5 (spI_of ow5) (fun k hk => (World.ownsRow.lt ow5 k hk).1)
        have BR8 := (BR.out.below B5).other (p := ⟨g2, i, none⟩) (by show w.heap.size ≠ g2; omega) (.slice A6 n6 c6)
        have L8 := (bstep bel Z B5).setCell (p := ⟨g2, i, none⟩) (by show w.heap.size ≤ g2; omega) (.slice A6 n6 c6)
        rw [← HST.out] at PB8
        have HPB8 := Lib.hid PB8
        have HBR8 := Lib.hid BR8
        clear PB8 BR8
        go_wp2_with (fail)
        exact ⟨⟨i + 1, _, by go_num, by omega, HPB8, HBR8, L8⟩, by simp [intOf]; omega⟩
    · have hge : ¬ ((i : Int) + 1 < (n0 : Int)) := by omega
      obtain rfl : i = n0 - 1 := by omega
      obtain ⟨bl, x0, x1, x2⟩ := PB.out.box.c3
      obtain ⟨br, r0, r1, r2⟩ := BR.out.c3
      obtain ⟨f0, f1, f2⟩ := BR.out.f3
      have ne1 : ¬ (w.heap.size = b6) := by omega
      have ne2 : ¬ (b6 = w.heap.size) := by omega
      have HPB := Lib.hid PB.out
      clear PB BR
      go_wp2_with (fail)
      refine bodyPost_ret (v := .tuple #[.agg #[.slice A1 n0 c1, .slice A2 n0 c2, .slice A3 n0 c3], .int .i64 0]) (by simp [results, Try.results35, go_sem, br, r0, r1, r2]) rfl ?_
      have ow := HPB.out.own
      have bs := HPB.out.base
      have nb : ¬ ((fun k => S0 k ∨ S1 k ∨ S2 k) w.heap.size) := fun hh => by have := bs _ hh; omega
      refine ⟨_, _, rfl, ?_, fun k hk => by have := bs k hk; omega, HCNT.out, ?_⟩
      · have e : cycP O = ⟨O, Num.cycS n0 (n0 - 1), Num.trivJ n0 n0⟩ := by unfold cycP; rw [HM.out]
        rw [e]
        exact spPres.own_set (spPres.own_set (spPres.own_set ow (p := ⟨w.heap.size, 0, none⟩) nb _) (p := ⟨w.heap.size, 1, none⟩) nb _) (p := ⟨w.heap.size, 2, none⟩) nb _
      · exact ((bel.setCell (p := ⟨w.heap.size, 0, none⟩) (by simp) _).setCell (p := ⟨w.heap.size, 1, none⟩) (by simp) _).setCell (p := ⟨w.heap.size, 2, none⟩) (by simp) _
end Go.Proofs.Ytncpngmplddbkaa
