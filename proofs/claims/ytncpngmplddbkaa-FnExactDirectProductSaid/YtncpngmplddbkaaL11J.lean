/- Presentations: PresentationRelators. -/
import Derived.Test.YtncpngmplddbkaaL11I
import Derived.Test.YtncpngmplddbkaaPush
namespace Go.Proofs.Ytncpngmplddbkaa
open Go.RowKit
set_option linter.unusedVariables false
set_option linter.unusedSimpArgs false

/-- The relator of a relation. -/
def Num.relL (q : Num.Rel) : List Int := if q.g = q.b then List.replicate q.o.toNat (q.b + 1) else [-(q.b + 1), q.g + 1, q.b + 1]
def Num.relW (q : Num.Rel) : List Int := Num.relL q ++ Num.invW (Num.wrd q.x)
def rPresentationRelators (p : Pres) : List (List Int) := if p.ok = true then (Num.rels p.O p.W p.J).map Num.relW else []
def cPresentationRelators (p : Pres) : Int := if p.ok = true then 0 else 1
theorem Num.wrdTo_small {v : List Int} (h : v.length ≤ 6) : ∀ i, i ≤ v.length → Num.SmallW (Num.wrdTo v i)
  | 0, _ => Num.SmallW.nil
  | i + 1, hi => by
    rw [Num.wrdTo]
    refine Num.SmallW.app (Num.wrdTo_small h i (by omega)) fun z hz => ?_
    have := List.eq_of_mem_replicate hz
    omega
theorem Num.wrd_small {v : List Int} (h : v.length ≤ 6) : Num.SmallW (Num.wrd v) := Num.wrdTo_small h _ (Nat.le_refl _)
/-- What a relation of a valid presentation is like. -/
def Num.RelOk (n : Nat) (q : Num.Rel) : Prop := q.x.length ≤ 6 ∧ (∀ j, j < q.x.length → 0 ≤ q.x.getD j 0 ∧ q.x.getD j 0 ≤ 64) ∧ (∃ i j : Nat, q.b = i ∧ q.g = j ∧ i < n ∧ j < n) ∧ 2 ≤ q.o ∧ q.o ≤ 7
theorem Num.rels_ok {O : List Int} {W : List (List Int)} {J : List (List (List Int))} (h : Num.preB O W J = true) : ∀ q, q ∈ Num.rels O W J → Num.RelOk O.length q := by
  intro q hq
  obtain ⟨h1, h2, h3, h4, h5⟩ := Num.preB_out h
  obtain ⟨h6, hg, -⟩ := Num.ordC_zero h1
  have fit : ∀ x z, Num.fitB O x z = true → x.length ≤ 6 ∧ ∀ j, j < x.length → 0 ≤ x.getD j 0 ∧ x.getD j 0 ≤ 64 := fun x z hf => by
    obtain ⟨e1, e2⟩ := Num.fitB_out hf
    refine ⟨by omega, fun j hj => ?_⟩
    have a := e2 j hj
    unfold Num.Fit at a
    have b := Num.gpsB_at hg (j := j) (by omega)
    exact ⟨a.1, by omega⟩
  rcases Num.rels_mem.mp hq with ⟨j, hj, rfl⟩ | ⟨j, k, hj, hk, rfl⟩
  · obtain ⟨a, b⟩ := fit _ _ (h4 j hj)
    exact ⟨a, b, ⟨j, j, rfl, rfl, hj, hj⟩, Num.gpsB_at hg hj⟩
  · obtain ⟨c1, c2⟩ := Num.conB_out (h5 j hj)
    obtain ⟨a, b⟩ := fit _ _ (c2 k hk)
    exact ⟨a, b, ⟨j, j + 1 + k, rfl, by simp, hj, by omega⟩, Num.gpsB_at hg hj⟩
theorem Num.relW_len {n : Nat} {q : Num.Rel} (h : Num.RelOk n q) : (Num.relW q).length ≤ 1000 := by
  obtain ⟨h1, h2, -, h3, h4⟩ := h
  have := Num.wrd_len h2
  have e : (Num.relL q).length ≤ 7 := by
    unfold Num.relL
    split
    · rw [List.length_replicate]; omega
    · simp
  rw [Num.relW, List.length_append, Num.invW_len]
  omega
theorem isPower_any (v : Value) (i j : Nat) (o : Int) (w : World) :
    Calls Try.prog 74 #[.agg #[v, .int .i64 (j : Int), .int .i64 (i : Int), .int .i64 o]] w fun e w' => e = .returned (.bool (decide (j = i))) ∧ Below w.heap.size w w' := by
  have b0 : Below w.heap.size w (w.alloc (.cells #[v, .int .i64 (j : Int), .int .i64 (i : Int), .int .i64 o] 63)) := by go_grown
  by_cases h : j = i
  · have T : ((j : Int) == (i : Int)) = true := by simp [h]
    have E := Lib.hid (decide_eq_true h)
    clear h
    go_enter Try.func74, Try.ntmps74
    go_wp2_with (fail)
    go_ret
    exact ⟨by rw [E.out]; rfl, b0⟩
  · have T : ((j : Int) == (i : Int)) = false := beq_eq_false_iff_ne.mpr (by omega)
    have E := Lib.hid (decide_eq_false h)
    clear h
    go_enter Try.func74, Try.ntmps74
    go_wp2_with (fail)
    go_ret
    exact ⟨by rw [E.out]; rfl, b0⟩
set_option maxRecDepth 100000 in
set_option maxHeartbeats 2000000 in
theorem relator_any (A : Option Addr) (c n : Nat) (q : Num.Rel) (w : World) (hx : RdI w A q.x) (hq : Num.RelOk n q) (hn : n ≤ 6) :
    Calls Try.prog 58 #[.agg #[.slice A q.x.length c, .int .i64 q.g, .int .i64 q.b, .int .i64 q.o]] w fun e w' => ∃ u, e = .returned u ∧ OwnI w' w.heap.size u (Num.relW q) ∧ Below w.heap.size w w' := by
  obtain ⟨x, qg, qb, qo⟩ := q
  obtain ⟨hl, hbd, ⟨i, j, e1, e2, hi, hj⟩, ho1, ho2⟩ := hq
  simp only at hl hbd e1 e2 ho1 ho2 hx ⊢
  subst e1 e2
  obtain ⟨m, rfl⟩ := Int.eq_ofNat_of_zero_le (show 0 ≤ qo by omega)
  have hsm := Num.wrd_small hl
  have hwl := Num.wrd_len hbd
  have b0 : Below w.heap.size w (w.alloc (.cells #[.slice A x.length c, .int .i64 (j : Int), .int .i64 (i : Int), .int .i64 (m : Int)] 63)) := by go_grown
  have HX := Lib.hid (hx.below' b0)
  have BX := (Blk.new w [.slice A x.length c, .int .i64 (j : Int), .int .i64 (i : Int), .int .i64 (m : Int)] 63)
  have HWD : Hid (∀ W, Below w.heap.size w W → Calls Try.prog 55 #[.slice A x.length c] W fun e' w' => ∃ u, e' = .returned u ∧ OwnI w' W.heap.size u (Num.wrd x) ∧ Below W.heap.size W w') := Lib.hid fun W hb => iWord_any A c x W (hx.below' hb) (by omega) hbd
  have HSM := Lib.hid hsm
  have HGL : Hid (∀ (t : Nat) (W : World), t ≤ 1000 → Calls Try.prog 72 #[.int .i64 (t : Int)] W fun e w' => e = .returned (.int .i64 ((t : Int) + 1)) ∧ W = w') := Lib.hid fun t W h => genLetter_any t W h
  clear hx hbd hsm
  generalize hW0 : (w.alloc (.cells #[.slice A x.length c, .int .i64 (j : Int), .int .i64 (i : Int), .int .i64 (m : Int)] 63)) = W0 at *
  obtain ⟨bl, bx0, bx1, bx2, bx3⟩ := BX.c4
  have hw1 : IntKind.i64.wrap (-((i : Int) + 1)) = -((i : Int) + 1) := IntWalk.i64_in _ (by omega)
  have hw2 : IntKind.i64.wrap (m : Int) = (m : Int) := IntWalk.i64_in _ (by omega)
  -- what follows once the left side stands
  go_enter Try.func58, Try.ntmps58
  go_wp2_with (fail)
  clear hW0
  refine (HGL.out i W0 (by omega)).mono ?_; rintro e w' ⟨rfl, rfl⟩
  go_wp2_with (fail)
  refine (HGL.out j W0 (by omega)).mono ?_; rintro e w' ⟨rfl, rfl⟩
  have LL : Below W0.heap.size W0 (W0.alloc (.cells #[.int .i64 (-((i : Int) + 1)), .int .i64 ((j : Int) + 1), .int .i64 ((i : Int) + 1)] 2)) := by go_grown
  have HP := Lib.hid (isPower_any (.slice A x.length c) i j (m : Int) (W0.alloc (.cells #[.int .i64 (-((i : Int) + 1)), .int .i64 ((j : Int) + 1), .int .i64 ((i : Int) + 1)] 2)))
  by_cases hji : j = i
  · subst hji
    have HR : Hid (Num.relW ⟨x, (j : Int), (j : Int), (m : Int)⟩ = List.replicate m ((j : Int) + 1) ++ Num.invW (Num.wrd x)) := Lib.hid (by unfold Num.relW Num.relL; rw [if_pos rfl]; rfl)
    have HLL : Hid ((List.replicate m ((j : Int) + 1)).length ≤ 7) := Lib.hid (by rw [List.length_replicate]; omega)
    rw [decide_eq_true rfl] at HP
    go_wp2_with (fail)
    refine HP.out.mono ?_; rintro e w2 ⟨rfl, hb2⟩
    have L := bstep LL LL.size hb2
    have z3 : w2.cell? ⟨w.heap.size, 3, none⟩ = some (.int .i64 (m : Int)) := by rw [L.cell bl]; exact bx3
    have tz : w.heap.size < w2.heap.size := Nat.lt_of_lt_of_le bl L.size
    have BW : Below w2.heap.size w2 (w2.alloc (.cells #[.int .i64 ((j : Int) + 1)] 2)) := by go_grown
    have HRP := Lib.hid (repeatI_any w2.heap.size m ((j : Int) + 1) (w2.alloc (.cells #[.int .i64 ((j : Int) + 1)] 2)) (by omega) ((Blk.new w2 [.int .i64 ((j : Int) + 1)] 2).cell 0 (by simp)))
    clear HP hb2
    go_wp2_with (fail)
    refine HRP.out.mono ?_; rintro e w3 ⟨AR, cR, rfl, -, hOR, hb3⟩
    have B3 := bstep BW BW.size hb3
    have OL := (hOR (by omega)).base_ (b' := w.heap.size) (by have := (bstep b0 b0.size L).size; have := BW.size; omega)
    replace L := bstep L L.size B3
    clear HRP hb3 B3 BW hOR z3 tz
    have HN := Lib.hid (HWD.out w3 (bstep b0 b0.size L))
    have y0 : w3.cell? ⟨w.heap.size, 0, none⟩ = some (.slice A x.length c) := by rw [L.cell bl]; exact bx0
    have ty : w.heap.size < w3.heap.size := Nat.lt_of_lt_of_le bl L.size
    go_wp2_with (fail)
    refine HN.out.mono ?_; rintro e w4 ⟨u4, rfl, ow4, hb4⟩
    obtain ⟨A4, n4, c4, rfl, e4⟩ := ow4.formN
    have HIV := Lib.hid (inverseWord_any A4 n4 c4 (Num.wrd x) w4 ow4.reads e4 (by omega) HSM.out)
    have OL4 := OL.below hb4
    have L4 := bstep L L.size hb4
    clear ow4 hb4 HN y0
    go_wp2_with (fail)
    refine HIV.out.mono ?_; rintro e w5 ⟨u5, rfl, ow5, hb5⟩
    obtain ⟨A5, n5, c5, rfl, e5⟩ := ow5.formN
    have OL5 := OL4.below hb5
    have L5 := bstep L4 L4.size hb5
    have HR5 := ow5.reads
    have HBl := Lib.hid OL5.base_le
    clear HIV ow5 hb5 OL OL4 L L4
    go_wp2_with (first | (at_builtin; refine wpList_app_ints _ rfl _ _ rfl w.heap.size _ (List.replicate m ((j : Int) + 1)) (Num.invW (Num.wrd x)) rfl OL5 A5 n5 c5 e5 rfl HR5 (by rw [Num.invW_len]; have := HLL.out; omega) (bstep b0 b0.size L5).size ?_; intro v6 w6 own6 gr6 at6))
    have L6 := (bstep b0 b0.size L5).grown gr6 (bstep b0 b0.size L5).size HBl.out
    have O6 := Lib.hid own6
    clear own6 gr6 at6
    go_wp2_with (fail)
    go_ret
    exact ⟨_, rfl, by rw [HR.out]; exact O6.out, L6⟩
  · have HR : Hid (Num.relW ⟨x, (j : Int), (i : Int), (m : Int)⟩ = [-((i : Int) + 1), (j : Int) + 1, (i : Int) + 1] ++ Num.invW (Num.wrd x)) := Lib.hid (by unfold Num.relW Num.relL; rw [if_neg (by show ¬ (j : Int) = (i : Int); omega)])
    have HLL : Hid (([-((i : Int) + 1), (j : Int) + 1, (i : Int) + 1] : List Int).length ≤ 7) := Lib.hid (by simp)
    rw [decide_eq_false hji] at HP
    have OL0 := (OwnI.lit W0 [-((i : Int) + 1), (j : Int) + 1, (i : Int) + 1] (Nat.le_refl _) (by simp)).base_ (b' := w.heap.size) b0.size
    have HOL0 := Lib.hid OL0
    clear OL0
    go_wp2_with (fail)
    refine HP.out.mono ?_; rintro e w3 ⟨rfl, hb2⟩
    have OL := HOL0.out.below hb2
    have L := bstep LL LL.size hb2
    clear HP hb2 HOL0
    have HN := Lib.hid (HWD.out w3 (bstep b0 b0.size L))
    have y0 : w3.cell? ⟨w.heap.size, 0, none⟩ = some (.slice A x.length c) := by rw [L.cell bl]; exact bx0
    have ty : w.heap.size < w3.heap.size := Nat.lt_of_lt_of_le bl L.size
    go_wp2_with (fail)
    refine HN.out.mono ?_; rintro e w4 ⟨u4, rfl, ow4, hb4⟩
    obtain ⟨A4, n4, c4, rfl, e4⟩ := ow4.formN
    have HIV := Lib.hid (inverseWord_any A4 n4 c4 (Num.wrd x) w4 ow4.reads e4 (by omega) HSM.out)
    have OL4 := OL.below hb4
    have L4 := bstep L L.size hb4
    clear ow4 hb4 HN y0
    go_wp2_with (fail)
    refine HIV.out.mono ?_; rintro e w5 ⟨u5, rfl, ow5, hb5⟩
    obtain ⟨A5, n5, c5, rfl, e5⟩ := ow5.formN
    have OL5 := OL4.below hb5
    have L5 := bstep L4 L4.size hb5
    have HR5 := ow5.reads
    have HBl := Lib.hid OL5.base_le
    clear HIV ow5 hb5 OL OL4 L L4
    go_wp2_with (first | (at_builtin; refine wpList_app_ints _ rfl _ _ rfl w.heap.size _ [-((i : Int) + 1), (j : Int) + 1, (i : Int) + 1] (Num.invW (Num.wrd x)) rfl OL5 A5 n5 c5 e5 rfl HR5 (by rw [Num.invW_len]; have := HLL.out; omega) (bstep b0 b0.size L5).size ?_; intro v6 w6 own6 gr6 at6))
    have L6 := (bstep b0 b0.size L5).grown gr6 (bstep b0 b0.size L5).size HBl.out
    have O6 := Lib.hid own6
    clear own6 gr6 at6
    go_wp2_with (fail)
    go_ret
    exact ⟨_, rfl, by rw [HR.out]; exact O6.out, L6⟩
end Go.Proofs.Ytncpngmplddbkaa
