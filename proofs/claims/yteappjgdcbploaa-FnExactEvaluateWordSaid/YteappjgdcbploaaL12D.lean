/- Consistency: the model's l08Fault, l08Consistent, l08Group; IsConsistent, ConsistentFrom, ConsistencyFault of the model. -/
import Derived.Test.YteappjgdcbploaaL12C
import Derived.Test.YteappjgdcbploaaL11B
import Derived.Test.YteappjgdcbploaaL11G
namespace Go.Proofs.Yteappjgdcbploaa
open Go.RowKit
set_option linter.unusedVariables false
set_option linter.unusedSimpArgs false

theorem field_flt (x y z u : Int) (w : World) : (Instr.field 132 (.agg #[.int .i64 x, .int .i64 y, .int .i64 z, .int .i64 u]) 0).run Try.prog w = .ok (.int .i64 x) w := by kernel_rfl
set_option maxRecDepth 100000 in
set_option maxHeartbeats 4000000 in
theorem sFault_any {A0 A1 A2 : Option Addr} {c0 c1 c2 : Nat} {O : List Int} {W : List (List Int)} {J : List (List (List Int))} (V : Num.Val O W J) (w : World) (hP : RdP A0 A1 A2 O W J w) :
    Calls Try.prog 137 #[prV A0 A1 A2 c0 c1 c2 O] w fun e w' => e = .returned (fltV (Num.fltP O W J)) ∧ Below w.heap.size w w' := by
  have n6 := V.n6
  have HV := Lib.hid V
  obtain ⟨W0, hW0⟩ : ∃ X, (w.alloc (.cells #[.slice A0 O.length c0, .slice A1 O.length c1, .slice A2 O.length c2] 29)).alloc (.cells #[.int .i64 0, .int .i64 0, .int .i64 0, .int .i64 0] 132) = X := ⟨_, rfl⟩
  have hz0 : W0.heap.size = w.heap.size + 2 := by rw [← hW0]; simp
  have b0 : Below w.heap.size w W0 := by rw [← hW0]; go_grown
  have BP : Blk W0 w.heap.size [.slice A0 O.length c0, .slice A1 O.length c1, .slice A2 O.length c2] 29 := by rw [← hW0]; exact (Blk.new w [.slice A0 O.length c0, .slice A1 O.length c1, .slice A2 O.length c2] 29).alloc _
  have BF : Blk W0 (w.heap.size + 1) [.int .i64 0, .int .i64 0, .int .i64 0, .int .i64 0] 132 := by
    rw [← hW0]
    have := Blk.new (w.alloc (.cells #[.slice A0 O.length c0, .slice A1 O.length c1, .slice A2 O.length c2] 29)) [.int .i64 0, .int .i64 0, .int .i64 0, .int .i64 0] 132
    simpa using this
  have HPW : Hid (∀ w', Below W0.heap.size W0 w' → Below w.heap.size w w' ∧ RdP A0 A1 A2 O W J w' ∧ w'.cell? ⟨w.heap.size, 0, none⟩ = some (.slice A0 O.length c0) ∧ w'.cell? ⟨w.heap.size, 1, none⟩ = some (.slice A1 O.length c1) ∧ w'.cell? ⟨w.heap.size, 2, none⟩ = some (.slice A2 O.length c2) ∧ Blk w' (w.heap.size + 1) [.int .i64 0, .int .i64 0, .int .i64 0, .int .i64 0] 132) := Lib.hid fun w' hb => by
    have b1 : Below w.heap.size w w' := bstep b0 b0.size hb
    obtain ⟨_, p0, p1, p2⟩ := (BP.below hb).c3
    exact ⟨b1, ⟨hP.1.below' b1, hP.2.1.below' b1, hP.2.2.below' b1⟩, p0, p1, p2, BF.below hb⟩
  obtain ⟨bl, x0, x1, x2⟩ := BP.c3
  obtain ⟨bl', f0, f1, f2, f3⟩ := BF.c4
  have hiw : IntKind.i64.wrap ((O.length : Int) - 1) = (O.length : Int) - 1 := IntWalk.i64_in _ (by omega)
  clear BP BF hP V
  go_enter Try.func137, Try.ntmps137
  go_wp2_with (fail)
  clear hW0 x0 x1 x2 f0 f1 f2 f3
  go_loopw [3, 4] (fun s3 _ wr => ∃ m : Nat, s3 = .int .i64 ((m : Int) - 1) ∧ m ≤ O.length ∧ Hid (Num.Con (Num.tlL O W J m)) ∧ Hid (Num.fltF O W J m = Num.fltP O W J) ∧ Below W0.heap.size W0 wr) (fun s3 _ _ => (intOf s3 + 1).toNat)
  case atStart => exact ⟨O.length, rfl, by omega, Lib.hid Num.Con.end_, Lib.hid rfl, Below.refl _ _⟩
  case round =>
    obtain ⟨m, rfl, hm, hC, hF, bel⟩ := hrel
    obtain ⟨L, hPr, y0, y1, y2, BFr⟩ := HPW.out _ bel
    by_cases hlt : 0 < m
    · obtain ⟨i, rfl⟩ : ∃ i, m = i + 1 := ⟨m - 1, by omega⟩
      have e1 : (((i + 1 : Nat) : Int) - 1) = (i : Int) := by omega
      rw [e1]
      have HL : Hid (Calls Try.prog 154 #[prV A0 A1 A2 c0 c1 c2 O, .int .i64 (i : Int)] wr fun e w' => e = .returned (fltV (Num.fltA O W J i)) ∧ Below wr.heap.size wr w') := Lib.hid (sLevel_any HV.out i (by omega) hC.out wr hPr)
      have hst := Num.fltF_step (O := O) (W := W) (J := J) (i := i)
      rw [hF.out] at hst
      have HCS : Hid ((Num.fltA O W J i).k = 0 → Num.Con (Num.tlL O W J i)) := Lib.hid fun h => Num.Con.step HV.out (by omega) h hC.out
      have HST := Lib.hid hst
      clear hst hC hF hPr
      unfold fltV at HL
      generalize Num.fltA O W J i = f at *
      obtain ⟨fk, fl, ff, fs⟩ := f
      have i0 : (0 : Int) ≤ (i : Int) := by omega
      have hwi : IntKind.i64.wrap ((i : Int) - 1) = (i : Int) - 1 := IntWalk.i64_in _ (by omega)
      go_wp2_with (fail)
      refine HL.out.mono ?_; rintro e w2 ⟨rfl, hb2⟩
      have B2 := bstep bel bel.size hb2
      have BN := (Blk.new w2 [.int .i64 fk, .int .i64 fl, .int .i64 ff, .int .i64 fs] 132)
      have B3 : Below W0.heap.size W0 (w2.alloc (.cells #[.int .i64 fk, .int .i64 fl, .int .i64 ff, .int .i64 fs] 132)) := B2.alloc B2.size _
      obtain ⟨nl, n0, n1, n2, n3⟩ := BN.c4
      clear HL bel y0 y1 y2 BFr L hb2
      by_cases hk : fk = 0
      · have HF2 : Hid (Num.fltF O W J i = Num.fltP O W J) := Lib.hid (by rw [HST.out, if_pos (show (⟨fk, fl, ff, fs⟩ : Num.Flt).k = 0 from hk)])
        have HC2 := Lib.hid (HCS.out hk)
        clear HST HCS
        subst hk
        have hkn : ((0 : Int) != 0) = false := by simp
        go_wp2_with (fail)
        exact ⟨⟨i, by go_num, by omega, HC2, HF2, B3⟩, by simp [intOf]⟩
      · have HF2 : Hid (Num.fltP O W J = ⟨fk, fl, ff, fs⟩) := Lib.hid (by rw [HST.out, if_neg (show ¬ (⟨fk, fl, ff, fs⟩ : Num.Flt).k = 0 from hk)])
        have hkn : (fk != 0) = true := by simp [hk]
        clear HST HCS hk
        obtain ⟨L, hPr, y0, y1, y2, BFr⟩ := HPW.out _ B3
        obtain ⟨w9, e9, B9, L9⟩ := flt_store BFr (.int .i64 fk) (.int .i64 fl) (.int .i64 ff) (.int .i64 fs) (by omega : w.heap.size ≤ w.heap.size + 1) L
        obtain ⟨bl9, f0, f1, f2, f3⟩ := BFr.c4
        obtain ⟨bl9', r0, r1, r2, r3⟩ := B9.c4
        have g0 := BFr.free 0
        have g1 := BFr.free 1
        have g2 := BFr.free 2
        have g3 := BFr.free 3
        clear hPr B9
        go_wp2_with (fail)
        refine bodyPost_ret (v := .agg #[.int .i64 fk, .int .i64 fl, .int .i64 ff, .int .i64 fs]) (by simp [results, Try.results137, go_sem, bl9', r0, r1, r2, r3]) rfl ?_
        exact ⟨by rw [HF2.out]; rfl, L9⟩
    · obtain rfl : m = 0 := by omega
      have HF2 : Hid (Num.fltP O W J = ⟨0, 0, 0, 0⟩) := Lib.hid (by rw [← hF.out]; rfl)
      obtain ⟨w9, e9, B9, L9⟩ := flt_store BFr (.int .i64 0) (.int .i64 0) (.int .i64 0) (.int .i64 0) (by omega : w.heap.size ≤ w.heap.size + 1) L
      obtain ⟨bl9, f0, f1, f2, f3⟩ := BFr.c4
      obtain ⟨bl9', r0, r1, r2, r3⟩ := B9.c4
      have g0 := BFr.free 0
      have g1 := BFr.free 1
      have g2 := BFr.free 2
      have g3 := BFr.free 3
      clear hPr B9 hF hC
      go_wp2_with (fail)
      refine bodyPost_ret (v := .agg #[.int .i64 0, .int .i64 0, .int .i64 0, .int .i64 0]) (by simp [results, Try.results137, go_sem, bl9', r0, r1, r2, r3]) rfl ?_
      exact ⟨by rw [HF2.out]; rfl, L9⟩
/-- Whether a presentation is consistent. -/
def Pres.con (p : Pres) : Bool := p.ok && decide ((Num.fltP p.O p.W p.J).k = 0)
/-- A valid presentation, opened. -/
theorem pres_val {w : World} {v : Value} {p : Pres} (h : spPres.rd w v p) (hk : p.ok = true) : ∃ A0 c0 A1 c1 A2 c2, v = prV A0 A1 A2 c0 c1 c2 p.O ∧ RdP A0 A1 A2 p.O p.W p.J w ∧ Num.Val p.O p.W p.J := by
  obtain ⟨A0, c0, A1, c1, A2, c2, rfl, hr, -, -, -⟩ := pres_open h
  have V := Num.Val.of hk
  refine ⟨A0, c0, A1, c1, A2, c2, ?_, hr, V⟩
  rw [V.lw, V.lj]
set_option maxHeartbeats 2000000 in
theorem sConsist_any (v : Value) (p : Pres) (w : World) (h : spPres.rd w v p) (hk : p.ok = true) : Calls Try.prog 103 #[v] w (RetB (decide ((Num.fltP p.O p.W p.J).k = 0)) w) := by
  obtain ⟨A0, c0, A1, c1, A2, c2, rfl, hr, V⟩ := pres_val h hk
  have b0 : Below w.heap.size w (w.alloc (.cells #[.slice A0 p.O.length c0, .slice A1 p.O.length c1, .slice A2 p.O.length c2] 29)) := by go_grown
  have HF := Lib.hid (sFault_any (c0 := c0) (c1 := c1) (c2 := c2) V _ ⟨hr.1.below' b0, hr.2.1.below' b0, hr.2.2.below' b0⟩)
  unfold fltV at HF
  generalize Num.fltP p.O p.W p.J = f at *
  obtain ⟨fk, fl, ff, fs⟩ := f
  have hfd := field_flt fk fl ff fs
  clear h hr V hk
  go_enter Try.func103, Try.ntmps103
  go_wp2_with (fail)
  refine HF.out.mono ?_; rintro e w2 ⟨rfl, hb2⟩
  go_wp2_with (fail)
  go_ret
  exact ⟨ret_b rfl, bstep b0 b0.size hb2⟩
set_option maxHeartbeats 2000000 in
theorem sGroup_any (v : Value) (p : Pres) (w : World) (h : spPres.rd w v p) : Calls Try.prog 59 #[v] w (RetB p.con w) := by
  have h0 := h
  obtain ⟨A0, c0, A1, c1, A2, c2, rfl, hr, -, -, -⟩ := pres_open h
  have b0 : Below w.heap.size w (w.alloc (.cells #[.slice A0 p.O.length c0, .slice A1 p.W.length c1, .slice A2 p.J.length c2] 29)) := by go_grown
  have BX := (Blk.new w [.slice A0 p.O.length c0, .slice A1 p.W.length c1, .slice A2 p.J.length c2] 29)
  have HI := Lib.hid (sIsPres_any _ p _ (spPres.rd_below h0 b0))
  cases hk : p.ok with
  | true =>
    rw [hk] at HI
    have HR : Hid (p.con = decide ((Num.fltP p.O p.W p.J).k = 0)) := Lib.hid (by unfold Pres.con; rw [hk]; rfl)
    have HC : Hid (∀ W', Below w.heap.size w W' → Calls Try.prog 103 #[.agg #[.slice A0 p.O.length c0, .slice A1 p.W.length c1, .slice A2 p.J.length c2]] W' (RetB (decide ((Num.fltP p.O p.W p.J).k = 0)) W')) := Lib.hid fun W' hb => sConsist_any _ p W' (spPres.rd_below h0 hb) hk
    generalize hq : decide ((Num.fltP p.O p.W p.J).k = 0) = q at *
    clear h0 hr hk hq
    go_enter Try.func59, Try.ntmps59
    go_wp2_with (fail)
    refine HI.out.mono ?_; rintro e w2 ⟨rfl, hb2⟩
    have L2 := bstep b0 b0.size hb2
    obtain ⟨bl, x0, x1, x2⟩ := (BX.below hb2).c3
    have HC2 := Lib.hid (HC.out _ L2)
    clear HC HI hb2 BX
    go_wp2_with (fail)
    refine HC2.out.mono ?_; rintro e w3 ⟨rfl, hb3⟩
    have L3 := bstep L2 L2.size hb3
    clear HC2 hb3
    go_wp2_with (fail)
    go_ret
    exact ⟨ret_b HR.out.symm, L3⟩
  | false =>
    rw [hk] at HI
    have HR : Hid (p.con = false) := Lib.hid (by unfold Pres.con; rw [hk]; rfl)
    clear h0 hr hk
    go_enter Try.func59, Try.ntmps59
    go_wp2_with (fail)
    refine HI.out.mono ?_; rintro e w2 ⟨rfl, hb2⟩
    have L2 := bstep b0 b0.size hb2
    go_wp2_with (fail)
    go_ret
    exact ⟨ret_b HR.out.symm, L2⟩
/-- The results of chapter 8's first three functions. -/
def rIsConsistent (x : Pres) : Bool := x.con
def rConsistentFrom (x : Pres) : Int := if x.ok = true then (if (Num.fltP x.O x.W x.J).k = 0 then 0 else (Num.fltP x.O x.W x.J).l + 1) else 0
def cConsistentFrom (x : Pres) : Int := if x.ok = true then 0 else 1
def rConsistencyFault (x : Pres) : Num.Flt := if x.ok = true then Num.fltP x.O x.W x.J else ⟨0, 0, 0, 0⟩
def cConsistencyFault (x : Pres) : Int := if x.ok = true then 0 else 1
theorem fltF_lev (O : List Int) (W : List (List Int)) (J : List (List (List Int))) : ∀ m, 0 ≤ (Num.fltF O W J m).l ∧ ((Num.fltF O W J m).l < m ∨ (Num.fltF O W J m).l = 0)
  | 0 => ⟨by show (0 : Int) ≤ 0; decide, .inr rfl⟩
  | m + 1 => by
    rw [Num.fltF_step]
    split
    · obtain ⟨h1, h2⟩ := fltF_lev O W J m
      exact ⟨h1, h2.imp (fun h => by omega) id⟩
    · unfold Num.fltA Num.fltL
      repeat' split
      all_goals (dsimp only; omega)
/-- A fault and a code. -/
def RetF (f : Num.Flt) (c : Int) (w : World) (e : Ending) (w' : World) : Prop := e = .returned (.tuple #[fltV f, .int .i64 c]) ∧ Below w.heap.size w w'
end Go.Proofs.Yteappjgdcbploaa
