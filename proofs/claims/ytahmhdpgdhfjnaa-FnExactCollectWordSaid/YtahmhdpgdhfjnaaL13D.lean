/- Collection of the program: rules of relations. -/
import Derived.Test.YtahmhdpgdhfjnaaL13B
import Derived.Test.YtahmhdpgdhfjnaaL11J
import Derived.Test.YtahmhdpgdhfjnaaMc
import Derived.Deep.DeepCutAuto
import Derived.Handy
namespace Go.Proofs.Ytahmhdpgdhfjnaa
open Go.RowKit
set_option linter.unusedVariables false
set_option linter.unusedSimpArgs false

/-- What is known of a relation. -/
structure Num.R9 (q : Num.Rel) : Prop where
  xl : q.x.length ≤ 6
  xb : ∀ j, j < q.x.length → 0 ≤ q.x.getD j 0 ∧ q.x.getD j 0 ≤ 64
  ix : ∃ i j : Nat, q.b = i ∧ q.g = j ∧ i < 6 ∧ j < 6
  o2 : 2 ≤ q.o
  o7 : q.o ≤ 7
abbrev relVal (v : Value) (q : Num.Rel) : Value := .agg #[v, .int .i64 q.g, .int .i64 q.b, .int .i64 q.o]
theorem infoRule : (Try.prog.info? 91).map (fun i => (i.zero, i.size, i.bytes)) = some (some (.agg #[.slice none 0 0, .int .i64 0, .int .i64 0, .int .i64 0, .slice none 0 0, .slice none 0 0]), 6, 96) := by kernel_rfl
theorem OwnI.set9 {w : World} {base : Nat} {v : Value} {xs : List Int} (h : OwnI w base v xs) (p : Addr) (u : Value) (hp : p.block < base) : OwnI (w.setCell p u) base v xs :=
  ownsRow_keep h fun k e => Below.heap_setCell _ _ _ _ (fun e' => by have := (World.ownsRow.lt h k e).1; omega)
theorem Blk.c6 {w : World} {b : Nat} {v0 v1 v2 v3 v4 v5 : Value} {t : TypeId} (h : Blk w b [v0, v1, v2, v3, v4, v5] t) : b < w.heap.size ∧ w.cell? ⟨b, 0, none⟩ = some v0 ∧ w.cell? ⟨b, 1, none⟩ = some v1 ∧ w.cell? ⟨b, 2, none⟩ = some v2 ∧ w.cell? ⟨b, 3, none⟩ = some v3 ∧
    w.cell? ⟨b, 4, none⟩ = some v4 ∧ w.cell? ⟨b, 5, none⟩ = some v5 :=
  ⟨h.lt, h.cell 0 (by simp), h.cell 1 (by simp), h.cell 2 (by simp), h.cell 3 (by simp), h.cell 4 (by simp), h.cell 5 (by simp)⟩
theorem Blk.f6 {w : World} {b : Nat} {vs : List Value} {t : TypeId} (h : Blk w b vs t) : w.frozen? ⟨b, 0, none⟩ = false ∧ w.frozen? ⟨b, 1, none⟩ = false ∧ w.frozen? ⟨b, 2, none⟩ = false ∧ w.frozen? ⟨b, 3, none⟩ = false ∧ w.frozen? ⟨b, 4, none⟩ = false ∧ w.frozen? ⟨b, 5, none⟩ = false :=
  ⟨h.free 0, h.free 1, h.free 2, h.free 3, h.free 4, h.free 5⟩
theorem rule_store {w0 w : World} {b base : Nat} {t : TypeId} {p0 p1 p2 p3 p4 p5 : Value} (B : Blk w b [p0, p1, p2, p3, p4, p5] t) (x0 x1 x2 x3 x4 x5 : Value) (hb : base ≤ b) (L : Below base w0 w) :
    ∃ w9, (((((w.setCell ⟨b, 0, none⟩ x0).setCell ⟨b, 1, none⟩ x1).setCell ⟨b, 2, none⟩ x2).setCell ⟨b, 3, none⟩ x3).setCell ⟨b, 4, none⟩ x4).setCell ⟨b, 5, none⟩ x5 = w9 ∧ Blk w9 b [x0, x1, x2, x3, x4, x5] t ∧ Below base w0 w9 ∧ (∀ {B' : Nat} {v : Value} {xs : List Int}, b < B' → OwnI w B' v xs → OwnI w9 B' v xs) ∧ ∀ {b' : Nat} {vs : List Value} {t' : TypeId}, b' ≠ b → Blk w b' vs t' → Blk w9 b' vs t' :=
  ⟨_, rfl, (((((B.set 0 x0).set 1 x1).set 2 x2).set 3 x3).set 4 x4).set 5 x5, (((((L.setCell (p := ⟨b, 0, none⟩) hb x0).setCell (p := ⟨b, 1, none⟩) hb x1).setCell (p := ⟨b, 2, none⟩) hb x2).setCell (p := ⟨b, 3, none⟩) hb x3).setCell (p := ⟨b, 4, none⟩) hb x4).setCell (p := ⟨b, 5, none⟩) hb x5,
    fun hlt h => (((((h.set9 ⟨b, 0, none⟩ x0 hlt).set9 ⟨b, 1, none⟩ x1 hlt).set9 ⟨b, 2, none⟩ x2 hlt).set9 ⟨b, 3, none⟩ x3 hlt).set9 ⟨b, 4, none⟩ x4 hlt).set9 ⟨b, 5, none⟩ x5 hlt, fun hne h => (((((h.other (p := ⟨b, 0, none⟩) hne x0).other (p := ⟨b, 1, none⟩) hne x1).other (p := ⟨b, 2, none⟩) hne x2).other (p := ⟨b, 3, none⟩) hne x3).other (p := ⟨b, 4, none⟩) hne x4).other (p := ⟨b, 5, none⟩) hne x5⟩
set_option maxRecDepth 100000 in
set_option maxHeartbeats 2000000 in
theorem rule_pow (A : Option Addr) (c : Nat) (x : List Int) (i m : Nat) (w : World) (hx : RdI w A x) (hl : x.length ≤ 6) (hb' : ∀ j, j < x.length → 0 ≤ x.getD j 0 ∧ x.getD j 0 ≤ 64) (hi : i < 6) (hm : m ≤ 7) (hm1 : 1 ≤ m) :
    Calls Try.prog 115 #[.agg #[.slice A x.length c, .int .i64 (i : Int), .int .i64 (i : Int), .int .i64 (m : Int)]] w fun e w' => ∃ vl vr, e = .returned (.agg #[.slice A x.length c, .int .i64 (i : Int), .int .i64 (i : Int), .int .i64 (m : Int), vl, vr]) ∧ OwnI w' w.heap.size vl (List.replicate m ((i : Int) + 1)) ∧ OwnI w' w.heap.size vr (Num.wrd x) ∧ Below w.heap.size w w' := by
  have b0 : Below w.heap.size w ((w.alloc (.cells #[.slice A x.length c, .int .i64 (i : Int), .int .i64 (i : Int), .int .i64 (m : Int)] 85)).alloc (.cells #[.slice none 0 0, .int .i64 0, .int .i64 0, .int .i64 0, .slice none 0 0, .slice none 0 0] 91)) := by go_grown
  have BX := (Blk.new w [.slice A x.length c, .int .i64 (i : Int), .int .i64 (i : Int), .int .i64 (m : Int)] 85).alloc (.cells #[.slice none 0 0, .int .i64 0, .int .i64 0, .int .i64 0, .slice none 0 0, .slice none 0 0] 91)
  have BY : Blk ((w.alloc (.cells #[.slice A x.length c, .int .i64 (i : Int), .int .i64 (i : Int), .int .i64 (m : Int)] 85)).alloc (.cells #[.slice none 0 0, .int .i64 0, .int .i64 0, .int .i64 0, .slice none 0 0, .slice none 0 0] 91)) (w.heap.size + 1) [.slice none 0 0, .int .i64 0, .int .i64 0, .int .i64 0, .slice none 0 0, .slice none 0 0] 91 := by
    have := Blk.new (w.alloc (.cells #[.slice A x.length c, .int .i64 (i : Int), .int .i64 (i : Int), .int .i64 (m : Int)] 85)) [.slice none 0 0, .int .i64 0, .int .i64 0, .int .i64 0, .slice none 0 0, .slice none 0 0] 91
    simpa using this
  have hx0 := hx.below' b0
  generalize hW0 : (w.alloc (.cells #[.slice A x.length c, .int .i64 (i : Int), .int .i64 (i : Int), .int .i64 (m : Int)] 85)).alloc (.cells #[.slice none 0 0, .int .i64 0, .int .i64 0, .int .i64 0, .slice none 0 0, .slice none 0 0] 91) = W0 at *
  obtain ⟨bl, bx0, bx1, bx2, bx3⟩ := BX.c4
  have HG := Lib.hid (genLetter_any i W0 (by omega))
  have HP := Lib.hid (isPower_any (.slice A x.length c) i i (m : Int) W0)
  rw [decide_eq_true rfl] at HP
  go_enter Try.func115, Try.ntmps115
  go_wp2_with (fail)
  clear hW0
  refine HG.out.mono ?_; rintro e w' ⟨rfl, rfl⟩
  go_wp2_with (fail)
  refine HP.out.mono ?_; rintro e w1 ⟨rfl, hb1⟩
  have BX1 := BX.below hb1
  have BY1 := BY.below hb1
  clear bl bx0 bx1 bx2 bx3
  obtain ⟨bl, bx0, bx1, bx2, bx3⟩ := BX1.c4
  have L1 := bstep b0 b0.size hb1
  clear HP HG
  have hx1 := hx0.below' hb1
  have HBX := Lib.hid BX1
  have hsz := b0.size
  have HRP : Hid (∀ (vb : Nat) (W' : World), Below w1.heap.size w1 W' → W'.cell? ⟨vb, 0, none⟩ = some (.int .i64 ((i : Int) + 1)) → Calls Try.prog 114 #[.slice (some ⟨vb, 0, none⟩) 1 1, .int .i64 (m : Int)] W' fun e w' => ∃ A c, e = .returned (.slice A m c) ∧ OwnI w' w1.heap.size (.slice A m c) (List.replicate m ((i : Int) + 1)) ∧ Below w1.heap.size w1 w') := Lib.hid fun vb W' hb hc => by
    refine (repeatI_any vb m ((i : Int) + 1) W' (by omega) hc).mono ?_
    rintro e w' ⟨A, c, rfl, -, h2, h3⟩
    exact ⟨A, c, rfl, (h2 hm1).base_ hb.size, bstep hb hb.size h3⟩
  have HWD : Hid (∀ W', Below w1.heap.size w1 W' → Calls Try.prog 96 #[.slice A x.length c] W' fun e w' => ∃ u, e = .returned u ∧ OwnI w' w1.heap.size u (Num.wrd x) ∧ Below w1.heap.size w1 w' ∧ Below W'.heap.size W' w') := Lib.hid fun W' hb => by
    refine (iWord_any A c x W' (hx1.below' hb) (by omega) hb').mono ?_
    rintro e w' ⟨u, rfl, h2, h3⟩
    exact ⟨u, rfl, h2.base_ hb.size, bstep hb hb.size h3, h3⟩
  have BXc : ∀ {W'}, Below w1.heap.size w1 W' → W'.cell? ⟨w.heap.size, 0, none⟩ = some (.slice A x.length c) ∧ W'.cell? ⟨w.heap.size, 1, none⟩ = some (.int .i64 (i : Int)) ∧ W'.cell? ⟨w.heap.size, 2, none⟩ = some (.int .i64 (i : Int)) ∧ W'.cell? ⟨w.heap.size, 3, none⟩ = some (.int .i64 (m : Int)) := fun hb => (HBX.out.below hb).c4.2
  have wm : IntKind.i64.wrap (m : Int) = (m : Int) := IntWalk.i64_in _ (by omega)
  clear hx hx0 hx1 hb'
  go_wp2_with (fail)
  go_region_held3 (fun wx => wx.cell? ⟨w.heap.size, 0, none⟩ = some (.slice A x.length c) ∧ wx.cell? ⟨w.heap.size, 1, none⟩ = some (.int .i64 (i : Int)) ∧ wx.cell? ⟨w.heap.size, 2, none⟩ = some (.int .i64 (i : Int)) ∧ wx.cell? ⟨w.heap.size, 3, none⟩ = some (.int .i64 (m : Int))) (first | go_keep | assumption) (first
    | (go_at_call 96; (with_reducible refine (HWD.out w5 L5).mono ?_); rintro e w6 ⟨u6, rfl, ow6, L6, hb6⟩; have ow5' := ow5.below hb6; have SM6 := BXc L6; obtain ⟨A6, n6, c6, rfl, e6⟩ := ow6.formN; have BY6 := BY1.below L6; obtain ⟨yl, y0, y1, y2, y3, y4, y5⟩ := BY6.c6; obtain ⟨f0, f1, f2, f3, f4, f5⟩ := BY6.f6; obtain ⟨w9, e9, B9, L9, K9, M9⟩ := rule_store BY6 (.slice A x.length c) (.int .i64 (i : Int)) (.int .i64 (i : Int)) (.int .i64 (m : Int)) (.slice AR m cR) (.slice A6 n6 c6) (by omega : w.heap.size ≤ w.heap.size + 1) (bstep L1 L1.size L6); have SM9 := (M9 (by omega) (BX1.below L6)).c4.2)
    | (go_at_call 114; (with_reducible refine (HRP.out w1.heap.size ((w1.alloc (.cells #[.int .i64 ((i : Int) + 1)] 2)).drew) (((Below.refl _ _).alloc (Nat.le_refl _) _).drew) ((Blk.new w1 [.int .i64 ((i : Int) + 1)] 2).drew.cell 0 (by simp))).mono ?_); rintro e w5 ⟨AR, cR, rfl, ow5, L5⟩; have SM5 := BXc L5))
  all_goals
    obtain ⟨zl, r0, r1, r2, r3, r4, r5⟩ := B9.c6
    go_wp2_with (fail)
    refine bodyPost_ret (v := .agg #[.slice A x.length c, .int .i64 (i : Int), .int .i64 (i : Int), .int .i64 (m : Int), .slice AR m cR, .slice A6 n6 c6]) (by simp [results, Try.results115, go_sem, zl, r0, r1, r2, r3, r4, r5]) rfl ?_
    exact ⟨_, _, rfl, (K9 (by have := BY1.lt; omega) ow5').base_ L1.size, (K9 (by have := BY1.lt; omega) ow6).base_ L1.size, L9⟩
theorem step_app_ints9 (w : World) {ops : Array Oper} {o : Oper} {a : Act} {K : Act → World → Prop} {Q : Exit → Act → World → Prop} {E : Prop} (hgd : o.guard = none) (s x : Operand) (t : TypeId)
    (ho : o.op = .call { callee := .builtin .append, args := #[s, x], argTypes := #[t, t] }) (ht : Try.prog.underlying t = some (.slice 2))
    (base : Nat) (v : Value) (xs ys : List Int) (hs : a.eval s = v) (hown : OwnI w base v xs) (A : Option Addr) (m c : Nat) (hm : ys.length = m) (hx : a.eval x = .slice A m c) (hr : RdI w A ys)
    (h63 : xs.length + ys.length ≤ 1000000000) (hbase : base ≤ w.heap.size)
    (h : ∀ v' w', OwnI w' base v' (xs ++ ys) → w.grownBy w' v.ownBlock → (v'.ownBlock = v.ownBlock ∨ v'.ownBlock = some w.heap.size) → K (a.put o.dst v') w') :
    if Region.wanted o (yielded ops a.tmps) = true then Oper.wp Try.prog o a w K Q else E := by
  obtain ⟨iT, hi, hz0, hz1, hz2⟩ := info_parts infoI
  refine step_append_list w hgd s x t ho base 2 iT (.int .i64 0) 8 ht hi hz0 hz1 hz2 rfl v xs.length (xs.map (Value.int .i64)) hs hown A m c (ys.map (Value.int .i64)) (by simpa using hm) hx hr.cells (oneCell_ints ys) (by unfold maxLen; omega) (by omega) hbase ?_
  intro v' w' h1 h2 h3
  refine h v' w' ?_ h2 h3
  unfold OwnI
  rw [List.length_append, List.map_append, hm]
  exact h1
set_option maxRecDepth 100000 in
set_option maxHeartbeats 8000000 in
theorem rule_con (A : Option Addr) (c : Nat) (x : List Int) (i j m : Nat) (w : World) (hx : RdI w A x) (hl : x.length ≤ 6) (hb' : ∀ j, j < x.length → 0 ≤ x.getD j 0 ∧ x.getD j 0 ≤ 64) (hi : i < 6) (hj : j < 6) (hij : j ≠ i) (hm : m ≤ 7) (hm1 : 1 ≤ m) :
    Calls Try.prog 115 #[.agg #[.slice A x.length c, .int .i64 (j : Int), .int .i64 (i : Int), .int .i64 (m : Int)]] w fun e w' => ∃ vl vr, e = .returned (.agg #[.slice A x.length c, .int .i64 (j : Int), .int .i64 (i : Int), .int .i64 (m : Int), vl, vr]) ∧ OwnI w' w.heap.size vl [(j : Int) + 1, (i : Int) + 1] ∧ OwnI w' w.heap.size vr (((i : Int) + 1) :: Num.wrd x) ∧ Below w.heap.size w w' := by
  have b0 : Below w.heap.size w ((w.alloc (.cells #[.slice A x.length c, .int .i64 (j : Int), .int .i64 (i : Int), .int .i64 (m : Int)] 85)).alloc (.cells #[.slice none 0 0, .int .i64 0, .int .i64 0, .int .i64 0, .slice none 0 0, .slice none 0 0] 91)) := by go_grown
  have BX := (Blk.new w [.slice A x.length c, .int .i64 (j : Int), .int .i64 (i : Int), .int .i64 (m : Int)] 85).alloc (.cells #[.slice none 0 0, .int .i64 0, .int .i64 0, .int .i64 0, .slice none 0 0, .slice none 0 0] 91)
  have BY : Blk ((w.alloc (.cells #[.slice A x.length c, .int .i64 (j : Int), .int .i64 (i : Int), .int .i64 (m : Int)] 85)).alloc (.cells #[.slice none 0 0, .int .i64 0, .int .i64 0, .int .i64 0, .slice none 0 0, .slice none 0 0] 91)) (w.heap.size + 1) [.slice none 0 0, .int .i64 0, .int .i64 0, .int .i64 0, .slice none 0 0, .slice none 0 0] 91 := by
    have := Blk.new (w.alloc (.cells #[.slice A x.length c, .int .i64 (j : Int), .int .i64 (i : Int), .int .i64 (m : Int)] 85)) [.slice none 0 0, .int .i64 0, .int .i64 0, .int .i64 0, .slice none 0 0, .slice none 0 0] 91
    simpa using this
  have hx0 := hx.below' b0
  generalize hW0 : (w.alloc (.cells #[.slice A x.length c, .int .i64 (j : Int), .int .i64 (i : Int), .int .i64 (m : Int)] 85)).alloc (.cells #[.slice none 0 0, .int .i64 0, .int .i64 0, .int .i64 0, .slice none 0 0, .slice none 0 0] 91) = W0 at *
  obtain ⟨bl, bx0, bx1, bx2, bx3⟩ := BX.c4
  have HG := Lib.hid (genLetter_any i W0 (by omega))
  have HP := Lib.hid (isPower_any (.slice A x.length c) i j (m : Int) W0)
  rw [decide_eq_false hij] at HP
  go_enter Try.func115, Try.ntmps115
  go_wp2_with (fail)
  clear hW0
  refine HG.out.mono ?_; rintro e w' ⟨rfl, rfl⟩
  go_wp2_with (fail)
  refine HP.out.mono ?_; rintro e w1 ⟨rfl, hb1⟩
  have BX1 := BX.below hb1
  have BY1 := BY.below hb1
  clear bl bx0 bx1 bx2 bx3
  obtain ⟨bl, bx0, bx1, bx2, bx3⟩ := BX1.c4
  have L1 := bstep b0 b0.size hb1
  clear HP HG
  have hx1 := hx0.below' hb1
  have HBX := Lib.hid BX1
  have hsz := b0.size
  have hwl : (Num.wrd x).length ≤ 64 * x.length := Num.wrd_len hb'
  obtain ⟨XD, hXD⟩ : ∃ X, w1.drew = X := ⟨_, rfl⟩
  have hbd : Below w1.heap.size w1 XD := by rw [← hXD]; exact (Below.refl _ _).drew
  have BXD := BX1.below hbd
  obtain ⟨hq, q0, q1, q2, q3⟩ := BXD.c4
  have HBX := Lib.hid BXD
  have HBY := Lib.hid (BY1.below hbd)
  have hq1 := HBY.out.lt
  have HL := Lib.hid (bstep L1 L1.size hbd)
  have hx2 := hx1.below' hbd
  have SC : Below XD.heap.size XD XD := Below.refl _ _
  have HWD : Hid (∀ W', Below XD.heap.size XD W' → Calls Try.prog 96 #[.slice A x.length c] W' fun e w' => ∃ u, e = .returned u ∧ OwnI w' XD.heap.size u (Num.wrd x) ∧ Below W'.heap.size W' w') := Lib.hid fun W' hb => by
    refine (iWord_any A c x W' (hx2.below' hb) (by omega) hb').mono ?_
    rintro e w' ⟨u, rfl, h2, h3⟩
    exact ⟨u, rfl, h2.base_ hb.size, h3⟩
  have SM : ∀ {W'}, Below XD.heap.size XD W' → W'.cell? ⟨w.heap.size, 0, none⟩ = some (.slice A x.length c) ∧ W'.cell? ⟨w.heap.size, 1, none⟩ = some (.int .i64 (j : Int)) ∧ W'.cell? ⟨w.heap.size, 2, none⟩ = some (.int .i64 (i : Int)) ∧ W'.cell? ⟨w.heap.size, 3, none⟩ = some (.int .i64 (m : Int)) := fun hb => (HBX.out.below hb).c4.2
  clear hx hx0 hx1 hb' bx0 bx1 bx2 bx3 bl BX1 BY1 hx2
  go_wp2_with (fail)
  refine wp_region_held_drew (S := fun W' => W'.cell? ⟨w.heap.size, 0, none⟩ = some (.slice A x.length c) ∧ W'.cell? ⟨w.heap.size, 1, none⟩ = some (.int .i64 (j : Int)) ∧ W'.cell? ⟨w.heap.size, 2, none⟩ = some (.int .i64 (i : Int)) ∧ W'.cell? ⟨w.heap.size, 3, none⟩ = some (.int .i64 (m : Int))) (by kernel_rfl) (by rw [hXD]; exact SM SC) (fun _ => ?_)
  rw [hXD]
  clear hXD
  refine wpAnyH_take (i := 0) (v := ?_) rfl (by kernel_rfl) (by kernel_rfl) (by kernel_rfl) (fun _ _ _ h => h) (Or.inl ⟨by rfl, ?_⟩) (SM SC) ?_
  rotate_left
  · rintro W9 ⟨y0, y1, y2, y3⟩
    go_simp
    with_reducible rfl
  refine wpAnyH_take (i := 1) (v := ?_) rfl (by kernel_rfl) (by kernel_rfl) (by kernel_rfl) (fun _ _ _ h => h) (Or.inl ⟨by rfl, ?_⟩) (SM SC) ?_
  rotate_left
  · rintro W9 ⟨y0, y1, y2, y3⟩
    go_simp
    with_reducible rfl
  refine wpAnyH_take (i := 2) (v := ?_) rfl (by kernel_rfl) (by kernel_rfl) (by kernel_rfl) (fun _ _ _ h => h) (Or.inl ⟨by rfl, ?_⟩) (SM SC) ?_
  rotate_left
  · rintro W9 ⟨y0, y1, y2, y3⟩
    go_simp
    with_reducible rfl
  refine wpAnyH_take (i := 4) (v := ?_) rfl (by kernel_rfl) (by kernel_rfl) (by kernel_rfl) (fun _ _ _ h => h) (Or.inl ⟨by rfl, ?_⟩) (SM SC) ?_
  rotate_left
  · rintro W9 ⟨y0, y1, y2, y3⟩
    go_simp
    with_reducible rfl
  refine wpAnyH_take (i := 6) (v := ?_) rfl (by kernel_rfl) (by kernel_rfl) (by kernel_rfl) (fun _ _ _ h => h) (Or.inl ⟨by rfl, ?_⟩) (SM SC) ?_
  rotate_left
  · rintro W9 ⟨y0, y1, y2, y3⟩
    go_simp
    with_reducible rfl
  refine wpAnyH_take (i := 8) (v := ?_) rfl (by kernel_rfl) (by kernel_rfl) (by kernel_rfl) (fun _ _ _ h => h) (Or.inl ⟨by rfl, ?_⟩) (SM SC) ?_
  rotate_left
  · rintro W9 ⟨y0, y1, y2, y3⟩
    go_simp
    with_reducible rfl
  refine wpAnyH_take (i := 9) (v := ?_) rfl (by kernel_rfl) (by kernel_rfl) (by kernel_rfl) (fun _ _ _ h => h) (Or.inl ⟨by rfl, ?_⟩) (SM SC) ?_
  rotate_left
  · rintro W9 ⟨y0, y1, y2, y3⟩
    go_simp
    with_reducible rfl
  refine wpAnyH_ready (rs := [3, 7]) (by kernel_rfl) (by simp) ?_
  refine (AllReadyH.cons rfl (fun K hK => ?_) (AllReadyH.cons rfl (fun K hK => ?_) AllReadyH.nil))
  · go_simp
    refine (genLetter_any j XD (by omega)).mono ?_
    rintro e w' ⟨rfl, rfl⟩
    refine hK.out _ _ (SM SC) (fun _ => ?_)
    clear hK K
    refine wpAnyH_ready (rs := [5, 7, 10]) (by kernel_rfl) (by simp) ?_
    refine (AllReadyH.cons rfl (fun K hK => ?_) (AllReadyH.cons rfl (fun K hK => ?_) (AllReadyH.cons rfl (fun K hK => ?_) AllReadyH.nil)))
    · have hb : Below XD.heap.size XD (XD.alloc (.cells #[.int .i64 ((j : Int) + 1), .int .i64 ((i : Int) + 1)] 2)) := by go_grown
      have F5 : OwnI (XD.alloc (.cells #[.int .i64 ((j : Int) + 1), .int .i64 ((i : Int) + 1)] 2)) XD.heap.size (.slice (some ⟨XD.heap.size, 0, none⟩) 2 2) [(j : Int) + 1, (i : Int) + 1] := OwnI.lit XD [(j : Int) + 1, (i : Int) + 1] SC.size (by simp)
      have SC : Below XD.heap.size XD (XD.alloc (.cells #[.int .i64 ((j : Int) + 1), .int .i64 ((i : Int) + 1)] 2)) := bstep SC SC.size hb
      go_simp
      generalize hg : (XD.alloc (.cells #[.int .i64 ((j : Int) + 1), .int .i64 ((i : Int) + 1)] 2)) = V2 at *
      refine hK.out _ _ (SM SC) (fun _ => ?_)
      clear hK K hb hg
      refine wpAnyH_ready (rs := [7, 10]) (by kernel_rfl) (by simp) ?_
      refine (AllReadyH.cons rfl (fun K hK => ?_) (AllReadyH.cons rfl (fun K hK => ?_) AllReadyH.nil))
      · have hb : Below V2.heap.size V2 (V2.alloc (.cells #[.int .i64 ((i : Int) + 1)] 2)) := by go_grown
        have F7 : OwnI (V2.alloc (.cells #[.int .i64 ((i : Int) + 1)] 2)) XD.heap.size (.slice (some ⟨V2.heap.size, 0, none⟩) 1 1) [(i : Int) + 1] := OwnI.lit V2 [(i : Int) + 1] SC.size (by simp)
        have N57 : XD.heap.size ≠ V2.heap.size := by have := (World.ownsRow.lt F5 (XD.heap.size) rfl).2; omega
        have F5 := F5.below hb
        have SC : Below XD.heap.size XD (V2.alloc (.cells #[.int .i64 ((i : Int) + 1)] 2)) := bstep SC SC.size hb
        go_simp
        generalize hg : (V2.alloc (.cells #[.int .i64 ((i : Int) + 1)] 2)) = V3 at *
        refine hK.out _ _ (SM SC) (fun _ => ?_)
        clear hK K hb hg
        refine wpAnyH_ready (rs := [10]) (by kernel_rfl) (by simp) ?_
        refine (AllReadyH.cons rfl (fun K hK => ?_) AllReadyH.nil)
        · go_simp
          refine (HWD.out V3 SC).mono ?_
          rintro e V4 ⟨u6, rfl, F10, hb⟩
          obtain ⟨A6, n6, c6, rfl, e6⟩ := F10.formN
          have F5 := F5.below hb
          have F7 := F7.below hb
          have SC : Below XD.heap.size XD V4 := bstep SC SC.size hb
          refine hK.out _ _ (SM SC) (fun _ => ?_)
          clear hK K hb
          refine wpAnyH_ready (rs := [11]) (by kernel_rfl) (by simp) ?_
          refine (AllReadyH.cons rfl (fun K hK => ?_) AllReadyH.nil)
          · refine step_app_ints9 V4 rfl _ _ 24 rfl Try.underlying24 XD.heap.size (.slice (some ⟨V2.heap.size, 0, none⟩) 1 1) [(i : Int) + 1] (Num.wrd x) rfl F7 A6 n6 c6 e6 rfl F10.reads (by simp; omega) SC.size ?_
            intro v8 V5 F11 gr8 at8
            obtain ⟨A8, n8, c8, rfl, e8⟩ := F11.formN
            have F5 := F5.kept gr8 (.inr (by simp [Value.ownBlock]; exact fun e => N57 e))
            have SC : Below XD.heap.size XD V5 := SC.grown gr8 SC.size F7.base_le
            refine hK.out _ _ (SM SC) (fun _ => ?_)
            clear hK K gr8 at8 F7 F10
            refine wpAnyH_ready (rs := [12]) (by kernel_rfl) (by simp) ?_
            refine (AllReadyH.cons rfl (fun K hK => ?_) AllReadyH.nil)
            · go_simp
              refine hK.out _ _ (SM SC) (fun _ => ?_)
              clear hK K
              refine wpAnyH_ready (rs := [13]) (by kernel_rfl) (by simp) ?_
              refine (AllReadyH.cons rfl (fun K hK => ?_) AllReadyH.nil)
              · have BX6 := HBX.out.below SC
                have BY6 := HBY.out.below SC
                obtain ⟨yl, y0, y1, y2, y3, y4, y5⟩ := BY6.c6
                obtain ⟨f0, f1, f2, f3, f4, f5⟩ := BY6.f6
                obtain ⟨V7, e9, B9, L9, K9, M9⟩ := rule_store BY6 (.slice A x.length c) (.int .i64 (j : Int)) (.int .i64 (i : Int)) (.int .i64 (m : Int)) (.slice (some ⟨XD.heap.size, 0, none⟩) 2 2) (.slice A8 n8 c8) (by omega : w.heap.size ≤ w.heap.size + 1) (bstep HL.out HL.out.size SC)
                go_simp
                refine hK.out _ _ ((M9 (by omega) BX6).c4.2) (fun _ => ?_)
                clear hK K
                refine wpAnyH_done (by kernel_rfl) ?_ _
                obtain ⟨zl, r0, r1, r2, r3, r4, r5⟩ := B9.c6
                go_wp2_with (fail)
                refine bodyPost_ret (v := .agg #[.slice A x.length c, .int .i64 (j : Int), .int .i64 (i : Int), .int .i64 (m : Int), .slice (some ⟨XD.heap.size, 0, none⟩) 2 2, .slice A8 n8 c8]) (by simp [results, Try.results115, go_sem, zl, r0, r1, r2, r3, r4, r5]) rfl ?_
                exact ⟨_, _, rfl, (K9 (by omega) F5).base_ (by omega), (K9 (by omega) F11).base_ (by omega), L9⟩
      · go_simp
        refine (HWD.out V2 SC).mono ?_
        rintro e V8 ⟨u6, rfl, F10, hb⟩
        obtain ⟨A6, n6, c6, rfl, e6⟩ := F10.formN
        have F5 := F5.below hb
        have SC : Below XD.heap.size XD V8 := bstep SC SC.size hb
        refine hK.out _ _ (SM SC) (fun _ => ?_)
        clear hK K hb
        refine wpAnyH_ready (rs := [7]) (by kernel_rfl) (by simp) ?_
        refine (AllReadyH.cons rfl (fun K hK => ?_) AllReadyH.nil)
        · have hb : Below V8.heap.size V8 (V8.alloc (.cells #[.int .i64 ((i : Int) + 1)] 2)) := by go_grown
          have F7 : OwnI (V8.alloc (.cells #[.int .i64 ((i : Int) + 1)] 2)) XD.heap.size (.slice (some ⟨V8.heap.size, 0, none⟩) 1 1) [(i : Int) + 1] := OwnI.lit V8 [(i : Int) + 1] SC.size (by simp)
          have N57 : XD.heap.size ≠ V8.heap.size := by have := (World.ownsRow.lt F5 (XD.heap.size) rfl).2; omega
          have F5 := F5.below hb
          have F10 := F10.below hb
          have SC : Below XD.heap.size XD (V8.alloc (.cells #[.int .i64 ((i : Int) + 1)] 2)) := bstep SC SC.size hb
          go_simp
          generalize hg : (V8.alloc (.cells #[.int .i64 ((i : Int) + 1)] 2)) = V9 at *
          refine hK.out _ _ (SM SC) (fun _ => ?_)
          clear hK K hb hg
          refine wpAnyH_ready (rs := [11]) (by kernel_rfl) (by simp) ?_
          refine (AllReadyH.cons rfl (fun K hK => ?_) AllReadyH.nil)
          · refine step_app_ints9 V9 rfl _ _ 24 rfl Try.underlying24 XD.heap.size (.slice (some ⟨V8.heap.size, 0, none⟩) 1 1) [(i : Int) + 1] (Num.wrd x) rfl F7 A6 n6 c6 e6 rfl F10.reads (by simp; omega) SC.size ?_
            intro v8 V10 F11 gr8 at8
            obtain ⟨A8, n8, c8, rfl, e8⟩ := F11.formN
            have F5 := F5.kept gr8 (.inr (by simp [Value.ownBlock]; exact fun e => N57 e))
            have SC : Below XD.heap.size XD V10 := SC.grown gr8 SC.size F7.base_le
            refine hK.out _ _ (SM SC) (fun _ => ?_)
            clear hK K gr8 at8 F7 F10
            refine wpAnyH_ready (rs := [12]) (by kernel_rfl) (by simp) ?_
            refine (AllReadyH.cons rfl (fun K hK => ?_) AllReadyH.nil)
            · go_simp
              refine hK.out _ _ (SM SC) (fun _ => ?_)
              clear hK K
              refine wpAnyH_ready (rs := [13]) (by kernel_rfl) (by simp) ?_
              refine (AllReadyH.cons rfl (fun K hK => ?_) AllReadyH.nil)
              · have BX6 := HBX.out.below SC
                have BY6 := HBY.out.below SC
                obtain ⟨yl, y0, y1, y2, y3, y4, y5⟩ := BY6.c6
                obtain ⟨f0, f1, f2, f3, f4, f5⟩ := BY6.f6
                obtain ⟨V12, e9, B9, L9, K9, M9⟩ := rule_store BY6 (.slice A x.length c) (.int .i64 (j : Int)) (.int .i64 (i : Int)) (.int .i64 (m : Int)) (.slice (some ⟨XD.heap.size, 0, none⟩) 2 2) (.slice A8 n8 c8) (by omega : w.heap.size ≤ w.heap.size + 1) (bstep HL.out HL.out.size SC)
                go_simp
                refine hK.out _ _ ((M9 (by omega) BX6).c4.2) (fun _ => ?_)
                clear hK K
                refine wpAnyH_done (by kernel_rfl) ?_ _
                obtain ⟨zl, r0, r1, r2, r3, r4, r5⟩ := B9.c6
                go_wp2_with (fail)
                refine bodyPost_ret (v := .agg #[.slice A x.length c, .int .i64 (j : Int), .int .i64 (i : Int), .int .i64 (m : Int), .slice (some ⟨XD.heap.size, 0, none⟩) 2 2, .slice A8 n8 c8]) (by simp [results, Try.results115, go_sem, zl, r0, r1, r2, r3, r4, r5]) rfl ?_
                exact ⟨_, _, rfl, (K9 (by omega) F5).base_ (by omega), (K9 (by omega) F11).base_ (by omega), L9⟩
    · have hb : Below XD.heap.size XD (XD.alloc (.cells #[.int .i64 ((i : Int) + 1)] 2)) := by go_grown
      have F7 : OwnI (XD.alloc (.cells #[.int .i64 ((i : Int) + 1)] 2)) XD.heap.size (.slice (some ⟨XD.heap.size, 0, none⟩) 1 1) [(i : Int) + 1] := OwnI.lit XD [(i : Int) + 1] SC.size (by simp)
      have SC : Below XD.heap.size XD (XD.alloc (.cells #[.int .i64 ((i : Int) + 1)] 2)) := bstep SC SC.size hb
      go_simp
      generalize hg : (XD.alloc (.cells #[.int .i64 ((i : Int) + 1)] 2)) = V13 at *
      refine hK.out _ _ (SM SC) (fun _ => ?_)
      clear hK K hb hg
      refine wpAnyH_ready (rs := [5, 10]) (by kernel_rfl) (by simp) ?_
      refine (AllReadyH.cons rfl (fun K hK => ?_) (AllReadyH.cons rfl (fun K hK => ?_) AllReadyH.nil))
      · have hb : Below V13.heap.size V13 (V13.alloc (.cells #[.int .i64 ((j : Int) + 1), .int .i64 ((i : Int) + 1)] 2)) := by go_grown
        have F5 : OwnI (V13.alloc (.cells #[.int .i64 ((j : Int) + 1), .int .i64 ((i : Int) + 1)] 2)) XD.heap.size (.slice (some ⟨V13.heap.size, 0, none⟩) 2 2) [(j : Int) + 1, (i : Int) + 1] := OwnI.lit V13 [(j : Int) + 1, (i : Int) + 1] SC.size (by simp)
        have N57 : V13.heap.size ≠ XD.heap.size := by have := (World.ownsRow.lt F7 (XD.heap.size) rfl).2; omega
        have F7 := F7.below hb
        have SC : Below XD.heap.size XD (V13.alloc (.cells #[.int .i64 ((j : Int) + 1), .int .i64 ((i : Int) + 1)] 2)) := bstep SC SC.size hb
        go_simp
        generalize hg : (V13.alloc (.cells #[.int .i64 ((j : Int) + 1), .int .i64 ((i : Int) + 1)] 2)) = V14 at *
        refine hK.out _ _ (SM SC) (fun _ => ?_)
        clear hK K hb hg
        refine wpAnyH_ready (rs := [10]) (by kernel_rfl) (by simp) ?_
        refine (AllReadyH.cons rfl (fun K hK => ?_) AllReadyH.nil)
        · go_simp
          refine (HWD.out V14 SC).mono ?_
          rintro e V15 ⟨u6, rfl, F10, hb⟩
          obtain ⟨A6, n6, c6, rfl, e6⟩ := F10.formN
          have F7 := F7.below hb
          have F5 := F5.below hb
          have SC : Below XD.heap.size XD V15 := bstep SC SC.size hb
          refine hK.out _ _ (SM SC) (fun _ => ?_)
          clear hK K hb
          refine wpAnyH_ready (rs := [11]) (by kernel_rfl) (by simp) ?_
          refine (AllReadyH.cons rfl (fun K hK => ?_) AllReadyH.nil)
          · refine step_app_ints9 V15 rfl _ _ 24 rfl Try.underlying24 XD.heap.size (.slice (some ⟨XD.heap.size, 0, none⟩) 1 1) [(i : Int) + 1] (Num.wrd x) rfl F7 A6 n6 c6 e6 rfl F10.reads (by simp; omega) SC.size ?_
            intro v8 V16 F11 gr8 at8
            obtain ⟨A8, n8, c8, rfl, e8⟩ := F11.formN
            have F5 := F5.kept gr8 (.inr (by simp [Value.ownBlock]; exact fun e => N57 e))
            have SC : Below XD.heap.size XD V16 := SC.grown gr8 SC.size F7.base_le
            refine hK.out _ _ (SM SC) (fun _ => ?_)
            clear hK K gr8 at8 F7 F10
            refine wpAnyH_ready (rs := [12]) (by kernel_rfl) (by simp) ?_
            refine (AllReadyH.cons rfl (fun K hK => ?_) AllReadyH.nil)
            · go_simp
              refine hK.out _ _ (SM SC) (fun _ => ?_)
              clear hK K
              refine wpAnyH_ready (rs := [13]) (by kernel_rfl) (by simp) ?_
              refine (AllReadyH.cons rfl (fun K hK => ?_) AllReadyH.nil)
              · have BX6 := HBX.out.below SC
                have BY6 := HBY.out.below SC
                obtain ⟨yl, y0, y1, y2, y3, y4, y5⟩ := BY6.c6
                obtain ⟨f0, f1, f2, f3, f4, f5⟩ := BY6.f6
                obtain ⟨V18, e9, B9, L9, K9, M9⟩ := rule_store BY6 (.slice A x.length c) (.int .i64 (j : Int)) (.int .i64 (i : Int)) (.int .i64 (m : Int)) (.slice (some ⟨V13.heap.size, 0, none⟩) 2 2) (.slice A8 n8 c8) (by omega : w.heap.size ≤ w.heap.size + 1) (bstep HL.out HL.out.size SC)
                go_simp
                refine hK.out _ _ ((M9 (by omega) BX6).c4.2) (fun _ => ?_)
                clear hK K
                refine wpAnyH_done (by kernel_rfl) ?_ _
                obtain ⟨zl, r0, r1, r2, r3, r4, r5⟩ := B9.c6
                go_wp2_with (fail)
                refine bodyPost_ret (v := .agg #[.slice A x.length c, .int .i64 (j : Int), .int .i64 (i : Int), .int .i64 (m : Int), .slice (some ⟨V13.heap.size, 0, none⟩) 2 2, .slice A8 n8 c8]) (by simp [results, Try.results115, go_sem, zl, r0, r1, r2, r3, r4, r5]) rfl ?_
                exact ⟨_, _, rfl, (K9 (by omega) F5).base_ (by omega), (K9 (by omega) F11).base_ (by omega), L9⟩
      · go_simp
        refine (HWD.out V13 SC).mono ?_
        rintro e V19 ⟨u6, rfl, F10, hb⟩
        obtain ⟨A6, n6, c6, rfl, e6⟩ := F10.formN
        have F7 := F7.below hb
        have SC : Below XD.heap.size XD V19 := bstep SC SC.size hb
        refine hK.out _ _ (SM SC) (fun _ => ?_)
        clear hK K hb
        refine wpAnyH_ready (rs := [5, 11]) (by kernel_rfl) (by simp) ?_
        refine (AllReadyH.cons rfl (fun K hK => ?_) (AllReadyH.cons rfl (fun K hK => ?_) AllReadyH.nil))
        · have hb : Below V19.heap.size V19 (V19.alloc (.cells #[.int .i64 ((j : Int) + 1), .int .i64 ((i : Int) + 1)] 2)) := by go_grown
          have F5 : OwnI (V19.alloc (.cells #[.int .i64 ((j : Int) + 1), .int .i64 ((i : Int) + 1)] 2)) XD.heap.size (.slice (some ⟨V19.heap.size, 0, none⟩) 2 2) [(j : Int) + 1, (i : Int) + 1] := OwnI.lit V19 [(j : Int) + 1, (i : Int) + 1] SC.size (by simp)
          have N57 : V19.heap.size ≠ XD.heap.size := by have := (World.ownsRow.lt F7 (XD.heap.size) rfl).2; omega
          have F7 := F7.below hb
          have F10 := F10.below hb
          have SC : Below XD.heap.size XD (V19.alloc (.cells #[.int .i64 ((j : Int) + 1), .int .i64 ((i : Int) + 1)] 2)) := bstep SC SC.size hb
          go_simp
          generalize hg : (V19.alloc (.cells #[.int .i64 ((j : Int) + 1), .int .i64 ((i : Int) + 1)] 2)) = V20 at *
          refine hK.out _ _ (SM SC) (fun _ => ?_)
          clear hK K hb hg
          refine wpAnyH_ready (rs := [11]) (by kernel_rfl) (by simp) ?_
          refine (AllReadyH.cons rfl (fun K hK => ?_) AllReadyH.nil)
          · refine step_app_ints9 V20 rfl _ _ 24 rfl Try.underlying24 XD.heap.size (.slice (some ⟨XD.heap.size, 0, none⟩) 1 1) [(i : Int) + 1] (Num.wrd x) rfl F7 A6 n6 c6 e6 rfl F10.reads (by simp; omega) SC.size ?_
            intro v8 V21 F11 gr8 at8
            obtain ⟨A8, n8, c8, rfl, e8⟩ := F11.formN
            have F5 := F5.kept gr8 (.inr (by simp [Value.ownBlock]; exact fun e => N57 e))
            have SC : Below XD.heap.size XD V21 := SC.grown gr8 SC.size F7.base_le
            refine hK.out _ _ (SM SC) (fun _ => ?_)
            clear hK K gr8 at8 F7 F10
            refine wpAnyH_ready (rs := [12]) (by kernel_rfl) (by simp) ?_
            refine (AllReadyH.cons rfl (fun K hK => ?_) AllReadyH.nil)
            · go_simp
              refine hK.out _ _ (SM SC) (fun _ => ?_)
              clear hK K
              refine wpAnyH_ready (rs := [13]) (by kernel_rfl) (by simp) ?_
              refine (AllReadyH.cons rfl (fun K hK => ?_) AllReadyH.nil)
              · have BX6 := HBX.out.below SC
                have BY6 := HBY.out.below SC
                obtain ⟨yl, y0, y1, y2, y3, y4, y5⟩ := BY6.c6
                obtain ⟨f0, f1, f2, f3, f4, f5⟩ := BY6.f6
                obtain ⟨V23, e9, B9, L9, K9, M9⟩ := rule_store BY6 (.slice A x.length c) (.int .i64 (j : Int)) (.int .i64 (i : Int)) (.int .i64 (m : Int)) (.slice (some ⟨V19.heap.size, 0, none⟩) 2 2) (.slice A8 n8 c8) (by omega : w.heap.size ≤ w.heap.size + 1) (bstep HL.out HL.out.size SC)
                go_simp
                refine hK.out _ _ ((M9 (by omega) BX6).c4.2) (fun _ => ?_)
                clear hK K
                refine wpAnyH_done (by kernel_rfl) ?_ _
                obtain ⟨zl, r0, r1, r2, r3, r4, r5⟩ := B9.c6
                go_wp2_with (fail)
                refine bodyPost_ret (v := .agg #[.slice A x.length c, .int .i64 (j : Int), .int .i64 (i : Int), .int .i64 (m : Int), .slice (some ⟨V19.heap.size, 0, none⟩) 2 2, .slice A8 n8 c8]) (by simp [results, Try.results115, go_sem, zl, r0, r1, r2, r3, r4, r5]) rfl ?_
                exact ⟨_, _, rfl, (K9 (by omega) F5).base_ (by omega), (K9 (by omega) F11).base_ (by omega), L9⟩
        · refine step_app_ints9 V19 rfl _ _ 24 rfl Try.underlying24 XD.heap.size (.slice (some ⟨XD.heap.size, 0, none⟩) 1 1) [(i : Int) + 1] (Num.wrd x) rfl F7 A6 n6 c6 e6 rfl F10.reads (by simp; omega) SC.size ?_
          intro v8 V24 F11 gr8 at8
          obtain ⟨A8, n8, c8, rfl, e8⟩ := F11.formN
          have SC : Below XD.heap.size XD V24 := SC.grown gr8 SC.size F7.base_le
          refine hK.out _ _ (SM SC) (fun _ => ?_)
          clear hK K gr8 at8 F7 F10
          refine wpAnyH_ready (rs := [5]) (by kernel_rfl) (by simp) ?_
          refine (AllReadyH.cons rfl (fun K hK => ?_) AllReadyH.nil)
          · have hb : Below V24.heap.size V24 (V24.alloc (.cells #[.int .i64 ((j : Int) + 1), .int .i64 ((i : Int) + 1)] 2)) := by go_grown
            have F5 : OwnI (V24.alloc (.cells #[.int .i64 ((j : Int) + 1), .int .i64 ((i : Int) + 1)] 2)) XD.heap.size (.slice (some ⟨V24.heap.size, 0, none⟩) 2 2) [(j : Int) + 1, (i : Int) + 1] := OwnI.lit V24 [(j : Int) + 1, (i : Int) + 1] SC.size (by simp)
            have F11 := F11.below hb
            have SC : Below XD.heap.size XD (V24.alloc (.cells #[.int .i64 ((j : Int) + 1), .int .i64 ((i : Int) + 1)] 2)) := bstep SC SC.size hb
            go_simp
            generalize hg : (V24.alloc (.cells #[.int .i64 ((j : Int) + 1), .int .i64 ((i : Int) + 1)] 2)) = V25 at *
            refine hK.out _ _ (SM SC) (fun _ => ?_)
            clear hK K hb hg
            refine wpAnyH_ready (rs := [12]) (by kernel_rfl) (by simp) ?_
            refine (AllReadyH.cons rfl (fun K hK => ?_) AllReadyH.nil)
            · go_simp
              refine hK.out _ _ (SM SC) (fun _ => ?_)
              clear hK K
              refine wpAnyH_ready (rs := [13]) (by kernel_rfl) (by simp) ?_
              refine (AllReadyH.cons rfl (fun K hK => ?_) AllReadyH.nil)
              · have BX6 := HBX.out.below SC
                have BY6 := HBY.out.below SC
                obtain ⟨yl, y0, y1, y2, y3, y4, y5⟩ := BY6.c6
                obtain ⟨f0, f1, f2, f3, f4, f5⟩ := BY6.f6
                obtain ⟨V27, e9, B9, L9, K9, M9⟩ := rule_store BY6 (.slice A x.length c) (.int .i64 (j : Int)) (.int .i64 (i : Int)) (.int .i64 (m : Int)) (.slice (some ⟨V24.heap.size, 0, none⟩) 2 2) (.slice A8 n8 c8) (by omega : w.heap.size ≤ w.heap.size + 1) (bstep HL.out HL.out.size SC)
                go_simp
                refine hK.out _ _ ((M9 (by omega) BX6).c4.2) (fun _ => ?_)
                clear hK K
                refine wpAnyH_done (by kernel_rfl) ?_ _
                obtain ⟨zl, r0, r1, r2, r3, r4, r5⟩ := B9.c6
                go_wp2_with (fail)
                refine bodyPost_ret (v := .agg #[.slice A x.length c, .int .i64 (j : Int), .int .i64 (i : Int), .int .i64 (m : Int), .slice (some ⟨V24.heap.size, 0, none⟩) 2 2, .slice A8 n8 c8]) (by simp [results, Try.results115, go_sem, zl, r0, r1, r2, r3, r4, r5]) rfl ?_
                exact ⟨_, _, rfl, (K9 (by omega) F5).base_ (by omega), (K9 (by omega) F11).base_ (by omega), L9⟩
    · go_simp
      refine (HWD.out XD SC).mono ?_
      rintro e V28 ⟨u6, rfl, F10, hb⟩
      obtain ⟨A6, n6, c6, rfl, e6⟩ := F10.formN
      have SC : Below XD.heap.size XD V28 := bstep SC SC.size hb
      refine hK.out _ _ (SM SC) (fun _ => ?_)
      clear hK K hb
      refine wpAnyH_ready (rs := [5, 7]) (by kernel_rfl) (by simp) ?_
      refine (AllReadyH.cons rfl (fun K hK => ?_) (AllReadyH.cons rfl (fun K hK => ?_) AllReadyH.nil))
      · have hb : Below V28.heap.size V28 (V28.alloc (.cells #[.int .i64 ((j : Int) + 1), .int .i64 ((i : Int) + 1)] 2)) := by go_grown
        have F5 : OwnI (V28.alloc (.cells #[.int .i64 ((j : Int) + 1), .int .i64 ((i : Int) + 1)] 2)) XD.heap.size (.slice (some ⟨V28.heap.size, 0, none⟩) 2 2) [(j : Int) + 1, (i : Int) + 1] := OwnI.lit V28 [(j : Int) + 1, (i : Int) + 1] SC.size (by simp)
        have F10 := F10.below hb
        have SC : Below XD.heap.size XD (V28.alloc (.cells #[.int .i64 ((j : Int) + 1), .int .i64 ((i : Int) + 1)] 2)) := bstep SC SC.size hb
        go_simp
        generalize hg : (V28.alloc (.cells #[.int .i64 ((j : Int) + 1), .int .i64 ((i : Int) + 1)] 2)) = V29 at *
        refine hK.out _ _ (SM SC) (fun _ => ?_)
        clear hK K hb hg
        refine wpAnyH_ready (rs := [7]) (by kernel_rfl) (by simp) ?_
        refine (AllReadyH.cons rfl (fun K hK => ?_) AllReadyH.nil)
        · have hb : Below V29.heap.size V29 (V29.alloc (.cells #[.int .i64 ((i : Int) + 1)] 2)) := by go_grown
          have F7 : OwnI (V29.alloc (.cells #[.int .i64 ((i : Int) + 1)] 2)) XD.heap.size (.slice (some ⟨V29.heap.size, 0, none⟩) 1 1) [(i : Int) + 1] := OwnI.lit V29 [(i : Int) + 1] SC.size (by simp)
          have N57 : V28.heap.size ≠ V29.heap.size := by have := (World.ownsRow.lt F5 (V28.heap.size) rfl).2; omega
          have F10 := F10.below hb
          have F5 := F5.below hb
          have SC : Below XD.heap.size XD (V29.alloc (.cells #[.int .i64 ((i : Int) + 1)] 2)) := bstep SC SC.size hb
          go_simp
          generalize hg : (V29.alloc (.cells #[.int .i64 ((i : Int) + 1)] 2)) = V30 at *
          refine hK.out _ _ (SM SC) (fun _ => ?_)
          clear hK K hb hg
          refine wpAnyH_ready (rs := [11]) (by kernel_rfl) (by simp) ?_
          refine (AllReadyH.cons rfl (fun K hK => ?_) AllReadyH.nil)
          · refine step_app_ints9 V30 rfl _ _ 24 rfl Try.underlying24 XD.heap.size (.slice (some ⟨V29.heap.size, 0, none⟩) 1 1) [(i : Int) + 1] (Num.wrd x) rfl F7 A6 n6 c6 e6 rfl F10.reads (by simp; omega) SC.size ?_
            intro v8 V31 F11 gr8 at8
            obtain ⟨A8, n8, c8, rfl, e8⟩ := F11.formN
            have F5 := F5.kept gr8 (.inr (by simp [Value.ownBlock]; exact fun e => N57 e))
            have SC : Below XD.heap.size XD V31 := SC.grown gr8 SC.size F7.base_le
            refine hK.out _ _ (SM SC) (fun _ => ?_)
            clear hK K gr8 at8 F7 F10
            refine wpAnyH_ready (rs := [12]) (by kernel_rfl) (by simp) ?_
            refine (AllReadyH.cons rfl (fun K hK => ?_) AllReadyH.nil)
            · go_simp
              refine hK.out _ _ (SM SC) (fun _ => ?_)
              clear hK K
              refine wpAnyH_ready (rs := [13]) (by kernel_rfl) (by simp) ?_
              refine (AllReadyH.cons rfl (fun K hK => ?_) AllReadyH.nil)
              · have BX6 := HBX.out.below SC
                have BY6 := HBY.out.below SC
                obtain ⟨yl, y0, y1, y2, y3, y4, y5⟩ := BY6.c6
                obtain ⟨f0, f1, f2, f3, f4, f5⟩ := BY6.f6
                obtain ⟨V33, e9, B9, L9, K9, M9⟩ := rule_store BY6 (.slice A x.length c) (.int .i64 (j : Int)) (.int .i64 (i : Int)) (.int .i64 (m : Int)) (.slice (some ⟨V28.heap.size, 0, none⟩) 2 2) (.slice A8 n8 c8) (by omega : w.heap.size ≤ w.heap.size + 1) (bstep HL.out HL.out.size SC)
                go_simp
                refine hK.out _ _ ((M9 (by omega) BX6).c4.2) (fun _ => ?_)
                clear hK K
                refine wpAnyH_done (by kernel_rfl) ?_ _
                obtain ⟨zl, r0, r1, r2, r3, r4, r5⟩ := B9.c6
                go_wp2_with (fail)
                refine bodyPost_ret (v := .agg #[.slice A x.length c, .int .i64 (j : Int), .int .i64 (i : Int), .int .i64 (m : Int), .slice (some ⟨V28.heap.size, 0, none⟩) 2 2, .slice A8 n8 c8]) (by simp [results, Try.results115, go_sem, zl, r0, r1, r2, r3, r4, r5]) rfl ?_
                exact ⟨_, _, rfl, (K9 (by omega) F5).base_ (by omega), (K9 (by omega) F11).base_ (by omega), L9⟩
      · have hb : Below V28.heap.size V28 (V28.alloc (.cells #[.int .i64 ((i : Int) + 1)] 2)) := by go_grown
        have F7 : OwnI (V28.alloc (.cells #[.int .i64 ((i : Int) + 1)] 2)) XD.heap.size (.slice (some ⟨V28.heap.size, 0, none⟩) 1 1) [(i : Int) + 1] := OwnI.lit V28 [(i : Int) + 1] SC.size (by simp)
        have F10 := F10.below hb
        have SC : Below XD.heap.size XD (V28.alloc (.cells #[.int .i64 ((i : Int) + 1)] 2)) := bstep SC SC.size hb
        go_simp
        generalize hg : (V28.alloc (.cells #[.int .i64 ((i : Int) + 1)] 2)) = V34 at *
        refine hK.out _ _ (SM SC) (fun _ => ?_)
        clear hK K hb hg
        refine wpAnyH_ready (rs := [5, 11]) (by kernel_rfl) (by simp) ?_
        refine (AllReadyH.cons rfl (fun K hK => ?_) (AllReadyH.cons rfl (fun K hK => ?_) AllReadyH.nil))
        · have hb : Below V34.heap.size V34 (V34.alloc (.cells #[.int .i64 ((j : Int) + 1), .int .i64 ((i : Int) + 1)] 2)) := by go_grown
          have F5 : OwnI (V34.alloc (.cells #[.int .i64 ((j : Int) + 1), .int .i64 ((i : Int) + 1)] 2)) XD.heap.size (.slice (some ⟨V34.heap.size, 0, none⟩) 2 2) [(j : Int) + 1, (i : Int) + 1] := OwnI.lit V34 [(j : Int) + 1, (i : Int) + 1] SC.size (by simp)
          have N57 : V34.heap.size ≠ V28.heap.size := by have := (World.ownsRow.lt F7 (V28.heap.size) rfl).2; omega
          have F10 := F10.below hb
          have F7 := F7.below hb
          have SC : Below XD.heap.size XD (V34.alloc (.cells #[.int .i64 ((j : Int) + 1), .int .i64 ((i : Int) + 1)] 2)) := bstep SC SC.size hb
          go_simp
          generalize hg : (V34.alloc (.cells #[.int .i64 ((j : Int) + 1), .int .i64 ((i : Int) + 1)] 2)) = V35 at *
          refine hK.out _ _ (SM SC) (fun _ => ?_)
          clear hK K hb hg
          refine wpAnyH_ready (rs := [11]) (by kernel_rfl) (by simp) ?_
          refine (AllReadyH.cons rfl (fun K hK => ?_) AllReadyH.nil)
          · refine step_app_ints9 V35 rfl _ _ 24 rfl Try.underlying24 XD.heap.size (.slice (some ⟨V28.heap.size, 0, none⟩) 1 1) [(i : Int) + 1] (Num.wrd x) rfl F7 A6 n6 c6 e6 rfl F10.reads (by simp; omega) SC.size ?_
            intro v8 V36 F11 gr8 at8
            obtain ⟨A8, n8, c8, rfl, e8⟩ := F11.formN
            have F5 := F5.kept gr8 (.inr (by simp [Value.ownBlock]; exact fun e => N57 e))
            have SC : Below XD.heap.size XD V36 := SC.grown gr8 SC.size F7.base_le
            refine hK.out _ _ (SM SC) (fun _ => ?_)
            clear hK K gr8 at8 F7 F10
            refine wpAnyH_ready (rs := [12]) (by kernel_rfl) (by simp) ?_
            refine (AllReadyH.cons rfl (fun K hK => ?_) AllReadyH.nil)
            · go_simp
              refine hK.out _ _ (SM SC) (fun _ => ?_)
              clear hK K
              refine wpAnyH_ready (rs := [13]) (by kernel_rfl) (by simp) ?_
              refine (AllReadyH.cons rfl (fun K hK => ?_) AllReadyH.nil)
              · have BX6 := HBX.out.below SC
                have BY6 := HBY.out.below SC
                obtain ⟨yl, y0, y1, y2, y3, y4, y5⟩ := BY6.c6
                obtain ⟨f0, f1, f2, f3, f4, f5⟩ := BY6.f6
                obtain ⟨V38, e9, B9, L9, K9, M9⟩ := rule_store BY6 (.slice A x.length c) (.int .i64 (j : Int)) (.int .i64 (i : Int)) (.int .i64 (m : Int)) (.slice (some ⟨V34.heap.size, 0, none⟩) 2 2) (.slice A8 n8 c8) (by omega : w.heap.size ≤ w.heap.size + 1) (bstep HL.out HL.out.size SC)
                go_simp
                refine hK.out _ _ ((M9 (by omega) BX6).c4.2) (fun _ => ?_)
                clear hK K
                refine wpAnyH_done (by kernel_rfl) ?_ _
                obtain ⟨zl, r0, r1, r2, r3, r4, r5⟩ := B9.c6
                go_wp2_with (fail)
                refine bodyPost_ret (v := .agg #[.slice A x.length c, .int .i64 (j : Int), .int .i64 (i : Int), .int .i64 (m : Int), .slice (some ⟨V34.heap.size, 0, none⟩) 2 2, .slice A8 n8 c8]) (by simp [results, Try.results115, go_sem, zl, r0, r1, r2, r3, r4, r5]) rfl ?_
                exact ⟨_, _, rfl, (K9 (by omega) F5).base_ (by omega), (K9 (by omega) F11).base_ (by omega), L9⟩
        · refine step_app_ints9 V34 rfl _ _ 24 rfl Try.underlying24 XD.heap.size (.slice (some ⟨V28.heap.size, 0, none⟩) 1 1) [(i : Int) + 1] (Num.wrd x) rfl F7 A6 n6 c6 e6 rfl F10.reads (by simp; omega) SC.size ?_
          intro v8 V39 F11 gr8 at8
          obtain ⟨A8, n8, c8, rfl, e8⟩ := F11.formN
          have SC : Below XD.heap.size XD V39 := SC.grown gr8 SC.size F7.base_le
          refine hK.out _ _ (SM SC) (fun _ => ?_)
          clear hK K gr8 at8 F7 F10
          refine wpAnyH_ready (rs := [5]) (by kernel_rfl) (by simp) ?_
          refine (AllReadyH.cons rfl (fun K hK => ?_) AllReadyH.nil)
          · have hb : Below V39.heap.size V39 (V39.alloc (.cells #[.int .i64 ((j : Int) + 1), .int .i64 ((i : Int) + 1)] 2)) := by go_grown
            have F5 : OwnI (V39.alloc (.cells #[.int .i64 ((j : Int) + 1), .int .i64 ((i : Int) + 1)] 2)) XD.heap.size (.slice (some ⟨V39.heap.size, 0, none⟩) 2 2) [(j : Int) + 1, (i : Int) + 1] := OwnI.lit V39 [(j : Int) + 1, (i : Int) + 1] SC.size (by simp)
            have F11 := F11.below hb
            have SC : Below XD.heap.size XD (V39.alloc (.cells #[.int .i64 ((j : Int) + 1), .int .i64 ((i : Int) + 1)] 2)) := bstep SC SC.size hb
            go_simp
            generalize hg : (V39.alloc (.cells #[.int .i64 ((j : Int) + 1), .int .i64 ((i : Int) + 1)] 2)) = V40 at *
            refine hK.out _ _ (SM SC) (fun _ => ?_)
            clear hK K hb hg
            refine wpAnyH_ready (rs := [12]) (by kernel_rfl) (by simp) ?_
            refine (AllReadyH.cons rfl (fun K hK => ?_) AllReadyH.nil)
            · go_simp
              refine hK.out _ _ (SM SC) (fun _ => ?_)
              clear hK K
              refine wpAnyH_ready (rs := [13]) (by kernel_rfl) (by simp) ?_
              refine (AllReadyH.cons rfl (fun K hK => ?_) AllReadyH.nil)
              · have BX6 := HBX.out.below SC
                have BY6 := HBY.out.below SC
                obtain ⟨yl, y0, y1, y2, y3, y4, y5⟩ := BY6.c6
                obtain ⟨f0, f1, f2, f3, f4, f5⟩ := BY6.f6
                obtain ⟨V42, e9, B9, L9, K9, M9⟩ := rule_store BY6 (.slice A x.length c) (.int .i64 (j : Int)) (.int .i64 (i : Int)) (.int .i64 (m : Int)) (.slice (some ⟨V39.heap.size, 0, none⟩) 2 2) (.slice A8 n8 c8) (by omega : w.heap.size ≤ w.heap.size + 1) (bstep HL.out HL.out.size SC)
                go_simp
                refine hK.out _ _ ((M9 (by omega) BX6).c4.2) (fun _ => ?_)
                clear hK K
                refine wpAnyH_done (by kernel_rfl) ?_ _
                obtain ⟨zl, r0, r1, r2, r3, r4, r5⟩ := B9.c6
                go_wp2_with (fail)
                refine bodyPost_ret (v := .agg #[.slice A x.length c, .int .i64 (j : Int), .int .i64 (i : Int), .int .i64 (m : Int), .slice (some ⟨V39.heap.size, 0, none⟩) 2 2, .slice A8 n8 c8]) (by simp [results, Try.results115, go_sem, zl, r0, r1, r2, r3, r4, r5]) rfl ?_
                exact ⟨_, _, rfl, (K9 (by omega) F5).base_ (by omega), (K9 (by omega) F11).base_ (by omega), L9⟩
  · have hb : Below XD.heap.size XD (XD.alloc (.cells #[.int .i64 ((i : Int) + 1)] 2)) := by go_grown
    have F7 : OwnI (XD.alloc (.cells #[.int .i64 ((i : Int) + 1)] 2)) XD.heap.size (.slice (some ⟨XD.heap.size, 0, none⟩) 1 1) [(i : Int) + 1] := OwnI.lit XD [(i : Int) + 1] SC.size (by simp)
    have SC : Below XD.heap.size XD (XD.alloc (.cells #[.int .i64 ((i : Int) + 1)] 2)) := bstep SC SC.size hb
    go_simp
    generalize hg : (XD.alloc (.cells #[.int .i64 ((i : Int) + 1)] 2)) = V43 at *
    refine hK.out _ _ (SM SC) (fun _ => ?_)
    clear hK K hb hg
    refine wpAnyH_ready (rs := [3]) (by kernel_rfl) (by simp) ?_
    refine (AllReadyH.cons rfl (fun K hK => ?_) AllReadyH.nil)
    · go_simp
      refine (genLetter_any j V43 (by omega)).mono ?_
      rintro e w' ⟨rfl, rfl⟩
      refine hK.out _ _ (SM SC) (fun _ => ?_)
      clear hK K
      refine wpAnyH_ready (rs := [5, 10]) (by kernel_rfl) (by simp) ?_
      refine (AllReadyH.cons rfl (fun K hK => ?_) (AllReadyH.cons rfl (fun K hK => ?_) AllReadyH.nil))
      · have hb : Below V43.heap.size V43 (V43.alloc (.cells #[.int .i64 ((j : Int) + 1), .int .i64 ((i : Int) + 1)] 2)) := by go_grown
        have F5 : OwnI (V43.alloc (.cells #[.int .i64 ((j : Int) + 1), .int .i64 ((i : Int) + 1)] 2)) XD.heap.size (.slice (some ⟨V43.heap.size, 0, none⟩) 2 2) [(j : Int) + 1, (i : Int) + 1] := OwnI.lit V43 [(j : Int) + 1, (i : Int) + 1] SC.size (by simp)
        have N57 : V43.heap.size ≠ XD.heap.size := by have := (World.ownsRow.lt F7 (XD.heap.size) rfl).2; omega
        have F7 := F7.below hb
        have SC : Below XD.heap.size XD (V43.alloc (.cells #[.int .i64 ((j : Int) + 1), .int .i64 ((i : Int) + 1)] 2)) := bstep SC SC.size hb
        go_simp
        generalize hg : (V43.alloc (.cells #[.int .i64 ((j : Int) + 1), .int .i64 ((i : Int) + 1)] 2)) = V45 at *
        refine hK.out _ _ (SM SC) (fun _ => ?_)
        clear hK K hb hg
        refine wpAnyH_ready (rs := [10]) (by kernel_rfl) (by simp) ?_
        refine (AllReadyH.cons rfl (fun K hK => ?_) AllReadyH.nil)
        · go_simp
          refine (HWD.out V45 SC).mono ?_
          rintro e V46 ⟨u6, rfl, F10, hb⟩
          obtain ⟨A6, n6, c6, rfl, e6⟩ := F10.formN
          have F7 := F7.below hb
          have F5 := F5.below hb
          have SC : Below XD.heap.size XD V46 := bstep SC SC.size hb
          refine hK.out _ _ (SM SC) (fun _ => ?_)
          clear hK K hb
          refine wpAnyH_ready (rs := [11]) (by kernel_rfl) (by simp) ?_
          refine (AllReadyH.cons rfl (fun K hK => ?_) AllReadyH.nil)
          · refine step_app_ints9 V46 rfl _ _ 24 rfl Try.underlying24 XD.heap.size (.slice (some ⟨XD.heap.size, 0, none⟩) 1 1) [(i : Int) + 1] (Num.wrd x) rfl F7 A6 n6 c6 e6 rfl F10.reads (by simp; omega) SC.size ?_
            intro v8 V47 F11 gr8 at8
            obtain ⟨A8, n8, c8, rfl, e8⟩ := F11.formN
            have F5 := F5.kept gr8 (.inr (by simp [Value.ownBlock]; exact fun e => N57 e))
            have SC : Below XD.heap.size XD V47 := SC.grown gr8 SC.size F7.base_le
            refine hK.out _ _ (SM SC) (fun _ => ?_)
            clear hK K gr8 at8 F7 F10
            refine wpAnyH_ready (rs := [12]) (by kernel_rfl) (by simp) ?_
            refine (AllReadyH.cons rfl (fun K hK => ?_) AllReadyH.nil)
            · go_simp
              refine hK.out _ _ (SM SC) (fun _ => ?_)
              clear hK K
              refine wpAnyH_ready (rs := [13]) (by kernel_rfl) (by simp) ?_
              refine (AllReadyH.cons rfl (fun K hK => ?_) AllReadyH.nil)
              · have BX6 := HBX.out.below SC
                have BY6 := HBY.out.below SC
                obtain ⟨yl, y0, y1, y2, y3, y4, y5⟩ := BY6.c6
                obtain ⟨f0, f1, f2, f3, f4, f5⟩ := BY6.f6
                obtain ⟨V49, e9, B9, L9, K9, M9⟩ := rule_store BY6 (.slice A x.length c) (.int .i64 (j : Int)) (.int .i64 (i : Int)) (.int .i64 (m : Int)) (.slice (some ⟨V43.heap.size, 0, none⟩) 2 2) (.slice A8 n8 c8) (by omega : w.heap.size ≤ w.heap.size + 1) (bstep HL.out HL.out.size SC)
                go_simp
                refine hK.out _ _ ((M9 (by omega) BX6).c4.2) (fun _ => ?_)
                clear hK K
                refine wpAnyH_done (by kernel_rfl) ?_ _
                obtain ⟨zl, r0, r1, r2, r3, r4, r5⟩ := B9.c6
                go_wp2_with (fail)
                refine bodyPost_ret (v := .agg #[.slice A x.length c, .int .i64 (j : Int), .int .i64 (i : Int), .int .i64 (m : Int), .slice (some ⟨V43.heap.size, 0, none⟩) 2 2, .slice A8 n8 c8]) (by simp [results, Try.results115, go_sem, zl, r0, r1, r2, r3, r4, r5]) rfl ?_
                exact ⟨_, _, rfl, (K9 (by omega) F5).base_ (by omega), (K9 (by omega) F11).base_ (by omega), L9⟩
      · go_simp
        refine (HWD.out V43 SC).mono ?_
        rintro e V50 ⟨u6, rfl, F10, hb⟩
        obtain ⟨A6, n6, c6, rfl, e6⟩ := F10.formN
        have F7 := F7.below hb
        have SC : Below XD.heap.size XD V50 := bstep SC SC.size hb
        refine hK.out _ _ (SM SC) (fun _ => ?_)
        clear hK K hb
        refine wpAnyH_ready (rs := [5, 11]) (by kernel_rfl) (by simp) ?_
        refine (AllReadyH.cons rfl (fun K hK => ?_) (AllReadyH.cons rfl (fun K hK => ?_) AllReadyH.nil))
        · have hb : Below V50.heap.size V50 (V50.alloc (.cells #[.int .i64 ((j : Int) + 1), .int .i64 ((i : Int) + 1)] 2)) := by go_grown
          have F5 : OwnI (V50.alloc (.cells #[.int .i64 ((j : Int) + 1), .int .i64 ((i : Int) + 1)] 2)) XD.heap.size (.slice (some ⟨V50.heap.size, 0, none⟩) 2 2) [(j : Int) + 1, (i : Int) + 1] := OwnI.lit V50 [(j : Int) + 1, (i : Int) + 1] SC.size (by simp)
          have N57 : V50.heap.size ≠ XD.heap.size := by have := (World.ownsRow.lt F7 (XD.heap.size) rfl).2; omega
          have F7 := F7.below hb
          have F10 := F10.below hb
          have SC : Below XD.heap.size XD (V50.alloc (.cells #[.int .i64 ((j : Int) + 1), .int .i64 ((i : Int) + 1)] 2)) := bstep SC SC.size hb
          go_simp
          generalize hg : (V50.alloc (.cells #[.int .i64 ((j : Int) + 1), .int .i64 ((i : Int) + 1)] 2)) = V51 at *
          refine hK.out _ _ (SM SC) (fun _ => ?_)
          clear hK K hb hg
          refine wpAnyH_ready (rs := [11]) (by kernel_rfl) (by simp) ?_
          refine (AllReadyH.cons rfl (fun K hK => ?_) AllReadyH.nil)
          · refine step_app_ints9 V51 rfl _ _ 24 rfl Try.underlying24 XD.heap.size (.slice (some ⟨XD.heap.size, 0, none⟩) 1 1) [(i : Int) + 1] (Num.wrd x) rfl F7 A6 n6 c6 e6 rfl F10.reads (by simp; omega) SC.size ?_
            intro v8 V52 F11 gr8 at8
            obtain ⟨A8, n8, c8, rfl, e8⟩ := F11.formN
            have F5 := F5.kept gr8 (.inr (by simp [Value.ownBlock]; exact fun e => N57 e))
            have SC : Below XD.heap.size XD V52 := SC.grown gr8 SC.size F7.base_le
            refine hK.out _ _ (SM SC) (fun _ => ?_)
            clear hK K gr8 at8 F7 F10
            refine wpAnyH_ready (rs := [12]) (by kernel_rfl) (by simp) ?_
            refine (AllReadyH.cons rfl (fun K hK => ?_) AllReadyH.nil)
            · go_simp
              refine hK.out _ _ (SM SC) (fun _ => ?_)
              clear hK K
              refine wpAnyH_ready (rs := [13]) (by kernel_rfl) (by simp) ?_
              refine (AllReadyH.cons rfl (fun K hK => ?_) AllReadyH.nil)
              · have BX6 := HBX.out.below SC
                have BY6 := HBY.out.below SC
                obtain ⟨yl, y0, y1, y2, y3, y4, y5⟩ := BY6.c6
                obtain ⟨f0, f1, f2, f3, f4, f5⟩ := BY6.f6
                obtain ⟨V54, e9, B9, L9, K9, M9⟩ := rule_store BY6 (.slice A x.length c) (.int .i64 (j : Int)) (.int .i64 (i : Int)) (.int .i64 (m : Int)) (.slice (some ⟨V50.heap.size, 0, none⟩) 2 2) (.slice A8 n8 c8) (by omega : w.heap.size ≤ w.heap.size + 1) (bstep HL.out HL.out.size SC)
                go_simp
                refine hK.out _ _ ((M9 (by omega) BX6).c4.2) (fun _ => ?_)
                clear hK K
                refine wpAnyH_done (by kernel_rfl) ?_ _
                obtain ⟨zl, r0, r1, r2, r3, r4, r5⟩ := B9.c6
                go_wp2_with (fail)
                refine bodyPost_ret (v := .agg #[.slice A x.length c, .int .i64 (j : Int), .int .i64 (i : Int), .int .i64 (m : Int), .slice (some ⟨V50.heap.size, 0, none⟩) 2 2, .slice A8 n8 c8]) (by simp [results, Try.results115, go_sem, zl, r0, r1, r2, r3, r4, r5]) rfl ?_
                exact ⟨_, _, rfl, (K9 (by omega) F5).base_ (by omega), (K9 (by omega) F11).base_ (by omega), L9⟩
        · refine step_app_ints9 V50 rfl _ _ 24 rfl Try.underlying24 XD.heap.size (.slice (some ⟨XD.heap.size, 0, none⟩) 1 1) [(i : Int) + 1] (Num.wrd x) rfl F7 A6 n6 c6 e6 rfl F10.reads (by simp; omega) SC.size ?_
          intro v8 V55 F11 gr8 at8
          obtain ⟨A8, n8, c8, rfl, e8⟩ := F11.formN
          have SC : Below XD.heap.size XD V55 := SC.grown gr8 SC.size F7.base_le
          refine hK.out _ _ (SM SC) (fun _ => ?_)
          clear hK K gr8 at8 F7 F10
          refine wpAnyH_ready (rs := [5]) (by kernel_rfl) (by simp) ?_
          refine (AllReadyH.cons rfl (fun K hK => ?_) AllReadyH.nil)
          · have hb : Below V55.heap.size V55 (V55.alloc (.cells #[.int .i64 ((j : Int) + 1), .int .i64 ((i : Int) + 1)] 2)) := by go_grown
            have F5 : OwnI (V55.alloc (.cells #[.int .i64 ((j : Int) + 1), .int .i64 ((i : Int) + 1)] 2)) XD.heap.size (.slice (some ⟨V55.heap.size, 0, none⟩) 2 2) [(j : Int) + 1, (i : Int) + 1] := OwnI.lit V55 [(j : Int) + 1, (i : Int) + 1] SC.size (by simp)
            have F11 := F11.below hb
            have SC : Below XD.heap.size XD (V55.alloc (.cells #[.int .i64 ((j : Int) + 1), .int .i64 ((i : Int) + 1)] 2)) := bstep SC SC.size hb
            go_simp
            generalize hg : (V55.alloc (.cells #[.int .i64 ((j : Int) + 1), .int .i64 ((i : Int) + 1)] 2)) = V56 at *
            refine hK.out _ _ (SM SC) (fun _ => ?_)
            clear hK K hb hg
            refine wpAnyH_ready (rs := [12]) (by kernel_rfl) (by simp) ?_
            refine (AllReadyH.cons rfl (fun K hK => ?_) AllReadyH.nil)
            · go_simp
              refine hK.out _ _ (SM SC) (fun _ => ?_)
              clear hK K
              refine wpAnyH_ready (rs := [13]) (by kernel_rfl) (by simp) ?_
              refine (AllReadyH.cons rfl (fun K hK => ?_) AllReadyH.nil)
              · have BX6 := HBX.out.below SC
                have BY6 := HBY.out.below SC
                obtain ⟨yl, y0, y1, y2, y3, y4, y5⟩ := BY6.c6
                obtain ⟨f0, f1, f2, f3, f4, f5⟩ := BY6.f6
                obtain ⟨V58, e9, B9, L9, K9, M9⟩ := rule_store BY6 (.slice A x.length c) (.int .i64 (j : Int)) (.int .i64 (i : Int)) (.int .i64 (m : Int)) (.slice (some ⟨V55.heap.size, 0, none⟩) 2 2) (.slice A8 n8 c8) (by omega : w.heap.size ≤ w.heap.size + 1) (bstep HL.out HL.out.size SC)
                go_simp
                refine hK.out _ _ ((M9 (by omega) BX6).c4.2) (fun _ => ?_)
                clear hK K
                refine wpAnyH_done (by kernel_rfl) ?_ _
                obtain ⟨zl, r0, r1, r2, r3, r4, r5⟩ := B9.c6
                go_wp2_with (fail)
                refine bodyPost_ret (v := .agg #[.slice A x.length c, .int .i64 (j : Int), .int .i64 (i : Int), .int .i64 (m : Int), .slice (some ⟨V55.heap.size, 0, none⟩) 2 2, .slice A8 n8 c8]) (by simp [results, Try.results115, go_sem, zl, r0, r1, r2, r3, r4, r5]) rfl ?_
                exact ⟨_, _, rfl, (K9 (by omega) F5).base_ (by omega), (K9 (by omega) F11).base_ (by omega), L9⟩
end Go.Proofs.Ytahmhdpgdhfjnaa
