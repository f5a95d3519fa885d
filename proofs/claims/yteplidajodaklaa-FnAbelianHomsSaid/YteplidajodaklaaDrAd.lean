/- The draw of two abelian groups for their homomorphisms. -/
import Derived.Test.YteplidajodaklaaDrAc
namespace Go.Proofs.Yteplidajodaklaa
open Go.RowKit
set_option linter.unusedVariables false
set_option linter.unusedSimpArgs false
theorem OwnI.past {S : Nat → Prop} {w w' : World} {base : Nat} {v : Value} {xs : List Int} (h : OwnI w base v xs) (hc : ChgS S w w') (hS : ∀ k, S k → k < base) : OwnI w' base v xs :=
  ownsRow_keep h fun k e => by
    obtain ⟨h1, h2⟩ := World.ownsRow.lt h k e
    exact hc.block k h2 (fun hk => by have := hS k hk; omega)
theorem OwnI.setAt {w : World} {base : Nat} {v : Value} {xs : List Int} (h : OwnI w base v xs) (p : Addr) (u : Value) (hp : ∀ k, v.ownBlock = some k → k ≠ p.block) : OwnI (w.setCell p u) base v xs :=
  ownsRow_keep h fun k e => (ChgS.set w p u).block k (World.ownsRow.lt h k e).2 (hp k e)
/-- Two groups that are drawn. -/
def TwoAb (w : World) (e : Ending) (w' : World) : Prop :=
  ∃ v0 v1 x0 x1, e = .returned (.tuple #[v0, v1]) ∧ spAb.rd w' v0 x0 ∧ spAb.rd w' v1 x1 ∧ Below w.heap.size w w'
theorem rdAb_own {w : World} {base : Nat} {U : Option Addr} {c : Nat} {F : List Int} {K : Int} (h : OwnI w base (.slice U F.length c) F) : spAb.rd w (.agg #[.slice U F.length c, .int .i64 K]) ⟨F, K⟩ :=
  ⟨_, rfl, U, c, rfl, by obtain ⟨_, _, e9, hm9⟩ := ownsRow_cap h; exact hm9, h.reads⟩
set_option maxRecDepth 100000 in
set_option maxHeartbeats 4000000 in
theorem drawHoms_any (A : Option Addr) (len cap : Nat) (w : World) (hB : RdB w w.heap.size A len) (hlen : len ≤ 4096)
    (hG : ∀ q W, SrcI W q A len cap → Calls Try.prog 20 #[.pointer (some ⟨q, 0, none⟩)] W (DrawnAb W q A len cap)) :
    Calls Try.prog 6 #[.slice A len cap] w (TwoAb w) := by
  have B1 : Blk ((w.alloc (.cells [.slice none 0 0, (.int .i64 0 : Value)].toArray 26)).alloc (.cells [.slice none 0 0, (.int .i64 0 : Value)].toArray 26)) w.heap.size [.slice none 0 0, (.int .i64 0 : Value)] 26 := (Blk.new w _ _).alloc _
  have B2 : Blk ((w.alloc (.cells [.slice none 0 0, (.int .i64 0 : Value)].toArray 26)).alloc (.cells [.slice none 0 0, (.int .i64 0 : Value)].toArray 26)) (w.heap.size + 1) [.slice none 0 0, (.int .i64 0 : Value)] 26 := by have := Blk.new (w.alloc (.cells [.slice none 0 0, (.int .i64 0 : Value)].toArray 26)) [.slice none 0 0, (.int .i64 0 : Value)] 26; rwa [World.size_alloc] at this
  have hB1 : RdB ((w.alloc (.cells [.slice none 0 0, (.int .i64 0 : Value)].toArray 26)).alloc (.cells [.slice none 0 0, (.int .i64 0 : Value)].toArray 26)) ((w.alloc (.cells [.slice none 0 0, (.int .i64 0 : Value)].toArray 26)).alloc (.cells [.slice none 0 0, (.int .i64 0 : Value)].toArray 26)).heap.size A len := fun j hj => by
    obtain ⟨g, o, b, h1, h2, h3, h4⟩ := ((hB.grown (row := none) (World.grownBy_alloc w (.cells [.slice none 0 0, (.int .i64 0 : Value)].toArray 26) none) (fun r e => by simp at e)).grown (row := none) (World.grownBy_alloc (w.alloc (.cells [.slice none 0 0, (.int .i64 0 : Value)].toArray 26)) (.cells [.slice none 0 0, (.int .i64 0 : Value)].toArray 26) none) (fun r e => by simp at e)) j hj
    exact ⟨g, o, b, h1, by simp; omega, h3, h4⟩
  have L1 : Below w.heap.size w ((w.alloc (.cells [.slice none 0 0, (.int .i64 0 : Value)].toArray 26)).alloc (.cells [.slice none 0 0, (.int .i64 0 : Value)].toArray 26)) := by go_grown
  have hF := Lib.hid (from_any A len cap ((w.alloc (.cells [.slice none 0 0, (.int .i64 0 : Value)].toArray 26)).alloc (.cells [.slice none 0 0, (.int .i64 0 : Value)].toArray 26)) hB1 hlen)
  have HG := Lib.hid hG
  clear hB hB1 hG
  go_enter Try.func6, Try.ntmps6
  go_wp2_with (fail)
  refine hF.out.mono ?_
  rintro e w1 ⟨rfl, hs1, hb1⟩
  replace B1 := B1.below hb1
  replace B2 := B2.below hb1
  replace L1 := bstep L1 L1.size hb1
  rw [World.size_alloc, World.size_alloc] at hs1
  have hq1 := hs1.lt
  have HG1 := Lib.hid (HG.out _ _ hs1)
  clear hF hb1 hs1
  go_wp2_with (fail)
  refine HG1.out.mono ?_
  rintro e w2 ⟨U1, c1, F1, K1, rfl, ho1, hl1, hs2, hc2⟩
  replace B1 := B1.chg hc2 (by omega)
  replace B2 := B2.chg hc2 (by omega)
  have hz2 := hc2.size
  have L2 := L1.trans (hc2.below (B := w.heap.size) (fun k g => by omega) (by omega))
  have HG2 := Lib.hid (HG.out _ _ hs2)
  have HO1 := Lib.hid ho1
  have hk1 : Hid (∀ k, (Value.slice U1 F1.length c1).ownBlock = some k → k < w2.heap.size) := Lib.hid fun k e => (World.ownsRow.lt ho1 k e).2
  clear HG HG1 hs2 hc2 L1 ho1
  go_wp2_with (fail)
  refine HG2.out.mono ?_
  rintro e w3 ⟨U2, c2, F2, K2, rfl, ho2, hl2, hs3, hc3⟩
  replace B1 := B1.chg hc3 (by omega)
  replace B2 := B2.chg hc3 (by omega)
  have hz3 := hc3.size
  replace HO1 := Lib.hid (OwnI.past HO1.out hc3 (fun k g => by omega))
  have L3 := L2.trans (hc3.below (B := w.heap.size) (fun k g => by omega) (by omega))
  have BA : Blk ((w3.alloc (.cells [.slice U1 F1.length c1, (.int .i64 K1 : Value)].toArray 26)).alloc (.cells [.slice U2 F2.length c2, (.int .i64 K2 : Value)].toArray 26)) w3.heap.size [.slice U1 F1.length c1, .int .i64 K1] 26 := (Blk.new w3 _ _).alloc _
  have BB : Blk ((w3.alloc (.cells [.slice U1 F1.length c1, (.int .i64 K1 : Value)].toArray 26)).alloc (.cells [.slice U2 F2.length c2, (.int .i64 K2 : Value)].toArray 26)) (w3.heap.size + 1) [.slice U2 F2.length c2, .int .i64 K2] 26 := by have := Blk.new (w3.alloc (.cells [.slice U1 F1.length c1, (.int .i64 K1 : Value)].toArray 26)) [.slice U2 F2.length c2, .int .i64 K2] 26; rwa [World.size_alloc] at this
  replace B1 := (B1.alloc (.cells [.slice U1 F1.length c1, (.int .i64 K1 : Value)].toArray 26)).alloc (.cells [.slice U2 F2.length c2, (.int .i64 K2 : Value)].toArray 26)
  replace B2 := (B2.alloc (.cells [.slice U1 F1.length c1, (.int .i64 K1 : Value)].toArray 26)).alloc (.cells [.slice U2 F2.length c2, (.int .i64 K2 : Value)].toArray 26)
  have HS4 := Lib.hid ((hs3.chg (S := fun _ => False) (chgS_alloc w3 (.cells [.slice U1 F1.length c1, (.int .i64 K1 : Value)].toArray 26)) (fun k h => h.elim)).chg (S := fun _ => False) (chgS_alloc (w3.alloc (.cells [.slice U1 F1.length c1, (.int .i64 K1 : Value)].toArray 26)) (.cells [.slice U2 F2.length c2, (.int .i64 K2 : Value)].toArray 26)) (fun k h => h.elim))
  have HO2 := Lib.hid ((ho2.alloc (.cells [.slice U1 F1.length c1, (.int .i64 K1 : Value)].toArray 26)).alloc (.cells [.slice U2 F2.length c2, (.int .i64 K2 : Value)].toArray 26))
  have hk2 : Hid (∀ k, (Value.slice U2 F2.length c2).ownBlock = some k → k < w3.heap.size) := Lib.hid fun k e => (World.ownsRow.lt ho2 k e).2
  replace HO1 := Lib.hid ((HO1.out.alloc (.cells [.slice U1 F1.length c1, (.int .i64 K1 : Value)].toArray 26)).alloc (.cells [.slice U2 F2.length c2, (.int .i64 K2 : Value)].toArray 26))
  have L4 := (L3.alloc (by omega) (.cells [.slice U1 F1.length c1, (.int .i64 K1 : Value)].toArray 26)).alloc (by simp; omega) (.cells [.slice U2 F2.length c2, (.int .i64 K2 : Value)].toArray 26)
  clear HG2 hs3 hc3 L2 L3 ho2
  go_wp2_with (fail)
  refine (nextS _ A len cap 4 _ HS4.out (by omega) (by omega)).mono ?_
  rintro e w5 ⟨r, rfl, ⟨r0, r1⟩, hs5, hc5⟩
  replace B1 := B1.chg hc5 (by omega)
  replace B2 := B2.chg hc5 (by omega)
  replace BA := BA.chg hc5 (by omega)
  replace BB := BB.chg hc5 (by omega)
  replace HO1 := Lib.hid (OwnI.past HO1.out hc5 (fun k g => by omega))
  replace HO2 := Lib.hid (OwnI.past HO2.out hc5 (fun k g => by omega))
  have L5 := L4.trans (hc5.below (B := w.heap.size) (fun k g => by omega) (by simp; omega))
  clear HS4 hs5 hc5 L4
  by_cases hr : 0 < r
  · obtain ⟨bb, bb0, bb1⟩ := BB.c2
    have fb1 := BB.free 1
    have hb1 := B1.lt
    go_wp2_with (fail)
    replace HO1 := Lib.hid (HO1.out.setAt ⟨w3.heap.size + 1, 1, none⟩ (.int .i64 0) (fun k e => by have := hk1.out k e; simp; omega))
    replace HO2 := Lib.hid (HO2.out.setAt ⟨w3.heap.size + 1, 1, none⟩ (.int .i64 0) (fun k e => by have := hk2.out k e; simp; omega))
    replace BA := BA.other (p := ⟨w3.heap.size + 1, 1, none⟩) (by simp) (.int .i64 0)
    replace B1 := B1.other (p := ⟨w3.heap.size + 1, 1, none⟩) (by simp; omega) (.int .i64 0)
    replace B2 := B2.other (p := ⟨w3.heap.size + 1, 1, none⟩) (by simp; omega) (.int .i64 0)
    replace L5 := L5.setCell (p := ⟨w3.heap.size + 1, 1, none⟩) (by simp; omega) (.int .i64 0)
    replace BB : Blk (w5.setCell ⟨w3.heap.size + 1, 1, none⟩ (.int .i64 0)) (w3.heap.size + 1) [.slice U2 F2.length c2, .int .i64 0] 26 := BB.set 1 (.int .i64 0)
    clear bb bb0 bb1 fb1 hk1 hk2
    generalize w5.setCell ⟨w3.heap.size + 1, 1, none⟩ (.int .i64 0) = w6 at *
    obtain ⟨aa, aa0, aa1⟩ := BA.c2
    obtain ⟨bb, bb0, bb1⟩ := BB.c2
    obtain ⟨r1l, r10, r11⟩ := B1.c2
    obtain ⟨r2l, r20, r21⟩ := B2.c2
    have g10 := B1.free 0
    have g11 := B1.free 1
    have g20 := B2.free 0
    have g21 := B2.free 1
    have P1 := Lib.hid (rdAb_own (K := K1) ((((HO1.out.setAt ⟨w.heap.size, 0, none⟩ (.slice U1 F1.length c1) (fun k e => by have := (World.ownsRow.lt HO1.out k e).1; simp; omega)).setAt ⟨w.heap.size, 1, none⟩ (.int .i64 K1) (fun k e => by have := (World.ownsRow.lt HO1.out k e).1; simp; omega)).setAt ⟨w.heap.size + 1, 0, none⟩ (.slice U2 F2.length c2) (fun k e => by have := (World.ownsRow.lt HO1.out k e).1; simp; omega)).setAt ⟨w.heap.size + 1, 1, none⟩ (.int .i64 0) (fun k e => by have := (World.ownsRow.lt HO1.out k e).1; simp; omega)))
    have P2 := Lib.hid (rdAb_own (K := 0) ((((HO2.out.setAt ⟨w.heap.size, 0, none⟩ (.slice U1 F1.length c1) (fun k e => by have := (World.ownsRow.lt HO2.out k e).1; simp; omega)).setAt ⟨w.heap.size, 1, none⟩ (.int .i64 K1) (fun k e => by have := (World.ownsRow.lt HO2.out k e).1; simp; omega)).setAt ⟨w.heap.size + 1, 0, none⟩ (.slice U2 F2.length c2) (fun k e => by have := (World.ownsRow.lt HO2.out k e).1; simp; omega)).setAt ⟨w.heap.size + 1, 1, none⟩ (.int .i64 0) (fun k e => by have := (World.ownsRow.lt HO2.out k e).1; simp; omega)))
    have P3 := Lib.hid (Below.drew ((((L5.setCell (p := ⟨w.heap.size, 0, none⟩) (by simp) (.slice U1 F1.length c1)).setCell (p := ⟨w.heap.size, 1, none⟩) (by simp) (.int .i64 K1)).setCell (p := ⟨w.heap.size + 1, 0, none⟩) (by simp) (.slice U2 F2.length c2)).setCell (p := ⟨w.heap.size + 1, 1, none⟩) (by simp) (.int .i64 0)))
    go_region
    go_wp2_with (fail)
    refine bodyPost_ret (v := .tuple #[.agg #[.slice U1 F1.length c1, .int .i64 K1], .agg #[.slice U2 F2.length c2, .int .i64 0]]) (by simp [results, Try.results6, go_sem, r1l, r2l, r10, r11, r20, r21]) rfl ?_
    exact ⟨_, _, _, _, rfl, P1.out, P2.out, P3.out⟩
  · go_wp2_with (fail)
    clear hk1 hk2
    obtain ⟨aa, aa0, aa1⟩ := BA.c2
    obtain ⟨bb, bb0, bb1⟩ := BB.c2
    obtain ⟨r1l, r10, r11⟩ := B1.c2
    obtain ⟨r2l, r20, r21⟩ := B2.c2
    have g10 := B1.free 0
    have g11 := B1.free 1
    have g20 := B2.free 0
    have g21 := B2.free 1
    have P1 := Lib.hid (rdAb_own (K := K1) ((((HO1.out.setAt ⟨w.heap.size, 0, none⟩ (.slice U1 F1.length c1) (fun k e => by have := (World.ownsRow.lt HO1.out k e).1; simp; omega)).setAt ⟨w.heap.size, 1, none⟩ (.int .i64 K1) (fun k e => by have := (World.ownsRow.lt HO1.out k e).1; simp; omega)).setAt ⟨w.heap.size + 1, 0, none⟩ (.slice U2 F2.length c2) (fun k e => by have := (World.ownsRow.lt HO1.out k e).1; simp; omega)).setAt ⟨w.heap.size + 1, 1, none⟩ (.int .i64 K2) (fun k e => by have := (World.ownsRow.lt HO1.out k e).1; simp; omega)))
    have P2 := Lib.hid (rdAb_own (K := K2) ((((HO2.out.setAt ⟨w.heap.size, 0, none⟩ (.slice U1 F1.length c1) (fun k e => by have := (World.ownsRow.lt HO2.out k e).1; simp; omega)).setAt ⟨w.heap.size, 1, none⟩ (.int .i64 K1) (fun k e => by have := (World.ownsRow.lt HO2.out k e).1; simp; omega)).setAt ⟨w.heap.size + 1, 0, none⟩ (.slice U2 F2.length c2) (fun k e => by have := (World.ownsRow.lt HO2.out k e).1; simp; omega)).setAt ⟨w.heap.size + 1, 1, none⟩ (.int .i64 K2) (fun k e => by have := (World.ownsRow.lt HO2.out k e).1; simp; omega)))
    have P3 := Lib.hid (Below.drew ((((L5.setCell (p := ⟨w.heap.size, 0, none⟩) (by simp) (.slice U1 F1.length c1)).setCell (p := ⟨w.heap.size, 1, none⟩) (by simp) (.int .i64 K1)).setCell (p := ⟨w.heap.size + 1, 0, none⟩) (by simp) (.slice U2 F2.length c2)).setCell (p := ⟨w.heap.size + 1, 1, none⟩) (by simp) (.int .i64 K2)))
    go_region
    go_wp2_with (fail)
    refine bodyPost_ret (v := .tuple #[.agg #[.slice U1 F1.length c1, .int .i64 K1], .agg #[.slice U2 F2.length c2, .int .i64 K2]]) (by simp [results, Try.results6, go_sem, r1l, r2l, r10, r11, r20, r21]) rfl ?_
    exact ⟨_, _, _, _, rfl, P1.out, P2.out, P3.out⟩
end Go.Proofs.Yteplidajodaklaa
