/- The walk of the law of homomorphisms between finite abelian groups. -/
import Derived.Test.YteplidajodaklaaHomA
import Derived.Test.YteplidajodaklaaDice
import Derived.Test.YteplidajodaklaaDrAb
import Derived.Test.YteplidajodaklaaDrAd
import Derived.Test.YteplidajodaklaaDrAe
namespace Go.Proofs.Yteplidajodaklaa
open Go.RowKit
set_option linter.unusedVariables false
set_option linter.unusedSimpArgs false
theorem rdB_below {w w' : World} {A : Option Addr} {len : Nat} (h : RdB w w.heap.size A len) (hb : Below w.heap.size w w') : RdB w' w'.heap.size A len := fun j hj => by
  obtain ⟨g, o, b, h1, h2, h3, h4⟩ := h j hj
  exact ⟨g, o, b, h1, by have := hb.size; omega, (hb.cell h2).trans h3, h4⟩
theorem homs_draw (A : Option Addr) (len cap : Nat) (w : World) (hB : RdB w w.heap.size A len) (hlen : len ≤ 4096) : Calls Try.prog 6 #[.slice A len cap] w (TwoAb w) :=
  drawHoms_any A len cap w hB hlen fun q W hs => great_any q A len cap W hs fun W' hs' => draw_any q A len cap W' hs' fun W2 hs2 => good_any q A len cap W2 hs2
/-- Twice the same count, in one step. -/
theorem roll_below (A : Option Addr) (len cap : Nat) (w : World) (hB : RdB w w.heap.size A len) (hlen : len ≤ 4096) : Calls Try.prog 9 #[.slice A len cap, .int .u64 404] w fun e w' => e = .returned (.pointer (some ⟨w.heap.size, 0, none⟩)) ∧ Below w.heap.size w w' ∧ Hid (∃ h, Dice w' w.heap.size A len cap 0 h ∧ RdB w' w.heap.size A len) :=
  (roll_any A len cap 404 w hB hlen).mono fun e w' ⟨h1, ⟨h, h2⟩, h3, h4⟩ => ⟨h1, h4, Lib.hid ⟨h, h2, h3⟩⟩
theorem below_30 (q : Nat) (A : Option Addr) (len cap : Nat) (w : World) (hd : ∃ h, Dice w q A len cap 0 h ∧ RdB w q A len) (hlen : len ≤ 4096) :
    Calls Try.prog 10 #[.pointer (some ⟨q, 0, none⟩), .int .i64 30] w fun e w' => (∃ r, e = .returned (.int .i64 r) ∧ 0 ≤ r ∧ r < 30) ∧ Below q w w' := by
  obtain ⟨h, hd, hB⟩ := hd
  have hq := hd.lt
  refine (below_any q A len cap 0 h 30 w hd hB hlen (by omega) (by omega)).mono ?_
  rintro e w' ⟨h1, h2⟩
  exact ⟨h1, (Below.refl _ _).grown h2 (by omega) (fun k hk => by simp at hk; omega)⟩
set_option maxRecDepth 100000 in
set_option maxHeartbeats 4000000 in
theorem fnAbelianHoms_walk (a0 : Option Addr) (len0 cap0 : Nat) (z0 : List Int) (w : World) (w0 : IsRow .u8 w a0 len0 cap0 z0) :
    Calls Try.prog 3 #[.slice a0 len0 cap0] w fun e w' => e = .returned (.bool true) ∧ Below w.heap.size w w' := by
  have hB := Lib.hid w0.rdB
  clear w0
  by_cases hl : 4096 < len0
  · go_enter Try.func3, Try.ntmps3
    go_wp2_with (go_at_call 5; refine (big_yes _ _ _ _ hl).mono ?_; rintro e w' ⟨rfl, rfl⟩)
    go_ret
    exact ⟨rfl, Below.refl _ _⟩
  · have hl' : len0 ≤ 4096 := by omega
    clear hl
    go_enter Try.func3, Try.ntmps3
    go_wp2_with (fail)
    refine (big_no _ _ _ _ hl').mono ?_; rintro e w' ⟨rfl, rfl⟩
    go_wp2_with (fail)
    refine (homs_draw _ _ _ _ hB.out hl').mono ?_; rintro e w1 ⟨v0, v1, x, y, rfl, h0, h1, L⟩
    obtain ⟨A0, n0, c0, rfl, r0⟩ := spAb_form h0
    obtain ⟨A1, n1, c1, rfl, r1⟩ := spAb_form h1
    have BA : Blk ((w1.alloc (.cells [.slice A0 n0 c0, (.int .i64 x.K : Value)].toArray 26)).alloc (.cells [.slice A1 n1 c1, (.int .i64 y.K : Value)].toArray 26)) w1.heap.size [.slice A0 n0 c0, .int .i64 x.K] 26 := (Blk.new w1 _ _).alloc _
    have BB : Blk ((w1.alloc (.cells [.slice A0 n0 c0, (.int .i64 x.K : Value)].toArray 26)).alloc (.cells [.slice A1 n1 c1, (.int .i64 y.K : Value)].toArray 26)) (w1.heap.size + 1) [.slice A1 n1 c1, .int .i64 y.K] 26 := by have := Blk.new (w1.alloc (.cells [.slice A0 n0 c0, (.int .i64 x.K : Value)].toArray 26)) [.slice A1 n1 c1, .int .i64 y.K] 26; rwa [World.size_alloc] at this
    have G : Below w1.heap.size w1 ((w1.alloc (.cells [.slice A0 n0 c0, (.int .i64 x.K : Value)].toArray 26)).alloc (.cells [.slice A1 n1 c1, (.int .i64 y.K : Value)].toArray 26)) := by go_grown
    have R0 := Lib.hid (spAb.rd_below h0 G)
    have R1 := Lib.hid (spAb.rd_below h1 G)
    replace L := bstep L L.size G
    clear h0 h1 r0 r1 G
    obtain ⟨aa, aa0, aa1⟩ := BA.c2
    obtain ⟨bb, bb0, bb1⟩ := BB.c2
    go_wp2_with (fail)
    refine (iCountAbelianHoms_any _ _ x y _ R0.out R1.out).mono ?_; rintro e w2 ⟨rfl, hb⟩
    replace L := bstep L L.size hb
    replace BA := BA.below hb
    replace BB := BB.below hb
    replace R0 := Lib.hid (spAb.rd_below R0.out hb)
    replace R1 := Lib.hid (spAb.rd_below R1.out hb)
    clear aa aa0 aa1 bb bb0 bb1 hb
    obtain ⟨aa, aa0, aa1⟩ := BA.c2
    obtain ⟨bb, bb0, bb1⟩ := BB.c2
    go_wp2_with (fail)
    refine (sCountAbelianHoms_any _ _ x y _ R0.out R1.out).mono ?_; rintro e w3 ⟨rfl, hb⟩
    replace L := bstep L L.size hb
    replace BA := BA.below hb
    replace BB := BB.below hb
    replace R0 := Lib.hid (spAb.rd_below R0.out hb)
    replace R1 := Lib.hid (spAb.rd_below R1.out hb)
    clear aa aa0 aa1 bb bb0 bb1 hb
    obtain ⟨aa, aa0, aa1⟩ := BA.c2
    obtain ⟨bb, bb0, bb1⟩ := BB.c2
    by_cases hc : cCountAbelianHoms x y = 0
    · obtain ⟨hx, hy, ky⟩ := hom_good hc
      rw [hc]
      have HON := Lib.hid (fun (k : Int) (a : 2 ≤ k) (b : k ≤ 1000000) => hom_one hy ky a b)
      by_cases hk : x.K = 0
      · have HSY := Lib.hid (hom_sym hx hy hk ky)
        have HCC := Lib.hid hc
        clear hc hx hy ky
        go_wp2_with (fail)
        have R0' := R0.out
        rw [hk] at R0'
        refine (iCountAbelianHoms_any _ _ y x _ R1.out R0').mono ?_; rintro e w4 ⟨rfl, hb⟩
        rw [HSY.out.1, HSY.out.2, HCC.out]
        clear R0' HSY HCC
        replace L := bstep L L.size hb
        replace BA := BA.below hb
        replace BB := BB.below hb
        replace R0 := Lib.hid (spAb.rd_below R0.out hb)
        replace R1 := Lib.hid (spAb.rd_below R1.out hb)
        clear aa aa0 aa1 bb bb0 bb1 hb
        obtain ⟨aa, aa0, aa1⟩ := BA.c2
        obtain ⟨bb, bb0, bb1⟩ := BB.c2
        have HB4 := Lib.hid (rdB_below hB.out L)
        go_wp2_with (fail)
        refine (roll_below _ _ _ _ HB4.out hl').mono ?_; rintro e w6 ⟨rfl, hb6, HD6⟩
        clear aa aa0 aa1 bb bb0 bb1
        go_wp2_with (fail)
        refine (below_30 _ _ _ _ _ HD6.out hl').mono ?_; rintro e w7 ⟨⟨r, rfl, r0, r1⟩, hb7⟩
        have hb := hb6.trans hb7
        clear hb6 hb7 HD6 HB4
        replace L := bstep L L.size hb
        replace BA := BA.below hb
        replace BB := BB.below hb
        replace R0 := Lib.hid (spAb.rd_below R0.out hb)
        replace R1 := Lib.hid (spAb.rd_below R1.out hb)
        clear hb
        obtain ⟨aa, aa0, aa1⟩ := BA.c2
        obtain ⟨bb, bb0, bb1⟩ := BB.c2
        go_wp2_with (fail)
        refine (iCountSolutions_any _ y _ _ R1.out).mono ?_; rintro e w8 ⟨rfl, hb⟩
        replace L := bstep L L.size hb
        replace BA := BA.below hb
        replace BB := BB.below hb
        replace R0 := Lib.hid (spAb.rd_below R0.out hb)
        replace R1 := Lib.hid (spAb.rd_below R1.out hb)
        clear aa aa0 aa1 bb bb0 bb1 hb
        obtain ⟨aa, aa0, aa1⟩ := BA.c2
        obtain ⟨bb, bb0, bb1⟩ := BB.c2
        go_wp2_with (fail)
        have hb : Below w8.heap.size w8 (w8.alloc (.cells #[.int .i64 (2 + r)] 2)) := (Below.refl _ _).alloc (Nat.le_refl _) _
        replace L := bstep L L.size hb
        replace BA := BA.below hb
        replace BB := BB.below hb
        replace R0 := Lib.hid (spAb.rd_below R0.out hb)
        replace R1 := Lib.hid (spAb.rd_below R1.out hb)
        clear aa aa0 aa1 bb bb0 bb1 hb
        obtain ⟨aa, aa0, aa1⟩ := BA.c2
        obtain ⟨bb, bb0, bb1⟩ := BB.c2
        have RK : spAb.rd (w8.alloc (.cells #[.int .i64 (2 + r)] 2)) (.agg #[.slice (some ⟨w8.heap.size, 0, none⟩) 1 1, .int .i64 0]) ⟨[2 + r], 0⟩ := ⟨_, rfl, _, 1, rfl, by unfold maxLen; simp, RdI.lit w8 [2 + r]⟩
        have ho := HON.out (2 + r) (by omega) (by omega)
        refine (iCountAbelianHoms_any _ _ ⟨[2 + r], 0⟩ y _ RK R1.out).mono ?_; rintro e w9 ⟨rfl, hb⟩
        rw [ho.1, ho.2]
        clear ho RK
        replace L := bstep L L.size hb
        replace BA := BA.below hb
        replace BB := BB.below hb
        replace R0 := Lib.hid (spAb.rd_below R0.out hb)
        replace R1 := Lib.hid (spAb.rd_below R1.out hb)
        clear aa aa0 aa1 bb bb0 bb1 hb
        obtain ⟨aa, aa0, aa1⟩ := BA.c2
        obtain ⟨bb, bb0, bb1⟩ := BB.c2
        go_wp2_with (fail)
        refine (sCountSolutions_any _ y _ _ R1.out).mono ?_; rintro e w10 ⟨rfl, hb⟩
        replace L := bstep L L.size hb
        replace BA := BA.below hb
        replace BB := BB.below hb
        replace R0 := Lib.hid (spAb.rd_below R0.out hb)
        replace R1 := Lib.hid (spAb.rd_below R1.out hb)
        clear aa aa0 aa1 bb bb0 bb1 hb
        obtain ⟨aa, aa0, aa1⟩ := BA.c2
        obtain ⟨bb, bb0, bb1⟩ := BB.c2
        go_wp2_with (fail)
        go_ret
        exact ⟨rfl, L⟩
      · have hk' : (x.K == 0) = false := by simpa using hk
        clear hc hx hy ky
        have HB4 := Lib.hid (rdB_below hB.out L)
        go_wp2_with (fail)
        refine (roll_below _ _ _ _ HB4.out hl').mono ?_; rintro e w6 ⟨rfl, hb6, HD6⟩
        clear aa aa0 aa1 bb bb0 bb1
        go_wp2_with (fail)
        refine (below_30 _ _ _ _ _ HD6.out hl').mono ?_; rintro e w7 ⟨⟨r, rfl, r0, r1⟩, hb7⟩
        have hb := hb6.trans hb7
        clear hb6 hb7 HD6 HB4
        replace L := bstep L L.size hb
        replace BA := BA.below hb
        replace BB := BB.below hb
        replace R0 := Lib.hid (spAb.rd_below R0.out hb)
        replace R1 := Lib.hid (spAb.rd_below R1.out hb)
        clear hb
        obtain ⟨aa, aa0, aa1⟩ := BA.c2
        obtain ⟨bb, bb0, bb1⟩ := BB.c2
        go_wp2_with (fail)
        refine (iCountSolutions_any _ y _ _ R1.out).mono ?_; rintro e w8 ⟨rfl, hb⟩
        replace L := bstep L L.size hb
        replace BA := BA.below hb
        replace BB := BB.below hb
        replace R0 := Lib.hid (spAb.rd_below R0.out hb)
        replace R1 := Lib.hid (spAb.rd_below R1.out hb)
        clear aa aa0 aa1 bb bb0 bb1 hb
        obtain ⟨aa, aa0, aa1⟩ := BA.c2
        obtain ⟨bb, bb0, bb1⟩ := BB.c2
        go_wp2_with (fail)
        have hb : Below w8.heap.size w8 (w8.alloc (.cells #[.int .i64 (2 + r)] 2)) := (Below.refl _ _).alloc (Nat.le_refl _) _
        replace L := bstep L L.size hb
        replace BA := BA.below hb
        replace BB := BB.below hb
        replace R0 := Lib.hid (spAb.rd_below R0.out hb)
        replace R1 := Lib.hid (spAb.rd_below R1.out hb)
        clear aa aa0 aa1 bb bb0 bb1 hb
        obtain ⟨aa, aa0, aa1⟩ := BA.c2
        obtain ⟨bb, bb0, bb1⟩ := BB.c2
        have RK : spAb.rd (w8.alloc (.cells #[.int .i64 (2 + r)] 2)) (.agg #[.slice (some ⟨w8.heap.size, 0, none⟩) 1 1, .int .i64 0]) ⟨[2 + r], 0⟩ := ⟨_, rfl, _, 1, rfl, by unfold maxLen; simp, RdI.lit w8 [2 + r]⟩
        have ho := HON.out (2 + r) (by omega) (by omega)
        refine (iCountAbelianHoms_any _ _ ⟨[2 + r], 0⟩ y _ RK R1.out).mono ?_; rintro e w9 ⟨rfl, hb⟩
        rw [ho.1, ho.2]
        clear ho RK
        replace L := bstep L L.size hb
        replace BA := BA.below hb
        replace BB := BB.below hb
        replace R0 := Lib.hid (spAb.rd_below R0.out hb)
        replace R1 := Lib.hid (spAb.rd_below R1.out hb)
        clear aa aa0 aa1 bb bb0 bb1 hb
        obtain ⟨aa, aa0, aa1⟩ := BA.c2
        obtain ⟨bb, bb0, bb1⟩ := BB.c2
        go_wp2_with (fail)
        refine (sCountSolutions_any _ y _ _ R1.out).mono ?_; rintro e w10 ⟨rfl, hb⟩
        replace L := bstep L L.size hb
        replace BA := BA.below hb
        replace BB := BB.below hb
        replace R0 := Lib.hid (spAb.rd_below R0.out hb)
        replace R1 := Lib.hid (spAb.rd_below R1.out hb)
        clear aa aa0 aa1 bb bb0 bb1 hb
        obtain ⟨aa, aa0, aa1⟩ := BA.c2
        obtain ⟨bb, bb0, bb1⟩ := BB.c2
        go_wp2_with (fail)
        go_ret
        exact ⟨rfl, L⟩
    · have hc' : (cCountAbelianHoms x y == 0) = false := by simpa using hc
      generalize cCountAbelianHoms x y = cc at *
      generalize rCountAbelianHoms x y = rr at *
      go_wp2_with (fail)
      go_ret
      exact ⟨rfl, L⟩
end Go.Proofs.Yteplidajodaklaa
