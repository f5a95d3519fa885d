/- The dice of the laws: a number below a bound, from a code. -/
import Derived.Test.YteplidajodaklaaDrA
import Derived.WalkSmall
namespace Go.Proofs.Yteplidajodaklaa
open Go.RowKit
set_option linter.unusedVariables false
set_option linter.unusedSimpArgs false

/-- Dice at q: the code, how far it has been read, the state. -/
structure Dice (w : World) (q : Nat) (A : Option Addr) (len cap : Nat) (k : Nat) (h : Int) : Prop where
  c0 : w.cell? ⟨q, 0, none⟩ = some (.slice A len cap)
  c1 : w.cell? ⟨q, 1, none⟩ = some (.int .i64 (k : Int))
  c2 : w.cell? ⟨q, 2, none⟩ = some (.int .u64 h)
  f1 : w.frozen? ⟨q, 1, none⟩ = false
  f2 : w.frozen? ⟨q, 2, none⟩ = false
  lt : q < w.heap.size
  kl : k ≤ len
  h0 : 0 ≤ h
  h1 : h < 18446744073709551616
theorem Dice.put {w : World} {q : Nat} {A : Option Addr} {len cap k : Nat} {h : Int} (hs : Dice w q A len cap k h) {s : Int} (h0 : 0 ≤ s) (h1 : s < 18446744073709551616) : Dice (w.setCell ⟨q, 2, none⟩ (.int .u64 s)) q A len cap k s :=
  ⟨by rw [World.cell?_setCell_other _ _ _ _ (by simp)]; exact hs.c0, by rw [World.cell?_setCell_other _ _ _ _ (by simp)]; exact hs.c1, World.cell?_setCell_same _ _ _ hs.c2, by simp [hs.f1], by simp [hs.f2], by simpa [World.setCell] using hs.lt, hs.kl, h0, h1⟩
theorem u64_bd (x : Int) : 0 ≤ IntKind.u64.wrap x ∧ IntKind.u64.wrap x < 18446744073709551616 := by
  have e : IntKind.u64.wrap x = x % 18446744073709551616 := by rfl
  rw [e]; omega
theorem Dice.drew {w : World} {q : Nat} {A : Option Addr} {len cap k : Nat} {h : Int} (hs : Dice w q A len cap k h) : Dice w.drew q A len cap k h := ⟨hs.c0, hs.c1, hs.c2, hs.f1, hs.f2, hs.lt, hs.kl, hs.h0, hs.h1⟩
theorem Dice.drewN {w : World} {q : Nat} {A : Option Addr} {len cap k : Nat} {h : Int} (hs : Dice w q A len cap k h) (n : Nat) : Dice (w.drewN n) q A len cap k h := ⟨hs.c0, hs.c1, hs.c2, hs.f1, hs.f2, hs.lt, hs.kl, hs.h0, hs.h1⟩
set_option maxHeartbeats 1000000 in
theorem roll_any (A : Option Addr) (len cap : Nat) (sd : Int) (w : World) (hB : RdB w w.heap.size A len) (hlen : len ≤ 4096) :
    Calls Try.prog 9 #[.slice A len cap, .int .u64 sd] w fun e w' => e = .returned (.pointer (some ⟨w.heap.size, 0, none⟩)) ∧ (∃ h, Dice w' w.heap.size A len cap 0 h) ∧ RdB w' w.heap.size A len ∧ Below w.heap.size w w' := by
  have HB0 : ∀ h : Int, RdB (w.alloc (.cells #[.slice A len cap, .int .i64 0, .int .u64 h] 54)) w.heap.size A len := fun h => hB.grown (row := none) (World.grownBy_alloc _ _ _) (fun r e => by simp at e)
  have D0 : ∀ h : Int, 0 ≤ h → h < 18446744073709551616 → Dice (w.alloc (.cells #[.slice A len cap, .int .i64 0, .int .u64 h] 54)) w.heap.size A len cap 0 h := fun h h0 h1 =>
    ⟨by simp, by simp, by simp, by simp, by simp, by simp, by omega, h0, h1⟩
  have H0 := Lib.hid D0
  have HB := Lib.hid HB0
  clear D0 HB0
  go_enter Try.func9, Try.ntmps9
  go_wp2_with (fail)
  go_loopw [6] (fun s6 wr => ∃ (j : Nat) (h : Int), s6 = .int .i64 j ∧ j ≤ len ∧ RdB wr w.heap.size A len ∧ Dice wr w.heap.size A len cap 0 h ∧ Below w.heap.size w wr) (fun s6 _ => len - (intOf s6).toNat)
  case atStart => exact ⟨0, _, rfl, by omega, HB.out _, H0.out _ (u64_bd _).1 (u64_bd _).2, (Below.refl _ _).alloc (Nat.le_refl _) _⟩
  case round =>
    obtain ⟨j, h, rfl, hj, hr, hs, bel⟩ := hrel
    clear hB H0 HB
    by_cases hlt : j < len
    · obtain ⟨g, o, b, rfl, hg, hc, b0, b1⟩ := hr j hlt
      have c2 := hs.c2
      have f2 := hs.f2
      have i0 : (0 : Int) ≤ (j : Int) := by omega
      have i1 : (j : Int) < (len : Int) := by omega
      have gr2 : ∀ s : Int, wr.grownBy ((wr.setCell ⟨w.heap.size, 2, none⟩ (.int .u64 s)).drew) (some w.heap.size) := fun s => (grown_set wr w.heap.size 2 (.int .u64 s)).trans (grown_drew _ _)
      go_wp2_with (fail)
      go_region
      go_wp2_with (fail)
      exact ⟨⟨j + 1, _, by go_num, by omega, hr.grown (gr2 _) (fun r e => by simp at e; omega), (hs.put (u64_bd _).1 (u64_bd _).2).drew, (bel.setCell (p := ⟨w.heap.size, 2, none⟩) (Nat.le_refl _) (.int .u64 _)).drew⟩, by simp [intOf]; omega⟩
    · have i1 : ¬ ((j : Int) < (len : Int)) := by omega
      go_wp2_with (fail)
      go_ret
      exact ⟨rfl, ⟨h, hs⟩, hr, bel⟩
theorem and_bd {E : Int} (h0 : 0 ≤ E) (h1 : E ≤ 18446744073709551615) : 0 ≤ wrap64 (bits BinOp.and IntKind.u64 E 16777215) ∧ wrap64 (bits BinOp.and IntKind.u64 E 16777215) ≤ 16777215 := by
  have h := bits_and_u64_nat E.toNat 16777215 (by omega) (by omega)
  rw [Int.toNat_of_nonneg h0] at h
  have hl : E.toNat &&& 16777215 ≤ 16777215 := Nat.and_le_right
  have e : bits BinOp.and IntKind.u64 E 16777215 = ((E.toNat &&& 16777215 : Nat) : Int) := h
  rw [e]
  have e2 : wrap64 ((E.toNat &&& 16777215 : Nat) : Int) = ((E.toNat &&& 16777215 : Nat) : Int) := by unfold wrap64; omega
  rw [e2]
  omega
set_option maxHeartbeats 1000000 in
theorem below_any (q : Nat) (A : Option Addr) (len cap k : Nat) (h n : Int) (w : World) (hs : Dice w q A len cap k h) (hB : RdB w q A len) (hlen : len ≤ 4096) (hn : 1 ≤ n) (hn2 : n ≤ 1000000000) :
    Calls Try.prog 10 #[.pointer (some ⟨q, 0, none⟩), .int .i64 n] w fun e w' => (∃ r, e = .returned (.int .i64 r) ∧ 0 ≤ r ∧ r < n) ∧ w.grownBy w' (some q) := by
  have c0 := hs.c0
  have c1 := hs.c1
  have c2 := hs.c2
  have f1 := hs.f1
  have f2 := hs.f2
  go_enter Try.func10, Try.ntmps10
  go_wp2_with (fail)
  obtain ⟨H0, H1⟩ := u64_bd (IntKind.u64.wrap (h * 6364136223846793005) + 1442695040888963407)
  have hp := hs.put H0 H1
  have gr1 := grown_set w q 2 (.int .u64 (IntKind.u64.wrap (IntKind.u64.wrap (h * 6364136223846793005) + 1442695040888963407)))
  obtain ⟨X0, X1⟩ := and_bd (E := IntKind.u64.wrap (IntKind.u64.wrap (h * 6364136223846793005) + 1442695040888963407) / 8589934592) (by omega) (by omega)
  generalize wrap64 (bits BinOp.and IntKind.u64 (IntKind.u64.wrap (IntKind.u64.wrap (h * 6364136223846793005) + 1442695040888963407) / 8589934592) 16777215) = x at *
  generalize IntKind.u64.wrap (IntKind.u64.wrap (h * 6364136223846793005) + 1442695040888963407) = H at *
  replace hB := hB.grown gr1 (fun r e => by simp at e; omega)
  generalize w.setCell ⟨q, 2, none⟩ (.int .u64 H) = w1 at *
  have n0 : n ≠ 0 := by omega
  have n00 : (n == 0) = false := by simp; omega
  clear hs c0 c1 c2 f1 f2
  have c0 := hp.c0
  have c1 := hp.c1
  have f1 := hp.f1
  by_cases hlt : k < len
  · obtain ⟨g, o, b, rfl, hg, hc, b0, b1⟩ := hB k hlt
    have i0 : (0 : Int) ≤ (k : Int) := by omega
    have i1 : (k : Int) < (len : Int) := by omega
    have t1 : (x + b).tmod n = (x + b) % n := Int.tmod_eq_emod_of_nonneg (by omega)
    have t2 := Num.mod_bd (x + b) (m := n) (by omega)
    go_region
    go_wp2_with (fail)
    go_region
    go_wp2_with (fail)
    go_ret
    exact ⟨⟨_, rfl, t2.1, t2.2⟩, gr1.trans (((grown_drew _ _).trans (grown_drew _ _)).trans (grown_set _ q 1 _))⟩
  · have i1 : ¬ ((k : Int) < (len : Int)) := by omega
    have t1 : x.tmod n = x % n := Int.tmod_eq_emod_of_nonneg (by omega)
    have t2 := Num.mod_bd x (m := n) (by omega)
    go_region
    go_wp2_with (fail)
    go_ret
    exact ⟨⟨_, rfl, t2.1, t2.2⟩, gr1.trans (grown_drew _ _)⟩
end Go.Proofs.Yteplidajodaklaa
