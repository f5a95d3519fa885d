/- Contracts of the source of drawn numbers: what is drawn is some number within its bounds; only the source's own block changes. -/
import Derived.Test.YtpplojbcjgiabaaKB
import Derived.Deep.RegionHeld3
import Derived.Deep.RegionWith
import Derived.BigRegion
import Derived.IntWalk
import Derived.Handy
import Derived.Maps.AppendAt
namespace Go.Proofs.Ytpplojbcjgiabaa
open Go.RowKit
set_option linter.unusedVariables false
set_option linter.unusedSimpArgs false

/-- The bytes of the code, in blocks below B. -/
def RdB (w : World) (B : Nat) (A : Option Addr) (len : Nat) : Prop :=
  ∀ j, j < len → ∃ g o b, A = some ⟨g, o, none⟩ ∧ g < B ∧ w.cell? ⟨g, o + j, none⟩ = some (.int .u8 b) ∧ 0 ≤ b ∧ b ≤ 255
/-- The source: its code, how far it has been read, its seed. -/
structure Src (w : World) (q : Nat) (A : Option Addr) (len cap : Nat) (k : Nat) (sd : Int) : Prop where
  c0 : w.cell? ⟨q, 0, none⟩ = some (.slice A len cap)
  c1 : w.cell? ⟨q, 1, none⟩ = some (.int .i64 (k : Int))
  c2 : w.cell? ⟨q, 2, none⟩ = some (.int .i64 sd)
  f1 : w.frozen? ⟨q, 1, none⟩ = false
  f2 : w.frozen? ⟨q, 2, none⟩ = false
  lt : q < w.heap.size
  kl : k ≤ len
  s0 : 0 ≤ sd
  s1 : sd < 2147483647
/-- Some source at q, its code readable below q. -/
def SrcI (w : World) (q : Nat) (A : Option Addr) (len cap : Nat) : Prop := RdB w q A len ∧ len ≤ 1000000000 ∧ ∃ k sd, Src w q A len cap k sd
theorem RdB.grown {w w' : World} {B : Nat} {A : Option Addr} {len : Nat} {row : Option Nat} (h : RdB w B A len) (hg : w.grownBy w' row) (hr : ∀ r, row = some r → B ≤ r) : RdB w' B A len := by
  intro j hj
  obtain ⟨g, o, b, hA, hlt, hc, h0, h1⟩ := h j hj
  exact ⟨g, o, b, hA, hlt, hg.cell hc (fun e => by have := hr g e.symm; omega), h0, h1⟩
theorem Src.kept {w w' : World} {q : Nat} {A : Option Addr} {len cap k : Nat} {sd : Int} {row : Option Nat} (h : Src w q A len cap k sd) (hg : w.grownBy w' row) (hr : row ≠ some q) : Src w' q A len cap k sd := by
  have e := hg.block q h.lt (Ne.symm hr)
  exact ⟨(World.cell?_of_block (w := w) e).trans h.c0, (World.cell?_of_block (w := w) e).trans h.c1, (World.cell?_of_block (w := w) e).trans h.c2,
    (World.frozen?_of_block (w := w) e).trans h.f1, (World.frozen?_of_block (w := w) e).trans h.f2, by have := hg.size; have := h.lt; omega, h.kl, h.s0, h.s1⟩
theorem SrcI.kept {w w' : World} {q : Nat} {A : Option Addr} {len cap : Nat} {row : Option Nat} (h : SrcI w q A len cap) (hg : w.grownBy w' row) (hr : ∀ r, row = some r → q < r) : SrcI w' q A len cap := by
  obtain ⟨h1, h2, k, sd, h3⟩ := h
  exact ⟨h1.grown hg (fun r e => by have := hr r e; omega), h2, k, sd, h3.kept hg (fun e => by have := hr q e; omega)⟩
theorem SrcI.below {w w' : World} {q : Nat} {A : Option Addr} {len cap : Nat} (h : SrcI w q A len cap) (hb : Below w.heap.size w w') : SrcI w' q A len cap :=
  h.kept (row := none) ⟨hb.os, hb.tape, hb.output, hb.size, fun k hk _ => hb.block k hk⟩ (fun r e => by simp at e)
theorem grown_drewN (w : World) (n : Nat) (row : Option Nat) : w.grownBy (w.drewN n) row := ⟨rfl, rfl, rfl, Nat.le_refl _, fun _ _ _ => rfl⟩
theorem Src.drew {w : World} {q : Nat} {A : Option Addr} {len cap k : Nat} {sd : Int} (h : Src w q A len cap k sd) : Src w.drew q A len cap k sd := ⟨h.c0, h.c1, h.c2, h.f1, h.f2, h.lt, h.kl, h.s0, h.s1⟩
theorem grown_drew (w : World) (row : Option Nat) : w.grownBy w.drew row := ⟨rfl, rfl, rfl, Nat.le_refl _, fun _ _ _ => rfl⟩
theorem grown_set (w : World) (q i : Nat) (v : Value) : w.grownBy (w.setCell ⟨q, i, none⟩ v) (some q) :=
  ⟨rfl, rfl, rfl, by simp [World.setCell], fun k _ hk => Below.heap_setCell _ _ _ _ (fun e => hk (by simp [e]))⟩
theorem Src.seed {w : World} {q : Nat} {A : Option Addr} {len cap k : Nat} {sd : Int} (h : Src w q A len cap k sd) {s : Int} (h0 : 0 ≤ s) (h1 : s < 2147483647) : Src (w.setCell ⟨q, 2, none⟩ (.int .i64 s)) q A len cap k s :=
  ⟨by rw [World.cell?_setCell_other _ _ _ _ (by simp)]; exact h.c0, by rw [World.cell?_setCell_other _ _ _ _ (by simp)]; exact h.c1, World.cell?_setCell_same _ _ _ h.c2, by simp [h.f1], by simp [h.f2], by simpa [World.setCell] using h.lt, h.kl, h0, h1⟩
theorem Src.step {w : World} {q : Nat} {A : Option Addr} {len cap k : Nat} {sd : Int} (h : Src w q A len cap k sd) (hk : k < len) : Src (w.setCell ⟨q, 1, none⟩ (.int .i64 ((k : Int) + 1))) q A len cap (k + 1) sd :=
  ⟨by rw [World.cell?_setCell_other _ _ _ _ (by simp)]; exact h.c0, by rw [World.cell?_setCell_same _ _ _ h.c1]; simp, by rw [World.cell?_setCell_other _ _ _ _ (by simp)]; exact h.c2, by simp [h.f1], by simp [h.f2], by simpa [World.setCell] using h.lt, hk, h.s0, h.s1⟩
theorem Src.drewN {w : World} {q : Nat} {A : Option Addr} {len cap k : Nat} {sd : Int} (h : Src w q A len cap k sd) (n : Nat) : Src (w.drewN n) q A len cap k sd := ⟨h.c0, h.c1, h.c2, h.f1, h.f2, h.lt, h.kl, h.s0, h.s1⟩

/-- What a draw leaves. -/
def Drawn (w : World) (q : Nat) (A : Option Addr) (len cap : Nat) (R : Int → Prop) (e : Ending) (w' : World) : Prop :=
  ∃ r : Int, e = .returned (.int .i64 r) ∧ R r ∧ SrcI w' q A len cap ∧ w.grownBy w' (some q)

set_option maxHeartbeats 1000000 in
theorem next_any (q : Nat) (A : Option Addr) (len cap : Nat) (n : Int) (w : World) (hs : SrcI w q A len cap) (hn : 2 ≤ n) (hn2 : n ≤ 1000000000) :
    Calls Try.prog 27 #[.pointer (some ⟨q, 0, none⟩), .int .i64 n] w (Drawn w q A len cap fun r => 0 ≤ r ∧ r < n) := by
  obtain ⟨hB, hlen, k, sd, hs⟩ := hs
  have s0 := hs.s0
  have s1 := hs.s1
  have kl := hs.kl
  obtain ⟨t0, t1⟩ := Num.mod_bd (sd * 48271 + 71) (m := 2147483647) (by omega)
  have hs2 := hs.seed t0 t1
  have gr2 := grown_set w q 2 (.int .i64 ((sd * 48271 + 71) % 2147483647))
  have c0 := hs.c0
  have c1 := hs.c1
  have c2 := hs.c2
  have f1 := hs.f1
  have f2 := hs.f2
  by_cases hlt : k < len
  · obtain ⟨g, o, b, rfl, hg, hc, b0, b1⟩ := hB k hlt
    have hgq : g ≠ q := by omega
    have hqg : q ≠ g := by omega
    have i0 : (0 : Int) ≤ (k : Int) := by omega
    have i1 : (k : Int) < (len : Int) := by omega
    have w1 : IntKind.i64.wrap ((sd * 48271 + 71) % 2147483647 / 47 + b) = (sd * 48271 + 71) % 2147483647 / 47 + b := IntWalk.i64_in _ (by omega)
    have hs3 := hs2.step hlt
    obtain ⟨r0, r1⟩ := Num.mod_bd ((sd * 48271 + 71) % 2147483647 / 47 + b) (m := n) (by omega)
    obtain ⟨r2, r3⟩ := Num.mod_bd b (m := n) (by omega)
    have w9 : IntKind.i64.wrap (k : Int) = k := IntWalk.i64_in _ (by omega)
    have w8 : IntKind.i64.wrap ((k : Int) + 1 - 1) = k := by rw [Int.add_sub_cancel]; exact w9
    have fin : ∀ W, w.grownBy W (some q) → Src W q (some ⟨g, o, none⟩) len cap (k + 1) ((sd * 48271 + 71) % 2147483647) → ∀ r, 0 ≤ r → r < n → Drawn w q (some ⟨g, o, none⟩) len cap (fun r => 0 ≤ r ∧ r < n) (.returned (.int .i64 r)) W := fun W hg hS r h0 h1 =>
      ⟨r, rfl, ⟨h0, h1⟩, ⟨hB.grown hg (fun r e => by simp at e; omega), hlen, k + 1, _, hS⟩, hg⟩
    have FIN := Lib.hid fin
    clear fin
    by_cases h256 : n ≤ 256
    · by_cases hev : ((k : Int) + 1) % 2 = 0
      · have he : (((k : Int) + 1) % 2 == 0) = true := by simp [hev]
        clear hev
        go_enter Try.func27, Try.ntmps27
        go_wp2_with (fail)
        go_quiet (fail)
        go_wp2_with (fail)
        go_quiet (fail)
        go_wp2_with (fail)
        go_quiet (fail)
        go_wp2_with (fail)
        go_ret
        exact FIN.out _ (((gr2.trans (grown_drewN _ _ _)).trans (grown_set _ q 1 _)).trans (grown_drewN _ _ _)) (((hs2.drewN _).step hlt).drewN _) _ r2 r3
      · have he : (((k : Int) + 1) % 2 == 0) = false := by simp [hev]
        clear hev
        go_enter Try.func27, Try.ntmps27
        go_wp2_with (fail)
        go_quiet (fail)
        go_wp2_with (fail)
        go_quiet (fail)
        go_wp2_with (fail)
        go_ret
        exact FIN.out _ ((gr2.trans (grown_drewN _ _ _)).trans (grown_set _ q 1 _)) ((hs2.drewN _).step hlt) _ r0 r1
    · have h257 : decide (n ≤ 256) = false := by simp; omega
      go_enter Try.func27, Try.ntmps27
      go_wp2_with (fail)
      go_quiet (fail)
      go_wp2_with (fail)
      go_quiet (fail)
      go_wp2_with (fail)
      go_ret
      exact FIN.out _ ((gr2.trans (grown_drewN _ _ _)).trans (grown_set _ q 1 _)) ((hs2.drewN _).step hlt) _ r0 r1
  · have i1 : decide ((k : Int) < (len : Int)) = false := by simp; omega
    obtain ⟨r0, r1⟩ := Num.mod_bd ((sd * 48271 + 71) % 2147483647 / 47) (m := n) (by omega)
    go_enter Try.func27, Try.ntmps27
    go_wp2_with (fail)
    go_quiet (fail)
    go_wp2_with (fail)
    go_ret
    have gr3 := gr2.trans (grown_drewN _ nq (some q))
    exact ⟨_, rfl, ⟨r0, r1⟩, ⟨hB.grown gr3 (fun r e => by simp at e; omega), hlen, k, _, hs2.drewN nq⟩, gr3⟩

theorem next_one (q : Nat) (A : Option Addr) (len cap : Nat) (w : World) (hs : SrcI w q A len cap) :
    Calls Try.prog 27 #[.pointer (some ⟨q, 0, none⟩), .int .i64 1] w (Drawn w q A len cap fun r => r = 0) := by
  go_enter Try.func27, Try.ntmps27
  go_wp2_with (fail)
  go_ret
  exact ⟨_, rfl, rfl, hs, World.grownBy.refl _ _⟩

set_option maxHeartbeats 1000000 in
theorem from_any (A : Option Addr) (len cap : Nat) (w : World) (hB : RdB w w.heap.size A len) (hlen : len ≤ 4096) :
    Calls Try.prog 24 #[.slice A len cap] w fun e w' => e = .returned (.pointer (some ⟨w.heap.size, 0, none⟩)) ∧ SrcI w' w.heap.size A len cap ∧ Below w.heap.size w w' := by
  have hB0 : RdB (w.alloc (.cells #[.slice A len cap, .int .i64 0, .int .i64 76001] 88)) w.heap.size A len := hB.grown (row := none) (World.grownBy_alloc _ _ _) (fun r e => by simp at e)
  have S0 : Src (w.alloc (.cells #[.slice A len cap, .int .i64 0, .int .i64 76001] 88)) w.heap.size A len cap 0 76001 :=
    ⟨by simp, by simp, by simp, by simp, by simp, by simp, by omega, by omega, by omega⟩
  go_enter Try.func24, Try.ntmps24
  go_wp2_with (fail)
  go_loopw [4] (fun s4 wr => ∃ (j : Nat) (sd : Int), s4 = .int .i64 j ∧ j ≤ len ∧ RdB wr w.heap.size A len ∧ Src wr w.heap.size A len cap 0 sd ∧ Below w.heap.size w wr) (fun s4 _ => len - (intOf s4).toNat)
  case atStart => exact ⟨0, 76001, rfl, by omega, hB0, S0, (Below.refl _ _).alloc (Nat.le_refl _) _⟩
  case round =>
    obtain ⟨j, sd, rfl, hj, hr, hs, bel⟩ := hrel
    clear hB hB0 S0
    by_cases hlt : j < len
    · obtain ⟨g, o, b, rfl, hg, hc, b0, b1⟩ := hr j hlt
      have s0 := hs.s0
      have s1 := hs.s1
      have c2 := hs.c2
      have f2 := hs.f2
      have i0 : (0 : Int) ≤ (j : Int) := by omega
      have i1 : (j : Int) < (len : Int) := by omega
      obtain ⟨t0, t1⟩ := Num.mod_bd (sd * 71 + b) (m := 2147483647) (by omega)
      by_cases h64 : (j : Int) < 64
      · have h64' : decide ((j : Int) < 64) = true := by simpa using h64
        have hi1 : decide ((j : Int) < (len : Int)) = true := by simpa using i1
        have x1 : IntKind.i64.wrap (sd * 71) = sd * 71 := IntWalk.i64_in _ (by omega)
        have x2 : IntKind.i64.wrap (sd * 71 + b) = sd * 71 + b := IntWalk.i64_in _ (by omega)
        have x3 : (sd * 71 + b).tmod 2147483647 = (sd * 71 + b) % 2147483647 := Int.tmod_eq_emod_of_nonneg (by omega)
        have x4 : IntKind.i64.wrap b = b := IntWalk.i64_in _ (by omega)
        have hs2 := (hs.seed t0 t1).drew
        have gr2 := (grown_set wr w.heap.size 2 (.int .i64 ((sd * 71 + b) % 2147483647))).trans (grown_drew _ _)
        have bel2 := (bel.setCell (p := ⟨w.heap.size, 2, none⟩) (Nat.le_refl _) (.int .i64 ((sd * 71 + b) % 2147483647))).drew
        go_wp2_with (fail)
        go_region
        go_wp2_with (fail)
        exact ⟨⟨j + 1, _, by go_num, by omega, hr.grown gr2 (fun r e => by simp at e; omega), hs2, bel2⟩, by simp [intOf]; omega⟩
      · have h64' : decide ((j : Int) < 64) = false := by simpa using h64
        have hi1 : decide ((j : Int) < (len : Int)) = true := by simpa using i1
        go_wp2_with (fail)
        go_ret
        exact ⟨rfl, ⟨hr, by omega, 0, sd, hs⟩, bel⟩
    · have hi1 : decide ((j : Int) < (len : Int)) = false := by simp; omega
      go_wp2_with (fail)
      go_ret
      exact ⟨rfl, ⟨hr, by omega, 0, sd, hs⟩, bel⟩

/-- What a draw that also makes a block leaves. -/
def DrawnB (w : World) (q : Nat) (A : Option Addr) (len cap : Nat) (R : Int → Prop) (e : Ending) (w' : World) : Prop :=
  ∃ r : Int, e = .returned (.int .i64 r) ∧ R r ∧ SrcI w' q A len cap ∧ Below q w w'
theorem Drawn.to {w w' : World} {q : Nat} {A : Option Addr} {len cap : Nat} {R : Int → Prop} {e : Ending} (hq : q < w.heap.size) (h : Drawn w q A len cap R e w') : DrawnB w q A len cap R e w' := by
  obtain ⟨r, h1, h2, h3, h4⟩ := h
  exact ⟨r, h1, h2, h3, (Below.refl _ _).grown h4 (by omega) (fun k hk => by simp at hk; omega)⟩
theorem SrcI.lt {w : World} {q : Nat} {A : Option Addr} {len cap : Nat} (h : SrcI w q A len cap) : q < w.heap.size := by
  obtain ⟨_, _, k, sd, h3⟩ := h; exact h3.lt
/-- One of several numbers of a slice. -/
theorem pick_any (q : Nat) (A B : Option Addr) (len cap c : Nat) (xs : List Int) (w : World) (hs : SrcI w q A len cap) (hx : RdI w B xs) (hB : ∀ g o, B = some ⟨g, o, none⟩ → g ≠ q) (h2 : 2 ≤ xs.length) (h3 : xs.length ≤ 1000000) :
    Calls Try.prog 56 #[.pointer (some ⟨q, 0, none⟩), .slice B xs.length c] w (DrawnB w q A len cap fun _ => True) := by
  have hq := hs.lt
  go_enter Try.func56, Try.ntmps56
  go_wp2_with (fail)
  refine (next_any q A len cap _ _ hs (by omega) (by omega)).mono ?_
  rintro e w1 ⟨r, rfl, ⟨r0, r1⟩, hs1, hg1⟩
  obtain ⟨i, rfl⟩ := Int.eq_ofNat_of_zero_le r0
  obtain ⟨g, o, rfl, hg, hc⟩ := (hx.grown hg1 (fun g o e he => hB g o e (by simpa using he))) i (by omega)
  have i0 : (0 : Int) ≤ (i : Int) := by omega
  have i1 : (i : Int) < (xs.length : Int) := by omega
  go_wp2_with (fail)
  go_ret
  exact ⟨_, rfl, trivial, hs1, (Below.refl _ _).grown hg1 (by omega) (fun k hk => by simp at hk; omega)⟩
end Go.Proofs.Ytpplojbcjgiabaa
