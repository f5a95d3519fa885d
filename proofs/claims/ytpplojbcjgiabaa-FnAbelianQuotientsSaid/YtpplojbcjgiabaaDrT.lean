/- The source of drawn numbers: what draws and new blocks leave of it. -/
import Derived.Test.YtpplojbcjgiabaaDrA
import Derived.Test.YtpplojbcjgiabaaKB
namespace Go.Proofs.Ytpplojbcjgiabaa
open Go.RowKit
set_option linter.unusedVariables false
set_option linter.unusedSimpArgs false
theorem SrcI.chg {w w' : World} {q : Nat} {A : Option Addr} {len cap : Nat} {S : Nat → Prop} (h : SrcI w q A len cap) (hc : ChgS S w w') (hS : ∀ k, S k → q < k) : SrcI w' q A len cap := by
  obtain ⟨hB, hl, k, sd, hs⟩ := h
  have e := hc.block q hs.lt (fun h => by have := hS q h; omega)
  refine ⟨fun j hj => ?_, hl, k, sd, ⟨(World.cell?_of_block (w := w) e).trans hs.c0, (World.cell?_of_block (w := w) e).trans hs.c1, (World.cell?_of_block (w := w) e).trans hs.c2, (World.frozen?_of_block (w := w) e).trans hs.f1, (World.frozen?_of_block (w := w) e).trans hs.f2, by have := hc.size; have := hs.lt; omega, hs.kl, hs.s0, hs.s1⟩⟩
  obtain ⟨g, o, b, hA, hlt, hcell, h0, h1⟩ := hB j hj
  have := hs.lt
  exact ⟨g, o, b, hA, hlt, (World.cell?_of_block (w := w) (hc.block g (by omega) (fun h => by have := hS g h; omega))).trans hcell, h0, h1⟩
theorem SrcI.drew {w : World} {q : Nat} {A : Option Addr} {len cap : Nat} (h : SrcI w q A len cap) : SrcI w.drew q A len cap :=
  h.chg (S := fun _ => False) (ChgS.of_grown (grown_drew w none) (fun k e => by simp at e)) (fun k h => h.elim)
/-- A number is drawn: only the source's block changes. -/
def DrawnS (w : World) (q : Nat) (A : Option Addr) (len cap : Nat) (R : Int → Prop) (e : Ending) (w' : World) : Prop :=
  ∃ r : Int, e = .returned (.int .i64 r) ∧ R r ∧ SrcI w' q A len cap ∧ ChgS (fun k => k = q) w w'
theorem nextS (q : Nat) (A : Option Addr) (len cap : Nat) (n : Int) (w : World) (hs : SrcI w q A len cap) (hn : 1 ≤ n) (hn2 : n ≤ 1000000000) :
    Calls Try.prog 27 #[.pointer (some ⟨q, 0, none⟩), .int .i64 n] w (DrawnS w q A len cap fun r => 0 ≤ r ∧ r < n) := by
  by_cases h : n = 1
  · subst h
    refine (next_one q A len cap w hs).mono ?_
    rintro e w' ⟨r, rfl, h1, h2, h3⟩
    exact ⟨r, rfl, ⟨by omega, by omega⟩, h2, ChgS.of_grown h3 fun k e => (Option.some.inj e).symm⟩
  · refine (next_any q A len cap n w hs (by omega) hn2).mono ?_
    rintro e w' ⟨r, rfl, h1, h2, h3⟩
    exact ⟨r, rfl, h1, h2, ChgS.of_grown h3 fun k e => (Option.some.inj e).symm⟩
theorem chgS_alloc {S : Nat → Prop} (w : World) (o : Obj) : ChgS S w (w.alloc o) := ChgS.of_grown (World.grownBy_alloc w o none) (fun k e => by simp at e)
/-- .. and then in blocks that are new since, or in the same. -/
theorem ChgS.on {S T : Nat → Prop} {a b c : World} (h : ChgS S a b) (k : ChgS T b c) (hT : ∀ i, T i → S i ∨ a.heap.size ≤ i) : ChgS S a c :=
  ⟨k.os.trans h.os, k.tape.trans h.tape, k.output.trans h.output, Nat.le_trans h.size k.size, fun i hi hr => (k.block i (by have := h.size; omega) (fun ht => by rcases hT i ht with g | g; exact hr g; omega)).trans (h.block i hi hr)⟩


end Go.Proofs.Ytpplojbcjgiabaa
