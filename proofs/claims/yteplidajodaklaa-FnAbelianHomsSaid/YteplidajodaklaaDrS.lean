/- Draws: only the source's own block changes; a group that is drawn in a box. -/
import Derived.Test.YteplidajodaklaaDrA
import Derived.Test.YteplidajodaklaaShAb
namespace Go.Proofs.Yteplidajodaklaa
open Go.RowKit
set_option linter.unusedVariables false
set_option linter.unusedSimpArgs false

theorem SrcI.chg {w w' : World} {q : Nat} {A : Option Addr} {len cap : Nat} {S : Nat → Prop} (h : SrcI w q A len cap) (hc : ChgS S w w') (hS : ∀ k, S k → q < k) : SrcI w' q A len cap := by
  obtain ⟨hB, hl, k, sd, hs⟩ := h
  have e := hc.block q hs.lt (fun h => by have := hS q h; omega)
  refine ⟨fun j hj => ?_, hl, k, sd, ⟨(World.cell?_of_block (w := w) e).trans hs.c0, (World.cell?_of_block (w := w) e).trans hs.c1, (World.cell?_of_block (w := w) e).trans hs.c2, (World.frozen?_of_block (w := w) e).trans hs.f1, (World.frozen?_of_block (w := w) e).trans hs.f2, by have := hc.size; have := hs.lt; omega, hs.kl, hs.s0, hs.s1⟩⟩
  obtain ⟨g, o, b, hA, hlt, hcell, h0, h1⟩ := hB j hj
  have := hs.lt
  exact ⟨g, o, b, hA, hlt, (World.cell?_of_block (w := w) (hc.block g (by omega) (fun h => by have := hS g h; omega))).trans hcell, h0, h1⟩
theorem SrcI.drew {w : World} {q : Nat} {A : Option Addr} {len cap : Nat} (h : SrcI w q A len cap) : SrcI w.drew q A len cap :=
  h.chg (S := fun _ => False) (ChgS.of_grown (grown_drew w none) (fun k e => by simp at e)) (fun k h => h.elim)
/-- A number is drawn: only the source's block changes. -/
def DrawnS (w : World) (q : Nat) (A : Option Addr) (len cap : Nat) (R : Int → Prop) (e : Ending) (w' : World) : Prop :=
  ∃ r : Int, e = .returned (.int .i64 r) ∧ R r ∧ SrcI w' q A len cap ∧ ChgS (fun k => k = q) w w'
theorem nextS (q : Nat) (A : Option Addr) (len cap : Nat) (n : Int) (w : World) (hs : SrcI w q A len cap) (hn : 1 ≤ n) (hn2 : n ≤ 1000000000) :
    Calls Try.prog 21 #[.pointer (some ⟨q, 0, none⟩), .int .i64 n] w (DrawnS w q A len cap fun r => 0 ≤ r ∧ r < n) := by
  by_cases h : n = 1
  · subst h
    refine (next_one q A len cap w hs).mono ?_
    rintro e w' ⟨r, rfl, h1, h2, h3⟩
    exact ⟨r, rfl, ⟨by omega, by omega⟩, h2, ChgS.of_grown h3 fun k e => (Option.some.inj e).symm⟩
  · refine (next_any q A len cap n w hs (by omega) hn2).mono ?_
    rintro e w' ⟨r, rfl, h1, h2, h3⟩
    exact ⟨r, rfl, h1, h2, ChgS.of_grown h3 fun k e => (Option.some.inj e).symm⟩
theorem chgS_alloc {S : Nat → Prop} (w : World) (o : Obj) : ChgS S w (w.alloc o) := ChgS.of_grown (World.grownBy_alloc w o none) (fun k e => by simp at e)
/-- .. and then in blocks that are new since, or in the same. -/
theorem ChgS.on {S T : Nat → Prop} {a b c : World} (h : ChgS S a b) (k : ChgS T b c) (hT : ∀ i, T i → S i ∨ a.heap.size ≤ i) : ChgS S a c :=
  ⟨k.os.trans h.os, k.tape.trans h.tape, k.output.trans h.output, Nat.le_trans h.size k.size, fun i hi hr => (k.block i (by have := h.size; omega) (fun ht => by rcases hT i ht with g | g; exact hr g; omega)).trans (h.block i hi hr)⟩


/-- Nothing changes where the bound is 1. -/
theorem next_eq (q : Nat) (w : World) : Calls Try.prog 21 #[.pointer (some ⟨q, 0, none⟩), .int .i64 1] w fun e w' => e = .returned (.int .i64 0) ∧ w = w' := by
  go_enter Try.func21, Try.ntmps21
  go_wp2_with (fail)
  go_ret
  exact ⟨rfl, rfl⟩
/-- A result's box, a box of the call's own, the source: w0 is the world of the call. -/
structure StB (w0 w : World) (q B : Nat) (A : Option Addr) (len cap : Nat) (vs : List Value) : Prop where
  src : SrcI w q A len cap
  r : Blk w w0.heap.size [.slice none 0 0, (.int .i64 0 : Value)] 26
  a : Blk w B vs 26
  c : ChgS (fun k => k = q) w0 w
  q : q < w0.heap.size
  b : w0.heap.size < B
section
variable {w0 w w' : World} {q B len cap : Nat} {A : Option Addr} {vs : List Value} {S : Nat → Prop}
theorem StB.chg (h : StB w0 w q B A len cap vs) (hc : ChgS S w w') (hs : SrcI w' q A len cap) (hS : ∀ k, S k → k = q ∨ (w0.heap.size < k ∧ k ≠ B)) : StB w0 w' q B A len cap vs :=
  ⟨hs, h.r.chg hc (fun g => by have := hS _ g; have := h.q; omega), h.a.chg hc (fun g => by have := hS _ g; have := h.q; have := h.b; omega),
   h.c.on hc (fun k g => by have := hS k g; omega), h.q, h.b⟩
theorem StB.draw (h : StB w0 w q B A len cap vs) (hs : SrcI w' q A len cap) (hc : ChgS (fun k => k = q) w w') : StB w0 w' q B A len cap vs := h.chg hc hs fun k g => .inl g
theorem StB.far (h : StB w0 w q B A len cap vs) (hc : ChgS S w w') (hS : ∀ k, S k → w0.heap.size < k ∧ k ≠ B) : StB w0 w' q B A len cap vs :=
  h.chg hc (h.src.chg hc fun k g => by have := hS k g; have := h.q; omega) fun k g => .inr (hS k g)
theorem StB.alloc (h : StB w0 w q B A len cap vs) (o : Obj) : StB w0 (w.alloc o) q B A len cap vs := h.far (S := fun _ => False) (chgS_alloc w o) fun k g => g.elim
theorem StB.drew (h : StB w0 w q B A len cap vs) : StB w0 w.drew q B A len cap vs := h.far (S := fun _ => False) (ChgS.of_grown (grown_drew w none) fun k e => by simp at e) fun k g => g.elim
theorem StB.drewN (h : StB w0 w q B A len cap vs) (n : Nat) : StB w0 (w.drewN n) q B A len cap vs := h.far (S := fun _ => False) (ChgS.of_grown (grown_drewN w n none) fun k e => by simp at e) fun k g => g.elim
theorem StB.set (h : StB w0 w q B A len cap vs) (i : Nat) (u : Value) : StB w0 (w.setCell ⟨B, i, none⟩ u) q B A len cap (vs.set i u) :=
  ⟨h.src.chg (ChgS.set w ⟨B, i, none⟩ u) (fun k g => by have := h.q; have := h.b; simp at g; omega), h.r.other (by have := h.b; simp; omega) u, h.a.set i u,
   h.c.on (ChgS.set w ⟨B, i, none⟩ u) (fun k g => .inr (by have := h.b; simp at g; omega)), h.q, h.b⟩
/-- A slice in blocks behind H, none of them B. -/
def OwnD (w : World) (H B : Nat) (v : Value) (F : List Int) : Prop := OwnI w (H + 1) v F ∧ ∀ k, v.ownBlock = some k → k ≠ B
theorem OwnD.chg {H : Nat} {v : Value} {F : List Int} (h : OwnD w H B v F) (hc : ChgS S w w') (hS : ∀ k, S k → k ≤ H ∨ k = B) : OwnD w' H B v F :=
  ⟨ownsRow_keep h.1 fun k e => by
    obtain ⟨h1, h2⟩ := World.ownsRow.lt h.1 k e
    exact hc.block k h2 (fun hk => by have := hS k hk; have := h.2 k e; omega), h.2⟩
theorem OwnD.alloc {H : Nat} {v : Value} {F : List Int} (h : OwnD w H B v F) (o : Obj) : OwnD (w.alloc o) H B v F := ⟨h.1.alloc o, h.2⟩
theorem OwnD.set {H : Nat} {v : Value} {F : List Int} (h : OwnD w H B v F) (i : Nat) (u : Value) : OwnD (w.setCell ⟨B, i, none⟩ u) H B v F :=
  h.chg (ChgS.set w ⟨B, i, none⟩ u) fun k g => .inr g
theorem OwnD.push {H : Nat} {v v3 : Value} {F : List Int} {x : Int} (h : ∀ k, v.ownBlock = some k → k ≠ B) (hB : B < w.heap.size) (own3 : w'.ownsRow (H + 1) 2 1 v3 (F.length + 1) (F.map (Value.int .i64) ++ [.int .i64 x])) (at3 : v3.ownBlock = v.ownBlock ∨ v3.ownBlock = some w.heap.size) : OwnD w' H B v3 (F ++ [x]) :=
  ⟨OwnI.snoc own3, fun k e => by
    rcases at3 with g | g
    · exact h k (g ▸ e)
    · rw [g] at e; have := Option.some.inj e; omega⟩
theorem OwnD.far {H : Nat} {v : Value} {F : List Int} (h : OwnD w H B v F) : ∀ k, v.ownBlock = some k → H < k ∧ k ≠ B := fun k e => ⟨(World.ownsRow.lt h.1 k e).1, h.2 k e⟩
theorem StB.pushed {U U3 : Option Addr} {c c3 : Nat} {F : List Int} {K : Int} (x : Int) (h : StB w0 w q B A len cap [.slice U F.length c, .int .i64 K]) : StB w0 (w.setCell ⟨B, 0, none⟩ (.slice U3 (F.length + 1) c3)) q B A len cap [.slice U3 (F ++ [x]).length c3, .int .i64 K] := by
  rw [show (F ++ [x]).length = F.length + 1 by simp]
  exact h.set 0 (.slice U3 (F.length + 1) c3)
theorem OwnD.pushed {H : Nat} {U3 : Option Addr} {c3 : Nat} {F : List Int} {x : Int} (h : OwnD w H B (.slice U3 (F.length + 1) c3) (F ++ [x])) (u : Value) : OwnD (w.setCell ⟨B, 0, none⟩ u) H B (.slice U3 (F ++ [x]).length c3) (F ++ [x]) := by
  rw [show (F ++ [x]).length = F.length + 1 by simp]
  exact h.set 0 u
theorem OwnD.lit {H : Nat} (w : World) (hB : B < w.heap.size) (hH : H < w.heap.size) (xs : List Int) (hl : xs.length ≤ 1000000) : OwnD (w.alloc (.cells (xs.map (Value.int .i64)).toArray 2)) H B (.slice (some ⟨w.heap.size, 0, none⟩) xs.length xs.length) xs :=
  ⟨OwnI.lit w xs hH hl, fun k e => by
    have : k = w.heap.size := by
      by_cases h : xs.length = 0
      · simp [Value.ownBlock, h] at e; omega
      · simp [Value.ownBlock, h] at e; omega
    omega⟩
/-- What is left of a drawn group. -/
def DrawnAn (m : Nat) (w : World) (q : Nat) (A : Option Addr) (len cap : Nat) (e : Ending) (w' : World) : Prop :=
  ∃ U c F K, e = .returned (.agg #[.slice U F.length c, .int .i64 K]) ∧ OwnI w' (w.heap.size + 1) (.slice U F.length c) F ∧ F.length ≤ m ∧ SrcI w' q A len cap ∧ ChgS (fun k => k = q) w w'
def DrawnAb (w : World) (q : Nat) (A : Option Addr) (len cap : Nat) (e : Ending) (w' : World) : Prop := DrawnAn 100 w q A len cap e w'
theorem StB.fin {m : Nat} {U : Option Addr} {c : Nat} {F : List Int} {K : Int} (h : StB w0 w q B A len cap [.slice U F.length c, .int .i64 K]) (o : OwnD w w0.heap.size B (.slice U F.length c) F) (hl : F.length ≤ m) :
    DrawnAn m w0 q A len cap (.returned (.agg #[.slice U F.length c, .int .i64 K])) ((w.setCell ⟨w0.heap.size, 0, none⟩ (.slice U F.length c)).setCell ⟨w0.heap.size, 1, none⟩ (.int .i64 K)) := by
  have hc : ∀ {v : World} (i : Nat) (u : Value), ChgS (fun k => k = w0.heap.size) v (v.setCell ⟨w0.heap.size, i, none⟩ u) := fun i u => ChgS.set _ ⟨w0.heap.size, i, none⟩ u
  have h2 := (hc (v := w) 0 (.slice U F.length c)).trans (hc 1 (.int .i64 K))
  exact ⟨U, c, F, K, rfl, (o.chg h2 fun k g => .inl (by omega)).1, hl, h.src.chg h2 (fun k g => by have := h.q; omega), h.c.on h2 fun k g => .inr (by omega)⟩
end
def lenC : Option Value → Nat
  | some (.slice _ n _) => n
  | _ => 0
end Go.Proofs.Yteplidajodaklaa
