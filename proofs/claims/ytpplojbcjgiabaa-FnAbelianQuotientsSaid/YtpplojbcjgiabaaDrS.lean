/- Draws: only the source's own block changes; a group that is drawn in a box. -/
import Derived.Test.YtpplojbcjgiabaaDrT
import Derived.Test.YtpplojbcjgiabaaShAb
namespace Go.Proofs.Ytpplojbcjgiabaa
open Go.RowKit
set_option linter.unusedVariables false
set_option linter.unusedSimpArgs false

/-- Nothing changes where the bound is 1. -/
theorem next_eq (q : Nat) (w : World) : Calls Try.prog 27 #[.pointer (some ⟨q, 0, none⟩), .int .i64 1] w fun e w' => e = .returned (.int .i64 0) ∧ w = w' := by
  go_enter Try.func27, Try.ntmps27
  go_wp2_with (fail)
  go_ret
  exact ⟨rfl, rfl⟩
/-- A result's box, a box of the call's own, the source: w0 is the world of the call. -/
structure StB (w0 w : World) (q B : Nat) (A : Option Addr) (len cap : Nat) (vs : List Value) : Prop where
  src : SrcI w q A len cap
  r : Blk w w0.heap.size [.slice none 0 0, (.int .i64 0 : Value)] 40
  a : Blk w B vs 40
  c : ChgS (fun k => k = q) w0 w
  q : q < w0.heap.size
  b : w0.heap.size < B
section
variable {w0 w w' : World} {q B len cap : Nat} {A : Option Addr} {vs : List Value} {S : Nat → Prop}
theorem StB.chg (h : StB w0 w q B A len cap vs) (hc : ChgS S w w') (hs : SrcI w' q A len cap) (hS : ∀ k, S k → k = q ∨ (w0.heap.size < k ∧ k ≠ B)) : StB w0 w' q B A len cap vs :=
  ⟨hs, h.r.chg hc (fun g => by have := hS _ g; have := h.q; omega), h.a.chg hc (fun g => by have := hS _ g; have := h.q; have := h.b; omega),
   h.c.on hc (fun k g => by have := hS k g; omega), h.q, h.b⟩
theorem StB.draw (h : StB w0 w q B A len cap vs) (hs : SrcI w' q A len cap) (hc : ChgS (fun k => k = q) w w') : StB w0 w' q B A len cap vs := h.chg hc hs fun k g => .inl g
theorem StB.far (h : StB w0 w q B A len cap vs) (hc : ChgS S w w') (hS : ∀ k, S k → w0.heap.size < k ∧ k ≠ B) : StB w0 w' q B A len cap vs :=
  h.chg hc (h.src.chg hc fun k g => by have := hS k g; have := h.q; omega) fun k g => .inr (hS k g)
theorem StB.alloc (h : StB w0 w q B A len cap vs) (o : Obj) : StB w0 (w.alloc o) q B A len cap vs := h.far (S := fun _ => False) (chgS_alloc w o) fun k g => g.elim
theorem StB.drew (h : StB w0 w q B A len cap vs) : StB w0 w.drew q B A len cap vs := h.far (S := fun _ => False) (ChgS.of_grown (grown_drew w none) fun k e => by simp at e) fun k g => g.elim
theorem StB.drewN (h : StB w0 w q B A len cap vs) (n : Nat) : StB w0 (w.drewN n) q B A len cap vs := h.far (S := fun _ => False) (ChgS.of_grown (grown_drewN w n none) fun k e => by simp at e) fun k g => g.elim
theorem StB.set (h : StB w0 w q B A len cap vs) (i : Nat) (u : Value) : StB w0 (w.setCell ⟨B, i, none⟩ u) q B A len cap (vs.set i u) :=
  ⟨h.src.chg (ChgS.set w ⟨B, i, none⟩ u) (fun k g => by have := h.q; have := h.b; simp at g; omega), h.r.other (by have := h.b; simp; omega) u, h.a.set i u,
   h.c.on (ChgS.set w ⟨B, i, none⟩ u) (fun k g => .inr (by have := h.b; simp at g; omega)), h.q, h.b⟩
/-- A slice in blocks behind H, none of them B. -/
def OwnD (w : World) (H B : Nat) (v : Value) (F : List Int) : Prop := OwnI w (H + 1) v F ∧ ∀ k, v.ownBlock = some k → k ≠ B
theorem OwnD.chg {H : Nat} {v : Value} {F : List Int} (h : OwnD w H B v F) (hc : ChgS S w w') (hS : ∀ k, S k → k ≤ H ∨ k = B) : OwnD w' H B v F :=
  ⟨ownsRow_keep h.1 fun k e => by
    obtain ⟨h1, h2⟩ := World.ownsRow.lt h.1 k e
    exact hc.block k h2 (fun hk => by have := hS k hk; have := h.2 k e; omega), h.2⟩
theorem OwnD.alloc {H : Nat} {v : Value} {F : List Int} (h : OwnD w H B v F) (o : Obj) : OwnD (w.alloc o) H B v F := ⟨h.1.alloc o, h.2⟩
theorem OwnD.set {H : Nat} {v : Value} {F : List Int} (h : OwnD w H B v F) (i : Nat) (u : Value) : OwnD (w.setCell ⟨B, i, none⟩ u) H B v F :=
  h.chg (ChgS.set w ⟨B, i, none⟩ u) fun k g => .inr g
theorem OwnD.push {H : Nat} {v v3 : Value} {F : List Int} {x : Int} (h : ∀ k, v.ownBlock = some k → k ≠ B) (hB : B < w.heap.size) (own3 : w'.ownsRow (H + 1) 2 1 v3 (F.length + 1) (F.map (Value.int .i64) ++ [.int .i64 x])) (at3 : v3.ownBlock = v.ownBlock ∨ v3.ownBlock = some w.heap.size) : OwnD w' H B v3 (F ++ [x]) :=
  ⟨OwnI.snoc own3, fun k e => by
    rcases at3 with g | g
    · exact h k (g ▸ e)
    · rw [g] at e; have := Option.some.inj e; omega⟩
theorem OwnD.far {H : Nat} {v : Value} {F : List Int} (h : OwnD w H B v F) : ∀ k, v.ownBlock = some k → H < k ∧ k ≠ B := fun k e => ⟨(World.ownsRow.lt h.1 k e).1, h.2 k e⟩
theorem StB.pushed {U U3 : Option Addr} {c c3 : Nat} {F : List Int} {K : Int} (x : Int) (h : StB w0 w q B A len cap [.slice U F.length c, .int .i64 K]) : StB w0 (w.setCell ⟨B, 0, none⟩ (.slice U3 (F.length + 1) c3)) q B A len cap [.slice U3 (F ++ [x]).length c3, .int .i64 K] := by
  rw [show (F ++ [x]).length = F.length + 1 by simp]
  exact h.set 0 (.slice U3 (F.length + 1) c3)
theorem OwnD.pushed {H : Nat} {U3 : Option Addr} {c3 : Nat} {F : List Int} {x : Int} (h : OwnD w H B (.slice U3 (F.length + 1) c3) (F ++ [x])) (u : Value) : OwnD (w.setCell ⟨B, 0, none⟩ u) H B (.slice U3 (F ++ [x]).length c3) (F ++ [x]) := by
  rw [show (F ++ [x]).length = F.length + 1 by simp]
  exact h.set 0 u
theorem OwnD.lit {H : Nat} (w : World) (hB : B < w.heap.size) (hH : H < w.heap.size) (xs : List Int) (hl : xs.length ≤ 1000000) : OwnD (w.alloc (.cells (xs.map (Value.int .i64)).toArray 2)) H B (.slice (some ⟨w.heap.size, 0, none⟩) xs.length xs.length) xs :=
  ⟨OwnI.lit w xs hH hl, fun k e => by
    have : k = w.heap.size := by
      by_cases h : xs.length = 0
      · simp [Value.ownBlock, h] at e; omega
      · simp [Value.ownBlock, h] at e; omega
    omega⟩
/-- What is left of a drawn group. -/
def DrawnAn (m : Nat) (w : World) (q : Nat) (A : Option Addr) (len cap : Nat) (e : Ending) (w' : World) : Prop :=
  ∃ U c F K, e = .returned (.agg #[.slice U F.length c, .int .i64 K]) ∧ OwnI w' (w.heap.size + 1) (.slice U F.length c) F ∧ F.length ≤ m ∧ SrcI w' q A len cap ∧ ChgS (fun k => k = q) w w'
def DrawnAb (w : World) (q : Nat) (A : Option Addr) (len cap : Nat) (e : Ending) (w' : World) : Prop := DrawnAn 100 w q A len cap e w'
theorem StB.fin {m : Nat} {U : Option Addr} {c : Nat} {F : List Int} {K : Int} (h : StB w0 w q B A len cap [.slice U F.length c, .int .i64 K]) (o : OwnD w w0.heap.size B (.slice U F.length c) F) (hl : F.length ≤ m) :
    DrawnAn m w0 q A len cap (.returned (.agg #[.slice U F.length c, .int .i64 K])) ((w.setCell ⟨w0.heap.size, 0, none⟩ (.slice U F.length c)).setCell ⟨w0.heap.size, 1, none⟩ (.int .i64 K)) := by
  have hc : ∀ {v : World} (i : Nat) (u : Value), ChgS (fun k => k = w0.heap.size) v (v.setCell ⟨w0.heap.size, i, none⟩ u) := fun i u => ChgS.set _ ⟨w0.heap.size, i, none⟩ u
  have h2 := (hc (v := w) 0 (.slice U F.length c)).trans (hc 1 (.int .i64 K))
  exact ⟨U, c, F, K, rfl, (o.chg h2 fun k g => .inl (by omega)).1, hl, h.src.chg h2 (fun k g => by have := h.q; omega), h.c.on h2 fun k g => .inr (by omega)⟩
end
def lenC : Option Value → Nat
  | some (.slice _ n _) => n
  | _ => 0
end Go.Proofs.Ytpplojbcjgiabaa
