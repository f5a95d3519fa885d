/- Presentations: unit vectors, slices.Clone of whole numbers. -/
import Derived.Test.YtahmhdpgdhfjnaaL11L
import Derived.Test.YtahmhdpgdhfjnaaStep
import Derived.Deep.RegionLaw
namespace Go.Proofs.Ytahmhdpgdhfjnaa
open Go.RowKit
set_option linter.unusedVariables false
set_option linter.unusedSimpArgs false

/-- The unit vector of a generator, of n zeros. -/
def Num.unit7 (n i : Nat) : List Int := (List.replicate n 0).set i 1
theorem Num.unit7_len (n i : Nat) : (Num.unit7 n i).length = n := by simp [Num.unit7]
theorem madeZ {w1 : World} {base b n : Nat} (own1 : w1.ownsRow base 2 1 (.slice (some ⟨b, 0, none⟩) n n) n (madeCells (Value.int .i64 0).cells (n * 1)).toList) : OwnI w1 base (.slice (some ⟨b, 0, none⟩) n n) (List.replicate n 0) := by
  unfold OwnI
  have e : (madeCells (Value.int .i64 0).cells (n * 1)).toList = (List.replicate n (0 : Int)).map (Value.int .i64) := by
    show (madeCells #[Value.int .i64 0] (n * 1)).toList = _
    rw [toList_madeCells_one]
    simp
  rw [e] at own1
  simpa using own1
theorem madeZ_at {w1 : World} {base b n i : Nat} (hi : i < n) (own1 : w1.ownsRow base 2 1 (.slice (some ⟨b, 0, none⟩) n n) n (madeCells (Value.int .i64 0).cells (n * 1)).toList) :
    w1.cell? ⟨b, i, none⟩ = some (.int .i64 0) ∧ w1.frozen? ⟨b, i, none⟩ = false ∧ OwnI w1 base (.slice (some ⟨b, 0, none⟩) n n) (List.replicate n 0) := by
  have o := madeZ own1
  obtain ⟨h1, h2⟩ := o.at_ i (by simpa using hi)
  refine ⟨?_, h2, o⟩
  rw [h1]
  congr 2
  rw [List.getD_eq_getElem?_getD, List.getElem?_replicate, if_pos hi]
  rfl
set_option maxRecDepth 100000 in
set_option maxHeartbeats 1000000 in
theorem sUnit_any (n i : Nat) (w : World) (hn : n ≤ 64) (hi : i < n) : Calls Try.prog 142 #[.int .i64 (n : Int), .int .i64 (i : Int)] w fun e w' => ∃ u, e = .returned u ∧ OwnI w' w.heap.size u (Num.unit7 n i) ∧ Below w.heap.size w w' := by
  obtain ⟨iT, hiT, hz0, hz1, hz2⟩ := info_parts infoI
  have i0 : (0 : Int) ≤ (i : Int) := by omega
  have i1 : (i : Int) < (n : Int) := by omega
  go_enter Try.func142, Try.ntmps142
  go_wp2_with (first | (at_make; refine wpList_make_full _ rfl (.tmp 6) (.tmp 6) 24 rfl w.heap.size 2 iT (.int .i64 0) 1 Try.underlying24 hiT hz0 hz1 .i64 .i64 (n : Int) (n : Int) n rfl rfl rfl rfl (by rw [hz2]; omega) (by unfold maxLen; omega) (Nat.le_refl _) ?_; intro w1 own1 gr1; obtain ⟨a0, f0, o1⟩ := madeZ_at hi own1))
  have bW : Below w.heap.size w w1 := (Below.refl _ _).grown gr1 (Nat.le_refl _) (fun k hk => by simp at hk)
  have O3 := Lib.hid (o1.set i 1)
  have L3 := Lib.hid (bW.setCell (p := ⟨w.heap.size, i, none⟩) (by simp) (.int .i64 1))
  go_wp2_with (fail)
  go_ret
  exact ⟨_, rfl, O3.out, L3.out⟩
set_option maxRecDepth 100000 in
set_option maxHeartbeats 1000000 in
theorem cloneI_any (A : Option Addr) (c : Nat) (xs : List Int) (w : World) (h : RdI w A xs) (hl : xs.length ≤ 1000) :
    Calls Try.prog 69 #[.slice A xs.length c] w fun e w' => ∃ u, e = .returned u ∧ OwnI w' w.heap.size u xs ∧ Below w.heap.size w w' := by
  have qn : ∀ (W : World) (a : Option Addr) (n c n' c' : Nat), (binOp .eql 24 (.slice a n c) (.slice none n' c')).run Try.prog W = .ok (.bool a.isNone) W := fun W a n c n' c' => Lib.run_eql_slice_nil W _ _ a n c n' c' Try.underlying24
  cases A with
  | none =>
    obtain rfl : xs = [] := by
      cases xs with
      | nil => rfl
      | cons a l => obtain ⟨g, o, e, _⟩ := h 0 (by simp); cases e
    clear h
    go_enter Try.func69, Try.ntmps69
    go_wp2_with (fail)
    go_ret
    exact ⟨_, rfl, World.ownsRow_nil _ _ _ _, Below.refl _ _⟩
  | some a =>
    have own0 : OwnI (w.alloc (.cells #[] 2)) w.heap.size (.slice (some ⟨w.heap.size, 0, none⟩) 0 0) [] := World.ownsRow_lit w #[] 0 (Nat.le_refl _) (by unfold maxLen; omega) rfl
    have b0 : Below w.heap.size w (w.alloc (.cells #[] 2)) := by go_grown
    have HA := Lib.hid (h.below' b0)
    clear h
    go_enter Try.func69, Try.ntmps69
    go_wp2_with (first | (at_builtin; refine wpList_app_ints _ rfl _ _ rfl w.heap.size _ [] xs rfl own0 (some a) _ c rfl rfl HA.out (by simp; omega) (by go_size) ?_; intro v1 w1 own1 gr1 hat1))
    go_ret
    refine ⟨_, rfl, by simpa using own1, ?_⟩
    exact b0.grown gr1 (by go_size) (fun k hk => (World.ownsRow.lt own0 k hk).1)
end Go.Proofs.Ytahmhdpgdhfjnaa
