/- Shapes: how a value of a Go type reads as a datum, how a call owns it, what a measure counts and what marks write. -/
import Derived.Test.YtggkoihlmijacaaSm
namespace Go.Proofs.Ytggkoihlmijacaa
open Go.RowKit
set_option linter.unusedVariables false
set_option linter.unusedSimpArgs false

/-- w' is w but for new blocks and for the blocks of S. -/
structure ChgS (S : Nat → Prop) (w w' : World) : Prop where
  os : w'.os = w.os
  tape : w'.tape = w.tape
  output : w'.output = w.output
  size : w.heap.size ≤ w'.heap.size
  block : ∀ k, k < w.heap.size → ¬ S k → w'.heap[k]? = w.heap[k]?
theorem ChgS.refl (S : Nat → Prop) (w : World) : ChgS S w w := ⟨rfl, rfl, rfl, Nat.le_refl _, fun _ _ _ => rfl⟩
theorem ChgS.trans {S : Nat → Prop} {a b c : World} (h : ChgS S a b) (k : ChgS S b c) : ChgS S a c :=
  ⟨k.os.trans h.os, k.tape.trans h.tape, k.output.trans h.output, Nat.le_trans h.size k.size, fun i hi hr => (k.block i (by have := h.size; omega) hr).trans (h.block i hi hr)⟩
theorem ChgS.mono {S T : Nat → Prop} {a b : World} (h : ChgS S a b) (hs : ∀ k, S k → T k) : ChgS T a b :=
  ⟨h.os, h.tape, h.output, h.size, fun k hk hn => h.block k hk (fun hS => hn (hs k hS))⟩
theorem ChgS.of_grown {S : Nat → Prop} {w w' : World} {row : Option Nat} (h : w.grownBy w' row) (hr : ∀ k, row = some k → S k) : ChgS S w w' :=
  ⟨h.os, h.tape, h.output, h.size, fun k hk hc => h.block k hk (fun e => hc (hr k e.symm))⟩
theorem ChgS.of_below {S : Nat → Prop} {w w' : World} (h : Below w.heap.size w w') : ChgS S w w' :=
  ⟨h.os, h.tape, h.output, h.size, fun k hk _ => h.block k hk⟩
theorem ChgS.below {S : Nat → Prop} {B : Nat} {w w' : World} (h : ChgS S w w') (hS : ∀ k, S k → B ≤ k) (hB : B ≤ w.heap.size) : Below B w w' :=
  ⟨h.os, h.tape, h.output, h.size, fun k hk => h.block k (by omega) (fun hs => by have := hS k hs; omega)⟩
theorem bstep {B : Nat} {a b c : World} (h : Below B a b) (hB : B ≤ b.heap.size) (k : Below b.heap.size b c) : Below B a c := h.trans (k.mono hB)
/-- .. with a change in blocks from B on. -/
theorem bstepS {S : Nat → Prop} {B : Nat} {a b c : World} (h : Below B a b) (hB : B ≤ b.heap.size) (hS : ∀ k, S k → B ≤ k) (k : ChgS S b c) : Below B a c := h.trans (k.below hS hB)

structure Sp (α : Type) where
  rd : World → Value → α → Prop
  own : World → (Nat → Prop) → Value → α → Prop
  sz : α → Nat
  cnt : α → Nat
  mark : Int → α → α
  rd_keep : ∀ {w w' : World} {v : Value} {x : α}, rd w v x → w.heap.size ≤ w'.heap.size → (∀ k, k < w.heap.size → w'.heap[k]? = w.heap[k]?) → rd w' v x
  own_keep : ∀ {w w' : World} {S : Nat → Prop} {v : Value} {x : α}, own w S v x → (∀ k, S k → w'.heap[k]? = w.heap[k]?) → own w' S v x
  own_lt : ∀ {w : World} {S : Nat → Prop} {v : Value} {x : α} {k : Nat}, own w S v x → S k → k < w.heap.size
  own_rd : ∀ {w : World} {S : Nat → Prop} {v : Value} {x : α}, own w S v x → rd w v x
variable {α : Type}
theorem Sp.rd_below (s : Sp α) {w w' : World} {v : Value} {x : α} (h : s.rd w v x) (hb : Below w.heap.size w w') : s.rd w' v x := s.rd_keep h hb.size fun k hk => hb.block k hk
theorem Sp.own_below (s : Sp α) {w w' : World} {S : Nat → Prop} {v : Value} {x : α} (h : s.own w S v x) (hb : Below w.heap.size w w') : s.own w' S v x := s.own_keep h fun k hk => hb.block k (s.own_lt h hk)
theorem Sp.own_chg (s : Sp α) {w w' : World} {S T : Nat → Prop} {v : Value} {x : α} (h : s.own w S v x) (hc : ChgS T w w') (hd : ∀ k, S k → ¬ T k) : s.own w' S v x := s.own_keep h fun k hk => hc.block k (s.own_lt h hk) (hd k hk)

/-- What is left of a measure, -1 if it isn't enough. -/
def szLeft (n : Nat) (left : Int) : Int := if (n : Int) ≤ left then left - n else -1
theorem szLeft_yes {n : Nat} {left : Int} (h : (n : Int) ≤ left) : szLeft n left = left - n := if_pos h
theorem szLeft_no {n : Nat} {left : Int} (h : left < n) : szLeft n left = -1 := if_neg (by omega)

def SzOk (f : FuncId) (s : Sp α) : Prop := ∀ (v : Value) (x : α) (left : Int) (w : World), s.rd w v x → 0 ≤ left → left ≤ 1048576 →
  Calls Try.prog f #[v, .int .i64 left] w fun e w' => e = .returned (.int .i64 (szLeft (s.sz x) left)) ∧ Below w.heap.size w w'
/-- What a copy leaves. -/
def Made (s : Sp α) (x : α) (w : World) (e : Ending) (w' : World) : Prop := ∃ u S, e = .returned u ∧ s.own w' S u x ∧ (∀ k, S k → w.heap.size ≤ k) ∧ Below w.heap.size w w'
def ToOk (f : FuncId) (s : Sp α) : Prop := ∀ (v : Value) (x : α) (w : World), s.rd w v x → s.sz x ≤ 1048576 → Calls Try.prog f #[v] w (Made s x w)
theorem toOk_c {f : FuncId} {s : Sp α} (h : ToOk f s) (v : Value) (x : α) (w : World) (hr : s.rd w v x) (hs : s.sz x ≤ 1048576) : Calls Try.prog f #[v] w (Made s x w) := h v x w hr hs
def EqOk (f : FuncId) (s : Sp α) : Prop := ∀ (v u : Value) (x : α) (w : World), s.rd w v x → s.rd w u x →
  Calls Try.prog f #[v, u] w fun e w' => e = .returned (.bool true) ∧ Below w.heap.size w w'
def MarkOk (f : FuncId) (s : Sp α) : Prop := ∀ (S : Nat → Prop) (v : Value) (x : α) (k : Int) (w : World), s.own w S v x → 0 ≤ k → k + s.cnt x ≤ 1000000000000000 →
  Calls Try.prog f #[v, .int .i64 k] w fun e w' => e = .returned (.int .i64 (k + s.cnt x)) ∧ s.own w' S v (s.mark k x) ∧ ChgS S w w'
def HeldOk (f : FuncId) (s : Sp α) : Prop := ∀ (v : Value) (x : α) (k : Int) (w : World), s.rd w v (s.mark k x) → 0 ≤ k → k + s.cnt x ≤ 1000000000000000 →
  Calls Try.prog f #[v, .int .i64 k] w fun e w' => e = .returned (.int .i64 (k + s.cnt x)) ∧ Below w.heap.size w w'

/-- What a function leaves that returns new memory and a code; that returns numbers or a bool, with or without a code. -/
def MadeC (s : Sp α) (x : α) (c : Int) (w : World) (e : Ending) (w' : World) : Prop := ∃ u S, e = .returned (.tuple #[u, .int .i64 c]) ∧ s.own w' S u x ∧ (∀ k, S k → w.heap.size ≤ k) ∧ s.cnt x ≤ 1000000000 ∧ Below w.heap.size w w'
def RetI (x c : Int) (w : World) (e : Ending) (w' : World) : Prop := e = .returned (.tuple #[.int .i64 x, .int .i64 c]) ∧ Below w.heap.size w w'
def RetBC (b : Bool) (c : Int) (w : World) (e : Ending) (w' : World) : Prop := e = .returned (.tuple #[.bool b, .int .i64 c]) ∧ Below w.heap.size w w'
def RetB (b : Bool) (w : World) (e : Ending) (w' : World) : Prop := e = .returned (.bool b) ∧ Below w.heap.size w w'

/-! ### Lists of numbers -/
theorem RdI.keep {w w' : World} {A : Option Addr} {xs : List Int} (h : RdI w A xs) (hz : w.heap.size ≤ w'.heap.size) (hk : ∀ k, k < w.heap.size → w'.heap[k]? = w.heap[k]?) : RdI w' A xs := by
  intro j hj
  obtain ⟨g, o, rfl, hg, hc⟩ := h j hj
  exact ⟨g, o, rfl, by omega, by rw [World.cell?_of_block (hk g hg)]; exact hc⟩
theorem ownsRow_keep {w w' : World} {base n size : Nat} {e : TypeId} {v : Value} {xs : List Value} (h : w.ownsRow base e size v n xs) (hk : ∀ k, v.ownBlock = some k → w'.heap[k]? = w.heap[k]?) : w'.ownsRow base e size v n xs := by
  refine ⟨h.1, ?_⟩
  rcases h.2 with h2 | ⟨g, cap, cur, hv, hg, hh, r⟩
  · exact .inl h2
  · exact .inr ⟨g, cap, cur, hv, hg, by rw [hk g (by rw [hv]; rfl)]; exact hh, r⟩
theorem ownsRow_cap {w : World} {base n size : Nat} {e : TypeId} {v : Value} {xs : List Value} (h : w.ownsRow base e size v n xs) : ∃ A cap, v = .slice A n cap ∧ n ≤ maxLen := by
  rcases h.2 with ⟨h2, h0⟩ | ⟨g, cap, cur, hv, hg, hh, h1, h2, r⟩
  · exact ⟨none, 0, by rw [h2, h0], by omega⟩
  · exact ⟨_, cap, hv, by omega⟩
def spI : Sp (List Int) where
  rd w v xs := ∃ A cap, v = .slice A xs.length cap ∧ xs.length ≤ maxLen ∧ RdI w A xs
  own w S v xs := w.ownsRow 0 2 1 v xs.length (xs.map (Value.int .i64)) ∧ (∀ k, v.ownBlock = some k → S k) ∧ ∀ k, S k → k < w.heap.size
  sz := List.length
  cnt := List.length
  mark k xs := marks k xs.length
  rd_keep := fun ⟨A, cap, h1, h2, h3⟩ hz hk => ⟨A, cap, h1, h2, h3.keep hz hk⟩
  own_keep := fun {w w' S v xs} ⟨h1, h2, h3⟩ hk => ⟨ownsRow_keep h1 fun k e => hk k (h2 k e), h2, fun k hS => by
    have h := h3 k hS
    have e := hk k hS
    by_cases hlt : k < w'.heap.size
    · exact hlt
    · rw [Array.getElem?_eq_none (by omega), Array.getElem?_eq_getElem h] at e
      cases e⟩
  own_lt := fun ⟨_, _, h3⟩ hS => h3 _ hS
  own_rd := fun {w S v xs} ⟨h1, _, _⟩ => by
    obtain ⟨A, cap, rfl, h4⟩ := ownsRow_cap h1
    exact ⟨A, cap, rfl, h4, RdI.own h1⟩
theorem spI_cnt (x : List Int) : spI.cnt x ≤ spI.sz x := Nat.le_refl _
theorem spI_form {w : World} {v : Value} {x : List Int} (h : spI.rd w v x) : ∃ A c, v = .slice A x.length c ∧ x.length ≤ maxLen ∧ RdI w A x := h
theorem spI_of {w : World} {base : Nat} {v : Value} {xs : List Int} (h : OwnI w base v xs) : spI.own w (fun k => v.ownBlock = some k) v xs :=
  ⟨ownsRow_base h (Nat.zero_le _), fun k e => e, fun k e => (World.ownsRow.lt h k e).2⟩

theorem szI_ok : SzOk 95 spI := by
  rintro v x left w ⟨A, cap, rfl, h2, h3⟩ h0 hl
  have h2' := h2
  unfold maxLen at h2'
  by_cases h : (x.length : Int) ≤ left
  · have HZ := Lib.hid (szLeft_yes h)
    refine (szI_yes A x.length cap left w h hl).mono ?_
    rintro e w' ⟨rfl, rfl⟩
    exact ⟨ret_i HZ.out.symm, Below.refl _ _⟩
  · have HZ := Lib.hid (szLeft_no (n := x.length) (left := left) (by omega))
    refine (szI_no A x.length cap left w h0 (by omega) hl h2).mono ?_
    rintro e w' ⟨rfl, rfl⟩
    exact ⟨ret_i HZ.out.symm, Below.refl _ _⟩
theorem toI_ok : ToOk 19 spI := by
  rintro v x w ⟨A, cap, rfl, h2, h3⟩ hs
  refine (toI_any A cap x w h3 hs).mono ?_
  rintro e w' ⟨rfl, h1, h4⟩
  exact ⟨_, _, rfl, spI_of h1, fun k hk => (World.ownsRow.lt h1 k hk).1, h4⟩
theorem eqI_any (A B : Option Addr) (c d : Nat) (xs : List Int) (w : World) (hA : RdI w A xs) (hB : RdI w B xs) (hl : xs.length ≤ maxLen) :
    Calls Try.prog 21 #[.slice A xs.length c, .slice B xs.length d] w fun e w' => e = .returned (.bool true) ∧ Below w.heap.size w w' := by
  unfold maxLen at hl
  go_enter Try.func21, Try.ntmps21
  go_wp2
  go_loopw [5] (fun s5 wr => ∃ k : Nat, k ≤ xs.length ∧ s5 = .int .i64 k ∧ Below w.heap.size w wr) (fun s5 _ => xs.length - (intOf s5).toNat)
  case atStart => exact ⟨0, by omega, rfl, Below.refl _ _⟩
  case round =>
    obtain ⟨k, hk, rfl, hbel⟩ := hrel
    by_cases hlt : k < xs.length
    · obtain ⟨g, o, rfl, hg, hc⟩ := (hA.below' hbel) k hlt
      obtain ⟨g', o', rfl, hg', hc'⟩ := (hB.below' hbel) k hlt
      have i0 : (0 : Int) ≤ (k : Int) := by omega
      have i1 : (k : Int) < (xs.length : Int) := by omega
      go_wp2
      go_quiet (fail)
      go_wp2
      exact ⟨⟨k + 1, by omega, by go_num, below_drewN hbel _⟩, by simp [intOf]; omega⟩
    · have hge : ¬ ((k : Int) < (xs.length : Int)) := by omega
      go_wp2
      go_ret
      exact ⟨rfl, hbel⟩
theorem eqI_ok : EqOk 21 spI := by
  rintro v u x w ⟨A, cap, rfl, h2, h3⟩ ⟨B, cap', rfl, h5, h6⟩
  exact eqI_any A B cap cap' x w h3 h6 h2
set_option maxHeartbeats 400000 in
theorem markI_all (base T : Nat) (A : Option Addr) (n cap : Nat) (ys : List Value) (k : Int) (w : World) (h : w.ownsRow base T 1 (.slice A n cap) n ys) (hk0 : 0 ≤ k) (hk1 : k + n ≤ 1000000000000000) :
    Calls Try.prog 38 #[.slice A n cap, .int .i64 k] w fun e w' => e = .returned (.int .i64 (k + n)) ∧ w'.ownsRow base T 1 (.slice A n cap) n ((marks k n).map (Value.int .i64)) ∧ w.grownBy w' (Value.slice A n cap).ownBlock := by
  go_enter Try.func38, Try.ntmps38
  go_wp2
  go_loopw [1, 5] (fun s1 s5 wr => ∃ (m : Nat) (zs : List Value), m ≤ n ∧ s5 = .int .i64 m ∧ s1 = .int .i64 (k + m) ∧ wr.ownsRow base T 1 (.slice A n cap) n zs ∧ zs.take m = (marks k m).map (Value.int .i64) ∧ w.grownBy wr (Value.slice A n cap).ownBlock) (fun _ s5 _ => n - (intOf s5).toNat)
  case atStart => exact ⟨0, ys, by omega, rfl, by simp, h, by simp [marks], World.grownBy.refl _ _⟩
  case round =>
    obtain ⟨m, zs, hm, rfl, rfl, hown, htake, hgrow⟩ := hrel
    by_cases hlt : m < n
    · rcases hown.2 with ⟨hv, h0⟩ | ⟨g, c, cur, hv, hb, hg, h1⟩
      · omega
      · simp only [Value.slice.injEq] at hv
        obtain ⟨rfl, -, rfl⟩ := hv
        have hz : zs.length = n := by have := hown.1; simpa using this
        have hc := hown.cellAt m (by omega)
        obtain ⟨ov, hc2⟩ : ∃ ov, wr.cell? ⟨g, m, none⟩ = some ov := ⟨_, by rw [hc]; exact List.getElem?_eq_getElem (by omega)⟩
        have hf := hown.frozenAt m
        have i0 : (0 : Int) ≤ (m : Int) := by omega
        have i1 : (m : Int) < (n : Int) := by omega
        obtain ⟨hs1, hs2⟩ := hown.stored m (.int .i64 (k + m))
        have hset := marks_set k n m hlt zs hz htake
        have HS := Lib.hid hset
        clear hset htake hc hz h1 hg
        go_wp2
        exact ⟨⟨m + 1, _, by omega, by go_num, by (congr 1; omega), hs1, HS.out, World.grownBy.trans_ hgrow hs2⟩, by simp [intOf]; omega⟩
    · obtain rfl : m = n := by omega
      have hge : ¬ ((m : Int) < (m : Int)) := by omega
      have hz : zs.length = m := by have := hown.1; simpa using this
      have HZ : Hid (zs = (marks k m).map (Value.int .i64)) := Lib.hid (by rw [← htake, List.take_of_length_le (by omega)])
      clear htake hz
      go_wp2
      go_ret
      exact ⟨rfl, by rw [← HZ.out]; exact hown, hgrow⟩
theorem markI_ok : MarkOk 38 spI := by
  rintro S v x k w ⟨h1, h2, h3⟩ hk0 hk1
  obtain ⟨A, cap, rfl, h4⟩ := ownsRow_cap h1
  refine (markI_all 0 2 A x.length cap _ k w h1 hk0 hk1).mono ?_
  rintro e w' ⟨rfl, h5, h6⟩
  refine ⟨rfl, ⟨by show w'.ownsRow 0 2 1 _ (marks k x.length).length _; rw [marks_length]; exact h5, h2, fun k' hS => Nat.lt_of_lt_of_le (h3 k' hS) h6.size⟩, ChgS.of_grown h6 h2⟩
set_option maxHeartbeats 400000 in
theorem heldI_all (A : Option Addr) (n cap : Nat) (k : Int) (w : World) (h : RdI w A (marks k n)) (hk0 : 0 ≤ k) (hk1 : k + n ≤ 1000000000000000) :
    Calls Try.prog 39 #[.slice A n cap, .int .i64 k] w fun e w' => e = .returned (.int .i64 (k + n)) ∧ w = w' := by
  go_enter Try.func39, Try.ntmps39
  go_wp2
  go_loop [1, 5] (fun s1 s5 => ∃ m : Nat, m ≤ n ∧ s5 = .int .i64 m ∧ s1 = .int .i64 (k + m)) (fun _ s5 => n - (intOf s5).toNat)
  case atStart => exact ⟨0, by omega, rfl, by simp⟩
  case round =>
    obtain ⟨m, hm, rfl, rfl⟩ := hrel
    by_cases hlt : m < n
    · obtain ⟨g, o, rfl, hg, hc⟩ := h m (by rw [marks_length]; exact hlt)
      rw [marks_get k n m hlt] at hc
      have i0 : (0 : Int) ≤ (m : Int) := by omega
      have i1 : (m : Int) < (n : Int) := by omega
      go_wp2
      exact ⟨⟨m + 1, by omega, by go_num, by (congr 1; omega)⟩, by simp [intOf]; omega⟩
    · obtain rfl : m = n := by omega
      have hge : ¬ ((m : Int) < (m : Int)) := by omega
      go_wp2
      go_ret
      exact ⟨rfl, rfl⟩
theorem heldI_ok : HeldOk 39 spI := by
  rintro v x k w ⟨A, cap, rfl, h2, h3⟩ hk0 hk1
  have e : (spI.mark k x).length = x.length := marks_length k x.length
  rw [e]
  refine (heldI_all A x.length cap k w h3 hk0 hk1).mono ?_
  rintro e w' ⟨rfl, rfl⟩
  exact ⟨rfl, Below.refl _ _⟩
end Go.Proofs.Ytggkoihlmijacaa
