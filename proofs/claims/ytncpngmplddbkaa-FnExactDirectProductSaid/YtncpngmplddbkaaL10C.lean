/- Words: codes, limits, inverses of the model; the functions of one word. -/
import Derived.Test.YtncpngmplddbkaaL10B
import Derived.Test.YtncpngmplddbkaaKB
namespace Go.Proofs.Ytncpngmplddbkaa
open Go.RowKit
set_option linter.unusedVariables false
set_option linter.unusedSimpArgs false

theorem MadeC.list {w w' : World} {v : Value} {xs : List Int} {c : Int} (ho : OwnI w' w.heap.size v xs) (hl : xs.length ≤ 1000000000) (hb : Below w.heap.size w w') : MadeC spI xs c w (.returned (.tuple #[v, .int .i64 c])) w' :=
  ⟨v, (fun k => v.ownBlock = some k), rfl, spI_of ho, fun k hk => (World.ownsRow.lt ho k hk).1, hl, hb⟩
theorem MadeC.nilW {w w' : World} {c : Int} (hb : Below w.heap.size w w') : MadeC spI [] c w (.returned (.tuple #[.slice none 0 0, .int .i64 c])) w' :=
  MadeC.list (World.ownsRow_nil _ _ _ _) (by simp) hb
theorem OwnI.base_ {w : World} {b b' : Nat} {v : Value} {xs : List Int} (h : OwnI w b v xs) (hb : b' ≤ b) : OwnI w b' v xs := ownsRow_base h hb
/-- The words of a literal. -/
theorem RdW.lit1 {w : World} {A : Option Addr} {xs : List Int} (c : Nat) (t : TypeId) (h : RdI w A xs) (hl : xs.length ≤ maxLen) : RdW (w.alloc (.cells #[.slice A xs.length c] t)) (some ⟨w.heap.size, 0, none⟩) [xs] := by
  have bel : Below w.heap.size w (w.alloc (.cells #[.slice A xs.length c] t)) := by go_grown
  intro i hi
  match i, hi with
  | 0, _ => exact ⟨_, 0, A, c, rfl, by simp, (Blk.new w [.slice A xs.length c] t).cell 0 (by simp), hl, h.below' bel⟩
  | i + 1, hi => simp at hi
theorem RdW.lit2 {w : World} {A B : Option Addr} {xs ys : List Int} (c d : Nat) (t : TypeId) (h : RdI w A xs) (hl : xs.length ≤ maxLen) (k : RdI w B ys) (kl : ys.length ≤ maxLen) :
    RdW (w.alloc (.cells #[.slice A xs.length c, .slice B ys.length d] t)) (some ⟨w.heap.size, 0, none⟩) [xs, ys] := by
  have bel : Below w.heap.size w (w.alloc (.cells #[.slice A xs.length c, .slice B ys.length d] t)) := by go_grown
  have hb := Blk.new w [.slice A xs.length c, .slice B ys.length d] t
  intro i hi
  match i, hi with
  | 0, _ => exact ⟨_, 0, A, c, rfl, by simp, hb.cell 0 (by simp), hl, h.below' bel⟩
  | 1, _ => exact ⟨_, 0, B, d, rfl, by simp, hb.cell 1 (by simp), kl, k.below' bel⟩
  | i + 2, hi => simp at hi; omega

/-- What a limited product leaves. -/
def LimC (xs : List Int) (w : World) (e : Ending) (w' : World) : Prop := ∃ v, e = .returned (.tuple #[v, .int .i64 (Num.limC xs)]) ∧ OwnI w' w.heap.size v (Num.limR xs) ∧ Below w.heap.size w w'
theorem lim_long {xs : List Int} (h : 64 < (Num.redW xs).length) : Num.limC xs = 3 ∧ Num.limR xs = [] := ⟨if_pos h, if_pos h⟩
theorem lim_fits {xs : List Int} (h : ¬ 64 < (Num.redW xs).length) : Num.limC xs = 0 ∧ Num.limR xs = Num.redW xs := ⟨if_neg h, if_neg h⟩
set_option maxRecDepth 100000 in
set_option maxHeartbeats 1000000 in
theorem sInvert_any (A : Option Addr) (n c : Nat) (xs : List Int) (w : World) (h : RdI w A xs) (hn : xs.length = n) (hl : xs.length ≤ 1000000) (hs : Num.SmallW xs) :
    Calls Try.prog 73 #[.slice A n c] w fun e w' => ∃ v, e = .returned v ∧ OwnI w' w.heap.size v (Num.invW xs) ∧ Below w.heap.size w w' := by
  subst hn
  obtain ⟨i0, hi, hz0, hz1, hz2⟩ := info_parts infoI
  have w9 : IntKind.i64.wrap ((xs.length : Int) - 1) = (xs.length : Int) - 1 := IntWalk.i64_in _ (by omega)
  go_enter Try.func73, Try.ntmps73
  go_wp2_with (fail)
  go_loopw [3, 4] (fun s3 s4 wr => ∃ t : Nat, t ≤ xs.length ∧ s4 = .int .i64 ((xs.length : Int) - 1 - (t : Int)) ∧ OwnI wr w.heap.size s3 ((Num.invW xs).take t) ∧ Below w.heap.size w wr) (fun _ s4 _ => (intOf s4 + 1).toNat)
  case atStart => exact ⟨0, by omega, by simp, World.ownsRow_lit w #[] 0 (Nat.le_refl _) (by unfold maxLen; omega) rfl, by go_grown⟩
  case round =>
    obtain ⟨t, ht, rfl, own, bw⟩ := hrel
    have Z := bw.size
    by_cases hlt : t < xs.length
    · obtain ⟨g, o, rfl, hg, hc⟩ := (h.below' bw) (xs.length - 1 - t) (by omega)
      have HST := Lib.hid (Num.invW_take xs t hlt)
      have hsx := hs.at_ (xs.length - 1 - t) (by omega)
      have hol : ((Num.invW xs).take t).length ≤ 1000000 := by rw [List.length_take]; omega
      generalize xs.getD (xs.length - 1 - t) 0 = x at hc HST hsx
      generalize (Num.invW xs).take t = out at own HST hol
      have q0 : (0 : Int) ≤ (xs.length : Int) - 1 - (t : Int) := by omega
      have q1 : (xs.length : Int) - 1 - (t : Int) < (xs.length : Int) := by omega
      have q2 : ((xs.length : Int) - 1 - (t : Int)).toNat = xs.length - 1 - t := by omega
      have q3 : IntKind.i64.wrap ((xs.length : Int) - 1 - (t : Int) - 1) = (xs.length : Int) - 1 - (t : Int) - 1 := IntWalk.i64_in _ (by omega)
      have q4 : IntKind.i64.wrap (-x) = -x := IntWalk.i64_in _ (by omega)
      obtain ⟨A3, c3, rfl⟩ := own.form
      go_wp2_with (at_builtin; refine wpList_append_own_at _ rfl (.tmp 13) (.tmp 19) 22 rfl w.heap.size 2 i0 (.int .i64 0) 1 8 Try.underlying22 hi hz0 hz1 hz2 rfl (by decide) _ _ _ rfl (own.alloc _) ⟨_, 0, none⟩ 1 1 [.int .i64 (-x)] rfl rfl (cell_one_new _ _ _) (by simp [Value.oneCell']) (by unfold maxLen; omega) (by omega) (by go_size) ?_; intro v1 w1 hown1 hgrow1 _ hat1)
      obtain ⟨p1, p2⟩ := push_post own bw hown1 hgrow1
      exact ⟨⟨t + 1, by omega, by congr 1; omega, by rw [HST.out]; exact p1, p2⟩, by simp [intOf]; omega⟩
    · obtain rfl : t = xs.length := by omega
      have q0 : ¬ ((0 : Int) ≤ (xs.length : Int) - 1 - (xs.length : Int)) := by omega
      rw [List.take_of_length_le (by rw [Num.invW_len]; omega)] at own
      go_wp2_with (fail)
      go_ret
      exact ⟨_, rfl, own, bw⟩
end Go.Proofs.Ytncpngmplddbkaa
