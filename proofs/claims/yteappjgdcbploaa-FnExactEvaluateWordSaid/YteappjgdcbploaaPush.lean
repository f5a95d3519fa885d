/- One more element, a slice in a literal, behind an own list of such: the law of the append for the walk. -/
import Derived.Test.YteappjgdcbploaaKB
import Derived.Deep.AppendLies
namespace Go.Proofs.Yteappjgdcbploaa
open Go.RowKit
set_option linter.unusedVariables false
set_option linter.unusedSimpArgs false

theorem wpList_push {α : Type} {s : Sp α} {nul : α} {ops : Array Oper} {rest : List Oper} {o : Oper} {a : Act} {Q : Exit → Act → World → Prop} (wl : World) (hgd : o.guard = none) (sO xO : Operand) (t E : TypeId)
    (ho : o.op = .call { callee := .builtin .append, args := #[sO, xO], argTypes := #[t, t] }) (ht : Try.prog.underlying t = some (.slice E)) (hE : (Try.prog.info? E).map (fun i => (i.zero, i.size, i.bytes)) = some (some (.slice none 0 0), 1, 24))
    (S T : Nat → Prop) (v u : Value) (xs : List α) (x : α) (hs : a.eval sO = v) (hx : a.eval xO = .slice (some ⟨wl.heap.size, 0, none⟩) 1 1) (own : (spL E s nul).own wl S v xs) (ou : s.own wl T u x) (u1 : u.oneCell' = true)
    (hd : ∀ k, S k → ¬ T k) (hl : xs.length ≤ 1000000)
    (h : ∀ (v' : Value) (w' : World) (S' : Nat → Prop), (spL E s nul).own w' S' v' (xs ++ [x]) → (∀ k, S' k → S k ∨ T k ∨ wl.heap.size ≤ k) → ChgS S wl w' → (∃ A c, v' = .slice A (xs.length + 1) c) → wpList Try.prog ops Q rest (a.put o.dst v') w') :
    wpList Try.prog ops Q (o :: rest) a (wl.alloc (.cells #[u] E)) := by
  obtain ⟨i0, hi, hz0, hz1, hz2⟩ := info_parts hE
  obtain ⟨vs, hvs, hpush⟩ := spL_push own ou hd
  have hob : ∀ k, v.ownBlock = some k → S k := by obtain ⟨_, _, _, _, _, _, h5, _⟩ := own; exact h5
  have hcell : ∀ j u', [u][j]? = some u' → (wl.alloc (.cells #[u] E)).cell? ((⟨wl.heap.size, 0, none⟩ : Addr).add j) = some u' := cell_one_new _ _ _
  refine wpList_append_lies (P := Try.prog) (wl.alloc (.cells #[u] E)) hgd sO xO t ho 0 E i0 (.slice none 0 0) 1 24 ht hi hz0 hz1 hz2 rfl (by decide) v xs.length vs hs (hvs.alloc _) ⟨wl.heap.size, 0, none⟩ 1 1 [u] hx rfl hcell (by simpa using u1) (by decide) (by unfold maxLen; omega) (by omega) (Nat.zero_le _) _ rfl ?_
  intro g cap w' own3 gr3 at3 lt3
  have hg : v.ownBlock = some g ∨ wl.heap.size ≤ g := by
    rcases at3 with h' | h'
    · exact .inl h'
    · exact .inr (by simp at h'; omega)
  refine h _ w' _ (hpush _ _ _ g ((Below.refl _ _).alloc (Nat.le_refl _) _) own3 gr3 rfl hg lt3) (fun k hk => ?_) (((ChgS.of_below ((Below.refl _ _).alloc (Nat.le_refl _) _))).trans (ChgS.of_grown gr3 hob)) ⟨_, _, rfl⟩
  rcases hk with hk | hk | hk
  · exact .inl hk
  · exact .inr (.inl hk)
  · rcases hg with h' | h'
    · exact .inl (by rw [hk]; exact hob _ h')
    · exact .inr (.inr (by omega))
end Go.Proofs.Yteappjgdcbploaa
