/- Words: ParseWord of the program. -/
import Derived.Test.YtpplojbcjgiabaaL10D
import Derived.Test.YtpplojbcjgiabaaNumWt
import Derived.Lib.OthersKept
namespace Go.Proofs.Ytpplojbcjgiabaa
open Go.RowKit
set_option linter.unusedVariables false
set_option linter.unusedSimpArgs false

/-- The bytes of a text. -/
def bytesOf (s : ByteArray) : List Int := s.data.toList.map (fun u => (u.toNat : Int))
theorem bytesOf_len (s : ByteArray) : (bytesOf s).length = s.size := by
  unfold bytesOf
  rw [List.length_map, Array.length_toList]
  rfl
theorem bytesOf_at (s : ByteArray) (j : Nat) (h : j < s.size) : (bytesOf s).getD j 0 = ((s[j]'h).toNat : Int) := by
  have h' : j < s.data.size := h
  unfold bytesOf
  rw [List.getD_eq_getElem?_getD, List.getElem?_map, Array.getElem?_toList, Array.getElem?_eq_getElem h']
  rfl
theorem bytesOf_eq (s : ByteArray) : bytesOf s = s.toList.map (fun u => (u.toNat : Int)) := by rw [ByteArray.toList_eq]; rfl
theorem text_one (s : ByteArray) : (s.toList == [49]) = decide (bytesOf s = [49]) := by
  rw [bytesOf_eq, Bool.eq_iff_iff, beq_iff_eq, decide_eq_true_iff]
  constructor
  · intro h; rw [h]; rfl
  · intro h
    cases hl : s.toList with
    | nil => rw [hl] at h; cases h
    | cons u t =>
      rw [hl] at h
      simp only [List.map_cons, List.cons.injEq, List.map_eq_nil_iff] at h
      obtain ⟨h1, rfl⟩ := h
      have : u.toNat = (49 : UInt8).toNat := by have e : (49 : UInt8).toNat = 49 := rfl; omega
      rw [UInt8.toNat_inj.mp this]
theorem text_none (s : ByteArray) : s.toList.isEmpty = decide (bytesOf s = []) := by
  rw [bytesOf_eq, Bool.eq_iff_iff, decide_eq_true_iff, List.map_eq_nil_iff, List.isEmpty_iff]
theorem runeOf_six (w : World) : Calls Try.prog 38 #[.int .i64 6] w fun e w' => e = .returned (.int .i32 102) ∧ w = w' := by
  go_enter Try.func38, Try.ntmps38
  go_wp2
  go_ret
  exact ⟨rfl, rfl⟩
theorem runeOf_minus (w : World) : Calls Try.prog 38 #[.int .i64 (-6)] w fun e w' => e = .returned (.int .i32 70) ∧ w = w' := by
  go_enter Try.func38, Try.ntmps38
  go_wp2
  go_ret
  exact ⟨rfl, rfl⟩
set_option maxHeartbeats 1000000 in
theorem letterOf_any (r : Int) (w : World) (h0 : 0 ≤ r) (h1 : r ≤ 2147483647) : Calls Try.prog 43 #[.int .i32 r] w fun e w' => e = .returned (.int .i64 (Num.letB r)) ∧ w = w' := by
  by_cases a1 : 97 ≤ r
  · by_cases a2 : r ≤ 102
    · have T2 : decide (r ≤ 102) = true := decide_eq_true a2
      have w1 : IntKind.i32.wrap (r - 97) = r - 97 := IntWalk.i32_in _ (by omega)
      have w2 : IntKind.i64.wrap (r - 97) = r - 97 := IntWalk.i64_in _ (by omega)
      have w3 : IntKind.i64.wrap (r - 97 + 1) = r - 96 := by rw [show r - 97 + 1 = r - 96 by omega]; exact IntWalk.i64_in _ (by omega)
      rw [Num.letB_small ⟨a1, a2⟩]
      go_enter Try.func43, Try.ntmps43
      go_wp2_with (go_at_call 38; refine (runeOf_six _).mono ?_; rintro e w' ⟨rfl, rfl⟩)
      go_ret
      exact ⟨rfl, rfl⟩
    · have T2 : decide (r ≤ 102) = false := decide_eq_false a2
      have a3 : (65 : Int) ≤ r := by omega
      have T3 : decide (r ≤ 70) = false := decide_eq_false (by omega)
      rw [Num.letB_none (by omega) (by omega)]
      go_enter Try.func43, Try.ntmps43
      go_wp2_with (first | (go_at_call 38; (with_reducible refine (runeOf_six _).mono ?_); rintro e w' ⟨rfl, rfl⟩) | (go_at_call 38; (with_reducible refine (runeOf_minus _).mono ?_); rintro e w' ⟨rfl, rfl⟩))
      go_ret
      exact ⟨rfl, rfl⟩
  · by_cases a3 : 65 ≤ r
    · by_cases a4 : r ≤ 70
      · have T3 : decide (r ≤ 70) = true := decide_eq_true a4
        have w1 : IntKind.i32.wrap (r - 65) = r - 65 := IntWalk.i32_in _ (by omega)
        have w2 : IntKind.i64.wrap (r - 65) = r - 65 := IntWalk.i64_in _ (by omega)
        have w3 : IntKind.i64.wrap (-(r - 65)) = -(r - 65) := IntWalk.i64_in _ (by omega)
        have w4 : IntKind.i64.wrap (-(r - 65) - 1) = 64 - r := by rw [show -(r - 65) - 1 = 64 - r by omega]; exact IntWalk.i64_in _ (by omega)
        rw [Num.letB_large ⟨a3, a4⟩]
        go_enter Try.func43, Try.ntmps43
        go_wp2_with (go_at_call 38; refine (runeOf_minus _).mono ?_; rintro e w' ⟨rfl, rfl⟩)
        go_ret
        exact ⟨rfl, rfl⟩
      · have T3 : decide (r ≤ 70) = false := decide_eq_false a4
        rw [Num.letB_none (by omega) (by omega)]
        go_enter Try.func43, Try.ntmps43
        go_wp2_with (go_at_call 38; refine (runeOf_minus _).mono ?_; rintro e w' ⟨rfl, rfl⟩)
        go_ret
        exact ⟨rfl, rfl⟩
    · rw [Num.letB_none (by omega) (by omega)]
      go_enter Try.func43, Try.ntmps43
      go_wp2_with (fail)
      go_ret
      exact ⟨rfl, rfl⟩
theorem OwnI.iterAt {w : World} {base K pos pos' : Nat} {s : ByteArray} {v : Value} {xs : List Int} (h : OwnI w base v xs) (hk : w.heap[K]? = some (.stringIter s pos)) : OwnI (w.iterAt K s pos') base v xs ∧ v.ownBlock ≠ some K := by
  have hn : v.ownBlock ≠ some K := fun e => by
    rcases h.2 with ⟨h0, _⟩ | ⟨g, cap, cur, hv, hb, hg, _⟩
    · rw [h0] at e; cases e
    · rw [hv] at e
      simp only [Value.ownBlock, Option.some.injEq] at e
      subst e
      rw [hg] at hk
      cases hk
  exact ⟨ownsRow_keep h fun k e => Lib.iterAt_other w K k s pos' (fun e2 => hn (e2 ▸ e)), hn⟩
set_option maxRecDepth 100000 in
set_option maxHeartbeats 2000000 in
theorem iParse_text (k : Int) (s : ByteArray) (w : World) (hk : 0 ≤ k ∧ k ≤ 6) (h1 : ¬ bytesOf s = [49]) (h2 : ¬ bytesOf s = []) (hl : s.size ≤ 1048576) :
    Calls Try.prog 17 #[.int .i64 k, .string s] w (MadeC spI (tailR k (bytesOf s)) (tailC k (bytesOf s)) w) := by
  obtain ⟨iT, hi, hz0, hz1, hz2⟩ := info_parts infoI
  have T1 : (s.toList == [49]) = false := by rw [text_one]; exact decide_eq_false h1
  have T2 : s.toList.isEmpty = false := by rw [text_none]; exact decide_eq_false h2
  have hsz := bytesOf_len s
  clear h1 h2
  go_enter Try.func17, Try.ntmps17
  go_wp2_with (first | (go_at_call 28; refine (genCount_yes _ _ hk).mono ?_; rintro e w' ⟨rfl, rfl⟩))
  clear T1 T2
  go_loopw [6] (fun s6 wr => ∃ pos : Nat, pos ≤ s.size ∧ Hid (OwnI wr w.heap.size s6 (Num.lets ((bytesOf s).take pos))) ∧ Hid (∀ i, i < pos → Num.OkL k ((bytesOf s).getD i 0)) ∧ Hid (wr.heap[w.heap.size]? = some (.stringIter s pos)) ∧ Below w.heap.size w wr) (fun s6 wr => s.size - wr.iterPos w.heap.size)
  case atStart =>
    refine ⟨0, by omega, Lib.hid (World.ownsRow_nil _ _ _ _), Lib.hid (fun i hi => by omega), Lib.hid ?_, (Below.refl _ w).alloc (Nat.le_refl _) _⟩
    have := World.iter_heap w s 0
    simpa using this
  case round =>
    obtain ⟨pos, hpos, HO, HP, HIT, bel⟩ := hrel
    have hit := HIT.out
    have hsw : w.heap.size < wr.heap.size := (Array.getElem?_eq_some_iff.1 hit).1
    by_cases hp : pos < s.size
    · have hb := bytesOf_at s pos hp
      have hbb : (0 : Int) ≤ (bytesOf s).getD pos 0 ∧ (bytesOf s).getD pos 0 < 256 := by
        rw [hb]
        have := (s[pos]'hp).toNat_lt
        omega
      by_cases hok : Num.OkL k ((bytesOf s).getD pos 0)
      · have hasc : (s[pos]'hp).toNat < 128 := by have := Num.okL_ascii hok; rw [hb] at this; omega
        have hnx : ∀ ty, (Instr.next (.pointer (some ⟨w.heap.size, 0, none⟩)) true ty).run Try.prog wr = _ := fun ty => Lib.run_next_ascii_at wr w.heap.size s pos ty hit hp hasc
        rw [← hb] at hnx
        have HST := Lib.hid (Num.lets_take (bytesOf s) pos (by rw [hsz]; exact hp))
        have HP2 : Hid (∀ i, i < pos + 1 → Num.OkL k ((bytesOf s).getD i 0)) := Lib.hid fun i hi => by
          rcases Nat.lt_succ_iff_lt_or_eq.mp hi with h1 | rfl
          · exact HP.out i h1
          · exact hok
        obtain ⟨own2, hne⟩ := HO.out.iterAt (pos' := pos + 1) hit
        have hit2 := Lib.iterAt_heap wr w.heap.size s pos (pos + 1) hit
        have bel2 := Lib.below_iterAt bel (k := w.heap.size) (Nat.le_refl _) s (pos + 1)
        have hz2' : w.heap.size < (wr.iterAt w.heap.size s (pos + 1)).heap.size := by rw [Lib.iterAt_size]; exact hsw
        have HLT := Lib.hid (fun W => letterOf_any ((bytesOf s).getD pos 0) W hbb.1 (by omega))
        have HLY := Lib.hid (fun W => isLetter_yes k (Num.letB ((bytesOf s).getD pos 0)) W hk hok)
        have hol : (Num.lets ((bytesOf s).take pos)).length ≤ 1048576 := by unfold Num.lets; rw [List.length_map, List.length_take]; omega
        generalize Num.lets ((bytesOf s).take pos) = out at own2 HST hol
        generalize (bytesOf s).getD pos 0 = b at *
        generalize hW : wr.iterAt w.heap.size s (pos + 1) = W2 at *
        obtain ⟨A3, c3, rfl⟩ := own2.form
        have HIT2 := Lib.hid hit2
        clear HO HP hit2 hb hok hbb
        go_wp2_with (first | (go_at_call 43; refine (HLT.out _).mono ?_; rintro e w' ⟨rfl, rfl⟩) | (go_at_call 42; refine (HLY.out _).mono ?_; rintro e w' ⟨rfl, rfl⟩) | (at_builtin; refine wpList_append_own_at _ rfl (.tmp 31) (.tmp 33) 24 rfl w.heap.size 2 iT (.int .i64 0) 1 8 Try.underlying24 hi hz0 hz1 hz2 rfl (by decide) _ _ _ rfl (own2.alloc _) ⟨_, 0, none⟩ 1 1 [.int .i64 (Num.letB b)] rfl rfl (cell_one_new _ _ _) (by simp [Value.oneCell']) (by unfold maxLen; omega) (by omega) (by simp only [World.size_alloc]; omega) ?_; intro v1 w1 hown1 hgrow1 _ hat1))
        obtain ⟨p1, p2⟩ := push_post own2 bel2 hown1 hgrow1
        have hit3 : w1.heap[w.heap.size]? = some (.stringIter s (pos + 1)) := by
          rw [hgrow1.block w.heap.size (by simp; omega) (fun e => hne e.symm)]
          exact (((Below.refl W2.heap.size W2).alloc (Nat.le_refl _) _).block w.heap.size hz2').trans HIT2.out
        exact ⟨⟨pos + 1, by omega, Lib.hid (by rw [HST.out]; exact p1), HP2, Lib.hid hit3, p2⟩, by simp only [World.iterPos, hit3, hit]; omega⟩
      · have hnx : ∀ ty, (Instr.next (.pointer (some ⟨w.heap.size, 0, none⟩)) true ty).run Try.prog wr = _ := fun ty => Lib.run_next_any_at wr w.heap.size s pos ty hit hp
        have hnr : ¬ Num.OkL k ((Utf8.decode s pos).1 : Int) := by
          by_cases ha : (s[pos]'hp).toNat < 128
          · rw [decode_ascii s pos hp ha, ← hb]
            exact hok
          · intro h
            have h2 := (decode_high s pos hp (by omega)).1
            exact h.1 (Num.letB_high (by omega))
        have hd1 := decode_le s pos
        have bel2 := Lib.below_iterAt bel (k := w.heap.size) (Nat.le_refl _) s (pos + (Utf8.decode s pos).2)
        have hbad := Num.okT_bad (k := k) (L := bytesOf s) (by rw [hsz]; exact hp) hok
        have HR : Hid (tailC k (bytesOf s) = 6 ∧ tailR k (bytesOf s) = []) := Lib.hid (by
          unfold tailC tailR
          rw [hbad]
          exact ⟨rfl, rfl⟩)
        generalize wr.iterAt w.heap.size s (pos + (Utf8.decode s pos).2) = W2 at *
        generalize (Utf8.decode s pos).1 = r at *
        have HLT := Lib.hid (fun W => letterOf_any (r : Int) W (by omega) (by omega))
        have HLY := Lib.hid (fun W => isLetter_no k (Num.letB (r : Int)) W hk hnr)
        clear HO HP hb hok hbb hnr hbad
        go_wp2_with (first | (go_at_call 43; refine (HLT.out _).mono ?_; rintro e w' ⟨rfl, rfl⟩) | (go_at_call 42; refine (HLY.out _).mono ?_; rintro e w' ⟨rfl, rfl⟩))
        go_ret2
        rw [HR.out.1, HR.out.2]
        exact MadeC.nilW bel2
    · obtain rfl : pos = s.size := by omega
      have hnx : ∀ ty, (Instr.next (.pointer (some ⟨w.heap.size, 0, none⟩)) true ty).run Try.prog wr = _ := fun ty => Lib.run_next_end_at wr w.heap.size s s.size ty hit hp
      have hall := Num.okT_yes (k := k) (L := bytesOf s) (fun j hj => HP.out j (by omega))
      rw [List.take_of_length_le (by omega)] at HO
      have hol : (Num.lets (bytesOf s)).length = s.size := by unfold Num.lets; rw [List.length_map, hsz]
      by_cases h64 : 64 < s.size
      · have HR : Hid (tailC k (bytesOf s) = 3 ∧ tailR k (bytesOf s) = []) := Lib.hid (by
          unfold tailC tailR
          rw [if_pos hall, if_pos hall, if_pos (by omega), if_pos (by omega)]
          exact ⟨rfl, rfl⟩)
        have k1 : (64 : Int) < ((Num.lets (bytesOf s)).length : Int) := by omega
        clear hall hol
        generalize Num.lets (bytesOf s) = out at *
        obtain ⟨A3, c3, rfl⟩ := HO.out.form
        go_wp2_with (fail)
        go_ret2
        rw [HR.out.1, HR.out.2]
        exact MadeC.nilW bel
      · have HR : Hid (tailC k (bytesOf s) = 0 ∧ tailR k (bytesOf s) = Num.lets (bytesOf s)) := Lib.hid (by
          unfold tailC tailR
          rw [if_pos hall, if_pos hall, if_neg (by omega), if_neg (by omega)]
          exact ⟨rfl, rfl⟩)
        have k1 : ¬ (64 : Int) < ((Num.lets (bytesOf s)).length : Int) := by omega
        have k2 : (Num.lets (bytesOf s)).length ≤ 1000000000 := by omega
        clear hall hol
        generalize Num.lets (bytesOf s) = out at *
        obtain ⟨A3, c3, rfl⟩ := HO.out.form
        go_wp2_with (fail)
        go_ret2
        rw [HR.out.1, HR.out.2]
        exact MadeC.list HO.out k2 bel
set_option maxHeartbeats 1000000 in
theorem iParseWord_any (k : Int) (s : ByteArray) (w : World) (hl : s.size ≤ 1048576) : Calls Try.prog 17 #[.int .i64 k, .string s] w (MadeC spI (rParseWord k (bytesOf s)) (cParseWord k (bytesOf s)) w) := by
  by_cases hk : 0 ≤ k ∧ k ≤ 6
  · unfold rParseWord cParseWord
    rw [if_pos hk, if_pos hk]
    by_cases h1 : bytesOf s = [49]
    · rw [if_pos h1, if_pos h1]
      have T1 : (s.toList == [49]) = true := by rw [text_one]; exact decide_eq_true h1
      clear h1
      go_enter Try.func17, Try.ntmps17
      go_wp2_with (first | (go_at_call 28; refine (genCount_yes _ _ hk).mono ?_; rintro e w' ⟨rfl, rfl⟩))
      go_ret2
      exact MadeC.nilW (Below.refl _ _)
    · rw [if_neg h1, if_neg h1]
      by_cases h2 : bytesOf s = []
      · rw [if_pos h2, if_pos h2]
        have T1 : (s.toList == [49]) = false := by rw [text_one]; exact decide_eq_false h1
        have T2 : s.toList.isEmpty = true := by rw [text_none]; exact decide_eq_true h2
        clear h1 h2
        go_enter Try.func17, Try.ntmps17
        go_wp2_with (first | (go_at_call 28; refine (genCount_yes _ _ hk).mono ?_; rintro e w' ⟨rfl, rfl⟩))
        go_ret2
        exact MadeC.nilW (Below.refl _ _)
      · rw [if_neg h2, if_neg h2]
        exact iParse_text k s w hk h1 h2 hl
  · unfold rParseWord cParseWord
    rw [if_neg hk, if_neg hk]
    go_enter Try.func17, Try.ntmps17
    go_wp2_with (first | (go_at_call 28; refine (genCount_no _ _ hk).mono ?_; rintro e w' ⟨rfl, rfl⟩))
    go_ret2
    exact MadeC.nilW (Below.refl _ _)
end Go.Proofs.Ytpplojbcjgiabaa
