/- Words: WordText of the program. -/
import Derived.Test.YtpplojbcjgiabaaL10S
import Derived.Laws.IdiomStrings
namespace Go.Proofs.Ytpplojbcjgiabaa
open Go.RowKit
set_option linter.unusedVariables false
set_option linter.unusedSimpArgs false

/-- The byte of a letter. -/
def uB (x : Int) : UInt8 := UInt8.ofNat (if 0 < x then 96 + x else 64 - x).toNat
def textU (x : List Int) : List UInt8 := x.map uB
def tWord (x : List Int) : ByteArray := if x = [] then ⟨#[49]⟩ else ⟨(textU x).toArray⟩
def cWordText (k : Int) (x : List Int) : Int := Num.codeW k [x]
def rWordText (k : Int) (x : List Int) : ByteArray := if Num.codeW k [x] = 0 then tWord x else ⟨#[]⟩
theorem uB_pos {x : Int} (h : 0 < x) (h6 : x ≤ 6) : ((uB x).toNat : Int) = 96 + x := by
  unfold uB
  rw [if_pos h, UInt8.toNat_ofNat']
  omega
theorem uB_neg {x : Int} (h : x < 0) (h6 : -6 ≤ x) : ((uB x).toNat : Int) = 64 - x := by
  unfold uB
  rw [if_neg (by omega), UInt8.toNat_ofNat']
  omega
theorem uB_bd {x : Int} (h0 : x ≠ 0) (h1 : -6 ≤ x) (h2 : x ≤ 6) : (uB x).toNat ≤ 127 := by
  rcases Int.lt_or_gt_of_ne h0 with h | h
  · have := uB_neg h h1; omega
  · have := uB_pos h h2; omega
theorem textU_take (x : List Int) (j : Nat) (h : j < x.length) : textU (x.take (j + 1)) = textU (x.take j) ++ [uB (x.getD j 0)] := by
  rw [Num.takeW_snoc x j h]; simp [textU]
theorem runeOf_any (x : Int) (w : World) (h0 : x ≠ 0) (h1 : -6 ≤ x) (h2 : x ≤ 6) : Calls Try.prog 38 #[.int .i64 x] w fun e w' => e = .returned (.int .i32 ((uB x).toNat : Int)) ∧ w = w' := by
  rcases Int.lt_or_gt_of_ne h0 with h | h
  · rw [uB_neg h h1]
    have w1 : IntKind.i64.wrap (-x) = -x := IntWalk.i64_in _ (by omega)
    have w2 : IntKind.i64.wrap (-x - 1) = -x - 1 := IntWalk.i64_in _ (by omega)
    have w3 : IntKind.i32.wrap (-x - 1) = -x - 1 := IntWalk.i32_in _ (by omega)
    have w4 : IntKind.i32.wrap (65 + (-x - 1)) = 64 - x := by rw [show 65 + (-x - 1) = 64 - x by omega]; exact IntWalk.i32_in _ (by omega)
    go_enter Try.func38, Try.ntmps38
    go_wp2
    go_ret
    exact ⟨rfl, rfl⟩
  · rw [uB_pos h h2]
    have h' : ¬ x < 0 := by omega
    have w2 : IntKind.i64.wrap (x - 1) = x - 1 := IntWalk.i64_in _ (by omega)
    have w3 : IntKind.i32.wrap (x - 1) = x - 1 := IntWalk.i32_in _ (by omega)
    have w4 : IntKind.i32.wrap (97 + (x - 1)) = 96 + x := by rw [show 97 + (x - 1) = 96 + x by omega]; exact IntWalk.i32_in _ (by omega)
    go_enter Try.func38, Try.ntmps38
    go_wp2
    go_ret
    exact ⟨rfl, rfl⟩
/-- A text and a code. -/
def RetS (s : ByteArray) (c : Int) (w : World) (e : Ending) (w' : World) : Prop := e = .returned (.tuple #[.string s, .int .i64 c]) ∧ Below w.heap.size w w'
set_option maxRecDepth 100000 in
set_option maxHeartbeats 2000000 in
theorem iWordText_any (k : Int) (v : Value) (x : List Int) (w : World) (h : spI.rd w v x) : Calls Try.prog 14 #[.int .i64 k, v] w (RetS (rWordText k x) (cWordText k x) w) := by
  obtain ⟨A, c, rfl, hm, hA⟩ := h
  have b0 : Below w.heap.size w (w.alloc (.cells #[.slice A x.length c] 24)) := by go_grown
  have HC := Lib.hid (codes_one k A c x w hA hm)
  by_cases hz : Num.codeW k [x] = 0
  · obtain ⟨hl, hs⟩ := word_bd hz
    have hk := (Num.codeW_zero hz).1
    have hw := (Num.codeW_zero hz).2 x (by simp)
    have HR : Hid (rWordText k x = tWord x ∧ cWordText k x = 0) := Lib.hid ⟨if_pos hz, hz⟩
    rw [hz] at HC
    have hA0 := Lib.hid (hA.below' b0)
    clear hz hA
    by_cases he : x = []
    · subst he
      have HT : Hid (tWord [] = ⟨#[49]⟩) := Lib.hid rfl
      go_enter Try.func14, Try.ntmps14
      go_wp2_with (fail)
      refine HC.out.mono ?_; rintro e w' ⟨rfl, rfl⟩
      go_wp2_with (fail)
      go_ret2
      rw [HR.out.1, HR.out.2, HT.out]
      exact ⟨rfl, b0⟩
    · have HT : Hid (tWord x = ⟨(textU x).toArray⟩) := Lib.hid (if_neg he)
      have hx0 : x.length ≠ 0 := fun h => he (List.eq_nil_of_length_eq_zero h)
      have T1 : ((x.length : Int) == 0) = false := by simp; exact he
      have HNE : Hid (textU x ≠ []) := Lib.hid (fun h => he (by simpa [textU] using h))
      clear he
      go_enter Try.func14, Try.ntmps14
      go_wp2_with (fail)
      refine HC.out.mono ?_; rintro e w' ⟨rfl, rfl⟩
      clear HC
      obtain ⟨W0, hW0⟩ : ∃ W0, w.alloc (.cells #[.slice A x.length c] 24) = W0 := ⟨_, rfl⟩
      rw [hW0] at b0 hA0 ⊢
      clear hW0
      have Z0 := b0.size
      have bA : Below W0.heap.size W0 (W0.alloc (.cells #[.pointer none, .slice none 0 0] 63)) := by go_grown
      have HB0 : Hid (Bld W0.heap.size (W0.alloc (.cells #[.pointer none, .slice none 0 0] 63)) W0.heap.size []) := Lib.hid ⟨Nat.le_refl _, .pointer none, .slice none 0 0, .inl rfl, Blk.new W0 [.pointer none, .slice none 0 0] 63, World.ownsRow_nil _ _ _ _, by simp [Value.ownBlock]⟩
      go_wp2_with (fail)
      go_loopw [22] (fun s wr => ∃ j : Nat, s = .int .i64 j ∧ j ≤ x.length ∧ Hid (Bld W0.heap.size wr W0.heap.size (textU (x.take j))) ∧ Below W0.heap.size W0 wr) (fun s _ => x.length - (intOf s).toNat)
      case atStart => exact ⟨0, rfl, by omega, HB0, bA⟩
      case round =>
        obtain ⟨j, rfl, hj, HB, bel⟩ := hrel
        clear HB0 bA
        have Z := bel.size
        by_cases hlt : j < x.length
        · obtain ⟨g, o, rfl, hg, hc⟩ := (hA0.out.below' bel) j hlt
          have j0 : (0 : Int) ≤ (j : Int) := by omega
          have j1 : (j : Int) < (x.length : Int) := by omega
          have HST := Lib.hid (textU_take x j hlt)
          have hxx := hs.at_ j hlt
          have hx0 : x.getD j 0 ≠ 0 := by
            have := (Num.isWB_iff.mp hw).2 _ (List.getElem_mem hlt)
            rw [List.getD_eq_getElem?_getD, List.getElem?_eq_getElem hlt]
            exact this.1
          have HRU := Lib.hid (fun W => runeOf_any (x.getD j 0) W hx0 hxx.1 hxx.2)
          have hu := uB_bd hx0 hxx.1 hxx.2
          have htl : (textU (x.take j)).length ≤ 64 := by unfold textU; rw [List.length_map, List.length_take]; omega
          have HWR := Lib.hid (writeRune_any W0.heap.size W0.heap.size (textU (x.take j)) (uB (x.getD j 0)) wr HB.out hu (by omega) Z)
          clear HB hx0 hxx htl
          generalize textU (x.take j) = out at *
          generalize uB (x.getD j 0) = u at *
          generalize x.getD j 0 = y at *
          go_wp2_with (fail)
          refine (HRU.out _).mono ?_; rintro e w' ⟨rfl, rfl⟩
          go_wp2_with (fail)
          refine HWR.out.mono ?_; rintro e w3 ⟨⟨k9, rfl⟩, hb3, bel3⟩
          have HB3 := Lib.hid hb3
          clear hb3
          go_wp2_with (fail)
          exact ⟨⟨j + 1, by go_num, by omega, by rw [HST.out]; exact HB3, bel.trans bel3⟩, by simp [intOf]; omega⟩
        · have hge : ¬ ((j : Int) < (x.length : Int)) := by omega
          obtain rfl : j = x.length := by omega
          rw [List.take_length] at HB
          have htl : (textU x).length ≤ 64 := by unfold textU; rw [List.length_map]; exact hl
          have HSG := Lib.hid (string_any W0.heap.size W0.heap.size (textU x) wr HB.out HNE.out (by omega))
          clear HB HNE htl
          generalize textU x = out at *
          go_wp2_with (fail)
          refine HSG.out.mono ?_; rintro e w3 ⟨rfl, bel3⟩
          go_wp2_with (fail)
          go_ret2
          rw [HR.out.1, HR.out.2, HT.out]
          exact ⟨rfl, bstep b0 Z0 (bel.trans bel3)⟩
  · have HR : Hid (rWordText k x = ⟨#[]⟩ ∧ cWordText k x = Num.codeW k [x]) := Lib.hid ⟨if_neg hz, rfl⟩
    have T1 : (Num.codeW k [x] != 0) = true := by simpa using hz
    clear hz hA
    generalize Num.codeW k [x] = cd at *
    go_enter Try.func14, Try.ntmps14
    go_wp2_with (fail)
    refine HC.out.mono ?_; rintro e w' ⟨rfl, rfl⟩
    go_wp2_with (fail)
    go_ret2
    rw [HR.out.1, HR.out.2]
    exact ⟨rfl, b0⟩

/-! ### The model -/
set_option maxRecDepth 100000 in
set_option maxHeartbeats 2000000 in
theorem sTextL_any (A : Option Addr) (c : Nat) (k : Int) (x : List Int) (w : World) (hA : RdI w A x) (hk : k ≤ 6) (hw : Num.isWB k x = true) :
    Calls Try.prog 41 #[.slice A x.length c] w fun e w' => e = .returned (.string (tWord x)) ∧ Below w.heap.size w w' := by
  obtain ⟨iT, hi, hz0, hz1, hz2⟩ := info_parts infoB
  have hl := (Num.isWB_iff.mp hw).1
  have hs := Num.isWB_small hk hw
  by_cases he : x = []
  · subst he
    have HT : Hid (tWord [] = ⟨#[49]⟩) := Lib.hid rfl
    go_enter Try.func41, Try.ntmps41
    go_wp2_with (fail)
    go_ret
    exact ⟨by rw [HT.out]; rfl, Below.refl _ _⟩
  · have HT : Hid (tWord x = ⟨(textU x).toArray⟩) := Lib.hid (if_neg he)
    have hx0 : x.length ≠ 0 := fun h => he (List.eq_nil_of_length_eq_zero h)
    have T1 : ((x.length : Int) == 0) = false := by simp; exact he
    have HA := Lib.hid hA
    clear he hA
    go_enter Try.func41, Try.ntmps41
    go_wp2_with (fail)
    go_loopw [3, 4] (fun s3 s4 wr => ∃ j : Nat, s4 = .int .i64 j ∧ j ≤ x.length ∧ Hid (wr.ownsRow w.heap.size 5 1 s3 (textU (x.take j)).length (Lib.byteCells (textU (x.take j)))) ∧ Below w.heap.size w wr) (fun _ s4 _ => x.length - (intOf s4).toNat)
    case atStart => exact ⟨0, rfl, by omega, Lib.hid (World.ownsRow_lit w #[] 0 (Nat.le_refl _) (by unfold maxLen; omega) rfl), by go_grown⟩
    case round =>
      obtain ⟨j, rfl, hj, HO, bel⟩ := hrel
      clear T1
      have Z := bel.size
      by_cases hlt : j < x.length
      · obtain ⟨g, o, rfl, hg, hc⟩ := (HA.out.below' bel) j hlt
        have j0 : (0 : Int) ≤ (j : Int) := by omega
        have j1 : (j : Int) < (x.length : Int) := by omega
        have HST := Lib.hid (textU_take x j hlt)
        have hxx := hs.at_ j hlt
        have hy0 : x.getD j 0 ≠ 0 := by
          have := (Num.isWB_iff.mp hw).2 _ (List.getElem_mem hlt)
          rw [List.getD_eq_getElem?_getD, List.getElem?_eq_getElem hlt]
          exact this.1
        have htl : (textU (x.take j)).length ≤ 64 := by unfold textU; rw [List.length_map, List.length_take]; omega
        generalize textU (x.take j) = out at *
        generalize x.getD j 0 = y at *
        obtain ⟨A3, c3, rfl, -⟩ := ownsRow_cap HO.out
        have HL : Hid (∀ (v1 : Value) (w1 : World) (b : Int), b = ((uB y).toNat : Int) → w1.ownsRow w.heap.size 5 1 v1 (out.length + 1) (Lib.byteCells out ++ [.int .u8 b]) → w1.ownsRow w.heap.size 5 1 v1 (out ++ [uB y]).length (Lib.byteCells (out ++ [uB y]))) := Lib.hid fun v1 w1 b hb h => by
          rw [hb] at h
          simpa [Lib.byteCells] using h
        rcases Int.lt_or_gt_of_ne hy0 with h | h
        · have hb := uB_neg h hxx.1
          have h' : ¬ 0 < y := by omega
          have w1 : IntKind.i64.wrap (65 - y) = 65 - y := IntWalk.i64_in _ (by omega)
          have w2 : IntKind.i64.wrap (65 - y - 1) = 64 - y := by rw [show 65 - y - 1 = 64 - y by omega]; exact IntWalk.i64_in _ (by omega)
          have w3 : IntKind.u8.wrap (64 - y) = 64 - y := IntWalk.u8_in _ (by omega)
          have HBB := Lib.hid hb
          clear hb hy0
          go_wp2_with (at_builtin; refine wpList_append_own_at _ rfl (.tmp 30) (.tmp 38) 22 rfl w.heap.size 5 iT (.int .u8 0) 1 1 Try.underlying22 hi hz0 hz1 hz2 rfl (by decide) _ _ _ rfl (HO.out.alloc _) ⟨_, 0, none⟩ 1 1 [.int .u8 (64 - y)] rfl rfl (cell_one_new _ _ _) (by simp [Value.oneCell']) (by unfold maxLen; omega) (by omega) (by simp only [World.size_alloc]; omega) ?_; intro v1 w1 hown1 hgrow1 _ hat1)
          have h9 := HL.out _ _ _ HBB.out.symm hown1
          exact ⟨⟨j + 1, by go_num, by omega, Lib.hid (by rw [HST.out]; exact h9), (bel.alloc Z _).grown hgrow1 (by simp only [World.size_alloc]; omega) (fun k hk => (World.ownsRow.lt HO.out k hk).1)⟩, by simp [intOf]; omega⟩
        · have hb := uB_pos h hxx.2
          have w1 : IntKind.i64.wrap (97 + y) = 97 + y := IntWalk.i64_in _ (by omega)
          have w2 : IntKind.i64.wrap (97 + y - 1) = 96 + y := by rw [show 97 + y - 1 = 96 + y by omega]; exact IntWalk.i64_in _ (by omega)
          have w3 : IntKind.u8.wrap (96 + y) = 96 + y := IntWalk.u8_in _ (by omega)
          have HBB := Lib.hid hb
          clear hb hy0
          go_wp2_with (at_builtin; refine wpList_append_own_at _ rfl (.tmp 20) (.tmp 28) 22 rfl w.heap.size 5 iT (.int .u8 0) 1 1 Try.underlying22 hi hz0 hz1 hz2 rfl (by decide) _ _ _ rfl (HO.out.alloc _) ⟨_, 0, none⟩ 1 1 [.int .u8 (96 + y)] rfl rfl (cell_one_new _ _ _) (by simp [Value.oneCell']) (by unfold maxLen; omega) (by omega) (by simp only [World.size_alloc]; omega) ?_; intro v1 w1 hown1 hgrow1 _ hat1)
          have h9 := HL.out _ _ _ HBB.out.symm hown1
          exact ⟨⟨j + 1, by go_num, by omega, Lib.hid (by rw [HST.out]; exact h9), (bel.alloc Z _).grown hgrow1 (by simp only [World.size_alloc]; omega) (fun k hk => (World.ownsRow.lt HO.out k hk).1)⟩, by simp [intOf]; omega⟩
      · have hge : ¬ ((j : Int) < (x.length : Int)) := by omega
        obtain rfl : j = x.length := by omega
        rw [List.take_length] at HO
        have htl : (textU x).length ≠ 0 := by unfold textU; rw [List.length_map]; exact hx0
        obtain ⟨g, cap, rfl⟩ : ∃ g cap, u3 = .slice (some ⟨g, 0, none⟩) (textU x).length cap := by
          rcases HO.out.2 with ⟨_, h0⟩ | ⟨g, cap, cur, hv, _⟩
          · exact absurd h0 htl
          · exact ⟨g, cap, hv⟩
        have hcv : ∀ W, W = wr → (convert 22 9 (.slice (some ⟨g, 0, none⟩) (textU x).length cap)).run Try.prog W = .ok (.string ⟨(textU x).toArray⟩) W := fun W e => by
          subst e
          refine run_convert_bytes_back W 22 9 5 ⟨g, 0, none⟩ cap (textU x) Try.underlying22 Try.underlying5 Try.underlying9 ?_
          intro j hj
          have := HO.out.cells (g := g) rfl j (.int .u8 ((textU x)[j].toNat : Int)) (by simp [Lib.byteCells, hj])
          exact this
        have HCV := hcv wr rfl
        clear hcv
        generalize textU x = out at *
        go_wp2_with (fail)
        go_ret
        exact ⟨by rw [HT.out]; rfl, bel⟩
end Go.Proofs.Ytpplojbcjgiabaa
