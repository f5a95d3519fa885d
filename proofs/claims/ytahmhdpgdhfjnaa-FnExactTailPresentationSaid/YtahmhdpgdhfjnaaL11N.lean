/- Presentations: the model's l07Trivial. -/
import Derived.Test.YtahmhdpgdhfjnaaL11M
import Derived.Test.YtahmhdpgdhfjnaaPBox
namespace Go.Proofs.Ytahmhdpgdhfjnaa
open Go.RowKit
set_option linter.unusedVariables false
set_option linter.unusedSimpArgs false

def Num.trivR (n i : Nat) : Nat → List (List Int)
  | 0 => []
  | k + 1 => Num.trivR n i k ++ [Num.unit7 n (i + 1 + k)]
def Num.trivJ (n : Nat) : Nat → List (List (List Int))
  | 0 => []
  | i + 1 => Num.trivJ n i ++ [Num.trivR n i (n - 1 - i)]
theorem Num.trivR_len (n i : Nat) : ∀ k, (Num.trivR n i k).length = k
  | 0 => rfl
  | k + 1 => by simp [Num.trivR, Num.trivR_len n i k]
theorem Num.trivJ_len (n : Nat) : ∀ k, (Num.trivJ n k).length = k
  | 0 => rfl
  | k + 1 => by simp [Num.trivJ, Num.trivJ_len n k]
/-- The presentation of trivial relations. -/
def trivP (O : List Int) : Pres := ⟨O, List.replicate O.length (List.replicate O.length 0), Num.trivJ O.length O.length⟩
set_option maxRecDepth 100000 in
set_option maxHeartbeats 4000000 in
theorem sTrivial_any (A : Option Addr) (c : Nat) (O : List Int) (w : World) (hO : RdI w A O) (hl : O.length ≤ 64) : Calls Try.prog 156 #[.slice A O.length c] w (Made spPres (trivP O) w) := by
  obtain ⟨iT, hiT, hz0, hz1, hz2⟩ := info_parts infoI
  have b0 : Below w.heap.size w (w.alloc (.cells #[.slice none 0 0, .slice none 0 0, .slice none 0 0] 28)) := by go_grown
  have BR0 := (Blk.new w [.slice none 0 0, .slice none 0 0, .slice none 0 0] 28)
  have HOW := Lib.hid (sOwnI_any A O.length c O (w.alloc (.cells #[.slice none 0 0, .slice none 0 0, .slice none 0 0] 28)) (hO.below' b0) rfl (by omega))
  clear hO
  generalize hn : O.length = n at *
  have HNL := Lib.hid hn
  clear hn
  go_enter Try.func156, Try.ntmps156
  go_wp2_with (fail)
  refine HOW.out.mono ?_; rintro e w1 ⟨u0, rfl, ow0, hb1⟩
  obtain ⟨A0, n0, c0, rfl, e0⟩ := ow0.formN
  have L1 := bstep b0 b0.size hb1
  have PB0 : PBox (w.heap.size + 1) (w1.alloc (.cells #[.slice A0 n0 c0, .slice none 0 0, .slice none 0 0] 28)) w1.heap.size O [] [] (.slice A0 n0 c0) (.slice none 0 0) (.slice none 0 0) (fun k => (Value.slice A0 n0 c0).ownBlock = some k) (fun _ => False) (fun _ => False) :=
    ⟨Blk.new w1 _ _, spI.own_alloc (spI_of ow0) _, spL_nil _ _ _ _, spL_nil _ _ _ _, fun k _ h => h, fun k _ h => h, fun k h => h.elim, fun k hk => by have := World.ownsRow.lt ow0 k hk; simp only [World.size_alloc] at this; exact ⟨this.1, by omega⟩, fun k h => h.elim, fun k h => h.elim, by have := hb1.size; simpa using this⟩
  have BR := (BR0.below hb1).alloc (.cells #[.slice A0 n0 c0, .slice none 0 0, .slice none 0 0] 28)
  have LA : Below w.heap.size w (w1.alloc (.cells #[.slice A0 n0 c0, .slice none 0 0, .slice none 0 0] 28)) := L1.alloc L1.size _
  have hb4 : w.heap.size < w1.heap.size := by have := hb1.size; simp at this; omega
  have HPB0 := Lib.hid PB0
  have HBR0 := Lib.hid BR
  have e0' : n0 = n := by rw [← HNL.out]; exact e0.symm
  clear PB0 BR L1 hb1 ow0 HOW BR0 e0
  generalize hB4 : w1.heap.size = b4 at *
  subst e0'
  go_wp2_with (fail)
  generalize hWA : w1.alloc (.cells #[.slice A0 n0 c0, .slice none 0 0, .slice none 0 0] 28) = wa at *
  clear hWA hB4
  go_loopw [5] (fun s5 wr => ∃ (i : Nat) (v1 v2 : Value) (S1 S2 : Nat → Prop), s5 = .int .i64 i ∧ i ≤ n0 ∧ Hid (PBox (w.heap.size + 1) wr b4 O (List.replicate i (List.replicate n0 0)) (Num.trivJ n0 i) (.slice A0 n0 c0) v1 v2 (fun k => (Value.slice A0 n0 c0).ownBlock = some k) S1 S2) ∧ Hid (Blk wr w.heap.size [.slice none 0 0, .slice none 0 0, .slice none 0 0] 28) ∧ Below w.heap.size w wr) (fun s5 _ => n0 - (intOf s5).toNat)
  case atStart => exact ⟨0, _, _, _, _, rfl, by omega, HPB0, HBR0, LA⟩
  case round =>
    obtain ⟨i, v1, v2, S1, S2, rfl, hi, PB, BR, bel⟩ := hrel
    clear HPB0 HBR0 LA
    have Z := bel.size
    by_cases hlt : i < n0
    · have i0 : (0 : Int) ≤ (i : Int) := by omega
      have i1 : (i : Int) < (n0 : Int) := by omega
      obtain ⟨-, ⟨A1, c1, e1⟩, A2, c2, e2⟩ := PB.out.forms
      rw [List.length_replicate] at e1
      rw [Num.trivJ_len] at e2
      subst e1 e2
      obtain ⟨bl, x0, x1, x2⟩ := PB.out.box.c3
      have fr := PB.out.box.free 1
      have HSW : Hid (List.replicate (i + 1) (List.replicate n0 (0 : Int)) = List.replicate i (List.replicate n0 0) ++ [List.replicate n0 0]) := Lib.hid List.replicate_succ'
      have hlw : (List.replicate i (List.replicate n0 (0 : Int))).length ≤ 1000000 := by rw [List.length_replicate]; omega
      have HSJ : Hid (Num.trivJ n0 (i + 1) = Num.trivJ n0 i ++ [Num.trivR n0 i (n0 - 1 - i)]) := Lib.hid rfl
      have hlj : (Num.trivJ n0 i).length ≤ 1000000 := by rw [Num.trivJ_len]; omega
      generalize List.replicate i (List.replicate n0 (0 : Int)) = ws at *
      generalize Num.trivJ n0 i = js at *
      have HO1 := Lib.hid PB.out.o1
      have HSB := Lib.hid PB.out.s1
      obtain ⟨w3, hrun3, own3, gr3⟩ := run_make_full (P := Try.prog) wr.drew wr.heap.size 24 2 iT (.int .i64 0) 1 Try.underlying24 hiT hz0 hz1 .i64 .i64 n0 (by rw [hz2]; omega) (by unfold maxLen; omega) (Nat.le_refl _)
      have o3 := madeZ own3
      have L3 : Below wr.heap.size wr w3 := (Below.refl _ _).drew.grown gr3 (Nat.le_refl _) (fun k hk => by simp at hk)
      have SM3 : w3.cell? ⟨b4, 1, none⟩ = some (.slice A1 i c1) := by rw [L3.cell bl]; exact x1
      have PB3 := PB.out.below L3
      have HPA := PB3.o1
      have HPC := spI_of o3
      have HPB : ∀ k, S1 k → ¬ ((Value.slice (some ⟨wr.heap.size, 0, none⟩) n0 n0).ownBlock = some k) := fun k h1 h2 => by have := spII.own_lt HO1.out h1; have := World.ownsRow.lt o3 k h2; omega
      have t3 : b4 < w3.heap.size := Nat.lt_of_lt_of_le bl L3.size
      have HPB3 := Lib.hid PB3
      have HO3 := Lib.hid o3
      have HL3 := Lib.hid L3
      clear own3 gr3 PB3
      go_wp2_with (fail)
      go_region_law (first
        | (refine step_push (s := spI) (nul := []) w3 rfl (.tmp 19) (.tmp 22) 25 24 rfl Try.underlying25 infoII S1 (fun k => (Value.slice (some ⟨wr.heap.size, 0, none⟩) n0 n0).ownBlock = some k) (.slice A1 i c1) (.slice (some ⟨wr.heap.size, 0, none⟩) n0 n0) ws (List.replicate n0 0) rfl rfl HPA HPC rfl HPB hlw ?_; intro v7 w7 S7 own7 hS7 ch7 fm7; obtain ⟨A7, c7, rfl⟩ := fm7; have SM7 : w7.cell? ⟨b4, 1, none⟩ = some (.slice A1 i c1) := (by have h9 := (HPB3.out.box.chg ch7 (fun hh => (HPB3.out.s1 _ hh).2 rfl)).cell 1 (by simp); exact h9); have SF7 : w7.frozen? ⟨b4, 1, none⟩ = false := (HPB3.out.box.chg ch7 (fun hh => (HPB3.out.s1 _ hh).2 rfl)).free 1))
      all_goals
        have CH8 : ChgS S1 wr w7 := (ChgS.of_below HL3.out).trans ch7
        have PB8 := PB.out.putW CH8 own7 (fun k hk => by
          rcases hS7 k hk with h | h | h
          · exact .inl h
          · exact .inr (World.ownsRow.lt HO3.out k h).1
          · exact .inr (by have := HL3.out.size; omega))
        have L8 := (bstepS bel Z (fun k hk => by have := PB.out.s1 k hk; omega) CH8).setCell (p := ⟨b4, 1, none⟩) (by simp; omega) (.slice A7 (ws.length + 1) c7)
        have BR8 := (BR.out.chg CH8 (fun hh => by have := PB.out.s1 _ hh; omega)).other (p := ⟨b4, 1, none⟩) (by simp; omega) (.slice A7 (ws.length + 1) c7)
        have HPB8 := Lib.hid PB8
        have HBR8 := Lib.hid BR8
        clear PB8 BR8 CH8 own7 ch7 hS7 SM7 SF7 PB BR HPB3 HO1 HSB HPA HPC HPB o3 L3 SM3 hrun3 HL3 HO3 bel x0 x1 x2 fr bl t3
        obtain ⟨W8, hW8⟩ : ∃ X, w7.setCell ⟨b4, 1, none⟩ (.slice A7 (ws.length + 1) c7) = X := ⟨_, rfl⟩
        rw [hW8] at HPB8 HBR8 L8
        have own9 : Hid (spII.own (W8.alloc (.cells #[] 24)) (fun k => k = W8.heap.size) (.slice (some ⟨W8.heap.size, 0, none⟩) 0 0) (Num.trivR n0 i 0)) := Lib.hid (spL_empty _ _ _ _)
        have B9 : Below W8.heap.size W8 (W8.alloc (.cells #[] 24)) := by go_grown
        have hw1 : IntKind.i64.wrap ((i : Int) + 1) = (i : Int) + 1 := IntWalk.i64_in _ (by omega)
        go_wp2_with (fail)
        clear hW8
        go_loopw [6, 7] (fun s6 s7 wr => ∃ (k : Nat) (S3 : Nat → Prop), s7 = .int .i64 ((i : Int) + 1 + (k : Int)) ∧ k ≤ n0 - 1 - i ∧ Hid (spII.own wr S3 s6 (Num.trivR n0 i k)) ∧ Hid (∀ k, S3 k → W8.heap.size ≤ k) ∧ Below W8.heap.size W8 wr) (fun _ s7 _ => n0 - (intOf s7).toNat)
        case atStart => exact ⟨0, _, by simp, by omega, own9, Lib.hid (fun k hk => by omega), B9⟩
        case round =>
          clear own9 B9
          obtain ⟨k, S3, rfl, hk, own, hS, be8⟩ := hrel
          by_cases hlk : k < n0 - 1 - i
          · have k1 : (i : Int) + 1 + (k : Int) < (n0 : Int) := by omega
            have k2 : IntKind.i64.wrap ((i : Int) + 1 + (k : Int) + 1) = (i : Int) + 1 + (k : Int) + 1 := IntWalk.i64_in _ (by omega)
            have HU := sUnit_any n0 (i + 1 + k) wr hl (by omega)
            rw [show ((i + 1 + k : Nat) : Int) = (i : Int) + 1 + (k : Int) by omega] at HU
            have HUH := Lib.hid HU
            have HSK : Hid (Num.trivR n0 i (k + 1) = Num.trivR n0 i k ++ [Num.unit7 n0 (i + 1 + k)]) := Lib.hid rfl
            have hlr : (Num.trivR n0 i k).length ≤ 1000000 := by rw [Num.trivR_len]; omega
            generalize Num.trivR n0 i k = rs at *
            generalize Num.unit7 n0 (i + 1 + k) = un at *
            clear HU
            go_wp2_with (fail)
            refine HUH.out.mono ?_; rintro e w5 ⟨u5, rfl, ow5, hb5⟩
            obtain ⟨A6, n6, c6, rfl, e6⟩ := ow5.formN
            have HPA := spII.own_below own.out hb5
            have HPB := apart_row own.out ow5
            have HPC := spI_of ow5
            have L5 := bstep be8 be8.size hb5
            go_wp2_with (first | (at_builtin; refine wpList_push (s := spI) (nul := []) w5 rfl _ _ 25 24 rfl Try.underlying25 infoII S3 (fun k => (Value.slice A6 n6 c6).ownBlock = some k) u6 (.slice A6 n6 c6) rs un rfl rfl HPA HPC rfl HPB hlr ?_; intro v9 w9 S9 own9 hS9 ch9 fm9))
            have HO9 : Hid (spII.own w9 S9 v9 (Num.trivR n0 i (k + 1))) := Lib.hid (by rw [HSK.out]; exact own9)
            have L9 := bstepS L5 L5.size hS.out ch9
            have HS9 : Hid (∀ k, S9 k → W8.heap.size ≤ k) := Lib.hid fun q hq => by
              rcases hS9 q hq with h | h | h
              · exact hS.out q h
              · have := ow5.base_le q h; have := be8.size; omega
              · have := L5.size; omega
            go_wp2_with (fail)
            exact ⟨⟨k + 1, S9, by first | (congr 1; omega) | (simp; omega), by omega, HO9, HS9, L9⟩, by simp [intOf]; omega⟩
          · have hge : ¬ ((i : Int) + 1 + (k : Int) < (n0 : Int)) := by omega
            obtain rfl : k = n0 - 1 - i := by omega
            have hwi : IntKind.i64.wrap ((i : Int) + 1) = (i : Int) + 1 := IntWalk.i64_in _ (by omega)
            have PB9 := HPB8.out.below be8
            have BR9 := HBR8.out.below be8
            have L9 := bstep L8 L8.size be8
            generalize Num.trivR n0 i (n0 - 1 - i) = row at *
            obtain ⟨A6, c6, e6, -⟩ := spII.own_rd own.out
            obtain ⟨n6, hn6⟩ : ∃ n6, row.length = n6 := ⟨_, rfl⟩
            rw [hn6] at e6
            subst e6
            clear hn6
            obtain ⟨bl, x0, x1, x2⟩ := PB9.box.c3
            have fr := PB9.box.free 2
            have HPB9 := Lib.hid PB9
            have HPA := PB9.o2
            have HPC := own.out
            have HPD : ∀ k, S2 k → ¬ S3 k := fun k h1 h2 => by have := spIII.own_lt HPB8.out.o2 h1; have := hS.out k h2; omega
            clear PB9 BR9
            go_wp2_with (first | (at_builtin; refine wpList_push (s := spII) (nul := []) wr rfl _ _ 26 25 rfl Try.underlying26 infoIII S2 S3 (.slice A2 i c2) (.slice A6 n6 c6) js row rfl rfl HPA HPC rfl HPD hlj ?_; intro v9 w9 S9 own9 hS9 ch9 fm9; obtain ⟨A9, c9, rfl⟩ := fm9; obtain ⟨SB9, SM90, SM91, SM9⟩ := (HPB9.out.box.chg ch9 (fun hh => (HPB9.out.s2 _ hh).2 rfl)).c3; have SF9 : w9.frozen? ⟨b4, 2, none⟩ = false := (HPB9.out.box.chg ch9 (fun hh => (HPB9.out.s2 _ hh).2 rfl)).free 2))
            have CH10 : ChgS S2 W8 w9 := (ChgS.of_below be8).trans ch9
            have PB10 := HPB8.out.putJ CH10 own9 (fun k hk => by
              rcases hS9 k hk with h | h | h
              · exact .inl h
              · exact .inr (hS.out k h)
              · exact .inr (by have := be8.size; omega))
            have L10 := (bstepS L8 L8.size (fun k hk => by have := HPB8.out.s2 k hk; omega) CH10).setCell (p := ⟨b4, 2, none⟩) (by simp; omega) (.slice A9 (js.length + 1) c9)
            have BR10 := (HBR8.out.chg CH10 (fun hh => by have := HPB8.out.s2 _ hh; omega)).other (p := ⟨b4, 2, none⟩) (by simp; omega) (.slice A9 (js.length + 1) c9)
            rw [← HSW.out, ← HSJ.out] at PB10
            have HPB10 := Lib.hid PB10
            have HBR10 := Lib.hid BR10
            clear PB10 BR10
            go_wp2_with (fail)
            exact ⟨⟨i + 1, _, _, _, _, by go_num, by omega, HPB10, HBR10, L10⟩, by simp [intOf]; omega⟩
    · have hge : ¬ ((i : Int) < (n0 : Int)) := by omega
      obtain rfl : i = n0 := by omega
      obtain ⟨-, ⟨A1, c1, e1⟩, A2, c2, e2⟩ := PB.out.forms
      rw [List.length_replicate] at e1
      rw [Num.trivJ_len] at e2
      subst e1 e2
      obtain ⟨bl, x0, x1, x2⟩ := PB.out.box.c3
      obtain ⟨br, r0, r1, r2⟩ := BR.out.c3
      obtain ⟨f0, f1, f2⟩ := BR.out.f3
      have ne1 : ¬ (w.heap.size = b4) := by omega
      have ne2 : ¬ (b4 = w.heap.size) := by omega
      have HPB := Lib.hid PB.out
      clear PB BR
      go_wp2_with (fail)
      refine bodyPost_ret (v := .agg #[.slice A0 i c0, .slice A1 i c1, .slice A2 i c2]) (by simp [results, Try.results156, go_sem, br, r0, r1, r2]) rfl ?_
      have ow := HPB.out.own
      have bs := HPB.out.base
      have nb : ¬ ((fun k => (Value.slice A0 i c0).ownBlock = some k ∨ S1 k ∨ S2 k) w.heap.size) := fun hh => by have := bs _ hh; omega
      refine ⟨_, _, rfl, ?_, fun k hk => by have := bs k hk; omega, ?_⟩
      · have e : trivP O = ⟨O, List.replicate i (List.replicate i 0), Num.trivJ i i⟩ := by unfold trivP; rw [HNL.out]
        rw [e]
        exact spPres.own_set (spPres.own_set (spPres.own_set ow (p := ⟨w.heap.size, 0, none⟩) nb _) (p := ⟨w.heap.size, 1, none⟩) nb _) (p := ⟨w.heap.size, 2, none⟩) nb _
      · exact ((bel.setCell (p := ⟨w.heap.size, 0, none⟩) (by simp) _).setCell (p := ⟨w.heap.size, 1, none⟩) (by simp) _).setCell (p := ⟨w.heap.size, 2, none⟩) (by simp) _
end Go.Proofs.Ytahmhdpgdhfjnaa
